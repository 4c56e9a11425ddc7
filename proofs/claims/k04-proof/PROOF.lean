import PyProof.Rows.All
import Wide.All
import OpenK.AllK
import Wide.FinOn
import HandS.Comp
import HandS.Iter
import HandS.Dict
import HandS.Flow
import HandS.Rev
import HandS.Walk
import HandS.WordsList
import HandS.WordsDict
import HandS.IsInst
import HandS.Wide
import HandS.Codes
import HandS.Style
import KE.SortData
import HandS.Base
import HandS.Call
import HandS.List
import HandS.Words
import HandS.DictTup
import PyProof.RulesMatch
import HandS.Sort
import HandS.Text
import HandS.StrMore
import HandS.Exc
import HandS.ExcOwn
import HandS.ExcInit
import HandS.ExcField
import HandS.WordsExc
import HandS.HotCalls
import KE.KIsAll
import KE.KExcIs
import PyProof.Rows.TupIter
import HandS.ExcCtx
import HandS.GenBody
import HandS.GenYield
import HandS.GenCall
import HandS.GenList
import HandS.ForMost
import HandS.TryOnly
import HandS.Deep
import HandS.More
import HandS.ExcIs
import PySem.Challenge.RW_goalcolumn_k04_errors_of_running
set_option Elab.async false
set_option linter.all false
set_option maxRecDepth 100000
set_option maxHeartbeats 4000000
namespace Gc
open PySem PyProof.Rows L2
/-! ### heaps: all that stood but at two places -/
def Keep (a d : Addr) (H H' : Hp) : Prop := ∀ b o, b ≠ a → b ≠ d → H b = some o → H' b = some o
theorem Keep.refl {a d : Addr} (H : Hp) : Keep a d H H := fun _ _ _ _ h => h
theorem Keep.trans {a d : Addr} {H H1 H2 : Hp} (x : Keep a d H H1) (y : Keep a d H1 H2) : Keep a d H H2 := fun b o h1 h2 h => y b o h1 h2 (x b o h1 h2 h)
theorem Keep.of {a d : Addr} {H H' : Hp} (e : Same H H') : Keep a d H H' := fun b o _ _ h => e b o h
theorem same_upd {H H' : Hp} {p : Addr} {o : HO} (e : Same H H') (h : H' p = none) : Same H (upd H' p o) := fun b u hb => by
  rw [upd_ne (ne_of_none (e b u hb) h)]
  exact e b u hb
theorem Keep.upd1 {a d : Addr} {H H' : Hp} {o : HO} (e : Keep a d H H') : Keep a d H (upd H' a o) := fun b u h1 h2 h => by
  rw [upd_ne h1]
  exact e b u h1 h2 h
theorem Keep.upd2 {a d : Addr} {H H' : Hp} {o : HO} (e : Keep a d H H') : Keep a d H (upd H' d o) := fun b u h1 h2 h => by
  rw [upd_ne h2]
  exact e b u h1 h2 h
theorem Keep.new {a d p : Addr} {H H' : Hp} {o : HO} (e : Keep a d H H') (h : H' p = none) : Keep a d H (upd H' p o) := fun b u h1 h2 hb => by
  rw [upd_ne (ne_of_none (e b u h1 h2 hb) h)]
  exact e b u h1 h2 hb

theorem cpow {i j : Int} (h : (decide (0 ≤ j) && (decide (j ≤ 1000000) && decide (i.natAbs < 2 ^ 64))) = true) : CPow i j := by
  rw [Bool.and_eq_true, Bool.and_eq_true] at h
  exact ⟨of_decide_eq_true h.1, of_decide_eq_true h.2.1, of_decide_eq_true h.2.2⟩
theorem pow_small {x : Int} {a k b : Nat} (h : x.natAbs < 2 ^ a) (hb : a * k < b) : (x ^ k).natAbs < 2 ^ b := by
  rw [Int.natAbs_pow]
  have h1 : x.natAbs ^ k ≤ (2 ^ a) ^ k := Nat.pow_le_pow_left (Nat.le_of_lt h) k
  rw [← Nat.pow_mul] at h1
  exact Nat.lt_of_le_of_lt h1 (Nat.pow_lt_pow_right (by decide) hb)
theorem int_at {ns : List Int} {i : Nat} {y : V} (h : (ns.map V.int)[i]? = some y) : ∃ u, y = V.int u := by
  rw [List.getElem?_map] at h
  cases e : ns[i]? with
  | none =>
    rw [e] at h
    cases h
  | some u =>
    rw [e] at h
    exact ⟨u, (Option.some.inj h).symm⟩
theorem dp_ints {K : PySem.W.Frag} {H : Hp} : ∀ ns : List Int, DpAll K H (ns.map V.int) (ns.map PyData.int)
  | [] => .nil
  | x :: r => .cons (.int x) (dp_ints r)
/-- a def that is called by its name and lets nothing out -/
structure Cal (P : Program) (w : World) (K : PySem.W.Frag) (mg : Str → Option Value) (base : Heap) (k : Nat) (x : Str) (sp : Sp) : Prop where
  ex : ∃ (f : Addr) (fd : FuncData) (ps : List Str), FnOk P w K mg base CX0 k f fd ps sp ∧
    mg x = some (.ref f) ∧ PySem.W.keepIn K (.ref f) = true ∧ Binds K fd ps []
theorem pe_cal {X : Cx} {k j : Nat} {x : Str} {sp : Sp} {p pos : Pos} {e : Expr} {es : List Expr} {t : TA}
    (c : Cal X.prog X.w X.K X.mg X.base k x sp) (hr : Room j X.A) (hk : k ≤ j) (hg : Gl X x) (ha : PA X (e :: es) t)
    (hdb : (x == ("__debug__" : Str)) = false := by decide)
    (he : starEach (e :: es) X.env = (false, eval e X.env) :: starEach es X.env := by rfl)
    (hpl : (backTo pos (starEach es X.env)).any (·.1) = false := by rfl) :
    PE X (.Call (.Name x p) (e :: es) [] pos) (tCall sp [] E0 t) := by
  obtain ⟨f, fd, ps, F, hm, kp, b⟩ := c.ex
  exact pe_call F (hr.mono hk) hg hm kp b .nil pass0 ha hdb he hpl

/-! ### data carried along -/
theorem seq_t {K : PySem.W.Frag} {H H' : Hp} {a : Addr} {xs : List V} (e : Same H H') (h : SqT K H a xs) : SqT K H' a xs := by
  rcases h with (h | ⟨o, h⟩) | h
  · exact .inl (.inl (e _ _ h))
  · exact .inl (.inr ⟨o, e _ _ h⟩)
  · exact .inr h
mutual
theorem dp_same {K : PySem.W.Frag} {H H' : Hp} (e : Same H H') : ∀ (d : PyData) (v : V), Dp K H v d → Dp K H' v d
  | .none, _, h => by cases h; exact .non
  | .bool b, _, h => by cases h; exact .bl b
  | .int i, _, h => by cases h; exact .int i
  | .str x, _, h => by cases h; exact .str x
  | .list ds, _, h => by
    cases h with
    | lst q r => exact .lst (e.seq q) (dps_same e ds _ r)
  | .tuple ds, _, h => by
    cases h with
    | tup q r => exact .tup (seq_t e q) (dps_same e ds _ r)
  | .dict _, _, h => by cases h
theorem dps_same {K : PySem.W.Frag} {H H' : Hp} (e : Same H H') : ∀ (ds : List PyData) (vs : List V), DpAll K H vs ds → DpAll K H' vs ds
  | [], _, h => by cases h; exact .nil
  | d :: ds, _, h => by
    cases h with
    | cons a b => exact .cons (dp_same e d _ a) (dps_same e ds _ b)
end
theorem dps_len {K : PySem.W.Frag} {H : Hp} : ∀ {vs : List V} {ds : List PyData}, DpAll K H vs ds → vs.length = ds.length
  | [], _, h => by cases h; rfl
  | _ :: vs, _, h => by
    cases h with
    | cons a b => rw [List.length_cons, List.length_cons, dps_len b]
theorem dps_at {K : PySem.W.Frag} {H : Hp} : ∀ {vs : List V} {ds : List PyData} {i : Nat}, DpAll K H vs ds → i < ds.length → ∃ v d, vs[i]? = some v ∧ ds[i]? = some d ∧ Dp K H v d
  | _, _, 0, h, l => by
    cases h with
    | nil => exact absurd l (by decide)
    | cons a b => exact ⟨_, _, rfl, rfl, a⟩
  | _, _, i + 1, h, l => by
    cases h with
    | nil => exact absurd l (Nat.not_lt_zero _)
    | cons a b => exact dps_at (i := i) b (Nat.lt_of_succ_lt_succ l)
theorem depth_at : ∀ {ds : List PyData} {i : Nat} {d : PyData}, ds[i]? = some d → d.depth ≤ PyData.depthAll ds
  | [], i, d, h => by simp at h
  | x :: r, 0, d, h => by
    have e : x = d := Option.some.inj h
    subst e
    simp only [PyData.depthAll]
    exact Nat.le_max_left _ _
  | x :: r, i + 1, d, h => by
    have ih := depth_at (ds := r) (i := i) (d := d) h
    simp only [PyData.depthAll]
    exact Nat.le_trans ih (Nat.le_max_right _ _)
theorem ty_l {K : PySem.W.Frag} {H : Hp} {a : Addr} {xs : List V} (h : SqL K H a xs) : TyX K H (.ref a) (.type "list") := by
  rcases h with (h | ⟨o, h⟩) | h
  · exact .base (.lst h)
  · exact .base (.frz h)
  · obtain ⟨o, its, n, e, c, _⟩ := h
    exact .kList e c
theorem ty_t {K : PySem.W.Frag} {H : Hp} {a : Addr} {xs : List V} (h : SqT K H a xs) : TyX K H (.ref a) (.type "tuple") := by
  rcases h with (h | ⟨o, h⟩) | h
  · exact .base (.tup h)
  · exact .fTuple h
  · obtain ⟨o, its, n, e, c, _⟩ := h
    exact .kTuple e c
theorem isi_q {K : PySem.W.Frag} {H : Hp} {x : V} {t n : String} {b : Bool} {Q : VK} (ty : TyX K H x (.type t)) (k : kitB t n = some b) (q : Q (.bl b) H) : rIsi K [x, .ty n] H Q :=
  ⟨x, .ty n, .type t, .type n, b, rfl, .ty n, ty, kit_ty k, q⟩
theorem log9 {x : Int} {a : Nat} (h : x.natAbs < 2 ^ a) (ha : a < 9000) : x.natAbs.log2 < 9000 :=
  Nat.lt_of_le_of_lt (Nat.le_of_lt_succ (PySem.Flt.log2_lt_of (k := a + 1) (Nat.succ_pos _) (Nat.lt_trans h (Nat.pow_lt_pow_right (by decide) (Nat.lt_succ_self a))))) ha
/-- a power of any whole number, its size told -/
def CPowW (i j : Int) : Prop := 0 ≤ j ∧ j ≤ 64 ∧ i.natAbs.log2 < 100000
theorem op_powW {X : Cx} : OpR X (binaryOp .Pow) (rI CPowW fun i j => .int (i ^ j.toNat)) := opI fun i j _ _ _ _ _ hc q => by
  refine pow_int hc.1 ?_ q
  have h1 : Builtin.Int.intBits i ≤ i.natAbs.log2 + 1 := by
    unfold Builtin.Int.intBits
    split <;> omega
  have h2 := hc.2.1
  have h3 := hc.2.2
  have h4 : (Builtin.Int.intBits i : Int) ≤ 100000 := by omega
  calc (Builtin.Int.intBits i : Int) * j ≤ 100000 * 64 := Int.mul_le_mul h4 h2 hc.1 (by decide)
    _ ≤ 2 ^ 27 := by decide
theorem cpowW {i j : Int} {a : Nat} (hj : 0 ≤ j) (hj2 : j ≤ 64) (h : i.natAbs < 2 ^ a) (ha : a < 100000) : CPowW i j :=
  ⟨hj, hj2, Nat.lt_of_le_of_lt (Nat.le_of_lt_succ (PySem.Flt.log2_lt_of (k := a + 1) (Nat.succ_pos _) (Nat.lt_trans h (Nat.pow_lt_pow_right (by decide) (Nat.lt_succ_self a))))) ha⟩
def rLenQ (K : PySem.W.Frag) : List V → Hp → VK → Prop := fun xs H Q => ∃ p ys, xs = [.ref p] ∧ (SqL K H p ys ∨ SqT K H p ys) ∧ Q (.int ys.length) H
end Gc

/-! boxes of lists of commands: what the program reckons, over plain lists; and the laws of it -/
namespace Gc
inductive Cmd where
  | down (n : Int) | up (n : Int) | right (n : Int) | left (n : Int) | home | stop
  deriving DecidableEq
def Cmd.dv : Cmd → Int
  | .down n => n
  | .up n => -n
  | _ => 0
def Cmd.ok : Cmd → Prop
  | .down n => 1 ≤ n
  | .up n => 1 ≤ n
  | .right n => 1 ≤ n
  | .left n => 1 ≤ n
  | _ => True
def last (cs : List Cmd) : Int := (cs.map Cmd.dv).sum
abbrev Ps := List (Int × Int)
def leK (p q : Int × Int) : Bool := decide (p.1 < q.1 ∨ (p.1 = q.1 ∧ p.2 ≤ q.2))
def look (b : Ps) (k : Int) : Option Int := (b.find? fun q => q.1 = k).map (·.2)
def put (b : Ps) (k v : Int) : Ps := if b.any (fun q => q.1 = k) then b.map (fun q => if q.1 = k then (q.1, v) else q) else b ++ [(k, v)]
def mx (i j : Int) : Int := if j > i then j else i
def req (b : Ps) (o v : Int) : Ps := put b o (mx v ((look b o).getD v))
def go : List Cmd → Int → Int → Ps → Option (Option Int × Ps)
  | [], _, need, b => some (some need, b)
  | .home :: _, _, _, _ => none
  | .stop :: _, _, _, b => some (none, b)
  | .right n :: r, off, need, b => if need > n then go r off (need - n) (req b off need) else some (none, req b off need)
  | .left n :: r, off, need, b => go r off (need + n) (req b off (need + n))
  | .down n :: r, off, need, b => go r (off - n) need b
  | .up n :: r, off, need, b => go r (off + n) need b
def srt (x : Option Int × Ps) : Option Int × Ps := (x.1, x.2.mergeSort leK)
def boxM (cs : List Cmd) (goal : Int) : Option (Option Int × Ps) := (go cs.reverse (last cs) goal []).map srt

/-! ### association lists as functions -/
def val (b : Ps) (k : Int) : Int := (look b k).getD 0
def keys (b : Ps) : List Int := b.map (·.1)
structure Good (b : Ps) : Prop where
  nd : (keys b).Nodup
  pos : ∀ q ∈ b, 1 ≤ q.2
theorem good_nil : Good [] := ⟨List.nodup_nil, fun _ h => nomatch h⟩
theorem look_nil (k : Int) : look [] k = none := rfl
theorem look_cons (q : Int × Int) (b : Ps) (k : Int) : look (q :: b) k = if q.1 = k then some q.2 else look b k := by
  unfold look
  rw [List.find?_cons]
  by_cases h : q.1 = k
  · simp [h]
  · simp [h]
theorem look_none {b : Ps} {k : Int} : look b k = none ↔ k ∉ keys b := by
  induction b with
  | nil => simp [look, keys]
  | cons q b ih =>
    rw [look_cons]
    by_cases h : q.1 = k
    · rw [if_pos h]
      simp [keys, h]
    · rw [if_neg h, ih]
      simp only [keys, List.map_cons, List.mem_cons, not_or]
      exact ⟨fun x => ⟨fun e => h e.symm, x⟩, fun x => x.2⟩
theorem look_mem {b : Ps} {k v : Int} (h : look b k = some v) : (k, v) ∈ b := by
  induction b with
  | nil => cases h
  | cons q b ih =>
    rw [look_cons] at h
    by_cases e : q.1 = k
    · rw [if_pos e] at h
      have e2 := Option.some.inj h
      rw [← e, ← e2]
      exact List.mem_cons_self
    · rw [if_neg e] at h
      exact List.mem_cons_of_mem _ (ih h)
theorem mem_look {b : Ps} {q : Int × Int} (n : (keys b).Nodup) (h : q ∈ b) : look b q.1 = some q.2 := by
  induction b with
  | nil => cases h
  | cons p b ih =>
    have n' : p.1 ∉ keys b ∧ (keys b).Nodup := List.nodup_cons.mp n
    rw [look_cons]
    rcases List.mem_cons.mp h with e | h
    · rw [e, if_pos rfl]
    · have ne : p.1 ≠ q.1 := fun e => n'.1 (by rw [e]; exact List.mem_map.mpr ⟨q, h, rfl⟩)
      rw [if_neg ne]
      exact ih n'.2 h
theorem any_key (b : Ps) (k : Int) : b.any (fun q => q.1 = k) = true ↔ k ∈ keys b := by
  simp [keys, List.any_eq_true]
theorem look_put (b : Ps) (k v j : Int) : look (put b k v) j = if k = j then some v else look b j := by
  unfold put
  by_cases h : b.any (fun q => q.1 = k) = true
  · rw [if_pos h]
    induction b with
    | nil => simp at h
    | cons q b ih =>
      rw [List.map_cons, look_cons, look_cons]
      by_cases e : q.1 = k
      · rw [if_pos e]
        by_cases e2 : k = j
        · simp [e, e2]
        · simp only [e, e2, if_false]
          by_cases hb : b.any (fun q => q.1 = k) = true
          · rw [ih hb, if_neg e2]
          · have nm : ∀ p ∈ b, ¬ p.1 = k := fun p hp z => hb (List.any_eq_true.mpr ⟨p, hp, by simpa using z⟩)
            have em : b.map (fun q => if q.1 = k then (q.1, v) else q) = b := by
              conv => rhs; rw [← List.map_id b]
              exact List.map_congr_left fun p hp => by simp [nm p hp]
            rw [em]
      · rw [if_neg e]
        have hb : b.any (fun q => q.1 = k) = true := by
          rw [List.any_cons] at h
          simpa [e] using h
        by_cases e2 : q.1 = j
        · have e3 : ¬ k = j := fun z => e (e2.trans z.symm)
          simp [e2, e3]
        · simp only [e2, if_false]
          exact ih hb
  · rw [if_neg h]
    have nk : k ∉ keys b := fun z => h ((any_key b k).mpr z)
    clear h
    induction b with
    | nil =>
      show look [(k, v)] j = _
      rw [look_cons]
    | cons q b ih =>
      have n1 : ¬ q.1 = k := fun z => nk (by simp [keys, z])
      have n2 : k ∉ keys b := fun z => nk (List.mem_cons_of_mem _ z)
      rw [List.cons_append, look_cons, look_cons]
      by_cases e2 : q.1 = j
      · have e3 : ¬ k = j := fun z => n1 (e2.trans z.symm)
        simp [e2, e3]
      · simp only [e2, if_false]
        exact ih n2
theorem keys_put (b : Ps) (k v : Int) : keys (put b k v) = if k ∈ keys b then keys b else keys b ++ [k] := by
  unfold put
  by_cases h : b.any (fun q => q.1 = k) = true
  · rw [if_pos h, if_pos ((any_key b k).mp h)]
    unfold keys
    rw [List.map_map]
    refine List.map_congr_left fun p _ => ?_
    show (if p.1 = k then (p.1, v) else p).1 = p.1
    split <;> rfl
  · rw [if_neg h, if_neg fun z => h ((any_key b k).mpr z)]
    simp [keys]
theorem good_put {b : Ps} {k v : Int} (g : Good b) (hv : 1 ≤ v) : Good (put b k v) := by
  have nd : (keys (put b k v)).Nodup := by
    rw [keys_put]
    split
    · exact g.nd
    · rename_i h
      rw [List.nodup_append]
      exact ⟨g.nd, by simp, fun a ha c hc => by
        rw [List.mem_singleton.mp hc]
        intro z
        exact h (z ▸ ha)⟩
  refine ⟨nd, fun q hq => ?_⟩
  have e := mem_look nd hq
  rw [look_put] at e
  split at e
  · rw [← Option.some.inj e]
    exact hv
  · exact g.pos (q.1, q.2) (look_mem e)
theorem val_nonneg {b : Ps} (g : Good b) (k : Int) : 0 ≤ val b k := by
  unfold val
  cases e : look b k with
  | none => exact Int.le_refl 0
  | some v =>
    have := g.pos _ (look_mem e)
    show 0 ≤ v
    have h : 1 ≤ v := this
    omega
theorem val_put (b : Ps) (k v j : Int) : val (put b k v) j = if k = j then v else val b j := by
  unfold val
  rw [look_put]
  split <;> rfl
/-- require, on functions -/
def reqF (f : Int → Int) (o v : Int) : Int → Int := fun k => if o = k then max v (f k) else f k
theorem val_req {b : Ps} (g : Good b) {o v : Int} (hv : 1 ≤ v) : val (req b o v) = reqF (val b) o v := by
  funext k
  unfold req reqF
  rw [val_put]
  by_cases h : o = k
  · subst h
    rw [if_pos rfl, if_pos rfl]
    unfold val mx
    cases e : look b o with
    | none =>
      show (if v > v then v else v) = max v 0
      rw [if_neg (by omega)]
      omega
    | some x =>
      show (if x > v then x else v) = max v x
      split <;> omega
  · rw [if_neg h, if_neg h]
theorem good_req {b : Ps} (g : Good b) {o v : Int} (hv : 1 ≤ v) : Good (req b o v) := by
  refine good_put g ?_
  unfold mx
  split <;> omega

/-! ### the walk, on functions -/
def goF : List Cmd → Int → Int → (Int → Int) → Option (Option Int × (Int → Int))
  | [], _, need, f => some (some need, f)
  | .home :: _, _, _, _ => none
  | .stop :: _, _, _, f => some (none, f)
  | .right n :: r, off, need, f => if need > n then goF r off (need - n) (reqF f off need) else some (none, reqF f off need)
  | .left n :: r, off, need, f => goF r off (need + n) (reqF f off (need + n))
  | .down n :: r, off, need, f => goF r (off - n) need f
  | .up n :: r, off, need, f => goF r (off + n) need f
def AllOk (cs : List Cmd) : Prop := ∀ c ∈ cs, c.ok
theorem go_goF : ∀ {r : List Cmd} {off need : Int} {b : Ps}, AllOk r → Good b → 1 ≤ need →
    (go r off need b = none ∧ goF r off need (val b) = none) ∨ ∃ st b', go r off need b = some (st, b') ∧ Good b' ∧ goF r off need (val b) = some (st, val b') ∧ ∀ n, st = some n → 1 ≤ n
  | [], off, need, b, _, g, hn => .inr ⟨_, _, rfl, g, rfl, fun n e => by rw [← Option.some.inj e]; exact hn⟩
  | .home :: r, off, need, b, _, g, hn => .inl ⟨rfl, rfl⟩
  | .stop :: r, off, need, b, _, g, hn => .inr ⟨_, _, rfl, g, rfl, fun n e => nomatch e⟩
  | .right n :: r, off, need, b, hk, g, hn => by
    have hk' : AllOk r := fun c hc => hk c (List.mem_cons_of_mem _ hc)
    simp only [go, goF]
    by_cases h : need > n
    · rw [if_pos h, if_pos h, ← val_req g hn]
      exact go_goF hk' (good_req g hn) (by omega)
    · rw [if_neg h, if_neg h, ← val_req g hn]
      exact .inr ⟨_, _, rfl, good_req g hn, rfl, fun n e => nomatch e⟩
  | .left n :: r, off, need, b, hk, g, hn => by
    have hk' : AllOk r := fun c hc => hk c (List.mem_cons_of_mem _ hc)
    have h1 : 1 ≤ n := hk _ List.mem_cons_self
    simp only [go, goF]
    rw [← val_req g (by omega)]
    exact go_goF hk' (good_req g (by omega)) (by omega)
  | .down n :: r, off, need, b, hk, g, hn => go_goF (r := r) (fun c hc => hk c (List.mem_cons_of_mem _ hc)) g hn
  | .up n :: r, off, need, b, hk, g, hn => go_goF (r := r) (fun c hc => hk c (List.mem_cons_of_mem _ hc)) g hn

/-! ### ascending lists are told by their functions -/
def Asc (b : Ps) : Prop := b.Pairwise fun p q => p.1 < q.1
theorem asc_nd {b : Ps} (h : Asc b) : (keys b).Nodup := by
  unfold keys
  rw [List.nodup_iff_pairwise_ne, List.pairwise_map]
  exact h.imp fun h => Int.ne_of_lt h
theorem leK_trans (a b c : Int × Int) (h1 : leK a b = true) (h2 : leK b c = true) : leK a c = true := by
  unfold leK at *
  have a1 := of_decide_eq_true h1
  have a2 := of_decide_eq_true h2
  exact decide_eq_true (by omega)
theorem leK_total (a b : Int × Int) : (leK a b || leK b a) = true := by
  unfold leK
  by_cases h : a.1 < b.1 ∨ (a.1 = b.1 ∧ a.2 ≤ b.2)
  · rw [decide_eq_true h]
    rfl
  · rw [decide_eq_true (show b.1 < a.1 ∨ (b.1 = a.1 ∧ b.2 ≤ a.2) by omega), Bool.or_true]
theorem asc_sort {b : Ps} (g : Good b) : Asc (b.mergeSort leK) := by
  have p := List.pairwise_mergeSort (le := leK) leK_trans leK_total b
  have pm := List.mergeSort_perm b leK
  have nd : (keys (b.mergeSort leK)).Nodup := (pm.map (fun q : Int × Int => q.1)).nodup_iff.mpr g.nd
  unfold keys at nd
  rw [List.nodup_iff_pairwise_ne, List.pairwise_map] at nd
  refine (p.and nd).imp fun h => ?_
  have a := of_decide_eq_true h.1
  have c := h.2
  omega
theorem good_perm {b c : Ps} (g : Good b) (p : c.Perm b) : Good c := ⟨(p.map (fun q : Int × Int => q.1)).nodup_iff.mpr g.nd, fun q hq => g.pos q (p.mem_iff.mp hq)⟩
theorem look_perm {b c : Ps} (g : Good b) (p : c.Perm b) (k : Int) : look c k = look b k := by
  have g' := good_perm g p
  cases e : look b k with
  | none =>
    rw [look_none] at e ⊢
    exact fun z => e ((p.map (fun q : Int × Int => q.1)).mem_iff.mp z)
  | some v => exact mem_look g'.nd (p.mem_iff.mpr (look_mem e))
theorem val_perm {b c : Ps} (g : Good b) (p : c.Perm b) : val c = val b := by
  funext k
  unfold val
  rw [look_perm g p]
theorem look_val {b c : Ps} (gb : Good b) (gc : Good c) (h : val b = val c) (k : Int) : look b k = look c k := by
  have e := congrFun h k
  unfold val at e
  cases e1 : look b k with
  | none =>
    cases e2 : look c k with
    | none => rfl
    | some v =>
      rw [e1, e2] at e
      have : 1 ≤ v := gc.pos _ (look_mem e2)
      have e' : (0 : Int) = v := e
      omega
  | some u =>
    cases e2 : look c k with
    | none =>
      rw [e1, e2] at e
      have : 1 ≤ u := gb.pos _ (look_mem e1)
      have e' : u = (0 : Int) := e
      omega
    | some v =>
      rw [e1, e2] at e
      have e' : u = v := e
      rw [e']
theorem asc_ext : ∀ {b c : Ps}, Asc b → Asc c → (∀ k, look b k = look c k) → b = c
  | [], [], _, _, _ => rfl
  | [], q :: c, _, _, h => by
    have e := h q.1
    rw [look_cons, if_pos rfl] at e
    cases e
  | q :: b, [], _, _, h => by
    have e := h q.1
    rw [look_cons, if_pos rfl] at e
    cases e
  | p :: b, q :: c, hb, hc, h => by
    have hb' := List.pairwise_cons.mp hb
    have hc' := List.pairwise_cons.mp hc
    have e1 := h p.1
    rw [look_cons, if_pos rfl, look_cons] at e1
    have e2 := h q.1
    rw [look_cons, look_cons, if_pos rfl] at e2
    have key : p.1 = q.1 := by
      by_cases x : q.1 = p.1
      · exact x.symm
      · rw [if_neg x] at e1
        rw [if_neg fun z => x z.symm] at e2
        have m1 := hc'.1 _ (look_mem e1.symm)
        have m2 := hb'.1 _ (look_mem e2)
        have m1' : q.1 < p.1 := m1
        have m2' : p.1 < q.1 := m2
        omega
    rw [if_pos key.symm] at e1
    have hpq : p = q := Prod.ext key (Option.some.inj e1)
    subst hpq
    rw [asc_ext hb'.2 hc'.2 fun k => ?_]
    have e := h k
    rw [look_cons, look_cons] at e
    by_cases x : p.1 = k
    · have n1 : look b k = none := look_none.mpr fun z => by
        obtain ⟨r, hr, er⟩ := List.mem_map.mp z
        have := hb'.1 r hr
        omega
      have n2 : look c k = none := look_none.mpr fun z => by
        obtain ⟨r, hr, er⟩ := List.mem_map.mp z
        have := hc'.1 r hr
        omega
      rw [n1, n2]
    · rw [if_neg x, if_neg x] at e
      exact e
theorem sort_ext {b c : Ps} (gb : Good b) (gc : Good c) (h : val b = val c) : b.mergeSort leK = c.mergeSort leK :=
  asc_ext (asc_sort gb) (asc_sort gc) fun k => by
    rw [look_perm gb (List.mergeSort_perm b leK), look_perm gc (List.mergeSort_perm c leK)]
    exact look_val gb gc h k
end Gc

/-! laws of boxes: joined lists, greater goals, multiplied moves -/
namespace Gc
abbrev BF := Option (Option Int × (Int → Int))
def boxF (cs : List Cmd) (goal : Int) : BF := goF cs.reverse (last cs) goal fun _ => 0
theorem val_nil : val [] = fun _ => 0 := rfl
theorem allOk_rev {cs : List Cmd} (h : AllOk cs) : AllOk cs.reverse := fun c hc => h c (List.mem_reverse.mp hc)
theorem box_spec {cs : List Cmd} {goal : Int} (h : AllOk cs) (hg : 1 ≤ goal) :
    (boxM cs goal = none ∧ boxF cs goal = none) ∨ ∃ st b, boxM cs goal = some (st, b.mergeSort leK) ∧ Good b ∧ boxF cs goal = some (st, val b) ∧ ∀ n, st = some n → 1 ≤ n := by
  unfold boxM boxF
  rw [← val_nil]
  rcases go_goF (off := last cs) (allOk_rev h) good_nil hg with ⟨e1, e2⟩ | ⟨st, b, e1, g, e2, p⟩
  · exact .inl ⟨by rw [e1]; rfl, e2⟩
  · exact .inr ⟨st, b, by rw [e1]; rfl, g, e2, p⟩
def thenF (x : BF) (k : Int → (Int → Int) → BF) : BF := match x with
  | none => none
  | some (none, g) => some (none, g)
  | some (some n, g) => k n g
theorem goF_app : ∀ (a b : List Cmd) (off need : Int) (f : Int → Int), goF (a ++ b) off need f = thenF (goF a off need f) fun n g => goF b (off - (a.map Cmd.dv).sum) n g
  | [], b, off, need, f => by
    show goF b off need f = goF b (off - 0) need f
    rw [Int.sub_zero]
  | .home :: a, b, off, need, f => rfl
  | .stop :: a, b, off, need, f => rfl
  | .right n :: a, b, off, need, f => by
    have e : off - (((Cmd.right n :: a).map Cmd.dv).sum) = off - (a.map Cmd.dv).sum := by
      rw [List.map_cons, List.sum_cons]
      show off - (0 + _) = _
      omega
    rw [e, List.cons_append]
    simp only [goF]
    by_cases h : need > n
    · rw [if_pos h, if_pos h]
      exact goF_app a b off (need - n) _
    · rw [if_neg h, if_neg h]
      rfl
  | .left n :: a, b, off, need, f => by
    have e : off - (((Cmd.left n :: a).map Cmd.dv).sum) = off - (a.map Cmd.dv).sum := by
      rw [List.map_cons, List.sum_cons]
      show off - (0 + _) = _
      omega
    rw [e, List.cons_append]
    exact goF_app a b off (need + n) _
  | .down n :: a, b, off, need, f => by
    have e : off - (((Cmd.down n :: a).map Cmd.dv).sum) = off - n - (a.map Cmd.dv).sum := by
      rw [List.map_cons, List.sum_cons]
      show off - (n + _) = _
      omega
    rw [e, List.cons_append]
    exact goF_app a b (off - n) need f
  | .up n :: a, b, off, need, f => by
    have e : off - (((Cmd.up n :: a).map Cmd.dv).sum) = off + n - (a.map Cmd.dv).sum := by
      rw [List.map_cons, List.sum_cons]
      show off - (-n + _) = _
      omega
    rw [e, List.cons_append]
    exact goF_app a b (off + n) need f
theorem goF_shift (d : Int) : ∀ (r : List Cmd) (off need : Int) (f : Int → Int), goF r (off + d) need (fun k => f (k - d)) = (goF r off need f).map fun x => (x.1, fun k => x.2 (k - d))
  | [], off, need, f => rfl
  | .home :: r, off, need, f => rfl
  | .stop :: r, off, need, f => rfl
  | .right n :: r, off, need, f => by
    have e : reqF (fun k => f (k - d)) (off + d) need = fun k => reqF f off need (k - d) := by
      funext k
      unfold reqF
      by_cases h : off + d = k
      · rw [if_pos h, if_pos (by omega)]
      · rw [if_neg h, if_neg (by omega)]
    simp only [goF]
    rw [e]
    by_cases h : need > n
    · rw [if_pos h, if_pos h]
      exact goF_shift d r off (need - n) _
    · rw [if_neg h, if_neg h]
      rfl
  | .left n :: r, off, need, f => by
    have e : reqF (fun k => f (k - d)) (off + d) (need + n) = fun k => reqF f off (need + n) (k - d) := by
      funext k
      unfold reqF
      by_cases h : off + d = k
      · rw [if_pos h, if_pos (by omega)]
      · rw [if_neg h, if_neg (by omega)]
    simp only [goF]
    rw [e]
    exact goF_shift d r off (need + n) _
  | .down n :: r, off, need, f => by
    simp only [goF]
    rw [show off + d - n = off - n + d by omega]
    exact goF_shift d r (off - n) need f
  | .up n :: r, off, need, f => by
    simp only [goF]
    rw [show off + d + n = off + n + d by omega]
    exact goF_shift d r (off + n) need f
theorem goF_max (h : Int → Int) : ∀ (r : List Cmd) (off need : Int) (f : Int → Int), goF r off need (fun k => max (f k) (h k)) = (goF r off need f).map fun x => (x.1, fun k => max (x.2 k) (h k))
  | [], off, need, f => rfl
  | .home :: r, off, need, f => rfl
  | .stop :: r, off, need, f => rfl
  | .right n :: r, off, need, f => by
    have e : reqF (fun k => max (f k) (h k)) off need = fun k => max (reqF f off need k) (h k) := by
      funext k
      unfold reqF
      show (if _ then _ else _) = _
      by_cases q : off = k
      · simp only [q, if_true]
        rw [Int.max_assoc]
      · simp only [q, if_false]
    simp only [goF]
    rw [e]
    by_cases c : need > n
    · rw [if_pos c, if_pos c]
      exact goF_max h r off (need - n) _
    · rw [if_neg c, if_neg c]
      rfl
  | .left n :: r, off, need, f => by
    have e : reqF (fun k => max (f k) (h k)) off (need + n) = fun k => max (reqF f off (need + n) k) (h k) := by
      funext k
      unfold reqF
      show (if _ then _ else _) = _
      by_cases q : off = k
      · simp only [q, if_true]
        rw [Int.max_assoc]
      · simp only [q, if_false]
    simp only [goF]
    rw [e]
    exact goF_max h r off (need + n) _
  | .down n :: r, off, need, f => goF_max h r (off - n) need f
  | .up n :: r, off, need, f => goF_max h r (off + n) need f
theorem last_app (a b : List Cmd) : last (a ++ b) = last a + last b := by
  unfold last
  rw [List.map_append, List.sum_append]
theorem sum_rev (l : List Int) : l.reverse.sum = l.sum := by
  induction l with
  | nil => rfl
  | cons a l ih =>
    rw [List.reverse_cons, List.sum_append, ih, List.sum_cons]
    simp
    omega
theorem boxF_app (early late : List Cmd) (aim : Int) (pos : ∀ st g, boxF late aim = some (st, g) → ∀ k, 0 ≤ g k) :
    boxF (early ++ late) aim = match boxF late aim with
      | none => none
      | some (none, g) => some (none, fun k => g (k - last early))
      | some (some n, g) => (boxF early n).map fun x => (x.1, fun k => max (x.2 k) (g (k - last early))) := by
  unfold boxF
  rw [List.reverse_append, goF_app, last_app, Int.add_comm (last early)]
  have sh : goF late.reverse (last late + last early) aim (fun _ => 0) = (goF late.reverse (last late) aim fun _ => 0).map fun x => (x.1, fun k => x.2 (k - last early)) :=
    goF_shift (last early) late.reverse (last late) aim fun _ => 0
  rw [sh]
  have pos' := pos
  unfold boxF at pos'
  cases e : goF late.reverse (last late) aim (fun _ => 0) with
  | none => rfl
  | some x =>
    obtain ⟨st, g⟩ := x
    cases st with
    | none => rfl
    | some n =>
      show goF early.reverse (last late + last early - (late.reverse.map Cmd.dv).sum) n (fun k => g (k - last early)) = _
      have es : (late.reverse.map Cmd.dv).sum = last late := by
        rw [List.map_reverse, sum_rev]
        rfl
      rw [es, show last late + last early - last late = last early by omega]
      have em : (fun k => g (k - last early)) = fun k => max ((fun _ => 0 : Int → Int) k) (g (k - last early)) := by
        funext k
        have := pos' _ _ e (k - last early)
        show g (k - last early) = max 0 (g (k - last early))
        omega
      rw [em, goF_max]

/-! ### the law's own joining -/
def shiftK (d : Int) (b : Ps) : Ps := b.map fun q => (q.1 + d, q.2)
def addAll (b : Ps) (l : Ps) : Ps := l.foldl (fun b q => put b q.1 (mx q.2 ((look b q.1).getD 0))) b
def joinedM (early late : List Cmd) (gone aim : Int) : Option (Option Int × Ps) := match boxM late aim with
  | none => none
  | some (none, l) => some (none, (shiftK gone l).mergeSort leK)
  | some (some n, l) => match boxM early n with
    | none => none
    | some (st, m) => some (st, (addAll (shiftK gone l) m).mergeSort leK)
theorem look_shift (d : Int) : ∀ (b : Ps) (k : Int), look (shiftK d b) k = look b (k - d)
  | [], _ => rfl
  | q :: b, k => by
    show look ((q.1 + d, q.2) :: shiftK d b) k = _
    rw [look_cons, look_cons, look_shift d b]
    by_cases h : q.1 + d = k
    · rw [if_pos h, if_pos (by omega)]
    · rw [if_neg h, if_neg (by omega)]
theorem good_shift (d : Int) {b : Ps} (g : Good b) : Good (shiftK d b) := by
  refine ⟨?_, fun q hq => ?_⟩
  · have e : keys (shiftK d b) = (keys b).map (· + d) := by
      unfold keys shiftK
      rw [List.map_map, List.map_map]
      rfl
    rw [e, List.nodup_iff_pairwise_ne, List.pairwise_map]
    exact (List.nodup_iff_pairwise_ne.mp g.nd).imp fun h => by omega
  · obtain ⟨p, hp, rfl⟩ := List.mem_map.mp hq
    exact g.pos p hp
theorem val_shift (d : Int) (b : Ps) : val (shiftK d b) = fun k => val b (k - d) := by
  funext k
  unfold val
  rw [look_shift]
theorem val_cons (q : Int × Int) (b : Ps) (k : Int) : val (q :: b) k = if q.1 = k then q.2 else val b k := by
  unfold val
  rw [look_cons]
  split <;> rfl
theorem val_out {b : Ps} {k : Int} (h : k ∉ keys b) : val b k = 0 := by
  unfold val
  rw [look_none.mpr h]
  rfl
theorem addAll_good : ∀ {l b : Ps}, Good b → Good l → Good (addAll b l) ∧ ∀ k, val (addAll b l) k = max (val l k) (val b k)
  | [], b, gb, _ => ⟨gb, fun k => by
      have := val_nonneg gb k
      show val b k = max 0 (val b k)
      omega⟩
  | q :: l, b, gb, gl => by
    have nq : q.1 ∉ keys l ∧ (keys l).Nodup := List.nodup_cons.mp gl.nd
    have p1 : 1 ≤ q.2 := gl.pos q List.mem_cons_self
    have gl' : Good l := ⟨nq.2, fun p hp => gl.pos p (List.mem_cons_of_mem _ hp)⟩
    have hv : 1 ≤ mx q.2 ((look b q.1).getD 0) := by
      unfold mx
      split <;> omega
    obtain ⟨g, v⟩ := addAll_good (b := put b q.1 (mx q.2 ((look b q.1).getD 0))) (good_put gb hv) gl'
    refine ⟨g, fun k => ?_⟩
    show val (addAll (put b q.1 (mx q.2 ((look b q.1).getD 0))) l) k = _
    rw [v k, val_put, val_cons]
    by_cases h : q.1 = k
    · subst h
      rw [if_pos rfl, if_pos rfl, val_out nq.1]
      have : mx q.2 ((look b q.1).getD 0) = max q.2 (val b q.1) := by
        unfold mx val
        split <;> omega
      rw [this]
      omega
    · rw [if_neg h, if_neg h]
theorem joined (early late : List Cmd) {aim : Int} (he : AllOk early) (hl : AllOk late) (ha : 1 ≤ aim) : boxM (early ++ late) aim = joinedM early late (last early) aim := by
  have hw : AllOk (early ++ late) := fun c hc => (List.mem_append.mp hc).elim (he c) (hl c)
  have srtd : ∀ {b c : Ps}, Good b → Good c → val b = val c → b.mergeSort leK = c.mergeSort leK := fun gb gc h => sort_ext gb gc h
  rcases box_spec hl ha with ⟨e1, e2⟩ | ⟨st, b, e1, gb, e2, pb⟩
  · have f := boxF_app early late aim fun st g h => by rw [e2] at h; cases h
    rw [e2] at f
    rcases box_spec hw ha with ⟨w1, _⟩ | ⟨_, _, _, _, w2, _⟩
    · rw [w1]
      unfold joinedM
      rw [e1]
    · rw [w2] at f
      cases f
  · have f := boxF_app early late aim fun st g h => by
      rw [e2] at h
      cases h
      exact val_nonneg gb
    rw [e2] at f
    have gs : Good (b.mergeSort leK) := good_perm gb (List.mergeSort_perm b leK)
    have vs : val (b.mergeSort leK) = val b := val_perm gb (List.mergeSort_perm b leK)
    cases st with
    | none =>
      rcases box_spec hw ha with ⟨_, w2⟩ | ⟨st', c, w1, gc, w2, _⟩
      · rw [w2] at f
        cases f
      · rw [w2] at f
        have f' := Option.some.inj f
        have f1 : st' = none := congrArg Prod.fst f'
        have f2 : val c = fun k => val b (k - last early) := congrArg Prod.snd f'
        rw [w1, f1]
        unfold joinedM
        rw [e1]
        show some ((none : Option Int), c.mergeSort leK) = some (none, (shiftK (last early) (b.mergeSort leK)).mergeSort leK)
        rw [srtd gc (good_shift _ gs) (by rw [f2, val_shift, vs])]
    | some n =>
      have hn := pb n rfl
      rcases box_spec he hn with ⟨x1, x2⟩ | ⟨st2, m, x1, gm, x2, _⟩
      · have f' : boxF (early ++ late) aim = (boxF early n).map fun x => (x.1, fun k => max (x.2 k) (val b (k - last early))) := f
        rw [x2] at f'
        rcases box_spec hw ha with ⟨w1, _⟩ | ⟨_, _, _, _, w2, _⟩
        · rw [w1]
          unfold joinedM
          rw [e1]
          show none = match boxM early n with | none => none | some (st, m) => _
          rw [x1]
        · rw [w2] at f'
          cases f'
      · have f' : boxF (early ++ late) aim = (boxF early n).map fun x => (x.1, fun k => max (x.2 k) (val b (k - last early))) := f
        rw [x2] at f'
        rcases box_spec hw ha with ⟨_, w2⟩ | ⟨st', c, w1, gc, w2, _⟩
        · rw [w2] at f'
          cases f'
        · rw [w2] at f'
          have f3 := Option.some.inj f'
          have f1 : st' = st2 := congrArg Prod.fst f3
          have f2 : val c = fun k => max (val m k) (val b (k - last early)) := congrArg Prod.snd f3
          rw [w1, f1]
          unfold joinedM
          rw [e1]
          show some (st2, c.mergeSort leK) = match boxM early n with | none => none | some (st, m) => _
          rw [x1]
          show some (st2, c.mergeSort leK) = some (st2, (addAll (shiftK (last early) (b.mergeSort leK)) (m.mergeSort leK)).mergeSort leK)
          have gms : Good (m.mergeSort leK) := good_perm gm (List.mergeSort_perm m leK)
          obtain ⟨ga, va⟩ := addAll_good (good_shift (last early) gs) gms
          rw [srtd gc ga (by
            funext k
            rw [f2, va k, val_perm gm (List.mergeSort_perm m leK), val_shift, vs])]

/-! ### a greater goal -/
theorem reqF_mono {f g : Int → Int} {o v u : Int} (h : ∀ k, f k ≤ g k) (hv : v ≤ u) (k : Int) : reqF f o v k ≤ reqF g o u k := by
  have := h k
  unfold reqF
  split <;> omega
theorem reqF_ge (f : Int → Int) (o v k : Int) : f k ≤ reqF f o v k := by
  unfold reqF
  split <;> omega
theorem goF_ge : ∀ {r : List Cmd} {off need : Int} {f : Int → Int} {st : Option Int} {g : Int → Int}, goF r off need f = some (st, g) → ∀ k, f k ≤ g k
  | [], off, need, f, st, g, h, k => by cases h; exact Int.le_refl _
  | .home :: r, off, need, f, st, g, h, k => by cases h
  | .stop :: r, off, need, f, st, g, h, k => by cases h; exact Int.le_refl _
  | .right n :: r, off, need, f, st, g, h, k => by
    simp only [goF] at h
    by_cases c : need > n
    · rw [if_pos c] at h
      exact Int.le_trans (reqF_ge f off need k) (goF_ge h k)
    · rw [if_neg c] at h
      cases h
      exact reqF_ge f off need k
  | .left n :: r, off, need, f, st, g, h, k => Int.le_trans (reqF_ge f off (need + n) k) (goF_ge (r := r) h k)
  | .down n :: r, off, need, f, st, g, h, k => goF_ge (r := r) h k
  | .up n :: r, off, need, f, st, g, h, k => goF_ge (r := r) h k
def Less (x y : BF) : Prop := y = none ∨ ∃ st g st' g', x = some (st, g) ∧ y = some (st', g') ∧ (∀ n, st = some n → ∃ n', st' = some n' ∧ n ≤ n') ∧ ∀ k, g k ≤ g' k
theorem goF_mono : ∀ {r : List Cmd} {off need need' : Int} {f f' : Int → Int}, need ≤ need' → (∀ k, f k ≤ f' k) → Less (goF r off need f) (goF r off need' f')
  | [], off, need, need', f, f', h, hf => .inr ⟨_, _, _, _, rfl, rfl, fun n e => ⟨need', rfl, by rw [← Option.some.inj e]; exact h⟩, hf⟩
  | .home :: r, off, need, need', f, f', h, hf => .inl rfl
  | .stop :: r, off, need, need', f, f', h, hf => .inr ⟨_, _, _, _, rfl, rfl, (fun n e => nomatch e), hf⟩
  | .right n :: r, off, need, need', f, f', h, hf => by
    simp only [goF]
    have m := reqF_mono (o := off) hf h
    by_cases c : need > n
    · rw [if_pos c, if_pos (by omega)]
      exact goF_mono (by omega) m
    · rw [if_neg c]
      by_cases c' : need' > n
      · rw [if_pos c']
        cases e : goF r off (need' - n) (reqF f' off need') with
        | none => exact .inl rfl
        | some x => exact .inr ⟨_, _, x.1, x.2, rfl, rfl, (fun n e => nomatch e), fun k => Int.le_trans (m k) (goF_ge e k)⟩
      · rw [if_neg c']
        exact .inr ⟨_, _, _, _, rfl, rfl, (fun n e => nomatch e), m⟩
  | .left n :: r, off, need, need', f, f', h, hf => goF_mono (r := r) (by omega) (reqF_mono (o := off) hf (by omega))
  | .down n :: r, off, need, need', f, f', h, hf => goF_mono (r := r) h hf
  | .up n :: r, off, need, need', f, f', h, hf => goF_mono (r := r) h hf
theorem box_mono {cs : List Cmd} {aim more : Int} (h : AllOk cs) (ha : 1 ≤ aim) (hm : aim ≤ more) :
    boxM cs more = none ∨ ∃ st l st' l', boxM cs aim = some (st, l) ∧ boxM cs more = some (st', l') ∧ (∀ n, st = some n → ∃ n', st' = some n' ∧ n ≤ n') ∧ ∀ q ∈ l, q.2 ≤ val l' q.1 := by
  have m : Less (boxF cs aim) (boxF cs more) := goF_mono hm fun _ => Int.le_refl _
  rcases box_spec h (show 1 ≤ more by omega) with ⟨e1, _⟩ | ⟨st', b', e1, g', e2, _⟩
  · exact .inl e1
  · rcases m with m | ⟨st, g, st2, g2, m1, m2, m3, m4⟩
    · rw [e2] at m
      cases m
    · rw [e2] at m2
      cases m2
      rcases box_spec h ha with ⟨_, x2⟩ | ⟨st3, b, x1, gb, x2, _⟩
      · rw [x2] at m1
        cases m1
      · rw [x2] at m1
        cases m1
        refine .inr ⟨st, _, st', _, x1, e1, m3, fun q hq => ?_⟩
        have gs : Good (b.mergeSort leK) := good_perm gb (List.mergeSort_perm b leK)
        have v : val (b.mergeSort leK) q.1 = q.2 := by
          unfold val
          rw [mem_look gs.nd hq]
          rfl
        rw [val_perm gb (List.mergeSort_perm b leK)] at v
        rw [val_perm g' (List.mergeSort_perm b' leK), ← v]
        exact m4 q.1

/-! ### moves multiplied -/
def Cmd.mul (F : Int) : Cmd → Cmd
  | .down n => .down (n * F)
  | .up n => .up (n * F)
  | c => c
def mulK (F : Int) (b : Ps) : Ps := b.map fun q => (q.1 * F, q.2)
theorem mul_inj {F a b : Int} (hF : 1 ≤ F) : a * F = b * F ↔ a = b := ⟨fun h => Int.eq_of_mul_eq_mul_right (by omega) h, fun h => by rw [h]⟩
theorem look_mul {F : Int} (hF : 1 ≤ F) : ∀ (b : Ps) (k : Int), look (mulK F b) (k * F) = look b k
  | [], _ => rfl
  | q :: b, k => by
    show look ((q.1 * F, q.2) :: mulK F b) (k * F) = _
    rw [look_cons, look_cons, look_mul hF b]
    by_cases h : q.1 = k
    · rw [if_pos h, if_pos (by rw [h])]
    · rw [if_neg h, if_neg fun z => h ((mul_inj hF).mp z)]
theorem put_mul {F : Int} (hF : 1 ≤ F) (b : Ps) (k v : Int) : put (mulK F b) (k * F) v = mulK F (put b k v) := by
  unfold put
  have ea : (mulK F b).any (fun q => decide (q.1 = k * F)) = b.any (fun q => decide (q.1 = k)) := by
    unfold mulK
    rw [List.any_map]
    congr 1
    funext q
    show decide (q.1 * F = k * F) = decide (q.1 = k)
    exact decide_eq_decide.mpr (mul_inj hF)
  rw [ea]
  by_cases h : b.any (fun q => decide (q.1 = k)) = true
  · rw [if_pos h, if_pos h]
    unfold mulK
    rw [List.map_map, List.map_map]
    refine List.map_congr_left fun q _ => ?_
    show (if q.1 * F = k * F then (q.1 * F, v) else (q.1 * F, q.2)) = ((if q.1 = k then (q.1, v) else q).1 * F, (if q.1 = k then (q.1, v) else q).2)
    by_cases e : q.1 = k
    · rw [if_pos e, if_pos (by rw [e])]
    · rw [if_neg e, if_neg fun z => e ((mul_inj hF).mp z)]
  · rw [if_neg h, if_neg h]
    unfold mulK
    rw [List.map_append]
    rfl
theorem req_mul {F : Int} (hF : 1 ≤ F) (b : Ps) (o v : Int) : req (mulK F b) (o * F) v = mulK F (req b o v) := by
  unfold req
  rw [look_mul hF, put_mul hF]
theorem go_mul {F : Int} (hF : 1 ≤ F) : ∀ (r : List Cmd) (off need : Int) (b : Ps), go (r.map (Cmd.mul F)) (off * F) need (mulK F b) = (go r off need b).map fun x => (x.1, mulK F x.2)
  | [], off, need, b => rfl
  | .home :: r, off, need, b => rfl
  | .stop :: r, off, need, b => rfl
  | .right n :: r, off, need, b => by
    show (if need > n then go (r.map (Cmd.mul F)) (off * F) (need - n) (req (mulK F b) (off * F) need) else some (none, req (mulK F b) (off * F) need)) = (if need > n then go r off (need - n) (req b off need) else some (none, req b off need)).map _
    rw [req_mul hF]
    by_cases c : need > n
    · rw [if_pos c, if_pos c]
      exact go_mul hF r off (need - n) _
    · rw [if_neg c, if_neg c]
      rfl
  | .left n :: r, off, need, b => by
    show go (r.map (Cmd.mul F)) (off * F) (need + n) (req (mulK F b) (off * F) (need + n)) = _
    rw [req_mul hF]
    exact go_mul hF r off (need + n) _
  | .down n :: r, off, need, b => by
    show go (r.map (Cmd.mul F)) (off * F - n * F) need (mulK F b) = _
    rw [← Int.sub_mul]
    exact go_mul hF r (off - n) need b
  | .up n :: r, off, need, b => by
    show go (r.map (Cmd.mul F)) (off * F + n * F) need (mulK F b) = _
    rw [← Int.add_mul]
    exact go_mul hF r (off + n) need b
theorem last_mul (F : Int) : ∀ cs : List Cmd, last (cs.map (Cmd.mul F)) = last cs * F
  | [] => by show (0 : Int) = 0 * F; omega
  | c :: cs => by
    have e : ∀ (c : Cmd) (cs : List Cmd), last (c :: cs) = c.dv + last cs := fun _ _ => rfl
    have d : (c.mul F).dv = c.dv * F := by
      cases c with
      | up n =>
        show -(n * F) = -n * F
        rw [Int.neg_mul]
      | down n => rfl
      | right n => show (0 : Int) = 0 * F; omega
      | left n => show (0 : Int) = 0 * F; omega
      | home => show (0 : Int) = 0 * F; omega
      | stop => show (0 : Int) = 0 * F; omega
    rw [List.map_cons, e, e, last_mul F cs, d, Int.add_mul]
theorem good_mul {F : Int} (hF : 1 ≤ F) {b : Ps} (g : Good b) : Good (mulK F b) := by
  refine ⟨?_, fun q hq => ?_⟩
  · have e : keys (mulK F b) = (keys b).map (· * F) := by
      unfold keys mulK
      rw [List.map_map, List.map_map]
      rfl
    rw [e, List.nodup_iff_pairwise_ne, List.pairwise_map]
    exact (List.nodup_iff_pairwise_ne.mp g.nd).imp fun h z => h ((mul_inj hF).mp z)
  · obtain ⟨p, hp, rfl⟩ := List.mem_map.mp hq
    exact g.pos p hp
theorem asc_mul {F : Int} (hF : 1 ≤ F) {b : Ps} (h : Asc b) : Asc (mulK F b) := by
  unfold Asc mulK
  rw [List.pairwise_map]
  exact h.imp fun h => Int.mul_lt_mul_of_pos_right h (by omega)
theorem box_mul {F : Int} (hF : 1 ≤ F) {cs : List Cmd} {goal : Int} (h : AllOk cs) (hg : 1 ≤ goal) :
    boxM (cs.map (Cmd.mul F)) goal = (boxM cs goal).map fun x => (x.1, mulK F x.2) := by
  unfold boxM
  rw [last_mul, ← List.map_reverse]
  have e := go_mul hF cs.reverse (last cs) goal []
  have e' : go (cs.reverse.map (Cmd.mul F)) (last cs * F) goal [] = (go cs.reverse (last cs) goal []).map fun x => (x.1, mulK F x.2) := e
  rw [e']
  rcases go_goF (off := last cs) (allOk_rev h) good_nil hg with ⟨e1, _⟩ | ⟨st, b, e1, g, _, _⟩
  · rw [e1]
    rfl
  · rw [e1]
    show some (st, (mulK F b).mergeSort leK) = some (st, mulK F (b.mergeSort leK))
    have gm := good_mul hF g
    have key : (mulK F b).mergeSort leK = mulK F (b.mergeSort leK) := by
      have p : (mulK F (b.mergeSort leK)).Perm (mulK F b) := (List.mergeSort_perm b leK).map _
      refine asc_ext (asc_sort gm) (asc_mul hF (asc_sort g)) fun k => ?_
      rw [look_perm gm (List.mergeSort_perm _ leK), look_perm gm p]
    rw [key]
def Cmd.vert : Cmd → Bool
  | .down _ => true
  | .up _ => true
  | _ => false
theorem go_plain : ∀ (r : List Cmd) (off need : Int) (b : Ps), (∀ c ∈ r, c.vert = true) → go r off need b = some (some need, b)
  | [], _, _, _, _ => rfl
  | .down n :: r, off, need, b, h => go_plain r (off - n) need b fun c hc => h c (List.mem_cons_of_mem _ hc)
  | .up n :: r, off, need, b, h => go_plain r (off + n) need b fun c hc => h c (List.mem_cons_of_mem _ hc)
  | .right n :: r, _, _, _, h => nomatch h _ List.mem_cons_self
  | .left n :: r, _, _, _, h => nomatch h _ List.mem_cons_self
  | .home :: r, _, _, _, h => nomatch h _ List.mem_cons_self
  | .stop :: r, _, _, _, h => nomatch h _ List.mem_cons_self
theorem box_plain (cs : List Cmd) (goal : Int) (h : ∀ c ∈ cs, c.vert = true) : boxM cs goal = some (some goal, []) := by
  unfold boxM
  rw [go_plain cs.reverse (last cs) goal [] fun c hc => h c (List.mem_reverse.mp hc)]
  show some (some goal, ([] : Ps).mergeSort leK) = _
  rw [List.mergeSort_nil]
end Gc

/-! sorted(d.items()), d a dict of ints by ints -/
namespace Gc
open PySem PySem.Spec PyProof.Rows L2
/-- what such a dict holds -/
def dkI (ps : List (Int × Int)) : List (L2.Key × V) := ps.map fun q => (Sum.inl q.1, V.int q.2)
def encP (q : Int × Int) : PyData := .tuple [.int q.1, .int q.2]
def leP (p q : Int × Int) : Bool := decide (p.1 < q.1 ∨ (p.1 = q.1 ∧ p.2 ≤ q.2))
theorem dkI_at {ps : List (Int × Int)} {j : Nat} {kv : L2.Key × V} (h : (dkI ps)[j]? = some kv) : ∃ q, ps[j]? = some q ∧ kv = (Sum.inl q.1, V.int q.2) := by
  unfold dkI at h
  rw [List.getElem?_map] at h
  cases e : ps[j]? with
  | none =>
    rw [e] at h
    cases h
  | some q =>
    rw [e] at h
    exact ⟨q, rfl, (Option.some.inj h).symm⟩
theorem pairs_at {P : Program} {w : World} : ∀ {es : List DictEntry} {vs : List (L2.Key × Value)} {j : Nat} {e : DictEntry}, Pairs (mixKind P w) es vs → es[j]? = some e →
    ∃ kv, vs[j]? = some kv ∧ keyIs kv.1 e.key = true ∧ e.val = kv.2
  | _, _, 0, e, .cons h1 h2 _, h => by
    obtain rfl := Option.some.inj h
    exact ⟨_, rfl, h1, h2⟩
  | _, _, j + 1, e, .cons _ _ t, h => pairs_at (j := j) t h
theorem pairs_len {P : Program} {w : World} : ∀ {es : List DictEntry} {vs : List (L2.Key × Value)}, Pairs (mixKind P w) es vs → es.length = vs.length
  | _, _, .nil => rfl
  | _, _, .cons _ _ t => by
    rw [List.length_cons, List.length_cons, pairs_len t]
def rSortItI : V → Hp → VK → Prop := fun x H Q => ∃ (d : Addr) (ps : List (Int × Int)), x = .ref d ∧ H d = some (.dK (dkI ps)) ∧
  ∀ (H' : Hp) (l : Addr) (ts : List Addr), Same H H' → H l = none → H' l = some (.lst (ts.map V.ref)) →
    Paired (fun (t : Addr) (q : Int × Int) => H' t = some (.tup [.int q.1, .int q.2])) ts (ps.mergeSort leP) → Q (.ref l) H'
theorem each_paired {R : Value → Int × Int → Prop} {F : Addr → Int × Int → Prop} (hR : ∀ v q, R v q → ∃ t, v = .ref t ∧ F t q) : ∀ {vs : List Value} {qs : List (Int × Int)}, PySem.W.EachIs R vs qs →
    ∃ ts : List Addr, vs = ts.map Value.ref ∧ Paired F ts qs
  | _, _, .nil => ⟨[], rfl, .nil⟩
  | _, _, .cons h t => by
    obtain ⟨t0, e0, f0⟩ := hR _ _ h
    obtain ⟨ts, e1, f1⟩ := each_paired hR t
    exact ⟨t0 :: ts, by rw [e0, e1]; rfl, .cons f0 f1⟩
theorem vals_refs : ∀ as : List Addr, Vals (as.map V.ref) (as.map Value.ref)
  | [] => .nil
  | _ :: as => .cons rfl (vals_refs as)
section
variable {X : Cx}
theorem sort_items_run {pins : List (Addr × Obj)} {σ : L2.St} {H : Hp} {s : Shared} {Q : VK} {p d : Addr} {ps : List (Int × Int)} (I : Inv X pins σ H s) (hh : X.A.handled = none)
    (hu : X.A.units + 64 < cLine) (hd : H d = some (.dK (dkI ps))) (view : s.heap.IsItemsView p d)
    (q : ∀ (H' : Hp) (l : Addr) (ts : List Addr), Same H H' → H l = none → H' l = some (.lst (ts.map V.ref)) →
      Paired (fun (t : Addr) (q : Int × Int) => H' t = some (.tup [.int q.1, .int q.2])) ts (ps.mergeSort leP) → Q (.ref l) H') :
    wpAny (model X.prog X.w) X.A (call (.builtin "sorted") [.ref p]) (EP X pins σ Q) X.xe s := by
  obtain ⟨hz, hs0, vs, kv, o, es, ep, ho, hx, hdat, hko, hpr, hnd⟩ := (show ObjOk X.prog X.w H s.heap d (.dK (dkI ps)) from I.hok d _ hd)
  have l1 : (dkI ps).length = vs.length := Paired.length kv
  have l2 : es.toList.length = vs.length := pairs_len hpr
  have l3 : (dkI ps).length = ps.length := List.length_map ..
  have l4 : es.toList.length = es.size := by simp
  have ent : ∀ (j : Nat) (e : DictEntry), es[j]? = some e → ∃ (q : Int × Int) (t1 t2 : Tok), ps[j]? = some q ∧ e.key = .int q.1 t1 ∧ e.val = .int q.2 t2 := by
    intro j e he
    obtain ⟨kv', e1, e2, e3⟩ := pairs_at hpr (show es.toList[j]? = some e by simpa using he)
    obtain ⟨y, f1, f2, f3⟩ := L2.DX.pget kv e1
    obtain ⟨q, g1, rfl⟩ := dkI_at f1
    have f2' : Sum.inl q.1 = kv'.1 := f2
    rw [← f2'] at e2
    obtain ⟨t1, k1⟩ := Value.isInt_shape (k := q.1) (v := e.key) e2
    obtain ⟨t2, k2⟩ : ∃ t, kv'.2 = Value.int q.2 t := f3
    exact ⟨q, t1, t2, g1, k1, e3.trans k2⟩
  refine DT.sortedI (es := es) (ep := ep) hh view ⟨o, ho, hx, hdat⟩ (by omega) fun h' tk as hk hlt hl hG => ?_
  have nd : as.Nodup := List.Pairwise.imp (fun h => Nat.ne_of_lt h) hG.rise
  have lap : as.length = ps.length := by omega
  have pr : ∀ (j : Nat) (b : Addr), as[j]? = some b → ∃ (q : Int × Int) (t1 t2 : Tok), ps[j]? = some q ∧
      h'.get? b = some { cls := .type "tuple", data := .seq #[Value.int q.1 t1, Value.int q.2 t2] } := by
    intro j b hj
    obtain ⟨e, he, hg⟩ := hG.pairs j b hj
    obtain ⟨q, t1, t2, e1, e2, e3⟩ := ent j e he
    rw [e2, e3] at hg
    exact ⟨q, t1, t2, e1, hg⟩
  have hob : (h'.push { cls := .type "list", data := .seq (as.map Value.ref).toArray }).get? h'.objs.size = some (seqObj "list" (as.map Value.ref).toArray 0) := Heap.get?_push_size _ rfl
  have ne0 : ∀ b o, h'.get? b = some o → b ≠ h'.objs.size := fun b o e => Nat.ne_of_lt (Heap.lt_size e)
  have ka : ∀ b o, h'.get? b = some o → (h'.push { cls := .type "list", data := .seq (as.map Value.ref).toArray }).get? b = some o := fun b o e => Heap.get?_push_of_some _ e
  generalize hh2 : h'.push { cls := .type "list", data := .seq (as.map Value.ref).toArray } = h2 at hob ka ⊢
  have kb : ∀ b o, s.heap.get? b = some o → h2.get? b = some o := fun b o e => ka b o (hk b o e)
  have zipR : ∀ z, z ∈ (as.map Value.ref).zip ps → ∃ (j : Nat) (t : Addr), z.1 = Value.ref t ∧ as[j]? = some t ∧ ps[j]? = some z.2 := by
    intro z hz'
    obtain ⟨j, hj⟩ := List.mem_iff_getElem?.mp hz'
    obtain ⟨j1, j2⟩ := List.getElem?_zip_eq_some.mp hj
    rw [List.getElem?_map] at j1
    cases e : as[j]? with
    | none =>
      rw [e] at j1
      cases j1
    | some t =>
      rw [e] at j1
      exact ⟨j, t, (Option.some.inj j1).symm, e, j2⟩
  have eR : PySem.W.EachIs (fun v (q : Int × Int) => ∃ (j : Nat) (t : Addr), v = Value.ref t ∧ as[j]? = some t ∧ ps[j]? = some q) (as.map Value.ref) ps :=
    PySem.W.EachIs.of_zip (by rw [List.length_map]; exact lap) zipR
  have er : PySem.W.EachIs (fun v (q : Int × Int) => ∃ bs, Reads h2 v (encP q) bs ∧ h'.objs.size ∉ bs) (as.map Value.ref) ps := by
    refine eR.mono fun v q h => ?_
    obtain ⟨j, t, rfl, e1, e2⟩ := h
    obtain ⟨q', t1, t2, g1, g2⟩ := pr j t e1
    obtain rfl : q' = q := Option.some.inj (g1.symm.trans e2)
    exact ⟨_, .tuple (ka _ _ g2) rfl rfl (.cons (.int _ _) (.cons (.int _ _) .nil)), by simp⟩
  refine PySem.W.list_sort_data (s := { s with heap := h2, toks := tk }) (A := X.A.in1) (enc := encP) (bs := ps) (vs := as.map Value.ref) hob eR er
    (PySem.W.AllAlike.of fun b b' => by simp [encP, PySem.W.alike, PySem.W.alikeAll]) (PySem.W.Sortable.tuples fun b => ⟨_, _, rfl⟩) (by omega)
    (fun b _ => by show X.A.units + 1 + 1 + 1 < cLine; omega) fun out ol oe => ?_
  have le_eq : PySem.W.dataLe false encP = leP := PySem.W.dataLe_ii (fun q : Int × Int => q.1) (fun q => q.2)
  rw [le_eq] at oe
  show EP X pins σ Q (.ref h'.objs.size) { s with heap := sortedHeap h2 h'.objs.size (as.map Value.ref) out.toArray, toks := tk }
  obtain ⟨ts, rfl, tp⟩ := each_paired (F := fun t q => ∃ j : Nat, as[j]? = some t ∧ ps[j]? = some q) (fun v q h => by
    obtain ⟨j, t, e1, e2, e3⟩ := h
    exact ⟨t, e1, j, e2, e3⟩) oe
  have kF : ∀ b o, b ≠ h'.objs.size → h2.get? b = some o → (sortedHeap h2 h'.objs.size (as.map Value.ref) (ts.map Value.ref).toArray).get? b = some o :=
    fun b o hb e => (PyProof.Rows.sortedHeap_old hb (Heap.lt_size e)).trans e
  have kS : ∀ b o, s.heap.get? b = some o → (sortedHeap h2 h'.objs.size (as.map Value.ref) (ts.map Value.ref).toArray).get? b = some o :=
    fun b o e => kF b o (ne0 _ _ (hk b o e)) (kb b o e)
  obtain ⟨eF, heF⟩ := PyProof.Rows.sortedHeap_at (vs := as.map Value.ref) (out := (ts.map Value.ref).toArray) hob
  generalize sortedHeap h2 h'.objs.size (as.map Value.ref) (ts.map Value.ref).toArray = hF at kF kS heF ⊢
  have I1 : Inv X pins σ H { s with heap := hF, toks := tk } := I.kept (t' := tk) kS
  have hn0 : H h'.objs.size = none := I.hok.fresh (Nat.le_of_lt hlt)
  have tl : ts.length = ps.length := by
    rw [← ol, List.length_map]
  have I2 : Inv X pins σ (upd H h'.objs.size (.lst (ts.map V.ref))) { s with heap := hF, toks := tk } :=
    I1.take (h' := hF) (t' := tk) (fun b ob _ e => e) (I.fpOk (Nat.le_of_lt hlt) hn0) ⟨by rw [List.length_map]; omega, ts.map Value.ref, eF, vals_refs ts, heF⟩
  obtain ⟨H2, I3, g, qt⟩ := L2.DX.takeT (P := fun b vs => ∃ (j : Nat) (q : Int × Int), as[j]? = some b ∧ ps[j]? = some q ∧ vs = [.int q.1, .int q.2]) I as _ I2 nd fun b hb => by
    obtain ⟨j, hj⟩ := List.mem_iff_getElem?.mp hb
    obtain ⟨q, t1, t2, e1, e2⟩ := pr j b hj
    have old : s.heap.objs.size ≤ b := Nat.le_of_lt (hG.above b hb)
    refine ⟨old, ?_, [.int q.1, .int q.2], ⟨j, q, hj, e1, rfl⟩, fun H3 => ⟨by show 2 ≤ sizeLine; decide, [Value.int q.1 t1, Value.int q.2 t2], .cons ⟨_, rfl⟩ (.cons ⟨_, rfl⟩ .nil), ⟨_, kF _ _ (ne0 _ _ e2) (ka _ _ e2), rfl, 0, rfl⟩⟩⟩
    rw [upd_ne (ne0 _ _ e2)]
    exact I.hok.fresh old
  refine ⟨.ref h'.objs.size, H2, I3, rfl, q H2 h'.objs.size ts (fun b o e => g b o (by rw [upd_ne (ne_of_none e hn0)]; exact e)) hn0 (g _ _ upd_same) ?_⟩
  refine Paired.mapP tp fun t q h => ?_
  obtain ⟨j, j1, j2⟩ := h
  obtain ⟨vs', ⟨i, q', i1, i2, ev⟩, hH⟩ := qt t (List.mem_of_getElem? j1)
  have eij : i = j := (List.getElem?_inj (List.getElem?_eq_some_iff.mp i1).1 nd).mp (i1.trans j1.symm)
  subst eij
  obtain rfl : q' = q := Option.some.inj (i2.symm.trans j2)
  rw [ev] at hH
  exact hH
def tSortItems (te : TE) : TE := fun σ H Q => te σ H fun x H1 => rSortItI x H1 Q
variable {e : Expr} {te : TE} {p apos cpos pos : Pos}
theorem pe_sortItems (hc : X.calm = true) (hu : X.A.units + 64 < cLine) (he : PE X e te) (hg : Gl X "sorted") (hm : X.mg "sorted" = none)
    (hv : bootBuiltins "sorted" = some (.builtin "sorted"))
    (hbase : attributeBase e "items" X.env (eval e X.env) = eval e X.env := by rfl) (hline : (apos.endLine == cpos.line) = true := by rfl)
    (hs : starEach [.Call (.Attribute e "items" apos) [] [] cpos] X.env = (false, eval (.Call (.Attribute e "items" apos) [] [] cpos) X.env) :: starEach [] X.env := by rfl) :
    PE X (.Call (.Name "sorted" p) [.Call (.Attribute e "items" apos) [] [] cpos] [] pos) (tSortItems te) := by
  refine ⟨fun pins s σ H Q I hq => ?_⟩
  refine wpAny_Call_Name_kw (ld_blt I hg hm hv ?_)
  refine PyProof.Rows.callWith_builtin1 ?_ hs rfl
  rw [hs]
  show wpAny _ _ (spliced ((false, eval (.Call (.Attribute e "items" apos) [] [] cpos) X.env) :: backTo pos (starEach [] X.env))) _ _ s
  refine Calls.spliced_cons ?_
  refine wpAny_Call_method (T := "dict") (id := "dict.items") hbase rfl hline F.plainAttrs_dict F.slot_dict_items F.type_dict_items
    (thn (he.run pins s σ H _ I hq) fun u s1 ⟨x, H1, I1, rx, d, ps, ex, hd, q⟩ => ?_)
  subst ex
  obtain rfl : u = Value.ref d := rx
  obtain ⟨hz, hs0, vs, kv, hdo⟩ := I1.hok d _ hd
  have I2 : Inv X pins σ H1 { s1 with heap := s1.heap.push { cls := .type "dict_items", data := .fields #[.ref d] } } :=
    I1.kept (t' := s1.toks) fun b ob z => Heap.get?_push_of_some _ z
  refine ⟨hdo.typeIs, hdo.mapOf.noDict, ?_⟩
  show wpAny _ _ (callWith cpos (.builtin "dict.items") [.ref d] [] []) _ X.xe s1
  refine method_meetsIn F.slot_dict_items F.entry_dict_items rfl (PySem.evalArgs_none ⟨rfl, hdo.typeIs, F.args_dict_items_1 _, _, meets_dict_items (mixKind X.prog X.w) d hs0, ⟨vs, hdo⟩, ?_⟩)
  refine Calls.spliced_nil ?_
  exact sort_items_run I2 (I1.ok.hd hc) hu hd ⟨_, Heap.get?_push_size _ rfl, rfl, rfl⟩ q
end
end Gc

/-! match over written texts, with a last case for the rest -/
namespace Gc
open PySem L2
/-- what is wanted of the cases, by the subject's value -/
abbrev TM := V → TS
structure MC (X : Cx) (cs : List MatchCase) (t : TM) : Prop where
  run : ∀ (first : Bool) (pins : List (Addr × Obj)) (s : Shared) (σ : L2.St) (H : Hp) (D : Ends) (x : V) (v : Value),
    Inv X pins σ H s → RelV x v → t x D σ H →
    wpAny (model X.prog X.w) X.A (matchCases cs X.env v first) (fun f s' => SP X pins D f s') X.xe s
def mNil : TM := fun _ D σ H => D.nx σ H
/-- case 'z': .. -/
def mStr (z : Str) (tb : TS) (r : TM) : TM := fun x D σ H => ∃ y, x = .str y ∧ if decide (y = z) = true then tb D σ H else r x D σ H
/-- case _: .. -/
def mAny (tb : TS) : TM := fun _ D σ H => tb D σ H
section
variable {X : Cx} {rest : List MatchCase} {body : List Stmt} {tb : TS} {r : TM} {z : Str} {k : Nat} {p1 p2 pos : Pos} {e : Expr} {te : TE}
theorem mc_nil : MC X [] mNil := ⟨fun _ pins s σ H D x v I _ h => wpAny_matchCases_nil ⟨σ, H, I, h⟩⟩
theorem mc_str (hb : PSs X body tb) (hr : MC X rest r) :
    MC X (⟨.MatchValue (.Constant (.str z) k p1) p2, none, body⟩ :: rest) (mStr z tb r) := by
  refine ⟨fun first pins s σ H D x v I rx h => ?_⟩
  obtain ⟨y, rfl, h⟩ := h
  refine wpAny_matchCases_cons (wpAny_matchPattern_Value ?_)
  have hq : PE X (.Constant (.str z) k p1) (tC (.str z)) := pe_str
  refine wpAny_mono (hq.run pins s σ H (fun w H' => w = .str z ∧ H' = H) I ⟨rfl, rfl⟩) (fun u s1 hu => ?_) fun _ _ q => q
  obtain ⟨w, H1, I1, rw1, rfl, rfl⟩ := hu
  refine wpAny_mono ((op_eq (X := X)) pins s1 σ _ (.str y) (.str z) v u (fun w H' => w = .bl (decide (y = z)) ∧ H' = _) I1 rx rw1 ⟨rfl, ?_, rfl⟩) (fun c s2 hc => ?_) fun _ _ q => q
  · by_cases q : y = z
    · subst q
      rw [decide_eq_true (Eq.refl _), decide_eq_true (Eq.refl _)]
    · rw [decide_eq_false q, decide_eq_false fun e => q (V.str.inj e)]
  · obtain ⟨w, H2, I2, rw2, rfl, rfl⟩ := hc
    obtain rfl : c = Value.bool (decide (y = z)) := rw2
    refine wpAny_pure ?_
    by_cases q : y = z
    · rw [decide_eq_true q] at h ⊢
      show wpAny _ _ (assignInOrder [] []) _ _ _
      refine wpAny_assignInOrder_none ?_
      exact hb.run pins s2 σ _ D I2 h
    · rw [decide_eq_false q] at h ⊢
      exact hr.run false pins s2 σ _ D (.str y) v I2 rx h
theorem mc_any (hb : PSs X body tb) : MC X (⟨.MatchAs none none p2, none, body⟩ :: rest) (mAny tb) := by
  refine ⟨fun first pins s σ H D x v I rx h => ?_⟩
  refine wpAny_matchCases_cons (wpAny_matchPattern_Capture ?_)
  show wpAny _ _ (assignInOrder [] []) _ _ _
  exact wpAny_assignInOrder_none (hb.run pins s σ H D I h)
def tMatch (te : TE) (t : TM) : TS := fun D σ H => te σ H fun x H1 => t x D σ H1
theorem ps_match {cs : List MatchCase} {t : TM} (he : PE X e te) (hc : MC X cs t) : PS X (.Match e cs pos) (tMatch te t) := by
  refine ⟨fun pins s σ H D I h => ?_⟩
  refine wpAny_Match (wpAny_mono (he.run pins s σ H _ I h) (fun v s1 hv => ?_) fun _ _ q => q)
  obtain ⟨x, H1, I1, rx, q⟩ := hv
  exact hc.run true pins s1 σ H1 D x v I1 rx q
end
end Gc

namespace Gc
open PySem PyProof.Rows L2
/-! ### commands as tuples -/
def encC : Cmd → List V
  | .down n => [.str "down", .int n]
  | .up n => [.str "up", .int n]
  | .right n => [.str "right", .int n]
  | .left n => [.str "left", .int n]
  | .home => [.str "home"]
  | .stop => [.str "end"]
def CmdAt (K : PySem.W.Frag) (H : Hp) (v : V) (c : Cmd) : Prop := ∃ a, v = .ref a ∧ SqT K H a (encC c)
def CmdsOf (K : PySem.W.Frag) (H : Hp) (xs : List V) (cs : List Cmd) : Prop := Paired (CmdAt K H) xs cs
theorem CmdAt.same {K : PySem.W.Frag} {H H' : Hp} {v : V} {c : Cmd} (e : Same H H') (h : CmdAt K H v c) : CmdAt K H' v c := by
  obtain ⟨a, e1, h1⟩ := h
  exact ⟨a, e1, seq_t e h1⟩
theorem CmdsOf.same {K : PySem.W.Frag} {H H' : Hp} {xs : List V} {cs : List Cmd} (e : Same H H') (h : CmdsOf K H xs cs) : CmdsOf K H' xs cs := Paired.mapP h fun _ _ q => q.same e
theorem CmdsOf.len {K : PySem.W.Frag} {H : Hp} {xs : List V} {cs : List Cmd} (h : CmdsOf K H xs cs) : xs.length = cs.length := Paired.length h
theorem paired_at {α β : Type} {F : α → β → Prop} : ∀ {xs : List α} {ys : List β} {i : Nat} {x : α}, Paired F xs ys → xs[i]? = some x → ∃ y, ys[i]? = some y ∧ F x y
  | _, _, _, _, .nil, h => by simp at h
  | _, _, 0, x, .cons f _, h => by
    obtain rfl := Option.some.inj h
    exact ⟨_, rfl, f⟩
  | _, _, i + 1, x, .cons _ t, h => paired_at (i := i) t h
/-! ### dicts of ints by ints -/
theorem valV_dkI : ∀ (b : Ps) (k : Int), valV (dkI b) (Sum.inl k : L2.Key) = (look b k).map V.int
  | [], k => rfl
  | q :: b, k => by
    show valV (((Sum.inl q.1 : L2.Key), V.int q.2) :: dkI b) (Sum.inl k : L2.Key) = _
    rw [look_cons]
    by_cases h : q.1 = k
    · rw [if_pos h, valV_pos (by show (Sum.inl q.1 : L2.Key) = Sum.inl k; rw [h])]
      rfl
    · rw [if_neg h, valV_neg (by intro z; exact h (Sum.inl.inj z))]
      exact valV_dkI b k
theorem putK_dkI (b : Ps) (k v : Int) : putK (dkI b) (Sum.inl k : L2.Key) (V.int v) = dkI (put b k v) := by
  have ea : ((dkI b).any fun kv => decide (kv.1 = (Sum.inl k : L2.Key))) = b.any fun q => decide (q.1 = k) := by
    unfold dkI
    rw [List.any_map]
    congr 1
    funext q
    show decide ((Sum.inl q.1 : L2.Key) = Sum.inl k) = decide (q.1 = k)
    exact decide_eq_decide.mpr ⟨Sum.inl.inj, fun h => by rw [h]⟩
  unfold putK put
  rw [ea]
  by_cases h : (b.any fun q => decide (q.1 = k)) = true
  · rw [if_pos h, if_pos h]
    unfold dkI
    rw [List.map_map, List.map_map]
    refine List.map_congr_left fun q _ => ?_
    show (if (Sum.inl q.1 : L2.Key) = Sum.inl k then ((Sum.inl q.1 : L2.Key), V.int v) else (Sum.inl q.1, V.int q.2)) = (Sum.inl (if q.1 = k then (q.1, v) else q).1, V.int (if q.1 = k then (q.1, v) else q).2)
    by_cases e : q.1 = k
    · rw [if_pos e, if_pos (by rw [e])]
    · rw [if_neg e, if_neg fun z => e (Sum.inl.inj z)]
  · rw [if_neg h, if_neg h]
    unfold dkI
    rw [List.map_append]
    rfl
theorem put_len (b : Ps) (k v : Int) : (put b k v).length ≤ b.length + 1 := by
  unfold put
  split
  · rw [List.length_map]
    exact Nat.le_succ _
  · rw [List.length_append]
    exact Nat.le_refl _
theorem req_len (b : Ps) (o v : Int) : (req b o v).length ≤ b.length + 1 := put_len b o _
end Gc

namespace Gc
open PySem L2
def top (i : Nat) : Stmt := PySem.Challenge.pw_goalcolumn_k04_errors_of_running.main.body.getD i (.Pass ⟨0, 0, 0, 0⟩)
abbrev s_is_count : Stmt := top 16
abbrev s_is_command : Stmt := top 15
abbrev s_check_commands : Stmt := top 14
abbrev s_row_change : Stmt := top 23
structure TxtB (K : PySem.W.Frag) (mg : Str → Option Value) (wo wn : Addr) : Prop where
  g_WITHOUT_NUMBER : mg "WITHOUT_NUMBER" = some (.ref wo)
  g_WITH_NUMBER : mg "WITH_NUMBER" = some (.ref wn)
  tWO : ∀ H, SqT K H wo [.str "home", .str "end"]
  tWN : ∀ H, SqT K H wn [.str "down", .str "up", .str "right", .str "left"]
  isinstance : mg "isinstance" = none
  int : mg "int" = none
  bool : mg "bool" = none
  len : mg "len" = none
  enumerate : mg "enumerate" = none
  reversed : mg "reversed" = none
  sorted : mg "sorted" = none
  max : mg "max" = none
  min : mg "min" = none
def spCount : Sp := fun vs H Q _ => ∃ n : Int, vs = [.int n] ∧ 1 ≤ n ∧ Q (.bl true) H
def spIsCmd (K : PySem.W.Frag) : Sp := fun vs H Q _ => ∃ (v : V) (c : Cmd), vs = [v] ∧ CmdAt K H v c ∧ c.ok ∧ ∀ H', Same H H' → Q (.bl true) H'
def spCheck (K : PySem.W.Frag) : Sp := fun vs H Q _ => ∃ (l : Addr) (xs : List V) (cs : List Cmd), vs = [.ref l] ∧ SqL K H l xs ∧ CmdsOf K H xs cs ∧ AllOk cs ∧ cs.length ≤ 10000 ∧ ∀ H', Same H H' → Q .non H'
def spRow (K : PySem.W.Frag) : Sp := fun vs H Q _ => ∃ (v : V) (c : Cmd), vs = [v] ∧ CmdAt K H v c ∧ Q (.int c.dv) H
theorem q_in {H : Hp} {Q : VK} {x : V} {xs : List V} (h : inV x xs = true) (k : Q (.bl true) H) : Q (.bl (if (false : Bool) = true then !inV x xs else inV x xs)) H := by
  rw [if_neg Bool.false_ne_true, h]
  exact k
theorem take_snoc {α : Type} : ∀ {l : List α} {i : Nat} {x : α}, l[i]? = some x → l.take (i + 1) = l.take i ++ [x]
  | [], i, x, h => by simp at h
  | a :: l, 0, x, h => by
    obtain rfl := Option.some.inj h
    rfl
  | a :: l, i + 1, x, h => by
    have ih := take_snoc (l := l) (i := i) (x := x) h
    show a :: l.take (i + 1) = a :: l.take i ++ [x]
    rw [ih]
    rfl
def optV : Option Int → V
  | none => .non
  | some n => .int n
theorem m_no {y z : Str} {tb : TS} {r : TM} {D : Ends} {σ : L2.St} {H : Hp} (h : decide (y = z) = false) (q : r (.str y) D σ H) : mStr z tb r (.str y) D σ H := ⟨y, rfl, by rw [h]; exact iteF q⟩
theorem m_yes {y z : Str} {tb : TS} {r : TM} {D : Ends} {σ : L2.St} {H : Hp} (h : decide (y = z) = true) (q : tb D σ H) : mStr z tb r (.str y) D σ H := ⟨y, rfl, by rw [h]; exact iteT q⟩
section
variable {P : Program} {w : World} {K : PySem.W.Frag} {mg : Str → Option Value} {base : Heap} {wo wn : Addr}
theorem sc_is_count : FnScope ["number"] ["number"] (defScope s_is_count) := ⟨rfl, rfl, rfl, by decide +kernel, rfl, by decide +kernel, by decide +kernel⟩
theorem ok_is_count {f : Addr} {fd : FuncData} (F : Fun K "is_count" "is_count" s_is_count f fd) (T : TxtB K mg wo wn) : FnOk P w K mg base CX0 1 f fd ["number"] spCount := by
  refine F.ok sc_is_count (fun vs H Q E h => ?_) (fun cdv A outer s H vs Q E hr h => ?_)
  · obtain ⟨n, rfl, _⟩ := h
    rfl
  · obtain ⟨n, rfl, hn, k⟩ := h
    refine ⟨_, (pss_one (ps_ret (pe_and (pe_callB call_isi (by rfl) T.isinstance (by decide +kernel) (pa_cons (pv 0) (pa_cons (pe_bltn (v := .ty "int") (u := .type "int") (by rfl) T.int (by decide +kernel) rfl) pa_nil))) (pe_and (pe_not (pe_callB call_isi (by rfl) T.isinstance (by decide +kernel) (pa_cons (pv 0) (pa_cons (pe_bltn (v := .ty "bool") (u := .type "bool") (by rfl) T.bool (by decide +kernel) rfl) pa_nil)))) (pe_one (pe_cmpR op_ge (pv 0) pe_int (nomark _))))))), ?_⟩
    refine ⟨_, rfl, _, _, _, _, _, rfl, .ty "int", .base (.int n), kit_ty (show kitB "int" "int" = some true by decide +kernel), _, rfl, iteT ?_⟩
    refine ⟨_, rfl, _, _, _, _, _, rfl, .ty "bool", .base (.int n), kit_ty (show kitB "int" "bool" = some false by decide +kernel), _, rfl, _, rfl, iteT ?_⟩
    refine ⟨_, rfl, _, _, rfl, rfl, ?_⟩
    show Q (.bl (decide (1 ≤ n))) H
    rw [decide_eq_true hn]
    exact k
theorem sc_is_command : FnScope ["command"] ["command"] (defScope s_is_command) := ⟨rfl, rfl, rfl, by decide +kernel, rfl, by decide +kernel, by decide +kernel⟩
theorem ok_is_command {f : Addr} {fd : FuncData} (F : Fun K "is_command" "is_command" s_is_command f fd) (T : TxtB K mg wo wn) (c_is_count : Cal P w K mg base 1 "is_count" spCount) : FnOk P w K mg base CX0 2 f fd ["command"] (spIsCmd K) := by
  refine F.ok sc_is_command (fun vs H Q E h => ?_) (fun cdv A outer s H vs Q E hr h => ?_)
  · obtain ⟨v, c, rfl, _⟩ := h
    rfl
  · obtain ⟨v, c, rfl, ⟨a, rfl, ha⟩, hc, k⟩ := h
    refine ⟨_, (pss_cons (ps_if (pt_cmpR op_eq (pe_callB call_len_seq (by rfl) T.len (by decide +kernel) (pa_cons (pv 0) pa_nil)) pe_int (nomark _)) (pss_one (ps_ret (pe_cmpR op_in_seq (pe_ix ix_tup (pv 0) pe_int (fun _ _ => rfl)) (pe_glob (v := .ref wo) (by rfl) T.g_WITHOUT_NUMBER rfl) (by rfl)))) pss_nil)
      (pss_one (ps_ret (pe_and (pe_cmpR op_eq (pe_callB call_len_seq (by rfl) T.len (by decide +kernel) (pa_cons (pv 0) pa_nil)) pe_int (nomark _)) (pe_and (pe_cmpR op_in_seq (pe_ix ix_tup (pv 0) pe_int (fun _ _ => rfl)) (pe_glob (v := .ref wn) (by rfl) T.g_WITH_NUMBER rfl) (by rfl)) (pe_one (pe_cal c_is_count hr (by decide) (by rfl) (pa_cons (pe_ix ix_tup (pv 0) pe_int (fun _ _ => rfl)) pa_nil)))))))), ?_⟩
    have k0 := k H (Same.refl H)
    cases c with
    | down n =>
      refine ⟨_, rfl, a, _, rfl, .inr ha, rfl, _, rfl, iteF ?_⟩
      refine ⟨_, rfl, a, _, rfl, .inr ha, rfl, _, rfl, iteT ?_⟩
      refine ⟨_, rfl, a, _, 0, _, rfl, rfl, ha, rfl, wn, _, rfl, .inr (T.tWN _), rfl, rfl, true, by decide +kernel, iteT ?_⟩
      exact ⟨_, rfl, a, _, 1, _, rfl, rfl, ha, rfl, n, rfl, hc, k0⟩
    | up n =>
      refine ⟨_, rfl, a, _, rfl, .inr ha, rfl, _, rfl, iteF ?_⟩
      refine ⟨_, rfl, a, _, rfl, .inr ha, rfl, _, rfl, iteT ?_⟩
      refine ⟨_, rfl, a, _, 0, _, rfl, rfl, ha, rfl, wn, _, rfl, .inr (T.tWN _), rfl, rfl, true, by decide +kernel, iteT ?_⟩
      exact ⟨_, rfl, a, _, 1, _, rfl, rfl, ha, rfl, n, rfl, hc, k0⟩
    | right n =>
      refine ⟨_, rfl, a, _, rfl, .inr ha, rfl, _, rfl, iteF ?_⟩
      refine ⟨_, rfl, a, _, rfl, .inr ha, rfl, _, rfl, iteT ?_⟩
      refine ⟨_, rfl, a, _, 0, _, rfl, rfl, ha, rfl, wn, _, rfl, .inr (T.tWN _), rfl, rfl, true, by decide +kernel, iteT ?_⟩
      exact ⟨_, rfl, a, _, 1, _, rfl, rfl, ha, rfl, n, rfl, hc, k0⟩
    | left n =>
      refine ⟨_, rfl, a, _, rfl, .inr ha, rfl, _, rfl, iteF ?_⟩
      refine ⟨_, rfl, a, _, rfl, .inr ha, rfl, _, rfl, iteT ?_⟩
      refine ⟨_, rfl, a, _, 0, _, rfl, rfl, ha, rfl, wn, _, rfl, .inr (T.tWN _), rfl, rfl, true, by decide +kernel, iteT ?_⟩
      exact ⟨_, rfl, a, _, 1, _, rfl, rfl, ha, rfl, n, rfl, hc, k0⟩
    | home =>
      refine ⟨_, rfl, a, _, rfl, .inr ha, rfl, _, rfl, iteT ?_⟩
      refine ⟨_, rfl, a, _, 0, _, rfl, rfl, ha, rfl, wo, _, rfl, .inr (T.tWO _), rfl, rfl, ?_⟩
      exact q_in (by decide +kernel) k0
    | stop =>
      refine ⟨_, rfl, a, _, rfl, .inr ha, rfl, _, rfl, iteT ?_⟩
      refine ⟨_, rfl, a, _, 0, _, rfl, rfl, ha, rfl, wo, _, rfl, .inr (T.tWO _), rfl, rfl, ?_⟩
      exact q_in (by decide +kernel) k0
theorem sc_row_change : FnScope ["command"] ["command"] (defScope s_row_change) := ⟨rfl, rfl, rfl, by decide +kernel, rfl, by decide +kernel, by decide +kernel⟩
theorem ok_row_change {f : Addr} {fd : FuncData} (F : Fun K "row_change" "row_change" s_row_change f fd) : FnOk P w K mg base CX0 1 f fd ["command"] (spRow K) := by
  refine F.ok sc_row_change (fun vs H Q E h => ?_) (fun cdv A outer s H vs Q E hr h => ?_)
  · obtain ⟨v, c, rfl, _⟩ := h
    rfl
  · obtain ⟨v, c, rfl, ⟨a, rfl, ha⟩, k⟩ := h
    refine ⟨_, (pss_cons (ps_if (pt_cmpR op_eq (pe_ix ix_tup (pv 0) pe_int (fun _ _ => rfl)) pe_str (nomark _)) (pss_one (ps_ret (pe_ix ix_tup (pv 0) pe_int (fun _ _ => rfl)))) pss_nil)
      (pss_cons (ps_if (pt_cmpR op_eq (pe_ix ix_tup (pv 0) pe_int (fun _ _ => rfl)) pe_str (nomark _)) (pss_one (ps_ret (pe_un un_neg (pe_ix ix_tup (pv 0) pe_int (fun _ _ => rfl))))) pss_nil)
      (pss_one (ps_ret pe_int)))), ?_⟩
    cases c with
    | down n =>
      refine ⟨_, rfl, a, _, 0, _, rfl, rfl, ha, rfl, rfl, true, by decide +kernel, iteT ?_⟩
      exact ⟨_, rfl, a, _, 1, _, rfl, rfl, ha, rfl, k⟩
    | up n =>
      refine ⟨_, rfl, a, _, 0, _, rfl, rfl, ha, rfl, rfl, false, by decide +kernel, iteF ?_⟩
      refine ⟨_, rfl, a, _, 0, _, rfl, rfl, ha, rfl, rfl, true, by decide +kernel, iteT ?_⟩
      exact ⟨_, rfl, a, _, 1, _, rfl, rfl, ha, rfl, n, rfl, k⟩
    | right n =>
      refine ⟨_, rfl, a, _, 0, _, rfl, rfl, ha, rfl, rfl, false, by decide +kernel, iteF ?_⟩
      refine ⟨_, rfl, a, _, 0, _, rfl, rfl, ha, rfl, rfl, false, by decide +kernel, iteF ?_⟩
      exact k
    | left n =>
      refine ⟨_, rfl, a, _, 0, _, rfl, rfl, ha, rfl, rfl, false, by decide +kernel, iteF ?_⟩
      refine ⟨_, rfl, a, _, 0, _, rfl, rfl, ha, rfl, rfl, false, by decide +kernel, iteF ?_⟩
      exact k
    | home =>
      refine ⟨_, rfl, a, _, 0, _, rfl, rfl, ha, rfl, rfl, false, by decide +kernel, iteF ?_⟩
      refine ⟨_, rfl, a, _, 0, _, rfl, rfl, ha, rfl, rfl, false, by decide +kernel, iteF ?_⟩
      exact k
    | stop =>
      refine ⟨_, rfl, a, _, 0, _, rfl, rfl, ha, rfl, rfl, false, by decide +kernel, iteF ?_⟩
      refine ⟨_, rfl, a, _, 0, _, rfl, rfl, ha, rfl, rfl, false, by decide +kernel, iteF ?_⟩
      exact k
theorem sc_check_commands : FnScope ["commands", "index", "command"] ["commands"] (defScope s_check_commands) := ⟨rfl, rfl, rfl, by decide +kernel, rfl, by decide +kernel, by decide +kernel⟩
theorem ok_check_commands {f : Addr} {fd : FuncData} (F : Fun K "check_commands" "check_commands" s_check_commands f fd) (T : TxtB K mg wo wn) (c_is_command : Cal P w K mg base 2 "is_command" (spIsCmd K)) : FnOk P w K mg base CX0 3 f fd ["commands"] (spCheck K) := by
  refine F.ok sc_check_commands (fun vs H Q E h => ?_) (fun cdv A outer s H vs Q E hr h => ?_)
  · obtain ⟨l, xs, cs, rfl, _⟩ := h
    rfl
  · obtain ⟨l, xs, cs, rfl, hl, hcs, hk, hn, k⟩ := h
    refine ⟨_, (pss_one (ps_for PassesOwn.never rfl (pi_enum (by rfl) T.enumerate (pa_cons (pv 0) pa_nil)) (pg_tup rfl (pgs_cons (pg_name (i := 1) sc_check_commands.nd rfl (Or.inl rfl)) (pgs_cons (pg_name (i := 2) sc_check_commands.nd rfl (Or.inl rfl)) pgs_nil))) (pss_one (ps_if (pt_not (pt_val (pe_cal c_is_command hr (by decide) (by rfl) (pa_cons (pv 2) pa_nil)))) (pss_one ps_never) pss_nil)))), ?_⟩
    refine ⟨_, rfl, l, xs, rfl, hl, for_it (walk_enum (K := K) (a := l) (xs := xs)) (fun i σ H' => ∃ v1 v2 : Option V, σ = [some (.ref l), v1, v2] ∧ Same H H')
      ⟨none, none, rfl, Same.refl H⟩ (fun i σ H' _ ⟨_, _, _, e⟩ => e.seq hl) (fun i x σ H1 H2 hi h y => ?_) (fun σ H1 h => ?_)⟩
    · obtain ⟨v1, v2, rfl, e⟩ := h
      obtain ⟨T1, x1, y1, rfl, nT, rfl, e1, e2⟩ := y
      obtain ⟨c, hc, hca⟩ := paired_at hcs e2
      have eT : Same H (upd H1 T1 (.tup [x1, y1])) := same_upd e nT
      refine ⟨T1, _, rfl, SqT.of upd_same, rfl, _, _, rfl, _, _, rfl, rfl, ?_⟩
      refine ⟨_, rfl, y1, c, rfl, hca.same eT, hk c (List.mem_of_getElem? hc), fun H3 e3 => ⟨_, rfl, iteF ?_⟩⟩
      exact ⟨_, _, rfl, eT.trans e3⟩
    · obtain ⟨v1, v2, rfl, e⟩ := h
      exact k _ e
end
end Gc

/-! x *= y of great numbers; xs[i] += y -/
namespace Gc
open PySem PySem.Spec PyProof.Rows L2
section
variable {X : Cx}
def ipC (C : Int → Int → Prop) (f : Int → Int → Int) : TIp := fun x y H Q => ∃ i j, x = .int i ∧ y = .int j ∧ C i j ∧ Q (.int (f i j)) H
theorem ip_mulW : PIp X .Mult (ipC CMulW fun i j => i * j) := by
  intro pins s σ H x y v u Q I rx ry h
  obtain ⟨i, j, rfl, rfl, hc, q⟩ := h
  obtain ⟨t, rfl⟩ := rx
  obtain ⟨t', rfl⟩ := ry
  exact PySem.P.imul_int (⟨.int (i * j), H, I.tok _, ⟨_, rfl⟩, q⟩) hc.ok
/-- an item of a list by its place from the front, within an augmented assignment -/
def rGetL : V → V → Hp → VK → Prop := fun o i H Q => ∃ (p : Addr) (xs : List V) (j : Nat) (v : V), o = .ref p ∧ i = .int j ∧ H p = some (.lst xs) ∧ xs.length ≤ 1000000 ∧ xs[j]? = some v ∧ Q v H
theorem get_list : PGet X rGetL := by
  intro pins s σ H o i ov iv Q I ro ri h
  obtain ⟨p, xs, j, z, rfl, rfl, hp, hl, hj, q⟩ := h
  cases ro
  obtain ⟨t, rfl⟩ := ri
  obtain ⟨its, r, pl, hz⟩ := I.list (.inl (.inl hp))
  obtain ⟨w, ew, rw'⟩ := r.get hj
  have lj := (List.getElem?_eq_some_iff.mp hj).1
  have l63 := line63
  refine wpAny_getItem_list (x := w) pl.isList (by omega) (by omega) (by simpa using ew) ⟨z, H, I, rw', q⟩
end
end Gc

/-! the source of numbers of the laws k01 to k05, k40 to k43 -/
namespace Gc
open PySem L2
abbrev s_source : Stmt := top 27
abbrev s_sdraw : Stmt := top 28
/-! ### the source of drawn numbers: at a, its digits at d; at most n draws were made -/
def Src (H : Hp) (a d : Addr) (n : Nat) : Prop := ∃ (ds : List Int) (cur mix cnt : Int), H a = some (.lst [.ref d, .int cur, .int mix, .int cnt]) ∧ H d = some (.lst (ds.map V.int)) ∧
  0 ≤ mix ∧ mix < 2 ^ 61 ∧ 0 ≤ cnt ∧ cnt ≤ n ∧ ds.length ≤ 63
theorem src_ne {H : Hp} {a d : Addr} {n : Nat} (h : Src H a d n) : a ≠ d := by
  obtain ⟨ds, cur, mix, cnt, h1, h2, _⟩ := h
  refine ne_of h1 h2 fun e => ?_
  cases ds with
  | nil => cases e
  | cons x xs => cases e

theorem Src.same {H H' : Hp} {a d : Addr} {n : Nat} (e : Same H H') (h : Src H a d n) : Src H' a d n := by
  obtain ⟨ds, cur, mix, cnt, h1, h2, h3⟩ := h
  exact ⟨ds, cur, mix, cnt, e _ _ h1, e _ _ h2, h3⟩
theorem Src.more {H : Hp} {a d : Addr} {n m : Nat} (h : Src H a d n) (l : n ≤ m) : Src H a d m := by
  obtain ⟨ds, cur, mix, cnt, h1, h2, h3, h4, h5, h6, h7⟩ := h
  exact ⟨ds, cur, mix, cnt, h1, h2, h3, h4, h5, by omega, h7⟩
theorem Src.off {H : Hp} {a d p : Addr} {n : Nat} (h : Src H a d n) (hp : H p = none) : p ≠ a ∧ p ≠ d := by
  obtain ⟨ds, cur, mix, cnt, h1, h2, _⟩ := h
  exact ⟨(ne_of_none h1 hp).symm, (ne_of_none h2 hp).symm⟩
theorem Src.upd {H : Hp} {a d p : Addr} {n : Nat} {o : HO} (h : Src H a d n) (n1 : p ≠ a) (n2 : p ≠ d) : Src (upd H p o) a d n := by
  obtain ⟨ds, cur, mix, cnt, h1, h2, h3⟩ := h
  exact ⟨ds, cur, mix, cnt, by rw [upd_ne n1.symm]; exact h1, by rw [upd_ne n2.symm]; exact h2, h3⟩
/-- tuples stand while numbers are drawn -/
theorem Src.tup {K : PySem.W.Frag} {H H' : Hp} {a d p : Addr} {n : Nat} {ys : List V} (B : Src H a d n) (e : Keep a d H H') (h : SqT K H p ys) : SqT K H' p ys := by
  obtain ⟨ds, _, _, _, h1, h2, _⟩ := B
  rcases h with (z | ⟨o, z⟩) | z
  · exact .inl (.inl (e _ _ (ne_of z h1 (by intro q; cases q)) (ne_of z h2 (by intro q; cases q)) z))
  · exact .inl (.inr ⟨o, e _ _ (ne_of z h1 (by intro q; cases q)) (ne_of z h2 (by intro q; cases q)) z⟩)
  · exact .inr z
def spSource (K : PySem.W.Frag) : Sp := fun vs H Q _ => ∃ (a : Addr) (ns : List Int), vs = [.ref a] ∧ SqL K H a (ns.map V.int) ∧ ns.length ≤ 63 ∧
  ∀ (H' : Hp) (p d : Addr), Same H H' → H p = none → H d = none → Src H' p d 0 → Q (.ref p) H'
def spDraw : Sp := fun vs H Q _ => ∃ (a d : Addr) (n : Nat) (many : Int), vs = [.ref a, .int many] ∧ Src H a d n ∧ n < 2 ^ 40 ∧ 0 < many ∧ many.natAbs.log2 < 9000 ∧
  ∀ (H' : Hp) (r : Int), Keep a d H H' → Src H' a d (n + 1) → 0 ≤ r → r < many → Q (.int r) H'
theorem pos61 : (0 : Int) < 2 ^ (61 : Int).toNat - 1 := by decide
structure TxtD (mg : Str → Option Value) : Prop where
  max : mg "max" = none

section
variable {P : Program} {w : World} {K : PySem.W.Frag} {mg : Str → Option Value} {base : Heap}
theorem sc_law_source : FnScope ["script", "mix", "digits", "cell", "size"] ["script"] (defScope s_source) := ⟨rfl, rfl, rfl, by decide +kernel, rfl, by decide +kernel, by decide +kernel⟩
theorem ok_source {f : Addr} {fd : FuncData} (F : Fun K "_law_source" "_law_source" s_source f fd) (T : TxtD mg) : FnOk P w K mg base CX0 1 f fd ["script"] (spSource K) := by
  refine F.ok sc_law_source (fun vs H Q E h => ?_) (fun cdv A outer s H vs Q E hr h => ?_)
  · obtain ⟨a, ns, rfl, _⟩ := h
    rfl
  · obtain ⟨a, ns, rfl, hS, hlen, k⟩ := h
    refine ⟨_, (pss_cons (ps_set (i := 1) sc_law_source.nd rfl (Or.inl rfl) pe_int)
      (pss_cons (ps_set (i := 2) sc_law_source.nd rfl (Or.inl rfl) (pe_lst pa_nil))
      (pss_cons (ps_for PassesOwn.never rfl (pi_list (pv 0)) (pg_name (i := 3) sc_law_source.nd rfl (Or.inl rfl)) (pss_cons (ps_set (i := 1) sc_law_source.nd rfl (Or.inl rfl) (pe_op op_mod (pe_op op_add (pe_op op_mulW (pv 1) pe_int) (pv 3)) (pe_op op_sub (pe_op op_pow pe_int pe_int) pe_int)))
      (pss_cons (ps_set (i := 4) sc_law_source.nd rfl (Or.inl rfl) (pe_callB (call_max2 rfl) (by rfl) T.max (by decide +kernel) (pa_cons (pv 3) (pa_cons (pe_op op_sub pe_int (pv 3)) pa_nil))))
      (pss_one (ps_if (pt_cmpR op_ge (pv 4) (pe_op op_pow pe_int pe_int) (nomark _)) (pss_one (ps_expr (pe_bm PySem.F.plainAttrs_list PySem.F.slot_list_append PySem.F.type_list_append mt_append (pv 2) (pa_cons (pe_op op_sub (pv 4) (pe_op op_pow pe_int pe_int)) pa_nil)))) pss_nil)))))
      (pss_one (ps_ret (pe_lst (pa_cons (pv 2) (pa_cons pe_int (pa_cons (pv 1) (pa_cons pe_int pa_nil)))))))))), ?_⟩
    refine ⟨Nat.zero_le _, fun d hd => ?_⟩
    refine ⟨_, rfl, a, rfl, ⟨_, (same_upd (Same.refl H) hd).seq hS⟩, for_list (K := K) (a := a) (xs := ns.map V.int) (fun i σ H' => ∃ (mix : Int) (ds : List Int) (v1 v2 : Option V), σ = [some (.ref a), some (.int mix), some (.ref d), v1, v2] ∧ Same H H' ∧ H' d = some (.lst (ds.map V.int)) ∧ 0 ≤ mix ∧ mix < 2 ^ 61 ∧ ds.length ≤ i)
      ⟨271828182845904, [], none, none, rfl, same_upd (Same.refl H) hd, upd_same, by decide, by decide, Nat.le_refl _⟩ (fun i σ H' _ ⟨_, _, _, _, _, e, _⟩ => e.seq hS) ?_ ?_⟩
    · rintro i y σ H' hi ⟨mix, ds, v1, v2, rfl, e, hD, m0, m1, hl⟩
      obtain ⟨u, rfl⟩ := int_at hi
      have hi' : i < ns.length := by
        have q := (List.getElem?_eq_some_iff.mp hi).1
        rw [List.length_map] at q
        exact q
      -- mix = (mix * 1000033 + cell) % (2 ** 61 - 1)
      refine ⟨_, rfl, _, _, rfl, rfl, wide_mul (a := 61) (b := 61) (by omega) (by decide) (by decide) (by decide) (by decide), _, rfl, _, _, rfl, rfl, _, _, rfl, rfl, cpow (by decide), _, _, rfl, rfl, _, _, rfl, rfl, pos61, ?_⟩
      -- size = max(cell, 0 - cell)
      refine ⟨_, rfl, _, rfl, _, _, rfl, rfl, _, _, rfl, ?_⟩
      -- if size >= 10 ** 18
      refine ⟨_, rfl, _, _, rfl, rfl, cpow (by decide), _, _, rfl, rfl, _, rfl, ?_⟩
      have b0 := Int.emod_nonneg (mix * 1000033 + u) (show (2 : Int) ^ (61 : Int).toNat - 1 ≠ 0 by decide)
      have b1 := Int.emod_lt_of_pos (mix * 1000033 + u) (show (0 : Int) < 2 ^ (61 : Int).toNat - 1 by decide)
      have b2 : (2 : Int) ^ (61 : Int).toNat - 1 < 2 ^ 61 := by decide
      refine ite2 (fun _ => ?_) (fun _ => ?_)
      · refine ⟨_, rfl, Or.inl ⟨rfl, _, SqL.of hD⟩, _, rfl, _, _, rfl, rfl, cpow (by decide), _, _, rfl, rfl, d, _, _, rfl, rfl, hD, ?_, ?_⟩
        · rw [List.length_map]
          exact small1000 (by omega)
        · refine ⟨_, ds ++ [(if 0 - u > u then 0 - u else u) - 10 ^ (18 : Int).toNat], _, _, rfl, fun b o hb => ?_, ?_, b0, Int.lt_trans b1 b2, ?_⟩
          · rw [upd_ne (ne_of_none hb hd)]
            exact e b o hb
          · rw [upd_same, List.map_append]
            rfl
          · rw [List.length_append, List.length_singleton]
            omega
      · exact ⟨_, ds, _, _, rfl, e, hD, b0, Int.lt_trans b1 b2, Nat.le_succ_of_le hl⟩
    · rintro σ H' ⟨mix, ds, v1, v2, rfl, e, hD, m0, m1, hl⟩
      refine ⟨_, rfl, _, rfl, (by show 4 ≤ sizeLine; decide), fun p hp => ?_⟩
      have hl' : ds.length ≤ 63 := by
        rw [List.length_map] at hl
        omega
      have npd : p ≠ d := (ne_of_none hD hp).symm
      exact k _ p d (same_upd e hp) (e.free hp) hd ⟨ds, 0, mix, 0, upd_same, by rw [upd_ne npd.symm]; exact hD, m0, m1, by decide, by decide, hl'⟩
theorem sc_law_draw : FnScope ["source", "many", "drawn", "mixed"] ["source", "many"] (defScope s_sdraw) := ⟨rfl, rfl, rfl, by decide +kernel, rfl, by decide +kernel, by decide +kernel⟩
theorem ok_draw {f : Addr} {fd : FuncData} (F : Fun K "_law_draw" "_law_draw" s_sdraw f fd) : FnOk P w K mg base CX0 1 f fd ["source", "many"] spDraw := by
  refine F.ok sc_law_draw (fun vs H Q E h => ?_) (fun cdv A outer s H vs Q E hr h => ?_)
  · obtain ⟨a, d, n, many, rfl, _⟩ := h
    rfl
  · obtain ⟨a, d, n, many, rfl, hs, hn, m0, mb, k⟩ := h
    have nad := src_ne hs
    obtain ⟨ds0, cur0, mix, cnt, hA0, hD0, x0, x1, c0, c1, hl0⟩ := hs
    refine ⟨_, (C8.pss_cut (ps_while PassesOwn.never (PW.pt (pw_and (pt_cmpR op_lt (pe_ix ix_list (pv 0) pe_int (fun _ _ => rfl)) pe_int (nomark _)) (pw_and1 (pt_cmpR (op_neD hr.units) (pe_ix ix_list (pv 0) pe_int (fun _ _ => rfl)) (pe_lst pa_nil) (nomark _))))) (pss_one (ps_asg (pe_bm PySem.F.plainAttrs_list PySem.F.slot_list_pop PySem.F.type_list_pop mt_popAt (pe_ix ix_list (pv 0) pe_int (fun _ _ => rfl)) (pa_cons pe_int pa_nil)) (pg_sub (pv 0) pe_int set_list))))
      (pss_cons (ps_if (pt_cmpR op_ge (pe_ix ix_list (pv 0) pe_int (fun _ _ => rfl)) pe_int (nomark _)) (pss_cons (ps_set (i := 2) sc_law_draw.nd rfl (Or.inl rfl) (pe_op op_mod (pe_ix ix_list (pv 0) pe_int (fun _ _ => rfl)) (pv 1)))
      (pss_cons (ps_asg (pe_op op_fdivW (pe_ix ix_list (pv 0) pe_int (fun _ _ => rfl)) (pv 1)) (pg_sub (pv 0) pe_int set_list))
      (pss_one (ps_ret (pv 2))))) pss_nil)
      (pss_cons (ps_asg (pe_op op_add (pe_ix ix_list (pv 0) pe_int (fun _ _ => rfl)) pe_int) (pg_sub (pv 0) pe_int set_list))
      (pss_cons (ps_set (i := 3) sc_law_draw.nd rfl (Or.inl rfl) (pe_op op_mulW (pe_op op_add (pe_ix ix_list (pv 0) pe_int (fun _ _ => rfl)) pe_int) (pe_op op_pow (pe_op op_add (pe_ix ix_list (pv 0) pe_int (fun _ _ => rfl)) pe_int) pe_int)))
      (pss_cons (ps_set (i := 3) sc_law_draw.nd rfl (Or.inl rfl) (pe_op op_mod (pe_op op_add (pv 3) (pe_op op_mulW pe_int (pe_ix ix_list (pv 0) pe_int (fun _ _ => rfl)))) (pe_op op_sub (pe_op op_pow pe_int pe_int) pe_int)))
      (pss_one (ps_ret (pe_op op_mod (pe_op op_fdivW (pe_op op_mod (pe_op op_pow (pv 3) pe_int) (pe_op op_add (pe_op op_pow pe_int pe_int) pe_int)) pe_int) (pv 1))))))))), ?_⟩
    refine ⟨fun σ H' => ∃ (ds : List Int) (cur : Int), σ = [some (.ref a), some (.int many), none, none] ∧ Keep a d H H' ∧ H' a = some (.lst [.ref d, .int cur, .int mix, .int cnt]) ∧ H' d = some (.lst (ds.map V.int)) ∧ ds.length ≤ 63, ?_, ?_⟩
    · refine ⟨fun m σ H' => ∃ (ds : List Int) (cur : Int), m = ds.length ∧ σ = [some (.ref a), some (.int many), none, none] ∧ Keep a d H H' ∧ H' a = some (.lst [.ref d, .int cur, .int mix, .int cnt]) ∧ H' d = some (.lst (ds.map V.int)) ∧ ds.length ≤ 63,
        ⟨_, ds0, cur0, rfl, rfl, Keep.refl H, hA0, hD0, hl0⟩, ?_⟩
      rintro m σ H1 ⟨ds, cur, rfl, rfl, e, hA, hD, hl⟩
      refine ⟨_, rfl, a, _, 1, _, rfl, rfl, SqL.of hA, rfl, _, _, rfl, rfl, _, rfl, ?_⟩
      refine ite2 (fun c1 => ?_) (fun c1 => ⟨ds, cur, rfl, e, hA, hD, hl⟩)
      refine ⟨_, rfl, a, _, 0, _, rfl, rfl, SqL.of hA, rfl, Nat.zero_le _, fun p hp => ?_⟩
      have npa : p ≠ a := (ne_of_none hA hp).symm
      have npd : p ≠ d := (ne_of_none hD hp).symm
      have hA' : upd H1 p (.lst []) a = some (.lst [.ref d, .int cur, .int mix, .int cnt]) := by rw [upd_ne npa.symm]; exact hA
      have hD' : upd H1 p (.lst []) d = some (.lst (ds.map V.int)) := by rw [upd_ne npd.symm]; exact hD
      refine ⟨.list (ds.map PyData.int), .list [], Dp.lst (SqL.of hD') (dp_ints ds), Dp.lst (SqL.of upd_same) .nil, PySem.W.ke_shaped_ints ds, rfl, _, rfl, ?_⟩
      cases ds with
      | nil => exact iteF ⟨[], cur, rfl, e.new hp, hA', hD', hl⟩
      | cons x xs =>
        refine iteT ⟨_, fun _ _ h => h, ?_⟩
        refine ⟨_, rfl, a, _, 0, _, rfl, rfl, SqL.of hA', rfl, Or.inl ⟨rfl, _, SqL.of hD'⟩, d, _, 0, 0, _, rfl, rfl, hD', by decide, by decide, seqIndex_of (Int.le_refl 0) (by rw [List.length_map, List.length_cons]; omega), rfl, ?_⟩
        refine ⟨_, rfl, a, _, 1, 1, rfl, rfl, (by rw [upd_ne nad]; exact hA'), rfl, ?_⟩
        refine ⟨xs.length, Nat.lt_succ_self _, xs, x, rfl, rfl, ((e.new hp).upd2).upd1, upd_same, ?_, ?_⟩
        · rw [upd_ne nad.symm, upd_same]
          rfl
        · rw [List.length_cons] at hl
          omega
    · rintro σ H1 ⟨ds, cur, rfl, e, hA, hD, hl⟩
      refine ⟨_, rfl, a, _, 1, _, rfl, rfl, SqL.of hA, rfl, _, _, rfl, rfl, _, rfl, ?_⟩
      refine ite2 (fun c1 => ?_) (fun c1 => ?_)
      · refine ⟨_, rfl, a, _, 1, _, rfl, rfl, SqL.of hA, rfl, _, rfl, _, _, rfl, rfl, m0, ?_⟩
        refine ⟨_, rfl, a, _, 1, _, rfl, rfl, SqL.of hA, rfl, _, rfl, _, _, rfl, rfl, ⟨m0, mb⟩, ?_⟩
        refine ⟨_, rfl, a, _, 1, 1, rfl, rfl, hA, rfl, ?_⟩
        refine ⟨_, rfl, k _ _ e.upd1 ⟨ds, _, mix, cnt, upd_same, by rw [upd_ne nad.symm]; exact hD, x0, x1, c0, by omega, hl⟩ (Int.emod_nonneg _ (by omega)) (Int.emod_lt_of_pos _ m0)⟩
      · refine ⟨_, rfl, a, _, 3, _, rfl, rfl, SqL.of hA, rfl, _, _, rfl, rfl, ?_⟩
        refine ⟨_, rfl, a, _, 3, 3, rfl, rfl, hA, rfl, ?_⟩
        have c2 : cnt + 1 < 2 ^ 41 := by omega
        have hA2 : upd H1 a (.lst [.ref d, .int cur, .int mix, .int (cnt + 1)]) a = some (.lst [.ref d, .int cur, .int mix, .int (cnt + 1)]) := upd_same
        -- mixed = (source[2] + 7) * (source[3] + 3) ** 3
        refine ⟨_, rfl, a, _, 2, _, rfl, rfl, SqL.of hA2, rfl, _, _, rfl, rfl, _, rfl, a, _, 3, _, rfl, rfl, SqL.of hA2, rfl, _, _, rfl, rfl, _, _, rfl, rfl, ⟨by decide, by decide, by omega⟩, _, _, rfl, rfl, wide_mul (a := 62) (b := 200) (by omega) ?_ (by decide) (by decide) (by decide), ?_⟩
        · exact pow_small (a := 62) (k := 3) (by omega) (by decide)
        -- mixed = (mixed + 1000081 * source[3]) % (2 ** 61 - 1)
        refine ⟨_, rfl, _, rfl, a, _, 3, _, rfl, rfl, SqL.of hA2, rfl, _, _, rfl, rfl, wide_mul (a := 61) (b := 61) (by decide) (by omega) (by decide) (by decide) (by decide), _, _, rfl, rfl, _, _, rfl, rfl, cpow (by decide), _, _, rfl, rfl, _, _, rfl, rfl, pos61, ?_⟩
        have b0 := Int.emod_nonneg ((mix + 7) * (cnt + 1 + 3) ^ (3 : Int).toNat + 1000081 * (cnt + 1)) (show (2 : Int) ^ (61 : Int).toNat - 1 ≠ 0 by decide)
        have b1 := Int.emod_lt_of_pos ((mix + 7) * (cnt + 1 + 3) ^ (3 : Int).toNat + 1000081 * (cnt + 1)) pos61
        have b2 : (2 : Int) ^ (61 : Int).toNat - 1 < 2 ^ 61 := by decide
        -- return mixed ** 5 % (10 ** 18 + 9) // 128 % many
        refine ⟨_, rfl, _, _, rfl, rfl, ⟨by decide, by decide, ?_⟩, _, _, rfl, rfl, cpow (by decide), _, _, rfl, rfl, _, _, rfl, rfl, (show (0 : Int) < 10 ^ (18 : Int).toNat + 9 by decide), _, _, rfl, rfl, ⟨by decide, by decide⟩, _, rfl, _, _, rfl, rfl, m0, ?_⟩
        · show (((mix + 7) * (cnt + 1 + 3) ^ (3 : Int).toNat + 1000081 * (cnt + 1)) % (2 ^ (61 : Int).toNat - 1)).natAbs < 2 ^ 64
          omega
        exact k _ _ e.upd1 ⟨ds, cur, mix, cnt + 1, upd_same, by rw [upd_ne nad.symm]; exact hD, x0, x1, by omega, by omega, hl⟩ (Int.emod_nonneg _ (by omega)) (Int.emod_lt_of_pos _ m0)
end
end Gc

/-! _law_same of the laws k01 to k05, k40 to k43 -/
namespace Gc
open PySem L2
abbrev s_same : Stmt := top 29
mutual
/-- the greatest number of items of any list within -/
def wid : PyData → Nat
  | .list ds => max ds.length (widAll ds)
  | .tuple ds => max ds.length (widAll ds)
  | _ => 0
def widAll : List PyData → Nat
  | [] => 0
  | d :: ds => max (wid d) (widAll ds)
end
theorem wid_at : ∀ {ds : List PyData} {i : Nat} {d : PyData}, ds[i]? = some d → wid d ≤ widAll ds
  | [], i, d, h => by simp at h
  | x :: r, 0, d, h => by
    have e : x = d := Option.some.inj h
    subst e
    simp only [widAll]
    exact Nat.le_max_left _ _
  | x :: r, i + 1, d, h => by
    have ih := wid_at (ds := r) (i := i) (d := d) h
    simp only [widAll]
    exact Nat.le_trans ih (Nat.le_max_right _ _)
/-- _law_same(found, wanted), both the same data: True -/
def spSame (K : PySem.W.Frag) (n : Nat) : Sp := fun vs H Q _ => ∃ (x y : V) (d : PyData), vs = [x, y] ∧ Dp K H x d ∧ Dp K H y d ∧ d.depth < n ∧ wid d ≤ 1000 ∧ ∀ H', Same H H' → Q (.bl true) H'
structure TxtS (mg : Str → Option Value) : Prop where
  isinstance : mg "isinstance" = none
  bool : mg "bool" = none
  int : mg "int" = none
  str : mg "str" = none
  list : mg "list" = none
  tuple : mg "tuple" = none
  len : mg "len" = none
  range : mg "range" = none
section
variable {P : Program} {w : World} {K : PySem.W.Frag} {mg : Str → Option Value} {base : Heap}
theorem sc_law_same : FnScope ["found", "wanted", "k"] ["found", "wanted"] (defScope s_same) := ⟨rfl, rfl, rfl, by decide +kernel, rfl, by decide +kernel, by decide +kernel⟩
theorem ok_same0 {f : Addr} {fd : FuncData} (F : Fun K "_law_same" "_law_same" s_same f fd) : FnOk P w K mg base CX0 1 f fd ["found", "wanted"] (spSame K 0) := by
  refine F.ok sc_law_same (fun vs H Q E h => ?_) (fun cdv A outer s H vs Q E hr h => ?_)
  · obtain ⟨x, y, d, rfl, _⟩ := h
    rfl
  · obtain ⟨x, y, d, _, _, _, l, _, _⟩ := h
    exact absurd l (Nat.not_lt_zero _)
theorem ok_sameS {n : Nat} {f : Addr} {fd : FuncData} (F : Fun K "_law_same" "_law_same" s_same f fd) (T : TxtS mg) (cR : Cal P w K mg base (n + 1) "_law_same" (spSame K n)) :
    FnOk P w K mg base CX0 (n + 2) f fd ["found", "wanted"] (spSame K (n + 1)) := by
  refine F.ok sc_law_same (fun vs H Q E h => ?_) (fun cdv A outer s H vs Q E hr h => ?_)
  · obtain ⟨x, y, d, rfl, _⟩ := h
    rfl
  · obtain ⟨x, y, d, rfl, hx, hy, hd, hw, k⟩ := h
    refine ⟨_, (pss_cons (ps_if (pt_cmpR op_isN (pv 1) pe_non (nomark _)) (pss_one (ps_ret (pe_cmpR op_isN (pv 0) pe_non (nomark _)))) pss_nil)
      (pss_cons (ps_if (pt_val (pe_callB call_isi (by rfl) T.isinstance (by decide +kernel) (pa_cons (pv 1) (pa_cons (pe_bltn (v := .ty "bool") (u := .type "bool") (by rfl) T.bool (by decide +kernel) rfl) pa_nil)))) (pss_one (ps_ret (pe_and (pe_callB call_isi (by rfl) T.isinstance (by decide +kernel) (pa_cons (pv 0) (pa_cons (pe_bltn (v := .ty "bool") (u := .type "bool") (by rfl) T.bool (by decide +kernel) rfl) pa_nil))) (pe_one (pe_cmpR op_eq (pv 0) (pv 1) (nomark _)))))) pss_nil)
      (pss_cons (ps_if (pt_val (pe_callB call_isi (by rfl) T.isinstance (by decide +kernel) (pa_cons (pv 1) (pa_cons (pe_bltn (v := .ty "int") (u := .type "int") (by rfl) T.int (by decide +kernel) rfl) pa_nil)))) (pss_one (ps_ret (pe_and (pe_callB call_isi (by rfl) T.isinstance (by decide +kernel) (pa_cons (pv 0) (pa_cons (pe_bltn (v := .ty "int") (u := .type "int") (by rfl) T.int (by decide +kernel) rfl) pa_nil))) (pe_and (pe_not (pe_callB call_isi (by rfl) T.isinstance (by decide +kernel) (pa_cons (pv 0) (pa_cons (pe_bltn (v := .ty "bool") (u := .type "bool") (by rfl) T.bool (by decide +kernel) rfl) pa_nil)))) (pe_one (pe_cmpR op_eq (pv 0) (pv 1) (nomark _))))))) pss_nil)
      (pss_cons (ps_if (pt_val (pe_callB call_isi (by rfl) T.isinstance (by decide +kernel) (pa_cons (pv 1) (pa_cons (pe_bltn (v := .ty "str") (u := .type "str") (by rfl) T.str (by decide +kernel) rfl) pa_nil)))) (pss_one (ps_ret (pe_and (pe_callB call_isi (by rfl) T.isinstance (by decide +kernel) (pa_cons (pv 0) (pa_cons (pe_bltn (v := .ty "str") (u := .type "str") (by rfl) T.str (by decide +kernel) rfl) pa_nil))) (pe_one (pe_cmpR op_eq (pv 0) (pv 1) (nomark _)))))) pss_nil)
      (pss_cons (ps_if (pt_cmpR op_ne (pe_callB call_isi (by rfl) T.isinstance (by decide +kernel) (pa_cons (pv 0) (pa_cons (pe_bltn (v := .ty "list") (u := .type "list") (by rfl) T.list (by decide +kernel) rfl) pa_nil))) (pe_callB call_isi (by rfl) T.isinstance (by decide +kernel) (pa_cons (pv 1) (pa_cons (pe_bltn (v := .ty "list") (u := .type "list") (by rfl) T.list (by decide +kernel) rfl) pa_nil))) (nomark _)) (pss_one (ps_ret pe_bl)) pss_nil)
      (pss_cons (ps_if (PW.pt (pw_or (pt_cmpR op_ne (pe_callB call_isi (by rfl) T.isinstance (by decide +kernel) (pa_cons (pv 0) (pa_cons (pe_bltn (v := .ty "tuple") (u := .type "tuple") (by rfl) T.tuple (by decide +kernel) rfl) pa_nil))) (pe_callB call_isi (by rfl) T.isinstance (by decide +kernel) (pa_cons (pv 1) (pa_cons (pe_bltn (v := .ty "tuple") (u := .type "tuple") (by rfl) T.tuple (by decide +kernel) rfl) pa_nil))) (nomark _)) (pw_or1 (pt_cmpR op_ne (pe_callB call_len_seq (by rfl) T.len (by decide +kernel) (pa_cons (pv 0) pa_nil)) (pe_callB call_len_seq (by rfl) T.len (by decide +kernel) (pa_cons (pv 1) pa_nil)) (nomark _))))) (pss_one (ps_ret pe_bl)) pss_nil)
      (pss_one (ps_ret (pe_cmpR (op_eqD hr.units) (pe_lc (own := [("k", 2)]) rfl sc_law_same.nd (pi_range1 rfl T.range (pa_cons (pe_callB call_len_seq (by rfl) T.len (by decide +kernel) (pa_cons (pv 1) pa_nil)) pa_nil)) (blkOk_by (N := ["found", "wanted", "k"]) (sc := defScope s_same) (by decide +kernel)) (fun _ _ _ _ _ => (pg_name (i := 2) sc_law_same.nd rfl (Or.inl rfl))) (fun _ _ _ _ _ => (pts_one (pt_not (pt_val (pe_cal cR hr (Nat.le_refl _) (by rfl) (pa_cons (pe_ix (show IxR _ (rIx K) from ix_seq) (pv 0) (pv 2) (fun _ _ => rfl)) (pa_cons (pe_ix (show IxR _ (rIx K) from ix_seq) (pv 1) (pv 2) (fun _ _ => rfl)) pa_nil))))))) (fun _ _ _ _ _ => (pv 2))) (pe_lst pa_nil) (nomark _)))))))))), ?_⟩
    have kk : Q (.bl true) H := k H (Same.refl H)
    cases hx with
    | non =>
      cases hy
      refine ⟨_, rfl, rfl, _, rfl, iteT ?_⟩
      exact ⟨_, rfl, rfl, kk⟩
    | bl b =>
      cases hy
      refine ⟨_, rfl, rfl, _, rfl, iteF ?_⟩
      refine ⟨_, rfl, _, _, _, _, _, rfl, .ty "bool", .base (.bl b), kit_ty (show kitB "bool" "bool" = some true by decide +kernel), _, rfl, iteT ?_⟩
      refine ⟨_, rfl, _, _, _, _, _, rfl, .ty "bool", .base (.bl b), kit_ty (show kitB "bool" "bool" = some true by decide +kernel), _, rfl, iteT ?_⟩
      refine ⟨_, rfl, _, rfl, rfl, ?_⟩
      rw [decide_eq_true (Eq.refl (V.bl b))]
      exact kk
    | int i =>
      cases hy
      refine ⟨_, rfl, rfl, _, rfl, iteF ?_⟩
      refine ⟨_, rfl, _, _, _, _, _, rfl, .ty "bool", .base (.int i), kit_ty (show kitB "int" "bool" = some false by decide +kernel), _, rfl, iteF ?_⟩
      refine ⟨_, rfl, _, _, _, _, _, rfl, .ty "int", .base (.int i), kit_ty (show kitB "int" "int" = some true by decide +kernel), _, rfl, iteT ?_⟩
      refine ⟨_, rfl, _, _, _, _, _, rfl, .ty "int", .base (.int i), kit_ty (show kitB "int" "int" = some true by decide +kernel), _, rfl, iteT ?_⟩
      refine ⟨_, rfl, _, _, _, _, _, rfl, .ty "bool", .base (.int i), kit_ty (show kitB "int" "bool" = some false by decide +kernel), _, rfl, _, rfl, iteT ?_⟩
      refine ⟨_, rfl, _, rfl, rfl, ?_⟩
      rw [decide_eq_true (Eq.refl (V.int i))]
      exact kk
    | str z =>
      cases hy
      refine ⟨_, rfl, rfl, _, rfl, iteF ?_⟩
      refine ⟨_, rfl, _, _, _, _, _, rfl, .ty "bool", .base (.str z), kit_ty (show kitB "str" "bool" = some false by decide +kernel), _, rfl, iteF ?_⟩
      refine ⟨_, rfl, _, _, _, _, _, rfl, .ty "int", .base (.str z), kit_ty (show kitB "str" "int" = some false by decide +kernel), _, rfl, iteF ?_⟩
      refine ⟨_, rfl, _, _, _, _, _, rfl, .ty "str", .base (.str z), kit_ty (show kitB "str" "str" = some true by decide +kernel), _, rfl, iteT ?_⟩
      refine ⟨_, rfl, _, _, _, _, _, rfl, .ty "str", .base (.str z), kit_ty (show kitB "str" "str" = some true by decide +kernel), _, rfl, iteT ?_⟩
      refine ⟨_, rfl, _, rfl, rfl, ?_⟩
      rw [decide_eq_true (Eq.refl (V.str z))]
      exact kk
    | @lst a xs ds qx rx =>
      cases hy with
      | @lst a' ys _ qy ry =>
        have dl : PyData.depthAll ds < n := by
          simp only [PyData.depth] at hd
          omega
        simp only [wid] at hw
        have wl : ds.length ≤ 1000 := Nat.le_trans (Nat.le_max_left _ _) hw
        have wa : widAll ds ≤ 1000 := Nat.le_trans (Nat.le_max_right _ _) hw
        have yl := dps_len ry
        refine ⟨_, rfl, rfl, _, rfl, iteF ?_⟩
        refine ⟨_, rfl, _, _, _, _, _, rfl, .ty "bool", (ty_l qy), kit_ty (show kitB "list" "bool" = some false by decide +kernel), _, rfl, iteF ?_⟩
        refine ⟨_, rfl, _, _, _, _, _, rfl, .ty "int", (ty_l qy), kit_ty (show kitB "list" "int" = some false by decide +kernel), _, rfl, iteF ?_⟩
        refine ⟨_, rfl, _, _, _, _, _, rfl, .ty "str", (ty_l qy), kit_ty (show kitB "list" "str" = some false by decide +kernel), _, rfl, iteF ?_⟩
        refine ⟨_, rfl, _, _, _, _, _, rfl, .ty "list", (ty_l qx), kit_ty (show kitB "list" "list" = some true by decide +kernel), _, rfl, _, _, _, _, _, rfl, .ty "list", (ty_l qy), kit_ty (show kitB "list" "list" = some true by decide +kernel), rfl, _, rfl, iteF ?_⟩
        refine ⟨_, rfl, _, _, _, _, _, rfl, .ty "tuple", (ty_l qx), kit_ty (show kitB "list" "tuple" = some false by decide +kernel), _, rfl, _, _, _, _, _, rfl, .ty "tuple", (ty_l qy), kit_ty (show kitB "list" "tuple" = some false by decide +kernel), rfl, _, rfl, ?_⟩
        refine iteF (B := _) ?_
        refine ⟨_, rfl, a, xs, rfl, .inl qx, _, rfl, a', ys, rfl, .inl qy, rfl, _, rfl, iteNS ?_ ?_⟩
        · rw [dps_len rx, dps_len ry]
        refine ⟨_, rfl, a', ys, rfl, .inl qy, _, rfl, ?_, ?_, fun D hD => ?_⟩
        · omega
        · omega
        refine lc_range (lo := 0) (n := ys.length) (fun _ H' => Same H H' ∧ H' D = some (.lst [])) ⟨same_upd (Same.refl H) hD, upd_same⟩ (fun i H' hi h => ?_) (fun H' h => ?_)
        · obtain ⟨e, eD⟩ := h
          obtain ⟨v1, d1, g1, g2, g3⟩ := dps_at (i := i) rx (by rw [← dps_len ry]; exact hi)
          obtain ⟨v2, d2, g4, g5, g6⟩ := dps_at (i := i) ry (by rw [← dps_len ry]; exact hi)
          obtain rfl : d1 = d2 := Option.some.inj (g2.symm.trans g5)
          refine ⟨rfl, _, rfl, _, rfl, Or.inl ⟨a, xs, _, v1, rfl, rfl, Same.seq e qx, at_of (j := i) (by omega) g1, ?_⟩⟩
          refine ⟨_, rfl, _, rfl, Or.inl ⟨a', ys, _, v2, rfl, rfl, Same.seq e qy, at_of (j := i) (by omega) g4, ?_⟩⟩
          refine ⟨v1, v2, d1, rfl, dp_same e _ _ g3, dp_same e _ _ g6, Nat.lt_of_le_of_lt (depth_at g2) dl, Nat.le_trans (wid_at g2) wa, fun H2 e2 => ⟨_, rfl, iteF ?_⟩⟩
          exact ⟨e.trans e2, e2 _ _ eD⟩
        · obtain ⟨e, eD⟩ := h
          refine ⟨Nat.zero_le _, fun p hp => ⟨.list [], .list [], .lst (SqL.of (by rw [upd_ne (ne_of_none eD hp)]; exact eD)) .nil, .lst (SqL.of upd_same) .nil, rfl, rfl, k _ (same_upd e hp)⟩⟩
    | @tup a xs ds qx rx =>
      cases hy with
      | @tup a' ys _ qy ry =>
        have dl : PyData.depthAll ds < n := by
          simp only [PyData.depth] at hd
          omega
        simp only [wid] at hw
        have wl : ds.length ≤ 1000 := Nat.le_trans (Nat.le_max_left _ _) hw
        have wa : widAll ds ≤ 1000 := Nat.le_trans (Nat.le_max_right _ _) hw
        have yl := dps_len ry
        refine ⟨_, rfl, rfl, _, rfl, iteF ?_⟩
        refine ⟨_, rfl, _, _, _, _, _, rfl, .ty "bool", (ty_t qy), kit_ty (show kitB "tuple" "bool" = some false by decide +kernel), _, rfl, iteF ?_⟩
        refine ⟨_, rfl, _, _, _, _, _, rfl, .ty "int", (ty_t qy), kit_ty (show kitB "tuple" "int" = some false by decide +kernel), _, rfl, iteF ?_⟩
        refine ⟨_, rfl, _, _, _, _, _, rfl, .ty "str", (ty_t qy), kit_ty (show kitB "tuple" "str" = some false by decide +kernel), _, rfl, iteF ?_⟩
        refine ⟨_, rfl, _, _, _, _, _, rfl, .ty "list", (ty_t qx), kit_ty (show kitB "tuple" "list" = some false by decide +kernel), _, rfl, _, _, _, _, _, rfl, .ty "list", (ty_t qy), kit_ty (show kitB "tuple" "list" = some false by decide +kernel), rfl, _, rfl, iteF ?_⟩
        refine ⟨_, rfl, _, _, _, _, _, rfl, .ty "tuple", (ty_t qx), kit_ty (show kitB "tuple" "tuple" = some true by decide +kernel), _, rfl, _, _, _, _, _, rfl, .ty "tuple", (ty_t qy), kit_ty (show kitB "tuple" "tuple" = some true by decide +kernel), rfl, _, rfl, ?_⟩
        refine iteF (B := _) ?_
        refine ⟨_, rfl, a, xs, rfl, .inr qx, _, rfl, a', ys, rfl, .inr qy, rfl, _, rfl, iteNS ?_ ?_⟩
        · rw [dps_len rx, dps_len ry]
        refine ⟨_, rfl, a', ys, rfl, .inr qy, _, rfl, ?_, ?_, fun D hD => ?_⟩
        · omega
        · omega
        refine lc_range (lo := 0) (n := ys.length) (fun _ H' => Same H H' ∧ H' D = some (.lst [])) ⟨same_upd (Same.refl H) hD, upd_same⟩ (fun i H' hi h => ?_) (fun H' h => ?_)
        · obtain ⟨e, eD⟩ := h
          obtain ⟨v1, d1, g1, g2, g3⟩ := dps_at (i := i) rx (by rw [← dps_len ry]; exact hi)
          obtain ⟨v2, d2, g4, g5, g6⟩ := dps_at (i := i) ry (by rw [← dps_len ry]; exact hi)
          obtain rfl : d1 = d2 := Option.some.inj (g2.symm.trans g5)
          refine ⟨rfl, _, rfl, _, rfl, Or.inr <| Or.inl ⟨a, xs, _, v1, rfl, rfl, seq_t e qx, at_of (j := i) (by omega) g1, ?_⟩⟩
          refine ⟨_, rfl, _, rfl, Or.inr <| Or.inl ⟨a', ys, _, v2, rfl, rfl, seq_t e qy, at_of (j := i) (by omega) g4, ?_⟩⟩
          refine ⟨v1, v2, d1, rfl, dp_same e _ _ g3, dp_same e _ _ g6, Nat.lt_of_le_of_lt (depth_at g2) dl, Nat.le_trans (wid_at g2) wa, fun H2 e2 => ⟨_, rfl, iteF ?_⟩⟩
          exact ⟨e.trans e2, e2 _ _ eD⟩
        · obtain ⟨e, eD⟩ := h
          refine ⟨Nat.zero_le _, fun p hp => ⟨.list [], .list [], .lst (SqL.of (by rw [upd_ne (ne_of_none eD hp)]; exact eD)) .nil, .lst (SqL.of upd_same) .nil, rfl, rfl, k _ (same_upd e hp)⟩⟩
end
end Gc

/-! heaps, lengths of boxes, dicts out of pairs -/
namespace Gc
open PySem L2
theorem same_freeU {H H' : Hp} {d : Addr} {o : HO} (e : Same H H') (h : H d = none) : Same H (upd H' d o) := fun b u hb => by
  rw [upd_ne (ne_of_none hb h)]
  exact e b u hb
theorem go_len : ∀ {r : List Cmd} {off need : Int} {b : Ps} {st : Option Int} {b' : Ps}, go r off need b = some (st, b') → b'.length ≤ b.length + r.length
  | [], _, _, b, _, _, h => by cases h; exact Nat.le_refl _
  | .home :: r, _, _, b, _, _, h => by cases h
  | .stop :: r, _, _, b, _, _, h => by cases h; exact Nat.le_add_right _ _
  | .right n :: r, off, need, b, st, b', h => by
    have q := req_len b off need
    rw [List.length_cons]
    simp only [go] at h
    split at h
    · have := go_len h
      omega
    · cases h
      omega
  | .left n :: r, off, need, b, st, b', h => by
    have q := req_len b off (need + n)
    rw [List.length_cons]
    simp only [go] at h
    have := go_len h
    omega
  | .down n :: r, off, need, b, st, b', h => by
    rw [List.length_cons]
    simp only [go] at h
    have := go_len h
    omega
  | .up n :: r, off, need, b, st, b', h => by
    rw [List.length_cons]
    simp only [go] at h
    have := go_len h
    omega
theorem box_len {cs : List Cmd} {goal : Int} {st : Option Int} {L : Ps} (h : boxM cs goal = some (st, L)) : L.length ≤ cs.length := by
  unfold boxM at h
  cases e : go cs.reverse (last cs) goal [] with
  | none =>
    rw [e] at h
    cases h
  | some x =>
    rw [e] at h
    obtain ⟨st', b'⟩ := x
    have q := go_len e
    have h' : (st', b'.mergeSort leK) = (st, L) := Option.some.inj h
    cases h'
    rw [List.length_mergeSort]
    rw [List.length_reverse, List.length_nil] at q
    omega
theorem merge_dkI : ∀ (b acc : Ps), (keys acc ++ keys b).Nodup → mergeK (dkI acc) (dkI b) = dkI (acc ++ b)
  | [], acc, _ => by rw [List.append_nil]; rfl
  | q :: b, acc, h => by
    have nq : q.1 ∉ keys acc := fun z => by
      have := (List.nodup_append.mp h).2.2 q.1 z q.1 List.mem_cons_self
      exact this rfl
    show mergeK (putK (dkI acc) (Sum.inl q.1 : L2.Key) (.int q.2)) (dkI b) = _
    rw [putK_dkI]
    have e : put acc q.1 q.2 = acc ++ [q] := by
      unfold put
      rw [if_neg fun z => nq ((any_key acc q.1).mp z)]
    rw [e, merge_dkI b (acc ++ [q]) (by
      have e2 : keys (acc ++ [q]) ++ keys b = keys acc ++ keys (q :: b) := by
        unfold keys
        simp
      rw [e2]
      exact h), List.append_assoc]
    rfl
theorem paired_dkI {K : PySem.W.Frag} {H : Hp} : ∀ {ps : List Addr} {qs : Ps}, Paired (fun (p : Addr) (q : Int × Int) => H p = some (.tup [.int q.1, .int q.2])) ps qs → Paired (fun (p : Addr) (kv : L2.Key × V) => SqT K H p [kV kv.1, kv.2]) ps (dkI qs)
  | _, _, .nil => .nil
  | _, _, .cons h t => .cons (SqT.of h) (paired_dkI t)
theorem ref_at {ts : List Addr} {i : Nat} {x : V} (h : (ts.map V.ref)[i]? = some x) : ∃ t, ts[i]? = some t ∧ x = .ref t := by
  rw [List.getElem?_map] at h
  cases e : ts[i]? with
  | none =>
    rw [e] at h
    cases h
  | some t =>
    rw [e] at h
    exact ⟨t, rfl, (Option.some.inj h).symm⟩
theorem dki_len (b : Ps) : (dkI b).length = b.length := List.length_map ..
end Gc

/-! what repr wants of the data that the laws show -/
namespace Gc
open PySem PySem.Spec PyProof.Rows L2
def Sml (x : Int) : Prop := x.natAbs < 2 ^ 120
theorem sml_log {x : Int} (h : Sml x) : x.natAbs.log2 < 121 := Nat.lt_of_lt_of_le (PySem.Flt.log2_lt_of (k := 121) (by decide) (Nat.lt_trans h (by decide))) (Nat.le_refl _)
theorem sml_show {x : Int} (h : Sml x) : (PyData.int x).showable = true := by
  have := sml_log h
  simp only [PyData.showable, decide_eq_true_eq]
  omega
theorem sml_short {x : Int} (h : Sml x) : (PyData.int x).leavesShort 130 = true := by
  have e := int_text_length_le (k := 121) (by decide) (sml_log h)
  have e' : (PyData.shown (.int x)).length ≤ 130 := by
    have e2 : (PyData.shown (.int x)).length = (toString x).length := by
      show (Str.ofString (toString x)).length = _
      rw [PySem.ofString_length]
    omega
  simpa only [PyData.leavesShort, decide_eq_true_eq] using e'
theorem sml_weight {x : Int} (h : Sml x) : (PyData.int x).weight ≤ 122 := by
  have := sml_log h
  simp only [PyData.weight]
  split <;> omega
def Ok0 (d : PyData) : Prop := d.showable = true ∧ d.hasDict = false ∧ d.leavesShort 130 = true
def Ok0s (ds : List PyData) : Prop := PyData.showableAll ds = true ∧ PyData.hasDictAll ds = false ∧ PyData.leavesShortAll 130 ds = true
theorem ok0_int {x : Int} (h : Sml x) : Ok0 (.int x) := ⟨sml_show h, by simp only [PyData.hasDict], sml_short h⟩
theorem ok0_nil : Ok0s [] := ⟨by simp only [PyData.showableAll], by simp only [PyData.hasDictAll], by simp only [PyData.leavesShortAll]⟩
theorem ok0_cons {d : PyData} {ds : List PyData} (h : Ok0 d) (t : Ok0s ds) : Ok0s (d :: ds) := by
  obtain ⟨a1, a2, a3⟩ := h
  obtain ⟨b1, b2, b3⟩ := t
  refine ⟨?_, ?_, ?_⟩
  · simp only [PyData.showableAll, a1, b1, Bool.and_self]
  · simp only [PyData.hasDictAll, a2, b2, Bool.or_self]
  · simp only [PyData.leavesShortAll, a3, b3, Bool.and_self]
theorem ok0_list {ds : List PyData} (h : Ok0s ds) : Ok0 (.list ds) := by
  obtain ⟨b1, b2, b3⟩ := h
  refine ⟨?_, ?_, ?_⟩
  · simpa only [PyData.showable] using b1
  · simpa only [PyData.hasDict] using b2
  · simpa only [PyData.leavesShort] using b3
theorem ok0_tup {ds : List PyData} (h : Ok0s ds) : Ok0 (.tuple ds) := by
  obtain ⟨b1, b2, b3⟩ := h
  refine ⟨?_, ?_, ?_⟩
  · simpa only [PyData.showable] using b1
  · simpa only [PyData.hasDict] using b2
  · simpa only [PyData.leavesShort] using b3
theorem ok0_len {d : PyData} (h : Ok0 d) (w : d.weight ≤ 100000) : d.shown.length ≤ sizeLine := by
  have e := PyData.shown_le 130 (by decide) d h.2.2
  rw [sizeLine_eq]
  have : (130 + 2) * d.weight ≤ (130 + 2) * 100000 := Nat.mul_le_mul_left _ w
  omega
theorem ok0_ints : ∀ {T : List Int}, (∀ x ∈ T, Sml x) → Ok0s (T.map PyData.int)
  | [], _ => ok0_nil
  | x :: T, h => ok0_cons (ok0_int (h x List.mem_cons_self)) (ok0_ints fun y hy => h y (List.mem_cons_of_mem _ hy))
theorem weight_ints : ∀ {T : List Int}, (∀ x ∈ T, Sml x) → PyData.weightAll (T.map PyData.int) ≤ 123 * T.length
  | [], _ => by simp [PyData.weightAll]
  | x :: T, h => by
    have a := sml_weight (h x List.mem_cons_self)
    have b := weight_ints (T := T) fun y hy => h y (List.mem_cons_of_mem _ hy)
    simp only [List.map_cons, PyData.weightAll, List.length_cons]
    omega
theorem deep_ints : ∀ T : List Int, PyData.depthAll (T.map PyData.int) = 0
  | [] => by simp [PyData.depthAll]
  | x :: T => by simp [PyData.depthAll, PyData.depth, deep_ints T]
/-- a text and a cursor -/
def textD (T : List Int) (r a : Int) : PyData := .tuple [.list (T.map PyData.int), .tuple [.int r, .int a]]
theorem textD_ok {T : List Int} {r a : Int} (hT : ∀ x ∈ T, Sml x) (hr : Sml r) (ha : Sml a) (l : T.length ≤ 500) : (textD T r a).showable = true ∧ (textD T r a).hasDict = false ∧ (textD T r a).depth ≤ 60 ∧ (textD T r a).shown.length ≤ sizeLine := by
  have o : Ok0 (textD T r a) := ok0_tup (ok0_cons (ok0_list (ok0_ints hT)) (ok0_cons (ok0_tup (ok0_cons (ok0_int hr) (ok0_cons (ok0_int ha) ok0_nil))) ok0_nil))
  refine ⟨o.1, o.2.1, ?_, ok0_len o ?_⟩
  · simp only [textD, PyData.depth, PyData.depthAll, deep_ints]
    omega
  · have a1 := weight_ints hT
    have a2 := sml_weight hr
    have a3 := sml_weight ha
    simp only [PyData.weight] at a2 a3
    simp only [textD, PyData.weight, PyData.weightAll]
    omega
/-! ### commands as data -/
def cmdD : Cmd → PyData
  | .down n => .tuple [.str "down", .int n]
  | .up n => .tuple [.str "up", .int n]
  | .right n => .tuple [.str "right", .int n]
  | .left n => .tuple [.str "left", .int n]
  | .home => .tuple [.str "home"]
  | .stop => .tuple [.str "end"]
theorem CmdAt.dp {K : PySem.W.Frag} {H : Hp} {v : V} {c : Cmd} (h : CmdAt K H v c) : Dp K H v (cmdD c) := by
  obtain ⟨a, rfl, h⟩ := h
  cases c with
  | down n => exact .tup h (.cons (.str _) (.cons (.int n) .nil))
  | up n => exact .tup h (.cons (.str _) (.cons (.int n) .nil))
  | right n => exact .tup h (.cons (.str _) (.cons (.int n) .nil))
  | left n => exact .tup h (.cons (.str _) (.cons (.int n) .nil))
  | home => exact .tup h (.cons (.str _) .nil)
  | stop => exact .tup h (.cons (.str _) .nil)
theorem CmdsOf.dp {K : PySem.W.Frag} {H : Hp} : ∀ {xs : List V} {cs : List Cmd}, CmdsOf K H xs cs → DpAll K H xs (cs.map cmdD)
  | _, _, .nil => .nil
  | _, _, .cons h t => .cons h.dp (CmdsOf.dp t)
def CSml : Cmd → Prop
  | .down n => Sml n
  | .up n => Sml n
  | .right n => Sml n
  | .left n => Sml n
  | _ => True
theorem ok0_str {x : Str} (h : (PyData.str x).leavesShort 130 = true) : Ok0 (.str x) := ⟨by simp only [PyData.showable], by simp only [PyData.hasDict], h⟩
theorem cmdD_ok {c : Cmd} (h : CSml c) : Ok0 (cmdD c) ∧ (cmdD c).weight ≤ 200 ∧ (cmdD c).depth ≤ 5 := by
  cases c with
  | down n =>
    have w := sml_weight h
    refine ⟨ok0_tup (ok0_cons (ok0_str (by decide +kernel)) (ok0_cons (ok0_int h) ok0_nil)), ?_, by simp [cmdD, PyData.depth, PyData.depthAll]⟩
    have e : (PyData.str "down").weight = 4 := by decide +kernel
    simp only [cmdD, PyData.weight, PyData.weightAll] at w e ⊢
    omega
  | up n =>
    have w := sml_weight h
    refine ⟨ok0_tup (ok0_cons (ok0_str (by decide +kernel)) (ok0_cons (ok0_int h) ok0_nil)), ?_, by simp [cmdD, PyData.depth, PyData.depthAll]⟩
    have e : (PyData.str "up").weight = 2 := by decide +kernel
    simp only [cmdD, PyData.weight, PyData.weightAll] at w e ⊢
    omega
  | right n =>
    have w := sml_weight h
    refine ⟨ok0_tup (ok0_cons (ok0_str (by decide +kernel)) (ok0_cons (ok0_int h) ok0_nil)), ?_, by simp [cmdD, PyData.depth, PyData.depthAll]⟩
    have e : (PyData.str "right").weight = 5 := by decide +kernel
    simp only [cmdD, PyData.weight, PyData.weightAll] at w e ⊢
    omega
  | left n =>
    have w := sml_weight h
    refine ⟨ok0_tup (ok0_cons (ok0_str (by decide +kernel)) (ok0_cons (ok0_int h) ok0_nil)), ?_, by simp [cmdD, PyData.depth, PyData.depthAll]⟩
    have e : (PyData.str "left").weight = 4 := by decide +kernel
    simp only [cmdD, PyData.weight, PyData.weightAll] at w e ⊢
    omega
  | home => exact ⟨ok0_tup (ok0_cons (ok0_str (by decide +kernel)) ok0_nil), by decide +kernel, by simp [cmdD, PyData.depth, PyData.depthAll]⟩
  | stop => exact ⟨ok0_tup (ok0_cons (ok0_str (by decide +kernel)) ok0_nil), by decide +kernel, by simp [cmdD, PyData.depth, PyData.depthAll]⟩
theorem cmds_ok0 : ∀ {cs : List Cmd}, (∀ c ∈ cs, CSml c) → Ok0s (cs.map cmdD) ∧ PyData.weightAll (cs.map cmdD) ≤ 201 * cs.length ∧ PyData.depthAll (cs.map cmdD) ≤ 5
  | [], _ => ⟨ok0_nil, by simp [PyData.weightAll], by simp [PyData.depthAll]⟩
  | c :: cs, h => by
    obtain ⟨a1, a2, a3⟩ := cmdD_ok (h c List.mem_cons_self)
    obtain ⟨b1, b2, b3⟩ := cmds_ok0 (cs := cs) fun d hd => h d (List.mem_cons_of_mem _ hd)
    refine ⟨ok0_cons a1 b1, ?_, ?_⟩
    · simp only [List.map_cons, PyData.weightAll, List.length_cons]
      omega
    · simp only [List.map_cons, PyData.depthAll]
      omega
theorem cmds_ok {cs : List Cmd} (h : ∀ c ∈ cs, CSml c) (l : cs.length ≤ 300) : (PyData.list (cs.map cmdD)).showable = true ∧ (PyData.list (cs.map cmdD)).hasDict = false ∧ (PyData.list (cs.map cmdD)).depth ≤ 60 ∧ (PyData.list (cs.map cmdD)).shown.length ≤ sizeLine := by
  obtain ⟨a1, a2, a3⟩ := cmds_ok0 h
  have o := ok0_list a1
  refine ⟨o.1, o.2.1, ?_, ok0_len o ?_⟩
  · simp only [PyData.depth]
    omega
  · simp only [PyData.weight]
    omega
/-! ### boxes as data -/
def optD : Option Int → PyData
  | none => .none
  | some n => .int n
def pairD (q : Int × Int) : PyData := .tuple [.int q.1, .int q.2]
def boxD : Option (Option Int × Ps) → PyData
  | none => .none
  | some x => .tuple [optD x.1, .list (x.2.map pairD)]
def BSml : Option (Option Int × Ps) → Prop
  | none => True
  | some x => (∀ n, x.1 = some n → Sml n) ∧ ∀ q ∈ x.2, Sml q.1 ∧ Sml q.2
theorem ok0_none : Ok0 .none := ⟨by simp only [PyData.showable], by simp only [PyData.hasDict], by simp only [PyData.leavesShort]⟩
theorem pairs_ok0 : ∀ {L : Ps}, (∀ q ∈ L, Sml q.1 ∧ Sml q.2) → Ok0s (L.map pairD) ∧ PyData.weightAll (L.map pairD) ≤ 247 * L.length ∧ PyData.depthAll (L.map pairD) ≤ 5
  | [], _ => ⟨ok0_nil, by simp [PyData.weightAll], by simp [PyData.depthAll]⟩
  | q :: L, h => by
    obtain ⟨a, b⟩ := h q List.mem_cons_self
    obtain ⟨c1, c2, c3⟩ := pairs_ok0 (L := L) fun p hp => h p (List.mem_cons_of_mem _ hp)
    have wa := sml_weight a
    have wb := sml_weight b
    refine ⟨ok0_cons (ok0_tup (ok0_cons (ok0_int a) (ok0_cons (ok0_int b) ok0_nil))) c1, ?_, ?_⟩
    · simp only [PyData.weight] at wa wb
      simp only [List.map_cons, pairD, PyData.weight, PyData.weightAll, List.length_cons] at c2 ⊢
      omega
    · simp only [List.map_cons, pairD, PyData.depth, PyData.depthAll] at c3 ⊢
      omega
theorem boxD_ok0 {o : Option (Option Int × Ps)} {n : Nat} (h : BSml o) (l : ∀ x, o = some x → x.2.length ≤ n) : Ok0 (boxD o) ∧ (boxD o).weight ≤ 247 * n + 200 ∧ (boxD o).depth ≤ 10 := by
  cases o with
  | none => exact ⟨ok0_none, by simp [boxD, PyData.weight], by simp [boxD, PyData.depth]⟩
  | some x =>
    obtain ⟨st, L⟩ := x
    obtain ⟨h1, h2⟩ := h
    have h2' : ∀ q ∈ L, Sml q.1 ∧ Sml q.2 := h2
    obtain ⟨c1, c2, c3⟩ := pairs_ok0 h2'
    have ln : L.length ≤ n := l _ rfl
    have o1 : Ok0 (optD st) ∧ (optD st).weight ≤ 122 ∧ (optD st).depth = 0 := by
      cases st with
      | none => exact ⟨ok0_none, by simp [optD, PyData.weight], by simp [optD, PyData.depth]⟩
      | some n => exact ⟨ok0_int (h1 n rfl), sml_weight (h1 n rfl), by simp [optD, PyData.depth]⟩
    obtain ⟨d1, d2, d3⟩ := o1
    refine ⟨ok0_tup (ok0_cons d1 (ok0_cons (ok0_list c1) ok0_nil)), ?_, ?_⟩
    · have m : 247 * L.length ≤ 247 * n := Nat.mul_le_mul_left _ ln
      simp only [boxD, PyData.weight, PyData.weightAll]
      omega
    · simp only [boxD, PyData.depth, PyData.depthAll]
      omega
theorem boxes_ok0 {n : Nat} : ∀ {os : List (Option (Option Int × Ps))}, (∀ o ∈ os, BSml o ∧ ∀ x, o = some x → x.2.length ≤ n) → Ok0s (os.map boxD) ∧ PyData.weightAll (os.map boxD) ≤ (247 * n + 201) * os.length ∧ PyData.depthAll (os.map boxD) ≤ 10
  | [], _ => ⟨ok0_nil, by simp [PyData.weightAll], by simp [PyData.depthAll]⟩
  | o :: os, h => by
    obtain ⟨a, b⟩ := h o List.mem_cons_self
    obtain ⟨c1, c2, c3⟩ := boxD_ok0 a b
    obtain ⟨d1, d2, d3⟩ := boxes_ok0 (os := os) fun p hp => h p (List.mem_cons_of_mem _ hp)
    refine ⟨ok0_cons c1 d1, ?_, ?_⟩
    · rw [List.map_cons, List.length_cons, Nat.mul_succ]
      simp only [PyData.weightAll]
      omega
    · simp only [List.map_cons, PyData.depthAll]
      omega
/-- a list of at most ten boxes of at most thirty lines each -/
theorem boxes_ok {os : List (Option (Option Int × Ps))} (h : ∀ o ∈ os, BSml o ∧ ∀ x, o = some x → x.2.length ≤ 30) (l : os.length ≤ 10) :
    (PyData.list (os.map boxD)).showable = true ∧ (PyData.list (os.map boxD)).hasDict = false ∧ (PyData.list (os.map boxD)).depth ≤ 60 ∧ (PyData.list (os.map boxD)).shown.length ≤ sizeLine := by
  obtain ⟨a1, a2, a3⟩ := boxes_ok0 h
  have o := ok0_list a1
  refine ⟨o.1, o.2.1, ?_, ok0_len o ?_⟩
  · simp only [PyData.depth]
    omega
  · have m : (247 * 30 + 201) * os.length ≤ (247 * 30 + 201) * 10 := Nat.mul_le_mul_left _ l
    simp only [PyData.weight]
    omega
end Gc

/-! small pieces that many laws use -/
namespace Gc
open PySem L2
theorem lt_line {n : Nat} (h : n ≤ 100000) : n < sizeLine := by
  rw [sizeLine_eq]
  omega
theorem tru_seq {K : PySem.W.Frag} {H : Hp} {l : Addr} {xs : List V} (h : SqL K H l xs) : TruV K (.ref l) H (!xs.isEmpty) := .inl ⟨xs, h, rfl⟩
theorem takeS {α : Type} : ∀ {l : List α} {i : Nat} {x : α}, l[i]? = some x → l.take (i + 1) = l.take i ++ [x]
  | [], i, x, h => by simp at h
  | a :: l, 0, x, h => by
    obtain rfl := Option.some.inj h
    rfl
  | a :: l, i + 1, x, h => by
    have ih := takeS (l := l) (i := i) (x := x) h
    show a :: l.take (i + 1) = a :: l.take i ++ [x]
    rw [ih]
    rfl
theorem pairS {α β : Type} {F : α → β → Prop} : ∀ {xs : List α} {ys : List β} {x : α} {y : β}, Paired F xs ys → F x y → Paired F (xs ++ [x]) (ys ++ [y])
  | _, _, _, _, .nil, h => .cons h .nil
  | _, _, _, _, .cons f t, h => .cons f (pairS t h)
/-- a new object, told apart -/
theorem new_same {H : Hp} {p : Addr} {o : HO} (h : H p = none) : Same H (upd H p o) := fun b u hb => by
  rw [upd_ne (ne_of_none hb h)]
  exact hb
/-- a list is written; commands stand -/
theorem CmdsOf.atL {K : PySem.W.Frag} {H : Hp} {l : Addr} {ys zs : List V} {xs : List V} {cs : List Cmd} (hl : H l = some (.lst ys)) (h : CmdsOf K H xs cs) : CmdsOf K (upd H l (.lst zs)) xs cs := Paired.mapP h fun _ _ q => by
  obtain ⟨a, e1, h1⟩ := q
  refine ⟨a, e1, ?_⟩
  rcases h1 with (z | ⟨o, z⟩) | z
  · exact .inl (.inl (by rw [upd_ne (ne_of z hl (by intro q; cases q))]; exact z))
  · exact .inl (.inr ⟨o, by rw [upd_ne (ne_of z hl (by intro q; cases q))]; exact z⟩)
  · exact .inr z
end Gc
namespace Gc
open PySem L2
def nameC : Cmd → Str
  | .down _ => "down"
  | .up _ => "up"
  | .right _ => "right"
  | .left _ => "left"
  | .home => "home"
  | .stop => "end"
theorem enc_at (c : Cmd) : atI (encC c) 0 = some (.str (nameC c)) := by cases c <;> rfl
theorem getK {H : Hp} {p : Addr} {kvs : List (L2.Key × V)} {k : Str} {v : V} (h : H p = some (.dK kvs)) (e : valV kvs (.inr k : L2.Key) = some v) : DGet H p (.str k) (some v) := e ▸ DGet.k (k := .inr k) h
end Gc
namespace Gc
open PySem L2
/-! slices by places -/
theorem cutHi {xs : List V} {n : Nat} {z : Int} (e : z = (n : Int)) (h : n ≤ xs.length) : cutV xs none (some z) = xs.take n := by
  subst e
  unfold cutV
  rw [HT.sIx_none, HT.sIx_nat, List.drop_zero, Nat.sub_zero]
  congr 1
  omega
theorem cutLo {xs : List V} {n : Nat} {z : Int} (e : z = (n : Int)) : cutV xs (some z) none = xs.drop n := by
  subst e
  unfold cutV
  rw [HT.sIx_none, HT.sIx_nat]
  by_cases h : n ≤ xs.length
  · rw [Nat.min_eq_left h]
    exact List.take_of_length_le (by rw [List.length_drop]; exact Nat.le_refl _)
  · rw [Nat.min_eq_right (by omega), List.drop_eq_nil_of_le (Nat.le_refl _), List.take_nil, List.drop_eq_nil_of_le (by omega)]
theorem cutOne {xs : List V} {n m : Nat} {z y : Int} (e : z = (n : Int)) (e2 : y = (m : Int)) (hn : n ≤ xs.length) (hm : n ≤ m) : cutV xs (some z) (some y) = (xs.drop n).take (m - n) := by
  subst e e2
  unfold cutV
  rw [HT.sIx_nat, HT.sIx_nat, Nat.min_eq_left hn]
  by_cases h : m ≤ xs.length
  · rw [Nat.min_eq_left h]
  · rw [Nat.min_eq_right (by omega)]
    rw [List.take_of_length_le (l := xs.drop n) (by rw [List.length_drop]; exact Nat.le_refl _), List.take_of_length_le (by rw [List.length_drop]; omega)]
theorem paired_take {α β : Type} {F : α → β → Prop} : ∀ (n : Nat) {xs : List α} {ys : List β}, Paired F xs ys → Paired F (xs.take n) (ys.take n)
  | 0, _, _, _ => .nil
  | n + 1, _, _, .nil => .nil
  | n + 1, _, _, .cons h t => .cons h (paired_take n t)
theorem paired_drop {α β : Type} {F : α → β → Prop} : ∀ (n : Nat) {xs : List α} {ys : List β}, Paired F xs ys → Paired F (xs.drop n) (ys.drop n)
  | 0, _, _, h => h
  | n + 1, _, _, .nil => .nil
  | n + 1, _, _, .cons _ t => paired_drop n t
theorem paired_app {α β : Type} {F : α → β → Prop} : ∀ {xs xs' : List α} {ys ys' : List β}, Paired F xs ys → Paired F xs' ys' → Paired F (xs ++ xs') (ys ++ ys')
  | _, _, _, _, .nil, h => h
  | _, _, _, _, .cons h t, g => .cons h (paired_app t g)
end Gc

/-! commands as texts: what is written, and that it can be read back -/
namespace Gc
open PySem PyProof.Rows L2 TL
def mkS (l : List Nat) : Str := ⟨l.toArray⟩
theorem tl_mkS (l : List Nat) : tl (mkS l) = l := rfl
theorem mkS_app (l m : List Nat) : mkS l ++ mkS m = mkS (l ++ m) := ext_tl (by rw [tl_append]; rfl)
theorem mkS_len (l : List Nat) : (mkS l).length = l.length := by rw [len_tl]; rfl
theorem mkS_inj {l m : List Nat} (h : mkS l = mkS m) : l = m := by
  have e := congrArg tl h
  exact e
/-- the number of a command -/
def numC : Cmd → Int
  | .down n => n
  | .up n => n
  | .right n => n
  | .left n => n
  | _ => 0
def letC : Cmd → Nat
  | .down _ => 68
  | .up _ => 85
  | .right _ => 82
  | .left _ => 76
  | .home => 72
  | .stop => 69
/-- the digits that stand ahead of the letter -/
def digC : Cmd → List Nat
  | .down n => numL n.toNat
  | .up n => numL n.toNat
  | .right n => numL n.toNat
  | .left n => numL n.toNat
  | _ => []
def cw (c : Cmd) : List Nat := digC c ++ [letC c]
def noneL : List Nat := [110, 111, 110, 101]
def shownL (cs : List Cmd) : List Nat := if cs = [] then noneL else joinL [32] (cs.map cw)
def shownS (cs : List Cmd) : Str := mkS (shownL cs)
theorem digC_digits (c : Cmd) : NumText.AllDigits (digC c) := by
  cases c with
  | down n => exact numL_digits _
  | up n => exact numL_digits _
  | right n => exact numL_digits _
  | left n => exact numL_digits _
  | home => exact fun _ h => nomatch h
  | stop => exact fun _ h => nomatch h
theorem letC_ge (c : Cmd) : 65 ≤ letC c ∧ letC c ≤ 90 := by cases c <;> simp [letC]
theorem cw_free (c : Cmd) : 32 ∉ cw c := fun h => by
  rcases List.mem_append.mp h with h | h
  · have := digC_digits c 32 h
    omega
  · have e := List.mem_singleton.mp h
    have := letC_ge c
    omega
theorem cw_ne (c : Cmd) : cw c ≠ [] := by simp [cw]
theorem cw_inj {c d : Cmd} (hc : c.ok) (hd : d.ok) (h : cw c = cw d) : c = d := by
  have e1 := congrArg List.getLast? h
  have e2 := congrArg List.dropLast h
  unfold cw at e1 e2
  rw [List.getLast?_concat, List.getLast?_concat] at e1
  rw [List.dropLast_concat, List.dropLast_concat] at e2
  have e3 := Option.some.inj e1
  have key : ∀ {n m : Int}, 1 ≤ n → 1 ≤ m → numL n.toNat = numL m.toNat → n = m := fun h1 h2 z => by
    have := numL_inj z
    omega
  cases c <;> cases d <;> simp only [letC] at e3 <;> first
    | rfl
    | exact absurd e3 (by decide)
    | rw [key hc hd e2]
theorem cws_inj : ∀ {cs ds : List Cmd}, AllOk cs → AllOk ds → cs.map cw = ds.map cw → cs = ds
  | [], [], _, _, _ => rfl
  | [], _ :: _, _, _, h => by cases h
  | _ :: _, [], _, _, h => by cases h
  | c :: cs, d :: ds, h1, h2, h => by
    rw [List.map_cons, List.map_cons] at h
    injection h with e1 e2
    rw [cw_inj (h1 c List.mem_cons_self) (h2 d List.mem_cons_self) e1, cws_inj (fun x hx => h1 x (List.mem_cons_of_mem _ hx)) (fun x hx => h2 x (List.mem_cons_of_mem _ hx)) e2]
theorem join_words {cs : List Cmd} (h : cs ≠ []) : spl [32] 0 [] (joinL [32] (cs.map cw)) = cs.map cw :=
  spl_join (fun e => h (List.map_eq_nil_iff.mp e)) fun p hp => by
    obtain ⟨c, _, rfl⟩ := List.mem_map.mp hp
    exact cw_free c
theorem none_words : spl [32] 0 [] noneL = [noneL] := by decide +kernel
theorem none_no {cs : List Cmd} (h : cs ≠ []) : joinL [32] (cs.map cw) ≠ noneL := fun e => by
  have z := join_words h
  rw [e, none_words] at z
  cases cs with
  | nil => exact h rfl
  | cons c cs =>
    rw [List.map_cons] at z
    injection z with z1 z2
    have z3 := congrArg List.getLast? z1
    unfold cw at z3
    rw [List.getLast?_concat] at z3
    have z4 : (101 : Nat) = letC c := Option.some.inj z3
    have := letC_ge c
    omega
theorem shownL_inj {cs ds : List Cmd} (h1 : AllOk cs) (h2 : AllOk ds) (h : shownL cs = shownL ds) : cs = ds := by
  unfold shownL at h
  by_cases c : cs = []
  · by_cases d : ds = []
    · rw [c, d]
    · rw [if_pos c, if_neg d] at h
      exact absurd h.symm (none_no d)
  · by_cases d : ds = []
    · rw [if_neg c, if_pos d] at h
      exact absurd h (none_no c)
    · rw [if_neg c, if_neg d] at h
      have z1 := join_words c
      rw [h, join_words d] at z1
      exact (cws_inj h2 h1 z1).symm
theorem shownS_inj {cs ds : List Cmd} (h1 : AllOk cs) (h2 : AllOk ds) (h : shownS cs = shownS ds) : cs = ds := shownL_inj h1 h2 (mkS_inj h)
/-! lengths -/
theorem digC_len {c : Cmd} (h : numC c < 10 ^ 40) : (digC c).length ≤ 40 := by
  have key : ∀ n : Int, n < 10 ^ 40 → (numL n.toNat).length ≤ 40 := fun n hn => numL_len (k := 40) (by decide) (by omega)
  cases c with
  | down n => exact key n h
  | up n => exact key n h
  | right n => exact key n h
  | left n => exact key n h
  | home => exact Nat.zero_le _
  | stop => exact Nat.zero_le _
theorem cw_len {c : Cmd} (h : numC c < 10 ^ 40) : (cw c).length ≤ 41 := by
  unfold cw
  rw [List.length_append, List.length_singleton]
  have := digC_len h
  omega
theorem joinL_len {k : Nat} : ∀ {ps : List (List Nat)}, (∀ p ∈ ps, p.length ≤ k) → (joinL [32] ps).length ≤ (k + 1) * ps.length
  | [], _ => Nat.zero_le _
  | [p], h => by
    have := h p (List.mem_singleton.mpr rfl)
    show p.length ≤ (k + 1) * 1
    omega
  | p :: q :: r, h => by
    have h1 := h p List.mem_cons_self
    have h2 := joinL_len (ps := q :: r) fun x hx => h x (List.mem_cons_of_mem _ hx)
    show (p ++ ([32] ++ joinL [32] (q :: r))).length ≤ _
    rw [List.length_append, List.length_append, List.length_singleton, List.length_cons (a := p), Nat.mul_succ]
    omega
theorem shownL_len {cs : List Cmd} (h : ∀ c ∈ cs, numC c < 10 ^ 40) : (shownL cs).length ≤ 42 * cs.length + 4 := by
  unfold shownL
  by_cases c : cs = []
  · rw [if_pos c]
    exact Nat.le_add_left _ _
  · rw [if_neg c]
    have := joinL_len (k := 41) (ps := cs.map cw) fun p hp => by
      obtain ⟨d, hd, rfl⟩ := List.mem_map.mp hp
      exact cw_len (h d hd)
    rw [List.length_map] at this
    omega
/-- one more word behind -/
theorem joinL_snoc : ∀ {ps : List (List Nat)} {p : List Nat}, ps ≠ [] → joinL [32] (ps ++ [p]) = joinL [32] ps ++ ([32] ++ p)
  | [], _, h => absurd rfl h
  | [q], p, _ => rfl
  | q :: r :: s, p, _ => by
    show q ++ ([32] ++ joinL [32] ((r :: s) ++ [p])) = (q ++ ([32] ++ joinL [32] (r :: s))) ++ ([32] ++ p)
    rw [joinL_snoc (by simp)]
    simp [List.append_assoc]
theorem joinL_nil_iff : ∀ {ps : List (List Nat)}, (∀ p ∈ ps, p ≠ []) → (joinL [32] ps = [] ↔ ps = [])
  | [], _ => ⟨fun _ => rfl, fun _ => rfl⟩
  | [p], h => ⟨fun e => absurd e (h p (List.mem_singleton.mpr rfl)), fun e => nomatch e⟩
  | p :: q :: r, h => ⟨fun e => by
      have e2 : p ++ ([32] ++ joinL [32] (q :: r)) = [] := e
      simp at e2, fun e => nomatch e⟩
/-! equal lists of commands, as data -/
theorem eqv_cmd (c d : Cmd) : PyData.eqv (cmdD c) (cmdD d) = decide (c = d) := by
  cases c <;> cases d <;> simp [cmdD, PyData.eqv, PyData.eqvAll]
  all_goals first
    | decide +kernel
    | rw [Bool.eq_iff_iff, beq_iff_eq, decide_eq_true_eq]
    | (intro h; exact absurd h (by decide +kernel))
theorem eqvAll_cmds : ∀ cs ds : List Cmd, PyData.eqvAll (cs.map cmdD) (ds.map cmdD) = decide (cs = ds)
  | [], [] => by simp [PyData.eqvAll]
  | [], _ :: _ => by simp [PyData.eqvAll]
  | _ :: _, [] => by simp [PyData.eqvAll]
  | c :: cs, d :: ds => by
    rw [List.map_cons, List.map_cons, PyData.eqvAll, eqv_cmd, eqvAll_cmds cs ds]
    simp
theorem eqv_cmds (cs ds : List Cmd) : PyData.eqv (.list (cs.map cmdD)) (.list (ds.map cmdD)) = decide (cs = ds) := by
  rw [PyData.eqv]
  exact eqvAll_cmds cs ds
end Gc
namespace Gc
open PySem PyProof.Rows L2 TL
theorem depth_cmds : ∀ cs : List Cmd, PyData.depthAll (cs.map cmdD) ≤ 1
  | [] => by simp [PyData.depthAll]
  | c :: cs => by
    have := depth_cmds cs
    cases c <;> simp [PyData.depthAll, PyData.depth, cmdD, this]
theorem lay_cmds : ∀ cs : List Cmd, PyData.canLayAll0 (cs.map cmdD) = true
  | [] => by simp [PyData.canLayAll0]
  | c :: cs => by
    have h1 : PyData.strOk "down" = true := by decide +kernel
    have h2 : PyData.strOk "up" = true := by decide +kernel
    have h3 : PyData.strOk "right" = true := by decide +kernel
    have h4 : PyData.strOk "left" = true := by decide +kernel
    have h5 : PyData.strOk "home" = true := by decide +kernel
    have h6 : PyData.strOk "end" = true := by decide +kernel
    cases c <;> simp [PyData.canLayAll0, PyData.canLay0, cmdD, lay_cmds cs, h1, h2, h3, h4, h5, h6]
theorem shaped_cmds (cs : List Cmd) : SeqAt.shaped (.list (cs.map cmdD)) = true := by
  have h2 := depth_cmds cs
  have hd : (PyData.list (cs.map cmdD)).depth ≤ 64 := by
    simp only [PyData.depth]
    omega
  unfold SeqAt.shaped
  rw [decide_eq_true hd]
  simp [PyData.canLay0, lay_cmds cs]
/-- one more word of what is written -/
theorem shown_step (cs : List Cmd) (i : Nat) (c : Cmd) (h : cs[i]? = some c) :
    joinL [32] ((cs.take (i + 1)).map cw) = joinL [32] ((cs.take i).map cw) ++ (if i = 0 then [] else [32]) ++ digC c ++ [letC c] := by
  have e : cs.take (i + 1) = cs.take i ++ [c] := by
    rw [List.take_add_one, h]
    rfl
  rw [e, List.map_append, List.map_singleton]
  by_cases z : i = 0
  · subst z
    simp [joinL, cw]
  · have ne : (cs.take i).map cw ≠ [] := by
      intro q
      have q2 := congrArg List.length q
      have li := (List.getElem?_eq_some_iff.mp h).1
      rw [List.length_map, List.length_take, List.length_nil] at q2
      omega
    rw [joinL_snoc ne, if_neg z]
    simp [cw, List.append_assoc]
theorem shown_nil (cs : List Cmd) (i : Nat) (c : Cmd) (h : cs[i]? = some c) : joinL [32] ((cs.take i).map cw) = [] ↔ i = 0 := by
  rw [joinL_nil_iff (fun p hp => by
    obtain ⟨c, _, rfl⟩ := List.mem_map.mp hp
    exact cw_ne c)]
  have li := (List.getElem?_eq_some_iff.mp h).1
  constructor
  · intro q
    have q2 := congrArg List.length q
    rw [List.length_map, List.length_take, List.length_nil] at q2
    omega
  · intro q
    subst q
    rfl
end Gc

/-! numbers and commands drawn from the source -/
namespace Gc
open PySem L2
abbrev s_number : Stmt := top 30
abbrev s_command : Stmt := top 31
theorem Src.cmd {K : PySem.W.Frag} {H H' : Hp} {a d : Addr} {n : Nat} {v : V} {c : Cmd} (B : Src H a d n) (e : Keep a d H H') (h : CmdAt K H v c) : CmdAt K H' v c := by
  obtain ⟨b, e1, h1⟩ := h
  exact ⟨b, e1, B.tup e h1⟩
theorem Src.cmds {K : PySem.W.Frag} {H H' : Hp} {a d : Addr} {n : Nat} {xs : List V} {cs : List Cmd} (B : Src H a d n) (e : Keep a d H H') (h : CmdsOf K H xs cs) : CmdsOf K H' xs cs := Paired.mapP h fun _ _ q => B.cmd e q
theorem Keep.free {a d p : Addr} {H H' : Hp} (e : Keep a d H H') (h1 : p ≠ a) (h2 : p ≠ d) (h : H' p = none) : H p = none := by
  cases q : H p with
  | none => rfl
  | some o =>
    rw [e p o h1 h2 q] at h
    cases h
def spNumber : Sp := fun vs H Q _ => ∃ (a d : Addr) (n : Nat), vs = [.ref a] ∧ Src H a d n ∧ n < 2 ^ 39 ∧ ∀ (H' : Hp) (r : Int), Keep a d H H' → Src H' a d (n + 2) → 1 ≤ r → r ≤ 10 ^ 30 - 1 → Q (.int r) H'
def spCommand (K : PySem.W.Frag) : Sp := fun vs H Q _ => ∃ (a d : Addr) (n : Nat), vs = [.ref a] ∧ Src H a d n ∧ n < 2 ^ 38 ∧ ∀ (H' : Hp) (p : Addr) (c : Cmd), Keep a d H H' → Src H' a d (n + 5) → H p = none → H' p = some (.tup (encC c)) → c.ok → numC c ≤ 10 ^ 30 - 1 → Q (.ref p) H'
def nameL : List V := [.str "down", .str "up", .str "right", .str "left", .str "right", .str "left", .str "home", .str "end"]
section
variable {P : Program} {w : World} {K : PySem.W.Frag} {mg : Str → Option Value} {base : Heap}
theorem sc_law_number : FnScope ["source"] ["source"] (defScope s_number) := ⟨rfl, rfl, rfl, by decide +kernel, rfl, by decide +kernel, by decide +kernel⟩
theorem ok_number {f : Addr} {fd : FuncData} (F : Fun K "_law_number" "_law_number" s_number f fd) (c_law_draw : Cal P w K mg base 1 "_law_draw" spDraw) : FnOk P w K mg base CX0 2 f fd ["source"] spNumber := by
  refine F.ok sc_law_number (fun vs H Q E h => ?_) (fun cdv A outer s H vs Q E hr h => ?_)
  · obtain ⟨a, d, n, rfl, _⟩ := h
    rfl
  · obtain ⟨a, d, n, rfl, hs, hn, k⟩ := h
    refine ⟨_, (pss_one (ps_ret (pe_op op_add pe_int (pe_cal c_law_draw hr (by decide) (by rfl) (pa_cons (pv 0) (pa_cons (pe_ix ix_list (pe_lst (pa_cons pe_int (pa_cons pe_int (pa_cons pe_int (pa_cons pe_int (pa_cons (pe_op op_sub (pe_op op_pow pe_int pe_int) pe_int) pa_nil)))))) (pe_cal c_law_draw hr (by decide) (by rfl) (pa_cons (pv 0) (pa_cons pe_int pa_nil))) (fun _ _ => rfl)) pa_nil)))))), ?_⟩
    refine ⟨_, rfl, _, _, rfl, rfl, cpow (by decide), _, _, rfl, rfl, (by show 5 ≤ sizeLine; decide), fun p hp => ?_⟩
    obtain ⟨pa, pd⟩ := hs.off hp
    have e1 : Same H (upd H p (.lst [.int 3, .int 6, .int 12, .int 300, .int (10 ^ (30 : Int).toNat - 1)])) := new_same hp
    refine ⟨_, rfl, a, d, n, 5, rfl, hs.same e1, by omega, by decide, by decide, fun H2 r kp2 s2 r0 r1 => ?_⟩
    have hp2 := kp2 _ _ pa pd upd_same
    have z : (10 : Int) ^ (30 : Int).toNat = 10 ^ 30 := by decide
    obtain ⟨m, hm, m1, m2⟩ : ∃ m : Int, atI [V.int 3, .int 6, .int 12, .int 300, .int (10 ^ (30 : Int).toNat - 1)] r = some (.int m) ∧ 1 ≤ m ∧ m ≤ 10 ^ 30 - 1 := by
      rcases (show r = 0 ∨ r = 1 ∨ r = 2 ∨ r = 3 ∨ r = 4 by omega) with rfl | rfl | rfl | rfl | rfl
      · exact ⟨3, rfl, by decide, by decide⟩
      · exact ⟨6, rfl, by decide, by decide⟩
      · exact ⟨12, rfl, by decide, by decide⟩
      · exact ⟨300, rfl, by decide, by decide⟩
      · exact ⟨_, rfl, by decide, by decide⟩
    refine ⟨p, _, r, _, rfl, rfl, SqL.of hp2, hm, ?_⟩
    refine ⟨a, d, _, m, rfl, s2, by omega, by omega, log9 (a := 110) (by omega) (by decide), fun H3 r3 kp3 s3 r30 r31 => ?_⟩
    exact ⟨_, _, rfl, rfl, k H3 _ (((Keep.of e1).trans kp2).trans kp3) s3 (by omega) (by omega)⟩
theorem sc_law_command : FnScope ["source", "name"] ["source"] (defScope s_command) := ⟨rfl, rfl, rfl, by decide +kernel, rfl, by decide +kernel, by decide +kernel⟩
theorem ok_command {f : Addr} {fd : FuncData} (F : Fun K "_law_command" "_law_command" s_command f fd) (c_law_draw : Cal P w K mg base 1 "_law_draw" spDraw) (c_law_number : Cal P w K mg base 2 "_law_number" spNumber) : FnOk P w K mg base CX0 3 f fd ["source"] (spCommand K) := by
  refine F.ok sc_law_command (fun vs H Q E h => ?_) (fun cdv A outer s H vs Q E hr h => ?_)
  · obtain ⟨a, d, n, rfl, _⟩ := h
    rfl
  · obtain ⟨a, d, n, rfl, hs, hn, k⟩ := h
    refine ⟨_, (pss_cons (ps_set (i := 1) sc_law_command.nd rfl (Or.inl rfl) (pe_ix ix_list (pe_lst (pa_cons pe_str (pa_cons pe_str (pa_cons pe_str (pa_cons pe_str (pa_cons pe_str (pa_cons pe_str (pa_cons pe_str (pa_cons pe_str pa_nil))))))))) (pe_cal c_law_draw hr (by decide) (by rfl) (pa_cons (pv 0) (pa_cons pe_int pa_nil))) (fun _ _ => rfl)))
      (pss_cons (ps_if (pt_cmpR op_in_seq (pv 1) (pe_tup (pa_cons pe_str (pa_cons pe_str pa_nil))) (by rfl)) (pss_one (ps_ret (pe_tup (pa_cons (pv 1) pa_nil)))) pss_nil)
      (pss_one (ps_ret (pe_tup (pa_cons (pv 1) (pa_cons (pe_ix ix_list (pe_lst (pa_cons pe_int (pa_cons (pe_op op_add pe_int (pe_cal c_law_draw hr (by decide) (by rfl) (pa_cons (pv 0) (pa_cons pe_int pa_nil)))) (pa_cons (pe_cal c_law_number hr (by decide) (by rfl) (pa_cons (pv 0) pa_nil)) pa_nil)))) (pe_cal c_law_draw hr (by decide) (by rfl) (pa_cons (pv 0) (pa_cons pe_int pa_nil))) (fun _ _ => rfl)) pa_nil))))))), ?_⟩
    refine ⟨(by show 8 ≤ sizeLine; decide), fun p hp => ?_⟩
    obtain ⟨pa, pd⟩ := hs.off hp
    have e1 : Same H (upd H p (.lst nameL)) := new_same hp
    refine ⟨_, rfl, a, d, n, 8, rfl, hs.same e1, by omega, by decide, by decide, fun H2 r kp2 s2 r0 r1 => ?_⟩
    have hp2 := kp2 _ _ pa pd upd_same
    have k2 := (Keep.of (a := a) (d := d) e1).trans kp2
    rcases (show r = 0 ∨ r = 1 ∨ r = 2 ∨ r = 3 ∨ r = 4 ∨ r = 5 ∨ r = 6 ∨ r = 7 by omega) with rfl | rfl | rfl | rfl | rfl | rfl | rfl | rfl
    · refine ⟨p, _, _, _, rfl, rfl, SqL.of hp2, rfl, ?_⟩
      refine ⟨_, rfl, (by show 2 ≤ sizeLine; decide), fun q hq => ?_⟩
      have e3 : Same H2 (upd H2 q (.tup [.str "home", .str "end"])) := new_same hq
      refine ⟨q, _, rfl, .inr (SqT.of upd_same), rfl, rfl, false, by decide +kernel, iteF ?_⟩
      refine ⟨_, rfl, _, rfl, a, d, _, 4, rfl, s2.same e3, by omega, by decide, by decide, fun H4 r4 kp4 s4 r40 r41 => ?_⟩
      refine ⟨_, _, rfl, rfl, _, rfl, a, d, _, rfl, s4, by omega, fun H5 r5 kp5 s5 r50 r51 => ⟨(by show 3 ≤ sizeLine; decide), fun q5 hq5 => ?_⟩⟩
      obtain ⟨ga, gd⟩ := s5.off hq5
      have e6 : Same H5 (upd H5 q5 (.lst [.int 1, .int (1 + r4), .int r5])) := new_same hq5
      refine ⟨_, rfl, a, d, _, 3, rfl, s5.same e6, by omega, by decide, by decide, fun H6 r6 kp6 s6 r60 r61 => ?_⟩
      obtain ⟨m, hm, m1, m2⟩ : ∃ m : Int, atI [V.int 1, .int (1 + r4), .int r5] r6 = some (.int m) ∧ 1 ≤ m ∧ m ≤ 10 ^ 30 - 1 := by
        rcases (show r6 = 0 ∨ r6 = 1 ∨ r6 = 2 by omega) with rfl | rfl | rfl
        · exact ⟨1, rfl, by decide, by decide⟩
        · exact ⟨1 + r4, rfl, by omega, by omega⟩
        · exact ⟨r5, rfl, by omega, by omega⟩
      refine ⟨q5, _, r6, _, rfl, rfl, SqL.of (kp6 _ _ ga gd upd_same), hm, (by show 2 ≤ sizeLine; decide), fun q7 hq7 => ?_⟩
      obtain ⟨fa, fd'⟩ := s6.off hq7
      have k6 : Keep a d H H6 := ((((k2.trans (Keep.of e3)).trans kp4).trans kp5).trans (Keep.of e6)).trans kp6
      refine k _ q7 (.down m) (k6.new hq7) ((s6.same (new_same hq7)).more (by omega)) (k6.free fa fd' hq7) ?_ m1 m2
      rw [upd_same]
      rfl
    · refine ⟨p, _, _, _, rfl, rfl, SqL.of hp2, rfl, ?_⟩
      refine ⟨_, rfl, (by show 2 ≤ sizeLine; decide), fun q hq => ?_⟩
      have e3 : Same H2 (upd H2 q (.tup [.str "home", .str "end"])) := new_same hq
      refine ⟨q, _, rfl, .inr (SqT.of upd_same), rfl, rfl, false, by decide +kernel, iteF ?_⟩
      refine ⟨_, rfl, _, rfl, a, d, _, 4, rfl, s2.same e3, by omega, by decide, by decide, fun H4 r4 kp4 s4 r40 r41 => ?_⟩
      refine ⟨_, _, rfl, rfl, _, rfl, a, d, _, rfl, s4, by omega, fun H5 r5 kp5 s5 r50 r51 => ⟨(by show 3 ≤ sizeLine; decide), fun q5 hq5 => ?_⟩⟩
      obtain ⟨ga, gd⟩ := s5.off hq5
      have e6 : Same H5 (upd H5 q5 (.lst [.int 1, .int (1 + r4), .int r5])) := new_same hq5
      refine ⟨_, rfl, a, d, _, 3, rfl, s5.same e6, by omega, by decide, by decide, fun H6 r6 kp6 s6 r60 r61 => ?_⟩
      obtain ⟨m, hm, m1, m2⟩ : ∃ m : Int, atI [V.int 1, .int (1 + r4), .int r5] r6 = some (.int m) ∧ 1 ≤ m ∧ m ≤ 10 ^ 30 - 1 := by
        rcases (show r6 = 0 ∨ r6 = 1 ∨ r6 = 2 by omega) with rfl | rfl | rfl
        · exact ⟨1, rfl, by decide, by decide⟩
        · exact ⟨1 + r4, rfl, by omega, by omega⟩
        · exact ⟨r5, rfl, by omega, by omega⟩
      refine ⟨q5, _, r6, _, rfl, rfl, SqL.of (kp6 _ _ ga gd upd_same), hm, (by show 2 ≤ sizeLine; decide), fun q7 hq7 => ?_⟩
      obtain ⟨fa, fd'⟩ := s6.off hq7
      have k6 : Keep a d H H6 := ((((k2.trans (Keep.of e3)).trans kp4).trans kp5).trans (Keep.of e6)).trans kp6
      refine k _ q7 (.up m) (k6.new hq7) ((s6.same (new_same hq7)).more (by omega)) (k6.free fa fd' hq7) ?_ m1 m2
      rw [upd_same]
      rfl
    · refine ⟨p, _, _, _, rfl, rfl, SqL.of hp2, rfl, ?_⟩
      refine ⟨_, rfl, (by show 2 ≤ sizeLine; decide), fun q hq => ?_⟩
      have e3 : Same H2 (upd H2 q (.tup [.str "home", .str "end"])) := new_same hq
      refine ⟨q, _, rfl, .inr (SqT.of upd_same), rfl, rfl, false, by decide +kernel, iteF ?_⟩
      refine ⟨_, rfl, _, rfl, a, d, _, 4, rfl, s2.same e3, by omega, by decide, by decide, fun H4 r4 kp4 s4 r40 r41 => ?_⟩
      refine ⟨_, _, rfl, rfl, _, rfl, a, d, _, rfl, s4, by omega, fun H5 r5 kp5 s5 r50 r51 => ⟨(by show 3 ≤ sizeLine; decide), fun q5 hq5 => ?_⟩⟩
      obtain ⟨ga, gd⟩ := s5.off hq5
      have e6 : Same H5 (upd H5 q5 (.lst [.int 1, .int (1 + r4), .int r5])) := new_same hq5
      refine ⟨_, rfl, a, d, _, 3, rfl, s5.same e6, by omega, by decide, by decide, fun H6 r6 kp6 s6 r60 r61 => ?_⟩
      obtain ⟨m, hm, m1, m2⟩ : ∃ m : Int, atI [V.int 1, .int (1 + r4), .int r5] r6 = some (.int m) ∧ 1 ≤ m ∧ m ≤ 10 ^ 30 - 1 := by
        rcases (show r6 = 0 ∨ r6 = 1 ∨ r6 = 2 by omega) with rfl | rfl | rfl
        · exact ⟨1, rfl, by decide, by decide⟩
        · exact ⟨1 + r4, rfl, by omega, by omega⟩
        · exact ⟨r5, rfl, by omega, by omega⟩
      refine ⟨q5, _, r6, _, rfl, rfl, SqL.of (kp6 _ _ ga gd upd_same), hm, (by show 2 ≤ sizeLine; decide), fun q7 hq7 => ?_⟩
      obtain ⟨fa, fd'⟩ := s6.off hq7
      have k6 : Keep a d H H6 := ((((k2.trans (Keep.of e3)).trans kp4).trans kp5).trans (Keep.of e6)).trans kp6
      refine k _ q7 (.right m) (k6.new hq7) ((s6.same (new_same hq7)).more (by omega)) (k6.free fa fd' hq7) ?_ m1 m2
      rw [upd_same]
      rfl
    · refine ⟨p, _, _, _, rfl, rfl, SqL.of hp2, rfl, ?_⟩
      refine ⟨_, rfl, (by show 2 ≤ sizeLine; decide), fun q hq => ?_⟩
      have e3 : Same H2 (upd H2 q (.tup [.str "home", .str "end"])) := new_same hq
      refine ⟨q, _, rfl, .inr (SqT.of upd_same), rfl, rfl, false, by decide +kernel, iteF ?_⟩
      refine ⟨_, rfl, _, rfl, a, d, _, 4, rfl, s2.same e3, by omega, by decide, by decide, fun H4 r4 kp4 s4 r40 r41 => ?_⟩
      refine ⟨_, _, rfl, rfl, _, rfl, a, d, _, rfl, s4, by omega, fun H5 r5 kp5 s5 r50 r51 => ⟨(by show 3 ≤ sizeLine; decide), fun q5 hq5 => ?_⟩⟩
      obtain ⟨ga, gd⟩ := s5.off hq5
      have e6 : Same H5 (upd H5 q5 (.lst [.int 1, .int (1 + r4), .int r5])) := new_same hq5
      refine ⟨_, rfl, a, d, _, 3, rfl, s5.same e6, by omega, by decide, by decide, fun H6 r6 kp6 s6 r60 r61 => ?_⟩
      obtain ⟨m, hm, m1, m2⟩ : ∃ m : Int, atI [V.int 1, .int (1 + r4), .int r5] r6 = some (.int m) ∧ 1 ≤ m ∧ m ≤ 10 ^ 30 - 1 := by
        rcases (show r6 = 0 ∨ r6 = 1 ∨ r6 = 2 by omega) with rfl | rfl | rfl
        · exact ⟨1, rfl, by decide, by decide⟩
        · exact ⟨1 + r4, rfl, by omega, by omega⟩
        · exact ⟨r5, rfl, by omega, by omega⟩
      refine ⟨q5, _, r6, _, rfl, rfl, SqL.of (kp6 _ _ ga gd upd_same), hm, (by show 2 ≤ sizeLine; decide), fun q7 hq7 => ?_⟩
      obtain ⟨fa, fd'⟩ := s6.off hq7
      have k6 : Keep a d H H6 := ((((k2.trans (Keep.of e3)).trans kp4).trans kp5).trans (Keep.of e6)).trans kp6
      refine k _ q7 (.left m) (k6.new hq7) ((s6.same (new_same hq7)).more (by omega)) (k6.free fa fd' hq7) ?_ m1 m2
      rw [upd_same]
      rfl
    · refine ⟨p, _, _, _, rfl, rfl, SqL.of hp2, rfl, ?_⟩
      refine ⟨_, rfl, (by show 2 ≤ sizeLine; decide), fun q hq => ?_⟩
      have e3 : Same H2 (upd H2 q (.tup [.str "home", .str "end"])) := new_same hq
      refine ⟨q, _, rfl, .inr (SqT.of upd_same), rfl, rfl, false, by decide +kernel, iteF ?_⟩
      refine ⟨_, rfl, _, rfl, a, d, _, 4, rfl, s2.same e3, by omega, by decide, by decide, fun H4 r4 kp4 s4 r40 r41 => ?_⟩
      refine ⟨_, _, rfl, rfl, _, rfl, a, d, _, rfl, s4, by omega, fun H5 r5 kp5 s5 r50 r51 => ⟨(by show 3 ≤ sizeLine; decide), fun q5 hq5 => ?_⟩⟩
      obtain ⟨ga, gd⟩ := s5.off hq5
      have e6 : Same H5 (upd H5 q5 (.lst [.int 1, .int (1 + r4), .int r5])) := new_same hq5
      refine ⟨_, rfl, a, d, _, 3, rfl, s5.same e6, by omega, by decide, by decide, fun H6 r6 kp6 s6 r60 r61 => ?_⟩
      obtain ⟨m, hm, m1, m2⟩ : ∃ m : Int, atI [V.int 1, .int (1 + r4), .int r5] r6 = some (.int m) ∧ 1 ≤ m ∧ m ≤ 10 ^ 30 - 1 := by
        rcases (show r6 = 0 ∨ r6 = 1 ∨ r6 = 2 by omega) with rfl | rfl | rfl
        · exact ⟨1, rfl, by decide, by decide⟩
        · exact ⟨1 + r4, rfl, by omega, by omega⟩
        · exact ⟨r5, rfl, by omega, by omega⟩
      refine ⟨q5, _, r6, _, rfl, rfl, SqL.of (kp6 _ _ ga gd upd_same), hm, (by show 2 ≤ sizeLine; decide), fun q7 hq7 => ?_⟩
      obtain ⟨fa, fd'⟩ := s6.off hq7
      have k6 : Keep a d H H6 := ((((k2.trans (Keep.of e3)).trans kp4).trans kp5).trans (Keep.of e6)).trans kp6
      refine k _ q7 (.right m) (k6.new hq7) ((s6.same (new_same hq7)).more (by omega)) (k6.free fa fd' hq7) ?_ m1 m2
      rw [upd_same]
      rfl
    · refine ⟨p, _, _, _, rfl, rfl, SqL.of hp2, rfl, ?_⟩
      refine ⟨_, rfl, (by show 2 ≤ sizeLine; decide), fun q hq => ?_⟩
      have e3 : Same H2 (upd H2 q (.tup [.str "home", .str "end"])) := new_same hq
      refine ⟨q, _, rfl, .inr (SqT.of upd_same), rfl, rfl, false, by decide +kernel, iteF ?_⟩
      refine ⟨_, rfl, _, rfl, a, d, _, 4, rfl, s2.same e3, by omega, by decide, by decide, fun H4 r4 kp4 s4 r40 r41 => ?_⟩
      refine ⟨_, _, rfl, rfl, _, rfl, a, d, _, rfl, s4, by omega, fun H5 r5 kp5 s5 r50 r51 => ⟨(by show 3 ≤ sizeLine; decide), fun q5 hq5 => ?_⟩⟩
      obtain ⟨ga, gd⟩ := s5.off hq5
      have e6 : Same H5 (upd H5 q5 (.lst [.int 1, .int (1 + r4), .int r5])) := new_same hq5
      refine ⟨_, rfl, a, d, _, 3, rfl, s5.same e6, by omega, by decide, by decide, fun H6 r6 kp6 s6 r60 r61 => ?_⟩
      obtain ⟨m, hm, m1, m2⟩ : ∃ m : Int, atI [V.int 1, .int (1 + r4), .int r5] r6 = some (.int m) ∧ 1 ≤ m ∧ m ≤ 10 ^ 30 - 1 := by
        rcases (show r6 = 0 ∨ r6 = 1 ∨ r6 = 2 by omega) with rfl | rfl | rfl
        · exact ⟨1, rfl, by decide, by decide⟩
        · exact ⟨1 + r4, rfl, by omega, by omega⟩
        · exact ⟨r5, rfl, by omega, by omega⟩
      refine ⟨q5, _, r6, _, rfl, rfl, SqL.of (kp6 _ _ ga gd upd_same), hm, (by show 2 ≤ sizeLine; decide), fun q7 hq7 => ?_⟩
      obtain ⟨fa, fd'⟩ := s6.off hq7
      have k6 : Keep a d H H6 := ((((k2.trans (Keep.of e3)).trans kp4).trans kp5).trans (Keep.of e6)).trans kp6
      refine k _ q7 (.left m) (k6.new hq7) ((s6.same (new_same hq7)).more (by omega)) (k6.free fa fd' hq7) ?_ m1 m2
      rw [upd_same]
      rfl
    · refine ⟨p, _, _, _, rfl, rfl, SqL.of hp2, rfl, ?_⟩
      refine ⟨_, rfl, (by show 2 ≤ sizeLine; decide), fun q hq => ?_⟩
      have e3 : Same H2 (upd H2 q (.tup [.str "home", .str "end"])) := new_same hq
      refine ⟨q, _, rfl, .inr (SqT.of upd_same), rfl, rfl, true, by decide +kernel, iteT ?_⟩
      refine ⟨_, rfl, (by show 1 ≤ sizeLine; decide), fun q7 hq7 => ?_⟩
      have s3 := s2.same e3
      obtain ⟨fa, fd'⟩ := s3.off hq7
      have k3 := k2.trans (Keep.of e3)
      refine k _ q7 .home (k3.new hq7) ((s3.same (new_same hq7)).more (by omega)) (k3.free fa fd' hq7) ?_ trivial (by show (0 : Int) ≤ 10 ^ 30 - 1; decide)
      rw [upd_same]
      rfl
    · refine ⟨p, _, _, _, rfl, rfl, SqL.of hp2, rfl, ?_⟩
      refine ⟨_, rfl, (by show 2 ≤ sizeLine; decide), fun q hq => ?_⟩
      have e3 : Same H2 (upd H2 q (.tup [.str "home", .str "end"])) := new_same hq
      refine ⟨q, _, rfl, .inr (SqT.of upd_same), rfl, rfl, true, by decide +kernel, iteT ?_⟩
      refine ⟨_, rfl, (by show 1 ≤ sizeLine; decide), fun q7 hq7 => ?_⟩
      have s3 := s2.same e3
      obtain ⟨fa, fd'⟩ := s3.off hq7
      have k3 := k2.trans (Keep.of e3)
      refine k _ q7 .stop (k3.new hq7) ((s3.same (new_same hq7)).more (by omega)) (k3.free fa fd' hq7) ?_ trivial (by show (0 : Int) ≤ 10 ^ 30 - 1; decide)
      rw [upd_same]
      rfl
end
end Gc

/-! running commands over plain texts: the goal is reached exactly if the box is fulfilled -/
namespace Gc
def seen (t : Int) : Option Int → Int
  | none => t
  | some a => min a t
/-- the goal of the cursor after one command in a row of length t -/
def aim1 (t : Int) (a : Option Int) : Cmd → Option Int
  | .down _ => a
  | .up _ => a
  | .right n => some (min (seen t a + n) t)
  | .left n => some (max 0 (seen t a - n))
  | .home => some 0
  | .stop => none
def aimF (T : Int → Int) : Int → Option Int → List Cmd → Option Int
  | _, a, [] => a
  | r, a, c :: cs => aimF T (r + c.dv) (aim1 (T r) a c) cs
theorem aimF_app (T : Int → Int) : ∀ (xs ys : List Cmd) (r : Int) (a : Option Int), aimF T r a (xs ++ ys) = aimF T (r + last xs) (aimF T r a xs) ys
  | [], ys, r, a => by
    show aimF T r a ys = aimF T (r + 0) a ys
    rw [Int.add_zero]
  | c :: xs, ys, r, a => by
    show aimF T (r + c.dv) (aim1 (T r) a c) (xs ++ ys) = aimF T (r + (c.dv + last xs)) _ ys
    rw [aimF_app T xs ys, Int.add_assoc]
    rfl
theorem aimF_snoc (T : Int → Int) (cs : List Cmd) (c : Cmd) (r : Int) (a : Option Int) : aimF T r a (cs ++ [c]) = aim1 (T (r + last cs)) (aimF T r a cs) c := aimF_app T cs [c] r a
def ge (a : Option Int) (n : Int) : Prop := ∀ x, a = some x → n ≤ x
theorem ge_none (n : Int) : ge none n := fun _ h => nomatch h
theorem ge_some {x n : Int} : ge (some x) n ↔ n ≤ x := ⟨fun h => h x rfl, fun h y e => by rw [← Option.some.inj e]; exact h⟩
theorem seen_ge {t n : Int} {a : Option Int} : n ≤ seen t a ↔ n ≤ t ∧ ge a n := by
  cases a with
  | none => exact ⟨fun h => ⟨h, ge_none n⟩, fun h => h.1⟩
  | some x =>
    rw [ge_some]
    show n ≤ min x t ↔ _
    omega
theorem aim1_nn {t : Int} {a : Option Int} {c : Cmd} (ht : 0 ≤ t) (ha : ge a 0) (ok : c.ok) : ge (aim1 t a c) 0 := by
  have hs : 0 ≤ seen t a := seen_ge.mpr ⟨ht, ha⟩
  cases c with
  | down n => exact ha
  | up n => exact ha
  | right n =>
    have o : 1 ≤ n := ok
    refine ge_some.mpr ?_
    omega
  | left n =>
    refine ge_some.mpr ?_
    omega
  | home => exact ge_some.mpr (Int.le_refl 0)
  | stop => exact ge_none 0
theorem aimF_nn {T : Int → Int} (hT : ∀ k, 0 ≤ T k) : ∀ {cs : List Cmd} {r : Int} {a : Option Int}, AllOk cs → ge a 0 → ge (aimF T r a cs) 0
  | [], _, _, _, h => h
  | c :: cs, r, a, ok, h => aimF_nn hT (cs := cs) (fun d hd => ok d (List.mem_cons_of_mem _ hd)) (aim1_nn (hT r) h (ok c List.mem_cons_self))
theorem last_snoc (cs : List Cmd) (c : Cmd) : last (cs ++ [c]) = last cs + c.dv := by
  rw [last_app]
  show _ + (c.dv + 0) = _
  omega
theorem reqF_le {f : Int → Int} {o v : Int} {T : Int → Int} {r : Int} : (∀ k, reqF f o v k ≤ T (r + k)) ↔ (∀ k, f k ≤ T (r + k)) ∧ v ≤ T (r + o) := by
  constructor
  · intro h
    refine ⟨fun k => Int.le_trans (reqF_ge f o v k) (h k), ?_⟩
    have := h o
    unfold reqF at this
    rw [if_pos rfl] at this
    omega
  · rintro ⟨h1, h2⟩ k
    unfold reqF
    have := h1 k
    split
    · rename_i e
      subst e
      omega
    · exact this
/-- the box's walk, and the run -/
theorem go_char {T : Int → Int} (hT : ∀ k, 0 ≤ T k) {r : Int} {a : Option Int} (ha : ge a 0) : ∀ (rs : List Cmd) (need : Int) (f : Int → Int), AllOk rs → 1 ≤ need →
    ((∃ st g, goF rs (last rs.reverse) need f = some (st, g) ∧ (∀ n, st = some n → ge a n) ∧ ∀ k, g k ≤ T (r + k)) ↔ (∀ k, f k ≤ T (r + k)) ∧ ge (aimF T r a rs.reverse) need)
  | [], need, f, _, _ => by
    constructor
    · rintro ⟨st, g, e, h1, h2⟩
      cases e
      exact ⟨h2, h1 need rfl⟩
    · rintro ⟨h1, h2⟩
      exact ⟨_, _, rfl, fun n e => by rw [← Option.some.inj e]; exact h2, h1⟩
  | .home :: rs, need, f, ok, hn => by
    rw [List.reverse_cons, aimF_snoc]
    constructor
    · rintro ⟨st, g, e, _⟩
      cases e
    · rintro ⟨_, h2⟩
      have : need ≤ 0 := ge_some.mp h2
      omega
  | .stop :: rs, need, f, ok, hn => by
    rw [List.reverse_cons, aimF_snoc]
    constructor
    · rintro ⟨st, g, e, _, h2⟩
      cases e
      exact ⟨h2, ge_none _⟩
    · rintro ⟨h1, _⟩
      exact ⟨_, _, rfl, (fun n e => nomatch e), h1⟩
  | .down n :: rs, need, f, ok, hn => by
    rw [List.reverse_cons, aimF_snoc, last_snoc]
    have ih := go_char hT (r := r) ha rs need f (fun d hd => ok d (List.mem_cons_of_mem _ hd)) hn
    have e : last rs.reverse + (Cmd.down n).dv - n = last rs.reverse := by
      show last rs.reverse + n - n = _
      omega
    simp only [goF]
    rw [e]
    exact ih
  | .up n :: rs, need, f, ok, hn => by
    rw [List.reverse_cons, aimF_snoc, last_snoc]
    have ih := go_char hT (r := r) ha rs need f (fun d hd => ok d (List.mem_cons_of_mem _ hd)) hn
    have e : last rs.reverse + (Cmd.up n).dv + n = last rs.reverse := by
      show last rs.reverse + -n + n = _
      omega
    simp only [goF]
    rw [e]
    exact ih
  | .left n :: rs, need, f, ok, hn => by
    have o : 1 ≤ n := ok _ List.mem_cons_self
    rw [List.reverse_cons, aimF_snoc, last_snoc]
    have ih := go_char hT (r := r) ha rs (need + n) (reqF f (last rs.reverse) (need + n)) (fun d hd => ok d (List.mem_cons_of_mem _ hd)) (by omega)
    have e : last rs.reverse + (Cmd.left n).dv = last rs.reverse := Int.add_zero _
    simp only [goF]
    rw [e, ih, reqF_le]
    have s : ge (aim1 (T (r + last rs.reverse)) (aimF T r a rs.reverse) (.left n)) need ↔ need + n ≤ T (r + last rs.reverse) ∧ ge (aimF T r a rs.reverse) (need + n) := by
      rw [← seen_ge]
      show ge (some _) need ↔ _
      rw [ge_some]
      omega
    rw [s]
    exact ⟨fun h => ⟨h.1.1, h.1.2, h.2⟩, fun h => ⟨⟨h.1, h.2.1⟩, h.2.2⟩⟩
  | .right n :: rs, need, f, ok, hn => by
    have o : 1 ≤ n := ok _ List.mem_cons_self
    have okr : AllOk rs := fun d hd => ok d (List.mem_cons_of_mem _ hd)
    rw [List.reverse_cons, aimF_snoc, last_snoc]
    have e : last rs.reverse + (Cmd.right n).dv = last rs.reverse := Int.add_zero _
    have nn : 0 ≤ seen (T (r + last rs.reverse)) (aimF T r a rs.reverse) := seen_ge.mpr ⟨hT _, aimF_nn hT (fun d hd => okr d (List.mem_reverse.mp hd)) ha⟩
    simp only [goF]
    rw [e]
    have s : ge (aim1 (T (r + last rs.reverse)) (aimF T r a rs.reverse) (.right n)) need ↔ need ≤ T (r + last rs.reverse) ∧ need - n ≤ seen (T (r + last rs.reverse)) (aimF T r a rs.reverse) := by
      show ge (some _) need ↔ _
      rw [ge_some]
      omega
    rw [s]
    by_cases c : need > n
    · rw [if_pos c]
      have ih := go_char hT (r := r) ha rs (need - n) (reqF f (last rs.reverse) need) okr (by omega)
      rw [ih, reqF_le, seen_ge]
      exact ⟨fun h => ⟨h.1.1, h.1.2, by omega, h.2⟩, fun h => ⟨⟨h.1, h.2.1⟩, h.2.2.2⟩⟩
    · rw [if_neg c]
      constructor
      · rintro ⟨st, g, e, _, h2⟩
        cases e
        have h3 := reqF_le.mp h2
        exact ⟨h3.1, h3.2, by omega⟩
      · rintro ⟨h1, h2, _⟩
        exact ⟨_, _, rfl, (fun n e => nomatch e), reqF_le.mpr ⟨h1, h2⟩⟩
/-- the goal is reached exactly if the start fulfils the box -/
theorem box_char {T : Int → Int} (hT : ∀ k, 0 ≤ T k) {r : Int} {a : Option Int} (ha : ge a 0) {cs : List Cmd} {goal : Int} (ok : AllOk cs) (hg : 1 ≤ goal) :
    ge (aimF T r a cs) goal ↔ ∃ st L, boxM cs goal = some (st, L) ∧ (∀ n, st = some n → ge a n) ∧ ∀ k, val L k ≤ T (r + k) := by
  have h := go_char hT (r := r) ha cs.reverse goal (fun _ => 0) (allOk_rev ok) hg
  rw [List.reverse_reverse] at h
  have h0 : (∀ k : Int, (fun _ : Int => (0 : Int)) k ≤ T (r + k)) := fun k => hT _
  have h' : (∃ st g, boxF cs goal = some (st, g) ∧ (∀ n, st = some n → ge a n) ∧ ∀ k, g k ≤ T (r + k)) ↔ ge (aimF T r a cs) goal := h.trans ⟨fun x => x.2, fun x => ⟨h0, x⟩⟩
  rw [← h']
  rcases box_spec ok hg with ⟨e1, e2⟩ | ⟨st, b, e1, gb, e2, _⟩
  · rw [e1, e2]
    constructor
    · rintro ⟨_, _, z, _⟩
      cases z
    · rintro ⟨_, _, z, _⟩
      cases z
  · rw [e1, e2]
    have vp := val_perm gb (List.mergeSort_perm b leK)
    constructor
    · rintro ⟨st', g, z, h1, h2⟩
      cases z
      exact ⟨_, _, rfl, h1, fun k => by rw [vp]; exact h2 k⟩
    · rintro ⟨st', L, z, h1, h2⟩
      cases z
      exact ⟨_, _, rfl, h1, fun k => by rw [← vp]; exact h2 k⟩
end Gc

/-! rows that are visited; the least text -/
namespace Gc
def Within (cs : List Cmd) (lo hi : Int) : Prop := ∀ i, lo ≤ last (cs.take i) ∧ last (cs.take i) ≤ hi
theorem Within.tail {c : Cmd} {cs : List Cmd} {lo hi : Int} (h : Within (c :: cs) lo hi) : Within cs (lo - c.dv) (hi - c.dv) := fun i => by
  have q := h (i + 1)
  have e : last ((c :: cs).take (i + 1)) = c.dv + last (cs.take i) := rfl
  rw [e] at q
  omega
theorem Within.init {cs : List Cmd} {c : Cmd} {lo hi : Int} (h : Within (cs ++ [c]) lo hi) : Within cs lo hi := fun i => by
  by_cases l : i ≤ cs.length
  · have q := h i
    rw [List.take_append_of_le_length l] at q
    exact q
  · have q := h cs.length
    rw [List.take_append_of_le_length (Nat.le_refl _)] at q
    rw [List.take_of_length_le (by omega)]
    rw [List.take_length] at q
    exact q
theorem Within.whole {cs : List Cmd} {lo hi : Int} (h : Within cs lo hi) : lo ≤ last cs ∧ last cs ≤ hi := by
  have q := h cs.length
  rw [List.take_length] at q
  exact q
theorem Within.zero {cs : List Cmd} {lo hi : Int} (h : Within cs lo hi) : lo ≤ 0 ∧ 0 ≤ hi := h 0
theorem keys_req' {b : Ps} {o v k : Int} (h : k ∈ keys (req b o v)) : k = o ∨ k ∈ keys b := by
  unfold req at h
  rw [keys_put] at h
  split at h
  · exact .inr h
  · rcases List.mem_append.mp h with q | q
    · exact .inr q
    · exact .inl (List.mem_singleton.mp q)
/-- the offsets of a box are rows that are visited -/
theorem go_within {lo hi : Int} : ∀ {rs : List Cmd} {need : Int} {b : Ps} {st : Option Int} {b' : Ps}, go rs (last rs.reverse) need b = some (st, b') → Within rs.reverse lo hi → (∀ k ∈ keys b, lo ≤ k ∧ k ≤ hi) → ∀ k ∈ keys b', lo ≤ k ∧ k ≤ hi
  | [], need, b, st, b', h, _, hb => by cases h; exact hb
  | .home :: rs, need, b, st, b', h, _, _ => by cases h
  | .stop :: rs, need, b, st, b', h, _, hb => by cases h; exact hb
  | .down n :: rs, need, b, st, b', h, w, hb => by
    rw [List.reverse_cons] at h w
    rw [last_snoc] at h
    have e : last rs.reverse + (Cmd.down n).dv - n = last rs.reverse := by
      show last rs.reverse + n - n = _
      omega
    simp only [go] at h
    rw [e] at h
    exact go_within h w.init hb
  | .up n :: rs, need, b, st, b', h, w, hb => by
    rw [List.reverse_cons] at h w
    rw [last_snoc] at h
    have e : last rs.reverse + (Cmd.up n).dv + n = last rs.reverse := by
      show last rs.reverse + -n + n = _
      omega
    simp only [go] at h
    rw [e] at h
    exact go_within h w.init hb
  | .left n :: rs, need, b, st, b', h, w, hb => by
    rw [List.reverse_cons] at h w
    rw [last_snoc, show last rs.reverse + (Cmd.left n).dv = last rs.reverse from Int.add_zero _] at h
    simp only [go] at h
    refine go_within h w.init fun k hk => ?_
    rcases keys_req' hk with q | q
    · rw [q]
      exact w.init.whole
    · exact hb k q
  | .right n :: rs, need, b, st, b', h, w, hb => by
    rw [List.reverse_cons] at h w
    rw [last_snoc, show last rs.reverse + (Cmd.right n).dv = last rs.reverse from Int.add_zero _] at h
    have hr : ∀ k ∈ keys (req b (last rs.reverse) need), lo ≤ k ∧ k ≤ hi := fun k hk => by
      rcases keys_req' hk with q | q
      · rw [q]
        exact w.init.whole
      · exact hb k q
    simp only [go] at h
    split at h
    · exact go_within h w.init hr
    · cases h
      exact hr
theorem box_within {lo hi : Int} {cs : List Cmd} {goal : Int} {st : Option Int} {L : Ps} (h : boxM cs goal = some (st, L)) (w : Within cs lo hi) : ∀ q ∈ L, lo ≤ q.1 ∧ q.1 ≤ hi := by
  unfold boxM at h
  cases e : go cs.reverse (last cs) goal [] with
  | none =>
    rw [e] at h
    cases h
  | some x =>
    rw [e] at h
    obtain ⟨st', b'⟩ := x
    have h' : (st', b'.mergeSort leK) = (st, L) := Option.some.inj h
    cases h'
    have k := go_within (rs := cs.reverse) (lo := lo) (hi := hi) (by rw [List.reverse_reverse]; exact e) (by rw [List.reverse_reverse]; exact w) (fun k hk => by cases hk)
    intro q hq
    exact k q.1 (List.mem_map.mpr ⟨q, (List.mergeSort_perm b' leK).mem_iff.mp hq, rfl⟩)
/-! ### a text from a box -/
def setAll (lo : Int) (T : List Int) (L : Ps) : List Int := L.foldl (fun T q => T.set (q.1 - lo).toNat q.2) T
theorem setAll_len (lo : Int) : ∀ (L : Ps) (T : List Int), (setAll lo T L).length = T.length
  | [], _ => rfl
  | q :: L, T => by
    show (setAll lo (T.set (q.1 - lo).toNat q.2) L).length = _
    rw [setAll_len lo L, List.length_set]
theorem setAll_get {lo : Int} : ∀ {L : Ps} {T : List Int} {k : Int}, (keys L).Nodup → (∀ q ∈ L, lo ≤ q.1 ∧ q.1 - lo < T.length) → lo ≤ k → k - lo < T.length →
    (setAll lo T L).getD (k - lo).toNat 0 = match look L k with | some v => v | none => T.getD (k - lo).toNat 0
  | [], T, k, _, _, _, _ => rfl
  | q :: L, T, k, nd, hq, h0, h1 => by
    have nd' : q.1 ∉ keys L ∧ (keys L).Nodup := List.nodup_cons.mp nd
    have q0 := hq q List.mem_cons_self
    show (setAll lo (T.set (q.1 - lo).toNat q.2) L).getD (k - lo).toNat 0 = _
    rw [setAll_get (L := L) nd'.2 (fun p hp => by rw [List.length_set]; exact hq p (List.mem_cons_of_mem _ hp)) h0 (by rw [List.length_set]; exact h1), look_cons]
    by_cases e : q.1 = k
    · subst e
      rw [if_pos rfl, look_none.mpr nd'.1]
      show (T.set (q.1 - lo).toNat q.2).getD (q.1 - lo).toNat 0 = q.2
      rw [List.getD_eq_getElem?_getD, List.getElem?_set_self (by omega)]
      rfl
    · rw [if_neg e]
      cases look L k with
      | some v => rfl
      | none =>
        show (T.set (q.1 - lo).toNat q.2).getD (k - lo).toNat 0 = T.getD (k - lo).toNat 0
        rw [List.getD_eq_getElem?_getD, List.getD_eq_getElem?_getD, List.getElem?_set_ne (by omega)]
/-! ### the run over a list of lengths -/
def lenAt (T : List Int) (r : Int) : Int := T.getD r.toNat 0
/-- the run over a text: the row must stand -/
def afterL (T : List Int) : Int → Option Int → List Cmd → Option (Int × Option Int)
  | r, a, [] => some (r, a)
  | r, a, c :: cs => if c.vert = true then (if 0 ≤ r + c.dv ∧ r + c.dv < T.length then afterL T (r + c.dv) a cs else none) else afterL T r (aim1 (lenAt T r) a c) cs
theorem Within.le {cs : List Cmd} {lo hi lo' hi' : Int} (h : Within cs lo hi) (h1 : lo' ≤ lo) (h2 : hi ≤ hi') : Within cs lo' hi' := fun i => by
  have := h i
  omega
theorem afterL_in {T : List Int} : ∀ {cs : List Cmd} {r : Int} {a : Option Int}, Within cs (-r) (T.length - 1 - r) → afterL T r a cs = some (r + last cs, aimF (lenAt T) r a cs)
  | [], r, a, _ => by
    show some (r, a) = some (r + 0, a)
    rw [Int.add_zero]
  | c :: cs, r, a, w => by
    have w1 := w 1
    have e1 : last ((c :: cs).take 1) = c.dv + 0 := rfl
    rw [e1] at w1
    have wt : Within cs (-(r + c.dv)) (T.length - 1 - (r + c.dv)) := w.tail.le (by omega) (by omega)
    have ih := afterL_in (a := aim1 (lenAt T r) a c) wt
    have el : last (c :: cs) = c.dv + last cs := rfl
    have ea : aimF (lenAt T) r a (c :: cs) = aimF (lenAt T) (r + c.dv) (aim1 (lenAt T r) a c) cs := rfl
    rw [ea, el, ← Int.add_assoc]
    by_cases v : c.vert = true
    · have ia : aim1 (lenAt T r) a c = a := by
        cases c with
        | down n => rfl
        | up n => rfl
        | right n => cases v
        | left n => cases v
        | home => cases v
        | stop => cases v
      rw [ia] at ih ⊢
      simp only [afterL]
      rw [if_pos v, if_pos ⟨by omega, by omega⟩, ih]
    · have d0 : c.dv = 0 := by
        cases c with
        | down n => exact absurd rfl v
        | up n => exact absurd rfl v
        | right n => rfl
        | left n => rfl
        | home => rfl
        | stop => rfl
      simp only [afterL]
      rw [if_neg v]
      rw [d0, Int.add_zero] at ih ⊢
      exact ih
theorem lenAt_nn {T : List Int} (h : ∀ x ∈ T, 0 ≤ x) (r : Int) : 0 ≤ lenAt T r := by
  unfold lenAt
  rw [List.getD_eq_getElem?_getD]
  cases e : T[r.toNat]? with
  | none => exact Int.le_refl 0
  | some x => exact h x (List.mem_of_getElem? e)
/-- over a text whose rows are all there: the goal is reached exactly if the box is fulfilled -/
theorem after_char {T : List Int} (hT : ∀ x ∈ T, 0 ≤ x) {r : Int} {a : Option Int} (ha : ge a 0) {cs : List Cmd} {goal : Int} (ok : AllOk cs) (hg : 1 ≤ goal) (w : Within cs (-r) (T.length - 1 - r)) :
    ∃ a', afterL T r a cs = some (r + last cs, a') ∧ ge a' 0 ∧ (ge a' goal ↔ ∃ st L, boxM cs goal = some (st, L) ∧ (∀ n, st = some n → ge a n) ∧ ∀ k, val L k ≤ lenAt T (r + k)) :=
  ⟨_, afterL_in w, aimF_nn (lenAt_nn hT) ok ha, box_char (lenAt_nn hT) ha ok hg⟩
/-! ### the least text -/
def textM (lo hi : Int) (L : Ps) : List Int := setAll lo (List.replicate (hi - lo + 1).toNat 0) L
theorem textM_len {lo hi : Int} (h : lo ≤ hi) (L : Ps) : ((textM lo hi L).length : Int) = hi - lo + 1 := by
  unfold textM
  rw [setAll_len, List.length_replicate]
  omega
theorem textM_at {lo hi : Int} {L : Ps} (g : Good L) (hL : ∀ q ∈ L, lo ≤ q.1 ∧ q.1 ≤ hi) {k : Int} (h0 : lo ≤ k) (h1 : k ≤ hi) : lenAt (textM lo hi L) (k - lo) = val L k := by
  unfold lenAt textM
  have hr : ((List.replicate (hi - lo + 1).toNat (0 : Int)).length : Int) = hi - lo + 1 := by
    rw [List.length_replicate]
    omega
  rw [setAll_get g.nd (fun q hq => by have := hL q hq; omega) h0 (by omega)]
  unfold val
  cases look L k with
  | some v => rfl
  | none =>
    show (List.replicate _ (0 : Int)).getD _ 0 = 0
    rw [List.getD_eq_getElem?_getD, List.getElem?_replicate]
    split <;> rfl
theorem val_off {lo hi : Int} {L : Ps} (hL : ∀ q ∈ L, lo ≤ q.1 ∧ q.1 ≤ hi) {k : Int} (h : ¬ (lo ≤ k ∧ k ≤ hi)) : val L k = 0 := by
  refine val_out fun z => ?_
  obtain ⟨q, hq, e⟩ := List.mem_map.mp z
  rw [← e] at h
  exact h (hL q hq)
theorem textM_nn {lo hi : Int} {L : Ps} (g : Good L) (hL : ∀ q ∈ L, lo ≤ q.1 ∧ q.1 ≤ hi) : ∀ x ∈ textM lo hi L, 0 ≤ x := by
  intro x hx
  obtain ⟨i, hi'⟩ := List.mem_iff_getElem?.mp hx
  have l := (List.getElem?_eq_some_iff.mp hi').1
  have l2 : (textM lo hi L).length = (hi - lo + 1).toNat := by
    unfold textM
    rw [setAll_len, List.length_replicate]
  have e := textM_at g hL (k := i + lo) (by omega) (by omega)
  unfold lenAt at e
  rw [show ((i : Int) + lo - lo).toNat = i by omega, List.getD_eq_getElem?_getD, hi'] at e
  have e' : x = val L (i + lo) := e
  rw [e']
  exact val_nonneg g _
section
variable {cs : List Cmd} {goal lo hi : Int} {st : Option Int} {L : Ps}
/-- from it, and just its goal, the goal is reached -/
theorem least_gets (g : Good L) (w : Within cs lo hi) (ok : AllOk cs) (hg : 1 ≤ goal) (e : boxM cs goal = some (st, L)) (pos : ∀ n, st = some n → 1 ≤ n) :
    ∃ a', afterL (textM lo hi L) (-lo) (some (st.getD 0)) cs = some (-lo + last cs, a') ∧ ge a' goal := by
  have hL := box_within e w
  have z := w.zero
  have tl := textM_len (lo := lo) (hi := hi) (by omega) L
  have a0 : ge (some (st.getD 0)) 0 := ge_some.mpr (by
    cases st with
    | none => exact Int.le_refl 0
    | some n =>
      have := pos n rfl
      show 0 ≤ n
      omega)
  obtain ⟨a', h1, _, h2⟩ := after_char (textM_nn g hL) a0 ok hg (w.le (show -(-lo) ≤ lo by omega) (show hi ≤ (textM lo hi L).length - 1 - (-lo) by omega))
  refine ⟨a', h1, h2.mpr ⟨st, L, e, fun n en => ge_some.mpr (by rw [en]; exact Int.le_refl n), fun k => ?_⟩⟩
  by_cases h : lo ≤ k ∧ k ≤ hi
  · rw [show -lo + k = k - lo by omega, textM_at g hL h.1 h.2]
    exact Int.le_refl _
  · rw [val_off hL h]
    exact lenAt_nn (textM_nn g hL) _
/-- with a goal less by one it is not -/
theorem least_goal (g : Good L) (w : Within cs lo hi) (ok : AllOk cs) (hg : 1 ≤ goal) (e : boxM cs goal = some (st, L)) {n : Int} (es : st = some n) (hn : 1 ≤ n) :
    ∃ a', afterL (textM lo hi L) (-lo) (some (n - 1)) cs = some (-lo + last cs, a') ∧ ¬ ge a' goal := by
  have hL := box_within e w
  have z := w.zero
  have tl := textM_len (lo := lo) (hi := hi) (by omega) L
  obtain ⟨a', h1, _, h2⟩ := after_char (textM_nn g hL) (ge_some.mpr (show 0 ≤ n - 1 by omega)) ok hg (w.le (show -(-lo) ≤ lo by omega) (show hi ≤ (textM lo hi L).length - 1 - (-lo) by omega))
  refine ⟨a', h1, fun x => ?_⟩
  obtain ⟨st', L', e', h3, _⟩ := h2.mp x
  rw [e] at e'
  cases e'
  have := ge_some.mp (h3 n es)
  omega
/-- with a length less by one it is not -/
theorem least_row (g : Good L) (w : Within cs lo hi) (ok : AllOk cs) (hg : 1 ≤ goal) (e : boxM cs goal = some (st, L)) (pos : ∀ n, st = some n → 1 ≤ n) {i : Nat} (li : i < (textM lo hi L).length) (h : 0 < lenAt (textM lo hi L) i) :
    ∃ a', afterL ((textM lo hi L).set i (lenAt (textM lo hi L) i - 1)) (-lo) (some (st.getD 0)) cs = some (-lo + last cs, a') ∧ ¬ ge a' goal := by
  have hL := box_within e w
  have z := w.zero
  have tl := textM_len (lo := lo) (hi := hi) (by omega) L
  have a0 : ge (some (st.getD 0)) 0 := ge_some.mpr (by
    cases st with
    | none => exact Int.le_refl 0
    | some n =>
      have := pos n rfl
      show 0 ≤ n
      omega)
  have nn : ∀ x ∈ (textM lo hi L).set i (lenAt (textM lo hi L) i - 1), 0 ≤ x := fun x hx => by
    rcases List.mem_or_eq_of_mem_set hx with q | q
    · exact textM_nn g hL x q
    · omega
  obtain ⟨a', h1, _, h2⟩ := after_char (r := -lo) nn a0 ok hg (w.le (show -(-lo) ≤ lo by omega) (by rw [List.length_set]; omega))
  refine ⟨a', h1, fun x => ?_⟩
  obtain ⟨st', L', e', _, h4⟩ := h2.mp x
  rw [e] at e'
  cases e'
  have q := h4 (i + lo)
  rw [show -lo + (i + lo) = (i : Int) by omega] at q
  have ev := textM_at g hL (k := i + lo) (by omega) (by omega)
  rw [show (i : Int) + lo - lo = i by omega] at ev
  rw [← ev] at q
  have es : lenAt ((textM lo hi L).set i (lenAt (textM lo hi L) i - 1)) i = lenAt (textM lo hi L) i - 1 := by
    conv => lhs; unfold lenAt
    rw [Int.toNat_natCast, List.getD_eq_getElem?_getD, List.getElem?_set_self li]
    rfl
  rw [es] at q
  omega
end
end Gc

/-! running, where nothing is raised -/
namespace Gc
open PySem L2
abbrev s_check_text : Stmt := top 12
abbrev s_check_cursor : Stmt := top 13
abbrev s_run : Stmt := top 19
abbrev s_shown_column : Stmt := top 22
abbrev s_moved : Stmt := top 24
abbrev s_new_goal : Stmt := top 25
theorem at_len' {T : List Int} {r : Int} (h0 : 0 ≤ r) (h1 : r < T.length) : atI (T.map V.int) r = some (.int (lenAt T r)) := by
  have e : r = (r.toNat : Int) := by omega
  refine at_of (j := r.toNat) e ?_
  have l : r.toNat < T.length := by omega
  unfold lenAt
  rw [List.getElem?_map, List.getD_eq_getElem?_getD, List.getElem?_eq_getElem l]
  rfl
theorem minI (i j : Int) : (if j < i then j else i) = min i j := by split <;> omega
theorem maxI (i j : Int) : (if j > i then j else i) = max i j := by split <;> omega
theorem iteN1 {c A B : Prop} [Decidable c] (hc : c) (h : B) : if (!decide c) = true then A else B := by
  rw [decide_eq_true hc]
  exact iteF h
theorem iteN0 {c A B : Prop} [Decidable c] (hc : ¬ c) (h : A) : if (!decide c) = true then A else B := by
  rw [decide_eq_false hc]
  exact iteT h
def spText (K : PySem.W.Frag) : Sp := fun vs H Q _ => ∃ (t : Addr) (T : List Int), vs = [.ref t] ∧ SqL K H t (T.map V.int) ∧ T ≠ [] ∧ (∀ x ∈ T, 0 ≤ x) ∧ ∀ H', Same H H' → Q .non H'
def spCursor (K : PySem.W.Frag) : Sp := fun vs H Q _ => ∃ (n r : Int) (g : Option Int) (c : Addr), vs = [.int n, .ref c] ∧ SqT K H c [.int r, optV g] ∧ 0 ≤ r ∧ r < n ∧ ge g 0 ∧ Q .non H
def spShown : Sp := fun vs H Q _ => ∃ (t : Int) (g : Option Int), vs = [.int t, optV g] ∧ Q (.int (seen t g)) H
def spGoal (K : PySem.W.Frag) : Sp := fun vs H Q _ => ∃ (t : Int) (g : Option Int) (v : V) (c : Cmd), vs = [.int t, optV g, v] ∧ CmdAt K H v c ∧ Q (optV (aim1 t g c)) H
/-- one command: None, or the new cursor -/
def step1 (T : List Int) (r : Int) (g : Option Int) (c : Cmd) : Option (Int × Option Int) := if 0 ≤ r + c.dv ∧ r + c.dv < T.length then some (r + c.dv, aim1 (lenAt T (r + c.dv)) g c) else none
def spMoved (K : PySem.W.Frag) : Sp := fun vs H Q _ => ∃ (t b : Addr) (T : List Int) (r : Int) (g : Option Int) (v : V) (c : Cmd), vs = [.ref t, .ref b, v] ∧ SqL K H t (T.map V.int) ∧ SqT K H b [.int r, optV g] ∧ CmdAt K H v c ∧
  (step1 T r g c = none → Q .non H) ∧ ∀ r' g', step1 T r g c = some (r', g') → ∀ p, H p = none → Q (.ref p) (upd H p (.tup [.int r', optV g']))
def spRun (K : PySem.W.Frag) : Sp := fun vs H Q _ => ∃ (t b l : Addr) (T : List Int) (r : Int) (g : Option Int) (xs : List V) (cs : List Cmd) (r' : Int) (g' : Option Int), vs = [.ref t, .ref b, .ref l] ∧ SqL K H t (T.map V.int) ∧ SqT K H b [.int r, optV g] ∧ SqL K H l xs ∧ CmdsOf K H xs cs ∧
  (∀ x ∈ T, 0 ≤ x) ∧ 0 ≤ r ∧ r < T.length ∧ ge g 0 ∧ AllOk cs ∧ cs.length ≤ 10000 ∧ afterL T r g cs = some (r', g') ∧ ∀ (H' : Hp) (p : Addr), Same H H' → SqT K H' p [.int r', optV g'] → Q (.ref p) H'
theorem aim1_vert {t t' : Int} {g : Option Int} {c : Cmd} (h : c.vert = true) : aim1 t g c = g := by cases c <;> first | rfl | cases h
theorem dv_flat {c : Cmd} (h : ¬ c.vert = true) : c.dv = 0 := by cases c <;> first | rfl | exact absurd rfl h
theorem afterL_cons {T : List Int} {r : Int} {g : Option Int} {c : Cmd} {cs : List Cmd} (h0 : 0 ≤ r) (h1 : r < T.length) : afterL T r g (c :: cs) = (step1 T r g c).bind fun q => afterL T q.1 q.2 cs := by
  unfold step1
  simp only [afterL]
  by_cases v : c.vert = true
  · rw [if_pos v]
    by_cases i : 0 ≤ r + c.dv ∧ r + c.dv < T.length
    · rw [if_pos i, if_pos i, aim1_vert (t' := 0) v]
      rfl
    · rw [if_neg i, if_neg i]
      rfl
  · rw [if_neg v, dv_flat v, Int.add_zero, if_pos ⟨h0, h1⟩]
    rfl
theorem step1_in {T : List Int} {r r' : Int} {g g' : Option Int} {c : Cmd} (h : step1 T r g c = some (r', g')) : 0 ≤ r' ∧ r' < T.length := by
  unfold step1 at h
  split at h
  · rename_i i
    cases h
    exact i
  · cases h
section
variable {P : Program} {w : World} {K : PySem.W.Frag} {mg : Str → Option Value} {base : Heap} {wo wn : Addr}
theorem sc_check_text : FnScope ["text", "index", "length"] ["text"] (defScope s_check_text) := ⟨rfl, rfl, rfl, by decide +kernel, rfl, by decide +kernel, by decide +kernel⟩
theorem ok_check_text {f : Addr} {fd : FuncData} (F : Fun K "check_text" "check_text" s_check_text f fd) (T : TxtB K mg wo wn) : FnOk P w K mg base CX0 1 f fd ["text"] (spText K) := by
  refine F.ok sc_check_text (fun vs H Q E h => ?_) (fun cdv A outer s H vs Q E hr h => ?_)
  · obtain ⟨t, T, rfl, _⟩ := h
    rfl
  · obtain ⟨t, tx, rfl, ht, ne, nn, k⟩ := h
    refine ⟨_, (pss_cons (ps_if (pt_not (pt_truth (pv 0) (fun _ => rfl))) (pss_one ps_never) pss_nil)
      (pss_one (ps_for PassesOwn.never rfl (pi_enum (by rfl) T.enumerate (pa_cons (pv 0) pa_nil)) (pg_tup rfl (pgs_cons (pg_name (i := 1) sc_check_text.nd rfl (Or.inl rfl)) (pgs_cons (pg_name (i := 2) sc_check_text.nd rfl (Or.inl rfl)) pgs_nil))) (pss_one (ps_if (pt_cmpR op_lt (pv 2) pe_int (nomark _)) (pss_one ps_never) pss_nil))))), ?_⟩
    refine ⟨_, rfl, true, .inl ⟨_, ht, ?_⟩, iteF ?_⟩
    · cases tx with
      | nil => exact absurd rfl ne
      | cons x r => rfl
    refine ⟨_, rfl, t, _, rfl, ht, for_it (walk_enum (K := K) (a := t) (xs := tx.map V.int)) (fun i σ H' => ∃ v1 v2 : Option V, σ = [some (.ref t), v1, v2] ∧ Same H H')
      ⟨none, none, rfl, Same.refl H⟩ (fun i σ H' _ ⟨_, _, _, e⟩ => e.seq ht) (fun i x σ H1 H2 hi h y => ?_) (fun σ H1 h => ?_)⟩
    · obtain ⟨v1, v2, rfl, e⟩ := h
      obtain ⟨T1, x1, y1, rfl, nT, rfl, e1, e2⟩ := y
      obtain ⟨z, hz, rfl⟩ : ∃ z, tx[i]? = some z ∧ y1 = .int z := by
        have e3 : (tx.map V.int)[i]? = some y1 := e2
        rw [List.getElem?_map] at e3
        cases q : tx[i]? with
        | none =>
          rw [q] at e3
          cases e3
        | some z =>
          rw [q] at e3
          exact ⟨z, rfl, (Option.some.inj e3).symm⟩
      have z0 := nn z (List.mem_of_getElem? hz)
      refine ⟨T1, _, rfl, SqT.of upd_same, rfl, _, _, rfl, _, _, rfl, rfl, ?_⟩
      refine ⟨_, rfl, _, _, rfl, rfl, _, rfl, ite2 (fun c => absurd (of_decide_eq_true c) (by omega)) (fun _ => ?_)⟩
      exact ⟨_, _, rfl, same_upd e nT⟩
    · obtain ⟨v1, v2, rfl, e⟩ := h
      exact k _ e
theorem sc_check_cursor : FnScope ["lines", "cursor", "row", "goal"] ["lines", "cursor"] (defScope s_check_cursor) := ⟨rfl, rfl, rfl, by decide +kernel, rfl, by decide +kernel, by decide +kernel⟩
theorem ok_check_cursor {f : Addr} {fd : FuncData} (F : Fun K "check_cursor" "check_cursor" s_check_cursor f fd) : FnOk P w K mg base CX0 1 f fd ["lines", "cursor"] (spCursor K) := by
  refine F.ok sc_check_cursor (fun vs H Q E h => ?_) (fun cdv A outer s H vs Q E hr h => ?_)
  · obtain ⟨n, r, g, c, rfl, _⟩ := h
    rfl
  · obtain ⟨n, r, g, c, rfl, hc, r0, r1, g0, k⟩ := h
    refine ⟨_, (pss_cons (ps_asg (pv 1) (pg_tup rfl (pgs_cons (pg_name (i := 2) sc_check_cursor.nd rfl (Or.inl rfl)) (pgs_cons (pg_name (i := 3) sc_check_cursor.nd rfl (Or.inl rfl)) pgs_nil))))
      (pss_one (ps_if (PW.pt (pw_or (pt_not (pt_chain op_le op_lt pe_int (pv 2) (pv 0))) (pw_or1 (PW.pt (pw_and (pt_cmpR op_notN (pv 3) pe_non (nomark _)) (pw_and1 (pt_cmpR op_lt (pv 3) pe_int (nomark _)))))))) (pss_one ps_never) pss_nil))), ?_⟩
    refine ⟨_, rfl, c, _, rfl, hc, rfl, _, _, rfl, _, _, rfl, rfl, ?_⟩
    refine ⟨_, rfl, _, _, rfl, rfl, _, rfl, ite2 (fun _ => ?_) (fun c => absurd (decide_eq_true r0) c)⟩
    refine ⟨_, rfl, _, _, rfl, rfl, _, rfl, ?_⟩
    refine iteN1 r1 ?_
    cases g with
    | none => exact ⟨_, rfl, rfl, _, rfl, iteF (iteF k)⟩
    | some y =>
      have y0 := ge_some.mp g0
      refine ⟨_, rfl, rfl, _, rfl, iteT ?_⟩
      refine ⟨_, rfl, _, _, rfl, rfl, _, rfl, ite2 (fun c => absurd (of_decide_eq_true c) (by omega)) (fun _ => k)⟩
theorem sc_shown_column : FnScope ["length", "goal"] ["length", "goal"] (defScope s_shown_column) := ⟨rfl, rfl, rfl, by decide +kernel, rfl, by decide +kernel, by decide +kernel⟩
theorem ok_shown_column {f : Addr} {fd : FuncData} (F : Fun K "shown_column" "shown_column" s_shown_column f fd) (T : TxtB K mg wo wn) : FnOk P w K mg base CX0 1 f fd ["length", "goal"] spShown := by
  refine F.ok sc_shown_column (fun vs H Q E h => ?_) (fun cdv A outer s H vs Q E hr h => ?_)
  · obtain ⟨t, g, rfl, _⟩ := h
    rfl
  · obtain ⟨t, g, rfl, k⟩ := h
    refine ⟨_, (pss_one (ps_ret (pe_ifExp (pt_cmpR op_isN (pv 1) pe_non (nomark _)) (pv 0) (pe_callB (call_min2 rfl) (by rfl) T.min (by decide +kernel) (pa_cons (pv 1) (pa_cons (pv 0) pa_nil)))))), ?_⟩
    cases g with
    | none => exact ⟨_, rfl, rfl, _, rfl, iteT ⟨_, rfl, k⟩⟩
    | some y =>
      refine ⟨_, rfl, rfl, _, rfl, iteF ?_⟩
      refine ⟨_, rfl, _, rfl, _, _, rfl, ?_⟩
      show Q (.int (if t < y then t else y)) H
      rw [minI]
      exact k
theorem sc_new_goal : FnScope ["length", "goal", "command"] ["length", "goal", "command"] (defScope s_new_goal) := ⟨rfl, rfl, rfl, by decide +kernel, rfl, by decide +kernel, by decide +kernel⟩
theorem ok_new_goal {f : Addr} {fd : FuncData} (F : Fun K "new_goal" "new_goal" s_new_goal f fd) (T : TxtB K mg wo wn) (c_shown_column : Cal P w K mg base 1 "shown_column" spShown) : FnOk P w K mg base CX0 2 f fd ["length", "goal", "command"] (spGoal K) := by
  refine F.ok sc_new_goal (fun vs H Q E h => ?_) (fun cdv A outer s H vs Q E hr h => ?_)
  · obtain ⟨t, g, v, c, rfl, _⟩ := h
    rfl
  · obtain ⟨t, g, v, c, rfl, ⟨a, rfl, hc⟩, k⟩ := h
    refine ⟨_, (pss_one (ps_match (pe_ix ix_tup (pv 2) pe_int (fun _ _ => rfl)) (mc_str (pss_one (ps_ret pe_int)) (mc_str (pss_one (ps_ret pe_non)) (mc_str (pss_one (ps_ret (pe_callB (call_min2 rfl) (by rfl) T.min (by decide +kernel) (pa_cons (pe_op op_add (pe_cal c_shown_column hr (by decide) (by rfl) (pa_cons (pv 0) (pa_cons (pv 1) pa_nil))) (pe_ix ix_tup (pv 2) pe_int (fun _ _ => rfl))) (pa_cons (pv 0) pa_nil))))) (mc_str (pss_one (ps_ret (pe_callB (call_max2 rfl) (by rfl) T.max (by decide +kernel) (pa_cons (pe_op op_sub (pe_cal c_shown_column hr (by decide) (by rfl) (pa_cons (pv 0) (pa_cons (pv 1) pa_nil))) (pe_ix ix_tup (pv 2) pe_int (fun _ _ => rfl))) (pa_cons pe_int pa_nil))))) (mc_any (pss_one (ps_ret (pv 1)))))))))), ?_⟩
    cases c with
    | home => exact ⟨_, rfl, a, _, 0, _, rfl, rfl, hc, rfl, m_yes (by decide +kernel) k⟩
    | stop => exact ⟨_, rfl, a, _, 0, _, rfl, rfl, hc, rfl, m_no (by decide +kernel) (m_yes (by decide +kernel) k)⟩
    | right n =>
      refine ⟨_, rfl, a, _, 0, _, rfl, rfl, hc, rfl, m_no (by decide +kernel) (m_no (by decide +kernel) (m_yes (by decide +kernel) ?_))⟩
      refine ⟨_, rfl, _, rfl, t, g, rfl, _, rfl, a, _, 1, _, rfl, rfl, hc, rfl, _, _, rfl, rfl, _, rfl, _, _, rfl, ?_⟩
      show Q (.int (if t < seen t g + n then t else seen t g + n)) H
      rw [minI]
      exact k
    | left n =>
      refine ⟨_, rfl, a, _, 0, _, rfl, rfl, hc, rfl, m_no (by decide +kernel) (m_no (by decide +kernel) (m_no (by decide +kernel) (m_yes (by decide +kernel) ?_)))⟩
      refine ⟨_, rfl, _, rfl, t, g, rfl, _, rfl, a, _, 1, _, rfl, rfl, hc, rfl, _, _, rfl, rfl, _, _, rfl, ?_⟩
      show Q (.int (if 0 > seen t g - n then 0 else seen t g - n)) H
      rw [maxI, Int.max_comm]
      exact k
    | down n => exact ⟨_, rfl, a, _, 0, _, rfl, rfl, hc, rfl, m_no (by decide +kernel) (m_no (by decide +kernel) (m_no (by decide +kernel) (m_no (by decide +kernel) ⟨_, rfl, k⟩)))⟩
    | up n => exact ⟨_, rfl, a, _, 0, _, rfl, rfl, hc, rfl, m_no (by decide +kernel) (m_no (by decide +kernel) (m_no (by decide +kernel) (m_no (by decide +kernel) ⟨_, rfl, k⟩)))⟩
theorem sc_moved : FnScope ["text", "cursor", "command", "row"] ["text", "cursor", "command"] (defScope s_moved) := ⟨rfl, rfl, rfl, by decide +kernel, rfl, by decide +kernel, by decide +kernel⟩
theorem ok_moved {f : Addr} {fd : FuncData} (F : Fun K "moved" "moved" s_moved f fd) (T : TxtB K mg wo wn) (c_row_change : Cal P w K mg base 1 "row_change" (spRow K)) (c_new_goal : Cal P w K mg base 2 "new_goal" (spGoal K)) : FnOk P w K mg base CX0 3 f fd ["text", "cursor", "command"] (spMoved K) := by
  refine F.ok sc_moved (fun vs H Q E h => ?_) (fun cdv A outer s H vs Q E hr h => ?_)
  · obtain ⟨t, b, tx, r, g, v, c, rfl, _⟩ := h
    rfl
  · obtain ⟨t, b, tx, r, g, v, c, rfl, ht, hb, hv, kn, ks⟩ := h
    refine ⟨_, (pss_cons (ps_set (i := 3) sc_moved.nd rfl (Or.inl rfl) (pe_op op_add (pe_ix ix_tup (pv 1) pe_int (fun _ _ => rfl)) (pe_cal c_row_change hr (by decide) (by rfl) (pa_cons (pv 2) pa_nil))))
      (pss_cons (ps_if (pt_not (pt_chain op_le op_lt pe_int (pv 3) (pe_callB call_len_seq (by rfl) T.len (by decide +kernel) (pa_cons (pv 0) pa_nil)))) (pss_one (ps_ret pe_non)) pss_nil)
      (pss_one (ps_ret (pe_tup (pa_cons (pv 3) (pa_cons (pe_cal c_new_goal hr (by decide) (by rfl) (pa_cons (pe_ix ix_list (pv 0) (pv 3) (fun _ _ => rfl)) (pa_cons (pe_ix ix_tup (pv 1) pe_int (fun _ _ => rfl)) (pa_cons (pv 2) pa_nil)))) pa_nil))))))), ?_⟩
    refine ⟨_, rfl, b, _, 0, _, rfl, rfl, hb, rfl, _, rfl, v, c, rfl, hv, _, _, rfl, rfl, ?_⟩
    have out : ¬ (0 ≤ r + c.dv ∧ r + c.dv < tx.length) → Q .non H := fun z => kn (by unfold step1; rw [if_neg z])
    refine ⟨_, rfl, _, _, rfl, rfl, _, rfl, ite2 (fun c0 => ?_) (fun c0 => ?_)⟩
    · have c0' : 0 ≤ r + c.dv := of_decide_eq_true c0
      refine ⟨_, rfl, t, _, rfl, .inl ht, _, _, rfl, rfl, _, rfl, ?_⟩
      by_cases c1 : r + c.dv < tx.length
      · refine iteN1 (by rw [List.length_map]; exact c1) ?_
        refine ⟨_, rfl, _, rfl, _, rfl, t, _, _, _, rfl, rfl, ht, at_len' c0' c1, _, rfl, b, _, 1, _, rfl, rfl, hb, rfl, _, rfl, lenAt tx (r + c.dv), g, v, c, rfl, hv, (by show 2 ≤ sizeLine; decide), fun p hp => ?_⟩
        exact ks _ _ (by unfold step1; rw [if_pos ⟨c0', c1⟩]) p hp
      · refine iteN0 (by rw [List.length_map]; exact c1) ?_
        exact out fun z => c1 z.2
    · refine ⟨_, rfl, ?_⟩
      refine iteT (B := _) ?_
      exact out fun z => c0 (decide_eq_true z.1)
theorem sc_run : FnScope ["text", "cursor", "commands", "place", "index", "command"] ["text", "cursor", "commands"] (defScope s_run) := ⟨rfl, rfl, rfl, by decide +kernel, rfl, by decide +kernel, by decide +kernel⟩
theorem ok_run {f : Addr} {fd : FuncData} (F : Fun K "run" "run" s_run f fd) (T : TxtB K mg wo wn) (c_check_text : Cal P w K mg base 1 "check_text" (spText K)) (c_check_cursor : Cal P w K mg base 1 "check_cursor" (spCursor K))
    (c_check_commands : Cal P w K mg base 3 "check_commands" (spCheck K)) (c_moved : Cal P w K mg base 3 "moved" (spMoved K)) : FnOk P w K mg base CX0 4 f fd ["text", "cursor", "commands"] (spRun K) := by
  refine F.ok sc_run (fun vs H Q E h => ?_) (fun cdv A outer s H vs Q E hr h => ?_)
  · obtain ⟨t, b, l, tx, r, g, xs, cs, r', g', rfl, _⟩ := h
    rfl
  · obtain ⟨t, b, l, tx, r, g, xs, cs, r', g', rfl, ht, hb, hl, hcs, nn, r0, r1, g0, ok, ln, hrun, k⟩ := h
    refine ⟨_, (pss_cons (ps_expr (pe_cal c_check_text hr (by decide) (by rfl) (pa_cons (pv 0) pa_nil)))
      (pss_cons (ps_expr (pe_cal c_check_cursor hr (by decide) (by rfl) (pa_cons (pe_callB call_len_seq (by rfl) T.len (by decide +kernel) (pa_cons (pv 0) pa_nil)) (pa_cons (pv 1) pa_nil))))
      (pss_cons (ps_expr (pe_cal c_check_commands hr (by decide) (by rfl) (pa_cons (pv 2) pa_nil)))
      (pss_cons (ps_set (i := 3) sc_run.nd rfl (Or.inl rfl) (pv 1))
      (pss_cons (ps_for PassesOwn.never rfl (pi_enum (by rfl) T.enumerate (pa_cons (pv 2) pa_nil)) (pg_tup rfl (pgs_cons (pg_name (i := 4) sc_run.nd rfl (Or.inl rfl)) (pgs_cons (pg_name (i := 5) sc_run.nd rfl (Or.inl rfl)) pgs_nil))) (pss_cons (ps_set (i := 3) sc_run.nd rfl (Or.inl rfl) (pe_cal c_moved hr (by decide) (by rfl) (pa_cons (pv 0) (pa_cons (pv 3) (pa_cons (pv 5) pa_nil)))))
      (pss_one (ps_if (pt_cmpR op_isN (pv 3) pe_non (nomark _)) (pss_one ps_never) pss_nil))))
      (pss_one (ps_ret (pv 3)))))))), ?_⟩
    refine ⟨_, rfl, t, tx, rfl, ht, (by intro z; subst z; simp at r1; omega), nn, fun H1 e1 => ?_⟩
    refine ⟨_, rfl, t, _, rfl, .inl (e1.seq ht), _, rfl, (tx.map V.int).length, r, g, b, rfl, seq_t e1 hb, r0, by rw [List.length_map]; exact r1, g0, ?_⟩
    refine ⟨_, rfl, l, xs, cs, rfl, e1.seq hl, hcs.same e1, ok, ln, fun H2 e2 => ?_⟩
    have e12 := e1.trans e2
    refine ⟨_, rfl, ?_⟩
    refine ⟨_, rfl, l, _, rfl, e12.seq hl, for_it (walk_enum (K := K) (a := l) (xs := xs)) (fun i σ H' => ∃ (p : Addr) (rr : Int) (gg : Option Int) (v1 v2 : Option V), σ = [some (.ref t), some (.ref b), some (.ref l), some (.ref p), v1, v2] ∧ Same H H' ∧ SqT K H' p [.int rr, optV gg] ∧ 0 ≤ rr ∧ rr < tx.length ∧ afterL tx rr gg (cs.drop i) = some (r', g'))
      ⟨b, r, g, none, none, rfl, e12, seq_t e12 hb, r0, r1, hrun⟩ (fun i σ H' _ ⟨_, _, _, _, _, _, e, _⟩ => e.seq hl) (fun i x σ H3 H4 hi h y => ?_) (fun σ H3 h => ?_)⟩
    · obtain ⟨p, rr, gg, v1, v2, rfl, e3, hp, q0, q1, hgo⟩ := h
      obtain ⟨T1, x1, y1, rfl, nT, rfl, ex1, ex2⟩ := y
      obtain ⟨c, hc, hca⟩ := paired_at hcs ex2
      have hdrop : cs.drop i = c :: cs.drop (i + 1) := by
        obtain ⟨h1, h2⟩ := List.getElem?_eq_some_iff.mp hc
        rw [List.drop_eq_getElem_cons h1, h2]
      rw [hdrop, afterL_cons q0 q1] at hgo
      have eT : Same H3 (upd H3 T1 (.tup [x1, y1])) := same_upd (Same.refl _) nT
      have eHT := e3.trans eT
      obtain ⟨⟨r2, g2⟩, hst, hrest⟩ := Option.bind_eq_some_iff.mp hgo
      have hin := step1_in hst
      refine ⟨T1, _, rfl, SqT.of upd_same, rfl, _, _, rfl, _, _, rfl, rfl, ?_⟩
      refine ⟨_, rfl, _, rfl, _, rfl, t, p, tx, rr, gg, y1, c, rfl, eHT.seq ht, seq_t eT hp, hca.same eHT, (fun z => by rw [hst] at z; cases z), fun r3 g3 z p3 np3 => ?_⟩
      rw [hst] at z
      cases z
      have e4 : Same (upd H3 T1 (.tup [x1, y1])) (upd (upd H3 T1 (.tup [x1, y1])) p3 (.tup [.int r2, optV g2])) := same_upd (Same.refl _) np3
      refine ⟨_, rfl, rfl, _, rfl, iteF ?_⟩
      exact ⟨p3, r2, g2, _, _, rfl, eHT.trans e4, SqT.of upd_same, hin.1, hin.2, hrest⟩
    · obtain ⟨p, rr, gg, v1, v2, rfl, e3, hp, q0, q1, hgo⟩ := h
      rw [hcs.len, List.drop_length] at hgo
      have z : (rr, gg) = (r', g') := Option.some.inj hgo
      cases z
      exact ⟨_, rfl, k _ p e3 hp⟩
end
end Gc

/-! what a list of commands does to all goals on one text: a number added, kept between two bounds -/
namespace Gc
/-- the goal None is the greatest -/
def chg1 : Cmd → Int
  | .right n => n
  | .left n => -n
  | _ => 0
def chg : List Cmd → Int
  | [] => 0
  | c :: cs => chg1 c + chg cs
theorem chg_snoc (cs : List Cmd) (c : Cmd) : chg (cs ++ [c]) = chg cs + chg1 c := by
  induction cs with
  | nil => show chg1 c + 0 = 0 + chg1 c; omega
  | cons d cs ih => show chg1 d + chg (cs ++ [c]) = chg1 d + chg cs + chg1 c; rw [ih]; omega
/-- where the goal x goes, if 0 goes to lo, None to hi, and d is added -/
def Clamp (lo hi : Option Int) (d x : Int) (g : Option Int) : Prop := match lo, hi, g with
  | none, none, none => True
  | some l, none, some y => y = max l (x + d)
  | some l, some h, some y => l ≤ h ∧ y = max l (min h (x + d))
  | _, _, _ => False
theorem clamp1 {t : Int} (ht : 0 ≤ t) {lo hi : Option Int} {d x : Int} {g : Option Int} (h : Clamp lo hi d x g) (c : Cmd) (ok : c.ok) : Clamp (aim1 t lo c) (aim1 t hi c) (d + chg1 c) x (aim1 t g c) := by
  unfold Clamp at h
  cases c with
  | down n =>
    show Clamp lo hi (d + 0) x g
    rw [Int.add_zero]
    exact h
  | up n =>
    show Clamp lo hi (d + 0) x g
    rw [Int.add_zero]
    exact h
  | home => exact ⟨Int.le_refl 0, by omega⟩
  | stop => trivial
  | right n =>
    have o : 1 ≤ n := ok
    match lo, hi, g, h with
    | none, none, none, _ =>
      show min (t + n) t ≤ min (t + n) t ∧ min (t + n) t = max (min (t + n) t) (min (min (t + n) t) (x + (d + n)))
      omega
    | some l, none, some y, h =>
      have h' : y = max l (x + d) := h
      show min (min l t + n) t ≤ min (t + n) t ∧ min (min y t + n) t = max (min (min l t + n) t) (min (min (t + n) t) (x + (d + n)))
      omega
    | some l, some e, some y, h =>
      obtain ⟨h1, h2⟩ : l ≤ e ∧ y = max l (min e (x + d)) := h
      show min (min l t + n) t ≤ min (min e t + n) t ∧ min (min y t + n) t = max (min (min l t + n) t) (min (min (min e t + n) t) (x + (d + n)))
      omega
  | left n =>
    have o : 1 ≤ n := ok
    match lo, hi, g, h with
    | none, none, none, _ =>
      show max 0 (t - n) ≤ max 0 (t - n) ∧ max 0 (t - n) = max (max 0 (t - n)) (min (max 0 (t - n)) (x + (d + -n)))
      omega
    | some l, none, some y, h =>
      have h' : y = max l (x + d) := h
      show max 0 (min l t - n) ≤ max 0 (t - n) ∧ max 0 (min y t - n) = max (max 0 (min l t - n)) (min (max 0 (t - n)) (x + (d + -n)))
      omega
    | some l, some e, some y, h =>
      obtain ⟨h1, h2⟩ : l ≤ e ∧ y = max l (min e (x + d)) := h
      show max 0 (min l t - n) ≤ max 0 (min e t - n) ∧ max 0 (min y t - n) = max (max 0 (min l t - n)) (min (max 0 (min e t - n)) (x + (d + -n)))
      omega
theorem clampF {T : Int → Int} (hT : ∀ k, 0 ≤ T k) {x : Int} (x0 : 0 ≤ x) : ∀ {cs : List Cmd} {r : Int} {lo hi : Option Int} {d : Int} {g : Option Int}, AllOk cs → Clamp lo hi d x g → Clamp (aimF T r lo cs) (aimF T r hi cs) (d + chg cs) x (aimF T r g cs)
  | [], r, lo, hi, d, g, _, h => by
    show Clamp lo hi (d + 0) x g
    rw [Int.add_zero]
    exact h
  | c :: cs, r, lo, hi, d, g, ok, h => by
    have q := clampF hT x0 (cs := cs) (r := r + c.dv) (fun e he => ok e (List.mem_cons_of_mem _ he)) (clamp1 (hT r) h c (ok c List.mem_cons_self))
    rw [show d + chg (c :: cs) = d + chg1 c + chg cs from by show d + (chg1 c + chg cs) = _; omega]
    exact q
theorem clamp_all {T : Int → Int} (hT : ∀ k, 0 ≤ T k) {cs : List Cmd} (ok : AllOk cs) (r : Int) {x : Int} (x0 : 0 ≤ x) : Clamp (aimF T r (some 0) cs) (aimF T r none cs) (chg cs) x (aimF T r (some x) cs) := by
  have q := clampF hT x0 (cs := cs) (r := r) (lo := some 0) (hi := none) (d := 0) (g := some x) ok (by show x = max 0 (x + 0); omega)
  rw [Int.zero_add] at q
  exact q
/-- from a goal of at least all lines on, it is as from None, if that leads to a column -/
theorem aimF_far {T : Int → Int} {B : Int} (hB : ∀ k, T k ≤ B) {x : Int} (hx : B ≤ x) : ∀ {cs : List Cmd} {r : Int}, (aimF T r (some x) cs = aimF T r none cs) ∨ (aimF T r (some x) cs = some x ∧ aimF T r none cs = none ∧ chg cs = 0)
  | [], r => .inr ⟨rfl, rfl, rfl⟩
  | c :: cs, r => by
    have same : ∀ a : Option Int, aim1 (T r) (some x) c = a → aim1 (T r) none c = a → (aimF T r (some x) (c :: cs) = aimF T r none (c :: cs)) := fun a e1 e2 => by
      show aimF T (r + c.dv) (aim1 (T r) (some x) c) cs = aimF T (r + c.dv) (aim1 (T r) none c) cs
      rw [e1, e2]
    have sx : seen (T r) (some x) = seen (T r) none := by
      have := hB r
      show min x (T r) = T r
      omega
    cases c with
    | right n => exact .inl (same _ rfl (by show some (min (seen (T r) none + n) (T r)) = some (min (seen (T r) (some x) + n) (T r)); rw [sx]))
    | left n => exact .inl (same _ rfl (by show some (max 0 (seen (T r) none - n)) = some (max 0 (seen (T r) (some x) - n)); rw [sx]))
    | home => exact .inl (same _ rfl rfl)
    | stop => exact .inl (same _ rfl rfl)
    | down n =>
      rcases aimF_far hB hx (cs := cs) (r := r + n) with e | ⟨e1, e2, e3⟩
      · exact .inl e
      · exact .inr ⟨e1, e2, by show 0 + chg cs = 0; omega⟩
    | up n =>
      rcases aimF_far hB hx (cs := cs) (r := r + -n) with e | ⟨e1, e2, e3⟩
      · exact .inl e
      · exact .inr ⟨e1, e2, by show 0 + chg cs = 0; omega⟩
end Gc

/-! commands repeated in a row: one run, the bounds and the change tell them all -/
namespace Gc
def iterA (f : Option Int → Option Int) : Nat → Option Int → Option Int
  | 0, g => g
  | k + 1, g => iterA f k (f g)
/-- the goal behind m further runs, told by the first one's goal -/
def tellM (lo hi : Option Int) (d : Int) (m : Nat) : Option Int → Option Int
  | none => none
  | some y => match hi with
    | none => some (max (y + m * d) (lo.getD 0))
    | some h => some (min (max (y + m * d) (lo.getD 0)) h)
/-- a goal that a run may leave -/
def Img (lo hi : Option Int) : Option Int → Prop
  | none => hi = none
  | some y => ∃ l, lo = some l ∧ l ≤ y ∧ ∀ h, hi = some h → y ≤ h ∧ l ≤ h
theorem clamp_img {lo hi : Option Int} {d x : Int} {g : Option Int} (h : Clamp lo hi d x g) : Img lo hi g := by
  unfold Clamp at h
  split at h
  · rfl
  · exact ⟨_, rfl, by omega, fun _ z => nomatch z⟩
  · obtain ⟨h1, h2⟩ := h
    exact ⟨_, rfl, by omega, fun _ z => by cases z; omega⟩
  · exact h.elim
theorem tell_iter {f : Option Int → Option Int} {d : Int} {lo hi : Option Int} (fn : f none = hi) (hc : ∀ x, 0 ≤ x → Clamp lo hi d x (f (some x))) (l0 : ∀ l, lo = some l → 0 ≤ l) : ∀ (m : Nat) (g : Option Int), Img lo hi g → iterA f m g = tellM lo hi d m g
  | 0, g, hg => by
    show g = tellM lo hi d 0 g
    cases g with
    | none => rfl
    | some y =>
      obtain ⟨l, rfl, ly, hh⟩ := hg
      cases hi with
      | none =>
        show some y = some (max (y + ((0 : Nat) : Int) * d) l)
        rw [show ((0 : Nat) : Int) * d = 0 by simp]
        congr 1
        omega
      | some h =>
        have := hh h rfl
        show some y = some (min (max (y + ((0 : Nat) : Int) * d) l) h)
        rw [show ((0 : Nat) : Int) * d = 0 by simp]
        congr 1
        omega
  | m + 1, g, hg => by
    show iterA f m (f g) = tellM lo hi d (m + 1) g
    cases g with
    | none =>
      have hn : hi = none := hg
      rw [fn, hn, tell_iter (by rw [fn]; exact hn.symm ▸ rfl) (hn ▸ hc) l0 m none rfl]
      rfl
    | some y =>
      obtain ⟨l, rfl, ly, hh⟩ := hg
      have y0 : 0 ≤ y := Int.le_trans (l0 l rfl) ly
      have c := hc y y0
      rw [tell_iter fn hc l0 m _ (clamp_img c)]
      have md : ((m + 1 : Nat) : Int) * d = m * d + d := by rw [Int.natCast_add, Int.add_mul]; simp
      have up : 0 ≤ d → 0 ≤ (m : Int) * d := fun q => Int.mul_nonneg (Int.natCast_nonneg m) q
      have dn : d ≤ 0 → (m : Int) * d ≤ 0 := fun q => Int.mul_nonpos_of_nonneg_of_nonpos (Int.natCast_nonneg m) q
      cases e : f (some y) with
      | none =>
        rw [e] at c
        unfold Clamp at c
        cases hi <;> exact c.elim
      | some y' =>
        rw [e] at c
        cases hi with
        | none =>
          have c' : y' = max l (y + d) := c
          show some (max (y' + (m : Int) * d) l) = some (max (y + ((m + 1 : Nat) : Int) * d) l)
          rw [md]
          generalize (m : Int) * d = t at up dn ⊢
          congr 1
          omega
        | some h =>
          obtain ⟨c1, c2⟩ : l ≤ h ∧ y' = max l (min h (y + d)) := c
          have yh := (hh h rfl).1
          show some (min (max (y' + (m : Int) * d) l) h) = some (min (max (y + ((m + 1 : Nat) : Int) * d) l) h)
          rw [md]
          generalize (m : Int) * d = t at up dn ⊢
          congr 1
          omega
end Gc

/-! running key by key, where it fails, and again and again -/
namespace Gc
/-- one key -/
def stepP (T : List Int) (r : Int) (g : Option Int) (c : Cmd) : Option (Int × Option Int) := if c.vert = true then (if 0 ≤ r + c.dv ∧ r + c.dv < T.length then some (r + c.dv, g) else none) else some (r, aim1 (lenAt T r) g c)
theorem afterL_step (T : List Int) (r : Int) (g : Option Int) (c : Cmd) (cs : List Cmd) : afterL T r g (c :: cs) = (stepP T r g c).bind fun x => afterL T x.1 x.2 cs := by
  unfold stepP
  simp only [afterL]
  by_cases cv : c.vert = true
  · rw [if_pos cv, if_pos cv]
    split <;> rfl
  · rw [if_neg cv, if_neg cv]
    rfl
/-- the index of the first key that leaves the text -/
def failAt (T : List Int) : Int → Option Int → List Cmd → Option Nat
  | _, _, [] => none
  | r, g, c :: cs => match stepP T r g c with
    | none => some 0
    | some x => (failAt T x.1 x.2 cs).map (· + 1)
theorem fail_step (T : List Int) (r : Int) (g : Option Int) (c : Cmd) (cs : List Cmd) : failAt T r g (c :: cs) = match stepP T r g c with
    | none => some 0
    | some x => (failAt T x.1 x.2 cs).map (· + 1) := rfl
theorem step_row {T : List Int} {r : Int} {g : Option Int} {c : Cmd} {x : Int × Option Int} (r0 : 0 ≤ r) (r1 : r < T.length) (h : stepP T r g c = some x) : 0 ≤ x.1 ∧ x.1 < T.length := by
  unfold stepP at h
  split at h
  · split at h
    · rename_i q
      cases h
      exact q
    · cases h
  · cases h
    exact ⟨r0, r1⟩
theorem fail_none {T : List Int} : ∀ {cs : List Cmd} {r : Int} {g : Option Int}, failAt T r g cs = none ↔ afterL T r g cs ≠ none
  | [], r, g => ⟨fun _ z => (nomatch z), fun _ => rfl⟩
  | c :: cs, r, g => by
    rw [afterL_step]
    unfold failAt
    cases stepP T r g c with
    | none => simp
    | some x =>
      have ih := fail_none (T := T) (cs := cs) (r := x.1) (g := x.2)
      show (failAt T x.1 x.2 cs).map (· + 1) = none ↔ afterL T x.1 x.2 cs ≠ none
      rw [Option.map_eq_none_iff]
      exact ih
def repP (T : List Int) (cs : List Cmd) : Nat → Int → Option Int → Nat ⊕ (Int × Option Int)
  | 0, r, g => .inr (r, g)
  | k + 1, r, g => match failAt T r g cs with
    | some n => .inl n
    | none => match afterL T r g cs with
      | some x => repP T cs k x.1 x.2
      | none => .inl 0
theorem repP_step (T : List Int) (cs : List Cmd) (k : Nat) (r : Int) (g : Option Int) : repP T cs (k + 1) r g = match failAt T r g cs with
    | some n => .inl n
    | none => match afterL T r g cs with
      | some x => repP T cs k x.1 x.2
      | none => .inl 0 := rfl
theorem after_row {T : List Int} : ∀ {cs : List Cmd} {r : Int} {g : Option Int} {x : Int × Option Int}, 0 ≤ r → r < T.length → afterL T r g cs = some x → 0 ≤ x.1 ∧ x.1 < T.length
  | [], r, g, x, h0, h1, h => by
    cases h
    exact ⟨h0, h1⟩
  | c :: cs, r, g, x, h0, h1, h => by
    rw [afterL_step] at h
    cases e : stepP T r g c with
    | none =>
      rw [e] at h
      cases h
    | some y =>
      rw [e] at h
      obtain ⟨a, b⟩ := step_row h0 h1 e
      exact after_row a b h
theorem after_nn {T : List Int} (hT : ∀ x ∈ T, 0 ≤ x) : ∀ {cs : List Cmd} {r : Int} {g : Option Int} {x : Int × Option Int}, AllOk cs → ge g 0 → afterL T r g cs = some x → ge x.2 0
  | [], r, g, x, _, hg, h => by
    cases h
    exact hg
  | c :: cs, r, g, x, ok, hg, h => by
    rw [afterL_step] at h
    cases e : stepP T r g c with
    | none =>
      rw [e] at h
      cases h
    | some y =>
      rw [e] at h
      refine after_nn hT (fun d hd => ok d (List.mem_cons_of_mem _ hd)) ?_ h
      unfold stepP at e
      split at e
      · split at e
        · cases e
          exact hg
        · cases e
      · cases e
        have q := aimF_nn (T := lenAt T) (lenAt_nn hT) (cs := [c]) (r := r) (a := g) (fun d hd => by rw [List.mem_singleton.mp hd]; exact ok c List.mem_cons_self) hg
        exact q
/-- possible exactly within -/
theorem after_within {T : List Int} : ∀ {cs : List Cmd} {r : Int} {g : Option Int}, 0 ≤ r → r < T.length → afterL T r g cs ≠ none → Within cs (-r) (T.length - 1 - r)
  | [], r, g, h0, h1, _, i => by
    rw [List.take_nil]
    show -r ≤ 0 ∧ 0 ≤ _
    omega
  | c :: cs, r, g, h0, h1, h, i => by
    rw [afterL_step] at h
    cases e : stepP T r g c with
    | none =>
      rw [e] at h
      exact absurd rfl h
    | some y =>
      rw [e] at h
      obtain ⟨a, b⟩ := step_row h0 h1 e
      have ih := after_within (T := T) (cs := cs) (r := y.1) (g := y.2) a b h
      have ey : y.1 = r + c.dv := by
        unfold stepP at e
        split at e
        · split at e
          · cases e
            rfl
          · cases e
        · rename_i cv
          cases e
          show r = r + c.dv
          have : c.dv = 0 := by cases c <;> first | rfl | exact absurd rfl cv
          omega
      cases i with
      | zero =>
        show -r ≤ 0 ∧ 0 ≤ _
        omega
      | succ i =>
        have q := ih i
        have e2 : last ((c :: cs).take (i + 1)) = c.dv + last (cs.take i) := rfl
        rw [e2]
        omega
theorem fail_in {T : List Int} {cs : List Cmd} {r : Int} {g : Option Int} (h0 : 0 ≤ r) (h1 : r < T.length) (h : failAt T r g cs = none) : Within cs (-r) (T.length - 1 - r) := after_within h0 h1 (fail_none.mp h)
/-- commands that come back to their row -/
theorem repP_row {T : List Int} {cs : List Cmd} {r : Int} (w : Within cs (-r) (T.length - 1 - r)) (l0 : last cs = 0) : ∀ (m : Nat) (g : Option Int), repP T cs m r g = .inr (r, iterA (fun g => aimF (lenAt T) r g cs) m g)
  | 0, g => rfl
  | m + 1, g => by
    have e := afterL_in (a := g) w
    rw [repP_step, fail_none.mpr (by rw [e]; exact fun z => nomatch z), e, l0, Int.add_zero]
    exact repP_row w l0 m _
end Gc

/-! raising the program's own errors: classes whose __init__ keeps one value; calls of defs that may raise -/
namespace L2
open PySem PySem.Spec PyProof.Rows
/-- def __init__(self, value): self.value = value, on a new exception of the class at C -/
def spKeep (C : Addr) : Sp := fun vs H Q _ => ∃ (a : Addr) (v : V), vs = [.ref a, v] ∧ H a = some (exo a C none) ∧
  ∀ dx, H dx = none → dx ≠ a → Q .non (upd (upd H dx (exd dx [("value", v)])) a (exo a C (some dx)))
/-- the error class x of the program, at C -/
structure ErrC (P : Program) (w : World) (K : PySem.W.Frag) (mg : Str → Option Value) (base : Heap) (x : Str) (C : Addr) : Prop where
  T : OexC K C
  g : mg x = some (.ref C)
  no : PySem.W.findIn K (.ref C) "value" = some none
  ex : ∃ (fI : Addr) (fd : FuncData), PySem.W.findIn K (.ref C) "__init__" = some (some (.ref fI)) ∧ PySem.W.typeIn K (.ref fI) = some (.type "function") ∧
    FnOk P w K mg base CX0 1 fI fd ["self", "value"] (spKeep C) ∧ Binds K fd ["self", "value"] []
/-- x(e) in a raise: the new error's class, its dict, the heap with that dict -/
def rRaise (C : Addr) (Q : XK) (v : V) (H1 : Hp) : Prop := [v].length ≤ 1000 ∧ ∀ a, H1 a = none → spKeep C (.ref a :: ([v] ++ [])) (upd H1 a (exo a C none))
  (fun u H2 => u = .non ∧ ∃ (d : Addr) (fs : List (Str × V)), H2 a = some (exo a C (some d)) ∧ H2 d = some (exd d fs) ∧ H1 d = none ∧ Q (.ref C) (some d) (upd (del H2 a) d (.xd fs))) (fun _ _ _ => False)
theorem ask_raise {C : Addr} {Q : XK} {v : V} {H : Hp} (h : ∀ d, H d = none → Q (.ref C) (some d) (upd H d (.xd [("value", v)]))) : rRaise C Q v H := by
  refine ⟨(by show 1 ≤ 1000; decide), fun a ha => ⟨a, v, rfl, upd_same, fun dx hd ne => ⟨rfl, dx, [("value", v)], upd_same, ?_, ?_, ?_⟩⟩⟩
  · rw [upd_ne ne, upd_same]
  · rw [upd_ne ne] at hd
    exact hd
  · have hd' : H dx = none := by
      rw [upd_ne ne] at hd
      exact hd
    have e : upd (del (upd (upd (upd H a (exo a C none)) dx (exd dx [("value", v)])) a (exo a C (some dx))) a) dx (.xd [("value", v)]) = upd H dx (.xd [("value", v)]) := by
      funext b
      by_cases hb : b = dx
      · rw [hb, upd_same, upd_same]
      · rw [upd_ne hb, upd_ne hb]
        by_cases ha' : b = a
        · rw [ha', del_same, ha]
        · rw [del_ne ha', upd_ne ha', upd_ne hb, upd_ne ha']
    rw [e]
    exact h dx hd'
section
variable {X : Cx} {k j : Nat} {x : Str} {sp : Sp} {p pos pos2 : Pos} {e : Expr} {es : List Expr} {t : TA} {te : TE} {W : WX} {C : Addr}
def tRaiseE (C : Addr) (W : WX) (te : TE) : TS := fun _ σ H => te σ H fun v H1 => rRaise C (fun cls d H' => W cls d σ H') v H1
theorem ps_raiseE (hc : X.calm = true) (c : ErrC X.prog X.w X.K X.mg X.base x C) (hr : Room j X.A) (hj : 2 ≤ j) (tk : Takes X W) (he : PE X e te) (hg : Gl X x)
    (hdb : (x == ("__debug__" : Str)) = false := by decide)
    (hs : starEach (e :: []) X.env = (false, eval e X.env) :: starEach [] X.env := by rfl) (hpl : (backTo pos (starEach [] X.env)).any (·.1) = false := by rfl) :
    PS X (.Raise (some (.Call (.Name x p) [e] [] pos)) none pos2) (tRaiseE C W te) := by
  obtain ⟨T, g, no, fI, fd, iC, tI, F, b⟩ := c
  exact ps_raise hc tk (pmk_oex (dvs := []) T iC tI F (hr.mono hj) b .nil pass0 hg g (pa_cons he pa_nil hs) hdb hs hpl)
/-- a def that is called by its name and may let an error out -/
structure CalX (P : Program) (w : World) (K : PySem.W.Frag) (mg : Str → Option Value) (base : Heap) (k : Nat) (x : Str) (sp : Sp) : Prop where
  ex : ∃ (f : Addr) (fd : FuncData) (ps : List Str), FnOk P w K mg base (L2.CX P w) k f fd ps sp ∧
    mg x = some (.ref f) ∧ PySem.W.keepIn K (.ref f) = true ∧ Binds K fd ps []
theorem pe_calX (tk : Takes X W) (c : CalX X.prog X.w X.K X.mg X.base k x sp) (hr : Room j X.A) (hk : k ≤ j) (hg : Gl X x) (ha : PA X (e :: es) t)
    (hdb : (x == ("__debug__" : Str)) = false := by decide)
    (he : starEach (e :: es) X.env = (false, eval e X.env) :: starEach es X.env := by rfl)
    (hpl : (backTo pos (starEach es X.env)).any (·.1) = false := by rfl) :
    PE X (.Call (.Name x p) (e :: es) [] pos) (tCallS sp (WE W) t) := by
  obtain ⟨f, fd, ps, F, hm, kp, b⟩ := c.ex
  exact pe_callS F (hr.mono hk) hg hm kp b (fun σ => passAt tk σ) ha hdb he hpl
end
end L2

/-! calls by names alone, the names in the other order: f(b=.., a=..) of def f(a, b) -/
namespace Gc
open PySem PySem.Spec PyProof.Rows L2
def gRev {α : Type} (us ws : List α) : List α := us ++ ws.reverse
theorem vals_rev : ∀ {vs : List V} {us : List Value}, Vals vs us → Vals vs.reverse us.reverse
  | _, _, .nil => .nil
  | v :: vs, u :: us, .cons h t => by
    rw [List.reverse_cons, List.reverse_cons]
    exact (vals_rev t).append (.cons h .nil)
structure CalK (P : Program) (w : World) (K : PySem.W.Frag) (mg : Str → Option Value) (base : Heap) (k : Nat) (x : Str) (ks : List Str) (sp : Sp) : Prop where
  ex : ∃ (f : Addr) (fd : FuncData) (ps : List Str), FnOk P w K mg base CX0 k f fd ps sp ∧ mg x = some (.ref f) ∧ PySem.W.keepIn K (.ref f) = true ∧ KBinds K fd ps ks gRev gRev
/-- how it binds: h is «fun _ _ _ _ _ _ us ws hl => match us, ws, hl with | [], [_, _], _ => rfl | [_], [_], _ => rfl | [_, _], [], _ => rfl» -/
theorem bindsK {K : PySem.W.Frag} {x qual : Str} {st : Stmt} {f : Addr} {fd : FuncData} {ps ks : List Str} (F : Fun K x qual st f fd)
    (h : ∀ (kV doc pm : Value) (an : Option Addr) (cdv ct : Value) (us ws : List Value), (gRev us ws).length = ps.length → bindArgs (PySem.W.fnOf x qual (defArgs st) (defBody st) (defScope st) .none kV doc pm an cdv ct) ⟨us, ks.zip ws⟩ = pure (ps.zip (gRev us ws))) : KBinds K fd ps ks gRev gRev := by
  obtain ⟨oc, od, kV, doc, pm, an, cdv, ct, osl, rfl, lk, hcd⟩ := F.ex
  exact ⟨fun s us ws _ hl => .of_eq (h kV doc pm an cdv ct us ws hl), fun a b => a.append (vals_rev b)⟩
theorem pe_calK {X : Cx} {k j : Nat} {x : Str} {ks : List Str} {sp : Sp} {p pos : Pos} {kws : List Keyword} {tk : TA} (c : CalK X.prog X.w X.K X.mg X.base k x ks sp) (hr : Room j X.A) (hk : k ≤ j) (hg : Gl X x) (hkw : PK X kws tk)
    (hdb : (x == ("__debug__" : Str)) = false := by decide) (hall : (backToKw pos (keywordEach kws X.env)).all (·.1.isSome) = true := by rfl) (hks : (backToKw pos (keywordEach kws X.env)).filterMap (·.1) = ks := by rfl)
    (hpn : ((backTo pos (starEach [] X.env)).any (·.1) || (backToKw pos (keywordEach kws X.env)).any (·.1.isNone)) = false := by rfl) :
    PE X (.Call (.Name x p) [] kws pos) (tCallK sp gRev E0 tNil tk) := by
  obtain ⟨f, fd, ps, F, hm, kp, b⟩ := c.ex
  refine ⟨fun pins s σ H Q I h => ?_⟩
  refine wpAny_Call_Name_kw (ld_glob I hg hm ?_ hdb)
  refine PySem.W.callWith_KW0 (h₀ := X.base) I.ok.mod.kin kp hall ?_ hpn
  refine thn (hkw.run pos pins s σ H _ I h) fun ws s1 ⟨zs, H1, I1, rz, q⟩ => ⟨I1.kIn, ?_⟩
  rw [hks]
  exact run_fnk (us := []) (vs := []) F (hr.mono hk) b pass0 I1 .nil rz q
end Gc

/-! a caught error that is looked at: handed to a def within the except suite, its classes, its field -/
namespace L2
open PySem PySem.Spec PyProof.Rows
/-- what a def promises that is handed the error of the suite: at a, of the class at C, with the dict d -/
structure FnE (P : Program) (w : World) (K : PySem.W.Frag) (mg : Str → Option Value) (base : Heap) (k : Nat) (f : Addr) (fd : FuncData) (ps : List Str) (sp : Addr → Addr → Addr → Sp) : Prop where
  many : ∀ a C d vs H Q E, sp a C d vs H Q E → vs.length = ps.length
  go : ∀ (A : Around) (below : List Env) (s : Shared) (H : Hp) (given : Args) (us : List Value) (vs : List V) (Q : VK) (E : XK) (q : Addr × Obj) (C d : Addr), L2H.RoomH k A → L2H.PinOk below H s q → Zc (.ref C) (some d) q.2 → (∃ ws, q.2.data = .fields ws) →
    Env0 P w K mg base A below s H → BindsTo s fd given (ps.zip us) → Vals vs us → sp q.1 C d vs H Q E → codeAny (model P w) A (.call (.ref f) given) (CR CX0 below P w H s Q E) s
/-- the context that such a def's body runs in -/
abbrev cxE (P : Program) (w : World) (K : PySem.W.Frag) (mg : Str → Option Value) (base : Heap) (N : List Str) (qual : Str) (sc : Scope) (f : Addr) (cd : Value) (A : Around) (below : List Env) (s : Shared) (H : Hp) (E : XK) (q : Addr × Obj) : Cx :=
  L2H.cxH CX0 P w K mg base N qual sc f cd A below s H E q
theorem Fun.okE {P : Program} {w : World} {K : PySem.W.Frag} {mg : Str → Option Value} {base : Heap} {x qual : Str} {st : Stmt} {f : Addr} {fd : FuncData} {N ps : List Str} {k : Nat} {sp : Addr → Addr → Addr → Sp} (F : Fun K x qual st f fd) (S : FnScope N ps (defScope st))
    (many : ∀ a C d vs H Q E, sp a C d vs H Q E → vs.length = ps.length)
    (body : ∀ (cdv : Value) (A : Around) (below : List Env) (s : Shared) (H : Hp) (vs : List V) (Q : VK) (E : XK) (q : Addr × Obj) (C d : Addr), L2H.RoomH k (A.deeper (envOfC qual (defScope st) s.heap.objs.size f cdv)) → Zc (.ref C) (some d) q.2 → (∃ ws, q.2.data = .fields ws) → sp q.1 C d vs H Q E →
      ∃ t, PSs (cxE P w K mg base N qual (defScope st) f cdv A below s H E q) (defBody st) t ∧ t { nx := fun _ H' => Q .non H', rt := Q } (start N vs) H) : FnE P w K mg base (k + 1) f fd ps sp := by
  obtain ⟨oc, od, kV, doc, pm, an, cdv, ct, osl, rfl, lk, code⟩ := F.ex
  refine ⟨many, fun A below s H given us vs Q E q C d room pin hz hf env bnd rel want => ?_⟩
  have size := many _ _ _ _ _ _ _ want
  have inK : K.In s.heap := env.mod.kin.keeps fun b o z => (env.bs b o z).1
  have free : s.heap.NoLimit := env.mod.nolimit.keeps fun b o z => (env.bs b o z).1
  refine codeAny_call_function room.depth (inK _ _ lk) rfl S.co S.gen rfl (PySem.W.codeRec_of inK code) (bnd _ _ _ _ ?_)
  refine wpAny_newFunctionEnv_cells S.kind (fun ⟨n, v⟩ there => (S.par n (List.of_mem_zip there).1).elim .inl fun z => .inr ⟨z, PySem.W.cellsFrom_some _ _ _ (.inl z)⟩) fun env2 same s1 call => ?_
  subst same
  refine ⟨free.keeps call.toInCall.keep, codeAny_func ?_⟩
  obtain ⟨t, holds, ask⟩ := body cdv A below s H vs Q E q C d (room.deeper _) hz hf want
  refine wpAny_mono (holds.run [] s1 (start N vs) H _ (L2H.inv_startH S pin env size rel call) ask) (fun how s2 end_ => ?_) fun e s2 end_ => end_
  cases how with
  | ret u =>
    obtain ⟨v, τ, G, J, rv, z⟩ := end_
    exact ⟨v, G, J.os, J.bare, J.base, J.hok, rv, z⟩
  | next =>
    obtain ⟨τ, G, J, z⟩ := end_
    exact ⟨V.non, G, J.os, J.bare, J.base, J.hok, rfl, z⟩
  | brk => exact end_.elim fun _ z => z.elim fun _ y => y.2.elim
  | cont => exact end_.elim fun _ z => z.elim fun _ y => y.2.elim
/-- such a def, called by its name -/
structure CalE (P : Program) (w : World) (K : PySem.W.Frag) (mg : Str → Option Value) (base : Heap) (k : Nat) (x : Str) (sp : Addr → Addr → Addr → Sp) : Prop where
  ex : ∃ (f : Addr) (fd : FuncData) (ps : List Str), FnE P w K mg base k f fd ps sp ∧ mg x = some (.ref f) ∧ PySem.W.keepIn K (.ref f) = true ∧ Binds K fd ps []
def tCallE (a : Addr) (cls : Value) (d : Option Addr) (sp : Addr → Addr → Addr → Sp) (t : TA) : TE := fun σ H Q => t σ H fun vs H1 => ∃ C dd : Addr, cls = .ref C ∧ d = some dd ∧ sp a C dd vs H1 Q E0
section
variable {X : Cx} {k j : Nat} {x : Str} {sp : Addr → Addr → Addr → Sp} {p pos : Pos} {e : Expr} {es : List Expr} {t : TA} {te : TE} {a : Addr} {oe : Obj} {cls : Value} {d : Option Addr} {pn : List (Addr × Obj)}
theorem pe_callE (c : CalE X.prog X.w X.K X.mg X.base k x sp) (hr : Room j X.A) (hk : k ≤ j) (hz : Zc cls d oe) (hf : ∃ vs, oe.data = .fields vs) (hg : Gl (X.suite a ((a, oe) :: pn)) x) (ha : PA (X.suite a ((a, oe) :: pn)) (e :: es) t)
    (hdb : (x == ("__debug__" : Str)) = false := by decide)
    (he : starEach (e :: es) X.env = (false, eval e X.env) :: starEach es X.env := by rfl)
    (hpl : (backTo pos (starEach es X.env)).any (·.1) = false := by rfl) :
    PE (X.suite a ((a, oe) :: pn)) (.Call (.Name x p) (e :: es) [] pos) (tCallE a cls d sp t) := by
  obtain ⟨f, fd, ps, F, hm, kp, b⟩ := c.ex
  refine ⟨fun pins s σ H Q I h => ?_⟩
  refine wpAny_Call_Name_kw (ld_glob I hg hm ?_ hdb)
  refine PySem.W.callWith_K (h₀ := X.base) I.ok.mod.kin kp (thn (ha.run pos pins s σ H _ I h) fun us s1 ⟨vs, H1, I1, r, C, dd, ec, ed, q⟩ => ⟨I1.kIn, ?_⟩) he hpl
  subst ec
  subst ed
  have size : us.length = ps.length := by rw [← r.length]; exact F.many _ _ _ _ _ _ _ q
  have bnd := b s1 us I1.kIn (by rw [List.append_nil]; exact size)
  rw [List.append_nil] at bnd
  obtain ⟨p1, p2, p3, p4, p5⟩ := I1.pin (a, oe) (List.mem_append_left _ List.mem_cons_self)
  have pin : L2H.PinOk (X.suite a ((a, oe) :: pn)).stack H1 s1 (a, oe) := ⟨p1, p2, fun z => (List.mem_cons.mp (I1.stkSub a z)).elim p3 p4, p5⟩
  refine wpAny_call (codeAny_mono (F.go _ _ s1 H1 ⟨us, []⟩ us vs Q E0 (a, oe) C dd ((⟨hr.dp, hr.un⟩ : L2H.RoomH j (X.suite a ((a, oe) :: pn)).A).mono hk) pin hz hf I1.env0 bnd r q) fun how s2 end_ => ?_)
  cases how with
  | error u => exact False.elim end_
  | ok fl =>
    cases fl with
    | ret u => exact I1.after end_
    | next => exact False.elim end_
    | brk => exact False.elim end_
    | cont => exact False.elim end_
/-- what an error class must say, so that its instances can be looked at -/
structure ErrI (K : PySem.W.Frag) (C : Addr) : Prop where
  cl : (PySem.W.clsIn K C).isSome = true
  ga : PySem.W.findIn K (.ref C) "__getattribute__" = some (some (.builtin "BaseException.__getattribute__"))
  gg : PySem.W.findIn K (.ref C) "__getattr__" = some none
  be : PySem.W.subIn K (.ref C) (.type "BaseException") = some true
  hd : PySem.W.hasDictIn K C = true
  cc : PySem.W.findIn K (.ref C) "__class__" = some (some (.builtin "object.__class__"))
  gt : PySem.W.specialIn K (.builtin "object.__class__") "__get__" = some (some (.builtin "getset_descriptor.__get__"))
  tk : PySem.W.takesIn K (.builtin "object.__class__") = some true
  ob : PySem.W.mroIn K C (.type "object") = some true
  no : PySem.W.findIn K (.ref C) "value" = some none
theorem pin_inst {pins : List (Addr × Obj)} {s : Shared} {σ : St} {H : Hp} {C dd : Addr} {fs : List (Str × V)} (I : Inv X pins σ H s) (hp : (a, oe) ∈ X.pn) (hz : Zc (.ref C) (some dd) oe) (hf : ∃ vs, oe.data = .fields vs) (ed : H dd = some (.xd fs)) :
    ∃ (od : Obj) (mA : Str → Option Value), PySem.W.InstAt s.heap a oe C (some od) ∧ (∀ f, PySem.W.lookIn f od = some (mA f)) ∧ ∀ f, RelO (fs.lookup f) (mA f) := by
  obtain ⟨p1, _⟩ := I.pin (a, oe) (List.mem_append_left _ hp)
  obtain ⟨vs, hd⟩ := hf
  obtain ⟨mA, hns, rel⟩ := (show ObjOk X.prog X.w H s.heap dd (.xd fs) from I.hok dd _ ed)
  obtain ⟨od, ho, hl⟩ := lookIn_ns hns
  exact ⟨od, mA, ⟨p1, hz.1, by unfold PySem.W.notCls; rw [hd] <;> rfl, by rw [hz.2]; exact ho⟩, hl, rel⟩
/-- isinstance(e, c), e the error -/
def rIsX (K : PySem.W.Frag) (a C dd : Addr) : List V → Hp → VK → Prop := fun xs H Q => ∃ (fs : List (Str × V)) (c : V) (cv : Value) (b : Bool), xs = [.ref a, c] ∧ H dd = some (.xd fs) ∧ ErrI K C ∧ ClsV c cv ∧ PySem.W.kitOne K (.ref C) cv = some b ∧ Q (.bl b) H
theorem call_isX {C dd : Addr} (hp : (a, oe) ∈ X.pn) (hz : Zc (.ref C) (some dd) oe) (hf : ∃ vs, oe.data = .fields vs) : CallR X (.builtin "isinstance") (rIsX X.K a C dd) := by
  intro pins s σ H xs us Q I r h
  obtain ⟨fs, c, cv, b, rfl, ed, T, k, e, q⟩ := h
  obtain ⟨u1, u2, rfl, r1, r2⟩ := vals2 r
  have e2 := k.eq r2
  subst e2
  obtain rfl : u1 = Value.ref a := r1
  obtain ⟨od, mA, J, _, _⟩ := pin_inst I hp hz hf ed
  exact PySem.W.kia_one (PySem.W.kitx_exc T.cl T.ga T.gg T.be T.cc T.gt T.tk T.ob) I.kIn J e (fun z => nomatch z) fun tk => ⟨.bl b, H, I.tok tk, rfl, q⟩
/-- isinstance(e, (c1, c2, ..)) -/
def rIsXT (K : PySem.W.Frag) (a C dd : Addr) : List V → Hp → VK → Prop := fun xs H Q => ∃ (fs : List (Str × V)) (tp : Addr) (cs : List V) (us : List Value) (b : Bool), xs = [.ref a, .ref tp] ∧ H dd = some (.xd fs) ∧ ErrI K C ∧ H tp = some (.tup cs) ∧ Paired ClsV cs us ∧
  PySem.W.kitAny K (.ref C) us = some b ∧ Q (.bl b) H
theorem call_isXT {C dd : Addr} (hp : (a, oe) ∈ X.pn) (hz : Zc (.ref C) (some dd) oe) (hf : ∃ vs, oe.data = .fields vs) : CallR X (.builtin "isinstance") (rIsXT X.K a C dd) := by
  intro pins s σ H xs us Q I r h
  obtain ⟨fs, tp, cs, ws, b, rfl, ed, T, hT, k, e, q⟩ := h
  obtain ⟨u1, u2, rfl, r1, r2⟩ := vals2 r
  obtain rfl : u1 = Value.ref a := r1
  obtain rfl : u2 = Value.ref tp := r2
  obtain ⟨od, mA, J, _, _⟩ := pin_inst I hp hz hf ed
  obtain ⟨_, its, rv, o, g1, g2, n, g3⟩ := (show ObjOk X.prog X.w H s.heap tp (.tup cs) from I.hok tp _ hT)
  have e3 := ClsV.all k rv
  subst e3
  obtain ⟨oc, o2, dt, sl⟩ := o
  simp only at g2 g3
  subst g2 g3
  exact PySem.W.kia_tup (PySem.W.kitx_exc T.cl T.ga T.gg T.be T.cc T.gt T.tk T.ob) I.kIn J g1 e (fun z => nomatch z) fun tk => ⟨.bl b, H, I.tok tk, rfl, q⟩
/-- e.value -/
def tXfA (K : PySem.W.Frag) (a : Addr) (cls : Value) (d : Option Addr) (te : TE) : TE := fun σ H Q => te σ H fun x H1 => x = .ref a ∧ ∃ (C dd : Addr) (v : V), cls = .ref C ∧ d = some dd ∧ ErrI K C ∧ H1 dd = some (.xd [("value", v)]) ∧ Q v H1
theorem pe_xfA (hz : Zc cls d oe) (hf : ∃ vs, oe.data = .fields vs) (he : PE (X.suite a ((a, oe) :: pn)) e te) (hb : attributeBase e "value" X.env (eval e X.env) = eval e X.env := by rfl) :
    PE (X.suite a ((a, oe) :: pn)) (.Attribute e "value" pos) (tXfA X.K a cls d te) := by
  refine ⟨fun pins s σ H Q I h => ?_⟩
  refine attr_of hb (thn (he.run pins s σ H _ I h) fun u s1 hh => ?_)
  obtain ⟨x, H1, I1, rx, ex, C, dd, v, ec, ed, T, hd, q⟩ := hh
  subst ex
  obtain rfl : u = Value.ref a := rx
  subst ec
  subst ed
  obtain ⟨od, mA, J, hl, rel⟩ := pin_inst I1 List.mem_cons_self hz hf hd
  obtain ⟨u, hu, ru⟩ := RelO.some_of (v := v) (o := mA "value") (by
    have z := rel "value"
    rw [show List.lookup ("value" : Str) [(("value" : Str), v)] = some v by simp [List.lookup]] at z
    exact z)
  exact HandSPX.exc_get I1.kIn J T.ga T.gg T.be (PySem.W.findObj_own T.hd T.no rfl (by rw [hl, hu])) (handed_of ru) ⟨v, H1, I1.tok _, ru, q⟩
end
end L2
namespace Gc
open PySem PySem.Spec PyProof.Rows L2
/-- a def that may let an error out, called by names alone -/
structure CalKX (P : Program) (w : World) (K : PySem.W.Frag) (mg : Str → Option Value) (base : Heap) (k : Nat) (x : Str) (ks : List Str) (sp : Sp) : Prop where
  ex : ∃ (f : Addr) (fd : FuncData) (ps : List Str), FnOk P w K mg base (L2.CX P w) k f fd ps sp ∧ mg x = some (.ref f) ∧ PySem.W.keepIn K (.ref f) = true ∧ KBinds K fd ps ks gRev gRev
def tCallKX (sp : Sp) (W : WX) (tk : TA) : TE := fun σ H Q => tk σ H fun zs H2 => sp (gRev [] zs) H2 Q (WE W σ)
theorem pe_calKX {X : Cx} {W : WX} {k j : Nat} {x : Str} {ks : List Str} {sp : Sp} {p pos : Pos} {kws : List Keyword} {t : TA} (tk : Takes X W) (c : CalKX X.prog X.w X.K X.mg X.base k x ks sp) (hr : Room j X.A) (hk : k ≤ j) (hg : Gl X x) (hkw : PK X kws t)
    (hdb : (x == ("__debug__" : Str)) = false := by decide) (hall : (backToKw pos (keywordEach kws X.env)).all (·.1.isSome) = true := by rfl) (hks : (backToKw pos (keywordEach kws X.env)).filterMap (·.1) = ks := by rfl)
    (hpn : ((backTo pos (starEach [] X.env)).any (·.1) || (backToKw pos (keywordEach kws X.env)).any (·.1.isNone)) = false := by rfl) :
    PE X (.Call (.Name x p) [] kws pos) (tCallKX sp W t) := by
  obtain ⟨f, fd, ps, F, hm, kp, b⟩ := c.ex
  refine ⟨fun pins s σ H Q I h => ?_⟩
  refine wpAny_Call_Name_kw (ld_glob I hg hm ?_ hdb)
  refine PySem.W.callWith_KW0 (h₀ := X.base) I.ok.mod.kin kp hall ?_ hpn
  refine thn (hkw.run pos pins s σ H _ I h) fun ws s1 ⟨zs, H1, I1, rz, q⟩ => ⟨I1.kIn, ?_⟩
  rw [hks]
  have r2 := b.rel (us := []) (vs := []) .nil rz
  have size : (gRev [] ws).length = ps.length := by rw [← r2.length]; exact F.len _ _ _ _ q
  refine wpAny_call (codeAny_mono (F.run X.A X.stack s1 H1 ⟨[], ks.zip ws⟩ (gRev [] ws) (gRev [] zs) Q (WE W σ) (hr.mono hk) I1.env0 (b.to s1 [] ws I1.kIn size) r2 q) fun how s2 end_ => ?_)
  cases how with
  | error u => exact passAt tk σ pins H1 s1 u s2 I1 end_
  | ok fl =>
    cases fl with
    | ret u => exact I1.after end_
    | next => exact False.elim end_
    | brk => exact False.elim end_
    | cont => exact False.elim end_
end Gc
namespace L2
open PySem PySem.Spec PyProof.Rows
theorem takesNone {X : Cx} : Takes X (fun _ _ _ _ => False) := fun _ _ x => by
  obtain ⟨_, _, _, _, _, _, _, _, _, _, _, _, _, _, _, _, z⟩ := x
  exact z.elim
end L2

/-! within an except suite (and in the defs called there): unpacking of tuples, walks over lists, comprehensions -/
namespace HotX
open PySem PySem.Spec PyProof.Rows
section
variable {prog : Program} {w : World} {A : Around} {E : Value → Shared → Prop} {s : Shared}
theorem made_keeps {it : Addr} {h g : Heap} (k : ∀ b o, b ≠ it → h.get? b = some o → g.get? b = some o) (u : Obj) : ∀ b o, b ≠ it → h.get? b = some o → (g.push u).get? b = some o := fun b o hb e => Heap.get?_push_of_some _ (k b o hb e)
/-- the end of a built-in iterator within a suite: the StopIteration is chained to what is handled, and caught -/
theorem list_end_hot {it l x1 : Addr} {i : Nat} {items : Array Value} {Q : Option Value → Shared → Prop} (hot : HotAt A x1 s.heap) (hx1 : x1 ≠ it)
    (hit : s.heap.IsListIter it l i) (hl : s.heap.IsList l items) (hx : items[i]? = none) (hQ : ∀ h', Heap.ExtBut it s.heap h' → Q none { s with heap := h' }) : wpAny (model prog w) A (pyNext (.ref it)) Q E s := by
  obtain ⟨hh, o1, vs1, h1, d1, c1⟩ := hot
  obtain ⟨o, ho, hc, hd⟩ := id hit
  obtain ⟨ol, hol, _, nl, hdl⟩ := hl
  have g1 : ∀ b o', b ≠ it → s.heap.get? b = some o' → (s.heap.update it (Obj.mapFields (·.setIfInBounds 0 .none))).get? b = some o' := fun b o' hb e => (Heap.get?_update_other _ _ fun z => hb z.symm).trans e
  unfold pyNext
  refine wpAny_bind (wpAny_attempt (wpAny_callSpecial?_slot (name := Str.ofString "__next__") hit.typeIs slot_listiter_next (wpAny_call_entry slot_listiter_next hit.typeIs entry_listiter_next ?_ (args_listiter_next _))))
  refine wpAny_bind (m := field (.ref it) 0) (wpAny_field ho hd (x := .ref l) rfl ?_)
  rw [if_neg (show ¬ ((Value.ref l == Value.none) = true) from Bool.false_ne_true)]
  refine wpAny_bind (m := field (.ref it) 1) (wpAny_field ho hd (x := .int i 0) rfl ?_)
  refine wpAny_bind (m := seqItems? (.ref l)) (wpAny_seqItems hol hdl ?_)
  simp only [Int.toNat_natCast, hx]
  refine wpAny_bind (wpAny_rule (wpAny_bind (wpAny_setField ho hd (by simp) ?_)))
  refine wpAny_bind (m := newExc (.type "StopIteration") []) ?_
  simp only [newExc, newTuple]
  refine wpAny_bind (wpAny_newObj_type ?_ (by size_fits))
  refine wpAny_bind (m := firstArgMember _ _) (wpAny_of_eq (a := Value.none) (by first | rfl | (simp only [firstArgMember]; rfl)) ?_)
  refine wpAny_newObj_type ?_ (by size_fits)
  have k1 := made_keeps g1 { cls := .type "tuple", data := .seq ([] : List Value).toArray }
  have z1 := k1 _ o1 hx1 h1
  refine raiseNew_hot ⟨hh, o1, vs1, Heap.get?_push_of_some _ z1, d1, c1⟩ (Nat.ne_of_lt (Heap.lt_size z1)) (Heap.get?_push_size _ rfl) rfl (by first | (simp; done) | (simp; omega)) ?_
  refine wpAny_bind (wpAny_isInstance (T := "StopIteration") (b := true) ⟨_, Heap.get?_update_self _ (Heap.get?_push_size _ rfl) rfl, rfl⟩ isSubtype_stop ?_)
  refine wpAny_pure (hQ _ fun b o' hb e => ?_)
  have z := k1 b o' hb e
  rw [Heap.get?_update_other _ _ (Nat.ne_of_gt (Heap.lt_size z))]
  exact Heap.get?_push_of_some _ z
theorem tuple_end_hot {it l x1 : Addr} {i : Nat} {items : Array Value} {Q : Option Value → Shared → Prop} (hot : HotAt A x1 s.heap) (hx1 : x1 ≠ it)
    (hit : IsTupIter s.heap it l i) (hl : IsTup s.heap l items) (hx : items[i]? = none) (hQ : ∀ h', Heap.ExtBut it s.heap h' → Q none { s with heap := h' }) : wpAny (model prog w) A (pyNext (.ref it)) Q E s := by
  obtain ⟨hh, o1, vs1, h1, d1, c1⟩ := hot
  obtain ⟨o, ho, hc, hd⟩ := id hit
  obtain ⟨ol, hol, _, nl, hdl⟩ := hl
  have g1 : ∀ b o', b ≠ it → s.heap.get? b = some o' → (s.heap.update it (Obj.mapFields (·.setIfInBounds 0 .none))).get? b = some o' := fun b o' hb e => (Heap.get?_update_other _ _ fun z => hb z.symm).trans e
  unfold pyNext
  refine wpAny_bind (wpAny_attempt (wpAny_callSpecial?_slot (name := Str.ofString "__next__") hit.typeIs slot_tupleiter_next (wpAny_call_entry slot_tupleiter_next hit.typeIs entry_tupleiter_next ?_ (args_tupleiter_next _))))
  refine wpAny_bind (m := field (.ref it) 0) (wpAny_field ho hd (x := .ref l) rfl ?_)
  rw [if_neg (show ¬ ((Value.ref l == Value.none) = true) from Bool.false_ne_true)]
  refine wpAny_bind (m := field (.ref it) 1) (wpAny_field ho hd (x := .int i 0) rfl ?_)
  refine wpAny_bind (m := seqItems? (.ref l)) (wpAny_seqItems hol hdl ?_)
  simp only [Int.toNat_natCast, hx]
  refine wpAny_bind (wpAny_rule (wpAny_bind (wpAny_setField ho hd (by simp) ?_)))
  refine wpAny_bind (m := newExc (.type "StopIteration") []) ?_
  simp only [newExc, newTuple]
  refine wpAny_bind (wpAny_newObj_type ?_ (by size_fits))
  refine wpAny_bind (m := firstArgMember _ _) (wpAny_of_eq (a := Value.none) (by first | rfl | (simp only [firstArgMember]; rfl)) ?_)
  refine wpAny_newObj_type ?_ (by size_fits)
  have k1 := made_keeps g1 { cls := .type "tuple", data := .seq ([] : List Value).toArray }
  have z1 := k1 _ o1 hx1 h1
  refine raiseNew_hot ⟨hh, o1, vs1, Heap.get?_push_of_some _ z1, d1, c1⟩ (Nat.ne_of_lt (Heap.lt_size z1)) (Heap.get?_push_size _ rfl) rfl (by first | (simp; done) | (simp; omega)) ?_
  refine wpAny_bind (wpAny_isInstance (T := "StopIteration") (b := true) ⟨_, Heap.get?_update_self _ (Heap.get?_push_size _ rfl) rfl, rfl⟩ isSubtype_stop ?_)
  refine wpAny_pure (hQ _ fun b o' hb e => ?_)
  have z := k1 b o' hb e
  rw [Heap.get?_update_other _ _ (Nat.ne_of_gt (Heap.lt_size z))]
  exact Heap.get?_push_of_some _ z
theorem unpackItems_hot {t x1 : Addr} {items : Array Value} {Q : List Value → Shared → Prop} (hot : HotAt A x1 s.heap) (ht : IsTup s.heap t items)
    (hQ : ∀ h', Heap.ExtBut s.heap.objs.size s.heap h' → Q items.toList { s with heap := h' }) : wpAny (model prog w) A (unpackItems (.ref t) items.size none) Q E s := by
  have hlt : t ≠ s.heap.objs.size := by obtain ⟨o, ho, _⟩ := ht; exact Nat.ne_of_lt (Heap.lt_size ho)
  obtain ⟨hh, o1, vs1, h1, d1, c1⟩ := id hot
  have hx : x1 ≠ s.heap.objs.size := Nat.ne_of_lt (Heap.lt_size h1)
  unfold unpackItems
  refine wpAny_bind ?_
  · unfold notIterableAtAll
    refine wpAny_bind (wpAny_specialOf ht.typeIs slot_tuple_iter.lookup ?_)
    refine wpAny_pure ?_
    simp only [Bool.false_eq_true, if_false]
    refine wpAny_bind (wpAny_holding (iter_tuple ht ?_))
    refine wpAny_bind (wpAny_holding (draw_tuple hlt items.size 0 _ _ ⟨_, Heap.get?_push_size _ rfl, rfl, rfl⟩ (ht.push _) (by omega) fun h₁ hit₁ hs₁ => ?_))
    have hall : List.take items.size (List.drop 0 items.toList) = items.toList := by
      rw [List.drop_zero]; exact List.take_of_length_le (by simp)
    rw [hall]
    rw [if_neg (by simp)]
    have ht₁ : IsTup h₁ t items := (ht.push _).extBut hs₁.extBut hlt
    have hx₁ : h₁.get? x1 = some o1 := (hs₁.2 x1 hx).trans (Heap.get?_push_of_some _ h1)
    refine wpAny_bind (wpAny_holding (tuple_end_hot ⟨hh, o1, vs1, hx₁, d1, c1⟩ hx hit₁ ht₁ (by simp) fun h₂ he₂ => ?_))
    simp only [Option.isSome_none, Bool.false_eq_true, if_false]
    refine wpAny_pure (hQ h₂ fun b o hb e => he₂ b o hb (hs₁.extBut b o hb (Heap.get?_push_of_some _ e)))
theorem assign_Tuple_hot {env : Env} {elts : List Expr} {k} {pos : Pos} {t x1 : Addr} {items : Array Value} {Q : Unit → Shared → Prop} (hot : HotAt A x1 s.heap) (ht : IsTup s.heap t items)
    (hn : (assignEach elts env).length = items.size) (hstar : (assignEach elts env).findIdx? (·.1) = none)
    (h : ∀ h', Heap.ExtBut s.heap.objs.size s.heap h' → wpAny (model prog w) A (assignInOrder ((assignEach elts env).map (·.2)) items.toList) Q E { s with heap := h' }) :
    wpAny (model prog w) A (assign (.Tuple elts k pos) env (.ref t)) Q E s := by
  rw [assign_Tuple]
  refine wpAny_bind (wpAny_standAt ?_)
  unfold unpack
  rw [hn, hstar]
  exact wpAny_bind (wpAny_holding (unpackItems_hot hot ht h))
end
end HotX
namespace L2H
open PySem PySem.Spec PyProof.Rows L2 HotX
section
variable {X : Cx}
theorem pg_tupH {es : List Expr} {k : Nat} {pos : Pos} {t : TGs} {n : Nat} (hc : HotC X) (h : PGs X es t)
    (hn : (assignEach es X.env).length = n := by rfl) (hst : (assignEach es X.env).findIdx? (·.1) = none := by rfl) : PG X (.Tuple es k pos) (gTup X.K n t) := by
  refine ⟨fun pins s σ H v u Q I r hw => ?_⟩
  obtain ⟨a, xs, e1, hq, hl, hw⟩ := hw
  subst e1
  cases r
  obtain ⟨its, rv, ht, hz⟩ := I.tuple hq
  obtain ⟨x1, hot⟩ := hc.at I
  refine assign_Tuple_hot hot ht (by simp [hn, ← hl, rv.length]) hst fun h' hx => ?_
  have I1 : Inv X pins σ H { s with heap := h' } := I.kept (t' := s.toks) fun b o e => hx b o (Nat.ne_of_lt (Heap.lt_size e)) e
  exact h.run pins _ σ H xs _ Q I1 (by simpa using rv) hw
end
theorem turn_listH {P : Program} {w : World} {K : PySem.W.Frag} {tg : Expr} (a it : Addr) : TurnH P w K tg (Itl K a) [it] it (fun i h => h.IsListIter it a i) where
  mem := by simp
  obj := (turn_list (P := P) (w := w) (K := K) (tg := tg) a it).obj
  keep := (turn_list (P := P) (w := w) (K := K) (tg := tg) a it).keep
  item := by
    intro X hP hw hK hc i pins s σ H E I hf st hg
    subst hP hw hK
    obtain ⟨xs, x, hq, hx⟩ := hg
    obtain ⟨its, rv, p, hz⟩ := I.list hq
    obtain ⟨u, hu, ru⟩ := rv.get hx
    obtain ⟨f0, f1, f2, f3, f4, f5⟩ := hf it (by simp)
    refine wpAny_pyNext_list_item st p.isList (x := u) (by simpa using hu) fun h' st' sb => ?_
    have I1 : Inv X pins σ H { s with heap := h' } := I.turned (t' := s.toks) (fun b o hb e => (sb.2 b hb).trans e) f0 f1 f3 f4 f5
    obtain ⟨o, e, c, d⟩ := id st'
    exact ⟨u, rfl, go_of (s := { s with heap := h' }) e c d (by decide) ⟨x, H, I1, ru, ⟨rfl, fun ys hy => by rw [I.list_inj hy hq]; exact hx⟩, st', fun b hb => (hf b hb).1⟩⟩
  done := by
    intro X hP hw hK hc i pins s σ H E I hf st hg
    subst hP hw hK
    obtain ⟨xs, hq, hx⟩ := hg
    obtain ⟨its, rv, p, hz⟩ := I.list hq
    obtain ⟨f0, f1, f2, f3, f4, f5⟩ := hf it (by simp)
    have hl := rv.length
    obtain ⟨q, ⟨hh, v1, e1, c1⟩, hp⟩ := hc
    exact list_end_hot ⟨hh, q.2, v1, (I.pin q (List.mem_append_left _ hp)).1, e1, c1⟩ (f5 q (List.mem_append_left _ hp)) st p.isList (by simp; omega) fun h' eb => ⟨rfl, I.turned (t' := s.toks) (fun b o hb e => eb b o hb e) f0 f1 f3 f4 f5⟩
  self := fun _ _ _ _ _ st h => wpAny_pyIter_listiter st h
section
variable {X : Cx} {tg : Expr}
theorem pi_listH {l : Expr} {tl : TE} (hl : PE X l tl) : PIH X tg l (iList X.K tl) := by
  refine ⟨fun pins s σ H R I h => ?_⟩
  refine thn (hl.run pins s σ H _ I h) fun v s1 ⟨x, H1, I1, r1, q1⟩ => ?_
  obtain ⟨a, e, ⟨xs, hq⟩, q⟩ := q1
  subst e
  cases r1
  obtain ⟨its, rv, p, hz⟩ := I1.list hq
  refine wpAny_pyIter_list p.isList ?_
  refine ⟨s1.heap.objs.size, [s1.heap.objs.size], _, _, H1, rfl, I1.kept (t' := s1.toks) fun b o e => Heap.get?_push_of_some _ e, turn_listH a _, ⟨_, Heap.get?_push_size _ rfl, rfl, rfl⟩, fun b hb => ?_, q⟩
  have e : b = s1.heap.objs.size := by simpa using hb
  subst e
  exact I1.fpOk (Nat.le_refl _) (I1.hok.fresh (Nat.le_refl _))
end
/-- a comprehension's block within a suite: the pins of the def stay -/
abbrev blkH (X : Cx) (s : Shared) (H : Hp) (scope : Scope) (cenv : Env) (fp : List Addr) : Cx := { X.blk s H scope cenv fp with pn := X.pn }
theorem okPinned {X : Cx} (ok : X.Ok) (pn : List (Addr × Obj)) : ({ X with pn := pn } : Cx).Ok :=
  ⟨ok.mod, ok.kind, ok.glob, ok.blt, ok.above, ok.inj, ok.has, ok.cab, ok.hd, ok.frames, ok.stk, ok.exf, ok.bs, ok.bsz, ok.noex, ok.exfs, ok.funs, ok.frf⟩
section
variable {X : Cx} {pins : List (Addr × Obj)} {σ : St} {H : Hp} {s : Shared}
theorem block_startH {scope : Scope} {own : List (Str × Nat)} {fp : List Addr} (I : Inv X pins σ H s) (ok : BlkOk X.N X.env.scope scope own) (hN : X.N.Nodup) (hfp : ∀ b ∈ fp, FpOk X pins H b ∧ b < s.heap.objs.size) :
    Inv (blkH X s H scope (compEnvC scope (cellsFrom (s.heap.objs.size + 1) scope.names (cloFrom X.env.cells scope.names [])) s.heap.objs.size X.env) fp) [] (wipe σ (own.map (·.2))) H { s with heap := pushCells (s.heap.push { cls := .type "dict", data := .dict #[] }) scope.names } := by
  have J := block_start I ok hN hfp
  refine ⟨okPinned J.ok X.pn, J.os, J.bare, J.base, J.loc, J.cell, J.free, J.freeC, fun p hp => ?_, J.hok, J.len⟩
  obtain ⟨p1, p2, p3, p4, p5⟩ := I.pin p (List.mem_append_left _ (by simpa using hp))
  refine ⟨pushCells_keeps _ _ _ _ (Heap.get?_push_of_some _ p1), p2, Nat.ne_of_lt (Heap.lt_size p1), fun z => (List.mem_cons.mp (I.stkSub p.1 z)).elim p3 p4, p5⟩
/-- [elt for target in l if ..], l a list that stays as it is: Pv by the turn and the heap, the new list at D -/
def tLcL (K : PySem.W.Frag) (tl : TE) (g : TG) (tt : TT) (te : TE) (vs : List Nat) : TE := fun σ H Q => tl σ H fun x H1 => ∃ a xs, x = .ref a ∧ SqL K H1 a xs ∧ ∀ D, H1 D = none → ∃ Pv : Nat → Hp → Prop, Pv 0 (upd H1 D (.lst [])) ∧ (∀ i G, Pv i G → SqL K G a xs) ∧
  (∀ i y G, xs[i]? = some y → Pv i G → g y (wipe σ vs) G fun σ2 G2 => wipe σ2 vs = wipe σ vs ∧ tt σ2 G2 fun b G3 => if b = true then te σ2 G3 fun v G4 => ∃ acc, G4 D = some (.lst acc) ∧ acc.length < sizeLine ∧ Pv (i + 1) (upd G4 D (.lst (acc ++ [v]))) else Pv (i + 1) G3) ∧
  ∀ G, Pv xs.length G → Q (.ref D) G
/-- the comprehension itself, whatever is done with the new list -/
theorem lcL_core {elt tg l : Expr} {ifs : List Expr} {scope : Scope} {own : List (Str × Nat)} {pos pos' : Pos} {tl te : TE} {g : TG} {tt : TT} {Q : VK} {use : Option (Value → Sem Unit)} {Qf : Value → Shared → Prop} (hc : HotC X) (hN : X.N.Nodup) (I : Inv X pins σ H s) (hl : PE X l tl) (ok : BlkOk X.N X.env.scope scope own)
    (hg : ∀ (s : Shared) (H : Hp) (C : Addr) (cl : List (Str × Addr)) (fp : List Addr), PG (blkH X s H scope (compEnvC scope cl C X.env) fp) tg g) (ht : ∀ (s : Shared) (H : Hp) (C : Addr) (cl : List (Str × Addr)) (fp : List Addr), PTs (blkH X s H scope (compEnvC scope cl C X.env) fp) ifs tt)
    (he : ∀ (s : Shared) (H : Hp) (C : Addr) (cl : List (Str × Addr)) (fp : List Addr), PE (blkH X s H scope (compEnvC scope cl C X.env) fp) elt te) (hs : ∀ x, foldedSetIterable l X.env x = pure x)
    (h : tLcL X.K tl g tt te (own.map (·.2)) σ H Q)
    (fin : ∀ D C s' m G, Inv X pins σ G s' → Q (.ref D) G → s'.heap.Ns C m → FpOk X pins G C → compPost (model X.prog X.w) X.A X.xe use Qf (.ref D) C (.ok .next) s') :
    wpAny (model X.prog X.w) X.A (comprehension (.ListComp elt [⟨tg, l, ifs, 0⟩] scope pos) scope X.env pos' (newList []) false (eval l X.env) use) Qf X.xe s := by
  have cells : ∀ y ∈ scope.names, y.2 = .free → ∃ c, X.env.cells.lookup y.1 = some c := fun y hy e => I.ok.has _ (ok.free y hy e)
  refine wpAny_comprehension_free (use := use) rfl hs (closure_ok cells) ok.kind (fun y hy e => by rw [ok.uniq y hy, e]) (thn (hl.run pins s σ H _ I h) fun v s1 hv => ?_)
  obtain ⟨x, H1, I1, r1, a, xs, rfl, hq, go⟩ := hv
  obtain rfl : v = Value.ref a := r1
  obtain ⟨its, rv, p, hz⟩ := I1.list hq
  refine wpAny_pyIter_list p.isList ?_
  generalize hit : s1.heap.objs.size = it
  -- the iterator and the new list
  refine wpAny_newObj_type (newEnv_comp ?_) (by show 0 ≤ sizeLine; decide)
  let h2 := s1.heap.push { cls := .type "list_iterator", data := .fields #[.ref a, .int 0 0] }
  let h3 := h2.push { cls := .type "list", data := .seq ([] : List Value).toArray }
  have itd : h3.get? it = some { cls := .type "list_iterator", data := .fields #[.ref a, .int 0 0] } := Heap.get?_push_of_some _ (by rw [← hit]; exact Heap.get?_push_size _ rfl)
  have I2 : Inv X pins σ H1 { s1 with heap := h2 } := I1.kept (t' := s1.toks) fun b o e => Heap.get?_push_of_some _ e
  have fi : FpOk X pins H1 it := by rw [← hit]; exact I1.fpOk (Nat.le_refl _) (I1.hok.fresh (Nat.le_refl _))
  obtain ⟨D, hD⟩ : ∃ D, h2.objs.size = D := ⟨_, rfl⟩
  have dn : H1 D = none := I2.hok.fresh (Nat.le_of_eq hD)
  have di : it ≠ D := by rw [← hit, ← hD]; show _ ≠ (s1.heap.push _).objs.size; rw [Heap.size_push]; exact Nat.ne_of_lt (Nat.lt_succ_self _)
  obtain ⟨Pv, p0, pl, ps, pd⟩ := go D dn
  have I3 : Inv X pins σ (upd H1 D (.lst [])) { s1 with heap := h3 } := I2.laid (t' := s1.toks) (fun b o e => Heap.get?_push_of_some _ e) (Nat.le_of_eq hD) ⟨Nat.zero_le _, [], 0, .nil, by
    rw [← hD]
    exact Heap.get?_push_size _ rfl⟩
  have f3 : ∀ b ∈ [it], FpOk X pins (upd H1 D (.lst [])) b ∧ b < h3.objs.size := fun b hb => by
    rw [show b = it by simpa using hb]
    exact ⟨⟨by rw [upd_ne di]; exact fi.1, fi.2⟩, Heap.lt_size itd⟩
  have I4 := block_startH I3 ok hN f3
  have pg := hg { s1 with heap := h3 } (upd H1 D (.lst [])) h3.objs.size (cellsFrom (h3.objs.size + 1) scope.names (cloFrom X.env.cells scope.names [])) [it]
  have pt := ht { s1 with heap := h3 } (upd H1 D (.lst [])) h3.objs.size (cellsFrom (h3.objs.size + 1) scope.names (cloFrom X.env.cells scope.names [])) [it]
  have pe := he { s1 with heap := h3 } (upd H1 D (.lst [])) h3.objs.size (cellsFrom (h3.objs.size + 1) scope.names (cloFrom X.env.cells scope.names [])) [it]
  show codeAny _ _ (.compStart (.ListComp elt [⟨tg, l, ifs, 0⟩] scope pos) 0 (.ref it) (.ref h2.objs.size) (compEnvC scope (cellsFrom (h3.objs.size + 1) scope.names (cloFrom X.env.cells scope.names [])) h3.objs.size X.env)) (compPost (model X.prog X.w) X.A X.xe use Qf (.ref h2.objs.size) h3.objs.size) { s1 with heap := pushCells (h3.push { cls := .type "dict", data := .dict #[] }) scope.names }
  rw [hD]
  generalize hce : compEnvC scope (cellsFrom (h3.objs.size + 1) scope.names (cloFrom X.env.cells scope.names [])) h3.objs.size X.env = ce at I4 pg pt pe ⊢
  have cL : ce.locals = h3.objs.size := by subst hce; rfl
  have it4 : (pushCells (h3.push { cls := .type "dict", data := .dict #[] }) scope.names).IsListIter it a 0 := ⟨_, pushCells_keeps _ _ _ _ (Heap.get?_push_of_some _ itd), rfl, rfl⟩
  generalize hH3 : upd H1 D (.lst []) = H3 at I3 I4 pg pt pe p0 f3
  have stat : ∀ {σ' : St} {G : Hp} {s' : Shared}, Inv (blkH X { s1 with heap := h3 } H3 scope ce [it]) [] σ' G s' → G it = none → FpOk (blkH X { s1 with heap := h3 } H3 scope ce [it]) [] G it := fun {σ' G s'} J hn =>
    ⟨hn, (J.ok.exf it (by simp)).1, J.ok.exfs it (by simp), .inl (by simp), fun x c e => (J.ok.exf it (by simp)).2 x c e, fun q hq => fi.2.2.2.2.2 q (List.mem_append_left _ (by simpa using hq))⟩
  have loop : codeAny (model X.prog X.w) X.A (.compLoop (.ListComp elt [⟨tg, l, ifs, 0⟩] scope pos) 0 (.ref it) (.ref D) ce) (compPost (model X.prog X.w) X.A X.xe use Qf (.ref D) h3.objs.size) { s1 with heap := pushCells (h3.push { cls := .type "dict", data := .dict #[] }) scope.names } := by
    refine compLoop_any (fun n s' => ∃ i G, n = xs.length - i ∧ i ≤ xs.length ∧ Inv (blkH X { s1 with heap := h3 } H3 scope ce [it]) [] (wipe σ (own.map (·.2))) G s' ∧ s'.heap.IsListIter it a i ∧ G it = none ∧ Pv i G) ?_ xs.length ⟨0, H3, by simp, Nat.zero_le _, I4, it4, (f3 it (by simp)).1.1, p0⟩
    rintro n s5 ⟨i, G5, rfl, hi, I5, st5, n5, w5⟩
    have T := turn_listH (P := X.prog) (w := X.w) (K := X.K) (tg := tg) a it
    have fp5 : ∀ b ∈ [it], FpOk (blkH X { s1 with heap := h3 } H3 scope ce [it]) [] G5 b := fun b hb => by
      rw [show b = it by simpa using hb]
      exact stat I5 n5
    by_cases lt : i < xs.length
    · have ti := T.item (blkH X { s1 with heap := h3 } H3 scope ce [it]) rfl rfl rfl hc i [] s5 _ G5 (fun _ _ => False) I5 fp5 st5 ⟨xs, xs[i], pl i G5 w5, by simp [lt]⟩
      refine thnF ti fun r s6 ⟨u, hr, h6⟩ => ?_
      subst hr
      refine thnF h6 fun _ s7 ⟨y, G7, I7, r7, ⟨eG, y7⟩, st7, n7⟩ => ?_
      subst eG
      have hy : xs[i]? = some y := y7 xs (pl i _ w5)
      -- the iterator is pinned while the element is made
      obtain ⟨oi, gi, ci, ddi⟩ := id st7
      have pin7 : Inv (blkH X { s1 with heap := h3 } H3 scope ce [it]) ([] ++ pinsAt [it] s7.heap) (wipe σ (own.map (·.2))) G7 s7 := I7.pinned (fun b hb => by
        rw [show b = it by simpa using hb]
        exact stat I7 (n7 it (by simp))) (T.obj _ _ st7)
      have back : ∀ {σ8 : St} {s' : Shared} {G' : Hp}, wipe σ8 (own.map (·.2)) = wipe σ (own.map (·.2)) → Inv (blkH X { s1 with heap := h3 } H3 scope ce [it]) ([] ++ pinsAt [it] s7.heap) σ8 G' s' → Pv (i + 1) G' →
          ∃ m, m < xs.length - i ∧ ∃ i' G, m = xs.length - i' ∧ i' ≤ xs.length ∧ Inv (blkH X { s1 with heap := h3 } H3 scope ce [it]) [] (wipe σ (own.map (·.2))) G s' ∧ s'.heap.IsListIter it a i' ∧ G it = none ∧ Pv i' G := fun {σ8 s' G'} hw J nx => by
        have z := J.pin (it, oi) (List.mem_append_right _ (List.mem_append_right _ (mem_pinsAt (by simp) gi)))
        have len : (wipe σ (own.map (·.2))).length = σ8.length := by rw [← hw, wipe_length]
        refine ⟨xs.length - (i + 1), by omega, i + 1, G', rfl, lt, (J.unpinned (pins := [])).weak len (fun j v e => ?_), ⟨oi, z.1, ci, ddi⟩, z.2.1, nx⟩
        rw [← hw] at e
        exact (wipe_some e).1
      refine thnF (pg.run _ s7 _ G7 y u _ pin7 r7 (ps i y G7 hy w5)) fun _ s8 ⟨σ8, G8, I8, hw8, q8⟩ => ?_
      refine thnF (pt.run _ s8 σ8 G8 _ I8 q8) fun b s9 ⟨G9, I9, q9⟩ => ?_
      cases b with
      | false =>
        simp only [Bool.false_eq_true, if_false] at q9 ⊢
        exact back hw8 I9 q9
      | true =>
        simp only [if_true] at q9 ⊢
        refine thnF (pe.run _ s9 σ8 G9 _ I9 q9) fun z s10 ⟨yv, G10, I10, r10, acc, hD10, hz10, nx⟩ => ?_
        exact app_ok (X := blkH X { s1 with heap := h3 } H3 scope ce [it]) I10 hD10 hz10 r10 fun s11 I11 => back hw8 I11 nx
    · have ei : i = xs.length := by omega
      subst ei
      refine thnF (T.done (blkH X { s1 with heap := h3 } H3 scope ce [it]) rfl rfl rfl hc xs.length [] s5 _ G5 (fun _ _ => False) I5 fp5 st5 ⟨xs, pl _ _ w5, Nat.le_refl _⟩) fun r s6 ⟨hr, I6⟩ => ?_
      subst hr
      have I7 : Inv X pins σ G5 s6 := I3.call' (ch := [it]) I6.os I6.base I6.hok I6.bare fun b hb => ⟨(f3 b hb).1.2.2.2.1, (f3 b hb).1.2.1, (f3 b hb).1.2.2.2.2.1, (f3 b hb).1.2.2.2.2.2⟩
      have nC : G5 h3.objs.size = none := by
        have z : G5 ce.locals = none := I6.free
        rwa [cL] at z
      obtain ⟨m, hn, _⟩ := I6.loc
      have hn : s6.heap.Ns h3.objs.size m := by rw [← cL]; exact hn
      exact fin D h3.objs.size s6 m G5 I7 (pd _ w5) hn (I3.fpOk (Nat.le_refl _) nC)
  exact codeAny_compStart_list loop (wpAny_pyIter_listiter it4 loop)
section
variable {elt tg l : Expr} {ifs : List Expr} {scope : Scope} {own : List (Str × Nat)} {pos : Pos} {tl te : TE} {g : TG} {tt : TT}
theorem pe_lcH (hc : HotC X) (hN : X.N.Nodup) (hl : PE X l tl) (ok : BlkOk X.N X.env.scope scope own)
    (hg : ∀ (s : Shared) (H : Hp) (C : Addr) (cl : List (Str × Addr)) (fp : List Addr), PG (blkH X s H scope (compEnvC scope cl C X.env) fp) tg g) (ht : ∀ (s : Shared) (H : Hp) (C : Addr) (cl : List (Str × Addr)) (fp : List Addr), PTs (blkH X s H scope (compEnvC scope cl C X.env) fp) ifs tt)
    (he : ∀ (s : Shared) (H : Hp) (C : Addr) (cl : List (Str × Addr)) (fp : List Addr), PE (blkH X s H scope (compEnvC scope cl C X.env) fp) elt te) (hs : ∀ x, foldedSetIterable l X.env x = pure x := by intro _; rfl) :
    PE X (.ListComp elt [⟨tg, l, ifs, 0⟩] scope pos) (tLcL X.K tl g tt te (own.map (·.2))) := by
  refine ⟨fun pins s σ H Q I h => ?_⟩
  rw [eval_ListComp]
  refine lcL_core hc hN I hl ok hg ht he hs h fun D C s' m G J q hn ⟨f0, f1, _, f3, f4, f5⟩ => ⟨m, hn, fun h'' sb => ?_⟩
  exact ⟨.ref D, G, J.turned (t' := s'.toks) (fun b o hb e => (sb.2 b hb).trans e) f0 f1 f3 f4 f5, rfl, q⟩
theorem ps_setLcH {i : Nat} {y : Str} {py spos : Pos} (hc : HotC X) (hN : X.N.Nodup) (hy : X.N[i]? = some y) (hyl : X.env.scope.names.lookup y = some .local)
    (hsw : swapsWith (.ListComp elt [⟨tg, l, ifs, 0⟩] scope pos) (some (.Name y py)) spos.line X.env = pure true) (hl : PE X l tl) (ok : BlkOk X.N X.env.scope scope own)
    (hg : ∀ (s : Shared) (H : Hp) (C : Addr) (cl : List (Str × Addr)) (fp : List Addr), PG (blkH X s H scope (compEnvC scope cl C X.env) fp) tg g) (ht : ∀ (s : Shared) (H : Hp) (C : Addr) (cl : List (Str × Addr)) (fp : List Addr), PTs (blkH X s H scope (compEnvC scope cl C X.env) fp) ifs tt)
    (he : ∀ (s : Shared) (H : Hp) (C : Addr) (cl : List (Str × Addr)) (fp : List Addr), PE (blkH X s H scope (compEnvC scope cl C X.env) fp) elt te) (hs : ∀ x, foldedSetIterable l X.env x = pure x := by intro _; rfl) :
    PS X (.Assign [.Name y py] (.ListComp elt [⟨tg, l, ifs, 0⟩] scope pos) spos) (tAsg (tLcL X.K tl g tt te (own.map (·.2))) (gName i)) := by
  refine ⟨fun pins s σ H D I h => ?_⟩
  rw [exec_Assign_Name_used _ _ _ _ hsw]
  refine wpAny_bind (wpAny_standAt (wpAny_bind (m := do let _ ← comprehension (.ListComp elt [⟨tg, l, ifs, 0⟩] scope pos) scope X.env (firstIterPos [⟨tg, l, ifs, 0⟩] pos) (newList []) false (eval l X.env) (some (assign (.Name y py) X.env))) ?_))
  have h : tLcL X.K tl g tt te (own.map (·.2)) σ H (fun x G => gName i x σ G D.nx) := h
  refine wpAny_bind (thn (lcL_core (Qf := fun _ s' => SP X pins D .next s') hc hN I hl ok hg ht he hs h fun L C s' m G J q hn f => ?_) fun _ s' hq => wpAny_pure (wpAny_pure hq))
  refine wpAny_assign_Name (store_ok2 (v := V.ref L) J hN hy (.inl hyl) rfl (fun s2 I2 ⟨a, sb, ha⟩ => ?_) (.inr hyl))
  obtain ⟨f0, f1, f2, f3, f4, f5⟩ := f
  have ca : C ≠ a := by
    rcases ha with z | z
    · rw [z]; exact f1
    · exact fun e => f4 y a z e.symm
  exact ⟨m, hn.sameBut sb ca, fun h3 sb3 => ⟨_, G, I2.turned (t' := s2.toks) (fun b o hb e => (sb3.2 b hb).trans e) f0 f1 f3 f4 f5, q⟩⟩
end
end
end L2H

/-! errors whose context is told to be None: so that what is caught may be looked at by defs that walk lists -/
namespace L2
open PySem PySem.Spec PyProof.Rows
section
variable {X : Cx} {k j : Nat} {x : Str} {sp : Sp} {p pos pos2 : Pos} {e : Expr} {es : List Expr} {ta : TA} {te : TE} {W : WX} {C fI : Addr} {fd : FuncData} {ps : List Str}
/-- an own error is made where nothing is handled -/
theorem pmk_oexN (T : OexC X.K C) (iC : PySem.W.findIn X.K (.ref C) "__init__" = some (some (.ref fI))) (tI : PySem.W.typeIn X.K (.ref fI) = some (.type "function")) (F1 : FnOk X.prog X.w X.K X.mg X.base CX0 k fI fd ps sp) (hr : Room (k + 1) X.A) (hb : Binds X.K fd ps [])
    (hg : Gl X x) (hm : X.mg x = some (.ref C)) (ha : PA X (e :: es) ta) (hdb : (x == ("__debug__" : Str)) = false := by decide)
    (he : starEach (e :: es) X.env = (false, eval e X.env) :: starEach es X.env := by rfl) (hpl : (backTo pos (starEach es X.env)).any (·.1) = false := by rfl) : L2N.PMk X (.Call (.Name x p) (e :: es) [] pos) (tMkO C sp [] ta) := by
  intro pins s σ H Q I h
  obtain ⟨nm, q, N, bs, bm, sn, sub, ab, col, dd, k0, k1, k2, k3, k5, hC, hbm⟩ := T.cls
  refine wpAny_Call_Name_kw (ld_glob I hg hm ?_ hdb)
  refine PySem.W.callWith_K (h₀ := X.base) I.ok.mod.kin T.kC (thn (ha.run pos pins s σ H _ I h) fun us s1 ⟨vs, H1, I1, r1, hz, q1⟩ => ⟨I1.kIn, ?_⟩) he hpl
  show wpAny _ _ (call (.ref C) us) _ _ _
  obtain ⟨h1, g, dr, tk, os⟩ := s1
  -- the new exception stands behind its tuple of arguments
  let a := h1.objs.size + 1
  let h2 := (h1.push (PySem.W.kdv_tup us)).push (PySem.HandSPX.excO C h1.objs.size)
  have la : h1.objs.size ≤ a := Nat.le_succ _
  have na : H1 a = none := I1.hok.fresh la
  have grow : ∀ b o, h1.get? b = some o → h2.get? b = some o := fun b o z => Heap.get?_push_of_some _ (Heap.get?_push_of_some _ z)
  have at2 : h2.get? a = some (PySem.HandSPX.excO C h1.objs.size) := by
    rw [show a = (h1.push (PySem.W.kdv_tup us)).objs.size from (Heap.size_push ..).symm]
    exact Heap.get?_push_size _ rfl
  have I2 : Inv X pins σ (upd H1 a (exo a C none)) ⟨h2, g, dr, tk, os⟩ := I1.laid (t' := tk) (a := a) (o := exo a C none) (h' := h2) grow la (exo_ok at2)
  have want := q1 a na
  rw [List.append_nil] at want
  have rr : Vals (V.ref a :: vs) (Value.ref a :: us) := .cons rfl r1
  have len : (Value.ref a :: us).length = ps.length := by rw [← rr.length]; exact F1.len _ _ _ _ want
  have bnd := hb _ (Value.ref a :: us) I2.kIn (by rw [List.append_nil]; exact len)
  rw [List.append_nil] at bnd
  have line : us.length ≤ sizeLine := by
    rw [← Paired.length r1, sizeLine_eq]
    omega
  refine wpAny_call (PySem.HandSPX.call_own F.excBase_ValueError (fun Y => PySem.HandSPX.refsVE_contains Y bm hbm) (I1.kIn _ _ hC) (PySem.W.looks_findIn I1.kIn iC) (fun self => PySem.W.bind_fn I1.kIn self tI) line
    (codeAny_mono (F1.run _ X.stack _ _ ⟨Value.ref a :: us, []⟩ (Value.ref a :: us) _ _ (fun _ _ _ => False) (hr.make C us []) (I2.env0.make C us []) bnd rr want) fun how s2 end_ => ?_))
  cases how with
  | error u => exact False.elim end_
  | ok fl =>
    cases fl with
    | next => exact False.elim end_
    | brk => exact False.elim end_
    | cont => exact False.elim end_
    | ret u =>
      obtain ⟨v, H2, os2, bare2, un2, hok2, rv, ev, d, fs, ea, ed, hd1, q2⟩ := end_
      subst ev
      obtain ⟨h3, g2, d2, t2, os'⟩ := s2
      obtain ⟨t0, G, J, kG, ge, hoe, na'⟩ := mk_end0 (d2 := d2) (t2 := t2) I1 la grow un2 hok2 os2 bare2 ea ed hd1
      exact ⟨rv, a, _, _, ⟨G, g2, d2, t2, os'⟩, _, .ref C, some d, rfl, J, kG, ge, hoe, ⟨rfl, rfl, fun _ z => by cases z; rfl⟩, rfl, rfl, na', rfl, bare2, raises_own T.exC T.tyC, q2⟩
theorem ps_raiseN (hc : X.calm = true) (c : ErrC X.prog X.w X.K X.mg X.base x C) (hr : Room j X.A) (hj : 2 ≤ j) (tk : L2N.Takes X W) (he : PE X e te) (hg : Gl X x)
    (hdb : (x == ("__debug__" : Str)) = false := by decide)
    (hs : starEach (e :: []) X.env = (false, eval e X.env) :: starEach [] X.env := by rfl) (hpl : (backTo pos (starEach [] X.env)).any (·.1) = false := by rfl) :
    PS X (.Raise (some (.Call (.Name x p) [e] [] pos)) none pos2) (tRaiseE C W te) := by
  obtain ⟨T, g, no, fI, fd, iC, tI, F, b⟩ := c
  exact L2N.ps_raise hc tk (pmk_oexN T iC tI F (hr.mono hj) b hg g (pa_cons he pa_nil hs) hdb hs hpl)
/-- a def that is called by its name and may let such an error out -/
structure CalXN (P : Program) (w : World) (K : PySem.W.Frag) (mg : Str → Option Value) (base : Heap) (k : Nat) (x : Str) (sp : Sp) : Prop where
  ex : ∃ (f : Addr) (fd : FuncData) (ps : List Str), FnOk P w K mg base (L2N.CX P w) k f fd ps sp ∧ mg x = some (.ref f) ∧ PySem.W.keepIn K (.ref f) = true ∧ Binds K fd ps []
theorem pe_calXN (tk : L2N.Takes X W) (c : CalXN X.prog X.w X.K X.mg X.base k x sp) (hr : Room j X.A) (hk : k ≤ j) (hg : Gl X x) (ha : PA X (e :: es) ta)
    (hdb : (x == ("__debug__" : Str)) = false := by decide) (he : starEach (e :: es) X.env = (false, eval e X.env) :: starEach es X.env := by rfl) (hpl : (backTo pos (starEach es X.env)).any (·.1) = false := by rfl) :
    PE X (.Call (.Name x p) (e :: es) [] pos) (tCallS sp (WE W) ta) := by
  obtain ⟨f, fd, ps, F, hm, kp, b⟩ := c.ex
  exact pe_callS F (hr.mono hk) hg hm kp b (fun σ => L2N.passAt tk σ) ha hdb he hpl
theorem takesNoneN : L2N.Takes X (fun _ _ _ _ => False) := fun _ _ ⟨_, _, _, _, _, _, _, _, _, _, _, _, _, _, _, _, z⟩ => z.elim
theorem passNoneN : Passes (L2N.CX X.prog X.w) X E0 := fun _ _ _ _ _ _ _ ⟨_, _, _, _, _, _, _, _, _, _, _, _, z⟩ => z.elim
end
section
variable {P : Program} {w : World} {K : PySem.W.Frag} {mg : Str → Option Value} {base : Heap}
theorem Fun.okN {x qual : Str} {st : Stmt} {f : Addr} {fd : FuncData} {N ps : List Str} {k : Nat} {sp : Sp} (F : Fun K x qual st f fd) (S : FnScope N ps (defScope st)) (len : ∀ vs H Q E, sp vs H Q E → vs.length = ps.length)
    (body : ∀ (cdv : Value) (A : Around) (outer : List Env) (s : Shared) (H : Hp) (vs : List V) (Q : VK) (E : XK), Room k (A.deeper (envOfC qual (defScope st) s.heap.objs.size f cdv)) → sp vs H Q E →
      ∃ t, PSs (cxOf (L2N.CX P w) P w K mg base N qual (defScope st) f cdv A outer s H E) (defBody st) t ∧ t { nx := fun _ H' => Q .non H', rt := Q } (start N vs) H) : FnOk P w K mg base (L2N.CX P w) (k + 1) f fd ps sp := by
  obtain ⟨oc, od, kV, doc, pm, an, cdv, ct, osl, rfl, lk, code⟩ := F.ex
  exact fn_of lk code S len fun A outer s H vs Q E hr h => body cdv A outer s H vs Q E hr h
/-- what a def promises that is handed the error of the suite (its context is None): at a, of the class at C, with the dict d -/
structure FnN (P : Program) (w : World) (K : PySem.W.Frag) (mg : Str → Option Value) (base : Heap) (k : Nat) (f : Addr) (fd : FuncData) (ps : List Str) (sp : Addr → Addr → Addr → Sp) : Prop where
  many : ∀ a C d vs H Q E, sp a C d vs H Q E → vs.length = ps.length
  go : ∀ (A : Around) (below : List Env) (s : Shared) (H : Hp) (given : Args) (us : List Value) (vs : List V) (Q : VK) (E : XK) (q : Addr × Obj) (C d : Addr), L2H.RoomH k A → L2H.Hot1 A q → L2H.PinOk below H s q → Zc (.ref C) (some d) q.2 → (∃ ws, q.2.data = .fields ws) →
    Env0 P w K mg base A below s H → BindsTo s fd given (ps.zip us) → Vals vs us → sp q.1 C d vs H Q E → codeAny (model P w) A (.call (.ref f) given) (CR CX0 below P w H s Q E) s
theorem Fun.okEN {x qual : Str} {st : Stmt} {f : Addr} {fd : FuncData} {N ps : List Str} {k : Nat} {sp : Addr → Addr → Addr → Sp} (F : Fun K x qual st f fd) (S : FnScope N ps (defScope st))
    (many : ∀ a C d vs H Q E, sp a C d vs H Q E → vs.length = ps.length)
    (body : ∀ (cdv : Value) (A : Around) (below : List Env) (s : Shared) (H : Hp) (vs : List V) (Q : VK) (E : XK) (q : Addr × Obj) (C d : Addr), L2H.RoomH k (A.deeper (envOfC qual (defScope st) s.heap.objs.size f cdv)) →
      L2H.HotC (cxE P w K mg base N qual (defScope st) f cdv A below s H E q) → Zc (.ref C) (some d) q.2 → (∃ ws, q.2.data = .fields ws) → sp q.1 C d vs H Q E →
      ∃ t, PSs (cxE P w K mg base N qual (defScope st) f cdv A below s H E q) (defBody st) t ∧ t { nx := fun _ H' => Q .non H', rt := Q } (start N vs) H) : FnN P w K mg base (k + 1) f fd ps sp := by
  obtain ⟨oc, od, kV, doc, pm, an, cdv, ct, osl, rfl, lk, code⟩ := F.ex
  refine ⟨many, fun A below s H given us vs Q E q C d room hot pin hz hf env bnd rel want => ?_⟩
  have size := many _ _ _ _ _ _ _ want
  have inK : K.In s.heap := env.mod.kin.keeps fun b o z => (env.bs b o z).1
  have free : s.heap.NoLimit := env.mod.nolimit.keeps fun b o z => (env.bs b o z).1
  refine codeAny_call_function room.depth (inK _ _ lk) rfl S.co S.gen rfl (PySem.W.codeRec_of inK code) (bnd _ _ _ _ ?_)
  refine wpAny_newFunctionEnv_cells S.kind (fun ⟨n, v⟩ there => (S.par n (List.of_mem_zip there).1).elim .inl fun z => .inr ⟨z, PySem.W.cellsFrom_some _ _ _ (.inl z)⟩) fun env2 same s1 call => ?_
  subst same
  refine ⟨free.keeps call.toInCall.keep, codeAny_func ?_⟩
  obtain ⟨t, holds, ask⟩ := body cdv A below s H vs Q E q C d (room.deeper _) ⟨q, ⟨hot.1, hot.2⟩, List.mem_cons_self⟩ hz hf want
  refine wpAny_mono (holds.run [] s1 (start N vs) H _ (L2H.inv_startH S pin env size rel call) ask) (fun how s2 end_ => ?_) fun e s2 end_ => end_
  cases how with
  | ret u =>
    obtain ⟨v, τ, G, J, rv, z⟩ := end_
    exact ⟨v, G, J.os, J.bare, J.base, J.hok, rv, z⟩
  | next =>
    obtain ⟨τ, G, J, z⟩ := end_
    exact ⟨V.non, G, J.os, J.bare, J.base, J.hok, rfl, z⟩
  | brk => exact end_.elim fun _ z => z.elim fun _ y => y.2.elim
  | cont => exact end_.elim fun _ z => z.elim fun _ y => y.2.elim
structure CalN (P : Program) (w : World) (K : PySem.W.Frag) (mg : Str → Option Value) (base : Heap) (k : Nat) (x : Str) (sp : Addr → Addr → Addr → Sp) : Prop where
  ex : ∃ (f : Addr) (fd : FuncData) (ps : List Str), FnN P w K mg base k f fd ps sp ∧ mg x = some (.ref f) ∧ PySem.W.keepIn K (.ref f) = true ∧ Binds K fd ps []
end
section
variable {X : Cx} {k j : Nat} {x : Str} {sp : Addr → Addr → Addr → Sp} {p pos : Pos} {e : Expr} {es : List Expr} {t : TA} {a : Addr} {oe : Obj} {cls : Value} {d : Option Addr} {pn : List (Addr × Obj)}
theorem pe_callEN (c : CalN X.prog X.w X.K X.mg X.base k x sp) (hr : Room j X.A) (hk : k ≤ j) (hz : L2N.Zn cls d oe) (hf : ∃ vs, oe.data = .fields vs) (hg : Gl (X.suite a ((a, oe) :: pn)) x) (ha : PA (X.suite a ((a, oe) :: pn)) (e :: es) t)
    (hdb : (x == ("__debug__" : Str)) = false := by decide)
    (he : starEach (e :: es) X.env = (false, eval e X.env) :: starEach es X.env := by rfl)
    (hpl : (backTo pos (starEach es X.env)).any (·.1) = false := by rfl) :
    PE (X.suite a ((a, oe) :: pn)) (.Call (.Name x p) (e :: es) [] pos) (tCallE a cls d sp t) := by
  obtain ⟨f, fd, ps, F, hm, kp, b⟩ := c.ex
  refine ⟨fun pins s σ H Q I h => ?_⟩
  refine wpAny_Call_Name_kw (ld_glob I hg hm ?_ hdb)
  refine PySem.W.callWith_K (h₀ := X.base) I.ok.mod.kin kp (thn (ha.run pos pins s σ H _ I h) fun us s1 ⟨vs, H1, I1, r, C, dd, ec, ed, q⟩ => ⟨I1.kIn, ?_⟩) he hpl
  subst ec
  subst ed
  have size : us.length = ps.length := by rw [← r.length]; exact F.many _ _ _ _ _ _ _ q
  have bnd := b s1 us I1.kIn (by rw [List.append_nil]; exact size)
  rw [List.append_nil] at bnd
  obtain ⟨p1, p2, p3, p4, p5⟩ := I1.pin (a, oe) (List.mem_append_left _ List.mem_cons_self)
  have pin : L2H.PinOk (X.suite a ((a, oe) :: pn)).stack H1 s1 (a, oe) := ⟨p1, p2, fun z => (List.mem_cons.mp (I1.stkSub a z)).elim p3 p4, p5⟩
  obtain ⟨fl, hfl⟩ := hf
  refine wpAny_call (codeAny_mono (F.go _ _ s1 H1 ⟨us, []⟩ us vs Q E0 (a, oe) C dd ((⟨hr.dp, hr.un⟩ : L2H.RoomH j (X.suite a ((a, oe) :: pn)).A).mono hk) ⟨rfl, fl, hfl, hz.2.2 fl hfl⟩ pin hz.zc ⟨fl, hfl⟩ I1.env0 bnd r q) fun how s2 end_ => ?_)
  cases how with
  | error u => exact False.elim end_
  | ok fl =>
    cases fl with
    | ret u => exact I1.after end_
    | next => exact False.elim end_
    | brk => exact False.elim end_
    | cont => exact False.elim end_
end
end L2

/-! an error that is let out -/
namespace Gc
open PySem L2
/-- an error of the class at C that carries v is let out: its dict is new, all else is as it was -/
def Err (E : XK) (C : Addr) (v : V) (H : Hp) : Prop := ∀ (H' : Hp) (d : Addr), Same H H' → H' d = none → E (.ref C) (some d) (upd H' d (.xd [("value", v)]))
theorem Err.same {E : XK} {C : Addr} {v : V} {H H' : Hp} (e : Same H H') (h : Err E C v H) : Err E C v H' := fun H2 d s n => h H2 d (e.trans s) n
theorem Err.ask {E : XK} {C : Addr} {v : V} {H H' : Hp} (e : Same H H') (h : Err E C v H) : rRaise C E v H' := ask_raise fun d hd => h H' d e hd
end Gc

/-! run of valid arguments: where it fails, Impossible -/
namespace Gc
open PySem L2
theorem step_eq {T : List Int} {r : Int} {g : Option Int} {c : Cmd} (h0 : 0 ≤ r) (h1 : r < T.length) : step1 T r g c = stepP T r g c := by
  unfold step1 stepP
  by_cases cv : c.vert = true
  · rw [if_pos cv, aim1_vert (t' := 0) cv]
  · rw [if_neg cv, dv_flat cv, Int.add_zero, if_pos ⟨h0, h1⟩]
def spRunI (K : PySem.W.Frag) (CO : Addr) : Sp := fun vs H Q E => ∃ (t b l : Addr) (T : List Int) (r : Int) (g : Option Int) (xs : List V) (cs : List Cmd), vs = [.ref t, .ref b, .ref l] ∧ SqL K H t (T.map V.int) ∧ SqT K H b [.int r, optV g] ∧ SqL K H l xs ∧ CmdsOf K H xs cs ∧
  (∀ x ∈ T, 0 ≤ x) ∧ 0 ≤ r ∧ r < T.length ∧ ge g 0 ∧ AllOk cs ∧ cs.length ≤ 10000 ∧ (∀ n, failAt T r g cs = some n → Err E CO (.int (n : Nat)) H) ∧
  ∀ r' g', afterL T r g cs = some (r', g') → ∀ (H' : Hp) (p : Addr), Same H H' → SqT K H' p [.int r', optV g'] → Q (.ref p) H'
@[irreducible] def zRunI (K : PySem.W.Frag) (CO : Addr) : Sp := spRunI K CO
theorem zRunI_eq (K : PySem.W.Frag) (CO : Addr) : zRunI K CO = spRunI K CO := by unfold zRunI; rfl
theorem ask_runI {K : PySem.W.Frag} {CO : Addr} {H : Hp} {Q : VK} {E : XK} {t b l : Addr} {T : List Int} {r : Int} {g : Option Int} {xs : List V} {cs : List Cmd} (ht : SqL K H t (T.map V.int)) (hb : SqT K H b [.int r, optV g]) (hl : SqL K H l xs) (hc : CmdsOf K H xs cs)
    (nn : ∀ x ∈ T, 0 ≤ x) (r0 : 0 ≤ r) (r1 : r < T.length) (g0 : ge g 0) (ok : AllOk cs) (ln : cs.length ≤ 10000) (kf : ∀ n, failAt T r g cs = some n → Err E CO (.int (n : Nat)) H)
    (k : ∀ r' g', afterL T r g cs = some (r', g') → ∀ (H' : Hp) (p : Addr), Same H H' → SqT K H' p [.int r', optV g'] → Q (.ref p) H') : zRunI K CO [.ref t, .ref b, .ref l] H Q E := by
  rw [zRunI_eq]
  exact ⟨t, b, l, T, r, g, xs, cs, rfl, ht, hb, hl, hc, nn, r0, r1, g0, ok, ln, kf, k⟩
section
variable {P : Program} {w : World} {K : PySem.W.Frag} {mg : Str → Option Value} {base : Heap} {wo wn CO : Addr}
theorem ok_runI {f : Addr} {fd : FuncData} (F : Fun K "run" "run" s_run f fd) (T : TxtB K mg wo wn) (c_check_text : Cal P w K mg base 1 "check_text" (spText K)) (c_check_cursor : Cal P w K mg base 1 "check_cursor" (spCursor K))
    (c_check_commands : Cal P w K mg base 3 "check_commands" (spCheck K)) (c_moved : Cal P w K mg base 3 "moved" (spMoved K)) (e_Impossible : ErrC P w K mg base "Impossible" CO) : FnOk P w K mg base (L2N.CX P w) 4 f fd ["text", "cursor", "commands"] (spRunI K CO) := by
  refine F.okN sc_run (fun vs H Q E h => ?_) (fun cdv A outer s H vs Q E hr h => ?_)
  · obtain ⟨t, b, l, tx, r, g, xs, cs, rfl, _⟩ := h
    rfl
  · obtain ⟨t, b, l, tx, r, g, xs, cs, rfl, ht, hb, hl, hcs, nn, r0, r1, g0, ok, ln, kf, k⟩ := h
    refine ⟨_, (pss_cons (ps_expr (pe_cal c_check_text hr (by decide) (by rfl) (pa_cons (pv 0) pa_nil)))
      (pss_cons (ps_expr (pe_cal c_check_cursor hr (by decide) (by rfl) (pa_cons (pe_callB call_len_seq (by rfl) T.len (by decide +kernel) (pa_cons (pv 0) pa_nil)) (pa_cons (pv 1) pa_nil))))
      (pss_cons (ps_expr (pe_cal c_check_commands hr (by decide) (by rfl) (pa_cons (pv 2) pa_nil)))
      (pss_cons (ps_set (i := 3) sc_run.nd rfl (Or.inl rfl) (pv 1))
      (pss_cons (ps_for (passes_of rfl) rfl (pi_enum (by rfl) T.enumerate (pa_cons (pv 2) pa_nil)) (pg_tup rfl (pgs_cons (pg_name (i := 4) sc_run.nd rfl (Or.inl rfl)) (pgs_cons (pg_name (i := 5) sc_run.nd rfl (Or.inl rfl)) pgs_nil))) (pss_cons (ps_set (i := 3) sc_run.nd rfl (Or.inl rfl) (pe_cal c_moved hr (by decide) (by rfl) (pa_cons (pv 0) (pa_cons (pv 3) (pa_cons (pv 5) pa_nil)))))
      (pss_one (ps_if (pt_cmpR op_isN (pv 3) pe_non (nomark _)) (pss_one (ps_raiseN rfl e_Impossible hr (by decide) (L2N.takes_of rfl rfl rfl rfl) (pv 4) (by rfl))) pss_nil))))
      (pss_one (ps_ret (pv 3)))))))), ?_⟩
    refine ⟨_, rfl, t, tx, rfl, ht, (by intro z; subst z; simp at r1; omega), nn, fun H1 e1 => ?_⟩
    refine ⟨_, rfl, t, _, rfl, .inl (e1.seq ht), _, rfl, (tx.map V.int).length, r, g, b, rfl, seq_t e1 hb, r0, by rw [List.length_map]; exact r1, g0, ?_⟩
    refine ⟨_, rfl, l, xs, cs, rfl, e1.seq hl, hcs.same e1, ok, ln, fun H2 e2 => ?_⟩
    have e12 := e1.trans e2
    refine ⟨_, rfl, ?_⟩
    refine ⟨_, rfl, l, _, rfl, e12.seq hl, for_it (walk_enum (K := K) (a := l) (xs := xs)) (fun i σ H' => ∃ (p : Addr) (rr : Int) (gg : Option Int) (v1 v2 : Option V), σ = [some (.ref t), some (.ref b), some (.ref l), some (.ref p), v1, v2] ∧ Same H H' ∧ SqT K H' p [.int rr, optV gg] ∧ 0 ≤ rr ∧ rr < tx.length ∧
        afterL tx r g cs = afterL tx rr gg (cs.drop i) ∧ failAt tx r g cs = (failAt tx rr gg (cs.drop i)).map (· + i))
      ⟨b, r, g, none, none, rfl, e12, seq_t e12 hb, r0, r1, rfl, by rw [List.drop_zero]; simp⟩ (fun i σ H' _ ⟨_, _, _, _, _, _, e, _⟩ => e.seq hl) (fun i x σ H3 H4 hi h y => ?_) (fun σ H3 h => ?_)⟩
    · obtain ⟨p, rr, gg, v1, v2, rfl, e3, hp, q0, q1, ha, hf⟩ := h
      obtain ⟨T1, x1, y1, rfl, nT, rfl, ex1, ex2⟩ := y
      obtain rfl : V.int (i : Nat) = x1 := Option.some.inj ex1
      obtain ⟨c, hc, hca⟩ := paired_at hcs ex2
      have hdrop : cs.drop i = c :: cs.drop (i + 1) := by
        obtain ⟨h1, h2⟩ := List.getElem?_eq_some_iff.mp hc
        rw [List.drop_eq_getElem_cons h1, h2]
      rw [hdrop] at ha hf
      rw [afterL_step] at ha
      rw [fail_step] at hf
      have eT : Same H3 (upd H3 T1 (.tup [.int (i : Nat), y1])) := same_upd (Same.refl _) nT
      have eHT := e3.trans eT
      refine ⟨T1, _, rfl, SqT.of upd_same, rfl, _, _, rfl, _, _, rfl, rfl, ?_⟩
      refine ⟨_, rfl, _, rfl, _, rfl, t, p, tx, rr, gg, y1, c, rfl, eHT.seq ht, seq_t eT hp, hca.same eHT, (fun z => ?_), fun r3 g3 z p3 np3 => ?_⟩
      · rw [step_eq q0 q1] at z
        rw [z] at hf
        refine ⟨_, rfl, rfl, _, rfl, iteT ⟨_, rfl, ?_⟩⟩
        refine Err.ask eHT (kf i ?_)
        rw [hf]
        simp
      · rw [step_eq q0 q1] at z
        rw [z] at ha hf
        have e4 : Same (upd H3 T1 (.tup [.int (i : Nat), y1])) (upd (upd H3 T1 (.tup [.int (i : Nat), y1])) p3 (.tup [.int r3, optV g3])) := same_upd (Same.refl _) np3
        obtain ⟨a0, a1⟩ := step_row q0 q1 z
        refine ⟨_, rfl, rfl, _, rfl, iteF ?_⟩
        refine ⟨p3, r3, g3, _, _, rfl, eHT.trans e4, SqT.of upd_same, a0, a1, ha, ?_⟩
        rw [hf, Option.map_map]
        show (failAt tx r3 g3 (cs.drop (i + 1))).map _ = _
        congr 1
        funext n
        show n + 1 + i = n + (i + 1)
        omega
    · obtain ⟨p, rr, gg, v1, v2, rfl, e3, hp, q0, q1, ha, hf⟩ := h
      rw [hcs.len, List.drop_length] at ha
      exact ⟨_, rfl, k rr gg ha _ p e3 hp⟩
end
end Gc

/-! a generator's for loop -/
namespace Gc
open PySem PySem.Spec PyProof.Rows GenW L2
section
variable {X : Cx}
/-- as tFor; the list: what is out so far -/
def tGFor (wi : TI) (g : TG) (tb : TGn) : TGn := fun D ys σ H => wi σ H fun J H1 => ∃ W : Nat → Nat → List V → L2.St → Hp → Prop, (∃ m, W 0 m ys σ H1) ∧ ∀ i m ys σ H, W i m ys σ H →
  (J.stop i H ∧ D.nx ys σ H) ∨ (J.go i H ∧ ∃ N : List V → L2.St → Hp → Prop, (∀ ys' σ' H', N ys' σ' H' → ∃ m', m' < m ∧ W (i + 1) m' ys' σ' H') ∧ ∀ x H', J.yld i H x H' → g x σ H' fun σ2 H2 => tb { D with nx := N, ct := N, bk := D.nx } ys σ2 H2)
theorem gs_for {iter tg : Expr} {body : List Stmt} {wi : TI} {g : TG} {tb : TGn} {pos : Pos} (hp : PassesOwn (model X.prog X.w) X.A X.env X.xe) (hc : X.calm = true) (hi : PI X tg iter wi) (hg : PG X tg g) (hb : GSs X body tb)
    (hs : ∀ x, foldedSetIterable iter X.env x = pure x := by intro _; rfl) : GS X (.For tg iter body [] pos) (tGFor wi g tb) := by
  refine ⟨fun A S ip R n ys s₀ c fs K J gd lv s σ H D gc hn k hI ht => ?_⟩
  rw [exec_For]
  refine seg_bind_wrap (wpAny_standAt ?_)
  obtain ⟨acc, cc, r, I⟩ := hI
  refine seg_bind_wrap ?_
  rw [gc.over]
  refine wpAny_mono (hi.run _ s σ H _ I ht) (fun v s1 h1 => ?_) fun x s' hx => k.exc n s₀ x s' hx
  refine seg_bind_wrap ?_
  rw [gc.over]
  refine wpAny_of_eq (hs v) ?_
  refine seg_bind_wrap (wpAny_standAt ?_)
  refine seg_bind_wrap ?_
  rw [gc.over]
  refine wpAny_holding (wpAny_mono h1 (fun itv s2 h2 => ?_) fun x s' hx => k.exc n s₀ x s' hx)
  obtain ⟨it, fp, tn, It0, H2, e, I2, T, st2, f2, W, ⟨m0, w0⟩, turn⟩ := h2
  subst e
  refine seg_call fun p => ?_
  have gl := fun (kk : Result → Sem PySem.Fin) => gc_loop (k := kk) (c' := .forLoop tg (.ref it) body [] X.env) (l := lv []) (kp := []) (p := p) gc rfl rfl
  have gl2 := fun (kk : Result → Sem PySem.Fin) => gc_loop (k := kk) (c' := .block [] X.env) (l := lv []) (kp := []) (p := p) gc rfl rfl
  have stat : ∀ {acc' : Array Value} {c' : Nat} {H' : Hp}, (∀ b ∈ fp, H' b = none) → ∀ b ∈ fp, FpOk X ((S, lstObj acc' c') :: ip) H' b := fun hn b hb => by
    obtain ⟨f0, f1, f2', f3, f4, f5⟩ := f2 b hb
    refine ⟨hn b hb, f1, f2', f3, f4, fun p hp => ?_⟩
    rcases List.mem_append.mp hp with q | q
    · exact f5 p (List.mem_append_left _ q)
    · rcases List.mem_cons.mp q with q | q
      · rw [q]
        exact f5 (S, lstObj acc cc) (List.mem_append_right _ List.mem_cons_self)
      · exact f5 p (List.mem_append_right _ (List.mem_cons_of_mem _ q))
  have fS : ∀ b ∈ fp, b ≠ S := fun b hb z => (f2 b hb).2.2.2.2.2 (S, lstObj acc cc) (List.mem_append_right _ List.mem_cons_self) z.symm
  have loop : ∀ (m i n : Nat) (ys : List V) (s₀ s : Shared) (σ : L2.St) (H : Hp), n + ys.length = sizeLine → W i m ys σ H → GI X S ip ys σ H s → tn i s.heap → (∀ b ∈ fp, H b = none) →
      Seg (model X.prog X.w) A R (GY X S) n s₀ (.forLoop tg (.ref it) body [] X.env) ((model X.prog X.w).den (.forLoop tg (.ref it) body [] X.env))
        (.ret (fun r => ((match r with | .ok f => (.pure f : Sem Flow) | .error e => .raise e).onRaise (cameBack X.env)).wrap K J gd lv) none (gd false) (lv []) c p [] :: fs) s := by
    intro m
    induction m using Nat.strongRecOn with
    | ind m ih =>
      intro i n ys s₀ s σ H hn w hI hst hfr
      have ee : ∀ (n : Nat) (s₀ : Shared) (x : Value) (s' : Shared), X.xe x s' → Seg (model X.prog X.w) A R (GY X S) n s₀ (.forLoop tg (.ref it) body [] X.env)
          ((do noteFrame x X.env; theTreesLotGoes x : Sem Unit).bind fun _ => .raise x)
          (.ret (fun r => ((match r with | .ok f => (.pure f : Sem Flow) | .error e => .raise e).onRaise (cameBack X.env)).wrap K J gd lv) none (gd false) (lv []) c p [] :: fs) s' := fun n s₀ x s' hx => by
        rw [Sem.bind_eq_wrap]
        refine seg_wrap ?_
        rw [(gl _).over]
        refine wpAny_bind (wpAny_mono (hp x s' hx) (fun _ s'' hcb => wpAny_theTreesLotGoes ?_) fun y s'' hcb => ?_)
        · exact seg_leaf (.error x) (seg_cameBack gc k hcb)
        · exact seg_leaf (.error y) (seg_cameBack gc k hcb)
      show Seg _ _ _ _ _ _ _ ((forTurn tg (.ref it) body [] X.env).onRaise (fun x => do noteFrame x X.env; theTreesLotGoes x)) _ _
      rw [Sem.onRaise_eq_wrap]
      simp only [forTurn]
      refine seg_bind_wrap (wpAny_standAt ?_)
      refine seg_bind_wrap ?_
      rw [(gl _).over]
      obtain ⟨acc, cc, r, I⟩ := hI
      rcases turn i m ys σ H w with ⟨stop, qn⟩ | ⟨go, N, hN, step⟩
      · refine wpAny_onRaise (wpAny_mono (T.done X rfl rfl rfl hc i _ s σ H X.xe I (stat hfr) hst stop) (fun a s4 ⟨ha, I4⟩ => ?_) fun x s4 hx => wpAny_standAt (ee n s₀ x s4 hx))
        subst ha
        refine seg_again rfl ?_
        show Seg _ _ _ _ _ _ _ (((execs [] X.env).onRaise (fun x => do noteFrame x X.env; theTreesLotGoes x)).bind fun f => .pure (.done f)) _ _
        exact seg_leaf (.ok .next) (k.ok n ys s₀ s4 .next hn ⟨σ, H, ⟨acc, cc, r, I4⟩, qn⟩)
      · refine wpAny_onRaise (wpAny_mono (T.item X rfl rfl rfl hc i _ s σ H X.xe I (stat hfr) hst go) (fun a s4 ⟨u, ha, h4⟩ => ?_) fun x s4 hx => wpAny_standAt (ee n s₀ x s4 hx))
        subst ha
        refine seg_bind_wrap ?_
        rw [(gl _).over]
        refine wpAny_mono h4 (fun _ s5 ⟨x, H5, I5, r5, y5, st5, fr5⟩ => ?_) fun x s' hx => ee n s₀ x s' hx
        have I5' := I5.pinned (stat fr5) (T.obj _ _ st5)
        refine seg_bind_wrap ?_
        rw [(gl _).over]
        refine wpAny_mono (hg.run _ s5 σ H5 x u _ I5' r5 (step x H5 y5)) (fun _ s6 ⟨σ6, H6, I6, q6⟩ => ?_) fun x s' hx => ee n s₀ x s' hx
        rw [Sem.bind_eq_wrap', Sem.wrap_wrap]
        have g6 := gl fun (r : Result) => ((match r with | .ok f => (.pure f : Sem Flow) | .error e => .raise e).onRaise (cameBack X.env)).wrap K J gd lv
        have G6 : GI X S (ip ++ pinsAt fp s5.heap) ys σ6 H6 s6 := ⟨acc, cc, r, I6⟩
        have gc6 : GC X S (ip ++ pinsAt fp s5.heap) A (.forLoop tg (.ref it) body [] X.env) _ id := { g6 with ip := fun p hp => (List.mem_append.mp hp).elim (gc.ip p) fun z => fS _ (of_pinsAt z).1 }
        have again : ∀ {n' : Nat} {ys7 : List V} {s₀7 s7 : Shared} {σ7 : L2.St} {H7 : Hp}, n' + ys7.length = sizeLine → GI X S (ip ++ pinsAt fp s5.heap) ys7 σ7 H7 s7 → N ys7 σ7 H7 →
            Seg (model X.prog X.w) A R (GY X S) n' s₀7 (.forLoop tg (.ref it) body [] X.env) (.pure (.again (.forLoop tg (.ref it) body [] X.env)))
              (.ret (fun r => ((match r with | .ok f => (.pure f : Sem Flow) | .error e => .raise e).onRaise (cameBack X.env)).wrap K J gd lv) none (gd false) (lv []) c p [] :: fs) s7 := fun {n' ys7 s₀7 s7 σ7 H7} hn7 G7 n7 => by
          obtain ⟨m', hm, w7⟩ := hN _ _ _ n7
          obtain ⟨acc7, cc7, r7, I7⟩ := G7
          have pin7 : ∀ b ∈ fp, ∀ o, s5.heap.get? b = some o → s7.heap.get? b = some o ∧ H7 b = none := fun b hb o e => by
            obtain ⟨z1, z2, _⟩ := I7.pin (b, o) (List.mem_append_right _ (List.mem_cons_of_mem _ (List.mem_append_right _ (mem_pinsAt hb e))))
            exact ⟨z1, z2⟩
          refine seg_again rfl (ih m' hm (i + 1) n' ys7 s₀7 s7 σ7 H7 hn7 w7 ⟨acc7, cc7, r7, I7.pins_of fun p hp => I7.pin p ?_⟩ (T.keep _ _ _ st5 fun b hb o e => (pin7 b hb o e).1) fun b hb => ?_)
          · rcases List.mem_append.mp (show p ∈ X.pn ++ ((S, lstObj acc7 cc7) :: ip) by first | exact List.mem_append_right _ hp | exact hp) with q | q
            · exact List.mem_append_left _ q
            · rcases List.mem_cons.mp q with q | q
              · exact List.mem_append_right _ (q ▸ List.mem_cons_self)
              · exact List.mem_append_right _ (List.mem_cons_of_mem _ (List.mem_append_left _ q))
          · obtain ⟨o, e, d⟩ := T.obj _ _ st5 b hb
            exact (pin7 b hb o e).2
        refine hb.run A S _ R n ys s₀ _ _ _ _ id id s6 σ6 H6 { D with nx := N, ct := N, bk := D.nx } gc6 hn ⟨fun n' ys' s₀' s3 f hn' hs => ?_, fun n' s₀' x s3 hx => ee n' s₀' x s3 hx⟩ G6 q6
        have un : ∀ {ys' : List V} {σ3 : L2.St} {H3 : Hp}, GI X S (ip ++ pinsAt fp s5.heap) ys' σ3 H3 s3 → GI X S ip ys' σ3 H3 s3 := fun {ys' σ3 H3} G3 => by
          obtain ⟨acc7, cc7, r7, I7⟩ := G3
          refine ⟨acc7, cc7, r7, I7.pins_of fun p hp => I7.pin p ?_⟩
          rcases List.mem_append.mp (show p ∈ X.pn ++ ((S, lstObj acc7 cc7) :: ip) by first | exact List.mem_append_right _ hp | exact hp) with q | q
          · exact List.mem_append_left _ q
          · rcases List.mem_cons.mp q with q | q
            · exact List.mem_append_right _ (q ▸ List.mem_cons_self)
            · exact List.mem_append_right _ (List.mem_cons_of_mem _ (List.mem_append_left _ q))
        cases f with
        | next =>
          obtain ⟨σ3, H3, I3, n3⟩ := hs
          exact again hn' I3 n3
        | cont =>
          obtain ⟨σ3, H3, I3, n3⟩ := hs
          exact again hn' I3 n3
        | brk =>
          obtain ⟨σ3, H3, I3, n3⟩ := hs
          exact seg_leaf (.ok .next) (k.ok n' ys' s₀' s3 .next hn' ⟨σ3, H3, un I3, n3⟩)
        | ret v =>
          obtain ⟨x, σ3, H3, I3, r3, n3⟩ := hs
          exact seg_leaf (.ok (.ret v)) (k.ok n' ys' s₀' s3 (.ret v) hn' ⟨x, σ3, H3, un I3, r3, n3⟩)
  exact loop m0 0 n ys s₀ s2 σ H2 hn w0 ⟨acc, cc, r, I2⟩ st2 fun b hb => (f2 b hb).1
end
/-- the turns of a generator's for over a walk -/
theorem gfor_it {J : It} {n : Nat} {G : Hp → Prop} {Y : Nat → Hp → V → Hp → Prop} (w : Walk J n G Y) {g : TG} {tb : TGn} {D : GEnds} {ys : List V} {σ : L2.St} {H : Hp} (Pv : Nat → List V → L2.St → Hp → Prop) (h0 : Pv 0 ys σ H) (hG : ∀ i ys σ H, i ≤ n → Pv i ys σ H → G H)
    (hs : ∀ i x ys σ H H', i < n → Pv i ys σ H → Y i H x H' → g x σ H' fun σ2 H2 => tb { D with nx := Pv (i + 1), ct := Pv (i + 1), bk := D.nx } ys σ2 H2) (hd : ∀ ys σ H, Pv n ys σ H → D.nx ys σ H) :
    ∃ W : Nat → Nat → List V → L2.St → Hp → Prop, (∃ m, W 0 m ys σ H) ∧ ∀ i m ys σ H, W i m ys σ H →
      (J.stop i H ∧ D.nx ys σ H) ∨ (J.go i H ∧ ∃ N : List V → L2.St → Hp → Prop, (∀ ys' σ' H', N ys' σ' H' → ∃ m', m' < m ∧ W (i + 1) m' ys' σ' H') ∧ ∀ x H', J.yld i H x H' → g x σ H' fun σ2 H2 => tb { D with nx := N, ct := N, bk := D.nx } ys σ2 H2) := by
  refine ⟨fun i m ys σ H => m = n - i ∧ i ≤ n ∧ Pv i ys σ H, ⟨n, by simp, Nat.zero_le _, h0⟩, ?_⟩
  rintro i m ys σ H ⟨rfl, hi, p⟩
  have q := hG i ys σ H hi p
  by_cases hlt : i < n
  · exact .inr ⟨w.goes i H hlt q, Pv (i + 1), fun ys' σ' H' p' => ⟨n - (i + 1), by omega, rfl, hlt, p'⟩, fun x H' y => hs i x ys σ H H' hlt p (w.yields i H x H' hlt q y)⟩
  · have e : i = n := by omega
    subst e
    exact .inl ⟨w.stops H q, hd ys σ H p⟩
end Gc

/-! generator defs: their rule, list(g(..)) -/
namespace Gc
open PySem PySem.Spec PyProof.Rows GenW L2
/-- a generator def, by its body -/
theorem gen_ok {P : Program} {w : World} {K : PySem.W.Frag} {mg : Str → Option Value} {base : Heap} {x qual : Str} {st : Stmt} {f : Addr} {fd : FuncData} {N ps : List Str} {k : Nat} {sp : SpG} (F : L2.Fun K x qual st f fd) (S : GScope N ps (defScope st)) (len : ∀ vs H Q E, sp vs H Q E → vs.length = ps.length)
    (hbody : ∀ (cdv : Value) (A : Around) (outer : List Env) (s : Shared) (H : Hp) (vs : List V) (Q : List V → Hp → Prop) (E : XK) (pn : List (Addr × Obj)), Room k (A.deeper (envOfC qual (defScope st) s.heap.objs.size f cdv)) → sp vs H Q E →
      ∃ t, GSs (gcxOf P w K mg base N qual (defScope st) f cdv A outer s H E pn) (defBody st) t ∧ t { nx := fun ys _ H' => Q ys H', rt := fun ys v H' => v = .non ∧ Q ys H' } [] (start N vs) H) : GFn P w K mg base (k + 1) f fd ps sp := by
  obtain ⟨oc, od, kV, doc, pm, an, cdv, ct, osl, rfl, lk, hcd⟩ := F.ex
  exact gfn_of lk hcd S len fun A outer s H vs Q E pn hr hsp => hbody cdv A outer s H vs Q E pn hr hsp
structure GCal (P : Program) (w : World) (K : PySem.W.Frag) (mg : Str → Option Value) (base : Heap) (k : Nat) (x : Str) (sp : SpG) : Prop where
  ex : ∃ (f : Addr) (fd : FuncData) (ps : List Str), GFn P w K mg base k f fd ps sp ∧ mg x = some (.ref f) ∧ PySem.W.keepIn K (.ref f) = true ∧ Binds K fd ps []
theorem gfn_mono {P : Program} {w : World} {K : PySem.W.Frag} {mg : Str → Option Value} {base : Heap} {j k : Nat} {f : Addr} {fd : FuncData} {ps : List Str} {sp : SpG} (F : GFn P w K mg base k f fd ps sp) : GFn P w K mg base k f fd ps sp := F
theorem noStop0 {K : PySem.W.Frag} : NoStop K E0 := fun _ _ _ h => h.elim
theorem passE0 {X : Cx} : Passes (CX X.prog X.w) X E0 := fun _ _ _ _ _ _ _ ⟨_, _, _, _, _, _, _, _, _, _, _, _, h⟩ => h.elim
section
variable {X : Cx} {k : Nat} {x : Str} {sp : SpG} {p p0 pos pos' : Pos} {e : Expr} {es : List Expr} {t : TA}
/-- list(g(..)), where nothing is raised -/
theorem pe_listGC (c : GCal X.prog X.w X.K X.mg X.base k x sp) (hr : Room (k + 3) X.A) (hg : Gl X x) (ha : PA X (e :: es) t) (hgl : Gl X "list") (hml : X.mg "list" = none)
    (hdb : (x == ("__debug__" : Str)) = false := by decide) (he : starEach (e :: es) X.env = (false, eval e X.env) :: starEach es X.env := by rfl) (hpl : (backTo pos' (starEach es X.env)).any (·.1) = false := by rfl)
    (he2 : starEach [.Call (.Name x p) (e :: es) [] pos'] X.env = (false, eval (.Call (.Name x p) (e :: es) [] pos') X.env) :: starEach [] X.env := by rfl) :
    PE X (.Call (.Name "list" p0) [.Call (.Name x p) (e :: es) [] pos'] [] pos) (tListG (tCallG sp [] E0 t)) := by
  obtain ⟨f, fd, ps, F, hm, kp, b⟩ := c.ex
  exact pe_listG (pgen_call F (hr.mono (by omega)) hg hm kp b .nil ha hdb he hpl) passE0 noStop0 hr hgl hml (by decide +kernel) (by decide) (by decide) he2
end
structure GCalK (P : Program) (w : World) (K : PySem.W.Frag) (mg : Str → Option Value) (base : Heap) (k : Nat) (x : Str) (ks : List Str) (sp : SpG) : Prop where
  ex : ∃ (f : Addr) (fd : FuncData) (ps : List Str), GFn P w K mg base k f fd ps sp ∧ mg x = some (.ref f) ∧ PySem.W.keepIn K (.ref f) = true ∧ KBinds K fd ps ks gRev gRev
def tCallGK (sp : SpG) (E : XK) (tk : TA) : TGen := fun σ H cont => tk σ H fun zs H2 => sp (gRev [] zs) H2 cont E
section
variable {X : Cx} {k : Nat} {x : Str} {ks : List Str} {sp : SpG} {p p0 pos pos' : Pos} {kws : List Keyword} {tk : TA}
theorem pgen_callK {E : XK} (c : GCalK X.prog X.w X.K X.mg X.base k x ks sp) (hr : Room k X.A) (hg : Gl X x) (hkw : PK X kws tk)
    (hdb : (x == ("__debug__" : Str)) = false := by decide) (hall : (backToKw pos (keywordEach kws X.env)).all (·.1.isSome) = true := by rfl) (hks : (backToKw pos (keywordEach kws X.env)).filterMap (·.1) = ks := by rfl)
    (hpn : ((backTo pos (starEach [] X.env)).any (·.1) || (backToKw pos (keywordEach kws X.env)).any (·.1.isNone)) = false := by rfl) :
    PGen X k (.Call (.Name x p) [] kws pos) (tCallGK sp E tk) E := by
  obtain ⟨f, fd, ps, F, hm, kp, b⟩ := c.ex
  refine ⟨fun pins s σ H cont I h => ?_⟩
  refine wpAny_Call_Name_kw (ld_glob I hg hm ?_ hdb)
  refine PySem.W.callWith_KW0 (h₀ := X.base) I.ok.mod.kin kp hall ?_ hpn
  refine thn (hkw.run pos pins s σ H _ I h) fun ws s1 ⟨zs, H1, I1, rz, q⟩ => ⟨I1.kIn, ?_⟩
  rw [hks]
  have r2 := b.rel (us := []) (vs := []) .nil rz
  have hl : (gRev [] ws).length = ps.length := by rw [← r2.length]; exact F.len _ _ _ _ q
  refine wpAny_call (codeAny_mono (F.run X.A X.stack s1 H1 ⟨[], ks.zip ws⟩ (gRev [] ws) (gRev [] zs) cont E hr I1.env0 (b.to s1 [] ws I1.kIn hl) r2 q) fun r s' hq => ?_)
  cases r with
  | error e => exact False.elim hq
  | ok fl =>
    cases fl with
    | ret u => exact ⟨H1, s1, [], I1, .nil, hq⟩
    | next => exact False.elim hq
    | brk => exact False.elim hq
    | cont => exact False.elim hq
theorem pe_listGK (c : GCalK X.prog X.w X.K X.mg X.base k x ks sp) (hr : Room (k + 3) X.A) (hg : Gl X x) (hkw : PK X kws tk) (hgl : Gl X "list") (hml : X.mg "list" = none)
    (hdb : (x == ("__debug__" : Str)) = false := by decide) (hall : (backToKw pos' (keywordEach kws X.env)).all (·.1.isSome) = true := by rfl) (hks : (backToKw pos' (keywordEach kws X.env)).filterMap (·.1) = ks := by rfl)
    (hpn : ((backTo pos' (starEach [] X.env)).any (·.1) || (backToKw pos' (keywordEach kws X.env)).any (·.1.isNone)) = false := by rfl)
    (he2 : starEach [.Call (.Name x p) [] kws pos'] X.env = (false, eval (.Call (.Name x p) [] kws pos') X.env) :: starEach [] X.env := by rfl) :
    PE X (.Call (.Name "list" p0) [.Call (.Name x p) [] kws pos'] [] pos) (tListG (tCallGK sp E0 tk)) :=
  pe_listG (pgen_callK c (hr.mono (by omega)) hg hkw hdb hall hks hpn) passE0 noStop0 hr hgl hml (by decide +kernel) (by decide) (by decide) he2
end
end Gc

/-! places: a generator -/
namespace Gc
open PySem L2
abbrev s_places : Stmt := top 20
/-- where the commands lead, one by one -/
def trailL (T : List Int) : Int → Option Int → List Cmd → List (Int × Option Int)
  | _, _, [] => []
  | r, g, c :: cs => match step1 T r g c with
    | none => []
    | some q => q :: trailL T q.1 q.2 cs
theorem trail_step {T : List Int} {r : Int} {g : Option Int} {c : Cmd} {cs : List Cmd} {q : Int × Option Int} (h : step1 T r g c = some q) : trailL T r g (c :: cs) = q :: trailL T q.1 q.2 cs := by
  show (match step1 T r g c with | none => [] | some q => q :: trailL T q.1 q.2 cs) = _
  rw [h]
def SpotAt (K : PySem.W.Frag) (H : Hp) (v : V) (q : Int × Option Int) : Prop := ∃ p, v = .ref p ∧ SqT K H p [.int q.1, optV q.2]
def SpotsOf (K : PySem.W.Frag) (H : Hp) (vs : List V) (qs : List (Int × Option Int)) : Prop := Paired (SpotAt K H) vs qs
theorem SpotsOf.same {K : PySem.W.Frag} {H H' : Hp} {vs : List V} {qs : List (Int × Option Int)} (h : SpotsOf K H vs qs) (e : Same H H') : SpotsOf K H' vs qs := Paired.mapP h fun _ _ ⟨p, z, q⟩ => ⟨p, z, seq_t e q⟩
theorem SpotsOf.len {K : PySem.W.Frag} {H : Hp} : ∀ {vs : List V} {qs : List (Int × Option Int)}, SpotsOf K H vs qs → vs.length = qs.length
  | _, _, .nil => rfl
  | _, _, .cons _ t => congrArg (· + 1) (SpotsOf.len t)
theorem trail_len {T : List Int} : ∀ {cs : List Cmd} {r : Int} {g : Option Int}, (trailL T r g cs).length ≤ cs.length
  | [], _, _ => Nat.le_refl _
  | c :: cs, r, g => by
    unfold trailL
    cases step1 T r g c with
    | none => exact Nat.zero_le _
    | some q => exact Nat.succ_le_succ trail_len
/-- places of valid arguments that are possible -/
def spPlaces (K : PySem.W.Frag) : SpG := fun vs H Q _ => ∃ (t b l : Addr) (T : List Int) (r : Int) (g : Option Int) (xs : List V) (cs : List Cmd) (r' : Int) (g' : Option Int), vs = [.ref t, .ref b, .ref l] ∧ SqL K H t (T.map V.int) ∧ SqT K H b [.int r, optV g] ∧ SqL K H l xs ∧ CmdsOf K H xs cs ∧
  (∀ x ∈ T, 0 ≤ x) ∧ 0 ≤ r ∧ r < T.length ∧ ge g 0 ∧ AllOk cs ∧ cs.length ≤ 10000 ∧ afterL T r g cs = some (r', g') ∧ ∀ (H' : Hp) (ys : List V), Same H H' → SpotsOf K H' ys ((r, g) :: trailL T r g cs) → Q ys H'
section
variable {P : Program} {w : World} {K : PySem.W.Frag} {mg : Str → Option Value} {base : Heap}
theorem sc_places : GScope ["text", "cursor", "commands", "place", "command"] ["text", "cursor", "commands"] (defScope s_places) := ⟨rfl, rfl, rfl, by decide +kernel, rfl, by decide +kernel, by decide +kernel⟩
theorem ok_places {f : Addr} {fd : FuncData} (F : Fun K "places" "places" s_places f fd) (c_run : Cal P w K mg base 4 "run" (spRun K)) (c_moved : Cal P w K mg base 3 "moved" (spMoved K)) : GFn P w K mg base 5 f fd ["text", "cursor", "commands"] (spPlaces K) := by
  refine gen_ok F sc_places (fun vs H Q E h => ?_) (fun cdv A outer s H vs Q E pn hr h => ?_)
  · obtain ⟨t, b, l, T, r, g, xs, cs, r', g', rfl, _⟩ := h
    rfl
  · obtain ⟨t, b, l, tx, r, g, xs, cs, r', g', rfl, ht, hb, hl, hcs, nn, r0, r1, g0, ok, ln, hrun, k⟩ := h
    refine ⟨_, (gss_cons (gs_ps (ps_expr (pe_cal c_run hr (by decide) (by rfl) (pa_cons (pv 0) (pa_cons (pv 1) (pa_cons (pv 2) pa_nil))))))
      (gss_cons (gs_ps (ps_set (i := 3) sc_places.nd rfl (Or.inl rfl) (pv 1)))
      (gss_cons (gs_yield (pv 3))
      (gss_cons (gs_for owns_gcx rfl (pi_list (pv 2)) (pg_name (i := 4) sc_places.nd rfl (Or.inl rfl)) (gss_cons (gs_ps (ps_set (i := 3) sc_places.nd rfl (Or.inl rfl) (pe_cal c_moved hr (by decide) (by rfl) (pa_cons (pv 0) (pa_cons (pv 3) (pa_cons (pv 4) pa_nil))))))
      (gss_cons (gs_yield (pv 3))
      gss_nil)))
      gss_nil)))), ?_⟩
    refine ⟨_, rfl, _, rfl, _, rfl, t, b, l, tx, r, g, xs, cs, r', g', rfl, ht, hb, hl, hcs, nn, r0, r1, g0, ok, ln, hrun, fun H1 p1 e1 _ => ?_⟩
    refine ⟨_, rfl, ?_⟩
    refine ⟨Nat.zero_lt_of_lt (lt_line (n := 1) (by decide)), _, rfl, ?_⟩
    refine ⟨_, rfl, l, rfl, ⟨_, e1.seq hl⟩, ?_⟩
    refine gfor_it (walk_list (K := K) (a := l) (xs := xs)) (fun i ys σ H' => ∃ (p : Addr) (rr : Int) (gg : Option Int) (v4 : Option V) (qs : List (Int × Option Int)), σ = [some (.ref t), some (.ref b), some (.ref l), some (.ref p), v4] ∧ Same H H' ∧ SqT K H' p [.int rr, optV gg] ∧ 0 ≤ rr ∧ rr < tx.length ∧
        afterL tx rr gg (cs.drop i) = some (r', g') ∧ SpotsOf K H' ys qs ∧ qs.length = i + 1 ∧ (r, g) :: trailL tx r g cs = qs ++ trailL tx rr gg (cs.drop i))
      ⟨b, r, g, none, [(r, g)], rfl, e1, seq_t e1 hb, r0, r1, hrun, .cons ⟨b, rfl, seq_t e1 hb⟩ .nil, rfl, rfl⟩ (fun i ys σ H' _ ⟨_, _, _, _, _, _, e, _⟩ => e.seq hl) (fun i x ys σ H2 H3 hi h y => ?_) (fun ys σ H2 h => ?_)
    · obtain ⟨p, rr, gg, v4, qs, rfl, e, hp, q0, q1, hgo, hys, hq, htr⟩ := h
      obtain ⟨rfl, ex⟩ := y
      obtain ⟨c, hc, hca⟩ := paired_at hcs ex
      have hdrop : cs.drop i = c :: cs.drop (i + 1) := by
        obtain ⟨h1, h2⟩ := List.getElem?_eq_some_iff.mp hc
        rw [List.drop_eq_getElem_cons h1, h2]
      rw [hdrop, afterL_cons q0 q1] at hgo
      obtain ⟨⟨r2, g2⟩, hst, hrest⟩ := Option.bind_eq_some_iff.mp hgo
      have hin := step1_in hst
      rw [hdrop, trail_step hst] at htr
      refine ⟨_, rfl, _, rfl, _, rfl, t, p, tx, rr, gg, x, c, rfl, e.seq ht, hp, hca.same e, (fun z => by rw [hst] at z; cases z), fun r3 g3 z p3 np3 => ?_⟩
      rw [hst] at z
      cases z
      have e4 := new_same (o := HO.tup [.int r2, optV g2]) np3
      have yl := SpotsOf.len hys
      have xl := hcs.len
      refine ⟨lt_line (by omega), _, rfl, ?_⟩
      refine ⟨p3, r2, g2, _, qs ++ [(r2, g2)], rfl, e.trans e4, SqT.of upd_same, hin.1, hin.2, hrest, ?_, by rw [List.length_append, hq]; rfl, ?_⟩
      · exact paired_app (hys.same e4) (.cons ⟨p3, rfl, SqT.of upd_same⟩ .nil)
      · rw [htr]
        simp
    · obtain ⟨p, rr, gg, v4, qs, rfl, e, hp, q0, q1, hgo, hys, hq, htr⟩ := h
      rw [hcs.len, List.drop_length] at htr
      have hq2 : (r, g) :: trailL tx r g cs = qs := by rw [htr]; exact List.append_nil qs
      refine k _ ys e ?_
      rw [hq2]
      exact hys
end
end Gc

/-! generators whose consumer does something of its own at each item: what is handed out is told item by item -/
namespace Gc
open PySem PySem.Spec PyProof.Rows GenW L2
/-- asleep: the consumer changes at most what stands at Z -/
structure Nap (Z : List Addr) (s s' : Shared) : Prop where
  os : s'.os = s.os
  bare : AllBare s'.gens
  same : ∀ b o, b ∉ Z → s.heap.get? b = some o → s'.heap.get? b = some o
  stay : ∀ b o, b ∈ Z → s.heap.get? b = some o → ∃ o', s'.heap.get? b = some o' ∧ ∀ v, o'.data ≠ .cell v
/-- what is the consumer's: none of it is of the generator's frame -/
def FarOf (X : Cx) (Z : List Addr) : Prop := ∀ b ∈ Z, X.s_0.heap.objs.size ≤ b ∧ b ≠ X.env.locals ∧ ∀ x c, X.env.cells.lookup x = some c → c ≠ b
/-- at work; z: the state in which it was woken -/
structure AtW (X : Cx) (Z : List Addr) (z : Shared) (ip : List (Addr × Obj)) (σ : L2.St) (H : Hp) (s : Shared) : Prop where
  zo : ∀ b ∈ Z, ∃ o, z.heap.get? b = some o ∧ ∀ v, o.data ≠ .cell v
  inv : Inv X (pinsAt Z z.heap ++ ip) σ H s
theorem AtW.at {X : Cx} {Z : List Addr} {z : Shared} {ip : List (Addr × Obj)} {σ : L2.St} {H : Hp} {s : Shared} (h : AtW X Z z ip σ H s) {b : Addr} (hb : b ∈ Z) : s.heap.get? b = z.heap.get? b ∧ H b = none ∧ b ≠ X.env.locals ∧ b ∉ X.fs := by
  obtain ⟨o, ho, _⟩ := h.zo b hb
  obtain ⟨a1, a2, a3, a4, _⟩ := h.inv.pin (b, o) (List.mem_append_right _ (List.mem_append_left _ (mem_pinsAt hb ho)))
  exact ⟨a1.trans ho.symm, a2, a3, a4⟩
theorem AtW.own {X : Cx} {Z : List Addr} {z : Shared} {ip : List (Addr × Obj)} {σ : L2.St} {H : Hp} {s : Shared} (h : AtW X Z z ip σ H s) : Inv X ip σ H s :=
  h.inv.pins_of fun q hq => h.inv.pin q (List.mem_append_right _ (List.mem_append_right _ hq))
theorem AtW.mk' {X : Cx} {Z : List Addr} {z : Shared} {ip : List (Addr × Obj)} {σ : L2.St} {H : Hp} {s : Shared} (I : Inv X ip σ H s) (hz : ∀ b ∈ Z, ∃ o, z.heap.get? b = some o ∧ ∀ v, o.data ≠ .cell v)
    (hs : ∀ b ∈ Z, s.heap.get? b = z.heap.get? b ∧ H b = none ∧ b ≠ X.env.locals ∧ b ∉ X.fs) : AtW X Z z ip σ H s := by
  refine ⟨hz, I.pins_of fun q hq => (List.mem_append.mp hq).elim (fun hq => ?_) fun hq => I.pin q (List.mem_append_right _ hq)⟩
  obtain ⟨hb, e⟩ := of_pinsAt hq
  obtain ⟨a1, a2, a3, a4⟩ := hs _ hb
  obtain ⟨o, ho, d⟩ := hz _ hb
  rw [e] at ho
  cases ho
  exact ⟨a1.trans e, a2, a3, a4, d⟩
/-- woken again: all its own stands as it stood -/
theorem AtW.again {X : Cx} {Z : List Addr} {z : Shared} {ip : List (Addr × Obj)} {σ : L2.St} {H : Hp} {s s' : Shared} (hpn : ∀ q ∈ X.pn, q.1 ∉ Z) (hip : ∀ q ∈ ip, q.1 ∉ Z) (far : FarOf X Z) (h : AtW X Z z ip σ H s) (n : Nap Z s s') : AtW X Z s' ip σ H s' := by
  have I0 := h.own
  have tz : ∀ b u, H b = some u → b ∉ Z := fun b u e hb => by
    rw [(h.at hb).2.1] at e
    cases e
  obtain ⟨n1, n2, n3, n4⟩ := n
  obtain ⟨hh, gg, dd, tt, oo⟩ := s'
  have eo : oo = s.os := n1
  subst eo
  have J : Inv X ip σ H { s with heap := hh, gens := gg, drawn := dd, toks := tt } := by
    refine I0.step (g' := gg) (t' := tt) (d' := dd) (ch := Z) (fun b hb => ?_) (fun b ob _ _ hc e _ => n3 b ob hc e) (fun b ob _ _ hc e _ => ⟨ob.slots, n3 b ob hc e⟩) (fun _ _ _ _ e => e)
      (fun b ob hc e => ⟨ob, n3 b ob hc e⟩) (fun _ _ e => e) (fun _ _ _ e => e) (fun b ps e => ⟨#[], by rw [e, Array.append_empty]⟩) (fun m hm => ?_) (fun b u e => ?_) n2
    · obtain ⟨f1, f2, f3⟩ := far b hb
      refine ⟨.inr f1, f2, f3, fun q hq e => ?_⟩
      rcases List.mem_append.mp hq with hq | hq
      · exact hpn q hq (e ▸ hb)
      · exact hip q hq (e ▸ hb)
    · obtain ⟨ob, es, ep, ho, rr⟩ := hm
      exact ⟨ob, es, ep, n3 _ ob (fun hb => (far _ hb).2.1 rfl) ho, rr⟩
    · refine (I0.hok b u e).stay (fun c v hc y => n3 c v ?_ y) (fun _ y => y) fun _ _ y => y
      rcases hc with y | y
      · exact y ▸ tz b u e
      · exact tz c _ y
  refine AtW.mk' J (fun b hb => ?_) fun b hb => ⟨rfl, (h.at hb).2⟩
  obtain ⟨o, ho, _⟩ := h.zo b hb
  exact n4 b o hb ((h.at hb).1.trans ho)
/-- what must hold of each item: what is out ahead of it, the item, the heap -/
abbrev YdK := List V → V → Hp → Prop
def NY (X : Cx) (Z : List Addr) (Yd : YdK) : Protocol := fun n z v s kap => ∃ ys x ip σ H, n + 1 + ys.length = sizeLine ∧ RelV x v ∧ AtW X Z z ip σ H s ∧ Yd ys x H ∧ ∀ s', Nap Z s s' → kap (.send .none) s'
def NR (X : Cx) (Z : List Addr) (Q : List V → VK) (F : Value → Shared → Prop) : GenEnd := fun n z r s => match r with
  | .ok (.ret u) => ∃ ys v ip σ H, n + ys.length = sizeLine ∧ AtW X Z z ip σ H s ∧ RelV v u ∧ Q ys v H
  | .ok _ => False
  | .error e => F e s
def NSP (X : Cx) (Z : List Addr) (z : Shared) (ip : List (Addr × Obj)) (D : GEnds) (ys : List V) (f : Flow) (s : Shared) : Prop :=
  match f with
  | .next => ∃ σ H, AtW X Z z ip σ H s ∧ D.nx ys σ H
  | .brk => ∃ σ H, AtW X Z z ip σ H s ∧ D.bk ys σ H
  | .cont => ∃ σ H, AtW X Z z ip σ H s ∧ D.ct ys σ H
  | .ret u => ∃ v σ H, AtW X Z z ip σ H s ∧ RelV v u ∧ D.rt ys v H
structure NC (X : Cx) (Z : List Addr) (ip : List (Addr × Obj)) (A : Around) (c : Code) (fs : List Frame) (gd : Bool → Bool) : Prop where
  pn : ∀ q ∈ X.pn, q.1 ∉ Z
  ip : ∀ q ∈ ip, q.1 ∉ Z
  far : FarOf X Z
  over : A.over c fs = X.A
  split : splitAtGen fs = none
  guard : fs.any Frame.guarded = false
  gd : gd false = false
structure NK (X : Cx) (Z : List Addr) (Yd : YdK) (ip : List (Addr × Obj)) (A : Around) (R : GenEnd) (c : Code) (fs : List Frame) (K : Flow → Sem PySem.Fin) (J : Value → Sem PySem.Fin) (D : GEnds) : Prop where
  ok : ∀ (n : Nat) (ys : List V) (z s : Shared) (f : Flow), n + ys.length = sizeLine → NSP X Z z ip D ys f s → Seg (model X.prog X.w) A R (NY X Z Yd) n z c (K f) fs s
  exc : ∀ (n : Nat) (z : Shared) (e : Value) (s : Shared), X.xe e s → Seg (model X.prog X.w) A R (NY X Z Yd) n z c (J e) fs s
structure NS (X : Cx) (Yd : YdK) (st : Stmt) (t : TGn) : Prop where
  run : ∀ (A : Around) (Z : List Addr) (ip : List (Addr × Obj)) (R : GenEnd) (n : Nat) (ys : List V) (z : Shared) (c : Code) (fs : List Frame) (K : Flow → Sem PySem.Fin) (J : Value → Sem PySem.Fin) (gd : Bool → Bool) (lv : List Value → List Value) (s : Shared) (σ : L2.St) (H : Hp) (D : GEnds),
    NC X Z ip A c fs gd → n + ys.length = sizeLine → NK X Z Yd ip A R c fs K J D → AtW X Z z ip σ H s → t D ys σ H → Seg (model X.prog X.w) A R (NY X Z Yd) n z c ((exec st X.env).wrap K J gd lv) fs s
structure NSs (X : Cx) (Yd : YdK) (st : List Stmt) (t : TGn) : Prop where
  run : ∀ (A : Around) (Z : List Addr) (ip : List (Addr × Obj)) (R : GenEnd) (n : Nat) (ys : List V) (z : Shared) (c : Code) (fs : List Frame) (K : Flow → Sem PySem.Fin) (J : Value → Sem PySem.Fin) (gd : Bool → Bool) (lv : List Value → List Value) (s : Shared) (σ : L2.St) (H : Hp) (D : GEnds),
    NC X Z ip A c fs gd → n + ys.length = sizeLine → NK X Z Yd ip A R c fs K J D → AtW X Z z ip σ H s → t D ys σ H → Seg (model X.prog X.w) A R (NY X Z Yd) n z c ((execs st X.env).wrap K J gd lv) fs s
section
variable {X : Cx} {Yd : YdK} {st : Stmt} {rest : List Stmt} {e : Expr} {yp pos : Pos} {te : TE}
theorem ns_ps {t : TS} (h : PS X st t) : NS X Yd st (tPlain t) := by
  refine ⟨fun A Z ip R n ys z c fs K J gd lv s σ H D g hn k hI ht => ?_⟩
  obtain ⟨hz, I⟩ := hI
  refine seg_wrap ?_
  rw [g.over]
  refine wpAny_mono (h.run _ s σ H (D.at ys) I ht) (fun f s' hs => k.ok n ys z s' f hn ?_) fun x s' hx => k.exc n z x s' hx
  cases f with
  | next =>
    obtain ⟨σ2, H2, I2, q2⟩ := hs
    exact ⟨σ2, H2, ⟨hz, I2⟩, q2⟩
  | brk =>
    obtain ⟨σ2, H2, I2, q2⟩ := hs
    exact ⟨σ2, H2, ⟨hz, I2⟩, q2⟩
  | cont =>
    obtain ⟨σ2, H2, I2, q2⟩ := hs
    exact ⟨σ2, H2, ⟨hz, I2⟩, q2⟩
  | ret u =>
    obtain ⟨v2, σ2, H2, I2, r2, q2⟩ := hs
    exact ⟨v2, σ2, H2, ⟨hz, I2⟩, r2, q2⟩
theorem nss_nil : NSs X Yd [] tG0 := ⟨fun A Z ip R n ys z c fs K J gd lv s σ H D g hn k hI ht => seg_execs_nil (k.ok n ys z s .next hn ⟨σ, H, hI, ht⟩)⟩
theorem nss_cons {t u : TGn} (a : NS X Yd st t) (b : NSs X Yd rest u) : NSs X Yd (st :: rest) (tGThen t u) := by
  refine ⟨fun A Z ip R n ys z c fs K J gd lv s σ H D g hn k hI ht => seg_execs_cons ?_⟩
  refine a.run A Z ip R n ys z c fs _ J gd lv s σ H { D with nx := fun y2 σ2 H2 => u D y2 σ2 H2 } g hn ⟨fun n2 y2 z2 s2 f hn2 hs => ?_, k.exc⟩ hI ht
  cases f with
  | next =>
    obtain ⟨σ2, H2, I2, q2⟩ := hs
    exact b.run A Z ip R n2 y2 z2 c fs K J gd lv s2 σ2 H2 D g hn2 k I2 q2
  | brk => exact k.ok n2 y2 z2 s2 .brk hn2 hs
  | cont => exact k.ok n2 y2 z2 s2 .cont hn2 hs
  | ret v => exact k.ok n2 y2 z2 s2 (.ret v) hn2 hs
/-- yield e -/
def tNYield (Yd : YdK) (te : TE) : TGn := fun D ys σ H => ys.length < sizeLine ∧ te σ H fun x H1 => Yd ys x H1 ∧ D.nx (ys ++ [x]) σ H1
theorem ns_yield (he : PE X e te) (hco : X.env.scope.isCoroutine = false := by rfl) (hi : interactive X.env = false := by rfl) : NS X Yd (.Expr (.Yield (some e) yp) pos) (tNYield Yd te) := by
  refine ⟨fun A Z ip R n ys z c fs K J gd lv s σ H D g hn k hI ht => ?_⟩
  obtain ⟨hlt, ht⟩ := ht
  obtain ⟨n, rfl⟩ : ∃ m, n = m + 1 := ⟨n - 1, by omega⟩
  obtain ⟨hz, I⟩ := hI
  refine seg_Expr_Yield g.split g.gd g.guard ?_ hco hi
  rw [g.over]
  refine wpAny_mono (he.run _ s σ H _ I ht) (fun v s1 ⟨x, H1, I1, rv, yd, q⟩ kap hk => ?_) fun x s' hx => k.exc _ z x s' hx
  have W : AtW X Z z ip σ H1 s1 := ⟨hz, I1⟩
  refine ⟨ys, x, ip, σ, H1, hn, rv, W, yd, fun s2 nap => hk .none s2 ?_⟩
  refine k.ok n (ys ++ [x]) s2 s2 .next ?_ ⟨σ, H1, W.again g.pn g.ip g.far nap, q⟩
  rw [List.length_append]
  show n + (ys.length + 1) = sizeLine
  omega
end
end Gc

/-! such a generator's for loop; its def -/
namespace Gc
open PySem PySem.Spec PyProof.Rows GenW L2
theorem nc_loop {X : Cx} {Z : List Addr} {ip : List (Addr × Obj)} {A : Around} {c c1 : Code} {fs : List Frame} {gd : Bool → Bool} {k : Result → Sem PySem.Fin} {l kp : List Value} {p : Pos} (g : NC X Z ip A c fs gd) (hw : c1.weight = 0) (hu : c1.cUnits = 0) :
    NC X Z ip A c1 (.ret k none (gd false) l c p kp :: fs) id := by
  refine ⟨g.pn, g.ip, g.far, (over_loop hw hu).trans g.over, ?_, ?_, rfl⟩
  · show Option.map _ (splitAtGen fs) = none
    rw [g.split, Option.map_none]
  · show (gd false || fs.any Frame.guarded) = false
    rw [g.gd, g.guard, Bool.or_false]
theorem seg_backN {X : Cx} {Z : List Addr} {Yd : YdK} {ip : List (Addr × Obj)} {A : Around} {R : GenEnd} {c : Code} {fs : List Frame} {K : Flow → Sem PySem.Fin} {J : Value → Sem PySem.Fin} {gd : Bool → Bool} {lv : List Value → List Value} {D : GEnds} {n : Nat} {z s : Shared} {e : Value}
    (g : NC X Z ip A c fs gd) (k : NK X Z Yd ip A R c fs K J D) (h : cameBackBy (model X.prog X.w) X.A X.env X.xe e s) : Seg (model X.prog X.w) A R (NY X Z Yd) n z c (((Sem.raise e : Sem Flow).onRaise (cameBack X.env)).wrap K J gd lv) fs s := by
  show Seg _ A R _ n z c (((cameBack X.env e).bind fun _ => (Sem.raise e : Sem Flow)).wrap K J gd lv) fs s
  rw [Sem.bind_eq_wrap, Sem.wrap_wrap]
  refine seg_wrap ?_
  rw [g.over]
  exact wpAny_mono h (fun _ s2 hx => k.exc n z e s2 hx) fun x s2 hx => k.exc n z x s2 hx
section
variable {X : Cx} {Yd : YdK}
theorem ns_for {iter tg : Expr} {body : List Stmt} {wi : TI} {g : TG} {tb : TGn} {pos : Pos} (hp : PassesOwn (model X.prog X.w) X.A X.env X.xe) (hc : X.calm = true) (hi : PI X tg iter wi) (hg : PG X tg g) (hb : NSs X Yd body tb)
    (hs : ∀ x, foldedSetIterable iter X.env x = pure x := by intro _; rfl) : NS X Yd (.For tg iter body [] pos) (tGFor wi g tb) := by
  refine ⟨fun A Z ip R n ys z c fs K J gd lv s σ H D gc hn k hI ht => ?_⟩
  rw [exec_For]
  refine seg_bind_wrap (wpAny_standAt ?_)
  obtain ⟨hz0, I⟩ := hI
  refine seg_bind_wrap ?_
  rw [gc.over]
  refine wpAny_mono (hi.run _ s σ H _ I ht) (fun v s1 h1 => ?_) fun x s' hx => k.exc n z x s' hx
  refine seg_bind_wrap ?_
  rw [gc.over]
  refine wpAny_of_eq (hs v) ?_
  refine seg_bind_wrap (wpAny_standAt ?_)
  refine seg_bind_wrap ?_
  rw [gc.over]
  refine wpAny_holding (wpAny_mono h1 (fun itv s2 h2 => ?_) fun x s' hx => k.exc n z x s' hx)
  obtain ⟨it, fp, tn, It0, H2, e, I2, T, st2, f2, W, ⟨m0, w0⟩, turn⟩ := h2
  subst e
  refine seg_call fun p => ?_
  have gl := fun (kk : Result → Sem PySem.Fin) => nc_loop (k := kk) (c1 := .forLoop tg (.ref it) body [] X.env) (l := lv []) (kp := []) (p := p) gc rfl rfl
  have fZ : ∀ b ∈ fp, b ∉ Z := fun b hb hbz => by
    obtain ⟨o, ho, _⟩ := hz0 b hbz
    exact (f2 b hb).2.2.2.2.2 (b, o) (List.mem_append_right _ (List.mem_append_left _ (mem_pinsAt hbz ho))) rfl
  have stat : ∀ {z' : Shared} {H' : Hp}, (∀ b ∈ fp, H' b = none) → ∀ b ∈ fp, FpOk X (pinsAt Z z'.heap ++ ip) H' b := fun {z' H'} hn b hb => by
    obtain ⟨f0, f1, f2', f3, f4, f5⟩ := f2 b hb
    refine ⟨hn b hb, f1, f2', f3, f4, fun q hq => ?_⟩
    rcases List.mem_append.mp hq with hq | hq
    · exact f5 q (List.mem_append_left _ hq)
    · rcases List.mem_append.mp hq with hq | hq
      · exact fun e => fZ b hb (e ▸ (of_pinsAt hq).1)
      · exact f5 q (List.mem_append_right _ (List.mem_append_right _ hq))
  have loop : ∀ (m i n : Nat) (ys : List V) (z s : Shared) (σ : L2.St) (H : Hp), n + ys.length = sizeLine → W i m ys σ H → AtW X Z z ip σ H s → tn i s.heap → (∀ b ∈ fp, H b = none) →
      Seg (model X.prog X.w) A R (NY X Z Yd) n z (.forLoop tg (.ref it) body [] X.env) ((model X.prog X.w).den (.forLoop tg (.ref it) body [] X.env))
        (.ret (fun r => ((match r with | .ok f => (.pure f : Sem Flow) | .error e => .raise e).onRaise (cameBack X.env)).wrap K J gd lv) none (gd false) (lv []) c p [] :: fs) s := by
    intro m
    induction m using Nat.strongRecOn with
    | ind m ih =>
      intro i n ys z s σ H hn w hI hst hfr
      have ee : ∀ (n : Nat) (z : Shared) (x : Value) (s' : Shared), X.xe x s' → Seg (model X.prog X.w) A R (NY X Z Yd) n z (.forLoop tg (.ref it) body [] X.env)
          ((do noteFrame x X.env; theTreesLotGoes x : Sem Unit).bind fun _ => .raise x)
          (.ret (fun r => ((match r with | .ok f => (.pure f : Sem Flow) | .error e => .raise e).onRaise (cameBack X.env)).wrap K J gd lv) none (gd false) (lv []) c p [] :: fs) s' := fun n z x s' hx => by
        rw [Sem.bind_eq_wrap]
        refine seg_wrap ?_
        rw [(gl _).over]
        refine wpAny_bind (wpAny_mono (hp x s' hx) (fun _ s2 hcb => wpAny_theTreesLotGoes ?_) fun y s2 hcb => ?_)
        · exact seg_leaf (.error x) (seg_backN gc k hcb)
        · exact seg_leaf (.error y) (seg_backN gc k hcb)
      show Seg _ _ _ _ _ _ _ ((forTurn tg (.ref it) body [] X.env).onRaise (fun x => do noteFrame x X.env; theTreesLotGoes x)) _ _
      rw [Sem.onRaise_eq_wrap]
      simp only [forTurn]
      refine seg_bind_wrap (wpAny_standAt ?_)
      refine seg_bind_wrap ?_
      rw [(gl _).over]
      obtain ⟨hz, I⟩ := hI
      rcases turn i m ys σ H w with ⟨stop, qn⟩ | ⟨go, N, hN, step⟩
      · refine wpAny_onRaise (wpAny_mono (T.done X rfl rfl rfl hc i _ s σ H X.xe I (stat hfr) hst stop) (fun a s4 ⟨ha, I4⟩ => ?_) fun x s4 hx => wpAny_standAt (ee n z x s4 hx))
        subst ha
        refine seg_again rfl ?_
        show Seg _ _ _ _ _ _ _ (((execs [] X.env).onRaise (fun x => do noteFrame x X.env; theTreesLotGoes x)).bind fun f => .pure (.done f)) _ _
        exact seg_leaf (.ok .next) (k.ok n ys z s4 .next hn ⟨σ, H, ⟨hz, I4⟩, qn⟩)
      · refine wpAny_onRaise (wpAny_mono (T.item X rfl rfl rfl hc i _ s σ H X.xe I (stat hfr) hst go) (fun a s4 ⟨u, ha, h4⟩ => ?_) fun x s4 hx => wpAny_standAt (ee n z x s4 hx))
        subst ha
        refine seg_bind_wrap ?_
        rw [(gl _).over]
        refine wpAny_mono h4 (fun _ s5 ⟨x, H5, I5, r5, y5, st5, fr5⟩ => ?_) fun x s' hx => ee n z x s' hx
        have I5' := I5.pinned (stat fr5) (T.obj _ _ st5)
        refine seg_bind_wrap ?_
        rw [(gl _).over]
        refine wpAny_mono (hg.run _ s5 σ H5 x u _ I5' r5 (step x H5 y5)) (fun _ s6 ⟨σ6, H6, I6, q6⟩ => ?_) fun x s' hx => ee n z x s' hx
        rw [Sem.bind_eq_wrap', Sem.wrap_wrap]
        have g6 := gl fun (r : Result) => ((match r with | .ok f => (.pure f : Sem Flow) | .error e => .raise e).onRaise (cameBack X.env)).wrap K J gd lv
        have G6 : AtW X Z z (ip ++ pinsAt fp s5.heap) σ6 H6 s6 := ⟨hz, by rw [← List.append_assoc]; exact I6⟩
        have ip6 : ∀ q ∈ ip ++ pinsAt fp s5.heap, q.1 ∉ Z := fun q hq => (List.mem_append.mp hq).elim (gc.ip q) fun hq => fZ _ (of_pinsAt hq).1
        have gc6 : NC X Z (ip ++ pinsAt fp s5.heap) A (.forLoop tg (.ref it) body [] X.env) _ id := { g6 with ip := ip6 }
        have less : ∀ {z7 s7 : Shared} {σ7 : L2.St} {H7 : Hp}, AtW X Z z7 (ip ++ pinsAt fp s5.heap) σ7 H7 s7 → AtW X Z z7 ip σ7 H7 s7 := fun {z7 s7 σ7 H7} G7 =>
          ⟨G7.zo, G7.inv.pins_of fun q hq => G7.inv.pin q (List.mem_append_right _ ((List.mem_append.mp hq).elim (fun h => List.mem_append_left _ h) fun h => List.mem_append_right _ (List.mem_append_left _ h)))⟩
        have again : ∀ {n7 : Nat} {ys7 : List V} {z7 s7 : Shared} {σ7 : L2.St} {H7 : Hp}, n7 + ys7.length = sizeLine → AtW X Z z7 (ip ++ pinsAt fp s5.heap) σ7 H7 s7 → N ys7 σ7 H7 →
            Seg (model X.prog X.w) A R (NY X Z Yd) n7 z7 (.forLoop tg (.ref it) body [] X.env) (.pure (.again (.forLoop tg (.ref it) body [] X.env)))
              (.ret (fun r => ((match r with | .ok f => (.pure f : Sem Flow) | .error e => .raise e).onRaise (cameBack X.env)).wrap K J gd lv) none (gd false) (lv []) c p [] :: fs) s7 := fun {n7 ys7 z7 s7 σ7 H7} hn7 G7 n7' => by
          obtain ⟨m7, hm, w7⟩ := hN _ _ _ n7'
          have pin7 : ∀ b ∈ fp, ∀ o, s5.heap.get? b = some o → s7.heap.get? b = some o ∧ H7 b = none := fun b hb o e => by
            obtain ⟨a1, a2, _⟩ := G7.inv.pin (b, o) (List.mem_append_right _ (List.mem_append_right _ (List.mem_append_right _ (mem_pinsAt hb e))))
            exact ⟨a1, a2⟩
          refine seg_again rfl (ih m7 hm (i + 1) n7 ys7 z7 s7 σ7 H7 hn7 w7 (less G7) (T.keep _ _ _ st5 fun b hb o e => (pin7 b hb o e).1) fun b hb => ?_)
          obtain ⟨o, e, d⟩ := T.obj _ _ st5 b hb
          exact (pin7 b hb o e).2
        refine hb.run A Z _ R n ys z _ _ _ _ id id s6 σ6 H6 { D with nx := N, ct := N, bk := D.nx } gc6 hn ⟨fun n7 ys7 z7 s7 f hn7 hs => ?_, fun n7 z7 x s7 hx => ee n7 z7 x s7 hx⟩ G6 q6
        cases f with
        | next =>
          obtain ⟨σ7, H7, I7, q7⟩ := hs
          exact again hn7 I7 q7
        | cont =>
          obtain ⟨σ7, H7, I7, q7⟩ := hs
          exact again hn7 I7 q7
        | brk =>
          obtain ⟨σ7, H7, I7, q7⟩ := hs
          exact seg_leaf (.ok .next) (k.ok n7 ys7 z7 s7 .next hn7 ⟨σ7, H7, less I7, q7⟩)
        | ret v =>
          obtain ⟨x7, σ7, H7, I7, r7, q7⟩ := hs
          exact seg_leaf (.ok (.ret v)) (k.ok n7 ys7 z7 s7 (.ret v) hn7 ⟨x7, σ7, H7, less I7, r7, q7⟩)
  exact loop m0 0 n ys z s2 σ H2 hn w0 ⟨hz0, I2⟩ st2 fun b hb => (f2 b hb).1
end
/-- a promise of such a def: the arguments, the heap, what each item is to be, what the end is to be -/
abbrev SpN := List V → Hp → YdK → (List V → Hp → Prop) → Prop
/-- it is at its end: all that came out, what stands -/
def NFin (P : Program) (w : World) (outer : List Env) (H : Hp) (s : Shared) (Z : List Addr) (Q : List V → Hp → Prop) (n : Nat) (z s1 : Shared) : Prop :=
  ∃ H' ys, n + ys.length = sizeLine ∧ s1.os = s.os ∧ AllBare s1.gens ∧ Un (frs outer) [] H H' s.heap s1.heap ∧ HOk P w H' s1.heap ∧ (∀ b ∈ Z, H' b = none ∧ s1.heap.get? b = z.heap.get? b) ∧ Q ys H'
def NEnd (P : Program) (w : World) (outer : List Env) (H : Hp) (s : Shared) (Z : List Addr) (Q : List V → Hp → Prop) : GenEnd := fun n z r s1 =>
  ((r = .ok (.ret .none) ∨ r = .ok .next) ∧ NFin P w outer H s Z Q n z s1) ∨ ∃ e, r = .error e ∧ False
def NItem (P : Program) (w : World) (outer : List Env) (H : Hp) (s : Shared) (Z : List Addr) (a : Addr) (g : Nat) (Yd : YdK) : Protocol := fun n z v s1 kap =>
  ∃ H' ys x, n + 1 + ys.length = sizeLine ∧ RelV x v ∧ s1.os = s.os ∧ AllBare s1.gens ∧ s1.heap.NoLimit ∧ s1.heap.IsGen a g ∧ Un (frs outer) [] H H' s.heap s1.heap ∧ HOk P w H' s1.heap ∧ (∀ b ∈ Z, H' b = none ∧ s1.heap.get? b = z.heap.get? b) ∧ Yd ys x H' ∧
    ∀ s2, Nap Z s1 s2 → kap (.send .none) s2
def NMade (P : Program) (w : World) (k : Nat) (outer : List Env) (H : Hp) (s : Shared) (Yd : YdK) (Q : List V → Hp → Prop) (u : Value) (s' : Shared) : Prop :=
  ∃ (a : Addr) (g : Nat) (c : Code), u = .ref a ∧ s.heap.objs.size ≤ a ∧ a < s'.heap.objs.size ∧ s'.heap.IsGen a g ∧ s'.gens[g]? = some (.fresh c) ∧ s'.os = s.os ∧ AllBare s'.gens ∧ s'.heap.NoLimit ∧ (∀ b o, s.heap.get? b = some o → s'.heap.get? b = some o) ∧
    ∀ (A : Around) (Z : List Addr) (s2 : Shared), Room k A → A.frames = some outer → (∀ b ∈ Z, s'.heap.objs.size ≤ b ∧ ∃ o, s2.heap.get? b = some o ∧ ∀ v, o.data ≠ .cell v) → (∀ b o, s'.heap.get? b = some o → s2.heap.get? b = some o) → s2.os = s.os → AllBare s2.gens →
      Seg (model P w) A (NEnd P w outer H s Z Q) (NItem P w outer H s Z a g Yd) sizeLine s2 c ((model P w).den c) [] s2
structure NFn (P : Program) (w : World) (K : PySem.W.Frag) (mg : Str → Option Value) (base : Heap) (k : Nat) (f : Addr) (fd : FuncData) (ps : List Str) (sp : SpN) : Prop where
  len : ∀ vs H Yd Q, sp vs H Yd Q → vs.length = ps.length
  run : ∀ (A : Around) (outer : List Env) (s : Shared) (H : Hp) (args : Args) (us : List Value) (vs : List V) (Yd : YdK) (Q : List V → Hp → Prop), Room k A → Env0 P w K mg base A outer s H → BindsTo s fd args (ps.zip us) → Vals vs us → sp vs H Yd Q →
    codeAny (model P w) A (.call (.ref f) args) (fun r s' => match r with | .ok (.ret u) => NMade P w k outer H s Yd Q u s' | _ => False) s
theorem nfn_of {P : Program} {w : World} {K : PySem.W.Frag} {mg : Str → Option Value} {base : Heap} {k : Nat} {f : Addr} {name qual : Str} {params : Arguments} {body : List Stmt} {scope : Scope} {dV kV doc pm cdv ct oc : Value} {an od : Option Addr}
    {osl : Array (Option Value)} {N ps : List Str} {sp : SpN} (lk : K.lookup f = some ⟨oc, od, .func (PySem.W.fnOf name qual params body scope dV kV doc pm an cdv ct), osl⟩) (hcd : PySem.W.codeIn K cdv qual = true) (S : GScope N ps scope)
    (len : ∀ vs H Yd Q, sp vs H Yd Q → vs.length = ps.length)
    (hbody : ∀ (A : Around) (outer : List Env) (s : Shared) (H : Hp) (vs : List V) (Yd : YdK) (Q : List V → Hp → Prop) (pn : List (Addr × Obj)), Room k (A.deeper (envOfC qual scope s.heap.objs.size f cdv)) → sp vs H Yd Q →
      ∃ t, NSs (gcxOf P w K mg base N qual scope f cdv A outer s H E0 pn) Yd body t ∧ t { nx := fun ys _ H' => Q ys H', rt := fun ys v H' => v = .non ∧ Q ys H' } [] (start N vs) H) :
    NFn P w K mg base (k + 1) f (PySem.W.fnOf name qual params body scope dV kV doc pm an cdv ct) ps sp := by
  refine ⟨len, fun A outer s H args us vs Yd Q hr e0 hb r hsp => ?_⟩
  have hl := len _ _ _ _ hsp
  have KX : K.In s.heap := e0.mod.kin.keeps fun b o e => (e0.bs b o e).1
  have lim : s.heap.NoLimit := e0.mod.nolimit.keeps fun b o e => (e0.bs b o e).1
  have hkind : ∀ y ∈ ps.zip us, scope.names.lookup y.1 = some .local ∨ (scope.names.lookup y.1 = some .cell ∧ ((cellsFrom (s.heap.objs.size + 1) scope.names []).lookup y.1).isSome = true) := fun ⟨n, v⟩ hy => by
    rcases S.par n (List.of_mem_zip hy).1 with q | q
    · exact .inl q
    · exact .inr ⟨q, PySem.W.cellsFrom_some _ _ _ (.inl q)⟩
  refine codeAny_call_generator hr.depth (KX _ _ lk) rfl S.co S.gen rfl (PySem.W.codeRec_of KX hcd) (hb _ _ _ _ ?_)
  refine wpAny_newFunctionEnv_cells S.kind hkind fun env he s1 x => ?_
  subst he
  have lim1 : s1.heap.NoLimit := lim.keeps x.toInCall.keep
  refine ⟨lim1, ?_⟩
  obtain ⟨h1, tk, es1, hk1⟩ := x.done
  have os1 : s1.os = s.os := by rw [es1]
  have gen1 : s1.gens = s.gens := by rw [es1]
  have lt1 : s.heap.objs.size < s1.heap.objs.size := x.toInCall.ns.lt
  have sz1 : s.heap.objs.size ≤ s1.heap.objs.size := Nat.le_of_lt lt1
  have kp1 : ∀ b o, s.heap.get? b = some o → s1.heap.get? b = some o := x.toInCall.keep
  have main : ∀ (go : Obj) (nm qn : Value) (tk2 : Nat), go.cls = .type "generator" → go.data = .fields #[.int s1.gens.size 0, nm, qn] → go.slots = #[] → (∀ h : Heap, (h.push go).get? h.objs.size = some go) →
      NMade P w (k + 1) outer H s Yd Q (.ref s1.heap.objs.size) { s1 with gens := s1.gens.push (.fresh (.func body (envOfC qual scope s.heap.objs.size f cdv))), toks := tk2, heap := s1.heap.push go } := by
    intro go nm qn tk2 hgc hgd0 hgs hgp
    have hgen : ∀ h : Heap, h.get? s1.heap.objs.size = some go → h.IsGen s1.heap.objs.size s1.gens.size := fun h e => ⟨go, nm, qn, e, hgc, hgd0, hgs⟩
    have hpushed : (s1.heap.push go).get? s1.heap.objs.size = some go := hgp _
    refine ⟨s1.heap.objs.size, s1.gens.size, _, rfl, sz1, ?_, hgen _ hpushed, Array.getElem?_push_size .., os1, ?_, lim1.keeps fun b o e => Heap.get?_push_of_some _ e, fun b o e => Heap.get?_push_of_some _ (kp1 b o e), ?_⟩
    · show _ < (s1.heap.push _).objs.size
      rw [Heap.size_push]; exact Nat.lt_succ_self _
    · exact AllBare.push (by rw [gen1]; exact e0.bare) rfl
    intro Aw Z s2 hrw hfr hZ hk2 hos hba
    have e0w : Env0 P w K mg base Aw outer s H := ⟨hfr, e0.mod, e0.bs, e0.bsz, e0.funs, e0.frf, e0.hok, e0.bare⟩
    obtain ⟨t, ht, hq⟩ := hbody Aw outer s H vs Yd Q [(s1.heap.objs.size, go)] (hrw.deeper _) hsp
    have I1 : Inv (gcxOf P w K mg base N qual scope f cdv Aw outer s H E0 []) [] (start N vs) H s1 := inv_startG S hrw.hd e0w hl r x
    have kp2 : ∀ b o, s1.heap.get? b = some o → s2.heap.get? b = some o := fun b o e => hk2 b o (Heap.get?_push_of_some _ e)
    have I2 : Inv (gcxOf P w K mg base N qual scope f cdv Aw outer s H E0 []) [] (start N vs) H s2 :=
      I1.call' (ch := []) (hos.trans os1.symm) (Un.kept kp2) (I1.hok.kept kp2) hba fun b hb => by cases hb
    have hZlt : ∀ b ∈ Z, s1.heap.objs.size < b := fun b hb => by
      have h := (hZ b hb).1
      have h : (s1.heap.push go).objs.size ≤ b := h
      rw [Heap.size_push] at h
      exact h
    have hea : s2.heap.get? s1.heap.objs.size = some go := hk2 s1.heap.objs.size go hpushed
    have hgd : ∀ v, go.data ≠ .cell v := fun v q => by rw [hgd0] at q; cases q
    have young : ∀ b, s1.heap.objs.size ≤ b → H b = none ∧ b ≠ s.heap.objs.size ∧ b ∉ frs outer ∧ s.heap.objs.size ≤ b ∧ ∀ y c, (cellsFrom (s.heap.objs.size + 1) scope.names []).lookup y = some c → c ≠ b := fun b hb => by
      refine ⟨I1.hok.fresh hb, Nat.ne_of_gt (Nat.lt_of_lt_of_le lt1 hb), I1.nofs hb, Nat.le_trans sz1 hb, fun y c e z => ?_⟩
      obtain ⟨v, ob, ho, _⟩ := I1.cell y c e
      have := Heap.lt_size ho
      rw [z] at this
      exact absurd (Nat.lt_of_lt_of_le this hb) (Nat.lt_irrefl _)
    have I3 : Inv (gcxOf P w K mg base N qual scope f cdv Aw outer s H E0 [(s1.heap.objs.size, go)]) [] (start N vs) H s2 := Inv.pinnedG I2 fun q hq => by
      rcases List.mem_append.mp hq with hq | hq
      · rw [List.mem_singleton.mp hq]
        obtain ⟨y1, y2, y3, _, _⟩ := young s1.heap.objs.size (Nat.le_refl _)
        exact ⟨hea, y1, y2, y3, hgd⟩
      · cases hq
    have hW : AtW (gcxOf P w K mg base N qual scope f cdv Aw outer s H E0 [(s1.heap.objs.size, go)]) Z s2 [] (start N vs) H s2 := AtW.mk' I3 (fun b hb => (hZ b hb).2) fun b hb => by
      obtain ⟨y1, y2, y3, _, _⟩ := young b (Nat.le_of_lt (hZlt b hb))
      exact ⟨rfl, y1, y2, y3⟩
    have hpn : ∀ q ∈ [(s1.heap.objs.size, go)], q.1 ∉ Z := fun q hq hb => by
      rw [List.mem_singleton.mp hq] at hb
      exact absurd (hZlt _ hb) (Nat.lt_irrefl _)
    have far : FarOf (gcxOf P w K mg base N qual scope f cdv Aw outer s H E0 [(s1.heap.objs.size, go)]) Z := fun b hb => by
      obtain ⟨_, y2, _, y4, y5⟩ := young b (Nat.le_of_lt (hZlt b hb))
      exact ⟨y4, y2, y5⟩
    have pinned : ∀ {z : Shared} {ip : List (Addr × Obj)} {s3 : Shared} {σ3 : L2.St} {H3 : Hp}, AtW (gcxOf P w K mg base N qual scope f cdv Aw outer s H E0 [(s1.heap.objs.size, go)]) Z z ip σ3 H3 s3 → s3.heap.IsGen s1.heap.objs.size s1.gens.size := fun {z ip s3 σ3 H3} hI =>
      hgen _ (hI.inv.pin (s1.heap.objs.size, go) (List.mem_append_left _ (List.mem_singleton.mpr rfl))).1
    refine seg_func ?_
    refine seg_imp (R := NR (gcxOf P w K mg base N qual scope f cdv Aw outer s H E0 [(s1.heap.objs.size, go)]) Z (fun ys v H' => v = .non ∧ Q ys H') fun _ _ => False)
      (Y := NY (gcxOf P w K mg base N qual scope f cdv Aw outer s H E0 [(s1.heap.objs.size, go)]) Z Yd) (fun n z r s3 hR => ?_) (fun n z v s3 kap kap' hkk hY => ?_) sizeLine ?_
    · cases r with
      | error e => exact False.elim hR
      | ok fl =>
        cases fl with
        | next => exact False.elim hR
        | brk => exact False.elim hR
        | cont => exact False.elim hR
        | ret u =>
          obtain ⟨ys, v, ip, σ3, H3, hn, hI, rv, ev, hQ⟩ := hR
          subst ev
          have eu : u = Value.none := rv
          subst eu
          exact .inl ⟨.inl rfl, H3, ys, hn, hI.inv.os, hI.inv.bare, hI.inv.base, hI.inv.hok, fun b hb => ⟨(hI.at hb).2.1, (hI.at hb).1⟩, hQ⟩
    · obtain ⟨ys, xx, ip, σ3, H3, hn, h2, hI, hyd, h3⟩ := hY
      exact ⟨H3, ys, xx, hn, h2, hI.inv.os, hI.inv.bare, hI.inv.nolimit, pinned hI, hI.inv.base, hI.inv.hok, fun b hb => ⟨(hI.at hb).2.1, (hI.at hb).1⟩, hyd, fun s4 nap => hkk _ _ (h3 s4 nap)⟩
    · refine ht.run Aw Z [] _ sizeLine [] s2 _ [] _ _ id id s2 (start N vs) H _ ⟨hpn, fun q hq => (by cases hq), far, over_func, rfl, rfl, rfl⟩ (Nat.add_zero _) ⟨fun n ys z s3 fl hn hs => ?_, fun n z e s3 hx => ?_⟩ hW hq
      · cases fl with
        | next =>
          obtain ⟨σ3, H3, hI, hQ⟩ := hs
          exact seg_end (.ok (.ret .none)) ⟨ys, .non, [], σ3, H3, hn, hI, rfl, rfl, hQ⟩
        | brk => obtain ⟨_, _, _, q⟩ := hs; exact False.elim q
        | cont => obtain ⟨_, _, _, q⟩ := hs; exact False.elim q
        | ret u =>
          obtain ⟨v, σ3, H3, hI, rv, ev, hQ⟩ := hs
          exact seg_end (.ok (.ret u)) ⟨ys, v, [], σ3, H3, hn, hI, rv, ev, hQ⟩
      · refine seg_wrap ?_
        rw [over_func]
        refine wpAny_mono (show wpAny (model P w) (Aw.deeper (envOfC qual scope s.heap.objs.size f cdv)) (leaving (envOfC qual scope s.heap.objs.size f cdv) e) (fun _ s4 => CX P w outer H s E0 e s4 ∧ ∀ p ∈ [(s1.heap.objs.size, go)], s4.heap.get? p.1 = some p.2) (fun _ _ => False) s3 from hx) (fun _ s4 q => ?_) fun _ s4 q => q.elim
        obtain ⟨⟨_, _, _, _, _, _, _, _, _, _, _, _, q⟩, _⟩ := q
        exact q.elim
  exact main _ _ _ _ rfl rfl rfl fun h => Heap.get?_push_size _ rfl
/-- such a def, by its body -/
theorem nap_ok {P : Program} {w : World} {K : PySem.W.Frag} {mg : Str → Option Value} {base : Heap} {x qual : Str} {st : Stmt} {f : Addr} {fd : FuncData} {N ps : List Str} {k : Nat} {sp : SpN} (F : L2.Fun K x qual st f fd) (S : GScope N ps (defScope st)) (len : ∀ vs H Yd Q, sp vs H Yd Q → vs.length = ps.length)
    (hbody : ∀ (cdv : Value) (A : Around) (outer : List Env) (s : Shared) (H : Hp) (vs : List V) (Yd : YdK) (Q : List V → Hp → Prop) (pn : List (Addr × Obj)), Room k (A.deeper (envOfC qual (defScope st) s.heap.objs.size f cdv)) → sp vs H Yd Q →
      ∃ t, NSs (gcxOf P w K mg base N qual (defScope st) f cdv A outer s H E0 pn) Yd (defBody st) t ∧ t { nx := fun ys _ H' => Q ys H', rt := fun ys v H' => v = .non ∧ Q ys H' } [] (start N vs) H) : NFn P w K mg base (k + 1) f fd ps sp := by
  obtain ⟨oc, od, kV, doc, pm, an, cdv, ct, osl, rfl, lk, hcd⟩ := F.ex
  exact nfn_of lk hcd S len fun A outer s H vs Yd Q pn hr hsp => hbody cdv A outer s H vs Yd Q pn hr hsp
structure NCal (P : Program) (w : World) (K : PySem.W.Frag) (mg : Str → Option Value) (base : Heap) (k : Nat) (x : Str) (sp : SpN) : Prop where
  ex : ∃ (f : Addr) (fd : FuncData) (ps : List Str), NFn P w K mg base k f fd ps sp ∧ mg x = some (.ref f) ∧ PySem.W.keepIn K (.ref f) = true ∧ Binds K fd ps []
end Gc

/-! texts and cursors of the laws k02 to k05, k43 -/
namespace Gc
open PySem L2
abbrev s_text : Stmt := top 32
abbrev s_cursor : Stmt := top 33
structure TxtSh (mg : Str → Option Value) : Prop where
  range : mg "range" = none
  len : mg "len" = none
  int : mg "int" = none
def spSheet (K : PySem.W.Frag) : Sp := fun vs H Q _ => ∃ (a d : Addr) (n : Nat) (most : Int), vs = [.ref a, .int most] ∧ Src H a d n ∧ n < 2 ^ 37 ∧ 1 ≤ most ∧ most ≤ 60 ∧
  ∀ (H' : Hp) (p : Addr) (T : List Int), Keep a d H H' → Src H' a d (n + 200) → p ≠ a → p ≠ d → H p = none → H' p = some (.lst (T.map V.int)) → (∀ x ∈ T, 0 ≤ x ∧ x < 10 ^ 30 - 98) → 1 ≤ T.length → (T.length : Int) ≤ most → Q (.ref p) H'
def spCurs (K : PySem.W.Frag) : Sp := fun vs H Q _ => ∃ (a d t : Addr) (n : Nat) (T : List Int), vs = [.ref a, .ref t] ∧ Src H a d n ∧ n < 2 ^ 37 ∧ H t = some (.lst (T.map V.int)) ∧ t ≠ a ∧ t ≠ d ∧ (∀ x ∈ T, 0 ≤ x ∧ x < 10 ^ 30 + 50) ∧ 1 ≤ T.length ∧ T.length ≤ 60 ∧
  ∀ (H' : Hp) (p : Addr) (r : Int) (g : Option Int), Keep a d H H' → Src H' a d (n + 10) → H' p = some (.tup [.int r, optV g]) → 0 ≤ r → r < T.length → (∀ x, g = some x → 0 ≤ x ∧ x ≤ 10 ^ 30 + 100 ∧ ((∀ y ∈ T, y < 10 ^ 30 - 98) → x < 10 ^ 30)) → Q (.ref p) H'
theorem at_lenS {T : List Int} {r : Int} (h0 : 0 ≤ r) (h1 : r < T.length) : ∃ x ∈ T, atI (T.map V.int) r = some (.int x) := by
  have l : r.toNat < T.length := by omega
  refine ⟨T[r.toNat], List.getElem_mem l, at_of (j := r.toNat) (by omega) ?_⟩
  rw [List.getElem?_map, List.getElem?_eq_getElem l]
  rfl
section
variable {P : Program} {w : World} {K : PySem.W.Frag} {mg : Str → Option Value} {base : Heap}
theorem sc_law_text : FnScope ["source", "most", "wide", "row"] ["source", "most"] (defScope s_text) := ⟨rfl, rfl, rfl, by decide +kernel, rfl, by decide +kernel, by decide +kernel⟩
theorem ok_sheet {f : Addr} {fd : FuncData} (F : Fun K "_law_text" "_law_text" s_text f fd) (T : TxtSh mg) (c_law_draw : Cal P w K mg base 1 "_law_draw" spDraw) : FnOk P w K mg base CX0 2 f fd ["source", "most"] (spSheet K) := by
  refine F.ok sc_law_text (fun vs H Q E h => ?_) (fun cdv A outer s H vs Q E hr h => ?_)
  · obtain ⟨a, d, n, most, rfl, _⟩ := h
    rfl
  · obtain ⟨a, d, n, most, rfl, hs, hn, m0, m1, k⟩ := h
    refine ⟨_, (pss_cons (ps_set (i := 2) sc_law_text.nd rfl (Or.inr rfl) (pe_ix ix_list (pe_lst (pa_cons pe_int (pa_cons pe_int (pa_cons pe_int (pa_cons pe_int (pa_cons (pe_op op_sub (pe_op op_pow pe_int pe_int) pe_int) pa_nil)))))) (pe_cal c_law_draw hr (by decide) (by rfl) (pa_cons (pv 0) (pa_cons pe_int pa_nil))) (fun _ _ => rfl)))
      (pss_one (ps_ret (pe_lc (own := [("row", 3)]) rfl sc_law_text.nd (pi_range1 rfl T.range (pa_cons (pe_op op_add pe_int (pe_cal c_law_draw hr (by decide) (by rfl) (pa_cons (pv 0) (pa_cons (pv 1) pa_nil)))) pa_nil)) (blkOk_by (N := ["source", "most", "wide", "row"]) (sc := defScope s_text) (by decide +kernel)) (fun _ _ _ _ _ => (pg_name (i := 3) sc_law_text.nd rfl (Or.inl rfl))) (fun _ _ _ _ _ => pts_nil) (fun _ _ _ _ _ => (pe_op op_mulW (pe_cal c_law_draw hr (by decide) (by rfl) (pa_cons (pv 0) (pa_cons (pe_op op_add (pv 2) pe_int) pa_nil))) (pe_callTy call_int1 (by rfl) T.int (by decide +kernel) (pa_cons (pe_cmpR op_gt (pe_cal c_law_draw hr (by decide) (by rfl) (pa_cons (pv 0) (pa_cons pe_int pa_nil))) pe_int (nomark _)) pa_nil)))))))), ?_⟩
    refine ⟨_, _, rfl, rfl, cpow (by decide), _, _, rfl, rfl, (by show 5 ≤ sizeLine; decide), fun p hp => ?_⟩
    obtain ⟨pa, pd⟩ := hs.off hp
    have e_H1 : Same H (upd H p (.lst [V.int 2, .int 5, .int 12, .int 400, .int (10 ^ (30 : Int).toNat - 99)])) := new_same hp
    have h_p : (upd H p (.lst [V.int 2, .int 5, .int 12, .int 400, .int (10 ^ (30 : Int).toNat - 99)])) p = some (.lst [V.int 2, .int 5, .int 12, .int 400, .int (10 ^ (30 : Int).toNat - 99)]) := upd_same
    generalize upd H p (.lst [V.int 2, .int 5, .int 12, .int 400, .int (10 ^ (30 : Int).toNat - 99)]) = H1 at e_H1 h_p ⊢
    replace hs := hs.same e_H1
    refine ⟨_, rfl, a, d, n, 5, rfl, hs, by omega, by decide, by decide, fun H2 r kp2 s2 r0 r1 => ?_⟩
    obtain ⟨wd, hw, w1, w2⟩ : ∃ m : Int, atI [V.int 2, .int 5, .int 12, .int 400, .int (10 ^ (30 : Int).toNat - 99)] r = some (.int m) ∧ 2 ≤ m ∧ m ≤ 10 ^ 30 - 99 := by
      rcases (show r = 0 ∨ r = 1 ∨ r = 2 ∨ r = 3 ∨ r = 4 by omega) with rfl | rfl | rfl | rfl | rfl
      · exact ⟨2, rfl, by decide, by decide⟩
      · exact ⟨5, rfl, by decide, by decide⟩
      · exact ⟨12, rfl, by decide, by decide⟩
      · exact ⟨400, rfl, by decide, by decide⟩
      · exact ⟨_, rfl, by decide, by decide⟩
    refine ⟨p, _, r, .int wd, rfl, rfl, SqL.of (kp2 _ _ pa pd h_p), hw, ?_⟩
    have k2 := (Keep.of (a := a) (d := d) e_H1).trans kp2
    refine ⟨_, rfl, _, rfl, a, d, _, _, rfl, s2, by omega, by omega, log9 (a := 20) (by omega) (by decide), fun H3 m kp3 s3 m30 m31 => ⟨_, _, rfl, rfl, _, rfl, by omega, by omega, fun D hD => ?_⟩⟩
    obtain ⟨Da, Dd⟩ := s3.off hD
    have k3 := k2.trans kp3
    refine lc_range (lo := 0) (fun i H' => ∃ tx : List Int, Keep a d H3 H' ∧ Src H' a d (n + 2 + 2 * i) ∧ H' D = some (.lst (tx.map V.int)) ∧ tx.length = i ∧ ∀ x ∈ tx, 0 ≤ x ∧ x < 10 ^ 30 - 98)
      ⟨[], (Keep.refl H3).new hD, (s3.same (new_same hD)).more (by omega), upd_same, rfl, (fun _ h => nomatch h)⟩ (fun i H' hi h => ?_) (fun H' h => ?_)
    · obtain ⟨tx, kp, sr, hd, tl, tb⟩ := h
      refine ⟨rfl, ?_⟩
      refine ⟨_, rfl, _, rfl, _, _, rfl, rfl, a, d, _, _, rfl, sr, by omega, by omega, log9 (a := 110) (by omega) (by decide), fun H5 x kp5 s5 x0 x1 => ?_⟩
      refine ⟨_, rfl, a, d, _, 6, rfl, s5, by omega, by decide, by decide, fun H6 y kp6 s6 y0 y1 => ⟨_, _, rfl, rfl, .inr ⟨_, rfl, _, _, rfl, rfl, wide_mul (a := 110) (b := 2) (by omega) (by split <;> decide) (by decide) (by decide) (by decide), ?_⟩⟩⟩
      have z01 : 0 ≤ x * (if decide (y > 0) = true then 1 else 0) ∧ x * (if decide (y > 0) = true then 1 else 0) < 10 ^ 30 - 98 := by
        split <;> omega
      obtain ⟨z, hz⟩ : ∃ z, z = x * (if decide (y > 0) = true then 1 else 0) := ⟨_, rfl⟩
      rw [← hz] at z01
      have hd6 := kp6 _ _ Da Dd (kp5 _ _ Da Dd hd)
      refine ⟨_, hd6, lt_line (by rw [List.length_map]; omega), tx ++ [z], fun b o n1 n2 hb => ?_, (s6.upd Da Dd).more (by omega), ?_, ?_, ?_⟩
      · rw [upd_ne (ne_of_none hb hD)]
        exact kp6 _ _ n1 n2 (kp5 _ _ n1 n2 (kp _ _ n1 n2 hb))
      · rw [upd_same, List.map_append]
        show some (HO.lst (_ ++ [V.int (x * (if decide (y > 0) = true then 1 else 0))])) = _
        rw [← hz]
        rfl
      · rw [List.length_append, tl]
        rfl
      · intro q hq
        rcases List.mem_append.mp hq with h | h
        · exact tb q h
        · rw [List.mem_singleton.mp h]
          exact z01
    · obtain ⟨tx, kp, sr, hd, tl, tb⟩ := h
      exact k H' D tx (k3.trans kp) (sr.more (by omega)) Da Dd (k3.free Da Dd hD) hd tb (by omega) (by omega)
theorem sc_law_cursor : FnScope ["source", "sheet", "row", "some"] ["source", "sheet"] (defScope s_cursor) := ⟨rfl, rfl, rfl, by decide +kernel, rfl, by decide +kernel, by decide +kernel⟩
theorem ok_curs {f : Addr} {fd : FuncData} (F : Fun K "_law_cursor" "_law_cursor" s_cursor f fd) (T : TxtSh mg) (c_law_draw : Cal P w K mg base 1 "_law_draw" spDraw) : FnOk P w K mg base CX0 2 f fd ["source", "sheet"] (spCurs K) := by
  refine F.ok sc_law_cursor (fun vs H Q E h => ?_) (fun cdv A outer s H vs Q E hr h => ?_)
  · obtain ⟨a, d, t, n, tx, rfl, _⟩ := h
    rfl
  · obtain ⟨a, d, t, n, tx, rfl, hs, hn, ht, ta, td, tb, t1, t60, k⟩ := h
    refine ⟨_, (pss_cons (ps_set (i := 2) sc_law_cursor.nd rfl (Or.inl rfl) (pe_cal c_law_draw hr (by decide) (by rfl) (pa_cons (pv 0) (pa_cons (pe_callB call_len_seq (by rfl) T.len (by decide +kernel) (pa_cons (pv 1) pa_nil)) pa_nil))))
      (pss_cons (ps_set (i := 3) sc_law_cursor.nd rfl (Or.inl rfl) (pe_lst (pa_cons (pe_cal c_law_draw hr (by decide) (by rfl) (pa_cons (pv 0) (pa_cons (pe_op op_add (pe_ix ix_list (pv 1) (pv 2) (fun _ _ => rfl)) pe_int) pa_nil))) (pa_cons (pe_ix ix_list (pv 1) (pv 2) (fun _ _ => rfl)) (pa_cons (pe_op op_add (pe_op op_add (pe_ix ix_list (pv 1) (pv 2) (fun _ _ => rfl)) pe_int) (pe_cal c_law_draw hr (by decide) (by rfl) (pa_cons (pv 0) (pa_cons pe_int pa_nil)))) (pa_cons pe_non (pa_cons pe_int pa_nil)))))))
      (pss_one (ps_ret (pe_tup (pa_cons (pv 2) (pa_cons (pe_ix ix_list (pe_op op_cat (pv 3) (pe_lst (pa_cons (pe_cal c_law_draw hr (by decide) (by rfl) (pa_cons (pv 0) (pa_cons (pe_op op_pow pe_int pe_int) pa_nil))) pa_nil))) (pe_cal c_law_draw hr (by decide) (by rfl) (pa_cons (pv 0) (pa_cons pe_int pa_nil))) (fun _ _ => rfl)) pa_nil))))))), ?_⟩
    refine ⟨_, rfl, _, rfl, t, _, rfl, .inl (SqL.of ht), a, d, n, _, rfl, hs, by omega, by rw [List.length_map]; omega, log9 (a := 20) (by rw [List.length_map]; omega) (by decide), fun H1 r kp1 s1 r0 r1 => ?_⟩
    rw [List.length_map] at r1
    replace ht := kp1 _ _ ta td ht
    obtain ⟨x, hx, hxa⟩ := at_lenS r0 r1
    obtain ⟨x0, x1⟩ := tb x hx
    refine ⟨_, rfl, _, rfl, _, rfl, t, _, r, .int x, rfl, rfl, SqL.of ht, hxa, _, _, rfl, rfl, a, d, _, _, rfl, s1, by omega, by omega, log9 (a := 110) (by omega) (by decide), fun H2 y kp2 s2 y0 y1 => ?_⟩
    replace ht := kp2 _ _ ta td ht
    refine ⟨_, rfl, _, rfl, t, _, r, .int x, rfl, rfl, SqL.of ht, hxa, ?_⟩
    refine ⟨_, rfl, _, rfl, t, _, r, .int x, rfl, rfl, SqL.of ht, hxa, _, _, rfl, rfl, _, rfl, a, d, _, 9, rfl, s2, by omega, by decide, by decide, fun H3 u kp3 s3 u0 u1 => ⟨_, _, rfl, rfl, (by show 5 ≤ sizeLine; decide), fun q nq => ?_⟩⟩
    obtain ⟨qa, qd⟩ := s3.off nq
    have e_H4 : Same H3 (upd H3 q (.lst [V.int y, .int x, .int (x + 1 + u), .non, .int 0])) := new_same nq
    have h_q : (upd H3 q (.lst [V.int y, .int x, .int (x + 1 + u), .non, .int 0])) q = some (.lst [V.int y, .int x, .int (x + 1 + u), .non, .int 0]) := upd_same
    generalize upd H3 q (.lst [V.int y, .int x, .int (x + 1 + u), .non, .int 0]) = H4 at e_H4 h_q ⊢
    replace s3 := s3.same e_H4
    refine ⟨_, rfl, _, rfl, _, rfl, _, _, rfl, rfl, cpow (by decide), a, d, _, _, rfl, s3, by omega, by decide, by decide, fun H5 v kp5 s5 v0 v1 => ⟨(by show 1 ≤ sizeLine; decide), fun q2 nq2 => ?_⟩⟩
    have v1' : v < 10 ^ 30 := v1
    replace h_q := kp5 _ _ qa qd h_q
    have e_H6 : Same H5 (upd H5 q2 (.lst [V.int v])) := new_same nq2
    have h_q2 : (upd H5 q2 (.lst [V.int v])) q2 = some (.lst [V.int v]) := upd_same
    generalize upd H5 q2 (.lst [V.int v]) = H6 at e_H6 h_q2 ⊢
    replace s5 := s5.same e_H6
    replace h_q := e_H6 _ _ h_q
    refine ⟨q, q2, _, _, rfl, rfl, h_q, h_q2, (by show 5 + 1 ≤ sizeLine; decide), fun q3 nq3 => ?_⟩
    obtain ⟨qa3, qd3⟩ := s5.off nq3
    have e_H7 : Same H6 (upd H6 q3 (.lst ([V.int y, .int x, .int (x + 1 + u), .non, .int 0] ++ [V.int v]))) := new_same nq3
    have h_q3 : (upd H6 q3 (.lst ([V.int y, .int x, .int (x + 1 + u), .non, .int 0] ++ [V.int v]))) q3 = some (.lst ([V.int y, .int x, .int (x + 1 + u), .non, .int 0] ++ [V.int v])) := upd_same
    generalize upd H6 q3 (.lst ([V.int y, .int x, .int (x + 1 + u), .non, .int 0] ++ [V.int v])) = H7 at e_H7 h_q3 ⊢
    replace s5 := s5.same e_H7
    refine ⟨_, rfl, a, d, _, 6, rfl, s5, by omega, by decide, by decide, fun H8 z kp8 s8 z0 z1 => ?_⟩
    obtain ⟨g, hg, hgb⟩ : ∃ g : Option Int, atI ([V.int y, .int x, .int (x + 1 + u), .non, .int 0] ++ [V.int v]) z = some (optV g) ∧ ∀ b, g = some b → 0 ≤ b ∧ b ≤ 10 ^ 30 + 100 ∧ ((∀ y ∈ tx, y < 10 ^ 30 - 98) → b < 10 ^ 30) := by
      rcases (show z = 0 ∨ z = 1 ∨ z = 2 ∨ z = 3 ∨ z = 4 ∨ z = 5 by omega) with rfl | rfl | rfl | rfl | rfl | rfl
      · exact ⟨some y, rfl, fun b e => by cases e; exact ⟨by omega, by omega, fun h => by have := h x hx; omega⟩⟩
      · exact ⟨some x, rfl, fun b e => by cases e; exact ⟨by omega, by omega, fun h => by have := h x hx; omega⟩⟩
      · exact ⟨some (x + 1 + u), rfl, fun b e => by cases e; exact ⟨by omega, by omega, fun h => by have := h x hx; omega⟩⟩
      · exact ⟨none, rfl, fun b e => nomatch e⟩
      · exact ⟨some 0, rfl, fun b e => by cases e; exact ⟨by decide, by decide, fun _ => by decide⟩⟩
      · exact ⟨some v, rfl, fun b e => by cases e; exact ⟨by omega, by omega, fun _ => by omega⟩⟩
    refine ⟨q3, _, z, _, rfl, rfl, SqL.of (kp8 _ _ qa3 qd3 h_q3), hg, (by show 2 ≤ sizeLine; decide), fun pr npr => ?_⟩
    have kall : Keep a d H H8 := ((((((kp1.trans kp2).trans kp3).trans (Keep.of e_H4)).trans kp5).trans (Keep.of e_H6)).trans (Keep.of e_H7)).trans kp8
    exact k _ pr r g (kall.new npr) ((s8.same (new_same npr)).more (by omega)) upd_same r0 r1 hgb
end
end Gc

/-! the laws' own moving, one command; column -/
namespace Gc
open PySem L2
abbrev s_lshown : Stmt := top 34
abbrev s_lmoved : Stmt := top 35
abbrev s_column : Stmt := top 18
structure TxtMv (mg : Str → Option Value) : Prop where
  int : mg "int" = none
  len : mg "len" = none
def spLShown (K : PySem.W.Frag) : Sp := fun vs H Q _ => ∃ (t b : Addr) (T : List Int) (r : Int) (g : Option Int), vs = [.ref t, .ref b] ∧ SqL K H t (T.map V.int) ∧ SqT K H b [.int r, optV g] ∧ 0 ≤ r ∧ r < T.length ∧ Q (.int (seen (lenAt T r) g)) H
def spLMoved (K : PySem.W.Frag) : Sp := fun vs H Q _ => ∃ (t b : Addr) (v : V) (T : List Int) (r : Int) (g : Option Int) (c : Cmd), vs = [.ref t, .ref b, v] ∧ SqL K H t (T.map V.int) ∧ SqT K H b [.int r, optV g] ∧ CmdAt K H v c ∧ 0 ≤ r ∧ r < T.length ∧ c.ok ∧ numC c < 10 ^ 40 ∧
  (stepP T r g c = none → ∀ H', Same H H' → Q .non H') ∧ ∀ r' g', stepP T r g c = some (r', g') → ∀ (H' : Hp) (p : Addr), Same H H' → H p = none → H' p = some (.tup [.int r', optV g']) → Q (.ref p) H'
def spColumn (K : PySem.W.Frag) : Sp := fun vs H Q _ => ∃ (t b : Addr) (T : List Int) (r : Int) (g : Option Int), vs = [.ref t, .ref b] ∧ SqL K H t (T.map V.int) ∧ SqT K H b [.int r, optV g] ∧ (∀ x ∈ T, 0 ≤ x) ∧ 0 ≤ r ∧ r < T.length ∧ ge g 0 ∧ ∀ H', Same H H' → Q (.int (seen (lenAt T r) g)) H'
theorem at_tM {u v : V} {b : Bool} (h : b = true) : atI [u, v] (if b = true then (1 : Int) else 0) = some v := by
  subst h
  rfl
theorem at_fM {u v : V} {b : Bool} (h : b = false) : atI [u, v] (if b = true then (1 : Int) else 0) = some u := by
  subst h
  rfl
section
variable {P : Program} {w : World} {K : PySem.W.Frag} {mg : Str → Option Value} {base : Heap}
theorem sc_law_shown : FnScope ["sheet", "spot", "row", "goal"] ["sheet", "spot"] (defScope s_lshown) := ⟨rfl, rfl, rfl, by decide +kernel, rfl, by decide +kernel, by decide +kernel⟩
theorem ok_lshown {f : Addr} {fd : FuncData} (F : Fun K "_law_shown" "_law_shown" s_lshown f fd) : FnOk P w K mg base CX0 1 f fd ["sheet", "spot"] (spLShown K) := by
  refine F.ok sc_law_shown (fun vs H Q E h => ?_) (fun cdv A outer s H vs Q E hr h => ?_)
  · obtain ⟨t, b, tx, r, g, rfl, _⟩ := h
    rfl
  · obtain ⟨t, b, tx, r, g, rfl, ht, hb, r0, r1, k⟩ := h
    refine ⟨_, (pss_cons (ps_asg (pv 1) (pg_tup rfl (pgs_cons (pg_name (i := 2) sc_law_shown.nd rfl (Or.inl rfl)) (pgs_cons (pg_name (i := 3) sc_law_shown.nd rfl (Or.inl rfl)) pgs_nil))))
      (pss_cons (ps_if (PW.pt (pw_or (pt_cmpR op_isN (pv 3) pe_non (nomark _)) (pw_or1 (pt_cmpR op_gt (pv 3) (pe_ix ix_list (pv 0) (pv 2) (fun _ _ => rfl)) (nomark _))))) (pss_one (ps_ret (pe_ix ix_list (pv 0) (pv 2) (fun _ _ => rfl)))) pss_nil)
      (pss_one (ps_ret (pv 3))))), ?_⟩
    refine ⟨_, rfl, b, _, rfl, hb, rfl, _, _, rfl, _, _, rfl, rfl, ?_⟩
    have al := at_len' r0 r1
    cases g with
    | none =>
      refine ⟨_, rfl, rfl, _, rfl, iteT ?_⟩
      exact ⟨_, rfl, _, rfl, t, _, r, _, rfl, rfl, ht, al, k⟩
    | some x =>
      refine ⟨_, rfl, rfl, _, rfl, iteF ?_⟩
      refine ⟨_, rfl, _, rfl, _, rfl, t, _, r, _, rfl, rfl, ht, al, _, _, rfl, rfl, _, rfl, ite2 (fun c => ?_) (fun c => ?_)⟩
      · have c' : x > lenAt tx r := of_decide_eq_true c
        refine ⟨_, rfl, _, rfl, t, _, r, _, rfl, rfl, ht, al, ?_⟩
        have e : seen (lenAt tx r) (some x) = lenAt tx r := by show min x _ = _; omega
        rw [e] at k
        exact k
      · have c' : ¬ x > lenAt tx r := fun z => c (decide_eq_true z)
        have e : seen (lenAt tx r) (some x) = x := by show min x _ = _; omega
        rw [e] at k
        exact ⟨_, rfl, k⟩
theorem sc_column : FnScope ["text", "cursor", "row", "goal"] ["text", "cursor"] (defScope s_column) := ⟨rfl, rfl, rfl, by decide +kernel, rfl, by decide +kernel, by decide +kernel⟩
theorem ok_column {f : Addr} {fd : FuncData} (F : Fun K "column" "column" s_column f fd) (T : TxtMv mg) (c_check_text : Cal P w K mg base 1 "check_text" (spText K)) (c_check_cursor : Cal P w K mg base 1 "check_cursor" (spCursor K)) (c_shown_column : Cal P w K mg base 1 "shown_column" spShown) :
    FnOk P w K mg base CX0 2 f fd ["text", "cursor"] (spColumn K) := by
  refine F.ok sc_column (fun vs H Q E h => ?_) (fun cdv A outer s H vs Q E hr h => ?_)
  · obtain ⟨t, b, tx, r, g, rfl, _⟩ := h
    rfl
  · obtain ⟨t, b, tx, r, g, rfl, ht, hb, nn, r0, r1, g0, k⟩ := h
    refine ⟨_, (pss_cons (ps_expr (pe_cal c_check_text hr (by decide) (by rfl) (pa_cons (pv 0) pa_nil)))
      (pss_cons (ps_expr (pe_cal c_check_cursor hr (by decide) (by rfl) (pa_cons (pe_callB call_len_seq (by rfl) T.len (by decide +kernel) (pa_cons (pv 0) pa_nil)) (pa_cons (pv 1) pa_nil))))
      (pss_cons (ps_asg (pv 1) (pg_tup rfl (pgs_cons (pg_name (i := 2) sc_column.nd rfl (Or.inl rfl)) (pgs_cons (pg_name (i := 3) sc_column.nd rfl (Or.inl rfl)) pgs_nil))))
      (pss_one (ps_ret (pe_cal c_shown_column hr (by decide) (by rfl) (pa_cons (pe_ix ix_list (pv 0) (pv 2) (fun _ _ => rfl)) (pa_cons (pv 3) pa_nil)))))))), ?_⟩
    refine ⟨_, rfl, t, tx, rfl, ht, (by intro z; subst z; simp at r1; omega), nn, fun H1 e1 => ?_⟩
    refine ⟨_, rfl, t, _, rfl, .inl (e1.seq ht), _, rfl, (tx.map V.int).length, r, g, b, rfl, seq_t e1 hb, r0, by rw [List.length_map]; exact r1, g0, ?_⟩
    refine ⟨_, rfl, b, _, rfl, seq_t e1 hb, rfl, _, _, rfl, _, _, rfl, rfl, ?_⟩
    exact ⟨_, rfl, _, rfl, t, _, r, _, rfl, rfl, e1.seq ht, at_len' r0 r1, _, rfl, lenAt tx r, g, rfl, k _ e1⟩
theorem sc_law_moved : FnScope ["sheet", "spot", "command", "row", "goal", "name", "later", "here"] ["sheet", "spot", "command"] (defScope s_lmoved) := ⟨rfl, rfl, rfl, by decide +kernel, rfl, by decide +kernel, by decide +kernel⟩
theorem ok_lmoved {f : Addr} {fd : FuncData} (F : Fun K "_law_moved" "_law_moved" s_lmoved f fd) (T : TxtMv mg) (c_law_shown : Cal P w K mg base 1 "_law_shown" (spLShown K)) : FnOk P w K mg base CX0 2 f fd ["sheet", "spot", "command"] (spLMoved K) := by
  refine F.ok sc_law_moved (fun vs H Q E h => ?_) (fun cdv A outer s H vs Q E hr h => ?_)
  · obtain ⟨t, b, v, tx, r, g, c, rfl, _⟩ := h
    rfl
  · obtain ⟨t, b, v, tx, r, g, c, rfl, ht, hb, ⟨ka, rfl, hk⟩, r0, r1, hcok, nb, kn, ks⟩ := h
    refine ⟨_, (pss_cons (ps_asg (pv 1) (pg_tup rfl (pgs_cons (pg_name (i := 3) sc_law_moved.nd rfl (Or.inl rfl)) (pgs_cons (pg_name (i := 4) sc_law_moved.nd rfl (Or.inl rfl)) pgs_nil))))
      (pss_cons (ps_set (i := 5) sc_law_moved.nd rfl (Or.inl rfl) (pe_ix ix_tup (pv 2) pe_int (fun _ _ => rfl)))
      (pss_cons (ps_if (pt_cmpR op_in_seq (pv 5) (pe_tup (pa_cons pe_str (pa_cons pe_str pa_nil))) (by rfl)) (pss_cons (ps_set (i := 6) sc_law_moved.nd rfl (Or.inl rfl) (pe_op op_add (pv 3) (pe_op op_mulW (pe_ix ix_tup (pv 2) pe_int (fun _ _ => rfl)) (pe_ix ix_list (pe_lst (pa_cons pe_int (pa_cons (pe_un un_neg pe_int) pa_nil))) (pe_callTy call_int1 (by rfl) T.int (by decide +kernel) (pa_cons (pe_cmpR op_eq (pv 5) pe_str (nomark _)) pa_nil)) (fun _ _ => rfl)))))
      (pss_one (ps_ret (pe_ifExp (pt_chain op_le op_lt pe_int (pv 6) (pe_callB call_len_seq (by rfl) T.len (by decide +kernel) (pa_cons (pv 0) pa_nil))) (pe_tup (pa_cons (pv 6) (pa_cons (pv 4) pa_nil))) pe_non)))) pss_nil)
      (pss_cons (ps_if (pt_cmpR op_eq (pv 5) pe_str (nomark _)) (pss_one (ps_ret (pe_tup (pa_cons (pv 3) (pa_cons pe_int pa_nil))))) pss_nil)
      (pss_cons (ps_if (pt_cmpR op_eq (pv 5) pe_str (nomark _)) (pss_one (ps_ret (pe_tup (pa_cons (pv 3) (pa_cons pe_non pa_nil))))) pss_nil)
      (pss_cons (ps_set (i := 7) sc_law_moved.nd rfl (Or.inl rfl) (pe_cal c_law_shown hr (by decide) (by rfl) (pa_cons (pv 0) (pa_cons (pv 1) pa_nil))))
      (pss_cons (ps_if (pt_cmpR op_eq (pv 5) pe_str (nomark _)) (pss_one (ps_ret (pe_tup (pa_cons (pv 3) (pa_cons (pe_ifExp (pt_cmpR op_lt (pe_op op_sub (pe_ix ix_list (pv 0) (pv 3) (fun _ _ => rfl)) (pv 7)) (pe_ix ix_tup (pv 2) pe_int (fun _ _ => rfl)) (nomark _)) (pe_ix ix_list (pv 0) (pv 3) (fun _ _ => rfl)) (pe_op op_add (pv 7) (pe_ix ix_tup (pv 2) pe_int (fun _ _ => rfl)))) pa_nil))))) pss_nil)
      (pss_one (ps_ret (pe_tup (pa_cons (pv 3) (pa_cons (pe_ifExp (pt_cmpR op_lt (pv 7) (pe_ix ix_tup (pv 2) pe_int (fun _ _ => rfl)) (nomark _)) pe_int (pe_op op_sub (pv 7) (pe_ix ix_tup (pv 2) pe_int (fun _ _ => rfl)))) pa_nil)))))))))))), ?_⟩
    refine ⟨_, rfl, b, _, rfl, hb, rfl, _, _, rfl, _, _, rfl, rfl, ?_⟩
    have al := at_len' r0 r1
    cases c with
    | down n =>
      have nb' : n < 10 ^ 40 := nb
      have n1 : 1 ≤ n := hcok
      refine ⟨_, rfl, ka, _, 0, _, rfl, rfl, hk, rfl, ?_⟩
      refine ⟨_, rfl, (by show 2 ≤ sizeLine; decide), fun p1 np1 => ?_⟩
      have e_H1 : Same H (upd H p1 (.tup [V.str "down", .str "up"])) := new_same np1
      have h_p1 : (upd H p1 (.tup [V.str "down", .str "up"])) p1 = some (.tup [V.str "down", .str "up"]) := upd_same
      generalize upd H p1 (.tup [V.str "down", .str "up"]) = H1 at e_H1 h_p1 ⊢
      replace hk := seq_t e_H1 hk
      replace ht := e_H1.seq ht
      refine ⟨p1, _, rfl, .inr (SqT.of h_p1), rfl, rfl, true, by decide +kernel, iteT ?_⟩
      refine ⟨_, rfl, _, rfl, ka, _, 1, _, rfl, rfl, hk, rfl, _, rfl, (by show 2 ≤ sizeLine; decide), fun p2 np2 => ?_⟩
      have e_H2 : Same H1 (upd H1 p2 (.lst [V.int 1, .int (-1)])) := new_same np2
      have h_p2 : (upd H1 p2 (.lst [V.int 1, .int (-1)])) p2 = some (.lst [V.int 1, .int (-1)]) := upd_same
      generalize upd H1 p2 (.lst [V.int 1, .int (-1)]) = H2 at e_H2 h_p2 ⊢
      replace hk := seq_t e_H2 hk
      replace ht := e_H2.seq ht
      refine ⟨_, rfl, rfl, .inr ⟨_, rfl, p2, _, _, _, rfl, rfl, SqL.of h_p2, at_fM (by decide +kernel), _, _, rfl, rfl, ?_⟩⟩
      have e12 := e_H1.trans e_H2
      refine ⟨wide_mul (a := 134) (b := 2) (by omega) (by decide) (by decide) (by decide) (by decide), _, _, rfl, rfl, ?_⟩
      obtain ⟨r2, hr2, hd⟩ : ∃ r2, r + n * (if false = true then -1 else 1) = r2 ∧ r2 = r + (Cmd.down n).dv := ⟨_, rfl, by show r + n * (if false = true then -1 else 1) = r + n; simp⟩
      have hin : 0 ≤ r2 → r2 < tx.length → stepP tx r g (.down n) = some (r2, g) := fun h1 h2 => by
        unfold stepP
        rw [if_pos (show (Cmd.down n).vert = true from rfl), ← hd, if_pos ⟨h1, h2⟩]
      have hout : ¬ (0 ≤ r2 ∧ r2 < tx.length) → stepP tx r g (.down n) = none := fun h1 => by
        unfold stepP
        rw [if_pos (show (Cmd.down n).vert = true from rfl), ← hd, if_neg h1]
      show gName 6 (V.int (r + n * (if false = true then -1 else 1))) _ H2 _
      rw [hr2]
      refine ⟨_, rfl, _, _, rfl, rfl, _, rfl, ite2 (fun c0 => ?_) (fun c0 => ?_)⟩
      · have c0' : 0 ≤ r2 := of_decide_eq_true c0
        refine ⟨_, rfl, t, _, rfl, .inl ht, _, _, rfl, rfl, _, rfl, ite2 (fun c1 => ?_) (fun c1 => ?_)⟩
        · have c1' : r2 < ((tx.map V.int).length : Int) := of_decide_eq_true c1
          rw [List.length_map] at c1'
          exact ⟨_, rfl, _, rfl, (by show 2 ≤ sizeLine; decide), fun p np => ks r2 g (hin c0' c1') _ p (e12.trans (new_same np)) (e12.free np) upd_same⟩
        · have c1' : ¬ r2 < ((tx.map V.int).length : Int) := fun z => c1 (decide_eq_true z)
          rw [List.length_map] at c1'
          exact kn (hout fun z => c1' z.2) _ e12
      · have c0' : ¬ 0 ≤ r2 := fun z => c0 (decide_eq_true z)
        exact ⟨_, rfl, iteF (kn (hout fun z => c0' z.1) _ e12)⟩
    | up n =>
      have nb' : n < 10 ^ 40 := nb
      have n1 : 1 ≤ n := hcok
      refine ⟨_, rfl, ka, _, 0, _, rfl, rfl, hk, rfl, ?_⟩
      refine ⟨_, rfl, (by show 2 ≤ sizeLine; decide), fun p1 np1 => ?_⟩
      have e_H1 : Same H (upd H p1 (.tup [V.str "down", .str "up"])) := new_same np1
      have h_p1 : (upd H p1 (.tup [V.str "down", .str "up"])) p1 = some (.tup [V.str "down", .str "up"]) := upd_same
      generalize upd H p1 (.tup [V.str "down", .str "up"]) = H1 at e_H1 h_p1 ⊢
      replace hk := seq_t e_H1 hk
      replace ht := e_H1.seq ht
      refine ⟨p1, _, rfl, .inr (SqT.of h_p1), rfl, rfl, true, by decide +kernel, iteT ?_⟩
      refine ⟨_, rfl, _, rfl, ka, _, 1, _, rfl, rfl, hk, rfl, _, rfl, (by show 2 ≤ sizeLine; decide), fun p2 np2 => ?_⟩
      have e_H2 : Same H1 (upd H1 p2 (.lst [V.int 1, .int (-1)])) := new_same np2
      have h_p2 : (upd H1 p2 (.lst [V.int 1, .int (-1)])) p2 = some (.lst [V.int 1, .int (-1)]) := upd_same
      generalize upd H1 p2 (.lst [V.int 1, .int (-1)]) = H2 at e_H2 h_p2 ⊢
      replace hk := seq_t e_H2 hk
      replace ht := e_H2.seq ht
      refine ⟨_, rfl, rfl, .inr ⟨_, rfl, p2, _, _, _, rfl, rfl, SqL.of h_p2, at_tM (by decide +kernel), _, _, rfl, rfl, ?_⟩⟩
      have e12 := e_H1.trans e_H2
      refine ⟨wide_mul (a := 134) (b := 2) (by omega) (by decide) (by decide) (by decide) (by decide), _, _, rfl, rfl, ?_⟩
      obtain ⟨r2, hr2, hd⟩ : ∃ r2, r + n * (if true = true then -1 else 1) = r2 ∧ r2 = r + (Cmd.up n).dv := ⟨_, rfl, by show r + n * (if true = true then -1 else 1) = r + -n; simp⟩
      have hin : 0 ≤ r2 → r2 < tx.length → stepP tx r g (.up n) = some (r2, g) := fun h1 h2 => by
        unfold stepP
        rw [if_pos (show (Cmd.up n).vert = true from rfl), ← hd, if_pos ⟨h1, h2⟩]
      have hout : ¬ (0 ≤ r2 ∧ r2 < tx.length) → stepP tx r g (.up n) = none := fun h1 => by
        unfold stepP
        rw [if_pos (show (Cmd.up n).vert = true from rfl), ← hd, if_neg h1]
      show gName 6 (V.int (r + n * (if true = true then -1 else 1))) _ H2 _
      rw [hr2]
      refine ⟨_, rfl, _, _, rfl, rfl, _, rfl, ite2 (fun c0 => ?_) (fun c0 => ?_)⟩
      · have c0' : 0 ≤ r2 := of_decide_eq_true c0
        refine ⟨_, rfl, t, _, rfl, .inl ht, _, _, rfl, rfl, _, rfl, ite2 (fun c1 => ?_) (fun c1 => ?_)⟩
        · have c1' : r2 < ((tx.map V.int).length : Int) := of_decide_eq_true c1
          rw [List.length_map] at c1'
          exact ⟨_, rfl, _, rfl, (by show 2 ≤ sizeLine; decide), fun p np => ks r2 g (hin c0' c1') _ p (e12.trans (new_same np)) (e12.free np) upd_same⟩
        · have c1' : ¬ r2 < ((tx.map V.int).length : Int) := fun z => c1 (decide_eq_true z)
          rw [List.length_map] at c1'
          exact kn (hout fun z => c1' z.2) _ e12
      · have c0' : ¬ 0 ≤ r2 := fun z => c0 (decide_eq_true z)
        exact ⟨_, rfl, iteF (kn (hout fun z => c0' z.1) _ e12)⟩
    | home =>
      refine ⟨_, rfl, ka, _, 0, _, rfl, rfl, hk, rfl, ?_⟩
      refine ⟨_, rfl, (by show 2 ≤ sizeLine; decide), fun p1 np1 => ?_⟩
      have e_H1 : Same H (upd H p1 (.tup [V.str "down", .str "up"])) := new_same np1
      have h_p1 : (upd H p1 (.tup [V.str "down", .str "up"])) p1 = some (.tup [V.str "down", .str "up"]) := upd_same
      generalize upd H p1 (.tup [V.str "down", .str "up"]) = H1 at e_H1 h_p1 ⊢
      replace hk := seq_t e_H1 hk
      replace ht := e_H1.seq ht
      refine ⟨p1, _, rfl, .inr (SqT.of h_p1), rfl, rfl, false, by decide +kernel, iteF ?_⟩
      refine ⟨_, rfl, rfl, true, by decide +kernel, iteT ?_⟩
      first
        | exact ⟨_, rfl, (by show 2 ≤ sizeLine; decide), fun p np => ks r (some 0) rfl _ p (e_H1.trans (new_same np)) (e_H1.free np) upd_same⟩
        | exact ⟨_, rfl, rfl, true, by decide +kernel, iteT ⟨_, rfl, (by show 2 ≤ sizeLine; decide), fun p np => ks r (some 0) rfl _ p (e_H1.trans (new_same np)) (e_H1.free np) upd_same⟩⟩
    | stop =>
      refine ⟨_, rfl, ka, _, 0, _, rfl, rfl, hk, rfl, ?_⟩
      refine ⟨_, rfl, (by show 2 ≤ sizeLine; decide), fun p1 np1 => ?_⟩
      have e_H1 : Same H (upd H p1 (.tup [V.str "down", .str "up"])) := new_same np1
      have h_p1 : (upd H p1 (.tup [V.str "down", .str "up"])) p1 = some (.tup [V.str "down", .str "up"]) := upd_same
      generalize upd H p1 (.tup [V.str "down", .str "up"]) = H1 at e_H1 h_p1 ⊢
      replace hk := seq_t e_H1 hk
      replace ht := e_H1.seq ht
      refine ⟨p1, _, rfl, .inr (SqT.of h_p1), rfl, rfl, false, by decide +kernel, iteF ?_⟩
      refine ⟨_, rfl, rfl, false, by decide +kernel, iteF ?_⟩
      first
        | exact ⟨_, rfl, (by show 2 ≤ sizeLine; decide), fun p np => ks r (none) rfl _ p (e_H1.trans (new_same np)) (e_H1.free np) upd_same⟩
        | exact ⟨_, rfl, rfl, true, by decide +kernel, iteT ⟨_, rfl, (by show 2 ≤ sizeLine; decide), fun p np => ks r (none) rfl _ p (e_H1.trans (new_same np)) (e_H1.free np) upd_same⟩⟩
    | right n =>
      have n1 : 1 ≤ n := hcok
      have st : stepP tx r g (.right n) = some (r, aim1 (lenAt tx r) g (.right n)) := rfl
      refine ⟨_, rfl, ka, _, 0, _, rfl, rfl, hk, rfl, ?_⟩
      refine ⟨_, rfl, (by show 2 ≤ sizeLine; decide), fun p1 np1 => ?_⟩
      have e_H1 : Same H (upd H p1 (.tup [V.str "down", .str "up"])) := new_same np1
      have h_p1 : (upd H p1 (.tup [V.str "down", .str "up"])) p1 = some (.tup [V.str "down", .str "up"]) := upd_same
      generalize upd H p1 (.tup [V.str "down", .str "up"]) = H1 at e_H1 h_p1 ⊢
      replace hk := seq_t e_H1 hk
      replace ht := e_H1.seq ht
      replace hb := seq_t e_H1 hb
      refine ⟨p1, _, rfl, .inr (SqT.of h_p1), rfl, rfl, false, by decide +kernel, iteF ?_⟩
      refine ⟨_, rfl, rfl, false, by decide +kernel, iteF ?_⟩
      refine ⟨_, rfl, rfl, false, by decide +kernel, iteF ?_⟩
      refine ⟨_, rfl, _, rfl, t, b, tx, r, g, rfl, ht, hb, r0, r1, ?_⟩
      refine ⟨_, rfl, rfl, true, by decide +kernel, iteT ?_⟩
      have st' : stepP tx r g (.right n) = some (r, some (min (seen (lenAt tx r) g + n) (lenAt tx r))) := rfl
      generalize seen (lenAt tx r) g = sn at st' ⊢
      refine ⟨_, rfl, _, rfl, _, rfl, t, _, r, _, rfl, rfl, ht, al, _, rfl, _, _, rfl, rfl, _, rfl, ka, _, 1, _, rfl, rfl, hk, rfl, _, _, rfl, rfl, _, rfl, ite2 (fun c => ?_) (fun c => ?_)⟩
      · have c' : lenAt tx r - sn < n := of_decide_eq_true c
        have e : min (sn + n) (lenAt tx r) = lenAt tx r := by omega
        rw [e] at st'
        exact ⟨_, rfl, _, rfl, t, _, r, _, rfl, rfl, ht, al, (by show 2 ≤ sizeLine; decide), fun p np => ks r _ st' _ p (e_H1.trans (new_same np)) (e_H1.free np) upd_same⟩
      · have c' : ¬ lenAt tx r - sn < n := fun z => c (decide_eq_true z)
        have e : min (sn + n) (lenAt tx r) = sn + n := by omega
        rw [e] at st'
        exact ⟨_, rfl, _, rfl, ka, _, 1, _, rfl, rfl, hk, rfl, _, _, rfl, rfl, (by show 2 ≤ sizeLine; decide), fun p np => ks r _ st' _ p (e_H1.trans (new_same np)) (e_H1.free np) upd_same⟩
    | left n =>
      have n1 : 1 ≤ n := hcok
      have st : stepP tx r g (.left n) = some (r, aim1 (lenAt tx r) g (.left n)) := rfl
      refine ⟨_, rfl, ka, _, 0, _, rfl, rfl, hk, rfl, ?_⟩
      refine ⟨_, rfl, (by show 2 ≤ sizeLine; decide), fun p1 np1 => ?_⟩
      have e_H1 : Same H (upd H p1 (.tup [V.str "down", .str "up"])) := new_same np1
      have h_p1 : (upd H p1 (.tup [V.str "down", .str "up"])) p1 = some (.tup [V.str "down", .str "up"]) := upd_same
      generalize upd H p1 (.tup [V.str "down", .str "up"]) = H1 at e_H1 h_p1 ⊢
      replace hk := seq_t e_H1 hk
      replace ht := e_H1.seq ht
      replace hb := seq_t e_H1 hb
      refine ⟨p1, _, rfl, .inr (SqT.of h_p1), rfl, rfl, false, by decide +kernel, iteF ?_⟩
      refine ⟨_, rfl, rfl, false, by decide +kernel, iteF ?_⟩
      refine ⟨_, rfl, rfl, false, by decide +kernel, iteF ?_⟩
      refine ⟨_, rfl, _, rfl, t, b, tx, r, g, rfl, ht, hb, r0, r1, ?_⟩
      refine ⟨_, rfl, rfl, false, by decide +kernel, iteF ?_⟩
      have st' : stepP tx r g (.left n) = some (r, some (max 0 (seen (lenAt tx r) g - n))) := rfl
      generalize seen (lenAt tx r) g = sn at st' ⊢
      refine ⟨_, rfl, _, rfl, _, rfl, ka, _, 1, _, rfl, rfl, hk, rfl, _, _, rfl, rfl, _, rfl, ite2 (fun c => ?_) (fun c => ?_)⟩
      · have c' : sn < n := of_decide_eq_true c
        have e : max 0 (sn - n) = 0 := by omega
        rw [e] at st'
        exact ⟨(by show 2 ≤ sizeLine; decide), fun p np => ks r _ st' _ p (e_H1.trans (new_same np)) (e_H1.free np) upd_same⟩
      · have c' : ¬ sn < n := fun z => c (decide_eq_true z)
        have e : max 0 (sn - n) = sn - n := by omega
        rw [e] at st'
        exact ⟨_, rfl, _, rfl, ka, _, 1, _, rfl, rfl, hk, rfl, _, _, rfl, rfl, (by show 2 ≤ sizeLine; decide), fun p np => ks r _ st' _ p (e_H1.trans (new_same np)) (e_H1.free np) upd_same⟩
end
end Gc

/-! a text with commands, as data; repetitions, as data -/
namespace Gc
open PySem L2
def bothD (T : List Int) (cs : List Cmd) : PyData := .list [.list (T.map PyData.int), .list (cs.map cmdD)]
theorem both_show {T : List Int} {cs : List Cmd} (hT : ∀ x ∈ T, Sml x) (hc : ∀ c ∈ cs, CSml c) (lT : T.length ≤ 200) (lc : cs.length ≤ 100) : (bothD T cs).showable = true ∧ (bothD T cs).hasDict = false ∧ (bothD T cs).depth ≤ 60 ∧ (bothD T cs).shown.length ≤ sizeLine := by
  obtain ⟨c1, c2, c3⟩ := cmds_ok0 hc
  have o : Ok0 (bothD T cs) := ok0_list (ok0_cons (ok0_list (ok0_ints hT)) (ok0_cons (ok0_list c1) ok0_nil))
  refine ⟨o.1, o.2.1, ?_, ok0_len o ?_⟩
  · simp only [bothD, PyData.depth, PyData.depthAll, deep_ints]
    omega
  · have w1 := weight_ints hT
    simp only [bothD, PyData.weight, PyData.weightAll]
    omega
theorem both_lay (T : List Int) (cs : List Cmd) : (bothD T cs).canLay0 = true := by
  have h1 : PyData.canLayAll0 (T.map PyData.int) = true := PySem.W.ke_canLayAll0 T
  simp [bothD, PyData.canLay0, PyData.canLayAll0, h1, lay_cmds cs]
theorem csml_of {c : Cmd} (ok : c.ok) (h : numC c < 10 ^ 32) : CSml c := by
  have key : ∀ n : Int, 1 ≤ n → n < 10 ^ 32 → n.natAbs < 2 ^ 120 := fun n h1 h => by omega
  cases c with
  | down n => exact key n ok h
  | up n => exact key n ok h
  | right n => exact key n ok h
  | left n => exact key n ok h
  | home => trivial
  | stop => trivial
theorem chg_le {B : Nat} : ∀ {cs : List Cmd}, (∀ c ∈ cs, c.ok ∧ numC c ≤ B) → (chg cs).natAbs ≤ B * cs.length
  | [], _ => Nat.le_refl _
  | c :: cs, h => by
    have ih := chg_le (B := B) (cs := cs) fun d hd => h d (List.mem_cons_of_mem _ hd)
    obtain ⟨ok, nb⟩ := h c List.mem_cons_self
    have h1 : (chg1 c).natAbs ≤ B := by
      cases c with
      | right n =>
        have o : 1 ≤ n := ok
        have q : n ≤ (B : Int) := nb
        show n.natAbs ≤ B
        omega
      | left n =>
        have o : 1 ≤ n := ok
        have q : n ≤ (B : Int) := nb
        show (-n).natAbs ≤ B
        omega
      | _ => exact Nat.zero_le _
    show (chg1 c + chg cs).natAbs ≤ B * (cs.length + 1)
    rw [Nat.mul_succ]
    omega
/-- a cursor, or the index of the impossible command in a list -/
def repD : Nat ⊕ (Int × Option Int) → PyData
  | .inl n => .list [.int n]
  | .inr x => .tuple [.int x.1, optD x.2]
theorem repD_lay (x : Nat ⊕ (Int × Option Int)) : (repD x).canLay0 = true := by
  rcases x with n | ⟨r, _ | g⟩ <;> rfl
theorem repD_shaped (x : Nat ⊕ (Int × Option Int)) : SeqAt.shaped (repD x) = true := by
  rcases x with n | ⟨r, _ | g⟩ <;> rfl
theorem repDs_shaped (x : Nat ⊕ (Int × Option Int)) : SeqAt.shaped (.list [repD x, repD x]) = true := by
  rcases x with n | ⟨r, _ | g⟩ <;> rfl
theorem repD_eqv (x : Nat ⊕ (Int × Option Int)) : PyData.eqv (repD x) (repD x) = true := SeqAt.eqv_refl _ (repD_lay x)
theorem repDs_eqv (x : Nat ⊕ (Int × Option Int)) : PyData.eqv (.list [repD x, repD x]) (.list [repD x, repD x]) = true := SeqAt.eqv_refl _ (by rcases x with n | ⟨r, _ | g⟩ <;> rfl)
theorem tup_atL {K : PySem.W.Frag} {H : Hp} {l a : Addr} {ys zs xs : List V} (hl : H l = some (.lst ys)) (h1 : SqT K H a xs) : SqT K (upd H l (.lst zs)) a xs := by
  rcases h1 with (z | ⟨o, z⟩) | z
  · exact .inl (.inl (by rw [upd_ne (ne_of z hl (by intro q; cases q))]; exact z))
  · exact .inl (.inr ⟨o, by rw [upd_ne (ne_of z hl (by intro q; cases q))]; exact z⟩)
  · exact .inr z
theorem paired_ins {α β : Type} {F : α → β → Prop} {xs : List α} {ys : List β} {x : α} {y : β} (h : Paired F xs ys) (h1 : F x y) (i : Nat) : Paired F (xs.take i ++ [x] ++ xs.drop i) (ys.take i ++ [y] ++ ys.drop i) :=
  paired_app (paired_app (paired_take i h) (.cons h1 .nil)) (paired_drop i h)
theorem mem_ins {α : Type} {ys : List α} {y z : α} {i : Nat} (h : z ∈ ys.take i ++ [y] ++ ys.drop i) : z = y ∨ z ∈ ys := by
  rcases List.mem_append.mp h with q | q
  · rcases List.mem_append.mp q with q | q
    · exact .inr (List.mem_of_mem_take q)
    · exact .inl (List.mem_singleton.mp q)
  · exact .inr (List.mem_of_mem_drop q)
theorem len_ins {α : Type} (ys : List α) (y : α) {i : Nat} (h : i ≤ ys.length) : (ys.take i ++ [y] ++ ys.drop i).length = ys.length + 1 := by
  rw [List.length_append, List.length_append, List.length_take, List.length_drop, List.length_singleton]
  omega
end Gc

/-! calls by names alone, the names in any order: the i-th parameter is the (p i)-th that is handed in -/
namespace Gc
open PySem PySem.Spec PyProof.Rows GenW L2
def gPerm {α : Type} (p : List Nat) (us ws : List α) : List α := match us with
  | [] => if ws.length = p.length then p.filterMap (fun i => ws[i]?) else []
  | _ :: _ => []
theorem vals_perm {vs : List V} {us : List Value} (h : Vals vs us) : ∀ p : List Nat, Vals (p.filterMap (fun i => vs[i]?)) (p.filterMap (fun i => us[i]?))
  | [] => .nil
  | i :: p => by
    rw [List.filterMap_cons, List.filterMap_cons]
    cases e : vs[i]? with
    | none =>
      have e2 : us[i]? = none := by
        rw [List.getElem?_eq_none_iff] at e ⊢
        rw [← h.length]
        exact e
      rw [e2]
      exact vals_perm h p
    | some v =>
      obtain ⟨u, hu, r⟩ := h.get e
      rw [hu]
      exact .cons r (vals_perm h p)
theorem gPerm_len {α : Type} {p : List Nat} {us ws : List α} (hp : p ≠ []) (h : (gPerm p us ws).length = p.length) : us = [] ∧ ws.length = p.length := by
  have l0 : p.length ≠ 0 := fun z => hp (List.length_eq_zero_iff.mp z)
  cases us with
  | cons u us => exact absurd h.symm l0
  | nil =>
    unfold gPerm at h
    by_cases c : ws.length = p.length
    · exact ⟨rfl, c⟩
    · rw [if_neg c] at h
      exact absurd h.symm l0
theorem bindsP {K : PySem.W.Frag} {x qual : Str} {st : Stmt} {f : Addr} {fd : FuncData} {ps ks : List Str} {p : List Nat} (F : L2.Fun K x qual st f fd) (hp : p ≠ []) (hl : ps.length = p.length)
    (h : ∀ (kV doc pm : Value) (an : Option Addr) (cdv ct : Value) (ws : List Value), ws.length = p.length → bindArgs (PySem.W.fnOf x qual (defArgs st) (defBody st) (defScope st) .none kV doc pm an cdv ct) ⟨[], ks.zip ws⟩ = pure (ps.zip (p.filterMap (fun i => ws[i]?)))) :
    KBinds K fd ps ks (gPerm p) (gPerm p) := by
  obtain ⟨oc, od, kV, doc, pm, an, cdv, ct, osl, rfl, lk, hcd⟩ := F.ex
  refine ⟨fun s us ws _ hq => ?_, fun {vs us zs ws} a b => ?_⟩
  · rw [hl] at hq
    obtain ⟨rfl, lw⟩ := gPerm_len hp hq
    have e : gPerm p [] ws = p.filterMap (fun i => ws[i]?) := by
      unfold gPerm
      rw [if_pos lw]
    rw [e]
    exact .of_eq (h kV doc pm an cdv ct ws lw)
  · cases a with
    | cons _ _ => exact .nil
    | nil =>
      unfold gPerm
      by_cases c : ws.length = p.length
      · have c2 : zs.length = p.length := b.length.trans c
        simp only [c, c2, if_true]
        exact vals_perm b p
      · have c2 : ¬ zs.length = p.length := fun z => c (b.length.symm.trans z)
        simp only [c, c2, if_false]
        exact .nil
structure CalP (P : Program) (w : World) (K : PySem.W.Frag) (mg : Str → Option Value) (base : Heap) (k : Nat) (x : Str) (ks : List Str) (pm : List Nat) (sp : Sp) : Prop where
  ex : ∃ (f : Addr) (fd : FuncData) (ps : List Str), FnOk P w K mg base CX0 k f fd ps sp ∧ mg x = some (.ref f) ∧ PySem.W.keepIn K (.ref f) = true ∧ KBinds K fd ps ks (gPerm pm) (gPerm pm)
theorem pe_calP {X : Cx} {k j : Nat} {x : Str} {ks : List Str} {pm : List Nat} {sp : Sp} {p pos : Pos} {kws : List Keyword} {tk : TA} (c : CalP X.prog X.w X.K X.mg X.base k x ks pm sp) (hr : Room j X.A) (hk : k ≤ j) (hg : Gl X x) (hkw : PK X kws tk)
    (hdb : (x == ("__debug__" : Str)) = false := by decide) (hall : (backToKw pos (keywordEach kws X.env)).all (·.1.isSome) = true := by rfl) (hks : (backToKw pos (keywordEach kws X.env)).filterMap (·.1) = ks := by rfl)
    (hpn : ((backTo pos (starEach [] X.env)).any (·.1) || (backToKw pos (keywordEach kws X.env)).any (·.1.isNone)) = false := by rfl) :
    PE X (.Call (.Name x p) [] kws pos) (tCallK sp (gPerm pm) E0 tNil tk) := by
  obtain ⟨f, fd, ps, F, hm, kp, b⟩ := c.ex
  refine ⟨fun pins s σ H Q I h => ?_⟩
  refine wpAny_Call_Name_kw (ld_glob I hg hm ?_ hdb)
  refine PySem.W.callWith_KW0 (h₀ := X.base) I.ok.mod.kin kp hall ?_ hpn
  refine thn (hkw.run pos pins s σ H _ I h) fun ws s1 ⟨zs, H1, I1, rz, q⟩ => ⟨I1.kIn, ?_⟩
  rw [hks]
  exact run_fnk (us := []) (vs := []) F (hr.mono hk) b pass0 I1 .nil rz q
structure GCalP (P : Program) (w : World) (K : PySem.W.Frag) (mg : Str → Option Value) (base : Heap) (k : Nat) (x : Str) (ks : List Str) (pm : List Nat) (sp : SpG) : Prop where
  ex : ∃ (f : Addr) (fd : FuncData) (ps : List Str), GFn P w K mg base k f fd ps sp ∧ mg x = some (.ref f) ∧ PySem.W.keepIn K (.ref f) = true ∧ KBinds K fd ps ks (gPerm pm) (gPerm pm)
def tCallGP (sp : SpG) (pm : List Nat) (E : XK) (tk : TA) : TGen := fun σ H cont => tk σ H fun zs H2 => sp (gPerm pm [] zs) H2 cont E
section
variable {X : Cx} {k : Nat} {x : Str} {ks : List Str} {pm : List Nat} {sp : SpG} {p p0 pos pos' : Pos} {kws : List Keyword} {tk : TA}
theorem pgen_callP {E : XK} (c : GCalP X.prog X.w X.K X.mg X.base k x ks pm sp) (hr : Room k X.A) (hg : Gl X x) (hkw : PK X kws tk)
    (hdb : (x == ("__debug__" : Str)) = false := by decide) (hall : (backToKw pos (keywordEach kws X.env)).all (·.1.isSome) = true := by rfl) (hks : (backToKw pos (keywordEach kws X.env)).filterMap (·.1) = ks := by rfl)
    (hpn : ((backTo pos (starEach [] X.env)).any (·.1) || (backToKw pos (keywordEach kws X.env)).any (·.1.isNone)) = false := by rfl) :
    PGen X k (.Call (.Name x p) [] kws pos) (tCallGP sp pm E tk) E := by
  obtain ⟨f, fd, ps, F, hm, kp, b⟩ := c.ex
  refine ⟨fun pins s σ H cont I h => ?_⟩
  refine wpAny_Call_Name_kw (ld_glob I hg hm ?_ hdb)
  refine PySem.W.callWith_KW0 (h₀ := X.base) I.ok.mod.kin kp hall ?_ hpn
  refine thn (hkw.run pos pins s σ H _ I h) fun ws s1 ⟨zs, H1, I1, rz, q⟩ => ⟨I1.kIn, ?_⟩
  rw [hks]
  have r2 := b.rel (us := []) (vs := []) .nil rz
  have hl : (gPerm pm [] ws).length = ps.length := by rw [← r2.length]; exact F.len _ _ _ _ q
  refine wpAny_call (codeAny_mono (F.run X.A X.stack s1 H1 ⟨[], ks.zip ws⟩ (gPerm pm [] ws) (gPerm pm [] zs) cont E hr I1.env0 (b.to s1 [] ws I1.kIn hl) r2 q) fun r s' hq => ?_)
  cases r with
  | error e => exact False.elim hq
  | ok fl =>
    cases fl with
    | ret u => exact ⟨H1, s1, [], I1, .nil, hq⟩
    | next => exact False.elim hq
    | brk => exact False.elim hq
    | cont => exact False.elim hq
theorem pe_listGP (c : GCalP X.prog X.w X.K X.mg X.base k x ks pm sp) (hr : Room (k + 3) X.A) (hg : Gl X x) (hkw : PK X kws tk) (hgl : Gl X "list") (hml : X.mg "list" = none)
    (hdb : (x == ("__debug__" : Str)) = false := by decide) (hall : (backToKw pos' (keywordEach kws X.env)).all (·.1.isSome) = true := by rfl) (hks : (backToKw pos' (keywordEach kws X.env)).filterMap (·.1) = ks := by rfl)
    (hpn : ((backTo pos' (starEach [] X.env)).any (·.1) || (backToKw pos' (keywordEach kws X.env)).any (·.1.isNone)) = false := by rfl)
    (he2 : starEach [.Call (.Name x p) [] kws pos'] X.env = (false, eval (.Call (.Name x p) [] kws pos') X.env) :: starEach [] X.env := by rfl) :
    PE X (.Call (.Name "list" p0) [.Call (.Name x p) [] kws pos'] [] pos) (tListG (tCallGP sp pm E0 tk)) :=
  pe_listG (pgen_callP c (hr.mono (by omega)) hg hkw hdb hall hks hpn) passE0 noStop0 hr hgl hml (by decide +kernel) (by decide) (by decide) he2
end
end Gc

/-! defs that call repr: what is shown just now is told to be nothing. The law's own defs go so; all others as before -/
namespace Gc
open PySem PySem.Spec PyProof.Rows L2
structure FnG (P : Program) (w : World) (K : PySem.W.Frag) (mg : Str → Option Value) (base : Heap) (k : Nat) (f : Addr) (fd : FuncData) (ps : List Str) (sp : Sp) : Prop where
  len : ∀ vs H Q E, sp vs H Q E → vs.length = ps.length
  run : ∀ (A : Around) (outer : List Env) (s : Shared) (H : Hp) (args : Args) (us : List Value) (vs : List V) (Q : VK) (E : XK), A.guards = some [] → Room k A → Env0 P w K mg base A outer s H →
    BindsTo s fd args (ps.zip us) → Vals vs us → sp vs H Q E → codeAny (model P w) A (.call (.ref f) args) (CR CX0 outer P w H s Q E) s
theorem FnG.of {P : Program} {w : World} {K : PySem.W.Frag} {mg : Str → Option Value} {base : Heap} {k : Nat} {f : Addr} {fd : FuncData} {ps : List Str} {sp : Sp} (F : FnOk P w K mg base CX0 k f fd ps sp) : FnG P w K mg base k f fd ps sp :=
  ⟨F.len, fun A outer s H args us vs Q E _ hr e0 hb hv hs => F.run A outer s H args us vs Q E hr e0 hb hv hs⟩
section
variable {P : Program} {w : World} {K : PySem.W.Frag} {mg : Str → Option Value} {base : Heap}
theorem okG {x qual : Str} {st : Stmt} {f : Addr} {fd : FuncData} {N ps : List Str} {k : Nat} {sp : Sp} (F : Fun K x qual st f fd) (S : FnScope N ps (defScope st)) (len : ∀ vs H Q E, sp vs H Q E → vs.length = ps.length)
    (hbody : ∀ (cdv : Value) (A : Around) (outer : List Env) (s : Shared) (H : Hp) (vs : List V) (Q : VK) (E : XK), (A.deeper (envOfC qual (defScope st) s.heap.objs.size f cdv)).guards = some [] → Room k (A.deeper (envOfC qual (defScope st) s.heap.objs.size f cdv)) → sp vs H Q E →
      ∃ t, PSs (cxOf CX0 P w K mg base N qual (defScope st) f cdv A outer s H E).nox (defBody st) t ∧ t { nx := fun _ H' => Q .non H', rt := Q } (start N vs) H) : FnG P w K mg base (k + 1) f fd ps sp := by
  obtain ⟨oc, od, kV, doc, pm, an, cdv, ct, osl, rfl, lk, hcd⟩ := F.ex
  refine ⟨len, fun A outer s H args us vs Q E hg hr e0 hb r hsp => ?_⟩
  have n := len _ _ _ _ hsp
  have same : ∀ b o, base.get? b = some o → s.heap.get? b = some o := fun b o e => (e0.bs b o e).1
  have kin : K.In s.heap := e0.mod.kin.keeps same
  have kinds : ∀ y ∈ ps.zip us, (defScope st).names.lookup y.1 = some .local ∨ ((defScope st).names.lookup y.1 = some .cell ∧ ((cellsFrom (s.heap.objs.size + 1) (defScope st).names []).lookup y.1).isSome = true) := by
    rintro ⟨y, v⟩ hy
    exact (S.par y (List.of_mem_zip hy).1).imp id fun q => ⟨q, PySem.W.cellsFrom_some _ _ _ (.inl q)⟩
  refine codeAny_call_function hr.depth (kin _ _ lk) rfl S.co S.gen rfl (PySem.W.codeRec_of kin hcd) (hb _ _ _ _ (wpAny_newFunctionEnv_cells S.kind kinds fun env he s1 x => ?_))
  subst he
  refine ⟨(e0.mod.nolimit.keeps same).keeps x.toInCall.keep, codeAny_func ?_⟩
  obtain ⟨t, ht, hq⟩ := hbody cdv A outer s H vs Q E hg (hr.deeper _) hsp
  refine wpAny_mono (ht.nox.run [] s1 (start N vs) H _ (inv_start S hr.hd e0 n r x) hq) (fun fl s' hs => ?_) fun e s' hs => hs
  match fl, hs with
  | .ret u, ⟨v, σ', H', J, rv, q⟩ => exact ⟨v, H', J.os, J.bare, J.base, J.hok, rv, q⟩
  | .next, ⟨σ', H', J, q⟩ => exact ⟨V.non, H', J.os, J.bare, J.base, J.hok, rfl, q⟩
  | .brk, ⟨_, _, _, q⟩ => exact q.elim
  | .cont, ⟨_, _, _, q⟩ => exact q.elim
end
section
variable {X : Cx} {k : Nat} {f : Addr} {fd : FuncData} {ps : List Str} {sp : Sp} {x : Str} {p pos : Pos} {e : Expr} {es : List Expr} {t : TA}
/-- a call of such a def -/
theorem pe_callG (F : FnG X.prog X.w X.K X.mg X.base k f fd ps sp) (hg0 : X.A.guards = some []) (hr : Room k X.A) (hg : Gl X x) (hm : X.mg x = some (.ref f)) (hk : PySem.W.keepIn X.K (.ref f) = true) (hb : Binds X.K fd ps [])
    (ha : PA X (e :: es) t) (hdb : (x == ("__debug__" : Str)) = false := by decide) (he : starEach (e :: es) X.env = (false, eval e X.env) :: starEach es X.env := by rfl) (hpl : (backTo pos (starEach es X.env)).any (·.1) = false := by rfl) :
    PE X (.Call (.Name x p) (e :: es) [] pos) (tCall sp [] E0 t) := by
  refine ⟨fun pins s σ H Q I h => ?_⟩
  refine wpAny_Call_Name_kw (ld_glob I hg hm ?_ hdb)
  refine PySem.W.callWith_K (h₀ := X.base) I.ok.mod.kin hk (thn (ha.run pos pins s σ H _ I h) fun us s1 ⟨vs, H1, I1, r, q⟩ => ⟨I1.kIn, ?_⟩) he hpl
  have q' : sp vs H1 Q E0 := by
    have z : sp (vs ++ []) H1 Q E0 := q
    rwa [List.append_nil] at z
  have n := F.len _ _ _ _ q'
  have bd := hb s1 us I1.kIn (by rw [List.append_nil, ← r.length]; exact n)
  rw [List.append_nil] at bd
  refine wpAny_call (codeAny_mono (F.run X.A X.stack s1 H1 ⟨us, []⟩ us vs Q E0 hg0 hr I1.env0 bd r q') fun o s' hq => ?_)
  match o, hq with
  | .error _, z => exact z.elim
  | .ok (.ret _), z => exact I1.after z
  | .ok .next, z => exact z.elim
  | .ok .brk, z => exact z.elim
  | .ok .cont, z => exact z.elim
end
/-! ### repr -/
/-- repr(x), x a list or a tuple of data whose ints are not too wide: its text -/
def rRepr (K : PySem.W.Frag) : List V → Hp → VK → Prop := fun xs H Q => ∃ (a : Addr) (d : PyData), xs = [.ref a] ∧ Dp K H (.ref a) d ∧ d.showable = true ∧ d.hasDict = false ∧ d.depth ≤ 60 ∧ d.shown.length ≤ sizeLine ∧ Q (.str d.shown) H
theorem cr_repr {X : Cx} (hg : X.A.guards = some []) (hu : X.A.units + 64 < cLine) : CallR X (.builtin "repr") (rRepr X.K) := by
  intro pins s σ H xs us Q I r h
  obtain ⟨a, d, rfl, hd, hs, hn, hdp, hz, q⟩ := h
  obtain ⟨u, rfl, ru⟩ := vals1 r
  obtain ⟨as, rd⟩ := Dp.reads I d _ u hd ru
  obtain rfl : u = Value.ref a := ru
  refine PySem.repr_of_reads' rd hs (fun z => by rw [hn] at z; cases z) hg (by omega) (fun _ _ e => e) (fun h' v tk hk => ⟨.str d.shown, H, I.kept hk, ⟨_, rfl⟩, q⟩) hz
/-! ### the law is called from the top, where nothing is shown -/
theorem call_lawG {P : Program} {w : World} {K : PySem.W.Frag} {mg mb : Str → Option Value} {k : Nat} {fa a : Addr} {fd : FuncData} {x : Str} {sp : Sp} {s₁ : Shared} {vs : List Value} {ns : List Int}
    (KX : K.In s₁.heap) (hns : s₁.heap.Ns mainGlobals mg) (hb : s₁.heap.Ns builtinsNs mb) (hbb : ∀ x : Str, x ≠ "__name__" → mb x = bootBuiltins x) (hlim : s₁.heap.NoLimit) (hg : s₁.gens = #[])
    (ha : s₁.heap.get? a = some { cls := .type "list", data := .seq vs.toArray }) (hi : IntsAre vs ns) (hl : ns.length ≤ sizeLine) (hr : Room k callerA)
    (F : ∀ base : Heap, K.In base → base.Ns mainGlobals mg → FnG P w K mg base k fa fd [x] sp) (hbind : ∀ (s : Shared) (u : Value), BindsTo s fd ⟨[u], []⟩ [(x, u)])
    (hsp : ∀ H : Hp, Only H → SqL K H a (ns.map V.int) → sp [.ref a] H (fun v _ => v = .bl true) fun _ _ _ => False) :
    codeAny (model P w) callerA (.call (.ref fa) ⟨[.ref a], []⟩) (fun r s' => r = .ok (.ret (.bool true)) ∧ OldK s₁.heap s'.heap ∧ s'.os = s₁.os ∧ AllBare s'.gens) s₁ := by
  have rv := vals_ints hi
  have lv := hi.length
  -- once the heap that is seen is chosen: at most the script is in it
  have go : ∀ H : Hp, Only H → SqL K H a (ns.map V.int) → HOk P w H s₁.heap → (∀ b u, H b = some u → b = a ∧ K.lookup a = none) →
      codeAny (model P w) callerA (.call (.ref fa) ⟨[.ref a], []⟩) (fun r s' => r = .ok (.ret (.bool true)) ∧ OldK s₁.heap s'.heap ∧ s'.os = s₁.os ∧ AllBare s'.gens) s₁ := by
    intro H hO hS hok hA
    have out : ∀ {b : Addr} {o : Obj}, s₁.heap.get? b = some o → (∀ u, H b = some u → False) → (hidT s₁.heap H).get? b = some o := fun {b o} e n => hidT_get e (by
      cases q : H b with
      | none => rfl
      | some u => exact (n u q).elim)
    have isA : ∀ {b : Addr} {o : Obj} {u : HO}, s₁.heap.get? b = some o → H b = some u → o.data = .seq vs.toArray := fun {b o u} e q => by
      obtain ⟨rfl, _⟩ := hA b u q
      rw [ha] at e
      cases e
      rfl
    have nsOut : ∀ {b : Addr} {m : Str → Option Value}, s₁.heap.Ns b m → (hidT s₁.heap H).Ns b m := fun {b m} ⟨o, es, ep, e, d, r⟩ => ⟨o, es, ep, out e fun u q => (by have z := isA e q; rw [d] at z; cases z), d, r⟩
    have kin : K.In (hidT s₁.heap H) := fun b o e => out (KX b o e) fun u q => by
      obtain ⟨rfl, n⟩ := hA b u q
      rw [n] at e
      cases e
    have md : Mod K mg (hidT s₁.heap H) := ⟨kin, nsOut hns, ⟨mb, nsOut hb, hbb⟩, let ⟨mc, h1, h2⟩ := hlim; ⟨mc, nsOut h1, h2⟩⟩
    have none0 : ∀ b : Addr, b ∈ frs ([] : List Env) → False := fun b z => by
      have z' : b ∈ ([] : List Addr) := z
      cases z'
    have e0 : Env0 P w K mg (hidT s₁.heap H) callerA [] s₁ H := ⟨rfl, md, fun b o e => of_hidT e, Nat.le_of_eq (hidT_size _ _), trivial, fun b z => (none0 b z).elim, hok, .of_eq hg⟩
    refine codeAny_mono ((F _ kin (nsOut hns)).run callerA [] s₁ H ⟨[.ref a], []⟩ [.ref a] [.ref a] _ _ rfl hr e0 (hbind s₁ (.ref a)) (.cons rfl .nil) (hsp H hO hS)) fun r s' h => ?_
    match r, h with
    | .error _, z => exact z.elim
    | .ok .next, z => exact z.elim
    | .ok .brk, z => exact z.elim
    | .ok .cont, z => exact z.elim
    | .ok (.ret u), ⟨v, H', os, bare, un, hok', r', q⟩ =>
      obtain rfl : v = .bl true := q
      obtain rfl : u = Value.bool true := r'
      refine ⟨rfl, OldK.of_keep fun b o e => ?_, os, bare⟩
      cases q : H b with
      | none => exact un.keep b o e q (fun z => (none0 b z).elim) (by simp)
      | some u =>
        rcases hO b with z | ⟨ob, xs, z⟩
        · rw [q] at z
          cases z
        · obtain ⟨e1, _⟩ := hok b _ z
          obtain ⟨e2, _⟩ := hok' b _ (un.frzs b ob _ z)
          rw [e] at e1
          cases e1
          exact e2
  cases hk : K.lookup a with
  | some o =>
    have e := KX a o hk
    rw [ha] at e
    cases e
    exact go (fun _ => none) (fun _ => .inl rfl) (.inr ⟨_, vs.toArray, _, hk, rfl, rfl, rfl, by rw [List.size_toArray, lv]; exact hl, by simpa using rv⟩) (fun b u z => nomatch (show (none : Option HO) = some u from z)) fun b u z => nomatch (show (none : Option HO) = some u from z)
  | none =>
    have at' : ∀ {b : Addr} {u : HO}, (if b = a then some (HO.frz { cls := .type "list", data := .seq vs.toArray } (.lst (ns.map V.int))) else none) = some u → b = a ∧ u = .frz { cls := .type "list", data := .seq vs.toArray } (.lst (ns.map V.int)) := fun {b u} z => by
      by_cases h : b = a
      · rw [if_pos h] at z
        exact ⟨h, (Option.some.inj z).symm⟩
      · rw [if_neg h] at z
        cases z
    refine go (fun b => if b = a then some (.frz { cls := .type "list", data := .seq vs.toArray } (.lst (ns.map V.int))) else none) (fun b => ?_) (.inl (.inr ⟨{ cls := .type "list", data := .seq vs.toArray }, if_pos rfl⟩)) (fun b u z => ?_) fun b u z => ⟨(at' z).1, hk⟩
    · by_cases h : b = a
      · exact .inr ⟨_, _, if_pos h⟩
      · exact .inl (if_neg h)
    · obtain ⟨rfl, rfl⟩ := at' z
      exact ⟨ha, by rw [List.length_map]; exact hl, vs, _, rv, ha⟩
/-- the head's last goal, from such a law -/
theorem walk_G {l : PySem.W.OpenLaw} {n k : Nat} {q : Program} {loose : List Str} {XP : (Str → Option Value) → Heap → Prop} {YP : World → Heap → Prop} {d : DefRec} {K : Params → PySem.W.Frag} {sp : World → Sp} {x : Str}
    (hn : l.most = some n) (hn2 : n ≤ sizeLine) (hdf : d.params.defaults = []) (hr : Room k callerA) (hY : ∀ (w : World) (h : Heap), YP w h → (K w.params).In h)
    (F : ∀ (w : World) (mg : Str → Option Value) (fa : Addr) (h : Heap), (K w.params).In h → h.Ns mainGlobals mg → mg d.name = some (.ref fa) →
      ∃ fd : FuncData, (∀ (s : Shared) (u : Value), BindsTo s fd ⟨[u], []⟩ [(x, u)]) ∧ ∀ base : Heap, (K w.params).In base → base.Ns mainGlobals mg → FnG l.prog w (K w.params) mg base k fa fd [x] (sp w))
    (hsp : ∀ (w : World) (H : Hp) (a : Addr) (ns : List Int), ns.length ≤ n → Only H → SqL (K w.params) H a (ns.map V.int) → sp w [.ref a] H (fun v _ => v = .bl true) fun _ _ _ => False) :
    PySem.W.WalkO q loose XP YP l.row.toRowW d [] (fun f vs => PySem.call f vs) := by
  refine Att.attach_call hn hdf fun w s₀ s₁ mg mb fa o pm cd doc a vs ns G Y ho hd hcd hmg hobj hints hlen hg => ?_
  have KX := hY w _ Y
  obtain ⟨fd, hb, hF⟩ := F w mg fa _ KX G.T.g hmg
  exact call_lawG KX G.T.g G.T.b G.T.builtins G.T.nolimit hg hobj hints (Nat.le_trans hlen hn2) hr hF hb fun H hO hS => hsp w H a ns hlen hO hS
end Gc

/-! calls of defs that call repr -/
namespace Gc
open PySem L2
structure CalG (P : Program) (w : World) (K : PySem.W.Frag) (mg : Str → Option Value) (base : Heap) (k : Nat) (x : Str) (sp : Sp) : Prop where
  ex : ∃ (f : Addr) (fd : FuncData) (ps : List Str), FnG P w K mg base k f fd ps sp ∧ mg x = some (.ref f) ∧ PySem.W.keepIn K (.ref f) = true ∧ Binds K fd ps []
theorem FnG.mono {P : Program} {w : World} {K : PySem.W.Frag} {mg : Str → Option Value} {base : Heap} {j k : Nat} {f : Addr} {fd : FuncData} {ps : List Str} {sp : Sp} (F : FnG P w K mg base j f fd ps sp) (h : j ≤ k) : FnG P w K mg base k f fd ps sp :=
  ⟨F.len, fun A outer s H args us vs Q E hg hr => F.run A outer s H args us vs Q E hg (hr.mono h)⟩
theorem pe_calG {X : Cx} {k j : Nat} {x : Str} {sp : Sp} {p pos : Pos} {e : Expr} {es : List Expr} {t : TA} (c : CalG X.prog X.w X.K X.mg X.base k x sp) (hg0 : X.A.guards = some []) (hr : Room j X.A) (hk : k ≤ j) (hg : Gl X x) (ha : PA X (e :: es) t)
    (hdb : (x == ("__debug__" : Str)) = false := by decide) (he : starEach (e :: es) X.env = (false, eval e X.env) :: starEach es X.env := by rfl) (hpl : (backTo pos (starEach es X.env)).any (·.1) = false := by rfl) :
    PE X (.Call (.Name x p) (e :: es) [] pos) (tCall sp [] E0 t) := by
  obtain ⟨f, fd, ps, F, hm, kp, b⟩ := c.ex
  exact pe_callG F hg0 (hr.mono hk) hg hm kp b ha hdb he hpl
end Gc

/-! commands that are possible one after the other (S family: k04, k05) -/
namespace Gc
open PySem L2
abbrev s_fitting : Stmt := top 36
structure TxtFt (mg : Str → Option Value) : Prop where
  range : mg "range" = none
  len : mg "len" = none
def spFit (K : PySem.W.Frag) : Sp := fun vs H Q _ => ∃ (a d t b : Addr) (n : Nat) (T : List Int) (r : Int) (g : Option Int) (many : Int), vs = [.ref a, .ref t, .ref b, .int many] ∧ Src H a d n ∧ n < 2 ^ 36 ∧ H t = some (.lst (T.map V.int)) ∧ t ≠ a ∧ t ≠ d ∧ (∀ x ∈ T, 0 ≤ x) ∧ T.length ≤ 60 ∧ SqT K H b [.int r, optV g] ∧ 0 ≤ r ∧ r < T.length ∧ ge g 0 ∧ 0 ≤ many ∧ many ≤ 60 ∧
  ∀ (H' : Hp) (p : Addr) (xs : List V) (cs : List Cmd), Keep a d H H' → Src H' a d (n + 600) → p ≠ a → p ≠ d → H p = none → H' p = some (.lst xs) → CmdsOf K H' xs cs → AllOk cs → (∀ c ∈ cs, numC c ≤ 10 ^ 30) → cs.length ≤ many → Within cs (-r) (T.length - 1 - r) → Q (.ref p) H'
theorem within_snocF {cs : List Cmd} {c : Cmd} {lo hi : Int} (h : Within cs lo hi) (h1 : lo ≤ last cs + c.dv) (h2 : last cs + c.dv ≤ hi) : Within (cs ++ [c]) lo hi := fun i => by
  by_cases l : i ≤ cs.length
  · rw [List.take_append_of_le_length l]
    exact h i
  · rw [List.take_of_length_le (by rw [List.length_append]; show _ + 1 ≤ i; omega), last_snoc]
    exact ⟨h1, h2⟩
theorem in_text {T : List Int} {r : Int} {g : Option Int} {c : Cmd} (h0 : 0 ≤ r + c.dv) (h1 : r + c.dv < T.length) : stepP T r g c = some (r + c.dv, aim1 (lenAt T r) g c) := by
  by_cases cv : c.vert = true
  · unfold stepP
    rw [if_pos cv, if_pos ⟨h0, h1⟩, aim1_vert (t' := lenAt T r) cv]
  · have d0 := dv_flat cv
    unfold stepP
    rw [if_neg cv, d0, Int.add_zero]
section
variable {P : Program} {w : World} {K : PySem.W.Frag} {mg : Str → Option Value} {base : Heap}
theorem sc_law_fitting : FnScope ["source", "sheet", "spot", "many", "found", "here", "time", "command", "room"] ["source", "sheet", "spot", "many"] (defScope s_fitting) := ⟨rfl, rfl, rfl, by decide +kernel, rfl, by decide +kernel, by decide +kernel⟩
theorem ok_fit {f : Addr} {fd : FuncData} (F : Fun K "_law_fitting" "_law_fitting" s_fitting f fd) (T : TxtFt mg) (c_law_draw : Cal P w K mg base 1 "_law_draw" spDraw) (c_law_command : Cal P w K mg base 3 "_law_command" (spCommand K)) (c_law_moved : Cal P w K mg base 2 "_law_moved" (spLMoved K)) : FnOk P w K mg base CX0 4 f fd ["source", "sheet", "spot", "many"] (spFit K) := by
  refine F.ok sc_law_fitting (fun vs H Q E h => ?_) (fun cdv A outer s H vs Q E hr h => ?_)
  · obtain ⟨a, d, t, b, n, T, r, g, many, rfl, _⟩ := h
    rfl
  · obtain ⟨a, d, t, b, n, tx, r, g, many, rfl, S0, hn, ht, ta, td, nn, t60, hb, r0, r1, g0, m0, m1, k⟩ := h
    refine ⟨_, (pss_cons (ps_par (i := 4) (j := 5) rfl sc_law_fitting.nd rfl rfl (by decide) rfl rfl (pa_cons (pe_lst pa_nil) (pa_cons (pv 2) pa_nil)) (by rfl))
      (pss_cons (ps_for PassesOwn.never rfl (pi_range1 rfl T.range (pa_cons (pe_cal c_law_draw hr (by decide) (by rfl) (pa_cons (pv 0) (pa_cons (pe_op op_add (pv 3) pe_int) pa_nil))) pa_nil)) (pg_name (i := 6) sc_law_fitting.nd rfl (Or.inl rfl)) (pss_cons (ps_set (i := 7) sc_law_fitting.nd rfl (Or.inl rfl) (pe_cal c_law_command hr (by decide) (by rfl) (pa_cons (pv 0) pa_nil)))
      (C8.pss_cut (ps_if (pt_cmpR op_in_seq (pe_ix ix_tup (pv 7) pe_int (fun _ _ => rfl)) (pe_tup (pa_cons pe_str (pa_cons pe_str pa_nil))) (by rfl)) (C8.pss_cut (ps_set (i := 8) sc_law_fitting.nd rfl (Or.inl rfl) (pe_ifExp (pt_cmpR op_eq (pe_ix ix_tup (pv 7) pe_int (fun _ _ => rfl)) pe_str (nomark _)) (pe_op op_sub (pe_op op_sub (pe_callB call_len_seq (by rfl) T.len (by decide +kernel) (pa_cons (pv 1) pa_nil)) pe_int) (pe_ix ix_tup (pv 5) pe_int (fun _ _ => rfl))) (pe_ix ix_tup (pv 5) pe_int (fun _ _ => rfl))))
      (pss_one (ps_set (i := 7) sc_law_fitting.nd rfl (Or.inl rfl) (pe_ifExp (pt_cmpR op_gt (pv 8) pe_int (nomark _)) (pe_tup (pa_cons (pe_ix ix_tup (pv 7) pe_int (fun _ _ => rfl)) (pa_cons (pe_op op_add pe_int (pe_cal c_law_draw hr (by decide) (by rfl) (pa_cons (pv 0) (pa_cons (pv 8) pa_nil)))) pa_nil))) (pe_tup (pa_cons pe_str (pa_cons (pe_op op_add pe_int (pe_cal c_law_draw hr (by decide) (by rfl) (pa_cons (pv 0) (pa_cons pe_int pa_nil)))) pa_nil))))))) pss_nil)
      (pss_cons (ps_set (i := 5) sc_law_fitting.nd rfl (Or.inl rfl) (pe_cal c_law_moved hr (by decide) (by rfl) (pa_cons (pv 1) (pa_cons (pv 5) (pa_cons (pv 7) pa_nil)))))
      (pss_one (ps_expr (pe_bm PySem.F.plainAttrs_list PySem.F.slot_list_append PySem.F.type_list_append mt_append (pv 4) (pa_cons (pv 7) pa_nil))))))))
      (pss_one (ps_ret (pv 4))))), ?_⟩
    refine ⟨(by show 0 ≤ sizeLine; decide), fun fo nfo => ⟨_, rfl, _, _, rfl, ?_⟩⟩
    obtain ⟨foa, fod⟩ := S0.off nfo
    have ft : t ≠ fo := fun z => by rw [← z, ht] at nfo; cases nfo
    have kA : Keep a d H (upd H fo (.lst [])) := Keep.of (new_same nfo)
    have e1 := new_same (o := HO.lst ([] : List V)) nfo
    have hfo : (upd H fo (.lst [])) fo = some (.lst []) := upd_same
    replace S0 := S0.same e1
    replace ht := e1 _ _ ht
    replace hb := seq_t e1 hb
    generalize upd H fo (.lst []) = H1 at kA hfo S0 ht hb ⊢
    refine ⟨_, rfl, _, rfl, _, _, rfl, rfl, a, d, n, _, rfl, S0, by omega, by omega, log9 (a := 20) (by omega) (by decide), fun H2 ct kp2 S2 c0 c1 => ?_⟩
    refine ⟨_, rfl, by omega, by omega, for_range (lo := 0) (n := ct.toNat) (fun i σ H' => ∃ (bh : Addr) (r' : Int) (g' : Option Int) (v6 v7 v8 : Option V) (xs : List V) (cs : List Cmd), σ = [some (.ref a), some (.ref t), some (.ref b), some (.int many), some (.ref fo), some (.ref bh), v6, v7, v8] ∧ Keep a d H H' ∧ Src H' a d (n + 2 + 8 * i) ∧ H' t = some (.lst (tx.map V.int)) ∧
        H' fo = some (.lst xs) ∧ CmdsOf K H' xs cs ∧ AllOk cs ∧ (∀ c ∈ cs, numC c ≤ 10 ^ 30) ∧ cs.length = i ∧ Within cs (-r) (tx.length - 1 - r) ∧ SqT K H' bh [.int r', optV g'] ∧ r' = r + last cs ∧ 0 ≤ r' ∧ r' < tx.length ∧ ge g' 0)
      ⟨b, r, g, none, none, none, [], [], rfl, kA.trans kp2, S2.more (by omega), kp2 _ _ ta td ht, kp2 _ _ foa fod hfo, .nil, (fun _ h => nomatch h), (fun _ h => nomatch h), rfl, (fun i => by rw [List.take_nil]; show -r ≤ 0 ∧ (0 : Int) ≤ _; omega), S0.tup kp2 hb, by show r = r + 0; omega, r0, r1, g0⟩ (fun i σ H3 hi h => ?_) (fun σ H3 h => ?_)⟩
    · obtain ⟨bh, r', g', v6, v7, v8, xs, cs, rfl, kA3, S3, ht3, hf3, hc3, ok3, nb3, lc3, wi3, hb3, er, q0, q1, gg⟩ := h
      refine ⟨_, rfl, a, d, _, rfl, S3, by omega, fun H4 q c kp4 S4 nq hq okc numc => ?_⟩
      refine ⟨fun σ H' => ∃ (q : Addr) (c : Cmd) (v8 : Option V), σ = [some (.ref a), some (.ref t), some (.ref b), some (.int many), some (.ref fo), some (.ref bh), some (.int (0 + (i : Int))), some (.ref q), v8] ∧ Keep a d H3 H' ∧ Src H' a d (n + 9 + 8 * i) ∧ H' q = some (.tup (encC c)) ∧ c.ok ∧ numC c ≤ 10 ^ 30 ∧ 0 ≤ r' + c.dv ∧ r' + c.dv < tx.length, ?_, ?_⟩
      · cases c with
        | home =>
          refine ⟨_, rfl, q, _, 0, _, rfl, rfl, SqT.of hq, rfl, (by show 2 ≤ sizeLine; decide), fun p1 np1 => ?_⟩
          have f1 := new_same (o := HO.tup [V.str "down", .str "up"]) np1
          refine ⟨p1, _, rfl, .inr (SqT.of upd_same), rfl, rfl, false, by decide +kernel, iteF ?_⟩
          exact ⟨q, .home, _, rfl, kp4.trans (Keep.of f1), (S4.same f1).more (by omega), f1 _ _ hq, okc, by omega, (by show 0 ≤ r' + 0; omega), (by show r' + 0 < tx.length; omega)⟩
        | stop =>
          refine ⟨_, rfl, q, _, 0, _, rfl, rfl, SqT.of hq, rfl, (by show 2 ≤ sizeLine; decide), fun p1 np1 => ?_⟩
          have f1 := new_same (o := HO.tup [V.str "down", .str "up"]) np1
          refine ⟨p1, _, rfl, .inr (SqT.of upd_same), rfl, rfl, false, by decide +kernel, iteF ?_⟩
          exact ⟨q, .stop, _, rfl, kp4.trans (Keep.of f1), (S4.same f1).more (by omega), f1 _ _ hq, okc, by omega, (by show 0 ≤ r' + 0; omega), (by show r' + 0 < tx.length; omega)⟩
        | right nn0 =>
          refine ⟨_, rfl, q, _, 0, _, rfl, rfl, SqT.of hq, rfl, (by show 2 ≤ sizeLine; decide), fun p1 np1 => ?_⟩
          have f1 := new_same (o := HO.tup [V.str "down", .str "up"]) np1
          refine ⟨p1, _, rfl, .inr (SqT.of upd_same), rfl, rfl, false, by decide +kernel, iteF ?_⟩
          exact ⟨q, .right nn0, _, rfl, kp4.trans (Keep.of f1), (S4.same f1).more (by omega), f1 _ _ hq, okc, by omega, (by show 0 ≤ r' + 0; omega), (by show r' + 0 < tx.length; omega)⟩
        | left nn0 =>
          refine ⟨_, rfl, q, _, 0, _, rfl, rfl, SqT.of hq, rfl, (by show 2 ≤ sizeLine; decide), fun p1 np1 => ?_⟩
          have f1 := new_same (o := HO.tup [V.str "down", .str "up"]) np1
          refine ⟨p1, _, rfl, .inr (SqT.of upd_same), rfl, rfl, false, by decide +kernel, iteF ?_⟩
          exact ⟨q, .left nn0, _, rfl, kp4.trans (Keep.of f1), (S4.same f1).more (by omega), f1 _ _ hq, okc, by omega, (by show 0 ≤ r' + 0; omega), (by show r' + 0 < tx.length; omega)⟩
        | down nn0 =>
          refine ⟨_, rfl, q, _, 0, _, rfl, rfl, SqT.of hq, rfl, (by show 2 ≤ sizeLine; decide), fun p1 np1 => ?_⟩
          have f1 := new_same (o := HO.tup [V.str "down", .str "up"]) np1
          have h_p1 : (upd H4 p1 (.tup [V.str "down", .str "up"])) p1 = some (.tup [V.str "down", .str "up"]) := upd_same
          replace hq := f1 _ _ hq
          have kp6 := kp4.trans (Keep.of f1)
          have S6 := S4.same f1
          generalize upd H4 p1 (.tup [V.str "down", .str "up"]) = H5 at h_p1 hq kp6 S6 ⊢
          refine ⟨p1, _, rfl, .inr (SqT.of h_p1), rfl, rfl, true, by decide +kernel, iteT ?_⟩
          have ht6 := kp6 _ _ ta td ht3
          have hb6 := S3.tup kp6 hb3
          refine ⟨fun σ H' => σ = [some (.ref a), some (.ref t), some (.ref b), some (.int many), some (.ref fo), some (.ref bh), some (.int (0 + (i : Int))), some (.ref q), some (.int (tx.length - 1 - r'))] ∧ H' = H5, ?_, ?_⟩
          · refine ⟨_, rfl, q, _, 0, _, rfl, rfl, SqT.of hq, rfl, rfl, true, by decide +kernel, iteT ?_⟩
            first
              | exact ⟨_, rfl, bh, _, 0, _, rfl, rfl, hb6, rfl, rfl, rfl⟩
              | (refine ⟨_, rfl, t, _, rfl, .inl (SqL.of ht6), _, _, rfl, rfl, _, rfl, bh, _, 0, _, rfl, rfl, hb6, rfl, _, _, rfl, rfl, ?_, rfl⟩
                 rw [List.length_map]
                 rfl)
          rintro σ H6 ⟨rfl, rfl⟩
          refine ⟨_, rfl, _, _, rfl, rfl, _, rfl, ite2 (fun c => ?_) (fun c => ?_)⟩
          · have c' : (tx.length - 1 - r' : Int) > 0 := of_decide_eq_true c
            refine ⟨_, rfl, q, _, 0, _, rfl, rfl, SqT.of hq, rfl, _, rfl, _, rfl, a, d, _, _, rfl, S6, by omega, by omega, log9 (a := 20) (by omega) (by decide), fun H7 k kp7 S7 k0 k1 => ⟨_, _, rfl, rfl, (by show 2 ≤ sizeLine; decide), fun p np => ?_⟩⟩
            have f8 := new_same (o := HO.tup [V.str "down", .int (1 + k)]) np
            exact ⟨p, .down (1 + k), _, rfl, (kp6.trans kp7).trans (Keep.of f8), (S7.same f8).more (by omega), upd_same, (by show (1 : Int) ≤ 1 + k; omega), (by show 1 + k ≤ 10 ^ 30; omega), (by show 0 ≤ r' + (Cmd.down (1 + k)).dv; simp only [Cmd.dv]; omega), (by show r' + (Cmd.down (1 + k)).dv < tx.length; simp only [Cmd.dv]; omega)⟩
          · refine ⟨_, rfl, a, d, _, 3, rfl, S6, by omega, by decide, by decide, fun H7 k kp7 S7 k0 k1 => ⟨_, _, rfl, rfl, (by show 2 ≤ sizeLine; decide), fun p np => ?_⟩⟩
            have f8 := new_same (o := HO.tup [V.str "right", .int (1 + k)]) np
            exact ⟨p, .right (1 + k), _, rfl, (kp6.trans kp7).trans (Keep.of f8), (S7.same f8).more (by omega), upd_same, (by show (1 : Int) ≤ 1 + k; omega), (by show 1 + k ≤ 10 ^ 30; omega), (by show 0 ≤ r' + 0; omega), (by show r' + 0 < tx.length; omega)⟩
        | up nn0 =>
          refine ⟨_, rfl, q, _, 0, _, rfl, rfl, SqT.of hq, rfl, (by show 2 ≤ sizeLine; decide), fun p1 np1 => ?_⟩
          have f1 := new_same (o := HO.tup [V.str "down", .str "up"]) np1
          have h_p1 : (upd H4 p1 (.tup [V.str "down", .str "up"])) p1 = some (.tup [V.str "down", .str "up"]) := upd_same
          replace hq := f1 _ _ hq
          have kp6 := kp4.trans (Keep.of f1)
          have S6 := S4.same f1
          generalize upd H4 p1 (.tup [V.str "down", .str "up"]) = H5 at h_p1 hq kp6 S6 ⊢
          refine ⟨p1, _, rfl, .inr (SqT.of h_p1), rfl, rfl, true, by decide +kernel, iteT ?_⟩
          have ht6 := kp6 _ _ ta td ht3
          have hb6 := S3.tup kp6 hb3
          refine ⟨fun σ H' => σ = [some (.ref a), some (.ref t), some (.ref b), some (.int many), some (.ref fo), some (.ref bh), some (.int (0 + (i : Int))), some (.ref q), some (.int (r'))] ∧ H' = H5, ?_, ?_⟩
          · refine ⟨_, rfl, q, _, 0, _, rfl, rfl, SqT.of hq, rfl, rfl, false, by decide +kernel, iteF ?_⟩
            first
              | exact ⟨_, rfl, bh, _, 0, _, rfl, rfl, hb6, rfl, rfl, rfl⟩
              | (refine ⟨_, rfl, t, _, rfl, .inl (SqL.of ht6), _, _, rfl, rfl, _, rfl, bh, _, 0, _, rfl, rfl, hb6, rfl, _, _, rfl, rfl, ?_, rfl⟩
                 rw [List.length_map]
                 rfl)
          rintro σ H6 ⟨rfl, rfl⟩
          refine ⟨_, rfl, _, _, rfl, rfl, _, rfl, ite2 (fun c => ?_) (fun c => ?_)⟩
          · have c' : (r' : Int) > 0 := of_decide_eq_true c
            refine ⟨_, rfl, q, _, 0, _, rfl, rfl, SqT.of hq, rfl, _, rfl, _, rfl, a, d, _, _, rfl, S6, by omega, by omega, log9 (a := 20) (by omega) (by decide), fun H7 k kp7 S7 k0 k1 => ⟨_, _, rfl, rfl, (by show 2 ≤ sizeLine; decide), fun p np => ?_⟩⟩
            have f8 := new_same (o := HO.tup [V.str "up", .int (1 + k)]) np
            exact ⟨p, .up (1 + k), _, rfl, (kp6.trans kp7).trans (Keep.of f8), (S7.same f8).more (by omega), upd_same, (by show (1 : Int) ≤ 1 + k; omega), (by show 1 + k ≤ 10 ^ 30; omega), (by show 0 ≤ r' + (Cmd.up (1 + k)).dv; simp only [Cmd.dv]; omega), (by show r' + (Cmd.up (1 + k)).dv < tx.length; simp only [Cmd.dv]; omega)⟩
          · refine ⟨_, rfl, a, d, _, 3, rfl, S6, by omega, by decide, by decide, fun H7 k kp7 S7 k0 k1 => ⟨_, _, rfl, rfl, (by show 2 ≤ sizeLine; decide), fun p np => ?_⟩⟩
            have f8 := new_same (o := HO.tup [V.str "right", .int (1 + k)]) np
            exact ⟨p, .right (1 + k), _, rfl, (kp6.trans kp7).trans (Keep.of f8), (S7.same f8).more (by omega), upd_same, (by show (1 : Int) ≤ 1 + k; omega), (by show 1 + k ≤ 10 ^ 30; omega), (by show 0 ≤ r' + 0; omega), (by show r' + 0 < tx.length; omega)⟩
      rintro σ H5 ⟨q, c, v8, rfl, kp5, S5, hq, okc, numc, in0, in1⟩
      have ht5 := kp5 _ _ ta td ht3
      have hf5 := kp5 _ _ foa fod hf3
      have hb5 := S3.tup kp5 hb3
      have hc5 := S3.cmds kp5 hc3
      refine ⟨_, rfl, _, rfl, _, rfl, t, bh, _, tx, r', g', c, rfl, SqL.of ht5, hb5, ⟨q, rfl, SqT.of hq⟩, q0, q1, okc, by omega, (fun z => by rw [in_text in0 in1] at z; cases z), fun r2 g2 z H6 p6 e6 np6 hp6 => ?_⟩
      rw [in_text in0 in1] at z
      cases z
      have hf6 := e6 _ _ hf5
      have lx := hc5.len
      have qf : q ≠ fo := fun z => by rw [z, hf5] at hq; cases hq
      have pf : p6 ≠ fo := fun z => by rw [z, hf5] at np6; cases np6
      refine ⟨_, rfl, .inl ⟨rfl, _, SqL.of hf6⟩, _, rfl, fo, _, .ref q, rfl, rfl, hf6, lt_line (by omega), ?_⟩
      have ge2 : ge (aim1 (lenAt tx r') g' c) 0 := after_nn (x := (r' + c.dv, aim1 (lenAt tx r') g' c)) nn (cs := [c]) (r := r') (g := g') (fun d hd => by rw [List.mem_singleton.mp hd]; exact okc) gg (by rw [afterL_step, in_text in0 in1]; rfl)
      refine ⟨p6, _, _, _, _, _, xs ++ [.ref q], cs ++ [c], rfl, fun b o n1 n2 hb => by rw [upd_ne (ne_of_none hb nfo)]; exact e6 _ _ (kp5 _ _ n1 n2 (kA3 _ _ n1 n2 hb)), ((S5.same e6).upd foa fod).more (by omega), by rw [upd_ne ft]; exact e6 _ _ ht5, upd_same, pairS ((hc5.same e6).atL hf6) ⟨q, rfl, SqT.of (by rw [upd_ne qf]; exact e6 _ _ hq)⟩, ?_, ?_, by rw [List.length_append, lc3]; rfl, within_snocF wi3 (by omega) (by omega), SqT.of (by rw [upd_ne pf]; exact hp6), by rw [last_snoc]; omega, in0, in1, ge2⟩
      · intro x hx
        rcases List.mem_append.mp hx with h | h
        · exact ok3 x h
        · rw [List.mem_singleton.mp h]
          exact okc
      · intro x hx
        rcases List.mem_append.mp hx with h | h
        · exact nb3 x h
        · rw [List.mem_singleton.mp h]
          exact numc
    · obtain ⟨bh, r', g', v6, v7, v8, xs, cs, rfl, kA3, S3, ht3, hf3, hc3, ok3, nb3, lc3, wi3, hb3, er, q0, q1, gg⟩ := h
      exact ⟨_, rfl, k H3 fo xs cs kA3 (S3.more (by omega)) foa fod nfo hf3 hc3 ok3 nb3 (by omega) wi3⟩
end
end Gc

namespace Gc
open PySem L2
abbrev s_reach : Stmt := top 21
abbrev s_require : Stmt := top 9999
def rstep (s : Int × Int × Int) (c : Cmd) : Int × Int × Int :=
  (if s.2.2 + c.dv < s.1 then s.2.2 + c.dv else s.1, if s.2.2 + c.dv > s.2.1 then s.2.2 + c.dv else s.2.1, s.2.2 + c.dv)
def rchM (cs : List Cmd) : Int × Int × Int := cs.foldl rstep (0, 0, 0)
theorem rch_more {cs : List Cmd} {i : Nat} {c : Cmd} (h : cs[i]? = some c) : rchM (cs.take (i + 1)) = rstep (rchM (cs.take i)) c := by
  unfold rchM
  rw [take_snoc h, List.foldl_append]
  rfl
theorem rch_last : ∀ (cs : List Cmd) (s : Int × Int × Int), (cs.foldl rstep s).2.2 = s.2.2 + last cs
  | [], s => by show s.2.2 = s.2.2 + 0; omega
  | c :: cs, s => by
    show (cs.foldl rstep (rstep s c)).2.2 = s.2.2 + (c.dv + last cs)
    rw [rch_last cs]
    show s.2.2 + c.dv + last cs = _
    omega
def spReach (K : PySem.W.Frag) : Sp := fun vs H Q _ => ∃ (l : Addr) (xs : List V) (cs : List Cmd), vs = [.ref l] ∧ SqL K H l xs ∧ CmdsOf K H xs cs ∧ AllOk cs ∧ cs.length ≤ 10000 ∧
  ∀ (H' : Hp) (p : Addr), Same H H' → H p = none → H' p = some (.tup [.int (rchM cs).1, .int (rchM cs).2.1, .int (last cs)]) → Q (.ref p) H'
def spNum : Sp := fun vs H Q _ => ∃ n k : Int, vs = [.int n, .int k] ∧ k ≤ n ∧ Q .non H
def spReq : Sp := fun vs H Q _ => ∃ (d : Addr) (b : Ps) (o v : Int), vs = [.ref d, .int o, .int v] ∧ H d = some (.dK (dkI b)) ∧ b.length ≤ 10000 ∧ Q .non (upd H d (.dK (dkI (req b o v))))
/-- the tuple of a box, its list and its pairs, all new -/
def BoxAt (H H' : Hp) (p : Addr) (st : Option Int) (L : Ps) : Prop := ∃ (m : Addr) (ts : List Addr), H p = none ∧ H m = none ∧ H' p = some (.tup [optV st, .ref m]) ∧ H' m = some (.lst (ts.map V.ref)) ∧
  Paired (fun (t : Addr) (q : Int × Int) => H' t = some (.tup [.int q.1, .int q.2])) ts L
def spBox (K : PySem.W.Frag) : Sp := fun vs H Q _ => ∃ (l : Addr) (xs : List V) (cs : List Cmd) (goal : Int), vs = [.ref l, .int goal] ∧ SqL K H l xs ∧ CmdsOf K H xs cs ∧ AllOk cs ∧ cs.length ≤ 10000 ∧ 1 ≤ goal ∧
  (boxM cs goal = none → ∀ H', Same H H' → Q .non H') ∧ ∀ st L, boxM cs goal = some (st, L) → ∀ H' p, Same H H' → BoxAt H H' p st L → Q (.ref p) H'
section
variable {P : Program} {w : World} {K : PySem.W.Frag} {mg : Str → Option Value} {base : Heap} {wo wn : Addr}
theorem sc_reach : FnScope ["commands", "least", "greatest", "last", "command"] ["commands"] (defScope s_reach) := ⟨rfl, rfl, rfl, by decide +kernel, rfl, by decide +kernel, by decide +kernel⟩
theorem ok_reach {f : Addr} {fd : FuncData} (F : Fun K "reach" "reach" s_reach f fd) (T : TxtB K mg wo wn) (c_check_commands : Cal P w K mg base 3 "check_commands" (spCheck K)) (c_row_change : Cal P w K mg base 1 "row_change" (spRow K)) :
    FnOk P w K mg base CX0 4 f fd ["commands"] (spReach K) := by
  refine F.ok sc_reach (fun vs H Q E h => ?_) (fun cdv A outer s H vs Q E hr h => ?_)
  · obtain ⟨l, xs, cs, rfl, _⟩ := h
    rfl
  · obtain ⟨l, xs, cs, rfl, hl, hcs, hk, hn, k⟩ := h
    refine ⟨_, (pss_cons (ps_expr (pe_cal c_check_commands hr (by decide) (by rfl) (pa_cons (pv 0) pa_nil)))
      (pss_cons (ps_asg3 pe_int (pg_name (i := 1) sc_reach.nd rfl (Or.inl rfl)) (pg_name (i := 2) sc_reach.nd rfl (Or.inl rfl)) (pg_name (i := 3) sc_reach.nd rfl (Or.inl rfl)))
      (pss_cons (ps_for PassesOwn.never rfl (pi_list (pv 0)) (pg_name (i := 4) sc_reach.nd rfl (Or.inl rfl)) (pss_cons (ps_aug (i := 3) sc_reach.nd rfl (Or.inl rfl) (pe_cal c_row_change hr (by decide) (by rfl) (pa_cons (pv 4) pa_nil)) ip_add)
      (pss_cons (ps_set (i := 1) sc_reach.nd rfl (Or.inl rfl) (pe_callB (call_min2 rfl) (by rfl) T.min (by decide +kernel) (pa_cons (pv 1) (pa_cons (pv 3) pa_nil))))
      (pss_one (ps_set (i := 2) sc_reach.nd rfl (Or.inl rfl) (pe_callB (call_max2 rfl) (by rfl) T.max (by decide +kernel) (pa_cons (pv 2) (pa_cons (pv 3) pa_nil))))))))
      (pss_one (ps_ret (pe_tup (pa_cons (pv 1) (pa_cons (pv 2) (pa_cons (pv 3) pa_nil))))))))), ?_⟩
    refine ⟨_, rfl, l, xs, cs, rfl, hl, hcs, hk, hn, fun H1 e1 => ?_⟩
    refine ⟨_, rfl, l, rfl, ⟨_, e1.seq hl⟩, for_list (K := K) (a := l) (xs := xs) (fun i σ H' => ∃ v : Option V, σ = [some (.ref l), some (.int (rchM (cs.take i)).1), some (.int (rchM (cs.take i)).2.1), some (.int (rchM (cs.take i)).2.2), v] ∧ Same H H')
      ⟨none, rfl, e1⟩ (fun i σ H' _ ⟨_, _, e⟩ => e.seq hl) (fun i x σ H2 hi h => ?_) (fun σ H2 h => ?_)⟩
    · obtain ⟨v, rfl, e⟩ := h
      obtain ⟨c, hc, hca⟩ := paired_at hcs hi
      refine ⟨_, rfl, _, rfl, x, c, rfl, hca.same e, _, _, rfl, rfl, ?_⟩
      refine ⟨_, rfl, _, rfl, _, _, rfl, ?_⟩
      refine ⟨_, rfl, _, rfl, _, _, rfl, ?_⟩
      refine ⟨some x, ?_, e⟩
      rw [rch_more hc]
      rfl
    · obtain ⟨v, rfl, e⟩ := h
      have el : (rchM (cs.take xs.length)).2.2 = last cs := by
        rw [hcs.len, List.take_length]
        unfold rchM
        rw [rch_last]
        show (0 : Int) + last cs = last cs
        omega
      rw [el, hcs.len, List.take_length]
      refine ⟨_, rfl, _, rfl, _, rfl, (by show 3 ≤ sizeLine; decide), fun p hp => ?_⟩
      exact k _ p (same_upd e hp) (e.free hp) upd_same
end
end Gc

/-! the program's checks, where they may raise -/
namespace Gc
open PySem L2
/-- a tuple that may be no command -/
inductive Raw where
  | nil
  | one (n : Str)
  | two (n : Str) (k : Int)
  | three (n : Str) (k j : Int)
def encR : Raw → List V
  | .nil => []
  | .one n => [.str n]
  | .two n k => [.str n, .int k]
  | .three n k j => [.str n, .int k, .int j]
def withN : List V := [.str "down", .str "up", .str "right", .str "left"]
def withoutN : List V := [.str "home", .str "end"]
def Raw.good : Raw → Bool
  | .one n => inV (.str n) withoutN
  | .two n k => inV (.str n) withN && decide (1 ≤ k)
  | _ => false
def Raw.cmd : Raw → Cmd
  | .one n => if n = "home" then .home else .stop
  | .two n k => if n = "down" then .down k else if n = "up" then .up k else if n = "right" then .right k else .left k
  | _ => .home
theorem in_two {n : Str} (h : inV (.str n) withoutN = true) : n = "home" ∨ n = "end" := by
  simp only [inV, withoutN, List.any_cons, List.any_nil, eqV, Bool.or_false, Bool.or_eq_true, beq_iff_eq] at h
  rcases h with h | h
  · exact .inl h.symm
  · exact .inr h.symm
theorem in_four {n : Str} (h : inV (.str n) withN = true) : n = "down" ∨ n = "up" ∨ n = "right" ∨ n = "left" := by
  simp only [inV, withN, List.any_cons, List.any_nil, eqV, Bool.or_false, Bool.or_eq_true, beq_iff_eq] at h
  rcases h with h | h | h | h
  · exact .inl h.symm
  · exact .inr (.inl h.symm)
  · exact .inr (.inr (.inl h.symm))
  · exact .inr (.inr (.inr h.symm))
theorem Raw.enc {r : Raw} (h : r.good = true) : encR r = encC r.cmd ∧ r.cmd.ok := by
  cases r with
  | nil => cases h
  | one n =>
    rcases in_two h with e | e <;> subst e
    · exact ⟨rfl, trivial⟩
    · exact ⟨rfl, trivial⟩
  | two n k =>
    obtain ⟨h1, h2⟩ := Bool.and_eq_true_iff.mp h
    have hk := of_decide_eq_true h2
    rcases in_four h1 with e | e | e | e <;> subst e
    · exact ⟨rfl, hk⟩
    · exact ⟨rfl, hk⟩
    · exact ⟨rfl, hk⟩
    · exact ⟨rfl, hk⟩
  | three n k j => cases h
def RawAt (K : PySem.W.Frag) (H : Hp) (v : V) (r : Raw) : Prop := ∃ a, v = .ref a ∧ SqT K H a (encR r)
def RawsOf (K : PySem.W.Frag) (H : Hp) (xs : List V) (rs : List Raw) : Prop := Paired (RawAt K H) xs rs
theorem RawAt.same {K : PySem.W.Frag} {H H' : Hp} {v : V} {r : Raw} (e : Same H H') (h : RawAt K H v r) : RawAt K H' v r := by
  obtain ⟨a, rfl, h⟩ := h
  exact ⟨a, rfl, seq_t e h⟩
theorem RawsOf.same {K : PySem.W.Frag} {H H' : Hp} {xs : List V} {rs : List Raw} (e : Same H H') (h : RawsOf K H xs rs) : RawsOf K H' xs rs := Paired.mapP h fun _ _ q => q.same e
/-- the index of the first tuple that is no command -/
def badAt (rs : List Raw) : Option Nat := rs.findIdx? fun r => !r.good
theorem bad_at {rs : List Raw} {i : Nat} {r : Raw} (h : rs[i]? = some r) (g : r.good = false) (b : ∀ j r, j < i → rs[j]? = some r → r.good = true) : badAt rs = some i := by
  unfold badAt
  rw [List.findIdx?_eq_some_iff_getElem]
  obtain ⟨hi, e⟩ := List.getElem?_eq_some_iff.mp h
  refine ⟨hi, by rw [e, g]; rfl, fun j hj => ?_⟩
  have := b j rs[j] hj (List.getElem?_eq_getElem (by omega))
  rw [this]
  decide
theorem bad_none {rs : List Raw} (b : ∀ j r, j < rs.length → rs[j]? = some r → r.good = true) : badAt rs = none := by
  unfold badAt
  rw [List.findIdx?_eq_none_iff]
  intro r hr
  obtain ⟨j, hj, e⟩ := List.mem_iff_getElem.mp hr
  rw [b j r hj (by rw [List.getElem?_eq_getElem hj, e])]
  rfl
theorem bad_good {rs : List Raw} (h : badAt rs = none) : ∀ r ∈ rs, r.good = true := by
  unfold badAt at h
  rw [List.findIdx?_eq_none_iff] at h
  intro r hr
  have := h r hr
  cases e : r.good with
  | true => rfl
  | false =>
    rw [e] at this
    cases this
theorem raws_cmds {K : PySem.W.Frag} {H : Hp} : ∀ {xs : List V} {rs : List Raw}, RawsOf K H xs rs → (∀ r ∈ rs, r.good = true) → CmdsOf K H xs (rs.map Raw.cmd) ∧ AllOk (rs.map Raw.cmd)
  | [], [], _, _ => ⟨.nil, fun _ h => nomatch h⟩
  | _ :: _, r :: rs, .cons ⟨a, e, h⟩ q, g => by
    obtain ⟨h1, h2⟩ := raws_cmds q fun r hr => g r (List.mem_cons_of_mem _ hr)
    obtain ⟨e1, e2⟩ := Raw.enc (g r List.mem_cons_self)
    refine ⟨.cons ⟨a, e, e1 ▸ h⟩ h1, fun c hc => ?_⟩
    rcases List.mem_cons.mp hc with z | z
    · rw [z]
      exact e2
    · exact h2 c z
def negAt (T : List Int) : Option Nat := T.findIdx? fun x => decide (x < 0)
theorem neg_at {T : List Int} {i : Nat} {x : Int} (h : T[i]? = some x) (g : x < 0) (b : ∀ j x, j < i → T[j]? = some x → 0 ≤ x) : negAt T = some i := by
  unfold negAt
  rw [List.findIdx?_eq_some_iff_getElem]
  obtain ⟨hi, e⟩ := List.getElem?_eq_some_iff.mp h
  refine ⟨hi, by rw [e]; exact decide_eq_true g, fun j hj => ?_⟩
  have := b j T[j] hj (List.getElem?_eq_getElem (by omega))
  simp only [decide_eq_true_eq]
  omega
theorem neg_none {T : List Int} (b : ∀ j x, j < T.length → T[j]? = some x → 0 ≤ x) : negAt T = none := by
  unfold negAt
  rw [List.findIdx?_eq_none_iff]
  intro x hx
  obtain ⟨j, hj, e⟩ := List.mem_iff_getElem.mp hx
  have := b j x hj (by rw [List.getElem?_eq_getElem hj, e])
  exact decide_eq_false (by omega)
theorem neg_nn {T : List Int} (h : negAt T = none) : ∀ x ∈ T, 0 ≤ x := by
  unfold negAt at h
  rw [List.findIdx?_eq_none_iff] at h
  intro x hx
  have := of_decide_eq_false (h x hx)
  omega
def spCountX : Sp := fun vs H Q _ => ∃ n : Int, vs = [.int n] ∧ Q (.bl (decide (1 ≤ n))) H
def spIsRaw (K : PySem.W.Frag) : Sp := fun vs H Q _ => ∃ (v : V) (r : Raw), vs = [v] ∧ RawAt K H v r ∧ Q (.bl r.good) H
def spCheckX (K : PySem.W.Frag) (CM : Addr) : Sp := fun vs H Q E => ∃ (l : Addr) (xs : List V) (rs : List Raw), vs = [.ref l] ∧ SqL K H l xs ∧ RawsOf K H xs rs ∧
  (∀ i, badAt rs = some i → Err E CM (.int i) H) ∧ (badAt rs = none → ∀ H', Same H H' → Q .non H')
def spTextX (K : PySem.W.Frag) (CT : Addr) : Sp := fun vs H Q E => ∃ (t : Addr) (T : List Int), vs = [.ref t] ∧ SqL K H t (T.map V.int) ∧ (T = [] → Err E CT .non H) ∧ (T ≠ [] → ∀ i, negAt T = some i → Err E CT (.int i) H) ∧
  (T ≠ [] → negAt T = none → ∀ H', Same H H' → Q .non H')
def CurOk (n r : Int) (g : Option Int) : Prop := 0 ≤ r ∧ r < n ∧ ge g 0
def spCursorX (K : PySem.W.Frag) (CC : Addr) : Sp := fun vs H Q E => ∃ (n r : Int) (g : Option Int) (c : Addr), vs = [.int n, .ref c] ∧ SqT K H c [.int r, optV g] ∧ (¬ CurOk n r g → Err E CC (.ref c) H) ∧ (CurOk n r g → Q .non H)
def spNumX (CN : Addr) : Sp := fun vs H Q E => ∃ n k : Int, vs = [.int n, .int k] ∧ (n < k → Err E CN (.int n) H) ∧ (k ≤ n → Q .non H)
section
variable {P : Program} {w : World} {K : PySem.W.Frag} {mg : Str → Option Value} {base : Heap} {wo wn CT CC CM CN : Addr}
theorem ok_is_countX {f : Addr} {fd : FuncData} (F : Fun K "is_count" "is_count" s_is_count f fd) (T : TxtB K mg wo wn) : FnOk P w K mg base CX0 1 f fd ["number"] spCountX := by
  refine F.ok sc_is_count (fun vs H Q E h => ?_) (fun cdv A outer s H vs Q E hr h => ?_)
  · obtain ⟨n, rfl, _⟩ := h
    rfl
  · obtain ⟨n, rfl, k⟩ := h
    refine ⟨_, (pss_one (ps_ret (pe_and (pe_callB call_isi (by rfl) T.isinstance (by decide +kernel) (pa_cons (pv 0) (pa_cons (pe_bltn (v := .ty "int") (u := .type "int") (by rfl) T.int (by decide +kernel) rfl) pa_nil))) (pe_and (pe_not (pe_callB call_isi (by rfl) T.isinstance (by decide +kernel) (pa_cons (pv 0) (pa_cons (pe_bltn (v := .ty "bool") (u := .type "bool") (by rfl) T.bool (by decide +kernel) rfl) pa_nil)))) (pe_one (pe_cmpR op_ge (pv 0) pe_int (nomark _))))))), ?_⟩
    refine ⟨_, rfl, _, _, _, _, _, rfl, .ty "int", .base (.int n), kit_ty (show kitB "int" "int" = some true by decide +kernel), _, rfl, iteT ?_⟩
    refine ⟨_, rfl, _, _, _, _, _, rfl, .ty "bool", .base (.int n), kit_ty (show kitB "int" "bool" = some false by decide +kernel), _, rfl, _, rfl, iteT ?_⟩
    exact ⟨_, rfl, _, _, rfl, rfl, k⟩
theorem ok_is_commandX {f : Addr} {fd : FuncData} (F : Fun K "is_command" "is_command" s_is_command f fd) (T : TxtB K mg wo wn) (c_is_count : Cal P w K mg base 1 "is_count" spCountX) : FnOk P w K mg base CX0 2 f fd ["command"] (spIsRaw K) := by
  refine F.ok sc_is_command (fun vs H Q E h => ?_) (fun cdv A outer s H vs Q E hr h => ?_)
  · obtain ⟨v, c, rfl, _⟩ := h
    rfl
  · obtain ⟨v, r, rfl, ⟨a, rfl, ha⟩, k⟩ := h
    refine ⟨_, (pss_cons (ps_if (pt_cmpR op_eq (pe_callB call_len_seq (by rfl) T.len (by decide +kernel) (pa_cons (pv 0) pa_nil)) pe_int (nomark _)) (pss_one (ps_ret (pe_cmpR op_in_seq (pe_ix ix_tup (pv 0) pe_int (fun _ _ => rfl)) (pe_glob (v := .ref wo) (by rfl) T.g_WITHOUT_NUMBER rfl) (by rfl)))) pss_nil)
      (pss_one (ps_ret (pe_and (pe_cmpR op_eq (pe_callB call_len_seq (by rfl) T.len (by decide +kernel) (pa_cons (pv 0) pa_nil)) pe_int (nomark _)) (pe_and (pe_cmpR op_in_seq (pe_ix ix_tup (pv 0) pe_int (fun _ _ => rfl)) (pe_glob (v := .ref wn) (by rfl) T.g_WITH_NUMBER rfl) (by rfl)) (pe_one (pe_cal c_is_count hr (by decide) (by rfl) (pa_cons (pe_ix ix_tup (pv 0) pe_int (fun _ _ => rfl)) pa_nil)))))))), ?_⟩
    cases r with
    | nil =>
      refine ⟨_, rfl, a, _, rfl, .inr ha, rfl, _, rfl, iteF ?_⟩
      exact ⟨_, rfl, a, _, rfl, .inr ha, rfl, _, rfl, iteF k⟩
    | one n =>
      refine ⟨_, rfl, a, _, rfl, .inr ha, rfl, _, rfl, iteT ?_⟩
      refine ⟨_, rfl, a, _, 0, _, rfl, rfl, ha, rfl, wo, _, rfl, .inr (T.tWO _), rfl, rfl, ?_⟩
      rw [if_neg Bool.false_ne_true]
      exact k
    | two n j =>
      refine ⟨_, rfl, a, _, rfl, .inr ha, rfl, _, rfl, iteF ?_⟩
      refine ⟨_, rfl, a, _, rfl, .inr ha, rfl, _, rfl, iteT ?_⟩
      refine ⟨_, rfl, a, _, 0, _, rfl, rfl, ha, rfl, wn, _, rfl, .inr (T.tWN _), rfl, rfl, inV (.str n) withN, rfl, ?_⟩
      cases hb : inV (.str n) withN with
      | true =>
        refine iteT ⟨_, rfl, a, _, 1, _, rfl, rfl, ha, rfl, j, rfl, ?_⟩
        have e : Raw.good (.two n j) = decide (1 ≤ j) := by
          show (inV (.str n) withN && decide (1 ≤ j)) = _
          rw [hb, Bool.true_and]
        rw [e] at k
        exact k
      | false =>
        refine iteF ?_
        have e : Raw.good (.two n j) = false := by
          show (inV (.str n) withN && decide (1 ≤ j)) = _
          rw [hb, Bool.false_and]
        rw [e] at k
        exact k
    | three n j i =>
      refine ⟨_, rfl, a, _, rfl, .inr ha, rfl, _, rfl, iteF ?_⟩
      exact ⟨_, rfl, a, _, rfl, .inr ha, rfl, _, rfl, iteF k⟩
theorem ok_check_commandsX {f : Addr} {fd : FuncData} (F : Fun K "check_commands" "check_commands" s_check_commands f fd) (T : TxtB K mg wo wn) (c_is_command : Cal P w K mg base 2 "is_command" (spIsRaw K))
    (e_InvalidCommand : ErrC P w K mg base "InvalidCommand" CM) : FnOk P w K mg base (L2N.CX P w) 3 f fd ["commands"] (spCheckX K CM) := by
  refine F.okN sc_check_commands (fun vs H Q E h => ?_) (fun cdv A outer s H vs Q E hr h => ?_)
  · obtain ⟨l, xs, rs, rfl, _⟩ := h
    rfl
  · obtain ⟨l, xs, rs, rfl, hl, hrs, kb, kg⟩ := h
    refine ⟨_, (pss_one (ps_for (passes_of rfl) rfl (pi_enum (by rfl) T.enumerate (pa_cons (pv 0) pa_nil)) (pg_tup rfl (pgs_cons (pg_name (i := 1) sc_check_commands.nd rfl (Or.inl rfl)) (pgs_cons (pg_name (i := 2) sc_check_commands.nd rfl (Or.inl rfl)) pgs_nil))) (pss_one (ps_if (pt_not (pt_val (pe_cal c_is_command hr (by decide) (by rfl) (pa_cons (pv 2) pa_nil)))) (pss_one (ps_raiseN rfl e_InvalidCommand hr (by decide) (L2N.takes_of rfl rfl rfl rfl) (pv 1) (by rfl))) pss_nil)))), ?_⟩
    refine ⟨_, rfl, l, xs, rfl, hl, for_it (walk_enum (K := K) (a := l) (xs := xs)) (fun i σ H' => ∃ v1 v2 : Option V, σ = [some (.ref l), v1, v2] ∧ Same H H' ∧ ∀ j r, j < i → rs[j]? = some r → r.good = true)
      ⟨none, none, rfl, Same.refl H, fun j r h => absurd h (Nat.not_lt_zero _)⟩ (fun i σ H' _ ⟨_, _, _, e, _⟩ => e.seq hl) (fun i x σ H1 H2 hi h y => ?_) (fun σ H1 h => ?_)⟩
    · obtain ⟨v1, v2, rfl, e, gd⟩ := h
      obtain ⟨T1, x1, y1, rfl, nT, rfl, e1, e2⟩ := y
      obtain rfl : V.int (i : Nat) = x1 := Option.some.inj e1
      obtain ⟨r, hr1, hra⟩ := paired_at hrs e2
      have eT : Same H (upd H1 T1 (.tup [.int (i : Nat), y1])) := same_upd e nT
      refine ⟨T1, _, rfl, SqT.of upd_same, rfl, _, _, rfl, _, _, rfl, rfl, ?_⟩
      refine ⟨_, rfl, y1, r, rfl, hra.same eT, _, rfl, ?_⟩
      cases hg : r.good with
      | true =>
        refine iteF ⟨_, _, rfl, eT, fun j r' hj hr' => ?_⟩
        by_cases z : j = i
        · rw [z, hr1] at hr'
          cases hr'
          exact hg
        · exact gd j r' (by omega) hr'
      | false =>
        refine iteT ⟨_, rfl, Err.ask eT ?_⟩
        have := kb i (bad_at hr1 hg gd)
        exact this
    · obtain ⟨v1, v2, rfl, e, gd⟩ := h
      refine kg (bad_none fun j r hj hr' => gd j r ?_ hr') _ e
      rw [Paired.length hrs]
      exact hj
theorem ok_check_textX {f : Addr} {fd : FuncData} (F : Fun K "check_text" "check_text" s_check_text f fd) (T : TxtB K mg wo wn) (e_InvalidText : ErrC P w K mg base "InvalidText" CT) : FnOk P w K mg base (L2N.CX P w) 3 f fd ["text"] (spTextX K CT) := by
  refine F.okN sc_check_text (fun vs H Q E h => ?_) (fun cdv A outer s H vs Q E hr h => ?_)
  · obtain ⟨t, T, rfl, _⟩ := h
    rfl
  · obtain ⟨t, tx, rfl, ht, k0, kn, kg⟩ := h
    refine ⟨_, (pss_cons (ps_if (pt_not (pt_truth (pv 0) (fun _ => rfl))) (pss_one (ps_raiseN rfl e_InvalidText hr (by decide) (L2N.takes_of rfl rfl rfl rfl) pe_non (by rfl))) pss_nil)
      (pss_one (ps_for (passes_of rfl) rfl (pi_enum (by rfl) T.enumerate (pa_cons (pv 0) pa_nil)) (pg_tup rfl (pgs_cons (pg_name (i := 1) sc_check_text.nd rfl (Or.inl rfl)) (pgs_cons (pg_name (i := 2) sc_check_text.nd rfl (Or.inl rfl)) pgs_nil))) (pss_one (ps_if (pt_cmpR op_lt (pv 2) pe_int (nomark _)) (pss_one (ps_raiseN rfl e_InvalidText hr (by decide) (L2N.takes_of rfl rfl rfl rfl) (pv 1) (by rfl))) pss_nil))))), ?_⟩
    cases tx with
    | nil =>
      refine ⟨_, rfl, false, .inl ⟨_, ht, rfl⟩, iteT ?_⟩
      exact Err.ask (Same.refl H) (k0 rfl)
    | cons z0 zs =>
      have kn' := kn (by simp)
      have kg' := kg (by simp)
      generalize hT : z0 :: zs = tx at *
      refine ⟨_, rfl, true, .inl ⟨_, ht, by rw [← hT]; rfl⟩, iteF ?_⟩
      refine ⟨_, rfl, t, _, rfl, ht, for_it (walk_enum (K := K) (a := t) (xs := tx.map V.int)) (fun i σ H' => ∃ v1 v2 : Option V, σ = [some (.ref t), v1, v2] ∧ Same H H' ∧ ∀ j x, j < i → tx[j]? = some x → 0 ≤ x)
        ⟨none, none, rfl, Same.refl H, fun j r h => absurd h (Nat.not_lt_zero _)⟩ (fun i σ H' _ ⟨_, _, _, e, _⟩ => e.seq ht) (fun i x σ H1 H2 hi h y => ?_) (fun σ H1 h => ?_)⟩
      · obtain ⟨v1, v2, rfl, e, gd⟩ := h
        obtain ⟨T1, x1, y1, rfl, nT, rfl, e1, e2⟩ := y
        obtain rfl : V.int (i : Nat) = x1 := Option.some.inj e1
        obtain ⟨z, hz, rfl⟩ : ∃ z, tx[i]? = some z ∧ y1 = .int z := by
          have e3 : (tx.map V.int)[i]? = some y1 := e2
          rw [List.getElem?_map] at e3
          cases q : tx[i]? with
          | none =>
            rw [q] at e3
            cases e3
          | some z =>
            rw [q] at e3
            exact ⟨z, rfl, (Option.some.inj e3).symm⟩
        have eT : Same H (upd H1 T1 (.tup [.int i, .int z])) := same_upd e nT
        refine ⟨T1, _, rfl, SqT.of upd_same, rfl, _, _, rfl, _, _, rfl, rfl, ?_⟩
        refine ⟨_, rfl, _, _, rfl, rfl, _, rfl, ite2 (fun c => ?_) (fun c => ?_)⟩
        · exact ⟨_, rfl, Err.ask eT (kn' i (neg_at hz (of_decide_eq_true c) gd))⟩
        · refine ⟨_, _, rfl, eT, fun j x hj hx => ?_⟩
          by_cases q : j = i
          · rw [q, hz] at hx
            cases hx
            have : ¬ z < 0 := fun l => c (decide_eq_true l)
            omega
          · exact gd j x (by omega) hx
      · obtain ⟨v1, v2, rfl, e, gd⟩ := h
        refine kg' (neg_none fun j x hj hx => gd j x ?_ hx) _ e
        rw [List.length_map]
        exact hj
theorem ok_check_cursorX {f : Addr} {fd : FuncData} (F : Fun K "check_cursor" "check_cursor" s_check_cursor f fd) (e_InvalidCursor : ErrC P w K mg base "InvalidCursor" CC) : FnOk P w K mg base (L2N.CX P w) 3 f fd ["lines", "cursor"] (spCursorX K CC) := by
  refine F.okN sc_check_cursor (fun vs H Q E h => ?_) (fun cdv A outer s H vs Q E hr h => ?_)
  · obtain ⟨n, r, g, c, rfl, _⟩ := h
    rfl
  · obtain ⟨n, r, g, c, rfl, hc, kb, kg⟩ := h
    refine ⟨_, (pss_cons (ps_asg (pv 1) (pg_tup rfl (pgs_cons (pg_name (i := 2) sc_check_cursor.nd rfl (Or.inl rfl)) (pgs_cons (pg_name (i := 3) sc_check_cursor.nd rfl (Or.inl rfl)) pgs_nil))))
      (pss_one (ps_if (PW.pt (pw_or (pt_not (pt_chain op_le op_lt pe_int (pv 2) (pv 0))) (pw_or1 (PW.pt (pw_and (pt_cmpR op_notN (pv 3) pe_non (nomark _)) (pw_and1 (pt_cmpR op_lt (pv 3) pe_int (nomark _)))))))) (pss_one (ps_raiseN rfl e_InvalidCursor hr (by decide) (L2N.takes_of rfl rfl rfl rfl) (pv 1) (by rfl))) pss_nil))), ?_⟩
    have bad : ¬ CurOk n r g → rRaise CC E (.ref c) H := fun z => Err.ask (Same.refl H) (kb z)
    refine ⟨_, rfl, c, _, rfl, hc, rfl, _, _, rfl, _, _, rfl, rfl, ?_⟩
    refine ⟨_, rfl, _, _, rfl, rfl, _, rfl, ite2 (fun c0 => ?_) (fun c0 => ?_)⟩
    · refine ⟨_, rfl, _, _, rfl, rfl, _, rfl, ?_⟩
      by_cases c1 : r < n
      · refine iteN1 c1 ?_
        cases g with
        | none => exact ⟨_, rfl, rfl, _, rfl, iteF (iteF (kg ⟨of_decide_eq_true c0, c1, ge_none 0⟩))⟩
        | some y =>
          refine ⟨_, rfl, rfl, _, rfl, iteT ?_⟩
          refine ⟨_, rfl, _, _, rfl, rfl, _, rfl, ite2 (fun c2 => ?_) (fun c2 => ?_)⟩
          · refine ⟨_, rfl, bad fun z => ?_⟩
            have := ge_some.mp z.2.2
            have := of_decide_eq_true c2
            omega
          · have c2' : ¬ y < 0 := fun l => c2 (decide_eq_true l)
            exact kg ⟨of_decide_eq_true c0, c1, ge_some.mpr (by omega)⟩
      · refine iteN0 c1 ?_
        exact ⟨_, rfl, bad fun z => c1 z.2.1⟩
    · refine ⟨_, rfl, ?_⟩
      refine iteT (B := _) ?_
      exact ⟨_, rfl, bad fun z => c0 (decide_eq_true z.1)⟩
end
end Gc

/-! run of invalid arguments -/
namespace Gc
open PySem L2
/-- the class and the value of the error of invalid arguments of run -/
inductive BadRun (b : Addr) (T : List Int) (r : Int) (g : Option Int) (rs : List Raw) : Nat → V → Prop where
  | text0 : T = [] → BadRun b T r g rs 0 .non
  | text (i : Nat) : T ≠ [] → negAt T = some i → BadRun b T r g rs 0 (.int i)
  | cursor : T ≠ [] → negAt T = none → ¬ CurOk T.length r g → BadRun b T r g rs 1 (.ref b)
  | command (i : Nat) : T ≠ [] → negAt T = none → CurOk T.length r g → badAt rs = some i → BadRun b T r g rs 2 (.int i)
def spRunB (K : PySem.W.Frag) (cs : Nat → Addr) : Sp := fun vs H Q E => ∃ (t b l : Addr) (T : List Int) (r : Int) (g : Option Int) (xs : List V) (rs : List Raw) (i : Nat) (v : V), vs = [.ref t, .ref b, .ref l] ∧ SqL K H t (T.map V.int) ∧ SqT K H b [.int r, optV g] ∧ SqL K H l xs ∧ RawsOf K H xs rs ∧ BadRun b T r g rs i v ∧ Err E (cs i) v H
def spRunU (K : PySem.W.Frag) (cs : Nat → Addr) : Sp := fun vs H Q E => spRunB K cs vs H Q E ∨ spRunI K (cs 3) vs H Q E
theorem fnok_or2 {P : Program} {w : World} {K : PySem.W.Frag} {mg : Str → Option Value} {base : Heap} {C : CXT} {k : Nat} {f : Addr} {fd : FuncData} {ps : List Str} {s1 s2 : Sp} (F1 : FnOk P w K mg base C k f fd ps s1) (F2 : FnOk P w K mg base C k f fd ps s2) : FnOk P w K mg base C k f fd ps (fun vs H Q E => s1 vs H Q E ∨ s2 vs H Q E) :=
  ⟨fun vs H Q E h => h.elim (F1.len vs H Q E) (F2.len vs H Q E), fun A outer s H args us vs Q E hr he hb hv hs => hs.elim (F1.run A outer s H args us vs Q E hr he hb hv) (F2.run A outer s H args us vs Q E hr he hb hv)⟩
section
variable {P : Program} {w : World} {K : PySem.W.Frag} {mg : Str → Option Value} {base : Heap} {wo wn : Addr} {cs : Nat → Addr}
theorem ok_runB {f : Addr} {fd : FuncData} (F : Fun K "run" "run" s_run f fd) (T : TxtB K mg wo wn) (c_check_text : CalXN P w K mg base 3 "check_text" (spTextX K (cs 0))) (c_check_cursor : CalXN P w K mg base 3 "check_cursor" (spCursorX K (cs 1)))
    (c_check_commands : CalXN P w K mg base 3 "check_commands" (spCheckX K (cs 2))) (c_moved : Cal P w K mg base 3 "moved" (spMoved K)) (e_Impossible : ErrC P w K mg base "Impossible" (cs 3)) : FnOk P w K mg base (L2N.CX P w) 4 f fd ["text", "cursor", "commands"] (spRunB K cs) := by
  refine F.okN sc_run (fun vs H Q E h => ?_) (fun cdv A outer s H vs Q E hr h => ?_)
  · obtain ⟨t, b, l, tx, r, g, xs, rs, i, v, rfl, _⟩ := h
    rfl
  · obtain ⟨t, b, l, tx, r, g, xs, rs, i, v, rfl, ht, hb, hl, hrs, bad, ke⟩ := h
    refine ⟨_, (pss_cons (ps_expr (pe_calXN (L2N.takes_of rfl rfl rfl rfl) c_check_text hr (by decide) (by rfl) (pa_cons (pv 0) pa_nil)))
      (pss_cons (ps_expr (pe_calXN (L2N.takes_of rfl rfl rfl rfl) c_check_cursor hr (by decide) (by rfl) (pa_cons (pe_callB call_len_seq (by rfl) T.len (by decide +kernel) (pa_cons (pv 0) pa_nil)) (pa_cons (pv 1) pa_nil))))
      (pss_cons (ps_expr (pe_calXN (L2N.takes_of rfl rfl rfl rfl) c_check_commands hr (by decide) (by rfl) (pa_cons (pv 2) pa_nil)))
      (pss_cons (ps_set (i := 3) sc_run.nd rfl (Or.inl rfl) (pv 1))
      (pss_cons (ps_for (passes_of rfl) rfl (pi_enum (by rfl) T.enumerate (pa_cons (pv 2) pa_nil)) (pg_tup rfl (pgs_cons (pg_name (i := 4) sc_run.nd rfl (Or.inl rfl)) (pgs_cons (pg_name (i := 5) sc_run.nd rfl (Or.inl rfl)) pgs_nil))) (pss_cons (ps_set (i := 3) sc_run.nd rfl (Or.inl rfl) (pe_cal c_moved hr (by decide) (by rfl) (pa_cons (pv 0) (pa_cons (pv 3) (pa_cons (pv 5) pa_nil)))))
      (pss_one (ps_if (pt_cmpR op_isN (pv 3) pe_non (nomark _)) (pss_one (ps_raiseN rfl e_Impossible hr (by decide) (L2N.takes_of rfl rfl rfl rfl) (pv 4) (by rfl))) pss_nil))))
      (pss_one (ps_ret (pv 3)))))))), ?_⟩
    refine ⟨_, rfl, t, tx, rfl, ht, fun z => ?_, fun z j hj => ?_, fun ne hn H1 e1 => ?_⟩
    · cases bad with
      | text0 _ => exact ke
      | text j y _ => exact absurd z y
      | cursor y _ _ => exact absurd z y
      | command j y _ _ _ => exact absurd z y
    · cases bad with
      | text0 y => exact absurd y z
      | text j' _ q =>
        rw [hj] at q
        cases q
        exact ke
      | cursor _ q _ => rw [hj] at q; cases q
      | command j' _ q _ _ => rw [hj] at q; cases q
    refine ⟨_, rfl, t, _, rfl, .inl (e1.seq ht), _, rfl, (tx.map V.int).length, r, g, b, rfl, seq_t e1 hb, ?_, ?_⟩
    · rw [List.length_map]
      intro z
      cases bad with
      | text0 y => exact absurd y ne
      | text j' _ q => rw [hn] at q; cases q
      | cursor _ _ _ => exact Err.same e1 ke
      | command j' _ _ q _ => exact absurd q z
    rw [List.length_map]
    intro hc
    refine ⟨_, rfl, l, xs, rs, rfl, e1.seq hl, hrs.same e1, fun j hj => ?_, fun hg H2 e2 => ?_⟩
    · cases bad with
      | text0 y => exact absurd y ne
      | text j' _ q => rw [hn] at q; cases q
      | cursor _ _ q => exact absurd hc q
      | command j' _ _ _ q =>
        rw [hj] at q
        cases q
        exact Err.same e1 ke
    · cases bad with
      | text0 y => exact absurd y ne
      | text j' _ q => rw [hn] at q; cases q
      | cursor _ _ q => exact absurd hc q
      | command j' _ _ _ q => rw [hg] at q; cases q
end
end Gc

/-! list(g(..)) where the generator may raise ahead of its first value -/
namespace Gc
open PySem PySem.Spec PyProof.Rows GenW L2
/-- the errors of E that end no iterator -/
def EN (K : PySem.W.Frag) (E : XK) : XK := fun cls d H => PySem.W.subIn K cls (.type "StopIteration") = some false ∧ E cls d H
theorem en_stop {K : PySem.W.Frag} {E : XK} : NoStop K (EN K E) := fun _ _ _ h => h.1
def tListGX (K : PySem.W.Frag) (W : WX) (tg : XK → TGen) : TE := fun σ H Q => tListG (tg (EN K (WE W σ))) σ H Q
section
variable {X : Cx} {k : Nat} {W : WX} {tg : XK → TGen} {e : Expr} {nm : Str} {p pos : Pos}
theorem pe_listX (h : ∀ E, PGen X k e (tg E) E) (tk : Takes X W) (hr : Room (k + 3) X.A) (hg : Gl X nm) (hmg : X.mg nm = none) (hv : bootBuiltins nm = some (.type "list")) (hnm : nm ≠ "__name__" := by decide) (hdb : (nm == ("__debug__" : Str)) = false := by decide)
    (he : starEach [e] X.env = (false, eval e X.env) :: starEach [] X.env := by rfl) : PE X (.Call (.Name nm p) [e] [] pos) (tListGX X.K W tg) := by
  constructor
  intro pins s σ H Q I hq
  apply wpAny_Call_Name_kw
  apply ld_blt I hg hmg hv _ hnm hdb
  apply PyProof.Rows.callWith_type1 _ he rfl
  rw [he]
  change wpAny _ _ (spliced ((false, eval e X.env) :: backTo pos (starEach [] X.env))) _ _ s
  apply Calls.spliced_cons
  refine thn ((h (EN X.K (WE W σ))).run pins s σ H _ I hq) ?_
  rintro u s1 ⟨H1, sc, ex, I1, hex, made⟩
  apply Calls.spliced_nil
  have size1 : sc.heap.objs.size ≤ s1.heap.objs.size := by
    rcases made with ⟨a, g, c, _, below, above, _⟩
    exact Nat.le_trans below (Nat.le_of_lt above)
  apply call_list_new hr I1.ok.frames made
  · intro S s' acc c H' ys q0 q1 q2 q3 q4 q5 q6 q7 q8 q9
    refine ⟨.ref S, upd H' S (.lst ys), ?_, rfl, q9 S q8⟩
    exact I1.drained (by omega) q3 q1 q2 hex q4 q5 q6 q7 q8
  · intro e s' g c
    have there : X.K.In s'.heap := by
      rcases id c with ⟨a, B, H', cls, d, _, fl, _, ground, _⟩
      apply I1.ok.mod.kin.keeps
      intro b o at_b
      have old := I1.bs b o at_b
      apply fl.1 b o
      apply ground.keep b o old.1 old.2
      intro inF
      rcases List.mem_cons.mp (I1.stkSub b inF) with z | z
      · have l1 := Heap.lt_size at_b
        have l2 := I1.ok.bsz
        have l3 := I1.ok.above
        rw [z] at l1
        have l4 := Nat.lt_of_lt_of_le l1 (Nat.le_trans l2 l3)
        exact absurd l4 (Nat.lt_irrefl _)
      · exact absurd z (I1.ok.nofr at_b)
    refine ⟨notStop_of en_stop there c, ?_⟩
    apply tk
    apply XE.of_call I1 (E := EN X.K (WE W σ)) (fun _ _ _ z => z.2)
    rcases c with ⟨a, B, H', cls, d, z1, fl, z2, ground, z3, z4, z5, z6⟩
    exact ⟨a, B, H', cls, d, z1, fl, z2, ground, z3, z4, allBare_setGen z5 rfl, z6⟩
end
section
variable {X : Cx} {k : Nat} {W : WX} {x : Str} {sp : SpG} {p p0 pos pos' : Pos} {e : Expr} {es : List Expr} {t : TA}
/-- list(g(..)) within a try -/
theorem pe_listGX (tk : Takes X W) (c : GCal X.prog X.w X.K X.mg X.base k x sp) (hr : Room (k + 3) X.A) (hg : Gl X x) (ha : PA X (e :: es) t) (hgl : Gl X "list") (hml : X.mg "list" = none)
    (hdb : (x == ("__debug__" : Str)) = false := by decide) (he : starEach (e :: es) X.env = (false, eval e X.env) :: starEach es X.env := by rfl) (hpl : (backTo pos' (starEach es X.env)).any (·.1) = false := by rfl)
    (he2 : starEach [.Call (.Name x p) (e :: es) [] pos'] X.env = (false, eval (.Call (.Name x p) (e :: es) [] pos') X.env) :: starEach [] X.env := by rfl) :
    PE X (.Call (.Name "list" p0) [.Call (.Name x p) (e :: es) [] pos'] [] pos) (tListGX X.K W fun E => tCallG sp [] E t) := by
  obtain ⟨f, fd, ps, F, hm, kp, b⟩ := c.ex
  exact pe_listX (fun E => pgen_call F (hr.mono (by omega)) hg hm kp b .nil ha hdb he hpl) tk hr hgl hml (by decide +kernel) (by decide) (by decide) he2
end
end Gc

/-! generators whose consumer changes its own frame and older things: the generator's context stands anew on what it finds each time it is woken -/
namespace Gc
open PySem PySem.Spec PyProof.Rows GenW L2
/-- the first n places -/
def cutH (h : Heap) (n : Nat) : Heap := { h with objs := h.objs.extract 0 n }
theorem min_iff {a n m : Nat} : a < min n m - 0 ↔ a < n ∧ a < m := by omega
theorem cut_at {h : Heap} {n : Nat} {b : Addr} : (cutH h n).objs[b]? = if b < n then h.objs[b]? else none := by
  show (h.objs.extract 0 n)[b]? = _
  rw [Array.getElem?_extract, Nat.zero_add]
  by_cases hb : b < n
  · rw [if_pos hb]
    by_cases hz : b < h.objs.size
    · rw [if_pos (min_iff.mpr ⟨hb, hz⟩)]
    · rw [if_neg (fun q => hz (min_iff.mp q).2), Array.getElem?_eq_none (Nat.le_of_not_lt hz)]
  · rw [if_neg hb, if_neg (fun q => hb (min_iff.mp q).1)]
theorem cut_get {h : Heap} {n : Nat} {b : Addr} (hb : b < n) : (cutH h n).get? b = h.get? b := by
  have e : (cutH h n).objs[b]? = h.objs[b]? := by rw [cut_at, if_pos hb]
  unfold Heap.get?
  rw [e]
theorem cut_some {h : Heap} {n : Nat} {b : Addr} {o : Obj} (e : (cutH h n).get? b = some o) : b < n ∧ h.get? b = some o := by
  by_cases hb : b < n
  · exact ⟨hb, (cut_get hb).symm.trans e⟩
  · have z : (cutH h n).objs[b]? = none := by rw [cut_at, if_neg hb]
    unfold Heap.get? at e
    rw [z] at e
    cases e
theorem cut_size {h : Heap} {n : Nat} (le : n ≤ h.objs.size) : (cutH h n).objs.size = n := by
  show (h.objs.extract 0 n).size = n
  rw [Array.size_extract]
  omega
/-- what stood when it was made, as a later state has it -/
abbrev cutS (n : Nat) (z : Shared) : Shared := { z with heap := cutH z.heap n }
abbrev rebx (X : Cx) (z : Shared) (Hz : Hp) (xe : Value → Shared → Prop) : Cx := { X with s_0 := cutS X.s_0.heap.objs.size z, H_0 := Hz, xe := xe }
/-- the context, on what stood when it was woken -/
abbrev reb (X : Cx) (z : Shared) (Hz : Hp) : Cx := rebx X z Hz fun _ _ => False
/-- at work, woken at z -/
structure AtF (X : Cx) (z : Shared) (ip : List (Addr × Obj)) (σ : L2.St) (H : Hp) (s : Shared) : Prop where
  ex : ∃ Hz, Inv (reb X z Hz) ip σ H s ∧ ∀ b o, X.s_0.heap.get? b = some o → X.H_0 b = none → Hz b = none
  sz : X.s_0.heap.objs.size ≤ z.heap.objs.size
  there : ∀ b o, X.s_0.heap.get? b = some o → ∃ o', z.heap.get? b = some o'
/-- what the consumer leaves as it is, H: what the generator holds -/
structure NapF (m : Nat) (base : Heap) (H : Hp) (s s' : Shared) : Prop where
  bare : AllBare s'.gens
  young : ∀ (b : Nat) o, m ≤ b → s.heap.get? b = some o → s'.heap.get? b = some o
  kept : ∀ b o u, H b = some u → s.heap.get? b = some o → s'.heap.get? b = some o
  base : ∀ b o, base.get? b = some o → s'.heap.get? b = some o
  there : ∀ b o, s.heap.get? b = some o → ∃ o', s'.heap.get? b = some o' ∧ ((∀ vs, o.data ≠ .fields vs) → ∀ vs, o'.data ≠ .fields vs)
/-- all of its own is young -/
structure Young (X : Cx) (ip : List (Addr × Obj)) : Prop where
  ex : X.ex = []
  cells : ∀ x c, X.env.cells.lookup x = some c → X.s_0.heap.objs.size ≤ c
  pn : ∀ q ∈ X.pn ++ ip, X.s_0.heap.objs.size ≤ q.1
section
variable {X : Cx} {z : Shared} {ip : List (Addr × Obj)} {σ : L2.St} {H : Hp} {s s' : Shared}
theorem AtF.there_s (y : X.ex = []) (h : AtF X z ip σ H s) {b : Addr} {o : Obj} (e : X.s_0.heap.get? b = some o) : ∃ o', s.heap.get? b = some o' := by
  obtain ⟨Hz, I, old⟩ := h.ex
  obtain ⟨o', e'⟩ := h.there b o e
  exact I.base.there b o' ((cut_get (Heap.lt_size e)).trans e') (by show b ∉ X.ex; rw [y]; simp)
theorem AtF.none_s (y : X.ex = []) (h : AtF X z ip σ H s) {b : Addr} {o : Obj} (e : X.s_0.heap.get? b = some o) (n : X.H_0 b = none) : H b = none := by
  obtain ⟨Hz, I, old⟩ := h.ex
  obtain ⟨o', e'⟩ := h.there b o e
  exact I.base.free b o' ((cut_get (Heap.lt_size e)).trans e') (old b o e n) (by show b ∉ X.ex; rw [y]; simp)
/-- what stood when it was made and is not its caller's frame stands as it was when it was woken -/
theorem AtF.keep (y : X.ex = []) (h : AtF X z ip σ H s) {b : Addr} {o o' : Obj} (e : X.s_0.heap.get? b = some o) (n : X.H_0 b = none) (f : b ∉ X.fs) (e' : z.heap.get? b = some o') : s.heap.get? b = some o' := by
  obtain ⟨Hz, I, old⟩ := h.ex
  exact I.base.keep b o' ((cut_get (Heap.lt_size e)).trans e') (old b o e n) f (by show b ∉ X.ex; rw [y]; simp)
theorem AtF.slot (y : X.ex = []) (h : AtF X z ip σ H s) {b : Addr} {o o' : Obj} (e : X.s_0.heap.get? b = some o) (n : X.H_0 b = none) (f : b ∈ X.fs) (e' : z.heap.get? b = some o') : ∃ sl, s.heap.get? b = some { o' with slots := sl } := by
  obtain ⟨Hz, I, old⟩ := h.ex
  exact I.base.slot b o' ((cut_get (Heap.lt_size e)).trans e') (old b o e n) f (by show b ∉ X.ex; rw [y]; simp)
/-- on new ground -/
theorem inv_anew {X : Cx} {s0 : Shared} {H0 : Hp} {xe0 xe : Value → Shared → Prop} {ip : List (Addr × Obj)} {σ : L2.St} {H : Hp} {s s' : Shared} (hsz : s0.heap.objs.size = X.s_0.heap.objs.size) (y : Young X ip) (I : Inv { X with s_0 := s0, H_0 := H0, xe := xe0 } ip σ H s)
    (n : NapF X.s_0.heap.objs.size X.base H s s') : X.s_0.heap.objs.size ≤ s'.heap.objs.size ∧ Inv (rebx X s' H xe) ip σ H s' := by
  have szs : X.s_0.heap.objs.size ≤ s.heap.objs.size := hsz ▸ I.sz
  obtain ⟨m, hm, hl⟩ := I.loc
  have lab : X.s_0.heap.objs.size ≤ X.env.locals := hsz ▸ I.ok.above
  have szs' : X.s_0.heap.objs.size ≤ s'.heap.objs.size := by
    obtain ⟨o, es, ep, ho, _⟩ := hm
    exact Nat.le_of_lt (Nat.lt_of_le_of_lt lab (Heap.lt_size (n.young _ o lab ho)))
  have szc := cut_size szs'
  have fl : ∀ b ∈ X.fs, b < X.s_0.heap.objs.size ∧ ∃ o, s.heap.get? b = some o := fun b hb => by
    obtain ⟨_, o, ho, _⟩ := I.ok.funs.mem hb
    obtain ⟨o2, h2⟩ := I.base.there b o ho (by show b ∉ X.ex; rw [y.ex]; simp)
    exact ⟨hsz ▸ Heap.lt_size ho, o2, h2⟩
  have ff : ∀ l : List Env, (∀ b ∈ frs l, b ∈ X.fs) → s.heap.FunFrames X.base l → (cutH s'.heap X.s_0.heap.objs.size).FunFrames X.base l := by
    intro l
    induction l with
    | nil => intro _ _; trivial
    | cons env r ih =>
      intro hsub hl
      obtain ⟨hk, ⟨L, o, hf, hnb, ho, hd⟩, hr⟩ := hl
      have hL : L ∈ X.fs := hsub L (by unfold frs; rw [List.filterMap_cons, hf]; exact List.mem_cons_self)
      obtain ⟨o', e', d'⟩ := n.there L o ho
      exact ⟨hk, ⟨L, o', hf, hnb, (cut_get (fl L hL).1).trans e', d' hd⟩, ih (fun b hb => hsub b (by unfold frs; rw [List.filterMap_cons, hf]; exact List.mem_cons_of_mem _ hb)) hr⟩
  have bs : ∀ b o, X.base.get? b = some o → b < X.s_0.heap.objs.size := fun b o e => hsz ▸ Heap.lt_size (I.ok.bs b o e).1
  refine ⟨szs', ⟨⟨I.ok.mod, I.ok.kind, I.ok.glob, I.ok.blt, ?_, I.ok.inj, I.ok.has, fun x c h1 h2 => ?_, I.ok.hd, I.ok.frames, I.ok.stk, I.ok.exf, fun b o e => ⟨(cut_get (bs b o e)).trans (n.base b o e), (I.bs b o e).2⟩, ?_, I.ok.noex, I.ok.exfs, ff X.outer (fun _ hb => hb) I.funs, fun b hb => ?_⟩,
    rfl, n.bare, Un.kept fun b u e => (cut_some e).2, ⟨m, hm.at' fun o e => n.young _ o lab e, fun i x v h1 h2 h3 => ?_⟩, fun x c e => ?_, I.free, I.freeC, fun q hq => ?_, fun b u e => (I.hok b u e).stay (fun c v hc yy => ?_) (fun _ q => q) fun _ _ q => q, I.len⟩⟩
  · show (cutH s'.heap X.s_0.heap.objs.size).objs.size ≤ _
    rw [szc]
    exact lab
  · show (cutH s'.heap X.s_0.heap.objs.size).objs.size ≤ _
    rw [szc]
    exact y.cells x c h2
  · show _ ≤ (cutH s'.heap X.s_0.heap.objs.size).objs.size
    rw [szc]
    exact hsz ▸ I.ok.bsz
  · obtain ⟨_, o, ho, _⟩ := I.ok.funs.mem hb
    exact I.base.free b o ho (I.ok.frf b hb) (by show b ∉ X.ex; rw [y.ex]; simp)
  · obtain ⟨u, ru, lk⟩ := hl i x v h1 h2 h3
    refine ⟨u, ru, ?_⟩
    rcases lk with q | ⟨q, c, q1, q2⟩
    · exact .inl q
    · obtain ⟨o, ho, hd⟩ := q2
      exact .inr ⟨q, c, q1, o, n.young c o (y.cells x c q1) ho, hd⟩
  · obtain ⟨v, o, ho, hd⟩ := I.cell x c e
    exact ⟨v, o, n.young c o (y.cells x c e) ho, hd⟩
  · obtain ⟨a1, a2⟩ := I.pin q hq
    exact ⟨n.young _ _ (y.pn q hq) a1, a2⟩
  · rcases hc with q | q
    · exact n.kept c v u (q ▸ e) yy
    · exact n.kept c v _ q yy
/-- nothing is changed -/
theorem NapF.refl {X : Cx} {ip : List (Addr × Obj)} {σ : L2.St} {H : Hp} {s : Shared} (I : Inv X ip σ H s) {m : Nat} : NapF m X.base H s s :=
  ⟨I.bare, fun _ _ _ e => e, fun _ _ _ _ e => e, I.bk, fun b o e => ⟨o, e, fun d => d⟩⟩
/-- woken again -/
theorem AtF.again (y : Young X ip) (h : AtF X z ip σ H s) (n : NapF X.s_0.heap.objs.size X.base H s s') : AtF X s' ip σ H s' := by
  have hs := fun b o e => h.there_s y.ex (b := b) (o := o) e
  have hn := fun b o e q => h.none_s y.ex (b := b) (o := o) e q
  obtain ⟨Hz, I, old⟩ := h.ex
  obtain ⟨h1, h2⟩ := inv_anew (cut_size h.sz) y I n
  refine ⟨⟨H, h2, fun b o e q => hn b o e q⟩, h1, fun b o e => ?_⟩
  obtain ⟨o', e'⟩ := hs b o e
  obtain ⟨o2, e2, _⟩ := n.there b o' e'
  exact ⟨o2, e2⟩
end
/-- what must hold of each item: what is out ahead of it, the item, the heap -/
def FY (X : Cx) (Yd : YdK) : Protocol := fun n z v s kap => ∃ ys x ip σ H, n + 1 + ys.length = sizeLine ∧ RelV x v ∧ AtF X z ip σ H s ∧ Young X ip ∧ Yd ys x H ∧ ∀ s', NapF X.s_0.heap.objs.size X.base H s s' → kap (.send .none) s'
def FSP (X : Cx) (z : Shared) (ip : List (Addr × Obj)) (D : GEnds) (ys : List V) (f : Flow) (s : Shared) : Prop :=
  match f with
  | .next => ∃ σ H, AtF X z ip σ H s ∧ D.nx ys σ H
  | .brk => ∃ σ H, AtF X z ip σ H s ∧ D.bk ys σ H
  | .cont => ∃ σ H, AtF X z ip σ H s ∧ D.ct ys σ H
  | .ret u => ∃ v σ H, AtF X z ip σ H s ∧ RelV v u ∧ D.rt ys v H
structure FC (X : Cx) (ip : List (Addr × Obj)) (A : Around) (c : Code) (fs : List Frame) (gd : Bool → Bool) : Prop where
  yg : Young X ip
  over : A.over c fs = X.A
  split : splitAtGen fs = none
  guard : fs.any Frame.guarded = false
  gd : gd false = false
structure FK (X : Cx) (Yd : YdK) (ip : List (Addr × Obj)) (A : Around) (R : GenEnd) (c : Code) (fs : List Frame) (K : Flow → Sem PySem.Fin) (D : GEnds) : Prop where
  ok : ∀ (n : Nat) (ys : List V) (z s : Shared) (f : Flow), n + ys.length = sizeLine → FSP X z ip D ys f s → Seg (model X.prog X.w) A R (FY X Yd) n z c (K f) fs s
structure FS (X : Cx) (Yd : YdK) (st : Stmt) (t : TGn) : Prop where
  run : ∀ (A : Around) (ip : List (Addr × Obj)) (R : GenEnd) (n : Nat) (ys : List V) (z : Shared) (c : Code) (fs : List Frame) (K : Flow → Sem PySem.Fin) (J : Value → Sem PySem.Fin) (gd : Bool → Bool) (lv : List Value → List Value) (s : Shared) (σ : L2.St) (H : Hp) (D : GEnds),
    FC X ip A c fs gd → n + ys.length = sizeLine → FK X Yd ip A R c fs K D → AtF X z ip σ H s → t D ys σ H → Seg (model X.prog X.w) A R (FY X Yd) n z c ((exec st X.env).wrap K J gd lv) fs s
structure FSs (X : Cx) (Yd : YdK) (st : List Stmt) (t : TGn) : Prop where
  run : ∀ (A : Around) (ip : List (Addr × Obj)) (R : GenEnd) (n : Nat) (ys : List V) (z : Shared) (c : Code) (fs : List Frame) (K : Flow → Sem PySem.Fin) (J : Value → Sem PySem.Fin) (gd : Bool → Bool) (lv : List Value → List Value) (s : Shared) (σ : L2.St) (H : Hp) (D : GEnds),
    FC X ip A c fs gd → n + ys.length = sizeLine → FK X Yd ip A R c fs K D → AtF X z ip σ H s → t D ys σ H → Seg (model X.prog X.w) A R (FY X Yd) n z c ((execs st X.env).wrap K J gd lv) fs s
section
variable {X : Cx} {Yd : YdK} {st : Stmt} {rest : List Stmt} {e : Expr} {yp pos : Pos} {te : TE}
theorem fs_ps {t : TS} (h : ∀ z Hz, PS (reb X z Hz) st t) : FS X Yd st (tPlain t) := by
  refine ⟨fun A ip R n ys z c fs K J gd lv s σ H D g hn k hI ht => ?_⟩
  obtain ⟨⟨Hz, I, old⟩, sz, th⟩ := hI
  refine seg_wrap ?_
  rw [g.over]
  refine wpAny_mono ((h z Hz).run _ s σ H (D.at ys) I ht) (fun f s' hs => k.ok n ys z s' f hn ?_) fun x s' hx => False.elim hx
  cases f with
  | next =>
    obtain ⟨σ2, H2, I2, q2⟩ := hs
    exact ⟨σ2, H2, ⟨⟨Hz, I2, old⟩, sz, th⟩, q2⟩
  | brk =>
    obtain ⟨σ2, H2, I2, q2⟩ := hs
    exact ⟨σ2, H2, ⟨⟨Hz, I2, old⟩, sz, th⟩, q2⟩
  | cont =>
    obtain ⟨σ2, H2, I2, q2⟩ := hs
    exact ⟨σ2, H2, ⟨⟨Hz, I2, old⟩, sz, th⟩, q2⟩
  | ret u =>
    obtain ⟨v2, σ2, H2, I2, r2, q2⟩ := hs
    exact ⟨v2, σ2, H2, ⟨⟨Hz, I2, old⟩, sz, th⟩, r2, q2⟩
theorem fss_nil : FSs X Yd [] tG0 := ⟨fun A ip R n ys z c fs K J gd lv s σ H D g hn k hI ht => seg_execs_nil (k.ok n ys z s .next hn ⟨σ, H, hI, ht⟩)⟩
theorem fss_cons {t u : TGn} (a : FS X Yd st t) (b : FSs X Yd rest u) : FSs X Yd (st :: rest) (tGThen t u) := by
  refine ⟨fun A ip R n ys z c fs K J gd lv s σ H D g hn k hI ht => seg_execs_cons ?_⟩
  refine a.run A ip R n ys z c fs _ J gd lv s σ H { D with nx := fun y2 σ2 H2 => u D y2 σ2 H2 } g hn ⟨fun n2 y2 z2 s2 f hn2 hs => ?_⟩ hI ht
  cases f with
  | next =>
    obtain ⟨σ2, H2, I2, q2⟩ := hs
    exact b.run A ip R n2 y2 z2 c fs K J gd lv s2 σ2 H2 D g hn2 k I2 q2
  | brk => exact k.ok n2 y2 z2 s2 .brk hn2 hs
  | cont => exact k.ok n2 y2 z2 s2 .cont hn2 hs
  | ret v => exact k.ok n2 y2 z2 s2 (.ret v) hn2 hs
theorem fs_yield (he : ∀ z Hz, PE (reb X z Hz) e te) (hco : X.env.scope.isCoroutine = false := by rfl) (hi : interactive X.env = false := by rfl) : FS X Yd (.Expr (.Yield (some e) yp) pos) (tNYield Yd te) := by
  refine ⟨fun A ip R n ys z c fs K J gd lv s σ H D g hn k hI ht => ?_⟩
  obtain ⟨hlt, ht⟩ := ht
  obtain ⟨n, rfl⟩ : ∃ m, n = m + 1 := ⟨n - 1, by omega⟩
  obtain ⟨⟨Hz, I, old⟩, sz, th⟩ := hI
  refine seg_Expr_Yield g.split g.gd g.guard ?_ hco hi
  rw [g.over]
  refine wpAny_mono ((he z Hz).run _ s σ H _ I ht) (fun v s1 ⟨x, H1, I1, rv, yd, q⟩ kap hk => ?_) fun x s' hx => False.elim hx
  have W : AtF X z ip σ H1 s1 := ⟨⟨Hz, I1, old⟩, sz, th⟩
  refine ⟨ys, x, ip, σ, H1, hn, rv, W, g.yg, yd, fun s2 nap => hk .none s2 ?_⟩
  refine k.ok n (ys ++ [x]) s2 s2 .next ?_ ⟨σ, H1, W.again g.yg nap, q⟩
  rw [List.length_append]
  show n + (ys.length + 1) = sizeLine
  omega
end
end Gc

/-! such a generator's for loop -/
namespace Gc
open PySem PySem.Spec PyProof.Rows GenW L2
theorem fc_loop {X : Cx} {ip : List (Addr × Obj)} {A : Around} {c c1 : Code} {fs : List Frame} {gd : Bool → Bool} {k : Result → Sem PySem.Fin} {l kp : List Value} {p : Pos} (g : FC X ip A c fs gd) (hw : c1.weight = 0) (hu : c1.cUnits = 0) :
    FC X ip A c1 (.ret k none (gd false) l c p kp :: fs) id := by
  refine ⟨g.yg, (over_loop hw hu).trans g.over, ?_, ?_, rfl⟩
  · show Option.map _ (splitAtGen fs) = none
    rw [g.split, Option.map_none]
  · show (gd false || fs.any Frame.guarded) = false
    rw [g.gd, g.guard, Bool.or_false]
section
variable {X : Cx} {Yd : YdK}
theorem fs_for {iter tg : Expr} {body : List Stmt} {wi : TI} {g : TG} {tb : TGn} {pos : Pos} (hc : X.calm = true) (hi : ∀ z Hz, PI (reb X z Hz) tg iter wi) (hg : ∀ z Hz, PG (reb X z Hz) tg g) (hb : FSs X Yd body tb)
    (hs : ∀ x, foldedSetIterable iter X.env x = pure x := by intro _; rfl) : FS X Yd (.For tg iter body [] pos) (tGFor wi g tb) := by
  refine ⟨fun A ip R n ys z c fs K J gd lv s σ H D gc hn k hI ht => ?_⟩
  rw [exec_For]
  refine seg_bind_wrap (wpAny_standAt ?_)
  obtain ⟨⟨Hz0, I, old0⟩, sz0, th0⟩ := hI
  refine seg_bind_wrap ?_
  rw [gc.over]
  refine wpAny_mono ((hi z Hz0).run _ s σ H _ I ht) (fun v s1 h1 => ?_) fun x s' hx => False.elim hx
  refine seg_bind_wrap ?_
  rw [gc.over]
  refine wpAny_of_eq (hs v) ?_
  refine seg_bind_wrap (wpAny_standAt ?_)
  refine seg_bind_wrap ?_
  rw [gc.over]
  refine wpAny_holding (wpAny_mono h1 (fun itv s2 h2 => ?_) fun x s' hx => False.elim hx)
  obtain ⟨it, fp, tn, It0, H2, e, I2, T, st2, f2, W, ⟨m0, w0⟩, turn⟩ := h2
  subst e
  refine seg_call fun p => ?_
  have gl := fun (kk : Result → Sem PySem.Fin) => fc_loop (k := kk) (c1 := .forLoop tg (.ref it) body [] X.env) (l := lv []) (kp := []) (p := p) gc rfl rfl
  have yF : ∀ b ∈ fp, X.s_0.heap.objs.size ≤ b := fun b hb => by
    obtain ⟨_, _, _, f3, _⟩ := f2 b hb
    rcases f3 with q | q
    · exact absurd (show b ∈ X.ex from q) (by rw [gc.yg.ex]; simp)
    · exact cut_size sz0 ▸ q
  have stat : ∀ {z' : Shared} {Hz' H' : Hp}, X.s_0.heap.objs.size ≤ z'.heap.objs.size → (∀ b ∈ fp, H' b = none) → ∀ b ∈ fp, FpOk (reb X z' Hz') ip H' b := fun {z' Hz' H'} sz' hn b hb => by
    obtain ⟨f0, f1, f2', f3, f4, f5⟩ := f2 b hb
    exact ⟨hn b hb, f1, f2', .inr (by show (cutH z'.heap X.s_0.heap.objs.size).objs.size ≤ b; rw [cut_size sz']; exact yF b hb), f4, f5⟩
  have loop : ∀ (m i n : Nat) (ys : List V) (z s : Shared) (σ : L2.St) (H : Hp), n + ys.length = sizeLine → W i m ys σ H → AtF X z ip σ H s → tn i s.heap → (∀ b ∈ fp, H b = none) →
      Seg (model X.prog X.w) A R (FY X Yd) n z (.forLoop tg (.ref it) body [] X.env) ((model X.prog X.w).den (.forLoop tg (.ref it) body [] X.env))
        (.ret (fun r => ((match r with | .ok f => (.pure f : Sem Flow) | .error e => .raise e).onRaise (cameBack X.env)).wrap K J gd lv) none (gd false) (lv []) c p [] :: fs) s := by
    intro m
    induction m using Nat.strongRecOn with
    | ind m ih =>
      intro i n ys z s σ H hn w hI hst hfr
      show Seg _ _ _ _ _ _ _ ((forTurn tg (.ref it) body [] X.env).onRaise (fun x => do noteFrame x X.env; theTreesLotGoes x)) _ _
      rw [Sem.onRaise_eq_wrap]
      simp only [forTurn]
      refine seg_bind_wrap (wpAny_standAt ?_)
      refine seg_bind_wrap ?_
      rw [(gl _).over]
      obtain ⟨⟨Hz, I, old⟩, sz, th⟩ := hI
      rcases turn i m ys σ H w with ⟨stop, qn⟩ | ⟨go, N, hN, step⟩
      · refine wpAny_onRaise (wpAny_mono (T.done (reb X z Hz) rfl rfl rfl hc i _ s σ H (reb X z Hz).xe I (stat sz hfr) hst stop) (fun a s4 ⟨ha, I4⟩ => ?_) fun x s4 hx => False.elim hx)
        subst ha
        refine seg_again rfl ?_
        show Seg _ _ _ _ _ _ _ (((execs [] X.env).onRaise (fun x => do noteFrame x X.env; theTreesLotGoes x)).bind fun f => .pure (.done f)) _ _
        exact seg_leaf (.ok .next) (k.ok n ys z s4 .next hn ⟨σ, H, ⟨⟨Hz, I4, old⟩, sz, th⟩, qn⟩)
      · refine wpAny_onRaise (wpAny_mono (T.item (reb X z Hz) rfl rfl rfl hc i _ s σ H (reb X z Hz).xe I (stat sz hfr) hst go) (fun a s4 ⟨u, ha, h4⟩ => ?_) fun x s4 hx => False.elim hx)
        subst ha
        refine seg_bind_wrap ?_
        rw [(gl _).over]
        refine wpAny_mono h4 (fun _ s5 ⟨x, H5, I5, r5, y5, st5, fr5⟩ => ?_) fun x s' hx => False.elim hx
        have I5' := I5.pinned (stat sz fr5) (T.obj _ _ st5)
        refine seg_bind_wrap ?_
        rw [(gl _).over]
        refine wpAny_mono ((hg z Hz).run _ s5 σ H5 x u _ I5' r5 (step x H5 y5)) (fun _ s6 ⟨σ6, H6, I6, q6⟩ => ?_) fun x s' hx => False.elim hx
        rw [Sem.bind_eq_wrap', Sem.wrap_wrap]
        have g6 := gl fun (r : Result) => ((match r with | .ok f => (.pure f : Sem Flow) | .error e => .raise e).onRaise (cameBack X.env)).wrap K J gd lv
        have G6 : AtF X z (ip ++ pinsAt fp s5.heap) σ6 H6 s6 := ⟨⟨Hz, I6, old⟩, sz, th⟩
        have y6 : Young X (ip ++ pinsAt fp s5.heap) := ⟨gc.yg.ex, gc.yg.cells, fun q hq => by
          rw [← List.append_assoc] at hq
          rcases List.mem_append.mp hq with hq | hq
          · exact gc.yg.pn q hq
          · exact yF _ (of_pinsAt hq).1⟩
        have gc6 : FC X (ip ++ pinsAt fp s5.heap) A (.forLoop tg (.ref it) body [] X.env) _ id := { g6 with yg := y6 }
        have less : ∀ {z7 s7 : Shared} {σ7 : L2.St} {H7 : Hp}, AtF X z7 (ip ++ pinsAt fp s5.heap) σ7 H7 s7 → AtF X z7 ip σ7 H7 s7 := fun {z7 s7 σ7 H7} ⟨⟨Hz7, I7, old7⟩, sz7, th7⟩ =>
          ⟨⟨Hz7, I7.pins_of fun q hq => I7.pin q (List.mem_append_right _ (List.mem_append_left _ hq)), old7⟩, sz7, th7⟩
        have again : ∀ {n7 : Nat} {ys7 : List V} {z7 s7 : Shared} {σ7 : L2.St} {H7 : Hp}, n7 + ys7.length = sizeLine → AtF X z7 (ip ++ pinsAt fp s5.heap) σ7 H7 s7 → N ys7 σ7 H7 →
            Seg (model X.prog X.w) A R (FY X Yd) n7 z7 (.forLoop tg (.ref it) body [] X.env) (.pure (.again (.forLoop tg (.ref it) body [] X.env)))
              (.ret (fun r => ((match r with | .ok f => (.pure f : Sem Flow) | .error e => .raise e).onRaise (cameBack X.env)).wrap K J gd lv) none (gd false) (lv []) c p [] :: fs) s7 := fun {n7 ys7 z7 s7 σ7 H7} hn7 G7 n7' => by
          obtain ⟨m7, hm, w7⟩ := hN _ _ _ n7'
          have pin7 : ∀ b ∈ fp, ∀ o, s5.heap.get? b = some o → s7.heap.get? b = some o ∧ H7 b = none := fun b hb o e => by
            obtain ⟨⟨Hz7, I7, _⟩, _, _⟩ := G7
            obtain ⟨a1, a2, _⟩ := I7.pin (b, o) (List.mem_append_right _ (List.mem_append_right _ (mem_pinsAt hb e)))
            exact ⟨a1, a2⟩
          refine seg_again rfl (ih m7 hm (i + 1) n7 ys7 z7 s7 σ7 H7 hn7 w7 (less G7) (T.keep _ _ _ st5 fun b hb o e => (pin7 b hb o e).1) fun b hb => ?_)
          obtain ⟨o, e, d⟩ := T.obj _ _ st5 b hb
          exact (pin7 b hb o e).2
        refine hb.run A _ R n ys z _ _ _ _ id id s6 σ6 H6 { D with nx := N, ct := N, bk := D.nx } gc6 hn ⟨fun n7 ys7 z7 s7 f hn7 hs => ?_⟩ G6 q6
        cases f with
        | next =>
          obtain ⟨σ7, H7, I7, q7⟩ := hs
          exact again hn7 I7 q7
        | cont =>
          obtain ⟨σ7, H7, I7, q7⟩ := hs
          exact again hn7 I7 q7
        | brk =>
          obtain ⟨σ7, H7, I7, q7⟩ := hs
          exact seg_leaf (.ok .next) (k.ok n7 ys7 z7 s7 .next hn7 ⟨σ7, H7, less I7, q7⟩)
        | ret v =>
          obtain ⟨x7, σ7, H7, I7, r7, q7⟩ := hs
          exact seg_leaf (.ok (.ret v)) (k.ok n7 ys7 z7 s7 (.ret v) hn7 ⟨x7, σ7, H7, less I7, r7, q7⟩)
  exact loop m0 0 n ys z s2 σ H2 hn w0 ⟨⟨Hz0, I2, old0⟩, sz0, th0⟩ st2 fun b hb => (f2 b hb).1
end
end Gc

/-! the def of such a generator; what its first statement raises comes out at the first item -/
namespace Gc
open PySem PySem.Spec PyProof.Rows GenW L2
/-- a promise of such a def: the arguments, the heap, what each item is to be, what the end is to be, what it raises -/
abbrev SpF := List V → Hp → YdK → (List V → Hp → Prop) → XK → Prop
/-- what the consumer sees: made at s, woken at z -/
structure FSee (base : Heap) (P : Program) (w : World) (outer : List Env) (H : Hp) (s z : Shared) (H' : Hp) (s1 : Shared) : Prop where
  os : s1.os = z.os
  bare : AllBare s1.gens
  hok : HOk P w H' s1.heap
  keep : ∀ b o o', s.heap.get? b = some o → H b = none → b ∉ frs outer → z.heap.get? b = some o' → s1.heap.get? b = some o'
  slot : ∀ b o o', s.heap.get? b = some o → H b = none → b ∈ frs outer → z.heap.get? b = some o' → ∃ sl, s1.heap.get? b = some { o' with slots := sl }
  none : ∀ b o, s.heap.get? b = some o → H b = none → H' b = none
  there : ∀ b o, s.heap.get? b = some o → ∃ o', s1.heap.get? b = some o'
  base : ∀ b o, base.get? b = some o → s1.heap.get? b = some o
theorem AtF.see {X : Cx} {z : Shared} {ip : List (Addr × Obj)} {σ : L2.St} {H : Hp} {s : Shared} (y : X.ex = []) (h : AtF X z ip σ H s) : FSee X.base X.prog X.w X.outer X.H_0 X.s_0 z H s := by
  have k := fun b o o' e n f e' => h.keep y (b := b) (o := o) (o' := o') e n f e'
  have l := fun b o o' e n f e' => h.slot y (b := b) (o := o) (o' := o') e n f e'
  have m := fun b o e n => h.none_s y (b := b) (o := o) e n
  have th := fun b o e => h.there_s y (b := b) (o := o) e
  obtain ⟨Hz, I, _⟩ := h.ex
  exact ⟨I.os, I.bare, I.hok, k, l, m, th, I.bk⟩
def FFin (base : Heap) (P : Program) (w : World) (outer : List Env) (H : Hp) (s : Shared) (Q : List V → Hp → Prop) (n : Nat) (z s1 : Shared) : Prop :=
  ∃ H' ys, n + ys.length = sizeLine ∧ FSee base P w outer H s z H' s1 ∧ Q ys H'
def FErr (P : Program) (w : World) (outer : List Env) (H : Hp) (s : Shared) (a : Addr) (g : Nat) (E : XK) (e : Value) (s1 : Shared) : Prop := L2N.CX P w outer H s E e s1 ∧ s1.heap.IsGen a g
def FEnd (base : Heap) (P : Program) (w : World) (outer : List Env) (H : Hp) (s : Shared) (a : Addr) (g : Nat) (Q : List V → Hp → Prop) (E : XK) : GenEnd := fun n z r s1 =>
  ((r = .ok (.ret .none) ∨ r = .ok .next) ∧ FFin base P w outer H s Q n z s1) ∨ ∃ e, r = .error e ∧ FErr P w outer H s a g E e s1
def FItem (base : Heap) (P : Program) (w : World) (outer : List Env) (H : Hp) (s : Shared) (a : Addr) (g : Nat) (Yd : YdK) : Protocol := fun n z v s1 kap =>
  ∃ H' ys x, n + 1 + ys.length = sizeLine ∧ RelV x v ∧ s1.heap.NoLimit ∧ s1.heap.IsGen a g ∧ FSee base P w outer H s z H' s1 ∧ Yd ys x H' ∧ ∀ s2, NapF s.heap.objs.size base H' s1 s2 → kap (.send .none) s2
def FMade (base : Heap) (P : Program) (w : World) (k : Nat) (outer : List Env) (H : Hp) (s : Shared) (Yd : YdK) (Q : List V → Hp → Prop) (E : XK) (u : Value) (s' : Shared) : Prop :=
  ∃ (a : Addr) (g : Nat) (c : Code), u = .ref a ∧ s.heap.objs.size ≤ a ∧ a < s'.heap.objs.size ∧ s'.heap.IsGen a g ∧ s'.gens[g]? = some (.fresh c) ∧ s'.os = s.os ∧ AllBare s'.gens ∧ s'.heap.NoLimit ∧ (∀ b o, s.heap.get? b = some o → s'.heap.get? b = some o) ∧
    ∀ (A : Around) (s2 : Shared), Room k A → A.frames = some outer → (∀ b o, s'.heap.get? b = some o → s2.heap.get? b = some o) → s2.os = s.os → AllBare s2.gens →
      Seg (model P w) A (FEnd base P w outer H s a g Q E) (FItem base P w outer H s a g Yd) sizeLine s2 c ((model P w).den c) [] s2
structure FFn (P : Program) (w : World) (K : PySem.W.Frag) (mg : Str → Option Value) (base : Heap) (k : Nat) (f : Addr) (fd : FuncData) (ps : List Str) (sp : SpF) : Prop where
  len : ∀ vs H Yd Q E, sp vs H Yd Q E → vs.length = ps.length
  run : ∀ (A : Around) (outer : List Env) (s : Shared) (H : Hp) (args : Args) (us : List Value) (vs : List V) (Yd : YdK) (Q : List V → Hp → Prop) (E : XK), Room k A → Env0 P w K mg base A outer s H → BindsTo s fd args (ps.zip us) → Vals vs us → sp vs H Yd Q E →
    codeAny (model P w) A (.call (.ref f) args) (fun r s' => match r with | .ok (.ret u) => FMade base P w k outer H s Yd Q E u s' | _ => False) s
/-- the first statement's context: what it raises leaves the generator -/
abbrev gcx1 (P : Program) (w : World) (K : PySem.W.Frag) (mg : Str → Option Value) (base : Heap) (N : List Str) (qual : Str) (scope : Scope) (f : Addr) (cd : Value) (A : Around) (outer : List Env) (s : Shared) (H : Hp) (E : XK) (pn : List (Addr × Obj)) (z : Shared) : Cx :=
  rebx (gcxOf P w K mg base N qual scope f cd A outer s H E0 pn) z H fun e s' => wpAny (model P w) (A.deeper (envOfC qual scope s.heap.objs.size f cd)) (leaving (envOfC qual scope s.heap.objs.size f cd) e)
      (fun _ s'' => L2N.CX P w outer H (cutS s.heap.objs.size z) E e s'' ∧ ∀ p ∈ pn, s''.heap.get? p.1 = some p.2) (fun _ _ => False) s'
/-- an error leaves a def; what is pinned stands -/
theorem leave_pins {X : Cx} {W : WX} {E : XK} {s' : Shared} (hs : X.stack = X.env :: X.outer) (hf : X.env.frame = some X.env.locals) (hex : X.ex = []) (hW : ∀ cls d σ H, W cls d σ H → E cls d H) {E₁ : Value → Shared → Prop} {u : Value} (x : L2N.XE X W u s') :
    wpAny (model X.prog X.w) X.A (leaving X.env u) (fun _ s2 => L2N.CX X.prog X.w X.outer X.H_0 X.s_0 E u s2 ∧ ∀ p ∈ X.pn, s2.heap.get? p.1 = some p.2) E₁ s' := by
  obtain ⟨a, B, sI, pins, σ, H, cls, d, rfl, J, ground, up, sky, fresh, sameOs, bare, wish⟩ := x
  have frames : X.A.frames = some (X.env :: X.outer) := J.ok.frames.trans (congrArg some hs)
  have noEx : ∀ b : Addr, b ∉ X.ex := fun b z => by
    rw [hex] at z
    cases z
  have apart : ∀ {b : Addr} {o : Obj}, X.s_0.heap.get? b = some o → b ∉ X.fs → b ∉ frs X.stack := fun {b o} at_b out inS => by
    refine (List.mem_cons.mp (J.stkSub b inS)).elim (fun z => ?_) out
    exact Nat.not_le_of_lt (Heap.lt_size at_b) (z ▸ J.ok.above)
  have ub : ∀ h2 : Heap, s'.heap.UpToSlots h2 → UB X.fs X.H_0 H X.s_0.heap B h2 := fun h2 up2 => {
    keep := fun b o at_b un out => ground b o (J.base.keep b o at_b un out (noEx b)) (apart at_b out)
    slot := fun b o at_b inF => by
      obtain ⟨_, o1, at1, plain⟩ := J.ok.funs.mem inF
      obtain rfl : o = o1 := Option.some.inj (at_b.symm.trans at1)
      obtain ⟨_, z1⟩ := J.base.slot b o at_b (J.ok.frf b inF) inF (noEx b)
      obtain ⟨_, z2⟩ := up b _ z1 plain
      obtain ⟨sl, z3⟩ := up2 b _ z2 plain
      exact ⟨sl, z3⟩
    free := fun b o at_b un => J.base.free b o at_b un (noEx b)
    there := fun b o at_b out => (J.base.there b o at_b (noEx b)).imp fun o2 z => ground b o2 z (apart at_b out)
    tups := J.base.tups
    frzs := J.base.frzs
    tbls := J.base.tbls }
  have pinned : ∀ q ∈ X.pn, B.get? q.1 = some q.2 := fun q hq => by
    obtain ⟨z1, _, z3, z4, _⟩ := J.pin q (List.mem_append_left _ hq)
    exact ground _ _ z1 fun inS => (List.mem_cons.mp (J.stkSub _ inS)).elim z3 z4
  have goal : ∀ h2, HandSPX.FlyingZ B X.outer a (L2N.Zn cls d) h2 → s'.heap.UpToSlots h2 → L2N.CX X.prog X.w X.outer X.H_0 X.s_0 E (.ref a) { s' with heap := h2 } ∧ ∀ q ∈ X.pn, h2.get? q.1 = some q.2 := fun h2 fl up2 =>
    ⟨⟨a, B, H, cls, d, rfl, fl, J.inGround ground, ub h2 up2, fresh, sameOs.trans J.os, bare, hW _ _ _ _ wish⟩, fun q hq => fl.1 q.1 q.2 (pinned q hq)⟩
  have sky2 : Sky B (X.env :: X.outer) a (L2N.Zn cls d) X.env.locals s'.heap := hs ▸ sky
  obtain ⟨z1, z2, z3, oe, vs, z4, z5, z6, z7⟩ | fl | held := sky2
  · exact PXN.leaving_firstZ L2N.Zn.steady frames z3 hf z4 z1 z2 z6 z7 z5 goal
  · exact PXN.leaves_onZ L2N.Zn.steady frames hf fl goal
  · exact HandSPX.leaves_heldZ hf held goal
theorem takes_gcx1 {P : Program} {w : World} {K : PySem.W.Frag} {mg : Str → Option Value} {base : Heap} {N : List Str} {qual : Str} {scope : Scope} {f : Addr} {cd : Value} {A : Around} {outer : List Env} {s : Shared} {H : Hp} {E : XK} {pn : List (Addr × Obj)} {z : Shared} :
    L2N.Takes (gcx1 P w K mg base N qual scope f cd A outer s H E pn z) (fun cls d _ H' => E cls d H') := fun u s' x =>
  leave_pins (X := gcx1 P w K mg base N qual scope f cd A outer s H E pn z) (W := fun cls d _ H' => E cls d H') (E := E) rfl rfl rfl (fun _ _ _ _ h => h) x
theorem ffn_of {P : Program} {w : World} {K : PySem.W.Frag} {mg : Str → Option Value} {base : Heap} {k : Nat} {f : Addr} {name qual : Str} {params : Arguments} {st0 : Stmt} {rest : List Stmt} {scope : Scope} {dV kV doc pm cdv ct oc : Value} {an od : Option Addr}
    {osl : Array (Option Value)} {N ps : List Str} {sp : SpF} (lk : K.lookup f = some ⟨oc, od, .func (PySem.W.fnOf name qual params (st0 :: rest) scope dV kV doc pm an cdv ct), osl⟩) (hcd : PySem.W.codeIn K cdv qual = true) (S : GScope N ps scope)
    (len : ∀ vs H Yd Q E, sp vs H Yd Q E → vs.length = ps.length)
    (hbody : ∀ (A : Around) (outer : List Env) (s : Shared) (H : Hp) (vs : List V) (Yd : YdK) (Q : List V → Hp → Prop) (E : XK) (pn : List (Addr × Obj)), Room k (A.deeper (envOfC qual scope s.heap.objs.size f cdv)) → sp vs H Yd Q E →
      ∃ t0 t, (∀ z, PS (gcx1 P w K mg base N qual scope f cdv A outer s H E pn z) st0 t0) ∧ FSs (gcxOf P w K mg base N qual scope f cdv A outer s H E0 pn) Yd rest t ∧
        t0 { nx := fun σ H' => t { nx := fun ys _ H' => Q ys H', rt := fun ys v H' => v = .non ∧ Q ys H' } [] σ H', rt := fun v H' => False } (start N vs) H) :
    FFn P w K mg base (k + 1) f (PySem.W.fnOf name qual params (st0 :: rest) scope dV kV doc pm an cdv ct) ps sp := by
  refine ⟨len, fun A outer s H args us vs Yd Q E hr e0 hb r hsp => ?_⟩
  have hl := len _ _ _ _ _ hsp
  have KX : K.In s.heap := e0.mod.kin.keeps fun b o e => (e0.bs b o e).1
  have lim : s.heap.NoLimit := e0.mod.nolimit.keeps fun b o e => (e0.bs b o e).1
  have hkind : ∀ y ∈ ps.zip us, scope.names.lookup y.1 = some .local ∨ (scope.names.lookup y.1 = some .cell ∧ ((cellsFrom (s.heap.objs.size + 1) scope.names []).lookup y.1).isSome = true) := fun ⟨n, v⟩ hy => by
    rcases S.par n (List.of_mem_zip hy).1 with q | q
    · exact .inl q
    · exact .inr ⟨q, PySem.W.cellsFrom_some _ _ _ (.inl q)⟩
  refine codeAny_call_generator hr.depth (KX _ _ lk) rfl S.co S.gen rfl (PySem.W.codeRec_of KX hcd) (hb _ _ _ _ ?_)
  refine wpAny_newFunctionEnv_cells S.kind hkind fun env he s1 x => ?_
  subst he
  have lim1 : s1.heap.NoLimit := lim.keeps x.toInCall.keep
  refine ⟨lim1, ?_⟩
  obtain ⟨h1, tk, es1, hk1⟩ := x.done
  have os1 : s1.os = s.os := by rw [es1]
  have gen1 : s1.gens = s.gens := by rw [es1]
  have lt1 : s.heap.objs.size < s1.heap.objs.size := x.toInCall.ns.lt
  have sz1 : s.heap.objs.size ≤ s1.heap.objs.size := Nat.le_of_lt lt1
  have kp1 : ∀ b o, s.heap.get? b = some o → s1.heap.get? b = some o := x.toInCall.keep
  have main : ∀ (go : Obj) (nm qn : Value) (tk2 : Nat), go.cls = .type "generator" → go.data = .fields #[.int s1.gens.size 0, nm, qn] → go.slots = #[] → (∀ h : Heap, (h.push go).get? h.objs.size = some go) →
      FMade base P w (k + 1) outer H s Yd Q E (.ref s1.heap.objs.size) { s1 with gens := s1.gens.push (.fresh (.func (st0 :: rest) (envOfC qual scope s.heap.objs.size f cdv))), toks := tk2, heap := s1.heap.push go } := by
    intro go nm qn tk2 hgc hgd0 hgs hgp
    have hgen : ∀ h : Heap, h.get? s1.heap.objs.size = some go → h.IsGen s1.heap.objs.size s1.gens.size := fun h e => ⟨go, nm, qn, e, hgc, hgd0, hgs⟩
    have hpushed : (s1.heap.push go).get? s1.heap.objs.size = some go := hgp _
    refine ⟨s1.heap.objs.size, s1.gens.size, _, rfl, sz1, ?_, hgen _ hpushed, Array.getElem?_push_size .., os1, ?_, lim1.keeps fun b o e => Heap.get?_push_of_some _ e, fun b o e => Heap.get?_push_of_some _ (kp1 b o e), ?_⟩
    · show _ < (s1.heap.push _).objs.size
      rw [Heap.size_push]; exact Nat.lt_succ_self _
    · exact AllBare.push (by rw [gen1]; exact e0.bare) rfl
    intro Aw s2 hrw hfr hk2 hos hba
    have e0w : Env0 P w K mg base Aw outer s H := ⟨hfr, e0.mod, e0.bs, e0.bsz, e0.funs, e0.frf, e0.hok, e0.bare⟩
    obtain ⟨t0, t, ht0, ht, hq⟩ := hbody Aw outer s H vs Yd Q E [(s1.heap.objs.size, go)] (hrw.deeper _) hsp
    have I1 : Inv (gcxOf P w K mg base N qual scope f cdv Aw outer s H E0 []) [] (start N vs) H s1 := inv_startG S hrw.hd e0w hl r x
    have kp2 : ∀ b o, s1.heap.get? b = some o → s2.heap.get? b = some o := fun b o e => hk2 b o (Heap.get?_push_of_some _ e)
    have I2 : Inv (gcxOf P w K mg base N qual scope f cdv Aw outer s H E0 []) [] (start N vs) H s2 :=
      I1.call' (ch := []) (hos.trans os1.symm) (Un.kept kp2) (I1.hok.kept kp2) hba fun b hb => by cases hb
    have hea : s2.heap.get? s1.heap.objs.size = some go := hk2 s1.heap.objs.size go hpushed
    have hgd : ∀ v, go.data ≠ .cell v := fun v q => by rw [hgd0] at q; cases q
    have I3 : Inv (gcxOf P w K mg base N qual scope f cdv Aw outer s H E0 [(s1.heap.objs.size, go)]) [] (start N vs) H s2 := Inv.pinnedG I2 fun q hq => by
      rcases List.mem_append.mp hq with hq | hq
      · rw [List.mem_singleton.mp hq]
        exact ⟨hea, I1.hok.fresh (Nat.le_refl _), Nat.ne_of_gt lt1, I1.nofs (Nat.le_refl _), hgd⟩
      · cases hq
    have yg : Young (gcxOf P w K mg base N qual scope f cdv Aw outer s H E0 [(s1.heap.objs.size, go)]) [] := ⟨rfl, fun y c e => Nat.le_of_lt (x.above y c (PySem.mem_of_lookup e)), fun q hq => by
      rcases List.mem_append.mp hq with hq | hq
      · rw [List.mem_singleton.mp hq]
        exact sz1
      · cases hq⟩
    have J : s.heap.objs.size ≤ s2.heap.objs.size ∧ Inv (gcx1 P w K mg base N qual scope f cdv Aw outer s H E [(s1.heap.objs.size, go)] s2) [] (start N vs) H s2 := inv_anew rfl yg I3 (NapF.refl I3)
    obtain ⟨sz2, I4⟩ := J
    have th2 : ∀ b o, s.heap.get? b = some o → ∃ o', s2.heap.get? b = some o' := fun b o e => ⟨o, kp2 b o (kp1 b o e)⟩
    have pinned : ∀ {z : Shared} {ip : List (Addr × Obj)} {s3 : Shared} {σ3 : L2.St} {H3 : Hp}, AtF (gcxOf P w K mg base N qual scope f cdv Aw outer s H E0 [(s1.heap.objs.size, go)]) z ip σ3 H3 s3 → s3.heap.IsGen s1.heap.objs.size s1.gens.size ∧ s3.heap.NoLimit := fun {z ip s3 σ3 H3} ⟨⟨Hz, I, _⟩, _, _⟩ =>
      ⟨hgen _ (I.pin (s1.heap.objs.size, go) (List.mem_append_left _ (List.mem_singleton.mpr rfl))).1, I.nolimit⟩
    refine seg_func ?_
    refine seg_imp (R := fun n z r s3 => (∃ ys v ip σ3 H3 u, r = .ok (.ret u) ∧ n + ys.length = sizeLine ∧ AtF (gcxOf P w K mg base N qual scope f cdv Aw outer s H E0 [(s1.heap.objs.size, go)]) z ip σ3 H3 s3 ∧ RelV v u ∧ v = .non ∧ Q ys H3) ∨ ∃ e, r = .error e ∧ FErr P w outer H s s1.heap.objs.size s1.gens.size E e s3)
      (Y := FY (gcxOf P w K mg base N qual scope f cdv Aw outer s H E0 [(s1.heap.objs.size, go)]) Yd) (fun n z r s3 hR => ?_) (fun n z v s3 kap kap' hkk hY => ?_) sizeLine ?_
    · rcases hR with ⟨ys, v, ip, σ3, H3, u, rfl, hn, hI, rv, ev, hQ⟩ | ⟨e, er, hx⟩
      · subst ev
        have eu : u = Value.none := rv
        subst eu
        exact .inl ⟨.inl rfl, H3, ys, hn, hI.see rfl, hQ⟩
      · exact .inr ⟨e, er, hx⟩
    · obtain ⟨ys, xx, ip, σ3, H3, hn, h2, hI, _, hyd, h3⟩ := hY
      exact ⟨H3, ys, xx, hn, h2, (pinned hI).2, (pinned hI).1, hI.see rfl, hyd, fun s4 nap => hkk _ _ (h3 s4 nap)⟩
    · have g0 : FC (gcxOf P w K mg base N qual scope f cdv Aw outer s H E0 [(s1.heap.objs.size, go)]) [] Aw (.func (st0 :: rest) (envOfC qual scope s.heap.objs.size f cdv)) [] id := ⟨yg, over_func, rfl, rfl, rfl⟩
      refine seg_execs_cons ?_
      refine seg_wrap ?_
      rw [over_func]
      refine wpAny_mono ((ht0 s2).run [] s2 (start N vs) H _ I4 hq) (fun fl s3 hs => ?_) fun e s3 hx => ?_
      · cases fl with
        | next =>
          obtain ⟨σ3, H3, I5, q5⟩ := hs
          have I6 : Inv (reb (gcxOf P w K mg base N qual scope f cdv Aw outer s H E0 [(s1.heap.objs.size, go)]) s2 H) [] σ3 H3 s3 :=
            ⟨⟨I5.ok.mod, I5.ok.kind, I5.ok.glob, I5.ok.blt, I5.ok.above, I5.ok.inj, I5.ok.has, I5.ok.cab, I5.ok.hd, I5.ok.frames, I5.ok.stk, I5.ok.exf, I5.ok.bs, I5.ok.bsz, I5.ok.noex, I5.ok.exfs, I5.ok.funs, I5.ok.frf⟩, I5.os, I5.bare, I5.base, I5.loc, I5.cell, I5.free, I5.freeC, I5.pin, I5.hok, I5.len⟩
          refine ht.run Aw [] _ sizeLine [] s2 _ [] _ _ id id s3 σ3 H3 _ g0 (Nat.add_zero _) ⟨fun n ys z s4 fl hn hs => ?_⟩ ⟨⟨H, I6, fun b o e q => q⟩, sz2, th2⟩ q5
          cases fl with
          | next =>
            obtain ⟨σ4, H4, hI, hQ⟩ := hs
            exact seg_end (.ok (.ret .none)) (.inl ⟨ys, .non, [], σ4, H4, _, rfl, hn, hI, rfl, rfl, hQ⟩)
          | brk => obtain ⟨_, _, _, q⟩ := hs; exact False.elim q
          | cont => obtain ⟨_, _, _, q⟩ := hs; exact False.elim q
          | ret u =>
            obtain ⟨v, σ4, H4, hI, rv, ev, hQ⟩ := hs
            exact seg_end (.ok (.ret u)) (.inl ⟨ys, v, [], σ4, H4, _, rfl, hn, hI, rv, ev, hQ⟩)
        | brk => obtain ⟨_, _, _, q⟩ := hs; exact False.elim q
        | cont => obtain ⟨_, _, _, q⟩ := hs; exact False.elim q
        | ret u => obtain ⟨_, _, _, _, _, q⟩ := hs; exact False.elim q
      · refine seg_wrap ?_
        rw [over_func]
        refine wpAny_mono (show wpAny (model P w) (Aw.deeper (envOfC qual scope s.heap.objs.size f cdv)) (leaving (envOfC qual scope s.heap.objs.size f cdv) e) (fun _ s4 => L2N.CX P w outer H (cutS s.heap.objs.size s2) E e s4 ∧ ∀ p ∈ [(s1.heap.objs.size, go)], s4.heap.get? p.1 = some p.2) (fun _ _ => False) s3 from hx) (fun _ s4 q => ?_) fun _ s4 q => q.elim
        obtain ⟨⟨a, B, H', cls, d, e1, e2, e3, e4, e5, e6, e7, e8⟩, hpq⟩ := q
        have k2 : ∀ b o, s.heap.get? b = some o → (cutS s.heap.objs.size s2).heap.get? b = some o := fun b o e => (cut_get (Heap.lt_size e)).trans (kp2 b o (kp1 b o e))
        exact seg_end (.error e) (.inr ⟨e, rfl, ⟨a, B, H', cls, d, e1, e2, e3, ⟨fun b o e n f => e4.keep b o (k2 b o e) n f, fun b o e f => e4.slot b o (k2 b o e) f, fun b o e n => e4.free b o (k2 b o e) n, fun b o e f => e4.there b o (k2 b o e) f, e4.tups, e4.frzs, e4.tbls⟩, e5, e6.trans hos, e7, e8⟩, hgen _ (hpq (s1.heap.objs.size, go) (List.mem_singleton.mpr rfl))⟩)
  exact main _ _ _ _ rfl rfl rfl fun h => Heap.get?_push_size _ rfl
/-- such a def, by its body -/
theorem fam_ok {P : Program} {w : World} {K : PySem.W.Frag} {mg : Str → Option Value} {base : Heap} {x qual : Str} {st st0 : Stmt} {rest : List Stmt} {f : Addr} {fd : FuncData} {N ps : List Str} {k : Nat} {sp : SpF} (F : L2.Fun K x qual st f fd) (S : GScope N ps (defScope st)) (hd : defBody st = st0 :: rest) (len : ∀ vs H Yd Q E, sp vs H Yd Q E → vs.length = ps.length)
    (hbody : ∀ (cdv : Value) (A : Around) (outer : List Env) (s : Shared) (H : Hp) (vs : List V) (Yd : YdK) (Q : List V → Hp → Prop) (E : XK) (pn : List (Addr × Obj)), Room k (A.deeper (envOfC qual (defScope st) s.heap.objs.size f cdv)) → sp vs H Yd Q E →
      ∃ t0 t, (∀ z, PS (gcx1 P w K mg base N qual (defScope st) f cdv A outer s H E pn z) st0 t0) ∧ FSs (gcxOf P w K mg base N qual (defScope st) f cdv A outer s H E0 pn) Yd rest t ∧
        t0 { nx := fun σ H' => t { nx := fun ys _ H' => Q ys H', rt := fun ys v H' => v = .non ∧ Q ys H' } [] σ H', rt := fun v H' => False } (start N vs) H) : FFn P w K mg base (k + 1) f fd ps sp := by
  obtain ⟨oc, od, kV, doc, pm, an, cdv, ct, osl, rfl, lk, hcd⟩ := F.ex
  rw [hd] at lk ⊢
  exact ffn_of lk hcd S len fun A outer s H vs Yd Q E pn hr hsp => hbody cdv A outer s H vs Yd Q E pn hr hsp
structure FCal (P : Program) (w : World) (K : PySem.W.Frag) (mg : Str → Option Value) (base : Heap) (k : Nat) (x : Str) (sp : SpF) : Prop where
  ex : ∃ (f : Addr) (fd : FuncData) (ps : List Str), FFn P w K mg base k f fd ps sp ∧ mg x = some (.ref f) ∧ PySem.W.keepIn K (.ref f) = true ∧ Binds K fd ps []
end Gc

/-! for y in g(..): S.append(y) -/
namespace Gc
open PySem PySem.Spec PyProof.Rows GenW L2
def drp (H : Hp) (l : Addr) : Hp := fun b => if b = l then none else H b
theorem drp_same {H : Hp} {l : Addr} : drp H l l = none := by unfold drp; rw [if_pos rfl]
theorem drp_ne {H : Hp} {l b : Addr} (h : b ≠ l) : drp H l b = H b := by unfold drp; rw [if_neg h]
theorem drp_none {H : Hp} {l b : Addr} (h : H b = none) : drp H l b = none := by
  unfold drp
  split
  · rfl
  · exact h
/-- for y in g(..): S.append(y); what is raised comes ahead of the first item -/
def tForF (K : PySem.W.Frag) (W : WX) (sp : SpF) (iy iS : Nat) (t : TA) : TS := fun D σ H => t σ H fun vs H1 => ∃ l, σ[iS]? = some (some (.ref l)) ∧ H1 l = some (.lst []) ∧
  sp vs (drp H1 l) (fun _ _ H' => Same (drp H1 l) H') (fun ys H' => Same (drp H1 l) H' ∧ ∀ ws : List V, ws.length = ys.length → D.nx (σ.set iy none) (upd H' l (.lst ws))) (EN K fun cls d H' => H' l = none → W cls d σ (upd H' l (.lst [])))
section
variable {X : Cx} {k : Nat} {x y S : Str} {iy iS : Nat} {sp : SpF} {W : WX} {p py py2 pS ap cp ep pos' fpos : Pos} {e : Expr} {es : List Expr} {t : TA}
theorem pfam_call (c : FCal X.prog X.w X.K X.mg X.base k x sp) (hr : Room k X.A) (hg : Gl X x) (ha : PA X (e :: es) t) {pins : List (Addr × Obj)} {s : Shared} {σ : L2.St} {H : Hp} {D : Ends} (I : Inv X pins σ H s)
    (h : tForF X.K W sp iy iS t D σ H) (hdb : (x == ("__debug__" : Str)) = false := by decide) (he : starEach (e :: es) X.env = (false, eval e X.env) :: starEach es X.env := by rfl) (hpl : (backTo pos' (starEach es X.env)).any (·.1) = false := by rfl) :
    wpAny (model X.prog X.w) X.A (eval (.Call (.Name x p) (e :: es) [] pos') X.env) (fun u s' => ∃ H1 sc l, Inv X pins σ H1 sc ∧ σ[iS]? = some (some (.ref l)) ∧ H1 l = some (.lst []) ∧
      FMade X.base X.prog X.w k X.stack (drp H1 l) sc (fun _ _ H' => Same (drp H1 l) H') (fun ys H' => Same (drp H1 l) H' ∧ ∀ ws : List V, ws.length = ys.length → D.nx (σ.set iy none) (upd H' l (.lst ws))) (EN X.K fun cls d H' => H' l = none → W cls d σ (upd H' l (.lst []))) u s') X.xe s := by
  obtain ⟨f, fd, ps, F, hm, hk, hb⟩ := c.ex
  refine wpAny_Call_Name_kw (ld_glob I hg hm ?_ hdb)
  refine PySem.W.callWith_K (h₀ := X.base) I.ok.mod.kin hk (thn (ha.run pos' pins s σ H _ I h) fun us s1 ⟨vs, H1, I1, r, l, eS, el, q⟩ => ⟨I1.kIn, ?_⟩) he hpl
  have hl : us.length = ps.length := by rw [← r.length]; exact F.len _ _ _ _ _ q
  have e0 := I1.env0
  have e1 : Env0 X.prog X.w X.K X.mg X.base X.A X.stack s1 (drp H1 l) := ⟨e0.frames, e0.mod, fun b o q => ⟨(e0.bs b o q).1, drp_none (e0.bs b o q).2⟩, e0.bsz, e0.funs, fun b q => drp_none (e0.frf b q), fun b u q => by
    have bl : b ≠ l := fun z => by rw [z, drp_same] at q; cases q
    rw [drp_ne bl] at q
    refine (I1.hok b u q).stay (fun _ _ _ z => z) (fun b' z => ?_) fun b' xs z => ?_
    · rw [drp_ne (ne_of z el (by intro q; cases q))]; exact z
    · rw [drp_ne (ne_of z el (by intro q; cases q))]; exact z, e0.bare⟩
  refine wpAny_call (codeAny_mono (F.run X.A X.stack s1 (drp H1 l) ⟨us, []⟩ us vs _ _ _ hr e1 (by have := hb s1 us I1.kIn (by rw [List.append_nil]; exact hl); rw [List.append_nil] at this; exact this) r q) fun r s2 hq => ?_)
  cases r with
  | error e => exact False.elim hq
  | ok fl =>
    cases fl with
    | ret u => exact ⟨H1, s1, l, I1, eS, el, hq⟩
    | next => exact False.elim hq
    | brk => exact False.elim hq
    | cont => exact False.elim hq
/-- an error of such a class ends no iterator -/
theorem notStopN {P : Program} {w : World} {K : PySem.W.Frag} {outer : List Env} {H : Hp} {s s' : Shared} {E : XK} {e : Value} (hE : NoStop K E) (kin : K.In s'.heap) (c : L2N.CX P w outer H s E e s') : NotStop (model P w) e s'.heap := by
  obtain ⟨a, B, H', cls, d, e1, ⟨f1, f2, f3, oe, vs, T, oT, ts, f4, f5, f6⟩, rest⟩ := c
  exact notStop_of hE kin ⟨a, B, H', cls, d, e1, ⟨f1, f2, f3, oe, vs, T, oT, ts, f4, f5.zc, f6⟩, rest⟩
theorem ps_forF (hp : PassesOwn (model X.prog X.w) X.A X.env X.xe) (tk : L2N.Takes X W) (c : FCal X.prog X.w X.K X.mg X.base k x sp) (hr : Room (k + 3) X.A) (hg : Gl X x) (ha : PA X (e :: es) t)
    (hN : X.N.Nodup) (hiy : X.N[iy]? = some y) (hiS : X.N[iS]? = some S) (hky : X.env.kindOf y = some .local) (hkS : X.env.kindOf S = some .local) (hSy : S ≠ y)
    (hs : ∀ v, foldedSetIterable (.Call (.Name x p) (e :: es) [] pos') X.env v = pure v := by intro _; rfl) (hdb : (x == ("__debug__" : Str)) = false := by decide) (hdy : (y == ("__debug__" : Str)) = false := by decide) (hdS : (S == ("__debug__" : Str)) = false := by decide)
    (he : starEach (e :: es) X.env = (false, eval e X.env) :: starEach es X.env := by rfl) (hpl : (backTo pos' (starEach es X.env)).any (·.1) = false := by rfl)
    (hbase : attributeBase (.Name S pS) "append" X.env (eval (.Name S pS) X.env) = eval (.Name S pS) X.env := by rfl)
    (hfew : ((backTo cp (starEach [.Name y py2] X.env)).all (fun x => !x.1) && (backToKw cp (keywordEach [] X.env)).all (fun x => x.1.isSome)
      && decide (([.Name y py2] : List Expr).length + ([] : List Keyword).length + (if ([] : List Keyword).isEmpty then 0 else 1) < 30)) = true := by rfl)
    (hline : (ap.endLine == cp.line) = true := by rfl) (he2 : starEach [.Name y py2] X.env = (false, eval (.Name y py2) X.env) :: starEach [] X.env := by rfl) (hpl2 : (backTo cp (starEach [] X.env)).any (·.1) = false := by rfl)
    (hsw : swapsWith (.Call (.Attribute (.Name S pS) "append" ap) [.Name y py2] [] cp) none ep.line X.env = pure false := by rfl) :
    PS X (.For (.Name y py) (.Call (.Name x p) (e :: es) [] pos') [.Expr (.Call (.Attribute (.Name S pS) "append" ap) [.Name y py2] [] cp) ep] [] fpos) (tForF X.K W sp iy iS t) := by
  refine ⟨fun pins s σ H D I h => ?_⟩
  refine wpAny_For (thn (pfam_call c (hr.mono (by omega)) hg ha I h hdb he hpl) fun u s1 ⟨H1, sc, l, I1, eS, el, hG⟩ => ?_) hs
  obtain ⟨a, g, code, rfl, ha1, ha2, hgen, hgs, hos, hb, hl, hkp, wake⟩ := hG
  refine wpAny_pyIter_gen hgen ?_
  obtain ⟨m0, hm0, hloc⟩ := id I1.loc
  have hkind := I1.ok.kind
  have l0 : l < sc.heap.objs.size := (I1.hok l _ el).lt
  have L0 : X.env.locals < sc.heap.objs.size := I1.lt
  have lL : l ≠ X.env.locals := fun z => by rw [z, I1.free] at el; cases el
  have lfs : l ∉ X.fs := fun z => by
    obtain ⟨_, o, ho, _⟩ := I1.ok.funs.mem z
    have n := I1.base.free l o ho (I1.ok.frf l z) fun q => I1.ok.exfs l q z
    rw [n] at el
    cases el
  have lst : l ∉ frs X.stack := fun z => (List.mem_cons.mp (I1.stkSub l z)).elim lL lfs
  have hS0 : m0 S = some (.ref l) := by
    obtain ⟨u, ru, lk⟩ := hloc iS S _ hiS eS (.inl hkS)
    cases ru
    rcases lk with ⟨_, q⟩ | ⟨q, _⟩
    · exact q
    · rcases q with q | q <;> (rw [hkS] at q; cases q)
  obtain ⟨_, its0, n0, r0, _, hl0⟩ := I1.lstM el
  have its00 : its0 = [] := by cases r0; rfl
  have mg : ∀ b o, X.base.get? b = some o → b ≠ X.env.locals ∧ b ≠ l := fun b o q => by
    obtain ⟨q1, q2⟩ := I1.bs b o q
    refine ⟨fun z => ?_, fun z => by rw [z, el] at q2; cases q2⟩
    have h1 := Heap.lt_size q
    rw [z] at h1
    exact absurd (Nat.lt_of_lt_of_le h1 (Nat.le_trans I1.ok.bsz I1.ok.above)) (Nat.lt_irrefl _)
  have hL' : drp H1 l X.env.locals = none := drp_none I1.free
  refine codeAny_forLoop_any (fun n z => ∃ gs m acc cc ws, z.gens[g]? = some gs ∧ gs.Goes (model X.prog X.w) X.A.in1 (FEnd X.base X.prog X.w X.stack (drp H1 l) sc a g (fun ys H' => Same (drp H1 l) H' ∧ ∀ ws : List V, ws.length = ys.length → D.nx (σ.set iy none) (upd H' l (.lst ws))) (EN X.K fun cls d H' => H' l = none → W cls d σ (upd H' l (.lst []))))
      (FItem X.base X.prog X.w X.stack (drp H1 l) sc a g fun _ _ H' => Same (drp H1 l) H') n (.send .none) (z.setGen g .running) ∧
      z.heap.IsGen a g ∧ z.heap.NoLimit ∧ z.heap.Ns X.env.locals m ∧ (∀ x', x' ≠ y → m x' = m0 x') ∧ z.heap.get? l = some (lstObj acc cc) ∧ n + acc.size = sizeLine ∧ Vals ws acc.toList ∧ z.os = sc.os ∧
      (∀ b o, sc.heap.get? b = some o → H1 b = none → b ≠ X.env.locals → b ∉ X.fs → z.heap.get? b = some o) ∧ (∀ b o, sc.heap.get? b = some o → b ∈ X.fs → ∃ sl, z.heap.get? b = some { o with slots := sl }) ∧ ∀ b o, sc.heap.get? b = some o → ∃ o', z.heap.get? b = some o') ?_ sizeLine ?_
  · rintro n z ⟨gs, m, acc, cc, ws, zg, go, zgen, zl, zL, zm, zD, hn, hv, zos, zk, zsl, zth⟩
    have hgl : g < z.gens.size := (Array.getElem?_eq_some_iff.mp zg).1
    -- what the consumer's own looks like behind the generator's turn
    have own : ∀ {H' : Hp} {s5 : Shared}, FSee X.base X.prog X.w X.stack (drp H1 l) sc (z.setGen g .running) H' s5 → s5.heap.Ns X.env.locals m ∧ s5.heap.get? l = some (lstObj acc cc) ∧ H' l = none ∧ H' X.env.locals = none ∧ (∀ b o, sc.heap.get? b = some o → H1 b = none → b ≠ X.env.locals → b ∉ X.fs → s5.heap.get? b = some o) ∧
        (∀ b o, sc.heap.get? b = some o → b ∈ X.fs → ∃ sl, s5.heap.get? b = some { o with slots := sl }) := fun {H' s5} f => by
      obtain ⟨oL, hoL⟩ : ∃ o, sc.heap.get? X.env.locals = some o := by
        obtain ⟨o, _, _, ho, _⟩ := hm0
        exact ⟨o, ho⟩
      refine ⟨?_, f.keep l _ _ hl0 drp_same lst zD, f.none l _ hl0 drp_same, f.none _ _ hoL hL', fun b o e1 e2 e3 e4 => f.keep b o o e1 (drp_none e2) (fun q => (List.mem_cons.mp (I1.stkSub b q)).elim e3 e4) (zk b o e1 e2 e3 e4), fun b o e1 e2 => ?_⟩
      · obtain ⟨o, es, ep, ho, rr⟩ := zL
        by_cases q : X.env.locals ∈ frs X.stack
        · obtain ⟨sl, hs⟩ := f.slot _ _ o hoL hL' q ho
          exact ⟨_, es, ep, hs, rr⟩
        · exact ⟨o, es, ep, f.keep _ _ o hoL hL' q ho, rr⟩
      · obtain ⟨sl, h1⟩ := zsl b o e1 e2
        have n1 : drp H1 l b = none := by
          obtain ⟨_, o0, ho, _⟩ := I1.ok.funs.mem e2
          exact drp_none (I1.base.free b o0 ho (I1.ok.frf b e2) fun q => I1.ok.exfs b q e2)
        by_cases q : b ∈ frs X.stack
        · obtain ⟨sl2, h2⟩ := f.slot b o _ e1 n1 q h1
          exact ⟨sl2, h2⟩
        · exact ⟨sl, f.keep b o _ e1 n1 q h1⟩
    refine wpAny_passesOwn hp (wpAny_gsz (n := g + 1) hgl (next_genG (A := X.A) hr.hd zl (by have := hr.dp; omega) zgen zg go (fun v s5 gs' hbare hv5 => ?_) (fun s5 hfin h' hk => ?_) fun e s5 q => ?_))
    · intro hsz
      obtain ⟨H', ys, xx, hn5, rv, nl5, gen5, see5, yd, kap⟩ := hv5
      obtain ⟨C5, D5, n1, n2, kk, ss⟩ := own see5
      cases n with
      | zero => exact False.elim (kap s5 ⟨see5.bare, fun _ _ _ e => e, fun _ _ _ _ e => e, see5.base, fun b o e => ⟨o, e, fun d => d⟩⟩)
      | succ n =>
        obtain ⟨og, nm, qn, hog, hcl, hdg, hsl⟩ := id gen5
        refine go_of (s := s5.setGen g gs') hog hcl hdg (by decide) ?_
        refine wpAny_assign_Name (wpAny_storeName_local hky (s := s5.setGen g gs') (m := m) C5 (fun h6 hn6 sb6 => ?_) (by rw [hkind]; rfl))
        have sb6' : ∀ b, b ≠ X.env.locals → h6.get? b = s5.heap.get? b := fun b hb => sb6.2 b hb
        have D6 : h6.get? l = some (lstObj acc cc) := (sb6' l lL).trans D5
        refine wpAny_execs_cons (wpAny_Expr ?_ (by unfold interactive; rw [hkind]; rfl) hsw)
        refine wpAny_Call_method_late hbase hfew hline rfl (wpAny_Name (wpAny_loadName_local hkind hkS hn6 (v := .ref l) (by show (if S = y then _ else m S) = _; rw [if_neg hSy, zm S hSy]; exact hS0) ?_) hdS)
        refine ⟨"list", "list.append", PySem.F.plainAttrs_list, PySem.F.slot_list_append, PySem.F.type_list_append, ⟨_, D6, rfl⟩, fun a e => by cases e; exact ⟨_, D6, rfl⟩, ?_⟩
        rw [he2]
        refine Calls.callWith_builtin (by show (false || (backTo cp (starEach [] X.env)).any (·.1)) = false; rw [hpl2]; rfl) (Calls.evalArgs_plain ?_)
        refine Calls.spliced_cons (wpAny_Name (wpAny_loadName_local hkind hky hn6 (v := v) (by simp) ?_) hdy)
        refine Calls.spliced_nil ?_
        refine append_at D6 (fun h7 sb7 hD7 => ?_) (by omega)
        refine wpAny_execs_nil ?_
        have sb7' : ∀ b, b ≠ l → h7.get? b = h6.get? b := fun b hb => sb7.2 b hb
        have kp7 : ∀ b o, b ≠ X.env.locals → b ≠ l → s5.heap.get? b = some o → h7.get? b = some o := fun b o h1 h2 e => (sb7' b h2).trans ((sb6' b h1).trans e)
        have C7 : h7.Ns X.env.locals fun x => if x = y then some v else m x := by
          obtain ⟨o, es, ep, ho, rr⟩ := hn6
          exact ⟨o, es, ep, (sb7' _ lL.symm).trans ho, rr⟩
        have hsz5 : g < s5.gens.size := by
          have e : (s5.setGen g gs').gens.size = s5.gens.size := setGen_size _ _ _
          have h : g + 1 ≤ (s5.setGen g gs').gens.size := hsz
          omega
        have aa : a ≠ X.env.locals ∧ a ≠ l := ⟨fun q => absurd (Nat.lt_of_lt_of_le L0 ha1) (by rw [q]; exact Nat.lt_irrefl _), fun q => absurd (Nat.lt_of_lt_of_le l0 ha1) (by rw [q]; exact Nat.lt_irrefl _)⟩
        have there7 : ∀ b o, s5.heap.get? b = some o → ∃ o', h7.get? b = some o' ∧ ((∀ vs, o.data ≠ .fields vs) → ∀ vs, o'.data ≠ .fields vs) := fun b o e => by
          by_cases b1 : b = l
          · rw [b1]
            exact ⟨_, hD7, fun _ vs q => by cases q⟩
          · by_cases b2 : b = X.env.locals
            · rw [b2]
              obtain ⟨o', es, ep, ho, hd, _⟩ := C7
              exact ⟨o', ho, fun _ vs q => by rw [hd] at q; cases q⟩
            · exact ⟨o, kp7 b o b2 b1 e, fun d => d⟩
        refine ⟨n, Nat.lt_succ_self n, gs', _, acc.push v, cc + 1, ws ++ [xx], setGen_at hsz5, ?_, ⟨og, nm, qn, kp7 a og aa.1 aa.2 hog, hcl, hdg, hsl⟩, ?_, C7, fun x' hx' => by show (if x' = y then _ else m x') = _; rw [if_neg hx']; exact zm x' hx', hD7, by rw [Array.size_push]; omega, ?_, see5.os.trans zos, fun b o e1 e2 e3 e4 => ?_, fun b o e1 e2 => ?_, fun b o e1 => ?_⟩
        · refine kap _ ⟨allBare_setGen (s := ⟨h7, (s5.setGen g gs').gens, _, _, s5.os⟩) (allBare_setGen see5.bare hbare) rfl, fun b o hb e => kp7 b o (fun q => ?_) (fun q => ?_) e, fun b o u hu e => kp7 b o (fun q => by rw [q, n2] at hu; cases hu) (fun q => by rw [q, n1] at hu; cases hu) e, fun b o e => kp7 b o (mg b o e).1 (mg b o e).2 (see5.base b o e), there7⟩
          · rw [q] at hb
            exact absurd (Nat.lt_of_lt_of_le L0 hb) (Nat.lt_irrefl _)
          · rw [q] at hb
            exact absurd (Nat.lt_of_lt_of_le l0 hb) (Nat.lt_irrefl _)
        · exact I1.ok.mod.nolimit.keeps fun b o e => kp7 b o (mg b o e).1 (mg b o e).2 (see5.base b o e)
        · rw [Array.toList_push]
          exact hv.append (.cons rv .nil)
        · exact kp7 b o e3 (fun q => by rw [q, el] at e2; cases e2) (kk b o e1 e2 e3 e4)
        · obtain ⟨sl, h1⟩ := ss b o e1 e2
          refine ⟨sl, kp7 b _ (fun q => ?_) (fun q => lfs (q ▸ e2)) h1⟩
          obtain ⟨_, o0, ho, _⟩ := I1.ok.funs.mem e2
          have := Heap.lt_size ho
          rw [q] at this
          exact absurd (Nat.lt_of_lt_of_le this I1.ok.above) (Nat.lt_irrefl _)
        · obtain ⟨o', h1⟩ := see5.there b o e1
          obtain ⟨o2, h2, _⟩ := there7 b o' h1
          exact ⟨o2, h2⟩
    · intro hsz
      obtain ⟨H', ys, hn5, see5, same, kD⟩ := hfin
      obtain ⟨C5, D5, n1, n2, kk, ss⟩ := own see5
      have wl : ws.length = ys.length := by
        have q : ws.length = acc.toList.length := hv.length
        have q2 : acc.toList.length = acc.size := Array.length_toList
        omega
      have nL : ∀ b o, X.s_0.heap.get? b = some o → b ≠ X.env.locals := fun b o e => Nat.ne_of_lt (Nat.lt_of_lt_of_le (Heap.lt_size e) I1.ok.above)
      have cellK : ∀ c v, sc.heap.IsCell c v → H1 c = none → c ≠ X.env.locals → h'.IsCell c v := fun c v ⟨o, ho, hd⟩ e1 e2 => by
        by_cases f : c ∈ X.fs
        · obtain ⟨sl, h1⟩ := ss c o ho f
          exact ⟨_, hk _ _ h1, hd⟩
        · exact ⟨o, hk _ _ (kk c o ho e1 e2 f), hd⟩
      have gone : ∀ b o, sc.heap.get? b = some o → H1 b = none → upd H' l (.lst ws) b = none := fun b o e1 e2 => by
        rw [upd_ne (fun q => by rw [q, el] at e2; cases e2)]
        exact see5.none b o e1 (drp_none e2)
      refine wpAny_execs_nil ⟨σ.set iy none, upd H' l (.lst ws), ⟨I1.ok, (show s5.os = X.s_0.os from (see5.os.trans zos).trans I1.os), allBare_setGen see5.bare rfl, ⟨fun b o e n f x => ?_, fun b o e n f x => ?_, fun b o e n x => ?_, fun b o e x => ?_, fun b xs q => ?_, fun b o u q => ?_, fun b ps q => ?_⟩, ⟨m, C5.keeps hk, fun i x' v hx hv2 vis => ?_⟩, fun x' c hc => ?_, ?_, fun x' c hc => ?_, fun q hq => ?_, fun b u q => ?_, ?_⟩, kD ws wl⟩
      · exact hk _ _ (kk b o (I1.base.keep b o e n f x) (I1.base.free b o e n x) (nL b o e) f)
      · obtain ⟨sl, h1⟩ := I1.base.slot b o e n f x
        obtain ⟨sl2, h2⟩ := ss b _ h1 f
        exact ⟨sl2, hk _ _ h2⟩
      · obtain ⟨o', h1⟩ := I1.base.there b o e x
        exact gone b o' h1 (I1.base.free b o e n x)
      · obtain ⟨o', h1⟩ := I1.base.there b o e x
        obtain ⟨o2, h2⟩ := see5.there b o' h1
        exact ⟨o2, hk _ _ h2⟩
      · have q1 := I1.base.tups b xs q
        have bl := ne_of q1 el (by intro q; cases q)
        rw [upd_ne bl]
        exact same _ _ (by rw [drp_ne bl]; exact q1)
      · have q1 := I1.base.frzs b o u q
        have bl := ne_of q1 el (by intro q; cases q)
        rw [upd_ne bl]
        exact same _ _ (by rw [drp_ne bl]; exact q1)
      · obtain ⟨more, q1⟩ := I1.base.tbls b ps q
        have bl := ne_of q1 el (by intro q; cases q)
        refine ⟨more, ?_⟩
        rw [upd_ne bl]
        exact same _ _ (by rw [drp_ne bl]; exact q1)
      · have ii : iy ≠ i := fun q => by
          rw [q, List.getElem?_set_self'] at hv2
          cases e : σ[i]? with
          | none => rw [e] at hv2; cases hv2
          | some w => rw [e] at hv2; cases hv2
        rw [List.getElem?_set_ne ii] at hv2
        have xy : x' ≠ y := fun q => ii (by
          obtain ⟨l2, e2⟩ := List.getElem?_eq_some_iff.mp hiy
          exact (List.getElem?_inj l2 hN).mp (by rw [hiy, hx, q]))
        obtain ⟨u, ru, lk⟩ := hloc i x' v hx hv2 vis
        refine ⟨u, ru, ?_⟩
        rcases lk with ⟨q1, q2⟩ | ⟨q1, c, q2, q3⟩
        · exact .inl ⟨q1, (zm x' xy).trans q2⟩
        · exact .inr ⟨q1, c, q2, cellK c _ q3 (I1.freeC x' c q2) (I1.cne x' c q2)⟩
      · obtain ⟨v, q⟩ := I1.cell x' c hc
        exact ⟨v, cellK c v q (I1.freeC x' c hc) (I1.cne x' c hc)⟩
      · rw [upd_ne lL.symm]
        exact n2
      · obtain ⟨v, o, ho, _⟩ := I1.cell x' c hc
        exact gone c o ho (I1.freeC x' c hc)
      · obtain ⟨a1, a2, a3, a4, a5⟩ := I1.pin q hq
        exact ⟨hk _ _ (kk q.1 q.2 a1 a2 a3 a4), gone q.1 q.2 a1 a2, a3, a4, a5⟩
      · by_cases bl : b = l
        · rw [bl, upd_same] at q
          cases q
          rw [bl]
          refine ⟨by rw [wl]; omega, acc.toList, cc, hv, ?_⟩
          rw [Array.toArray_toList]
          exact hk _ _ D5
        · rw [upd_ne bl] at q
          refine (see5.hok b u q).stay (fun c v _ e => hk _ _ e) (fun c e => ?_) fun c xs e => ?_
          · rw [upd_ne (fun q => by rw [q, n1] at e; cases e)]
            exact e
          · rw [upd_ne (fun q => by rw [q, n1] at e; cases e)]
            exact e
      · rw [List.length_set]
        exact I1.len
    · obtain ⟨c0, gen5⟩ := q
      have there : X.K.In s5.heap := by
        rcases id c0 with ⟨a', B, H', cls, d, _, fl, _, ground, _⟩
        apply I1.ok.mod.kin.keeps
        intro b o at_b
        have old := I1.bs b o at_b
        apply fl.1 b o
        apply ground.keep b o old.1 (drp_none old.2)
        intro inF
        rcases List.mem_cons.mp (I1.stkSub b inF) with z | z
        · exact absurd z (mg b o at_b).1
        · exact absurd z (I1.ok.nofr at_b)
      refine ⟨gen5, notStopN en_stop there c0, fun _ => tk _ _ (L2N.XE.of_call (E := fun cls d H'' => W cls d σ H'') I1 (fun _ _ _ z => z) ?_)⟩
      obtain ⟨a', B, H', cls, d, z1, fl, z2, ground, z3, z4, z5, z6⟩ := c0
      have Bl := ground.keep l _ hl0 drp_same lst
      have H'l := ground.free l _ hl0 drp_same
      refine ⟨a', B, upd H' l (.lst []), cls, d, z1, fl, fun b u q => ?_, ⟨fun b o e n f => ground.keep b o e (drp_none n) f, ground.slot, fun b o e n => ?_, ground.there, fun b xs q => ?_, fun b o u q => ?_, fun b ps q => ?_⟩, ?_, z4, allBare_setGen z5 rfl, z6.2 H'l⟩
      · by_cases bl : b = l
        · rw [bl, upd_same] at q
          cases q
          rw [bl]
          exact ⟨Nat.zero_le _, its0, n0, r0, Bl⟩
        · rw [upd_ne bl] at q
          refine (z2 b u q).stay (fun c v _ e => e) (fun c e => ?_) fun c xs e => ?_
          · rw [upd_ne (fun q => by rw [q, H'l] at e; cases e)]
            exact e
          · rw [upd_ne (fun q => by rw [q, H'l] at e; cases e)]
            exact e
      · rw [upd_ne (fun q => by rw [q, el] at n; cases n)]
        exact ground.free b o e (drp_none n)
      · have bl := ne_of q el (by intro q; cases q)
        rw [upd_ne bl]
        exact ground.tups b xs (by rw [drp_ne bl]; exact q)
      · have bl := ne_of q el (by intro q; cases q)
        rw [upd_ne bl]
        exact ground.frzs b o u (by rw [drp_ne bl]; exact q)
      · have bl := ne_of q el (by intro q; cases q)
        obtain ⟨more, q1⟩ := ground.tbls b ps (by rw [drp_ne bl]; exact q)
        exact ⟨more, by rw [upd_ne bl]; exact q1⟩
      · rw [upd_ne (fun q => by have h := fl.2.1; rw [q, Bl] at h; cases h)]
        exact z3
  · refine ⟨.fresh code, m0, its0.toArray, n0, [], hgs, ⟨rfl, wake X.A.in1 (s1.setGen g .running) ⟨hr.hd, by have := hr.dp; show X.A.depth + 3 * k + 5 < _; omega, by have := hr.un; show X.A.units + 1 + 16 * k + 200 < _; omega⟩ I1.ok.frames (fun b o e => e) hos (allBare_setGen hb rfl)⟩,
      hgen, hl, hm0.keeps hkp, fun _ _ => rfl, hkp _ _ hl0, by rw [its00]; rfl, by rw [its00]; exact .nil, hos, fun b o e1 _ _ _ => hkp b o e1, fun b o e1 _ => ⟨o.slots, hkp b o e1⟩, fun b o e1 => ⟨o, hkp b o e1⟩⟩
end
end Gc

/-! places, whose consumer changes what is its own at each item; invalid arguments too (k04) -/
namespace Gc
open PySem L2
@[irreducible] def zRunU (K : PySem.W.Frag) (cs : Nat → Addr) : Sp := spRunU K cs
theorem zRunU_eq (K : PySem.W.Frag) (cs : Nat → Addr) : zRunU K cs = spRunU K cs := by unfold zRunU; rfl
def spPlacesF (K : PySem.W.Frag) (cs : Nat → Addr) : SpF := fun vs H Yd Q E => ∃ (t b l : Addr) (T : List Int) (r : Int) (g : Option Int) (xs : List V), vs = [.ref t, .ref b, .ref l] ∧ SqL K H t (T.map V.int) ∧ SqT K H b [.int r, optV g] ∧ SqL K H l xs ∧
  ((∃ (rs : List Raw) (i : Nat) (v : V), RawsOf K H xs rs ∧ BadRun b T r g rs i v ∧ Err E (cs i) v H) ∨
   ∃ cs' : List Cmd, CmdsOf K H xs cs' ∧ (∀ x ∈ T, 0 ≤ x) ∧ 0 ≤ r ∧ r < T.length ∧ ge g 0 ∧ AllOk cs' ∧ cs'.length ≤ 10000 ∧ (∀ n, failAt T r g cs' = some n → Err E (cs 3) (.int (n : Nat)) H) ∧
     (failAt T r g cs' = none → (∀ ys x H', Same H H' → Yd ys x H') ∧ ∀ H' ys, Same H H' → Q ys H'))
section
variable {P : Program} {w : World} {K : PySem.W.Frag} {mg : Str → Option Value} {base : Heap} {cs : Nat → Addr}
theorem ok_placesF {f : Addr} {fd : FuncData} (F : Fun K "places" "places" s_places f fd) (c_run : CalXN P w K mg base 4 "run" (zRunU K cs)) (c_moved : Cal P w K mg base 3 "moved" (spMoved K)) : FFn P w K mg base 5 f fd ["text", "cursor", "commands"] (spPlacesF K cs) := by
  refine fam_ok F sc_places rfl (fun vs H Yd Q E h => ?_) (fun cdv A outer s H vs Yd Q E pn hr h => ?_)
  · obtain ⟨t, b, l, T, r, g, xs, rfl, _⟩ := h
    rfl
  · obtain ⟨t, b, l, tx, r, g, xs, rfl, ht, hb, hl, h⟩ := h
    refine ⟨_, _, fun z => ps_expr (pe_calXN takes_gcx1 c_run hr (by decide) (by rfl) (pa_cons (pv 0) (pa_cons (pv 1) (pa_cons (pv 2) pa_nil)))),
      fss_cons (fs_ps fun z Hz => ps_set (i := 3) sc_places.nd rfl (Or.inl rfl) (pv 1))
        (fss_cons (fs_yield fun z Hz => pv 3)
        (fss_cons (fs_for (wi := iList K (tVar 2)) rfl (fun z Hz => pi_list (pv 2)) (fun z Hz => pg_name (i := 4) sc_places.nd rfl (Or.inl rfl))
          (fss_cons (fs_ps fun z Hz => ps_set (i := 3) sc_places.nd rfl (Or.inl rfl) (pe_cal c_moved hr (by decide) (by rfl) (pa_cons (pv 0) (pa_cons (pv 3) (pa_cons (pv 4) pa_nil)))))
            (fss_cons (fs_yield fun z Hz => pv 3) fss_nil))) fss_nil)), ?_⟩
    refine ⟨_, rfl, _, rfl, _, rfl, ?_⟩
    show zRunU K cs [.ref t, .ref b, .ref l] H _ _
    rw [zRunU_eq]
    rcases h with ⟨rs, i, v, hrs, bad, er⟩ | ⟨cs', hcs, nn, r0, r1, g0, ok, ln, kf, k⟩
    · exact .inl ⟨t, b, l, tx, r, g, xs, rs, i, v, rfl, ht, hb, hl, hrs, bad, er⟩
    · refine .inr ⟨t, b, l, tx, r, g, xs, cs', rfl, ht, hb, hl, hcs, nn, r0, r1, g0, ok, ln, kf, fun r' g' hrun H1 p1 e1 _ => ?_⟩
      obtain ⟨yd, k⟩ := k (fail_none.mpr (by rw [hrun]; exact fun z => nomatch z))
      refine ⟨_, rfl, ?_⟩
      refine ⟨Nat.zero_lt_of_lt (lt_line (n := 1) (by decide)), _, rfl, yd [] _ _ e1, ?_⟩
      refine ⟨_, rfl, l, rfl, ⟨_, e1.seq hl⟩, ?_⟩
      refine gfor_it (walk_list (K := K) (a := l) (xs := xs)) (fun i ys σ H' => ∃ (p : Addr) (rr : Int) (gg : Option Int) (v4 : Option V), σ = [some (.ref t), some (.ref b), some (.ref l), some (.ref p), v4] ∧ Same H H' ∧ SqT K H' p [.int rr, optV gg] ∧ 0 ≤ rr ∧ rr < tx.length ∧
          afterL tx rr gg (cs'.drop i) = some (r', g') ∧ ys.length = i + 1)
        ⟨b, r, g, none, rfl, e1, seq_t e1 hb, r0, r1, hrun, rfl⟩ (fun i ys σ H' _ ⟨_, _, _, _, _, e, _⟩ => e.seq hl) (fun i x ys σ H2 H3 hi h y => ?_) (fun ys σ H2 h => ?_)
      · obtain ⟨p, rr, gg, v4, rfl, e, hp, q0, q1, hgo, hys⟩ := h
        obtain ⟨rfl, ex⟩ := y
        obtain ⟨c, hc, hca⟩ := paired_at hcs ex
        have hdrop : cs'.drop i = c :: cs'.drop (i + 1) := by
          obtain ⟨h1, h2⟩ := List.getElem?_eq_some_iff.mp hc
          rw [List.drop_eq_getElem_cons h1, h2]
        rw [hdrop, afterL_cons q0 q1] at hgo
        obtain ⟨⟨r2, g2⟩, hst, hrest⟩ := Option.bind_eq_some_iff.mp hgo
        have hin := step1_in hst
        refine ⟨_, rfl, _, rfl, _, rfl, t, p, tx, rr, gg, x, c, rfl, e.seq ht, hp, hca.same e, (fun z => by rw [hst] at z; cases z), fun r3 g3 z p3 np3 => ?_⟩
        rw [hst] at z
        cases z
        have e4 := new_same (o := HO.tup [.int r2, optV g2]) np3
        have xl := hcs.len
        refine ⟨lt_line (by omega), _, rfl, yd ys _ _ (e.trans e4), ?_⟩
        exact ⟨p3, r2, g2, _, rfl, e.trans e4, SqT.of upd_same, hin.1, hin.2, hrest, by rw [List.length_append, hys]; rfl⟩
      · obtain ⟨p, rr, gg, v4, rfl, e, hp, q0, q1, hgo, hys⟩ := h
        exact k _ ys e
end
end Gc

/-! what is known of the error classes; R: which of them may be raised -/
namespace L2
open PySem PySem.Spec PyProof.Rows
/-- e.value in a def that was handed the caught error -/
theorem pe_xfE {X : Cx} {e : Expr} {te : TE} {a : Addr} {oe : Obj} {C dd : Addr} {pos : Pos} (hp : (a, oe) ∈ X.pn) (hz : Zc (.ref C) (some dd) oe) (hf : ∃ vs, oe.data = .fields vs) (he : PE X e te) (hb : attributeBase e "value" X.env (eval e X.env) = eval e X.env := by rfl) :
    PE X (.Attribute e "value" pos) (tXfA X.K a (.ref C) (some dd) te) := by
  refine ⟨fun pins s σ H Q I h => ?_⟩
  refine attr_of hb (thn (he.run pins s σ H _ I h) fun u s1 hh => ?_)
  obtain ⟨x, H1, I1, rx, ex, C', dd', v, ec, ed, T, hd, q⟩ := hh
  subst ex
  obtain rfl : u = Value.ref a := rx
  cases ec
  cases ed
  obtain ⟨od, mA, J, hl, rel⟩ := pin_inst I1 hp hz hf hd
  obtain ⟨u, hu, ru⟩ := RelO.some_of (v := v) (o := mA "value") (by
    have z := rel "value"
    rw [show List.lookup ("value" : Str) [(("value" : Str), v)] = some v by simp [List.lookup]] at z
    exact z)
  exact HandSPX.exc_get I1.kIn J T.ga T.gg T.be (PySem.W.findObj_own T.hd T.no rfl (by rw [hl, hu])) (handed_of ru) ⟨v, H1, I1.tok _, ru, q⟩
end L2
namespace Gc
open PySem L2
structure TxtE (K : PySem.W.Frag) (mg : Str → Option Value) (cs : Nat → Addr) (CE : Addr) (R : Nat → Prop) : Prop where
  g0 : mg "InvalidText" = some (.ref (cs 0))
  g1 : mg "InvalidCursor" = some (.ref (cs 1))
  g2 : mg "InvalidCommand" = some (.ref (cs 2))
  g3 : mg "Impossible" = some (.ref (cs 3))
  g4 : mg "InvalidNumber" = some (.ref (cs 4))
  g5 : mg "NothingToUndo" = some (.ref (cs 5))
  g6 : mg "Unreadable" = some (.ref (cs 6))
  gE : mg "CursorError" = some (.ref CE)
  lt : ∀ i, R i → i < 7
  kit : ∀ i j, R i → j < 7 → PySem.W.kitOne K (.ref (cs i)) (.ref (cs j)) = some (decide (i = j))
  kve : ∀ i, R i → PySem.W.kitOne K (.ref (cs i)) (.type "ValueError") = some true
  kce : ∀ i, R i → PySem.W.kitOne K (.ref (cs i)) (.ref CE) = some true
  ex : ∀ i, R i → PySem.W.exmOne K (.ref (cs i)) (.ref CE) = some true
  ei : ∀ i, R i → ErrI K (cs i)
  isinstance : mg "isinstance" = none
  ValueError : mg "ValueError" = none
def nmE : Nat → Str
  | 0 => "InvalidText"
  | 1 => "InvalidCursor"
  | 2 => "InvalidCommand"
  | 3 => "Impossible"
  | 4 => "InvalidNumber"
  | 5 => "NothingToUndo"
  | _ => "Unreadable"
end Gc

/-! _law_error: what is told of a caught error -/
namespace Gc
open PySem L2
abbrev s_error : Stmt := top 37
def spErrE (cs : Nat → Addr) (R : Nat → Prop) (a C d : Addr) : Sp := fun vs H Q _ => ∃ (i : Nat) (v : V), vs = [.ref a] ∧ R i ∧ C = cs i ∧ H d = some (.xd [("value", v)]) ∧ ∀ H' p, Same H H' → H p = none → H' p = some (.lst [.str (nmE i), v, .bl true]) → Q (.ref p) H'
theorem pick_one (i : Nat) (hi : i < 7) {α : Type} (f : Nat → α) : ((List.range 7).filter fun j => decide (i = j)).map f = [f i] := by
  match i, hi with
  | 0, _ => rfl
  | 1, _ => rfl
  | 2, _ => rfl
  | 3, _ => rfl
  | 4, _ => rfl
  | 5, _ => rfl
  | 6, _ => rfl
section
variable {P : Program} {w : World} {K : PySem.W.Frag} {mg : Str → Option Value} {base : Heap} {cs : Nat → Addr} {CE : Addr} {R : Nat → Prop}
theorem sc_law_error : FnScope ["e", "held", "names", "name", "is_one"] ["e"] (defScope s_error) := ⟨rfl, rfl, rfl, by decide +kernel, rfl, by decide +kernel, by decide +kernel⟩
theorem ok_errE {f : Addr} {fd : FuncData} (F : Fun K "_law_error" "_law_error" s_error f fd) (T : TxtE K mg cs CE R) : FnN P w K mg base 1 f fd ["e"] (spErrE cs R) := by
  refine F.okEN sc_law_error (fun a C d vs H Q E h => ?_) (fun cdv A below s H vs Q E q C d hr hot hz hf h => ?_)
  · obtain ⟨i, v, rfl, _⟩ := h
    rfl
  · obtain ⟨i, v, rfl, hi, rfl, hd, k⟩ := h
    refine ⟨_, (pss_cons (ps_set (i := 1) sc_law_error.nd rfl (Or.inl rfl) (pe_lst (pa_cons (pe_tup (pa_cons pe_str (pa_cons (pe_callB (call_isX (a := q.1) (oe := q.2) List.mem_cons_self hz hf) (by rfl) T.isinstance (by decide +kernel) (pa_cons (pv 0) (pa_cons (pe_glob (v := .ref (cs 0)) (by rfl) T.g0 rfl) pa_nil))) pa_nil))) (pa_cons (pe_tup (pa_cons pe_str (pa_cons (pe_callB (call_isX (a := q.1) (oe := q.2) List.mem_cons_self hz hf) (by rfl) T.isinstance (by decide +kernel) (pa_cons (pv 0) (pa_cons (pe_glob (v := .ref (cs 1)) (by rfl) T.g1 rfl) pa_nil))) pa_nil))) pa_nil))))
      (pss_cons (ps_set (i := 1) sc_law_error.nd rfl (Or.inl rfl) (pe_op op_cat (pv 1) (pe_lst (pa_cons (pe_tup (pa_cons pe_str (pa_cons (pe_callB (call_isX (a := q.1) (oe := q.2) List.mem_cons_self hz hf) (by rfl) T.isinstance (by decide +kernel) (pa_cons (pv 0) (pa_cons (pe_glob (v := .ref (cs 2)) (by rfl) T.g2 rfl) pa_nil))) pa_nil))) (pa_cons (pe_tup (pa_cons pe_str (pa_cons (pe_callB (call_isX (a := q.1) (oe := q.2) List.mem_cons_self hz hf) (by rfl) T.isinstance (by decide +kernel) (pa_cons (pv 0) (pa_cons (pe_glob (v := .ref (cs 3)) (by rfl) T.g3 rfl) pa_nil))) pa_nil))) pa_nil)))))
      (pss_cons (ps_set (i := 1) sc_law_error.nd rfl (Or.inl rfl) (pe_op op_cat (pv 1) (pe_lst (pa_cons (pe_tup (pa_cons pe_str (pa_cons (pe_callB (call_isX (a := q.1) (oe := q.2) List.mem_cons_self hz hf) (by rfl) T.isinstance (by decide +kernel) (pa_cons (pv 0) (pa_cons (pe_glob (v := .ref (cs 4)) (by rfl) T.g4 rfl) pa_nil))) pa_nil))) (pa_cons (pe_tup (pa_cons pe_str (pa_cons (pe_callB (call_isX (a := q.1) (oe := q.2) List.mem_cons_self hz hf) (by rfl) T.isinstance (by decide +kernel) (pa_cons (pv 0) (pa_cons (pe_glob (v := .ref (cs 5)) (by rfl) T.g5 rfl) pa_nil))) pa_nil))) pa_nil)))))
      (pss_cons (L2H.ps_setLcH (i := 2) (own := [("name", 3), ("is_one", 4)]) hot sc_law_error.nd rfl rfl (sw_true rfl rfl rfl (by decide +kernel)) (pe_op op_cat (pv 1) (pe_lst (pa_cons (pe_tup (pa_cons pe_str (pa_cons (pe_callB (call_isX (a := q.1) (oe := q.2) List.mem_cons_self hz hf) (by rfl) T.isinstance (by decide +kernel) (pa_cons (pv 0) (pa_cons (pe_glob (v := .ref (cs 6)) (by rfl) T.g6 rfl) pa_nil))) pa_nil))) pa_nil))) (blkOk_by (N := ["e", "held", "names", "name", "is_one"]) (sc := defScope s_error) (by decide +kernel)) (fun _ _ _ _ _ => (show PG _ _ (gTup K 2 _) from L2H.pg_tupH hot (pgs_cons (pg_name (i := 3) sc_law_error.nd rfl (Or.inl rfl)) (pgs_cons (pg_name (i := 4) sc_law_error.nd rfl (Or.inl rfl)) pgs_nil)))) (fun _ _ _ _ _ => (pts_one (pt_val (pv 4)))) (fun _ _ _ _ _ => (pv 3)))
      (pss_one (ps_ret (pe_op op_cat (pv 2) (pe_lst (pa_cons (pe_xfE (a := q.1) (oe := q.2) List.mem_cons_self hz hf (pv 0)) (pa_cons (pe_and (pe_callB (call_isX (a := q.1) (oe := q.2) List.mem_cons_self hz hf) (by rfl) T.isinstance (by decide +kernel) (pa_cons (pv 0) (pa_cons (pe_glob (v := .ref CE) (by rfl) T.gE rfl) pa_nil))) (pe_one (pe_callB (call_isX (a := q.1) (oe := q.2) List.mem_cons_self hz hf) (by rfl) T.isinstance (by decide +kernel) (pa_cons (pv 0) (pa_cons (pe_bltn (v := .ty "ValueError") (u := .type "ValueError") (by rfl) T.ValueError (by decide +kernel) rfl) pa_nil))))) pa_nil)))))))))), ?_⟩
    have ei := T.ei i hi
    have i7 := T.lt i hi
    refine ⟨_, rfl, _, _, _, _, rfl, hd, ei, .own _, T.kit i 0 hi (by decide), (by show 2 ≤ sizeLine; decide), fun t0 n_t0 => ?_⟩
    generalize g1 : upd H t0 (.tup [.str "InvalidText", .bl (decide (i = 0))]) = G1
    have e1 : Same H G1 := by rw [← g1]; exact new_same n_t0
    have f_t0 : G1 t0 = some (.tup [.str (nmE 0), .bl (decide (i = 0))]) := by rw [← g1]; exact upd_same
    have E1 := e1
    have d1 := E1 _ _ hd
    refine ⟨_, rfl, _, _, _, _, rfl, d1, ei, .own _, T.kit i 1 hi (by decide), (by show 2 ≤ sizeLine; decide), fun t1 n_t1 => ?_⟩
    generalize g2 : upd G1 t1 (.tup [.str "InvalidCursor", .bl (decide (i = 1))]) = G2
    have e2 : Same G1 G2 := by rw [← g2]; exact new_same n_t1
    have f_t1 : G2 t1 = some (.tup [.str (nmE 1), .bl (decide (i = 1))]) := by rw [← g2]; exact upd_same
    have E2 := E1.trans e2
    have d2 := E2 _ _ hd
    replace f_t0 := e2 _ _ f_t0
    refine ⟨(by show 2 ≤ sizeLine; decide), fun la n_la => ?_⟩
    generalize g3 : upd G2 la (.lst [.ref t0, .ref t1]) = G3
    have e3 : Same G2 G3 := by rw [← g3]; exact new_same n_la
    have f_la : G3 la = some (.lst [.ref t0, .ref t1]) := by rw [← g3]; exact upd_same
    have E3 := E2.trans e3
    have d3 := E3 _ _ hd
    replace f_t0 := e3 _ _ f_t0
    replace f_t1 := e3 _ _ f_t1
    refine ⟨_, rfl, ?_⟩
    refine ⟨_, rfl, _, _, _, _, rfl, d3, ei, .own _, T.kit i 2 hi (by decide), (by show 2 ≤ sizeLine; decide), fun t2 n_t2 => ?_⟩
    generalize g4 : upd G3 t2 (.tup [.str "InvalidCommand", .bl (decide (i = 2))]) = G4
    have e4 : Same G3 G4 := by rw [← g4]; exact new_same n_t2
    have f_t2 : G4 t2 = some (.tup [.str (nmE 2), .bl (decide (i = 2))]) := by rw [← g4]; exact upd_same
    have E4 := E3.trans e4
    have d4 := E4 _ _ hd
    replace f_t0 := e4 _ _ f_t0
    replace f_t1 := e4 _ _ f_t1
    replace f_la := e4 _ _ f_la
    refine ⟨_, rfl, _, _, _, _, rfl, d4, ei, .own _, T.kit i 3 hi (by decide), (by show 2 ≤ sizeLine; decide), fun t3 n_t3 => ?_⟩
    generalize g5 : upd G4 t3 (.tup [.str "Impossible", .bl (decide (i = 3))]) = G5
    have e5 : Same G4 G5 := by rw [← g5]; exact new_same n_t3
    have f_t3 : G5 t3 = some (.tup [.str (nmE 3), .bl (decide (i = 3))]) := by rw [← g5]; exact upd_same
    have E5 := E4.trans e5
    have d5 := E5 _ _ hd
    replace f_t0 := e5 _ _ f_t0
    replace f_t1 := e5 _ _ f_t1
    replace f_la := e5 _ _ f_la
    replace f_t2 := e5 _ _ f_t2
    refine ⟨(by show 2 ≤ sizeLine; decide), fun lb n_lb => ?_⟩
    generalize g6 : upd G5 lb (.lst [.ref t2, .ref t3]) = G6
    have e6 : Same G5 G6 := by rw [← g6]; exact new_same n_lb
    have f_lb : G6 lb = some (.lst [.ref t2, .ref t3]) := by rw [← g6]; exact upd_same
    have E6 := E5.trans e6
    have d6 := E6 _ _ hd
    replace f_t0 := e6 _ _ f_t0
    replace f_t1 := e6 _ _ f_t1
    replace f_la := e6 _ _ f_la
    replace f_t2 := e6 _ _ f_t2
    replace f_t3 := e6 _ _ f_t3
    refine ⟨_, _, _, _, rfl, rfl, f_la, f_lb, (by show 4 ≤ sizeLine; decide), fun lc n_lc => ?_⟩
    generalize g7 : upd G6 lc (.lst ([.ref t0, .ref t1] ++ [.ref t2, .ref t3])) = G7
    have e7 : Same G6 G7 := by rw [← g7]; exact new_same n_lc
    have f_lc : G7 lc = some (.lst [.ref t0, .ref t1, .ref t2, .ref t3]) := by rw [← g7]; exact upd_same
    have E7 := E6.trans e7
    have d7 := E7 _ _ hd
    replace f_t0 := e7 _ _ f_t0
    replace f_t1 := e7 _ _ f_t1
    replace f_la := e7 _ _ f_la
    replace f_t2 := e7 _ _ f_t2
    replace f_t3 := e7 _ _ f_t3
    replace f_lb := e7 _ _ f_lb
    refine ⟨_, rfl, ?_⟩
    refine ⟨_, rfl, _, _, _, _, rfl, d7, ei, .own _, T.kit i 4 hi (by decide), (by show 2 ≤ sizeLine; decide), fun t4 n_t4 => ?_⟩
    generalize g8 : upd G7 t4 (.tup [.str "InvalidNumber", .bl (decide (i = 4))]) = G8
    have e8 : Same G7 G8 := by rw [← g8]; exact new_same n_t4
    have f_t4 : G8 t4 = some (.tup [.str (nmE 4), .bl (decide (i = 4))]) := by rw [← g8]; exact upd_same
    have E8 := E7.trans e8
    have d8 := E8 _ _ hd
    replace f_t0 := e8 _ _ f_t0
    replace f_t1 := e8 _ _ f_t1
    replace f_la := e8 _ _ f_la
    replace f_t2 := e8 _ _ f_t2
    replace f_t3 := e8 _ _ f_t3
    replace f_lb := e8 _ _ f_lb
    replace f_lc := e8 _ _ f_lc
    refine ⟨_, rfl, _, _, _, _, rfl, d8, ei, .own _, T.kit i 5 hi (by decide), (by show 2 ≤ sizeLine; decide), fun t5 n_t5 => ?_⟩
    generalize g9 : upd G8 t5 (.tup [.str "NothingToUndo", .bl (decide (i = 5))]) = G9
    have e9 : Same G8 G9 := by rw [← g9]; exact new_same n_t5
    have f_t5 : G9 t5 = some (.tup [.str (nmE 5), .bl (decide (i = 5))]) := by rw [← g9]; exact upd_same
    have E9 := E8.trans e9
    have d9 := E9 _ _ hd
    replace f_t0 := e9 _ _ f_t0
    replace f_t1 := e9 _ _ f_t1
    replace f_la := e9 _ _ f_la
    replace f_t2 := e9 _ _ f_t2
    replace f_t3 := e9 _ _ f_t3
    replace f_lb := e9 _ _ f_lb
    replace f_lc := e9 _ _ f_lc
    replace f_t4 := e9 _ _ f_t4
    refine ⟨(by show 2 ≤ sizeLine; decide), fun ld n_ld => ?_⟩
    generalize g10 : upd G9 ld (.lst [.ref t4, .ref t5]) = G10
    have e10 : Same G9 G10 := by rw [← g10]; exact new_same n_ld
    have f_ld : G10 ld = some (.lst [.ref t4, .ref t5]) := by rw [← g10]; exact upd_same
    have E10 := E9.trans e10
    have d10 := E10 _ _ hd
    replace f_t0 := e10 _ _ f_t0
    replace f_t1 := e10 _ _ f_t1
    replace f_la := e10 _ _ f_la
    replace f_t2 := e10 _ _ f_t2
    replace f_t3 := e10 _ _ f_t3
    replace f_lb := e10 _ _ f_lb
    replace f_lc := e10 _ _ f_lc
    replace f_t4 := e10 _ _ f_t4
    replace f_t5 := e10 _ _ f_t5
    refine ⟨_, _, _, _, rfl, rfl, f_lc, f_ld, (by show 6 ≤ sizeLine; decide), fun le n_le => ?_⟩
    generalize g11 : upd G10 le (.lst ([.ref t0, .ref t1, .ref t2, .ref t3] ++ [.ref t4, .ref t5])) = G11
    have e11 : Same G10 G11 := by rw [← g11]; exact new_same n_le
    have f_le : G11 le = some (.lst [.ref t0, .ref t1, .ref t2, .ref t3, .ref t4, .ref t5]) := by rw [← g11]; exact upd_same
    have E11 := E10.trans e11
    have d11 := E11 _ _ hd
    replace f_t0 := e11 _ _ f_t0
    replace f_t1 := e11 _ _ f_t1
    replace f_la := e11 _ _ f_la
    replace f_t2 := e11 _ _ f_t2
    replace f_t3 := e11 _ _ f_t3
    replace f_lb := e11 _ _ f_lb
    replace f_lc := e11 _ _ f_lc
    replace f_t4 := e11 _ _ f_t4
    replace f_t5 := e11 _ _ f_t5
    replace f_ld := e11 _ _ f_ld
    refine ⟨_, rfl, ?_⟩
    refine ⟨_, rfl, _, _, _, _, rfl, d11, ei, .own _, T.kit i 6 hi (by decide), (by show 2 ≤ sizeLine; decide), fun t6 n_t6 => ?_⟩
    generalize g12 : upd G11 t6 (.tup [.str "Unreadable", .bl (decide (i = 6))]) = G12
    have e12 : Same G11 G12 := by rw [← g12]; exact new_same n_t6
    have f_t6 : G12 t6 = some (.tup [.str (nmE 6), .bl (decide (i = 6))]) := by rw [← g12]; exact upd_same
    have E12 := E11.trans e12
    have d12 := E12 _ _ hd
    replace f_t0 := e12 _ _ f_t0
    replace f_t1 := e12 _ _ f_t1
    replace f_la := e12 _ _ f_la
    replace f_t2 := e12 _ _ f_t2
    replace f_t3 := e12 _ _ f_t3
    replace f_lb := e12 _ _ f_lb
    replace f_lc := e12 _ _ f_lc
    replace f_t4 := e12 _ _ f_t4
    replace f_t5 := e12 _ _ f_t5
    replace f_ld := e12 _ _ f_ld
    replace f_le := e12 _ _ f_le
    refine ⟨(by show 1 ≤ sizeLine; decide), fun lf n_lf => ?_⟩
    generalize g13 : upd G12 lf (.lst [.ref t6]) = G13
    have e13 : Same G12 G13 := by rw [← g13]; exact new_same n_lf
    have f_lf : G13 lf = some (.lst [.ref t6]) := by rw [← g13]; exact upd_same
    have E13 := E12.trans e13
    have d13 := E13 _ _ hd
    replace f_t0 := e13 _ _ f_t0
    replace f_t1 := e13 _ _ f_t1
    replace f_la := e13 _ _ f_la
    replace f_t2 := e13 _ _ f_t2
    replace f_t3 := e13 _ _ f_t3
    replace f_lb := e13 _ _ f_lb
    replace f_lc := e13 _ _ f_lc
    replace f_t4 := e13 _ _ f_t4
    replace f_t5 := e13 _ _ f_t5
    replace f_ld := e13 _ _ f_ld
    replace f_le := e13 _ _ f_le
    replace f_t6 := e13 _ _ f_t6
    refine ⟨_, _, _, _, rfl, rfl, f_le, f_lf, (by show 7 ≤ sizeLine; decide), fun lg n_lg => ?_⟩
    generalize g14 : upd G13 lg (.lst ([.ref t0, .ref t1, .ref t2, .ref t3, .ref t4, .ref t5] ++ [.ref t6])) = G14
    have e14 : Same G13 G14 := by rw [← g14]; exact new_same n_lg
    have f_lg : G14 lg = some (.lst [.ref t0, .ref t1, .ref t2, .ref t3, .ref t4, .ref t5, .ref t6]) := by rw [← g14]; exact upd_same
    have E14 := E13.trans e14
    have d14 := E14 _ _ hd
    replace f_t0 := e14 _ _ f_t0
    replace f_t1 := e14 _ _ f_t1
    replace f_la := e14 _ _ f_la
    replace f_t2 := e14 _ _ f_t2
    replace f_t3 := e14 _ _ f_t3
    replace f_lb := e14 _ _ f_lb
    replace f_lc := e14 _ _ f_lc
    replace f_t4 := e14 _ _ f_t4
    replace f_t5 := e14 _ _ f_t5
    replace f_ld := e14 _ _ f_ld
    replace f_le := e14 _ _ f_le
    replace f_t6 := e14 _ _ f_t6
    replace f_lf := e14 _ _ f_lf
    refine ⟨lg, _, rfl, SqL.of f_lg, fun D hD => ?_⟩
    have all : ∀ (j : Nat) (x : V), [V.ref t0, .ref t1, .ref t2, .ref t3, .ref t4, .ref t5, .ref t6][j]? = some x → ∃ t, x = .ref t ∧ j < 7 ∧ G14 t = some (.tup [.str (nmE j), .bl (decide (i = j))]) := fun j x hj => by
      match j, hj with
      | 0, hj => obtain rfl := Option.some.inj hj; exact ⟨t0, rfl, by decide, f_t0⟩
      | 1, hj => obtain rfl := Option.some.inj hj; exact ⟨t1, rfl, by decide, f_t1⟩
      | 2, hj => obtain rfl := Option.some.inj hj; exact ⟨t2, rfl, by decide, f_t2⟩
      | 3, hj => obtain rfl := Option.some.inj hj; exact ⟨t3, rfl, by decide, f_t3⟩
      | 4, hj => obtain rfl := Option.some.inj hj; exact ⟨t4, rfl, by decide, f_t4⟩
      | 5, hj => obtain rfl := Option.some.inj hj; exact ⟨t5, rfl, by decide, f_t5⟩
      | 6, hj => obtain rfl := Option.some.inj hj; exact ⟨t6, rfl, by decide, f_t6⟩
      | n + 7, hj => cases hj
    refine ⟨fun j H' => Same G14 H' ∧ H' D = some (.lst ((((List.range 7).take j).filter fun m => decide (i = m)).map fun m => .str (nmE m))), ⟨new_same hD, upd_same⟩, fun j H' ⟨e, _⟩ => e.seq (SqL.of f_lg), fun j x H' hj h => ?_, fun H' h => ?_⟩
    · obtain ⟨e, eD⟩ := h
      obtain ⟨t, rfl, hj7, ht⟩ := all j x hj
      have tk : (List.range 7).take (j + 1) = (List.range 7).take j ++ [j] := takeS (by rw [List.getElem?_range hj7])
      refine ⟨t, _, rfl, SqT.of (e _ _ ht), rfl, _, _, rfl, _, _, rfl, rfl, rfl, ?_⟩
      refine ⟨_, rfl, _, rfl, ?_⟩
      refine ite2 (fun c => ?_) (fun c => ?_)
      · refine ⟨_, rfl, _, eD, ?_, same_freeU e hD, ?_⟩
        · refine lt_line (Nat.le_trans ?_ (by decide : 7 ≤ 100000))
          rw [List.length_map]
          refine Nat.le_trans (List.length_filter_le _ _) ?_
          rw [List.length_take, List.length_range]
          omega
        · rw [upd_same, tk, List.filter_append, List.map_append]
          simp [c]
      · refine ⟨e, ?_⟩
        rw [tk, List.filter_append, List.map_append]
        simp [c, eD]
    · obtain ⟨e, eD⟩ := h
      have z : ((((List.range 7).take 7).filter fun m => decide (i = m)).map fun m => V.str (nmE m)) = [.str (nmE i)] := pick_one i i7 fun m => V.str (nmE m)
      have eD' : H' D = some (.lst [.str (nmE i)]) := by
        rw [← z]
        exact eD
      have E0 := E14.trans e
      have dd := E0 _ _ hd
      refine ⟨_, rfl, ?_⟩
      refine ⟨_, rfl, rfl, _, d, v, rfl, rfl, ei, dd, ?_⟩
      refine ⟨_, rfl, _, _, _, true, rfl, dd, ei, .own _, T.kce i hi, _, rfl, iteT ?_⟩
      refine ⟨_, rfl, _, _, _, true, rfl, dd, ei, .ty "ValueError", T.kve i hi, ?_⟩
      refine ⟨(by show 2 ≤ sizeLine; decide), fun l hl => ?_⟩
      refine ⟨_, _, _, _, rfl, rfl, new_same hl _ _ eD', upd_same, (by show 3 ≤ sizeLine; decide), fun r hr' => ?_⟩
      exact k _ r ((E0.trans (new_same hl)).trans (new_same hr')) (Same.free (E0.trans (new_same hl)) hr') upd_same
end
end Gc

/-! column and reach, of any arguments (k04) -/
namespace Gc
open PySem L2
abbrev s_column04 : Stmt := top 18
def spReach04 (K : PySem.W.Frag) (CM : Addr) : Sp := fun vs H Q E => ∃ (l : Addr) (xs : List V) (rs : List Raw), vs = [.ref l] ∧ SqL K H l xs ∧ RawsOf K H xs rs ∧ rs.length ≤ 10000 ∧ (∀ i, badAt rs = some i → Err E CM (.int i) H) ∧ (badAt rs = none → ∀ H' p, Same H H' → Q (.ref p) H')
def spReachW (K : PySem.W.Frag) (CM : Addr) : Sp := fun vs H Q E => ∃ (l : Addr) (xs : List V) (rs : List Raw) (i : Nat), vs = [.ref l] ∧ SqL K H l xs ∧ RawsOf K H xs rs ∧ badAt rs = some i ∧ Err E CM (.int i) H
def spCol04 (K : PySem.W.Frag) (cs : Nat → Addr) : Sp := fun vs H Q E => ∃ (t b : Addr) (T : List Int) (r : Int) (g : Option Int), vs = [.ref t, .ref b] ∧ SqL K H t (T.map V.int) ∧ SqT K H b [.int r, optV g] ∧
  (∀ i v, BadRun b T r g [] i v → Err E (cs i) v H) ∧ (T ≠ [] → negAt T = none → CurOk T.length r g → ∀ H' n, Same H H' → Q (.int n) H')
section
variable {P : Program} {w : World} {K : PySem.W.Frag} {mg : Str → Option Value} {base : Heap} {wo wn CM : Addr} {cs : Nat → Addr}
theorem ok_reachW {f : Addr} {fd : FuncData} (F : Fun K "reach" "reach" s_reach f fd) (T : TxtB K mg wo wn) (c_row_change : Cal P w K mg base 1 "row_change" (spRow K)) (c_check_commands : CalXN P w K mg base 3 "check_commands" (spCheckX K CM)) : FnOk P w K mg base (L2N.CX P w) 4 f fd ["commands"] (spReachW K CM) := by
  refine F.okN sc_reach (fun vs H Q E h => ?_) (fun cdv A outer s H vs Q E hr h => ?_)
  · obtain ⟨l, xs, rs, i, rfl, _⟩ := h
    rfl
  · obtain ⟨l, xs, rs, i, rfl, hl, hrs, bad, er⟩ := h
    refine ⟨_, (pss_cons (ps_expr (pe_calXN (L2N.takes_of rfl rfl rfl rfl) c_check_commands hr (by decide) (by rfl) (pa_cons (pv 0) pa_nil)))
      (pss_cons (ps_asg3 pe_int (pg_name (i := 1) sc_reach.nd rfl (Or.inl rfl)) (pg_name (i := 2) sc_reach.nd rfl (Or.inl rfl)) (pg_name (i := 3) sc_reach.nd rfl (Or.inl rfl)))
      (pss_cons (ps_for (passes_of rfl) rfl (pi_list (pv 0)) (pg_name (i := 4) sc_reach.nd rfl (Or.inl rfl)) (pss_cons (ps_aug (i := 3) sc_reach.nd rfl (Or.inl rfl) (pe_cal c_row_change hr (by decide) (by rfl) (pa_cons (pv 4) pa_nil)) ip_add)
      (pss_cons (ps_set (i := 1) sc_reach.nd rfl (Or.inl rfl) (pe_callB (call_min2 rfl) (by rfl) T.min (by decide +kernel) (pa_cons (pv 1) (pa_cons (pv 3) pa_nil))))
      (pss_one (ps_set (i := 2) sc_reach.nd rfl (Or.inl rfl) (pe_callB (call_max2 rfl) (by rfl) T.max (by decide +kernel) (pa_cons (pv 2) (pa_cons (pv 3) pa_nil))))))))
      (pss_one (ps_ret (pe_tup (pa_cons (pv 1) (pa_cons (pv 2) (pa_cons (pv 3) pa_nil))))))))), ?_⟩
    exact ⟨_, rfl, l, xs, rs, rfl, hl, hrs, fun j hj => by cases bad.symm.trans hj; exact er, fun hg => by cases bad.symm.trans hg⟩
theorem ok_reach04 {f : Addr} {fd : FuncData} (F : Fun K "reach" "reach" s_reach f fd) (T : TxtB K mg wo wn) (c_check_commands : Cal P w K mg base 3 "check_commands" (spCheck K)) (x_check_commands : CalXN P w K mg base 3 "check_commands" (spCheckX K CM)) (c_row_change : Cal P w K mg base 1 "row_change" (spRow K)) :
    FnOk P w K mg base (L2N.CX P w) 4 f fd ["commands"] (spReach04 K CM) := by
  have V := ok_reach F T c_check_commands c_row_change
  have B := ok_reachW F T c_row_change x_check_commands
  refine ⟨fun vs H Q E ⟨l, xs, rs, e, _⟩ => by rw [e]; rfl, fun A outer s H args us vs Q E hr he hb hv hs => ?_⟩
  obtain ⟨l, xs, rs, rfl, hl, hrs, ln, er, k⟩ := hs
  cases e : badAt rs with
  | some i => exact B.run A outer s H args us _ Q E hr he hb hv ⟨l, xs, rs, i, rfl, hl, hrs, e, er i e⟩
  | none =>
    obtain ⟨hcs, ok⟩ := raws_cmds hrs (bad_good e)
    refine codeAny_mono (V.run A outer s H args us _ Q E hr he hb hv ⟨l, xs, rs.map Raw.cmd, rfl, hl, hcs, ok, by rw [List.length_map]; exact ln, fun H' p e1 _ _ => k e H' p e1⟩) fun r s' q => ?_
    rcases r with z | fl
    · exact False.elim q
    · cases fl <;> exact q
theorem sc_column04 : FnScope ["text", "cursor", "row", "goal"] ["text", "cursor"] (defScope s_column04) := ⟨rfl, rfl, rfl, by decide +kernel, rfl, by decide +kernel, by decide +kernel⟩
theorem ok_col04 {f : Addr} {fd : FuncData} (F : Fun K "column" "column" s_column04 f fd) (T : TxtB K mg wo wn) (c_check_text : CalXN P w K mg base 3 "check_text" (spTextX K (cs 0))) (c_check_cursor : CalXN P w K mg base 3 "check_cursor" (spCursorX K (cs 1))) (c_shown_column : Cal P w K mg base 1 "shown_column" spShown) :
    FnOk P w K mg base (L2N.CX P w) 4 f fd ["text", "cursor"] (spCol04 K cs) := by
  refine F.okN sc_column04 (fun vs H Q E h => ?_) (fun cdv A outer s H vs Q E hr h => ?_)
  · obtain ⟨t, b, tx, r, g, rfl, _⟩ := h
    rfl
  · obtain ⟨t, b, tx, r, g, rfl, ht, hb, ke, k⟩ := h
    refine ⟨_, (pss_cons (ps_expr (pe_calXN (L2N.takes_of rfl rfl rfl rfl) c_check_text hr (by decide) (by rfl) (pa_cons (pv 0) pa_nil)))
      (pss_cons (ps_expr (pe_calXN (L2N.takes_of rfl rfl rfl rfl) c_check_cursor hr (by decide) (by rfl) (pa_cons (pe_callB call_len_seq (by rfl) T.len (by decide +kernel) (pa_cons (pv 0) pa_nil)) (pa_cons (pv 1) pa_nil))))
      (pss_cons (ps_asg (pv 1) (pg_tup rfl (pgs_cons (pg_name (i := 2) sc_column04.nd rfl (Or.inl rfl)) (pgs_cons (pg_name (i := 3) sc_column04.nd rfl (Or.inl rfl)) pgs_nil))))
      (pss_one (ps_ret (pe_cal c_shown_column hr (by decide) (by rfl) (pa_cons (pe_ix ix_list (pv 0) (pv 2) (fun _ _ => rfl)) (pa_cons (pv 3) pa_nil)))))))), ?_⟩
    refine ⟨_, rfl, t, tx, rfl, ht, fun z => ke _ _ (.text0 z), fun z j hj => ke _ _ (.text j z hj), fun ne hn H1 e1 => ?_⟩
    refine ⟨_, rfl, t, _, rfl, .inl (e1.seq ht), _, rfl, (tx.map V.int).length, r, g, b, rfl, seq_t e1 hb, ?_, ?_⟩
    · rw [List.length_map]
      exact fun z => Err.same e1 (ke _ _ (.cursor ne hn z))
    rw [List.length_map]
    intro hc
    obtain ⟨r0, r1, g0⟩ := id hc
    refine ⟨_, rfl, b, _, rfl, seq_t e1 hb, rfl, _, _, rfl, _, _, rfl, rfl, ?_⟩
    exact ⟨_, rfl, _, rfl, t, _, r, _, rfl, rfl, e1.seq ht, at_len' r0 r1, _, rfl, lenAt tx r, g, rfl, k ne hn hc _ _ e1⟩
end
end Gc

/-! what a call raises, as it is told (k04) -/
namespace Gc
open PySem L2
abbrev s_raised : Stmt := top 43
structure TxtRa (K : PySem.W.Frag) (mg : Str → Option Value) (cs : Nat → Addr) (CE : Addr) : Prop where
  g_CursorError : mg "CursorError" = some (.ref CE)
  ex : ∀ i, i < 4 → PySem.W.exmOne K (.ref (cs i)) (.ref CE) = some true
  st : ∀ i, i < 4 → PySem.W.subIn K (.ref (cs i)) (.type "StopIteration") = some false
/-- the class and the value of what a door raises -/
inductive Bad04 (b : Addr) (T : List Int) (r : Int) (g : Option Int) (rs : List Raw) : Nat → Nat → V → Prop where
  | col (i : Nat) (v : V) : BadRun b T r g [] i v → Bad04 b T r g rs 0 i v
  | run (d : Nat) (i : Nat) (v : V) : d = 1 ∨ d = 2 → BadRun b T r g rs i v → Bad04 b T r g rs d i v
  | far (d : Nat) (n : Nat) : d = 1 ∨ d = 2 → T ≠ [] → negAt T = none → CurOk T.length r g → badAt rs = none → failAt T r g (rs.map Raw.cmd) = some n → Bad04 b T r g rs d 3 (.int (n : Nat))
  | cmd (i : Nat) : badAt rs = some i → Bad04 b T r g rs 3 2 (.int (i : Nat))
/-- nothing is raised -/
def Fine04 (T : List Int) (r : Int) (g : Option Int) (rs : List Raw) (d : Nat) : Prop :=
  (d < 3 → T ≠ [] ∧ negAt T = none ∧ CurOk T.length r g) ∧ (1 ≤ d → badAt rs = none) ∧ (d = 1 ∨ d = 2 → failAt T r g (rs.map Raw.cmd) = none)
def spRaised04 (K : PySem.W.Frag) : Sp := fun vs H Q _ => ∃ (d : Nat) (t b l : Addr) (T : List Int) (r : Int) (g : Option Int) (xs : List V) (rs : List Raw), vs = [.int (d : Nat), .ref t, .ref b, .ref l] ∧ d < 4 ∧ SqL K H t (T.map V.int) ∧ SqT K H b [.int r, optV g] ∧ SqL K H l xs ∧ RawsOf K H xs rs ∧ rs.length ≤ 10000 ∧
  (Fine04 T r g rs d → ∀ H', Same H H' → Q .non H') ∧ (∀ i v, Bad04 b T r g rs d i v → ∀ (H' : Hp) (p : Addr), Same H H' → H p = none → H' p = some (.lst [.str (nmE i), v, .bl true]) → Q (.ref p) H')
@[irreducible] def zReach04 (K : PySem.W.Frag) (CM : Addr) : Sp := spReach04 K CM
theorem zReach04_eq (K : PySem.W.Frag) (CM : Addr) : zReach04 K CM = spReach04 K CM := by unfold zReach04; rfl
@[irreducible] def zCol04 (K : PySem.W.Frag) (cs : Nat → Addr) : Sp := spCol04 K cs
theorem zCol04_eq (K : PySem.W.Frag) (cs : Nat → Addr) : zCol04 K cs = spCol04 K cs := by unfold zCol04; rfl
@[irreducible] def zPlacesF (K : PySem.W.Frag) (cs : Nat → Addr) : SpF := spPlacesF K cs
theorem zPlacesF_eq (K : PySem.W.Frag) (cs : Nat → Addr) : zPlacesF K cs = spPlacesF K cs := by unfold zPlacesF; rfl
theorem split04 (b : Addr) (T : List Int) (r : Int) (g : Option Int) (rs : List Raw) : (∃ i v, BadRun b T r g rs i v) ∨ (T ≠ [] ∧ negAt T = none ∧ CurOk T.length r g ∧ badAt rs = none) := by
  by_cases h1 : T = []
  · exact .inl ⟨_, _, .text0 h1⟩
  · cases h2 : negAt T with
    | some i => exact .inl ⟨_, _, .text i h1 h2⟩
    | none =>
      rcases Classical.em (CurOk T.length r g) with h3 | h3
      · cases h4 : badAt rs with
        | some i => exact .inl ⟨_, _, .command i h1 h2 h3 h4⟩
        | none => exact .inr ⟨h1, rfl, h3, rfl⟩
      · exact .inl ⟨_, _, .cursor h1 h2 h3⟩
theorem bad_lt {b : Addr} {T : List Int} {r : Int} {g : Option Int} {rs : List Raw} {i : Nat} {v : V} (h : BadRun b T r g rs i v) : i < 4 := by
  cases h <;> decide
section
variable {P : Program} {w : World} {K : PySem.W.Frag} {mg : Str → Option Value} {base : Heap} {CE : Addr} {cs : Nat → Addr}
theorem sc_law_raised : FnScope ["door", "sheet", "spot", "moves", "caught", "seen", "place", "e"] ["door", "sheet", "spot", "moves"] (defScope s_raised) := ⟨rfl, rfl, rfl, by decide +kernel, rfl, by decide +kernel, by decide +kernel⟩
theorem ok_raised04 {f : Addr} {fd : FuncData} (F : Fun K "_law_raised" "_law_raised" s_raised f fd) (T : TxtRa K mg cs CE) (c_column : CalXN P w K mg base 4 "column" (zCol04 K cs)) (c_run : CalXN P w K mg base 4 "run" (zRunU K cs)) (c_places : FCal P w K mg base 5 "places" (zPlacesF K cs))
    (c_reach : CalXN P w K mg base 4 "reach" (zReach04 K (cs 2))) (c_law_error : CalN P w K mg base 1 "_law_error" (spErrE cs fun i => i < 4)) : FnOk P w K mg base CX0 9 f fd ["door", "sheet", "spot", "moves"] (spRaised04 K) := by
  refine F.ok sc_law_raised (fun vs H Q E h => ?_) (fun cdv A outer s H vs Q E hr h => ?_)
  · obtain ⟨d, t, b, l, tx, r, g, xs, rs, rfl, _⟩ := h
    rfl
  · obtain ⟨d, t, b, l, tx, r, g, xs, rs, rfl, d4, ht, hb, hl, hrs, ln, kF, kB⟩ := h
    refine ⟨_, (pss_cons (ps_par (i := 4) (j := 5) rfl sc_law_raised.nd rfl rfl (by decide) rfl rfl (pa_cons pe_non (pa_cons (pe_lst pa_nil) pa_nil)) (by rfl))
      (pss_cons (L2N.ps_try_as (i := 7) rfl rfl sc_law_raised.nd rfl rfl ⟨rfl, by decide, .inl T.g_CursorError⟩ takesNoneN (fun W pn xe tk ow => (pss_one (ps_if (pt_cmpR op_eq (pv 0) pe_int (nomark _)) (pss_one (ps_expr (pe_calXN tk c_column hr (by decide) (by rfl) (pa_cons (pv 1) (pa_cons (pv 2) pa_nil))))) (pss_one (ps_if (pt_cmpR op_eq (pv 0) pe_int (nomark _)) (pss_one (ps_expr (pe_calXN tk c_run hr (by decide) (by rfl) (pa_cons (pv 1) (pa_cons (pv 2) (pa_cons (pv 3) pa_nil)))))) (pss_one (ps_if (pt_cmpR op_eq (pv 0) pe_int (nomark _)) (pss_one (show PS _ _ (tForF K W (zPlacesF K cs) 6 5 (tCons (tVar 1) (tCons (tVar 2) (tCons (tVar 3) tNil)))) from ps_forF (iy := 6) (iS := 5) ow tk c_places (hr.mono (by decide)) (by rfl) (pa_cons (pv 1) (pa_cons (pv 2) (pa_cons (pv 3) pa_nil))) sc_law_raised.nd rfl rfl rfl rfl (by decide))) (pss_one (ps_expr (pe_calXN tk c_reach hr (by decide) (by rfl) (pa_cons (pv 3) pa_nil))))))))))) (fun a oe cls d pn hz hf => (pss_one (ps_set (i := 4) sc_law_raised.nd rfl (Or.inl rfl) (pe_op op_cat (pe_callEN c_law_error hr (by decide) hz hf (by rfl) (pa_cons (pv 7) pa_nil)) (pv 5))))))
      (pss_one (ps_ret (pv 4))))), ?_⟩
    refine ⟨(by show 0 ≤ sizeLine; decide), fun q nq => ⟨_, _, rfl, ?_⟩⟩
    have e0 := new_same (o := HO.lst []) nq
    have hq : (upd H q (.lst [])) q = some (.lst []) := upd_same
    generalize upd H q (.lst []) = H0 at e0 hq ⊢
    have catch_ : ∀ (i : Nat) (v : V) (H1 : Hp) (dd : Addr), i < 4 → Bad04 b tx r g rs d i v → Same H0 H1 → H1 dd = some (.xd [("value", v)]) →
        wAs K (.ref CE) 7 (fun a cls d => tAsg (tOp rCat (tCallE a cls d (spErrE cs fun i => i < 4) (tCons (tVar 7) tNil)) (tVar 5)) (gName 4)) (fun _ _ _ _ => False) { nx := tRet (tVar 4) { nx := fun _ H' => Q .non H', rt := Q }, rt := Q } (.ref (cs i)) (some dd)
          [some (.int (d : Nat)), some (.ref t), some (.ref b), some (.ref l), some .non, some (.ref q), none, none] H1 := fun i v H1 dd hi bad e1 hdd => by
      refine ⟨true, T.ex i hi, fun _ a ha => ?_, fun q => nomatch q⟩
      refine ⟨_, rfl, cs i, dd, rfl, rfl, i, v, rfl, hi, rfl, hdd, fun H2 p2 e2 np2 h2 => ?_⟩
      have q2 := e2 _ _ (e1 _ _ hq)
      refine ⟨_, rfl, p2, q, _, _, rfl, rfl, h2, q2, (by show 3 + 0 ≤ sizeLine; decide), fun z nz => ?_⟩
      have e3 := new_same (o := HO.lst ([.str (nmE i), v, .bl true] ++ [])) nz
      have eA := ((e0.trans e1).trans e2).trans e3
      exact ⟨_, rfl, kB i v bad _ z eA (((e0.trans e1).trans e2).free nz) upd_same⟩
    have err : ∀ (i : Nat) (v : V) (H1 : Hp), i < 4 → Bad04 b tx r g rs d i v → Same H0 H1 → Err (WE (wAs K (.ref CE) 7 (fun a cls d => tAsg (tOp rCat (tCallE a cls d (spErrE cs fun i => i < 4) (tCons (tVar 7) tNil)) (tVar 5)) (gName 4)) (fun _ _ _ _ => False) { nx := tRet (tVar 4) { nx := fun _ H' => Q .non H', rt := Q }, rt := Q })
        [some (.int (d : Nat)), some (.ref t), some (.ref b), some (.ref l), some .non, some (.ref q), none, none]) (cs i) v H1 := fun i v H1 hi bad e1 H2 dd e2 nd => catch_ i v _ dd hi bad ((e1.trans e2).trans (new_same nd)) upd_same
    rcases (show d = 0 ∨ d = 1 ∨ d = 2 ∨ d = 3 by omega) with rfl | rfl | rfl | rfl
    · refine ⟨_, rfl, rfl, _, rfl, ite2 (fun _ => ?_) (fun h => absurd h (by decide))⟩
      refine ⟨_, rfl, _, rfl, ?_⟩
      show zCol04 K cs [.ref t, .ref b] H0 _ _
      rw [zCol04_eq]
      refine ⟨t, b, tx, r, g, rfl, e0.seq ht, seq_t e0 hb, fun i v bad => err i v H0 (bad_lt bad) (.col i v bad) (Same.refl _), fun ne hn hc H1 n e1 => ?_⟩
      exact ⟨_, rfl, kF ⟨fun _ => ⟨ne, hn, hc⟩, fun z => absurd z (by decide), fun z => by rcases z with z | z <;> cases z⟩ _ (e0.trans e1)⟩
    · refine ⟨_, rfl, rfl, _, rfl, ite2 (fun h => absurd h (by decide)) (fun _ => ?_)⟩
      refine ⟨_, rfl, rfl, _, rfl, ite2 (fun _ => ?_) (fun h => absurd h (by decide))⟩
      refine ⟨_, rfl, _, rfl, _, rfl, ?_⟩
      show zRunU K cs [.ref t, .ref b, .ref l] H0 _ _
      rw [zRunU_eq]
      rcases split04 b tx r g rs with ⟨i, v, bad⟩ | ⟨ne, hn, hc, hg⟩
      · exact .inl ⟨t, b, l, tx, r, g, xs, rs, i, v, rfl, e0.seq ht, seq_t e0 hb, e0.seq hl, hrs.same e0, bad, err i v H0 (bad_lt bad) (.run 1 i v (.inl rfl) bad) (Same.refl _)⟩
      · obtain ⟨hcs, ok⟩ := raws_cmds hrs (bad_good hg)
        obtain ⟨r0, r1, g0⟩ := id hc
        refine .inr ⟨t, b, l, tx, r, g, xs, rs.map Raw.cmd, rfl, e0.seq ht, seq_t e0 hb, e0.seq hl, hcs.same e0, neg_nn hn, r0, r1, g0, ok, by rw [List.length_map]; exact ln, fun n hf => err 3 _ H0 (by decide) (.far 1 n (.inl rfl) ne hn hc hg hf) (Same.refl _), fun r' g' hrun H1 p e1 _ => ?_⟩
        exact ⟨_, rfl, kF ⟨fun _ => ⟨ne, hn, hc⟩, fun _ => hg, fun _ => fail_none.mpr (by rw [hrun]; exact fun z => nomatch z)⟩ _ (e0.trans e1)⟩
    · refine ⟨_, rfl, rfl, _, rfl, ite2 (fun h => absurd h (by decide)) (fun _ => ?_)⟩
      refine ⟨_, rfl, rfl, _, rfl, ite2 (fun h => absurd h (by decide)) (fun _ => ?_)⟩
      refine ⟨_, rfl, rfl, _, rfl, ite2 (fun _ => ?_) (fun h => absurd h (by decide))⟩
      refine ⟨_, rfl, _, rfl, _, rfl, q, rfl, hq, ?_⟩
      show zPlacesF K cs [.ref t, .ref b, .ref l] (drp H0 q) _ _ _
      rw [zPlacesF_eq]
      have eD : Same H (drp H0 q) := fun c o e => by
        rw [drp_ne (ne_of_none e nq)]
        exact e0 c o e
      have back : ∀ {H2 : Hp} {dd : Addr} {u : HO}, Same (drp H0 q) H2 → H2 dd = none → Same H0 (upd (upd H2 dd u) q (.lst [])) := fun {H2 dd u} e2 nd c o e => by
        by_cases cq : c = q
        · rw [cq, hq] at e
          rw [cq, upd_same]
          exact e
        · have h2 := e2 c o (by rw [drp_ne cq]; exact e)
          rw [upd_ne cq, upd_ne (ne_of_none h2 nd)]
          exact h2
      refine ⟨t, b, l, tx, r, g, xs, rfl, eD.seq ht, seq_t eD hb, eD.seq hl, ?_⟩
      rcases split04 b tx r g rs with ⟨i, v, bad⟩ | ⟨ne, hn, hc, hg⟩
      · refine .inl ⟨rs, i, v, hrs.same eD, bad, fun H2 dd e2 nd => ⟨T.st i (bad_lt bad), fun nq2 => catch_ i v _ dd (bad_lt bad) (.run 2 i v (.inr rfl) bad) (back e2 nd) ?_⟩⟩
        rw [upd_ne (fun z => by rw [z, upd_same] at nq2; cases nq2), upd_same]
      · obtain ⟨hcs, ok⟩ := raws_cmds hrs (bad_good hg)
        obtain ⟨r0, r1, g0⟩ := id hc
        refine .inr ⟨rs.map Raw.cmd, hcs.same eD, neg_nn hn, r0, r1, g0, ok, by rw [List.length_map]; exact ln, fun n hf H2 dd e2 nd => ⟨T.st 3 (by decide), fun nq2 => catch_ 3 _ _ dd (by decide) (.far 2 n (.inr rfl) ne hn hc hg hf) (back e2 nd) ?_⟩, fun nof => ⟨fun ys x H' e => e, fun H' ys e => ⟨e, fun ws hw => ?_⟩⟩⟩
        · rw [upd_ne (fun z => by rw [z, upd_same] at nq2; cases nq2), upd_same]
        · refine ⟨_, rfl, kF ⟨fun _ => ⟨ne, hn, hc⟩, fun _ => hg, fun _ => nof⟩ _ fun c o z => ?_⟩
          rw [upd_ne (ne_of_none z nq)]
          exact e c o (eD c o z)
    · refine ⟨_, rfl, rfl, _, rfl, ite2 (fun h => absurd h (by decide)) (fun _ => ?_)⟩
      refine ⟨_, rfl, rfl, _, rfl, ite2 (fun h => absurd h (by decide)) (fun _ => ?_)⟩
      refine ⟨_, rfl, rfl, _, rfl, ite2 (fun h => absurd h (by decide)) (fun _ => ?_)⟩
      refine ⟨_, rfl, ?_⟩
      show zReach04 K (cs 2) [.ref l] H0 _ _
      rw [zReach04_eq]
      refine ⟨l, xs, rs, rfl, e0.seq hl, hrs.same e0, ln, fun i bad => err 2 _ H0 (by decide) (.cmd i bad) (Same.refl _), fun hg H1 p e1 => ?_⟩
      exact ⟨_, rfl, kF ⟨fun z => absurd z (by decide), fun _ => hg, fun z => by rcases z with z | z <;> cases z⟩ _ (e0.trans e1)⟩
end
end Gc

/-! the first command that is none (k04) -/
namespace Gc
open PySem L2
abbrev s_first : Stmt := top 41
structure TxtFb (mg : Str → Option Value) : Prop where
  enumerate : mg "enumerate" = none
  len : mg "len" = none
def fit1 : Raw → Bool
  | .one n => inV (.str n) withoutN
  | _ => false
/-- what is told of an error, or None -/
def ToldV (H : Hp) (v : V) : Option (Nat × V) → Prop
  | none => v = .non
  | some (i, x) => ∃ p, v = .ref p ∧ H p = some (.lst [.str (nmE i), x, .bl true])
theorem ToldV.same {H H' : Hp} {v : V} {o : Option (Nat × V)} (e : Same H H') (h : ToldV H v o) : ToldV H' v o := by
  cases o with
  | none => exact h
  | some q => exact let ⟨p, e1, hp⟩ := h; ⟨p, e1, e _ _ hp⟩
def spFirstBad (K : PySem.W.Frag) : Sp := fun vs H Q _ => ∃ (l : Addr) (xs : List V) (rs : List Raw), vs = [.ref l] ∧ SqL K H l xs ∧ RawsOf K H xs rs ∧
  ∀ (H' : Hp) (v : V), Same H H' → ToldV H' v ((badAt rs).map fun i => (2, V.int (i : Nat))) → Q v H'
section
variable {P : Program} {w : World} {K : PySem.W.Frag} {mg : Str → Option Value} {base : Heap}
theorem sc_law_first_bad : FnScope ["moves", "at", "command", "fits"] ["moves"] (defScope s_first) := ⟨rfl, rfl, rfl, by decide +kernel, rfl, by decide +kernel, by decide +kernel⟩
theorem ok_first_bad {f : Addr} {fd : FuncData} (F : Fun K "_law_first_bad" "_law_first_bad" s_first f fd) (T : TxtFb mg) : FnOk P w K mg base CX0 2 f fd ["moves"] (spFirstBad K) := by
  refine F.ok sc_law_first_bad (fun vs H Q E h => ?_) (fun cdv A outer s H vs Q E hr h => ?_)
  · obtain ⟨l, xs, rs, rfl, _⟩ := h
    rfl
  · obtain ⟨l, xs, rs, rfl, hl, hrs, k⟩ := h
    have kn : badAt rs = none → ∀ H', Same H H' → Q .non H' := fun e H' e1 => k H' .non e1 (by rw [e]; rfl)
    have ks : ∀ i, badAt rs = some i → ∀ (H' : Hp) (p : Addr), Same H H' → H p = none → H' p = some (.lst [.str "InvalidCommand", .int (i : Nat), .bl true]) → Q (.ref p) H' := fun i e H' p e1 _ hp => k H' (.ref p) e1 (by rw [e]; exact ⟨p, rfl, hp⟩)
    refine ⟨_, (pss_cons (ps_for PassesOwn.never rfl (pi_enum (by rfl) T.enumerate (pa_cons (pv 0) pa_nil)) (pg_tup rfl (pgs_cons (pg_name (i := 1) sc_law_first_bad.nd rfl (Or.inl rfl)) (pgs_cons (pg_name (i := 2) sc_law_first_bad.nd rfl (Or.inl rfl)) pgs_nil))) (C8.pss_cut (ps_set (i := 3) sc_law_first_bad.nd rfl (Or.inl rfl) (pe_and (pe_cmpR op_eq (pe_callB call_len_seq (by rfl) T.len (by decide +kernel) (pa_cons (pv 2) pa_nil)) pe_int (nomark _)) (pe_one (pe_cmpR op_in_seq (pe_ix ix_tup (pv 2) pe_int (fun _ _ => rfl)) (pe_tup (pa_cons pe_str (pa_cons pe_str pa_nil))) (by rfl)))))
      (C8.pss_cut (ps_if (PW.pt (pw_and (pt_cmpR op_eq (pe_callB call_len_seq (by rfl) T.len (by decide +kernel) (pa_cons (pv 2) pa_nil)) pe_int (nomark _)) (pw_and1 (pt_cmpR op_in_seq (pe_ix ix_tup (pv 2) pe_int (fun _ _ => rfl)) (pe_tup (pa_cons pe_str (pa_cons pe_str (pa_cons pe_str (pa_cons pe_str pa_nil))))) (by rfl))))) (pss_one (ps_set (i := 3) sc_law_first_bad.nd rfl (Or.inl rfl) (pe_cmpR op_gt (pe_ix ix_tup (pv 2) pe_int (fun _ _ => rfl)) pe_int (nomark _)))) pss_nil)
      (pss_one (ps_if (pt_not (pt_val (pv 3))) (pss_one (ps_ret (pe_lst (pa_cons pe_str (pa_cons (pv 1) (pa_cons pe_bl pa_nil)))))) pss_nil)))))
      (pss_one (ps_ret pe_non))), ?_⟩
    refine ⟨_, rfl, l, xs, rfl, hl, for_it (walk_enum (K := K) (a := l) (xs := xs)) (fun i σ H' => ∃ v1 v2 v3 : Option V, σ = [some (.ref l), v1, v2, v3] ∧ Same H H' ∧ ∀ j r, j < i → rs[j]? = some r → r.good = true)
      ⟨none, none, none, rfl, Same.refl H, fun j r z => absurd z (Nat.not_lt_zero _)⟩ (fun i σ H' _ h => by obtain ⟨_, _, _, _, e, _⟩ := h; exact e.seq hl) (fun i x σ H6 H7 hi h y => ?_) (fun σ H6 h => ?_)⟩
    · obtain ⟨v1, v2, v3, rfl, e6, gd⟩ := h
      obtain ⟨T1, x1, y1, rfl, nT, rfl, e1, e2⟩ := y
      obtain rfl := Option.some.inj e1
      obtain ⟨rw_, hr1, hr2⟩ := paired_at hrs e2
      have eT := new_same (o := HO.tup [.int (i : Nat), y1]) nT
      have e67 := e6.trans eT
      replace hr2 := hr2.same e67
      refine ⟨T1, _, rfl, SqT.of upd_same, rfl, _, _, rfl, _, _, rfl, rfl, ?_⟩
      generalize upd H6 T1 (.tup [.int (i : Nat), y1]) = H7 at e67 hr2 ⊢
      refine ⟨fun σ H' => σ = [some (.ref l), some (.int (i : Nat)), some y1, some (.bl (fit1 rw_))] ∧ Same H H', ?_, ?_⟩
      · obtain ⟨p, rfl, hp⟩ := hr2
        cases rw_ with
        | nil => exact ⟨_, rfl, p, _, rfl, .inr hp, rfl, _, rfl, iteF ⟨rfl, e67⟩⟩
        | two n j => exact ⟨_, rfl, p, _, rfl, .inr hp, rfl, _, rfl, iteF ⟨rfl, e67⟩⟩
        | three n j m => exact ⟨_, rfl, p, _, rfl, .inr hp, rfl, _, rfl, iteF ⟨rfl, e67⟩⟩
        | one n =>
          refine ⟨_, rfl, p, _, rfl, .inr hp, rfl, _, rfl, iteT ?_⟩
          refine ⟨_, rfl, p, _, 0, _, rfl, rfl, hp, rfl, ?_⟩
          refine ⟨(by show 2 ≤ sizeLine; decide), fun c nc => ?_⟩
          have e3 := new_same (o := HO.tup [.str "home", .str "end"]) nc
          refine ⟨c, _, rfl, .inr (SqT.of upd_same), rfl, rfl, rfl, e67.trans e3⟩
      rintro σ H8 ⟨rfl, e8⟩
      have hr8 : RawAt K H8 y1 rw_ := (by
        obtain ⟨r', h1, h2⟩ := paired_at hrs e2
        rw [hr1] at h1
        cases h1
        exact h2.same e8)
      refine ⟨fun σ H' => σ = [some (.ref l), some (.int (i : Nat)), some y1, some (.bl rw_.good)] ∧ Same H H', ?_, ?_⟩
      · obtain ⟨p, rfl, hp⟩ := hr8
        cases rw_ with
        | nil => exact ⟨_, rfl, p, _, rfl, .inr hp, rfl, _, rfl, iteF ⟨rfl, e8⟩⟩
        | one n => exact ⟨_, rfl, p, _, rfl, .inr hp, rfl, _, rfl, iteF ⟨rfl, e8⟩⟩
        | three n j m => exact ⟨_, rfl, p, _, rfl, .inr hp, rfl, _, rfl, iteF ⟨rfl, e8⟩⟩
        | two n j =>
          have gd2 : Raw.good (.two n j) = (inV (.str n) withN && decide (1 ≤ j)) := rfl
          refine ⟨_, rfl, p, _, rfl, .inr hp, rfl, _, rfl, iteT ?_⟩
          refine ⟨_, rfl, p, _, 0, _, rfl, rfl, hp, rfl, (by show 4 ≤ sizeLine; decide), fun c nc => ?_⟩
          have e3 := new_same (o := HO.tup [.str "down", .str "up", .str "right", .str "left"]) nc
          refine ⟨c, _, rfl, .inr (SqT.of upd_same), rfl, rfl, inV (.str n) withN, rfl, ?_⟩
          cases hb : inV (.str n) withN with
          | false =>
            rw [hb] at gd2
            exact iteF ⟨by rw [gd2]; rfl, e8.trans e3⟩
          | true =>
            rw [hb, Bool.true_and] at gd2
            refine iteT ⟨_, rfl, p, _, 1, _, rfl, rfl, seq_t e3 hp, rfl, ?_⟩
            refine ⟨_, _, rfl, rfl, ?_⟩
            exact ⟨by rw [gd2, show decide (1 ≤ j) = decide (0 < j) from decide_eq_decide.mpr (by omega)]; rfl, e8.trans e3⟩
      rintro σ H9 ⟨rfl, e9⟩
      cases hg : rw_.good with
      | true =>
        refine ⟨_, rfl, _, rfl, iteF ?_⟩
        refine ⟨_, _, _, rfl, e9, fun j r hj hr' => ?_⟩
        by_cases ej : j = i
        · rw [ej, hr1] at hr'
          cases hr'
          exact hg
        · exact gd j r (by omega) hr'
      | false =>
        refine ⟨_, rfl, _, rfl, iteT ?_⟩
        refine ⟨_, rfl, (by show 3 ≤ sizeLine; decide), fun p np => ?_⟩
        exact ks i (bad_at hr1 hg fun j r hj hr' => gd j r hj hr') _ p (e9.trans (new_same np)) (e9.free np) upd_same
    obtain ⟨v1, v2, v3, rfl, e6, gd⟩ := h
    have lx := Paired.length hrs
    exact kn (bad_none fun j r hj hr' => gd j r (by omega) hr') _ e6
end
end Gc

/-! the errors that are due (k04) -/
namespace Gc
open PySem L2
abbrev s_due04 : Stmt := top 42
structure TxtDu04 (mg : Str → Option Value) : Prop where
  enumerate : mg "enumerate" = none
  len : mg "len" = none
/-- what is due at a door -/
def Due04 (b : Addr) (T : List Int) (r : Int) (g : Option Int) (rs : List Raw) (d : Nat) (o : Option (Nat × V)) : Prop := (∀ i v, o = some (i, v) → Bad04 b T r g rs d i v) ∧ (o = none → Fine04 T r g rs d)
def spDue04 (K : PySem.W.Frag) : Sp := fun vs H Q _ => ∃ (t b l : Addr) (T : List Int) (r : Int) (g : Option Int) (xs : List V) (rs : List Raw), vs = [.ref t, .ref b, .ref l] ∧ SqL K H t (T.map V.int) ∧ SqT K H b [.int r, optV g] ∧ SqL K H l xs ∧ RawsOf K H xs rs ∧ rs.length ≤ 10000 ∧ (∀ x ∈ rs, numC x.cmd < 10 ^ 40) ∧
  ∀ (H' : Hp) (p : Addr) (v1 v2 v3 : V) (o1 o2 o3 : Option (Nat × V)), Same H H' → H p = none → H' p = some (.lst [v1, v2, v2, v3]) → ToldV H' v1 o1 → ToldV H' v2 o2 → ToldV H' v3 o3 → Due04 b T r g rs 0 o1 → Due04 b T r g rs 1 o2 → Due04 b T r g rs 2 o2 → Due04 b T r g rs 3 o3 → Q (.ref p) H'
theorem lay04 : ∀ T : List Int, PyData.canLayAll0 (T.map PyData.int) = true
  | [] => by simp [PyData.canLayAll0]
  | x :: T => by rw [List.map_cons, PyData.canLayAll0, lay04 T]; rfl
theorem shaped04 (T : List Int) : SeqAt.shaped (.list (T.map PyData.int)) = true := by
  unfold SeqAt.shaped
  rw [PyData.canLay0, lay04]
  have := deep_ints T
  simp only [PyData.depth, this]
  decide
section
variable {P : Program} {w : World} {K : PySem.W.Frag} {mg : Str → Option Value} {base : Heap}
theorem sc_law_due : FnScope ["sheet", "spot", "moves", "wrong", "at", "size", "bad", "both", "here", "command"] ["sheet", "spot", "moves"] (defScope s_due04) := ⟨rfl, rfl, rfl, by decide +kernel, rfl, by decide +kernel, by decide +kernel⟩
theorem ok_due04 {f : Addr} {fd : FuncData} (F : Fun K "_law_due" "_law_due" s_due04 f fd) (T : TxtDu04 mg) (c_law_first_bad : Cal P w K mg base 2 "_law_first_bad" (spFirstBad K)) (c_law_moved : Cal P w K mg base 2 "_law_moved" (spLMoved K)) : FnOk P w K mg base CX0 3 f fd ["sheet", "spot", "moves"] (spDue04 K) := by
  refine F.ok sc_law_due (fun vs H Q E h => ?_) (fun cdv A outer s H vs Q E hr h => ?_)
  · obtain ⟨t, b, l, tx, r, g, xs, rs, rfl, _⟩ := h
    rfl
  · obtain ⟨t, b, l, tx, r, g, xs, rs, rfl, ht, hb, hl, hrs, ln, nb, k⟩ := h
    refine ⟨_, (pss_cons (ps_set (i := 3) sc_law_due.nd rfl (Or.inl rfl) pe_non)
      (C8.pss_cut (ps_if (pt_cmpR (op_eqD hr.units) (pv 0) (pe_lst pa_nil) (nomark _)) (pss_one (ps_set (i := 3) sc_law_due.nd rfl (Or.inl rfl) (pe_lst (pa_cons pe_str (pa_cons pe_non (pa_cons pe_bl pa_nil)))))) pss_nil)
      (pss_cons (ps_for PassesOwn.never rfl (pi_enum (by rfl) T.enumerate (pa_cons (pv 0) pa_nil)) (pg_tup rfl (pgs_cons (pg_name (i := 4) sc_law_due.nd rfl (Or.inl rfl)) (pgs_cons (pg_name (i := 5) sc_law_due.nd rfl (Or.inl rfl)) pgs_nil))) (pss_one (ps_if (PW.pt (pw_and (pt_cmpR op_isN (pv 3) pe_non (nomark _)) (pw_and1 (pt_cmpR op_lt (pv 5) pe_int (nomark _))))) (pss_one (ps_set (i := 3) sc_law_due.nd rfl (Or.inl rfl) (pe_lst (pa_cons pe_str (pa_cons (pv 4) (pa_cons pe_bl pa_nil)))))) pss_nil)))
      (C8.pss_cut (ps_if (PW.pt (pw_and (pt_cmpR op_isN (pv 3) pe_non (nomark _)) (pw_and1 (PW.pt (pw_or (pt_not (pt_chain op_le op_lt pe_int (pe_ix ix_tup (pv 1) pe_int (fun _ _ => rfl)) (pe_callB call_len_seq (by rfl) T.len (by decide +kernel) (pa_cons (pv 0) pa_nil)))) (pw_or1 (PW.pt (pw_and (pt_cmpR op_notN (pe_ix ix_tup (pv 1) pe_int (fun _ _ => rfl)) pe_non (nomark _)) (pw_and1 (pt_cmpR op_lt (pe_ix ix_tup (pv 1) pe_int (fun _ _ => rfl)) pe_int (nomark _))))))))))) (pss_one (ps_set (i := 3) sc_law_due.nd rfl (Or.inl rfl) (pe_lst (pa_cons pe_str (pa_cons (pv 1) (pa_cons pe_bl pa_nil)))))) pss_nil)
      (pss_cons (ps_set (i := 6) sc_law_due.nd rfl (Or.inl rfl) (pe_cal c_law_first_bad hr (by decide) (by rfl) (pa_cons (pv 2) pa_nil)))
      (C8.pss_cut (ps_set (i := 7) sc_law_due.nd rfl (Or.inl rfl) (pe_ifExp (pt_cmpR op_notN (pv 3) pe_non (nomark _)) (pv 3) (pv 6)))
      (C8.pss_cut (ps_if (pt_cmpR op_isN (pv 7) pe_non (nomark _)) (pss_cons (ps_set (i := 8) sc_law_due.nd rfl (Or.inl rfl) (pv 1))
      (pss_one (ps_for PassesOwn.never rfl (pi_enum (by rfl) T.enumerate (pa_cons (pv 2) pa_nil)) (pg_tup rfl (pgs_cons (pg_name (i := 4) sc_law_due.nd rfl (Or.inl rfl)) (pgs_cons (pg_name (i := 9) sc_law_due.nd rfl (Or.inl rfl)) pgs_nil))) (pss_cons (ps_set (i := 8) sc_law_due.nd rfl (Or.inl rfl) (pe_ifExp (pt_cmpR op_isN (pv 8) pe_non (nomark _)) pe_non (pe_cal c_law_moved hr (by decide) (by rfl) (pa_cons (pv 0) (pa_cons (pv 8) (pa_cons (pv 9) pa_nil))))))
      (pss_one (ps_if (PW.pt (pw_and (pt_cmpR op_isN (pv 8) pe_non (nomark _)) (pw_and1 (pt_cmpR op_isN (pv 7) pe_non (nomark _))))) (pss_one (ps_set (i := 7) sc_law_due.nd rfl (Or.inl rfl) (pe_lst (pa_cons pe_str (pa_cons (pv 4) (pa_cons pe_bl pa_nil)))))) pss_nil)))))) pss_nil)
      (pss_one (ps_ret (pe_lst (pa_cons (pv 3) (pa_cons (pv 7) (pa_cons (pv 7) (pa_cons (pv 6) pa_nil)))))))))))))), ?_⟩
    refine ⟨fun σ H' => ∃ (v : V) (o : Option (Nat × V)), σ = [some (.ref t), some (.ref b), some (.ref l), some v, none, none, none, none, none, none] ∧ Same H H' ∧ ToldV H' v o ∧ (tx = [] → o = some (0, .non)) ∧ (tx ≠ [] → o = none), ?_, ?_⟩
    · refine ⟨_, rfl, (by show 0 ≤ sizeLine; decide), fun p np => ?_⟩
      have e1 := new_same (o := HO.lst []) np
      refine ⟨.list (tx.map PyData.int), .list [], .lst (e1.seq ht) (dp_ints tx), .lst (SqL.of upd_same) .nil, shaped04 tx, rfl, ?_⟩
      rw [show PyData.eqv (.list (tx.map PyData.int)) (.list []) = decide (tx = []) by cases tx <;> simp [PyData.eqv, PyData.eqvAll]]
      by_cases hx : tx = []
      · rw [decide_eq_true hx]
        refine ⟨_, rfl, iteT ⟨(by show 3 ≤ sizeLine; decide), fun p2 np2 => ?_⟩⟩
        exact ⟨_, some (0, .non), rfl, e1.trans (new_same np2), ⟨p2, rfl, upd_same⟩, fun _ => rfl, fun z => absurd hx z⟩
      · rw [decide_eq_false hx]
        exact ⟨_, rfl, iteF ⟨_, none, rfl, e1, rfl, fun z => absurd z hx, fun _ => rfl⟩⟩
    rintro σ H1 ⟨v, o, rfl, e1, h1, h2, h3⟩
    refine ⟨_, rfl, t, _, rfl, e1.seq ht, for_it (walk_enum (K := K) (a := t) (xs := tx.map V.int)) (fun i σ H' => ∃ (v : V) (o : Option (Nat × V)) (v4 v5 : Option V), σ = [some (.ref t), some (.ref b), some (.ref l), some v, v4, v5, none, none, none, none] ∧ Same H H' ∧ ToldV H' v o ∧ (tx = [] → o = some (0, .non)) ∧
        (tx ≠ [] → (o = none ∧ ∀ j x, j < i → tx[j]? = some x → 0 ≤ x) ∨ ∃ j x, j < i ∧ o = some (0, .int (j : Nat)) ∧ tx[j]? = some x ∧ x < 0 ∧ ∀ j' x', j' < j → tx[j']? = some x' → 0 ≤ x'))
      ⟨v, o, none, none, rfl, e1, h1, h2, fun z => .inl ⟨h3 z, fun j x hj _ => absurd hj (Nat.not_lt_zero _)⟩⟩ (fun i σ H' _ h => by obtain ⟨_, _, _, _, _, e, _⟩ := h; exact e.seq ht) (fun i x σ H6 H7 hi h y => ?_) (fun σ H6 h => ?_)⟩
    · obtain ⟨v, o, v4, v5, rfl, e6, h1, h2, h3⟩ := h
      obtain ⟨T1, x1, y1, rfl, nT, rfl, f1, f2⟩ := y
      obtain rfl := Option.some.inj f1
      have f2 : (tx.map V.int)[i]? = some y1 := f2
      rw [List.getElem?_map] at f2
      obtain ⟨z, hz, rfl⟩ := Option.map_eq_some_iff.mp f2
      have eT := new_same (o := HO.tup [.int (i : Nat), .int z]) nT
      have e67 := e6.trans eT
      replace h1 := h1.same eT
      have ne : tx ≠ [] := fun q => by rw [q] at hz; cases hz
      refine ⟨T1, _, rfl, SqT.of upd_same, rfl, _, _, rfl, _, _, rfl, rfl, ?_⟩
      generalize upd H6 T1 (.tup [.int (i : Nat), .int z]) = H7 at e67 h1 ⊢
      refine ⟨_, rfl, rfl, _, rfl, ?_⟩
      rcases h3 ne with ⟨ho, nn⟩ | ⟨j, x, hj, ho, hx, xn, nn⟩
      · subst ho
        obtain rfl : v = .non := h1
        refine iteT ⟨_, rfl, _, _, rfl, rfl, _, rfl, ite2 (fun hz2 => ?_) (fun hz2 => ?_)⟩
        · have hz3 : z < 0 := of_decide_eq_true hz2
          refine ⟨_, rfl, (by show 3 ≤ sizeLine; decide), fun p2 np2 => ?_⟩
          exact ⟨_, some (0, .int (i : Nat)), _, _, rfl, e67.trans (new_same np2), ⟨p2, rfl, upd_same⟩, fun q => absurd q ne, fun _ => .inr ⟨i, z, Nat.lt_succ_self i, rfl, hz, hz3, nn⟩⟩
        · have hz3 : ¬ z < 0 := fun q => hz2 (decide_eq_true q)
          refine ⟨_, none, _, _, rfl, e67, rfl, fun q => absurd q ne, fun _ => .inl ⟨rfl, fun j x hj hx => ?_⟩⟩
          by_cases ej : j = i
          · rw [ej, hz] at hx
            cases hx
            omega
          · exact nn j x (by omega) hx
      · subst ho
        obtain ⟨p, rfl, hp⟩ := id h1
        refine iteF ⟨_, _, _, _, rfl, e67, h1, fun q => absurd q ne, fun _ => .inr ⟨j, x, by omega, rfl, hx, xn, nn⟩⟩
    obtain ⟨v, o, v4, v5, rfl, e2, h1, h2, h3⟩ := h
    refine ⟨fun σ H' => ∃ (v : V) (o : Option (Nat × V)), σ = [some (.ref t), some (.ref b), some (.ref l), some v, v4, v5, none, none, none, none] ∧ Same H H' ∧ ToldV H' v o ∧
      ((o = none ∧ tx ≠ [] ∧ negAt tx = none ∧ CurOk tx.length r g) ∨ ∃ i x, o = some (i, x) ∧ BadRun b tx r g rs i x ∧ BadRun b tx r g [] i x), ?_, ?_⟩
    · refine ⟨_, rfl, rfl, _, rfl, ?_⟩
      by_cases hx : tx = []
      · obtain rfl := h2 hx
        obtain ⟨p, rfl, hp⟩ := id h1
        exact iteF ⟨_, _, rfl, e2, h1, .inr ⟨0, .non, rfl, .text0 hx, .text0 hx⟩⟩
      · rcases h3 hx with ⟨rfl, nn⟩ | ⟨j, x, hj, rfl, hxj, xn, nn⟩
        · obtain rfl : v = .non := h1
          have hn : negAt tx = none := neg_none fun j x hj hxj => nn j x (by rw [List.length_map]; exact hj) hxj
          refine iteT ?_
          have said : ∀ (p2 : Addr) (H4 : Hp), Same H H4 → ¬ CurOk tx.length r g → H4 p2 = none → ∃ (v : V) (o : Option (Nat × V)), ([some (.ref t), some (.ref b), some (.ref l), some (.ref p2), v4, v5, none, none, none, none] : St) = [some (.ref t), some (.ref b), some (.ref l), some v, v4, v5, none, none, none, none] ∧ Same H (upd H4 p2 (.lst [.str "InvalidCursor", .ref b, .bl true])) ∧ ToldV (upd H4 p2 (.lst [.str "InvalidCursor", .ref b, .bl true])) v o ∧
              ((o = none ∧ tx ≠ [] ∧ negAt tx = none ∧ CurOk tx.length r g) ∨ ∃ i x, o = some (i, x) ∧ BadRun b tx r g rs i x ∧ BadRun b tx r g [] i x) := fun p2 H4 e4 hc np2 =>
            ⟨.ref p2, some (1, .ref b), rfl, e4.trans (new_same np2), ⟨p2, rfl, upd_same⟩, .inr ⟨1, .ref b, rfl, .cursor hx hn hc, .cursor hx hn hc⟩⟩
          have hb2 := seq_t e2 hb
          refine ⟨_, rfl, b, _, 0, _, rfl, rfl, hb2, rfl, _, _, rfl, rfl, _, rfl, ?_⟩
          by_cases r0 : 0 ≤ r
          · refine ite2 (fun _ => ?_) (fun h => absurd (decide_eq_true r0) h)
            refine ⟨_, rfl, t, _, rfl, .inl (e2.seq ht), _, _, rfl, rfl, _, rfl, ?_⟩
            by_cases r1 : r < ((tx.map V.int).length : Int)
            · rw [decide_eq_true r1]
              rw [List.length_map] at r1
              refine iteF ?_
              refine ⟨_, rfl, b, _, 1, _, rfl, rfl, hb2, rfl, rfl, _, rfl, ?_⟩
              cases g with
              | none => exact iteF (iteF ⟨.non, none, rfl, e2, rfl, .inl ⟨rfl, hx, hn, r0, r1, ge_none 0⟩⟩)
              | some y =>
                refine iteT ⟨_, rfl, b, _, 1, _, rfl, rfl, hb2, rfl, _, _, rfl, rfl, _, rfl, ite2 (fun hy => ?_) (fun hy => ?_)⟩
                · have hy2 : y < 0 := of_decide_eq_true hy
                  exact ⟨_, rfl, (by show 3 ≤ sizeLine; decide), fun p2 np2 => said p2 _ e2 (fun c => by have := ge_some.mp c.2.2; omega) np2⟩
                · have hy2 : ¬ y < 0 := fun q => hy (decide_eq_true q)
                  exact ⟨.non, none, rfl, e2, rfl, .inl ⟨rfl, hx, hn, r0, r1, ge_some.mpr (by omega)⟩⟩
            · rw [decide_eq_false r1]
              rw [List.length_map] at r1
              exact iteT (iteT ⟨_, rfl, (by show 3 ≤ sizeLine; decide), fun p2 np2 => said p2 _ e2 (fun c => r1 c.2.1) np2⟩)
          · refine ite2 (fun h => absurd (of_decide_eq_true h) r0) (fun _ => ?_)
            exact ⟨_, rfl, iteT (iteT ⟨_, rfl, (by show 3 ≤ sizeLine; decide), fun p2 np2 => said p2 _ e2 (fun c => r0 c.1) np2⟩)⟩
        · have hn : negAt tx = some j := neg_at hxj xn nn
          obtain ⟨p, rfl, hp⟩ := id h1
          exact iteF ⟨_, _, rfl, e2, h1, .inr ⟨0, .int (j : Nat), rfl, .text j hx hn, .text j hx hn⟩⟩
    rintro σ H3 ⟨v, o, rfl, e3, h1, hd⟩
    clear h2 h3
    refine ⟨_, rfl, l, xs, rs, rfl, e3.seq hl, hrs.same e3, fun H4 v6 e34 h6 => ?_⟩
    have e4 := e3.trans e34
    replace h1 := h1.same e34
    clear e34 e3
    refine ⟨fun σ H' => ∃ v7 : V, σ = [some (.ref t), some (.ref b), some (.ref l), some v, v4, v5, some v6, some v7, none, none] ∧ H' = H4 ∧ ToldV H4 v7 (o.orElse fun _ => (badAt rs).map fun i => (2, V.int (i : Nat))), ?_, ?_⟩
    · refine ⟨_, rfl, rfl, _, rfl, ?_⟩
      cases o with
      | none =>
        obtain rfl : v = .non := h1
        exact iteF ⟨_, rfl, _, rfl, rfl, h6⟩
      | some q =>
        obtain ⟨p, rfl, hp⟩ := id h1
        exact iteT ⟨_, rfl, _, rfl, rfl, h1⟩
    rintro σ H5 ⟨v7, rfl, rfl, h7⟩
    refine ⟨fun σ H' => ∃ (v7 : V) (o2 : Option (Nat × V)) (v4 v5 v8 v9 : Option V), σ = [some (.ref t), some (.ref b), some (.ref l), some v, v4, v5, some v6, some v7, v8, v9] ∧ Same H5 H' ∧ ToldV H' v7 o2 ∧ ∀ d, d = 1 ∨ d = 2 → Due04 b tx r g rs d o2, ?_, ?_⟩
    · refine ⟨_, rfl, rfl, _, rfl, ?_⟩
      rcases hd with ⟨rfl, hx, hn, hc⟩ | ⟨i, x, rfl, bad, _⟩
      · cases hg : badAt rs with
        | some j =>
          have h7' : ToldV H5 v7 (some (2, .int (j : Nat))) := by rw [hg] at h7; exact h7
          obtain ⟨p, rfl, hp⟩ := id h7'
          exact iteF ⟨_, _, _, _, _, _, rfl, Same.refl _, h7', fun d hd => ⟨fun i v e => by cases e; exact .run d 2 _ hd (.command j hx hn hc hg), fun e => nomatch e⟩⟩
        | none =>
          obtain rfl : v7 = .non := by rw [hg] at h7; exact h7
          obtain ⟨hcs, ok⟩ := raws_cmds (hrs.same e4) (bad_good hg)
          have nb' : ∀ c ∈ rs.map Raw.cmd, numC c < 10 ^ 40 := fun c hc => by
            obtain ⟨y, hy, rfl⟩ := List.mem_map.mp hc
            exact nb y hy
          obtain ⟨r0, r1, g0⟩ := id hc
          have fin : ∀ d, d = 1 ∨ d = 2 → ∀ o2, (o2 = (failAt tx r g (rs.map Raw.cmd)).map fun n => (3, V.int (n : Nat))) → Due04 b tx r g rs d o2 := fun d hd o2 e => by
            subst e
            cases hf : failAt tx r g (rs.map Raw.cmd) with
            | none => exact ⟨fun i v e => (nomatch e), fun _ => ⟨fun _ => ⟨hx, hn, hc⟩, fun _ => hg, fun _ => hf⟩⟩
            | some n => exact ⟨fun i v e => by cases e; exact .far d n hd hx hn hc hg hf, fun e => nomatch e⟩
          generalize rs.map Raw.cmd = cs at hcs ok nb' fin
          refine iteT ⟨_, rfl, _, rfl, l, xs, rfl, e4.seq hl, for_it (walk_enum (K := K) (a := l) (xs := xs)) (fun i σ H' => ∃ (v7 v8 : V) (v4 v5 v9 : Option V), σ = [some (.ref t), some (.ref b), some (.ref l), some v, v4, v5, some v6, some v7, some v8, v9] ∧ Same H5 H' ∧
              ((∃ (p : Addr) (rr : Int) (gg : Option Int), v7 = .non ∧ v8 = .ref p ∧ SqT K H' p [.int rr, optV gg] ∧ 0 ≤ rr ∧ rr < tx.length ∧ failAt tx r g cs = (failAt tx rr gg (cs.drop i)).map (· + i)) ∨ ∃ n, v8 = .non ∧ failAt tx r g cs = some n ∧ ToldV H' v7 (some (3, .int (n : Nat)))))
            ⟨.non, .ref b, v4, v5, none, rfl, Same.refl _, .inl ⟨b, r, g, rfl, rfl, seq_t e4 hb, r0, r1, by rw [List.drop_zero]; cases failAt tx r g cs <;> rfl⟩⟩ (fun i σ H' _ h => by obtain ⟨_, _, _, _, _, _, e, _⟩ := h; exact (e4.trans e).seq hl) (fun i x σ H6 H7 hi h y => ?_) (fun σ H6 h => ?_)⟩
          · obtain ⟨v7, v8, w4, w5, w9, rfl, e6, hst⟩ := h
            obtain ⟨T1, x1, y1, rfl, nT, rfl, f1, f2⟩ := y
            obtain rfl := Option.some.inj f1
            obtain ⟨c, hci, hca⟩ := paired_at hcs f2
            have eT := new_same (o := HO.tup [.int (i : Nat), y1]) nT
            have e67 := e6.trans eT
            refine ⟨T1, _, rfl, SqT.of upd_same, rfl, _, _, rfl, _, _, rfl, rfl, ?_⟩
            rcases hst with ⟨p, rr, gg, rfl, rfl, hp, q0, q1, hf⟩ | ⟨n, rfl, hf, h7n⟩
            · have hp7 := seq_t eT hp
              generalize upd H6 T1 (.tup [.int (i : Nat), y1]) = H7 at e67 hp7 ⊢
              have hdrop : cs.drop i = c :: cs.drop (i + 1) := by
                obtain ⟨l1, l2⟩ := List.getElem?_eq_some_iff.mp hci
                rw [List.drop_eq_getElem_cons l1, l2]
              rw [hdrop, fail_step] at hf
              have cm := List.mem_of_getElem? hci
              refine ⟨_, rfl, rfl, _, rfl, iteF ?_⟩
              refine ⟨_, rfl, _, rfl, _, rfl, t, p, y1, tx, rr, gg, c, rfl, (e4.trans e67).seq ht, hp7, hca.same e67, q0, q1, ok c cm, nb' c cm, fun st H8 e8 => ?_, fun r2 g2 st H8 p8 e8 np8 hp8 => ?_⟩
              · rw [st] at hf
                refine ⟨_, rfl, rfl, _, rfl, iteT ⟨_, rfl, rfl, _, rfl, iteT ⟨_, rfl, (by show 3 ≤ sizeLine; decide), fun p2 np2 => ?_⟩⟩⟩
                exact ⟨_, _, _, _, _, rfl, (e67.trans e8).trans (new_same np2), .inr ⟨i, rfl, by rw [hf]; simp, p2, rfl, upd_same⟩⟩
              · rw [st] at hf
                have sr := step_row q0 q1 st
                refine ⟨_, rfl, rfl, _, rfl, iteF ?_⟩
                refine ⟨_, _, _, _, _, rfl, e67.trans e8, .inl ⟨p8, r2, g2, rfl, rfl, SqT.of hp8, sr.1, sr.2, ?_⟩⟩
                rw [hf]
                show (((failAt tx r2 g2 (cs.drop (i + 1))).map (· + 1)).map (· + i)) = _
                cases failAt tx r2 g2 (cs.drop (i + 1)) with
                | none => rfl
                | some k => simp; omega
            · have h7n' := h7n.same eT
              generalize upd H6 T1 (.tup [.int (i : Nat), y1]) = H7 at e67 h7n' ⊢
              obtain ⟨p, rfl, hp⟩ := id h7n'
              refine ⟨_, rfl, rfl, _, rfl, iteT ?_⟩
              refine ⟨_, rfl, rfl, _, rfl, iteT ⟨_, rfl, rfl, _, rfl, iteF ?_⟩⟩
              exact ⟨_, _, _, _, _, rfl, e67, .inr ⟨n, rfl, hf, h7n'⟩⟩
          · obtain ⟨v7, v8, w4, w5, w9, rfl, e6, hst⟩ := h
            rcases hst with ⟨p, rr, gg, rfl, rfl, hp, q0, q1, hf⟩ | ⟨n, rfl, hf, h7n⟩
            · rw [hcs.len, List.drop_length] at hf
              exact ⟨_, none, _, _, _, _, rfl, e6, rfl, fun d hd => fin d hd none (by rw [hf]; rfl)⟩
            · exact ⟨_, _, _, _, _, _, rfl, e6, h7n, fun d hd => fin d hd _ (by rw [hf]; rfl)⟩
      · obtain ⟨p, rfl, hp⟩ := id h7
        exact iteF ⟨_, _, _, _, _, _, rfl, Same.refl _, h7, fun d hd => ⟨fun i v e => by cases e; exact .run d _ _ hd bad, fun e => nomatch e⟩⟩
    rintro σ H6 ⟨v7, o2, w4, w5, w8, w9, rfl, e6, h7', hd2⟩
    refine ⟨_, rfl, _, rfl, _, rfl, _, rfl, (by show 4 ≤ sizeLine; decide), fun p np => ?_⟩
    have e7 := new_same (o := HO.lst [v, v7, v7, v6]) np
    refine k _ p v v7 v6 o o2 ((badAt rs).map fun i => (2, V.int (i : Nat))) ((e4.trans e6).trans e7) ((e4.trans e6).free np) upd_same ((h1.same e6).same e7) (h7'.same e7) ((h6.same e6).same e7) ⟨fun i x e => ?_, fun e => ?_⟩ (hd2 1 (.inl rfl)) (hd2 2 (.inr rfl)) ⟨fun i x e => ?_, fun e => ?_⟩
    · rcases hd with ⟨rfl, _⟩ | ⟨i', x', rfl, _, bad⟩
      · cases e
      · cases e
        exact .col _ _ bad
    · rcases hd with ⟨_, hx, hn, hc⟩ | ⟨i', x', rfl, _, bad⟩
      · exact ⟨fun _ => ⟨hx, hn, hc⟩, fun q => absurd q (by decide), fun q => by rcases q with q | q <;> cases q⟩
      · cases e
    · cases hg : badAt rs with
      | none => rw [hg] at e; cases e
      | some j =>
        rw [hg] at e
        cases e
        exact .cmd j hg
    · cases hg : badAt rs with
      | none => exact ⟨fun q => absurd q (by decide), fun _ => hg, fun q => by rcases q with q | q <;> cases q⟩
      | some j =>
        rw [hg] at e
        cases e
end
end Gc

/-! cursors that may be none (k04) -/
namespace Gc
open PySem L2
abbrev s_bentc : Stmt := top 39
structure TxtBc (mg : Str → Option Value) : Prop where
  len : mg "len" = none
/-- small enough to be shown -/
def SmC (r : Int) (g : Option Int) : Prop := r.natAbs < 2 ^ 120 ∧ ∀ x, g = some x → x.natAbs < 2 ^ 120
def spBentC (K : PySem.W.Frag) : Sp := fun vs H Q _ => ∃ (a d t b : Addr) (n : Nat) (T : List Int) (r : Int) (g : Option Int), vs = [.ref a, .ref t, .ref b] ∧ Src H a d n ∧ n < 2 ^ 37 ∧ H t = some (.lst (T.map V.int)) ∧ T.length ≤ 100 ∧ SqT K H b [.int r, optV g] ∧ SmC r g ∧
  ∀ (H' : Hp) (b' : Addr) (r' : Int) (g' : Option Int), Keep a d H H' → Src H' a d (n + 2) → SqT K H' b' [.int r', optV g'] → SmC r' g' → Q (.ref b') H'
section
variable {P : Program} {w : World} {K : PySem.W.Frag} {mg : Str → Option Value} {base : Heap}
theorem sc_law_bent_cursor : FnScope ["source", "sheet", "spot", "row", "goal", "some"] ["source", "sheet", "spot"] (defScope s_bentc) := ⟨rfl, rfl, rfl, by decide +kernel, rfl, by decide +kernel, by decide +kernel⟩
theorem ok_bentc {f : Addr} {fd : FuncData} (F : Fun K "_law_bent_cursor" "_law_bent_cursor" s_bentc f fd) (T : TxtBc mg) (c_law_draw : Cal P w K mg base 1 "_law_draw" spDraw) : FnOk P w K mg base CX0 2 f fd ["source", "sheet", "spot"] (spBentC K) := by
  refine F.ok sc_law_bent_cursor (fun vs H Q E h => ?_) (fun cdv A outer s H vs Q E hr h => ?_)
  · obtain ⟨a, d, t, b, n, tx, r, g, rfl, _⟩ := h
    rfl
  · obtain ⟨a, d, t, b, n, tx, r, g, rfl, S, hn, ht, lt, hb, hs, k⟩ := h
    refine ⟨_, (pss_cons (ps_asg (pv 2) (pg_tup rfl (pgs_cons (pg_name (i := 3) sc_law_bent_cursor.nd rfl (Or.inl rfl)) (pgs_cons (pg_name (i := 4) sc_law_bent_cursor.nd rfl (Or.inl rfl)) pgs_nil))))
      (pss_cons (ps_set (i := 5) sc_law_bent_cursor.nd rfl (Or.inl rfl) (pe_lst (pa_cons (pv 2) (pa_cons (pv 2) (pa_cons (pv 2) (pa_cons (pe_tup (pa_cons (pe_callB call_len_seq (by rfl) T.len (by decide +kernel) (pa_cons (pv 1) pa_nil)) (pa_cons (pv 4) pa_nil))) (pa_cons (pe_tup (pa_cons (pe_un un_neg pe_int) (pa_cons (pv 4) pa_nil))) (pa_cons (pe_tup (pa_cons (pv 3) (pa_cons (pe_un un_neg pe_int) pa_nil))) (pa_cons (pe_tup (pa_cons (pv 3) (pa_cons (pe_op op_sub pe_int (pe_op op_pow pe_int pe_int)) pa_nil))) (pa_cons (pe_tup (pa_cons (pe_op op_pow pe_int pe_int) (pa_cons pe_int pa_nil))) pa_nil))))))))))
      (pss_one (ps_ret (pe_ix ix_list (pe_op op_cat (pv 5) (pe_lst (pa_cons (pe_tup (pa_cons (pe_un un_neg pe_int) (pa_cons (pe_un un_neg pe_int) pa_nil))) pa_nil))) (pe_cal c_law_draw hr (by decide) (by rfl) (pa_cons (pv 0) (pa_cons pe_int pa_nil))) (fun _ _ => rfl)))))), ?_⟩
    refine ⟨_, rfl, b, _, rfl, hb, rfl, _, _, rfl, _, _, rfl, rfl, ?_⟩
    refine ⟨_, rfl, _, rfl, _, rfl, _, rfl, t, _, rfl, .inl (SqL.of ht), ?_⟩
    refine ⟨_, rfl, (by show 2 ≤ sizeLine; decide), fun p1 np1 => ?_⟩
    have e1 := new_same (o := HO.tup [.int ((tx.map V.int).length : Int), optV g]) np1
    have h1 : SqT K (upd H p1 (.tup [.int ((tx.map V.int).length : Int), optV g])) p1 [.int (tx.length : Int), optV g] := SqT.of (by rw [upd_same, List.length_map])
    generalize upd H p1 (.tup [.int ((tx.map V.int).length : Int), optV g]) = H1 at e1 h1 ⊢
    refine ⟨_, rfl, _, rfl, (by show 2 ≤ sizeLine; decide), fun p2 np2 => ?_⟩
    have f2 := new_same (o := HO.tup [.int (-1), optV g]) np2
    have h2 : SqT K (upd H1 p2 (.tup [.int (-1), optV g])) p2 [.int (-1), optV g] := SqT.of upd_same
    have e2 := e1.trans f2
    replace h1 := seq_t f2 h1
    generalize upd H1 p2 (.tup [.int (-1), optV g]) = H2 at e2 h1 h2 ⊢
    refine ⟨_, rfl, _, rfl, (by show 2 ≤ sizeLine; decide), fun p3 np3 => ?_⟩
    have f3 := new_same (o := HO.tup [.int r, .int (-1)]) np3
    have h3 : SqT K (upd H2 p3 (.tup [.int r, .int (-1)])) p3 [.int r, optV (some (-1))] := SqT.of upd_same
    have e3 := e2.trans f3
    replace h1 := seq_t f3 h1
    replace h2 := seq_t f3 h2
    generalize upd H2 p3 (.tup [.int r, .int (-1)]) = H3 at e3 h1 h2 h3 ⊢
    refine ⟨_, rfl, _, _, rfl, rfl, cpow (by decide), _, _, rfl, rfl, (by show 2 ≤ sizeLine; decide), fun p4 np4 => ?_⟩
    have f4 := new_same (o := HO.tup [.int r, .int (0 - 10 ^ 29)]) np4
    have h4 : SqT K (upd H3 p4 (.tup [.int r, .int (0 - 10 ^ 29)])) p4 [.int r, optV (some (0 - 10 ^ 29))] := SqT.of upd_same
    have e4 := e3.trans f4
    replace h1 := seq_t f4 h1
    replace h2 := seq_t f4 h2
    replace h3 := seq_t f4 h3
    have ev : (fun (i j : Int) => V.int (i - j)) 0 (10 ^ Int.toNat 29) = V.int (0 - 10 ^ 29) := rfl
    rw [ev]
    clear f4 ev
    generalize upd H3 p4 (.tup [.int r, .int (0 - 10 ^ 29)]) = H4 at e4 h1 h2 h3 h4 ⊢
    refine ⟨_, _, rfl, rfl, cpow (by decide), (by show 2 ≤ sizeLine; decide), fun p5 np5 => ?_⟩
    have f5 := new_same (o := HO.tup [.int (10 ^ Int.toNat 29), .int 0]) np5
    have h5 : SqT K (upd H4 p5 (.tup [.int (10 ^ Int.toNat 29), .int 0])) p5 [.int (10 ^ Int.toNat 29), optV (some 0)] := SqT.of upd_same
    have e5 := e4.trans f5
    replace h1 := seq_t f5 h1
    replace h2 := seq_t f5 h2
    replace h3 := seq_t f5 h3
    replace h4 := seq_t f5 h4
    generalize upd H4 p5 (.tup [.int (10 ^ Int.toNat 29), .int 0]) = H5 at e5 h1 h2 h3 h4 h5 ⊢
    refine ⟨(by show 8 ≤ sizeLine; decide), fun q nq => ?_⟩
    have f6 := new_same (o := HO.lst [V.ref b, .ref b, .ref b, .ref p1, .ref p2, .ref p3, .ref p4, .ref p5]) nq
    have hq : (upd H5 q (.lst [V.ref b, .ref b, .ref b, .ref p1, .ref p2, .ref p3, .ref p4, .ref p5])) q = some (.lst [V.ref b, .ref b, .ref b, .ref p1, .ref p2, .ref p3, .ref p4, .ref p5]) := upd_same
    have e6 := e5.trans f6
    replace h1 := seq_t f6 h1
    replace h2 := seq_t f6 h2
    replace h3 := seq_t f6 h3
    replace h4 := seq_t f6 h4
    replace h5 := seq_t f6 h5
    generalize upd H5 q (.lst [V.ref b, .ref b, .ref b, .ref p1, .ref p2, .ref p3, .ref p4, .ref p5]) = H6 at e6 h1 h2 h3 h4 h5 hq ⊢
    refine ⟨_, rfl, _, rfl, _, rfl, (by show 2 ≤ sizeLine; decide), fun p6 np6 => ?_⟩
    have f7 := new_same (o := HO.tup [.int (-1), .int (-1)]) np6
    have h6 : SqT K (upd H6 p6 (.tup [.int (-1), .int (-1)])) p6 [.int (-1), optV (some (-1))] := SqT.of upd_same
    have e7 := e6.trans f7
    replace h1 := seq_t f7 h1
    replace h2 := seq_t f7 h2
    replace h3 := seq_t f7 h3
    replace h4 := seq_t f7 h4
    replace h5 := seq_t f7 h5
    replace hq := f7 _ _ hq
    generalize upd H6 p6 (.tup [.int (-1), .int (-1)]) = H7 at e7 h1 h2 h3 h4 h5 h6 hq ⊢
    refine ⟨(by show 1 ≤ sizeLine; decide), fun q2 nq2 => ?_⟩
    have f8 := new_same (o := HO.lst [V.ref p6]) nq2
    have hq2 : (upd H7 q2 (.lst [V.ref p6])) q2 = some (.lst [V.ref p6]) := upd_same
    have e8 := e7.trans f8
    replace h1 := seq_t f8 h1
    replace h2 := seq_t f8 h2
    replace h3 := seq_t f8 h3
    replace h4 := seq_t f8 h4
    replace h5 := seq_t f8 h5
    replace h6 := seq_t f8 h6
    replace hq := f8 _ _ hq
    generalize upd H7 q2 (.lst [V.ref p6]) = H8 at e8 h1 h2 h3 h4 h5 h6 hq hq2 ⊢
    refine ⟨q, q2, _, _, rfl, rfl, hq, hq2, (by show 8 + 1 ≤ sizeLine; decide), fun q3 nq3 => ?_⟩
    have f9 := new_same (o := HO.lst ([V.ref b, .ref b, .ref b, .ref p1, .ref p2, .ref p3, .ref p4, .ref p5] ++ [V.ref p6])) nq3
    have hq3 : (upd H8 q3 (.lst ([V.ref b, .ref b, .ref b, .ref p1, .ref p2, .ref p3, .ref p4, .ref p5] ++ [V.ref p6]))) q3 = some (.lst ([V.ref b, .ref b, .ref b, .ref p1, .ref p2, .ref p3, .ref p4, .ref p5] ++ [V.ref p6])) := upd_same
    have e9 := e8.trans f9
    replace h1 := seq_t f9 h1
    replace h2 := seq_t f9 h2
    replace h3 := seq_t f9 h3
    replace h4 := seq_t f9 h4
    replace h5 := seq_t f9 h5
    replace h6 := seq_t f9 h6
    have S9 := S.same e9
    obtain ⟨qa, qd⟩ := (S.same e8).off nq3
    generalize upd H8 q3 (.lst ([V.ref b, .ref b, .ref b, .ref p1, .ref p2, .ref p3, .ref p4, .ref p5] ++ [V.ref p6])) = H9 at e9 h1 h2 h3 h4 h5 h6 hq3 S9 ⊢
    have h0 := seq_t e9 hb
    refine ⟨_, rfl, a, d, _, 9, rfl, S9, by omega, by decide, by decide, fun HA z kpA SA z0 z1 => ?_⟩
    have kA : Keep a d H HA := (Keep.of e9).trans kpA
    have fin : ∀ (b' : Addr) (r' : Int) (g' : Option Int), SqT K H9 b' [.int r', optV g'] → SmC r' g' → atI ([V.ref b, .ref b, .ref b, .ref p1, .ref p2, .ref p3, .ref p4, .ref p5] ++ [V.ref p6]) z = some (.ref b') → ∃ v, atI ([V.ref b, .ref b, .ref b, .ref p1, .ref p2, .ref p3, .ref p4, .ref p5] ++ [V.ref p6]) z = some v ∧ Q v HA := fun b' r' g' h sm at_ =>
      ⟨_, at_, k HA b' r' g' kA (SA.more (by omega)) (S9.tup kpA h) sm⟩
    have pick : ∃ v, atI ([V.ref b, .ref b, .ref b, .ref p1, .ref p2, .ref p3, .ref p4, .ref p5] ++ [V.ref p6]) z = some v ∧ Q v HA := by
      rcases (show z = 0 ∨ z = 1 ∨ z = 2 ∨ z = 3 ∨ z = 4 ∨ z = 5 ∨ z = 6 ∨ z = 7 ∨ z = 8 by omega) with rfl | rfl | rfl | rfl | rfl | rfl | rfl | rfl | rfl
      · exact fin b r g h0 hs rfl
      · exact fin b r g h0 hs rfl
      · exact fin b r g h0 hs rfl
      · exact fin p1 _ g h1 ⟨by omega, hs.2⟩ rfl
      · exact fin p2 _ g h2 ⟨by decide, hs.2⟩ rfl
      · exact fin p3 r _ h3 ⟨hs.1, fun x e => by cases e; decide⟩ rfl
      · exact fin p4 r _ h4 ⟨hs.1, fun x e => by cases e; decide⟩ rfl
      · exact fin p5 _ _ h5 ⟨by decide, fun x e => by cases e; decide⟩ rfl
      · exact fin p6 _ _ h6 ⟨by decide, fun x e => by cases e; decide⟩ rfl
    obtain ⟨v, hv, hQ⟩ := pick
    exact ⟨q3, _, z, v, rfl, rfl, SqL.of (kpA _ _ qa qd hq3), hv, hQ⟩
end
end Gc

/-! texts that may be none (k04) -/
namespace Gc
open PySem L2
abbrev s_bentt : Stmt := top 38
structure TxtBt (mg : Str → Option Value) : Prop where
  len : mg "len" = none
  list : mg "list" = none
  range : mg "range" = none
def spBentT (K : PySem.W.Frag) : Sp := fun vs H Q _ => ∃ (a d t : Addr) (n : Nat) (T : List Int), vs = [.ref a, .ref t] ∧ Src H a d n ∧ n < 2 ^ 37 ∧ H t = some (.lst (T.map V.int)) ∧ t ≠ a ∧ t ≠ d ∧ 1 ≤ T.length ∧ T.length ≤ 40 ∧ (∀ x ∈ T, x.natAbs < 2 ^ 120) ∧
  ∀ (H' : Hp) (p : Addr) (T' : List Int), Keep a d H H' → Src H' a d (n + 10) → H p = none → p ≠ a → p ≠ d → H' p = some (.lst (T'.map V.int)) → T'.length ≤ 40 → (∀ x ∈ T', x.natAbs < 2 ^ 120) → Q (.ref p) H'
section
variable {P : Program} {w : World} {K : PySem.W.Frag} {mg : Str → Option Value} {base : Heap}
theorem sc_law_bent_text : FnScope ["source", "sheet", "found", "time"] ["source", "sheet"] (defScope s_bentt) := ⟨rfl, rfl, rfl, by decide +kernel, rfl, by decide +kernel, by decide +kernel⟩
theorem ok_bentt {f : Addr} {fd : FuncData} (F : Fun K "_law_bent_text" "_law_bent_text" s_bentt f fd) (T : TxtBt mg) (c_law_draw : Cal P w K mg base 1 "_law_draw" spDraw) : FnOk P w K mg base CX0 2 f fd ["source", "sheet"] (spBentT K) := by
  refine F.ok sc_law_bent_text (fun vs H Q E h => ?_) (fun cdv A outer s H vs Q E hr h => ?_)
  · obtain ⟨a, d, t, n, tx, rfl, _⟩ := h
    rfl
  · obtain ⟨a, d, t, n, tx, rfl, S, hn, ht, ta, td, l1, l40, sm, k⟩ := h
    refine ⟨_, (pss_cons (ps_set (i := 2) sc_law_bent_text.nd rfl (Or.inl rfl) (pe_callTy call_list_of (by rfl) T.list (by decide +kernel) (pa_cons (pv 1) pa_nil)))
      (pss_cons (ps_for PassesOwn.never rfl (pi_range1 rfl T.range (pa_cons (pe_ix ix_list (pe_lst (pa_cons pe_int (pa_cons pe_int (pa_cons pe_int (pa_cons pe_int (pa_cons pe_int pa_nil)))))) (pe_cal c_law_draw hr (by decide) (by rfl) (pa_cons (pv 0) (pa_cons pe_int pa_nil))) (fun _ _ => rfl)) pa_nil)) (pg_name (i := 3) sc_law_bent_text.nd rfl (Or.inl rfl)) (pss_one (ps_asg (pe_op op_sub (pe_un un_neg pe_int) (pe_cal c_law_draw hr (by decide) (by rfl) (pa_cons (pv 0) (pa_cons (pe_ix ix_list (pe_lst (pa_cons pe_int (pa_cons (pe_op op_pow pe_int pe_int) pa_nil))) (pe_cal c_law_draw hr (by decide) (by rfl) (pa_cons (pv 0) (pa_cons pe_int pa_nil))) (fun _ _ => rfl)) pa_nil)))) (pg_sub (pv 2) (pe_cal c_law_draw hr (by decide) (by rfl) (pa_cons (pv 0) (pa_cons (pe_callB call_len_seq (by rfl) T.len (by decide +kernel) (pa_cons (pv 2) pa_nil)) pa_nil))) set_list))))
      (pss_one (ps_ret (pe_ifExp (pt_cmpR op_eq (pe_cal c_law_draw hr (by decide) (by rfl) (pa_cons (pv 0) (pa_cons pe_int pa_nil))) pe_int (nomark _)) (pe_lst pa_nil) (pv 2)))))), ?_⟩
    refine ⟨_, rfl, t, _, rfl, .inl (SqL.of ht), fun q nq => ?_⟩
    obtain ⟨qa, qd⟩ := S.off nq
    have e1 := new_same (o := HO.lst (tx.map V.int)) nq
    have hq : (upd H q (.lst (tx.map V.int))) q = some (.lst (tx.map V.int)) := upd_same
    have S1 := S.same e1
    generalize upd H q (.lst (tx.map V.int)) = H1 at e1 hq S1 ⊢
    refine ⟨(by show 5 ≤ sizeLine; decide), fun q2 nq2 => ?_⟩
    obtain ⟨q2a, q2d⟩ := S1.off nq2
    have e2 := new_same (o := HO.lst [V.int 0, .int 0, .int 0, .int 1, .int 2]) nq2
    have hq2 : (upd H1 q2 (.lst [V.int 0, .int 0, .int 0, .int 1, .int 2])) q2 = some (.lst [V.int 0, .int 0, .int 0, .int 1, .int 2]) := upd_same
    replace hq := e2 _ _ hq
    have S2 := S1.same e2
    generalize upd H1 q2 (.lst [V.int 0, .int 0, .int 0, .int 1, .int 2]) = H2 at e2 hq hq2 S2 ⊢
    refine ⟨_, rfl, a, d, _, 5, rfl, S2, by omega, by decide, by decide, fun H3 z kp3 S3 z0 z1 => ?_⟩
    replace hq := kp3 _ _ qa qd hq
    have k3 : Keep a d H H3 := (Keep.of (e1.trans e2)).trans kp3
    obtain ⟨m, hm, m0, m1⟩ : ∃ m : Int, atI [V.int 0, .int 0, .int 0, .int 1, .int 2] z = some (.int m) ∧ 0 ≤ m ∧ m ≤ 2 := by
      rcases (show z = 0 ∨ z = 1 ∨ z = 2 ∨ z = 3 ∨ z = 4 by omega) with rfl | rfl | rfl | rfl | rfl
      · exact ⟨0, rfl, by decide, by decide⟩
      · exact ⟨0, rfl, by decide, by decide⟩
      · exact ⟨0, rfl, by decide, by decide⟩
      · exact ⟨1, rfl, by decide, by decide⟩
      · exact ⟨2, rfl, by decide, by decide⟩
    refine ⟨q2, _, z, .int m, rfl, rfl, SqL.of (kp3 _ _ q2a q2d hq2), hm, _, rfl, by omega, by omega, for_range (lo := 0) (n := m.toNat) (fun i σ H' => ∃ (v3 : Option V) (ty : List Int), σ = [some (.ref a), some (.ref t), some (.ref q), v3] ∧ Keep a d H H' ∧ Src H' a d (n + 1 + 3 * i) ∧ H' q = some (.lst (ty.map V.int)) ∧ ty.length = tx.length ∧ ∀ x ∈ ty, x.natAbs < 2 ^ 120)
      ⟨none, tx, rfl, k3, S3.more (by omega), hq, rfl, sm⟩ (fun i σ H4 hi h => ?_) (fun σ H4 h => ?_)⟩
    · obtain ⟨v3, ty, rfl, k4, S4, hq, ly, sy⟩ := h
      have hi' : i < 2 := by omega
      refine ⟨_, rfl, _, rfl, _, _, rfl, rfl, cpow (by decide), (by show 2 ≤ sizeLine; decide), fun q5 nq5 => ?_⟩
      obtain ⟨q5a, q5d⟩ := S4.off nq5
      have e5 := new_same (o := HO.lst [V.int 3, .int (10 ^ Int.toNat 29)]) nq5
      have hq5 : (upd H4 q5 (.lst [V.int 3, .int (10 ^ Int.toNat 29)])) q5 = some (.lst [V.int 3, .int (10 ^ Int.toNat 29)]) := upd_same
      have S5 := S4.same e5
      replace hq := e5 _ _ hq
      generalize upd H4 q5 (.lst [V.int 3, .int (10 ^ Int.toNat 29)]) = H5 at e5 hq hq5 S5 ⊢
      refine ⟨_, rfl, a, d, _, 2, rfl, S5, by omega, by decide, by decide, fun H6 x kp6 S6 x0 x1 => ?_⟩
      obtain ⟨w, hw, w0, w1⟩ : ∃ w : Int, atI [V.int 3, .int (10 ^ Int.toNat 29)] x = some (.int w) ∧ 0 < w ∧ w ≤ 10 ^ 29 := by
        rcases (show x = 0 ∨ x = 1 by omega) with rfl | rfl
        · exact ⟨3, rfl, by decide, by decide⟩
        · exact ⟨10 ^ 29, rfl, by decide, by decide⟩
      replace hq := kp6 _ _ qa qd hq
      refine ⟨q5, _, x, .int w, rfl, rfl, SqL.of (kp6 _ _ q5a q5d hq5), hw, a, d, _, w, rfl, S6, by omega, w0, log9 (a := 110) (by omega) (by decide), fun H7 y kp7 S7 y0 y1 => ?_⟩
      replace hq := kp7 _ _ qa qd hq
      refine ⟨_, _, rfl, rfl, ?_⟩
      refine ⟨_, rfl, _, rfl, _, rfl, q, _, rfl, .inl (SqL.of hq), a, d, _, _, rfl, S7, by omega, by rw [List.length_map]; omega, log9 (a := 20) (by rw [List.length_map]; omega) (by decide), fun H8 u kp8 S8 u0 u1 => ?_⟩
      rw [List.length_map] at u1
      replace hq := kp8 _ _ qa qd hq
      have k8 : Keep a d H H8 := (((k4.trans (Keep.of e5)).trans kp6).trans kp7).trans kp8
      have ix : ixN (ty.map V.int).length u = some u.toNat := by
        unfold ixN
        rw [if_pos u0, List.length_map, if_pos (by omega)]
      refine ⟨q, _, _, _, rfl, rfl, hq, ix, _, ty.set u.toNat (-1 - y), rfl, fun c o c1 c2 hc => ?_, (S8.upd qa qd).more (by omega), by rw [upd_same, List.map_set], by rw [List.length_set]; exact ly, fun x hx => ?_⟩
      · rw [upd_ne (ne_of_none hc nq)]
        exact k8 c o c1 c2 hc
      · rcases List.mem_or_eq_of_mem_set hx with z | z
        · exact sy x z
        · rw [z]
          have : (10 : Int) ^ 29 < 2 ^ 119 := by decide
          omega
    obtain ⟨v3, ty, rfl, k4, S4, hq, ly, sy⟩ := h
    refine ⟨_, rfl, a, d, _, 12, rfl, S4, by omega, by decide, by decide, fun H5 u kp5 S5 u0 u1 => ?_⟩
    replace hq := kp5 _ _ qa qd hq
    have k5 := k4.trans kp5
    refine ⟨rfl, _, rfl, ite2 (fun _ => ⟨(by show 0 ≤ sizeLine; decide), fun p np => ?_⟩) (fun _ => ?_)⟩
    · obtain ⟨pa, pd⟩ := S5.off np
      have e6 := new_same (o := HO.lst []) np
      exact k _ p [] (k5.trans (Keep.of e6)) ((S5.same e6).more (by omega)) (k5.free pa pd np) pa pd upd_same (Nat.zero_le _) (fun x hx => nomatch hx)
    · exact ⟨_, rfl, k H5 q ty k5 (S5.more (by omega)) nq qa qd hq (by omega) sy⟩
end
end Gc

/-! raw commands as data -/
namespace Gc
open PySem L2
def rawOf : Cmd → Raw
  | .down n => .two "down" n
  | .up n => .two "up" n
  | .right n => .two "right" n
  | .left n => .two "left" n
  | .home => .one "home"
  | .stop => .one "end"
theorem rawOf_enc (c : Cmd) : encR (rawOf c) = encC c := by cases c <;> rfl
theorem raws_of {K : PySem.W.Frag} {H : Hp} : ∀ {xs : List V} {cs : List Cmd}, CmdsOf K H xs cs → RawsOf K H xs (cs.map rawOf)
  | [], [], _ => .nil
  | _ :: _, c :: cs, .cons ⟨a, e, h⟩ q => .cons ⟨a, e, by rw [rawOf_enc]; exact h⟩ (raws_of q)
theorem raws_snoc {K : PySem.W.Frag} {H : Hp} {xs : List V} {rs : List Raw} {p : Addr} {r : Raw} (h : RawsOf K H xs rs) (hp : H p = some (.tup (encR r))) : RawsOf K H (xs ++ [.ref p]) (rs ++ [r]) := paired_app h (.cons ⟨p, rfl, SqT.of hp⟩ .nil)
def rawD : Raw → PyData
  | .nil => .tuple []
  | .one n => .tuple [.str n]
  | .two n k => .tuple [.str n, .int k]
  | .three n k j => .tuple [.str n, .int k, .int j]
theorem RawAt.dp {K : PySem.W.Frag} {H : Hp} {v : V} {r : Raw} (h : RawAt K H v r) : Dp K H v (rawD r) := by
  obtain ⟨a, rfl, h⟩ := h
  cases r with
  | nil => exact .tup h .nil
  | one n => exact .tup h (.cons (.str n) .nil)
  | two n k => exact .tup h (.cons (.str n) (.cons (.int k) .nil))
  | three n k j => exact .tup h (.cons (.str n) (.cons (.int k) (.cons (.int j) .nil)))
/-- it can be shown -/
def RawOk (r : Raw) : Prop := SeqAt.shaped (rawD r) = true ∧ Ok0 (rawD r) ∧ (rawD r).weight ≤ 200 ∧ (rawD r).depth ≤ 5
theorem rawOf_D (c : Cmd) : rawD (rawOf c) = cmdD c := by cases c <;> rfl
theorem rawOf_ok {c : Cmd} (h : CSml c) : RawOk (rawOf c) := by
  unfold RawOk
  rw [rawOf_D]
  have q := cmdD_ok h
  refine ⟨?_, q⟩
  have z : PyData.canLayAll0 ([c].map cmdD) = true := lay_cmds [c]
  simp only [List.map_cons, List.map_nil, PyData.canLayAll0, Bool.and_true] at z
  unfold SeqAt.shaped
  rw [z, decide_eq_true (show (cmdD c).depth ≤ 64 by omega)]
  rfl
theorem rawOf_cmd (c : Cmd) : (rawOf c).cmd = c := by cases c <;> rfl
theorem rawOf_good {c : Cmd} (h : c.ok) : (rawOf c).good = true := by
  cases c with
  | home => rfl
  | stop => rfl
  | _ => exact decide_eq_true h
theorem room65 {k : Nat} {A : Around} (r : Room k A) : A.units + 65 < cLine := by
  have := r.un
  omega
theorem RawsOf.atL {K : PySem.W.Frag} {H : Hp} {l : Addr} {ys zs xs : List V} {rs : List Raw} (hl : H l = some (.lst ys)) (h : RawsOf K H xs rs) : RawsOf K (upd H l (.lst zs)) xs rs := Paired.mapP h fun _ _ q => by
  obtain ⟨b, e, z⟩ := q
  exact ⟨b, e, tup_atL hl z⟩
def loneD : List PyData := [.tuple [.str "home"], .tuple [.str "end"]]
theorem lone_shaped : SeqAt.shaped (.list loneD) = true := by decide +kernel
theorem lone_in (r : Raw) : loneD.any (fun z => PyData.eqv z (rawD r)) = match r with
    | .one n => inV (.str n) withoutN
    | _ => false := by
  cases r <;> simp [loneD, rawD, PyData.eqv, PyData.eqvAll, inV, withoutN, eqV]
end Gc

/-! lists of commands, some of them none (k04) -/
namespace Gc
open PySem L2
abbrev s_bentk : Stmt := top 40
structure TxtBk04 (mg : Str → Option Value) : Prop where
  len : mg "len" = none
  list : mg "list" = none
  range : mg "range" = none
def bads04 : List Raw := [.two "down" 0, .two "up" (-1), .one "right", .two "left" (0 - 10 ^ 29), .two "home" 1, .two "end" 0, .two "Down" 1, .two "" 2, .two "move" 3, .three "right" 1 2, .three "home" 1 2, .one "down", .two "left" 0, .one "ends", .nil]
def spBentK (K : PySem.W.Frag) : Sp := fun vs H Q _ => ∃ (a d l : Addr) (n : Nat) (xs : List V) (rs : List Raw), vs = [.ref a, .ref l] ∧ Src H a d n ∧ n < 2 ^ 37 ∧ SqL K H l xs ∧ RawsOf K H xs rs ∧ rs.length ≤ 100 ∧
  ∀ (H' : Hp) (p : Addr) (ys : List V) (ss : List Raw), Keep a d H H' → Src H' a d (n + 10) → H p = none → p ≠ a → p ≠ d → H' p = some (.lst ys) → RawsOf K H' ys ss → ss.length ≤ rs.length + 2 → (∀ r ∈ ss, r ∈ rs ∨ r ∈ bads04) → Q (.ref p) H'
theorem Src.raws {K : PySem.W.Frag} {H H' : Hp} {a d : Addr} {n : Nat} {xs : List V} {rs : List Raw} (B : Src H a d n) (k : Keep a d H H') (h : RawsOf K H xs rs) : RawsOf K H' xs rs := Paired.mapP h fun _ _ q => by
  obtain ⟨b, e, z⟩ := q
  exact ⟨b, e, B.tup k z⟩
section
variable {P : Program} {w : World} {K : PySem.W.Frag} {mg : Str → Option Value} {base : Heap}
theorem sc_law_bent_commands : FnScope ["source", "moves", "bad", "found", "time"] ["source", "moves"] (defScope s_bentk) := ⟨rfl, rfl, rfl, by decide +kernel, rfl, by decide +kernel, by decide +kernel⟩
theorem ok_bentk {f : Addr} {fd : FuncData} (F : Fun K "_law_bent_commands" "_law_bent_commands" s_bentk f fd) (T : TxtBk04 mg) (c_law_draw : Cal P w K mg base 1 "_law_draw" spDraw) : FnOk P w K mg base CX0 2 f fd ["source", "moves"] (spBentK K) := by
  refine F.ok sc_law_bent_commands (fun vs H Q E h => ?_) (fun cdv A outer s H vs Q E hr h => ?_)
  · obtain ⟨a, d, l, n, xs, rs, rfl, _⟩ := h
    rfl
  · obtain ⟨a, d, l, n, xs, rs, rfl, S, hn, hl, hrs, ln, k⟩ := h
    refine ⟨_, (pss_cons (ps_set (i := 2) sc_law_bent_commands.nd rfl (Or.inl rfl) (pe_lst (pa_cons (pe_tup (pa_cons pe_str (pa_cons pe_int pa_nil))) (pa_cons (pe_tup (pa_cons pe_str (pa_cons (pe_un un_neg pe_int) pa_nil))) (pa_cons (pe_tup (pa_cons pe_str pa_nil)) (pa_cons (pe_tup (pa_cons pe_str (pa_cons (pe_op op_sub pe_int (pe_op op_pow pe_int pe_int)) pa_nil))) (pa_cons (pe_tup (pa_cons pe_str (pa_cons pe_int pa_nil))) (pa_cons (pe_tup (pa_cons pe_str (pa_cons pe_int pa_nil))) (pa_cons (pe_tup (pa_cons pe_str (pa_cons pe_int pa_nil))) (pa_cons (pe_tup (pa_cons pe_str (pa_cons pe_int pa_nil))) pa_nil))))))))))
      (pss_cons (ps_set (i := 2) sc_law_bent_commands.nd rfl (Or.inl rfl) (pe_op op_cat (pv 2) (pe_lst (pa_cons (pe_tup (pa_cons pe_str (pa_cons pe_int pa_nil))) (pa_cons (pe_tup (pa_cons pe_str (pa_cons pe_int (pa_cons pe_int pa_nil)))) (pa_cons (pe_tup (pa_cons pe_str (pa_cons pe_int (pa_cons pe_int pa_nil)))) (pa_cons (pe_tup (pa_cons pe_str pa_nil)) (pa_cons (pe_tup (pa_cons pe_str (pa_cons pe_int pa_nil))) (pa_cons (pe_tup (pa_cons pe_str pa_nil)) (pa_cons (pe_tup pa_nil) pa_nil))))))))))
      (pss_cons (ps_set (i := 3) sc_law_bent_commands.nd rfl (Or.inl rfl) (pe_callTy call_list_of (by rfl) T.list (by decide +kernel) (pa_cons (pv 1) pa_nil)))
      (pss_cons (ps_for PassesOwn.never rfl (pi_range1 rfl T.range (pa_cons (pe_ix ix_list (pe_lst (pa_cons pe_int (pa_cons pe_int (pa_cons pe_int (pa_cons pe_int pa_nil))))) (pe_cal c_law_draw hr (by decide) (by rfl) (pa_cons (pv 0) (pa_cons pe_int pa_nil))) (fun _ _ => rfl)) pa_nil)) (pg_name (i := 4) sc_law_bent_commands.nd rfl (Or.inl rfl)) (pss_one (ps_expr (pe_bm PySem.F.plainAttrs_list PySem.F.slot_list_insert PySem.F.type_list_insert mt_insert (pv 3) (pa_cons (pe_cal c_law_draw hr (by decide) (by rfl) (pa_cons (pv 0) (pa_cons (pe_op op_add (pe_callB call_len_seq (by rfl) T.len (by decide +kernel) (pa_cons (pv 3) pa_nil)) pe_int) pa_nil))) (pa_cons (pe_ix ix_list (pv 2) (pe_cal c_law_draw hr (by decide) (by rfl) (pa_cons (pv 0) (pa_cons pe_int pa_nil))) (fun _ _ => rfl)) pa_nil))))))
      (pss_one (ps_ret (pv 3))))))), ?_⟩
    have hra : RawsOf K H [] [] := .nil
    have eS : Same H H := Same.refl H
    refine ⟨(by show 2 ≤ sizeLine; decide), fun b1 nb1 => ?_⟩
    have e_G1 : Same H (upd H b1 (.tup [V.str "down", .int 0])) := new_same nb1
    have h_b1 : (upd H b1 (.tup [V.str "down", .int 0])) b1 = some (.tup [V.str "down", .int 0]) := upd_same
    generalize upd H b1 (.tup [V.str "down", .int 0]) = G1 at e_G1 h_b1 ⊢
    replace hra := hra.same e_G1
    replace eS := eS.trans e_G1
    replace hra := raws_snoc (r := .two "down" 0) hra h_b1
    refine ⟨_, rfl, (by show 2 ≤ sizeLine; decide), fun b2 nb2 => ?_⟩
    have e_G2 : Same G1 (upd G1 b2 (.tup [V.str "up", .int (-1)])) := new_same nb2
    have h_b2 : (upd G1 b2 (.tup [V.str "up", .int (-1)])) b2 = some (.tup [V.str "up", .int (-1)]) := upd_same
    generalize upd G1 b2 (.tup [V.str "up", .int (-1)]) = G2 at e_G2 h_b2 ⊢
    replace hra := hra.same e_G2
    replace eS := eS.trans e_G2
    replace hra := raws_snoc (r := .two "up" (-1)) hra h_b2
    refine ⟨(by show 1 ≤ sizeLine; decide), fun b3 nb3 => ?_⟩
    have e_G3 : Same G2 (upd G2 b3 (.tup [V.str "right"])) := new_same nb3
    have h_b3 : (upd G2 b3 (.tup [V.str "right"])) b3 = some (.tup [V.str "right"]) := upd_same
    generalize upd G2 b3 (.tup [V.str "right"]) = G3 at e_G3 h_b3 ⊢
    replace hra := hra.same e_G3
    replace eS := eS.trans e_G3
    replace hra := raws_snoc (r := .one "right") hra h_b3
    refine ⟨_, _, rfl, rfl, cpow (by decide), _, _, rfl, rfl, (by show 2 ≤ sizeLine; decide), fun b4 nb4 => ?_⟩
    rw [show (fun (i j : Int) => V.int (i - j)) 0 (10 ^ Int.toNat 29) = V.int (0 - 10 ^ 29) from rfl]
    have e_G4 : Same G3 (upd G3 b4 (.tup [V.str "left", .int (0 - 10 ^ 29)])) := new_same nb4
    have h_b4 : (upd G3 b4 (.tup [V.str "left", .int (0 - 10 ^ 29)])) b4 = some (.tup [V.str "left", .int (0 - 10 ^ 29)]) := upd_same
    generalize upd G3 b4 (.tup [V.str "left", .int (0 - 10 ^ 29)]) = G4 at e_G4 h_b4 ⊢
    replace hra := hra.same e_G4
    replace eS := eS.trans e_G4
    replace hra := raws_snoc (r := .two "left" (0 - 10 ^ 29)) hra h_b4
    refine ⟨(by show 2 ≤ sizeLine; decide), fun b5 nb5 => ?_⟩
    have e_G5 : Same G4 (upd G4 b5 (.tup [V.str "home", .int 1])) := new_same nb5
    have h_b5 : (upd G4 b5 (.tup [V.str "home", .int 1])) b5 = some (.tup [V.str "home", .int 1]) := upd_same
    generalize upd G4 b5 (.tup [V.str "home", .int 1]) = G5 at e_G5 h_b5 ⊢
    replace hra := hra.same e_G5
    replace eS := eS.trans e_G5
    replace hra := raws_snoc (r := .two "home" 1) hra h_b5
    refine ⟨(by show 2 ≤ sizeLine; decide), fun b6 nb6 => ?_⟩
    have e_G6 : Same G5 (upd G5 b6 (.tup [V.str "end", .int 0])) := new_same nb6
    have h_b6 : (upd G5 b6 (.tup [V.str "end", .int 0])) b6 = some (.tup [V.str "end", .int 0]) := upd_same
    generalize upd G5 b6 (.tup [V.str "end", .int 0]) = G6 at e_G6 h_b6 ⊢
    replace hra := hra.same e_G6
    replace eS := eS.trans e_G6
    replace hra := raws_snoc (r := .two "end" 0) hra h_b6
    refine ⟨(by show 2 ≤ sizeLine; decide), fun b7 nb7 => ?_⟩
    have e_G7 : Same G6 (upd G6 b7 (.tup [V.str "Down", .int 1])) := new_same nb7
    have h_b7 : (upd G6 b7 (.tup [V.str "Down", .int 1])) b7 = some (.tup [V.str "Down", .int 1]) := upd_same
    generalize upd G6 b7 (.tup [V.str "Down", .int 1]) = G7 at e_G7 h_b7 ⊢
    replace hra := hra.same e_G7
    replace eS := eS.trans e_G7
    replace hra := raws_snoc (r := .two "Down" 1) hra h_b7
    refine ⟨(by show 2 ≤ sizeLine; decide), fun b8 nb8 => ?_⟩
    have e_G8 : Same G7 (upd G7 b8 (.tup [V.str "", .int 2])) := new_same nb8
    have h_b8 : (upd G7 b8 (.tup [V.str "", .int 2])) b8 = some (.tup [V.str "", .int 2]) := upd_same
    generalize upd G7 b8 (.tup [V.str "", .int 2]) = G8 at e_G8 h_b8 ⊢
    replace hra := hra.same e_G8
    replace eS := eS.trans e_G8
    replace hra := raws_snoc (r := .two "" 2) hra h_b8
    refine ⟨(by show 8 ≤ sizeLine; decide), fun q1 nq1 => ?_⟩
    have e_Gq : Same G8 (upd G8 q1 (.lst [V.ref b1, V.ref b2, V.ref b3, V.ref b4, V.ref b5, V.ref b6, V.ref b7, V.ref b8])) := new_same nq1
    have h_q1 : (upd G8 q1 (.lst [V.ref b1, V.ref b2, V.ref b3, V.ref b4, V.ref b5, V.ref b6, V.ref b7, V.ref b8])) q1 = some (.lst [V.ref b1, V.ref b2, V.ref b3, V.ref b4, V.ref b5, V.ref b6, V.ref b7, V.ref b8]) := upd_same
    generalize upd G8 q1 (.lst [V.ref b1, V.ref b2, V.ref b3, V.ref b4, V.ref b5, V.ref b6, V.ref b7, V.ref b8]) = Gq at e_Gq h_q1 ⊢
    replace hra := hra.same e_Gq
    replace eS := eS.trans e_Gq
    refine ⟨_, rfl, ?_⟩
    refine ⟨(by show 2 ≤ sizeLine; decide), fun b9 nb9 => ?_⟩
    have e_G9 : Same Gq (upd Gq b9 (.tup [V.str "move", .int 3])) := new_same nb9
    have h_b9 : (upd Gq b9 (.tup [V.str "move", .int 3])) b9 = some (.tup [V.str "move", .int 3]) := upd_same
    generalize upd Gq b9 (.tup [V.str "move", .int 3]) = G9 at e_G9 h_b9 ⊢
    replace hra := hra.same e_G9
    replace h_q1 := e_G9 _ _ h_q1
    replace eS := eS.trans e_G9
    replace hra := raws_snoc (r := .two "move" 3) hra h_b9
    refine ⟨(by show 3 ≤ sizeLine; decide), fun b10 nb10 => ?_⟩
    have e_G10 : Same G9 (upd G9 b10 (.tup [V.str "right", .int 1, .int 2])) := new_same nb10
    have h_b10 : (upd G9 b10 (.tup [V.str "right", .int 1, .int 2])) b10 = some (.tup [V.str "right", .int 1, .int 2]) := upd_same
    generalize upd G9 b10 (.tup [V.str "right", .int 1, .int 2]) = G10 at e_G10 h_b10 ⊢
    replace hra := hra.same e_G10
    replace h_q1 := e_G10 _ _ h_q1
    replace eS := eS.trans e_G10
    replace hra := raws_snoc (r := .three "right" 1 2) hra h_b10
    refine ⟨(by show 3 ≤ sizeLine; decide), fun b11 nb11 => ?_⟩
    have e_G11 : Same G10 (upd G10 b11 (.tup [V.str "home", .int 1, .int 2])) := new_same nb11
    have h_b11 : (upd G10 b11 (.tup [V.str "home", .int 1, .int 2])) b11 = some (.tup [V.str "home", .int 1, .int 2]) := upd_same
    generalize upd G10 b11 (.tup [V.str "home", .int 1, .int 2]) = G11 at e_G11 h_b11 ⊢
    replace hra := hra.same e_G11
    replace h_q1 := e_G11 _ _ h_q1
    replace eS := eS.trans e_G11
    replace hra := raws_snoc (r := .three "home" 1 2) hra h_b11
    refine ⟨(by show 1 ≤ sizeLine; decide), fun b12 nb12 => ?_⟩
    have e_G12 : Same G11 (upd G11 b12 (.tup [V.str "down"])) := new_same nb12
    have h_b12 : (upd G11 b12 (.tup [V.str "down"])) b12 = some (.tup [V.str "down"]) := upd_same
    generalize upd G11 b12 (.tup [V.str "down"]) = G12 at e_G12 h_b12 ⊢
    replace hra := hra.same e_G12
    replace h_q1 := e_G12 _ _ h_q1
    replace eS := eS.trans e_G12
    replace hra := raws_snoc (r := .one "down") hra h_b12
    refine ⟨(by show 2 ≤ sizeLine; decide), fun b13 nb13 => ?_⟩
    have e_G13 : Same G12 (upd G12 b13 (.tup [V.str "left", .int 0])) := new_same nb13
    have h_b13 : (upd G12 b13 (.tup [V.str "left", .int 0])) b13 = some (.tup [V.str "left", .int 0]) := upd_same
    generalize upd G12 b13 (.tup [V.str "left", .int 0]) = G13 at e_G13 h_b13 ⊢
    replace hra := hra.same e_G13
    replace h_q1 := e_G13 _ _ h_q1
    replace eS := eS.trans e_G13
    replace hra := raws_snoc (r := .two "left" 0) hra h_b13
    refine ⟨(by show 1 ≤ sizeLine; decide), fun b14 nb14 => ?_⟩
    have e_G14 : Same G13 (upd G13 b14 (.tup [V.str "ends"])) := new_same nb14
    have h_b14 : (upd G13 b14 (.tup [V.str "ends"])) b14 = some (.tup [V.str "ends"]) := upd_same
    generalize upd G13 b14 (.tup [V.str "ends"]) = G14 at e_G14 h_b14 ⊢
    replace hra := hra.same e_G14
    replace h_q1 := e_G14 _ _ h_q1
    replace eS := eS.trans e_G14
    replace hra := raws_snoc (r := .one "ends") hra h_b14
    refine ⟨(by show 0 ≤ sizeLine; decide), fun b15 nb15 => ?_⟩
    have e_G15 : Same G14 (upd G14 b15 (.tup [])) := new_same nb15
    have h_b15 : (upd G14 b15 (.tup [])) b15 = some (.tup []) := upd_same
    generalize upd G14 b15 (.tup []) = G15 at e_G15 h_b15 ⊢
    replace hra := hra.same e_G15
    replace h_q1 := e_G15 _ _ h_q1
    replace eS := eS.trans e_G15
    replace hra := raws_snoc (r := .nil) hra h_b15
    refine ⟨(by show 7 ≤ sizeLine; decide), fun q2 nq2 => ?_⟩
    have e_Gr : Same G15 (upd G15 q2 (.lst [V.ref b9, V.ref b10, V.ref b11, V.ref b12, V.ref b13, V.ref b14, V.ref b15])) := new_same nq2
    have h_q2 : (upd G15 q2 (.lst [V.ref b9, V.ref b10, V.ref b11, V.ref b12, V.ref b13, V.ref b14, V.ref b15])) q2 = some (.lst [V.ref b9, V.ref b10, V.ref b11, V.ref b12, V.ref b13, V.ref b14, V.ref b15]) := upd_same
    generalize upd G15 q2 (.lst [V.ref b9, V.ref b10, V.ref b11, V.ref b12, V.ref b13, V.ref b14, V.ref b15]) = Gr at e_Gr h_q2 ⊢
    replace hra := hra.same e_Gr
    replace h_q1 := e_Gr _ _ h_q1
    replace eS := eS.trans e_Gr
    refine ⟨q1, q2, _, _, rfl, rfl, h_q1, h_q2, by show 8 + 7 ≤ sizeLine; decide, fun q3 nq3 => ?_⟩
    obtain ⟨q3a, q3d⟩ := (S.same eS).off nq3
    have e_Gd : Same Gr (upd Gr q3 (.lst ([V.ref b1, V.ref b2, V.ref b3, V.ref b4, V.ref b5, V.ref b6, V.ref b7, V.ref b8] ++ [V.ref b9, V.ref b10, V.ref b11, V.ref b12, V.ref b13, V.ref b14, V.ref b15]))) := new_same nq3
    have h_q3 : (upd Gr q3 (.lst ([V.ref b1, V.ref b2, V.ref b3, V.ref b4, V.ref b5, V.ref b6, V.ref b7, V.ref b8] ++ [V.ref b9, V.ref b10, V.ref b11, V.ref b12, V.ref b13, V.ref b14, V.ref b15]))) q3 = some (.lst ([V.ref b1, V.ref b2, V.ref b3, V.ref b4, V.ref b5, V.ref b6, V.ref b7, V.ref b8] ++ [V.ref b9, V.ref b10, V.ref b11, V.ref b12, V.ref b13, V.ref b14, V.ref b15])) := upd_same
    generalize upd Gr q3 (.lst ([V.ref b1, V.ref b2, V.ref b3, V.ref b4, V.ref b5, V.ref b6, V.ref b7, V.ref b8] ++ [V.ref b9, V.ref b10, V.ref b11, V.ref b12, V.ref b13, V.ref b14, V.ref b15])) = Gd at e_Gd h_q3 ⊢
    replace hra := hra.same e_Gd
    replace eS := eS.trans e_Gd
    have hrL : RawsOf K Gd ([V.ref b1, V.ref b2, V.ref b3, V.ref b4, V.ref b5, V.ref b6, V.ref b7, V.ref b8] ++ [V.ref b9, V.ref b10, V.ref b11, V.ref b12, V.ref b13, V.ref b14, V.ref b15]) bads04 := hra
    clear hra
    generalize [V.ref b1, V.ref b2, V.ref b3, V.ref b4, V.ref b5, V.ref b6, V.ref b7, V.ref b8] ++ [V.ref b9, V.ref b10, V.ref b11, V.ref b12, V.ref b13, V.ref b14, V.ref b15] = L15 at hrL h_q3
    have lL : L15.length = 15 := Paired.length hrL
    refine ⟨_, rfl, l, _, rfl, .inl (eS.seq hl), fun q nq => ?_⟩
    have Sd := S.same eS
    obtain ⟨qa, qd⟩ := Sd.off nq
    have hrs1 := hrs.same eS
    have nqH : H q = none := eS.free nq
    have q3q : q3 ≠ q := ne_of_none h_q3 nq
    have e_H1 : Same Gd (upd Gd q (.lst xs)) := new_same nq
    have h_q : (upd Gd q (.lst xs)) q = some (.lst xs) := upd_same
    generalize upd Gd q (.lst xs) = H1 at e_H1 h_q ⊢
    replace hrL := hrL.same e_H1
    replace eS := eS.trans e_H1
    replace Sd := Sd.same e_H1
    replace h_q3 := e_H1 _ _ h_q3
    replace hrs1 := hrs1.same e_H1
    refine ⟨(by show 4 ≤ sizeLine; decide), fun q4 nq4 => ?_⟩
    obtain ⟨q4a, q4d⟩ := Sd.off nq4
    have e_H2 : Same H1 (upd H1 q4 (.lst [V.int 0, .int 0, .int 1, .int 2])) := new_same nq4
    have h_q4 : (upd H1 q4 (.lst [V.int 0, .int 0, .int 1, .int 2])) q4 = some (.lst [V.int 0, .int 0, .int 1, .int 2]) := upd_same
    generalize upd H1 q4 (.lst [V.int 0, .int 0, .int 1, .int 2]) = H2 at e_H2 h_q4 ⊢
    replace hrL := hrL.same e_H2
    replace eS := eS.trans e_H2
    replace Sd := Sd.same e_H2
    replace h_q3 := e_H2 _ _ h_q3
    replace hrs1 := hrs1.same e_H2
    replace h_q := e_H2 _ _ h_q
    refine ⟨_, rfl, a, d, _, 4, rfl, Sd, by omega, by decide, by decide, fun H3 z kp3 S3 z0 z1 => ?_⟩
    have k3 : Keep a d H H3 := (Keep.of eS).trans kp3
    replace hrL := Sd.raws kp3 hrL
    replace hrs1 := Sd.raws kp3 hrs1
    replace h_q := kp3 _ _ qa qd h_q
    replace h_q3 := kp3 _ _ q3a q3d h_q3
    obtain ⟨m, hm, m0, m1⟩ : ∃ m : Int, atI [V.int 0, .int 0, .int 1, .int 2] z = some (.int m) ∧ 0 ≤ m ∧ m ≤ 2 := by
      rcases (show z = 0 ∨ z = 1 ∨ z = 2 ∨ z = 3 by omega) with rfl | rfl | rfl | rfl
      · exact ⟨0, rfl, by decide, by decide⟩
      · exact ⟨0, rfl, by decide, by decide⟩
      · exact ⟨1, rfl, by decide, by decide⟩
      · exact ⟨2, rfl, by decide, by decide⟩
    refine ⟨q4, _, z, .int m, rfl, rfl, SqL.of (kp3 _ _ q4a q4d h_q4), hm, _, rfl, by omega, by omega, for_range (lo := 0) (n := m.toNat) (fun i σ H' => ∃ (v4 : Option V) (ys : List V) (ss : List Raw), σ = [some (.ref a), some (.ref l), some (.ref q3), some (.ref q), v4] ∧ Keep a d H H' ∧ Src H' a d (n + 1 + 2 * i) ∧ H' q = some (.lst ys) ∧ H' q3 = some (.lst L15) ∧ RawsOf K H' L15 bads04 ∧
        RawsOf K H' ys ss ∧ ss.length = rs.length + i ∧ ∀ r ∈ ss, r ∈ rs ∨ r ∈ bads04)
      ⟨none, xs, rs, rfl, k3, S3.more (by omega), h_q, h_q3, hrL, hrs1, rfl, fun r hr' => .inl hr'⟩ (fun i σ H4 hi h => ?_) (fun σ H4 h => ?_)⟩
    · obtain ⟨v4, ys, ss, rfl, k4, S4, hq, hq3, hB, hs, ls, ms⟩ := h
      have ly := Paired.length hs
      have hi' : i < 2 := by omega
      refine ⟨_, rfl, .inl ⟨rfl, _, SqL.of hq⟩, ?_⟩
      refine ⟨_, rfl, _, rfl, q, _, rfl, .inl (SqL.of hq), _, _, rfl, rfl, a, d, _, _, rfl, S4, by omega, by omega, log9 (a := 20) (by omega) (by decide), fun H5 u kp5 S5 u0 u1 => ?_⟩
      replace hq := kp5 _ _ qa qd hq
      replace hq3 := kp5 _ _ q3a q3d hq3
      replace hB := S4.raws kp5 hB
      replace hs := S4.raws kp5 hs
      refine ⟨_, rfl, _, rfl, a, d, _, 15, rfl, S5, by omega, by decide, by decide, fun H6 x kp6 S6 x0 x1 => ?_⟩
      replace hq := kp6 _ _ qa qd hq
      replace hq3 := kp6 _ _ q3a q3d hq3
      replace hB := S5.raws kp6 hB
      replace hs := S5.raws kp6 hs
      have k6 := (k4.trans kp5).trans kp6
      obtain ⟨y, hy⟩ : ∃ y, L15[x.toNat]? = some y := ⟨_, List.getElem?_eq_getElem (by omega)⟩
      obtain ⟨rw_, hr1, hr2⟩ := paired_at hB hy
      have rb := List.mem_of_getElem? hr1
      refine ⟨q3, _, _, _, rfl, rfl, SqL.of hq3, at_of (j := x.toNat) (by omega) hy, ?_⟩
      refine ⟨q, ys, u, y, rfl, rfl, hq, lt_line (by omega), u0, by omega, ?_⟩
      refine ⟨_, _, ss.take u.toNat ++ [rw_] ++ ss.drop u.toNat, rfl, fun c o c1 c2 hc => ?_, (S6.upd qa qd).more (by omega), upd_same, ?_, RawsOf.atL hq hB, RawsOf.atL hq (paired_ins hs hr2 u.toNat), ?_, fun r' hr' => ?_⟩
      · rw [upd_ne (ne_of_none hc nqH)]
        exact k6 c o c1 c2 hc
      · rw [upd_ne q3q]
        exact hq3
      · rw [len_ins _ _ (by omega)]
        omega
      · rcases mem_ins hr' with z | z
        · rw [z]
          exact .inr rb
        · exact ms r' z
    obtain ⟨v4, ys, ss, rfl, k4, S4, hq, hq3, hB, hs, ls, ms⟩ := h
    exact ⟨_, rfl, k H4 q ys ss k4 (S4.more (by omega)) nqH qa qd hq hs (by omega) ms⟩
end
end Gc

/-! what the law shows and compares, as data (k04) -/
namespace Gc
open PySem L2
theorem dp_optQ {K : PySem.W.Frag} {H : Hp} (o : Option Int) : Dp K H (optV o) (optD o) := by
  cases o with
  | none => exact .non
  | some n => exact .int n
theorem raws_dp {K : PySem.W.Frag} {H : Hp} : ∀ {xs : List V} {rs : List Raw}, RawsOf K H xs rs → DpAll K H xs (rs.map rawD)
  | [], [], _ => .nil
  | _ :: _, _ :: _, .cons h t => .cons h.dp (raws_dp t)
/-- a text, a cursor, commands, as data -/
def all3 (T : List Int) (r : Int) (g : Option Int) (rs : List Raw) : PyData := .list [.list (T.map PyData.int), .tuple [.int r, optD g], .list (rs.map rawD)]
theorem raws_ok0 : ∀ {rs : List Raw}, (∀ r ∈ rs, RawOk r) → Ok0s (rs.map rawD) ∧ PyData.weightAll (rs.map rawD) ≤ 210 * rs.length + 10 ∧ PyData.depthAll (rs.map rawD) ≤ 5
  | [], _ => ⟨ok0_nil, by simp [PyData.weightAll], by simp [PyData.depthAll]⟩
  | r :: rs, h => by
    obtain ⟨h1, h2, h3⟩ := raws_ok0 (rs := rs) fun x hx => h x (List.mem_cons_of_mem _ hx)
    obtain ⟨_, e1, e2, e3⟩ := h r List.mem_cons_self
    refine ⟨ok0_cons e1 h1, ?_, ?_⟩
    · simp only [List.map_cons, PyData.weightAll, List.length_cons]
      omega
    · simp only [List.map_cons, PyData.depthAll]
      omega
theorem all3_show {T : List Int} {r : Int} {g : Option Int} {rs : List Raw} (hT : ∀ x ∈ T, Sml x) (hr : Sml r) (hg : ∀ x, g = some x → Sml x) (hs : ∀ r ∈ rs, RawOk r) (lT : T.length ≤ 60) (lr : rs.length ≤ 20) :
    (all3 T r g rs).showable = true ∧ (all3 T r g rs).hasDict = false ∧ (all3 T r g rs).depth ≤ 60 ∧ (all3 T r g rs).shown.length ≤ sizeLine := by
  obtain ⟨r1, r2, r3⟩ := raws_ok0 hs
  have og : Ok0 (optD g) ∧ (optD g).weight ≤ 200 ∧ (optD g).depth = 0 := by
    cases g with
    | none => exact ⟨ok0_none, by simp [optD, PyData.weight], by simp [optD, PyData.depth]⟩
    | some x => exact ⟨ok0_int (hg x rfl), Nat.le_trans (sml_weight (hg x rfl)) (by decide), by simp [optD, PyData.depth]⟩
  have o : Ok0 (all3 T r g rs) := ok0_list (ok0_cons (ok0_list (ok0_ints hT)) (ok0_cons (ok0_tup (ok0_cons (ok0_int hr) (ok0_cons og.1 ok0_nil))) (ok0_cons (ok0_list r1) ok0_nil)))
  refine ⟨o.1, o.2.1, ?_, ok0_len o ?_⟩
  · have := og.2.2
    simp only [all3, PyData.depth, PyData.depthAll, deep_ints]
    omega
  · have w1 := weight_ints hT
    have w2 := sml_weight hr
    have := og.2.1
    simp only [all3, PyData.weight, PyData.weightAll] at *
    omega
def badB4 (r : Raw) : Bool := decide (numC r.cmd < 10 ^ 40) && (SeqAt.shaped (rawD r) && ((rawD r).showable && (!(rawD r).hasDict && ((rawD r).leavesShort 130 && (decide ((rawD r).weight ≤ 200) && decide ((rawD r).depth ≤ 5))))))
theorem bads_ok04 {r : Raw} (h : r ∈ bads04) : RawOk r ∧ numC r.cmd < 10 ^ 40 := by
  have q : bads04.all badB4 = true := by decide +kernel
  have z := List.all_eq_true.mp q r h
  unfold badB4 at z
  simp only [Bool.and_eq_true, Bool.not_eq_true', decide_eq_true_eq] at z
  obtain ⟨z1, z2, z3, z4, z5, z6, z7⟩ := z
  exact ⟨⟨z2, ⟨z3, z4, z5⟩, z6, z7⟩, z1⟩
/-- what is told, as data -/
def vD4 (r : Int) (g : Option Int) : V → PyData
  | .int n => .int n
  | .ref _ => .tuple [.int r, optD g]
  | _ => .none
def tD4 (r : Int) (g : Option Int) : Option (Nat × V) → PyData
  | none => .none
  | some e => .list [.str (nmE e.1), vD4 r g e.2, .bool true]
theorem bad04_v {b : Addr} {T : List Int} {r : Int} {g : Option Int} {rs : List Raw} {d i : Nat} {v : V} (h : Bad04 b T r g rs d i v) : v = .non ∨ (∃ n, v = .int n) ∨ v = .ref b := by
  have q : ∀ {rs : List Raw}, BadRun b T r g rs i v → v = .non ∨ (∃ n, v = .int n) ∨ v = .ref b := fun h => by
    cases h with
    | text0 _ => exact .inl rfl
    | text i _ _ => exact .inr (.inl ⟨_, rfl⟩)
    | cursor _ _ _ => exact .inr (.inr rfl)
    | command i _ _ _ _ => exact .inr (.inl ⟨_, rfl⟩)
  cases h with
  | col _ _ h => exact q h
  | run _ _ _ _ h => exact q h
  | far d n _ _ _ _ _ _ => exact .inr (.inl ⟨_, rfl⟩)
  | cmd i _ => exact .inr (.inl ⟨_, rfl⟩)
def OV (b : Addr) (o : Option (Nat × V)) : Prop := ∀ i v, o = some (i, v) → v = .non ∨ (∃ n, v = .int n) ∨ v = .ref b
theorem Due04.ov {b : Addr} {T : List Int} {r : Int} {g : Option Int} {rs : List Raw} {d : Nat} {o : Option (Nat × V)} (h : Due04 b T r g rs d o) : OV b o := fun i v e => bad04_v (h.1 i v e)
theorem told_dp {K : PySem.W.Frag} {H : Hp} {b : Addr} {r : Int} {g : Option Int} {x : V} {o : Option (Nat × V)} (hb : SqT K H b [.int r, optV g]) (hv : OV b o) (h : ToldV H x o) : Dp K H x (tD4 r g o) := by
  cases o with
  | none =>
    obtain rfl : x = .non := h
    exact .non
  | some e =>
    obtain ⟨i, v⟩ := e
    obtain ⟨p, rfl, hp⟩ := h
    refine .lst (SqL.of hp) (.cons (.str _) (.cons ?_ (.cons (.bl _) .nil)))
    rcases hv i v rfl with rfl | ⟨n, rfl⟩ | rfl
    · exact .non
    · exact .int n
    · exact .tup hb (.cons (.int r) (.cons (dp_optQ g) .nil))
theorem depth_opt (g : Option Int) : (optD g).depth = 0 := by cases g <;> simp [optD, PyData.depth]
theorem wid_opt (g : Option Int) : wid (optD g) = 0 := by cases g <;> simp [optD, wid]
theorem tD4_deep (r : Int) (g : Option Int) (o : Option (Nat × V)) : (tD4 r g o).depth ≤ 2 ∧ wid (tD4 r g o) ≤ 3 := by
  cases o with
  | none => exact ⟨by simp [tD4, PyData.depth], by simp [tD4, wid]⟩
  | some e =>
    have q : (vD4 r g e.2).depth ≤ 1 ∧ wid (vD4 r g e.2) ≤ 2 := by
      unfold vD4
      split
      · exact ⟨by simp [PyData.depth], by simp [wid]⟩
      · exact ⟨by simp [PyData.depth, PyData.depthAll, depth_opt], by simp [wid, widAll, wid_opt]⟩
      · exact ⟨by simp [PyData.depth], by simp [wid]⟩
    obtain ⟨q1, q2⟩ := q
    constructor
    · simp only [tD4, PyData.depth, PyData.depthAll]
      omega
    · simp only [tD4, wid, widAll, List.length_cons, List.length_nil]
      omega
theorem four_deep (r : Int) (g : Option Int) (a b c d : Option (Nat × V)) : (PyData.list [tD4 r g a, tD4 r g b, tD4 r g c, tD4 r g d]).depth < 4 ∧ wid (PyData.list [tD4 r g a, tD4 r g b, tD4 r g c, tD4 r g d]) ≤ 1000 := by
  have h1 := tD4_deep r g a
  have h2 := tD4_deep r g b
  have h3 := tD4_deep r g c
  have h4 := tD4_deep r g d
  constructor
  · simp only [PyData.depth, PyData.depthAll]
    omega
  · simp only [wid, widAll, List.length_cons, List.length_nil]
    omega
/-- what is told of the first doors, in a list at D -/
structure Tolds (K : PySem.W.Frag) (H : Hp) (D : Addr) (os : List (Option (Nat × V))) : Prop where
  ex : ∃ ws : List V, H D = some (.lst ws) ∧ Paired (fun v o => ToldV H v o ∧ v ≠ .ref D) ws os
theorem ToldV.upd {H : Hp} {D : Addr} {v : V} {o : Option (Nat × V)} {ob : HO} (h : ToldV H v o ∧ v ≠ .ref D) : ToldV (L2.upd H D ob) v o ∧ v ≠ .ref D := by
  refine ⟨?_, h.2⟩
  cases o with
  | none => exact h.1
  | some q =>
    obtain ⟨p, rfl, hp⟩ := h.1
    exact ⟨p, rfl, by rw [upd_ne fun z => h.2 (by rw [z])]; exact hp⟩
theorem tolds_dp {K : PySem.W.Frag} {H : Hp} {D b : Addr} {r : Int} {g : Option Int} (hb : SqT K H b [.int r, optV g]) : ∀ {ws : List V} {os : List (Option (Nat × V))}, Paired (fun v o => ToldV H v o ∧ v ≠ .ref D) ws os → (∀ o ∈ os, OV b o) → DpAll K H ws (os.map (tD4 r g))
  | [], [], _, _ => .nil
  | _ :: _, _ :: _, .cons h t, k => .cons (told_dp hb (k _ List.mem_cons_self) h.1) (tolds_dp hb t fun o ho => k o (List.mem_cons_of_mem _ ho))
theorem badRun_not {b : Addr} {T : List Int} {r : Int} {g : Option Int} {rs : List Raw} {i : Nat} {v : V} (h : BadRun b T r g rs i v) (h1 : T ≠ []) (h2 : negAt T = none) (h3 : CurOk T.length r g) (h4 : badAt rs = none) : False := by
  cases h with
  | text0 e => exact h1 e
  | text i _ e =>
    rw [h2] at e
    cases e
  | cursor _ _ e => exact e h3
  | command i _ _ _ e =>
    rw [h4] at e
    cases e
theorem badRun_one {b : Addr} {T : List Int} {r : Int} {g : Option Int} {rs : List Raw} {i j : Nat} {v u : V} (h : BadRun b T r g rs i v) (h' : BadRun b T r g rs j u) : i = j ∧ v = u := by
  cases h with
  | text0 e =>
    cases h' with
    | text0 _ => exact ⟨rfl, rfl⟩
    | text _ z _ => exact absurd e z
    | cursor z _ _ => exact absurd e z
    | command _ z _ _ _ => exact absurd e z
  | text i z e =>
    cases h' with
    | text0 q => exact absurd q z
    | text _ _ e' =>
      rw [e] at e'
      cases e'
      exact ⟨rfl, rfl⟩
    | cursor _ e' _ =>
      rw [e] at e'
      cases e'
    | command _ _ e' _ _ =>
      rw [e] at e'
      cases e'
  | cursor z e c =>
    cases h' with
    | text0 q => exact absurd q z
    | text _ _ e' =>
      rw [e] at e'
      cases e'
    | cursor _ _ _ => exact ⟨rfl, rfl⟩
    | command _ _ _ c' _ => exact absurd c' c
  | command i z e c a =>
    cases h' with
    | text0 q => exact absurd q z
    | text _ _ e' =>
      rw [e] at e'
      cases e'
    | cursor _ _ c' => exact absurd c c'
    | command _ _ _ _ a' =>
      rw [a] at a'
      cases a'
      exact ⟨rfl, rfl⟩
theorem bad04_fine {b : Addr} {T : List Int} {r : Int} {g : Option Int} {rs : List Raw} {d i : Nat} {v : V} (F : Fine04 T r g rs d) (h : Bad04 b T r g rs d i v) : False := by
  obtain ⟨f1, f2, f3⟩ := F
  cases h with
  | col i v h =>
    obtain ⟨a1, a2, a3⟩ := f1 (by decide)
    exact badRun_not h a1 a2 a3 rfl
  | run d i v hd h =>
    obtain ⟨a1, a2, a3⟩ := f1 (by omega)
    exact badRun_not h a1 a2 a3 (f2 (by omega))
  | far d n hd _ _ _ _ e =>
    rw [f3 hd] at e
    cases e
  | cmd i e =>
    rw [f2 (by decide)] at e
    cases e
theorem bad04_one {b : Addr} {T : List Int} {r : Int} {g : Option Int} {rs : List Raw} {d i j : Nat} {v u : V} (h : Bad04 b T r g rs d i v) (h' : Bad04 b T r g rs d j u) : i = j ∧ v = u := by
  cases h with
  | col i v h =>
    cases h' with
    | col _ _ h' => exact badRun_one h h'
    | run _ _ _ z _ => rcases z with z | z <;> cases z
    | far _ _ z _ _ _ _ _ => rcases z with z | z <;> cases z
  | run d i v hd h =>
    cases h' with
    | col _ _ _ => rcases hd with z | z <;> cases z
    | run _ _ _ _ h' => exact badRun_one h h'
    | far _ _ _ a1 a2 a3 a4 _ => exact (badRun_not h a1 a2 a3 a4).elim
    | cmd _ _ => rcases hd with z | z <;> cases z
  | far d n hd a1 a2 a3 a4 e =>
    cases h' with
    | col _ _ _ => rcases hd with z | z <;> cases z
    | run _ _ _ _ h' => exact (badRun_not h' a1 a2 a3 a4).elim
    | far _ _ _ _ _ _ _ e' =>
      rw [e] at e'
      cases e'
      exact ⟨rfl, rfl⟩
    | cmd _ _ => rcases hd with z | z <;> cases z
  | cmd i e =>
    cases h' with
    | run _ _ _ z _ => rcases z with z | z <;> cases z
    | far _ _ z _ _ _ _ _ => rcases z with z | z <;> cases z
    | cmd _ e' =>
      rw [e] at e'
      cases e'
      exact ⟨rfl, rfl⟩
/-- a text, a cursor, commands, as they stand -/
structure Bent (K : PySem.W.Frag) (H : Hp) (p d t b l : Addr) (n : Nat) (T : List Int) (r : Int) (g : Option Int) (ys : List V) (ss : List Raw) : Prop where
  S : Src H p d n
  ht : H t = some (.lst (T.map V.int))
  hb : SqT K H b [.int r, optV g]
  hl : H l = some (.lst ys)
  hs : RawsOf K H ys ss
theorem Bent.same {K : PySem.W.Frag} {H H' : Hp} {p d t b l : Addr} {n : Nat} {T : List Int} {r : Int} {g : Option Int} {ys : List V} {ss : List Raw} (B : Bent K H p d t b l n T r g ys ss) (e : Same H H') : Bent K H' p d t b l n T r g ys ss :=
  ⟨B.S.same e, e _ _ B.ht, seq_t e B.hb, e _ _ B.hl, B.hs.same e⟩
theorem Bent.dp {K : PySem.W.Frag} {H : Hp} {p d t b l q : Addr} {n : Nat} {T : List Int} {r : Int} {g : Option Int} {ys : List V} {ss : List Raw} (B : Bent K H p d t b l n T r g ys ss) (hq : H q = some (.lst [.ref t, .ref b, .ref l])) : Dp K H (.ref q) (all3 T r g ss) :=
  .lst (SqL.of hq) (.cons (.lst (SqL.of B.ht) (dp_ints _)) (.cons (.tup B.hb (.cons (.int _) (.cons (dp_optQ _) .nil))) (.cons (.lst (SqL.of B.hl) (raws_dp B.hs)) .nil)))
end Gc

/-! the law (k04) -/
namespace Gc
open PySem L2
abbrev s_law : Stmt := top 44
structure TxtL04 (mg : Str → Option Value) : Prop where
  len : mg "len" = none
  min : mg "min" = none
  range : mg "range" = none
  repr : mg "repr" = none
def spLaw (K : PySem.W.Frag) : Sp := fun vs H Q _ => ∃ (a : Addr) (ns : List Int), vs = [.ref a] ∧ SqL K H a (ns.map V.int) ∧ ns.length ≤ 63 ∧ ∀ H', Q (.bl true) H'
section
variable {P : Program} {w : World} {K : PySem.W.Frag} {mg : Str → Option Value} {base : Heap}
theorem sc_law : FnScope ["script", "source", "k", "turn", "sheet", "spot", "moves", "saved", "dues", "told", "door"] ["script"] (defScope s_law) := ⟨rfl, rfl, rfl, by decide +kernel, rfl, by decide +kernel, by decide +kernel⟩
theorem ok_law {f : Addr} {fd : FuncData} (F : Fun K "law" "law" s_law f fd) (T : TxtL04 mg) (c_law_source : Cal P w K mg base 1 "_law_source" (spSource K)) (c_law_draw : Cal P w K mg base 1 "_law_draw" spDraw) (c_law_text : Cal P w K mg base 2 "_law_text" (spSheet K)) (c_law_cursor : Cal P w K mg base 2 "_law_cursor" (spCurs K))
    (c_law_fitting : Cal P w K mg base 4 "_law_fitting" (spFit K)) (c_law_bent_text : Cal P w K mg base 2 "_law_bent_text" (spBentT K)) (c_law_bent_commands : Cal P w K mg base 2 "_law_bent_commands" (spBentK K)) (c_law_bent_cursor : Cal P w K mg base 2 "_law_bent_cursor" (spBentC K))
    (c_law_due : Cal P w K mg base 3 "_law_due" (spDue04 K)) (c_law_raised : Cal P w K mg base 9 "_law_raised" (spRaised04 K)) (c_law_same : Cal P w K mg base 5 "_law_same" (spSame K 4)) : FnG P w K mg base 10 f fd ["script"] (spLaw K) := by
  refine okG F sc_law (fun vs H Q E h => ?_) (fun cdv A outer s H vs Q E hg hr h => ?_)
  · obtain ⟨a, ns, rfl, _⟩ := h
    rfl
  · obtain ⟨a, ns, rfl, hS, hlen, k⟩ := h
    refine ⟨_, (pss_cons (ps_set (i := 1) sc_law.nd rfl (Or.inl rfl) (pe_cal c_law_source hr (by decide) (by rfl) (pa_cons (pv 0) pa_nil)))
      (pss_cons (ps_for PassesOwn.never rfl (pi_range1 rfl T.range (pa_cons (pe_op op_add pe_int (pe_callB (call_min2 rfl) (by rfl) T.min (by decide +kernel) (pa_cons pe_int (pa_cons (pe_callB call_len_seq (by rfl) T.len (by decide +kernel) (pa_cons (pv 0) pa_nil)) pa_nil)))) pa_nil)) (pg_name (i := 2) sc_law.nd rfl (Or.inl rfl)) (pss_one (ps_for PassesOwn.never rfl (pi_range1 rfl T.range (pa_cons pe_int pa_nil)) (pg_name (i := 3) sc_law.nd rfl (Or.inl rfl)) (pss_cons (ps_set (i := 4) sc_law.nd rfl (Or.inr rfl) (pe_cal c_law_text hr (by decide) (by rfl) (pa_cons (pv 1) (pa_cons (pe_ix ix_list (pe_lst (pa_cons pe_int (pa_cons pe_int pa_nil))) (pe_cal c_law_draw hr (by decide) (by rfl) (pa_cons (pv 1) (pa_cons pe_int pa_nil))) (fun _ _ => rfl)) pa_nil))))
      (pss_cons (ps_set (i := 5) sc_law.nd rfl (Or.inr rfl) (pe_cal c_law_cursor hr (by decide) (by rfl) (pa_cons (pv 1) (pa_cons (pv 4) pa_nil))))
      (pss_cons (ps_set (i := 6) sc_law.nd rfl (Or.inr rfl) (pe_cal c_law_fitting hr (by decide) (by rfl) (pa_cons (pv 1) (pa_cons (pv 4) (pa_cons (pv 5) (pa_cons pe_int pa_nil))))))
      (C8.pss_cut (ps_if (pt_cmpR op_eq (pe_cal c_law_draw hr (by decide) (by rfl) (pa_cons (pv 1) (pa_cons pe_int pa_nil))) pe_int (nomark _)) (pss_one (ps_expr (pe_bm PySem.F.plainAttrs_list PySem.F.slot_list_insert PySem.F.type_list_insert mt_insert (pv 6) (pa_cons (pe_cal c_law_draw hr (by decide) (by rfl) (pa_cons (pv 1) (pa_cons (pe_op op_add (pe_callB call_len_seq (by rfl) T.len (by decide +kernel) (pa_cons (pv 6) pa_nil)) pe_int) pa_nil))) (pa_cons (pe_tup (pa_cons pe_str (pa_cons (pe_op op_add pe_int (pe_cal c_law_draw hr (by decide) (by rfl) (pa_cons (pv 1) (pa_cons (pe_op op_mulW pe_int (pe_callB call_len_seq (by rfl) T.len (by decide +kernel) (pa_cons (pv 4) pa_nil))) pa_nil)))) pa_nil))) pa_nil))))) pss_nil)
      (pss_cons (ps_asg (pe_tup (pa_cons (pe_cal c_law_bent_text hr (by decide) (by rfl) (pa_cons (pv 1) (pa_cons (pv 4) pa_nil))) (pa_cons (pe_cal c_law_bent_commands hr (by decide) (by rfl) (pa_cons (pv 1) (pa_cons (pv 6) pa_nil))) pa_nil))) (pg_tup rfl (pgs_cons (pg_name (i := 4) sc_law.nd rfl (Or.inr rfl)) (pgs_cons (pg_name (i := 6) sc_law.nd rfl (Or.inr rfl)) pgs_nil))))
      (pss_cons (ps_set (i := 5) sc_law.nd rfl (Or.inr rfl) (pe_cal c_law_bent_cursor hr (by decide) (by rfl) (pa_cons (pv 1) (pa_cons (pv 4) (pa_cons (pv 5) pa_nil)))))
      (pss_cons (ps_par (i := 7) (j := 8) rfl sc_law.nd rfl rfl (by decide) rfl rfl (pa_cons (pe_callB (cr_repr hg hr.units) (by rfl) T.repr (by decide +kernel) (pa_cons (pe_lst (pa_cons (pv 4) (pa_cons (pv 5) (pa_cons (pv 6) pa_nil)))) pa_nil)) (pa_cons (pe_cal c_law_due hr (by decide) (by rfl) (pa_cons (pv 4) (pa_cons (pv 5) (pa_cons (pv 6) pa_nil)))) pa_nil)) (by rfl))
      (pss_cons (ps_setLc (i := 9) (own := [("door", 10)]) rfl sc_law.nd rfl rfl (sw_true rfl rfl rfl (by decide +kernel)) (pi_range1 rfl T.range (pa_cons pe_int pa_nil)) (blkOk_by (N := ["script", "source", "k", "turn", "sheet", "spot", "moves", "saved", "dues", "told", "door"]) (sc := defScope s_law) (by decide +kernel)) (fun _ _ _ _ _ => (pg_name (i := 10) sc_law.nd rfl (Or.inl rfl))) (fun _ _ _ _ _ => pts_nil) (fun _ _ _ _ _ => (pe_cal c_law_raised hr (by decide) (by rfl) (pa_cons (pv 10) (pa_cons (pv 4) (pa_cons (pv 5) (pa_cons (pv 6) pa_nil)))))))
      (pss_one (ps_if (PW.pt (pw_or (pt_not (pt_val (pe_cal c_law_same hr (by decide) (by rfl) (pa_cons (pv 9) (pa_cons (pv 8) pa_nil))))) (pw_or1 (pt_cmpR op_ne (pe_callB (cr_repr hg hr.units) (by rfl) T.repr (by decide +kernel) (pa_cons (pe_lst (pa_cons (pv 4) (pa_cons (pv 5) (pa_cons (pv 6) pa_nil)))) pa_nil)) (pv 7) (nomark _))))) (pss_one (ps_ret pe_bl)) pss_nil)))))))))))))
      (pss_one (ps_ret (pe_cal c_law_same hr (by decide) (by rfl) (pa_cons (pe_cal c_law_raised hr (by decide) (by rfl) (pa_cons pe_int (pa_cons (pe_lst pa_nil) (pa_cons (pe_tup (pa_cons pe_int (pa_cons pe_int pa_nil))) (pa_cons (pe_lst pa_nil) pa_nil))))) (pa_cons (pe_lst (pa_cons pe_str (pa_cons pe_non (pa_cons pe_bl pa_nil)))) pa_nil))))))), ?_⟩
    refine ⟨_, rfl, a, ns, rfl, hS, hlen, fun H1 p d e1 np nd S1 => ?_⟩
    refine ⟨_, rfl, a, _, rfl, .inl (e1.seq hS), _, _, rfl, _, _, rfl, rfl, _, rfl, ?_, ?_, ?_⟩
    · omega
    · omega
    refine for_range (lo := 0) (fun i σ H' => ∃ v2 v3 v4 v5 v6 v7 v8 v9 v10 : Option V, σ = [some (.ref a), some (.ref p), v2, v3, v4, v5, v6, v7, v8, v9, v10] ∧ Src H' p d (6000 * i)) ⟨none, none, none, none, none, none, none, none, none, rfl, S1⟩ (fun i σ H2 hi h => ?_) (fun σ H2 h => ?_)
    · obtain ⟨v2, v3, v4, v5, v6, v7, v8, v9, v10, rfl, S2⟩ := h
      refine ⟨6, rfl, by decide, by decide, for_range (lo := 0) (n := 6) (fun j σ H' => ∃ v3 v4 v5 v6 v7 v8 v9 v10 : Option V, σ = [some (.ref a), some (.ref p), some (.int (0 + (i : Int))), v3, v4, v5, v6, v7, v8, v9, v10] ∧ Src H' p d (6000 * i + 1000 * j)) ⟨v3, v4, v5, v6, v7, v8, v9, v10, rfl, S2⟩ (fun j σ H3 hj h => ?_) (fun σ H3 h => ?_)⟩
      · obtain ⟨v3, v4, v5, v6, v7, v8, v9, v10, rfl, S3⟩ := h
        refine ⟨_, rfl, (by show 2 ≤ sizeLine; decide), fun q nq => ?_⟩
        obtain ⟨qp, qd⟩ := S3.off nq
        have e4 := new_same (o := HO.lst [V.int 3, .int 40]) nq
        have hq : (upd H3 q (.lst [V.int 3, .int 40])) q = some (.lst [V.int 3, .int 40]) := upd_same
        have S4 := S3.same e4
        generalize upd H3 q (.lst [V.int 3, .int 40]) = H4 at e4 hq S4 ⊢
        have hi' : i < 2 ^ 20 := by
          rw [List.length_map] at hi
          omega
        refine ⟨_, rfl, p, d, _, 2, rfl, S4, by omega, by decide, by decide, fun H5 z kp5 S5 z0 z1 => ?_⟩
        obtain ⟨m, hm, m1, m2⟩ : ∃ m : Int, atI [V.int 3, .int 40] z = some (.int m) ∧ 1 ≤ m ∧ m ≤ 40 := by
          rcases (show z = 0 ∨ z = 1 by omega) with rfl | rfl
          · exact ⟨3, rfl, by decide, by decide⟩
          · exact ⟨40, rfl, by decide, by decide⟩
        refine ⟨q, _, z, .int m, rfl, rfl, SqL.of (kp5 _ _ qp qd hq), hm, p, d, _, m, rfl, S5, by omega, m1, by omega, fun H6 t tx kp6 S6 tp td nt ht hT l1 l2 => ?_⟩
        refine ⟨_, rfl, _, rfl, p, d, t, _, tx, rfl, S6, by omega, ht, tp, td, (fun x hx => by have := hT x hx; omega), l1, by omega, fun H7 b r g kp7 S7 hb r0 r1 hgb => ?_⟩
        replace ht := kp7 _ _ tp td ht
        refine ⟨_, rfl, _, rfl, _, rfl, p, d, t, b, _, tx, r, g, 12, rfl, S7, by omega, ht, tp, td, (fun x hx => (hT x hx).1), by omega, SqT.of hb, r0, r1, (fun x e => (hgb x e).1), by decide, by decide, fun H8 l xs cs kp8 S8 lp ld nl hl hcs ok nb lc wi => ?_⟩
        have tl : t ≠ l := ne_of_none ht nl
        replace ht := kp8 _ _ tp td ht
        have hb8 : SqT K H8 b [.int r, optV g] := S7.tup kp8 (SqT.of hb)
        refine ⟨fun σ H' => ∃ (xs : List V) (cs : List Cmd), σ = [some (.ref a), some (.ref p), some (.int (0 + (i : Int))), some (.int (0 + (j : Int))), some (.ref t), some (.ref b), some (.ref l), v7, v8, v9, v10] ∧ Src H' p d (6000 * i + 1000 * j + 830) ∧ H' t = some (.lst (tx.map V.int)) ∧ SqT K H' b [.int r, optV g] ∧ H' l = some (.lst xs) ∧ CmdsOf K H' xs cs ∧ AllOk cs ∧ (∀ c ∈ cs, numC c ≤ 10 ^ 30) ∧ cs.length ≤ 13, ?_, ?_⟩
        · refine ⟨_, rfl, p, d, _, 3, rfl, S8, by omega, by decide, by decide, fun H9 y kp9 S9 y0 y1 => ⟨rfl, _, rfl, ite2 (fun _ => ?_) (fun _ => ?_)⟩⟩
          · replace ht := kp9 _ _ tp td ht
            replace hl := kp9 _ _ lp ld hl
            have hb9 := S8.tup kp9 hb8
            have hc9 := S8.cmds kp9 hcs
            have lx := hc9.len
            refine ⟨_, rfl, .inl ⟨rfl, _, SqL.of hl⟩, ?_⟩
            refine ⟨_, rfl, _, rfl, l, _, rfl, .inl (SqL.of hl), _, _, rfl, rfl, p, d, _, _, rfl, S9, by omega, by omega, log9 (a := 20) (by omega) (by decide), fun HA u kpA SA u0 u1 => ?_⟩
            replace ht := kpA _ _ tp td ht
            replace hl := kpA _ _ lp ld hl
            have hbA := S9.tup kpA hb9
            have hcA := S9.cmds kpA hc9
            refine ⟨_, rfl, _, rfl, t, _, rfl, .inl (SqL.of ht), _, _, rfl, rfl, ?_, p, d, _, _, rfl, SA, by omega, by rw [List.length_map]; omega, log9 (a := 20) (by rw [List.length_map]; omega) (by decide), fun HB w kpB SB w0 w1 => ?_⟩
            · exact wide_mul (a := 3) (b := 20) (by decide) (by rw [List.length_map]; omega) (by decide) (by decide) (by decide)
            rw [List.length_map] at w1
            replace ht := kpB _ _ tp td ht
            replace hl := kpB _ _ lp ld hl
            have hbB := SA.tup kpB hbA
            have hcB := SA.cmds kpB hcA
            refine ⟨_, _, rfl, rfl, (by show 2 ≤ sizeLine; decide), fun c nc => ?_⟩
            have eC := new_same (o := HO.tup [V.str "down", .int (1 + w)]) nc
            have hc : (upd HB c (.tup [V.str "down", .int (1 + w)])) c = some (.tup [V.str "down", .int (1 + w)]) := upd_same
            have SC := SB.same eC
            replace ht := eC _ _ ht
            replace hl := eC _ _ hl
            have hbC := seq_t eC hbB
            have hcC := hcB.same eC
            generalize upd HB c (.tup [V.str "down", .int (1 + w)]) = HC at eC hc SC ht hl hbC hcC ⊢
            have hin : CmdsOf K HC (xs.take u.toNat ++ [.ref c] ++ xs.drop u.toNat) (cs.take u.toNat ++ [.down (1 + w)] ++ cs.drop u.toNat) := paired_ins hcC ⟨c, rfl, SqT.of (show HC c = some (.tup (encC (.down (1 + w)))) from hc)⟩ u.toNat
            refine ⟨l, xs, u, .ref c, rfl, rfl, hl, lt_line (by omega), u0, by omega, ?_⟩
            refine ⟨_, cs.take u.toNat ++ [.down (1 + w)] ++ cs.drop u.toNat, rfl, (SC.upd lp ld).more (by omega), by rw [upd_ne tl]; exact ht, tup_atL hl hbC, upd_same, CmdsOf.atL hl hin, fun z hz => ?_, fun z hz => ?_, by rw [len_ins _ _ (by omega)]; omega⟩
            · rcases mem_ins hz with q | q
              · rw [q]
                show 1 ≤ 1 + w
                omega
              · exact ok z q
            · rcases mem_ins hz with q | q
              · rw [q]
                show 1 + w ≤ 10 ^ 30
                omega
              · exact nb z q
          · exact ⟨xs, cs, rfl, S9.more (by omega), kp9 _ _ tp td ht, S8.tup kp9 hb8, kp9 _ _ lp ld hl, S8.cmds kp9 hcs, ok, nb, by omega⟩
        rintro σ H9 ⟨xs, cs, rfl, S9, ht, hb9, hl, hcs, ok, nb, lc⟩
        refine ⟨_, rfl, _, rfl, p, d, t, _, tx, rfl, S9, by omega, ht, tp, td, l1, by omega, (fun x hx => by have := hT x hx; omega), fun HA t' tx' kpA SA nt' t'p t'd ht' lt' sm' => ?_⟩
        have hlA := kpA _ _ lp ld hl
        have hbA := S9.tup kpA hb9
        have rsA := raws_of (S9.cmds kpA hcs)
        refine ⟨_, rfl, _, rfl, p, d, l, _, xs, cs.map rawOf, rfl, SA, by omega, SqL.of hlA, rsA, by rw [List.length_map]; omega, fun HB l' ys ss kpB SB nl' l'p l'd hl' hss lss mss => ?_⟩
        rw [List.length_map] at lss
        have htB := kpB _ _ t'p t'd ht'
        have hbB := SA.tup kpB hbA
        refine ⟨(by show 2 ≤ sizeLine; decide), fun pT npT => ?_⟩
        have eT := new_same (o := HO.tup [V.ref t', .ref l']) npT
        have hpT : (upd HB pT (.tup [V.ref t', .ref l'])) pT = some (.tup [V.ref t', .ref l']) := upd_same
        have SC := SB.same eT
        replace htB := eT _ _ htB
        replace hl' := eT _ _ hl'
        replace hbB := seq_t eT hbB
        replace hss := hss.same eT
        generalize upd HB pT (.tup [V.ref t', .ref l']) = HC at hpT SC htB hl' hbB hss ⊢
        refine ⟨pT, _, rfl, SqT.of hpT, rfl, _, _, rfl, _, _, rfl, rfl, ?_⟩
        have smc : SmC r g := ⟨by omega, fun x hx => by have := hgb x hx; omega⟩
        refine ⟨_, rfl, _, rfl, _, rfl, p, d, t', b, _, tx', r, g, rfl, SC, by omega, htB, by omega, hbB, smc, fun HD b' r' g' kpD SD hb' sm2 => ?_⟩
        have B0 : Bent K HD p d t' b' l' _ tx' r' g' ys ss := ⟨SD, kpD _ _ t'p t'd htB, hb', kpD _ _ l'p l'd hl', SC.raws kpD hss⟩
        have ssok : ∀ x ∈ ss, RawOk x ∧ numC x.cmd < 10 ^ 40 := fun x hx => by
          rcases mss x hx with z | z
          · obtain ⟨c, hc1, rfl⟩ := List.mem_map.mp z
            have := nb c hc1
            exact ⟨rawOf_ok (csml_of (ok c hc1) (by omega)), by rw [rawOf_cmd]; omega⟩
          · exact bads_ok04 z
        obtain ⟨s1, s2, s3, s4⟩ := all3_show (T := tx') (r := r') (g := g') (rs := ss) (fun x hx => sm' x hx) sm2.1 sm2.2 (fun x hx => (ssok x hx).1) (by omega) (by omega)
        refine ⟨_, rfl, _, rfl, _, rfl, (by show 3 ≤ sizeLine; decide), fun p5 np5 => ?_⟩
        have B1 := B0.same (new_same (o := HO.lst [V.ref t', .ref b', .ref l']) np5)
        have hp5 : (upd HD p5 (.lst [V.ref t', .ref b', .ref l'])) p5 = some (.lst [V.ref t', .ref b', .ref l']) := upd_same
        generalize upd HD p5 (.lst [V.ref t', .ref b', .ref l']) = HE at B1 hp5 ⊢
        refine ⟨p5, _, rfl, B1.dp hp5, s1, s2, s3, s4, ?_⟩
        refine ⟨_, rfl, _, rfl, _, rfl, t', b', l', tx', r', g', ys, ss, rfl, SqL.of B1.ht, B1.hb, SqL.of B1.hl, B1.hs, by omega, (fun x hx => (ssok x hx).2), fun HF q5 v1 v2 v3 o1 o2 o3 eF nq5 hq5 tv1 tv2 tv3 d0 d1 d2 d3 => ?_⟩
        have B2 := B1.same eF
        refine ⟨_, _, rfl, ?_⟩
        refine ⟨4, rfl, by decide, by decide, fun D hD => ?_⟩
        have eD := new_same (o := HO.lst []) hD
        refine lc_range (lo := 0) (n := 4) (fun m H' => ∃ ws : List V, Same HF H' ∧ H' D = some (.lst ws) ∧ Paired (fun v o => ToldV H' v o ∧ v ≠ .ref D) ws (([o1, o2, o2, o3] : List (Option (Nat × V))).take m)) ⟨[], eD, upd_same, .nil⟩ (fun m H' hm h => ?_) (fun HG h => ?_)
        · obtain ⟨ws, e, hw, pw⟩ := h
          have B3 := B2.same e
          have lw : ws.length = m := by
            rw [Paired.length pw, List.length_take]
            show min m 4 = m
            omega
          obtain ⟨o, ho, hdue⟩ : ∃ o, ([o1, o2, o2, o3] : List (Option (Nat × V)))[m]? = some o ∧ Due04 b' tx' r' g' ss m o := by
            match m, hm with
            | 0, _ => exact ⟨_, rfl, d0⟩
            | 1, _ => exact ⟨_, rfl, d1⟩
            | 2, _ => exact ⟨_, rfl, d2⟩
            | 3, _ => exact ⟨_, rfl, d3⟩
            | n + 4, z => exact absurd z (by omega)
          have tk : ([o1, o2, o2, o3] : List (Option (Nat × V))).take (m + 1) = ([o1, o2, o2, o3] : List (Option (Nat × V))).take m ++ [o] := by
            rw [List.take_add_one, ho]
            rfl
          refine ⟨rfl, ?_⟩
          refine ⟨_, rfl, _, rfl, _, rfl, _, rfl, m, t', b', l', tx', r', g', ys, ss, by rw [Int.zero_add]; rfl, hm, SqL.of B3.ht, B3.hb, SqL.of B3.hl, B3.hs, by omega, fun fine H2 e2 => ?_, fun i v bad H2 q e2 nq hq => ?_⟩
          · obtain rfl : o = none := by
              cases o with
              | none => rfl
              | some x => exact (bad04_fine fine (hdue.1 x.1 x.2 rfl)).elim
            refine ⟨ws, e2 _ _ hw, lt_line (by omega), ws ++ [.non], same_freeU (e.trans e2) hD, upd_same, ?_⟩
            rw [tk]
            exact paired_app (Paired.mapP pw fun _ _ z => ToldV.upd ⟨z.1.same e2, z.2⟩) (.cons ⟨rfl, fun z => nomatch z⟩ .nil)
          · obtain ⟨x, rfl⟩ : ∃ x, o = some x := by
              cases o with
              | none => exact (bad04_fine (hdue.2 rfl) bad).elim
              | some x => exact ⟨x, rfl⟩
            obtain ⟨z1, z2⟩ := bad04_one (hdue.1 x.1 x.2 rfl) bad
            obtain ⟨x1, x2⟩ := x
            subst z1
            subst z2
            have qD : q ≠ D := (ne_of_none hw nq).symm
            refine ⟨ws, e2 _ _ hw, lt_line (by omega), ws ++ [.ref q], same_freeU (e.trans e2) hD, upd_same, ?_⟩
            rw [tk]
            exact paired_app (Paired.mapP pw fun _ _ z => ToldV.upd ⟨z.1.same e2, z.2⟩) (.cons ⟨⟨q, rfl, by rw [upd_ne qD]; exact hq⟩, fun z => qD (by cases z; rfl)⟩ .nil)
        obtain ⟨ws, e, hw, pw⟩ := h
        have B4 := B2.same e
        have dD : Dp K HG (.ref D) (.list [tD4 r' g' o1, tD4 r' g' o2, tD4 r' g' o2, tD4 r' g' o3]) := .lst (SqL.of hw) (tolds_dp (os := [o1, o2, o2, o3]) B4.hb pw fun o ho => by
          simp only [List.mem_cons, List.not_mem_nil, or_false] at ho
          rcases ho with rfl | rfl | rfl | rfl
          · exact d0.ov
          · exact d1.ov
          · exact d2.ov
          · exact d3.ov)
        have dq : Dp K HG (.ref q5) (.list [tD4 r' g' o1, tD4 r' g' o2, tD4 r' g' o2, tD4 r' g' o3]) := .lst (SqL.of (e _ _ hq5)) (.cons (told_dp B4.hb d0.ov (tv1.same e)) (.cons (told_dp B4.hb d1.ov (tv2.same e)) (.cons (told_dp B4.hb d1.ov (tv2.same e)) (.cons (told_dp B4.hb d3.ov (tv3.same e)) .nil))))
        refine ⟨_, rfl, _, rfl, .ref D, .ref q5, _, rfl, dD, dq, (four_deep r' g' o1 o2 o2 o3).1, (four_deep r' g' o1 o2 o2 o3).2, fun HH e2 => ⟨_, rfl, ?_⟩⟩
        have B5 := B4.same e2
        refine iteF ?_
        refine ⟨_, rfl, _, rfl, _, rfl, (by show 3 ≤ sizeLine; decide), fun p8 np8 => ?_⟩
        have B6 := B5.same (new_same (o := HO.lst [V.ref t', .ref b', .ref l']) np8)
        refine ⟨p8, _, rfl, B6.dp upd_same, s1, s2, s3, s4, _, rfl, rfl, _, rfl, ?_⟩
        rw [decide_eq_true rfl]
        refine iteF ?_
        exact ⟨_, _, _, _, _, _, _, _, rfl, B6.S.more (by omega)⟩
      · obtain ⟨v3, v4, v5, v6, v7, v8, v9, v10, rfl, S3⟩ := h
        exact ⟨_, _, _, _, _, _, _, _, _, rfl, S3.more (by omega)⟩
    · obtain ⟨v2, v3, v4, v5, v6, v7, v8, v9, v10, rfl, S2⟩ := h
      refine ⟨(by show 0 ≤ sizeLine; decide), fun t nt => ⟨(by show 2 ≤ sizeLine; decide), fun b nb => ⟨(by show 0 ≤ sizeLine; decide), fun l nl => ?_⟩⟩⟩
      have ht0 : (upd H2 t (.lst [])) t = some (.lst (([] : List Int).map V.int)) := upd_same
      generalize upd H2 t (.lst []) = H3 at nb ht0 nl ⊢
      have e4 := new_same (o := HO.tup [V.int 0, .int 0]) nb
      have hb0 : SqT K (upd H3 b (.tup [V.int 0, .int 0])) b [.int 0, optV (some 0)] := SqT.of upd_same
      have ht1 := e4 _ _ ht0
      generalize upd H3 b (.tup [V.int 0, .int 0]) = H4 at nl hb0 ht1 ⊢
      have e5 := new_same (o := HO.lst []) nl
      have hl0 : (upd H4 l (.lst [])) l = some (.lst []) := upd_same
      have hb1 := seq_t e5 hb0
      have ht2 := e5 _ _ ht1
      generalize upd H4 l (.lst []) = H5 at hb1 ht2 hl0 ⊢
      refine ⟨0, t, b, l, [], 0, some 0, [], [], rfl, by decide, SqL.of ht2, hb1, SqL.of hl0, .nil, by decide, fun fine => absurd rfl (fine.1 (by decide)).1, fun i v bad H6 p6 e6 np6 hp6 => ?_⟩
      obtain ⟨rfl, rfl⟩ : i = 0 ∧ v = .non := by
        cases bad with
        | col _ _ hb2 =>
          cases hb2 with
          | text0 _ => exact ⟨rfl, rfl⟩
          | text _ z _ => exact absurd rfl z
          | cursor z _ _ => exact absurd rfl z
          | command _ z _ _ _ => exact absurd rfl z
        | run _ _ _ z _ => rcases z with z | z <;> cases z
        | far _ _ z _ _ _ _ _ => rcases z with z | z <;> cases z
      refine ⟨(by show 3 ≤ sizeLine; decide), fun q nq => ?_⟩
      have e7 := new_same (o := HO.lst [V.str "InvalidText", .non, .bl true]) nq
      refine ⟨.ref p6, .ref q, .list [.str "InvalidText", .none, .bool true], rfl, .lst (SqL.of (e7 _ _ hp6)) (.cons (.str _) (.cons .non (.cons (.bl _) .nil))), .lst (SqL.of upd_same) (.cons (.str _) (.cons .non (.cons (.bl _) .nil))), ?_, ?_, fun H' _ => k H'⟩
      · simp [PyData.depth, PyData.depthAll]
      · simp [wid, widAll]
end
end Gc

/-! the __init__ of the errors -/
namespace Gc
open PySem L2
theorem kit_own {K : PySem.W.Frag} {C D : Addr} {b : Bool} (h1 : PySem.W.isClsIn K D = true) (h2 : PySem.W.typeIn K (.ref D) = some (.type "type"))
    (h3 : PySem.W.subIn K (.ref C) (.ref D) = some b) (hr : PySem.W.subIn K (.ref C) (.ref C) = some true) : PySem.W.kitOne K (.ref C) (.ref D) = some b := by
  unfold PySem.W.kitOne
  split
  · rename_i e
    have z : C = D := Value.ref.inj (beq_iff_eq.mp e)
    subst z
    exact hr.symm.trans h3
  · show (if ((PySem.W.clsIn K D).isSome && PySem.W.typeIn K (.ref D) == some (.type "type")) = true then PySem.W.subIn K (.ref C) (.ref D) else none) = some b
    have h1' : (PySem.W.clsIn K D).isSome = true := h1
    rw [h1', h2]
    exact h3
theorem kit_bl {K : PySem.W.Frag} {C : Addr} {T : String} {b : Bool} (hm : PySem.W.kitMeta T = true) (h : PySem.W.subIn K (.ref C) (.type T) = some b) : PySem.W.kitOne K (.ref C) (.type T) = some b := by
  unfold PySem.W.kitOne
  rw [if_neg (by intro e; cases beq_iff_eq.mp e)]
  show (if PySem.W.kitMeta T = true then PySem.W.subIn K (.ref C) (.type T) else none) = some b
  rw [if_pos hm]
  exact h
section
variable {P : Program} {w : World} {K : PySem.W.Frag} {mg : Str → Option Value} {base : Heap}
abbrev sI0 : Stmt := inClass (top 2) 0
theorem sc_I0 : FnScope ["self", "value"] ["self", "value"] (defScope sI0) := ⟨rfl, rfl, rfl, by decide +kernel, rfl, by decide +kernel, by decide +kernel⟩
theorem errc_I0 {fI C : Addr} {fd : FuncData} (F : Fun K "__init__" "InvalidText.__init__" sI0 fI fd) (T : OexC K C) (g : mg "InvalidText" = some (.ref C)) (no : PySem.W.findIn K (.ref C) "value" = some none)
    (iC : PySem.W.findIn K (.ref C) "__init__" = some (some (.ref fI))) (tI : PySem.W.typeIn K (.ref fI) = some (.type "function")) : ErrC P w K mg base "InvalidText" C := by
  have ok : FnOk P w K mg base CX0 1 fI fd ["self", "value"] (spKeep C) := by
    refine F.ok sc_I0 (fun vs H Q E h => ?_) (fun cdv A outer s H vs Q E hr h => ?_)
    · obtain ⟨a, v, rfl, _⟩ := h
      rfl
    · obtain ⟨a, v, rfl, ha, k⟩ := h
      refine ⟨_, pss_one (ps_ost (pv 0) (pv 1)), ?_⟩
      exact ⟨_, rfl, _, rfl, a, C, rfl, T, no, .inl ⟨ha, fun dx hd ne => k dx hd ne⟩⟩
  exact ⟨T, g, no, fI, fd, iC, tI, ok, F.binds (ps := ["self", "value"]) fun _ _ _ _ _ _ us hl => match us, hl with | [_, _], _ => rfl⟩
abbrev sI1 : Stmt := inClass (top 3) 0
theorem sc_I1 : FnScope ["self", "value"] ["self", "value"] (defScope sI1) := ⟨rfl, rfl, rfl, by decide +kernel, rfl, by decide +kernel, by decide +kernel⟩
theorem errc_I1 {fI C : Addr} {fd : FuncData} (F : Fun K "__init__" "InvalidCursor.__init__" sI1 fI fd) (T : OexC K C) (g : mg "InvalidCursor" = some (.ref C)) (no : PySem.W.findIn K (.ref C) "value" = some none)
    (iC : PySem.W.findIn K (.ref C) "__init__" = some (some (.ref fI))) (tI : PySem.W.typeIn K (.ref fI) = some (.type "function")) : ErrC P w K mg base "InvalidCursor" C := by
  have ok : FnOk P w K mg base CX0 1 fI fd ["self", "value"] (spKeep C) := by
    refine F.ok sc_I1 (fun vs H Q E h => ?_) (fun cdv A outer s H vs Q E hr h => ?_)
    · obtain ⟨a, v, rfl, _⟩ := h
      rfl
    · obtain ⟨a, v, rfl, ha, k⟩ := h
      refine ⟨_, pss_one (ps_ost (pv 0) (pv 1)), ?_⟩
      exact ⟨_, rfl, _, rfl, a, C, rfl, T, no, .inl ⟨ha, fun dx hd ne => k dx hd ne⟩⟩
  exact ⟨T, g, no, fI, fd, iC, tI, ok, F.binds (ps := ["self", "value"]) fun _ _ _ _ _ _ us hl => match us, hl with | [_, _], _ => rfl⟩
abbrev sI2 : Stmt := inClass (top 4) 0
theorem sc_I2 : FnScope ["self", "value"] ["self", "value"] (defScope sI2) := ⟨rfl, rfl, rfl, by decide +kernel, rfl, by decide +kernel, by decide +kernel⟩
theorem errc_I2 {fI C : Addr} {fd : FuncData} (F : Fun K "__init__" "InvalidCommand.__init__" sI2 fI fd) (T : OexC K C) (g : mg "InvalidCommand" = some (.ref C)) (no : PySem.W.findIn K (.ref C) "value" = some none)
    (iC : PySem.W.findIn K (.ref C) "__init__" = some (some (.ref fI))) (tI : PySem.W.typeIn K (.ref fI) = some (.type "function")) : ErrC P w K mg base "InvalidCommand" C := by
  have ok : FnOk P w K mg base CX0 1 fI fd ["self", "value"] (spKeep C) := by
    refine F.ok sc_I2 (fun vs H Q E h => ?_) (fun cdv A outer s H vs Q E hr h => ?_)
    · obtain ⟨a, v, rfl, _⟩ := h
      rfl
    · obtain ⟨a, v, rfl, ha, k⟩ := h
      refine ⟨_, pss_one (ps_ost (pv 0) (pv 1)), ?_⟩
      exact ⟨_, rfl, _, rfl, a, C, rfl, T, no, .inl ⟨ha, fun dx hd ne => k dx hd ne⟩⟩
  exact ⟨T, g, no, fI, fd, iC, tI, ok, F.binds (ps := ["self", "value"]) fun _ _ _ _ _ _ us hl => match us, hl with | [_, _], _ => rfl⟩
abbrev sI3 : Stmt := inClass (top 5) 0
theorem sc_I3 : FnScope ["self", "value"] ["self", "value"] (defScope sI3) := ⟨rfl, rfl, rfl, by decide +kernel, rfl, by decide +kernel, by decide +kernel⟩
theorem errc_I3 {fI C : Addr} {fd : FuncData} (F : Fun K "__init__" "Impossible.__init__" sI3 fI fd) (T : OexC K C) (g : mg "Impossible" = some (.ref C)) (no : PySem.W.findIn K (.ref C) "value" = some none)
    (iC : PySem.W.findIn K (.ref C) "__init__" = some (some (.ref fI))) (tI : PySem.W.typeIn K (.ref fI) = some (.type "function")) : ErrC P w K mg base "Impossible" C := by
  have ok : FnOk P w K mg base CX0 1 fI fd ["self", "value"] (spKeep C) := by
    refine F.ok sc_I3 (fun vs H Q E h => ?_) (fun cdv A outer s H vs Q E hr h => ?_)
    · obtain ⟨a, v, rfl, _⟩ := h
      rfl
    · obtain ⟨a, v, rfl, ha, k⟩ := h
      refine ⟨_, pss_one (ps_ost (pv 0) (pv 1)), ?_⟩
      exact ⟨_, rfl, _, rfl, a, C, rfl, T, no, .inl ⟨ha, fun dx hd ne => k dx hd ne⟩⟩
  exact ⟨T, g, no, fI, fd, iC, tI, ok, F.binds (ps := ["self", "value"]) fun _ _ _ _ _ _ us hl => match us, hl with | [_, _], _ => rfl⟩
abbrev sI4 : Stmt := inClass (top 6) 0
theorem sc_I4 : FnScope ["self", "value"] ["self", "value"] (defScope sI4) := ⟨rfl, rfl, rfl, by decide +kernel, rfl, by decide +kernel, by decide +kernel⟩
theorem errc_I4 {fI C : Addr} {fd : FuncData} (F : Fun K "__init__" "InvalidNumber.__init__" sI4 fI fd) (T : OexC K C) (g : mg "InvalidNumber" = some (.ref C)) (no : PySem.W.findIn K (.ref C) "value" = some none)
    (iC : PySem.W.findIn K (.ref C) "__init__" = some (some (.ref fI))) (tI : PySem.W.typeIn K (.ref fI) = some (.type "function")) : ErrC P w K mg base "InvalidNumber" C := by
  have ok : FnOk P w K mg base CX0 1 fI fd ["self", "value"] (spKeep C) := by
    refine F.ok sc_I4 (fun vs H Q E h => ?_) (fun cdv A outer s H vs Q E hr h => ?_)
    · obtain ⟨a, v, rfl, _⟩ := h
      rfl
    · obtain ⟨a, v, rfl, ha, k⟩ := h
      refine ⟨_, pss_one (ps_ost (pv 0) (pv 1)), ?_⟩
      exact ⟨_, rfl, _, rfl, a, C, rfl, T, no, .inl ⟨ha, fun dx hd ne => k dx hd ne⟩⟩
  exact ⟨T, g, no, fI, fd, iC, tI, ok, F.binds (ps := ["self", "value"]) fun _ _ _ _ _ _ us hl => match us, hl with | [_, _], _ => rfl⟩
abbrev sI5 : Stmt := inClass (top 7) 0
theorem sc_I5 : FnScope ["self", "value"] ["self", "value"] (defScope sI5) := ⟨rfl, rfl, rfl, by decide +kernel, rfl, by decide +kernel, by decide +kernel⟩
theorem errc_I5 {fI C : Addr} {fd : FuncData} (F : Fun K "__init__" "NothingToUndo.__init__" sI5 fI fd) (T : OexC K C) (g : mg "NothingToUndo" = some (.ref C)) (no : PySem.W.findIn K (.ref C) "value" = some none)
    (iC : PySem.W.findIn K (.ref C) "__init__" = some (some (.ref fI))) (tI : PySem.W.typeIn K (.ref fI) = some (.type "function")) : ErrC P w K mg base "NothingToUndo" C := by
  have ok : FnOk P w K mg base CX0 1 fI fd ["self", "value"] (spKeep C) := by
    refine F.ok sc_I5 (fun vs H Q E h => ?_) (fun cdv A outer s H vs Q E hr h => ?_)
    · obtain ⟨a, v, rfl, _⟩ := h
      rfl
    · obtain ⟨a, v, rfl, ha, k⟩ := h
      refine ⟨_, pss_one (ps_ost (pv 0) (pv 1)), ?_⟩
      exact ⟨_, rfl, _, rfl, a, C, rfl, T, no, .inl ⟨ha, fun dx hd ne => k dx hd ne⟩⟩
  exact ⟨T, g, no, fI, fd, iC, tI, ok, F.binds (ps := ["self", "value"]) fun _ _ _ _ _ _ us hl => match us, hl with | [_, _], _ => rfl⟩
abbrev sI6 : Stmt := inClass (top 8) 0
theorem sc_I6 : FnScope ["self", "value"] ["self", "value"] (defScope sI6) := ⟨rfl, rfl, rfl, by decide +kernel, rfl, by decide +kernel, by decide +kernel⟩
theorem errc_I6 {fI C : Addr} {fd : FuncData} (F : Fun K "__init__" "Unreadable.__init__" sI6 fI fd) (T : OexC K C) (g : mg "Unreadable" = some (.ref C)) (no : PySem.W.findIn K (.ref C) "value" = some none)
    (iC : PySem.W.findIn K (.ref C) "__init__" = some (some (.ref fI))) (tI : PySem.W.typeIn K (.ref fI) = some (.type "function")) : ErrC P w K mg base "Unreadable" C := by
  have ok : FnOk P w K mg base CX0 1 fI fd ["self", "value"] (spKeep C) := by
    refine F.ok sc_I6 (fun vs H Q E h => ?_) (fun cdv A outer s H vs Q E hr h => ?_)
    · obtain ⟨a, v, rfl, _⟩ := h
      rfl
    · obtain ⟨a, v, rfl, ha, k⟩ := h
      refine ⟨_, pss_one (ps_ost (pv 0) (pv 1)), ?_⟩
      exact ⟨_, rfl, _, rfl, a, C, rfl, T, no, .inl ⟨ha, fun dx hd ne => k dx hd ne⟩⟩
  exact ⟨T, g, no, fI, fd, iC, tI, ok, F.binds (ps := ["self", "value"]) fun _ _ _ _ _ _ us hl => match us, hl with | [_, _], _ => rfl⟩
end
end Gc

namespace Gc
open PySem L2
theorem all_mk {l : PySem.W.OpenLaw} {w : World} {K : PySem.W.Frag} {h : Heap} {mg : Str → Option Value} {fa : Addr} (X : K.In h) (G : h.Ns mainGlobals mg) (hfa : mg "law" = some (.ref fa))
    {wn wo : Addr} {odN odO : Option Addr} {nN nO : Nat} {slN slO : Array (Option Value)} {tn0 tn1 tn2 tn3 to0 to1 : Tok}
    {f_is_count : Addr} {oc_is_count kV_is_count dc_is_count pm_is_count cd_is_count ct_is_count : Value} {od_is_count an_is_count : Option Addr} {sl_is_count : Array (Option Value)}
    {f_is_command : Addr} {oc_is_command kV_is_command dc_is_command pm_is_command cd_is_command ct_is_command : Value} {od_is_command an_is_command : Option Addr} {sl_is_command : Array (Option Value)}
    {f_check_commands : Addr} {oc_check_commands kV_check_commands dc_check_commands pm_check_commands cd_check_commands ct_check_commands : Value} {od_check_commands an_check_commands : Option Addr} {sl_check_commands : Array (Option Value)}
    {f_row_change : Addr} {oc_row_change kV_row_change dc_row_change pm_row_change cd_row_change ct_row_change : Value} {od_row_change an_row_change : Option Addr} {sl_row_change : Array (Option Value)}
    {f_check_text : Addr} {oc_check_text kV_check_text dc_check_text pm_check_text cd_check_text ct_check_text : Value} {od_check_text an_check_text : Option Addr} {sl_check_text : Array (Option Value)}
    {f_check_cursor : Addr} {oc_check_cursor kV_check_cursor dc_check_cursor pm_check_cursor cd_check_cursor ct_check_cursor : Value} {od_check_cursor an_check_cursor : Option Addr} {sl_check_cursor : Array (Option Value)}
    {f_run : Addr} {oc_run kV_run dc_run pm_run cd_run ct_run : Value} {od_run an_run : Option Addr} {sl_run : Array (Option Value)}
    {f_column : Addr} {oc_column kV_column dc_column pm_column cd_column ct_column : Value} {od_column an_column : Option Addr} {sl_column : Array (Option Value)}
    {f_places : Addr} {oc_places kV_places dc_places pm_places cd_places ct_places : Value} {od_places an_places : Option Addr} {sl_places : Array (Option Value)}
    {f_reach : Addr} {oc_reach kV_reach dc_reach pm_reach cd_reach ct_reach : Value} {od_reach an_reach : Option Addr} {sl_reach : Array (Option Value)}
    {f_shown_column : Addr} {oc_shown_column kV_shown_column dc_shown_column pm_shown_column cd_shown_column ct_shown_column : Value} {od_shown_column an_shown_column : Option Addr} {sl_shown_column : Array (Option Value)}
    {f_moved : Addr} {oc_moved kV_moved dc_moved pm_moved cd_moved ct_moved : Value} {od_moved an_moved : Option Addr} {sl_moved : Array (Option Value)}
    {f_new_goal : Addr} {oc_new_goal kV_new_goal dc_new_goal pm_new_goal cd_new_goal ct_new_goal : Value} {od_new_goal an_new_goal : Option Addr} {sl_new_goal : Array (Option Value)}
    {f_law_source : Addr} {oc_law_source kV_law_source dc_law_source pm_law_source cd_law_source ct_law_source : Value} {od_law_source an_law_source : Option Addr} {sl_law_source : Array (Option Value)}
    {f_law_draw : Addr} {oc_law_draw kV_law_draw dc_law_draw pm_law_draw cd_law_draw ct_law_draw : Value} {od_law_draw an_law_draw : Option Addr} {sl_law_draw : Array (Option Value)}
    {f_law_same : Addr} {oc_law_same kV_law_same dc_law_same pm_law_same cd_law_same ct_law_same : Value} {od_law_same an_law_same : Option Addr} {sl_law_same : Array (Option Value)}
    {f_law_number : Addr} {oc_law_number kV_law_number dc_law_number pm_law_number cd_law_number ct_law_number : Value} {od_law_number an_law_number : Option Addr} {sl_law_number : Array (Option Value)}
    {f_law_command : Addr} {oc_law_command kV_law_command dc_law_command pm_law_command cd_law_command ct_law_command : Value} {od_law_command an_law_command : Option Addr} {sl_law_command : Array (Option Value)}
    {f_law_text : Addr} {oc_law_text kV_law_text dc_law_text pm_law_text cd_law_text ct_law_text : Value} {od_law_text an_law_text : Option Addr} {sl_law_text : Array (Option Value)}
    {f_law_cursor : Addr} {oc_law_cursor kV_law_cursor dc_law_cursor pm_law_cursor cd_law_cursor ct_law_cursor : Value} {od_law_cursor an_law_cursor : Option Addr} {sl_law_cursor : Array (Option Value)}
    {f_law_shown : Addr} {oc_law_shown kV_law_shown dc_law_shown pm_law_shown cd_law_shown ct_law_shown : Value} {od_law_shown an_law_shown : Option Addr} {sl_law_shown : Array (Option Value)}
    {f_law_moved : Addr} {oc_law_moved kV_law_moved dc_law_moved pm_law_moved cd_law_moved ct_law_moved : Value} {od_law_moved an_law_moved : Option Addr} {sl_law_moved : Array (Option Value)}
    {f_law_fitting : Addr} {oc_law_fitting kV_law_fitting dc_law_fitting pm_law_fitting cd_law_fitting ct_law_fitting : Value} {od_law_fitting an_law_fitting : Option Addr} {sl_law_fitting : Array (Option Value)}
    {f_law_error : Addr} {oc_law_error kV_law_error dc_law_error pm_law_error cd_law_error ct_law_error : Value} {od_law_error an_law_error : Option Addr} {sl_law_error : Array (Option Value)}
    {f_law_bent_text : Addr} {oc_law_bent_text kV_law_bent_text dc_law_bent_text pm_law_bent_text cd_law_bent_text ct_law_bent_text : Value} {od_law_bent_text an_law_bent_text : Option Addr} {sl_law_bent_text : Array (Option Value)}
    {f_law_bent_cursor : Addr} {oc_law_bent_cursor kV_law_bent_cursor dc_law_bent_cursor pm_law_bent_cursor cd_law_bent_cursor ct_law_bent_cursor : Value} {od_law_bent_cursor an_law_bent_cursor : Option Addr} {sl_law_bent_cursor : Array (Option Value)}
    {f_law_bent_commands : Addr} {oc_law_bent_commands kV_law_bent_commands dc_law_bent_commands pm_law_bent_commands cd_law_bent_commands ct_law_bent_commands : Value} {od_law_bent_commands an_law_bent_commands : Option Addr} {sl_law_bent_commands : Array (Option Value)}
    {f_law_first_bad : Addr} {oc_law_first_bad kV_law_first_bad dc_law_first_bad pm_law_first_bad cd_law_first_bad ct_law_first_bad : Value} {od_law_first_bad an_law_first_bad : Option Addr} {sl_law_first_bad : Array (Option Value)}
    {f_law_due : Addr} {oc_law_due kV_law_due dc_law_due pm_law_due cd_law_due ct_law_due : Value} {od_law_due an_law_due : Option Addr} {sl_law_due : Array (Option Value)}
    {f_law_raised : Addr} {oc_law_raised kV_law_raised dc_law_raised pm_law_raised cd_law_raised ct_law_raised : Value} {od_law_raised an_law_raised : Option Addr} {sl_law_raised : Array (Option Value)}
    {f_law : Addr} {oc_law kV_law dc_law pm_law cd_law ct_law : Value} {od_law an_law : Option Addr} {sl_law : Array (Option Value)}
    {CE : Addr}
    {C0 : Addr}
    {f0 N0 : Addr} {nm0 q0 : Str} {bs0 : List Value} {sn0 : List Str} {sub0 : List Value} {ab0 : Bool} {col0 : Option Bool} {dd0 : Option Addr} {p0_0 p0_1 p0_2 p0_3 p0_5 : Option Value}
    {oc0 kV0 dc0 pm0 cd0 ct0 : Value} {od0 an0 : Option Addr} {sl0 : Array (Option Value)}
    {C1 : Addr}
    {f1 N1 : Addr} {nm1 q1 : Str} {bs1 : List Value} {sn1 : List Str} {sub1 : List Value} {ab1 : Bool} {col1 : Option Bool} {dd1 : Option Addr} {p1_0 p1_1 p1_2 p1_3 p1_5 : Option Value}
    {oc1 kV1 dc1 pm1 cd1 ct1 : Value} {od1 an1 : Option Addr} {sl1 : Array (Option Value)}
    {C2 : Addr}
    {f2 N2 : Addr} {nm2 q2 : Str} {bs2 : List Value} {sn2 : List Str} {sub2 : List Value} {ab2 : Bool} {col2 : Option Bool} {dd2 : Option Addr} {p2_0 p2_1 p2_2 p2_3 p2_5 : Option Value}
    {oc2 kV2 dc2 pm2 cd2 ct2 : Value} {od2 an2 : Option Addr} {sl2 : Array (Option Value)}
    {C3 : Addr}
    {f3 N3 : Addr} {nm3 q3 : Str} {bs3 : List Value} {sn3 : List Str} {sub3 : List Value} {ab3 : Bool} {col3 : Option Bool} {dd3 : Option Addr} {p3_0 p3_1 p3_2 p3_3 p3_5 : Option Value}
    {oc3 kV3 dc3 pm3 cd3 ct3 : Value} {od3 an3 : Option Addr} {sl3 : Array (Option Value)}
    {C4 : Addr}
    {C5 : Addr}
    {C6 : Addr}
    (aWN : PySem.W.nsIn K mainGlobals "WITH_NUMBER" = some (some (.ref wn)))
    (aWO : PySem.W.nsIn K mainGlobals "WITHOUT_NUMBER" = some (some (.ref wo)))
    (lWN : K.lookup wn = some ⟨.type "tuple", odN, .seq #[.str "down" tn0, .str "up" tn1, .str "right" tn2, .str "left" tn3] nN, slN⟩)
    (lWO : K.lookup wo = some ⟨.type "tuple", odO, .seq #[.str "home" to0, .str "end" to1] nO, slO⟩)
    (a_is_count : PySem.W.nsIn K mainGlobals "is_count" = some (some (.ref f_is_count)))
    (l_is_count : K.lookup f_is_count = some ⟨oc_is_count, od_is_count, .func (PySem.W.fnOf "is_count" "is_count" (defArgs s_is_count) (defBody s_is_count) (defScope s_is_count) .none kV_is_count dc_is_count pm_is_count an_is_count cd_is_count ct_is_count), sl_is_count⟩)
    (c_is_count : PySem.W.codeIn K cd_is_count "is_count" = true)
    (k_is_count : PySem.W.keepIn K (.ref f_is_count) = true)
    (a_is_command : PySem.W.nsIn K mainGlobals "is_command" = some (some (.ref f_is_command)))
    (l_is_command : K.lookup f_is_command = some ⟨oc_is_command, od_is_command, .func (PySem.W.fnOf "is_command" "is_command" (defArgs s_is_command) (defBody s_is_command) (defScope s_is_command) .none kV_is_command dc_is_command pm_is_command an_is_command cd_is_command ct_is_command), sl_is_command⟩)
    (c_is_command : PySem.W.codeIn K cd_is_command "is_command" = true)
    (k_is_command : PySem.W.keepIn K (.ref f_is_command) = true)
    (a_check_commands : PySem.W.nsIn K mainGlobals "check_commands" = some (some (.ref f_check_commands)))
    (l_check_commands : K.lookup f_check_commands = some ⟨oc_check_commands, od_check_commands, .func (PySem.W.fnOf "check_commands" "check_commands" (defArgs s_check_commands) (defBody s_check_commands) (defScope s_check_commands) .none kV_check_commands dc_check_commands pm_check_commands an_check_commands cd_check_commands ct_check_commands), sl_check_commands⟩)
    (c_check_commands : PySem.W.codeIn K cd_check_commands "check_commands" = true)
    (k_check_commands : PySem.W.keepIn K (.ref f_check_commands) = true)
    (a_row_change : PySem.W.nsIn K mainGlobals "row_change" = some (some (.ref f_row_change)))
    (l_row_change : K.lookup f_row_change = some ⟨oc_row_change, od_row_change, .func (PySem.W.fnOf "row_change" "row_change" (defArgs s_row_change) (defBody s_row_change) (defScope s_row_change) .none kV_row_change dc_row_change pm_row_change an_row_change cd_row_change ct_row_change), sl_row_change⟩)
    (c_row_change : PySem.W.codeIn K cd_row_change "row_change" = true)
    (k_row_change : PySem.W.keepIn K (.ref f_row_change) = true)
    (a_check_text : PySem.W.nsIn K mainGlobals "check_text" = some (some (.ref f_check_text)))
    (l_check_text : K.lookup f_check_text = some ⟨oc_check_text, od_check_text, .func (PySem.W.fnOf "check_text" "check_text" (defArgs s_check_text) (defBody s_check_text) (defScope s_check_text) .none kV_check_text dc_check_text pm_check_text an_check_text cd_check_text ct_check_text), sl_check_text⟩)
    (c_check_text : PySem.W.codeIn K cd_check_text "check_text" = true)
    (k_check_text : PySem.W.keepIn K (.ref f_check_text) = true)
    (a_check_cursor : PySem.W.nsIn K mainGlobals "check_cursor" = some (some (.ref f_check_cursor)))
    (l_check_cursor : K.lookup f_check_cursor = some ⟨oc_check_cursor, od_check_cursor, .func (PySem.W.fnOf "check_cursor" "check_cursor" (defArgs s_check_cursor) (defBody s_check_cursor) (defScope s_check_cursor) .none kV_check_cursor dc_check_cursor pm_check_cursor an_check_cursor cd_check_cursor ct_check_cursor), sl_check_cursor⟩)
    (c_check_cursor : PySem.W.codeIn K cd_check_cursor "check_cursor" = true)
    (k_check_cursor : PySem.W.keepIn K (.ref f_check_cursor) = true)
    (a_run : PySem.W.nsIn K mainGlobals "run" = some (some (.ref f_run)))
    (l_run : K.lookup f_run = some ⟨oc_run, od_run, .func (PySem.W.fnOf "run" "run" (defArgs s_run) (defBody s_run) (defScope s_run) .none kV_run dc_run pm_run an_run cd_run ct_run), sl_run⟩)
    (c_run : PySem.W.codeIn K cd_run "run" = true)
    (k_run : PySem.W.keepIn K (.ref f_run) = true)
    (a_column : PySem.W.nsIn K mainGlobals "column" = some (some (.ref f_column)))
    (l_column : K.lookup f_column = some ⟨oc_column, od_column, .func (PySem.W.fnOf "column" "column" (defArgs s_column04) (defBody s_column04) (defScope s_column04) .none kV_column dc_column pm_column an_column cd_column ct_column), sl_column⟩)
    (c_column : PySem.W.codeIn K cd_column "column" = true)
    (k_column : PySem.W.keepIn K (.ref f_column) = true)
    (a_places : PySem.W.nsIn K mainGlobals "places" = some (some (.ref f_places)))
    (l_places : K.lookup f_places = some ⟨oc_places, od_places, .func (PySem.W.fnOf "places" "places" (defArgs s_places) (defBody s_places) (defScope s_places) .none kV_places dc_places pm_places an_places cd_places ct_places), sl_places⟩)
    (c_places : PySem.W.codeIn K cd_places "places" = true)
    (k_places : PySem.W.keepIn K (.ref f_places) = true)
    (a_reach : PySem.W.nsIn K mainGlobals "reach" = some (some (.ref f_reach)))
    (l_reach : K.lookup f_reach = some ⟨oc_reach, od_reach, .func (PySem.W.fnOf "reach" "reach" (defArgs s_reach) (defBody s_reach) (defScope s_reach) .none kV_reach dc_reach pm_reach an_reach cd_reach ct_reach), sl_reach⟩)
    (c_reach : PySem.W.codeIn K cd_reach "reach" = true)
    (k_reach : PySem.W.keepIn K (.ref f_reach) = true)
    (a_shown_column : PySem.W.nsIn K mainGlobals "shown_column" = some (some (.ref f_shown_column)))
    (l_shown_column : K.lookup f_shown_column = some ⟨oc_shown_column, od_shown_column, .func (PySem.W.fnOf "shown_column" "shown_column" (defArgs s_shown_column) (defBody s_shown_column) (defScope s_shown_column) .none kV_shown_column dc_shown_column pm_shown_column an_shown_column cd_shown_column ct_shown_column), sl_shown_column⟩)
    (c_shown_column : PySem.W.codeIn K cd_shown_column "shown_column" = true)
    (k_shown_column : PySem.W.keepIn K (.ref f_shown_column) = true)
    (a_moved : PySem.W.nsIn K mainGlobals "moved" = some (some (.ref f_moved)))
    (l_moved : K.lookup f_moved = some ⟨oc_moved, od_moved, .func (PySem.W.fnOf "moved" "moved" (defArgs s_moved) (defBody s_moved) (defScope s_moved) .none kV_moved dc_moved pm_moved an_moved cd_moved ct_moved), sl_moved⟩)
    (c_moved : PySem.W.codeIn K cd_moved "moved" = true)
    (k_moved : PySem.W.keepIn K (.ref f_moved) = true)
    (a_new_goal : PySem.W.nsIn K mainGlobals "new_goal" = some (some (.ref f_new_goal)))
    (l_new_goal : K.lookup f_new_goal = some ⟨oc_new_goal, od_new_goal, .func (PySem.W.fnOf "new_goal" "new_goal" (defArgs s_new_goal) (defBody s_new_goal) (defScope s_new_goal) .none kV_new_goal dc_new_goal pm_new_goal an_new_goal cd_new_goal ct_new_goal), sl_new_goal⟩)
    (c_new_goal : PySem.W.codeIn K cd_new_goal "new_goal" = true)
    (k_new_goal : PySem.W.keepIn K (.ref f_new_goal) = true)
    (a_law_source : PySem.W.nsIn K mainGlobals "_law_source" = some (some (.ref f_law_source)))
    (l_law_source : K.lookup f_law_source = some ⟨oc_law_source, od_law_source, .func (PySem.W.fnOf "_law_source" "_law_source" (defArgs s_source) (defBody s_source) (defScope s_source) .none kV_law_source dc_law_source pm_law_source an_law_source cd_law_source ct_law_source), sl_law_source⟩)
    (c_law_source : PySem.W.codeIn K cd_law_source "_law_source" = true)
    (k_law_source : PySem.W.keepIn K (.ref f_law_source) = true)
    (a_law_draw : PySem.W.nsIn K mainGlobals "_law_draw" = some (some (.ref f_law_draw)))
    (l_law_draw : K.lookup f_law_draw = some ⟨oc_law_draw, od_law_draw, .func (PySem.W.fnOf "_law_draw" "_law_draw" (defArgs s_sdraw) (defBody s_sdraw) (defScope s_sdraw) .none kV_law_draw dc_law_draw pm_law_draw an_law_draw cd_law_draw ct_law_draw), sl_law_draw⟩)
    (c_law_draw : PySem.W.codeIn K cd_law_draw "_law_draw" = true)
    (k_law_draw : PySem.W.keepIn K (.ref f_law_draw) = true)
    (a_law_same : PySem.W.nsIn K mainGlobals "_law_same" = some (some (.ref f_law_same)))
    (l_law_same : K.lookup f_law_same = some ⟨oc_law_same, od_law_same, .func (PySem.W.fnOf "_law_same" "_law_same" (defArgs s_same) (defBody s_same) (defScope s_same) .none kV_law_same dc_law_same pm_law_same an_law_same cd_law_same ct_law_same), sl_law_same⟩)
    (c_law_same : PySem.W.codeIn K cd_law_same "_law_same" = true)
    (k_law_same : PySem.W.keepIn K (.ref f_law_same) = true)
    (a_law_number : PySem.W.nsIn K mainGlobals "_law_number" = some (some (.ref f_law_number)))
    (l_law_number : K.lookup f_law_number = some ⟨oc_law_number, od_law_number, .func (PySem.W.fnOf "_law_number" "_law_number" (defArgs s_number) (defBody s_number) (defScope s_number) .none kV_law_number dc_law_number pm_law_number an_law_number cd_law_number ct_law_number), sl_law_number⟩)
    (c_law_number : PySem.W.codeIn K cd_law_number "_law_number" = true)
    (k_law_number : PySem.W.keepIn K (.ref f_law_number) = true)
    (a_law_command : PySem.W.nsIn K mainGlobals "_law_command" = some (some (.ref f_law_command)))
    (l_law_command : K.lookup f_law_command = some ⟨oc_law_command, od_law_command, .func (PySem.W.fnOf "_law_command" "_law_command" (defArgs s_command) (defBody s_command) (defScope s_command) .none kV_law_command dc_law_command pm_law_command an_law_command cd_law_command ct_law_command), sl_law_command⟩)
    (c_law_command : PySem.W.codeIn K cd_law_command "_law_command" = true)
    (k_law_command : PySem.W.keepIn K (.ref f_law_command) = true)
    (a_law_text : PySem.W.nsIn K mainGlobals "_law_text" = some (some (.ref f_law_text)))
    (l_law_text : K.lookup f_law_text = some ⟨oc_law_text, od_law_text, .func (PySem.W.fnOf "_law_text" "_law_text" (defArgs s_text) (defBody s_text) (defScope s_text) .none kV_law_text dc_law_text pm_law_text an_law_text cd_law_text ct_law_text), sl_law_text⟩)
    (c_law_text : PySem.W.codeIn K cd_law_text "_law_text" = true)
    (k_law_text : PySem.W.keepIn K (.ref f_law_text) = true)
    (a_law_cursor : PySem.W.nsIn K mainGlobals "_law_cursor" = some (some (.ref f_law_cursor)))
    (l_law_cursor : K.lookup f_law_cursor = some ⟨oc_law_cursor, od_law_cursor, .func (PySem.W.fnOf "_law_cursor" "_law_cursor" (defArgs s_cursor) (defBody s_cursor) (defScope s_cursor) .none kV_law_cursor dc_law_cursor pm_law_cursor an_law_cursor cd_law_cursor ct_law_cursor), sl_law_cursor⟩)
    (c_law_cursor : PySem.W.codeIn K cd_law_cursor "_law_cursor" = true)
    (k_law_cursor : PySem.W.keepIn K (.ref f_law_cursor) = true)
    (a_law_shown : PySem.W.nsIn K mainGlobals "_law_shown" = some (some (.ref f_law_shown)))
    (l_law_shown : K.lookup f_law_shown = some ⟨oc_law_shown, od_law_shown, .func (PySem.W.fnOf "_law_shown" "_law_shown" (defArgs s_lshown) (defBody s_lshown) (defScope s_lshown) .none kV_law_shown dc_law_shown pm_law_shown an_law_shown cd_law_shown ct_law_shown), sl_law_shown⟩)
    (c_law_shown : PySem.W.codeIn K cd_law_shown "_law_shown" = true)
    (k_law_shown : PySem.W.keepIn K (.ref f_law_shown) = true)
    (a_law_moved : PySem.W.nsIn K mainGlobals "_law_moved" = some (some (.ref f_law_moved)))
    (l_law_moved : K.lookup f_law_moved = some ⟨oc_law_moved, od_law_moved, .func (PySem.W.fnOf "_law_moved" "_law_moved" (defArgs s_lmoved) (defBody s_lmoved) (defScope s_lmoved) .none kV_law_moved dc_law_moved pm_law_moved an_law_moved cd_law_moved ct_law_moved), sl_law_moved⟩)
    (c_law_moved : PySem.W.codeIn K cd_law_moved "_law_moved" = true)
    (k_law_moved : PySem.W.keepIn K (.ref f_law_moved) = true)
    (a_law_fitting : PySem.W.nsIn K mainGlobals "_law_fitting" = some (some (.ref f_law_fitting)))
    (l_law_fitting : K.lookup f_law_fitting = some ⟨oc_law_fitting, od_law_fitting, .func (PySem.W.fnOf "_law_fitting" "_law_fitting" (defArgs s_fitting) (defBody s_fitting) (defScope s_fitting) .none kV_law_fitting dc_law_fitting pm_law_fitting an_law_fitting cd_law_fitting ct_law_fitting), sl_law_fitting⟩)
    (c_law_fitting : PySem.W.codeIn K cd_law_fitting "_law_fitting" = true)
    (k_law_fitting : PySem.W.keepIn K (.ref f_law_fitting) = true)
    (a_law_error : PySem.W.nsIn K mainGlobals "_law_error" = some (some (.ref f_law_error)))
    (l_law_error : K.lookup f_law_error = some ⟨oc_law_error, od_law_error, .func (PySem.W.fnOf "_law_error" "_law_error" (defArgs s_error) (defBody s_error) (defScope s_error) .none kV_law_error dc_law_error pm_law_error an_law_error cd_law_error ct_law_error), sl_law_error⟩)
    (c_law_error : PySem.W.codeIn K cd_law_error "_law_error" = true)
    (k_law_error : PySem.W.keepIn K (.ref f_law_error) = true)
    (a_law_bent_text : PySem.W.nsIn K mainGlobals "_law_bent_text" = some (some (.ref f_law_bent_text)))
    (l_law_bent_text : K.lookup f_law_bent_text = some ⟨oc_law_bent_text, od_law_bent_text, .func (PySem.W.fnOf "_law_bent_text" "_law_bent_text" (defArgs s_bentt) (defBody s_bentt) (defScope s_bentt) .none kV_law_bent_text dc_law_bent_text pm_law_bent_text an_law_bent_text cd_law_bent_text ct_law_bent_text), sl_law_bent_text⟩)
    (c_law_bent_text : PySem.W.codeIn K cd_law_bent_text "_law_bent_text" = true)
    (k_law_bent_text : PySem.W.keepIn K (.ref f_law_bent_text) = true)
    (a_law_bent_cursor : PySem.W.nsIn K mainGlobals "_law_bent_cursor" = some (some (.ref f_law_bent_cursor)))
    (l_law_bent_cursor : K.lookup f_law_bent_cursor = some ⟨oc_law_bent_cursor, od_law_bent_cursor, .func (PySem.W.fnOf "_law_bent_cursor" "_law_bent_cursor" (defArgs s_bentc) (defBody s_bentc) (defScope s_bentc) .none kV_law_bent_cursor dc_law_bent_cursor pm_law_bent_cursor an_law_bent_cursor cd_law_bent_cursor ct_law_bent_cursor), sl_law_bent_cursor⟩)
    (c_law_bent_cursor : PySem.W.codeIn K cd_law_bent_cursor "_law_bent_cursor" = true)
    (k_law_bent_cursor : PySem.W.keepIn K (.ref f_law_bent_cursor) = true)
    (a_law_bent_commands : PySem.W.nsIn K mainGlobals "_law_bent_commands" = some (some (.ref f_law_bent_commands)))
    (l_law_bent_commands : K.lookup f_law_bent_commands = some ⟨oc_law_bent_commands, od_law_bent_commands, .func (PySem.W.fnOf "_law_bent_commands" "_law_bent_commands" (defArgs s_bentk) (defBody s_bentk) (defScope s_bentk) .none kV_law_bent_commands dc_law_bent_commands pm_law_bent_commands an_law_bent_commands cd_law_bent_commands ct_law_bent_commands), sl_law_bent_commands⟩)
    (c_law_bent_commands : PySem.W.codeIn K cd_law_bent_commands "_law_bent_commands" = true)
    (k_law_bent_commands : PySem.W.keepIn K (.ref f_law_bent_commands) = true)
    (a_law_first_bad : PySem.W.nsIn K mainGlobals "_law_first_bad" = some (some (.ref f_law_first_bad)))
    (l_law_first_bad : K.lookup f_law_first_bad = some ⟨oc_law_first_bad, od_law_first_bad, .func (PySem.W.fnOf "_law_first_bad" "_law_first_bad" (defArgs s_first) (defBody s_first) (defScope s_first) .none kV_law_first_bad dc_law_first_bad pm_law_first_bad an_law_first_bad cd_law_first_bad ct_law_first_bad), sl_law_first_bad⟩)
    (c_law_first_bad : PySem.W.codeIn K cd_law_first_bad "_law_first_bad" = true)
    (k_law_first_bad : PySem.W.keepIn K (.ref f_law_first_bad) = true)
    (a_law_due : PySem.W.nsIn K mainGlobals "_law_due" = some (some (.ref f_law_due)))
    (l_law_due : K.lookup f_law_due = some ⟨oc_law_due, od_law_due, .func (PySem.W.fnOf "_law_due" "_law_due" (defArgs s_due04) (defBody s_due04) (defScope s_due04) .none kV_law_due dc_law_due pm_law_due an_law_due cd_law_due ct_law_due), sl_law_due⟩)
    (c_law_due : PySem.W.codeIn K cd_law_due "_law_due" = true)
    (k_law_due : PySem.W.keepIn K (.ref f_law_due) = true)
    (a_law_raised : PySem.W.nsIn K mainGlobals "_law_raised" = some (some (.ref f_law_raised)))
    (l_law_raised : K.lookup f_law_raised = some ⟨oc_law_raised, od_law_raised, .func (PySem.W.fnOf "_law_raised" "_law_raised" (defArgs s_raised) (defBody s_raised) (defScope s_raised) .none kV_law_raised dc_law_raised pm_law_raised an_law_raised cd_law_raised ct_law_raised), sl_law_raised⟩)
    (c_law_raised : PySem.W.codeIn K cd_law_raised "_law_raised" = true)
    (k_law_raised : PySem.W.keepIn K (.ref f_law_raised) = true)
    (a_law : PySem.W.nsIn K mainGlobals "law" = some (some (.ref f_law)))
    (l_law : K.lookup f_law = some ⟨oc_law, od_law, .func (PySem.W.fnOf "law" "law" (defArgs s_law) (defBody s_law) (defScope s_law) .none kV_law dc_law pm_law an_law cd_law ct_law), sl_law⟩)
    (c_law : PySem.W.codeIn K cd_law "law" = true)
    (k_law : PySem.W.keepIn K (.ref f_law) = true)
    (z_isinstance : PySem.W.nsIn K mainGlobals "isinstance" = some none)
    (z_int : PySem.W.nsIn K mainGlobals "int" = some none)
    (z_bool : PySem.W.nsIn K mainGlobals "bool" = some none)
    (z_len : PySem.W.nsIn K mainGlobals "len" = some none)
    (z_enumerate : PySem.W.nsIn K mainGlobals "enumerate" = some none)
    (z_reversed : PySem.W.nsIn K mainGlobals "reversed" = some none)
    (z_sorted : PySem.W.nsIn K mainGlobals "sorted" = some none)
    (z_max : PySem.W.nsIn K mainGlobals "max" = some none)
    (z_min : PySem.W.nsIn K mainGlobals "min" = some none)
    (z_range : PySem.W.nsIn K mainGlobals "range" = some none)
    (z_list : PySem.W.nsIn K mainGlobals "list" = some none)
    (z_str : PySem.W.nsIn K mainGlobals "str" = some none)
    (z_tuple : PySem.W.nsIn K mainGlobals "tuple" = some none)
    (z_repr : PySem.W.nsIn K mainGlobals "repr" = some none)
    (z_ValueError : PySem.W.nsIn K mainGlobals "ValueError" = some none)
    (aE : PySem.W.nsIn K mainGlobals "CursorError" = some (some (.ref CE)))
    (yE : PySem.W.typeIn K (.ref CE) = some (.type "type"))
    (bE : PySem.W.subIn K (.ref CE) (.type "BaseException") = some true)
    (hE : PySem.W.hasDictIn K CE = true)
    (icE : PySem.W.isClsIn K CE = true)
    (gt : PySem.W.specialIn K (.builtin "object.__class__") "__get__" = some (some (.builtin "getset_descriptor.__get__")))
    (tk : PySem.W.takesIn K (.builtin "object.__class__") = some true)
    (a0 : PySem.W.nsIn K mainGlobals "InvalidText" = some (some (.ref C0)))
    (ty0 : PySem.W.typeIn K (.ref C0) = some (.type "type"))
    (ic0 : PySem.W.isClsIn K C0 = true)
    (x0 : K.lookup C0 = some (excClassObj nm0 q0 C0 N0 bs0 [.ref CE, .type "ValueError", .type "Exception", .type "BaseException", .type "object"] true sn0 sub0 ab0 col0 dd0 p0_0 p0_1 p0_2 p0_3 p0_5 "ValueError.__new__"))
    (sa0 : PySem.W.findIn K (.ref C0) "__setattr__" = some (some (.builtin "object.__setattr__")))
    (ga0 : PySem.W.findIn K (.ref C0) "__getattribute__" = some (some (.builtin "BaseException.__getattribute__")))
    (gg0 : PySem.W.findIn K (.ref C0) "__getattr__" = some none)
    (no0 : PySem.W.findIn K (.ref C0) "value" = some none)
    (cc0 : PySem.W.findIn K (.ref C0) "__class__" = some (some (.builtin "object.__class__")))
    (in0 : PySem.W.findIn K (.ref C0) "__init__" = some (some (.ref f0)))
    (ti0 : PySem.W.typeIn K (.ref f0) = some (.type "function"))
    (l0 : K.lookup f0 = some ⟨oc0, od0, .func (PySem.W.fnOf "__init__" "InvalidText.__init__" (defArgs sI0) (defBody sI0) (defScope sI0) .none kV0 dc0 pm0 an0 cd0 ct0), sl0⟩)
    (c0 : PySem.W.codeIn K cd0 "InvalidText.__init__" = true)
    (k0 : PySem.W.keepIn K (.ref f0) = true)
    (kc0 : PySem.W.keepIn K (.ref C0) = true)
    (be0 : PySem.W.subIn K (.ref C0) (.type "BaseException") = some true)
    (ve0 : PySem.W.subIn K (.ref C0) (.type "ValueError") = some true)
    (hd0 : PySem.W.hasDictIn K C0 = true)
    (mo0 : PySem.W.mroIn K C0 (.type "object") = some true)
    (se0 : PySem.W.subIn K (.ref C0) (.ref CE) = some true)
    (a1 : PySem.W.nsIn K mainGlobals "InvalidCursor" = some (some (.ref C1)))
    (ty1 : PySem.W.typeIn K (.ref C1) = some (.type "type"))
    (ic1 : PySem.W.isClsIn K C1 = true)
    (x1 : K.lookup C1 = some (excClassObj nm1 q1 C1 N1 bs1 [.ref CE, .type "ValueError", .type "Exception", .type "BaseException", .type "object"] true sn1 sub1 ab1 col1 dd1 p1_0 p1_1 p1_2 p1_3 p1_5 "ValueError.__new__"))
    (sa1 : PySem.W.findIn K (.ref C1) "__setattr__" = some (some (.builtin "object.__setattr__")))
    (ga1 : PySem.W.findIn K (.ref C1) "__getattribute__" = some (some (.builtin "BaseException.__getattribute__")))
    (gg1 : PySem.W.findIn K (.ref C1) "__getattr__" = some none)
    (no1 : PySem.W.findIn K (.ref C1) "value" = some none)
    (cc1 : PySem.W.findIn K (.ref C1) "__class__" = some (some (.builtin "object.__class__")))
    (in1 : PySem.W.findIn K (.ref C1) "__init__" = some (some (.ref f1)))
    (ti1 : PySem.W.typeIn K (.ref f1) = some (.type "function"))
    (l1 : K.lookup f1 = some ⟨oc1, od1, .func (PySem.W.fnOf "__init__" "InvalidCursor.__init__" (defArgs sI1) (defBody sI1) (defScope sI1) .none kV1 dc1 pm1 an1 cd1 ct1), sl1⟩)
    (c1 : PySem.W.codeIn K cd1 "InvalidCursor.__init__" = true)
    (k1 : PySem.W.keepIn K (.ref f1) = true)
    (kc1 : PySem.W.keepIn K (.ref C1) = true)
    (be1 : PySem.W.subIn K (.ref C1) (.type "BaseException") = some true)
    (ve1 : PySem.W.subIn K (.ref C1) (.type "ValueError") = some true)
    (hd1 : PySem.W.hasDictIn K C1 = true)
    (mo1 : PySem.W.mroIn K C1 (.type "object") = some true)
    (se1 : PySem.W.subIn K (.ref C1) (.ref CE) = some true)
    (a2 : PySem.W.nsIn K mainGlobals "InvalidCommand" = some (some (.ref C2)))
    (ty2 : PySem.W.typeIn K (.ref C2) = some (.type "type"))
    (ic2 : PySem.W.isClsIn K C2 = true)
    (x2 : K.lookup C2 = some (excClassObj nm2 q2 C2 N2 bs2 [.ref CE, .type "ValueError", .type "Exception", .type "BaseException", .type "object"] true sn2 sub2 ab2 col2 dd2 p2_0 p2_1 p2_2 p2_3 p2_5 "ValueError.__new__"))
    (sa2 : PySem.W.findIn K (.ref C2) "__setattr__" = some (some (.builtin "object.__setattr__")))
    (ga2 : PySem.W.findIn K (.ref C2) "__getattribute__" = some (some (.builtin "BaseException.__getattribute__")))
    (gg2 : PySem.W.findIn K (.ref C2) "__getattr__" = some none)
    (no2 : PySem.W.findIn K (.ref C2) "value" = some none)
    (cc2 : PySem.W.findIn K (.ref C2) "__class__" = some (some (.builtin "object.__class__")))
    (in2 : PySem.W.findIn K (.ref C2) "__init__" = some (some (.ref f2)))
    (ti2 : PySem.W.typeIn K (.ref f2) = some (.type "function"))
    (l2 : K.lookup f2 = some ⟨oc2, od2, .func (PySem.W.fnOf "__init__" "InvalidCommand.__init__" (defArgs sI2) (defBody sI2) (defScope sI2) .none kV2 dc2 pm2 an2 cd2 ct2), sl2⟩)
    (c2 : PySem.W.codeIn K cd2 "InvalidCommand.__init__" = true)
    (k2 : PySem.W.keepIn K (.ref f2) = true)
    (kc2 : PySem.W.keepIn K (.ref C2) = true)
    (be2 : PySem.W.subIn K (.ref C2) (.type "BaseException") = some true)
    (ve2 : PySem.W.subIn K (.ref C2) (.type "ValueError") = some true)
    (hd2 : PySem.W.hasDictIn K C2 = true)
    (mo2 : PySem.W.mroIn K C2 (.type "object") = some true)
    (se2 : PySem.W.subIn K (.ref C2) (.ref CE) = some true)
    (a3 : PySem.W.nsIn K mainGlobals "Impossible" = some (some (.ref C3)))
    (ty3 : PySem.W.typeIn K (.ref C3) = some (.type "type"))
    (ic3 : PySem.W.isClsIn K C3 = true)
    (x3 : K.lookup C3 = some (excClassObj nm3 q3 C3 N3 bs3 [.ref CE, .type "ValueError", .type "Exception", .type "BaseException", .type "object"] true sn3 sub3 ab3 col3 dd3 p3_0 p3_1 p3_2 p3_3 p3_5 "ValueError.__new__"))
    (sa3 : PySem.W.findIn K (.ref C3) "__setattr__" = some (some (.builtin "object.__setattr__")))
    (ga3 : PySem.W.findIn K (.ref C3) "__getattribute__" = some (some (.builtin "BaseException.__getattribute__")))
    (gg3 : PySem.W.findIn K (.ref C3) "__getattr__" = some none)
    (no3 : PySem.W.findIn K (.ref C3) "value" = some none)
    (cc3 : PySem.W.findIn K (.ref C3) "__class__" = some (some (.builtin "object.__class__")))
    (in3 : PySem.W.findIn K (.ref C3) "__init__" = some (some (.ref f3)))
    (ti3 : PySem.W.typeIn K (.ref f3) = some (.type "function"))
    (l3 : K.lookup f3 = some ⟨oc3, od3, .func (PySem.W.fnOf "__init__" "Impossible.__init__" (defArgs sI3) (defBody sI3) (defScope sI3) .none kV3 dc3 pm3 an3 cd3 ct3), sl3⟩)
    (c3 : PySem.W.codeIn K cd3 "Impossible.__init__" = true)
    (k3 : PySem.W.keepIn K (.ref f3) = true)
    (kc3 : PySem.W.keepIn K (.ref C3) = true)
    (be3 : PySem.W.subIn K (.ref C3) (.type "BaseException") = some true)
    (ve3 : PySem.W.subIn K (.ref C3) (.type "ValueError") = some true)
    (hd3 : PySem.W.hasDictIn K C3 = true)
    (mo3 : PySem.W.mroIn K C3 (.type "object") = some true)
    (se3 : PySem.W.subIn K (.ref C3) (.ref CE) = some true)
    (a4 : PySem.W.nsIn K mainGlobals "InvalidNumber" = some (some (.ref C4)))
    (ty4 : PySem.W.typeIn K (.ref C4) = some (.type "type"))
    (ic4 : PySem.W.isClsIn K C4 = true)
    (a5 : PySem.W.nsIn K mainGlobals "NothingToUndo" = some (some (.ref C5)))
    (ty5 : PySem.W.typeIn K (.ref C5) = some (.type "type"))
    (ic5 : PySem.W.isClsIn K C5 = true)
    (a6 : PySem.W.nsIn K mainGlobals "Unreadable" = some (some (.ref C6)))
    (ty6 : PySem.W.typeIn K (.ref C6) = some (.type "type"))
    (ic6 : PySem.W.isClsIn K C6 = true)
    (s0_0 : PySem.W.subIn K (.ref C0) (.ref C0) = some true)
    (s0_1 : PySem.W.subIn K (.ref C0) (.ref C1) = some false)
    (s0_2 : PySem.W.subIn K (.ref C0) (.ref C2) = some false)
    (s0_3 : PySem.W.subIn K (.ref C0) (.ref C3) = some false)
    (s0_4 : PySem.W.subIn K (.ref C0) (.ref C4) = some false)
    (s0_5 : PySem.W.subIn K (.ref C0) (.ref C5) = some false)
    (s0_6 : PySem.W.subIn K (.ref C0) (.ref C6) = some false)
    (s1_0 : PySem.W.subIn K (.ref C1) (.ref C0) = some false)
    (s1_1 : PySem.W.subIn K (.ref C1) (.ref C1) = some true)
    (s1_2 : PySem.W.subIn K (.ref C1) (.ref C2) = some false)
    (s1_3 : PySem.W.subIn K (.ref C1) (.ref C3) = some false)
    (s1_4 : PySem.W.subIn K (.ref C1) (.ref C4) = some false)
    (s1_5 : PySem.W.subIn K (.ref C1) (.ref C5) = some false)
    (s1_6 : PySem.W.subIn K (.ref C1) (.ref C6) = some false)
    (s2_0 : PySem.W.subIn K (.ref C2) (.ref C0) = some false)
    (s2_1 : PySem.W.subIn K (.ref C2) (.ref C1) = some false)
    (s2_2 : PySem.W.subIn K (.ref C2) (.ref C2) = some true)
    (s2_3 : PySem.W.subIn K (.ref C2) (.ref C3) = some false)
    (s2_4 : PySem.W.subIn K (.ref C2) (.ref C4) = some false)
    (s2_5 : PySem.W.subIn K (.ref C2) (.ref C5) = some false)
    (s2_6 : PySem.W.subIn K (.ref C2) (.ref C6) = some false)
    (s3_0 : PySem.W.subIn K (.ref C3) (.ref C0) = some false)
    (s3_1 : PySem.W.subIn K (.ref C3) (.ref C1) = some false)
    (s3_2 : PySem.W.subIn K (.ref C3) (.ref C2) = some false)
    (s3_3 : PySem.W.subIn K (.ref C3) (.ref C3) = some true)
    (s3_4 : PySem.W.subIn K (.ref C3) (.ref C4) = some false)
    (s3_5 : PySem.W.subIn K (.ref C3) (.ref C5) = some false)
    (s3_6 : PySem.W.subIn K (.ref C3) (.ref C6) = some false)
    (nS0 : PySem.W.subIn K (.ref C0) (.type "StopIteration") = some false)
    (nS1 : PySem.W.subIn K (.ref C1) (.type "StopIteration") = some false)
    (nS2 : PySem.W.subIn K (.ref C2) (.type "StopIteration") = some false)
    (nS3 : PySem.W.subIn K (.ref C3) (.type "StopIteration") = some false) :
    ∃ fd : FuncData, (∀ (s : Shared) (v : Value), BindsTo s fd ⟨[v], []⟩ [("script", v)]) ∧ ∀ base : Heap, K.In base → base.Ns mainGlobals mg → FnG l.prog w K mg base 10 fa fd ["script"] (spLaw K) := by
  have e := hfa.symm.trans (PySem.W.mg_of X G a_law)
  cases e
  have F_is_count := fun_mk (st := s_is_count) l_is_count c_is_count k_is_count
  have F_is_command := fun_mk (st := s_is_command) l_is_command c_is_command k_is_command
  have F_check_commands := fun_mk (st := s_check_commands) l_check_commands c_check_commands k_check_commands
  have F_row_change := fun_mk (st := s_row_change) l_row_change c_row_change k_row_change
  have F_check_text := fun_mk (st := s_check_text) l_check_text c_check_text k_check_text
  have F_check_cursor := fun_mk (st := s_check_cursor) l_check_cursor c_check_cursor k_check_cursor
  have F_run := fun_mk (st := s_run) l_run c_run k_run
  have F_column := fun_mk (st := s_column04) l_column c_column k_column
  have F_places := fun_mk (st := s_places) l_places c_places k_places
  have F_reach := fun_mk (st := s_reach) l_reach c_reach k_reach
  have F_shown_column := fun_mk (st := s_shown_column) l_shown_column c_shown_column k_shown_column
  have F_moved := fun_mk (st := s_moved) l_moved c_moved k_moved
  have F_new_goal := fun_mk (st := s_new_goal) l_new_goal c_new_goal k_new_goal
  have F_law_source := fun_mk (st := s_source) l_law_source c_law_source k_law_source
  have F_law_draw := fun_mk (st := s_sdraw) l_law_draw c_law_draw k_law_draw
  have F_law_same := fun_mk (st := s_same) l_law_same c_law_same k_law_same
  have F_law_number := fun_mk (st := s_number) l_law_number c_law_number k_law_number
  have F_law_command := fun_mk (st := s_command) l_law_command c_law_command k_law_command
  have F_law_text := fun_mk (st := s_text) l_law_text c_law_text k_law_text
  have F_law_cursor := fun_mk (st := s_cursor) l_law_cursor c_law_cursor k_law_cursor
  have F_law_shown := fun_mk (st := s_lshown) l_law_shown c_law_shown k_law_shown
  have F_law_moved := fun_mk (st := s_lmoved) l_law_moved c_law_moved k_law_moved
  have F_law_fitting := fun_mk (st := s_fitting) l_law_fitting c_law_fitting k_law_fitting
  have F_law_error := fun_mk (st := s_error) l_law_error c_law_error k_law_error
  have F_law_bent_text := fun_mk (st := s_bentt) l_law_bent_text c_law_bent_text k_law_bent_text
  have F_law_bent_cursor := fun_mk (st := s_bentc) l_law_bent_cursor c_law_bent_cursor k_law_bent_cursor
  have F_law_bent_commands := fun_mk (st := s_bentk) l_law_bent_commands c_law_bent_commands k_law_bent_commands
  have F_law_first_bad := fun_mk (st := s_first) l_law_first_bad c_law_first_bad k_law_first_bad
  have F_law_due := fun_mk (st := s_due04) l_law_due c_law_due k_law_due
  have F_law_raised := fun_mk (st := s_raised) l_law_raised c_law_raised k_law_raised
  have F_law := fun_mk (st := s_law) l_law c_law k_law
  have b_is_count := F_is_count.binds (ps := ["number"]) fun _ _ _ _ _ _ us hl => match us, hl with | [_], _ => rfl
  have b_is_command := F_is_command.binds (ps := ["command"]) fun _ _ _ _ _ _ us hl => match us, hl with | [_], _ => rfl
  have b_check_commands := F_check_commands.binds (ps := ["commands"]) fun _ _ _ _ _ _ us hl => match us, hl with | [_], _ => rfl
  have b_row_change := F_row_change.binds (ps := ["command"]) fun _ _ _ _ _ _ us hl => match us, hl with | [_], _ => rfl
  have b_check_text := F_check_text.binds (ps := ["text"]) fun _ _ _ _ _ _ us hl => match us, hl with | [_], _ => rfl
  have b_check_cursor := F_check_cursor.binds (ps := ["lines", "cursor"]) fun _ _ _ _ _ _ us hl => match us, hl with | [_, _], _ => rfl
  have b_run := F_run.binds (ps := ["text", "cursor", "commands"]) fun _ _ _ _ _ _ us hl => match us, hl with | [_, _, _], _ => rfl
  have b_column := F_column.binds (ps := ["text", "cursor"]) fun _ _ _ _ _ _ us hl => match us, hl with | [_, _], _ => rfl
  have b_places := F_places.binds (ps := ["text", "cursor", "commands"]) fun _ _ _ _ _ _ us hl => match us, hl with | [_, _, _], _ => rfl
  have b_reach := F_reach.binds (ps := ["commands"]) fun _ _ _ _ _ _ us hl => match us, hl with | [_], _ => rfl
  have b_shown_column := F_shown_column.binds (ps := ["length", "goal"]) fun _ _ _ _ _ _ us hl => match us, hl with | [_, _], _ => rfl
  have b_moved := F_moved.binds (ps := ["text", "cursor", "command"]) fun _ _ _ _ _ _ us hl => match us, hl with | [_, _, _], _ => rfl
  have b_new_goal := F_new_goal.binds (ps := ["length", "goal", "command"]) fun _ _ _ _ _ _ us hl => match us, hl with | [_, _, _], _ => rfl
  have b_law_source := F_law_source.binds (ps := ["script"]) fun _ _ _ _ _ _ us hl => match us, hl with | [_], _ => rfl
  have b_law_draw := F_law_draw.binds (ps := ["source", "many"]) fun _ _ _ _ _ _ us hl => match us, hl with | [_, _], _ => rfl
  have b_law_same := F_law_same.binds (ps := ["found", "wanted"]) fun _ _ _ _ _ _ us hl => match us, hl with | [_, _], _ => rfl
  have b_law_number := F_law_number.binds (ps := ["source"]) fun _ _ _ _ _ _ us hl => match us, hl with | [_], _ => rfl
  have b_law_command := F_law_command.binds (ps := ["source"]) fun _ _ _ _ _ _ us hl => match us, hl with | [_], _ => rfl
  have b_law_text := F_law_text.binds (ps := ["source", "most"]) fun _ _ _ _ _ _ us hl => match us, hl with | [_, _], _ => rfl
  have b_law_cursor := F_law_cursor.binds (ps := ["source", "sheet"]) fun _ _ _ _ _ _ us hl => match us, hl with | [_, _], _ => rfl
  have b_law_shown := F_law_shown.binds (ps := ["sheet", "spot"]) fun _ _ _ _ _ _ us hl => match us, hl with | [_, _], _ => rfl
  have b_law_moved := F_law_moved.binds (ps := ["sheet", "spot", "command"]) fun _ _ _ _ _ _ us hl => match us, hl with | [_, _, _], _ => rfl
  have b_law_fitting := F_law_fitting.binds (ps := ["source", "sheet", "spot", "many"]) fun _ _ _ _ _ _ us hl => match us, hl with | [_, _, _, _], _ => rfl
  have b_law_error := F_law_error.binds (ps := ["e"]) fun _ _ _ _ _ _ us hl => match us, hl with | [_], _ => rfl
  have b_law_bent_text := F_law_bent_text.binds (ps := ["source", "sheet"]) fun _ _ _ _ _ _ us hl => match us, hl with | [_, _], _ => rfl
  have b_law_bent_cursor := F_law_bent_cursor.binds (ps := ["source", "sheet", "spot"]) fun _ _ _ _ _ _ us hl => match us, hl with | [_, _, _], _ => rfl
  have b_law_bent_commands := F_law_bent_commands.binds (ps := ["source", "moves"]) fun _ _ _ _ _ _ us hl => match us, hl with | [_, _], _ => rfl
  have b_law_first_bad := F_law_first_bad.binds (ps := ["moves"]) fun _ _ _ _ _ _ us hl => match us, hl with | [_], _ => rfl
  have b_law_due := F_law_due.binds (ps := ["sheet", "spot", "moves"]) fun _ _ _ _ _ _ us hl => match us, hl with | [_, _, _], _ => rfl
  have b_law_raised := F_law_raised.binds (ps := ["door", "sheet", "spot", "moves"]) fun _ _ _ _ _ _ us hl => match us, hl with | [_, _, _, _], _ => rfl
  refine ⟨PySem.W.fnOf "law" "law" (defArgs s_law) (defBody s_law) (defScope s_law) .none kV_law dc_law pm_law an_law cd_law ct_law, fun s v => .of_eq rfl, fun base hb gb => ?_⟩
  have TB : TxtB K mg wo wn := {
    g_WITHOUT_NUMBER := PySem.W.mg_of X G aWO
    g_WITH_NUMBER := PySem.W.mg_of X G aWN
    tWO := fun H => .inr ⟨_, _, _, lWO, rfl, rfl, (by show 2 ≤ sizeLine; decide), .cons ⟨_, rfl⟩ (.cons ⟨_, rfl⟩ .nil)⟩
    tWN := fun H => .inr ⟨_, _, _, lWN, rfl, rfl, (by show 4 ≤ sizeLine; decide), .cons ⟨_, rfl⟩ (.cons ⟨_, rfl⟩ (.cons ⟨_, rfl⟩ (.cons ⟨_, rfl⟩ .nil)))⟩
    isinstance := PySem.W.mg_none_of X G z_isinstance
    int := PySem.W.mg_none_of X G z_int
    bool := PySem.W.mg_none_of X G z_bool
    len := PySem.W.mg_none_of X G z_len
    enumerate := PySem.W.mg_none_of X G z_enumerate
    reversed := PySem.W.mg_none_of X G z_reversed
    sorted := PySem.W.mg_none_of X G z_sorted
    max := PySem.W.mg_none_of X G z_max
    min := PySem.W.mg_none_of X G z_min }
  have TD : TxtD mg := { max := PySem.W.mg_none_of X G z_max }
  have TS : TxtS mg := { isinstance := PySem.W.mg_none_of X G z_isinstance, bool := PySem.W.mg_none_of X G z_bool, int := PySem.W.mg_none_of X G z_int, str := PySem.W.mg_none_of X G z_str, list := PySem.W.mg_none_of X G z_list, tuple := PySem.W.mg_none_of X G z_tuple, len := PySem.W.mg_none_of X G z_len, range := PySem.W.mg_none_of X G z_range }
  have TSh : TxtSh mg := { range := PySem.W.mg_none_of X G z_range, len := PySem.W.mg_none_of X G z_len, int := PySem.W.mg_none_of X G z_int }
  have TMv : TxtMv mg := { int := PySem.W.mg_none_of X G z_int, len := PySem.W.mg_none_of X G z_len }
  have TFt : TxtFt mg := { range := PySem.W.mg_none_of X G z_range, len := PySem.W.mg_none_of X G z_len }
  have TBc : TxtBc mg := { len := PySem.W.mg_none_of X G z_len }
  have TBt : TxtBt mg := { len := PySem.W.mg_none_of X G z_len, list := PySem.W.mg_none_of X G z_list, range := PySem.W.mg_none_of X G z_range }
  have TBk : TxtBk04 mg := { len := PySem.W.mg_none_of X G z_len, list := PySem.W.mg_none_of X G z_list, range := PySem.W.mg_none_of X G z_range }
  have TFb : TxtFb mg := { enumerate := PySem.W.mg_none_of X G z_enumerate, len := PySem.W.mg_none_of X G z_len }
  have TDu : TxtDu04 mg := { enumerate := PySem.W.mg_none_of X G z_enumerate, len := PySem.W.mg_none_of X G z_len }
  have TLw : TxtL04 mg := { len := PySem.W.mg_none_of X G z_len, min := PySem.W.mg_none_of X G z_min, range := PySem.W.mg_none_of X G z_range, repr := PySem.W.mg_none_of X G z_repr }
  have C_is_count : Cal l.prog w K mg base 1 "is_count" spCount := ⟨_, _, _, ok_is_count F_is_count TB, PySem.W.mg_of X G a_is_count, k_is_count, b_is_count⟩
  have C_is_command : Cal l.prog w K mg base 2 "is_command" (spIsCmd K) := ⟨_, _, _, ok_is_command F_is_command TB C_is_count, PySem.W.mg_of X G a_is_command, k_is_command, b_is_command⟩
  have C_check_commands : Cal l.prog w K mg base 3 "check_commands" (spCheck K) := ⟨_, _, _, ok_check_commands F_check_commands TB C_is_command, PySem.W.mg_of X G a_check_commands, k_check_commands, b_check_commands⟩
  have C_row_change : Cal l.prog w K mg base 1 "row_change" (spRow K) := ⟨_, _, _, ok_row_change F_row_change, PySem.W.mg_of X G a_row_change, k_row_change, b_row_change⟩
  have C_check_text : Cal l.prog w K mg base 1 "check_text" (spText K) := ⟨_, _, _, ok_check_text F_check_text TB, PySem.W.mg_of X G a_check_text, k_check_text, b_check_text⟩
  have C_check_cursor : Cal l.prog w K mg base 1 "check_cursor" (spCursor K) := ⟨_, _, _, ok_check_cursor F_check_cursor, PySem.W.mg_of X G a_check_cursor, k_check_cursor, b_check_cursor⟩
  have C_shown_column : Cal l.prog w K mg base 1 "shown_column" spShown := ⟨_, _, _, ok_shown_column F_shown_column TB, PySem.W.mg_of X G a_shown_column, k_shown_column, b_shown_column⟩
  have C_new_goal : Cal l.prog w K mg base 2 "new_goal" (spGoal K) := ⟨_, _, _, ok_new_goal F_new_goal TB C_shown_column, PySem.W.mg_of X G a_new_goal, k_new_goal, b_new_goal⟩
  have C_moved : Cal l.prog w K mg base 3 "moved" (spMoved K) := ⟨_, _, _, ok_moved F_moved TB C_row_change C_new_goal, PySem.W.mg_of X G a_moved, k_moved, b_moved⟩
  have T0 : OexC K C0 := { cls := ⟨nm0, q0, N0, bs0, _, sn0, sub0, ab0, col0, dd0, p0_0, p0_1, p0_2, p0_3, p0_5, x0, by show PySem.HandSPX.refsVE [.type "ValueError", .type "Exception", .type "BaseException", .type "object"] = true; decide +kernel⟩, sa := sa0, exC := be0, tyC := ty0, kC := kc0 }
  have V0 : ErrI K C0 := { cl := ic0, ga := ga0, gg := gg0, be := be0, hd := hd0, cc := cc0, gt := gt, tk := tk, ob := mo0, no := no0 }
  have e_InvalidText : ErrC l.prog w K mg base "InvalidText" C0 := errc_I0 (fun_mk (st := sI0) l0 c0 k0) T0 (PySem.W.mg_of X G a0) no0 in0 ti0
  have T1 : OexC K C1 := { cls := ⟨nm1, q1, N1, bs1, _, sn1, sub1, ab1, col1, dd1, p1_0, p1_1, p1_2, p1_3, p1_5, x1, by show PySem.HandSPX.refsVE [.type "ValueError", .type "Exception", .type "BaseException", .type "object"] = true; decide +kernel⟩, sa := sa1, exC := be1, tyC := ty1, kC := kc1 }
  have V1 : ErrI K C1 := { cl := ic1, ga := ga1, gg := gg1, be := be1, hd := hd1, cc := cc1, gt := gt, tk := tk, ob := mo1, no := no1 }
  have e_InvalidCursor : ErrC l.prog w K mg base "InvalidCursor" C1 := errc_I1 (fun_mk (st := sI1) l1 c1 k1) T1 (PySem.W.mg_of X G a1) no1 in1 ti1
  have T2 : OexC K C2 := { cls := ⟨nm2, q2, N2, bs2, _, sn2, sub2, ab2, col2, dd2, p2_0, p2_1, p2_2, p2_3, p2_5, x2, by show PySem.HandSPX.refsVE [.type "ValueError", .type "Exception", .type "BaseException", .type "object"] = true; decide +kernel⟩, sa := sa2, exC := be2, tyC := ty2, kC := kc2 }
  have V2 : ErrI K C2 := { cl := ic2, ga := ga2, gg := gg2, be := be2, hd := hd2, cc := cc2, gt := gt, tk := tk, ob := mo2, no := no2 }
  have e_InvalidCommand : ErrC l.prog w K mg base "InvalidCommand" C2 := errc_I2 (fun_mk (st := sI2) l2 c2 k2) T2 (PySem.W.mg_of X G a2) no2 in2 ti2
  have T3 : OexC K C3 := { cls := ⟨nm3, q3, N3, bs3, _, sn3, sub3, ab3, col3, dd3, p3_0, p3_1, p3_2, p3_3, p3_5, x3, by show PySem.HandSPX.refsVE [.type "ValueError", .type "Exception", .type "BaseException", .type "object"] = true; decide +kernel⟩, sa := sa3, exC := be3, tyC := ty3, kC := kc3 }
  have V3 : ErrI K C3 := { cl := ic3, ga := ga3, gg := gg3, be := be3, hd := hd3, cc := cc3, gt := gt, tk := tk, ob := mo3, no := no3 }
  have e_Impossible : ErrC l.prog w K mg base "Impossible" C3 := errc_I3 (fun_mk (st := sI3) l3 c3 k3) T3 (PySem.W.mg_of X G a3) no3 in3 ti3
  let cs : Nat → Addr := fun i => match i with
    | 0 => C0
    | 1 => C1
    | 2 => C2
    | 3 => C3
    | 4 => C4
    | 5 => C5
    | _ => C6
  have TE : TxtE K mg cs CE (fun i => i = 0 ∨ i = 1 ∨ i = 2 ∨ i = 3) := {
    g0 := PySem.W.mg_of X G a0
    g1 := PySem.W.mg_of X G a1
    g2 := PySem.W.mg_of X G a2
    g3 := PySem.W.mg_of X G a3
    g4 := PySem.W.mg_of X G a4
    g5 := PySem.W.mg_of X G a5
    g6 := PySem.W.mg_of X G a6
    gE := PySem.W.mg_of X G aE
    lt := fun i (hi : i = 0 ∨ i = 1 ∨ i = 2 ∨ i = 3) => by omega
    kit := fun i j (hi : i = 0 ∨ i = 1 ∨ i = 2 ∨ i = 3) hj => by
      rcases hi with rfl | rfl | rfl | rfl
      · match j, hj with
        | 0, _ => exact kit_own ic0 ty0 s0_0 s0_0
        | 1, _ => exact kit_own ic1 ty1 s0_1 s0_0
        | 2, _ => exact kit_own ic2 ty2 s0_2 s0_0
        | 3, _ => exact kit_own ic3 ty3 s0_3 s0_0
        | 4, _ => exact kit_own ic4 ty4 s0_4 s0_0
        | 5, _ => exact kit_own ic5 ty5 s0_5 s0_0
        | 6, _ => exact kit_own ic6 ty6 s0_6 s0_0
        | n + 7, z => exact absurd z (by omega)
      · match j, hj with
        | 0, _ => exact kit_own ic0 ty0 s1_0 s1_1
        | 1, _ => exact kit_own ic1 ty1 s1_1 s1_1
        | 2, _ => exact kit_own ic2 ty2 s1_2 s1_1
        | 3, _ => exact kit_own ic3 ty3 s1_3 s1_1
        | 4, _ => exact kit_own ic4 ty4 s1_4 s1_1
        | 5, _ => exact kit_own ic5 ty5 s1_5 s1_1
        | 6, _ => exact kit_own ic6 ty6 s1_6 s1_1
        | n + 7, z => exact absurd z (by omega)
      · match j, hj with
        | 0, _ => exact kit_own ic0 ty0 s2_0 s2_2
        | 1, _ => exact kit_own ic1 ty1 s2_1 s2_2
        | 2, _ => exact kit_own ic2 ty2 s2_2 s2_2
        | 3, _ => exact kit_own ic3 ty3 s2_3 s2_2
        | 4, _ => exact kit_own ic4 ty4 s2_4 s2_2
        | 5, _ => exact kit_own ic5 ty5 s2_5 s2_2
        | 6, _ => exact kit_own ic6 ty6 s2_6 s2_2
        | n + 7, z => exact absurd z (by omega)
      · match j, hj with
        | 0, _ => exact kit_own ic0 ty0 s3_0 s3_3
        | 1, _ => exact kit_own ic1 ty1 s3_1 s3_3
        | 2, _ => exact kit_own ic2 ty2 s3_2 s3_3
        | 3, _ => exact kit_own ic3 ty3 s3_3 s3_3
        | 4, _ => exact kit_own ic4 ty4 s3_4 s3_3
        | 5, _ => exact kit_own ic5 ty5 s3_5 s3_3
        | 6, _ => exact kit_own ic6 ty6 s3_6 s3_3
        | n + 7, z => exact absurd z (by omega)
    kve := fun i (hi : i = 0 ∨ i = 1 ∨ i = 2 ∨ i = 3) => by
      rcases hi with rfl | rfl | rfl | rfl
      · exact kit_bl (by decide +kernel) ve0
      · exact kit_bl (by decide +kernel) ve1
      · exact kit_bl (by decide +kernel) ve2
      · exact kit_bl (by decide +kernel) ve3
    kce := fun i (hi : i = 0 ∨ i = 1 ∨ i = 2 ∨ i = 3) => by
      rcases hi with rfl | rfl | rfl | rfl
      · exact kit_own icE yE se0 s0_0
      · exact kit_own icE yE se1 s1_1
      · exact kit_own icE yE se2 s2_2
      · exact kit_own icE yE se3 s3_3
    ex := fun i (hi : i = 0 ∨ i = 1 ∨ i = 2 ∨ i = 3) => by
      rcases hi with rfl | rfl | rfl | rfl
      · exact PySem.W.exm_ref bE hE yE se0
      · exact PySem.W.exm_ref bE hE yE se1
      · exact PySem.W.exm_ref bE hE yE se2
      · exact PySem.W.exm_ref bE hE yE se3
    ei := fun i (hi : i = 0 ∨ i = 1 ∨ i = 2 ∨ i = 3) => by
      rcases hi with rfl | rfl | rfl | rfl
      · exact V0
      · exact V1
      · exact V2
      · exact V3
    isinstance := PySem.W.mg_none_of X G z_isinstance
    ValueError := PySem.W.mg_none_of X G z_ValueError }
  have r4 : ∀ i, i < 4 → i = 0 ∨ i = 1 ∨ i = 2 ∨ i = 3 := fun i hi => by omega
  have TE4 : TxtE K mg cs CE (fun i => i < 4) := { g0 := TE.g0, g1 := TE.g1, g2 := TE.g2, g3 := TE.g3, g4 := TE.g4, g5 := TE.g5, g6 := TE.g6, gE := TE.gE, lt := fun i hi => TE.lt i (r4 i hi), kit := fun i j hi hj => TE.kit i j (r4 i hi) hj, kve := fun i hi => TE.kve i (r4 i hi), kce := fun i hi => TE.kce i (r4 i hi), ex := fun i hi => TE.ex i (r4 i hi), ei := fun i hi => TE.ei i (r4 i hi), isinstance := TE.isinstance, ValueError := TE.ValueError }
  have stA : ∀ i, i < 4 → PySem.W.subIn K (.ref (cs i)) (.type "StopIteration") = some false := fun i hi => by
    match i, hi with
    | 0, _ => exact nS0
    | 1, _ => exact nS1
    | 2, _ => exact nS2
    | 3, _ => exact nS3
    | n + 4, z => exact absurd z (by omega)
  have TRa : TxtRa K mg cs CE := { g_CursorError := PySem.W.mg_of X G aE, ex := fun i hi => TE.ex i (r4 i hi), st := stA }
  have Y_is_count : Cal l.prog w K mg base 1 "is_count" spCountX := ⟨_, _, _, ok_is_countX F_is_count TB, PySem.W.mg_of X G a_is_count, k_is_count, b_is_count⟩
  have Y_is_command : Cal l.prog w K mg base 2 "is_command" (spIsRaw K) := ⟨_, _, _, ok_is_commandX F_is_command TB Y_is_count, PySem.W.mg_of X G a_is_command, k_is_command, b_is_command⟩
  have X_check_commands : CalXN l.prog w K mg base 3 "check_commands" (spCheckX K (cs 2)) := ⟨_, _, _, ok_check_commandsX F_check_commands TB Y_is_command e_InvalidCommand, PySem.W.mg_of X G a_check_commands, k_check_commands, b_check_commands⟩
  have X_check_text : CalXN l.prog w K mg base 3 "check_text" (spTextX K (cs 0)) := ⟨_, _, _, ok_check_textX F_check_text TB e_InvalidText, PySem.W.mg_of X G a_check_text, k_check_text, b_check_text⟩
  have X_check_cursor : CalXN l.prog w K mg base 3 "check_cursor" (spCursorX K (cs 1)) := ⟨_, _, _, ok_check_cursorX F_check_cursor e_InvalidCursor, PySem.W.mg_of X G a_check_cursor, k_check_cursor, b_check_cursor⟩
  have X_run : CalXN l.prog w K mg base 4 "run" (zRunU K cs) := by
    rw [zRunU_eq]
    exact ⟨_, _, _, fnok_or2 (ok_runB F_run TB X_check_text X_check_cursor X_check_commands C_moved e_Impossible) (ok_runI F_run TB C_check_text C_check_cursor C_check_commands C_moved e_Impossible), PySem.W.mg_of X G a_run, k_run, b_run⟩
  have X_column : CalXN l.prog w K mg base 4 "column" (zCol04 K cs) := by
    rw [zCol04_eq]
    exact ⟨_, _, _, ok_col04 F_column TB X_check_text X_check_cursor C_shown_column, PySem.W.mg_of X G a_column, k_column, b_column⟩
  have X_reach : CalXN l.prog w K mg base 4 "reach" (zReach04 K (cs 2)) := by
    rw [zReach04_eq]
    exact ⟨_, _, _, ok_reach04 F_reach TB C_check_commands X_check_commands C_row_change, PySem.W.mg_of X G a_reach, k_reach, b_reach⟩
  have X_places : FCal l.prog w K mg base 5 "places" (zPlacesF K cs) := by
    rw [zPlacesF_eq]
    exact ⟨_, _, _, ok_placesF F_places X_run C_moved, PySem.W.mg_of X G a_places, k_places, b_places⟩
  have C_law_source : Cal l.prog w K mg base 1 "_law_source" (spSource K) := ⟨_, _, _, ok_source F_law_source TD, PySem.W.mg_of X G a_law_source, k_law_source, b_law_source⟩
  have C_law_draw : Cal l.prog w K mg base 1 "_law_draw" spDraw := ⟨_, _, _, ok_draw F_law_draw, PySem.W.mg_of X G a_law_draw, k_law_draw, b_law_draw⟩
  have C_law_number : Cal l.prog w K mg base 2 "_law_number" spNumber := ⟨_, _, _, ok_number F_law_number C_law_draw, PySem.W.mg_of X G a_law_number, k_law_number, b_law_number⟩
  have C_law_command : Cal l.prog w K mg base 3 "_law_command" (spCommand K) := ⟨_, _, _, ok_command F_law_command C_law_draw C_law_number, PySem.W.mg_of X G a_law_command, k_law_command, b_law_command⟩
  have C_law_text : Cal l.prog w K mg base 2 "_law_text" (spSheet K) := ⟨_, _, _, ok_sheet F_law_text TSh C_law_draw, PySem.W.mg_of X G a_law_text, k_law_text, b_law_text⟩
  have C_law_cursor : Cal l.prog w K mg base 2 "_law_cursor" (spCurs K) := ⟨_, _, _, ok_curs F_law_cursor TSh C_law_draw, PySem.W.mg_of X G a_law_cursor, k_law_cursor, b_law_cursor⟩
  have C_law_shown : Cal l.prog w K mg base 1 "_law_shown" (spLShown K) := ⟨_, _, _, ok_lshown F_law_shown, PySem.W.mg_of X G a_law_shown, k_law_shown, b_law_shown⟩
  have C_law_moved : Cal l.prog w K mg base 2 "_law_moved" (spLMoved K) := ⟨_, _, _, ok_lmoved F_law_moved TMv C_law_shown, PySem.W.mg_of X G a_law_moved, k_law_moved, b_law_moved⟩
  have C_law_fitting : Cal l.prog w K mg base 4 "_law_fitting" (spFit K) := ⟨_, _, _, ok_fit F_law_fitting TFt C_law_draw C_law_command C_law_moved, PySem.W.mg_of X G a_law_fitting, k_law_fitting, b_law_fitting⟩
  have C_law_bent_text : Cal l.prog w K mg base 2 "_law_bent_text" (spBentT K) := ⟨_, _, _, ok_bentt F_law_bent_text TBt C_law_draw, PySem.W.mg_of X G a_law_bent_text, k_law_bent_text, b_law_bent_text⟩
  have C_law_bent_commands : Cal l.prog w K mg base 2 "_law_bent_commands" (spBentK K) := ⟨_, _, _, ok_bentk F_law_bent_commands TBk C_law_draw, PySem.W.mg_of X G a_law_bent_commands, k_law_bent_commands, b_law_bent_commands⟩
  have C_law_bent_cursor : Cal l.prog w K mg base 2 "_law_bent_cursor" (spBentC K) := ⟨_, _, _, ok_bentc F_law_bent_cursor TBc C_law_draw, PySem.W.mg_of X G a_law_bent_cursor, k_law_bent_cursor, b_law_bent_cursor⟩
  have C_law_first_bad : Cal l.prog w K mg base 2 "_law_first_bad" (spFirstBad K) := ⟨_, _, _, ok_first_bad F_law_first_bad TFb, PySem.W.mg_of X G a_law_first_bad, k_law_first_bad, b_law_first_bad⟩
  have C_law_due : Cal l.prog w K mg base 3 "_law_due" (spDue04 K) := ⟨_, _, _, ok_due04 F_law_due TDu C_law_first_bad C_law_moved, PySem.W.mg_of X G a_law_due, k_law_due, b_law_due⟩
  have C_law_error : CalN l.prog w K mg base 1 "_law_error" (spErrE cs (fun i => i < 4)) := ⟨_, _, _, ok_errE F_law_error TE4, PySem.W.mg_of X G a_law_error, k_law_error, b_law_error⟩
  have C_law_raised : Cal l.prog w K mg base 9 "_law_raised" (spRaised04 K) := ⟨_, _, _, ok_raised04 F_law_raised TRa X_column X_run X_places X_reach C_law_error, PySem.W.mg_of X G a_law_raised, k_law_raised, b_law_raised⟩
  have S_0 : Cal l.prog w K mg base 1 "_law_same" (spSame K 0) := ⟨_, _, _, ok_same0 F_law_same, PySem.W.mg_of X G a_law_same, k_law_same, b_law_same⟩
  have S_1 : Cal l.prog w K mg base 2 "_law_same" (spSame K 1) := ⟨_, _, _, ok_sameS F_law_same TS S_0, PySem.W.mg_of X G a_law_same, k_law_same, b_law_same⟩
  have S_2 : Cal l.prog w K mg base 3 "_law_same" (spSame K 2) := ⟨_, _, _, ok_sameS F_law_same TS S_1, PySem.W.mg_of X G a_law_same, k_law_same, b_law_same⟩
  have S_3 : Cal l.prog w K mg base 4 "_law_same" (spSame K 3) := ⟨_, _, _, ok_sameS F_law_same TS S_2, PySem.W.mg_of X G a_law_same, k_law_same, b_law_same⟩
  have S_4 : Cal l.prog w K mg base 5 "_law_same" (spSame K 4) := ⟨_, _, _, ok_sameS F_law_same TS S_3, PySem.W.mg_of X G a_law_same, k_law_same, b_law_same⟩
  exact ok_law F_law TLw C_law_source C_law_draw C_law_text C_law_cursor C_law_fitting C_law_bent_text C_law_bent_commands C_law_bent_cursor C_law_due C_law_raised S_4
theorem walk {l : PySem.W.OpenLaw} {q : Program} {loose : List Str} {XP : (Str → Option Value) → Heap → Prop} {YP : World → Heap → Prop} {d : DefRec} {K : Params → PySem.W.Frag} (hn : l.most = some 63) (hdf : d.params.defaults = [])
    (hY : ∀ (w : World) (h : Heap), YP w h → (K w.params).In h)
    (F : ∀ (w : World) (mg : Str → Option Value) (fa : Addr) (h : Heap), (K w.params).In h → h.Ns mainGlobals mg → mg d.name = some (.ref fa) →
      ∃ fd : FuncData, (∀ (s : Shared) (u : Value), BindsTo s fd ⟨[u], []⟩ [("script", u)]) ∧ ∀ base : Heap, (K w.params).In base → base.Ns mainGlobals mg → FnG l.prog w (K w.params) mg base 10 fa fd ["script"] (spLaw (K w.params))) :
    PySem.W.WalkO q loose XP YP l.row.toRowW d [] (fun f vs => PySem.call f vs) :=
  walk_G (n := 63) (k := 10) (x := "script") (sp := fun w => spLaw (K w.params)) hn (by decide) hdf ⟨rfl, by decide, by decide⟩ hY F fun _ _ a ns hl _ hS => ⟨a, ns, rfl, hS, hl, fun _ => rfl⟩
end Gc

open PySem PySem.W PyProof.Rows in
set_option maxRecDepth 100000 in
set_option maxHeartbeats 0 in
theorem PySem.Challenge.cw_goalcolumn_k04_errors_of_running_holds : PySem.Challenge.rw_goalcolumn_k04_errors_of_running.Holds := by
  w_on; o_law; k_head; (case hw => w_witness2)
  k_fill
  refine Gc.walk (l := PySem.Challenge.rw_goalcolumn_k04_errors_of_running) rfl rfl (fun w h Y => PySem.W.kIn_of Y) ?F
  case F =>
    intro w mg fa h KX G hmg
    refine' Gc.all_mk KX G hmg ?aWN ?aWO ?lWN ?lWO ?a_is_count ?l_is_count ?c_is_count ?k_is_count ?a_is_command ?l_is_command ?c_is_command ?k_is_command ?a_check_commands ?l_check_commands ?c_check_commands ?k_check_commands ?a_row_change ?l_row_change ?c_row_change ?k_row_change ?a_check_text ?l_check_text ?c_check_text ?k_check_text ?a_check_cursor ?l_check_cursor ?c_check_cursor ?k_check_cursor ?a_run ?l_run ?c_run ?k_run ?a_column ?l_column ?c_column ?k_column ?a_places ?l_places ?c_places ?k_places ?a_reach ?l_reach ?c_reach ?k_reach ?a_shown_column ?l_shown_column ?c_shown_column ?k_shown_column ?a_moved ?l_moved ?c_moved ?k_moved ?a_new_goal ?l_new_goal ?c_new_goal ?k_new_goal ?a_law_source ?l_law_source ?c_law_source ?k_law_source ?a_law_draw ?l_law_draw ?c_law_draw ?k_law_draw ?a_law_same ?l_law_same ?c_law_same ?k_law_same ?a_law_number ?l_law_number ?c_law_number ?k_law_number ?a_law_command ?l_law_command ?c_law_command ?k_law_command ?a_law_text ?l_law_text ?c_law_text ?k_law_text ?a_law_cursor ?l_law_cursor ?c_law_cursor ?k_law_cursor ?a_law_shown ?l_law_shown ?c_law_shown ?k_law_shown ?a_law_moved ?l_law_moved ?c_law_moved ?k_law_moved ?a_law_fitting ?l_law_fitting ?c_law_fitting ?k_law_fitting ?a_law_error ?l_law_error ?c_law_error ?k_law_error ?a_law_bent_text ?l_law_bent_text ?c_law_bent_text ?k_law_bent_text ?a_law_bent_cursor ?l_law_bent_cursor ?c_law_bent_cursor ?k_law_bent_cursor ?a_law_bent_commands ?l_law_bent_commands ?c_law_bent_commands ?k_law_bent_commands ?a_law_first_bad ?l_law_first_bad ?c_law_first_bad ?k_law_first_bad ?a_law_due ?l_law_due ?c_law_due ?k_law_due ?a_law_raised ?l_law_raised ?c_law_raised ?k_law_raised ?a_law ?l_law ?c_law ?k_law ?z_isinstance ?z_int ?z_bool ?z_len ?z_enumerate ?z_reversed ?z_sorted ?z_max ?z_min ?z_range ?z_list ?z_str ?z_tuple ?z_repr ?z_ValueError ?aE ?yE ?bE ?hE ?icE ?gt ?tk ?a0 ?ty0 ?ic0 ?x0 ?sa0 ?ga0 ?gg0 ?no0 ?cc0 ?in0 ?ti0 ?l0 ?c0 ?k0 ?kc0 ?be0 ?ve0 ?hd0 ?mo0 ?se0 ?a1 ?ty1 ?ic1 ?x1 ?sa1 ?ga1 ?gg1 ?no1 ?cc1 ?in1 ?ti1 ?l1 ?c1 ?k1 ?kc1 ?be1 ?ve1 ?hd1 ?mo1 ?se1 ?a2 ?ty2 ?ic2 ?x2 ?sa2 ?ga2 ?gg2 ?no2 ?cc2 ?in2 ?ti2 ?l2 ?c2 ?k2 ?kc2 ?be2 ?ve2 ?hd2 ?mo2 ?se2 ?a3 ?ty3 ?ic3 ?x3 ?sa3 ?ga3 ?gg3 ?no3 ?cc3 ?in3 ?ti3 ?l3 ?c3 ?k3 ?kc3 ?be3 ?ve3 ?hd3 ?mo3 ?se3 ?a4 ?ty4 ?ic4 ?a5 ?ty5 ?ic5 ?a6 ?ty6 ?ic6 ?s0_0 ?s0_1 ?s0_2 ?s0_3 ?s0_4 ?s0_5 ?s0_6 ?s1_0 ?s1_1 ?s1_2 ?s1_3 ?s1_4 ?s1_5 ?s1_6 ?s2_0 ?s2_1 ?s2_2 ?s2_3 ?s2_4 ?s2_5 ?s2_6 ?s3_0 ?s3_1 ?s3_2 ?s3_3 ?s3_4 ?s3_5 ?s3_6 ?nS0 ?nS1 ?nS2 ?nS3
    (case aWN => k_is)
    (case aWO => k_is)
    (case lWN => k_is)
    (case lWO => k_is)
    (case a_is_count => k_is)
    (case l_is_count => k_is)
    (case c_is_count => k_is)
    (case k_is_count => k_is)
    (case a_is_command => k_is)
    (case l_is_command => k_is)
    (case c_is_command => k_is)
    (case k_is_command => k_is)
    (case a_check_commands => k_is)
    (case l_check_commands => k_is)
    (case c_check_commands => k_is)
    (case k_check_commands => k_is)
    (case a_row_change => k_is)
    (case l_row_change => k_is)
    (case c_row_change => k_is)
    (case k_row_change => k_is)
    (case a_check_text => k_is)
    (case l_check_text => k_is)
    (case c_check_text => k_is)
    (case k_check_text => k_is)
    (case a_check_cursor => k_is)
    (case l_check_cursor => k_is)
    (case c_check_cursor => k_is)
    (case k_check_cursor => k_is)
    (case a_run => k_is)
    (case l_run => k_is)
    (case c_run => k_is)
    (case k_run => k_is)
    (case a_column => k_is)
    (case l_column => k_is)
    (case c_column => k_is)
    (case k_column => k_is)
    (case a_places => k_is)
    (case l_places => k_is)
    (case c_places => k_is)
    (case k_places => k_is)
    (case a_reach => k_is)
    (case l_reach => k_is)
    (case c_reach => k_is)
    (case k_reach => k_is)
    (case a_shown_column => k_is)
    (case l_shown_column => k_is)
    (case c_shown_column => k_is)
    (case k_shown_column => k_is)
    (case a_moved => k_is)
    (case l_moved => k_is)
    (case c_moved => k_is)
    (case k_moved => k_is)
    (case a_new_goal => k_is)
    (case l_new_goal => k_is)
    (case c_new_goal => k_is)
    (case k_new_goal => k_is)
    (case a_law_source => k_is)
    (case l_law_source => k_is)
    (case c_law_source => k_is)
    (case k_law_source => k_is)
    (case a_law_draw => k_is)
    (case l_law_draw => k_is)
    (case c_law_draw => k_is)
    (case k_law_draw => k_is)
    (case a_law_same => k_is)
    (case l_law_same => k_is)
    (case c_law_same => k_is)
    (case k_law_same => k_is)
    (case a_law_number => k_is)
    (case l_law_number => k_is)
    (case c_law_number => k_is)
    (case k_law_number => k_is)
    (case a_law_command => k_is)
    (case l_law_command => k_is)
    (case c_law_command => k_is)
    (case k_law_command => k_is)
    (case a_law_text => k_is)
    (case l_law_text => k_is)
    (case c_law_text => k_is)
    (case k_law_text => k_is)
    (case a_law_cursor => k_is)
    (case l_law_cursor => k_is)
    (case c_law_cursor => k_is)
    (case k_law_cursor => k_is)
    (case a_law_shown => k_is)
    (case l_law_shown => k_is)
    (case c_law_shown => k_is)
    (case k_law_shown => k_is)
    (case a_law_moved => k_is)
    (case l_law_moved => k_is)
    (case c_law_moved => k_is)
    (case k_law_moved => k_is)
    (case a_law_fitting => k_is)
    (case l_law_fitting => k_is)
    (case c_law_fitting => k_is)
    (case k_law_fitting => k_is)
    (case a_law_error => k_is)
    (case l_law_error => k_is)
    (case c_law_error => k_is)
    (case k_law_error => k_is)
    (case a_law_bent_text => k_is)
    (case l_law_bent_text => k_is)
    (case c_law_bent_text => k_is)
    (case k_law_bent_text => k_is)
    (case a_law_bent_cursor => k_is)
    (case l_law_bent_cursor => k_is)
    (case c_law_bent_cursor => k_is)
    (case k_law_bent_cursor => k_is)
    (case a_law_bent_commands => k_is)
    (case l_law_bent_commands => k_is)
    (case c_law_bent_commands => k_is)
    (case k_law_bent_commands => k_is)
    (case a_law_first_bad => k_is)
    (case l_law_first_bad => k_is)
    (case c_law_first_bad => k_is)
    (case k_law_first_bad => k_is)
    (case a_law_due => k_is)
    (case l_law_due => k_is)
    (case c_law_due => k_is)
    (case k_law_due => k_is)
    (case a_law_raised => k_is)
    (case l_law_raised => k_is)
    (case c_law_raised => k_is)
    (case k_law_raised => k_is)
    (case a_law => k_is)
    (case l_law => k_is)
    (case c_law => k_is)
    (case k_law => k_is)
    (case z_isinstance => k_is)
    (case z_int => k_is)
    (case z_bool => k_is)
    (case z_len => k_is)
    (case z_enumerate => k_is)
    (case z_reversed => k_is)
    (case z_sorted => k_is)
    (case z_max => k_is)
    (case z_min => k_is)
    (case z_range => k_is)
    (case z_list => k_is)
    (case z_str => k_is)
    (case z_tuple => k_is)
    (case z_repr => k_is)
    (case z_ValueError => k_is)
    (case aE => k_is)
    (case yE => k_is)
    (case bE => k_is)
    (case hE => k_is)
    (case icE => k_is)
    (case gt => k_is)
    (case tk => k_is)
    (case a0 => k_is)
    (case ty0 => k_is)
    (case ic0 => k_is)
    (case x0 => k_is)
    (case sa0 => k_is)
    (case ga0 => k_is)
    (case gg0 => k_is)
    (case no0 => k_is)
    (case cc0 => k_is)
    (case in0 => k_is)
    (case ti0 => k_is)
    (case l0 => k_is)
    (case c0 => k_is)
    (case k0 => k_is)
    (case kc0 => k_is)
    (case be0 => k_is)
    (case ve0 => k_is)
    (case hd0 => k_is)
    (case mo0 => k_is)
    (case se0 => k_is)
    (case a1 => k_is)
    (case ty1 => k_is)
    (case ic1 => k_is)
    (case x1 => k_is)
    (case sa1 => k_is)
    (case ga1 => k_is)
    (case gg1 => k_is)
    (case no1 => k_is)
    (case cc1 => k_is)
    (case in1 => k_is)
    (case ti1 => k_is)
    (case l1 => k_is)
    (case c1 => k_is)
    (case k1 => k_is)
    (case kc1 => k_is)
    (case be1 => k_is)
    (case ve1 => k_is)
    (case hd1 => k_is)
    (case mo1 => k_is)
    (case se1 => k_is)
    (case a2 => k_is)
    (case ty2 => k_is)
    (case ic2 => k_is)
    (case x2 => k_is)
    (case sa2 => k_is)
    (case ga2 => k_is)
    (case gg2 => k_is)
    (case no2 => k_is)
    (case cc2 => k_is)
    (case in2 => k_is)
    (case ti2 => k_is)
    (case l2 => k_is)
    (case c2 => k_is)
    (case k2 => k_is)
    (case kc2 => k_is)
    (case be2 => k_is)
    (case ve2 => k_is)
    (case hd2 => k_is)
    (case mo2 => k_is)
    (case se2 => k_is)
    (case a3 => k_is)
    (case ty3 => k_is)
    (case ic3 => k_is)
    (case x3 => k_is)
    (case sa3 => k_is)
    (case ga3 => k_is)
    (case gg3 => k_is)
    (case no3 => k_is)
    (case cc3 => k_is)
    (case in3 => k_is)
    (case ti3 => k_is)
    (case l3 => k_is)
    (case c3 => k_is)
    (case k3 => k_is)
    (case kc3 => k_is)
    (case be3 => k_is)
    (case ve3 => k_is)
    (case hd3 => k_is)
    (case mo3 => k_is)
    (case se3 => k_is)
    (case a4 => k_is)
    (case ty4 => k_is)
    (case ic4 => k_is)
    (case a5 => k_is)
    (case ty5 => k_is)
    (case ic5 => k_is)
    (case a6 => k_is)
    (case ty6 => k_is)
    (case ic6 => k_is)
    (case s0_0 => k_is)
    (case s0_1 => k_is)
    (case s0_2 => k_is)
    (case s0_3 => k_is)
    (case s0_4 => k_is)
    (case s0_5 => k_is)
    (case s0_6 => k_is)
    (case s1_0 => k_is)
    (case s1_1 => k_is)
    (case s1_2 => k_is)
    (case s1_3 => k_is)
    (case s1_4 => k_is)
    (case s1_5 => k_is)
    (case s1_6 => k_is)
    (case s2_0 => k_is)
    (case s2_1 => k_is)
    (case s2_2 => k_is)
    (case s2_3 => k_is)
    (case s2_4 => k_is)
    (case s2_5 => k_is)
    (case s2_6 => k_is)
    (case s3_0 => k_is)
    (case s3_1 => k_is)
    (case s3_2 => k_is)
    (case s3_3 => k_is)
    (case s3_4 => k_is)
    (case s3_5 => k_is)
    (case s3_6 => k_is)
    (case nS0 => k_is)
    (case nS1 => k_is)
    (case nS2 => k_is)
    (case nS3 => k_is)
