import PyProof.Rows.All
import Wide.All
import OpenK.AllK
import Wide.FinOn
import HandS.Comp
import HandS.Iter
import HandS.Dict
import HandS.Flow
import HandS.Rev
import HandS.Walk
import HandS.WordsList
import HandS.WordsDict
import HandS.IsInst
import HandS.Wide
import HandS.Codes
import HandS.Style
import KE.SortData
import HandS.Base
import HandS.Call
import HandS.List
import HandS.Words
import HandS.DictTup
import PyProof.RulesMatch
import HandS.Sort
import HandS.Text
import HandS.StrMore
import HandS.Exc
import HandS.ExcOwn
import HandS.ExcInit
import HandS.ExcField
import HandS.WordsExc
import HandS.GenBody
import HandS.GenYield
import HandS.GenCall
import HandS.GenList
import HandS.ForMost
import HandS.HotCalls
import KE.KIsAll
import KE.KExcIs
import HandS.TryOnly
import HandS.More
import HandS.FltList
import HandS.ExcIs
import PySem.Challenge.RW_goalcolumn_k05_whole_cursors_and_lines
set_option Elab.async false
set_option linter.all false
set_option maxRecDepth 100000
set_option maxHeartbeats 4000000
namespace Gc
open PySem PyProof.Rows L2
/-! ### heaps: all that stood but at two places -/
def Keep (a d : Addr) (H H' : Hp) : Prop := ∀ b o, b ≠ a → b ≠ d → H b = some o → H' b = some o
theorem Keep.refl {a d : Addr} (H : Hp) : Keep a d H H := fun _ _ _ _ h => h
theorem Keep.trans {a d : Addr} {H H1 H2 : Hp} (x : Keep a d H H1) (y : Keep a d H1 H2) : Keep a d H H2 := fun b o h1 h2 h => y b o h1 h2 (x b o h1 h2 h)
theorem Keep.of {a d : Addr} {H H' : Hp} (e : Same H H') : Keep a d H H' := fun b o _ _ h => e b o h
theorem same_upd {H H' : Hp} {p : Addr} {o : HO} (e : Same H H') (h : H' p = none) : Same H (upd H' p o) := fun b u hb => by
  rw [upd_ne (ne_of_none (e b u hb) h)]
  exact e b u hb
theorem Keep.upd1 {a d : Addr} {H H' : Hp} {o : HO} (e : Keep a d H H') : Keep a d H (upd H' a o) := fun b u h1 h2 h => by
  rw [upd_ne h1]
  exact e b u h1 h2 h
theorem Keep.upd2 {a d : Addr} {H H' : Hp} {o : HO} (e : Keep a d H H') : Keep a d H (upd H' d o) := fun b u h1 h2 h => by
  rw [upd_ne h2]
  exact e b u h1 h2 h
theorem Keep.new {a d p : Addr} {H H' : Hp} {o : HO} (e : Keep a d H H') (h : H' p = none) : Keep a d H (upd H' p o) := fun b u h1 h2 hb => by
  rw [upd_ne (ne_of_none (e b u h1 h2 hb) h)]
  exact e b u h1 h2 hb

theorem cpow {i j : Int} (h : (decide (0 ≤ j) && (decide (j ≤ 1000000) && decide (i.natAbs < 2 ^ 64))) = true) : CPow i j := by
  rw [Bool.and_eq_true, Bool.and_eq_true] at h
  exact ⟨of_decide_eq_true h.1, of_decide_eq_true h.2.1, of_decide_eq_true h.2.2⟩
theorem pow_small {x : Int} {a k b : Nat} (h : x.natAbs < 2 ^ a) (hb : a * k < b) : (x ^ k).natAbs < 2 ^ b := by
  rw [Int.natAbs_pow]
  have h1 : x.natAbs ^ k ≤ (2 ^ a) ^ k := Nat.pow_le_pow_left (Nat.le_of_lt h) k
  rw [← Nat.pow_mul] at h1
  exact Nat.lt_of_le_of_lt h1 (Nat.pow_lt_pow_right (by decide) hb)
theorem int_at {ns : List Int} {i : Nat} {y : V} (h : (ns.map V.int)[i]? = some y) : ∃ u, y = V.int u := by
  rw [List.getElem?_map] at h
  cases e : ns[i]? with
  | none =>
    rw [e] at h
    cases h
  | some u =>
    rw [e] at h
    exact ⟨u, (Option.some.inj h).symm⟩
theorem dp_ints {K : PySem.W.Frag} {H : Hp} : ∀ ns : List Int, DpAll K H (ns.map V.int) (ns.map PyData.int)
  | [] => .nil
  | x :: r => .cons (.int x) (dp_ints r)
/-- a def that is called by its name and lets nothing out -/
structure Cal (P : Program) (w : World) (K : PySem.W.Frag) (mg : Str → Option Value) (base : Heap) (k : Nat) (x : Str) (sp : Sp) : Prop where
  ex : ∃ (f : Addr) (fd : FuncData) (ps : List Str), FnOk P w K mg base CX0 k f fd ps sp ∧
    mg x = some (.ref f) ∧ PySem.W.keepIn K (.ref f) = true ∧ Binds K fd ps []
theorem pe_cal {X : Cx} {k j : Nat} {x : Str} {sp : Sp} {p pos : Pos} {e : Expr} {es : List Expr} {t : TA}
    (c : Cal X.prog X.w X.K X.mg X.base k x sp) (hr : Room j X.A) (hk : k ≤ j) (hg : Gl X x) (ha : PA X (e :: es) t)
    (hdb : (x == ("__debug__" : Str)) = false := by decide)
    (he : starEach (e :: es) X.env = (false, eval e X.env) :: starEach es X.env := by rfl)
    (hpl : (backTo pos (starEach es X.env)).any (·.1) = false := by rfl) :
    PE X (.Call (.Name x p) (e :: es) [] pos) (tCall sp [] E0 t) := by
  obtain ⟨f, fd, ps, F, hm, kp, b⟩ := c.ex
  exact pe_call F (hr.mono hk) hg hm kp b .nil pass0 ha hdb he hpl

/-! ### data carried along -/
theorem seq_t {K : PySem.W.Frag} {H H' : Hp} {a : Addr} {xs : List V} (e : Same H H') (h : SqT K H a xs) : SqT K H' a xs := by
  rcases h with (h | ⟨o, h⟩) | h
  · exact .inl (.inl (e _ _ h))
  · exact .inl (.inr ⟨o, e _ _ h⟩)
  · exact .inr h
mutual
theorem dp_same {K : PySem.W.Frag} {H H' : Hp} (e : Same H H') : ∀ (d : PyData) (v : V), Dp K H v d → Dp K H' v d
  | .none, _, h => by cases h; exact .non
  | .bool b, _, h => by cases h; exact .bl b
  | .int i, _, h => by cases h; exact .int i
  | .str x, _, h => by cases h; exact .str x
  | .list ds, _, h => by
    cases h with
    | lst q r => exact .lst (e.seq q) (dps_same e ds _ r)
  | .tuple ds, _, h => by
    cases h with
    | tup q r => exact .tup (seq_t e q) (dps_same e ds _ r)
  | .dict _, _, h => by cases h
theorem dps_same {K : PySem.W.Frag} {H H' : Hp} (e : Same H H') : ∀ (ds : List PyData) (vs : List V), DpAll K H vs ds → DpAll K H' vs ds
  | [], _, h => by cases h; exact .nil
  | d :: ds, _, h => by
    cases h with
    | cons a b => exact .cons (dp_same e d _ a) (dps_same e ds _ b)
end
theorem dps_len {K : PySem.W.Frag} {H : Hp} : ∀ {vs : List V} {ds : List PyData}, DpAll K H vs ds → vs.length = ds.length
  | [], _, h => by cases h; rfl
  | _ :: vs, _, h => by
    cases h with
    | cons a b => rw [List.length_cons, List.length_cons, dps_len b]
theorem dps_at {K : PySem.W.Frag} {H : Hp} : ∀ {vs : List V} {ds : List PyData} {i : Nat}, DpAll K H vs ds → i < ds.length → ∃ v d, vs[i]? = some v ∧ ds[i]? = some d ∧ Dp K H v d
  | _, _, 0, h, l => by
    cases h with
    | nil => exact absurd l (by decide)
    | cons a b => exact ⟨_, _, rfl, rfl, a⟩
  | _, _, i + 1, h, l => by
    cases h with
    | nil => exact absurd l (Nat.not_lt_zero _)
    | cons a b => exact dps_at (i := i) b (Nat.lt_of_succ_lt_succ l)
theorem depth_at : ∀ {ds : List PyData} {i : Nat} {d : PyData}, ds[i]? = some d → d.depth ≤ PyData.depthAll ds
  | [], i, d, h => by simp at h
  | x :: r, 0, d, h => by
    have e : x = d := Option.some.inj h
    subst e
    simp only [PyData.depthAll]
    exact Nat.le_max_left _ _
  | x :: r, i + 1, d, h => by
    have ih := depth_at (ds := r) (i := i) (d := d) h
    simp only [PyData.depthAll]
    exact Nat.le_trans ih (Nat.le_max_right _ _)
theorem ty_l {K : PySem.W.Frag} {H : Hp} {a : Addr} {xs : List V} (h : SqL K H a xs) : TyX K H (.ref a) (.type "list") := by
  rcases h with (h | ⟨o, h⟩) | h
  · exact .base (.lst h)
  · exact .base (.frz h)
  · obtain ⟨o, its, n, e, c, _⟩ := h
    exact .kList e c
theorem ty_t {K : PySem.W.Frag} {H : Hp} {a : Addr} {xs : List V} (h : SqT K H a xs) : TyX K H (.ref a) (.type "tuple") := by
  rcases h with (h | ⟨o, h⟩) | h
  · exact .base (.tup h)
  · exact .fTuple h
  · obtain ⟨o, its, n, e, c, _⟩ := h
    exact .kTuple e c
theorem isi_q {K : PySem.W.Frag} {H : Hp} {x : V} {t n : String} {b : Bool} {Q : VK} (ty : TyX K H x (.type t)) (k : kitB t n = some b) (q : Q (.bl b) H) : rIsi K [x, .ty n] H Q :=
  ⟨x, .ty n, .type t, .type n, b, rfl, .ty n, ty, kit_ty k, q⟩
theorem log9 {x : Int} {a : Nat} (h : x.natAbs < 2 ^ a) (ha : a < 9000) : x.natAbs.log2 < 9000 :=
  Nat.lt_of_le_of_lt (Nat.le_of_lt_succ (PySem.Flt.log2_lt_of (k := a + 1) (Nat.succ_pos _) (Nat.lt_trans h (Nat.pow_lt_pow_right (by decide) (Nat.lt_succ_self a))))) ha
/-- a power of any whole number, its size told -/
def CPowW (i j : Int) : Prop := 0 ≤ j ∧ j ≤ 64 ∧ i.natAbs.log2 < 100000
theorem op_powW {X : Cx} : OpR X (binaryOp .Pow) (rI CPowW fun i j => .int (i ^ j.toNat)) := opI fun i j _ _ _ _ _ hc q => by
  refine pow_int hc.1 ?_ q
  have h1 : Builtin.Int.intBits i ≤ i.natAbs.log2 + 1 := by
    unfold Builtin.Int.intBits
    split <;> omega
  have h2 := hc.2.1
  have h3 := hc.2.2
  have h4 : (Builtin.Int.intBits i : Int) ≤ 100000 := by omega
  calc (Builtin.Int.intBits i : Int) * j ≤ 100000 * 64 := Int.mul_le_mul h4 h2 hc.1 (by decide)
    _ ≤ 2 ^ 27 := by decide
theorem cpowW {i j : Int} {a : Nat} (hj : 0 ≤ j) (hj2 : j ≤ 64) (h : i.natAbs < 2 ^ a) (ha : a < 100000) : CPowW i j :=
  ⟨hj, hj2, Nat.lt_of_le_of_lt (Nat.le_of_lt_succ (PySem.Flt.log2_lt_of (k := a + 1) (Nat.succ_pos _) (Nat.lt_trans h (Nat.pow_lt_pow_right (by decide) (Nat.lt_succ_self a))))) ha⟩
def rLenQ (K : PySem.W.Frag) : List V → Hp → VK → Prop := fun xs H Q => ∃ p ys, xs = [.ref p] ∧ (SqL K H p ys ∨ SqT K H p ys) ∧ Q (.int ys.length) H
end Gc

/-! boxes of lists of commands: what the program reckons, over plain lists; and the laws of it -/
namespace Gc
inductive Cmd where
  | down (n : Int) | up (n : Int) | right (n : Int) | left (n : Int) | home | stop
  deriving DecidableEq
def Cmd.dv : Cmd → Int
  | .down n => n
  | .up n => -n
  | _ => 0
def Cmd.ok : Cmd → Prop
  | .down n => 1 ≤ n
  | .up n => 1 ≤ n
  | .right n => 1 ≤ n
  | .left n => 1 ≤ n
  | _ => True
def last (cs : List Cmd) : Int := (cs.map Cmd.dv).sum
abbrev Ps := List (Int × Int)
def leK (p q : Int × Int) : Bool := decide (p.1 < q.1 ∨ (p.1 = q.1 ∧ p.2 ≤ q.2))
def look (b : Ps) (k : Int) : Option Int := (b.find? fun q => q.1 = k).map (·.2)
def put (b : Ps) (k v : Int) : Ps := if b.any (fun q => q.1 = k) then b.map (fun q => if q.1 = k then (q.1, v) else q) else b ++ [(k, v)]
def mx (i j : Int) : Int := if j > i then j else i
def req (b : Ps) (o v : Int) : Ps := put b o (mx v ((look b o).getD v))
def go : List Cmd → Int → Int → Ps → Option (Option Int × Ps)
  | [], _, need, b => some (some need, b)
  | .home :: _, _, _, _ => none
  | .stop :: _, _, _, b => some (none, b)
  | .right n :: r, off, need, b => if need > n then go r off (need - n) (req b off need) else some (none, req b off need)
  | .left n :: r, off, need, b => go r off (need + n) (req b off (need + n))
  | .down n :: r, off, need, b => go r (off - n) need b
  | .up n :: r, off, need, b => go r (off + n) need b
def srt (x : Option Int × Ps) : Option Int × Ps := (x.1, x.2.mergeSort leK)
def boxM (cs : List Cmd) (goal : Int) : Option (Option Int × Ps) := (go cs.reverse (last cs) goal []).map srt

/-! ### association lists as functions -/
def val (b : Ps) (k : Int) : Int := (look b k).getD 0
def keys (b : Ps) : List Int := b.map (·.1)
structure Good (b : Ps) : Prop where
  nd : (keys b).Nodup
  pos : ∀ q ∈ b, 1 ≤ q.2
theorem good_nil : Good [] := ⟨List.nodup_nil, fun _ h => nomatch h⟩
theorem look_nil (k : Int) : look [] k = none := rfl
theorem look_cons (q : Int × Int) (b : Ps) (k : Int) : look (q :: b) k = if q.1 = k then some q.2 else look b k := by
  unfold look
  rw [List.find?_cons]
  by_cases h : q.1 = k
  · simp [h]
  · simp [h]
theorem look_none {b : Ps} {k : Int} : look b k = none ↔ k ∉ keys b := by
  induction b with
  | nil => simp [look, keys]
  | cons q b ih =>
    rw [look_cons]
    by_cases h : q.1 = k
    · rw [if_pos h]
      simp [keys, h]
    · rw [if_neg h, ih]
      simp only [keys, List.map_cons, List.mem_cons, not_or]
      exact ⟨fun x => ⟨fun e => h e.symm, x⟩, fun x => x.2⟩
theorem look_mem {b : Ps} {k v : Int} (h : look b k = some v) : (k, v) ∈ b := by
  induction b with
  | nil => cases h
  | cons q b ih =>
    rw [look_cons] at h
    by_cases e : q.1 = k
    · rw [if_pos e] at h
      have e2 := Option.some.inj h
      rw [← e, ← e2]
      exact List.mem_cons_self
    · rw [if_neg e] at h
      exact List.mem_cons_of_mem _ (ih h)
theorem mem_look {b : Ps} {q : Int × Int} (n : (keys b).Nodup) (h : q ∈ b) : look b q.1 = some q.2 := by
  induction b with
  | nil => cases h
  | cons p b ih =>
    have n' : p.1 ∉ keys b ∧ (keys b).Nodup := List.nodup_cons.mp n
    rw [look_cons]
    rcases List.mem_cons.mp h with e | h
    · rw [e, if_pos rfl]
    · have ne : p.1 ≠ q.1 := fun e => n'.1 (by rw [e]; exact List.mem_map.mpr ⟨q, h, rfl⟩)
      rw [if_neg ne]
      exact ih n'.2 h
theorem any_key (b : Ps) (k : Int) : b.any (fun q => q.1 = k) = true ↔ k ∈ keys b := by
  simp [keys, List.any_eq_true]
theorem look_put (b : Ps) (k v j : Int) : look (put b k v) j = if k = j then some v else look b j := by
  unfold put
  by_cases h : b.any (fun q => q.1 = k) = true
  · rw [if_pos h]
    induction b with
    | nil => simp at h
    | cons q b ih =>
      rw [List.map_cons, look_cons, look_cons]
      by_cases e : q.1 = k
      · rw [if_pos e]
        by_cases e2 : k = j
        · simp [e, e2]
        · simp only [e, e2, if_false]
          by_cases hb : b.any (fun q => q.1 = k) = true
          · rw [ih hb, if_neg e2]
          · have nm : ∀ p ∈ b, ¬ p.1 = k := fun p hp z => hb (List.any_eq_true.mpr ⟨p, hp, by simpa using z⟩)
            have em : b.map (fun q => if q.1 = k then (q.1, v) else q) = b := by
              conv => rhs; rw [← List.map_id b]
              exact List.map_congr_left fun p hp => by simp [nm p hp]
            rw [em]
      · rw [if_neg e]
        have hb : b.any (fun q => q.1 = k) = true := by
          rw [List.any_cons] at h
          simpa [e] using h
        by_cases e2 : q.1 = j
        · have e3 : ¬ k = j := fun z => e (e2.trans z.symm)
          simp [e2, e3]
        · simp only [e2, if_false]
          exact ih hb
  · rw [if_neg h]
    have nk : k ∉ keys b := fun z => h ((any_key b k).mpr z)
    clear h
    induction b with
    | nil =>
      show look [(k, v)] j = _
      rw [look_cons]
    | cons q b ih =>
      have n1 : ¬ q.1 = k := fun z => nk (by simp [keys, z])
      have n2 : k ∉ keys b := fun z => nk (List.mem_cons_of_mem _ z)
      rw [List.cons_append, look_cons, look_cons]
      by_cases e2 : q.1 = j
      · have e3 : ¬ k = j := fun z => n1 (e2.trans z.symm)
        simp [e2, e3]
      · simp only [e2, if_false]
        exact ih n2
theorem keys_put (b : Ps) (k v : Int) : keys (put b k v) = if k ∈ keys b then keys b else keys b ++ [k] := by
  unfold put
  by_cases h : b.any (fun q => q.1 = k) = true
  · rw [if_pos h, if_pos ((any_key b k).mp h)]
    unfold keys
    rw [List.map_map]
    refine List.map_congr_left fun p _ => ?_
    show (if p.1 = k then (p.1, v) else p).1 = p.1
    split <;> rfl
  · rw [if_neg h, if_neg fun z => h ((any_key b k).mpr z)]
    simp [keys]
theorem good_put {b : Ps} {k v : Int} (g : Good b) (hv : 1 ≤ v) : Good (put b k v) := by
  have nd : (keys (put b k v)).Nodup := by
    rw [keys_put]
    split
    · exact g.nd
    · rename_i h
      rw [List.nodup_append]
      exact ⟨g.nd, by simp, fun a ha c hc => by
        rw [List.mem_singleton.mp hc]
        intro z
        exact h (z ▸ ha)⟩
  refine ⟨nd, fun q hq => ?_⟩
  have e := mem_look nd hq
  rw [look_put] at e
  split at e
  · rw [← Option.some.inj e]
    exact hv
  · exact g.pos (q.1, q.2) (look_mem e)
theorem val_nonneg {b : Ps} (g : Good b) (k : Int) : 0 ≤ val b k := by
  unfold val
  cases e : look b k with
  | none => exact Int.le_refl 0
  | some v =>
    have := g.pos _ (look_mem e)
    show 0 ≤ v
    have h : 1 ≤ v := this
    omega
theorem val_put (b : Ps) (k v j : Int) : val (put b k v) j = if k = j then v else val b j := by
  unfold val
  rw [look_put]
  split <;> rfl
/-- require, on functions -/
def reqF (f : Int → Int) (o v : Int) : Int → Int := fun k => if o = k then max v (f k) else f k
theorem val_req {b : Ps} (g : Good b) {o v : Int} (hv : 1 ≤ v) : val (req b o v) = reqF (val b) o v := by
  funext k
  unfold req reqF
  rw [val_put]
  by_cases h : o = k
  · subst h
    rw [if_pos rfl, if_pos rfl]
    unfold val mx
    cases e : look b o with
    | none =>
      show (if v > v then v else v) = max v 0
      rw [if_neg (by omega)]
      omega
    | some x =>
      show (if x > v then x else v) = max v x
      split <;> omega
  · rw [if_neg h, if_neg h]
theorem good_req {b : Ps} (g : Good b) {o v : Int} (hv : 1 ≤ v) : Good (req b o v) := by
  refine good_put g ?_
  unfold mx
  split <;> omega

/-! ### the walk, on functions -/
def goF : List Cmd → Int → Int → (Int → Int) → Option (Option Int × (Int → Int))
  | [], _, need, f => some (some need, f)
  | .home :: _, _, _, _ => none
  | .stop :: _, _, _, f => some (none, f)
  | .right n :: r, off, need, f => if need > n then goF r off (need - n) (reqF f off need) else some (none, reqF f off need)
  | .left n :: r, off, need, f => goF r off (need + n) (reqF f off (need + n))
  | .down n :: r, off, need, f => goF r (off - n) need f
  | .up n :: r, off, need, f => goF r (off + n) need f
def AllOk (cs : List Cmd) : Prop := ∀ c ∈ cs, c.ok
theorem go_goF : ∀ {r : List Cmd} {off need : Int} {b : Ps}, AllOk r → Good b → 1 ≤ need →
    (go r off need b = none ∧ goF r off need (val b) = none) ∨ ∃ st b', go r off need b = some (st, b') ∧ Good b' ∧ goF r off need (val b) = some (st, val b') ∧ ∀ n, st = some n → 1 ≤ n
  | [], off, need, b, _, g, hn => .inr ⟨_, _, rfl, g, rfl, fun n e => by rw [← Option.some.inj e]; exact hn⟩
  | .home :: r, off, need, b, _, g, hn => .inl ⟨rfl, rfl⟩
  | .stop :: r, off, need, b, _, g, hn => .inr ⟨_, _, rfl, g, rfl, fun n e => nomatch e⟩
  | .right n :: r, off, need, b, hk, g, hn => by
    have hk' : AllOk r := fun c hc => hk c (List.mem_cons_of_mem _ hc)
    simp only [go, goF]
    by_cases h : need > n
    · rw [if_pos h, if_pos h, ← val_req g hn]
      exact go_goF hk' (good_req g hn) (by omega)
    · rw [if_neg h, if_neg h, ← val_req g hn]
      exact .inr ⟨_, _, rfl, good_req g hn, rfl, fun n e => nomatch e⟩
  | .left n :: r, off, need, b, hk, g, hn => by
    have hk' : AllOk r := fun c hc => hk c (List.mem_cons_of_mem _ hc)
    have h1 : 1 ≤ n := hk _ List.mem_cons_self
    simp only [go, goF]
    rw [← val_req g (by omega)]
    exact go_goF hk' (good_req g (by omega)) (by omega)
  | .down n :: r, off, need, b, hk, g, hn => go_goF (r := r) (fun c hc => hk c (List.mem_cons_of_mem _ hc)) g hn
  | .up n :: r, off, need, b, hk, g, hn => go_goF (r := r) (fun c hc => hk c (List.mem_cons_of_mem _ hc)) g hn

/-! ### ascending lists are told by their functions -/
def Asc (b : Ps) : Prop := b.Pairwise fun p q => p.1 < q.1
theorem asc_nd {b : Ps} (h : Asc b) : (keys b).Nodup := by
  unfold keys
  rw [List.nodup_iff_pairwise_ne, List.pairwise_map]
  exact h.imp fun h => Int.ne_of_lt h
theorem leK_trans (a b c : Int × Int) (h1 : leK a b = true) (h2 : leK b c = true) : leK a c = true := by
  unfold leK at *
  have a1 := of_decide_eq_true h1
  have a2 := of_decide_eq_true h2
  exact decide_eq_true (by omega)
theorem leK_total (a b : Int × Int) : (leK a b || leK b a) = true := by
  unfold leK
  by_cases h : a.1 < b.1 ∨ (a.1 = b.1 ∧ a.2 ≤ b.2)
  · rw [decide_eq_true h]
    rfl
  · rw [decide_eq_true (show b.1 < a.1 ∨ (b.1 = a.1 ∧ b.2 ≤ a.2) by omega), Bool.or_true]
theorem asc_sort {b : Ps} (g : Good b) : Asc (b.mergeSort leK) := by
  have p := List.pairwise_mergeSort (le := leK) leK_trans leK_total b
  have pm := List.mergeSort_perm b leK
  have nd : (keys (b.mergeSort leK)).Nodup := (pm.map (fun q : Int × Int => q.1)).nodup_iff.mpr g.nd
  unfold keys at nd
  rw [List.nodup_iff_pairwise_ne, List.pairwise_map] at nd
  refine (p.and nd).imp fun h => ?_
  have a := of_decide_eq_true h.1
  have c := h.2
  omega
theorem good_perm {b c : Ps} (g : Good b) (p : c.Perm b) : Good c := ⟨(p.map (fun q : Int × Int => q.1)).nodup_iff.mpr g.nd, fun q hq => g.pos q (p.mem_iff.mp hq)⟩
theorem look_perm {b c : Ps} (g : Good b) (p : c.Perm b) (k : Int) : look c k = look b k := by
  have g' := good_perm g p
  cases e : look b k with
  | none =>
    rw [look_none] at e ⊢
    exact fun z => e ((p.map (fun q : Int × Int => q.1)).mem_iff.mp z)
  | some v => exact mem_look g'.nd (p.mem_iff.mpr (look_mem e))
theorem val_perm {b c : Ps} (g : Good b) (p : c.Perm b) : val c = val b := by
  funext k
  unfold val
  rw [look_perm g p]
theorem look_val {b c : Ps} (gb : Good b) (gc : Good c) (h : val b = val c) (k : Int) : look b k = look c k := by
  have e := congrFun h k
  unfold val at e
  cases e1 : look b k with
  | none =>
    cases e2 : look c k with
    | none => rfl
    | some v =>
      rw [e1, e2] at e
      have : 1 ≤ v := gc.pos _ (look_mem e2)
      have e' : (0 : Int) = v := e
      omega
  | some u =>
    cases e2 : look c k with
    | none =>
      rw [e1, e2] at e
      have : 1 ≤ u := gb.pos _ (look_mem e1)
      have e' : u = (0 : Int) := e
      omega
    | some v =>
      rw [e1, e2] at e
      have e' : u = v := e
      rw [e']
theorem asc_ext : ∀ {b c : Ps}, Asc b → Asc c → (∀ k, look b k = look c k) → b = c
  | [], [], _, _, _ => rfl
  | [], q :: c, _, _, h => by
    have e := h q.1
    rw [look_cons, if_pos rfl] at e
    cases e
  | q :: b, [], _, _, h => by
    have e := h q.1
    rw [look_cons, if_pos rfl] at e
    cases e
  | p :: b, q :: c, hb, hc, h => by
    have hb' := List.pairwise_cons.mp hb
    have hc' := List.pairwise_cons.mp hc
    have e1 := h p.1
    rw [look_cons, if_pos rfl, look_cons] at e1
    have e2 := h q.1
    rw [look_cons, look_cons, if_pos rfl] at e2
    have key : p.1 = q.1 := by
      by_cases x : q.1 = p.1
      · exact x.symm
      · rw [if_neg x] at e1
        rw [if_neg fun z => x z.symm] at e2
        have m1 := hc'.1 _ (look_mem e1.symm)
        have m2 := hb'.1 _ (look_mem e2)
        have m1' : q.1 < p.1 := m1
        have m2' : p.1 < q.1 := m2
        omega
    rw [if_pos key.symm] at e1
    have hpq : p = q := Prod.ext key (Option.some.inj e1)
    subst hpq
    rw [asc_ext hb'.2 hc'.2 fun k => ?_]
    have e := h k
    rw [look_cons, look_cons] at e
    by_cases x : p.1 = k
    · have n1 : look b k = none := look_none.mpr fun z => by
        obtain ⟨r, hr, er⟩ := List.mem_map.mp z
        have := hb'.1 r hr
        omega
      have n2 : look c k = none := look_none.mpr fun z => by
        obtain ⟨r, hr, er⟩ := List.mem_map.mp z
        have := hc'.1 r hr
        omega
      rw [n1, n2]
    · rw [if_neg x, if_neg x] at e
      exact e
theorem sort_ext {b c : Ps} (gb : Good b) (gc : Good c) (h : val b = val c) : b.mergeSort leK = c.mergeSort leK :=
  asc_ext (asc_sort gb) (asc_sort gc) fun k => by
    rw [look_perm gb (List.mergeSort_perm b leK), look_perm gc (List.mergeSort_perm c leK)]
    exact look_val gb gc h k
end Gc

/-! laws of boxes: joined lists, greater goals, multiplied moves -/
namespace Gc
abbrev BF := Option (Option Int × (Int → Int))
def boxF (cs : List Cmd) (goal : Int) : BF := goF cs.reverse (last cs) goal fun _ => 0
theorem val_nil : val [] = fun _ => 0 := rfl
theorem allOk_rev {cs : List Cmd} (h : AllOk cs) : AllOk cs.reverse := fun c hc => h c (List.mem_reverse.mp hc)
theorem box_spec {cs : List Cmd} {goal : Int} (h : AllOk cs) (hg : 1 ≤ goal) :
    (boxM cs goal = none ∧ boxF cs goal = none) ∨ ∃ st b, boxM cs goal = some (st, b.mergeSort leK) ∧ Good b ∧ boxF cs goal = some (st, val b) ∧ ∀ n, st = some n → 1 ≤ n := by
  unfold boxM boxF
  rw [← val_nil]
  rcases go_goF (off := last cs) (allOk_rev h) good_nil hg with ⟨e1, e2⟩ | ⟨st, b, e1, g, e2, p⟩
  · exact .inl ⟨by rw [e1]; rfl, e2⟩
  · exact .inr ⟨st, b, by rw [e1]; rfl, g, e2, p⟩
def thenF (x : BF) (k : Int → (Int → Int) → BF) : BF := match x with
  | none => none
  | some (none, g) => some (none, g)
  | some (some n, g) => k n g
theorem goF_app : ∀ (a b : List Cmd) (off need : Int) (f : Int → Int), goF (a ++ b) off need f = thenF (goF a off need f) fun n g => goF b (off - (a.map Cmd.dv).sum) n g
  | [], b, off, need, f => by
    show goF b off need f = goF b (off - 0) need f
    rw [Int.sub_zero]
  | .home :: a, b, off, need, f => rfl
  | .stop :: a, b, off, need, f => rfl
  | .right n :: a, b, off, need, f => by
    have e : off - (((Cmd.right n :: a).map Cmd.dv).sum) = off - (a.map Cmd.dv).sum := by
      rw [List.map_cons, List.sum_cons]
      show off - (0 + _) = _
      omega
    rw [e, List.cons_append]
    simp only [goF]
    by_cases h : need > n
    · rw [if_pos h, if_pos h]
      exact goF_app a b off (need - n) _
    · rw [if_neg h, if_neg h]
      rfl
  | .left n :: a, b, off, need, f => by
    have e : off - (((Cmd.left n :: a).map Cmd.dv).sum) = off - (a.map Cmd.dv).sum := by
      rw [List.map_cons, List.sum_cons]
      show off - (0 + _) = _
      omega
    rw [e, List.cons_append]
    exact goF_app a b off (need + n) _
  | .down n :: a, b, off, need, f => by
    have e : off - (((Cmd.down n :: a).map Cmd.dv).sum) = off - n - (a.map Cmd.dv).sum := by
      rw [List.map_cons, List.sum_cons]
      show off - (n + _) = _
      omega
    rw [e, List.cons_append]
    exact goF_app a b (off - n) need f
  | .up n :: a, b, off, need, f => by
    have e : off - (((Cmd.up n :: a).map Cmd.dv).sum) = off + n - (a.map Cmd.dv).sum := by
      rw [List.map_cons, List.sum_cons]
      show off - (-n + _) = _
      omega
    rw [e, List.cons_append]
    exact goF_app a b (off + n) need f
theorem goF_shift (d : Int) : ∀ (r : List Cmd) (off need : Int) (f : Int → Int), goF r (off + d) need (fun k => f (k - d)) = (goF r off need f).map fun x => (x.1, fun k => x.2 (k - d))
  | [], off, need, f => rfl
  | .home :: r, off, need, f => rfl
  | .stop :: r, off, need, f => rfl
  | .right n :: r, off, need, f => by
    have e : reqF (fun k => f (k - d)) (off + d) need = fun k => reqF f off need (k - d) := by
      funext k
      unfold reqF
      by_cases h : off + d = k
      · rw [if_pos h, if_pos (by omega)]
      · rw [if_neg h, if_neg (by omega)]
    simp only [goF]
    rw [e]
    by_cases h : need > n
    · rw [if_pos h, if_pos h]
      exact goF_shift d r off (need - n) _
    · rw [if_neg h, if_neg h]
      rfl
  | .left n :: r, off, need, f => by
    have e : reqF (fun k => f (k - d)) (off + d) (need + n) = fun k => reqF f off (need + n) (k - d) := by
      funext k
      unfold reqF
      by_cases h : off + d = k
      · rw [if_pos h, if_pos (by omega)]
      · rw [if_neg h, if_neg (by omega)]
    simp only [goF]
    rw [e]
    exact goF_shift d r off (need + n) _
  | .down n :: r, off, need, f => by
    simp only [goF]
    rw [show off + d - n = off - n + d by omega]
    exact goF_shift d r (off - n) need f
  | .up n :: r, off, need, f => by
    simp only [goF]
    rw [show off + d + n = off + n + d by omega]
    exact goF_shift d r (off + n) need f
theorem goF_max (h : Int → Int) : ∀ (r : List Cmd) (off need : Int) (f : Int → Int), goF r off need (fun k => max (f k) (h k)) = (goF r off need f).map fun x => (x.1, fun k => max (x.2 k) (h k))
  | [], off, need, f => rfl
  | .home :: r, off, need, f => rfl
  | .stop :: r, off, need, f => rfl
  | .right n :: r, off, need, f => by
    have e : reqF (fun k => max (f k) (h k)) off need = fun k => max (reqF f off need k) (h k) := by
      funext k
      unfold reqF
      show (if _ then _ else _) = _
      by_cases q : off = k
      · simp only [q, if_true]
        rw [Int.max_assoc]
      · simp only [q, if_false]
    simp only [goF]
    rw [e]
    by_cases c : need > n
    · rw [if_pos c, if_pos c]
      exact goF_max h r off (need - n) _
    · rw [if_neg c, if_neg c]
      rfl
  | .left n :: r, off, need, f => by
    have e : reqF (fun k => max (f k) (h k)) off (need + n) = fun k => max (reqF f off (need + n) k) (h k) := by
      funext k
      unfold reqF
      show (if _ then _ else _) = _
      by_cases q : off = k
      · simp only [q, if_true]
        rw [Int.max_assoc]
      · simp only [q, if_false]
    simp only [goF]
    rw [e]
    exact goF_max h r off (need + n) _
  | .down n :: r, off, need, f => goF_max h r (off - n) need f
  | .up n :: r, off, need, f => goF_max h r (off + n) need f
theorem last_app (a b : List Cmd) : last (a ++ b) = last a + last b := by
  unfold last
  rw [List.map_append, List.sum_append]
theorem sum_rev (l : List Int) : l.reverse.sum = l.sum := by
  induction l with
  | nil => rfl
  | cons a l ih =>
    rw [List.reverse_cons, List.sum_append, ih, List.sum_cons]
    simp
    omega
theorem boxF_app (early late : List Cmd) (aim : Int) (pos : ∀ st g, boxF late aim = some (st, g) → ∀ k, 0 ≤ g k) :
    boxF (early ++ late) aim = match boxF late aim with
      | none => none
      | some (none, g) => some (none, fun k => g (k - last early))
      | some (some n, g) => (boxF early n).map fun x => (x.1, fun k => max (x.2 k) (g (k - last early))) := by
  unfold boxF
  rw [List.reverse_append, goF_app, last_app, Int.add_comm (last early)]
  have sh : goF late.reverse (last late + last early) aim (fun _ => 0) = (goF late.reverse (last late) aim fun _ => 0).map fun x => (x.1, fun k => x.2 (k - last early)) :=
    goF_shift (last early) late.reverse (last late) aim fun _ => 0
  rw [sh]
  have pos' := pos
  unfold boxF at pos'
  cases e : goF late.reverse (last late) aim (fun _ => 0) with
  | none => rfl
  | some x =>
    obtain ⟨st, g⟩ := x
    cases st with
    | none => rfl
    | some n =>
      show goF early.reverse (last late + last early - (late.reverse.map Cmd.dv).sum) n (fun k => g (k - last early)) = _
      have es : (late.reverse.map Cmd.dv).sum = last late := by
        rw [List.map_reverse, sum_rev]
        rfl
      rw [es, show last late + last early - last late = last early by omega]
      have em : (fun k => g (k - last early)) = fun k => max ((fun _ => 0 : Int → Int) k) (g (k - last early)) := by
        funext k
        have := pos' _ _ e (k - last early)
        show g (k - last early) = max 0 (g (k - last early))
        omega
      rw [em, goF_max]

/-! ### the law's own joining -/
def shiftK (d : Int) (b : Ps) : Ps := b.map fun q => (q.1 + d, q.2)
def addAll (b : Ps) (l : Ps) : Ps := l.foldl (fun b q => put b q.1 (mx q.2 ((look b q.1).getD 0))) b
def joinedM (early late : List Cmd) (gone aim : Int) : Option (Option Int × Ps) := match boxM late aim with
  | none => none
  | some (none, l) => some (none, (shiftK gone l).mergeSort leK)
  | some (some n, l) => match boxM early n with
    | none => none
    | some (st, m) => some (st, (addAll (shiftK gone l) m).mergeSort leK)
theorem look_shift (d : Int) : ∀ (b : Ps) (k : Int), look (shiftK d b) k = look b (k - d)
  | [], _ => rfl
  | q :: b, k => by
    show look ((q.1 + d, q.2) :: shiftK d b) k = _
    rw [look_cons, look_cons, look_shift d b]
    by_cases h : q.1 + d = k
    · rw [if_pos h, if_pos (by omega)]
    · rw [if_neg h, if_neg (by omega)]
theorem good_shift (d : Int) {b : Ps} (g : Good b) : Good (shiftK d b) := by
  refine ⟨?_, fun q hq => ?_⟩
  · have e : keys (shiftK d b) = (keys b).map (· + d) := by
      unfold keys shiftK
      rw [List.map_map, List.map_map]
      rfl
    rw [e, List.nodup_iff_pairwise_ne, List.pairwise_map]
    exact (List.nodup_iff_pairwise_ne.mp g.nd).imp fun h => by omega
  · obtain ⟨p, hp, rfl⟩ := List.mem_map.mp hq
    exact g.pos p hp
theorem val_shift (d : Int) (b : Ps) : val (shiftK d b) = fun k => val b (k - d) := by
  funext k
  unfold val
  rw [look_shift]
theorem val_cons (q : Int × Int) (b : Ps) (k : Int) : val (q :: b) k = if q.1 = k then q.2 else val b k := by
  unfold val
  rw [look_cons]
  split <;> rfl
theorem val_out {b : Ps} {k : Int} (h : k ∉ keys b) : val b k = 0 := by
  unfold val
  rw [look_none.mpr h]
  rfl
theorem addAll_good : ∀ {l b : Ps}, Good b → Good l → Good (addAll b l) ∧ ∀ k, val (addAll b l) k = max (val l k) (val b k)
  | [], b, gb, _ => ⟨gb, fun k => by
      have := val_nonneg gb k
      show val b k = max 0 (val b k)
      omega⟩
  | q :: l, b, gb, gl => by
    have nq : q.1 ∉ keys l ∧ (keys l).Nodup := List.nodup_cons.mp gl.nd
    have p1 : 1 ≤ q.2 := gl.pos q List.mem_cons_self
    have gl' : Good l := ⟨nq.2, fun p hp => gl.pos p (List.mem_cons_of_mem _ hp)⟩
    have hv : 1 ≤ mx q.2 ((look b q.1).getD 0) := by
      unfold mx
      split <;> omega
    obtain ⟨g, v⟩ := addAll_good (b := put b q.1 (mx q.2 ((look b q.1).getD 0))) (good_put gb hv) gl'
    refine ⟨g, fun k => ?_⟩
    show val (addAll (put b q.1 (mx q.2 ((look b q.1).getD 0))) l) k = _
    rw [v k, val_put, val_cons]
    by_cases h : q.1 = k
    · subst h
      rw [if_pos rfl, if_pos rfl, val_out nq.1]
      have : mx q.2 ((look b q.1).getD 0) = max q.2 (val b q.1) := by
        unfold mx val
        split <;> omega
      rw [this]
      omega
    · rw [if_neg h, if_neg h]
theorem joined (early late : List Cmd) {aim : Int} (he : AllOk early) (hl : AllOk late) (ha : 1 ≤ aim) : boxM (early ++ late) aim = joinedM early late (last early) aim := by
  have hw : AllOk (early ++ late) := fun c hc => (List.mem_append.mp hc).elim (he c) (hl c)
  have srtd : ∀ {b c : Ps}, Good b → Good c → val b = val c → b.mergeSort leK = c.mergeSort leK := fun gb gc h => sort_ext gb gc h
  rcases box_spec hl ha with ⟨e1, e2⟩ | ⟨st, b, e1, gb, e2, pb⟩
  · have f := boxF_app early late aim fun st g h => by rw [e2] at h; cases h
    rw [e2] at f
    rcases box_spec hw ha with ⟨w1, _⟩ | ⟨_, _, _, _, w2, _⟩
    · rw [w1]
      unfold joinedM
      rw [e1]
    · rw [w2] at f
      cases f
  · have f := boxF_app early late aim fun st g h => by
      rw [e2] at h
      cases h
      exact val_nonneg gb
    rw [e2] at f
    have gs : Good (b.mergeSort leK) := good_perm gb (List.mergeSort_perm b leK)
    have vs : val (b.mergeSort leK) = val b := val_perm gb (List.mergeSort_perm b leK)
    cases st with
    | none =>
      rcases box_spec hw ha with ⟨_, w2⟩ | ⟨st', c, w1, gc, w2, _⟩
      · rw [w2] at f
        cases f
      · rw [w2] at f
        have f' := Option.some.inj f
        have f1 : st' = none := congrArg Prod.fst f'
        have f2 : val c = fun k => val b (k - last early) := congrArg Prod.snd f'
        rw [w1, f1]
        unfold joinedM
        rw [e1]
        show some ((none : Option Int), c.mergeSort leK) = some (none, (shiftK (last early) (b.mergeSort leK)).mergeSort leK)
        rw [srtd gc (good_shift _ gs) (by rw [f2, val_shift, vs])]
    | some n =>
      have hn := pb n rfl
      rcases box_spec he hn with ⟨x1, x2⟩ | ⟨st2, m, x1, gm, x2, _⟩
      · have f' : boxF (early ++ late) aim = (boxF early n).map fun x => (x.1, fun k => max (x.2 k) (val b (k - last early))) := f
        rw [x2] at f'
        rcases box_spec hw ha with ⟨w1, _⟩ | ⟨_, _, _, _, w2, _⟩
        · rw [w1]
          unfold joinedM
          rw [e1]
          show none = match boxM early n with | none => none | some (st, m) => _
          rw [x1]
        · rw [w2] at f'
          cases f'
      · have f' : boxF (early ++ late) aim = (boxF early n).map fun x => (x.1, fun k => max (x.2 k) (val b (k - last early))) := f
        rw [x2] at f'
        rcases box_spec hw ha with ⟨_, w2⟩ | ⟨st', c, w1, gc, w2, _⟩
        · rw [w2] at f'
          cases f'
        · rw [w2] at f'
          have f3 := Option.some.inj f'
          have f1 : st' = st2 := congrArg Prod.fst f3
          have f2 : val c = fun k => max (val m k) (val b (k - last early)) := congrArg Prod.snd f3
          rw [w1, f1]
          unfold joinedM
          rw [e1]
          show some (st2, c.mergeSort leK) = match boxM early n with | none => none | some (st, m) => _
          rw [x1]
          show some (st2, c.mergeSort leK) = some (st2, (addAll (shiftK (last early) (b.mergeSort leK)) (m.mergeSort leK)).mergeSort leK)
          have gms : Good (m.mergeSort leK) := good_perm gm (List.mergeSort_perm m leK)
          obtain ⟨ga, va⟩ := addAll_good (good_shift (last early) gs) gms
          rw [srtd gc ga (by
            funext k
            rw [f2, va k, val_perm gm (List.mergeSort_perm m leK), val_shift, vs])]

/-! ### a greater goal -/
theorem reqF_mono {f g : Int → Int} {o v u : Int} (h : ∀ k, f k ≤ g k) (hv : v ≤ u) (k : Int) : reqF f o v k ≤ reqF g o u k := by
  have := h k
  unfold reqF
  split <;> omega
theorem reqF_ge (f : Int → Int) (o v k : Int) : f k ≤ reqF f o v k := by
  unfold reqF
  split <;> omega
theorem goF_ge : ∀ {r : List Cmd} {off need : Int} {f : Int → Int} {st : Option Int} {g : Int → Int}, goF r off need f = some (st, g) → ∀ k, f k ≤ g k
  | [], off, need, f, st, g, h, k => by cases h; exact Int.le_refl _
  | .home :: r, off, need, f, st, g, h, k => by cases h
  | .stop :: r, off, need, f, st, g, h, k => by cases h; exact Int.le_refl _
  | .right n :: r, off, need, f, st, g, h, k => by
    simp only [goF] at h
    by_cases c : need > n
    · rw [if_pos c] at h
      exact Int.le_trans (reqF_ge f off need k) (goF_ge h k)
    · rw [if_neg c] at h
      cases h
      exact reqF_ge f off need k
  | .left n :: r, off, need, f, st, g, h, k => Int.le_trans (reqF_ge f off (need + n) k) (goF_ge (r := r) h k)
  | .down n :: r, off, need, f, st, g, h, k => goF_ge (r := r) h k
  | .up n :: r, off, need, f, st, g, h, k => goF_ge (r := r) h k
def Less (x y : BF) : Prop := y = none ∨ ∃ st g st' g', x = some (st, g) ∧ y = some (st', g') ∧ (∀ n, st = some n → ∃ n', st' = some n' ∧ n ≤ n') ∧ ∀ k, g k ≤ g' k
theorem goF_mono : ∀ {r : List Cmd} {off need need' : Int} {f f' : Int → Int}, need ≤ need' → (∀ k, f k ≤ f' k) → Less (goF r off need f) (goF r off need' f')
  | [], off, need, need', f, f', h, hf => .inr ⟨_, _, _, _, rfl, rfl, fun n e => ⟨need', rfl, by rw [← Option.some.inj e]; exact h⟩, hf⟩
  | .home :: r, off, need, need', f, f', h, hf => .inl rfl
  | .stop :: r, off, need, need', f, f', h, hf => .inr ⟨_, _, _, _, rfl, rfl, (fun n e => nomatch e), hf⟩
  | .right n :: r, off, need, need', f, f', h, hf => by
    simp only [goF]
    have m := reqF_mono (o := off) hf h
    by_cases c : need > n
    · rw [if_pos c, if_pos (by omega)]
      exact goF_mono (by omega) m
    · rw [if_neg c]
      by_cases c' : need' > n
      · rw [if_pos c']
        cases e : goF r off (need' - n) (reqF f' off need') with
        | none => exact .inl rfl
        | some x => exact .inr ⟨_, _, x.1, x.2, rfl, rfl, (fun n e => nomatch e), fun k => Int.le_trans (m k) (goF_ge e k)⟩
      · rw [if_neg c']
        exact .inr ⟨_, _, _, _, rfl, rfl, (fun n e => nomatch e), m⟩
  | .left n :: r, off, need, need', f, f', h, hf => goF_mono (r := r) (by omega) (reqF_mono (o := off) hf (by omega))
  | .down n :: r, off, need, need', f, f', h, hf => goF_mono (r := r) h hf
  | .up n :: r, off, need, need', f, f', h, hf => goF_mono (r := r) h hf
theorem box_mono {cs : List Cmd} {aim more : Int} (h : AllOk cs) (ha : 1 ≤ aim) (hm : aim ≤ more) :
    boxM cs more = none ∨ ∃ st l st' l', boxM cs aim = some (st, l) ∧ boxM cs more = some (st', l') ∧ (∀ n, st = some n → ∃ n', st' = some n' ∧ n ≤ n') ∧ ∀ q ∈ l, q.2 ≤ val l' q.1 := by
  have m : Less (boxF cs aim) (boxF cs more) := goF_mono hm fun _ => Int.le_refl _
  rcases box_spec h (show 1 ≤ more by omega) with ⟨e1, _⟩ | ⟨st', b', e1, g', e2, _⟩
  · exact .inl e1
  · rcases m with m | ⟨st, g, st2, g2, m1, m2, m3, m4⟩
    · rw [e2] at m
      cases m
    · rw [e2] at m2
      cases m2
      rcases box_spec h ha with ⟨_, x2⟩ | ⟨st3, b, x1, gb, x2, _⟩
      · rw [x2] at m1
        cases m1
      · rw [x2] at m1
        cases m1
        refine .inr ⟨st, _, st', _, x1, e1, m3, fun q hq => ?_⟩
        have gs : Good (b.mergeSort leK) := good_perm gb (List.mergeSort_perm b leK)
        have v : val (b.mergeSort leK) q.1 = q.2 := by
          unfold val
          rw [mem_look gs.nd hq]
          rfl
        rw [val_perm gb (List.mergeSort_perm b leK)] at v
        rw [val_perm g' (List.mergeSort_perm b' leK), ← v]
        exact m4 q.1

/-! ### moves multiplied -/
def Cmd.mul (F : Int) : Cmd → Cmd
  | .down n => .down (n * F)
  | .up n => .up (n * F)
  | c => c
def mulK (F : Int) (b : Ps) : Ps := b.map fun q => (q.1 * F, q.2)
theorem mul_inj {F a b : Int} (hF : 1 ≤ F) : a * F = b * F ↔ a = b := ⟨fun h => Int.eq_of_mul_eq_mul_right (by omega) h, fun h => by rw [h]⟩
theorem look_mul {F : Int} (hF : 1 ≤ F) : ∀ (b : Ps) (k : Int), look (mulK F b) (k * F) = look b k
  | [], _ => rfl
  | q :: b, k => by
    show look ((q.1 * F, q.2) :: mulK F b) (k * F) = _
    rw [look_cons, look_cons, look_mul hF b]
    by_cases h : q.1 = k
    · rw [if_pos h, if_pos (by rw [h])]
    · rw [if_neg h, if_neg fun z => h ((mul_inj hF).mp z)]
theorem put_mul {F : Int} (hF : 1 ≤ F) (b : Ps) (k v : Int) : put (mulK F b) (k * F) v = mulK F (put b k v) := by
  unfold put
  have ea : (mulK F b).any (fun q => decide (q.1 = k * F)) = b.any (fun q => decide (q.1 = k)) := by
    unfold mulK
    rw [List.any_map]
    congr 1
    funext q
    show decide (q.1 * F = k * F) = decide (q.1 = k)
    exact decide_eq_decide.mpr (mul_inj hF)
  rw [ea]
  by_cases h : b.any (fun q => decide (q.1 = k)) = true
  · rw [if_pos h, if_pos h]
    unfold mulK
    rw [List.map_map, List.map_map]
    refine List.map_congr_left fun q _ => ?_
    show (if q.1 * F = k * F then (q.1 * F, v) else (q.1 * F, q.2)) = ((if q.1 = k then (q.1, v) else q).1 * F, (if q.1 = k then (q.1, v) else q).2)
    by_cases e : q.1 = k
    · rw [if_pos e, if_pos (by rw [e])]
    · rw [if_neg e, if_neg fun z => e ((mul_inj hF).mp z)]
  · rw [if_neg h, if_neg h]
    unfold mulK
    rw [List.map_append]
    rfl
theorem req_mul {F : Int} (hF : 1 ≤ F) (b : Ps) (o v : Int) : req (mulK F b) (o * F) v = mulK F (req b o v) := by
  unfold req
  rw [look_mul hF, put_mul hF]
theorem go_mul {F : Int} (hF : 1 ≤ F) : ∀ (r : List Cmd) (off need : Int) (b : Ps), go (r.map (Cmd.mul F)) (off * F) need (mulK F b) = (go r off need b).map fun x => (x.1, mulK F x.2)
  | [], off, need, b => rfl
  | .home :: r, off, need, b => rfl
  | .stop :: r, off, need, b => rfl
  | .right n :: r, off, need, b => by
    show (if need > n then go (r.map (Cmd.mul F)) (off * F) (need - n) (req (mulK F b) (off * F) need) else some (none, req (mulK F b) (off * F) need)) = (if need > n then go r off (need - n) (req b off need) else some (none, req b off need)).map _
    rw [req_mul hF]
    by_cases c : need > n
    · rw [if_pos c, if_pos c]
      exact go_mul hF r off (need - n) _
    · rw [if_neg c, if_neg c]
      rfl
  | .left n :: r, off, need, b => by
    show go (r.map (Cmd.mul F)) (off * F) (need + n) (req (mulK F b) (off * F) (need + n)) = _
    rw [req_mul hF]
    exact go_mul hF r off (need + n) _
  | .down n :: r, off, need, b => by
    show go (r.map (Cmd.mul F)) (off * F - n * F) need (mulK F b) = _
    rw [← Int.sub_mul]
    exact go_mul hF r (off - n) need b
  | .up n :: r, off, need, b => by
    show go (r.map (Cmd.mul F)) (off * F + n * F) need (mulK F b) = _
    rw [← Int.add_mul]
    exact go_mul hF r (off + n) need b
theorem last_mul (F : Int) : ∀ cs : List Cmd, last (cs.map (Cmd.mul F)) = last cs * F
  | [] => by show (0 : Int) = 0 * F; omega
  | c :: cs => by
    have e : ∀ (c : Cmd) (cs : List Cmd), last (c :: cs) = c.dv + last cs := fun _ _ => rfl
    have d : (c.mul F).dv = c.dv * F := by
      cases c with
      | up n =>
        show -(n * F) = -n * F
        rw [Int.neg_mul]
      | down n => rfl
      | right n => show (0 : Int) = 0 * F; omega
      | left n => show (0 : Int) = 0 * F; omega
      | home => show (0 : Int) = 0 * F; omega
      | stop => show (0 : Int) = 0 * F; omega
    rw [List.map_cons, e, e, last_mul F cs, d, Int.add_mul]
theorem good_mul {F : Int} (hF : 1 ≤ F) {b : Ps} (g : Good b) : Good (mulK F b) := by
  refine ⟨?_, fun q hq => ?_⟩
  · have e : keys (mulK F b) = (keys b).map (· * F) := by
      unfold keys mulK
      rw [List.map_map, List.map_map]
      rfl
    rw [e, List.nodup_iff_pairwise_ne, List.pairwise_map]
    exact (List.nodup_iff_pairwise_ne.mp g.nd).imp fun h z => h ((mul_inj hF).mp z)
  · obtain ⟨p, hp, rfl⟩ := List.mem_map.mp hq
    exact g.pos p hp
theorem asc_mul {F : Int} (hF : 1 ≤ F) {b : Ps} (h : Asc b) : Asc (mulK F b) := by
  unfold Asc mulK
  rw [List.pairwise_map]
  exact h.imp fun h => Int.mul_lt_mul_of_pos_right h (by omega)
theorem box_mul {F : Int} (hF : 1 ≤ F) {cs : List Cmd} {goal : Int} (h : AllOk cs) (hg : 1 ≤ goal) :
    boxM (cs.map (Cmd.mul F)) goal = (boxM cs goal).map fun x => (x.1, mulK F x.2) := by
  unfold boxM
  rw [last_mul, ← List.map_reverse]
  have e := go_mul hF cs.reverse (last cs) goal []
  have e' : go (cs.reverse.map (Cmd.mul F)) (last cs * F) goal [] = (go cs.reverse (last cs) goal []).map fun x => (x.1, mulK F x.2) := e
  rw [e']
  rcases go_goF (off := last cs) (allOk_rev h) good_nil hg with ⟨e1, _⟩ | ⟨st, b, e1, g, _, _⟩
  · rw [e1]
    rfl
  · rw [e1]
    show some (st, (mulK F b).mergeSort leK) = some (st, mulK F (b.mergeSort leK))
    have gm := good_mul hF g
    have key : (mulK F b).mergeSort leK = mulK F (b.mergeSort leK) := by
      have p : (mulK F (b.mergeSort leK)).Perm (mulK F b) := (List.mergeSort_perm b leK).map _
      refine asc_ext (asc_sort gm) (asc_mul hF (asc_sort g)) fun k => ?_
      rw [look_perm gm (List.mergeSort_perm _ leK), look_perm gm p]
    rw [key]
def Cmd.vert : Cmd → Bool
  | .down _ => true
  | .up _ => true
  | _ => false
theorem go_plain : ∀ (r : List Cmd) (off need : Int) (b : Ps), (∀ c ∈ r, c.vert = true) → go r off need b = some (some need, b)
  | [], _, _, _, _ => rfl
  | .down n :: r, off, need, b, h => go_plain r (off - n) need b fun c hc => h c (List.mem_cons_of_mem _ hc)
  | .up n :: r, off, need, b, h => go_plain r (off + n) need b fun c hc => h c (List.mem_cons_of_mem _ hc)
  | .right n :: r, _, _, _, h => nomatch h _ List.mem_cons_self
  | .left n :: r, _, _, _, h => nomatch h _ List.mem_cons_self
  | .home :: r, _, _, _, h => nomatch h _ List.mem_cons_self
  | .stop :: r, _, _, _, h => nomatch h _ List.mem_cons_self
theorem box_plain (cs : List Cmd) (goal : Int) (h : ∀ c ∈ cs, c.vert = true) : boxM cs goal = some (some goal, []) := by
  unfold boxM
  rw [go_plain cs.reverse (last cs) goal [] fun c hc => h c (List.mem_reverse.mp hc)]
  show some (some goal, ([] : Ps).mergeSort leK) = _
  rw [List.mergeSort_nil]
end Gc

/-! sorted(d.items()), d a dict of ints by ints -/
namespace Gc
open PySem PySem.Spec PyProof.Rows L2
/-- what such a dict holds -/
def dkI (ps : List (Int × Int)) : List (L2.Key × V) := ps.map fun q => (Sum.inl q.1, V.int q.2)
def encP (q : Int × Int) : PyData := .tuple [.int q.1, .int q.2]
def leP (p q : Int × Int) : Bool := decide (p.1 < q.1 ∨ (p.1 = q.1 ∧ p.2 ≤ q.2))
theorem dkI_at {ps : List (Int × Int)} {j : Nat} {kv : L2.Key × V} (h : (dkI ps)[j]? = some kv) : ∃ q, ps[j]? = some q ∧ kv = (Sum.inl q.1, V.int q.2) := by
  unfold dkI at h
  rw [List.getElem?_map] at h
  cases e : ps[j]? with
  | none =>
    rw [e] at h
    cases h
  | some q =>
    rw [e] at h
    exact ⟨q, rfl, (Option.some.inj h).symm⟩
theorem pairs_at {P : Program} {w : World} : ∀ {es : List DictEntry} {vs : List (L2.Key × Value)} {j : Nat} {e : DictEntry}, Pairs (mixKind P w) es vs → es[j]? = some e →
    ∃ kv, vs[j]? = some kv ∧ keyIs kv.1 e.key = true ∧ e.val = kv.2
  | _, _, 0, e, .cons h1 h2 _, h => by
    obtain rfl := Option.some.inj h
    exact ⟨_, rfl, h1, h2⟩
  | _, _, j + 1, e, .cons _ _ t, h => pairs_at (j := j) t h
theorem pairs_len {P : Program} {w : World} : ∀ {es : List DictEntry} {vs : List (L2.Key × Value)}, Pairs (mixKind P w) es vs → es.length = vs.length
  | _, _, .nil => rfl
  | _, _, .cons _ _ t => by
    rw [List.length_cons, List.length_cons, pairs_len t]
def rSortItI : V → Hp → VK → Prop := fun x H Q => ∃ (d : Addr) (ps : List (Int × Int)), x = .ref d ∧ H d = some (.dK (dkI ps)) ∧
  ∀ (H' : Hp) (l : Addr) (ts : List Addr), Same H H' → H l = none → H' l = some (.lst (ts.map V.ref)) →
    Paired (fun (t : Addr) (q : Int × Int) => H' t = some (.tup [.int q.1, .int q.2])) ts (ps.mergeSort leP) → Q (.ref l) H'
theorem each_paired {R : Value → Int × Int → Prop} {F : Addr → Int × Int → Prop} (hR : ∀ v q, R v q → ∃ t, v = .ref t ∧ F t q) : ∀ {vs : List Value} {qs : List (Int × Int)}, PySem.W.EachIs R vs qs →
    ∃ ts : List Addr, vs = ts.map Value.ref ∧ Paired F ts qs
  | _, _, .nil => ⟨[], rfl, .nil⟩
  | _, _, .cons h t => by
    obtain ⟨t0, e0, f0⟩ := hR _ _ h
    obtain ⟨ts, e1, f1⟩ := each_paired hR t
    exact ⟨t0 :: ts, by rw [e0, e1]; rfl, .cons f0 f1⟩
theorem vals_refs : ∀ as : List Addr, Vals (as.map V.ref) (as.map Value.ref)
  | [] => .nil
  | _ :: as => .cons rfl (vals_refs as)
section
variable {X : Cx}
theorem sort_items_run {pins : List (Addr × Obj)} {σ : L2.St} {H : Hp} {s : Shared} {Q : VK} {p d : Addr} {ps : List (Int × Int)} (I : Inv X pins σ H s) (hh : X.A.handled = none)
    (hu : X.A.units + 64 < cLine) (hd : H d = some (.dK (dkI ps))) (view : s.heap.IsItemsView p d)
    (q : ∀ (H' : Hp) (l : Addr) (ts : List Addr), Same H H' → H l = none → H' l = some (.lst (ts.map V.ref)) →
      Paired (fun (t : Addr) (q : Int × Int) => H' t = some (.tup [.int q.1, .int q.2])) ts (ps.mergeSort leP) → Q (.ref l) H') :
    wpAny (model X.prog X.w) X.A (call (.builtin "sorted") [.ref p]) (EP X pins σ Q) X.xe s := by
  obtain ⟨hz, hs0, vs, kv, o, es, ep, ho, hx, hdat, hko, hpr, hnd⟩ := (show ObjOk X.prog X.w H s.heap d (.dK (dkI ps)) from I.hok d _ hd)
  have l1 : (dkI ps).length = vs.length := Paired.length kv
  have l2 : es.toList.length = vs.length := pairs_len hpr
  have l3 : (dkI ps).length = ps.length := List.length_map ..
  have l4 : es.toList.length = es.size := by simp
  have ent : ∀ (j : Nat) (e : DictEntry), es[j]? = some e → ∃ (q : Int × Int) (t1 t2 : Tok), ps[j]? = some q ∧ e.key = .int q.1 t1 ∧ e.val = .int q.2 t2 := by
    intro j e he
    obtain ⟨kv', e1, e2, e3⟩ := pairs_at hpr (show es.toList[j]? = some e by simpa using he)
    obtain ⟨y, f1, f2, f3⟩ := L2.DX.pget kv e1
    obtain ⟨q, g1, rfl⟩ := dkI_at f1
    have f2' : Sum.inl q.1 = kv'.1 := f2
    rw [← f2'] at e2
    obtain ⟨t1, k1⟩ := Value.isInt_shape (k := q.1) (v := e.key) e2
    obtain ⟨t2, k2⟩ : ∃ t, kv'.2 = Value.int q.2 t := f3
    exact ⟨q, t1, t2, g1, k1, e3.trans k2⟩
  refine DT.sortedI (es := es) (ep := ep) hh view ⟨o, ho, hx, hdat⟩ (by omega) fun h' tk as hk hlt hl hG => ?_
  have nd : as.Nodup := List.Pairwise.imp (fun h => Nat.ne_of_lt h) hG.rise
  have lap : as.length = ps.length := by omega
  have pr : ∀ (j : Nat) (b : Addr), as[j]? = some b → ∃ (q : Int × Int) (t1 t2 : Tok), ps[j]? = some q ∧
      h'.get? b = some { cls := .type "tuple", data := .seq #[Value.int q.1 t1, Value.int q.2 t2] } := by
    intro j b hj
    obtain ⟨e, he, hg⟩ := hG.pairs j b hj
    obtain ⟨q, t1, t2, e1, e2, e3⟩ := ent j e he
    rw [e2, e3] at hg
    exact ⟨q, t1, t2, e1, hg⟩
  have hob : (h'.push { cls := .type "list", data := .seq (as.map Value.ref).toArray }).get? h'.objs.size = some (seqObj "list" (as.map Value.ref).toArray 0) := Heap.get?_push_size _ rfl
  have ne0 : ∀ b o, h'.get? b = some o → b ≠ h'.objs.size := fun b o e => Nat.ne_of_lt (Heap.lt_size e)
  have ka : ∀ b o, h'.get? b = some o → (h'.push { cls := .type "list", data := .seq (as.map Value.ref).toArray }).get? b = some o := fun b o e => Heap.get?_push_of_some _ e
  generalize hh2 : h'.push { cls := .type "list", data := .seq (as.map Value.ref).toArray } = h2 at hob ka ⊢
  have kb : ∀ b o, s.heap.get? b = some o → h2.get? b = some o := fun b o e => ka b o (hk b o e)
  have zipR : ∀ z, z ∈ (as.map Value.ref).zip ps → ∃ (j : Nat) (t : Addr), z.1 = Value.ref t ∧ as[j]? = some t ∧ ps[j]? = some z.2 := by
    intro z hz'
    obtain ⟨j, hj⟩ := List.mem_iff_getElem?.mp hz'
    obtain ⟨j1, j2⟩ := List.getElem?_zip_eq_some.mp hj
    rw [List.getElem?_map] at j1
    cases e : as[j]? with
    | none =>
      rw [e] at j1
      cases j1
    | some t =>
      rw [e] at j1
      exact ⟨j, t, (Option.some.inj j1).symm, e, j2⟩
  have eR : PySem.W.EachIs (fun v (q : Int × Int) => ∃ (j : Nat) (t : Addr), v = Value.ref t ∧ as[j]? = some t ∧ ps[j]? = some q) (as.map Value.ref) ps :=
    PySem.W.EachIs.of_zip (by rw [List.length_map]; exact lap) zipR
  have er : PySem.W.EachIs (fun v (q : Int × Int) => ∃ bs, Reads h2 v (encP q) bs ∧ h'.objs.size ∉ bs) (as.map Value.ref) ps := by
    refine eR.mono fun v q h => ?_
    obtain ⟨j, t, rfl, e1, e2⟩ := h
    obtain ⟨q', t1, t2, g1, g2⟩ := pr j t e1
    obtain rfl : q' = q := Option.some.inj (g1.symm.trans e2)
    exact ⟨_, .tuple (ka _ _ g2) rfl rfl (.cons (.int _ _) (.cons (.int _ _) .nil)), by simp⟩
  refine PySem.W.list_sort_data (s := { s with heap := h2, toks := tk }) (A := X.A.in1) (enc := encP) (bs := ps) (vs := as.map Value.ref) hob eR er
    (PySem.W.AllAlike.of fun b b' => by simp [encP, PySem.W.alike, PySem.W.alikeAll]) (PySem.W.Sortable.tuples fun b => ⟨_, _, rfl⟩) (by omega)
    (fun b _ => by show X.A.units + 1 + 1 + 1 < cLine; omega) fun out ol oe => ?_
  have le_eq : PySem.W.dataLe false encP = leP := PySem.W.dataLe_ii (fun q : Int × Int => q.1) (fun q => q.2)
  rw [le_eq] at oe
  show EP X pins σ Q (.ref h'.objs.size) { s with heap := sortedHeap h2 h'.objs.size (as.map Value.ref) out.toArray, toks := tk }
  obtain ⟨ts, rfl, tp⟩ := each_paired (F := fun t q => ∃ j : Nat, as[j]? = some t ∧ ps[j]? = some q) (fun v q h => by
    obtain ⟨j, t, e1, e2, e3⟩ := h
    exact ⟨t, e1, j, e2, e3⟩) oe
  have kF : ∀ b o, b ≠ h'.objs.size → h2.get? b = some o → (sortedHeap h2 h'.objs.size (as.map Value.ref) (ts.map Value.ref).toArray).get? b = some o :=
    fun b o hb e => (PyProof.Rows.sortedHeap_old hb (Heap.lt_size e)).trans e
  have kS : ∀ b o, s.heap.get? b = some o → (sortedHeap h2 h'.objs.size (as.map Value.ref) (ts.map Value.ref).toArray).get? b = some o :=
    fun b o e => kF b o (ne0 _ _ (hk b o e)) (kb b o e)
  obtain ⟨eF, heF⟩ := PyProof.Rows.sortedHeap_at (vs := as.map Value.ref) (out := (ts.map Value.ref).toArray) hob
  generalize sortedHeap h2 h'.objs.size (as.map Value.ref) (ts.map Value.ref).toArray = hF at kF kS heF ⊢
  have I1 : Inv X pins σ H { s with heap := hF, toks := tk } := I.kept (t' := tk) kS
  have hn0 : H h'.objs.size = none := I.hok.fresh (Nat.le_of_lt hlt)
  have tl : ts.length = ps.length := by
    rw [← ol, List.length_map]
  have I2 : Inv X pins σ (upd H h'.objs.size (.lst (ts.map V.ref))) { s with heap := hF, toks := tk } :=
    I1.take (h' := hF) (t' := tk) (fun b ob _ e => e) (I.fpOk (Nat.le_of_lt hlt) hn0) ⟨by rw [List.length_map]; omega, ts.map Value.ref, eF, vals_refs ts, heF⟩
  obtain ⟨H2, I3, g, qt⟩ := L2.DX.takeT (P := fun b vs => ∃ (j : Nat) (q : Int × Int), as[j]? = some b ∧ ps[j]? = some q ∧ vs = [.int q.1, .int q.2]) I as _ I2 nd fun b hb => by
    obtain ⟨j, hj⟩ := List.mem_iff_getElem?.mp hb
    obtain ⟨q, t1, t2, e1, e2⟩ := pr j b hj
    have old : s.heap.objs.size ≤ b := Nat.le_of_lt (hG.above b hb)
    refine ⟨old, ?_, [.int q.1, .int q.2], ⟨j, q, hj, e1, rfl⟩, fun H3 => ⟨by show 2 ≤ sizeLine; decide, [Value.int q.1 t1, Value.int q.2 t2], .cons ⟨_, rfl⟩ (.cons ⟨_, rfl⟩ .nil), ⟨_, kF _ _ (ne0 _ _ e2) (ka _ _ e2), rfl, 0, rfl⟩⟩⟩
    rw [upd_ne (ne0 _ _ e2)]
    exact I.hok.fresh old
  refine ⟨.ref h'.objs.size, H2, I3, rfl, q H2 h'.objs.size ts (fun b o e => g b o (by rw [upd_ne (ne_of_none e hn0)]; exact e)) hn0 (g _ _ upd_same) ?_⟩
  refine Paired.mapP tp fun t q h => ?_
  obtain ⟨j, j1, j2⟩ := h
  obtain ⟨vs', ⟨i, q', i1, i2, ev⟩, hH⟩ := qt t (List.mem_of_getElem? j1)
  have eij : i = j := (List.getElem?_inj (List.getElem?_eq_some_iff.mp i1).1 nd).mp (i1.trans j1.symm)
  subst eij
  obtain rfl : q' = q := Option.some.inj (i2.symm.trans j2)
  rw [ev] at hH
  exact hH
def tSortItems (te : TE) : TE := fun σ H Q => te σ H fun x H1 => rSortItI x H1 Q
variable {e : Expr} {te : TE} {p apos cpos pos : Pos}
theorem pe_sortItems (hc : X.calm = true) (hu : X.A.units + 64 < cLine) (he : PE X e te) (hg : Gl X "sorted") (hm : X.mg "sorted" = none)
    (hv : bootBuiltins "sorted" = some (.builtin "sorted"))
    (hbase : attributeBase e "items" X.env (eval e X.env) = eval e X.env := by rfl) (hline : (apos.endLine == cpos.line) = true := by rfl)
    (hs : starEach [.Call (.Attribute e "items" apos) [] [] cpos] X.env = (false, eval (.Call (.Attribute e "items" apos) [] [] cpos) X.env) :: starEach [] X.env := by rfl) :
    PE X (.Call (.Name "sorted" p) [.Call (.Attribute e "items" apos) [] [] cpos] [] pos) (tSortItems te) := by
  refine ⟨fun pins s σ H Q I hq => ?_⟩
  refine wpAny_Call_Name_kw (ld_blt I hg hm hv ?_)
  refine PyProof.Rows.callWith_builtin1 ?_ hs rfl
  rw [hs]
  show wpAny _ _ (spliced ((false, eval (.Call (.Attribute e "items" apos) [] [] cpos) X.env) :: backTo pos (starEach [] X.env))) _ _ s
  refine Calls.spliced_cons ?_
  refine wpAny_Call_method (T := "dict") (id := "dict.items") hbase rfl hline F.plainAttrs_dict F.slot_dict_items F.type_dict_items
    (thn (he.run pins s σ H _ I hq) fun u s1 ⟨x, H1, I1, rx, d, ps, ex, hd, q⟩ => ?_)
  subst ex
  obtain rfl : u = Value.ref d := rx
  obtain ⟨hz, hs0, vs, kv, hdo⟩ := I1.hok d _ hd
  have I2 : Inv X pins σ H1 { s1 with heap := s1.heap.push { cls := .type "dict_items", data := .fields #[.ref d] } } :=
    I1.kept (t' := s1.toks) fun b ob z => Heap.get?_push_of_some _ z
  refine ⟨hdo.typeIs, hdo.mapOf.noDict, ?_⟩
  show wpAny _ _ (callWith cpos (.builtin "dict.items") [.ref d] [] []) _ X.xe s1
  refine method_meetsIn F.slot_dict_items F.entry_dict_items rfl (PySem.evalArgs_none ⟨rfl, hdo.typeIs, F.args_dict_items_1 _, _, meets_dict_items (mixKind X.prog X.w) d hs0, ⟨vs, hdo⟩, ?_⟩)
  refine Calls.spliced_nil ?_
  exact sort_items_run I2 (I1.ok.hd hc) hu hd ⟨_, Heap.get?_push_size _ rfl, rfl, rfl⟩ q
end
end Gc

/-! match over written texts, with a last case for the rest -/
namespace Gc
open PySem L2
/-- what is wanted of the cases, by the subject's value -/
abbrev TM := V → TS
structure MC (X : Cx) (cs : List MatchCase) (t : TM) : Prop where
  run : ∀ (first : Bool) (pins : List (Addr × Obj)) (s : Shared) (σ : L2.St) (H : Hp) (D : Ends) (x : V) (v : Value),
    Inv X pins σ H s → RelV x v → t x D σ H →
    wpAny (model X.prog X.w) X.A (matchCases cs X.env v first) (fun f s' => SP X pins D f s') X.xe s
def mNil : TM := fun _ D σ H => D.nx σ H
/-- case 'z': .. -/
def mStr (z : Str) (tb : TS) (r : TM) : TM := fun x D σ H => ∃ y, x = .str y ∧ if decide (y = z) = true then tb D σ H else r x D σ H
/-- case _: .. -/
def mAny (tb : TS) : TM := fun _ D σ H => tb D σ H
section
variable {X : Cx} {rest : List MatchCase} {body : List Stmt} {tb : TS} {r : TM} {z : Str} {k : Nat} {p1 p2 pos : Pos} {e : Expr} {te : TE}
theorem mc_nil : MC X [] mNil := ⟨fun _ pins s σ H D x v I _ h => wpAny_matchCases_nil ⟨σ, H, I, h⟩⟩
theorem mc_str (hb : PSs X body tb) (hr : MC X rest r) :
    MC X (⟨.MatchValue (.Constant (.str z) k p1) p2, none, body⟩ :: rest) (mStr z tb r) := by
  refine ⟨fun first pins s σ H D x v I rx h => ?_⟩
  obtain ⟨y, rfl, h⟩ := h
  refine wpAny_matchCases_cons (wpAny_matchPattern_Value ?_)
  have hq : PE X (.Constant (.str z) k p1) (tC (.str z)) := pe_str
  refine wpAny_mono (hq.run pins s σ H (fun w H' => w = .str z ∧ H' = H) I ⟨rfl, rfl⟩) (fun u s1 hu => ?_) fun _ _ q => q
  obtain ⟨w, H1, I1, rw1, rfl, rfl⟩ := hu
  refine wpAny_mono ((op_eq (X := X)) pins s1 σ _ (.str y) (.str z) v u (fun w H' => w = .bl (decide (y = z)) ∧ H' = _) I1 rx rw1 ⟨rfl, ?_, rfl⟩) (fun c s2 hc => ?_) fun _ _ q => q
  · by_cases q : y = z
    · subst q
      rw [decide_eq_true (Eq.refl _), decide_eq_true (Eq.refl _)]
    · rw [decide_eq_false q, decide_eq_false fun e => q (V.str.inj e)]
  · obtain ⟨w, H2, I2, rw2, rfl, rfl⟩ := hc
    obtain rfl : c = Value.bool (decide (y = z)) := rw2
    refine wpAny_pure ?_
    by_cases q : y = z
    · rw [decide_eq_true q] at h ⊢
      show wpAny _ _ (assignInOrder [] []) _ _ _
      refine wpAny_assignInOrder_none ?_
      exact hb.run pins s2 σ _ D I2 h
    · rw [decide_eq_false q] at h ⊢
      exact hr.run false pins s2 σ _ D (.str y) v I2 rx h
theorem mc_any (hb : PSs X body tb) : MC X (⟨.MatchAs none none p2, none, body⟩ :: rest) (mAny tb) := by
  refine ⟨fun first pins s σ H D x v I rx h => ?_⟩
  refine wpAny_matchCases_cons (wpAny_matchPattern_Capture ?_)
  show wpAny _ _ (assignInOrder [] []) _ _ _
  exact wpAny_assignInOrder_none (hb.run pins s σ H D I h)
def tMatch (te : TE) (t : TM) : TS := fun D σ H => te σ H fun x H1 => t x D σ H1
theorem ps_match {cs : List MatchCase} {t : TM} (he : PE X e te) (hc : MC X cs t) : PS X (.Match e cs pos) (tMatch te t) := by
  refine ⟨fun pins s σ H D I h => ?_⟩
  refine wpAny_Match (wpAny_mono (he.run pins s σ H _ I h) (fun v s1 hv => ?_) fun _ _ q => q)
  obtain ⟨x, H1, I1, rx, q⟩ := hv
  exact hc.run true pins s1 σ H1 D x v I1 rx q
end
end Gc

namespace Gc
open PySem PyProof.Rows L2
/-! ### commands as tuples -/
def encC : Cmd → List V
  | .down n => [.str "down", .int n]
  | .up n => [.str "up", .int n]
  | .right n => [.str "right", .int n]
  | .left n => [.str "left", .int n]
  | .home => [.str "home"]
  | .stop => [.str "end"]
def CmdAt (K : PySem.W.Frag) (H : Hp) (v : V) (c : Cmd) : Prop := ∃ a, v = .ref a ∧ SqT K H a (encC c)
def CmdsOf (K : PySem.W.Frag) (H : Hp) (xs : List V) (cs : List Cmd) : Prop := Paired (CmdAt K H) xs cs
theorem CmdAt.same {K : PySem.W.Frag} {H H' : Hp} {v : V} {c : Cmd} (e : Same H H') (h : CmdAt K H v c) : CmdAt K H' v c := by
  obtain ⟨a, e1, h1⟩ := h
  exact ⟨a, e1, seq_t e h1⟩
theorem CmdsOf.same {K : PySem.W.Frag} {H H' : Hp} {xs : List V} {cs : List Cmd} (e : Same H H') (h : CmdsOf K H xs cs) : CmdsOf K H' xs cs := Paired.mapP h fun _ _ q => q.same e
theorem CmdsOf.len {K : PySem.W.Frag} {H : Hp} {xs : List V} {cs : List Cmd} (h : CmdsOf K H xs cs) : xs.length = cs.length := Paired.length h
theorem paired_at {α β : Type} {F : α → β → Prop} : ∀ {xs : List α} {ys : List β} {i : Nat} {x : α}, Paired F xs ys → xs[i]? = some x → ∃ y, ys[i]? = some y ∧ F x y
  | _, _, _, _, .nil, h => by simp at h
  | _, _, 0, x, .cons f _, h => by
    obtain rfl := Option.some.inj h
    exact ⟨_, rfl, f⟩
  | _, _, i + 1, x, .cons _ t, h => paired_at (i := i) t h
/-! ### dicts of ints by ints -/
theorem valV_dkI : ∀ (b : Ps) (k : Int), valV (dkI b) (Sum.inl k : L2.Key) = (look b k).map V.int
  | [], k => rfl
  | q :: b, k => by
    show valV (((Sum.inl q.1 : L2.Key), V.int q.2) :: dkI b) (Sum.inl k : L2.Key) = _
    rw [look_cons]
    by_cases h : q.1 = k
    · rw [if_pos h, valV_pos (by show (Sum.inl q.1 : L2.Key) = Sum.inl k; rw [h])]
      rfl
    · rw [if_neg h, valV_neg (by intro z; exact h (Sum.inl.inj z))]
      exact valV_dkI b k
theorem putK_dkI (b : Ps) (k v : Int) : putK (dkI b) (Sum.inl k : L2.Key) (V.int v) = dkI (put b k v) := by
  have ea : ((dkI b).any fun kv => decide (kv.1 = (Sum.inl k : L2.Key))) = b.any fun q => decide (q.1 = k) := by
    unfold dkI
    rw [List.any_map]
    congr 1
    funext q
    show decide ((Sum.inl q.1 : L2.Key) = Sum.inl k) = decide (q.1 = k)
    exact decide_eq_decide.mpr ⟨Sum.inl.inj, fun h => by rw [h]⟩
  unfold putK put
  rw [ea]
  by_cases h : (b.any fun q => decide (q.1 = k)) = true
  · rw [if_pos h, if_pos h]
    unfold dkI
    rw [List.map_map, List.map_map]
    refine List.map_congr_left fun q _ => ?_
    show (if (Sum.inl q.1 : L2.Key) = Sum.inl k then ((Sum.inl q.1 : L2.Key), V.int v) else (Sum.inl q.1, V.int q.2)) = (Sum.inl (if q.1 = k then (q.1, v) else q).1, V.int (if q.1 = k then (q.1, v) else q).2)
    by_cases e : q.1 = k
    · rw [if_pos e, if_pos (by rw [e])]
    · rw [if_neg e, if_neg fun z => e (Sum.inl.inj z)]
  · rw [if_neg h, if_neg h]
    unfold dkI
    rw [List.map_append]
    rfl
theorem put_len (b : Ps) (k v : Int) : (put b k v).length ≤ b.length + 1 := by
  unfold put
  split
  · rw [List.length_map]
    exact Nat.le_succ _
  · rw [List.length_append]
    exact Nat.le_refl _
theorem req_len (b : Ps) (o v : Int) : (req b o v).length ≤ b.length + 1 := put_len b o _
end Gc

namespace Gc
open PySem L2
def top (i : Nat) : Stmt := PySem.Challenge.pw_goalcolumn_k05_whole_cursors_and_lines.main.body.getD i (.Pass ⟨0, 0, 0, 0⟩)
abbrev s_is_count : Stmt := top 13
abbrev s_is_command : Stmt := top 12
abbrev s_check_commands : Stmt := top 11
abbrev s_row_change : Stmt := top 20
structure TxtB (K : PySem.W.Frag) (mg : Str → Option Value) (wo wn : Addr) : Prop where
  g_WITHOUT_NUMBER : mg "WITHOUT_NUMBER" = some (.ref wo)
  g_WITH_NUMBER : mg "WITH_NUMBER" = some (.ref wn)
  tWO : ∀ H, SqT K H wo [.str "home", .str "end"]
  tWN : ∀ H, SqT K H wn [.str "down", .str "up", .str "right", .str "left"]
  isinstance : mg "isinstance" = none
  int : mg "int" = none
  bool : mg "bool" = none
  len : mg "len" = none
  enumerate : mg "enumerate" = none
  reversed : mg "reversed" = none
  sorted : mg "sorted" = none
  max : mg "max" = none
  min : mg "min" = none
def spCount : Sp := fun vs H Q _ => ∃ n : Int, vs = [.int n] ∧ 1 ≤ n ∧ Q (.bl true) H
def spIsCmd (K : PySem.W.Frag) : Sp := fun vs H Q _ => ∃ (v : V) (c : Cmd), vs = [v] ∧ CmdAt K H v c ∧ c.ok ∧ ∀ H', Same H H' → Q (.bl true) H'
def spCheck (K : PySem.W.Frag) : Sp := fun vs H Q _ => ∃ (l : Addr) (xs : List V) (cs : List Cmd), vs = [.ref l] ∧ SqL K H l xs ∧ CmdsOf K H xs cs ∧ AllOk cs ∧ cs.length ≤ 10000 ∧ ∀ H', Same H H' → Q .non H'
def spRow (K : PySem.W.Frag) : Sp := fun vs H Q _ => ∃ (v : V) (c : Cmd), vs = [v] ∧ CmdAt K H v c ∧ Q (.int c.dv) H
theorem q_in {H : Hp} {Q : VK} {x : V} {xs : List V} (h : inV x xs = true) (k : Q (.bl true) H) : Q (.bl (if (false : Bool) = true then !inV x xs else inV x xs)) H := by
  rw [if_neg Bool.false_ne_true, h]
  exact k
theorem take_snoc {α : Type} : ∀ {l : List α} {i : Nat} {x : α}, l[i]? = some x → l.take (i + 1) = l.take i ++ [x]
  | [], i, x, h => by simp at h
  | a :: l, 0, x, h => by
    obtain rfl := Option.some.inj h
    rfl
  | a :: l, i + 1, x, h => by
    have ih := take_snoc (l := l) (i := i) (x := x) h
    show a :: l.take (i + 1) = a :: l.take i ++ [x]
    rw [ih]
    rfl
def optV : Option Int → V
  | none => .non
  | some n => .int n
theorem m_no {y z : Str} {tb : TS} {r : TM} {D : Ends} {σ : L2.St} {H : Hp} (h : decide (y = z) = false) (q : r (.str y) D σ H) : mStr z tb r (.str y) D σ H := ⟨y, rfl, by rw [h]; exact iteF q⟩
theorem m_yes {y z : Str} {tb : TS} {r : TM} {D : Ends} {σ : L2.St} {H : Hp} (h : decide (y = z) = true) (q : tb D σ H) : mStr z tb r (.str y) D σ H := ⟨y, rfl, by rw [h]; exact iteT q⟩
section
variable {P : Program} {w : World} {K : PySem.W.Frag} {mg : Str → Option Value} {base : Heap} {wo wn : Addr}
theorem sc_is_count : FnScope ["number"] ["number"] (defScope s_is_count) := ⟨rfl, rfl, rfl, by decide +kernel, rfl, by decide +kernel, by decide +kernel⟩
theorem ok_is_count {f : Addr} {fd : FuncData} (F : Fun K "is_count" "is_count" s_is_count f fd) (T : TxtB K mg wo wn) : FnOk P w K mg base CX0 1 f fd ["number"] spCount := by
  refine F.ok sc_is_count (fun vs H Q E h => ?_) (fun cdv A outer s H vs Q E hr h => ?_)
  · obtain ⟨n, rfl, _⟩ := h
    rfl
  · obtain ⟨n, rfl, hn, k⟩ := h
    refine ⟨_, (pss_one (ps_ret (pe_and (pe_callB call_isi (by rfl) T.isinstance (by decide +kernel) (pa_cons (pv 0) (pa_cons (pe_bltn (v := .ty "int") (u := .type "int") (by rfl) T.int (by decide +kernel) rfl) pa_nil))) (pe_and (pe_not (pe_callB call_isi (by rfl) T.isinstance (by decide +kernel) (pa_cons (pv 0) (pa_cons (pe_bltn (v := .ty "bool") (u := .type "bool") (by rfl) T.bool (by decide +kernel) rfl) pa_nil)))) (pe_one (pe_cmpR op_ge (pv 0) pe_int (nomark _))))))), ?_⟩
    refine ⟨_, rfl, _, _, _, _, _, rfl, .ty "int", .base (.int n), kit_ty (show kitB "int" "int" = some true by decide +kernel), _, rfl, iteT ?_⟩
    refine ⟨_, rfl, _, _, _, _, _, rfl, .ty "bool", .base (.int n), kit_ty (show kitB "int" "bool" = some false by decide +kernel), _, rfl, _, rfl, iteT ?_⟩
    refine ⟨_, rfl, _, _, rfl, rfl, ?_⟩
    show Q (.bl (decide (1 ≤ n))) H
    rw [decide_eq_true hn]
    exact k
theorem sc_is_command : FnScope ["command"] ["command"] (defScope s_is_command) := ⟨rfl, rfl, rfl, by decide +kernel, rfl, by decide +kernel, by decide +kernel⟩
theorem ok_is_command {f : Addr} {fd : FuncData} (F : Fun K "is_command" "is_command" s_is_command f fd) (T : TxtB K mg wo wn) (c_is_count : Cal P w K mg base 1 "is_count" spCount) : FnOk P w K mg base CX0 2 f fd ["command"] (spIsCmd K) := by
  refine F.ok sc_is_command (fun vs H Q E h => ?_) (fun cdv A outer s H vs Q E hr h => ?_)
  · obtain ⟨v, c, rfl, _⟩ := h
    rfl
  · obtain ⟨v, c, rfl, ⟨a, rfl, ha⟩, hc, k⟩ := h
    refine ⟨_, (pss_cons (ps_if (pt_cmpR op_eq (pe_callB call_len_seq (by rfl) T.len (by decide +kernel) (pa_cons (pv 0) pa_nil)) pe_int (nomark _)) (pss_one (ps_ret (pe_cmpR op_in_seq (pe_ix ix_tup (pv 0) pe_int (fun _ _ => rfl)) (pe_glob (v := .ref wo) (by rfl) T.g_WITHOUT_NUMBER rfl) (by rfl)))) pss_nil)
      (pss_one (ps_ret (pe_and (pe_cmpR op_eq (pe_callB call_len_seq (by rfl) T.len (by decide +kernel) (pa_cons (pv 0) pa_nil)) pe_int (nomark _)) (pe_and (pe_cmpR op_in_seq (pe_ix ix_tup (pv 0) pe_int (fun _ _ => rfl)) (pe_glob (v := .ref wn) (by rfl) T.g_WITH_NUMBER rfl) (by rfl)) (pe_one (pe_cal c_is_count hr (by decide) (by rfl) (pa_cons (pe_ix ix_tup (pv 0) pe_int (fun _ _ => rfl)) pa_nil)))))))), ?_⟩
    have k0 := k H (Same.refl H)
    cases c with
    | down n =>
      refine ⟨_, rfl, a, _, rfl, .inr ha, rfl, _, rfl, iteF ?_⟩
      refine ⟨_, rfl, a, _, rfl, .inr ha, rfl, _, rfl, iteT ?_⟩
      refine ⟨_, rfl, a, _, 0, _, rfl, rfl, ha, rfl, wn, _, rfl, .inr (T.tWN _), rfl, rfl, true, by decide +kernel, iteT ?_⟩
      exact ⟨_, rfl, a, _, 1, _, rfl, rfl, ha, rfl, n, rfl, hc, k0⟩
    | up n =>
      refine ⟨_, rfl, a, _, rfl, .inr ha, rfl, _, rfl, iteF ?_⟩
      refine ⟨_, rfl, a, _, rfl, .inr ha, rfl, _, rfl, iteT ?_⟩
      refine ⟨_, rfl, a, _, 0, _, rfl, rfl, ha, rfl, wn, _, rfl, .inr (T.tWN _), rfl, rfl, true, by decide +kernel, iteT ?_⟩
      exact ⟨_, rfl, a, _, 1, _, rfl, rfl, ha, rfl, n, rfl, hc, k0⟩
    | right n =>
      refine ⟨_, rfl, a, _, rfl, .inr ha, rfl, _, rfl, iteF ?_⟩
      refine ⟨_, rfl, a, _, rfl, .inr ha, rfl, _, rfl, iteT ?_⟩
      refine ⟨_, rfl, a, _, 0, _, rfl, rfl, ha, rfl, wn, _, rfl, .inr (T.tWN _), rfl, rfl, true, by decide +kernel, iteT ?_⟩
      exact ⟨_, rfl, a, _, 1, _, rfl, rfl, ha, rfl, n, rfl, hc, k0⟩
    | left n =>
      refine ⟨_, rfl, a, _, rfl, .inr ha, rfl, _, rfl, iteF ?_⟩
      refine ⟨_, rfl, a, _, rfl, .inr ha, rfl, _, rfl, iteT ?_⟩
      refine ⟨_, rfl, a, _, 0, _, rfl, rfl, ha, rfl, wn, _, rfl, .inr (T.tWN _), rfl, rfl, true, by decide +kernel, iteT ?_⟩
      exact ⟨_, rfl, a, _, 1, _, rfl, rfl, ha, rfl, n, rfl, hc, k0⟩
    | home =>
      refine ⟨_, rfl, a, _, rfl, .inr ha, rfl, _, rfl, iteT ?_⟩
      refine ⟨_, rfl, a, _, 0, _, rfl, rfl, ha, rfl, wo, _, rfl, .inr (T.tWO _), rfl, rfl, ?_⟩
      exact q_in (by decide +kernel) k0
    | stop =>
      refine ⟨_, rfl, a, _, rfl, .inr ha, rfl, _, rfl, iteT ?_⟩
      refine ⟨_, rfl, a, _, 0, _, rfl, rfl, ha, rfl, wo, _, rfl, .inr (T.tWO _), rfl, rfl, ?_⟩
      exact q_in (by decide +kernel) k0
theorem sc_row_change : FnScope ["command"] ["command"] (defScope s_row_change) := ⟨rfl, rfl, rfl, by decide +kernel, rfl, by decide +kernel, by decide +kernel⟩
theorem ok_row_change {f : Addr} {fd : FuncData} (F : Fun K "row_change" "row_change" s_row_change f fd) : FnOk P w K mg base CX0 1 f fd ["command"] (spRow K) := by
  refine F.ok sc_row_change (fun vs H Q E h => ?_) (fun cdv A outer s H vs Q E hr h => ?_)
  · obtain ⟨v, c, rfl, _⟩ := h
    rfl
  · obtain ⟨v, c, rfl, ⟨a, rfl, ha⟩, k⟩ := h
    refine ⟨_, (pss_cons (ps_if (pt_cmpR op_eq (pe_ix ix_tup (pv 0) pe_int (fun _ _ => rfl)) pe_str (nomark _)) (pss_one (ps_ret (pe_ix ix_tup (pv 0) pe_int (fun _ _ => rfl)))) pss_nil)
      (pss_cons (ps_if (pt_cmpR op_eq (pe_ix ix_tup (pv 0) pe_int (fun _ _ => rfl)) pe_str (nomark _)) (pss_one (ps_ret (pe_un un_neg (pe_ix ix_tup (pv 0) pe_int (fun _ _ => rfl))))) pss_nil)
      (pss_one (ps_ret pe_int)))), ?_⟩
    cases c with
    | down n =>
      refine ⟨_, rfl, a, _, 0, _, rfl, rfl, ha, rfl, rfl, true, by decide +kernel, iteT ?_⟩
      exact ⟨_, rfl, a, _, 1, _, rfl, rfl, ha, rfl, k⟩
    | up n =>
      refine ⟨_, rfl, a, _, 0, _, rfl, rfl, ha, rfl, rfl, false, by decide +kernel, iteF ?_⟩
      refine ⟨_, rfl, a, _, 0, _, rfl, rfl, ha, rfl, rfl, true, by decide +kernel, iteT ?_⟩
      exact ⟨_, rfl, a, _, 1, _, rfl, rfl, ha, rfl, n, rfl, k⟩
    | right n =>
      refine ⟨_, rfl, a, _, 0, _, rfl, rfl, ha, rfl, rfl, false, by decide +kernel, iteF ?_⟩
      refine ⟨_, rfl, a, _, 0, _, rfl, rfl, ha, rfl, rfl, false, by decide +kernel, iteF ?_⟩
      exact k
    | left n =>
      refine ⟨_, rfl, a, _, 0, _, rfl, rfl, ha, rfl, rfl, false, by decide +kernel, iteF ?_⟩
      refine ⟨_, rfl, a, _, 0, _, rfl, rfl, ha, rfl, rfl, false, by decide +kernel, iteF ?_⟩
      exact k
    | home =>
      refine ⟨_, rfl, a, _, 0, _, rfl, rfl, ha, rfl, rfl, false, by decide +kernel, iteF ?_⟩
      refine ⟨_, rfl, a, _, 0, _, rfl, rfl, ha, rfl, rfl, false, by decide +kernel, iteF ?_⟩
      exact k
    | stop =>
      refine ⟨_, rfl, a, _, 0, _, rfl, rfl, ha, rfl, rfl, false, by decide +kernel, iteF ?_⟩
      refine ⟨_, rfl, a, _, 0, _, rfl, rfl, ha, rfl, rfl, false, by decide +kernel, iteF ?_⟩
      exact k
theorem sc_check_commands : FnScope ["commands", "index", "command"] ["commands"] (defScope s_check_commands) := ⟨rfl, rfl, rfl, by decide +kernel, rfl, by decide +kernel, by decide +kernel⟩
theorem ok_check_commands {f : Addr} {fd : FuncData} (F : Fun K "check_commands" "check_commands" s_check_commands f fd) (T : TxtB K mg wo wn) (c_is_command : Cal P w K mg base 2 "is_command" (spIsCmd K)) : FnOk P w K mg base CX0 3 f fd ["commands"] (spCheck K) := by
  refine F.ok sc_check_commands (fun vs H Q E h => ?_) (fun cdv A outer s H vs Q E hr h => ?_)
  · obtain ⟨l, xs, cs, rfl, _⟩ := h
    rfl
  · obtain ⟨l, xs, cs, rfl, hl, hcs, hk, hn, k⟩ := h
    refine ⟨_, (pss_one (ps_for PassesOwn.never rfl (pi_enum (by rfl) T.enumerate (pa_cons (pv 0) pa_nil)) (pg_tup rfl (pgs_cons (pg_name (i := 1) sc_check_commands.nd rfl (Or.inl rfl)) (pgs_cons (pg_name (i := 2) sc_check_commands.nd rfl (Or.inl rfl)) pgs_nil))) (pss_one (ps_if (pt_not (pt_val (pe_cal c_is_command hr (by decide) (by rfl) (pa_cons (pv 2) pa_nil)))) (pss_one ps_never) pss_nil)))), ?_⟩
    refine ⟨_, rfl, l, xs, rfl, hl, for_it (walk_enum (K := K) (a := l) (xs := xs)) (fun i σ H' => ∃ v1 v2 : Option V, σ = [some (.ref l), v1, v2] ∧ Same H H')
      ⟨none, none, rfl, Same.refl H⟩ (fun i σ H' _ ⟨_, _, _, e⟩ => e.seq hl) (fun i x σ H1 H2 hi h y => ?_) (fun σ H1 h => ?_)⟩
    · obtain ⟨v1, v2, rfl, e⟩ := h
      obtain ⟨T1, x1, y1, rfl, nT, rfl, e1, e2⟩ := y
      obtain ⟨c, hc, hca⟩ := paired_at hcs e2
      have eT : Same H (upd H1 T1 (.tup [x1, y1])) := same_upd e nT
      refine ⟨T1, _, rfl, SqT.of upd_same, rfl, _, _, rfl, _, _, rfl, rfl, ?_⟩
      refine ⟨_, rfl, y1, c, rfl, hca.same eT, hk c (List.mem_of_getElem? hc), fun H3 e3 => ⟨_, rfl, iteF ?_⟩⟩
      exact ⟨_, _, rfl, eT.trans e3⟩
    · obtain ⟨v1, v2, rfl, e⟩ := h
      exact k _ e
end
end Gc

/-! x *= y of great numbers; xs[i] += y -/
namespace Gc
open PySem PySem.Spec PyProof.Rows L2
section
variable {X : Cx}
def ipC (C : Int → Int → Prop) (f : Int → Int → Int) : TIp := fun x y H Q => ∃ i j, x = .int i ∧ y = .int j ∧ C i j ∧ Q (.int (f i j)) H
theorem ip_mulW : PIp X .Mult (ipC CMulW fun i j => i * j) := by
  intro pins s σ H x y v u Q I rx ry h
  obtain ⟨i, j, rfl, rfl, hc, q⟩ := h
  obtain ⟨t, rfl⟩ := rx
  obtain ⟨t', rfl⟩ := ry
  exact PySem.P.imul_int (⟨.int (i * j), H, I.tok _, ⟨_, rfl⟩, q⟩) hc.ok
/-- an item of a list by its place from the front, within an augmented assignment -/
def rGetL : V → V → Hp → VK → Prop := fun o i H Q => ∃ (p : Addr) (xs : List V) (j : Nat) (v : V), o = .ref p ∧ i = .int j ∧ H p = some (.lst xs) ∧ xs.length ≤ 1000000 ∧ xs[j]? = some v ∧ Q v H
theorem get_list : PGet X rGetL := by
  intro pins s σ H o i ov iv Q I ro ri h
  obtain ⟨p, xs, j, z, rfl, rfl, hp, hl, hj, q⟩ := h
  cases ro
  obtain ⟨t, rfl⟩ := ri
  obtain ⟨its, r, pl, hz⟩ := I.list (.inl (.inl hp))
  obtain ⟨w, ew, rw'⟩ := r.get hj
  have lj := (List.getElem?_eq_some_iff.mp hj).1
  have l63 := line63
  refine wpAny_getItem_list (x := w) pl.isList (by omega) (by omega) (by simpa using ew) ⟨z, H, I, rw', q⟩
end
end Gc

/-! the source of numbers of the laws k01 to k05, k40 to k43 -/
namespace Gc
open PySem L2
abbrev s_source : Stmt := top 24
abbrev s_sdraw : Stmt := top 25
/-! ### the source of drawn numbers: at a, its digits at d; at most n draws were made -/
def Src (H : Hp) (a d : Addr) (n : Nat) : Prop := ∃ (ds : List Int) (cur mix cnt : Int), H a = some (.lst [.ref d, .int cur, .int mix, .int cnt]) ∧ H d = some (.lst (ds.map V.int)) ∧
  0 ≤ mix ∧ mix < 2 ^ 61 ∧ 0 ≤ cnt ∧ cnt ≤ n ∧ ds.length ≤ 63
theorem src_ne {H : Hp} {a d : Addr} {n : Nat} (h : Src H a d n) : a ≠ d := by
  obtain ⟨ds, cur, mix, cnt, h1, h2, _⟩ := h
  refine ne_of h1 h2 fun e => ?_
  cases ds with
  | nil => cases e
  | cons x xs => cases e

theorem Src.same {H H' : Hp} {a d : Addr} {n : Nat} (e : Same H H') (h : Src H a d n) : Src H' a d n := by
  obtain ⟨ds, cur, mix, cnt, h1, h2, h3⟩ := h
  exact ⟨ds, cur, mix, cnt, e _ _ h1, e _ _ h2, h3⟩
theorem Src.more {H : Hp} {a d : Addr} {n m : Nat} (h : Src H a d n) (l : n ≤ m) : Src H a d m := by
  obtain ⟨ds, cur, mix, cnt, h1, h2, h3, h4, h5, h6, h7⟩ := h
  exact ⟨ds, cur, mix, cnt, h1, h2, h3, h4, h5, by omega, h7⟩
theorem Src.off {H : Hp} {a d p : Addr} {n : Nat} (h : Src H a d n) (hp : H p = none) : p ≠ a ∧ p ≠ d := by
  obtain ⟨ds, cur, mix, cnt, h1, h2, _⟩ := h
  exact ⟨(ne_of_none h1 hp).symm, (ne_of_none h2 hp).symm⟩
theorem Src.upd {H : Hp} {a d p : Addr} {n : Nat} {o : HO} (h : Src H a d n) (n1 : p ≠ a) (n2 : p ≠ d) : Src (upd H p o) a d n := by
  obtain ⟨ds, cur, mix, cnt, h1, h2, h3⟩ := h
  exact ⟨ds, cur, mix, cnt, by rw [upd_ne n1.symm]; exact h1, by rw [upd_ne n2.symm]; exact h2, h3⟩
/-- tuples stand while numbers are drawn -/
theorem Src.tup {K : PySem.W.Frag} {H H' : Hp} {a d p : Addr} {n : Nat} {ys : List V} (B : Src H a d n) (e : Keep a d H H') (h : SqT K H p ys) : SqT K H' p ys := by
  obtain ⟨ds, _, _, _, h1, h2, _⟩ := B
  rcases h with (z | ⟨o, z⟩) | z
  · exact .inl (.inl (e _ _ (ne_of z h1 (by intro q; cases q)) (ne_of z h2 (by intro q; cases q)) z))
  · exact .inl (.inr ⟨o, e _ _ (ne_of z h1 (by intro q; cases q)) (ne_of z h2 (by intro q; cases q)) z⟩)
  · exact .inr z
def spSource (K : PySem.W.Frag) : Sp := fun vs H Q _ => ∃ (a : Addr) (ns : List Int), vs = [.ref a] ∧ SqL K H a (ns.map V.int) ∧ ns.length ≤ 63 ∧
  ∀ (H' : Hp) (p d : Addr), Same H H' → H p = none → H d = none → Src H' p d 0 → Q (.ref p) H'
def spDraw : Sp := fun vs H Q _ => ∃ (a d : Addr) (n : Nat) (many : Int), vs = [.ref a, .int many] ∧ Src H a d n ∧ n < 2 ^ 40 ∧ 0 < many ∧ many.natAbs.log2 < 9000 ∧
  ∀ (H' : Hp) (r : Int), Keep a d H H' → Src H' a d (n + 1) → 0 ≤ r → r < many → Q (.int r) H'
theorem pos61 : (0 : Int) < 2 ^ (61 : Int).toNat - 1 := by decide
structure TxtD (mg : Str → Option Value) : Prop where
  max : mg "max" = none

section
variable {P : Program} {w : World} {K : PySem.W.Frag} {mg : Str → Option Value} {base : Heap}
theorem sc_law_source : FnScope ["script", "mix", "digits", "cell", "size"] ["script"] (defScope s_source) := ⟨rfl, rfl, rfl, by decide +kernel, rfl, by decide +kernel, by decide +kernel⟩
theorem ok_source {f : Addr} {fd : FuncData} (F : Fun K "_law_source" "_law_source" s_source f fd) (T : TxtD mg) : FnOk P w K mg base CX0 1 f fd ["script"] (spSource K) := by
  refine F.ok sc_law_source (fun vs H Q E h => ?_) (fun cdv A outer s H vs Q E hr h => ?_)
  · obtain ⟨a, ns, rfl, _⟩ := h
    rfl
  · obtain ⟨a, ns, rfl, hS, hlen, k⟩ := h
    refine ⟨_, (pss_cons (ps_set (i := 1) sc_law_source.nd rfl (Or.inl rfl) pe_int)
      (pss_cons (ps_set (i := 2) sc_law_source.nd rfl (Or.inl rfl) (pe_lst pa_nil))
      (pss_cons (ps_for PassesOwn.never rfl (pi_list (pv 0)) (pg_name (i := 3) sc_law_source.nd rfl (Or.inl rfl)) (pss_cons (ps_set (i := 1) sc_law_source.nd rfl (Or.inl rfl) (pe_op op_mod (pe_op op_add (pe_op op_mulW (pv 1) pe_int) (pv 3)) (pe_op op_sub (pe_op op_pow pe_int pe_int) pe_int)))
      (pss_cons (ps_set (i := 4) sc_law_source.nd rfl (Or.inl rfl) (pe_callB (call_max2 rfl) (by rfl) T.max (by decide +kernel) (pa_cons (pv 3) (pa_cons (pe_op op_sub pe_int (pv 3)) pa_nil))))
      (pss_one (ps_if (pt_cmpR op_ge (pv 4) (pe_op op_pow pe_int pe_int) (nomark _)) (pss_one (ps_expr (pe_bm PySem.F.plainAttrs_list PySem.F.slot_list_append PySem.F.type_list_append mt_append (pv 2) (pa_cons (pe_op op_sub (pv 4) (pe_op op_pow pe_int pe_int)) pa_nil)))) pss_nil)))))
      (pss_one (ps_ret (pe_lst (pa_cons (pv 2) (pa_cons pe_int (pa_cons (pv 1) (pa_cons pe_int pa_nil)))))))))), ?_⟩
    refine ⟨Nat.zero_le _, fun d hd => ?_⟩
    refine ⟨_, rfl, a, rfl, ⟨_, (same_upd (Same.refl H) hd).seq hS⟩, for_list (K := K) (a := a) (xs := ns.map V.int) (fun i σ H' => ∃ (mix : Int) (ds : List Int) (v1 v2 : Option V), σ = [some (.ref a), some (.int mix), some (.ref d), v1, v2] ∧ Same H H' ∧ H' d = some (.lst (ds.map V.int)) ∧ 0 ≤ mix ∧ mix < 2 ^ 61 ∧ ds.length ≤ i)
      ⟨271828182845904, [], none, none, rfl, same_upd (Same.refl H) hd, upd_same, by decide, by decide, Nat.le_refl _⟩ (fun i σ H' _ ⟨_, _, _, _, _, e, _⟩ => e.seq hS) ?_ ?_⟩
    · rintro i y σ H' hi ⟨mix, ds, v1, v2, rfl, e, hD, m0, m1, hl⟩
      obtain ⟨u, rfl⟩ := int_at hi
      have hi' : i < ns.length := by
        have q := (List.getElem?_eq_some_iff.mp hi).1
        rw [List.length_map] at q
        exact q
      -- mix = (mix * 1000033 + cell) % (2 ** 61 - 1)
      refine ⟨_, rfl, _, _, rfl, rfl, wide_mul (a := 61) (b := 61) (by omega) (by decide) (by decide) (by decide) (by decide), _, rfl, _, _, rfl, rfl, _, _, rfl, rfl, cpow (by decide), _, _, rfl, rfl, _, _, rfl, rfl, pos61, ?_⟩
      -- size = max(cell, 0 - cell)
      refine ⟨_, rfl, _, rfl, _, _, rfl, rfl, _, _, rfl, ?_⟩
      -- if size >= 10 ** 18
      refine ⟨_, rfl, _, _, rfl, rfl, cpow (by decide), _, _, rfl, rfl, _, rfl, ?_⟩
      have b0 := Int.emod_nonneg (mix * 1000033 + u) (show (2 : Int) ^ (61 : Int).toNat - 1 ≠ 0 by decide)
      have b1 := Int.emod_lt_of_pos (mix * 1000033 + u) (show (0 : Int) < 2 ^ (61 : Int).toNat - 1 by decide)
      have b2 : (2 : Int) ^ (61 : Int).toNat - 1 < 2 ^ 61 := by decide
      refine ite2 (fun _ => ?_) (fun _ => ?_)
      · refine ⟨_, rfl, Or.inl ⟨rfl, _, SqL.of hD⟩, _, rfl, _, _, rfl, rfl, cpow (by decide), _, _, rfl, rfl, d, _, _, rfl, rfl, hD, ?_, ?_⟩
        · rw [List.length_map]
          exact small1000 (by omega)
        · refine ⟨_, ds ++ [(if 0 - u > u then 0 - u else u) - 10 ^ (18 : Int).toNat], _, _, rfl, fun b o hb => ?_, ?_, b0, Int.lt_trans b1 b2, ?_⟩
          · rw [upd_ne (ne_of_none hb hd)]
            exact e b o hb
          · rw [upd_same, List.map_append]
            rfl
          · rw [List.length_append, List.length_singleton]
            omega
      · exact ⟨_, ds, _, _, rfl, e, hD, b0, Int.lt_trans b1 b2, Nat.le_succ_of_le hl⟩
    · rintro σ H' ⟨mix, ds, v1, v2, rfl, e, hD, m0, m1, hl⟩
      refine ⟨_, rfl, _, rfl, (by show 4 ≤ sizeLine; decide), fun p hp => ?_⟩
      have hl' : ds.length ≤ 63 := by
        rw [List.length_map] at hl
        omega
      have npd : p ≠ d := (ne_of_none hD hp).symm
      exact k _ p d (same_upd e hp) (e.free hp) hd ⟨ds, 0, mix, 0, upd_same, by rw [upd_ne npd.symm]; exact hD, m0, m1, by decide, by decide, hl'⟩
theorem sc_law_draw : FnScope ["source", "many", "drawn", "mixed"] ["source", "many"] (defScope s_sdraw) := ⟨rfl, rfl, rfl, by decide +kernel, rfl, by decide +kernel, by decide +kernel⟩
theorem ok_draw {f : Addr} {fd : FuncData} (F : Fun K "_law_draw" "_law_draw" s_sdraw f fd) : FnOk P w K mg base CX0 1 f fd ["source", "many"] spDraw := by
  refine F.ok sc_law_draw (fun vs H Q E h => ?_) (fun cdv A outer s H vs Q E hr h => ?_)
  · obtain ⟨a, d, n, many, rfl, _⟩ := h
    rfl
  · obtain ⟨a, d, n, many, rfl, hs, hn, m0, mb, k⟩ := h
    have nad := src_ne hs
    obtain ⟨ds0, cur0, mix, cnt, hA0, hD0, x0, x1, c0, c1, hl0⟩ := hs
    refine ⟨_, (C8.pss_cut (ps_while PassesOwn.never (PW.pt (pw_and (pt_cmpR op_lt (pe_ix ix_list (pv 0) pe_int (fun _ _ => rfl)) pe_int (nomark _)) (pw_and1 (pt_cmpR (op_neD hr.units) (pe_ix ix_list (pv 0) pe_int (fun _ _ => rfl)) (pe_lst pa_nil) (nomark _))))) (pss_one (ps_asg (pe_bm PySem.F.plainAttrs_list PySem.F.slot_list_pop PySem.F.type_list_pop mt_popAt (pe_ix ix_list (pv 0) pe_int (fun _ _ => rfl)) (pa_cons pe_int pa_nil)) (pg_sub (pv 0) pe_int set_list))))
      (pss_cons (ps_if (pt_cmpR op_ge (pe_ix ix_list (pv 0) pe_int (fun _ _ => rfl)) pe_int (nomark _)) (pss_cons (ps_set (i := 2) sc_law_draw.nd rfl (Or.inl rfl) (pe_op op_mod (pe_ix ix_list (pv 0) pe_int (fun _ _ => rfl)) (pv 1)))
      (pss_cons (ps_asg (pe_op op_fdivW (pe_ix ix_list (pv 0) pe_int (fun _ _ => rfl)) (pv 1)) (pg_sub (pv 0) pe_int set_list))
      (pss_one (ps_ret (pv 2))))) pss_nil)
      (pss_cons (ps_asg (pe_op op_add (pe_ix ix_list (pv 0) pe_int (fun _ _ => rfl)) pe_int) (pg_sub (pv 0) pe_int set_list))
      (pss_cons (ps_set (i := 3) sc_law_draw.nd rfl (Or.inl rfl) (pe_op op_mulW (pe_op op_add (pe_ix ix_list (pv 0) pe_int (fun _ _ => rfl)) pe_int) (pe_op op_pow (pe_op op_add (pe_ix ix_list (pv 0) pe_int (fun _ _ => rfl)) pe_int) pe_int)))
      (pss_cons (ps_set (i := 3) sc_law_draw.nd rfl (Or.inl rfl) (pe_op op_mod (pe_op op_add (pv 3) (pe_op op_mulW pe_int (pe_ix ix_list (pv 0) pe_int (fun _ _ => rfl)))) (pe_op op_sub (pe_op op_pow pe_int pe_int) pe_int)))
      (pss_one (ps_ret (pe_op op_mod (pe_op op_fdivW (pe_op op_mod (pe_op op_pow (pv 3) pe_int) (pe_op op_add (pe_op op_pow pe_int pe_int) pe_int)) pe_int) (pv 1))))))))), ?_⟩
    refine ⟨fun σ H' => ∃ (ds : List Int) (cur : Int), σ = [some (.ref a), some (.int many), none, none] ∧ Keep a d H H' ∧ H' a = some (.lst [.ref d, .int cur, .int mix, .int cnt]) ∧ H' d = some (.lst (ds.map V.int)) ∧ ds.length ≤ 63, ?_, ?_⟩
    · refine ⟨fun m σ H' => ∃ (ds : List Int) (cur : Int), m = ds.length ∧ σ = [some (.ref a), some (.int many), none, none] ∧ Keep a d H H' ∧ H' a = some (.lst [.ref d, .int cur, .int mix, .int cnt]) ∧ H' d = some (.lst (ds.map V.int)) ∧ ds.length ≤ 63,
        ⟨_, ds0, cur0, rfl, rfl, Keep.refl H, hA0, hD0, hl0⟩, ?_⟩
      rintro m σ H1 ⟨ds, cur, rfl, rfl, e, hA, hD, hl⟩
      refine ⟨_, rfl, a, _, 1, _, rfl, rfl, SqL.of hA, rfl, _, _, rfl, rfl, _, rfl, ?_⟩
      refine ite2 (fun c1 => ?_) (fun c1 => ⟨ds, cur, rfl, e, hA, hD, hl⟩)
      refine ⟨_, rfl, a, _, 0, _, rfl, rfl, SqL.of hA, rfl, Nat.zero_le _, fun p hp => ?_⟩
      have npa : p ≠ a := (ne_of_none hA hp).symm
      have npd : p ≠ d := (ne_of_none hD hp).symm
      have hA' : upd H1 p (.lst []) a = some (.lst [.ref d, .int cur, .int mix, .int cnt]) := by rw [upd_ne npa.symm]; exact hA
      have hD' : upd H1 p (.lst []) d = some (.lst (ds.map V.int)) := by rw [upd_ne npd.symm]; exact hD
      refine ⟨.list (ds.map PyData.int), .list [], Dp.lst (SqL.of hD') (dp_ints ds), Dp.lst (SqL.of upd_same) .nil, PySem.W.ke_shaped_ints ds, rfl, _, rfl, ?_⟩
      cases ds with
      | nil => exact iteF ⟨[], cur, rfl, e.new hp, hA', hD', hl⟩
      | cons x xs =>
        refine iteT ⟨_, fun _ _ h => h, ?_⟩
        refine ⟨_, rfl, a, _, 0, _, rfl, rfl, SqL.of hA', rfl, Or.inl ⟨rfl, _, SqL.of hD'⟩, d, _, 0, 0, _, rfl, rfl, hD', by decide, by decide, seqIndex_of (Int.le_refl 0) (by rw [List.length_map, List.length_cons]; omega), rfl, ?_⟩
        refine ⟨_, rfl, a, _, 1, 1, rfl, rfl, (by rw [upd_ne nad]; exact hA'), rfl, ?_⟩
        refine ⟨xs.length, Nat.lt_succ_self _, xs, x, rfl, rfl, ((e.new hp).upd2).upd1, upd_same, ?_, ?_⟩
        · rw [upd_ne nad.symm, upd_same]
          rfl
        · rw [List.length_cons] at hl
          omega
    · rintro σ H1 ⟨ds, cur, rfl, e, hA, hD, hl⟩
      refine ⟨_, rfl, a, _, 1, _, rfl, rfl, SqL.of hA, rfl, _, _, rfl, rfl, _, rfl, ?_⟩
      refine ite2 (fun c1 => ?_) (fun c1 => ?_)
      · refine ⟨_, rfl, a, _, 1, _, rfl, rfl, SqL.of hA, rfl, _, rfl, _, _, rfl, rfl, m0, ?_⟩
        refine ⟨_, rfl, a, _, 1, _, rfl, rfl, SqL.of hA, rfl, _, rfl, _, _, rfl, rfl, ⟨m0, mb⟩, ?_⟩
        refine ⟨_, rfl, a, _, 1, 1, rfl, rfl, hA, rfl, ?_⟩
        refine ⟨_, rfl, k _ _ e.upd1 ⟨ds, _, mix, cnt, upd_same, by rw [upd_ne nad.symm]; exact hD, x0, x1, c0, by omega, hl⟩ (Int.emod_nonneg _ (by omega)) (Int.emod_lt_of_pos _ m0)⟩
      · refine ⟨_, rfl, a, _, 3, _, rfl, rfl, SqL.of hA, rfl, _, _, rfl, rfl, ?_⟩
        refine ⟨_, rfl, a, _, 3, 3, rfl, rfl, hA, rfl, ?_⟩
        have c2 : cnt + 1 < 2 ^ 41 := by omega
        have hA2 : upd H1 a (.lst [.ref d, .int cur, .int mix, .int (cnt + 1)]) a = some (.lst [.ref d, .int cur, .int mix, .int (cnt + 1)]) := upd_same
        -- mixed = (source[2] + 7) * (source[3] + 3) ** 3
        refine ⟨_, rfl, a, _, 2, _, rfl, rfl, SqL.of hA2, rfl, _, _, rfl, rfl, _, rfl, a, _, 3, _, rfl, rfl, SqL.of hA2, rfl, _, _, rfl, rfl, _, _, rfl, rfl, ⟨by decide, by decide, by omega⟩, _, _, rfl, rfl, wide_mul (a := 62) (b := 200) (by omega) ?_ (by decide) (by decide) (by decide), ?_⟩
        · exact pow_small (a := 62) (k := 3) (by omega) (by decide)
        -- mixed = (mixed + 1000081 * source[3]) % (2 ** 61 - 1)
        refine ⟨_, rfl, _, rfl, a, _, 3, _, rfl, rfl, SqL.of hA2, rfl, _, _, rfl, rfl, wide_mul (a := 61) (b := 61) (by decide) (by omega) (by decide) (by decide) (by decide), _, _, rfl, rfl, _, _, rfl, rfl, cpow (by decide), _, _, rfl, rfl, _, _, rfl, rfl, pos61, ?_⟩
        have b0 := Int.emod_nonneg ((mix + 7) * (cnt + 1 + 3) ^ (3 : Int).toNat + 1000081 * (cnt + 1)) (show (2 : Int) ^ (61 : Int).toNat - 1 ≠ 0 by decide)
        have b1 := Int.emod_lt_of_pos ((mix + 7) * (cnt + 1 + 3) ^ (3 : Int).toNat + 1000081 * (cnt + 1)) pos61
        have b2 : (2 : Int) ^ (61 : Int).toNat - 1 < 2 ^ 61 := by decide
        -- return mixed ** 5 % (10 ** 18 + 9) // 128 % many
        refine ⟨_, rfl, _, _, rfl, rfl, ⟨by decide, by decide, ?_⟩, _, _, rfl, rfl, cpow (by decide), _, _, rfl, rfl, _, _, rfl, rfl, (show (0 : Int) < 10 ^ (18 : Int).toNat + 9 by decide), _, _, rfl, rfl, ⟨by decide, by decide⟩, _, rfl, _, _, rfl, rfl, m0, ?_⟩
        · show (((mix + 7) * (cnt + 1 + 3) ^ (3 : Int).toNat + 1000081 * (cnt + 1)) % (2 ^ (61 : Int).toNat - 1)).natAbs < 2 ^ 64
          omega
        exact k _ _ e.upd1 ⟨ds, cur, mix, cnt + 1, upd_same, by rw [upd_ne nad.symm]; exact hD, x0, x1, by omega, by omega, hl⟩ (Int.emod_nonneg _ (by omega)) (Int.emod_lt_of_pos _ m0)
end
end Gc

/-! _law_same of the laws k01 to k05, k40 to k43 -/
namespace Gc
open PySem L2
abbrev s_same : Stmt := top 26
mutual
/-- the greatest number of items of any list within -/
def wid : PyData → Nat
  | .list ds => max ds.length (widAll ds)
  | .tuple ds => max ds.length (widAll ds)
  | _ => 0
def widAll : List PyData → Nat
  | [] => 0
  | d :: ds => max (wid d) (widAll ds)
end
theorem wid_at : ∀ {ds : List PyData} {i : Nat} {d : PyData}, ds[i]? = some d → wid d ≤ widAll ds
  | [], i, d, h => by simp at h
  | x :: r, 0, d, h => by
    have e : x = d := Option.some.inj h
    subst e
    simp only [widAll]
    exact Nat.le_max_left _ _
  | x :: r, i + 1, d, h => by
    have ih := wid_at (ds := r) (i := i) (d := d) h
    simp only [widAll]
    exact Nat.le_trans ih (Nat.le_max_right _ _)
/-- _law_same(found, wanted), both the same data: True -/
def spSame (K : PySem.W.Frag) (n : Nat) : Sp := fun vs H Q _ => ∃ (x y : V) (d : PyData), vs = [x, y] ∧ Dp K H x d ∧ Dp K H y d ∧ d.depth < n ∧ wid d ≤ 1000 ∧ ∀ H', Same H H' → Q (.bl true) H'
structure TxtS (mg : Str → Option Value) : Prop where
  isinstance : mg "isinstance" = none
  bool : mg "bool" = none
  int : mg "int" = none
  str : mg "str" = none
  list : mg "list" = none
  tuple : mg "tuple" = none
  len : mg "len" = none
  range : mg "range" = none
section
variable {P : Program} {w : World} {K : PySem.W.Frag} {mg : Str → Option Value} {base : Heap}
theorem sc_law_same : FnScope ["found", "wanted", "k"] ["found", "wanted"] (defScope s_same) := ⟨rfl, rfl, rfl, by decide +kernel, rfl, by decide +kernel, by decide +kernel⟩
theorem ok_same0 {f : Addr} {fd : FuncData} (F : Fun K "_law_same" "_law_same" s_same f fd) : FnOk P w K mg base CX0 1 f fd ["found", "wanted"] (spSame K 0) := by
  refine F.ok sc_law_same (fun vs H Q E h => ?_) (fun cdv A outer s H vs Q E hr h => ?_)
  · obtain ⟨x, y, d, rfl, _⟩ := h
    rfl
  · obtain ⟨x, y, d, _, _, _, l, _, _⟩ := h
    exact absurd l (Nat.not_lt_zero _)
theorem ok_sameS {n : Nat} {f : Addr} {fd : FuncData} (F : Fun K "_law_same" "_law_same" s_same f fd) (T : TxtS mg) (cR : Cal P w K mg base (n + 1) "_law_same" (spSame K n)) :
    FnOk P w K mg base CX0 (n + 2) f fd ["found", "wanted"] (spSame K (n + 1)) := by
  refine F.ok sc_law_same (fun vs H Q E h => ?_) (fun cdv A outer s H vs Q E hr h => ?_)
  · obtain ⟨x, y, d, rfl, _⟩ := h
    rfl
  · obtain ⟨x, y, d, rfl, hx, hy, hd, hw, k⟩ := h
    refine ⟨_, (pss_cons (ps_if (pt_cmpR op_isN (pv 1) pe_non (nomark _)) (pss_one (ps_ret (pe_cmpR op_isN (pv 0) pe_non (nomark _)))) pss_nil)
      (pss_cons (ps_if (pt_val (pe_callB call_isi (by rfl) T.isinstance (by decide +kernel) (pa_cons (pv 1) (pa_cons (pe_bltn (v := .ty "bool") (u := .type "bool") (by rfl) T.bool (by decide +kernel) rfl) pa_nil)))) (pss_one (ps_ret (pe_and (pe_callB call_isi (by rfl) T.isinstance (by decide +kernel) (pa_cons (pv 0) (pa_cons (pe_bltn (v := .ty "bool") (u := .type "bool") (by rfl) T.bool (by decide +kernel) rfl) pa_nil))) (pe_one (pe_cmpR op_eq (pv 0) (pv 1) (nomark _)))))) pss_nil)
      (pss_cons (ps_if (pt_val (pe_callB call_isi (by rfl) T.isinstance (by decide +kernel) (pa_cons (pv 1) (pa_cons (pe_bltn (v := .ty "int") (u := .type "int") (by rfl) T.int (by decide +kernel) rfl) pa_nil)))) (pss_one (ps_ret (pe_and (pe_callB call_isi (by rfl) T.isinstance (by decide +kernel) (pa_cons (pv 0) (pa_cons (pe_bltn (v := .ty "int") (u := .type "int") (by rfl) T.int (by decide +kernel) rfl) pa_nil))) (pe_and (pe_not (pe_callB call_isi (by rfl) T.isinstance (by decide +kernel) (pa_cons (pv 0) (pa_cons (pe_bltn (v := .ty "bool") (u := .type "bool") (by rfl) T.bool (by decide +kernel) rfl) pa_nil)))) (pe_one (pe_cmpR op_eq (pv 0) (pv 1) (nomark _))))))) pss_nil)
      (pss_cons (ps_if (pt_val (pe_callB call_isi (by rfl) T.isinstance (by decide +kernel) (pa_cons (pv 1) (pa_cons (pe_bltn (v := .ty "str") (u := .type "str") (by rfl) T.str (by decide +kernel) rfl) pa_nil)))) (pss_one (ps_ret (pe_and (pe_callB call_isi (by rfl) T.isinstance (by decide +kernel) (pa_cons (pv 0) (pa_cons (pe_bltn (v := .ty "str") (u := .type "str") (by rfl) T.str (by decide +kernel) rfl) pa_nil))) (pe_one (pe_cmpR op_eq (pv 0) (pv 1) (nomark _)))))) pss_nil)
      (pss_cons (ps_if (pt_cmpR op_ne (pe_callB call_isi (by rfl) T.isinstance (by decide +kernel) (pa_cons (pv 0) (pa_cons (pe_bltn (v := .ty "list") (u := .type "list") (by rfl) T.list (by decide +kernel) rfl) pa_nil))) (pe_callB call_isi (by rfl) T.isinstance (by decide +kernel) (pa_cons (pv 1) (pa_cons (pe_bltn (v := .ty "list") (u := .type "list") (by rfl) T.list (by decide +kernel) rfl) pa_nil))) (nomark _)) (pss_one (ps_ret pe_bl)) pss_nil)
      (pss_cons (ps_if (PW.pt (pw_or (pt_cmpR op_ne (pe_callB call_isi (by rfl) T.isinstance (by decide +kernel) (pa_cons (pv 0) (pa_cons (pe_bltn (v := .ty "tuple") (u := .type "tuple") (by rfl) T.tuple (by decide +kernel) rfl) pa_nil))) (pe_callB call_isi (by rfl) T.isinstance (by decide +kernel) (pa_cons (pv 1) (pa_cons (pe_bltn (v := .ty "tuple") (u := .type "tuple") (by rfl) T.tuple (by decide +kernel) rfl) pa_nil))) (nomark _)) (pw_or1 (pt_cmpR op_ne (pe_callB call_len_seq (by rfl) T.len (by decide +kernel) (pa_cons (pv 0) pa_nil)) (pe_callB call_len_seq (by rfl) T.len (by decide +kernel) (pa_cons (pv 1) pa_nil)) (nomark _))))) (pss_one (ps_ret pe_bl)) pss_nil)
      (pss_one (ps_ret (pe_cmpR (op_eqD hr.units) (pe_lc (own := [("k", 2)]) rfl sc_law_same.nd (pi_range1 rfl T.range (pa_cons (pe_callB call_len_seq (by rfl) T.len (by decide +kernel) (pa_cons (pv 1) pa_nil)) pa_nil)) (blkOk_by (N := ["found", "wanted", "k"]) (sc := defScope s_same) (by decide +kernel)) (fun _ _ _ _ _ => (pg_name (i := 2) sc_law_same.nd rfl (Or.inl rfl))) (fun _ _ _ _ _ => (pts_one (pt_not (pt_val (pe_cal cR hr (Nat.le_refl _) (by rfl) (pa_cons (pe_ix (show IxR _ (rIx K) from ix_seq) (pv 0) (pv 2) (fun _ _ => rfl)) (pa_cons (pe_ix (show IxR _ (rIx K) from ix_seq) (pv 1) (pv 2) (fun _ _ => rfl)) pa_nil))))))) (fun _ _ _ _ _ => (pv 2))) (pe_lst pa_nil) (nomark _)))))))))), ?_⟩
    have kk : Q (.bl true) H := k H (Same.refl H)
    cases hx with
    | non =>
      cases hy
      refine ⟨_, rfl, rfl, _, rfl, iteT ?_⟩
      exact ⟨_, rfl, rfl, kk⟩
    | bl b =>
      cases hy
      refine ⟨_, rfl, rfl, _, rfl, iteF ?_⟩
      refine ⟨_, rfl, _, _, _, _, _, rfl, .ty "bool", .base (.bl b), kit_ty (show kitB "bool" "bool" = some true by decide +kernel), _, rfl, iteT ?_⟩
      refine ⟨_, rfl, _, _, _, _, _, rfl, .ty "bool", .base (.bl b), kit_ty (show kitB "bool" "bool" = some true by decide +kernel), _, rfl, iteT ?_⟩
      refine ⟨_, rfl, _, rfl, rfl, ?_⟩
      rw [decide_eq_true (Eq.refl (V.bl b))]
      exact kk
    | int i =>
      cases hy
      refine ⟨_, rfl, rfl, _, rfl, iteF ?_⟩
      refine ⟨_, rfl, _, _, _, _, _, rfl, .ty "bool", .base (.int i), kit_ty (show kitB "int" "bool" = some false by decide +kernel), _, rfl, iteF ?_⟩
      refine ⟨_, rfl, _, _, _, _, _, rfl, .ty "int", .base (.int i), kit_ty (show kitB "int" "int" = some true by decide +kernel), _, rfl, iteT ?_⟩
      refine ⟨_, rfl, _, _, _, _, _, rfl, .ty "int", .base (.int i), kit_ty (show kitB "int" "int" = some true by decide +kernel), _, rfl, iteT ?_⟩
      refine ⟨_, rfl, _, _, _, _, _, rfl, .ty "bool", .base (.int i), kit_ty (show kitB "int" "bool" = some false by decide +kernel), _, rfl, _, rfl, iteT ?_⟩
      refine ⟨_, rfl, _, rfl, rfl, ?_⟩
      rw [decide_eq_true (Eq.refl (V.int i))]
      exact kk
    | str z =>
      cases hy
      refine ⟨_, rfl, rfl, _, rfl, iteF ?_⟩
      refine ⟨_, rfl, _, _, _, _, _, rfl, .ty "bool", .base (.str z), kit_ty (show kitB "str" "bool" = some false by decide +kernel), _, rfl, iteF ?_⟩
      refine ⟨_, rfl, _, _, _, _, _, rfl, .ty "int", .base (.str z), kit_ty (show kitB "str" "int" = some false by decide +kernel), _, rfl, iteF ?_⟩
      refine ⟨_, rfl, _, _, _, _, _, rfl, .ty "str", .base (.str z), kit_ty (show kitB "str" "str" = some true by decide +kernel), _, rfl, iteT ?_⟩
      refine ⟨_, rfl, _, _, _, _, _, rfl, .ty "str", .base (.str z), kit_ty (show kitB "str" "str" = some true by decide +kernel), _, rfl, iteT ?_⟩
      refine ⟨_, rfl, _, rfl, rfl, ?_⟩
      rw [decide_eq_true (Eq.refl (V.str z))]
      exact kk
    | @lst a xs ds qx rx =>
      cases hy with
      | @lst a' ys _ qy ry =>
        have dl : PyData.depthAll ds < n := by
          simp only [PyData.depth] at hd
          omega
        simp only [wid] at hw
        have wl : ds.length ≤ 1000 := Nat.le_trans (Nat.le_max_left _ _) hw
        have wa : widAll ds ≤ 1000 := Nat.le_trans (Nat.le_max_right _ _) hw
        have yl := dps_len ry
        refine ⟨_, rfl, rfl, _, rfl, iteF ?_⟩
        refine ⟨_, rfl, _, _, _, _, _, rfl, .ty "bool", (ty_l qy), kit_ty (show kitB "list" "bool" = some false by decide +kernel), _, rfl, iteF ?_⟩
        refine ⟨_, rfl, _, _, _, _, _, rfl, .ty "int", (ty_l qy), kit_ty (show kitB "list" "int" = some false by decide +kernel), _, rfl, iteF ?_⟩
        refine ⟨_, rfl, _, _, _, _, _, rfl, .ty "str", (ty_l qy), kit_ty (show kitB "list" "str" = some false by decide +kernel), _, rfl, iteF ?_⟩
        refine ⟨_, rfl, _, _, _, _, _, rfl, .ty "list", (ty_l qx), kit_ty (show kitB "list" "list" = some true by decide +kernel), _, rfl, _, _, _, _, _, rfl, .ty "list", (ty_l qy), kit_ty (show kitB "list" "list" = some true by decide +kernel), rfl, _, rfl, iteF ?_⟩
        refine ⟨_, rfl, _, _, _, _, _, rfl, .ty "tuple", (ty_l qx), kit_ty (show kitB "list" "tuple" = some false by decide +kernel), _, rfl, _, _, _, _, _, rfl, .ty "tuple", (ty_l qy), kit_ty (show kitB "list" "tuple" = some false by decide +kernel), rfl, _, rfl, ?_⟩
        refine iteF (B := _) ?_
        refine ⟨_, rfl, a, xs, rfl, .inl qx, _, rfl, a', ys, rfl, .inl qy, rfl, _, rfl, iteNS ?_ ?_⟩
        · rw [dps_len rx, dps_len ry]
        refine ⟨_, rfl, a', ys, rfl, .inl qy, _, rfl, ?_, ?_, fun D hD => ?_⟩
        · omega
        · omega
        refine lc_range (lo := 0) (n := ys.length) (fun _ H' => Same H H' ∧ H' D = some (.lst [])) ⟨same_upd (Same.refl H) hD, upd_same⟩ (fun i H' hi h => ?_) (fun H' h => ?_)
        · obtain ⟨e, eD⟩ := h
          obtain ⟨v1, d1, g1, g2, g3⟩ := dps_at (i := i) rx (by rw [← dps_len ry]; exact hi)
          obtain ⟨v2, d2, g4, g5, g6⟩ := dps_at (i := i) ry (by rw [← dps_len ry]; exact hi)
          obtain rfl : d1 = d2 := Option.some.inj (g2.symm.trans g5)
          refine ⟨rfl, _, rfl, _, rfl, Or.inl ⟨a, xs, _, v1, rfl, rfl, Same.seq e qx, at_of (j := i) (by omega) g1, ?_⟩⟩
          refine ⟨_, rfl, _, rfl, Or.inl ⟨a', ys, _, v2, rfl, rfl, Same.seq e qy, at_of (j := i) (by omega) g4, ?_⟩⟩
          refine ⟨v1, v2, d1, rfl, dp_same e _ _ g3, dp_same e _ _ g6, Nat.lt_of_le_of_lt (depth_at g2) dl, Nat.le_trans (wid_at g2) wa, fun H2 e2 => ⟨_, rfl, iteF ?_⟩⟩
          exact ⟨e.trans e2, e2 _ _ eD⟩
        · obtain ⟨e, eD⟩ := h
          refine ⟨Nat.zero_le _, fun p hp => ⟨.list [], .list [], .lst (SqL.of (by rw [upd_ne (ne_of_none eD hp)]; exact eD)) .nil, .lst (SqL.of upd_same) .nil, rfl, rfl, k _ (same_upd e hp)⟩⟩
    | @tup a xs ds qx rx =>
      cases hy with
      | @tup a' ys _ qy ry =>
        have dl : PyData.depthAll ds < n := by
          simp only [PyData.depth] at hd
          omega
        simp only [wid] at hw
        have wl : ds.length ≤ 1000 := Nat.le_trans (Nat.le_max_left _ _) hw
        have wa : widAll ds ≤ 1000 := Nat.le_trans (Nat.le_max_right _ _) hw
        have yl := dps_len ry
        refine ⟨_, rfl, rfl, _, rfl, iteF ?_⟩
        refine ⟨_, rfl, _, _, _, _, _, rfl, .ty "bool", (ty_t qy), kit_ty (show kitB "tuple" "bool" = some false by decide +kernel), _, rfl, iteF ?_⟩
        refine ⟨_, rfl, _, _, _, _, _, rfl, .ty "int", (ty_t qy), kit_ty (show kitB "tuple" "int" = some false by decide +kernel), _, rfl, iteF ?_⟩
        refine ⟨_, rfl, _, _, _, _, _, rfl, .ty "str", (ty_t qy), kit_ty (show kitB "tuple" "str" = some false by decide +kernel), _, rfl, iteF ?_⟩
        refine ⟨_, rfl, _, _, _, _, _, rfl, .ty "list", (ty_t qx), kit_ty (show kitB "tuple" "list" = some false by decide +kernel), _, rfl, _, _, _, _, _, rfl, .ty "list", (ty_t qy), kit_ty (show kitB "tuple" "list" = some false by decide +kernel), rfl, _, rfl, iteF ?_⟩
        refine ⟨_, rfl, _, _, _, _, _, rfl, .ty "tuple", (ty_t qx), kit_ty (show kitB "tuple" "tuple" = some true by decide +kernel), _, rfl, _, _, _, _, _, rfl, .ty "tuple", (ty_t qy), kit_ty (show kitB "tuple" "tuple" = some true by decide +kernel), rfl, _, rfl, ?_⟩
        refine iteF (B := _) ?_
        refine ⟨_, rfl, a, xs, rfl, .inr qx, _, rfl, a', ys, rfl, .inr qy, rfl, _, rfl, iteNS ?_ ?_⟩
        · rw [dps_len rx, dps_len ry]
        refine ⟨_, rfl, a', ys, rfl, .inr qy, _, rfl, ?_, ?_, fun D hD => ?_⟩
        · omega
        · omega
        refine lc_range (lo := 0) (n := ys.length) (fun _ H' => Same H H' ∧ H' D = some (.lst [])) ⟨same_upd (Same.refl H) hD, upd_same⟩ (fun i H' hi h => ?_) (fun H' h => ?_)
        · obtain ⟨e, eD⟩ := h
          obtain ⟨v1, d1, g1, g2, g3⟩ := dps_at (i := i) rx (by rw [← dps_len ry]; exact hi)
          obtain ⟨v2, d2, g4, g5, g6⟩ := dps_at (i := i) ry (by rw [← dps_len ry]; exact hi)
          obtain rfl : d1 = d2 := Option.some.inj (g2.symm.trans g5)
          refine ⟨rfl, _, rfl, _, rfl, Or.inr <| Or.inl ⟨a, xs, _, v1, rfl, rfl, seq_t e qx, at_of (j := i) (by omega) g1, ?_⟩⟩
          refine ⟨_, rfl, _, rfl, Or.inr <| Or.inl ⟨a', ys, _, v2, rfl, rfl, seq_t e qy, at_of (j := i) (by omega) g4, ?_⟩⟩
          refine ⟨v1, v2, d1, rfl, dp_same e _ _ g3, dp_same e _ _ g6, Nat.lt_of_le_of_lt (depth_at g2) dl, Nat.le_trans (wid_at g2) wa, fun H2 e2 => ⟨_, rfl, iteF ?_⟩⟩
          exact ⟨e.trans e2, e2 _ _ eD⟩
        · obtain ⟨e, eD⟩ := h
          refine ⟨Nat.zero_le _, fun p hp => ⟨.list [], .list [], .lst (SqL.of (by rw [upd_ne (ne_of_none eD hp)]; exact eD)) .nil, .lst (SqL.of upd_same) .nil, rfl, rfl, k _ (same_upd e hp)⟩⟩
end
end Gc

/-! heaps, lengths of boxes, dicts out of pairs -/
namespace Gc
open PySem L2
theorem same_freeU {H H' : Hp} {d : Addr} {o : HO} (e : Same H H') (h : H d = none) : Same H (upd H' d o) := fun b u hb => by
  rw [upd_ne (ne_of_none hb h)]
  exact e b u hb
theorem go_len : ∀ {r : List Cmd} {off need : Int} {b : Ps} {st : Option Int} {b' : Ps}, go r off need b = some (st, b') → b'.length ≤ b.length + r.length
  | [], _, _, b, _, _, h => by cases h; exact Nat.le_refl _
  | .home :: r, _, _, b, _, _, h => by cases h
  | .stop :: r, _, _, b, _, _, h => by cases h; exact Nat.le_add_right _ _
  | .right n :: r, off, need, b, st, b', h => by
    have q := req_len b off need
    rw [List.length_cons]
    simp only [go] at h
    split at h
    · have := go_len h
      omega
    · cases h
      omega
  | .left n :: r, off, need, b, st, b', h => by
    have q := req_len b off (need + n)
    rw [List.length_cons]
    simp only [go] at h
    have := go_len h
    omega
  | .down n :: r, off, need, b, st, b', h => by
    rw [List.length_cons]
    simp only [go] at h
    have := go_len h
    omega
  | .up n :: r, off, need, b, st, b', h => by
    rw [List.length_cons]
    simp only [go] at h
    have := go_len h
    omega
theorem box_len {cs : List Cmd} {goal : Int} {st : Option Int} {L : Ps} (h : boxM cs goal = some (st, L)) : L.length ≤ cs.length := by
  unfold boxM at h
  cases e : go cs.reverse (last cs) goal [] with
  | none =>
    rw [e] at h
    cases h
  | some x =>
    rw [e] at h
    obtain ⟨st', b'⟩ := x
    have q := go_len e
    have h' : (st', b'.mergeSort leK) = (st, L) := Option.some.inj h
    cases h'
    rw [List.length_mergeSort]
    rw [List.length_reverse, List.length_nil] at q
    omega
theorem merge_dkI : ∀ (b acc : Ps), (keys acc ++ keys b).Nodup → mergeK (dkI acc) (dkI b) = dkI (acc ++ b)
  | [], acc, _ => by rw [List.append_nil]; rfl
  | q :: b, acc, h => by
    have nq : q.1 ∉ keys acc := fun z => by
      have := (List.nodup_append.mp h).2.2 q.1 z q.1 List.mem_cons_self
      exact this rfl
    show mergeK (putK (dkI acc) (Sum.inl q.1 : L2.Key) (.int q.2)) (dkI b) = _
    rw [putK_dkI]
    have e : put acc q.1 q.2 = acc ++ [q] := by
      unfold put
      rw [if_neg fun z => nq ((any_key acc q.1).mp z)]
    rw [e, merge_dkI b (acc ++ [q]) (by
      have e2 : keys (acc ++ [q]) ++ keys b = keys acc ++ keys (q :: b) := by
        unfold keys
        simp
      rw [e2]
      exact h), List.append_assoc]
    rfl
theorem paired_dkI {K : PySem.W.Frag} {H : Hp} : ∀ {ps : List Addr} {qs : Ps}, Paired (fun (p : Addr) (q : Int × Int) => H p = some (.tup [.int q.1, .int q.2])) ps qs → Paired (fun (p : Addr) (kv : L2.Key × V) => SqT K H p [kV kv.1, kv.2]) ps (dkI qs)
  | _, _, .nil => .nil
  | _, _, .cons h t => .cons (SqT.of h) (paired_dkI t)
theorem ref_at {ts : List Addr} {i : Nat} {x : V} (h : (ts.map V.ref)[i]? = some x) : ∃ t, ts[i]? = some t ∧ x = .ref t := by
  rw [List.getElem?_map] at h
  cases e : ts[i]? with
  | none =>
    rw [e] at h
    cases h
  | some t =>
    rw [e] at h
    exact ⟨t, rfl, (Option.some.inj h).symm⟩
theorem dki_len (b : Ps) : (dkI b).length = b.length := List.length_map ..
end Gc

/-! what repr wants of the data that the laws show -/
namespace Gc
open PySem PySem.Spec PyProof.Rows L2
def Sml (x : Int) : Prop := x.natAbs < 2 ^ 120
theorem sml_log {x : Int} (h : Sml x) : x.natAbs.log2 < 121 := Nat.lt_of_lt_of_le (PySem.Flt.log2_lt_of (k := 121) (by decide) (Nat.lt_trans h (by decide))) (Nat.le_refl _)
theorem sml_show {x : Int} (h : Sml x) : (PyData.int x).showable = true := by
  have := sml_log h
  simp only [PyData.showable, decide_eq_true_eq]
  omega
theorem sml_short {x : Int} (h : Sml x) : (PyData.int x).leavesShort 130 = true := by
  have e := int_text_length_le (k := 121) (by decide) (sml_log h)
  have e' : (PyData.shown (.int x)).length ≤ 130 := by
    have e2 : (PyData.shown (.int x)).length = (toString x).length := by
      show (Str.ofString (toString x)).length = _
      rw [PySem.ofString_length]
    omega
  simpa only [PyData.leavesShort, decide_eq_true_eq] using e'
theorem sml_weight {x : Int} (h : Sml x) : (PyData.int x).weight ≤ 122 := by
  have := sml_log h
  simp only [PyData.weight]
  split <;> omega
def Ok0 (d : PyData) : Prop := d.showable = true ∧ d.hasDict = false ∧ d.leavesShort 130 = true
def Ok0s (ds : List PyData) : Prop := PyData.showableAll ds = true ∧ PyData.hasDictAll ds = false ∧ PyData.leavesShortAll 130 ds = true
theorem ok0_int {x : Int} (h : Sml x) : Ok0 (.int x) := ⟨sml_show h, by simp only [PyData.hasDict], sml_short h⟩
theorem ok0_nil : Ok0s [] := ⟨by simp only [PyData.showableAll], by simp only [PyData.hasDictAll], by simp only [PyData.leavesShortAll]⟩
theorem ok0_cons {d : PyData} {ds : List PyData} (h : Ok0 d) (t : Ok0s ds) : Ok0s (d :: ds) := by
  obtain ⟨a1, a2, a3⟩ := h
  obtain ⟨b1, b2, b3⟩ := t
  refine ⟨?_, ?_, ?_⟩
  · simp only [PyData.showableAll, a1, b1, Bool.and_self]
  · simp only [PyData.hasDictAll, a2, b2, Bool.or_self]
  · simp only [PyData.leavesShortAll, a3, b3, Bool.and_self]
theorem ok0_list {ds : List PyData} (h : Ok0s ds) : Ok0 (.list ds) := by
  obtain ⟨b1, b2, b3⟩ := h
  refine ⟨?_, ?_, ?_⟩
  · simpa only [PyData.showable] using b1
  · simpa only [PyData.hasDict] using b2
  · simpa only [PyData.leavesShort] using b3
theorem ok0_tup {ds : List PyData} (h : Ok0s ds) : Ok0 (.tuple ds) := by
  obtain ⟨b1, b2, b3⟩ := h
  refine ⟨?_, ?_, ?_⟩
  · simpa only [PyData.showable] using b1
  · simpa only [PyData.hasDict] using b2
  · simpa only [PyData.leavesShort] using b3
theorem ok0_len {d : PyData} (h : Ok0 d) (w : d.weight ≤ 100000) : d.shown.length ≤ sizeLine := by
  have e := PyData.shown_le 130 (by decide) d h.2.2
  rw [sizeLine_eq]
  have : (130 + 2) * d.weight ≤ (130 + 2) * 100000 := Nat.mul_le_mul_left _ w
  omega
theorem ok0_ints : ∀ {T : List Int}, (∀ x ∈ T, Sml x) → Ok0s (T.map PyData.int)
  | [], _ => ok0_nil
  | x :: T, h => ok0_cons (ok0_int (h x List.mem_cons_self)) (ok0_ints fun y hy => h y (List.mem_cons_of_mem _ hy))
theorem weight_ints : ∀ {T : List Int}, (∀ x ∈ T, Sml x) → PyData.weightAll (T.map PyData.int) ≤ 123 * T.length
  | [], _ => by simp [PyData.weightAll]
  | x :: T, h => by
    have a := sml_weight (h x List.mem_cons_self)
    have b := weight_ints (T := T) fun y hy => h y (List.mem_cons_of_mem _ hy)
    simp only [List.map_cons, PyData.weightAll, List.length_cons]
    omega
theorem deep_ints : ∀ T : List Int, PyData.depthAll (T.map PyData.int) = 0
  | [] => by simp [PyData.depthAll]
  | x :: T => by simp [PyData.depthAll, PyData.depth, deep_ints T]
/-- a text and a cursor -/
def textD (T : List Int) (r a : Int) : PyData := .tuple [.list (T.map PyData.int), .tuple [.int r, .int a]]
theorem textD_ok {T : List Int} {r a : Int} (hT : ∀ x ∈ T, Sml x) (hr : Sml r) (ha : Sml a) (l : T.length ≤ 500) : (textD T r a).showable = true ∧ (textD T r a).hasDict = false ∧ (textD T r a).depth ≤ 60 ∧ (textD T r a).shown.length ≤ sizeLine := by
  have o : Ok0 (textD T r a) := ok0_tup (ok0_cons (ok0_list (ok0_ints hT)) (ok0_cons (ok0_tup (ok0_cons (ok0_int hr) (ok0_cons (ok0_int ha) ok0_nil))) ok0_nil))
  refine ⟨o.1, o.2.1, ?_, ok0_len o ?_⟩
  · simp only [textD, PyData.depth, PyData.depthAll, deep_ints]
    omega
  · have a1 := weight_ints hT
    have a2 := sml_weight hr
    have a3 := sml_weight ha
    simp only [PyData.weight] at a2 a3
    simp only [textD, PyData.weight, PyData.weightAll]
    omega
/-! ### commands as data -/
def cmdD : Cmd → PyData
  | .down n => .tuple [.str "down", .int n]
  | .up n => .tuple [.str "up", .int n]
  | .right n => .tuple [.str "right", .int n]
  | .left n => .tuple [.str "left", .int n]
  | .home => .tuple [.str "home"]
  | .stop => .tuple [.str "end"]
theorem CmdAt.dp {K : PySem.W.Frag} {H : Hp} {v : V} {c : Cmd} (h : CmdAt K H v c) : Dp K H v (cmdD c) := by
  obtain ⟨a, rfl, h⟩ := h
  cases c with
  | down n => exact .tup h (.cons (.str _) (.cons (.int n) .nil))
  | up n => exact .tup h (.cons (.str _) (.cons (.int n) .nil))
  | right n => exact .tup h (.cons (.str _) (.cons (.int n) .nil))
  | left n => exact .tup h (.cons (.str _) (.cons (.int n) .nil))
  | home => exact .tup h (.cons (.str _) .nil)
  | stop => exact .tup h (.cons (.str _) .nil)
theorem CmdsOf.dp {K : PySem.W.Frag} {H : Hp} : ∀ {xs : List V} {cs : List Cmd}, CmdsOf K H xs cs → DpAll K H xs (cs.map cmdD)
  | _, _, .nil => .nil
  | _, _, .cons h t => .cons h.dp (CmdsOf.dp t)
def CSml : Cmd → Prop
  | .down n => Sml n
  | .up n => Sml n
  | .right n => Sml n
  | .left n => Sml n
  | _ => True
theorem ok0_str {x : Str} (h : (PyData.str x).leavesShort 130 = true) : Ok0 (.str x) := ⟨by simp only [PyData.showable], by simp only [PyData.hasDict], h⟩
theorem cmdD_ok {c : Cmd} (h : CSml c) : Ok0 (cmdD c) ∧ (cmdD c).weight ≤ 200 ∧ (cmdD c).depth ≤ 5 := by
  cases c with
  | down n =>
    have w := sml_weight h
    refine ⟨ok0_tup (ok0_cons (ok0_str (by decide +kernel)) (ok0_cons (ok0_int h) ok0_nil)), ?_, by simp [cmdD, PyData.depth, PyData.depthAll]⟩
    have e : (PyData.str "down").weight = 4 := by decide +kernel
    simp only [cmdD, PyData.weight, PyData.weightAll] at w e ⊢
    omega
  | up n =>
    have w := sml_weight h
    refine ⟨ok0_tup (ok0_cons (ok0_str (by decide +kernel)) (ok0_cons (ok0_int h) ok0_nil)), ?_, by simp [cmdD, PyData.depth, PyData.depthAll]⟩
    have e : (PyData.str "up").weight = 2 := by decide +kernel
    simp only [cmdD, PyData.weight, PyData.weightAll] at w e ⊢
    omega
  | right n =>
    have w := sml_weight h
    refine ⟨ok0_tup (ok0_cons (ok0_str (by decide +kernel)) (ok0_cons (ok0_int h) ok0_nil)), ?_, by simp [cmdD, PyData.depth, PyData.depthAll]⟩
    have e : (PyData.str "right").weight = 5 := by decide +kernel
    simp only [cmdD, PyData.weight, PyData.weightAll] at w e ⊢
    omega
  | left n =>
    have w := sml_weight h
    refine ⟨ok0_tup (ok0_cons (ok0_str (by decide +kernel)) (ok0_cons (ok0_int h) ok0_nil)), ?_, by simp [cmdD, PyData.depth, PyData.depthAll]⟩
    have e : (PyData.str "left").weight = 4 := by decide +kernel
    simp only [cmdD, PyData.weight, PyData.weightAll] at w e ⊢
    omega
  | home => exact ⟨ok0_tup (ok0_cons (ok0_str (by decide +kernel)) ok0_nil), by decide +kernel, by simp [cmdD, PyData.depth, PyData.depthAll]⟩
  | stop => exact ⟨ok0_tup (ok0_cons (ok0_str (by decide +kernel)) ok0_nil), by decide +kernel, by simp [cmdD, PyData.depth, PyData.depthAll]⟩
theorem cmds_ok0 : ∀ {cs : List Cmd}, (∀ c ∈ cs, CSml c) → Ok0s (cs.map cmdD) ∧ PyData.weightAll (cs.map cmdD) ≤ 201 * cs.length ∧ PyData.depthAll (cs.map cmdD) ≤ 5
  | [], _ => ⟨ok0_nil, by simp [PyData.weightAll], by simp [PyData.depthAll]⟩
  | c :: cs, h => by
    obtain ⟨a1, a2, a3⟩ := cmdD_ok (h c List.mem_cons_self)
    obtain ⟨b1, b2, b3⟩ := cmds_ok0 (cs := cs) fun d hd => h d (List.mem_cons_of_mem _ hd)
    refine ⟨ok0_cons a1 b1, ?_, ?_⟩
    · simp only [List.map_cons, PyData.weightAll, List.length_cons]
      omega
    · simp only [List.map_cons, PyData.depthAll]
      omega
theorem cmds_ok {cs : List Cmd} (h : ∀ c ∈ cs, CSml c) (l : cs.length ≤ 300) : (PyData.list (cs.map cmdD)).showable = true ∧ (PyData.list (cs.map cmdD)).hasDict = false ∧ (PyData.list (cs.map cmdD)).depth ≤ 60 ∧ (PyData.list (cs.map cmdD)).shown.length ≤ sizeLine := by
  obtain ⟨a1, a2, a3⟩ := cmds_ok0 h
  have o := ok0_list a1
  refine ⟨o.1, o.2.1, ?_, ok0_len o ?_⟩
  · simp only [PyData.depth]
    omega
  · simp only [PyData.weight]
    omega
/-! ### boxes as data -/
def optD : Option Int → PyData
  | none => .none
  | some n => .int n
def pairD (q : Int × Int) : PyData := .tuple [.int q.1, .int q.2]
def boxD : Option (Option Int × Ps) → PyData
  | none => .none
  | some x => .tuple [optD x.1, .list (x.2.map pairD)]
def BSml : Option (Option Int × Ps) → Prop
  | none => True
  | some x => (∀ n, x.1 = some n → Sml n) ∧ ∀ q ∈ x.2, Sml q.1 ∧ Sml q.2
theorem ok0_none : Ok0 .none := ⟨by simp only [PyData.showable], by simp only [PyData.hasDict], by simp only [PyData.leavesShort]⟩
theorem pairs_ok0 : ∀ {L : Ps}, (∀ q ∈ L, Sml q.1 ∧ Sml q.2) → Ok0s (L.map pairD) ∧ PyData.weightAll (L.map pairD) ≤ 247 * L.length ∧ PyData.depthAll (L.map pairD) ≤ 5
  | [], _ => ⟨ok0_nil, by simp [PyData.weightAll], by simp [PyData.depthAll]⟩
  | q :: L, h => by
    obtain ⟨a, b⟩ := h q List.mem_cons_self
    obtain ⟨c1, c2, c3⟩ := pairs_ok0 (L := L) fun p hp => h p (List.mem_cons_of_mem _ hp)
    have wa := sml_weight a
    have wb := sml_weight b
    refine ⟨ok0_cons (ok0_tup (ok0_cons (ok0_int a) (ok0_cons (ok0_int b) ok0_nil))) c1, ?_, ?_⟩
    · simp only [PyData.weight] at wa wb
      simp only [List.map_cons, pairD, PyData.weight, PyData.weightAll, List.length_cons] at c2 ⊢
      omega
    · simp only [List.map_cons, pairD, PyData.depth, PyData.depthAll] at c3 ⊢
      omega
theorem boxD_ok0 {o : Option (Option Int × Ps)} {n : Nat} (h : BSml o) (l : ∀ x, o = some x → x.2.length ≤ n) : Ok0 (boxD o) ∧ (boxD o).weight ≤ 247 * n + 200 ∧ (boxD o).depth ≤ 10 := by
  cases o with
  | none => exact ⟨ok0_none, by simp [boxD, PyData.weight], by simp [boxD, PyData.depth]⟩
  | some x =>
    obtain ⟨st, L⟩ := x
    obtain ⟨h1, h2⟩ := h
    have h2' : ∀ q ∈ L, Sml q.1 ∧ Sml q.2 := h2
    obtain ⟨c1, c2, c3⟩ := pairs_ok0 h2'
    have ln : L.length ≤ n := l _ rfl
    have o1 : Ok0 (optD st) ∧ (optD st).weight ≤ 122 ∧ (optD st).depth = 0 := by
      cases st with
      | none => exact ⟨ok0_none, by simp [optD, PyData.weight], by simp [optD, PyData.depth]⟩
      | some n => exact ⟨ok0_int (h1 n rfl), sml_weight (h1 n rfl), by simp [optD, PyData.depth]⟩
    obtain ⟨d1, d2, d3⟩ := o1
    refine ⟨ok0_tup (ok0_cons d1 (ok0_cons (ok0_list c1) ok0_nil)), ?_, ?_⟩
    · have m : 247 * L.length ≤ 247 * n := Nat.mul_le_mul_left _ ln
      simp only [boxD, PyData.weight, PyData.weightAll]
      omega
    · simp only [boxD, PyData.depth, PyData.depthAll]
      omega
theorem boxes_ok0 {n : Nat} : ∀ {os : List (Option (Option Int × Ps))}, (∀ o ∈ os, BSml o ∧ ∀ x, o = some x → x.2.length ≤ n) → Ok0s (os.map boxD) ∧ PyData.weightAll (os.map boxD) ≤ (247 * n + 201) * os.length ∧ PyData.depthAll (os.map boxD) ≤ 10
  | [], _ => ⟨ok0_nil, by simp [PyData.weightAll], by simp [PyData.depthAll]⟩
  | o :: os, h => by
    obtain ⟨a, b⟩ := h o List.mem_cons_self
    obtain ⟨c1, c2, c3⟩ := boxD_ok0 a b
    obtain ⟨d1, d2, d3⟩ := boxes_ok0 (os := os) fun p hp => h p (List.mem_cons_of_mem _ hp)
    refine ⟨ok0_cons c1 d1, ?_, ?_⟩
    · rw [List.map_cons, List.length_cons, Nat.mul_succ]
      simp only [PyData.weightAll]
      omega
    · simp only [List.map_cons, PyData.depthAll]
      omega
/-- a list of at most ten boxes of at most thirty lines each -/
theorem boxes_ok {os : List (Option (Option Int × Ps))} (h : ∀ o ∈ os, BSml o ∧ ∀ x, o = some x → x.2.length ≤ 30) (l : os.length ≤ 10) :
    (PyData.list (os.map boxD)).showable = true ∧ (PyData.list (os.map boxD)).hasDict = false ∧ (PyData.list (os.map boxD)).depth ≤ 60 ∧ (PyData.list (os.map boxD)).shown.length ≤ sizeLine := by
  obtain ⟨a1, a2, a3⟩ := boxes_ok0 h
  have o := ok0_list a1
  refine ⟨o.1, o.2.1, ?_, ok0_len o ?_⟩
  · simp only [PyData.depth]
    omega
  · have m : (247 * 30 + 201) * os.length ≤ (247 * 30 + 201) * 10 := Nat.mul_le_mul_left _ l
    simp only [PyData.weight]
    omega
end Gc

/-! small pieces that many laws use -/
namespace Gc
open PySem L2
theorem lt_line {n : Nat} (h : n ≤ 100000) : n < sizeLine := by
  rw [sizeLine_eq]
  omega
theorem tru_seq {K : PySem.W.Frag} {H : Hp} {l : Addr} {xs : List V} (h : SqL K H l xs) : TruV K (.ref l) H (!xs.isEmpty) := .inl ⟨xs, h, rfl⟩
theorem takeS {α : Type} : ∀ {l : List α} {i : Nat} {x : α}, l[i]? = some x → l.take (i + 1) = l.take i ++ [x]
  | [], i, x, h => by simp at h
  | a :: l, 0, x, h => by
    obtain rfl := Option.some.inj h
    rfl
  | a :: l, i + 1, x, h => by
    have ih := takeS (l := l) (i := i) (x := x) h
    show a :: l.take (i + 1) = a :: l.take i ++ [x]
    rw [ih]
    rfl
theorem pairS {α β : Type} {F : α → β → Prop} : ∀ {xs : List α} {ys : List β} {x : α} {y : β}, Paired F xs ys → F x y → Paired F (xs ++ [x]) (ys ++ [y])
  | _, _, _, _, .nil, h => .cons h .nil
  | _, _, _, _, .cons f t, h => .cons f (pairS t h)
/-- a new object, told apart -/
theorem new_same {H : Hp} {p : Addr} {o : HO} (h : H p = none) : Same H (upd H p o) := fun b u hb => by
  rw [upd_ne (ne_of_none hb h)]
  exact hb
/-- a list is written; commands stand -/
theorem CmdsOf.atL {K : PySem.W.Frag} {H : Hp} {l : Addr} {ys zs : List V} {xs : List V} {cs : List Cmd} (hl : H l = some (.lst ys)) (h : CmdsOf K H xs cs) : CmdsOf K (upd H l (.lst zs)) xs cs := Paired.mapP h fun _ _ q => by
  obtain ⟨a, e1, h1⟩ := q
  refine ⟨a, e1, ?_⟩
  rcases h1 with (z | ⟨o, z⟩) | z
  · exact .inl (.inl (by rw [upd_ne (ne_of z hl (by intro q; cases q))]; exact z))
  · exact .inl (.inr ⟨o, by rw [upd_ne (ne_of z hl (by intro q; cases q))]; exact z⟩)
  · exact .inr z
end Gc
namespace Gc
open PySem L2
def nameC : Cmd → Str
  | .down _ => "down"
  | .up _ => "up"
  | .right _ => "right"
  | .left _ => "left"
  | .home => "home"
  | .stop => "end"
theorem enc_at (c : Cmd) : atI (encC c) 0 = some (.str (nameC c)) := by cases c <;> rfl
theorem getK {H : Hp} {p : Addr} {kvs : List (L2.Key × V)} {k : Str} {v : V} (h : H p = some (.dK kvs)) (e : valV kvs (.inr k : L2.Key) = some v) : DGet H p (.str k) (some v) := e ▸ DGet.k (k := .inr k) h
end Gc
namespace Gc
open PySem L2
/-! slices by places -/
theorem cutHi {xs : List V} {n : Nat} {z : Int} (e : z = (n : Int)) (h : n ≤ xs.length) : cutV xs none (some z) = xs.take n := by
  subst e
  unfold cutV
  rw [HT.sIx_none, HT.sIx_nat, List.drop_zero, Nat.sub_zero]
  congr 1
  omega
theorem cutLo {xs : List V} {n : Nat} {z : Int} (e : z = (n : Int)) : cutV xs (some z) none = xs.drop n := by
  subst e
  unfold cutV
  rw [HT.sIx_none, HT.sIx_nat]
  by_cases h : n ≤ xs.length
  · rw [Nat.min_eq_left h]
    exact List.take_of_length_le (by rw [List.length_drop]; exact Nat.le_refl _)
  · rw [Nat.min_eq_right (by omega), List.drop_eq_nil_of_le (Nat.le_refl _), List.take_nil, List.drop_eq_nil_of_le (by omega)]
theorem cutOne {xs : List V} {n m : Nat} {z y : Int} (e : z = (n : Int)) (e2 : y = (m : Int)) (hn : n ≤ xs.length) (hm : n ≤ m) : cutV xs (some z) (some y) = (xs.drop n).take (m - n) := by
  subst e e2
  unfold cutV
  rw [HT.sIx_nat, HT.sIx_nat, Nat.min_eq_left hn]
  by_cases h : m ≤ xs.length
  · rw [Nat.min_eq_left h]
  · rw [Nat.min_eq_right (by omega)]
    rw [List.take_of_length_le (l := xs.drop n) (by rw [List.length_drop]; exact Nat.le_refl _), List.take_of_length_le (by rw [List.length_drop]; omega)]
theorem paired_take {α β : Type} {F : α → β → Prop} : ∀ (n : Nat) {xs : List α} {ys : List β}, Paired F xs ys → Paired F (xs.take n) (ys.take n)
  | 0, _, _, _ => .nil
  | n + 1, _, _, .nil => .nil
  | n + 1, _, _, .cons h t => .cons h (paired_take n t)
theorem paired_drop {α β : Type} {F : α → β → Prop} : ∀ (n : Nat) {xs : List α} {ys : List β}, Paired F xs ys → Paired F (xs.drop n) (ys.drop n)
  | 0, _, _, h => h
  | n + 1, _, _, .nil => .nil
  | n + 1, _, _, .cons _ t => paired_drop n t
theorem paired_app {α β : Type} {F : α → β → Prop} : ∀ {xs xs' : List α} {ys ys' : List β}, Paired F xs ys → Paired F xs' ys' → Paired F (xs ++ xs') (ys ++ ys')
  | _, _, _, _, .nil, h => h
  | _, _, _, _, .cons h t, g => .cons h (paired_app t g)
end Gc

/-! commands as texts: what is written, and that it can be read back -/
namespace Gc
open PySem PyProof.Rows L2 TL
def mkS (l : List Nat) : Str := ⟨l.toArray⟩
theorem tl_mkS (l : List Nat) : tl (mkS l) = l := rfl
theorem mkS_app (l m : List Nat) : mkS l ++ mkS m = mkS (l ++ m) := ext_tl (by rw [tl_append]; rfl)
theorem mkS_len (l : List Nat) : (mkS l).length = l.length := by rw [len_tl]; rfl
theorem mkS_inj {l m : List Nat} (h : mkS l = mkS m) : l = m := by
  have e := congrArg tl h
  exact e
/-- the number of a command -/
def numC : Cmd → Int
  | .down n => n
  | .up n => n
  | .right n => n
  | .left n => n
  | _ => 0
def letC : Cmd → Nat
  | .down _ => 68
  | .up _ => 85
  | .right _ => 82
  | .left _ => 76
  | .home => 72
  | .stop => 69
/-- the digits that stand ahead of the letter -/
def digC : Cmd → List Nat
  | .down n => numL n.toNat
  | .up n => numL n.toNat
  | .right n => numL n.toNat
  | .left n => numL n.toNat
  | _ => []
def cw (c : Cmd) : List Nat := digC c ++ [letC c]
def noneL : List Nat := [110, 111, 110, 101]
def shownL (cs : List Cmd) : List Nat := if cs = [] then noneL else joinL [32] (cs.map cw)
def shownS (cs : List Cmd) : Str := mkS (shownL cs)
theorem digC_digits (c : Cmd) : NumText.AllDigits (digC c) := by
  cases c with
  | down n => exact numL_digits _
  | up n => exact numL_digits _
  | right n => exact numL_digits _
  | left n => exact numL_digits _
  | home => exact fun _ h => nomatch h
  | stop => exact fun _ h => nomatch h
theorem letC_ge (c : Cmd) : 65 ≤ letC c ∧ letC c ≤ 90 := by cases c <;> simp [letC]
theorem cw_free (c : Cmd) : 32 ∉ cw c := fun h => by
  rcases List.mem_append.mp h with h | h
  · have := digC_digits c 32 h
    omega
  · have e := List.mem_singleton.mp h
    have := letC_ge c
    omega
theorem cw_ne (c : Cmd) : cw c ≠ [] := by simp [cw]
theorem cw_inj {c d : Cmd} (hc : c.ok) (hd : d.ok) (h : cw c = cw d) : c = d := by
  have e1 := congrArg List.getLast? h
  have e2 := congrArg List.dropLast h
  unfold cw at e1 e2
  rw [List.getLast?_concat, List.getLast?_concat] at e1
  rw [List.dropLast_concat, List.dropLast_concat] at e2
  have e3 := Option.some.inj e1
  have key : ∀ {n m : Int}, 1 ≤ n → 1 ≤ m → numL n.toNat = numL m.toNat → n = m := fun h1 h2 z => by
    have := numL_inj z
    omega
  cases c <;> cases d <;> simp only [letC] at e3 <;> first
    | rfl
    | exact absurd e3 (by decide)
    | rw [key hc hd e2]
theorem cws_inj : ∀ {cs ds : List Cmd}, AllOk cs → AllOk ds → cs.map cw = ds.map cw → cs = ds
  | [], [], _, _, _ => rfl
  | [], _ :: _, _, _, h => by cases h
  | _ :: _, [], _, _, h => by cases h
  | c :: cs, d :: ds, h1, h2, h => by
    rw [List.map_cons, List.map_cons] at h
    injection h with e1 e2
    rw [cw_inj (h1 c List.mem_cons_self) (h2 d List.mem_cons_self) e1, cws_inj (fun x hx => h1 x (List.mem_cons_of_mem _ hx)) (fun x hx => h2 x (List.mem_cons_of_mem _ hx)) e2]
theorem join_words {cs : List Cmd} (h : cs ≠ []) : spl [32] 0 [] (joinL [32] (cs.map cw)) = cs.map cw :=
  spl_join (fun e => h (List.map_eq_nil_iff.mp e)) fun p hp => by
    obtain ⟨c, _, rfl⟩ := List.mem_map.mp hp
    exact cw_free c
theorem none_words : spl [32] 0 [] noneL = [noneL] := by decide +kernel
theorem none_no {cs : List Cmd} (h : cs ≠ []) : joinL [32] (cs.map cw) ≠ noneL := fun e => by
  have z := join_words h
  rw [e, none_words] at z
  cases cs with
  | nil => exact h rfl
  | cons c cs =>
    rw [List.map_cons] at z
    injection z with z1 z2
    have z3 := congrArg List.getLast? z1
    unfold cw at z3
    rw [List.getLast?_concat] at z3
    have z4 : (101 : Nat) = letC c := Option.some.inj z3
    have := letC_ge c
    omega
theorem shownL_inj {cs ds : List Cmd} (h1 : AllOk cs) (h2 : AllOk ds) (h : shownL cs = shownL ds) : cs = ds := by
  unfold shownL at h
  by_cases c : cs = []
  · by_cases d : ds = []
    · rw [c, d]
    · rw [if_pos c, if_neg d] at h
      exact absurd h.symm (none_no d)
  · by_cases d : ds = []
    · rw [if_neg c, if_pos d] at h
      exact absurd h (none_no c)
    · rw [if_neg c, if_neg d] at h
      have z1 := join_words c
      rw [h, join_words d] at z1
      exact (cws_inj h2 h1 z1).symm
theorem shownS_inj {cs ds : List Cmd} (h1 : AllOk cs) (h2 : AllOk ds) (h : shownS cs = shownS ds) : cs = ds := shownL_inj h1 h2 (mkS_inj h)
/-! lengths -/
theorem digC_len {c : Cmd} (h : numC c < 10 ^ 40) : (digC c).length ≤ 40 := by
  have key : ∀ n : Int, n < 10 ^ 40 → (numL n.toNat).length ≤ 40 := fun n hn => numL_len (k := 40) (by decide) (by omega)
  cases c with
  | down n => exact key n h
  | up n => exact key n h
  | right n => exact key n h
  | left n => exact key n h
  | home => exact Nat.zero_le _
  | stop => exact Nat.zero_le _
theorem cw_len {c : Cmd} (h : numC c < 10 ^ 40) : (cw c).length ≤ 41 := by
  unfold cw
  rw [List.length_append, List.length_singleton]
  have := digC_len h
  omega
theorem joinL_len {k : Nat} : ∀ {ps : List (List Nat)}, (∀ p ∈ ps, p.length ≤ k) → (joinL [32] ps).length ≤ (k + 1) * ps.length
  | [], _ => Nat.zero_le _
  | [p], h => by
    have := h p (List.mem_singleton.mpr rfl)
    show p.length ≤ (k + 1) * 1
    omega
  | p :: q :: r, h => by
    have h1 := h p List.mem_cons_self
    have h2 := joinL_len (ps := q :: r) fun x hx => h x (List.mem_cons_of_mem _ hx)
    show (p ++ ([32] ++ joinL [32] (q :: r))).length ≤ _
    rw [List.length_append, List.length_append, List.length_singleton, List.length_cons (a := p), Nat.mul_succ]
    omega
theorem shownL_len {cs : List Cmd} (h : ∀ c ∈ cs, numC c < 10 ^ 40) : (shownL cs).length ≤ 42 * cs.length + 4 := by
  unfold shownL
  by_cases c : cs = []
  · rw [if_pos c]
    exact Nat.le_add_left _ _
  · rw [if_neg c]
    have := joinL_len (k := 41) (ps := cs.map cw) fun p hp => by
      obtain ⟨d, hd, rfl⟩ := List.mem_map.mp hp
      exact cw_len (h d hd)
    rw [List.length_map] at this
    omega
/-- one more word behind -/
theorem joinL_snoc : ∀ {ps : List (List Nat)} {p : List Nat}, ps ≠ [] → joinL [32] (ps ++ [p]) = joinL [32] ps ++ ([32] ++ p)
  | [], _, h => absurd rfl h
  | [q], p, _ => rfl
  | q :: r :: s, p, _ => by
    show q ++ ([32] ++ joinL [32] ((r :: s) ++ [p])) = (q ++ ([32] ++ joinL [32] (r :: s))) ++ ([32] ++ p)
    rw [joinL_snoc (by simp)]
    simp [List.append_assoc]
theorem joinL_nil_iff : ∀ {ps : List (List Nat)}, (∀ p ∈ ps, p ≠ []) → (joinL [32] ps = [] ↔ ps = [])
  | [], _ => ⟨fun _ => rfl, fun _ => rfl⟩
  | [p], h => ⟨fun e => absurd e (h p (List.mem_singleton.mpr rfl)), fun e => nomatch e⟩
  | p :: q :: r, h => ⟨fun e => by
      have e2 : p ++ ([32] ++ joinL [32] (q :: r)) = [] := e
      simp at e2, fun e => nomatch e⟩
/-! equal lists of commands, as data -/
theorem eqv_cmd (c d : Cmd) : PyData.eqv (cmdD c) (cmdD d) = decide (c = d) := by
  cases c <;> cases d <;> simp [cmdD, PyData.eqv, PyData.eqvAll]
  all_goals first
    | decide +kernel
    | rw [Bool.eq_iff_iff, beq_iff_eq, decide_eq_true_eq]
    | (intro h; exact absurd h (by decide +kernel))
theorem eqvAll_cmds : ∀ cs ds : List Cmd, PyData.eqvAll (cs.map cmdD) (ds.map cmdD) = decide (cs = ds)
  | [], [] => by simp [PyData.eqvAll]
  | [], _ :: _ => by simp [PyData.eqvAll]
  | _ :: _, [] => by simp [PyData.eqvAll]
  | c :: cs, d :: ds => by
    rw [List.map_cons, List.map_cons, PyData.eqvAll, eqv_cmd, eqvAll_cmds cs ds]
    simp
theorem eqv_cmds (cs ds : List Cmd) : PyData.eqv (.list (cs.map cmdD)) (.list (ds.map cmdD)) = decide (cs = ds) := by
  rw [PyData.eqv]
  exact eqvAll_cmds cs ds
end Gc
namespace Gc
open PySem PyProof.Rows L2 TL
theorem depth_cmds : ∀ cs : List Cmd, PyData.depthAll (cs.map cmdD) ≤ 1
  | [] => by simp [PyData.depthAll]
  | c :: cs => by
    have := depth_cmds cs
    cases c <;> simp [PyData.depthAll, PyData.depth, cmdD, this]
theorem lay_cmds : ∀ cs : List Cmd, PyData.canLayAll0 (cs.map cmdD) = true
  | [] => by simp [PyData.canLayAll0]
  | c :: cs => by
    have h1 : PyData.strOk "down" = true := by decide +kernel
    have h2 : PyData.strOk "up" = true := by decide +kernel
    have h3 : PyData.strOk "right" = true := by decide +kernel
    have h4 : PyData.strOk "left" = true := by decide +kernel
    have h5 : PyData.strOk "home" = true := by decide +kernel
    have h6 : PyData.strOk "end" = true := by decide +kernel
    cases c <;> simp [PyData.canLayAll0, PyData.canLay0, cmdD, lay_cmds cs, h1, h2, h3, h4, h5, h6]
theorem shaped_cmds (cs : List Cmd) : SeqAt.shaped (.list (cs.map cmdD)) = true := by
  have h2 := depth_cmds cs
  have hd : (PyData.list (cs.map cmdD)).depth ≤ 64 := by
    simp only [PyData.depth]
    omega
  unfold SeqAt.shaped
  rw [decide_eq_true hd]
  simp [PyData.canLay0, lay_cmds cs]
/-- one more word of what is written -/
theorem shown_step (cs : List Cmd) (i : Nat) (c : Cmd) (h : cs[i]? = some c) :
    joinL [32] ((cs.take (i + 1)).map cw) = joinL [32] ((cs.take i).map cw) ++ (if i = 0 then [] else [32]) ++ digC c ++ [letC c] := by
  have e : cs.take (i + 1) = cs.take i ++ [c] := by
    rw [List.take_add_one, h]
    rfl
  rw [e, List.map_append, List.map_singleton]
  by_cases z : i = 0
  · subst z
    simp [joinL, cw]
  · have ne : (cs.take i).map cw ≠ [] := by
      intro q
      have q2 := congrArg List.length q
      have li := (List.getElem?_eq_some_iff.mp h).1
      rw [List.length_map, List.length_take, List.length_nil] at q2
      omega
    rw [joinL_snoc ne, if_neg z]
    simp [cw, List.append_assoc]
theorem shown_nil (cs : List Cmd) (i : Nat) (c : Cmd) (h : cs[i]? = some c) : joinL [32] ((cs.take i).map cw) = [] ↔ i = 0 := by
  rw [joinL_nil_iff (fun p hp => by
    obtain ⟨c, _, rfl⟩ := List.mem_map.mp hp
    exact cw_ne c)]
  have li := (List.getElem?_eq_some_iff.mp h).1
  constructor
  · intro q
    have q2 := congrArg List.length q
    rw [List.length_map, List.length_take, List.length_nil] at q2
    omega
  · intro q
    subst q
    rfl
end Gc

/-! numbers and commands drawn from the source -/
namespace Gc
open PySem L2
abbrev s_number : Stmt := top 27
abbrev s_command : Stmt := top 28
theorem Src.cmd {K : PySem.W.Frag} {H H' : Hp} {a d : Addr} {n : Nat} {v : V} {c : Cmd} (B : Src H a d n) (e : Keep a d H H') (h : CmdAt K H v c) : CmdAt K H' v c := by
  obtain ⟨b, e1, h1⟩ := h
  exact ⟨b, e1, B.tup e h1⟩
theorem Src.cmds {K : PySem.W.Frag} {H H' : Hp} {a d : Addr} {n : Nat} {xs : List V} {cs : List Cmd} (B : Src H a d n) (e : Keep a d H H') (h : CmdsOf K H xs cs) : CmdsOf K H' xs cs := Paired.mapP h fun _ _ q => B.cmd e q
theorem Keep.free {a d p : Addr} {H H' : Hp} (e : Keep a d H H') (h1 : p ≠ a) (h2 : p ≠ d) (h : H' p = none) : H p = none := by
  cases q : H p with
  | none => rfl
  | some o =>
    rw [e p o h1 h2 q] at h
    cases h
def spNumber : Sp := fun vs H Q _ => ∃ (a d : Addr) (n : Nat), vs = [.ref a] ∧ Src H a d n ∧ n < 2 ^ 39 ∧ ∀ (H' : Hp) (r : Int), Keep a d H H' → Src H' a d (n + 2) → 1 ≤ r → r ≤ 10 ^ 30 - 1 → Q (.int r) H'
def spCommand (K : PySem.W.Frag) : Sp := fun vs H Q _ => ∃ (a d : Addr) (n : Nat), vs = [.ref a] ∧ Src H a d n ∧ n < 2 ^ 38 ∧ ∀ (H' : Hp) (p : Addr) (c : Cmd), Keep a d H H' → Src H' a d (n + 5) → H p = none → H' p = some (.tup (encC c)) → c.ok → numC c ≤ 10 ^ 30 - 1 → Q (.ref p) H'
def nameL : List V := [.str "down", .str "up", .str "right", .str "left", .str "right", .str "left", .str "home", .str "end"]
section
variable {P : Program} {w : World} {K : PySem.W.Frag} {mg : Str → Option Value} {base : Heap}
theorem sc_law_number : FnScope ["source"] ["source"] (defScope s_number) := ⟨rfl, rfl, rfl, by decide +kernel, rfl, by decide +kernel, by decide +kernel⟩
theorem ok_number {f : Addr} {fd : FuncData} (F : Fun K "_law_number" "_law_number" s_number f fd) (c_law_draw : Cal P w K mg base 1 "_law_draw" spDraw) : FnOk P w K mg base CX0 2 f fd ["source"] spNumber := by
  refine F.ok sc_law_number (fun vs H Q E h => ?_) (fun cdv A outer s H vs Q E hr h => ?_)
  · obtain ⟨a, d, n, rfl, _⟩ := h
    rfl
  · obtain ⟨a, d, n, rfl, hs, hn, k⟩ := h
    refine ⟨_, (pss_one (ps_ret (pe_op op_add pe_int (pe_cal c_law_draw hr (by decide) (by rfl) (pa_cons (pv 0) (pa_cons (pe_ix ix_list (pe_lst (pa_cons pe_int (pa_cons pe_int (pa_cons pe_int (pa_cons pe_int (pa_cons (pe_op op_sub (pe_op op_pow pe_int pe_int) pe_int) pa_nil)))))) (pe_cal c_law_draw hr (by decide) (by rfl) (pa_cons (pv 0) (pa_cons pe_int pa_nil))) (fun _ _ => rfl)) pa_nil)))))), ?_⟩
    refine ⟨_, rfl, _, _, rfl, rfl, cpow (by decide), _, _, rfl, rfl, (by show 5 ≤ sizeLine; decide), fun p hp => ?_⟩
    obtain ⟨pa, pd⟩ := hs.off hp
    have e1 : Same H (upd H p (.lst [.int 3, .int 6, .int 12, .int 300, .int (10 ^ (30 : Int).toNat - 1)])) := new_same hp
    refine ⟨_, rfl, a, d, n, 5, rfl, hs.same e1, by omega, by decide, by decide, fun H2 r kp2 s2 r0 r1 => ?_⟩
    have hp2 := kp2 _ _ pa pd upd_same
    have z : (10 : Int) ^ (30 : Int).toNat = 10 ^ 30 := by decide
    obtain ⟨m, hm, m1, m2⟩ : ∃ m : Int, atI [V.int 3, .int 6, .int 12, .int 300, .int (10 ^ (30 : Int).toNat - 1)] r = some (.int m) ∧ 1 ≤ m ∧ m ≤ 10 ^ 30 - 1 := by
      rcases (show r = 0 ∨ r = 1 ∨ r = 2 ∨ r = 3 ∨ r = 4 by omega) with rfl | rfl | rfl | rfl | rfl
      · exact ⟨3, rfl, by decide, by decide⟩
      · exact ⟨6, rfl, by decide, by decide⟩
      · exact ⟨12, rfl, by decide, by decide⟩
      · exact ⟨300, rfl, by decide, by decide⟩
      · exact ⟨_, rfl, by decide, by decide⟩
    refine ⟨p, _, r, _, rfl, rfl, SqL.of hp2, hm, ?_⟩
    refine ⟨a, d, _, m, rfl, s2, by omega, by omega, log9 (a := 110) (by omega) (by decide), fun H3 r3 kp3 s3 r30 r31 => ?_⟩
    exact ⟨_, _, rfl, rfl, k H3 _ (((Keep.of e1).trans kp2).trans kp3) s3 (by omega) (by omega)⟩
theorem sc_law_command : FnScope ["source", "name"] ["source"] (defScope s_command) := ⟨rfl, rfl, rfl, by decide +kernel, rfl, by decide +kernel, by decide +kernel⟩
theorem ok_command {f : Addr} {fd : FuncData} (F : Fun K "_law_command" "_law_command" s_command f fd) (c_law_draw : Cal P w K mg base 1 "_law_draw" spDraw) (c_law_number : Cal P w K mg base 2 "_law_number" spNumber) : FnOk P w K mg base CX0 3 f fd ["source"] (spCommand K) := by
  refine F.ok sc_law_command (fun vs H Q E h => ?_) (fun cdv A outer s H vs Q E hr h => ?_)
  · obtain ⟨a, d, n, rfl, _⟩ := h
    rfl
  · obtain ⟨a, d, n, rfl, hs, hn, k⟩ := h
    refine ⟨_, (pss_cons (ps_set (i := 1) sc_law_command.nd rfl (Or.inl rfl) (pe_ix ix_list (pe_lst (pa_cons pe_str (pa_cons pe_str (pa_cons pe_str (pa_cons pe_str (pa_cons pe_str (pa_cons pe_str (pa_cons pe_str (pa_cons pe_str pa_nil))))))))) (pe_cal c_law_draw hr (by decide) (by rfl) (pa_cons (pv 0) (pa_cons pe_int pa_nil))) (fun _ _ => rfl)))
      (pss_cons (ps_if (pt_cmpR op_in_seq (pv 1) (pe_tup (pa_cons pe_str (pa_cons pe_str pa_nil))) (by rfl)) (pss_one (ps_ret (pe_tup (pa_cons (pv 1) pa_nil)))) pss_nil)
      (pss_one (ps_ret (pe_tup (pa_cons (pv 1) (pa_cons (pe_ix ix_list (pe_lst (pa_cons pe_int (pa_cons (pe_op op_add pe_int (pe_cal c_law_draw hr (by decide) (by rfl) (pa_cons (pv 0) (pa_cons pe_int pa_nil)))) (pa_cons (pe_cal c_law_number hr (by decide) (by rfl) (pa_cons (pv 0) pa_nil)) pa_nil)))) (pe_cal c_law_draw hr (by decide) (by rfl) (pa_cons (pv 0) (pa_cons pe_int pa_nil))) (fun _ _ => rfl)) pa_nil))))))), ?_⟩
    refine ⟨(by show 8 ≤ sizeLine; decide), fun p hp => ?_⟩
    obtain ⟨pa, pd⟩ := hs.off hp
    have e1 : Same H (upd H p (.lst nameL)) := new_same hp
    refine ⟨_, rfl, a, d, n, 8, rfl, hs.same e1, by omega, by decide, by decide, fun H2 r kp2 s2 r0 r1 => ?_⟩
    have hp2 := kp2 _ _ pa pd upd_same
    have k2 := (Keep.of (a := a) (d := d) e1).trans kp2
    rcases (show r = 0 ∨ r = 1 ∨ r = 2 ∨ r = 3 ∨ r = 4 ∨ r = 5 ∨ r = 6 ∨ r = 7 by omega) with rfl | rfl | rfl | rfl | rfl | rfl | rfl | rfl
    · refine ⟨p, _, _, _, rfl, rfl, SqL.of hp2, rfl, ?_⟩
      refine ⟨_, rfl, (by show 2 ≤ sizeLine; decide), fun q hq => ?_⟩
      have e3 : Same H2 (upd H2 q (.tup [.str "home", .str "end"])) := new_same hq
      refine ⟨q, _, rfl, .inr (SqT.of upd_same), rfl, rfl, false, by decide +kernel, iteF ?_⟩
      refine ⟨_, rfl, _, rfl, a, d, _, 4, rfl, s2.same e3, by omega, by decide, by decide, fun H4 r4 kp4 s4 r40 r41 => ?_⟩
      refine ⟨_, _, rfl, rfl, _, rfl, a, d, _, rfl, s4, by omega, fun H5 r5 kp5 s5 r50 r51 => ⟨(by show 3 ≤ sizeLine; decide), fun q5 hq5 => ?_⟩⟩
      obtain ⟨ga, gd⟩ := s5.off hq5
      have e6 : Same H5 (upd H5 q5 (.lst [.int 1, .int (1 + r4), .int r5])) := new_same hq5
      refine ⟨_, rfl, a, d, _, 3, rfl, s5.same e6, by omega, by decide, by decide, fun H6 r6 kp6 s6 r60 r61 => ?_⟩
      obtain ⟨m, hm, m1, m2⟩ : ∃ m : Int, atI [V.int 1, .int (1 + r4), .int r5] r6 = some (.int m) ∧ 1 ≤ m ∧ m ≤ 10 ^ 30 - 1 := by
        rcases (show r6 = 0 ∨ r6 = 1 ∨ r6 = 2 by omega) with rfl | rfl | rfl
        · exact ⟨1, rfl, by decide, by decide⟩
        · exact ⟨1 + r4, rfl, by omega, by omega⟩
        · exact ⟨r5, rfl, by omega, by omega⟩
      refine ⟨q5, _, r6, _, rfl, rfl, SqL.of (kp6 _ _ ga gd upd_same), hm, (by show 2 ≤ sizeLine; decide), fun q7 hq7 => ?_⟩
      obtain ⟨fa, fd'⟩ := s6.off hq7
      have k6 : Keep a d H H6 := ((((k2.trans (Keep.of e3)).trans kp4).trans kp5).trans (Keep.of e6)).trans kp6
      refine k _ q7 (.down m) (k6.new hq7) ((s6.same (new_same hq7)).more (by omega)) (k6.free fa fd' hq7) ?_ m1 m2
      rw [upd_same]
      rfl
    · refine ⟨p, _, _, _, rfl, rfl, SqL.of hp2, rfl, ?_⟩
      refine ⟨_, rfl, (by show 2 ≤ sizeLine; decide), fun q hq => ?_⟩
      have e3 : Same H2 (upd H2 q (.tup [.str "home", .str "end"])) := new_same hq
      refine ⟨q, _, rfl, .inr (SqT.of upd_same), rfl, rfl, false, by decide +kernel, iteF ?_⟩
      refine ⟨_, rfl, _, rfl, a, d, _, 4, rfl, s2.same e3, by omega, by decide, by decide, fun H4 r4 kp4 s4 r40 r41 => ?_⟩
      refine ⟨_, _, rfl, rfl, _, rfl, a, d, _, rfl, s4, by omega, fun H5 r5 kp5 s5 r50 r51 => ⟨(by show 3 ≤ sizeLine; decide), fun q5 hq5 => ?_⟩⟩
      obtain ⟨ga, gd⟩ := s5.off hq5
      have e6 : Same H5 (upd H5 q5 (.lst [.int 1, .int (1 + r4), .int r5])) := new_same hq5
      refine ⟨_, rfl, a, d, _, 3, rfl, s5.same e6, by omega, by decide, by decide, fun H6 r6 kp6 s6 r60 r61 => ?_⟩
      obtain ⟨m, hm, m1, m2⟩ : ∃ m : Int, atI [V.int 1, .int (1 + r4), .int r5] r6 = some (.int m) ∧ 1 ≤ m ∧ m ≤ 10 ^ 30 - 1 := by
        rcases (show r6 = 0 ∨ r6 = 1 ∨ r6 = 2 by omega) with rfl | rfl | rfl
        · exact ⟨1, rfl, by decide, by decide⟩
        · exact ⟨1 + r4, rfl, by omega, by omega⟩
        · exact ⟨r5, rfl, by omega, by omega⟩
      refine ⟨q5, _, r6, _, rfl, rfl, SqL.of (kp6 _ _ ga gd upd_same), hm, (by show 2 ≤ sizeLine; decide), fun q7 hq7 => ?_⟩
      obtain ⟨fa, fd'⟩ := s6.off hq7
      have k6 : Keep a d H H6 := ((((k2.trans (Keep.of e3)).trans kp4).trans kp5).trans (Keep.of e6)).trans kp6
      refine k _ q7 (.up m) (k6.new hq7) ((s6.same (new_same hq7)).more (by omega)) (k6.free fa fd' hq7) ?_ m1 m2
      rw [upd_same]
      rfl
    · refine ⟨p, _, _, _, rfl, rfl, SqL.of hp2, rfl, ?_⟩
      refine ⟨_, rfl, (by show 2 ≤ sizeLine; decide), fun q hq => ?_⟩
      have e3 : Same H2 (upd H2 q (.tup [.str "home", .str "end"])) := new_same hq
      refine ⟨q, _, rfl, .inr (SqT.of upd_same), rfl, rfl, false, by decide +kernel, iteF ?_⟩
      refine ⟨_, rfl, _, rfl, a, d, _, 4, rfl, s2.same e3, by omega, by decide, by decide, fun H4 r4 kp4 s4 r40 r41 => ?_⟩
      refine ⟨_, _, rfl, rfl, _, rfl, a, d, _, rfl, s4, by omega, fun H5 r5 kp5 s5 r50 r51 => ⟨(by show 3 ≤ sizeLine; decide), fun q5 hq5 => ?_⟩⟩
      obtain ⟨ga, gd⟩ := s5.off hq5
      have e6 : Same H5 (upd H5 q5 (.lst [.int 1, .int (1 + r4), .int r5])) := new_same hq5
      refine ⟨_, rfl, a, d, _, 3, rfl, s5.same e6, by omega, by decide, by decide, fun H6 r6 kp6 s6 r60 r61 => ?_⟩
      obtain ⟨m, hm, m1, m2⟩ : ∃ m : Int, atI [V.int 1, .int (1 + r4), .int r5] r6 = some (.int m) ∧ 1 ≤ m ∧ m ≤ 10 ^ 30 - 1 := by
        rcases (show r6 = 0 ∨ r6 = 1 ∨ r6 = 2 by omega) with rfl | rfl | rfl
        · exact ⟨1, rfl, by decide, by decide⟩
        · exact ⟨1 + r4, rfl, by omega, by omega⟩
        · exact ⟨r5, rfl, by omega, by omega⟩
      refine ⟨q5, _, r6, _, rfl, rfl, SqL.of (kp6 _ _ ga gd upd_same), hm, (by show 2 ≤ sizeLine; decide), fun q7 hq7 => ?_⟩
      obtain ⟨fa, fd'⟩ := s6.off hq7
      have k6 : Keep a d H H6 := ((((k2.trans (Keep.of e3)).trans kp4).trans kp5).trans (Keep.of e6)).trans kp6
      refine k _ q7 (.right m) (k6.new hq7) ((s6.same (new_same hq7)).more (by omega)) (k6.free fa fd' hq7) ?_ m1 m2
      rw [upd_same]
      rfl
    · refine ⟨p, _, _, _, rfl, rfl, SqL.of hp2, rfl, ?_⟩
      refine ⟨_, rfl, (by show 2 ≤ sizeLine; decide), fun q hq => ?_⟩
      have e3 : Same H2 (upd H2 q (.tup [.str "home", .str "end"])) := new_same hq
      refine ⟨q, _, rfl, .inr (SqT.of upd_same), rfl, rfl, false, by decide +kernel, iteF ?_⟩
      refine ⟨_, rfl, _, rfl, a, d, _, 4, rfl, s2.same e3, by omega, by decide, by decide, fun H4 r4 kp4 s4 r40 r41 => ?_⟩
      refine ⟨_, _, rfl, rfl, _, rfl, a, d, _, rfl, s4, by omega, fun H5 r5 kp5 s5 r50 r51 => ⟨(by show 3 ≤ sizeLine; decide), fun q5 hq5 => ?_⟩⟩
      obtain ⟨ga, gd⟩ := s5.off hq5
      have e6 : Same H5 (upd H5 q5 (.lst [.int 1, .int (1 + r4), .int r5])) := new_same hq5
      refine ⟨_, rfl, a, d, _, 3, rfl, s5.same e6, by omega, by decide, by decide, fun H6 r6 kp6 s6 r60 r61 => ?_⟩
      obtain ⟨m, hm, m1, m2⟩ : ∃ m : Int, atI [V.int 1, .int (1 + r4), .int r5] r6 = some (.int m) ∧ 1 ≤ m ∧ m ≤ 10 ^ 30 - 1 := by
        rcases (show r6 = 0 ∨ r6 = 1 ∨ r6 = 2 by omega) with rfl | rfl | rfl
        · exact ⟨1, rfl, by decide, by decide⟩
        · exact ⟨1 + r4, rfl, by omega, by omega⟩
        · exact ⟨r5, rfl, by omega, by omega⟩
      refine ⟨q5, _, r6, _, rfl, rfl, SqL.of (kp6 _ _ ga gd upd_same), hm, (by show 2 ≤ sizeLine; decide), fun q7 hq7 => ?_⟩
      obtain ⟨fa, fd'⟩ := s6.off hq7
      have k6 : Keep a d H H6 := ((((k2.trans (Keep.of e3)).trans kp4).trans kp5).trans (Keep.of e6)).trans kp6
      refine k _ q7 (.left m) (k6.new hq7) ((s6.same (new_same hq7)).more (by omega)) (k6.free fa fd' hq7) ?_ m1 m2
      rw [upd_same]
      rfl
    · refine ⟨p, _, _, _, rfl, rfl, SqL.of hp2, rfl, ?_⟩
      refine ⟨_, rfl, (by show 2 ≤ sizeLine; decide), fun q hq => ?_⟩
      have e3 : Same H2 (upd H2 q (.tup [.str "home", .str "end"])) := new_same hq
      refine ⟨q, _, rfl, .inr (SqT.of upd_same), rfl, rfl, false, by decide +kernel, iteF ?_⟩
      refine ⟨_, rfl, _, rfl, a, d, _, 4, rfl, s2.same e3, by omega, by decide, by decide, fun H4 r4 kp4 s4 r40 r41 => ?_⟩
      refine ⟨_, _, rfl, rfl, _, rfl, a, d, _, rfl, s4, by omega, fun H5 r5 kp5 s5 r50 r51 => ⟨(by show 3 ≤ sizeLine; decide), fun q5 hq5 => ?_⟩⟩
      obtain ⟨ga, gd⟩ := s5.off hq5
      have e6 : Same H5 (upd H5 q5 (.lst [.int 1, .int (1 + r4), .int r5])) := new_same hq5
      refine ⟨_, rfl, a, d, _, 3, rfl, s5.same e6, by omega, by decide, by decide, fun H6 r6 kp6 s6 r60 r61 => ?_⟩
      obtain ⟨m, hm, m1, m2⟩ : ∃ m : Int, atI [V.int 1, .int (1 + r4), .int r5] r6 = some (.int m) ∧ 1 ≤ m ∧ m ≤ 10 ^ 30 - 1 := by
        rcases (show r6 = 0 ∨ r6 = 1 ∨ r6 = 2 by omega) with rfl | rfl | rfl
        · exact ⟨1, rfl, by decide, by decide⟩
        · exact ⟨1 + r4, rfl, by omega, by omega⟩
        · exact ⟨r5, rfl, by omega, by omega⟩
      refine ⟨q5, _, r6, _, rfl, rfl, SqL.of (kp6 _ _ ga gd upd_same), hm, (by show 2 ≤ sizeLine; decide), fun q7 hq7 => ?_⟩
      obtain ⟨fa, fd'⟩ := s6.off hq7
      have k6 : Keep a d H H6 := ((((k2.trans (Keep.of e3)).trans kp4).trans kp5).trans (Keep.of e6)).trans kp6
      refine k _ q7 (.right m) (k6.new hq7) ((s6.same (new_same hq7)).more (by omega)) (k6.free fa fd' hq7) ?_ m1 m2
      rw [upd_same]
      rfl
    · refine ⟨p, _, _, _, rfl, rfl, SqL.of hp2, rfl, ?_⟩
      refine ⟨_, rfl, (by show 2 ≤ sizeLine; decide), fun q hq => ?_⟩
      have e3 : Same H2 (upd H2 q (.tup [.str "home", .str "end"])) := new_same hq
      refine ⟨q, _, rfl, .inr (SqT.of upd_same), rfl, rfl, false, by decide +kernel, iteF ?_⟩
      refine ⟨_, rfl, _, rfl, a, d, _, 4, rfl, s2.same e3, by omega, by decide, by decide, fun H4 r4 kp4 s4 r40 r41 => ?_⟩
      refine ⟨_, _, rfl, rfl, _, rfl, a, d, _, rfl, s4, by omega, fun H5 r5 kp5 s5 r50 r51 => ⟨(by show 3 ≤ sizeLine; decide), fun q5 hq5 => ?_⟩⟩
      obtain ⟨ga, gd⟩ := s5.off hq5
      have e6 : Same H5 (upd H5 q5 (.lst [.int 1, .int (1 + r4), .int r5])) := new_same hq5
      refine ⟨_, rfl, a, d, _, 3, rfl, s5.same e6, by omega, by decide, by decide, fun H6 r6 kp6 s6 r60 r61 => ?_⟩
      obtain ⟨m, hm, m1, m2⟩ : ∃ m : Int, atI [V.int 1, .int (1 + r4), .int r5] r6 = some (.int m) ∧ 1 ≤ m ∧ m ≤ 10 ^ 30 - 1 := by
        rcases (show r6 = 0 ∨ r6 = 1 ∨ r6 = 2 by omega) with rfl | rfl | rfl
        · exact ⟨1, rfl, by decide, by decide⟩
        · exact ⟨1 + r4, rfl, by omega, by omega⟩
        · exact ⟨r5, rfl, by omega, by omega⟩
      refine ⟨q5, _, r6, _, rfl, rfl, SqL.of (kp6 _ _ ga gd upd_same), hm, (by show 2 ≤ sizeLine; decide), fun q7 hq7 => ?_⟩
      obtain ⟨fa, fd'⟩ := s6.off hq7
      have k6 : Keep a d H H6 := ((((k2.trans (Keep.of e3)).trans kp4).trans kp5).trans (Keep.of e6)).trans kp6
      refine k _ q7 (.left m) (k6.new hq7) ((s6.same (new_same hq7)).more (by omega)) (k6.free fa fd' hq7) ?_ m1 m2
      rw [upd_same]
      rfl
    · refine ⟨p, _, _, _, rfl, rfl, SqL.of hp2, rfl, ?_⟩
      refine ⟨_, rfl, (by show 2 ≤ sizeLine; decide), fun q hq => ?_⟩
      have e3 : Same H2 (upd H2 q (.tup [.str "home", .str "end"])) := new_same hq
      refine ⟨q, _, rfl, .inr (SqT.of upd_same), rfl, rfl, true, by decide +kernel, iteT ?_⟩
      refine ⟨_, rfl, (by show 1 ≤ sizeLine; decide), fun q7 hq7 => ?_⟩
      have s3 := s2.same e3
      obtain ⟨fa, fd'⟩ := s3.off hq7
      have k3 := k2.trans (Keep.of e3)
      refine k _ q7 .home (k3.new hq7) ((s3.same (new_same hq7)).more (by omega)) (k3.free fa fd' hq7) ?_ trivial (by show (0 : Int) ≤ 10 ^ 30 - 1; decide)
      rw [upd_same]
      rfl
    · refine ⟨p, _, _, _, rfl, rfl, SqL.of hp2, rfl, ?_⟩
      refine ⟨_, rfl, (by show 2 ≤ sizeLine; decide), fun q hq => ?_⟩
      have e3 : Same H2 (upd H2 q (.tup [.str "home", .str "end"])) := new_same hq
      refine ⟨q, _, rfl, .inr (SqT.of upd_same), rfl, rfl, true, by decide +kernel, iteT ?_⟩
      refine ⟨_, rfl, (by show 1 ≤ sizeLine; decide), fun q7 hq7 => ?_⟩
      have s3 := s2.same e3
      obtain ⟨fa, fd'⟩ := s3.off hq7
      have k3 := k2.trans (Keep.of e3)
      refine k _ q7 .stop (k3.new hq7) ((s3.same (new_same hq7)).more (by omega)) (k3.free fa fd' hq7) ?_ trivial (by show (0 : Int) ≤ 10 ^ 30 - 1; decide)
      rw [upd_same]
      rfl
end
end Gc

/-! running commands over plain texts: the goal is reached exactly if the box is fulfilled -/
namespace Gc
def seen (t : Int) : Option Int → Int
  | none => t
  | some a => min a t
/-- the goal of the cursor after one command in a row of length t -/
def aim1 (t : Int) (a : Option Int) : Cmd → Option Int
  | .down _ => a
  | .up _ => a
  | .right n => some (min (seen t a + n) t)
  | .left n => some (max 0 (seen t a - n))
  | .home => some 0
  | .stop => none
def aimF (T : Int → Int) : Int → Option Int → List Cmd → Option Int
  | _, a, [] => a
  | r, a, c :: cs => aimF T (r + c.dv) (aim1 (T r) a c) cs
theorem aimF_app (T : Int → Int) : ∀ (xs ys : List Cmd) (r : Int) (a : Option Int), aimF T r a (xs ++ ys) = aimF T (r + last xs) (aimF T r a xs) ys
  | [], ys, r, a => by
    show aimF T r a ys = aimF T (r + 0) a ys
    rw [Int.add_zero]
  | c :: xs, ys, r, a => by
    show aimF T (r + c.dv) (aim1 (T r) a c) (xs ++ ys) = aimF T (r + (c.dv + last xs)) _ ys
    rw [aimF_app T xs ys, Int.add_assoc]
    rfl
theorem aimF_snoc (T : Int → Int) (cs : List Cmd) (c : Cmd) (r : Int) (a : Option Int) : aimF T r a (cs ++ [c]) = aim1 (T (r + last cs)) (aimF T r a cs) c := aimF_app T cs [c] r a
def ge (a : Option Int) (n : Int) : Prop := ∀ x, a = some x → n ≤ x
theorem ge_none (n : Int) : ge none n := fun _ h => nomatch h
theorem ge_some {x n : Int} : ge (some x) n ↔ n ≤ x := ⟨fun h => h x rfl, fun h y e => by rw [← Option.some.inj e]; exact h⟩
theorem seen_ge {t n : Int} {a : Option Int} : n ≤ seen t a ↔ n ≤ t ∧ ge a n := by
  cases a with
  | none => exact ⟨fun h => ⟨h, ge_none n⟩, fun h => h.1⟩
  | some x =>
    rw [ge_some]
    show n ≤ min x t ↔ _
    omega
theorem aim1_nn {t : Int} {a : Option Int} {c : Cmd} (ht : 0 ≤ t) (ha : ge a 0) (ok : c.ok) : ge (aim1 t a c) 0 := by
  have hs : 0 ≤ seen t a := seen_ge.mpr ⟨ht, ha⟩
  cases c with
  | down n => exact ha
  | up n => exact ha
  | right n =>
    have o : 1 ≤ n := ok
    refine ge_some.mpr ?_
    omega
  | left n =>
    refine ge_some.mpr ?_
    omega
  | home => exact ge_some.mpr (Int.le_refl 0)
  | stop => exact ge_none 0
theorem aimF_nn {T : Int → Int} (hT : ∀ k, 0 ≤ T k) : ∀ {cs : List Cmd} {r : Int} {a : Option Int}, AllOk cs → ge a 0 → ge (aimF T r a cs) 0
  | [], _, _, _, h => h
  | c :: cs, r, a, ok, h => aimF_nn hT (cs := cs) (fun d hd => ok d (List.mem_cons_of_mem _ hd)) (aim1_nn (hT r) h (ok c List.mem_cons_self))
theorem last_snoc (cs : List Cmd) (c : Cmd) : last (cs ++ [c]) = last cs + c.dv := by
  rw [last_app]
  show _ + (c.dv + 0) = _
  omega
theorem reqF_le {f : Int → Int} {o v : Int} {T : Int → Int} {r : Int} : (∀ k, reqF f o v k ≤ T (r + k)) ↔ (∀ k, f k ≤ T (r + k)) ∧ v ≤ T (r + o) := by
  constructor
  · intro h
    refine ⟨fun k => Int.le_trans (reqF_ge f o v k) (h k), ?_⟩
    have := h o
    unfold reqF at this
    rw [if_pos rfl] at this
    omega
  · rintro ⟨h1, h2⟩ k
    unfold reqF
    have := h1 k
    split
    · rename_i e
      subst e
      omega
    · exact this
/-- the box's walk, and the run -/
theorem go_char {T : Int → Int} (hT : ∀ k, 0 ≤ T k) {r : Int} {a : Option Int} (ha : ge a 0) : ∀ (rs : List Cmd) (need : Int) (f : Int → Int), AllOk rs → 1 ≤ need →
    ((∃ st g, goF rs (last rs.reverse) need f = some (st, g) ∧ (∀ n, st = some n → ge a n) ∧ ∀ k, g k ≤ T (r + k)) ↔ (∀ k, f k ≤ T (r + k)) ∧ ge (aimF T r a rs.reverse) need)
  | [], need, f, _, _ => by
    constructor
    · rintro ⟨st, g, e, h1, h2⟩
      cases e
      exact ⟨h2, h1 need rfl⟩
    · rintro ⟨h1, h2⟩
      exact ⟨_, _, rfl, fun n e => by rw [← Option.some.inj e]; exact h2, h1⟩
  | .home :: rs, need, f, ok, hn => by
    rw [List.reverse_cons, aimF_snoc]
    constructor
    · rintro ⟨st, g, e, _⟩
      cases e
    · rintro ⟨_, h2⟩
      have : need ≤ 0 := ge_some.mp h2
      omega
  | .stop :: rs, need, f, ok, hn => by
    rw [List.reverse_cons, aimF_snoc]
    constructor
    · rintro ⟨st, g, e, _, h2⟩
      cases e
      exact ⟨h2, ge_none _⟩
    · rintro ⟨h1, _⟩
      exact ⟨_, _, rfl, (fun n e => nomatch e), h1⟩
  | .down n :: rs, need, f, ok, hn => by
    rw [List.reverse_cons, aimF_snoc, last_snoc]
    have ih := go_char hT (r := r) ha rs need f (fun d hd => ok d (List.mem_cons_of_mem _ hd)) hn
    have e : last rs.reverse + (Cmd.down n).dv - n = last rs.reverse := by
      show last rs.reverse + n - n = _
      omega
    simp only [goF]
    rw [e]
    exact ih
  | .up n :: rs, need, f, ok, hn => by
    rw [List.reverse_cons, aimF_snoc, last_snoc]
    have ih := go_char hT (r := r) ha rs need f (fun d hd => ok d (List.mem_cons_of_mem _ hd)) hn
    have e : last rs.reverse + (Cmd.up n).dv + n = last rs.reverse := by
      show last rs.reverse + -n + n = _
      omega
    simp only [goF]
    rw [e]
    exact ih
  | .left n :: rs, need, f, ok, hn => by
    have o : 1 ≤ n := ok _ List.mem_cons_self
    rw [List.reverse_cons, aimF_snoc, last_snoc]
    have ih := go_char hT (r := r) ha rs (need + n) (reqF f (last rs.reverse) (need + n)) (fun d hd => ok d (List.mem_cons_of_mem _ hd)) (by omega)
    have e : last rs.reverse + (Cmd.left n).dv = last rs.reverse := Int.add_zero _
    simp only [goF]
    rw [e, ih, reqF_le]
    have s : ge (aim1 (T (r + last rs.reverse)) (aimF T r a rs.reverse) (.left n)) need ↔ need + n ≤ T (r + last rs.reverse) ∧ ge (aimF T r a rs.reverse) (need + n) := by
      rw [← seen_ge]
      show ge (some _) need ↔ _
      rw [ge_some]
      omega
    rw [s]
    exact ⟨fun h => ⟨h.1.1, h.1.2, h.2⟩, fun h => ⟨⟨h.1, h.2.1⟩, h.2.2⟩⟩
  | .right n :: rs, need, f, ok, hn => by
    have o : 1 ≤ n := ok _ List.mem_cons_self
    have okr : AllOk rs := fun d hd => ok d (List.mem_cons_of_mem _ hd)
    rw [List.reverse_cons, aimF_snoc, last_snoc]
    have e : last rs.reverse + (Cmd.right n).dv = last rs.reverse := Int.add_zero _
    have nn : 0 ≤ seen (T (r + last rs.reverse)) (aimF T r a rs.reverse) := seen_ge.mpr ⟨hT _, aimF_nn hT (fun d hd => okr d (List.mem_reverse.mp hd)) ha⟩
    simp only [goF]
    rw [e]
    have s : ge (aim1 (T (r + last rs.reverse)) (aimF T r a rs.reverse) (.right n)) need ↔ need ≤ T (r + last rs.reverse) ∧ need - n ≤ seen (T (r + last rs.reverse)) (aimF T r a rs.reverse) := by
      show ge (some _) need ↔ _
      rw [ge_some]
      omega
    rw [s]
    by_cases c : need > n
    · rw [if_pos c]
      have ih := go_char hT (r := r) ha rs (need - n) (reqF f (last rs.reverse) need) okr (by omega)
      rw [ih, reqF_le, seen_ge]
      exact ⟨fun h => ⟨h.1.1, h.1.2, by omega, h.2⟩, fun h => ⟨⟨h.1, h.2.1⟩, h.2.2.2⟩⟩
    · rw [if_neg c]
      constructor
      · rintro ⟨st, g, e, _, h2⟩
        cases e
        have h3 := reqF_le.mp h2
        exact ⟨h3.1, h3.2, by omega⟩
      · rintro ⟨h1, h2, _⟩
        exact ⟨_, _, rfl, (fun n e => nomatch e), reqF_le.mpr ⟨h1, h2⟩⟩
/-- the goal is reached exactly if the start fulfils the box -/
theorem box_char {T : Int → Int} (hT : ∀ k, 0 ≤ T k) {r : Int} {a : Option Int} (ha : ge a 0) {cs : List Cmd} {goal : Int} (ok : AllOk cs) (hg : 1 ≤ goal) :
    ge (aimF T r a cs) goal ↔ ∃ st L, boxM cs goal = some (st, L) ∧ (∀ n, st = some n → ge a n) ∧ ∀ k, val L k ≤ T (r + k) := by
  have h := go_char hT (r := r) ha cs.reverse goal (fun _ => 0) (allOk_rev ok) hg
  rw [List.reverse_reverse] at h
  have h0 : (∀ k : Int, (fun _ : Int => (0 : Int)) k ≤ T (r + k)) := fun k => hT _
  have h' : (∃ st g, boxF cs goal = some (st, g) ∧ (∀ n, st = some n → ge a n) ∧ ∀ k, g k ≤ T (r + k)) ↔ ge (aimF T r a cs) goal := h.trans ⟨fun x => x.2, fun x => ⟨h0, x⟩⟩
  rw [← h']
  rcases box_spec ok hg with ⟨e1, e2⟩ | ⟨st, b, e1, gb, e2, _⟩
  · rw [e1, e2]
    constructor
    · rintro ⟨_, _, z, _⟩
      cases z
    · rintro ⟨_, _, z, _⟩
      cases z
  · rw [e1, e2]
    have vp := val_perm gb (List.mergeSort_perm b leK)
    constructor
    · rintro ⟨st', g, z, h1, h2⟩
      cases z
      exact ⟨_, _, rfl, h1, fun k => by rw [vp]; exact h2 k⟩
    · rintro ⟨st', L, z, h1, h2⟩
      cases z
      exact ⟨_, _, rfl, h1, fun k => by rw [← vp]; exact h2 k⟩
end Gc

/-! rows that are visited; the least text -/
namespace Gc
def Within (cs : List Cmd) (lo hi : Int) : Prop := ∀ i, lo ≤ last (cs.take i) ∧ last (cs.take i) ≤ hi
theorem Within.tail {c : Cmd} {cs : List Cmd} {lo hi : Int} (h : Within (c :: cs) lo hi) : Within cs (lo - c.dv) (hi - c.dv) := fun i => by
  have q := h (i + 1)
  have e : last ((c :: cs).take (i + 1)) = c.dv + last (cs.take i) := rfl
  rw [e] at q
  omega
theorem Within.init {cs : List Cmd} {c : Cmd} {lo hi : Int} (h : Within (cs ++ [c]) lo hi) : Within cs lo hi := fun i => by
  by_cases l : i ≤ cs.length
  · have q := h i
    rw [List.take_append_of_le_length l] at q
    exact q
  · have q := h cs.length
    rw [List.take_append_of_le_length (Nat.le_refl _)] at q
    rw [List.take_of_length_le (by omega)]
    rw [List.take_length] at q
    exact q
theorem Within.whole {cs : List Cmd} {lo hi : Int} (h : Within cs lo hi) : lo ≤ last cs ∧ last cs ≤ hi := by
  have q := h cs.length
  rw [List.take_length] at q
  exact q
theorem Within.zero {cs : List Cmd} {lo hi : Int} (h : Within cs lo hi) : lo ≤ 0 ∧ 0 ≤ hi := h 0
theorem keys_req' {b : Ps} {o v k : Int} (h : k ∈ keys (req b o v)) : k = o ∨ k ∈ keys b := by
  unfold req at h
  rw [keys_put] at h
  split at h
  · exact .inr h
  · rcases List.mem_append.mp h with q | q
    · exact .inr q
    · exact .inl (List.mem_singleton.mp q)
/-- the offsets of a box are rows that are visited -/
theorem go_within {lo hi : Int} : ∀ {rs : List Cmd} {need : Int} {b : Ps} {st : Option Int} {b' : Ps}, go rs (last rs.reverse) need b = some (st, b') → Within rs.reverse lo hi → (∀ k ∈ keys b, lo ≤ k ∧ k ≤ hi) → ∀ k ∈ keys b', lo ≤ k ∧ k ≤ hi
  | [], need, b, st, b', h, _, hb => by cases h; exact hb
  | .home :: rs, need, b, st, b', h, _, _ => by cases h
  | .stop :: rs, need, b, st, b', h, _, hb => by cases h; exact hb
  | .down n :: rs, need, b, st, b', h, w, hb => by
    rw [List.reverse_cons] at h w
    rw [last_snoc] at h
    have e : last rs.reverse + (Cmd.down n).dv - n = last rs.reverse := by
      show last rs.reverse + n - n = _
      omega
    simp only [go] at h
    rw [e] at h
    exact go_within h w.init hb
  | .up n :: rs, need, b, st, b', h, w, hb => by
    rw [List.reverse_cons] at h w
    rw [last_snoc] at h
    have e : last rs.reverse + (Cmd.up n).dv + n = last rs.reverse := by
      show last rs.reverse + -n + n = _
      omega
    simp only [go] at h
    rw [e] at h
    exact go_within h w.init hb
  | .left n :: rs, need, b, st, b', h, w, hb => by
    rw [List.reverse_cons] at h w
    rw [last_snoc, show last rs.reverse + (Cmd.left n).dv = last rs.reverse from Int.add_zero _] at h
    simp only [go] at h
    refine go_within h w.init fun k hk => ?_
    rcases keys_req' hk with q | q
    · rw [q]
      exact w.init.whole
    · exact hb k q
  | .right n :: rs, need, b, st, b', h, w, hb => by
    rw [List.reverse_cons] at h w
    rw [last_snoc, show last rs.reverse + (Cmd.right n).dv = last rs.reverse from Int.add_zero _] at h
    have hr : ∀ k ∈ keys (req b (last rs.reverse) need), lo ≤ k ∧ k ≤ hi := fun k hk => by
      rcases keys_req' hk with q | q
      · rw [q]
        exact w.init.whole
      · exact hb k q
    simp only [go] at h
    split at h
    · exact go_within h w.init hr
    · cases h
      exact hr
theorem box_within {lo hi : Int} {cs : List Cmd} {goal : Int} {st : Option Int} {L : Ps} (h : boxM cs goal = some (st, L)) (w : Within cs lo hi) : ∀ q ∈ L, lo ≤ q.1 ∧ q.1 ≤ hi := by
  unfold boxM at h
  cases e : go cs.reverse (last cs) goal [] with
  | none =>
    rw [e] at h
    cases h
  | some x =>
    rw [e] at h
    obtain ⟨st', b'⟩ := x
    have h' : (st', b'.mergeSort leK) = (st, L) := Option.some.inj h
    cases h'
    have k := go_within (rs := cs.reverse) (lo := lo) (hi := hi) (by rw [List.reverse_reverse]; exact e) (by rw [List.reverse_reverse]; exact w) (fun k hk => by cases hk)
    intro q hq
    exact k q.1 (List.mem_map.mpr ⟨q, (List.mergeSort_perm b' leK).mem_iff.mp hq, rfl⟩)
/-! ### a text from a box -/
def setAll (lo : Int) (T : List Int) (L : Ps) : List Int := L.foldl (fun T q => T.set (q.1 - lo).toNat q.2) T
theorem setAll_len (lo : Int) : ∀ (L : Ps) (T : List Int), (setAll lo T L).length = T.length
  | [], _ => rfl
  | q :: L, T => by
    show (setAll lo (T.set (q.1 - lo).toNat q.2) L).length = _
    rw [setAll_len lo L, List.length_set]
theorem setAll_get {lo : Int} : ∀ {L : Ps} {T : List Int} {k : Int}, (keys L).Nodup → (∀ q ∈ L, lo ≤ q.1 ∧ q.1 - lo < T.length) → lo ≤ k → k - lo < T.length →
    (setAll lo T L).getD (k - lo).toNat 0 = match look L k with | some v => v | none => T.getD (k - lo).toNat 0
  | [], T, k, _, _, _, _ => rfl
  | q :: L, T, k, nd, hq, h0, h1 => by
    have nd' : q.1 ∉ keys L ∧ (keys L).Nodup := List.nodup_cons.mp nd
    have q0 := hq q List.mem_cons_self
    show (setAll lo (T.set (q.1 - lo).toNat q.2) L).getD (k - lo).toNat 0 = _
    rw [setAll_get (L := L) nd'.2 (fun p hp => by rw [List.length_set]; exact hq p (List.mem_cons_of_mem _ hp)) h0 (by rw [List.length_set]; exact h1), look_cons]
    by_cases e : q.1 = k
    · subst e
      rw [if_pos rfl, look_none.mpr nd'.1]
      show (T.set (q.1 - lo).toNat q.2).getD (q.1 - lo).toNat 0 = q.2
      rw [List.getD_eq_getElem?_getD, List.getElem?_set_self (by omega)]
      rfl
    · rw [if_neg e]
      cases look L k with
      | some v => rfl
      | none =>
        show (T.set (q.1 - lo).toNat q.2).getD (k - lo).toNat 0 = T.getD (k - lo).toNat 0
        rw [List.getD_eq_getElem?_getD, List.getD_eq_getElem?_getD, List.getElem?_set_ne (by omega)]
/-! ### the run over a list of lengths -/
def lenAt (T : List Int) (r : Int) : Int := T.getD r.toNat 0
/-- the run over a text: the row must stand -/
def afterL (T : List Int) : Int → Option Int → List Cmd → Option (Int × Option Int)
  | r, a, [] => some (r, a)
  | r, a, c :: cs => if c.vert = true then (if 0 ≤ r + c.dv ∧ r + c.dv < T.length then afterL T (r + c.dv) a cs else none) else afterL T r (aim1 (lenAt T r) a c) cs
theorem Within.le {cs : List Cmd} {lo hi lo' hi' : Int} (h : Within cs lo hi) (h1 : lo' ≤ lo) (h2 : hi ≤ hi') : Within cs lo' hi' := fun i => by
  have := h i
  omega
theorem afterL_in {T : List Int} : ∀ {cs : List Cmd} {r : Int} {a : Option Int}, Within cs (-r) (T.length - 1 - r) → afterL T r a cs = some (r + last cs, aimF (lenAt T) r a cs)
  | [], r, a, _ => by
    show some (r, a) = some (r + 0, a)
    rw [Int.add_zero]
  | c :: cs, r, a, w => by
    have w1 := w 1
    have e1 : last ((c :: cs).take 1) = c.dv + 0 := rfl
    rw [e1] at w1
    have wt : Within cs (-(r + c.dv)) (T.length - 1 - (r + c.dv)) := w.tail.le (by omega) (by omega)
    have ih := afterL_in (a := aim1 (lenAt T r) a c) wt
    have el : last (c :: cs) = c.dv + last cs := rfl
    have ea : aimF (lenAt T) r a (c :: cs) = aimF (lenAt T) (r + c.dv) (aim1 (lenAt T r) a c) cs := rfl
    rw [ea, el, ← Int.add_assoc]
    by_cases v : c.vert = true
    · have ia : aim1 (lenAt T r) a c = a := by
        cases c with
        | down n => rfl
        | up n => rfl
        | right n => cases v
        | left n => cases v
        | home => cases v
        | stop => cases v
      rw [ia] at ih ⊢
      simp only [afterL]
      rw [if_pos v, if_pos ⟨by omega, by omega⟩, ih]
    · have d0 : c.dv = 0 := by
        cases c with
        | down n => exact absurd rfl v
        | up n => exact absurd rfl v
        | right n => rfl
        | left n => rfl
        | home => rfl
        | stop => rfl
      simp only [afterL]
      rw [if_neg v]
      rw [d0, Int.add_zero] at ih ⊢
      exact ih
theorem lenAt_nn {T : List Int} (h : ∀ x ∈ T, 0 ≤ x) (r : Int) : 0 ≤ lenAt T r := by
  unfold lenAt
  rw [List.getD_eq_getElem?_getD]
  cases e : T[r.toNat]? with
  | none => exact Int.le_refl 0
  | some x => exact h x (List.mem_of_getElem? e)
/-- over a text whose rows are all there: the goal is reached exactly if the box is fulfilled -/
theorem after_char {T : List Int} (hT : ∀ x ∈ T, 0 ≤ x) {r : Int} {a : Option Int} (ha : ge a 0) {cs : List Cmd} {goal : Int} (ok : AllOk cs) (hg : 1 ≤ goal) (w : Within cs (-r) (T.length - 1 - r)) :
    ∃ a', afterL T r a cs = some (r + last cs, a') ∧ ge a' 0 ∧ (ge a' goal ↔ ∃ st L, boxM cs goal = some (st, L) ∧ (∀ n, st = some n → ge a n) ∧ ∀ k, val L k ≤ lenAt T (r + k)) :=
  ⟨_, afterL_in w, aimF_nn (lenAt_nn hT) ok ha, box_char (lenAt_nn hT) ha ok hg⟩
/-! ### the least text -/
def textM (lo hi : Int) (L : Ps) : List Int := setAll lo (List.replicate (hi - lo + 1).toNat 0) L
theorem textM_len {lo hi : Int} (h : lo ≤ hi) (L : Ps) : ((textM lo hi L).length : Int) = hi - lo + 1 := by
  unfold textM
  rw [setAll_len, List.length_replicate]
  omega
theorem textM_at {lo hi : Int} {L : Ps} (g : Good L) (hL : ∀ q ∈ L, lo ≤ q.1 ∧ q.1 ≤ hi) {k : Int} (h0 : lo ≤ k) (h1 : k ≤ hi) : lenAt (textM lo hi L) (k - lo) = val L k := by
  unfold lenAt textM
  have hr : ((List.replicate (hi - lo + 1).toNat (0 : Int)).length : Int) = hi - lo + 1 := by
    rw [List.length_replicate]
    omega
  rw [setAll_get g.nd (fun q hq => by have := hL q hq; omega) h0 (by omega)]
  unfold val
  cases look L k with
  | some v => rfl
  | none =>
    show (List.replicate _ (0 : Int)).getD _ 0 = 0
    rw [List.getD_eq_getElem?_getD, List.getElem?_replicate]
    split <;> rfl
theorem val_off {lo hi : Int} {L : Ps} (hL : ∀ q ∈ L, lo ≤ q.1 ∧ q.1 ≤ hi) {k : Int} (h : ¬ (lo ≤ k ∧ k ≤ hi)) : val L k = 0 := by
  refine val_out fun z => ?_
  obtain ⟨q, hq, e⟩ := List.mem_map.mp z
  rw [← e] at h
  exact h (hL q hq)
theorem textM_nn {lo hi : Int} {L : Ps} (g : Good L) (hL : ∀ q ∈ L, lo ≤ q.1 ∧ q.1 ≤ hi) : ∀ x ∈ textM lo hi L, 0 ≤ x := by
  intro x hx
  obtain ⟨i, hi'⟩ := List.mem_iff_getElem?.mp hx
  have l := (List.getElem?_eq_some_iff.mp hi').1
  have l2 : (textM lo hi L).length = (hi - lo + 1).toNat := by
    unfold textM
    rw [setAll_len, List.length_replicate]
  have e := textM_at g hL (k := i + lo) (by omega) (by omega)
  unfold lenAt at e
  rw [show ((i : Int) + lo - lo).toNat = i by omega, List.getD_eq_getElem?_getD, hi'] at e
  have e' : x = val L (i + lo) := e
  rw [e']
  exact val_nonneg g _
section
variable {cs : List Cmd} {goal lo hi : Int} {st : Option Int} {L : Ps}
/-- from it, and just its goal, the goal is reached -/
theorem least_gets (g : Good L) (w : Within cs lo hi) (ok : AllOk cs) (hg : 1 ≤ goal) (e : boxM cs goal = some (st, L)) (pos : ∀ n, st = some n → 1 ≤ n) :
    ∃ a', afterL (textM lo hi L) (-lo) (some (st.getD 0)) cs = some (-lo + last cs, a') ∧ ge a' goal := by
  have hL := box_within e w
  have z := w.zero
  have tl := textM_len (lo := lo) (hi := hi) (by omega) L
  have a0 : ge (some (st.getD 0)) 0 := ge_some.mpr (by
    cases st with
    | none => exact Int.le_refl 0
    | some n =>
      have := pos n rfl
      show 0 ≤ n
      omega)
  obtain ⟨a', h1, _, h2⟩ := after_char (textM_nn g hL) a0 ok hg (w.le (show -(-lo) ≤ lo by omega) (show hi ≤ (textM lo hi L).length - 1 - (-lo) by omega))
  refine ⟨a', h1, h2.mpr ⟨st, L, e, fun n en => ge_some.mpr (by rw [en]; exact Int.le_refl n), fun k => ?_⟩⟩
  by_cases h : lo ≤ k ∧ k ≤ hi
  · rw [show -lo + k = k - lo by omega, textM_at g hL h.1 h.2]
    exact Int.le_refl _
  · rw [val_off hL h]
    exact lenAt_nn (textM_nn g hL) _
/-- with a goal less by one it is not -/
theorem least_goal (g : Good L) (w : Within cs lo hi) (ok : AllOk cs) (hg : 1 ≤ goal) (e : boxM cs goal = some (st, L)) {n : Int} (es : st = some n) (hn : 1 ≤ n) :
    ∃ a', afterL (textM lo hi L) (-lo) (some (n - 1)) cs = some (-lo + last cs, a') ∧ ¬ ge a' goal := by
  have hL := box_within e w
  have z := w.zero
  have tl := textM_len (lo := lo) (hi := hi) (by omega) L
  obtain ⟨a', h1, _, h2⟩ := after_char (textM_nn g hL) (ge_some.mpr (show 0 ≤ n - 1 by omega)) ok hg (w.le (show -(-lo) ≤ lo by omega) (show hi ≤ (textM lo hi L).length - 1 - (-lo) by omega))
  refine ⟨a', h1, fun x => ?_⟩
  obtain ⟨st', L', e', h3, _⟩ := h2.mp x
  rw [e] at e'
  cases e'
  have := ge_some.mp (h3 n es)
  omega
/-- with a length less by one it is not -/
theorem least_row (g : Good L) (w : Within cs lo hi) (ok : AllOk cs) (hg : 1 ≤ goal) (e : boxM cs goal = some (st, L)) (pos : ∀ n, st = some n → 1 ≤ n) {i : Nat} (li : i < (textM lo hi L).length) (h : 0 < lenAt (textM lo hi L) i) :
    ∃ a', afterL ((textM lo hi L).set i (lenAt (textM lo hi L) i - 1)) (-lo) (some (st.getD 0)) cs = some (-lo + last cs, a') ∧ ¬ ge a' goal := by
  have hL := box_within e w
  have z := w.zero
  have tl := textM_len (lo := lo) (hi := hi) (by omega) L
  have a0 : ge (some (st.getD 0)) 0 := ge_some.mpr (by
    cases st with
    | none => exact Int.le_refl 0
    | some n =>
      have := pos n rfl
      show 0 ≤ n
      omega)
  have nn : ∀ x ∈ (textM lo hi L).set i (lenAt (textM lo hi L) i - 1), 0 ≤ x := fun x hx => by
    rcases List.mem_or_eq_of_mem_set hx with q | q
    · exact textM_nn g hL x q
    · omega
  obtain ⟨a', h1, _, h2⟩ := after_char (r := -lo) nn a0 ok hg (w.le (show -(-lo) ≤ lo by omega) (by rw [List.length_set]; omega))
  refine ⟨a', h1, fun x => ?_⟩
  obtain ⟨st', L', e', _, h4⟩ := h2.mp x
  rw [e] at e'
  cases e'
  have q := h4 (i + lo)
  rw [show -lo + (i + lo) = (i : Int) by omega] at q
  have ev := textM_at g hL (k := i + lo) (by omega) (by omega)
  rw [show (i : Int) + lo - lo = i by omega] at ev
  rw [← ev] at q
  have es : lenAt ((textM lo hi L).set i (lenAt (textM lo hi L) i - 1)) i = lenAt (textM lo hi L) i - 1 := by
    conv => lhs; unfold lenAt
    rw [Int.toNat_natCast, List.getD_eq_getElem?_getD, List.getElem?_set_self li]
    rfl
  rw [es] at q
  omega
end
end Gc

/-! running, where nothing is raised -/
namespace Gc
open PySem L2
abbrev s_check_text : Stmt := top 9
abbrev s_check_cursor : Stmt := top 10
abbrev s_run : Stmt := top 16
abbrev s_shown_column : Stmt := top 19
abbrev s_moved : Stmt := top 21
abbrev s_new_goal : Stmt := top 22
theorem at_len' {T : List Int} {r : Int} (h0 : 0 ≤ r) (h1 : r < T.length) : atI (T.map V.int) r = some (.int (lenAt T r)) := by
  have e : r = (r.toNat : Int) := by omega
  refine at_of (j := r.toNat) e ?_
  have l : r.toNat < T.length := by omega
  unfold lenAt
  rw [List.getElem?_map, List.getD_eq_getElem?_getD, List.getElem?_eq_getElem l]
  rfl
theorem minI (i j : Int) : (if j < i then j else i) = min i j := by split <;> omega
theorem maxI (i j : Int) : (if j > i then j else i) = max i j := by split <;> omega
theorem iteN1 {c A B : Prop} [Decidable c] (hc : c) (h : B) : if (!decide c) = true then A else B := by
  rw [decide_eq_true hc]
  exact iteF h
theorem iteN0 {c A B : Prop} [Decidable c] (hc : ¬ c) (h : A) : if (!decide c) = true then A else B := by
  rw [decide_eq_false hc]
  exact iteT h
def spText (K : PySem.W.Frag) : Sp := fun vs H Q _ => ∃ (t : Addr) (T : List Int), vs = [.ref t] ∧ SqL K H t (T.map V.int) ∧ T ≠ [] ∧ (∀ x ∈ T, 0 ≤ x) ∧ ∀ H', Same H H' → Q .non H'
def spCursor (K : PySem.W.Frag) : Sp := fun vs H Q _ => ∃ (n r : Int) (g : Option Int) (c : Addr), vs = [.int n, .ref c] ∧ SqT K H c [.int r, optV g] ∧ 0 ≤ r ∧ r < n ∧ ge g 0 ∧ Q .non H
def spShown : Sp := fun vs H Q _ => ∃ (t : Int) (g : Option Int), vs = [.int t, optV g] ∧ Q (.int (seen t g)) H
def spGoal (K : PySem.W.Frag) : Sp := fun vs H Q _ => ∃ (t : Int) (g : Option Int) (v : V) (c : Cmd), vs = [.int t, optV g, v] ∧ CmdAt K H v c ∧ Q (optV (aim1 t g c)) H
/-- one command: None, or the new cursor -/
def step1 (T : List Int) (r : Int) (g : Option Int) (c : Cmd) : Option (Int × Option Int) := if 0 ≤ r + c.dv ∧ r + c.dv < T.length then some (r + c.dv, aim1 (lenAt T (r + c.dv)) g c) else none
def spMoved (K : PySem.W.Frag) : Sp := fun vs H Q _ => ∃ (t b : Addr) (T : List Int) (r : Int) (g : Option Int) (v : V) (c : Cmd), vs = [.ref t, .ref b, v] ∧ SqL K H t (T.map V.int) ∧ SqT K H b [.int r, optV g] ∧ CmdAt K H v c ∧
  (step1 T r g c = none → Q .non H) ∧ ∀ r' g', step1 T r g c = some (r', g') → ∀ p, H p = none → Q (.ref p) (upd H p (.tup [.int r', optV g']))
def spRun (K : PySem.W.Frag) : Sp := fun vs H Q _ => ∃ (t b l : Addr) (T : List Int) (r : Int) (g : Option Int) (xs : List V) (cs : List Cmd) (r' : Int) (g' : Option Int), vs = [.ref t, .ref b, .ref l] ∧ SqL K H t (T.map V.int) ∧ SqT K H b [.int r, optV g] ∧ SqL K H l xs ∧ CmdsOf K H xs cs ∧
  (∀ x ∈ T, 0 ≤ x) ∧ 0 ≤ r ∧ r < T.length ∧ ge g 0 ∧ AllOk cs ∧ cs.length ≤ 10000 ∧ afterL T r g cs = some (r', g') ∧ ∀ (H' : Hp) (p : Addr), Same H H' → SqT K H' p [.int r', optV g'] → Q (.ref p) H'
theorem aim1_vert {t t' : Int} {g : Option Int} {c : Cmd} (h : c.vert = true) : aim1 t g c = g := by cases c <;> first | rfl | cases h
theorem dv_flat {c : Cmd} (h : ¬ c.vert = true) : c.dv = 0 := by cases c <;> first | rfl | exact absurd rfl h
theorem afterL_cons {T : List Int} {r : Int} {g : Option Int} {c : Cmd} {cs : List Cmd} (h0 : 0 ≤ r) (h1 : r < T.length) : afterL T r g (c :: cs) = (step1 T r g c).bind fun q => afterL T q.1 q.2 cs := by
  unfold step1
  simp only [afterL]
  by_cases v : c.vert = true
  · rw [if_pos v]
    by_cases i : 0 ≤ r + c.dv ∧ r + c.dv < T.length
    · rw [if_pos i, if_pos i, aim1_vert (t' := 0) v]
      rfl
    · rw [if_neg i, if_neg i]
      rfl
  · rw [if_neg v, dv_flat v, Int.add_zero, if_pos ⟨h0, h1⟩]
    rfl
theorem step1_in {T : List Int} {r r' : Int} {g g' : Option Int} {c : Cmd} (h : step1 T r g c = some (r', g')) : 0 ≤ r' ∧ r' < T.length := by
  unfold step1 at h
  split at h
  · rename_i i
    cases h
    exact i
  · cases h
section
variable {P : Program} {w : World} {K : PySem.W.Frag} {mg : Str → Option Value} {base : Heap} {wo wn : Addr}
theorem sc_check_text : FnScope ["text", "index", "length"] ["text"] (defScope s_check_text) := ⟨rfl, rfl, rfl, by decide +kernel, rfl, by decide +kernel, by decide +kernel⟩
theorem ok_check_text {f : Addr} {fd : FuncData} (F : Fun K "check_text" "check_text" s_check_text f fd) (T : TxtB K mg wo wn) : FnOk P w K mg base CX0 1 f fd ["text"] (spText K) := by
  refine F.ok sc_check_text (fun vs H Q E h => ?_) (fun cdv A outer s H vs Q E hr h => ?_)
  · obtain ⟨t, T, rfl, _⟩ := h
    rfl
  · obtain ⟨t, tx, rfl, ht, ne, nn, k⟩ := h
    refine ⟨_, (pss_cons (ps_if (pt_not (pt_truth (pv 0) (fun _ => rfl))) (pss_one ps_never) pss_nil)
      (pss_one (ps_for PassesOwn.never rfl (pi_enum (by rfl) T.enumerate (pa_cons (pv 0) pa_nil)) (pg_tup rfl (pgs_cons (pg_name (i := 1) sc_check_text.nd rfl (Or.inl rfl)) (pgs_cons (pg_name (i := 2) sc_check_text.nd rfl (Or.inl rfl)) pgs_nil))) (pss_one (ps_if (pt_cmpR op_lt (pv 2) pe_int (nomark _)) (pss_one ps_never) pss_nil))))), ?_⟩
    refine ⟨_, rfl, true, .inl ⟨_, ht, ?_⟩, iteF ?_⟩
    · cases tx with
      | nil => exact absurd rfl ne
      | cons x r => rfl
    refine ⟨_, rfl, t, _, rfl, ht, for_it (walk_enum (K := K) (a := t) (xs := tx.map V.int)) (fun i σ H' => ∃ v1 v2 : Option V, σ = [some (.ref t), v1, v2] ∧ Same H H')
      ⟨none, none, rfl, Same.refl H⟩ (fun i σ H' _ ⟨_, _, _, e⟩ => e.seq ht) (fun i x σ H1 H2 hi h y => ?_) (fun σ H1 h => ?_)⟩
    · obtain ⟨v1, v2, rfl, e⟩ := h
      obtain ⟨T1, x1, y1, rfl, nT, rfl, e1, e2⟩ := y
      obtain ⟨z, hz, rfl⟩ : ∃ z, tx[i]? = some z ∧ y1 = .int z := by
        have e3 : (tx.map V.int)[i]? = some y1 := e2
        rw [List.getElem?_map] at e3
        cases q : tx[i]? with
        | none =>
          rw [q] at e3
          cases e3
        | some z =>
          rw [q] at e3
          exact ⟨z, rfl, (Option.some.inj e3).symm⟩
      have z0 := nn z (List.mem_of_getElem? hz)
      refine ⟨T1, _, rfl, SqT.of upd_same, rfl, _, _, rfl, _, _, rfl, rfl, ?_⟩
      refine ⟨_, rfl, _, _, rfl, rfl, _, rfl, ite2 (fun c => absurd (of_decide_eq_true c) (by omega)) (fun _ => ?_)⟩
      exact ⟨_, _, rfl, same_upd e nT⟩
    · obtain ⟨v1, v2, rfl, e⟩ := h
      exact k _ e
theorem sc_check_cursor : FnScope ["lines", "cursor", "row", "goal"] ["lines", "cursor"] (defScope s_check_cursor) := ⟨rfl, rfl, rfl, by decide +kernel, rfl, by decide +kernel, by decide +kernel⟩
theorem ok_check_cursor {f : Addr} {fd : FuncData} (F : Fun K "check_cursor" "check_cursor" s_check_cursor f fd) : FnOk P w K mg base CX0 1 f fd ["lines", "cursor"] (spCursor K) := by
  refine F.ok sc_check_cursor (fun vs H Q E h => ?_) (fun cdv A outer s H vs Q E hr h => ?_)
  · obtain ⟨n, r, g, c, rfl, _⟩ := h
    rfl
  · obtain ⟨n, r, g, c, rfl, hc, r0, r1, g0, k⟩ := h
    refine ⟨_, (pss_cons (ps_asg (pv 1) (pg_tup rfl (pgs_cons (pg_name (i := 2) sc_check_cursor.nd rfl (Or.inl rfl)) (pgs_cons (pg_name (i := 3) sc_check_cursor.nd rfl (Or.inl rfl)) pgs_nil))))
      (pss_one (ps_if (PW.pt (pw_or (pt_not (pt_chain op_le op_lt pe_int (pv 2) (pv 0))) (pw_or1 (PW.pt (pw_and (pt_cmpR op_notN (pv 3) pe_non (nomark _)) (pw_and1 (pt_cmpR op_lt (pv 3) pe_int (nomark _)))))))) (pss_one ps_never) pss_nil))), ?_⟩
    refine ⟨_, rfl, c, _, rfl, hc, rfl, _, _, rfl, _, _, rfl, rfl, ?_⟩
    refine ⟨_, rfl, _, _, rfl, rfl, _, rfl, ite2 (fun _ => ?_) (fun c => absurd (decide_eq_true r0) c)⟩
    refine ⟨_, rfl, _, _, rfl, rfl, _, rfl, ?_⟩
    refine iteN1 r1 ?_
    cases g with
    | none => exact ⟨_, rfl, rfl, _, rfl, iteF (iteF k)⟩
    | some y =>
      have y0 := ge_some.mp g0
      refine ⟨_, rfl, rfl, _, rfl, iteT ?_⟩
      refine ⟨_, rfl, _, _, rfl, rfl, _, rfl, ite2 (fun c => absurd (of_decide_eq_true c) (by omega)) (fun _ => k)⟩
theorem sc_shown_column : FnScope ["length", "goal"] ["length", "goal"] (defScope s_shown_column) := ⟨rfl, rfl, rfl, by decide +kernel, rfl, by decide +kernel, by decide +kernel⟩
theorem ok_shown_column {f : Addr} {fd : FuncData} (F : Fun K "shown_column" "shown_column" s_shown_column f fd) (T : TxtB K mg wo wn) : FnOk P w K mg base CX0 1 f fd ["length", "goal"] spShown := by
  refine F.ok sc_shown_column (fun vs H Q E h => ?_) (fun cdv A outer s H vs Q E hr h => ?_)
  · obtain ⟨t, g, rfl, _⟩ := h
    rfl
  · obtain ⟨t, g, rfl, k⟩ := h
    refine ⟨_, (pss_one (ps_ret (pe_ifExp (pt_cmpR op_isN (pv 1) pe_non (nomark _)) (pv 0) (pe_callB (call_min2 rfl) (by rfl) T.min (by decide +kernel) (pa_cons (pv 1) (pa_cons (pv 0) pa_nil)))))), ?_⟩
    cases g with
    | none => exact ⟨_, rfl, rfl, _, rfl, iteT ⟨_, rfl, k⟩⟩
    | some y =>
      refine ⟨_, rfl, rfl, _, rfl, iteF ?_⟩
      refine ⟨_, rfl, _, rfl, _, _, rfl, ?_⟩
      show Q (.int (if t < y then t else y)) H
      rw [minI]
      exact k
theorem sc_new_goal : FnScope ["length", "goal", "command"] ["length", "goal", "command"] (defScope s_new_goal) := ⟨rfl, rfl, rfl, by decide +kernel, rfl, by decide +kernel, by decide +kernel⟩
theorem ok_new_goal {f : Addr} {fd : FuncData} (F : Fun K "new_goal" "new_goal" s_new_goal f fd) (T : TxtB K mg wo wn) (c_shown_column : Cal P w K mg base 1 "shown_column" spShown) : FnOk P w K mg base CX0 2 f fd ["length", "goal", "command"] (spGoal K) := by
  refine F.ok sc_new_goal (fun vs H Q E h => ?_) (fun cdv A outer s H vs Q E hr h => ?_)
  · obtain ⟨t, g, v, c, rfl, _⟩ := h
    rfl
  · obtain ⟨t, g, v, c, rfl, ⟨a, rfl, hc⟩, k⟩ := h
    refine ⟨_, (pss_one (ps_match (pe_ix ix_tup (pv 2) pe_int (fun _ _ => rfl)) (mc_str (pss_one (ps_ret pe_int)) (mc_str (pss_one (ps_ret pe_non)) (mc_str (pss_one (ps_ret (pe_callB (call_min2 rfl) (by rfl) T.min (by decide +kernel) (pa_cons (pe_op op_add (pe_cal c_shown_column hr (by decide) (by rfl) (pa_cons (pv 0) (pa_cons (pv 1) pa_nil))) (pe_ix ix_tup (pv 2) pe_int (fun _ _ => rfl))) (pa_cons (pv 0) pa_nil))))) (mc_str (pss_one (ps_ret (pe_callB (call_max2 rfl) (by rfl) T.max (by decide +kernel) (pa_cons (pe_op op_sub (pe_cal c_shown_column hr (by decide) (by rfl) (pa_cons (pv 0) (pa_cons (pv 1) pa_nil))) (pe_ix ix_tup (pv 2) pe_int (fun _ _ => rfl))) (pa_cons pe_int pa_nil))))) (mc_any (pss_one (ps_ret (pv 1)))))))))), ?_⟩
    cases c with
    | home => exact ⟨_, rfl, a, _, 0, _, rfl, rfl, hc, rfl, m_yes (by decide +kernel) k⟩
    | stop => exact ⟨_, rfl, a, _, 0, _, rfl, rfl, hc, rfl, m_no (by decide +kernel) (m_yes (by decide +kernel) k)⟩
    | right n =>
      refine ⟨_, rfl, a, _, 0, _, rfl, rfl, hc, rfl, m_no (by decide +kernel) (m_no (by decide +kernel) (m_yes (by decide +kernel) ?_))⟩
      refine ⟨_, rfl, _, rfl, t, g, rfl, _, rfl, a, _, 1, _, rfl, rfl, hc, rfl, _, _, rfl, rfl, _, rfl, _, _, rfl, ?_⟩
      show Q (.int (if t < seen t g + n then t else seen t g + n)) H
      rw [minI]
      exact k
    | left n =>
      refine ⟨_, rfl, a, _, 0, _, rfl, rfl, hc, rfl, m_no (by decide +kernel) (m_no (by decide +kernel) (m_no (by decide +kernel) (m_yes (by decide +kernel) ?_)))⟩
      refine ⟨_, rfl, _, rfl, t, g, rfl, _, rfl, a, _, 1, _, rfl, rfl, hc, rfl, _, _, rfl, rfl, _, _, rfl, ?_⟩
      show Q (.int (if 0 > seen t g - n then 0 else seen t g - n)) H
      rw [maxI, Int.max_comm]
      exact k
    | down n => exact ⟨_, rfl, a, _, 0, _, rfl, rfl, hc, rfl, m_no (by decide +kernel) (m_no (by decide +kernel) (m_no (by decide +kernel) (m_no (by decide +kernel) ⟨_, rfl, k⟩)))⟩
    | up n => exact ⟨_, rfl, a, _, 0, _, rfl, rfl, hc, rfl, m_no (by decide +kernel) (m_no (by decide +kernel) (m_no (by decide +kernel) (m_no (by decide +kernel) ⟨_, rfl, k⟩)))⟩
theorem sc_moved : FnScope ["text", "cursor", "command", "row"] ["text", "cursor", "command"] (defScope s_moved) := ⟨rfl, rfl, rfl, by decide +kernel, rfl, by decide +kernel, by decide +kernel⟩
theorem ok_moved {f : Addr} {fd : FuncData} (F : Fun K "moved" "moved" s_moved f fd) (T : TxtB K mg wo wn) (c_row_change : Cal P w K mg base 1 "row_change" (spRow K)) (c_new_goal : Cal P w K mg base 2 "new_goal" (spGoal K)) : FnOk P w K mg base CX0 3 f fd ["text", "cursor", "command"] (spMoved K) := by
  refine F.ok sc_moved (fun vs H Q E h => ?_) (fun cdv A outer s H vs Q E hr h => ?_)
  · obtain ⟨t, b, tx, r, g, v, c, rfl, _⟩ := h
    rfl
  · obtain ⟨t, b, tx, r, g, v, c, rfl, ht, hb, hv, kn, ks⟩ := h
    refine ⟨_, (pss_cons (ps_set (i := 3) sc_moved.nd rfl (Or.inl rfl) (pe_op op_add (pe_ix ix_tup (pv 1) pe_int (fun _ _ => rfl)) (pe_cal c_row_change hr (by decide) (by rfl) (pa_cons (pv 2) pa_nil))))
      (pss_cons (ps_if (pt_not (pt_chain op_le op_lt pe_int (pv 3) (pe_callB call_len_seq (by rfl) T.len (by decide +kernel) (pa_cons (pv 0) pa_nil)))) (pss_one (ps_ret pe_non)) pss_nil)
      (pss_one (ps_ret (pe_tup (pa_cons (pv 3) (pa_cons (pe_cal c_new_goal hr (by decide) (by rfl) (pa_cons (pe_ix ix_list (pv 0) (pv 3) (fun _ _ => rfl)) (pa_cons (pe_ix ix_tup (pv 1) pe_int (fun _ _ => rfl)) (pa_cons (pv 2) pa_nil)))) pa_nil))))))), ?_⟩
    refine ⟨_, rfl, b, _, 0, _, rfl, rfl, hb, rfl, _, rfl, v, c, rfl, hv, _, _, rfl, rfl, ?_⟩
    have out : ¬ (0 ≤ r + c.dv ∧ r + c.dv < tx.length) → Q .non H := fun z => kn (by unfold step1; rw [if_neg z])
    refine ⟨_, rfl, _, _, rfl, rfl, _, rfl, ite2 (fun c0 => ?_) (fun c0 => ?_)⟩
    · have c0' : 0 ≤ r + c.dv := of_decide_eq_true c0
      refine ⟨_, rfl, t, _, rfl, .inl ht, _, _, rfl, rfl, _, rfl, ?_⟩
      by_cases c1 : r + c.dv < tx.length
      · refine iteN1 (by rw [List.length_map]; exact c1) ?_
        refine ⟨_, rfl, _, rfl, _, rfl, t, _, _, _, rfl, rfl, ht, at_len' c0' c1, _, rfl, b, _, 1, _, rfl, rfl, hb, rfl, _, rfl, lenAt tx (r + c.dv), g, v, c, rfl, hv, (by show 2 ≤ sizeLine; decide), fun p hp => ?_⟩
        exact ks _ _ (by unfold step1; rw [if_pos ⟨c0', c1⟩]) p hp
      · refine iteN0 (by rw [List.length_map]; exact c1) ?_
        exact out fun z => c1 z.2
    · refine ⟨_, rfl, ?_⟩
      refine iteT (B := _) ?_
      exact out fun z => c0 (decide_eq_true z.1)
theorem sc_run : FnScope ["text", "cursor", "commands", "place", "index", "command"] ["text", "cursor", "commands"] (defScope s_run) := ⟨rfl, rfl, rfl, by decide +kernel, rfl, by decide +kernel, by decide +kernel⟩
theorem ok_run {f : Addr} {fd : FuncData} (F : Fun K "run" "run" s_run f fd) (T : TxtB K mg wo wn) (c_check_text : Cal P w K mg base 1 "check_text" (spText K)) (c_check_cursor : Cal P w K mg base 1 "check_cursor" (spCursor K))
    (c_check_commands : Cal P w K mg base 3 "check_commands" (spCheck K)) (c_moved : Cal P w K mg base 3 "moved" (spMoved K)) : FnOk P w K mg base CX0 4 f fd ["text", "cursor", "commands"] (spRun K) := by
  refine F.ok sc_run (fun vs H Q E h => ?_) (fun cdv A outer s H vs Q E hr h => ?_)
  · obtain ⟨t, b, l, tx, r, g, xs, cs, r', g', rfl, _⟩ := h
    rfl
  · obtain ⟨t, b, l, tx, r, g, xs, cs, r', g', rfl, ht, hb, hl, hcs, nn, r0, r1, g0, ok, ln, hrun, k⟩ := h
    refine ⟨_, (pss_cons (ps_expr (pe_cal c_check_text hr (by decide) (by rfl) (pa_cons (pv 0) pa_nil)))
      (pss_cons (ps_expr (pe_cal c_check_cursor hr (by decide) (by rfl) (pa_cons (pe_callB call_len_seq (by rfl) T.len (by decide +kernel) (pa_cons (pv 0) pa_nil)) (pa_cons (pv 1) pa_nil))))
      (pss_cons (ps_expr (pe_cal c_check_commands hr (by decide) (by rfl) (pa_cons (pv 2) pa_nil)))
      (pss_cons (ps_set (i := 3) sc_run.nd rfl (Or.inl rfl) (pv 1))
      (pss_cons (ps_for PassesOwn.never rfl (pi_enum (by rfl) T.enumerate (pa_cons (pv 2) pa_nil)) (pg_tup rfl (pgs_cons (pg_name (i := 4) sc_run.nd rfl (Or.inl rfl)) (pgs_cons (pg_name (i := 5) sc_run.nd rfl (Or.inl rfl)) pgs_nil))) (pss_cons (ps_set (i := 3) sc_run.nd rfl (Or.inl rfl) (pe_cal c_moved hr (by decide) (by rfl) (pa_cons (pv 0) (pa_cons (pv 3) (pa_cons (pv 5) pa_nil)))))
      (pss_one (ps_if (pt_cmpR op_isN (pv 3) pe_non (nomark _)) (pss_one ps_never) pss_nil))))
      (pss_one (ps_ret (pv 3)))))))), ?_⟩
    refine ⟨_, rfl, t, tx, rfl, ht, (by intro z; subst z; simp at r1; omega), nn, fun H1 e1 => ?_⟩
    refine ⟨_, rfl, t, _, rfl, .inl (e1.seq ht), _, rfl, (tx.map V.int).length, r, g, b, rfl, seq_t e1 hb, r0, by rw [List.length_map]; exact r1, g0, ?_⟩
    refine ⟨_, rfl, l, xs, cs, rfl, e1.seq hl, hcs.same e1, ok, ln, fun H2 e2 => ?_⟩
    have e12 := e1.trans e2
    refine ⟨_, rfl, ?_⟩
    refine ⟨_, rfl, l, _, rfl, e12.seq hl, for_it (walk_enum (K := K) (a := l) (xs := xs)) (fun i σ H' => ∃ (p : Addr) (rr : Int) (gg : Option Int) (v1 v2 : Option V), σ = [some (.ref t), some (.ref b), some (.ref l), some (.ref p), v1, v2] ∧ Same H H' ∧ SqT K H' p [.int rr, optV gg] ∧ 0 ≤ rr ∧ rr < tx.length ∧ afterL tx rr gg (cs.drop i) = some (r', g'))
      ⟨b, r, g, none, none, rfl, e12, seq_t e12 hb, r0, r1, hrun⟩ (fun i σ H' _ ⟨_, _, _, _, _, _, e, _⟩ => e.seq hl) (fun i x σ H3 H4 hi h y => ?_) (fun σ H3 h => ?_)⟩
    · obtain ⟨p, rr, gg, v1, v2, rfl, e3, hp, q0, q1, hgo⟩ := h
      obtain ⟨T1, x1, y1, rfl, nT, rfl, ex1, ex2⟩ := y
      obtain ⟨c, hc, hca⟩ := paired_at hcs ex2
      have hdrop : cs.drop i = c :: cs.drop (i + 1) := by
        obtain ⟨h1, h2⟩ := List.getElem?_eq_some_iff.mp hc
        rw [List.drop_eq_getElem_cons h1, h2]
      rw [hdrop, afterL_cons q0 q1] at hgo
      have eT : Same H3 (upd H3 T1 (.tup [x1, y1])) := same_upd (Same.refl _) nT
      have eHT := e3.trans eT
      obtain ⟨⟨r2, g2⟩, hst, hrest⟩ := Option.bind_eq_some_iff.mp hgo
      have hin := step1_in hst
      refine ⟨T1, _, rfl, SqT.of upd_same, rfl, _, _, rfl, _, _, rfl, rfl, ?_⟩
      refine ⟨_, rfl, _, rfl, _, rfl, t, p, tx, rr, gg, y1, c, rfl, eHT.seq ht, seq_t eT hp, hca.same eHT, (fun z => by rw [hst] at z; cases z), fun r3 g3 z p3 np3 => ?_⟩
      rw [hst] at z
      cases z
      have e4 : Same (upd H3 T1 (.tup [x1, y1])) (upd (upd H3 T1 (.tup [x1, y1])) p3 (.tup [.int r2, optV g2])) := same_upd (Same.refl _) np3
      refine ⟨_, rfl, rfl, _, rfl, iteF ?_⟩
      exact ⟨p3, r2, g2, _, _, rfl, eHT.trans e4, SqT.of upd_same, hin.1, hin.2, hrest⟩
    · obtain ⟨p, rr, gg, v1, v2, rfl, e3, hp, q0, q1, hgo⟩ := h
      rw [hcs.len, List.drop_length] at hgo
      have z : (rr, gg) = (r', g') := Option.some.inj hgo
      cases z
      exact ⟨_, rfl, k _ p e3 hp⟩
end
end Gc

/-! what a list of commands does to all goals on one text: a number added, kept between two bounds -/
namespace Gc
/-- the goal None is the greatest -/
def chg1 : Cmd → Int
  | .right n => n
  | .left n => -n
  | _ => 0
def chg : List Cmd → Int
  | [] => 0
  | c :: cs => chg1 c + chg cs
theorem chg_snoc (cs : List Cmd) (c : Cmd) : chg (cs ++ [c]) = chg cs + chg1 c := by
  induction cs with
  | nil => show chg1 c + 0 = 0 + chg1 c; omega
  | cons d cs ih => show chg1 d + chg (cs ++ [c]) = chg1 d + chg cs + chg1 c; rw [ih]; omega
/-- where the goal x goes, if 0 goes to lo, None to hi, and d is added -/
def Clamp (lo hi : Option Int) (d x : Int) (g : Option Int) : Prop := match lo, hi, g with
  | none, none, none => True
  | some l, none, some y => y = max l (x + d)
  | some l, some h, some y => l ≤ h ∧ y = max l (min h (x + d))
  | _, _, _ => False
theorem clamp1 {t : Int} (ht : 0 ≤ t) {lo hi : Option Int} {d x : Int} {g : Option Int} (h : Clamp lo hi d x g) (c : Cmd) (ok : c.ok) : Clamp (aim1 t lo c) (aim1 t hi c) (d + chg1 c) x (aim1 t g c) := by
  unfold Clamp at h
  cases c with
  | down n =>
    show Clamp lo hi (d + 0) x g
    rw [Int.add_zero]
    exact h
  | up n =>
    show Clamp lo hi (d + 0) x g
    rw [Int.add_zero]
    exact h
  | home => exact ⟨Int.le_refl 0, by omega⟩
  | stop => trivial
  | right n =>
    have o : 1 ≤ n := ok
    match lo, hi, g, h with
    | none, none, none, _ =>
      show min (t + n) t ≤ min (t + n) t ∧ min (t + n) t = max (min (t + n) t) (min (min (t + n) t) (x + (d + n)))
      omega
    | some l, none, some y, h =>
      have h' : y = max l (x + d) := h
      show min (min l t + n) t ≤ min (t + n) t ∧ min (min y t + n) t = max (min (min l t + n) t) (min (min (t + n) t) (x + (d + n)))
      omega
    | some l, some e, some y, h =>
      obtain ⟨h1, h2⟩ : l ≤ e ∧ y = max l (min e (x + d)) := h
      show min (min l t + n) t ≤ min (min e t + n) t ∧ min (min y t + n) t = max (min (min l t + n) t) (min (min (min e t + n) t) (x + (d + n)))
      omega
  | left n =>
    have o : 1 ≤ n := ok
    match lo, hi, g, h with
    | none, none, none, _ =>
      show max 0 (t - n) ≤ max 0 (t - n) ∧ max 0 (t - n) = max (max 0 (t - n)) (min (max 0 (t - n)) (x + (d + -n)))
      omega
    | some l, none, some y, h =>
      have h' : y = max l (x + d) := h
      show max 0 (min l t - n) ≤ max 0 (t - n) ∧ max 0 (min y t - n) = max (max 0 (min l t - n)) (min (max 0 (t - n)) (x + (d + -n)))
      omega
    | some l, some e, some y, h =>
      obtain ⟨h1, h2⟩ : l ≤ e ∧ y = max l (min e (x + d)) := h
      show max 0 (min l t - n) ≤ max 0 (min e t - n) ∧ max 0 (min y t - n) = max (max 0 (min l t - n)) (min (max 0 (min e t - n)) (x + (d + -n)))
      omega
theorem clampF {T : Int → Int} (hT : ∀ k, 0 ≤ T k) {x : Int} (x0 : 0 ≤ x) : ∀ {cs : List Cmd} {r : Int} {lo hi : Option Int} {d : Int} {g : Option Int}, AllOk cs → Clamp lo hi d x g → Clamp (aimF T r lo cs) (aimF T r hi cs) (d + chg cs) x (aimF T r g cs)
  | [], r, lo, hi, d, g, _, h => by
    show Clamp lo hi (d + 0) x g
    rw [Int.add_zero]
    exact h
  | c :: cs, r, lo, hi, d, g, ok, h => by
    have q := clampF hT x0 (cs := cs) (r := r + c.dv) (fun e he => ok e (List.mem_cons_of_mem _ he)) (clamp1 (hT r) h c (ok c List.mem_cons_self))
    rw [show d + chg (c :: cs) = d + chg1 c + chg cs from by show d + (chg1 c + chg cs) = _; omega]
    exact q
theorem clamp_all {T : Int → Int} (hT : ∀ k, 0 ≤ T k) {cs : List Cmd} (ok : AllOk cs) (r : Int) {x : Int} (x0 : 0 ≤ x) : Clamp (aimF T r (some 0) cs) (aimF T r none cs) (chg cs) x (aimF T r (some x) cs) := by
  have q := clampF hT x0 (cs := cs) (r := r) (lo := some 0) (hi := none) (d := 0) (g := some x) ok (by show x = max 0 (x + 0); omega)
  rw [Int.zero_add] at q
  exact q
/-- from a goal of at least all lines on, it is as from None, if that leads to a column -/
theorem aimF_far {T : Int → Int} {B : Int} (hB : ∀ k, T k ≤ B) {x : Int} (hx : B ≤ x) : ∀ {cs : List Cmd} {r : Int}, (aimF T r (some x) cs = aimF T r none cs) ∨ (aimF T r (some x) cs = some x ∧ aimF T r none cs = none ∧ chg cs = 0)
  | [], r => .inr ⟨rfl, rfl, rfl⟩
  | c :: cs, r => by
    have same : ∀ a : Option Int, aim1 (T r) (some x) c = a → aim1 (T r) none c = a → (aimF T r (some x) (c :: cs) = aimF T r none (c :: cs)) := fun a e1 e2 => by
      show aimF T (r + c.dv) (aim1 (T r) (some x) c) cs = aimF T (r + c.dv) (aim1 (T r) none c) cs
      rw [e1, e2]
    have sx : seen (T r) (some x) = seen (T r) none := by
      have := hB r
      show min x (T r) = T r
      omega
    cases c with
    | right n => exact .inl (same _ rfl (by show some (min (seen (T r) none + n) (T r)) = some (min (seen (T r) (some x) + n) (T r)); rw [sx]))
    | left n => exact .inl (same _ rfl (by show some (max 0 (seen (T r) none - n)) = some (max 0 (seen (T r) (some x) - n)); rw [sx]))
    | home => exact .inl (same _ rfl rfl)
    | stop => exact .inl (same _ rfl rfl)
    | down n =>
      rcases aimF_far hB hx (cs := cs) (r := r + n) with e | ⟨e1, e2, e3⟩
      · exact .inl e
      · exact .inr ⟨e1, e2, by show 0 + chg cs = 0; omega⟩
    | up n =>
      rcases aimF_far hB hx (cs := cs) (r := r + -n) with e | ⟨e1, e2, e3⟩
      · exact .inl e
      · exact .inr ⟨e1, e2, by show 0 + chg cs = 0; omega⟩
end Gc

/-! commands repeated in a row: one run, the bounds and the change tell them all -/
namespace Gc
def iterA (f : Option Int → Option Int) : Nat → Option Int → Option Int
  | 0, g => g
  | k + 1, g => iterA f k (f g)
/-- the goal behind m further runs, told by the first one's goal -/
def tellM (lo hi : Option Int) (d : Int) (m : Nat) : Option Int → Option Int
  | none => none
  | some y => match hi with
    | none => some (max (y + m * d) (lo.getD 0))
    | some h => some (min (max (y + m * d) (lo.getD 0)) h)
/-- a goal that a run may leave -/
def Img (lo hi : Option Int) : Option Int → Prop
  | none => hi = none
  | some y => ∃ l, lo = some l ∧ l ≤ y ∧ ∀ h, hi = some h → y ≤ h ∧ l ≤ h
theorem clamp_img {lo hi : Option Int} {d x : Int} {g : Option Int} (h : Clamp lo hi d x g) : Img lo hi g := by
  unfold Clamp at h
  split at h
  · rfl
  · exact ⟨_, rfl, by omega, fun _ z => nomatch z⟩
  · obtain ⟨h1, h2⟩ := h
    exact ⟨_, rfl, by omega, fun _ z => by cases z; omega⟩
  · exact h.elim
theorem tell_iter {f : Option Int → Option Int} {d : Int} {lo hi : Option Int} (fn : f none = hi) (hc : ∀ x, 0 ≤ x → Clamp lo hi d x (f (some x))) (l0 : ∀ l, lo = some l → 0 ≤ l) : ∀ (m : Nat) (g : Option Int), Img lo hi g → iterA f m g = tellM lo hi d m g
  | 0, g, hg => by
    show g = tellM lo hi d 0 g
    cases g with
    | none => rfl
    | some y =>
      obtain ⟨l, rfl, ly, hh⟩ := hg
      cases hi with
      | none =>
        show some y = some (max (y + ((0 : Nat) : Int) * d) l)
        rw [show ((0 : Nat) : Int) * d = 0 by simp]
        congr 1
        omega
      | some h =>
        have := hh h rfl
        show some y = some (min (max (y + ((0 : Nat) : Int) * d) l) h)
        rw [show ((0 : Nat) : Int) * d = 0 by simp]
        congr 1
        omega
  | m + 1, g, hg => by
    show iterA f m (f g) = tellM lo hi d (m + 1) g
    cases g with
    | none =>
      have hn : hi = none := hg
      rw [fn, hn, tell_iter (by rw [fn]; exact hn.symm ▸ rfl) (hn ▸ hc) l0 m none rfl]
      rfl
    | some y =>
      obtain ⟨l, rfl, ly, hh⟩ := hg
      have y0 : 0 ≤ y := Int.le_trans (l0 l rfl) ly
      have c := hc y y0
      rw [tell_iter fn hc l0 m _ (clamp_img c)]
      have md : ((m + 1 : Nat) : Int) * d = m * d + d := by rw [Int.natCast_add, Int.add_mul]; simp
      have up : 0 ≤ d → 0 ≤ (m : Int) * d := fun q => Int.mul_nonneg (Int.natCast_nonneg m) q
      have dn : d ≤ 0 → (m : Int) * d ≤ 0 := fun q => Int.mul_nonpos_of_nonneg_of_nonpos (Int.natCast_nonneg m) q
      cases e : f (some y) with
      | none =>
        rw [e] at c
        unfold Clamp at c
        cases hi <;> exact c.elim
      | some y' =>
        rw [e] at c
        cases hi with
        | none =>
          have c' : y' = max l (y + d) := c
          show some (max (y' + (m : Int) * d) l) = some (max (y + ((m + 1 : Nat) : Int) * d) l)
          rw [md]
          generalize (m : Int) * d = t at up dn ⊢
          congr 1
          omega
        | some h =>
          obtain ⟨c1, c2⟩ : l ≤ h ∧ y' = max l (min h (y + d)) := c
          have yh := (hh h rfl).1
          show some (min (max (y' + (m : Int) * d) l) h) = some (min (max (y + ((m + 1 : Nat) : Int) * d) l) h)
          rw [md]
          generalize (m : Int) * d = t at up dn ⊢
          congr 1
          omega
end Gc

/-! running key by key, where it fails, and again and again -/
namespace Gc
/-- one key -/
def stepP (T : List Int) (r : Int) (g : Option Int) (c : Cmd) : Option (Int × Option Int) := if c.vert = true then (if 0 ≤ r + c.dv ∧ r + c.dv < T.length then some (r + c.dv, g) else none) else some (r, aim1 (lenAt T r) g c)
theorem afterL_step (T : List Int) (r : Int) (g : Option Int) (c : Cmd) (cs : List Cmd) : afterL T r g (c :: cs) = (stepP T r g c).bind fun x => afterL T x.1 x.2 cs := by
  unfold stepP
  simp only [afterL]
  by_cases cv : c.vert = true
  · rw [if_pos cv, if_pos cv]
    split <;> rfl
  · rw [if_neg cv, if_neg cv]
    rfl
/-- the index of the first key that leaves the text -/
def failAt (T : List Int) : Int → Option Int → List Cmd → Option Nat
  | _, _, [] => none
  | r, g, c :: cs => match stepP T r g c with
    | none => some 0
    | some x => (failAt T x.1 x.2 cs).map (· + 1)
theorem fail_step (T : List Int) (r : Int) (g : Option Int) (c : Cmd) (cs : List Cmd) : failAt T r g (c :: cs) = match stepP T r g c with
    | none => some 0
    | some x => (failAt T x.1 x.2 cs).map (· + 1) := rfl
theorem step_row {T : List Int} {r : Int} {g : Option Int} {c : Cmd} {x : Int × Option Int} (r0 : 0 ≤ r) (r1 : r < T.length) (h : stepP T r g c = some x) : 0 ≤ x.1 ∧ x.1 < T.length := by
  unfold stepP at h
  split at h
  · split at h
    · rename_i q
      cases h
      exact q
    · cases h
  · cases h
    exact ⟨r0, r1⟩
theorem fail_none {T : List Int} : ∀ {cs : List Cmd} {r : Int} {g : Option Int}, failAt T r g cs = none ↔ afterL T r g cs ≠ none
  | [], r, g => ⟨fun _ z => (nomatch z), fun _ => rfl⟩
  | c :: cs, r, g => by
    rw [afterL_step]
    unfold failAt
    cases stepP T r g c with
    | none => simp
    | some x =>
      have ih := fail_none (T := T) (cs := cs) (r := x.1) (g := x.2)
      show (failAt T x.1 x.2 cs).map (· + 1) = none ↔ afterL T x.1 x.2 cs ≠ none
      rw [Option.map_eq_none_iff]
      exact ih
def repP (T : List Int) (cs : List Cmd) : Nat → Int → Option Int → Nat ⊕ (Int × Option Int)
  | 0, r, g => .inr (r, g)
  | k + 1, r, g => match failAt T r g cs with
    | some n => .inl n
    | none => match afterL T r g cs with
      | some x => repP T cs k x.1 x.2
      | none => .inl 0
theorem repP_step (T : List Int) (cs : List Cmd) (k : Nat) (r : Int) (g : Option Int) : repP T cs (k + 1) r g = match failAt T r g cs with
    | some n => .inl n
    | none => match afterL T r g cs with
      | some x => repP T cs k x.1 x.2
      | none => .inl 0 := rfl
theorem after_row {T : List Int} : ∀ {cs : List Cmd} {r : Int} {g : Option Int} {x : Int × Option Int}, 0 ≤ r → r < T.length → afterL T r g cs = some x → 0 ≤ x.1 ∧ x.1 < T.length
  | [], r, g, x, h0, h1, h => by
    cases h
    exact ⟨h0, h1⟩
  | c :: cs, r, g, x, h0, h1, h => by
    rw [afterL_step] at h
    cases e : stepP T r g c with
    | none =>
      rw [e] at h
      cases h
    | some y =>
      rw [e] at h
      obtain ⟨a, b⟩ := step_row h0 h1 e
      exact after_row a b h
theorem after_nn {T : List Int} (hT : ∀ x ∈ T, 0 ≤ x) : ∀ {cs : List Cmd} {r : Int} {g : Option Int} {x : Int × Option Int}, AllOk cs → ge g 0 → afterL T r g cs = some x → ge x.2 0
  | [], r, g, x, _, hg, h => by
    cases h
    exact hg
  | c :: cs, r, g, x, ok, hg, h => by
    rw [afterL_step] at h
    cases e : stepP T r g c with
    | none =>
      rw [e] at h
      cases h
    | some y =>
      rw [e] at h
      refine after_nn hT (fun d hd => ok d (List.mem_cons_of_mem _ hd)) ?_ h
      unfold stepP at e
      split at e
      · split at e
        · cases e
          exact hg
        · cases e
      · cases e
        have q := aimF_nn (T := lenAt T) (lenAt_nn hT) (cs := [c]) (r := r) (a := g) (fun d hd => by rw [List.mem_singleton.mp hd]; exact ok c List.mem_cons_self) hg
        exact q
/-- possible exactly within -/
theorem after_within {T : List Int} : ∀ {cs : List Cmd} {r : Int} {g : Option Int}, 0 ≤ r → r < T.length → afterL T r g cs ≠ none → Within cs (-r) (T.length - 1 - r)
  | [], r, g, h0, h1, _, i => by
    rw [List.take_nil]
    show -r ≤ 0 ∧ 0 ≤ _
    omega
  | c :: cs, r, g, h0, h1, h, i => by
    rw [afterL_step] at h
    cases e : stepP T r g c with
    | none =>
      rw [e] at h
      exact absurd rfl h
    | some y =>
      rw [e] at h
      obtain ⟨a, b⟩ := step_row h0 h1 e
      have ih := after_within (T := T) (cs := cs) (r := y.1) (g := y.2) a b h
      have ey : y.1 = r + c.dv := by
        unfold stepP at e
        split at e
        · split at e
          · cases e
            rfl
          · cases e
        · rename_i cv
          cases e
          show r = r + c.dv
          have : c.dv = 0 := by cases c <;> first | rfl | exact absurd rfl cv
          omega
      cases i with
      | zero =>
        show -r ≤ 0 ∧ 0 ≤ _
        omega
      | succ i =>
        have q := ih i
        have e2 : last ((c :: cs).take (i + 1)) = c.dv + last (cs.take i) := rfl
        rw [e2]
        omega
theorem fail_in {T : List Int} {cs : List Cmd} {r : Int} {g : Option Int} (h0 : 0 ≤ r) (h1 : r < T.length) (h : failAt T r g cs = none) : Within cs (-r) (T.length - 1 - r) := after_within h0 h1 (fail_none.mp h)
/-- commands that come back to their row -/
theorem repP_row {T : List Int} {cs : List Cmd} {r : Int} (w : Within cs (-r) (T.length - 1 - r)) (l0 : last cs = 0) : ∀ (m : Nat) (g : Option Int), repP T cs m r g = .inr (r, iterA (fun g => aimF (lenAt T) r g cs) m g)
  | 0, g => rfl
  | m + 1, g => by
    have e := afterL_in (a := g) w
    rw [repP_step, fail_none.mpr (by rw [e]; exact fun z => nomatch z), e, l0, Int.add_zero]
    exact repP_row w l0 m _
end Gc

/-! raising the program's own errors: classes whose __init__ keeps one value; calls of defs that may raise -/
namespace L2
open PySem PySem.Spec PyProof.Rows
/-- def __init__(self, value): self.value = value, on a new exception of the class at C -/
def spKeep (C : Addr) : Sp := fun vs H Q _ => ∃ (a : Addr) (v : V), vs = [.ref a, v] ∧ H a = some (exo a C none) ∧
  ∀ dx, H dx = none → dx ≠ a → Q .non (upd (upd H dx (exd dx [("value", v)])) a (exo a C (some dx)))
/-- the error class x of the program, at C -/
structure ErrC (P : Program) (w : World) (K : PySem.W.Frag) (mg : Str → Option Value) (base : Heap) (x : Str) (C : Addr) : Prop where
  T : OexC K C
  g : mg x = some (.ref C)
  no : PySem.W.findIn K (.ref C) "value" = some none
  ex : ∃ (fI : Addr) (fd : FuncData), PySem.W.findIn K (.ref C) "__init__" = some (some (.ref fI)) ∧ PySem.W.typeIn K (.ref fI) = some (.type "function") ∧
    FnOk P w K mg base CX0 1 fI fd ["self", "value"] (spKeep C) ∧ Binds K fd ["self", "value"] []
/-- x(e) in a raise: the new error's class, its dict, the heap with that dict -/
def rRaise (C : Addr) (Q : XK) (v : V) (H1 : Hp) : Prop := [v].length ≤ 1000 ∧ ∀ a, H1 a = none → spKeep C (.ref a :: ([v] ++ [])) (upd H1 a (exo a C none))
  (fun u H2 => u = .non ∧ ∃ (d : Addr) (fs : List (Str × V)), H2 a = some (exo a C (some d)) ∧ H2 d = some (exd d fs) ∧ H1 d = none ∧ Q (.ref C) (some d) (upd (del H2 a) d (.xd fs))) (fun _ _ _ => False)
theorem ask_raise {C : Addr} {Q : XK} {v : V} {H : Hp} (h : ∀ d, H d = none → Q (.ref C) (some d) (upd H d (.xd [("value", v)]))) : rRaise C Q v H := by
  refine ⟨(by show 1 ≤ 1000; decide), fun a ha => ⟨a, v, rfl, upd_same, fun dx hd ne => ⟨rfl, dx, [("value", v)], upd_same, ?_, ?_, ?_⟩⟩⟩
  · rw [upd_ne ne, upd_same]
  · rw [upd_ne ne] at hd
    exact hd
  · have hd' : H dx = none := by
      rw [upd_ne ne] at hd
      exact hd
    have e : upd (del (upd (upd (upd H a (exo a C none)) dx (exd dx [("value", v)])) a (exo a C (some dx))) a) dx (.xd [("value", v)]) = upd H dx (.xd [("value", v)]) := by
      funext b
      by_cases hb : b = dx
      · rw [hb, upd_same, upd_same]
      · rw [upd_ne hb, upd_ne hb]
        by_cases ha' : b = a
        · rw [ha', del_same, ha]
        · rw [del_ne ha', upd_ne ha', upd_ne hb, upd_ne ha']
    rw [e]
    exact h dx hd'
section
variable {X : Cx} {k j : Nat} {x : Str} {sp : Sp} {p pos pos2 : Pos} {e : Expr} {es : List Expr} {t : TA} {te : TE} {W : WX} {C : Addr}
def tRaiseE (C : Addr) (W : WX) (te : TE) : TS := fun _ σ H => te σ H fun v H1 => rRaise C (fun cls d H' => W cls d σ H') v H1
theorem ps_raiseE (hc : X.calm = true) (c : ErrC X.prog X.w X.K X.mg X.base x C) (hr : Room j X.A) (hj : 2 ≤ j) (tk : Takes X W) (he : PE X e te) (hg : Gl X x)
    (hdb : (x == ("__debug__" : Str)) = false := by decide)
    (hs : starEach (e :: []) X.env = (false, eval e X.env) :: starEach [] X.env := by rfl) (hpl : (backTo pos (starEach [] X.env)).any (·.1) = false := by rfl) :
    PS X (.Raise (some (.Call (.Name x p) [e] [] pos)) none pos2) (tRaiseE C W te) := by
  obtain ⟨T, g, no, fI, fd, iC, tI, F, b⟩ := c
  exact ps_raise hc tk (pmk_oex (dvs := []) T iC tI F (hr.mono hj) b .nil pass0 hg g (pa_cons he pa_nil hs) hdb hs hpl)
/-- a def that is called by its name and may let an error out -/
structure CalX (P : Program) (w : World) (K : PySem.W.Frag) (mg : Str → Option Value) (base : Heap) (k : Nat) (x : Str) (sp : Sp) : Prop where
  ex : ∃ (f : Addr) (fd : FuncData) (ps : List Str), FnOk P w K mg base (L2.CX P w) k f fd ps sp ∧
    mg x = some (.ref f) ∧ PySem.W.keepIn K (.ref f) = true ∧ Binds K fd ps []
theorem pe_calX (tk : Takes X W) (c : CalX X.prog X.w X.K X.mg X.base k x sp) (hr : Room j X.A) (hk : k ≤ j) (hg : Gl X x) (ha : PA X (e :: es) t)
    (hdb : (x == ("__debug__" : Str)) = false := by decide)
    (he : starEach (e :: es) X.env = (false, eval e X.env) :: starEach es X.env := by rfl)
    (hpl : (backTo pos (starEach es X.env)).any (·.1) = false := by rfl) :
    PE X (.Call (.Name x p) (e :: es) [] pos) (tCallS sp (WE W) t) := by
  obtain ⟨f, fd, ps, F, hm, kp, b⟩ := c.ex
  exact pe_callS F (hr.mono hk) hg hm kp b (fun σ => passAt tk σ) ha hdb he hpl
end
end L2

/-! an error that is let out -/
namespace Gc
open PySem L2
/-- an error of the class at C that carries v is let out: its dict is new, all else is as it was -/
def Err (E : XK) (C : Addr) (v : V) (H : Hp) : Prop := ∀ (H' : Hp) (d : Addr), Same H H' → H' d = none → E (.ref C) (some d) (upd H' d (.xd [("value", v)]))
theorem Err.same {E : XK} {C : Addr} {v : V} {H H' : Hp} (e : Same H H') (h : Err E C v H) : Err E C v H' := fun H2 d s n => h H2 d (e.trans s) n
theorem Err.ask {E : XK} {C : Addr} {v : V} {H H' : Hp} (e : Same H H') (h : Err E C v H) : rRaise C E v H' := ask_raise fun d hd => h H' d e hd
end Gc

/-! run of valid arguments: where it fails, Impossible -/
namespace Gc
open PySem L2
theorem step_eq {T : List Int} {r : Int} {g : Option Int} {c : Cmd} (h0 : 0 ≤ r) (h1 : r < T.length) : step1 T r g c = stepP T r g c := by
  unfold step1 stepP
  by_cases cv : c.vert = true
  · rw [if_pos cv, aim1_vert (t' := 0) cv]
  · rw [if_neg cv, dv_flat cv, Int.add_zero, if_pos ⟨h0, h1⟩]
def spRunI (K : PySem.W.Frag) (CO : Addr) : Sp := fun vs H Q E => ∃ (t b l : Addr) (T : List Int) (r : Int) (g : Option Int) (xs : List V) (cs : List Cmd), vs = [.ref t, .ref b, .ref l] ∧ SqL K H t (T.map V.int) ∧ SqT K H b [.int r, optV g] ∧ SqL K H l xs ∧ CmdsOf K H xs cs ∧
  (∀ x ∈ T, 0 ≤ x) ∧ 0 ≤ r ∧ r < T.length ∧ ge g 0 ∧ AllOk cs ∧ cs.length ≤ 10000 ∧ (∀ n, failAt T r g cs = some n → Err E CO (.int (n : Nat)) H) ∧
  ∀ r' g', afterL T r g cs = some (r', g') → ∀ (H' : Hp) (p : Addr), Same H H' → SqT K H' p [.int r', optV g'] → Q (.ref p) H'
@[irreducible] def zRunI (K : PySem.W.Frag) (CO : Addr) : Sp := spRunI K CO
theorem zRunI_eq (K : PySem.W.Frag) (CO : Addr) : zRunI K CO = spRunI K CO := by unfold zRunI; rfl
theorem ask_runI {K : PySem.W.Frag} {CO : Addr} {H : Hp} {Q : VK} {E : XK} {t b l : Addr} {T : List Int} {r : Int} {g : Option Int} {xs : List V} {cs : List Cmd} (ht : SqL K H t (T.map V.int)) (hb : SqT K H b [.int r, optV g]) (hl : SqL K H l xs) (hc : CmdsOf K H xs cs)
    (nn : ∀ x ∈ T, 0 ≤ x) (r0 : 0 ≤ r) (r1 : r < T.length) (g0 : ge g 0) (ok : AllOk cs) (ln : cs.length ≤ 10000) (kf : ∀ n, failAt T r g cs = some n → Err E CO (.int (n : Nat)) H)
    (k : ∀ r' g', afterL T r g cs = some (r', g') → ∀ (H' : Hp) (p : Addr), Same H H' → SqT K H' p [.int r', optV g'] → Q (.ref p) H') : zRunI K CO [.ref t, .ref b, .ref l] H Q E := by
  rw [zRunI_eq]
  exact ⟨t, b, l, T, r, g, xs, cs, rfl, ht, hb, hl, hc, nn, r0, r1, g0, ok, ln, kf, k⟩
section
variable {P : Program} {w : World} {K : PySem.W.Frag} {mg : Str → Option Value} {base : Heap} {wo wn CO : Addr}
theorem ok_runI {f : Addr} {fd : FuncData} (F : Fun K "run" "run" s_run f fd) (T : TxtB K mg wo wn) (c_check_text : Cal P w K mg base 1 "check_text" (spText K)) (c_check_cursor : Cal P w K mg base 1 "check_cursor" (spCursor K))
    (c_check_commands : Cal P w K mg base 3 "check_commands" (spCheck K)) (c_moved : Cal P w K mg base 3 "moved" (spMoved K)) (e_Impossible : ErrC P w K mg base "Impossible" CO) : FnOk P w K mg base (L2.CX P w) 4 f fd ["text", "cursor", "commands"] (spRunI K CO) := by
  refine F.okX sc_run (fun vs H Q E h => ?_) (fun cdv A outer s H vs Q E hr h => ?_)
  · obtain ⟨t, b, l, tx, r, g, xs, cs, rfl, _⟩ := h
    rfl
  · obtain ⟨t, b, l, tx, r, g, xs, cs, rfl, ht, hb, hl, hcs, nn, r0, r1, g0, ok, ln, kf, k⟩ := h
    refine ⟨_, (pss_cons (ps_expr (pe_cal c_check_text hr (by decide) (by rfl) (pa_cons (pv 0) pa_nil)))
      (pss_cons (ps_expr (pe_cal c_check_cursor hr (by decide) (by rfl) (pa_cons (pe_callB call_len_seq (by rfl) T.len (by decide +kernel) (pa_cons (pv 0) pa_nil)) (pa_cons (pv 1) pa_nil))))
      (pss_cons (ps_expr (pe_cal c_check_commands hr (by decide) (by rfl) (pa_cons (pv 2) pa_nil)))
      (pss_cons (ps_set (i := 3) sc_run.nd rfl (Or.inl rfl) (pv 1))
      (pss_cons (ps_for (passes_of rfl) rfl (pi_enum (by rfl) T.enumerate (pa_cons (pv 2) pa_nil)) (pg_tup rfl (pgs_cons (pg_name (i := 4) sc_run.nd rfl (Or.inl rfl)) (pgs_cons (pg_name (i := 5) sc_run.nd rfl (Or.inl rfl)) pgs_nil))) (pss_cons (ps_set (i := 3) sc_run.nd rfl (Or.inl rfl) (pe_cal c_moved hr (by decide) (by rfl) (pa_cons (pv 0) (pa_cons (pv 3) (pa_cons (pv 5) pa_nil)))))
      (pss_one (ps_if (pt_cmpR op_isN (pv 3) pe_non (nomark _)) (pss_one (ps_raiseE rfl e_Impossible hr (by decide) (takes_of rfl rfl rfl rfl) (pv 4) (by rfl))) pss_nil))))
      (pss_one (ps_ret (pv 3)))))))), ?_⟩
    refine ⟨_, rfl, t, tx, rfl, ht, (by intro z; subst z; simp at r1; omega), nn, fun H1 e1 => ?_⟩
    refine ⟨_, rfl, t, _, rfl, .inl (e1.seq ht), _, rfl, (tx.map V.int).length, r, g, b, rfl, seq_t e1 hb, r0, by rw [List.length_map]; exact r1, g0, ?_⟩
    refine ⟨_, rfl, l, xs, cs, rfl, e1.seq hl, hcs.same e1, ok, ln, fun H2 e2 => ?_⟩
    have e12 := e1.trans e2
    refine ⟨_, rfl, ?_⟩
    refine ⟨_, rfl, l, _, rfl, e12.seq hl, for_it (walk_enum (K := K) (a := l) (xs := xs)) (fun i σ H' => ∃ (p : Addr) (rr : Int) (gg : Option Int) (v1 v2 : Option V), σ = [some (.ref t), some (.ref b), some (.ref l), some (.ref p), v1, v2] ∧ Same H H' ∧ SqT K H' p [.int rr, optV gg] ∧ 0 ≤ rr ∧ rr < tx.length ∧
        afterL tx r g cs = afterL tx rr gg (cs.drop i) ∧ failAt tx r g cs = (failAt tx rr gg (cs.drop i)).map (· + i))
      ⟨b, r, g, none, none, rfl, e12, seq_t e12 hb, r0, r1, rfl, by rw [List.drop_zero]; simp⟩ (fun i σ H' _ ⟨_, _, _, _, _, _, e, _⟩ => e.seq hl) (fun i x σ H3 H4 hi h y => ?_) (fun σ H3 h => ?_)⟩
    · obtain ⟨p, rr, gg, v1, v2, rfl, e3, hp, q0, q1, ha, hf⟩ := h
      obtain ⟨T1, x1, y1, rfl, nT, rfl, ex1, ex2⟩ := y
      obtain rfl : V.int (i : Nat) = x1 := Option.some.inj ex1
      obtain ⟨c, hc, hca⟩ := paired_at hcs ex2
      have hdrop : cs.drop i = c :: cs.drop (i + 1) := by
        obtain ⟨h1, h2⟩ := List.getElem?_eq_some_iff.mp hc
        rw [List.drop_eq_getElem_cons h1, h2]
      rw [hdrop] at ha hf
      rw [afterL_step] at ha
      rw [fail_step] at hf
      have eT : Same H3 (upd H3 T1 (.tup [.int (i : Nat), y1])) := same_upd (Same.refl _) nT
      have eHT := e3.trans eT
      refine ⟨T1, _, rfl, SqT.of upd_same, rfl, _, _, rfl, _, _, rfl, rfl, ?_⟩
      refine ⟨_, rfl, _, rfl, _, rfl, t, p, tx, rr, gg, y1, c, rfl, eHT.seq ht, seq_t eT hp, hca.same eHT, (fun z => ?_), fun r3 g3 z p3 np3 => ?_⟩
      · rw [step_eq q0 q1] at z
        rw [z] at hf
        refine ⟨_, rfl, rfl, _, rfl, iteT ⟨_, rfl, ?_⟩⟩
        refine Err.ask eHT (kf i ?_)
        rw [hf]
        simp
      · rw [step_eq q0 q1] at z
        rw [z] at ha hf
        have e4 : Same (upd H3 T1 (.tup [.int (i : Nat), y1])) (upd (upd H3 T1 (.tup [.int (i : Nat), y1])) p3 (.tup [.int r3, optV g3])) := same_upd (Same.refl _) np3
        obtain ⟨a0, a1⟩ := step_row q0 q1 z
        refine ⟨_, rfl, rfl, _, rfl, iteF ?_⟩
        refine ⟨p3, r3, g3, _, _, rfl, eHT.trans e4, SqT.of upd_same, a0, a1, ha, ?_⟩
        rw [hf, Option.map_map]
        show (failAt tx r3 g3 (cs.drop (i + 1))).map _ = _
        congr 1
        funext n
        show n + 1 + i = n + (i + 1)
        omega
    · obtain ⟨p, rr, gg, v1, v2, rfl, e3, hp, q0, q1, ha, hf⟩ := h
      rw [hcs.len, List.drop_length] at ha
      exact ⟨_, rfl, k rr gg ha _ p e3 hp⟩
end
end Gc

/-! a generator's for loop -/
namespace Gc
open PySem PySem.Spec PyProof.Rows GenW L2
section
variable {X : Cx}
/-- as tFor; the list: what is out so far -/
def tGFor (wi : TI) (g : TG) (tb : TGn) : TGn := fun D ys σ H => wi σ H fun J H1 => ∃ W : Nat → Nat → List V → L2.St → Hp → Prop, (∃ m, W 0 m ys σ H1) ∧ ∀ i m ys σ H, W i m ys σ H →
  (J.stop i H ∧ D.nx ys σ H) ∨ (J.go i H ∧ ∃ N : List V → L2.St → Hp → Prop, (∀ ys' σ' H', N ys' σ' H' → ∃ m', m' < m ∧ W (i + 1) m' ys' σ' H') ∧ ∀ x H', J.yld i H x H' → g x σ H' fun σ2 H2 => tb { D with nx := N, ct := N, bk := D.nx } ys σ2 H2)
theorem gs_for {iter tg : Expr} {body : List Stmt} {wi : TI} {g : TG} {tb : TGn} {pos : Pos} (hp : PassesOwn (model X.prog X.w) X.A X.env X.xe) (hc : X.calm = true) (hi : PI X tg iter wi) (hg : PG X tg g) (hb : GSs X body tb)
    (hs : ∀ x, foldedSetIterable iter X.env x = pure x := by intro _; rfl) : GS X (.For tg iter body [] pos) (tGFor wi g tb) := by
  refine ⟨fun A S ip R n ys s₀ c fs K J gd lv s σ H D gc hn k hI ht => ?_⟩
  rw [exec_For]
  refine seg_bind_wrap (wpAny_standAt ?_)
  obtain ⟨acc, cc, r, I⟩ := hI
  refine seg_bind_wrap ?_
  rw [gc.over]
  refine wpAny_mono (hi.run _ s σ H _ I ht) (fun v s1 h1 => ?_) fun x s' hx => k.exc n s₀ x s' hx
  refine seg_bind_wrap ?_
  rw [gc.over]
  refine wpAny_of_eq (hs v) ?_
  refine seg_bind_wrap (wpAny_standAt ?_)
  refine seg_bind_wrap ?_
  rw [gc.over]
  refine wpAny_holding (wpAny_mono h1 (fun itv s2 h2 => ?_) fun x s' hx => k.exc n s₀ x s' hx)
  obtain ⟨it, fp, tn, It0, H2, e, I2, T, st2, f2, W, ⟨m0, w0⟩, turn⟩ := h2
  subst e
  refine seg_call fun p => ?_
  have gl := fun (kk : Result → Sem PySem.Fin) => gc_loop (k := kk) (c' := .forLoop tg (.ref it) body [] X.env) (l := lv []) (kp := []) (p := p) gc rfl rfl
  have gl2 := fun (kk : Result → Sem PySem.Fin) => gc_loop (k := kk) (c' := .block [] X.env) (l := lv []) (kp := []) (p := p) gc rfl rfl
  have stat : ∀ {acc' : Array Value} {c' : Nat} {H' : Hp}, (∀ b ∈ fp, H' b = none) → ∀ b ∈ fp, FpOk X ((S, lstObj acc' c') :: ip) H' b := fun hn b hb => by
    obtain ⟨f0, f1, f2', f3, f4, f5⟩ := f2 b hb
    refine ⟨hn b hb, f1, f2', f3, f4, fun p hp => ?_⟩
    rcases List.mem_append.mp hp with q | q
    · exact f5 p (List.mem_append_left _ q)
    · rcases List.mem_cons.mp q with q | q
      · rw [q]
        exact f5 (S, lstObj acc cc) (List.mem_append_right _ List.mem_cons_self)
      · exact f5 p (List.mem_append_right _ (List.mem_cons_of_mem _ q))
  have fS : ∀ b ∈ fp, b ≠ S := fun b hb z => (f2 b hb).2.2.2.2.2 (S, lstObj acc cc) (List.mem_append_right _ List.mem_cons_self) z.symm
  have loop : ∀ (m i n : Nat) (ys : List V) (s₀ s : Shared) (σ : L2.St) (H : Hp), n + ys.length = sizeLine → W i m ys σ H → GI X S ip ys σ H s → tn i s.heap → (∀ b ∈ fp, H b = none) →
      Seg (model X.prog X.w) A R (GY X S) n s₀ (.forLoop tg (.ref it) body [] X.env) ((model X.prog X.w).den (.forLoop tg (.ref it) body [] X.env))
        (.ret (fun r => ((match r with | .ok f => (.pure f : Sem Flow) | .error e => .raise e).onRaise (cameBack X.env)).wrap K J gd lv) none (gd false) (lv []) c p [] :: fs) s := by
    intro m
    induction m using Nat.strongRecOn with
    | ind m ih =>
      intro i n ys s₀ s σ H hn w hI hst hfr
      have ee : ∀ (n : Nat) (s₀ : Shared) (x : Value) (s' : Shared), X.xe x s' → Seg (model X.prog X.w) A R (GY X S) n s₀ (.forLoop tg (.ref it) body [] X.env)
          ((do noteFrame x X.env; theTreesLotGoes x : Sem Unit).bind fun _ => .raise x)
          (.ret (fun r => ((match r with | .ok f => (.pure f : Sem Flow) | .error e => .raise e).onRaise (cameBack X.env)).wrap K J gd lv) none (gd false) (lv []) c p [] :: fs) s' := fun n s₀ x s' hx => by
        rw [Sem.bind_eq_wrap]
        refine seg_wrap ?_
        rw [(gl _).over]
        refine wpAny_bind (wpAny_mono (hp x s' hx) (fun _ s'' hcb => wpAny_theTreesLotGoes ?_) fun y s'' hcb => ?_)
        · exact seg_leaf (.error x) (seg_cameBack gc k hcb)
        · exact seg_leaf (.error y) (seg_cameBack gc k hcb)
      show Seg _ _ _ _ _ _ _ ((forTurn tg (.ref it) body [] X.env).onRaise (fun x => do noteFrame x X.env; theTreesLotGoes x)) _ _
      rw [Sem.onRaise_eq_wrap]
      simp only [forTurn]
      refine seg_bind_wrap (wpAny_standAt ?_)
      refine seg_bind_wrap ?_
      rw [(gl _).over]
      obtain ⟨acc, cc, r, I⟩ := hI
      rcases turn i m ys σ H w with ⟨stop, qn⟩ | ⟨go, N, hN, step⟩
      · refine wpAny_onRaise (wpAny_mono (T.done X rfl rfl rfl hc i _ s σ H X.xe I (stat hfr) hst stop) (fun a s4 ⟨ha, I4⟩ => ?_) fun x s4 hx => wpAny_standAt (ee n s₀ x s4 hx))
        subst ha
        refine seg_again rfl ?_
        show Seg _ _ _ _ _ _ _ (((execs [] X.env).onRaise (fun x => do noteFrame x X.env; theTreesLotGoes x)).bind fun f => .pure (.done f)) _ _
        exact seg_leaf (.ok .next) (k.ok n ys s₀ s4 .next hn ⟨σ, H, ⟨acc, cc, r, I4⟩, qn⟩)
      · refine wpAny_onRaise (wpAny_mono (T.item X rfl rfl rfl hc i _ s σ H X.xe I (stat hfr) hst go) (fun a s4 ⟨u, ha, h4⟩ => ?_) fun x s4 hx => wpAny_standAt (ee n s₀ x s4 hx))
        subst ha
        refine seg_bind_wrap ?_
        rw [(gl _).over]
        refine wpAny_mono h4 (fun _ s5 ⟨x, H5, I5, r5, y5, st5, fr5⟩ => ?_) fun x s' hx => ee n s₀ x s' hx
        have I5' := I5.pinned (stat fr5) (T.obj _ _ st5)
        refine seg_bind_wrap ?_
        rw [(gl _).over]
        refine wpAny_mono (hg.run _ s5 σ H5 x u _ I5' r5 (step x H5 y5)) (fun _ s6 ⟨σ6, H6, I6, q6⟩ => ?_) fun x s' hx => ee n s₀ x s' hx
        rw [Sem.bind_eq_wrap', Sem.wrap_wrap]
        have g6 := gl fun (r : Result) => ((match r with | .ok f => (.pure f : Sem Flow) | .error e => .raise e).onRaise (cameBack X.env)).wrap K J gd lv
        have G6 : GI X S (ip ++ pinsAt fp s5.heap) ys σ6 H6 s6 := ⟨acc, cc, r, I6⟩
        have gc6 : GC X S (ip ++ pinsAt fp s5.heap) A (.forLoop tg (.ref it) body [] X.env) _ id := { g6 with ip := fun p hp => (List.mem_append.mp hp).elim (gc.ip p) fun z => fS _ (of_pinsAt z).1 }
        have again : ∀ {n' : Nat} {ys7 : List V} {s₀7 s7 : Shared} {σ7 : L2.St} {H7 : Hp}, n' + ys7.length = sizeLine → GI X S (ip ++ pinsAt fp s5.heap) ys7 σ7 H7 s7 → N ys7 σ7 H7 →
            Seg (model X.prog X.w) A R (GY X S) n' s₀7 (.forLoop tg (.ref it) body [] X.env) (.pure (.again (.forLoop tg (.ref it) body [] X.env)))
              (.ret (fun r => ((match r with | .ok f => (.pure f : Sem Flow) | .error e => .raise e).onRaise (cameBack X.env)).wrap K J gd lv) none (gd false) (lv []) c p [] :: fs) s7 := fun {n' ys7 s₀7 s7 σ7 H7} hn7 G7 n7 => by
          obtain ⟨m', hm, w7⟩ := hN _ _ _ n7
          obtain ⟨acc7, cc7, r7, I7⟩ := G7
          have pin7 : ∀ b ∈ fp, ∀ o, s5.heap.get? b = some o → s7.heap.get? b = some o ∧ H7 b = none := fun b hb o e => by
            obtain ⟨z1, z2, _⟩ := I7.pin (b, o) (List.mem_append_right _ (List.mem_cons_of_mem _ (List.mem_append_right _ (mem_pinsAt hb e))))
            exact ⟨z1, z2⟩
          refine seg_again rfl (ih m' hm (i + 1) n' ys7 s₀7 s7 σ7 H7 hn7 w7 ⟨acc7, cc7, r7, I7.pins_of fun p hp => I7.pin p ?_⟩ (T.keep _ _ _ st5 fun b hb o e => (pin7 b hb o e).1) fun b hb => ?_)
          · rcases List.mem_append.mp (show p ∈ X.pn ++ ((S, lstObj acc7 cc7) :: ip) by first | exact List.mem_append_right _ hp | exact hp) with q | q
            · exact List.mem_append_left _ q
            · rcases List.mem_cons.mp q with q | q
              · exact List.mem_append_right _ (q ▸ List.mem_cons_self)
              · exact List.mem_append_right _ (List.mem_cons_of_mem _ (List.mem_append_left _ q))
          · obtain ⟨o, e, d⟩ := T.obj _ _ st5 b hb
            exact (pin7 b hb o e).2
        refine hb.run A S _ R n ys s₀ _ _ _ _ id id s6 σ6 H6 { D with nx := N, ct := N, bk := D.nx } gc6 hn ⟨fun n' ys' s₀' s3 f hn' hs => ?_, fun n' s₀' x s3 hx => ee n' s₀' x s3 hx⟩ G6 q6
        have un : ∀ {ys' : List V} {σ3 : L2.St} {H3 : Hp}, GI X S (ip ++ pinsAt fp s5.heap) ys' σ3 H3 s3 → GI X S ip ys' σ3 H3 s3 := fun {ys' σ3 H3} G3 => by
          obtain ⟨acc7, cc7, r7, I7⟩ := G3
          refine ⟨acc7, cc7, r7, I7.pins_of fun p hp => I7.pin p ?_⟩
          rcases List.mem_append.mp (show p ∈ X.pn ++ ((S, lstObj acc7 cc7) :: ip) by first | exact List.mem_append_right _ hp | exact hp) with q | q
          · exact List.mem_append_left _ q
          · rcases List.mem_cons.mp q with q | q
            · exact List.mem_append_right _ (q ▸ List.mem_cons_self)
            · exact List.mem_append_right _ (List.mem_cons_of_mem _ (List.mem_append_left _ q))
        cases f with
        | next =>
          obtain ⟨σ3, H3, I3, n3⟩ := hs
          exact again hn' I3 n3
        | cont =>
          obtain ⟨σ3, H3, I3, n3⟩ := hs
          exact again hn' I3 n3
        | brk =>
          obtain ⟨σ3, H3, I3, n3⟩ := hs
          exact seg_leaf (.ok .next) (k.ok n' ys' s₀' s3 .next hn' ⟨σ3, H3, un I3, n3⟩)
        | ret v =>
          obtain ⟨x, σ3, H3, I3, r3, n3⟩ := hs
          exact seg_leaf (.ok (.ret v)) (k.ok n' ys' s₀' s3 (.ret v) hn' ⟨x, σ3, H3, un I3, r3, n3⟩)
  exact loop m0 0 n ys s₀ s2 σ H2 hn w0 ⟨acc, cc, r, I2⟩ st2 fun b hb => (f2 b hb).1
end
/-- the turns of a generator's for over a walk -/
theorem gfor_it {J : It} {n : Nat} {G : Hp → Prop} {Y : Nat → Hp → V → Hp → Prop} (w : Walk J n G Y) {g : TG} {tb : TGn} {D : GEnds} {ys : List V} {σ : L2.St} {H : Hp} (Pv : Nat → List V → L2.St → Hp → Prop) (h0 : Pv 0 ys σ H) (hG : ∀ i ys σ H, i ≤ n → Pv i ys σ H → G H)
    (hs : ∀ i x ys σ H H', i < n → Pv i ys σ H → Y i H x H' → g x σ H' fun σ2 H2 => tb { D with nx := Pv (i + 1), ct := Pv (i + 1), bk := D.nx } ys σ2 H2) (hd : ∀ ys σ H, Pv n ys σ H → D.nx ys σ H) :
    ∃ W : Nat → Nat → List V → L2.St → Hp → Prop, (∃ m, W 0 m ys σ H) ∧ ∀ i m ys σ H, W i m ys σ H →
      (J.stop i H ∧ D.nx ys σ H) ∨ (J.go i H ∧ ∃ N : List V → L2.St → Hp → Prop, (∀ ys' σ' H', N ys' σ' H' → ∃ m', m' < m ∧ W (i + 1) m' ys' σ' H') ∧ ∀ x H', J.yld i H x H' → g x σ H' fun σ2 H2 => tb { D with nx := N, ct := N, bk := D.nx } ys σ2 H2) := by
  refine ⟨fun i m ys σ H => m = n - i ∧ i ≤ n ∧ Pv i ys σ H, ⟨n, by simp, Nat.zero_le _, h0⟩, ?_⟩
  rintro i m ys σ H ⟨rfl, hi, p⟩
  have q := hG i ys σ H hi p
  by_cases hlt : i < n
  · exact .inr ⟨w.goes i H hlt q, Pv (i + 1), fun ys' σ' H' p' => ⟨n - (i + 1), by omega, rfl, hlt, p'⟩, fun x H' y => hs i x ys σ H H' hlt p (w.yields i H x H' hlt q y)⟩
  · have e : i = n := by omega
    subst e
    exact .inl ⟨w.stops H q, hd ys σ H p⟩
end Gc

/-! calls by names alone, the names in the other order: f(b=.., a=..) of def f(a, b) -/
namespace Gc
open PySem PySem.Spec PyProof.Rows L2
def gRev {α : Type} (us ws : List α) : List α := us ++ ws.reverse
theorem vals_rev : ∀ {vs : List V} {us : List Value}, Vals vs us → Vals vs.reverse us.reverse
  | _, _, .nil => .nil
  | v :: vs, u :: us, .cons h t => by
    rw [List.reverse_cons, List.reverse_cons]
    exact (vals_rev t).append (.cons h .nil)
structure CalK (P : Program) (w : World) (K : PySem.W.Frag) (mg : Str → Option Value) (base : Heap) (k : Nat) (x : Str) (ks : List Str) (sp : Sp) : Prop where
  ex : ∃ (f : Addr) (fd : FuncData) (ps : List Str), FnOk P w K mg base CX0 k f fd ps sp ∧ mg x = some (.ref f) ∧ PySem.W.keepIn K (.ref f) = true ∧ KBinds K fd ps ks gRev gRev
/-- how it binds: h is «fun _ _ _ _ _ _ us ws hl => match us, ws, hl with | [], [_, _], _ => rfl | [_], [_], _ => rfl | [_, _], [], _ => rfl» -/
theorem bindsK {K : PySem.W.Frag} {x qual : Str} {st : Stmt} {f : Addr} {fd : FuncData} {ps ks : List Str} (F : Fun K x qual st f fd)
    (h : ∀ (kV doc pm : Value) (an : Option Addr) (cdv ct : Value) (us ws : List Value), (gRev us ws).length = ps.length → bindArgs (PySem.W.fnOf x qual (defArgs st) (defBody st) (defScope st) .none kV doc pm an cdv ct) ⟨us, ks.zip ws⟩ = pure (ps.zip (gRev us ws))) : KBinds K fd ps ks gRev gRev := by
  obtain ⟨oc, od, kV, doc, pm, an, cdv, ct, osl, rfl, lk, hcd⟩ := F.ex
  exact ⟨fun s us ws _ hl => .of_eq (h kV doc pm an cdv ct us ws hl), fun a b => a.append (vals_rev b)⟩
theorem pe_calK {X : Cx} {k j : Nat} {x : Str} {ks : List Str} {sp : Sp} {p pos : Pos} {kws : List Keyword} {tk : TA} (c : CalK X.prog X.w X.K X.mg X.base k x ks sp) (hr : Room j X.A) (hk : k ≤ j) (hg : Gl X x) (hkw : PK X kws tk)
    (hdb : (x == ("__debug__" : Str)) = false := by decide) (hall : (backToKw pos (keywordEach kws X.env)).all (·.1.isSome) = true := by rfl) (hks : (backToKw pos (keywordEach kws X.env)).filterMap (·.1) = ks := by rfl)
    (hpn : ((backTo pos (starEach [] X.env)).any (·.1) || (backToKw pos (keywordEach kws X.env)).any (·.1.isNone)) = false := by rfl) :
    PE X (.Call (.Name x p) [] kws pos) (tCallK sp gRev E0 tNil tk) := by
  obtain ⟨f, fd, ps, F, hm, kp, b⟩ := c.ex
  refine ⟨fun pins s σ H Q I h => ?_⟩
  refine wpAny_Call_Name_kw (ld_glob I hg hm ?_ hdb)
  refine PySem.W.callWith_KW0 (h₀ := X.base) I.ok.mod.kin kp hall ?_ hpn
  refine thn (hkw.run pos pins s σ H _ I h) fun ws s1 ⟨zs, H1, I1, rz, q⟩ => ⟨I1.kIn, ?_⟩
  rw [hks]
  exact run_fnk (us := []) (vs := []) F (hr.mono hk) b pass0 I1 .nil rz q
end Gc

/-! generator defs: their rule, list(g(..)) -/
namespace Gc
open PySem PySem.Spec PyProof.Rows GenW L2
/-- a generator def, by its body -/
theorem gen_ok {P : Program} {w : World} {K : PySem.W.Frag} {mg : Str → Option Value} {base : Heap} {x qual : Str} {st : Stmt} {f : Addr} {fd : FuncData} {N ps : List Str} {k : Nat} {sp : SpG} (F : L2.Fun K x qual st f fd) (S : GScope N ps (defScope st)) (len : ∀ vs H Q E, sp vs H Q E → vs.length = ps.length)
    (hbody : ∀ (cdv : Value) (A : Around) (outer : List Env) (s : Shared) (H : Hp) (vs : List V) (Q : List V → Hp → Prop) (E : XK) (pn : List (Addr × Obj)), Room k (A.deeper (envOfC qual (defScope st) s.heap.objs.size f cdv)) → sp vs H Q E →
      ∃ t, GSs (gcxOf P w K mg base N qual (defScope st) f cdv A outer s H E pn) (defBody st) t ∧ t { nx := fun ys _ H' => Q ys H', rt := fun ys v H' => v = .non ∧ Q ys H' } [] (start N vs) H) : GFn P w K mg base (k + 1) f fd ps sp := by
  obtain ⟨oc, od, kV, doc, pm, an, cdv, ct, osl, rfl, lk, hcd⟩ := F.ex
  exact gfn_of lk hcd S len fun A outer s H vs Q E pn hr hsp => hbody cdv A outer s H vs Q E pn hr hsp
structure GCal (P : Program) (w : World) (K : PySem.W.Frag) (mg : Str → Option Value) (base : Heap) (k : Nat) (x : Str) (sp : SpG) : Prop where
  ex : ∃ (f : Addr) (fd : FuncData) (ps : List Str), GFn P w K mg base k f fd ps sp ∧ mg x = some (.ref f) ∧ PySem.W.keepIn K (.ref f) = true ∧ Binds K fd ps []
theorem gfn_mono {P : Program} {w : World} {K : PySem.W.Frag} {mg : Str → Option Value} {base : Heap} {j k : Nat} {f : Addr} {fd : FuncData} {ps : List Str} {sp : SpG} (F : GFn P w K mg base k f fd ps sp) : GFn P w K mg base k f fd ps sp := F
theorem noStop0 {K : PySem.W.Frag} : NoStop K E0 := fun _ _ _ h => h.elim
theorem passE0 {X : Cx} : Passes (CX X.prog X.w) X E0 := fun _ _ _ _ _ _ _ ⟨_, _, _, _, _, _, _, _, _, _, _, _, h⟩ => h.elim
section
variable {X : Cx} {k : Nat} {x : Str} {sp : SpG} {p p0 pos pos' : Pos} {e : Expr} {es : List Expr} {t : TA}
/-- list(g(..)), where nothing is raised -/
theorem pe_listGC (c : GCal X.prog X.w X.K X.mg X.base k x sp) (hr : Room (k + 3) X.A) (hg : Gl X x) (ha : PA X (e :: es) t) (hgl : Gl X "list") (hml : X.mg "list" = none)
    (hdb : (x == ("__debug__" : Str)) = false := by decide) (he : starEach (e :: es) X.env = (false, eval e X.env) :: starEach es X.env := by rfl) (hpl : (backTo pos' (starEach es X.env)).any (·.1) = false := by rfl)
    (he2 : starEach [.Call (.Name x p) (e :: es) [] pos'] X.env = (false, eval (.Call (.Name x p) (e :: es) [] pos') X.env) :: starEach [] X.env := by rfl) :
    PE X (.Call (.Name "list" p0) [.Call (.Name x p) (e :: es) [] pos'] [] pos) (tListG (tCallG sp [] E0 t)) := by
  obtain ⟨f, fd, ps, F, hm, kp, b⟩ := c.ex
  exact pe_listG (pgen_call F (hr.mono (by omega)) hg hm kp b .nil ha hdb he hpl) passE0 noStop0 hr hgl hml (by decide +kernel) (by decide) (by decide) he2
end
structure GCalK (P : Program) (w : World) (K : PySem.W.Frag) (mg : Str → Option Value) (base : Heap) (k : Nat) (x : Str) (ks : List Str) (sp : SpG) : Prop where
  ex : ∃ (f : Addr) (fd : FuncData) (ps : List Str), GFn P w K mg base k f fd ps sp ∧ mg x = some (.ref f) ∧ PySem.W.keepIn K (.ref f) = true ∧ KBinds K fd ps ks gRev gRev
def tCallGK (sp : SpG) (E : XK) (tk : TA) : TGen := fun σ H cont => tk σ H fun zs H2 => sp (gRev [] zs) H2 cont E
section
variable {X : Cx} {k : Nat} {x : Str} {ks : List Str} {sp : SpG} {p p0 pos pos' : Pos} {kws : List Keyword} {tk : TA}
theorem pgen_callK {E : XK} (c : GCalK X.prog X.w X.K X.mg X.base k x ks sp) (hr : Room k X.A) (hg : Gl X x) (hkw : PK X kws tk)
    (hdb : (x == ("__debug__" : Str)) = false := by decide) (hall : (backToKw pos (keywordEach kws X.env)).all (·.1.isSome) = true := by rfl) (hks : (backToKw pos (keywordEach kws X.env)).filterMap (·.1) = ks := by rfl)
    (hpn : ((backTo pos (starEach [] X.env)).any (·.1) || (backToKw pos (keywordEach kws X.env)).any (·.1.isNone)) = false := by rfl) :
    PGen X k (.Call (.Name x p) [] kws pos) (tCallGK sp E tk) E := by
  obtain ⟨f, fd, ps, F, hm, kp, b⟩ := c.ex
  refine ⟨fun pins s σ H cont I h => ?_⟩
  refine wpAny_Call_Name_kw (ld_glob I hg hm ?_ hdb)
  refine PySem.W.callWith_KW0 (h₀ := X.base) I.ok.mod.kin kp hall ?_ hpn
  refine thn (hkw.run pos pins s σ H _ I h) fun ws s1 ⟨zs, H1, I1, rz, q⟩ => ⟨I1.kIn, ?_⟩
  rw [hks]
  have r2 := b.rel (us := []) (vs := []) .nil rz
  have hl : (gRev [] ws).length = ps.length := by rw [← r2.length]; exact F.len _ _ _ _ q
  refine wpAny_call (codeAny_mono (F.run X.A X.stack s1 H1 ⟨[], ks.zip ws⟩ (gRev [] ws) (gRev [] zs) cont E hr I1.env0 (b.to s1 [] ws I1.kIn hl) r2 q) fun r s' hq => ?_)
  cases r with
  | error e => exact False.elim hq
  | ok fl =>
    cases fl with
    | ret u => exact ⟨H1, s1, [], I1, .nil, hq⟩
    | next => exact False.elim hq
    | brk => exact False.elim hq
    | cont => exact False.elim hq
theorem pe_listGK (c : GCalK X.prog X.w X.K X.mg X.base k x ks sp) (hr : Room (k + 3) X.A) (hg : Gl X x) (hkw : PK X kws tk) (hgl : Gl X "list") (hml : X.mg "list" = none)
    (hdb : (x == ("__debug__" : Str)) = false := by decide) (hall : (backToKw pos' (keywordEach kws X.env)).all (·.1.isSome) = true := by rfl) (hks : (backToKw pos' (keywordEach kws X.env)).filterMap (·.1) = ks := by rfl)
    (hpn : ((backTo pos' (starEach [] X.env)).any (·.1) || (backToKw pos' (keywordEach kws X.env)).any (·.1.isNone)) = false := by rfl)
    (he2 : starEach [.Call (.Name x p) [] kws pos'] X.env = (false, eval (.Call (.Name x p) [] kws pos') X.env) :: starEach [] X.env := by rfl) :
    PE X (.Call (.Name "list" p0) [.Call (.Name x p) [] kws pos'] [] pos) (tListG (tCallGK sp E0 tk)) :=
  pe_listG (pgen_callK c (hr.mono (by omega)) hg hkw hdb hall hks hpn) passE0 noStop0 hr hgl hml (by decide +kernel) (by decide) (by decide) he2
end
end Gc

/-! places: a generator -/
namespace Gc
open PySem L2
abbrev s_places : Stmt := top 17
/-- where the commands lead, one by one -/
def trailL (T : List Int) : Int → Option Int → List Cmd → List (Int × Option Int)
  | _, _, [] => []
  | r, g, c :: cs => match step1 T r g c with
    | none => []
    | some q => q :: trailL T q.1 q.2 cs
theorem trail_step {T : List Int} {r : Int} {g : Option Int} {c : Cmd} {cs : List Cmd} {q : Int × Option Int} (h : step1 T r g c = some q) : trailL T r g (c :: cs) = q :: trailL T q.1 q.2 cs := by
  show (match step1 T r g c with | none => [] | some q => q :: trailL T q.1 q.2 cs) = _
  rw [h]
def SpotAt (K : PySem.W.Frag) (H : Hp) (v : V) (q : Int × Option Int) : Prop := ∃ p, v = .ref p ∧ SqT K H p [.int q.1, optV q.2]
def SpotsOf (K : PySem.W.Frag) (H : Hp) (vs : List V) (qs : List (Int × Option Int)) : Prop := Paired (SpotAt K H) vs qs
theorem SpotsOf.same {K : PySem.W.Frag} {H H' : Hp} {vs : List V} {qs : List (Int × Option Int)} (h : SpotsOf K H vs qs) (e : Same H H') : SpotsOf K H' vs qs := Paired.mapP h fun _ _ ⟨p, z, q⟩ => ⟨p, z, seq_t e q⟩
theorem SpotsOf.len {K : PySem.W.Frag} {H : Hp} : ∀ {vs : List V} {qs : List (Int × Option Int)}, SpotsOf K H vs qs → vs.length = qs.length
  | _, _, .nil => rfl
  | _, _, .cons _ t => congrArg (· + 1) (SpotsOf.len t)
theorem trail_len {T : List Int} : ∀ {cs : List Cmd} {r : Int} {g : Option Int}, (trailL T r g cs).length ≤ cs.length
  | [], _, _ => Nat.le_refl _
  | c :: cs, r, g => by
    unfold trailL
    cases step1 T r g c with
    | none => exact Nat.zero_le _
    | some q => exact Nat.succ_le_succ trail_len
/-- places of valid arguments that are possible -/
def spPlaces (K : PySem.W.Frag) : SpG := fun vs H Q _ => ∃ (t b l : Addr) (T : List Int) (r : Int) (g : Option Int) (xs : List V) (cs : List Cmd) (r' : Int) (g' : Option Int), vs = [.ref t, .ref b, .ref l] ∧ SqL K H t (T.map V.int) ∧ SqT K H b [.int r, optV g] ∧ SqL K H l xs ∧ CmdsOf K H xs cs ∧
  (∀ x ∈ T, 0 ≤ x) ∧ 0 ≤ r ∧ r < T.length ∧ ge g 0 ∧ AllOk cs ∧ cs.length ≤ 10000 ∧ afterL T r g cs = some (r', g') ∧ ∀ (H' : Hp) (ys : List V), Same H H' → SpotsOf K H' ys ((r, g) :: trailL T r g cs) → Q ys H'
section
variable {P : Program} {w : World} {K : PySem.W.Frag} {mg : Str → Option Value} {base : Heap}
theorem sc_places : GScope ["text", "cursor", "commands", "place", "command"] ["text", "cursor", "commands"] (defScope s_places) := ⟨rfl, rfl, rfl, by decide +kernel, rfl, by decide +kernel, by decide +kernel⟩
theorem ok_places {f : Addr} {fd : FuncData} (F : Fun K "places" "places" s_places f fd) (c_run : Cal P w K mg base 4 "run" (spRun K)) (c_moved : Cal P w K mg base 3 "moved" (spMoved K)) : GFn P w K mg base 5 f fd ["text", "cursor", "commands"] (spPlaces K) := by
  refine gen_ok F sc_places (fun vs H Q E h => ?_) (fun cdv A outer s H vs Q E pn hr h => ?_)
  · obtain ⟨t, b, l, T, r, g, xs, cs, r', g', rfl, _⟩ := h
    rfl
  · obtain ⟨t, b, l, tx, r, g, xs, cs, r', g', rfl, ht, hb, hl, hcs, nn, r0, r1, g0, ok, ln, hrun, k⟩ := h
    refine ⟨_, (gss_cons (gs_ps (ps_expr (pe_cal c_run hr (by decide) (by rfl) (pa_cons (pv 0) (pa_cons (pv 1) (pa_cons (pv 2) pa_nil))))))
      (gss_cons (gs_ps (ps_set (i := 3) sc_places.nd rfl (Or.inl rfl) (pv 1)))
      (gss_cons (gs_yield (pv 3))
      (gss_cons (gs_for owns_gcx rfl (pi_list (pv 2)) (pg_name (i := 4) sc_places.nd rfl (Or.inl rfl)) (gss_cons (gs_ps (ps_set (i := 3) sc_places.nd rfl (Or.inl rfl) (pe_cal c_moved hr (by decide) (by rfl) (pa_cons (pv 0) (pa_cons (pv 3) (pa_cons (pv 4) pa_nil))))))
      (gss_cons (gs_yield (pv 3))
      gss_nil)))
      gss_nil)))), ?_⟩
    refine ⟨_, rfl, _, rfl, _, rfl, t, b, l, tx, r, g, xs, cs, r', g', rfl, ht, hb, hl, hcs, nn, r0, r1, g0, ok, ln, hrun, fun H1 p1 e1 _ => ?_⟩
    refine ⟨_, rfl, ?_⟩
    refine ⟨Nat.zero_lt_of_lt (lt_line (n := 1) (by decide)), _, rfl, ?_⟩
    refine ⟨_, rfl, l, rfl, ⟨_, e1.seq hl⟩, ?_⟩
    refine gfor_it (walk_list (K := K) (a := l) (xs := xs)) (fun i ys σ H' => ∃ (p : Addr) (rr : Int) (gg : Option Int) (v4 : Option V) (qs : List (Int × Option Int)), σ = [some (.ref t), some (.ref b), some (.ref l), some (.ref p), v4] ∧ Same H H' ∧ SqT K H' p [.int rr, optV gg] ∧ 0 ≤ rr ∧ rr < tx.length ∧
        afterL tx rr gg (cs.drop i) = some (r', g') ∧ SpotsOf K H' ys qs ∧ qs.length = i + 1 ∧ (r, g) :: trailL tx r g cs = qs ++ trailL tx rr gg (cs.drop i))
      ⟨b, r, g, none, [(r, g)], rfl, e1, seq_t e1 hb, r0, r1, hrun, .cons ⟨b, rfl, seq_t e1 hb⟩ .nil, rfl, rfl⟩ (fun i ys σ H' _ ⟨_, _, _, _, _, _, e, _⟩ => e.seq hl) (fun i x ys σ H2 H3 hi h y => ?_) (fun ys σ H2 h => ?_)
    · obtain ⟨p, rr, gg, v4, qs, rfl, e, hp, q0, q1, hgo, hys, hq, htr⟩ := h
      obtain ⟨rfl, ex⟩ := y
      obtain ⟨c, hc, hca⟩ := paired_at hcs ex
      have hdrop : cs.drop i = c :: cs.drop (i + 1) := by
        obtain ⟨h1, h2⟩ := List.getElem?_eq_some_iff.mp hc
        rw [List.drop_eq_getElem_cons h1, h2]
      rw [hdrop, afterL_cons q0 q1] at hgo
      obtain ⟨⟨r2, g2⟩, hst, hrest⟩ := Option.bind_eq_some_iff.mp hgo
      have hin := step1_in hst
      rw [hdrop, trail_step hst] at htr
      refine ⟨_, rfl, _, rfl, _, rfl, t, p, tx, rr, gg, x, c, rfl, e.seq ht, hp, hca.same e, (fun z => by rw [hst] at z; cases z), fun r3 g3 z p3 np3 => ?_⟩
      rw [hst] at z
      cases z
      have e4 := new_same (o := HO.tup [.int r2, optV g2]) np3
      have yl := SpotsOf.len hys
      have xl := hcs.len
      refine ⟨lt_line (by omega), _, rfl, ?_⟩
      refine ⟨p3, r2, g2, _, qs ++ [(r2, g2)], rfl, e.trans e4, SqT.of upd_same, hin.1, hin.2, hrest, ?_, by rw [List.length_append, hq]; rfl, ?_⟩
      · exact paired_app (hys.same e4) (.cons ⟨p3, rfl, SqT.of upd_same⟩ .nil)
      · rw [htr]
        simp
    · obtain ⟨p, rr, gg, v4, qs, rfl, e, hp, q0, q1, hgo, hys, hq, htr⟩ := h
      rw [hcs.len, List.drop_length] at htr
      have hq2 : (r, g) :: trailL tx r g cs = qs := by rw [htr]; exact List.append_nil qs
      refine k _ ys e ?_
      rw [hq2]
      exact hys
end
end Gc

/-! generators whose consumer does something of its own at each item: what is handed out is told item by item -/
namespace Gc
open PySem PySem.Spec PyProof.Rows GenW L2
/-- asleep: the consumer changes at most what stands at Z -/
structure Nap (Z : List Addr) (s s' : Shared) : Prop where
  os : s'.os = s.os
  bare : AllBare s'.gens
  same : ∀ b o, b ∉ Z → s.heap.get? b = some o → s'.heap.get? b = some o
  stay : ∀ b o, b ∈ Z → s.heap.get? b = some o → ∃ o', s'.heap.get? b = some o' ∧ ∀ v, o'.data ≠ .cell v
/-- what is the consumer's: none of it is of the generator's frame -/
def FarOf (X : Cx) (Z : List Addr) : Prop := ∀ b ∈ Z, X.s_0.heap.objs.size ≤ b ∧ b ≠ X.env.locals ∧ ∀ x c, X.env.cells.lookup x = some c → c ≠ b
/-- at work; z: the state in which it was woken -/
structure AtW (X : Cx) (Z : List Addr) (z : Shared) (ip : List (Addr × Obj)) (σ : L2.St) (H : Hp) (s : Shared) : Prop where
  zo : ∀ b ∈ Z, ∃ o, z.heap.get? b = some o ∧ ∀ v, o.data ≠ .cell v
  inv : Inv X (pinsAt Z z.heap ++ ip) σ H s
theorem AtW.at {X : Cx} {Z : List Addr} {z : Shared} {ip : List (Addr × Obj)} {σ : L2.St} {H : Hp} {s : Shared} (h : AtW X Z z ip σ H s) {b : Addr} (hb : b ∈ Z) : s.heap.get? b = z.heap.get? b ∧ H b = none ∧ b ≠ X.env.locals ∧ b ∉ X.fs := by
  obtain ⟨o, ho, _⟩ := h.zo b hb
  obtain ⟨a1, a2, a3, a4, _⟩ := h.inv.pin (b, o) (List.mem_append_right _ (List.mem_append_left _ (mem_pinsAt hb ho)))
  exact ⟨a1.trans ho.symm, a2, a3, a4⟩
theorem AtW.own {X : Cx} {Z : List Addr} {z : Shared} {ip : List (Addr × Obj)} {σ : L2.St} {H : Hp} {s : Shared} (h : AtW X Z z ip σ H s) : Inv X ip σ H s :=
  h.inv.pins_of fun q hq => h.inv.pin q (List.mem_append_right _ (List.mem_append_right _ hq))
theorem AtW.mk' {X : Cx} {Z : List Addr} {z : Shared} {ip : List (Addr × Obj)} {σ : L2.St} {H : Hp} {s : Shared} (I : Inv X ip σ H s) (hz : ∀ b ∈ Z, ∃ o, z.heap.get? b = some o ∧ ∀ v, o.data ≠ .cell v)
    (hs : ∀ b ∈ Z, s.heap.get? b = z.heap.get? b ∧ H b = none ∧ b ≠ X.env.locals ∧ b ∉ X.fs) : AtW X Z z ip σ H s := by
  refine ⟨hz, I.pins_of fun q hq => (List.mem_append.mp hq).elim (fun hq => ?_) fun hq => I.pin q (List.mem_append_right _ hq)⟩
  obtain ⟨hb, e⟩ := of_pinsAt hq
  obtain ⟨a1, a2, a3, a4⟩ := hs _ hb
  obtain ⟨o, ho, d⟩ := hz _ hb
  rw [e] at ho
  cases ho
  exact ⟨a1.trans e, a2, a3, a4, d⟩
/-- woken again: all its own stands as it stood -/
theorem AtW.again {X : Cx} {Z : List Addr} {z : Shared} {ip : List (Addr × Obj)} {σ : L2.St} {H : Hp} {s s' : Shared} (hpn : ∀ q ∈ X.pn, q.1 ∉ Z) (hip : ∀ q ∈ ip, q.1 ∉ Z) (far : FarOf X Z) (h : AtW X Z z ip σ H s) (n : Nap Z s s') : AtW X Z s' ip σ H s' := by
  have I0 := h.own
  have tz : ∀ b u, H b = some u → b ∉ Z := fun b u e hb => by
    rw [(h.at hb).2.1] at e
    cases e
  obtain ⟨n1, n2, n3, n4⟩ := n
  obtain ⟨hh, gg, dd, tt, oo⟩ := s'
  have eo : oo = s.os := n1
  subst eo
  have J : Inv X ip σ H { s with heap := hh, gens := gg, drawn := dd, toks := tt } := by
    refine I0.step (g' := gg) (t' := tt) (d' := dd) (ch := Z) (fun b hb => ?_) (fun b ob _ _ hc e _ => n3 b ob hc e) (fun b ob _ _ hc e _ => ⟨ob.slots, n3 b ob hc e⟩) (fun _ _ _ _ e => e)
      (fun b ob hc e => ⟨ob, n3 b ob hc e⟩) (fun _ _ e => e) (fun _ _ _ e => e) (fun b ps e => ⟨#[], by rw [e, Array.append_empty]⟩) (fun m hm => ?_) (fun b u e => ?_) n2
    · obtain ⟨f1, f2, f3⟩ := far b hb
      refine ⟨.inr f1, f2, f3, fun q hq e => ?_⟩
      rcases List.mem_append.mp hq with hq | hq
      · exact hpn q hq (e ▸ hb)
      · exact hip q hq (e ▸ hb)
    · obtain ⟨ob, es, ep, ho, rr⟩ := hm
      exact ⟨ob, es, ep, n3 _ ob (fun hb => (far _ hb).2.1 rfl) ho, rr⟩
    · refine (I0.hok b u e).stay (fun c v hc y => n3 c v ?_ y) (fun _ y => y) fun _ _ y => y
      rcases hc with y | y
      · exact y ▸ tz b u e
      · exact tz c _ y
  refine AtW.mk' J (fun b hb => ?_) fun b hb => ⟨rfl, (h.at hb).2⟩
  obtain ⟨o, ho, _⟩ := h.zo b hb
  exact n4 b o hb ((h.at hb).1.trans ho)
/-- what must hold of each item: what is out ahead of it, the item, the heap -/
abbrev YdK := List V → V → Hp → Prop
def NY (X : Cx) (Z : List Addr) (Yd : YdK) : Protocol := fun n z v s kap => ∃ ys x ip σ H, n + 1 + ys.length = sizeLine ∧ RelV x v ∧ AtW X Z z ip σ H s ∧ Yd ys x H ∧ ∀ s', Nap Z s s' → kap (.send .none) s'
def NR (X : Cx) (Z : List Addr) (Q : List V → VK) (F : Value → Shared → Prop) : GenEnd := fun n z r s => match r with
  | .ok (.ret u) => ∃ ys v ip σ H, n + ys.length = sizeLine ∧ AtW X Z z ip σ H s ∧ RelV v u ∧ Q ys v H
  | .ok _ => False
  | .error e => F e s
def NSP (X : Cx) (Z : List Addr) (z : Shared) (ip : List (Addr × Obj)) (D : GEnds) (ys : List V) (f : Flow) (s : Shared) : Prop :=
  match f with
  | .next => ∃ σ H, AtW X Z z ip σ H s ∧ D.nx ys σ H
  | .brk => ∃ σ H, AtW X Z z ip σ H s ∧ D.bk ys σ H
  | .cont => ∃ σ H, AtW X Z z ip σ H s ∧ D.ct ys σ H
  | .ret u => ∃ v σ H, AtW X Z z ip σ H s ∧ RelV v u ∧ D.rt ys v H
structure NC (X : Cx) (Z : List Addr) (ip : List (Addr × Obj)) (A : Around) (c : Code) (fs : List Frame) (gd : Bool → Bool) : Prop where
  pn : ∀ q ∈ X.pn, q.1 ∉ Z
  ip : ∀ q ∈ ip, q.1 ∉ Z
  far : FarOf X Z
  over : A.over c fs = X.A
  split : splitAtGen fs = none
  guard : fs.any Frame.guarded = false
  gd : gd false = false
structure NK (X : Cx) (Z : List Addr) (Yd : YdK) (ip : List (Addr × Obj)) (A : Around) (R : GenEnd) (c : Code) (fs : List Frame) (K : Flow → Sem PySem.Fin) (J : Value → Sem PySem.Fin) (D : GEnds) : Prop where
  ok : ∀ (n : Nat) (ys : List V) (z s : Shared) (f : Flow), n + ys.length = sizeLine → NSP X Z z ip D ys f s → Seg (model X.prog X.w) A R (NY X Z Yd) n z c (K f) fs s
  exc : ∀ (n : Nat) (z : Shared) (e : Value) (s : Shared), X.xe e s → Seg (model X.prog X.w) A R (NY X Z Yd) n z c (J e) fs s
structure NS (X : Cx) (Yd : YdK) (st : Stmt) (t : TGn) : Prop where
  run : ∀ (A : Around) (Z : List Addr) (ip : List (Addr × Obj)) (R : GenEnd) (n : Nat) (ys : List V) (z : Shared) (c : Code) (fs : List Frame) (K : Flow → Sem PySem.Fin) (J : Value → Sem PySem.Fin) (gd : Bool → Bool) (lv : List Value → List Value) (s : Shared) (σ : L2.St) (H : Hp) (D : GEnds),
    NC X Z ip A c fs gd → n + ys.length = sizeLine → NK X Z Yd ip A R c fs K J D → AtW X Z z ip σ H s → t D ys σ H → Seg (model X.prog X.w) A R (NY X Z Yd) n z c ((exec st X.env).wrap K J gd lv) fs s
structure NSs (X : Cx) (Yd : YdK) (st : List Stmt) (t : TGn) : Prop where
  run : ∀ (A : Around) (Z : List Addr) (ip : List (Addr × Obj)) (R : GenEnd) (n : Nat) (ys : List V) (z : Shared) (c : Code) (fs : List Frame) (K : Flow → Sem PySem.Fin) (J : Value → Sem PySem.Fin) (gd : Bool → Bool) (lv : List Value → List Value) (s : Shared) (σ : L2.St) (H : Hp) (D : GEnds),
    NC X Z ip A c fs gd → n + ys.length = sizeLine → NK X Z Yd ip A R c fs K J D → AtW X Z z ip σ H s → t D ys σ H → Seg (model X.prog X.w) A R (NY X Z Yd) n z c ((execs st X.env).wrap K J gd lv) fs s
section
variable {X : Cx} {Yd : YdK} {st : Stmt} {rest : List Stmt} {e : Expr} {yp pos : Pos} {te : TE}
theorem ns_ps {t : TS} (h : PS X st t) : NS X Yd st (tPlain t) := by
  refine ⟨fun A Z ip R n ys z c fs K J gd lv s σ H D g hn k hI ht => ?_⟩
  obtain ⟨hz, I⟩ := hI
  refine seg_wrap ?_
  rw [g.over]
  refine wpAny_mono (h.run _ s σ H (D.at ys) I ht) (fun f s' hs => k.ok n ys z s' f hn ?_) fun x s' hx => k.exc n z x s' hx
  cases f with
  | next =>
    obtain ⟨σ2, H2, I2, q2⟩ := hs
    exact ⟨σ2, H2, ⟨hz, I2⟩, q2⟩
  | brk =>
    obtain ⟨σ2, H2, I2, q2⟩ := hs
    exact ⟨σ2, H2, ⟨hz, I2⟩, q2⟩
  | cont =>
    obtain ⟨σ2, H2, I2, q2⟩ := hs
    exact ⟨σ2, H2, ⟨hz, I2⟩, q2⟩
  | ret u =>
    obtain ⟨v2, σ2, H2, I2, r2, q2⟩ := hs
    exact ⟨v2, σ2, H2, ⟨hz, I2⟩, r2, q2⟩
theorem nss_nil : NSs X Yd [] tG0 := ⟨fun A Z ip R n ys z c fs K J gd lv s σ H D g hn k hI ht => seg_execs_nil (k.ok n ys z s .next hn ⟨σ, H, hI, ht⟩)⟩
theorem nss_cons {t u : TGn} (a : NS X Yd st t) (b : NSs X Yd rest u) : NSs X Yd (st :: rest) (tGThen t u) := by
  refine ⟨fun A Z ip R n ys z c fs K J gd lv s σ H D g hn k hI ht => seg_execs_cons ?_⟩
  refine a.run A Z ip R n ys z c fs _ J gd lv s σ H { D with nx := fun y2 σ2 H2 => u D y2 σ2 H2 } g hn ⟨fun n2 y2 z2 s2 f hn2 hs => ?_, k.exc⟩ hI ht
  cases f with
  | next =>
    obtain ⟨σ2, H2, I2, q2⟩ := hs
    exact b.run A Z ip R n2 y2 z2 c fs K J gd lv s2 σ2 H2 D g hn2 k I2 q2
  | brk => exact k.ok n2 y2 z2 s2 .brk hn2 hs
  | cont => exact k.ok n2 y2 z2 s2 .cont hn2 hs
  | ret v => exact k.ok n2 y2 z2 s2 (.ret v) hn2 hs
/-- yield e -/
def tNYield (Yd : YdK) (te : TE) : TGn := fun D ys σ H => ys.length < sizeLine ∧ te σ H fun x H1 => Yd ys x H1 ∧ D.nx (ys ++ [x]) σ H1
theorem ns_yield (he : PE X e te) (hco : X.env.scope.isCoroutine = false := by rfl) (hi : interactive X.env = false := by rfl) : NS X Yd (.Expr (.Yield (some e) yp) pos) (tNYield Yd te) := by
  refine ⟨fun A Z ip R n ys z c fs K J gd lv s σ H D g hn k hI ht => ?_⟩
  obtain ⟨hlt, ht⟩ := ht
  obtain ⟨n, rfl⟩ : ∃ m, n = m + 1 := ⟨n - 1, by omega⟩
  obtain ⟨hz, I⟩ := hI
  refine seg_Expr_Yield g.split g.gd g.guard ?_ hco hi
  rw [g.over]
  refine wpAny_mono (he.run _ s σ H _ I ht) (fun v s1 ⟨x, H1, I1, rv, yd, q⟩ kap hk => ?_) fun x s' hx => k.exc _ z x s' hx
  have W : AtW X Z z ip σ H1 s1 := ⟨hz, I1⟩
  refine ⟨ys, x, ip, σ, H1, hn, rv, W, yd, fun s2 nap => hk .none s2 ?_⟩
  refine k.ok n (ys ++ [x]) s2 s2 .next ?_ ⟨σ, H1, W.again g.pn g.ip g.far nap, q⟩
  rw [List.length_append]
  show n + (ys.length + 1) = sizeLine
  omega
end
end Gc

/-! such a generator's for loop; its def -/
namespace Gc
open PySem PySem.Spec PyProof.Rows GenW L2
theorem nc_loop {X : Cx} {Z : List Addr} {ip : List (Addr × Obj)} {A : Around} {c c1 : Code} {fs : List Frame} {gd : Bool → Bool} {k : Result → Sem PySem.Fin} {l kp : List Value} {p : Pos} (g : NC X Z ip A c fs gd) (hw : c1.weight = 0) (hu : c1.cUnits = 0) :
    NC X Z ip A c1 (.ret k none (gd false) l c p kp :: fs) id := by
  refine ⟨g.pn, g.ip, g.far, (over_loop hw hu).trans g.over, ?_, ?_, rfl⟩
  · show Option.map _ (splitAtGen fs) = none
    rw [g.split, Option.map_none]
  · show (gd false || fs.any Frame.guarded) = false
    rw [g.gd, g.guard, Bool.or_false]
theorem seg_backN {X : Cx} {Z : List Addr} {Yd : YdK} {ip : List (Addr × Obj)} {A : Around} {R : GenEnd} {c : Code} {fs : List Frame} {K : Flow → Sem PySem.Fin} {J : Value → Sem PySem.Fin} {gd : Bool → Bool} {lv : List Value → List Value} {D : GEnds} {n : Nat} {z s : Shared} {e : Value}
    (g : NC X Z ip A c fs gd) (k : NK X Z Yd ip A R c fs K J D) (h : cameBackBy (model X.prog X.w) X.A X.env X.xe e s) : Seg (model X.prog X.w) A R (NY X Z Yd) n z c (((Sem.raise e : Sem Flow).onRaise (cameBack X.env)).wrap K J gd lv) fs s := by
  show Seg _ A R _ n z c (((cameBack X.env e).bind fun _ => (Sem.raise e : Sem Flow)).wrap K J gd lv) fs s
  rw [Sem.bind_eq_wrap, Sem.wrap_wrap]
  refine seg_wrap ?_
  rw [g.over]
  exact wpAny_mono h (fun _ s2 hx => k.exc n z e s2 hx) fun x s2 hx => k.exc n z x s2 hx
section
variable {X : Cx} {Yd : YdK}
theorem ns_for {iter tg : Expr} {body : List Stmt} {wi : TI} {g : TG} {tb : TGn} {pos : Pos} (hp : PassesOwn (model X.prog X.w) X.A X.env X.xe) (hc : X.calm = true) (hi : PI X tg iter wi) (hg : PG X tg g) (hb : NSs X Yd body tb)
    (hs : ∀ x, foldedSetIterable iter X.env x = pure x := by intro _; rfl) : NS X Yd (.For tg iter body [] pos) (tGFor wi g tb) := by
  refine ⟨fun A Z ip R n ys z c fs K J gd lv s σ H D gc hn k hI ht => ?_⟩
  rw [exec_For]
  refine seg_bind_wrap (wpAny_standAt ?_)
  obtain ⟨hz0, I⟩ := hI
  refine seg_bind_wrap ?_
  rw [gc.over]
  refine wpAny_mono (hi.run _ s σ H _ I ht) (fun v s1 h1 => ?_) fun x s' hx => k.exc n z x s' hx
  refine seg_bind_wrap ?_
  rw [gc.over]
  refine wpAny_of_eq (hs v) ?_
  refine seg_bind_wrap (wpAny_standAt ?_)
  refine seg_bind_wrap ?_
  rw [gc.over]
  refine wpAny_holding (wpAny_mono h1 (fun itv s2 h2 => ?_) fun x s' hx => k.exc n z x s' hx)
  obtain ⟨it, fp, tn, It0, H2, e, I2, T, st2, f2, W, ⟨m0, w0⟩, turn⟩ := h2
  subst e
  refine seg_call fun p => ?_
  have gl := fun (kk : Result → Sem PySem.Fin) => nc_loop (k := kk) (c1 := .forLoop tg (.ref it) body [] X.env) (l := lv []) (kp := []) (p := p) gc rfl rfl
  have fZ : ∀ b ∈ fp, b ∉ Z := fun b hb hbz => by
    obtain ⟨o, ho, _⟩ := hz0 b hbz
    exact (f2 b hb).2.2.2.2.2 (b, o) (List.mem_append_right _ (List.mem_append_left _ (mem_pinsAt hbz ho))) rfl
  have stat : ∀ {z' : Shared} {H' : Hp}, (∀ b ∈ fp, H' b = none) → ∀ b ∈ fp, FpOk X (pinsAt Z z'.heap ++ ip) H' b := fun {z' H'} hn b hb => by
    obtain ⟨f0, f1, f2', f3, f4, f5⟩ := f2 b hb
    refine ⟨hn b hb, f1, f2', f3, f4, fun q hq => ?_⟩
    rcases List.mem_append.mp hq with hq | hq
    · exact f5 q (List.mem_append_left _ hq)
    · rcases List.mem_append.mp hq with hq | hq
      · exact fun e => fZ b hb (e ▸ (of_pinsAt hq).1)
      · exact f5 q (List.mem_append_right _ (List.mem_append_right _ hq))
  have loop : ∀ (m i n : Nat) (ys : List V) (z s : Shared) (σ : L2.St) (H : Hp), n + ys.length = sizeLine → W i m ys σ H → AtW X Z z ip σ H s → tn i s.heap → (∀ b ∈ fp, H b = none) →
      Seg (model X.prog X.w) A R (NY X Z Yd) n z (.forLoop tg (.ref it) body [] X.env) ((model X.prog X.w).den (.forLoop tg (.ref it) body [] X.env))
        (.ret (fun r => ((match r with | .ok f => (.pure f : Sem Flow) | .error e => .raise e).onRaise (cameBack X.env)).wrap K J gd lv) none (gd false) (lv []) c p [] :: fs) s := by
    intro m
    induction m using Nat.strongRecOn with
    | ind m ih =>
      intro i n ys z s σ H hn w hI hst hfr
      have ee : ∀ (n : Nat) (z : Shared) (x : Value) (s' : Shared), X.xe x s' → Seg (model X.prog X.w) A R (NY X Z Yd) n z (.forLoop tg (.ref it) body [] X.env)
          ((do noteFrame x X.env; theTreesLotGoes x : Sem Unit).bind fun _ => .raise x)
          (.ret (fun r => ((match r with | .ok f => (.pure f : Sem Flow) | .error e => .raise e).onRaise (cameBack X.env)).wrap K J gd lv) none (gd false) (lv []) c p [] :: fs) s' := fun n z x s' hx => by
        rw [Sem.bind_eq_wrap]
        refine seg_wrap ?_
        rw [(gl _).over]
        refine wpAny_bind (wpAny_mono (hp x s' hx) (fun _ s2 hcb => wpAny_theTreesLotGoes ?_) fun y s2 hcb => ?_)
        · exact seg_leaf (.error x) (seg_backN gc k hcb)
        · exact seg_leaf (.error y) (seg_backN gc k hcb)
      show Seg _ _ _ _ _ _ _ ((forTurn tg (.ref it) body [] X.env).onRaise (fun x => do noteFrame x X.env; theTreesLotGoes x)) _ _
      rw [Sem.onRaise_eq_wrap]
      simp only [forTurn]
      refine seg_bind_wrap (wpAny_standAt ?_)
      refine seg_bind_wrap ?_
      rw [(gl _).over]
      obtain ⟨hz, I⟩ := hI
      rcases turn i m ys σ H w with ⟨stop, qn⟩ | ⟨go, N, hN, step⟩
      · refine wpAny_onRaise (wpAny_mono (T.done X rfl rfl rfl hc i _ s σ H X.xe I (stat hfr) hst stop) (fun a s4 ⟨ha, I4⟩ => ?_) fun x s4 hx => wpAny_standAt (ee n z x s4 hx))
        subst ha
        refine seg_again rfl ?_
        show Seg _ _ _ _ _ _ _ (((execs [] X.env).onRaise (fun x => do noteFrame x X.env; theTreesLotGoes x)).bind fun f => .pure (.done f)) _ _
        exact seg_leaf (.ok .next) (k.ok n ys z s4 .next hn ⟨σ, H, ⟨hz, I4⟩, qn⟩)
      · refine wpAny_onRaise (wpAny_mono (T.item X rfl rfl rfl hc i _ s σ H X.xe I (stat hfr) hst go) (fun a s4 ⟨u, ha, h4⟩ => ?_) fun x s4 hx => wpAny_standAt (ee n z x s4 hx))
        subst ha
        refine seg_bind_wrap ?_
        rw [(gl _).over]
        refine wpAny_mono h4 (fun _ s5 ⟨x, H5, I5, r5, y5, st5, fr5⟩ => ?_) fun x s' hx => ee n z x s' hx
        have I5' := I5.pinned (stat fr5) (T.obj _ _ st5)
        refine seg_bind_wrap ?_
        rw [(gl _).over]
        refine wpAny_mono (hg.run _ s5 σ H5 x u _ I5' r5 (step x H5 y5)) (fun _ s6 ⟨σ6, H6, I6, q6⟩ => ?_) fun x s' hx => ee n z x s' hx
        rw [Sem.bind_eq_wrap', Sem.wrap_wrap]
        have g6 := gl fun (r : Result) => ((match r with | .ok f => (.pure f : Sem Flow) | .error e => .raise e).onRaise (cameBack X.env)).wrap K J gd lv
        have G6 : AtW X Z z (ip ++ pinsAt fp s5.heap) σ6 H6 s6 := ⟨hz, by rw [← List.append_assoc]; exact I6⟩
        have ip6 : ∀ q ∈ ip ++ pinsAt fp s5.heap, q.1 ∉ Z := fun q hq => (List.mem_append.mp hq).elim (gc.ip q) fun hq => fZ _ (of_pinsAt hq).1
        have gc6 : NC X Z (ip ++ pinsAt fp s5.heap) A (.forLoop tg (.ref it) body [] X.env) _ id := { g6 with ip := ip6 }
        have less : ∀ {z7 s7 : Shared} {σ7 : L2.St} {H7 : Hp}, AtW X Z z7 (ip ++ pinsAt fp s5.heap) σ7 H7 s7 → AtW X Z z7 ip σ7 H7 s7 := fun {z7 s7 σ7 H7} G7 =>
          ⟨G7.zo, G7.inv.pins_of fun q hq => G7.inv.pin q (List.mem_append_right _ ((List.mem_append.mp hq).elim (fun h => List.mem_append_left _ h) fun h => List.mem_append_right _ (List.mem_append_left _ h)))⟩
        have again : ∀ {n7 : Nat} {ys7 : List V} {z7 s7 : Shared} {σ7 : L2.St} {H7 : Hp}, n7 + ys7.length = sizeLine → AtW X Z z7 (ip ++ pinsAt fp s5.heap) σ7 H7 s7 → N ys7 σ7 H7 →
            Seg (model X.prog X.w) A R (NY X Z Yd) n7 z7 (.forLoop tg (.ref it) body [] X.env) (.pure (.again (.forLoop tg (.ref it) body [] X.env)))
              (.ret (fun r => ((match r with | .ok f => (.pure f : Sem Flow) | .error e => .raise e).onRaise (cameBack X.env)).wrap K J gd lv) none (gd false) (lv []) c p [] :: fs) s7 := fun {n7 ys7 z7 s7 σ7 H7} hn7 G7 n7' => by
          obtain ⟨m7, hm, w7⟩ := hN _ _ _ n7'
          have pin7 : ∀ b ∈ fp, ∀ o, s5.heap.get? b = some o → s7.heap.get? b = some o ∧ H7 b = none := fun b hb o e => by
            obtain ⟨a1, a2, _⟩ := G7.inv.pin (b, o) (List.mem_append_right _ (List.mem_append_right _ (List.mem_append_right _ (mem_pinsAt hb e))))
            exact ⟨a1, a2⟩
          refine seg_again rfl (ih m7 hm (i + 1) n7 ys7 z7 s7 σ7 H7 hn7 w7 (less G7) (T.keep _ _ _ st5 fun b hb o e => (pin7 b hb o e).1) fun b hb => ?_)
          obtain ⟨o, e, d⟩ := T.obj _ _ st5 b hb
          exact (pin7 b hb o e).2
        refine hb.run A Z _ R n ys z _ _ _ _ id id s6 σ6 H6 { D with nx := N, ct := N, bk := D.nx } gc6 hn ⟨fun n7 ys7 z7 s7 f hn7 hs => ?_, fun n7 z7 x s7 hx => ee n7 z7 x s7 hx⟩ G6 q6
        cases f with
        | next =>
          obtain ⟨σ7, H7, I7, q7⟩ := hs
          exact again hn7 I7 q7
        | cont =>
          obtain ⟨σ7, H7, I7, q7⟩ := hs
          exact again hn7 I7 q7
        | brk =>
          obtain ⟨σ7, H7, I7, q7⟩ := hs
          exact seg_leaf (.ok .next) (k.ok n7 ys7 z7 s7 .next hn7 ⟨σ7, H7, less I7, q7⟩)
        | ret v =>
          obtain ⟨x7, σ7, H7, I7, r7, q7⟩ := hs
          exact seg_leaf (.ok (.ret v)) (k.ok n7 ys7 z7 s7 (.ret v) hn7 ⟨x7, σ7, H7, less I7, r7, q7⟩)
  exact loop m0 0 n ys z s2 σ H2 hn w0 ⟨hz0, I2⟩ st2 fun b hb => (f2 b hb).1
end
/-- a promise of such a def: the arguments, the heap, what each item is to be, what the end is to be -/
abbrev SpN := List V → Hp → YdK → (List V → Hp → Prop) → Prop
/-- it is at its end: all that came out, what stands -/
def NFin (P : Program) (w : World) (outer : List Env) (H : Hp) (s : Shared) (Z : List Addr) (Q : List V → Hp → Prop) (n : Nat) (z s1 : Shared) : Prop :=
  ∃ H' ys, n + ys.length = sizeLine ∧ s1.os = s.os ∧ AllBare s1.gens ∧ Un (frs outer) [] H H' s.heap s1.heap ∧ HOk P w H' s1.heap ∧ (∀ b ∈ Z, H' b = none ∧ s1.heap.get? b = z.heap.get? b) ∧ Q ys H'
def NEnd (P : Program) (w : World) (outer : List Env) (H : Hp) (s : Shared) (Z : List Addr) (Q : List V → Hp → Prop) : GenEnd := fun n z r s1 =>
  ((r = .ok (.ret .none) ∨ r = .ok .next) ∧ NFin P w outer H s Z Q n z s1) ∨ ∃ e, r = .error e ∧ False
def NItem (P : Program) (w : World) (outer : List Env) (H : Hp) (s : Shared) (Z : List Addr) (a : Addr) (g : Nat) (Yd : YdK) : Protocol := fun n z v s1 kap =>
  ∃ H' ys x, n + 1 + ys.length = sizeLine ∧ RelV x v ∧ s1.os = s.os ∧ AllBare s1.gens ∧ s1.heap.NoLimit ∧ s1.heap.IsGen a g ∧ Un (frs outer) [] H H' s.heap s1.heap ∧ HOk P w H' s1.heap ∧ (∀ b ∈ Z, H' b = none ∧ s1.heap.get? b = z.heap.get? b) ∧ Yd ys x H' ∧
    ∀ s2, Nap Z s1 s2 → kap (.send .none) s2
def NMade (P : Program) (w : World) (k : Nat) (outer : List Env) (H : Hp) (s : Shared) (Yd : YdK) (Q : List V → Hp → Prop) (u : Value) (s' : Shared) : Prop :=
  ∃ (a : Addr) (g : Nat) (c : Code), u = .ref a ∧ s.heap.objs.size ≤ a ∧ a < s'.heap.objs.size ∧ s'.heap.IsGen a g ∧ s'.gens[g]? = some (.fresh c) ∧ s'.os = s.os ∧ AllBare s'.gens ∧ s'.heap.NoLimit ∧ (∀ b o, s.heap.get? b = some o → s'.heap.get? b = some o) ∧
    ∀ (A : Around) (Z : List Addr) (s2 : Shared), Room k A → A.frames = some outer → (∀ b ∈ Z, s'.heap.objs.size ≤ b ∧ ∃ o, s2.heap.get? b = some o ∧ ∀ v, o.data ≠ .cell v) → (∀ b o, s'.heap.get? b = some o → s2.heap.get? b = some o) → s2.os = s.os → AllBare s2.gens →
      Seg (model P w) A (NEnd P w outer H s Z Q) (NItem P w outer H s Z a g Yd) sizeLine s2 c ((model P w).den c) [] s2
structure NFn (P : Program) (w : World) (K : PySem.W.Frag) (mg : Str → Option Value) (base : Heap) (k : Nat) (f : Addr) (fd : FuncData) (ps : List Str) (sp : SpN) : Prop where
  len : ∀ vs H Yd Q, sp vs H Yd Q → vs.length = ps.length
  run : ∀ (A : Around) (outer : List Env) (s : Shared) (H : Hp) (args : Args) (us : List Value) (vs : List V) (Yd : YdK) (Q : List V → Hp → Prop), Room k A → Env0 P w K mg base A outer s H → BindsTo s fd args (ps.zip us) → Vals vs us → sp vs H Yd Q →
    codeAny (model P w) A (.call (.ref f) args) (fun r s' => match r with | .ok (.ret u) => NMade P w k outer H s Yd Q u s' | _ => False) s
theorem nfn_of {P : Program} {w : World} {K : PySem.W.Frag} {mg : Str → Option Value} {base : Heap} {k : Nat} {f : Addr} {name qual : Str} {params : Arguments} {body : List Stmt} {scope : Scope} {dV kV doc pm cdv ct oc : Value} {an od : Option Addr}
    {osl : Array (Option Value)} {N ps : List Str} {sp : SpN} (lk : K.lookup f = some ⟨oc, od, .func (PySem.W.fnOf name qual params body scope dV kV doc pm an cdv ct), osl⟩) (hcd : PySem.W.codeIn K cdv qual = true) (S : GScope N ps scope)
    (len : ∀ vs H Yd Q, sp vs H Yd Q → vs.length = ps.length)
    (hbody : ∀ (A : Around) (outer : List Env) (s : Shared) (H : Hp) (vs : List V) (Yd : YdK) (Q : List V → Hp → Prop) (pn : List (Addr × Obj)), Room k (A.deeper (envOfC qual scope s.heap.objs.size f cdv)) → sp vs H Yd Q →
      ∃ t, NSs (gcxOf P w K mg base N qual scope f cdv A outer s H E0 pn) Yd body t ∧ t { nx := fun ys _ H' => Q ys H', rt := fun ys v H' => v = .non ∧ Q ys H' } [] (start N vs) H) :
    NFn P w K mg base (k + 1) f (PySem.W.fnOf name qual params body scope dV kV doc pm an cdv ct) ps sp := by
  refine ⟨len, fun A outer s H args us vs Yd Q hr e0 hb r hsp => ?_⟩
  have hl := len _ _ _ _ hsp
  have KX : K.In s.heap := e0.mod.kin.keeps fun b o e => (e0.bs b o e).1
  have lim : s.heap.NoLimit := e0.mod.nolimit.keeps fun b o e => (e0.bs b o e).1
  have hkind : ∀ y ∈ ps.zip us, scope.names.lookup y.1 = some .local ∨ (scope.names.lookup y.1 = some .cell ∧ ((cellsFrom (s.heap.objs.size + 1) scope.names []).lookup y.1).isSome = true) := fun ⟨n, v⟩ hy => by
    rcases S.par n (List.of_mem_zip hy).1 with q | q
    · exact .inl q
    · exact .inr ⟨q, PySem.W.cellsFrom_some _ _ _ (.inl q)⟩
  refine codeAny_call_generator hr.depth (KX _ _ lk) rfl S.co S.gen rfl (PySem.W.codeRec_of KX hcd) (hb _ _ _ _ ?_)
  refine wpAny_newFunctionEnv_cells S.kind hkind fun env he s1 x => ?_
  subst he
  have lim1 : s1.heap.NoLimit := lim.keeps x.toInCall.keep
  refine ⟨lim1, ?_⟩
  obtain ⟨h1, tk, es1, hk1⟩ := x.done
  have os1 : s1.os = s.os := by rw [es1]
  have gen1 : s1.gens = s.gens := by rw [es1]
  have lt1 : s.heap.objs.size < s1.heap.objs.size := x.toInCall.ns.lt
  have sz1 : s.heap.objs.size ≤ s1.heap.objs.size := Nat.le_of_lt lt1
  have kp1 : ∀ b o, s.heap.get? b = some o → s1.heap.get? b = some o := x.toInCall.keep
  have main : ∀ (go : Obj) (nm qn : Value) (tk2 : Nat), go.cls = .type "generator" → go.data = .fields #[.int s1.gens.size 0, nm, qn] → go.slots = #[] → (∀ h : Heap, (h.push go).get? h.objs.size = some go) →
      NMade P w (k + 1) outer H s Yd Q (.ref s1.heap.objs.size) { s1 with gens := s1.gens.push (.fresh (.func body (envOfC qual scope s.heap.objs.size f cdv))), toks := tk2, heap := s1.heap.push go } := by
    intro go nm qn tk2 hgc hgd0 hgs hgp
    have hgen : ∀ h : Heap, h.get? s1.heap.objs.size = some go → h.IsGen s1.heap.objs.size s1.gens.size := fun h e => ⟨go, nm, qn, e, hgc, hgd0, hgs⟩
    have hpushed : (s1.heap.push go).get? s1.heap.objs.size = some go := hgp _
    refine ⟨s1.heap.objs.size, s1.gens.size, _, rfl, sz1, ?_, hgen _ hpushed, Array.getElem?_push_size .., os1, ?_, lim1.keeps fun b o e => Heap.get?_push_of_some _ e, fun b o e => Heap.get?_push_of_some _ (kp1 b o e), ?_⟩
    · show _ < (s1.heap.push _).objs.size
      rw [Heap.size_push]; exact Nat.lt_succ_self _
    · exact AllBare.push (by rw [gen1]; exact e0.bare) rfl
    intro Aw Z s2 hrw hfr hZ hk2 hos hba
    have e0w : Env0 P w K mg base Aw outer s H := ⟨hfr, e0.mod, e0.bs, e0.bsz, e0.funs, e0.frf, e0.hok, e0.bare⟩
    obtain ⟨t, ht, hq⟩ := hbody Aw outer s H vs Yd Q [(s1.heap.objs.size, go)] (hrw.deeper _) hsp
    have I1 : Inv (gcxOf P w K mg base N qual scope f cdv Aw outer s H E0 []) [] (start N vs) H s1 := inv_startG S hrw.hd e0w hl r x
    have kp2 : ∀ b o, s1.heap.get? b = some o → s2.heap.get? b = some o := fun b o e => hk2 b o (Heap.get?_push_of_some _ e)
    have I2 : Inv (gcxOf P w K mg base N qual scope f cdv Aw outer s H E0 []) [] (start N vs) H s2 :=
      I1.call' (ch := []) (hos.trans os1.symm) (Un.kept kp2) (I1.hok.kept kp2) hba fun b hb => by cases hb
    have hZlt : ∀ b ∈ Z, s1.heap.objs.size < b := fun b hb => by
      have h := (hZ b hb).1
      have h : (s1.heap.push go).objs.size ≤ b := h
      rw [Heap.size_push] at h
      exact h
    have hea : s2.heap.get? s1.heap.objs.size = some go := hk2 s1.heap.objs.size go hpushed
    have hgd : ∀ v, go.data ≠ .cell v := fun v q => by rw [hgd0] at q; cases q
    have young : ∀ b, s1.heap.objs.size ≤ b → H b = none ∧ b ≠ s.heap.objs.size ∧ b ∉ frs outer ∧ s.heap.objs.size ≤ b ∧ ∀ y c, (cellsFrom (s.heap.objs.size + 1) scope.names []).lookup y = some c → c ≠ b := fun b hb => by
      refine ⟨I1.hok.fresh hb, Nat.ne_of_gt (Nat.lt_of_lt_of_le lt1 hb), I1.nofs hb, Nat.le_trans sz1 hb, fun y c e z => ?_⟩
      obtain ⟨v, ob, ho, _⟩ := I1.cell y c e
      have := Heap.lt_size ho
      rw [z] at this
      exact absurd (Nat.lt_of_lt_of_le this hb) (Nat.lt_irrefl _)
    have I3 : Inv (gcxOf P w K mg base N qual scope f cdv Aw outer s H E0 [(s1.heap.objs.size, go)]) [] (start N vs) H s2 := Inv.pinnedG I2 fun q hq => by
      rcases List.mem_append.mp hq with hq | hq
      · rw [List.mem_singleton.mp hq]
        obtain ⟨y1, y2, y3, _, _⟩ := young s1.heap.objs.size (Nat.le_refl _)
        exact ⟨hea, y1, y2, y3, hgd⟩
      · cases hq
    have hW : AtW (gcxOf P w K mg base N qual scope f cdv Aw outer s H E0 [(s1.heap.objs.size, go)]) Z s2 [] (start N vs) H s2 := AtW.mk' I3 (fun b hb => (hZ b hb).2) fun b hb => by
      obtain ⟨y1, y2, y3, _, _⟩ := young b (Nat.le_of_lt (hZlt b hb))
      exact ⟨rfl, y1, y2, y3⟩
    have hpn : ∀ q ∈ [(s1.heap.objs.size, go)], q.1 ∉ Z := fun q hq hb => by
      rw [List.mem_singleton.mp hq] at hb
      exact absurd (hZlt _ hb) (Nat.lt_irrefl _)
    have far : FarOf (gcxOf P w K mg base N qual scope f cdv Aw outer s H E0 [(s1.heap.objs.size, go)]) Z := fun b hb => by
      obtain ⟨_, y2, _, y4, y5⟩ := young b (Nat.le_of_lt (hZlt b hb))
      exact ⟨y4, y2, y5⟩
    have pinned : ∀ {z : Shared} {ip : List (Addr × Obj)} {s3 : Shared} {σ3 : L2.St} {H3 : Hp}, AtW (gcxOf P w K mg base N qual scope f cdv Aw outer s H E0 [(s1.heap.objs.size, go)]) Z z ip σ3 H3 s3 → s3.heap.IsGen s1.heap.objs.size s1.gens.size := fun {z ip s3 σ3 H3} hI =>
      hgen _ (hI.inv.pin (s1.heap.objs.size, go) (List.mem_append_left _ (List.mem_singleton.mpr rfl))).1
    refine seg_func ?_
    refine seg_imp (R := NR (gcxOf P w K mg base N qual scope f cdv Aw outer s H E0 [(s1.heap.objs.size, go)]) Z (fun ys v H' => v = .non ∧ Q ys H') fun _ _ => False)
      (Y := NY (gcxOf P w K mg base N qual scope f cdv Aw outer s H E0 [(s1.heap.objs.size, go)]) Z Yd) (fun n z r s3 hR => ?_) (fun n z v s3 kap kap' hkk hY => ?_) sizeLine ?_
    · cases r with
      | error e => exact False.elim hR
      | ok fl =>
        cases fl with
        | next => exact False.elim hR
        | brk => exact False.elim hR
        | cont => exact False.elim hR
        | ret u =>
          obtain ⟨ys, v, ip, σ3, H3, hn, hI, rv, ev, hQ⟩ := hR
          subst ev
          have eu : u = Value.none := rv
          subst eu
          exact .inl ⟨.inl rfl, H3, ys, hn, hI.inv.os, hI.inv.bare, hI.inv.base, hI.inv.hok, fun b hb => ⟨(hI.at hb).2.1, (hI.at hb).1⟩, hQ⟩
    · obtain ⟨ys, xx, ip, σ3, H3, hn, h2, hI, hyd, h3⟩ := hY
      exact ⟨H3, ys, xx, hn, h2, hI.inv.os, hI.inv.bare, hI.inv.nolimit, pinned hI, hI.inv.base, hI.inv.hok, fun b hb => ⟨(hI.at hb).2.1, (hI.at hb).1⟩, hyd, fun s4 nap => hkk _ _ (h3 s4 nap)⟩
    · refine ht.run Aw Z [] _ sizeLine [] s2 _ [] _ _ id id s2 (start N vs) H _ ⟨hpn, fun q hq => (by cases hq), far, over_func, rfl, rfl, rfl⟩ (Nat.add_zero _) ⟨fun n ys z s3 fl hn hs => ?_, fun n z e s3 hx => ?_⟩ hW hq
      · cases fl with
        | next =>
          obtain ⟨σ3, H3, hI, hQ⟩ := hs
          exact seg_end (.ok (.ret .none)) ⟨ys, .non, [], σ3, H3, hn, hI, rfl, rfl, hQ⟩
        | brk => obtain ⟨_, _, _, q⟩ := hs; exact False.elim q
        | cont => obtain ⟨_, _, _, q⟩ := hs; exact False.elim q
        | ret u =>
          obtain ⟨v, σ3, H3, hI, rv, ev, hQ⟩ := hs
          exact seg_end (.ok (.ret u)) ⟨ys, v, [], σ3, H3, hn, hI, rv, ev, hQ⟩
      · refine seg_wrap ?_
        rw [over_func]
        refine wpAny_mono (show wpAny (model P w) (Aw.deeper (envOfC qual scope s.heap.objs.size f cdv)) (leaving (envOfC qual scope s.heap.objs.size f cdv) e) (fun _ s4 => CX P w outer H s E0 e s4 ∧ ∀ p ∈ [(s1.heap.objs.size, go)], s4.heap.get? p.1 = some p.2) (fun _ _ => False) s3 from hx) (fun _ s4 q => ?_) fun _ s4 q => q.elim
        obtain ⟨⟨_, _, _, _, _, _, _, _, _, _, _, _, q⟩, _⟩ := q
        exact q.elim
  exact main _ _ _ _ rfl rfl rfl fun h => Heap.get?_push_size _ rfl
/-- such a def, by its body -/
theorem nap_ok {P : Program} {w : World} {K : PySem.W.Frag} {mg : Str → Option Value} {base : Heap} {x qual : Str} {st : Stmt} {f : Addr} {fd : FuncData} {N ps : List Str} {k : Nat} {sp : SpN} (F : L2.Fun K x qual st f fd) (S : GScope N ps (defScope st)) (len : ∀ vs H Yd Q, sp vs H Yd Q → vs.length = ps.length)
    (hbody : ∀ (cdv : Value) (A : Around) (outer : List Env) (s : Shared) (H : Hp) (vs : List V) (Yd : YdK) (Q : List V → Hp → Prop) (pn : List (Addr × Obj)), Room k (A.deeper (envOfC qual (defScope st) s.heap.objs.size f cdv)) → sp vs H Yd Q →
      ∃ t, NSs (gcxOf P w K mg base N qual (defScope st) f cdv A outer s H E0 pn) Yd (defBody st) t ∧ t { nx := fun ys _ H' => Q ys H', rt := fun ys v H' => v = .non ∧ Q ys H' } [] (start N vs) H) : NFn P w K mg base (k + 1) f fd ps sp := by
  obtain ⟨oc, od, kV, doc, pm, an, cdv, ct, osl, rfl, lk, hcd⟩ := F.ex
  exact nfn_of lk hcd S len fun A outer s H vs Yd Q pn hr hsp => hbody cdv A outer s H vs Yd Q pn hr hsp
structure NCal (P : Program) (w : World) (K : PySem.W.Frag) (mg : Str → Option Value) (base : Heap) (k : Nat) (x : Str) (sp : SpN) : Prop where
  ex : ∃ (f : Addr) (fd : FuncData) (ps : List Str), NFn P w K mg base k f fd ps sp ∧ mg x = some (.ref f) ∧ PySem.W.keepIn K (.ref f) = true ∧ Binds K fd ps []
end Gc

/-! [y[k] for y in g(..)] -/
namespace Gc
open PySem PySem.Spec PyProof.Rows GenW L2
section
variable {X : Cx} {k : Nat} {x : Str} {sp : SpN} {p p0 pos pos' : Pos} {e : Expr} {es : List Expr} {t : TA}
/-- g(e, ..): a generator that has not begun -/
theorem pnap_call {α : Type} (Ydf : α → YdK) (Qo : α → List V → Hp → Prop) (c : NCal X.prog X.w X.K X.mg X.base k x sp) (hr : Room k X.A) (hg : Gl X x) (ha : PA X (e :: es) t) {pins : List (Addr × Obj)} {s : Shared} {σ : L2.St} {H : Hp} (I : Inv X pins σ H s)
    (h : t σ H fun vs H1 => ∃ o, sp vs H1 (Ydf o) (Qo o)) (hdb : (x == ("__debug__" : Str)) = false := by decide) (he : starEach (e :: es) X.env = (false, eval e X.env) :: starEach es X.env := by rfl) (hpl : (backTo pos' (starEach es X.env)).any (·.1) = false := by rfl) :
    wpAny (model X.prog X.w) X.A (eval (.Call (.Name x p) (e :: es) [] pos') X.env) (fun u s' => ∃ H1 sc o, Inv X pins σ H1 sc ∧ NMade X.prog X.w k X.stack H1 sc (Ydf o) (Qo o) u s') X.xe s := by
  obtain ⟨f, fd, ps, F, hm, hk, hb⟩ := c.ex
  refine wpAny_Call_Name_kw (ld_glob I hg hm ?_ hdb)
  refine PySem.W.callWith_K (h₀ := X.base) I.ok.mod.kin hk (thn (ha.run pos' pins s σ H _ I h) fun us s1 ⟨vs, H1, I1, r, o, q⟩ => ⟨I1.kIn, ?_⟩) he hpl
  have hl : us.length = ps.length := by rw [← r.length]; exact F.len _ _ _ _ q
  refine wpAny_call (codeAny_mono (F.run X.A X.stack s1 H1 ⟨us, []⟩ us vs _ _ hr I1.env0 (by have := hb s1 us I1.kIn (by rw [List.append_nil]; exact hl); rw [List.append_nil] at this; exact this) r q) fun r s2 hq => ?_)
  cases r with
  | error e => exact False.elim hq
  | ok fl =>
    cases fl with
    | ret u => exact ⟨H1, s1, o, I1, hq⟩
    | next => exact False.elim hq
    | brk => exact False.elim hq
    | cont => exact False.elim hq
end
/-- what the items must be: of each the k-th part is what stands in out -/
def YdIx (K : PySem.W.Frag) (j : Int) (out : List V) : YdK := fun ys x H => ∃ q xs y, x = .ref q ∧ SqT K H q xs ∧ atI xs j = some y ∧ out[ys.length]? = some y
def tLcIx (K : PySem.W.Frag) (j : Int) (sp : SpN) (t : TA) : TE := fun σ H Q => t σ H fun vs H1 => ∃ out, sp vs H1 (YdIx K j out) fun ys H2 => ys.length = out.length ∧ ∀ D, H2 D = none → Q (.ref D) (upd H2 D (.lst out))
theorem ns_ne_tup {h : Heap} {C q : Addr} {m : Str → Option Value} {items : Array Value} (a : h.Ns C m) (b : IsTup h q items) : q ≠ C := by
  rintro rfl
  obtain ⟨o, es, ep, ho, hd, _⟩ := a
  obtain ⟨o', ho', _, n, hd'⟩ := b
  rw [ho] at ho'
  cases ho'
  rw [hd] at hd'
  cases hd'
section
variable {X : Cx} {k : Nat} {x : Str} {sp : SpN} {p pos' : Pos} {e : Expr} {es : List Expr} {t : TA}
theorem lcn_core {y : Str} {py py2 cp spos pos pos2 : Pos} {ck : Nat} {j : Int} {scope : Scope} {own : List (Str × Nat)} {pins : List (Addr × Obj)} {s : Shared} {σ : L2.St} {H : Hp} {Q : VK} {use : Option (Value → Sem Unit)} {Qf : Value → Shared → Prop}
    (hc : X.calm = true) (c : NCal X.prog X.w X.K X.mg X.base k x sp) (hr : Room (k + 3) X.A) (hg : Gl X x) (ha : PA X (e :: es) t) (ok : BlkOk X.N X.env.scope scope own) (hy : scope.names.lookup y = some .local) (I : Inv X pins σ H s)
    (h : tLcIx X.K j sp t σ H Q)
    (hRR : ∀ D C s' m H', Inv X pins σ H' s' → Q (.ref D) H' → s'.heap.Ns C m → FpOk X pins H' C → compPost (model X.prog X.w) X.A X.xe use Qf (.ref D) C (.ok .next) s')
    (hs : ∀ v, foldedSetIterable (.Call (.Name x p) (e :: es) [] pos') X.env v = pure v := by intro _; rfl) (hix : PlainIx (.Constant (.int j) ck cp) := by intro _ _; rfl) (hdb : (x == ("__debug__" : Str)) = false := by decide) (hdy : (y == ("__debug__" : Str)) = false := by decide)
    (he : starEach (e :: es) X.env = (false, eval e X.env) :: starEach es X.env := by rfl) (hpl : (backTo pos' (starEach es X.env)).any (·.1) = false := by rfl) :
    wpAny (model X.prog X.w) X.A (comprehension (.ListComp (.Subscript (.Name y py2) (.Constant (.int j) ck cp) spos) [⟨.Name y py, .Call (.Name x p) (e :: es) [] pos', [], 0⟩] scope pos) scope X.env pos2 (newList []) false (eval (.Call (.Name x p) (e :: es) [] pos') X.env) use) Qf X.xe s := by
  have hfree : ∀ y ∈ scope.names, y.2 = .free → ∃ c, X.env.cells.lookup y.1 = some c := fun y hy e => by
    rcases ok.free y hy e with q | q
    · exact I.ok.has _ (.inl q)
    · exact I.ok.has _ (.inr q)
  refine wpAny_comprehension_free (use := use) rfl hs (closure_ok hfree) ok.kind (fun y hy e => by rw [ok.uniq y hy, e])
    (thn (pnap_call (fun out => YdIx X.K j out) (fun out ys H2 => ys.length = out.length ∧ ∀ D, H2 D = none → Q (.ref D) (upd H2 D (.lst out))) c (hr.mono (by omega)) hg ha I h hdb he hpl) fun u s1 ⟨H1, sc, out, I1, hG⟩ => ?_)
  obtain ⟨a, g, code, rfl, ha1, ha2, hgen, hgs, hos, hb, hl, hkp, wake⟩ := hG
  refine wpAny_pyIter_gen hgen ?_
  refine wpAny_newObj_type (newEnv_comp ?_) (by show 0 ≤ sizeLine; decide)
  generalize hD : s1.heap.objs.size = D
  generalize hs3 : ({ s1 with heap := s1.heap.push { cls := .type "list", data := .seq ([] : List Value).toArray } } : Shared) = s3
  have h3 : s3.heap = s1.heap.push { cls := .type "list", data := .seq ([] : List Value).toArray } := by rw [← hs3]
  generalize hC : s3.heap.objs.size = C
  have eC : C = D + 1 := by rw [← hC, h3, Heap.size_push, hD]
  generalize hs4 : ({ s3 with heap := pushCells (s3.heap.push { cls := .type "dict", data := .dict #[] }) scope.names } : Shared) = s4
  have kp4 : ∀ b o, s3.heap.get? b = some o → s4.heap.get? b = some o := fun b o q => by
    rw [← hs4]
    exact pushCells_keeps _ _ _ _ (Heap.get?_push_of_some _ q)
  have kp3 : ∀ b o, s1.heap.get? b = some o → s3.heap.get? b = some o := fun b o q => by rw [h3]; exact Heap.get?_push_of_some _ q
  have kps : ∀ b o, s1.heap.get? b = some o → s4.heap.get? b = some o := fun b o q => kp4 b o (kp3 b o q)
  have hD4 : s4.heap.get? D = some (lstObj #[] 0) := kp4 _ _ (by rw [h3, ← hD]; exact Heap.get?_push_size _ rfl)
  have hC4 : s4.heap.Ns C fun _ => none := by
    rw [← hs4, ← hC]
    exact Heap.Ns.keeps (Heap.Ns.new ..) fun b o q => pushCells_keeps _ _ _ _ q
  show codeAny _ _ (.compStart (.ListComp (.Subscript (.Name y py2) (.Constant (.int j) ck cp) spos) [⟨.Name y py, .Call (.Name x p) (e :: es) [] pos', [], 0⟩] scope pos) 0 (.ref a) (.ref D) (compEnvC scope (cellsFrom (C + 1) scope.names (cloFrom X.env.cells scope.names [])) C X.env)) (compPost (model X.prog X.w) X.A X.xe use Qf (.ref D) C) s4
  generalize hce : compEnvC scope (cellsFrom (C + 1) scope.names (cloFrom X.env.cells scope.names [])) C X.env = ce
  have cL : ce.locals = C := by rw [← hce]; rfl
  have ckd : ce.scope.kind = .function := by rw [← hce]; exact ok.kind
  have cy : ce.kindOf y = some .local := by
    rw [← hce]
    exact lookup_relabel_local hy
  have hnC : ∀ {h : Heap} {m : Str → Option Value}, h.Ns C m → ∃ o, h.get? C = some o ∧ ∀ v, o.data ≠ .cell v := fun {h m} ⟨o, es, ep, ho, hd, _⟩ => ⟨o, ho, fun v q => by rw [hd] at q; cases q⟩
  have ltD : ∀ b o, s1.heap.get? b = some o → b ≠ D ∧ b ≠ C := fun b o q => by
    have := Heap.lt_size q
    rw [hD] at this
    exact ⟨Nat.ne_of_lt this, Nat.ne_of_lt (by rw [eC]; exact Nat.lt_succ_of_lt this)⟩
  have seg := wake X.A.in1 [D, C] (s4.setGen g .running) ⟨hr.hd, by have := hr.dp; show X.A.depth + 3 * k + 5 < _; omega, by have := hr.un; show X.A.units + 1 + 16 * k + 200 < _; omega⟩ I1.ok.frames (fun b hb => by
      rcases List.mem_cons.mp hb with hb | hb
      · rw [hb, hD]
        exact ⟨Nat.le_refl _, _, hD4, fun v q => by cases q⟩
      · rw [List.mem_singleton.mp hb, hD]
        exact ⟨by rw [eC]; exact Nat.le_succ D, hnC hC4⟩) kps (by rw [← hs4, ← hs3]; exact hos) (allBare_setGen (by rw [← hs4, ← hs3]; exact hb) rfl)
  have loop : codeAny (model X.prog X.w) X.A (.compLoop (.ListComp (.Subscript (.Name y py2) (.Constant (.int j) ck cp) spos) [⟨.Name y py, .Call (.Name x p) (e :: es) [] pos', [], 0⟩] scope pos) 0 (.ref a) (.ref D) ce) (compPost (model X.prog X.w) X.A X.xe use Qf (.ref D) C) s4 := by
    refine compLoop_any (fun n z => ∃ gs acc cc m, z.gens[g]? = some gs ∧ gs.Goes (model X.prog X.w) X.A.in1 (NEnd X.prog X.w X.stack H1 sc [D, C] fun ys H2 => ys.length = out.length ∧ ∀ D, H2 D = none → Q (.ref D) (upd H2 D (.lst out))) (NItem X.prog X.w X.stack H1 sc [D, C] a g (YdIx X.K j out)) n (.send .none) (z.setGen g .running) ∧
      z.heap.IsGen a g ∧ z.heap.NoLimit ∧ z.heap.get? D = some (lstObj acc cc) ∧ n + acc.size = sizeLine ∧ Vals (out.take acc.size) acc.toList ∧ z.heap.Ns C m) ?_ sizeLine ⟨.fresh code, #[], 0, _, by rw [← hs4, ← hs3]; exact hgs, ⟨rfl, seg⟩, hgen.keeps kps, hl.keeps kps, hD4, rfl, .nil, hC4⟩
    rintro n z ⟨gs, acc, cc, m, zg, go, zgen, zl, zD, hn, hv, zC⟩
    have hgl : g < z.gens.size := (Array.getElem?_eq_some_iff.mp zg).1
    have CD : C ≠ D := by rw [eC]; exact Nat.succ_ne_self D
    have inD : D ∈ [D, C] := List.mem_cons_self
    have inC : C ∈ [D, C] := List.mem_cons_of_mem _ List.mem_cons_self
    have scD : sc.heap.objs.size ≤ D := by rw [← hD]; exact Nat.le_trans ha1 (Nat.le_of_lt ha2)
    have stD : cStatics ≠ D ∧ cStatics ≠ C := by
      obtain ⟨_, hns, _⟩ := hl
      obtain ⟨o, ho⟩ : ∃ o, s1.heap.get? cStatics = some o := by
        obtain ⟨o, _, _, ho, _⟩ := hns
        exact ⟨o, ho⟩
      exact ltD _ o ho
    have aD : a ≠ D ∧ a ≠ C := by
      obtain ⟨o, _, _, ho, _⟩ := hgen
      exact ltD _ o ho
    refine wpAny_gsz (n := g + 1) hgl (next_genG (A := X.A) hr.hd zl (by have := hr.dp; omega) zgen zg go (fun v s5 gs' hbare hv5 => ?_) (fun s5 hfin h' hk => ?_) fun e s5 q => q.elim)
    · intro hsz
      obtain ⟨H', ys, xx, hn5, rv, os5, bare5, nl5, gen5, un5, hok5, hZ5, yd, kap⟩ := hv5
      obtain ⟨q, xs, yv, rfl, hq, hat, hout⟩ := yd
      have ev : v = .ref q := rv
      subst ev
      have D5 : s5.heap.get? D = some (lstObj acc cc) := (hZ5 D inD).2.trans zD
      have C5 : s5.heap.Ns C m := by
        obtain ⟨o, es, ep, ho, rr⟩ := zC
        exact ⟨o, es, ep, (hZ5 C inC).2.trans ho, rr⟩
      cases n with
      | zero =>
        refine False.elim (kap s5 ⟨rfl, bare5, fun _ _ _ e => e, fun b o hb e => ⟨o, e, fun v e2 => ?_⟩⟩)
        rcases List.mem_cons.mp hb with hb | hb
        · rw [hb, D5] at e
          cases e
          cases e2
        · rw [List.mem_singleton.mp hb] at e
          obtain ⟨o', ho', nc⟩ := hnC C5
          rw [ho'] at e
          cases e
          exact nc v e2
      | succ n =>
        have I5 : L2.Inv X pins σ H' s5 := I1.call' (ch := []) os5 un5 hok5 bare5 fun b hb => by cases hb
        obtain ⟨its, r5, pl, hz5⟩ := I5.tuple hq
        have eys : ys.length = acc.size := by omega
        obtain ⟨og, nm, qn, hog, hcl, hdg, hsl⟩ := id gen5
        refine go_of (s := s5.setGen g gs') hog hcl hdg (by decide) ?_
        refine wpAny_assign_Name (wpAny_storeName_local cy (s := s5.setGen g gs') (m := m) (by rw [cL]; exact C5) (fun h6 hn6 sb6 => ?_) (by rw [ckd]; rfl))
        rw [cL] at sb6 hn6
        have sb6' : ∀ b, b ≠ C → h6.get? b = s5.heap.get? b := fun b hb => sb6.2 b hb
        refine wpAny_tests_nil ?_
        show wpAny _ _ _ _ _ _
        have pl6 : IsTup h6 q its.toArray := by
          obtain ⟨o, ho, rr⟩ := id pl
          exact ⟨o, (sb6' q (ns_ne_tup C5 pl)).trans ho, rr⟩
        obtain ⟨i5, h1, h2, h3, h4, h5⟩ := atI_get hat
        obtain ⟨w, ew, rw5⟩ := r5.get h2
        have hl5 := r5.length
        have hn63 := line63
        have tail : ∀ (tk : Nat) (dr : Drawn) (Q2 : Value → Shared → Prop) (E2 : Value → Shared → Prop), Q2 w ⟨h6, (s5.setGen g gs').gens, dr, tk, s5.os⟩ →
            wpAny (model X.prog X.w) X.A (subscriptTail (.Name y py2) (.Constant (.int j) ck cp) (.ref q) (.int j (s5.toks + 1))) Q2 E2 ⟨h6, (s5.setGen g gs').gens, dr, tk, s5.os⟩ := fun tk dr Q2 E2 h => by
          refine subscriptTail_builtinR (x := w) (T := "tuple") pl6.typeIs slot_tuple_getitem.lookup (getItem_tuple (j := i5) pl6 ?_ ?_ ?_ ?_ ⟨rfl, h⟩) (hix _ _)
          · omega
          · omega
          · rw [List.size_toArray, ← hl5]; exact h1
          · simpa using ew
        refine Subscript_ (wpAny_Name (wpAny_loadName_local ckd cy (by rw [cL]; exact hn6) (v := .ref q) (by simp) ?_) hdy)
        refine wpAny_Constant_int (tail _ _ _ _ ?_)
        refine append_at ((sb6' D (Ne.symm CD)).trans D5) (fun h7 sb7 hD7 => ?_) (by omega)
        have sb7' : ∀ b, b ≠ D → h7.get? b = h6.get? b := fun b hb => sb7.2 b hb
        have kp7 : ∀ b o, b ∉ [D, C] → s5.heap.get? b = some o → h7.get? b = some o := fun b o hb e => by
          have bD : b ≠ D := fun e => hb (e ▸ inD)
          have bC : b ≠ C := fun e => hb (e ▸ inC)
          exact (sb7' b bD).trans ((sb6' b bC).trans e)
        have C7 : h7.Ns C fun x => if x = y then some (.ref q) else m x := by
          obtain ⟨o, es, ep, ho, rr⟩ := hn6
          exact ⟨o, es, ep, (sb7' C CD).trans ho, rr⟩
        have nin : ∀ b, b ≠ D ∧ b ≠ C → b ∉ [D, C] := fun b hb e => by
          rcases List.mem_cons.mp e with e | e
          · exact hb.1 e
          · exact hb.2 (List.mem_singleton.mp e)
        have hsz5 : g < s5.gens.size := by
          have e : (s5.setGen g gs').gens.size = s5.gens.size := setGen_size _ _ _
          have h : g + 1 ≤ (s5.setGen g gs').gens.size := hsz
          omega
        refine ⟨n, Nat.lt_succ_self n, gs', acc.push w, cc + 1, _, setGen_at hsz5, ?_, ⟨og, nm, qn, kp7 a og (nin a aD) hog, hcl, hdg, hsl⟩, ?_, hD7, by rw [Array.size_push]; omega, ?_, C7⟩
        · refine kap _ ⟨rfl, allBare_setGen (s := ⟨h7, (s5.setGen g gs').gens, _, _, s5.os⟩) (allBare_setGen bare5 hbare) rfl, kp7, fun b o hb e => ?_⟩
          rcases List.mem_cons.mp hb with hb | hb
          · exact ⟨_, by rw [hb]; exact hD7, fun v e => by cases e⟩
          · rw [List.mem_singleton.mp hb]
            exact hnC C7
        · obtain ⟨mc, hns, hnn⟩ := nl5
          exact ⟨mc, hns.at' fun o e => kp7 _ o (nin _ stD) e, hnn⟩
        · rw [Array.toList_push, Array.size_push, List.take_add_one, ← eys, hout, eys]
          exact hv.append (.cons rw5 .nil)
    · intro hsz
      obtain ⟨H', ys, hn5, os5, bare5, un5, hok5, hZ5, elen, hQ⟩ := hfin
      have eys : acc.size = out.length := by omega
      rw [eys, List.take_length] at hv
      have C5 : h'.Ns C m := by
        obtain ⟨o, es, ep, ho, rr⟩ := zC
        exact ⟨o, es, ep, hk _ _ ((hZ5 C inC).2.trans ho), rr⟩
      refine hRR D C _ m (upd H' D (.lst out)) ?_ (hQ D (hZ5 D inD).1) C5 (I1.fpOk (Nat.le_trans scD (by rw [eC]; exact Nat.le_succ D)) (by rw [upd_ne CD]; exact (hZ5 C inC).1))
      exact I1.drained (acc := acc) (c := cc) scD (by omega) (hk _ _ ((hZ5 D inD).2.trans zD)) hv .nil os5 (allBare_setGen bare5 rfl) (un5.trans (Un.kept hk)) (hok5.kept hk) (hZ5 D inD).1
  exact codeAny_compStart_list loop (wpAny_pyIter_gen (hgen.keeps kps) loop)
/-- as a value -/
theorem pe_lcN {y : Str} {py py2 cp spos pos : Pos} {ck : Nat} {j : Int} {scope : Scope} {own : List (Str × Nat)}
    (hc : X.calm = true) (c : NCal X.prog X.w X.K X.mg X.base k x sp) (hr : Room (k + 3) X.A) (hg : Gl X x) (ha : PA X (e :: es) t) (ok : BlkOk X.N X.env.scope scope own) (hy : scope.names.lookup y = some .local)
    (hs : ∀ v, foldedSetIterable (.Call (.Name x p) (e :: es) [] pos') X.env v = pure v := by intro _; rfl) (hix : PlainIx (.Constant (.int j) ck cp) := by intro _ _; rfl) (hdb : (x == ("__debug__" : Str)) = false := by decide) (hdy : (y == ("__debug__" : Str)) = false := by decide)
    (he : starEach (e :: es) X.env = (false, eval e X.env) :: starEach es X.env := by rfl) (hpl : (backTo pos' (starEach es X.env)).any (·.1) = false := by rfl) :
    PE X (.ListComp (.Subscript (.Name y py2) (.Constant (.int j) ck cp) spos) [⟨.Name y py, .Call (.Name x p) (e :: es) [] pos', [], 0⟩] scope pos) (tLcIx X.K j sp t) := by
  refine ⟨fun pins s σ H Q I h => ?_⟩
  rw [eval_ListComp]
  refine lcn_core hc c hr hg ha ok hy I h (fun D C s2 m H2 I2 q hn f => ⟨m, hn, fun h3 sb => ?_⟩) hs hix hdb hdy he hpl
  obtain ⟨f0, f1, f2, f3, f4, f5⟩ := f
  exact ⟨.ref D, H2, I2.turned (t' := s2.toks) (fun b o hb eb => (sb.2 b hb).trans eb) f0 f1 f3 f4 f5, rfl, q⟩
end
end Gc

/-! places, told item by item -/
namespace Gc
open PySem L2
/-- places of valid arguments that are possible -/
def spPlacesN (K : PySem.W.Frag) : SpN := fun vs H Yd Q => ∃ (t b l : Addr) (T : List Int) (r : Int) (g : Option Int) (xs : List V) (cs : List Cmd) (r' : Int) (g' : Option Int), vs = [.ref t, .ref b, .ref l] ∧ SqL K H t (T.map V.int) ∧ SqT K H b [.int r, optV g] ∧ SqL K H l xs ∧ CmdsOf K H xs cs ∧
  (∀ x ∈ T, 0 ≤ x) ∧ 0 ≤ r ∧ r < T.length ∧ ge g 0 ∧ AllOk cs ∧ cs.length ≤ 10000 ∧ afterL T r g cs = some (r', g') ∧ (∀ (ys : List V) (x : V) (H' : Hp) (q : Int × Option Int), ((r, g) :: trailL T r g cs)[ys.length]? = some q → SpotAt K H' x q → Yd ys x H') ∧
  ∀ (H' : Hp) (ys : List V), Same H H' → ys.length = ((r, g) :: trailL T r g cs).length → Q ys H'
section
variable {P : Program} {w : World} {K : PySem.W.Frag} {mg : Str → Option Value} {base : Heap}
theorem ok_placesN {f : Addr} {fd : FuncData} (F : Fun K "places" "places" s_places f fd) (c_run : Cal P w K mg base 4 "run" (spRun K)) (c_moved : Cal P w K mg base 3 "moved" (spMoved K)) : NFn P w K mg base 5 f fd ["text", "cursor", "commands"] (spPlacesN K) := by
  refine nap_ok F sc_places (fun vs H Yd Q h => ?_) (fun cdv A outer s H vs Yd Q pn hr h => ?_)
  · obtain ⟨t, b, l, T, r, g, xs, cs, r', g', rfl, _⟩ := h
    rfl
  · obtain ⟨t, b, l, tx, r, g, xs, cs, r', g', rfl, ht, hb, hl, hcs, nn, r0, r1, g0, ok, ln, hrun, hyd, k⟩ := h
    refine ⟨_, (nss_cons (ns_ps (ps_expr (pe_cal c_run hr (by decide) (by rfl) (pa_cons (pv 0) (pa_cons (pv 1) (pa_cons (pv 2) pa_nil))))))
      (nss_cons (ns_ps (ps_set (i := 3) sc_places.nd rfl (Or.inl rfl) (pv 1)))
      (nss_cons (ns_yield (pv 3))
      (nss_cons (ns_for owns_gcx rfl (pi_list (pv 2)) (pg_name (i := 4) sc_places.nd rfl (Or.inl rfl)) (nss_cons (ns_ps (ps_set (i := 3) sc_places.nd rfl (Or.inl rfl) (pe_cal c_moved hr (by decide) (by rfl) (pa_cons (pv 0) (pa_cons (pv 3) (pa_cons (pv 4) pa_nil))))))
      (nss_cons (ns_yield (pv 3))
      nss_nil)))
      nss_nil)))), ?_⟩
    refine ⟨_, rfl, _, rfl, _, rfl, t, b, l, tx, r, g, xs, cs, r', g', rfl, ht, hb, hl, hcs, nn, r0, r1, g0, ok, ln, hrun, fun H1 p1 e1 _ => ?_⟩
    refine ⟨_, rfl, ?_⟩
    refine ⟨Nat.zero_lt_of_lt (lt_line (n := 1) (by decide)), _, rfl, hyd [] _ _ (r, g) rfl ⟨b, rfl, seq_t e1 hb⟩, ?_⟩
    refine ⟨_, rfl, l, rfl, ⟨_, e1.seq hl⟩, ?_⟩
    refine gfor_it (walk_list (K := K) (a := l) (xs := xs)) (fun i ys σ H' => ∃ (p : Addr) (rr : Int) (gg : Option Int) (v4 : Option V) (qs : List (Int × Option Int)), σ = [some (.ref t), some (.ref b), some (.ref l), some (.ref p), v4] ∧ Same H H' ∧ SqT K H' p [.int rr, optV gg] ∧ 0 ≤ rr ∧ rr < tx.length ∧
        afterL tx rr gg (cs.drop i) = some (r', g') ∧ ys.length = i + 1 ∧ qs.length = i + 1 ∧ (r, g) :: trailL tx r g cs = qs ++ trailL tx rr gg (cs.drop i))
      ⟨b, r, g, none, [(r, g)], rfl, e1, seq_t e1 hb, r0, r1, hrun, rfl, rfl, rfl⟩ (fun i ys σ H' _ ⟨_, _, _, _, _, _, e, _⟩ => e.seq hl) (fun i x ys σ H2 H3 hi h y => ?_) (fun ys σ H2 h => ?_)
    · obtain ⟨p, rr, gg, v4, qs, rfl, e, hp, q0, q1, hgo, hys, hq, htr⟩ := h
      obtain ⟨rfl, ex⟩ := y
      obtain ⟨c, hc, hca⟩ := paired_at hcs ex
      have hdrop : cs.drop i = c :: cs.drop (i + 1) := by
        obtain ⟨h1, h2⟩ := List.getElem?_eq_some_iff.mp hc
        rw [List.drop_eq_getElem_cons h1, h2]
      rw [hdrop, afterL_cons q0 q1] at hgo
      obtain ⟨⟨r2, g2⟩, hst, hrest⟩ := Option.bind_eq_some_iff.mp hgo
      have hin := step1_in hst
      rw [hdrop, trail_step hst] at htr
      refine ⟨_, rfl, _, rfl, _, rfl, t, p, tx, rr, gg, x, c, rfl, e.seq ht, hp, hca.same e, (fun z => by rw [hst] at z; cases z), fun r3 g3 z p3 np3 => ?_⟩
      rw [hst] at z
      cases z
      have e4 := new_same (o := HO.tup [.int r2, optV g2]) np3
      have xl := hcs.len
      refine ⟨lt_line (by omega), _, rfl, hyd ys _ _ (r2, g2) (by rw [htr, hys, ← hq, List.getElem?_append_right (Nat.le_refl _), Nat.sub_self]; rfl) ⟨p3, rfl, SqT.of upd_same⟩, ?_⟩
      refine ⟨p3, r2, g2, _, qs ++ [(r2, g2)], rfl, e.trans e4, SqT.of upd_same, hin.1, hin.2, hrest, by rw [List.length_append, hys]; rfl, by rw [List.length_append, hq]; rfl, ?_⟩
      rw [htr, List.append_assoc]
      rfl
    · obtain ⟨p, rr, gg, v4, qs, rfl, e, hp, q0, q1, hgo, hys, hq, htr⟩ := h
      rw [hcs.len, List.drop_length] at htr
      have hq2 : (r, g) :: trailL tx r g cs = qs := by rw [htr]; exact List.append_nil qs
      exact k _ ys e (by rw [hq2, hys, hq, hcs.len])
end
end Gc

/-! texts and cursors of the laws k02 to k05, k43 -/
namespace Gc
open PySem L2
abbrev s_text : Stmt := top 29
abbrev s_cursor : Stmt := top 30
structure TxtSh (mg : Str → Option Value) : Prop where
  range : mg "range" = none
  len : mg "len" = none
  int : mg "int" = none
def spSheet (K : PySem.W.Frag) : Sp := fun vs H Q _ => ∃ (a d : Addr) (n : Nat) (most : Int), vs = [.ref a, .int most] ∧ Src H a d n ∧ n < 2 ^ 37 ∧ 1 ≤ most ∧ most ≤ 60 ∧
  ∀ (H' : Hp) (p : Addr) (T : List Int), Keep a d H H' → Src H' a d (n + 200) → p ≠ a → p ≠ d → H p = none → H' p = some (.lst (T.map V.int)) → (∀ x ∈ T, 0 ≤ x ∧ x < 10 ^ 30 - 98) → 1 ≤ T.length → (T.length : Int) ≤ most → Q (.ref p) H'
def spCurs (K : PySem.W.Frag) : Sp := fun vs H Q _ => ∃ (a d t : Addr) (n : Nat) (T : List Int), vs = [.ref a, .ref t] ∧ Src H a d n ∧ n < 2 ^ 37 ∧ H t = some (.lst (T.map V.int)) ∧ t ≠ a ∧ t ≠ d ∧ (∀ x ∈ T, 0 ≤ x ∧ x < 10 ^ 30 + 50) ∧ 1 ≤ T.length ∧ T.length ≤ 60 ∧
  ∀ (H' : Hp) (p : Addr) (r : Int) (g : Option Int), Keep a d H H' → Src H' a d (n + 10) → H' p = some (.tup [.int r, optV g]) → 0 ≤ r → r < T.length → (∀ x, g = some x → 0 ≤ x ∧ x ≤ 10 ^ 30 + 100 ∧ ((∀ y ∈ T, y < 10 ^ 30 - 98) → x < 10 ^ 30)) → Q (.ref p) H'
theorem at_lenS {T : List Int} {r : Int} (h0 : 0 ≤ r) (h1 : r < T.length) : ∃ x ∈ T, atI (T.map V.int) r = some (.int x) := by
  have l : r.toNat < T.length := by omega
  refine ⟨T[r.toNat], List.getElem_mem l, at_of (j := r.toNat) (by omega) ?_⟩
  rw [List.getElem?_map, List.getElem?_eq_getElem l]
  rfl
section
variable {P : Program} {w : World} {K : PySem.W.Frag} {mg : Str → Option Value} {base : Heap}
theorem sc_law_text : FnScope ["source", "most", "wide", "row"] ["source", "most"] (defScope s_text) := ⟨rfl, rfl, rfl, by decide +kernel, rfl, by decide +kernel, by decide +kernel⟩
theorem ok_sheet {f : Addr} {fd : FuncData} (F : Fun K "_law_text" "_law_text" s_text f fd) (T : TxtSh mg) (c_law_draw : Cal P w K mg base 1 "_law_draw" spDraw) : FnOk P w K mg base CX0 2 f fd ["source", "most"] (spSheet K) := by
  refine F.ok sc_law_text (fun vs H Q E h => ?_) (fun cdv A outer s H vs Q E hr h => ?_)
  · obtain ⟨a, d, n, most, rfl, _⟩ := h
    rfl
  · obtain ⟨a, d, n, most, rfl, hs, hn, m0, m1, k⟩ := h
    refine ⟨_, (pss_cons (ps_set (i := 2) sc_law_text.nd rfl (Or.inr rfl) (pe_ix ix_list (pe_lst (pa_cons pe_int (pa_cons pe_int (pa_cons pe_int (pa_cons pe_int (pa_cons (pe_op op_sub (pe_op op_pow pe_int pe_int) pe_int) pa_nil)))))) (pe_cal c_law_draw hr (by decide) (by rfl) (pa_cons (pv 0) (pa_cons pe_int pa_nil))) (fun _ _ => rfl)))
      (pss_one (ps_ret (pe_lc (own := [("row", 3)]) rfl sc_law_text.nd (pi_range1 rfl T.range (pa_cons (pe_op op_add pe_int (pe_cal c_law_draw hr (by decide) (by rfl) (pa_cons (pv 0) (pa_cons (pv 1) pa_nil)))) pa_nil)) (blkOk_by (N := ["source", "most", "wide", "row"]) (sc := defScope s_text) (by decide +kernel)) (fun _ _ _ _ _ => (pg_name (i := 3) sc_law_text.nd rfl (Or.inl rfl))) (fun _ _ _ _ _ => pts_nil) (fun _ _ _ _ _ => (pe_op op_mulW (pe_cal c_law_draw hr (by decide) (by rfl) (pa_cons (pv 0) (pa_cons (pe_op op_add (pv 2) pe_int) pa_nil))) (pe_callTy call_int1 (by rfl) T.int (by decide +kernel) (pa_cons (pe_cmpR op_gt (pe_cal c_law_draw hr (by decide) (by rfl) (pa_cons (pv 0) (pa_cons pe_int pa_nil))) pe_int (nomark _)) pa_nil)))))))), ?_⟩
    refine ⟨_, _, rfl, rfl, cpow (by decide), _, _, rfl, rfl, (by show 5 ≤ sizeLine; decide), fun p hp => ?_⟩
    obtain ⟨pa, pd⟩ := hs.off hp
    have e_H1 : Same H (upd H p (.lst [V.int 2, .int 5, .int 12, .int 400, .int (10 ^ (30 : Int).toNat - 99)])) := new_same hp
    have h_p : (upd H p (.lst [V.int 2, .int 5, .int 12, .int 400, .int (10 ^ (30 : Int).toNat - 99)])) p = some (.lst [V.int 2, .int 5, .int 12, .int 400, .int (10 ^ (30 : Int).toNat - 99)]) := upd_same
    generalize upd H p (.lst [V.int 2, .int 5, .int 12, .int 400, .int (10 ^ (30 : Int).toNat - 99)]) = H1 at e_H1 h_p ⊢
    replace hs := hs.same e_H1
    refine ⟨_, rfl, a, d, n, 5, rfl, hs, by omega, by decide, by decide, fun H2 r kp2 s2 r0 r1 => ?_⟩
    obtain ⟨wd, hw, w1, w2⟩ : ∃ m : Int, atI [V.int 2, .int 5, .int 12, .int 400, .int (10 ^ (30 : Int).toNat - 99)] r = some (.int m) ∧ 2 ≤ m ∧ m ≤ 10 ^ 30 - 99 := by
      rcases (show r = 0 ∨ r = 1 ∨ r = 2 ∨ r = 3 ∨ r = 4 by omega) with rfl | rfl | rfl | rfl | rfl
      · exact ⟨2, rfl, by decide, by decide⟩
      · exact ⟨5, rfl, by decide, by decide⟩
      · exact ⟨12, rfl, by decide, by decide⟩
      · exact ⟨400, rfl, by decide, by decide⟩
      · exact ⟨_, rfl, by decide, by decide⟩
    refine ⟨p, _, r, .int wd, rfl, rfl, SqL.of (kp2 _ _ pa pd h_p), hw, ?_⟩
    have k2 := (Keep.of (a := a) (d := d) e_H1).trans kp2
    refine ⟨_, rfl, _, rfl, a, d, _, _, rfl, s2, by omega, by omega, log9 (a := 20) (by omega) (by decide), fun H3 m kp3 s3 m30 m31 => ⟨_, _, rfl, rfl, _, rfl, by omega, by omega, fun D hD => ?_⟩⟩
    obtain ⟨Da, Dd⟩ := s3.off hD
    have k3 := k2.trans kp3
    refine lc_range (lo := 0) (fun i H' => ∃ tx : List Int, Keep a d H3 H' ∧ Src H' a d (n + 2 + 2 * i) ∧ H' D = some (.lst (tx.map V.int)) ∧ tx.length = i ∧ ∀ x ∈ tx, 0 ≤ x ∧ x < 10 ^ 30 - 98)
      ⟨[], (Keep.refl H3).new hD, (s3.same (new_same hD)).more (by omega), upd_same, rfl, (fun _ h => nomatch h)⟩ (fun i H' hi h => ?_) (fun H' h => ?_)
    · obtain ⟨tx, kp, sr, hd, tl, tb⟩ := h
      refine ⟨rfl, ?_⟩
      refine ⟨_, rfl, _, rfl, _, _, rfl, rfl, a, d, _, _, rfl, sr, by omega, by omega, log9 (a := 110) (by omega) (by decide), fun H5 x kp5 s5 x0 x1 => ?_⟩
      refine ⟨_, rfl, a, d, _, 6, rfl, s5, by omega, by decide, by decide, fun H6 y kp6 s6 y0 y1 => ⟨_, _, rfl, rfl, .inr ⟨_, rfl, _, _, rfl, rfl, wide_mul (a := 110) (b := 2) (by omega) (by split <;> decide) (by decide) (by decide) (by decide), ?_⟩⟩⟩
      have z01 : 0 ≤ x * (if decide (y > 0) = true then 1 else 0) ∧ x * (if decide (y > 0) = true then 1 else 0) < 10 ^ 30 - 98 := by
        split <;> omega
      obtain ⟨z, hz⟩ : ∃ z, z = x * (if decide (y > 0) = true then 1 else 0) := ⟨_, rfl⟩
      rw [← hz] at z01
      have hd6 := kp6 _ _ Da Dd (kp5 _ _ Da Dd hd)
      refine ⟨_, hd6, lt_line (by rw [List.length_map]; omega), tx ++ [z], fun b o n1 n2 hb => ?_, (s6.upd Da Dd).more (by omega), ?_, ?_, ?_⟩
      · rw [upd_ne (ne_of_none hb hD)]
        exact kp6 _ _ n1 n2 (kp5 _ _ n1 n2 (kp _ _ n1 n2 hb))
      · rw [upd_same, List.map_append]
        show some (HO.lst (_ ++ [V.int (x * (if decide (y > 0) = true then 1 else 0))])) = _
        rw [← hz]
        rfl
      · rw [List.length_append, tl]
        rfl
      · intro q hq
        rcases List.mem_append.mp hq with h | h
        · exact tb q h
        · rw [List.mem_singleton.mp h]
          exact z01
    · obtain ⟨tx, kp, sr, hd, tl, tb⟩ := h
      exact k H' D tx (k3.trans kp) (sr.more (by omega)) Da Dd (k3.free Da Dd hD) hd tb (by omega) (by omega)
theorem sc_law_cursor : FnScope ["source", "sheet", "row", "some"] ["source", "sheet"] (defScope s_cursor) := ⟨rfl, rfl, rfl, by decide +kernel, rfl, by decide +kernel, by decide +kernel⟩
theorem ok_curs {f : Addr} {fd : FuncData} (F : Fun K "_law_cursor" "_law_cursor" s_cursor f fd) (T : TxtSh mg) (c_law_draw : Cal P w K mg base 1 "_law_draw" spDraw) : FnOk P w K mg base CX0 2 f fd ["source", "sheet"] (spCurs K) := by
  refine F.ok sc_law_cursor (fun vs H Q E h => ?_) (fun cdv A outer s H vs Q E hr h => ?_)
  · obtain ⟨a, d, t, n, tx, rfl, _⟩ := h
    rfl
  · obtain ⟨a, d, t, n, tx, rfl, hs, hn, ht, ta, td, tb, t1, t60, k⟩ := h
    refine ⟨_, (pss_cons (ps_set (i := 2) sc_law_cursor.nd rfl (Or.inl rfl) (pe_cal c_law_draw hr (by decide) (by rfl) (pa_cons (pv 0) (pa_cons (pe_callB call_len_seq (by rfl) T.len (by decide +kernel) (pa_cons (pv 1) pa_nil)) pa_nil))))
      (pss_cons (ps_set (i := 3) sc_law_cursor.nd rfl (Or.inl rfl) (pe_lst (pa_cons (pe_cal c_law_draw hr (by decide) (by rfl) (pa_cons (pv 0) (pa_cons (pe_op op_add (pe_ix ix_list (pv 1) (pv 2) (fun _ _ => rfl)) pe_int) pa_nil))) (pa_cons (pe_ix ix_list (pv 1) (pv 2) (fun _ _ => rfl)) (pa_cons (pe_op op_add (pe_op op_add (pe_ix ix_list (pv 1) (pv 2) (fun _ _ => rfl)) pe_int) (pe_cal c_law_draw hr (by decide) (by rfl) (pa_cons (pv 0) (pa_cons pe_int pa_nil)))) (pa_cons pe_non (pa_cons pe_int pa_nil)))))))
      (pss_one (ps_ret (pe_tup (pa_cons (pv 2) (pa_cons (pe_ix ix_list (pe_op op_cat (pv 3) (pe_lst (pa_cons (pe_cal c_law_draw hr (by decide) (by rfl) (pa_cons (pv 0) (pa_cons (pe_op op_pow pe_int pe_int) pa_nil))) pa_nil))) (pe_cal c_law_draw hr (by decide) (by rfl) (pa_cons (pv 0) (pa_cons pe_int pa_nil))) (fun _ _ => rfl)) pa_nil))))))), ?_⟩
    refine ⟨_, rfl, _, rfl, t, _, rfl, .inl (SqL.of ht), a, d, n, _, rfl, hs, by omega, by rw [List.length_map]; omega, log9 (a := 20) (by rw [List.length_map]; omega) (by decide), fun H1 r kp1 s1 r0 r1 => ?_⟩
    rw [List.length_map] at r1
    replace ht := kp1 _ _ ta td ht
    obtain ⟨x, hx, hxa⟩ := at_lenS r0 r1
    obtain ⟨x0, x1⟩ := tb x hx
    refine ⟨_, rfl, _, rfl, _, rfl, t, _, r, .int x, rfl, rfl, SqL.of ht, hxa, _, _, rfl, rfl, a, d, _, _, rfl, s1, by omega, by omega, log9 (a := 110) (by omega) (by decide), fun H2 y kp2 s2 y0 y1 => ?_⟩
    replace ht := kp2 _ _ ta td ht
    refine ⟨_, rfl, _, rfl, t, _, r, .int x, rfl, rfl, SqL.of ht, hxa, ?_⟩
    refine ⟨_, rfl, _, rfl, t, _, r, .int x, rfl, rfl, SqL.of ht, hxa, _, _, rfl, rfl, _, rfl, a, d, _, 9, rfl, s2, by omega, by decide, by decide, fun H3 u kp3 s3 u0 u1 => ⟨_, _, rfl, rfl, (by show 5 ≤ sizeLine; decide), fun q nq => ?_⟩⟩
    obtain ⟨qa, qd⟩ := s3.off nq
    have e_H4 : Same H3 (upd H3 q (.lst [V.int y, .int x, .int (x + 1 + u), .non, .int 0])) := new_same nq
    have h_q : (upd H3 q (.lst [V.int y, .int x, .int (x + 1 + u), .non, .int 0])) q = some (.lst [V.int y, .int x, .int (x + 1 + u), .non, .int 0]) := upd_same
    generalize upd H3 q (.lst [V.int y, .int x, .int (x + 1 + u), .non, .int 0]) = H4 at e_H4 h_q ⊢
    replace s3 := s3.same e_H4
    refine ⟨_, rfl, _, rfl, _, rfl, _, _, rfl, rfl, cpow (by decide), a, d, _, _, rfl, s3, by omega, by decide, by decide, fun H5 v kp5 s5 v0 v1 => ⟨(by show 1 ≤ sizeLine; decide), fun q2 nq2 => ?_⟩⟩
    have v1' : v < 10 ^ 30 := v1
    replace h_q := kp5 _ _ qa qd h_q
    have e_H6 : Same H5 (upd H5 q2 (.lst [V.int v])) := new_same nq2
    have h_q2 : (upd H5 q2 (.lst [V.int v])) q2 = some (.lst [V.int v]) := upd_same
    generalize upd H5 q2 (.lst [V.int v]) = H6 at e_H6 h_q2 ⊢
    replace s5 := s5.same e_H6
    replace h_q := e_H6 _ _ h_q
    refine ⟨q, q2, _, _, rfl, rfl, h_q, h_q2, (by show 5 + 1 ≤ sizeLine; decide), fun q3 nq3 => ?_⟩
    obtain ⟨qa3, qd3⟩ := s5.off nq3
    have e_H7 : Same H6 (upd H6 q3 (.lst ([V.int y, .int x, .int (x + 1 + u), .non, .int 0] ++ [V.int v]))) := new_same nq3
    have h_q3 : (upd H6 q3 (.lst ([V.int y, .int x, .int (x + 1 + u), .non, .int 0] ++ [V.int v]))) q3 = some (.lst ([V.int y, .int x, .int (x + 1 + u), .non, .int 0] ++ [V.int v])) := upd_same
    generalize upd H6 q3 (.lst ([V.int y, .int x, .int (x + 1 + u), .non, .int 0] ++ [V.int v])) = H7 at e_H7 h_q3 ⊢
    replace s5 := s5.same e_H7
    refine ⟨_, rfl, a, d, _, 6, rfl, s5, by omega, by decide, by decide, fun H8 z kp8 s8 z0 z1 => ?_⟩
    obtain ⟨g, hg, hgb⟩ : ∃ g : Option Int, atI ([V.int y, .int x, .int (x + 1 + u), .non, .int 0] ++ [V.int v]) z = some (optV g) ∧ ∀ b, g = some b → 0 ≤ b ∧ b ≤ 10 ^ 30 + 100 ∧ ((∀ y ∈ tx, y < 10 ^ 30 - 98) → b < 10 ^ 30) := by
      rcases (show z = 0 ∨ z = 1 ∨ z = 2 ∨ z = 3 ∨ z = 4 ∨ z = 5 by omega) with rfl | rfl | rfl | rfl | rfl | rfl
      · exact ⟨some y, rfl, fun b e => by cases e; exact ⟨by omega, by omega, fun h => by have := h x hx; omega⟩⟩
      · exact ⟨some x, rfl, fun b e => by cases e; exact ⟨by omega, by omega, fun h => by have := h x hx; omega⟩⟩
      · exact ⟨some (x + 1 + u), rfl, fun b e => by cases e; exact ⟨by omega, by omega, fun h => by have := h x hx; omega⟩⟩
      · exact ⟨none, rfl, fun b e => nomatch e⟩
      · exact ⟨some 0, rfl, fun b e => by cases e; exact ⟨by decide, by decide, fun _ => by decide⟩⟩
      · exact ⟨some v, rfl, fun b e => by cases e; exact ⟨by omega, by omega, fun _ => by omega⟩⟩
    refine ⟨q3, _, z, _, rfl, rfl, SqL.of (kp8 _ _ qa3 qd3 h_q3), hg, (by show 2 ≤ sizeLine; decide), fun pr npr => ?_⟩
    have kall : Keep a d H H8 := ((((((kp1.trans kp2).trans kp3).trans (Keep.of e_H4)).trans kp5).trans (Keep.of e_H6)).trans (Keep.of e_H7)).trans kp8
    exact k _ pr r g (kall.new npr) ((s8.same (new_same npr)).more (by omega)) upd_same r0 r1 hgb
end
end Gc

/-! the laws' own moving, one command; column -/
namespace Gc
open PySem L2
abbrev s_lshown : Stmt := top 31
abbrev s_lmoved : Stmt := top 32
abbrev s_column : Stmt := top 15
structure TxtMv (mg : Str → Option Value) : Prop where
  int : mg "int" = none
  len : mg "len" = none
def spLShown (K : PySem.W.Frag) : Sp := fun vs H Q _ => ∃ (t b : Addr) (T : List Int) (r : Int) (g : Option Int), vs = [.ref t, .ref b] ∧ SqL K H t (T.map V.int) ∧ SqT K H b [.int r, optV g] ∧ 0 ≤ r ∧ r < T.length ∧ Q (.int (seen (lenAt T r) g)) H
def spLMoved (K : PySem.W.Frag) : Sp := fun vs H Q _ => ∃ (t b : Addr) (v : V) (T : List Int) (r : Int) (g : Option Int) (c : Cmd), vs = [.ref t, .ref b, v] ∧ SqL K H t (T.map V.int) ∧ SqT K H b [.int r, optV g] ∧ CmdAt K H v c ∧ 0 ≤ r ∧ r < T.length ∧ c.ok ∧ numC c < 10 ^ 40 ∧
  (stepP T r g c = none → ∀ H', Same H H' → Q .non H') ∧ ∀ r' g', stepP T r g c = some (r', g') → ∀ (H' : Hp) (p : Addr), Same H H' → H p = none → H' p = some (.tup [.int r', optV g']) → Q (.ref p) H'
def spColumn (K : PySem.W.Frag) : Sp := fun vs H Q _ => ∃ (t b : Addr) (T : List Int) (r : Int) (g : Option Int), vs = [.ref t, .ref b] ∧ SqL K H t (T.map V.int) ∧ SqT K H b [.int r, optV g] ∧ (∀ x ∈ T, 0 ≤ x) ∧ 0 ≤ r ∧ r < T.length ∧ ge g 0 ∧ ∀ H', Same H H' → Q (.int (seen (lenAt T r) g)) H'
theorem at_tM {u v : V} {b : Bool} (h : b = true) : atI [u, v] (if b = true then (1 : Int) else 0) = some v := by
  subst h
  rfl
theorem at_fM {u v : V} {b : Bool} (h : b = false) : atI [u, v] (if b = true then (1 : Int) else 0) = some u := by
  subst h
  rfl
section
variable {P : Program} {w : World} {K : PySem.W.Frag} {mg : Str → Option Value} {base : Heap}
theorem sc_law_shown : FnScope ["sheet", "spot", "row", "goal"] ["sheet", "spot"] (defScope s_lshown) := ⟨rfl, rfl, rfl, by decide +kernel, rfl, by decide +kernel, by decide +kernel⟩
theorem ok_lshown {f : Addr} {fd : FuncData} (F : Fun K "_law_shown" "_law_shown" s_lshown f fd) : FnOk P w K mg base CX0 1 f fd ["sheet", "spot"] (spLShown K) := by
  refine F.ok sc_law_shown (fun vs H Q E h => ?_) (fun cdv A outer s H vs Q E hr h => ?_)
  · obtain ⟨t, b, tx, r, g, rfl, _⟩ := h
    rfl
  · obtain ⟨t, b, tx, r, g, rfl, ht, hb, r0, r1, k⟩ := h
    refine ⟨_, (pss_cons (ps_asg (pv 1) (pg_tup rfl (pgs_cons (pg_name (i := 2) sc_law_shown.nd rfl (Or.inl rfl)) (pgs_cons (pg_name (i := 3) sc_law_shown.nd rfl (Or.inl rfl)) pgs_nil))))
      (pss_cons (ps_if (PW.pt (pw_or (pt_cmpR op_isN (pv 3) pe_non (nomark _)) (pw_or1 (pt_cmpR op_gt (pv 3) (pe_ix ix_list (pv 0) (pv 2) (fun _ _ => rfl)) (nomark _))))) (pss_one (ps_ret (pe_ix ix_list (pv 0) (pv 2) (fun _ _ => rfl)))) pss_nil)
      (pss_one (ps_ret (pv 3))))), ?_⟩
    refine ⟨_, rfl, b, _, rfl, hb, rfl, _, _, rfl, _, _, rfl, rfl, ?_⟩
    have al := at_len' r0 r1
    cases g with
    | none =>
      refine ⟨_, rfl, rfl, _, rfl, iteT ?_⟩
      exact ⟨_, rfl, _, rfl, t, _, r, _, rfl, rfl, ht, al, k⟩
    | some x =>
      refine ⟨_, rfl, rfl, _, rfl, iteF ?_⟩
      refine ⟨_, rfl, _, rfl, _, rfl, t, _, r, _, rfl, rfl, ht, al, _, _, rfl, rfl, _, rfl, ite2 (fun c => ?_) (fun c => ?_)⟩
      · have c' : x > lenAt tx r := of_decide_eq_true c
        refine ⟨_, rfl, _, rfl, t, _, r, _, rfl, rfl, ht, al, ?_⟩
        have e : seen (lenAt tx r) (some x) = lenAt tx r := by show min x _ = _; omega
        rw [e] at k
        exact k
      · have c' : ¬ x > lenAt tx r := fun z => c (decide_eq_true z)
        have e : seen (lenAt tx r) (some x) = x := by show min x _ = _; omega
        rw [e] at k
        exact ⟨_, rfl, k⟩
theorem sc_column : FnScope ["text", "cursor", "row", "goal"] ["text", "cursor"] (defScope s_column) := ⟨rfl, rfl, rfl, by decide +kernel, rfl, by decide +kernel, by decide +kernel⟩
theorem ok_column {f : Addr} {fd : FuncData} (F : Fun K "column" "column" s_column f fd) (T : TxtMv mg) (c_check_text : Cal P w K mg base 1 "check_text" (spText K)) (c_check_cursor : Cal P w K mg base 1 "check_cursor" (spCursor K)) (c_shown_column : Cal P w K mg base 1 "shown_column" spShown) :
    FnOk P w K mg base CX0 2 f fd ["text", "cursor"] (spColumn K) := by
  refine F.ok sc_column (fun vs H Q E h => ?_) (fun cdv A outer s H vs Q E hr h => ?_)
  · obtain ⟨t, b, tx, r, g, rfl, _⟩ := h
    rfl
  · obtain ⟨t, b, tx, r, g, rfl, ht, hb, nn, r0, r1, g0, k⟩ := h
    refine ⟨_, (pss_cons (ps_expr (pe_cal c_check_text hr (by decide) (by rfl) (pa_cons (pv 0) pa_nil)))
      (pss_cons (ps_expr (pe_cal c_check_cursor hr (by decide) (by rfl) (pa_cons (pe_callB call_len_seq (by rfl) T.len (by decide +kernel) (pa_cons (pv 0) pa_nil)) (pa_cons (pv 1) pa_nil))))
      (pss_cons (ps_asg (pv 1) (pg_tup rfl (pgs_cons (pg_name (i := 2) sc_column.nd rfl (Or.inl rfl)) (pgs_cons (pg_name (i := 3) sc_column.nd rfl (Or.inl rfl)) pgs_nil))))
      (pss_one (ps_ret (pe_cal c_shown_column hr (by decide) (by rfl) (pa_cons (pe_ix ix_list (pv 0) (pv 2) (fun _ _ => rfl)) (pa_cons (pv 3) pa_nil)))))))), ?_⟩
    refine ⟨_, rfl, t, tx, rfl, ht, (by intro z; subst z; simp at r1; omega), nn, fun H1 e1 => ?_⟩
    refine ⟨_, rfl, t, _, rfl, .inl (e1.seq ht), _, rfl, (tx.map V.int).length, r, g, b, rfl, seq_t e1 hb, r0, by rw [List.length_map]; exact r1, g0, ?_⟩
    refine ⟨_, rfl, b, _, rfl, seq_t e1 hb, rfl, _, _, rfl, _, _, rfl, rfl, ?_⟩
    exact ⟨_, rfl, _, rfl, t, _, r, _, rfl, rfl, e1.seq ht, at_len' r0 r1, _, rfl, lenAt tx r, g, rfl, k _ e1⟩
theorem sc_law_moved : FnScope ["sheet", "spot", "command", "row", "goal", "name", "later", "here"] ["sheet", "spot", "command"] (defScope s_lmoved) := ⟨rfl, rfl, rfl, by decide +kernel, rfl, by decide +kernel, by decide +kernel⟩
theorem ok_lmoved {f : Addr} {fd : FuncData} (F : Fun K "_law_moved" "_law_moved" s_lmoved f fd) (T : TxtMv mg) (c_law_shown : Cal P w K mg base 1 "_law_shown" (spLShown K)) : FnOk P w K mg base CX0 2 f fd ["sheet", "spot", "command"] (spLMoved K) := by
  refine F.ok sc_law_moved (fun vs H Q E h => ?_) (fun cdv A outer s H vs Q E hr h => ?_)
  · obtain ⟨t, b, v, tx, r, g, c, rfl, _⟩ := h
    rfl
  · obtain ⟨t, b, v, tx, r, g, c, rfl, ht, hb, ⟨ka, rfl, hk⟩, r0, r1, hcok, nb, kn, ks⟩ := h
    refine ⟨_, (pss_cons (ps_asg (pv 1) (pg_tup rfl (pgs_cons (pg_name (i := 3) sc_law_moved.nd rfl (Or.inl rfl)) (pgs_cons (pg_name (i := 4) sc_law_moved.nd rfl (Or.inl rfl)) pgs_nil))))
      (pss_cons (ps_set (i := 5) sc_law_moved.nd rfl (Or.inl rfl) (pe_ix ix_tup (pv 2) pe_int (fun _ _ => rfl)))
      (pss_cons (ps_if (pt_cmpR op_in_seq (pv 5) (pe_tup (pa_cons pe_str (pa_cons pe_str pa_nil))) (by rfl)) (pss_cons (ps_set (i := 6) sc_law_moved.nd rfl (Or.inl rfl) (pe_op op_add (pv 3) (pe_op op_mulW (pe_ix ix_tup (pv 2) pe_int (fun _ _ => rfl)) (pe_ix ix_list (pe_lst (pa_cons pe_int (pa_cons (pe_un un_neg pe_int) pa_nil))) (pe_callTy call_int1 (by rfl) T.int (by decide +kernel) (pa_cons (pe_cmpR op_eq (pv 5) pe_str (nomark _)) pa_nil)) (fun _ _ => rfl)))))
      (pss_one (ps_ret (pe_ifExp (pt_chain op_le op_lt pe_int (pv 6) (pe_callB call_len_seq (by rfl) T.len (by decide +kernel) (pa_cons (pv 0) pa_nil))) (pe_tup (pa_cons (pv 6) (pa_cons (pv 4) pa_nil))) pe_non)))) pss_nil)
      (pss_cons (ps_if (pt_cmpR op_eq (pv 5) pe_str (nomark _)) (pss_one (ps_ret (pe_tup (pa_cons (pv 3) (pa_cons pe_int pa_nil))))) pss_nil)
      (pss_cons (ps_if (pt_cmpR op_eq (pv 5) pe_str (nomark _)) (pss_one (ps_ret (pe_tup (pa_cons (pv 3) (pa_cons pe_non pa_nil))))) pss_nil)
      (pss_cons (ps_set (i := 7) sc_law_moved.nd rfl (Or.inl rfl) (pe_cal c_law_shown hr (by decide) (by rfl) (pa_cons (pv 0) (pa_cons (pv 1) pa_nil))))
      (pss_cons (ps_if (pt_cmpR op_eq (pv 5) pe_str (nomark _)) (pss_one (ps_ret (pe_tup (pa_cons (pv 3) (pa_cons (pe_ifExp (pt_cmpR op_lt (pe_op op_sub (pe_ix ix_list (pv 0) (pv 3) (fun _ _ => rfl)) (pv 7)) (pe_ix ix_tup (pv 2) pe_int (fun _ _ => rfl)) (nomark _)) (pe_ix ix_list (pv 0) (pv 3) (fun _ _ => rfl)) (pe_op op_add (pv 7) (pe_ix ix_tup (pv 2) pe_int (fun _ _ => rfl)))) pa_nil))))) pss_nil)
      (pss_one (ps_ret (pe_tup (pa_cons (pv 3) (pa_cons (pe_ifExp (pt_cmpR op_lt (pv 7) (pe_ix ix_tup (pv 2) pe_int (fun _ _ => rfl)) (nomark _)) pe_int (pe_op op_sub (pv 7) (pe_ix ix_tup (pv 2) pe_int (fun _ _ => rfl)))) pa_nil)))))))))))), ?_⟩
    refine ⟨_, rfl, b, _, rfl, hb, rfl, _, _, rfl, _, _, rfl, rfl, ?_⟩
    have al := at_len' r0 r1
    cases c with
    | down n =>
      have nb' : n < 10 ^ 40 := nb
      have n1 : 1 ≤ n := hcok
      refine ⟨_, rfl, ka, _, 0, _, rfl, rfl, hk, rfl, ?_⟩
      refine ⟨_, rfl, (by show 2 ≤ sizeLine; decide), fun p1 np1 => ?_⟩
      have e_H1 : Same H (upd H p1 (.tup [V.str "down", .str "up"])) := new_same np1
      have h_p1 : (upd H p1 (.tup [V.str "down", .str "up"])) p1 = some (.tup [V.str "down", .str "up"]) := upd_same
      generalize upd H p1 (.tup [V.str "down", .str "up"]) = H1 at e_H1 h_p1 ⊢
      replace hk := seq_t e_H1 hk
      replace ht := e_H1.seq ht
      refine ⟨p1, _, rfl, .inr (SqT.of h_p1), rfl, rfl, true, by decide +kernel, iteT ?_⟩
      refine ⟨_, rfl, _, rfl, ka, _, 1, _, rfl, rfl, hk, rfl, _, rfl, (by show 2 ≤ sizeLine; decide), fun p2 np2 => ?_⟩
      have e_H2 : Same H1 (upd H1 p2 (.lst [V.int 1, .int (-1)])) := new_same np2
      have h_p2 : (upd H1 p2 (.lst [V.int 1, .int (-1)])) p2 = some (.lst [V.int 1, .int (-1)]) := upd_same
      generalize upd H1 p2 (.lst [V.int 1, .int (-1)]) = H2 at e_H2 h_p2 ⊢
      replace hk := seq_t e_H2 hk
      replace ht := e_H2.seq ht
      refine ⟨_, rfl, rfl, .inr ⟨_, rfl, p2, _, _, _, rfl, rfl, SqL.of h_p2, at_fM (by decide +kernel), _, _, rfl, rfl, ?_⟩⟩
      have e12 := e_H1.trans e_H2
      refine ⟨wide_mul (a := 134) (b := 2) (by omega) (by decide) (by decide) (by decide) (by decide), _, _, rfl, rfl, ?_⟩
      obtain ⟨r2, hr2, hd⟩ : ∃ r2, r + n * (if false = true then -1 else 1) = r2 ∧ r2 = r + (Cmd.down n).dv := ⟨_, rfl, by show r + n * (if false = true then -1 else 1) = r + n; simp⟩
      have hin : 0 ≤ r2 → r2 < tx.length → stepP tx r g (.down n) = some (r2, g) := fun h1 h2 => by
        unfold stepP
        rw [if_pos (show (Cmd.down n).vert = true from rfl), ← hd, if_pos ⟨h1, h2⟩]
      have hout : ¬ (0 ≤ r2 ∧ r2 < tx.length) → stepP tx r g (.down n) = none := fun h1 => by
        unfold stepP
        rw [if_pos (show (Cmd.down n).vert = true from rfl), ← hd, if_neg h1]
      show gName 6 (V.int (r + n * (if false = true then -1 else 1))) _ H2 _
      rw [hr2]
      refine ⟨_, rfl, _, _, rfl, rfl, _, rfl, ite2 (fun c0 => ?_) (fun c0 => ?_)⟩
      · have c0' : 0 ≤ r2 := of_decide_eq_true c0
        refine ⟨_, rfl, t, _, rfl, .inl ht, _, _, rfl, rfl, _, rfl, ite2 (fun c1 => ?_) (fun c1 => ?_)⟩
        · have c1' : r2 < ((tx.map V.int).length : Int) := of_decide_eq_true c1
          rw [List.length_map] at c1'
          exact ⟨_, rfl, _, rfl, (by show 2 ≤ sizeLine; decide), fun p np => ks r2 g (hin c0' c1') _ p (e12.trans (new_same np)) (e12.free np) upd_same⟩
        · have c1' : ¬ r2 < ((tx.map V.int).length : Int) := fun z => c1 (decide_eq_true z)
          rw [List.length_map] at c1'
          exact kn (hout fun z => c1' z.2) _ e12
      · have c0' : ¬ 0 ≤ r2 := fun z => c0 (decide_eq_true z)
        exact ⟨_, rfl, iteF (kn (hout fun z => c0' z.1) _ e12)⟩
    | up n =>
      have nb' : n < 10 ^ 40 := nb
      have n1 : 1 ≤ n := hcok
      refine ⟨_, rfl, ka, _, 0, _, rfl, rfl, hk, rfl, ?_⟩
      refine ⟨_, rfl, (by show 2 ≤ sizeLine; decide), fun p1 np1 => ?_⟩
      have e_H1 : Same H (upd H p1 (.tup [V.str "down", .str "up"])) := new_same np1
      have h_p1 : (upd H p1 (.tup [V.str "down", .str "up"])) p1 = some (.tup [V.str "down", .str "up"]) := upd_same
      generalize upd H p1 (.tup [V.str "down", .str "up"]) = H1 at e_H1 h_p1 ⊢
      replace hk := seq_t e_H1 hk
      replace ht := e_H1.seq ht
      refine ⟨p1, _, rfl, .inr (SqT.of h_p1), rfl, rfl, true, by decide +kernel, iteT ?_⟩
      refine ⟨_, rfl, _, rfl, ka, _, 1, _, rfl, rfl, hk, rfl, _, rfl, (by show 2 ≤ sizeLine; decide), fun p2 np2 => ?_⟩
      have e_H2 : Same H1 (upd H1 p2 (.lst [V.int 1, .int (-1)])) := new_same np2
      have h_p2 : (upd H1 p2 (.lst [V.int 1, .int (-1)])) p2 = some (.lst [V.int 1, .int (-1)]) := upd_same
      generalize upd H1 p2 (.lst [V.int 1, .int (-1)]) = H2 at e_H2 h_p2 ⊢
      replace hk := seq_t e_H2 hk
      replace ht := e_H2.seq ht
      refine ⟨_, rfl, rfl, .inr ⟨_, rfl, p2, _, _, _, rfl, rfl, SqL.of h_p2, at_tM (by decide +kernel), _, _, rfl, rfl, ?_⟩⟩
      have e12 := e_H1.trans e_H2
      refine ⟨wide_mul (a := 134) (b := 2) (by omega) (by decide) (by decide) (by decide) (by decide), _, _, rfl, rfl, ?_⟩
      obtain ⟨r2, hr2, hd⟩ : ∃ r2, r + n * (if true = true then -1 else 1) = r2 ∧ r2 = r + (Cmd.up n).dv := ⟨_, rfl, by show r + n * (if true = true then -1 else 1) = r + -n; simp⟩
      have hin : 0 ≤ r2 → r2 < tx.length → stepP tx r g (.up n) = some (r2, g) := fun h1 h2 => by
        unfold stepP
        rw [if_pos (show (Cmd.up n).vert = true from rfl), ← hd, if_pos ⟨h1, h2⟩]
      have hout : ¬ (0 ≤ r2 ∧ r2 < tx.length) → stepP tx r g (.up n) = none := fun h1 => by
        unfold stepP
        rw [if_pos (show (Cmd.up n).vert = true from rfl), ← hd, if_neg h1]
      show gName 6 (V.int (r + n * (if true = true then -1 else 1))) _ H2 _
      rw [hr2]
      refine ⟨_, rfl, _, _, rfl, rfl, _, rfl, ite2 (fun c0 => ?_) (fun c0 => ?_)⟩
      · have c0' : 0 ≤ r2 := of_decide_eq_true c0
        refine ⟨_, rfl, t, _, rfl, .inl ht, _, _, rfl, rfl, _, rfl, ite2 (fun c1 => ?_) (fun c1 => ?_)⟩
        · have c1' : r2 < ((tx.map V.int).length : Int) := of_decide_eq_true c1
          rw [List.length_map] at c1'
          exact ⟨_, rfl, _, rfl, (by show 2 ≤ sizeLine; decide), fun p np => ks r2 g (hin c0' c1') _ p (e12.trans (new_same np)) (e12.free np) upd_same⟩
        · have c1' : ¬ r2 < ((tx.map V.int).length : Int) := fun z => c1 (decide_eq_true z)
          rw [List.length_map] at c1'
          exact kn (hout fun z => c1' z.2) _ e12
      · have c0' : ¬ 0 ≤ r2 := fun z => c0 (decide_eq_true z)
        exact ⟨_, rfl, iteF (kn (hout fun z => c0' z.1) _ e12)⟩
    | home =>
      refine ⟨_, rfl, ka, _, 0, _, rfl, rfl, hk, rfl, ?_⟩
      refine ⟨_, rfl, (by show 2 ≤ sizeLine; decide), fun p1 np1 => ?_⟩
      have e_H1 : Same H (upd H p1 (.tup [V.str "down", .str "up"])) := new_same np1
      have h_p1 : (upd H p1 (.tup [V.str "down", .str "up"])) p1 = some (.tup [V.str "down", .str "up"]) := upd_same
      generalize upd H p1 (.tup [V.str "down", .str "up"]) = H1 at e_H1 h_p1 ⊢
      replace hk := seq_t e_H1 hk
      replace ht := e_H1.seq ht
      refine ⟨p1, _, rfl, .inr (SqT.of h_p1), rfl, rfl, false, by decide +kernel, iteF ?_⟩
      refine ⟨_, rfl, rfl, true, by decide +kernel, iteT ?_⟩
      first
        | exact ⟨_, rfl, (by show 2 ≤ sizeLine; decide), fun p np => ks r (some 0) rfl _ p (e_H1.trans (new_same np)) (e_H1.free np) upd_same⟩
        | exact ⟨_, rfl, rfl, true, by decide +kernel, iteT ⟨_, rfl, (by show 2 ≤ sizeLine; decide), fun p np => ks r (some 0) rfl _ p (e_H1.trans (new_same np)) (e_H1.free np) upd_same⟩⟩
    | stop =>
      refine ⟨_, rfl, ka, _, 0, _, rfl, rfl, hk, rfl, ?_⟩
      refine ⟨_, rfl, (by show 2 ≤ sizeLine; decide), fun p1 np1 => ?_⟩
      have e_H1 : Same H (upd H p1 (.tup [V.str "down", .str "up"])) := new_same np1
      have h_p1 : (upd H p1 (.tup [V.str "down", .str "up"])) p1 = some (.tup [V.str "down", .str "up"]) := upd_same
      generalize upd H p1 (.tup [V.str "down", .str "up"]) = H1 at e_H1 h_p1 ⊢
      replace hk := seq_t e_H1 hk
      replace ht := e_H1.seq ht
      refine ⟨p1, _, rfl, .inr (SqT.of h_p1), rfl, rfl, false, by decide +kernel, iteF ?_⟩
      refine ⟨_, rfl, rfl, false, by decide +kernel, iteF ?_⟩
      first
        | exact ⟨_, rfl, (by show 2 ≤ sizeLine; decide), fun p np => ks r (none) rfl _ p (e_H1.trans (new_same np)) (e_H1.free np) upd_same⟩
        | exact ⟨_, rfl, rfl, true, by decide +kernel, iteT ⟨_, rfl, (by show 2 ≤ sizeLine; decide), fun p np => ks r (none) rfl _ p (e_H1.trans (new_same np)) (e_H1.free np) upd_same⟩⟩
    | right n =>
      have n1 : 1 ≤ n := hcok
      have st : stepP tx r g (.right n) = some (r, aim1 (lenAt tx r) g (.right n)) := rfl
      refine ⟨_, rfl, ka, _, 0, _, rfl, rfl, hk, rfl, ?_⟩
      refine ⟨_, rfl, (by show 2 ≤ sizeLine; decide), fun p1 np1 => ?_⟩
      have e_H1 : Same H (upd H p1 (.tup [V.str "down", .str "up"])) := new_same np1
      have h_p1 : (upd H p1 (.tup [V.str "down", .str "up"])) p1 = some (.tup [V.str "down", .str "up"]) := upd_same
      generalize upd H p1 (.tup [V.str "down", .str "up"]) = H1 at e_H1 h_p1 ⊢
      replace hk := seq_t e_H1 hk
      replace ht := e_H1.seq ht
      replace hb := seq_t e_H1 hb
      refine ⟨p1, _, rfl, .inr (SqT.of h_p1), rfl, rfl, false, by decide +kernel, iteF ?_⟩
      refine ⟨_, rfl, rfl, false, by decide +kernel, iteF ?_⟩
      refine ⟨_, rfl, rfl, false, by decide +kernel, iteF ?_⟩
      refine ⟨_, rfl, _, rfl, t, b, tx, r, g, rfl, ht, hb, r0, r1, ?_⟩
      refine ⟨_, rfl, rfl, true, by decide +kernel, iteT ?_⟩
      have st' : stepP tx r g (.right n) = some (r, some (min (seen (lenAt tx r) g + n) (lenAt tx r))) := rfl
      generalize seen (lenAt tx r) g = sn at st' ⊢
      refine ⟨_, rfl, _, rfl, _, rfl, t, _, r, _, rfl, rfl, ht, al, _, rfl, _, _, rfl, rfl, _, rfl, ka, _, 1, _, rfl, rfl, hk, rfl, _, _, rfl, rfl, _, rfl, ite2 (fun c => ?_) (fun c => ?_)⟩
      · have c' : lenAt tx r - sn < n := of_decide_eq_true c
        have e : min (sn + n) (lenAt tx r) = lenAt tx r := by omega
        rw [e] at st'
        exact ⟨_, rfl, _, rfl, t, _, r, _, rfl, rfl, ht, al, (by show 2 ≤ sizeLine; decide), fun p np => ks r _ st' _ p (e_H1.trans (new_same np)) (e_H1.free np) upd_same⟩
      · have c' : ¬ lenAt tx r - sn < n := fun z => c (decide_eq_true z)
        have e : min (sn + n) (lenAt tx r) = sn + n := by omega
        rw [e] at st'
        exact ⟨_, rfl, _, rfl, ka, _, 1, _, rfl, rfl, hk, rfl, _, _, rfl, rfl, (by show 2 ≤ sizeLine; decide), fun p np => ks r _ st' _ p (e_H1.trans (new_same np)) (e_H1.free np) upd_same⟩
    | left n =>
      have n1 : 1 ≤ n := hcok
      have st : stepP tx r g (.left n) = some (r, aim1 (lenAt tx r) g (.left n)) := rfl
      refine ⟨_, rfl, ka, _, 0, _, rfl, rfl, hk, rfl, ?_⟩
      refine ⟨_, rfl, (by show 2 ≤ sizeLine; decide), fun p1 np1 => ?_⟩
      have e_H1 : Same H (upd H p1 (.tup [V.str "down", .str "up"])) := new_same np1
      have h_p1 : (upd H p1 (.tup [V.str "down", .str "up"])) p1 = some (.tup [V.str "down", .str "up"]) := upd_same
      generalize upd H p1 (.tup [V.str "down", .str "up"]) = H1 at e_H1 h_p1 ⊢
      replace hk := seq_t e_H1 hk
      replace ht := e_H1.seq ht
      replace hb := seq_t e_H1 hb
      refine ⟨p1, _, rfl, .inr (SqT.of h_p1), rfl, rfl, false, by decide +kernel, iteF ?_⟩
      refine ⟨_, rfl, rfl, false, by decide +kernel, iteF ?_⟩
      refine ⟨_, rfl, rfl, false, by decide +kernel, iteF ?_⟩
      refine ⟨_, rfl, _, rfl, t, b, tx, r, g, rfl, ht, hb, r0, r1, ?_⟩
      refine ⟨_, rfl, rfl, false, by decide +kernel, iteF ?_⟩
      have st' : stepP tx r g (.left n) = some (r, some (max 0 (seen (lenAt tx r) g - n))) := rfl
      generalize seen (lenAt tx r) g = sn at st' ⊢
      refine ⟨_, rfl, _, rfl, _, rfl, ka, _, 1, _, rfl, rfl, hk, rfl, _, _, rfl, rfl, _, rfl, ite2 (fun c => ?_) (fun c => ?_)⟩
      · have c' : sn < n := of_decide_eq_true c
        have e : max 0 (sn - n) = 0 := by omega
        rw [e] at st'
        exact ⟨(by show 2 ≤ sizeLine; decide), fun p np => ks r _ st' _ p (e_H1.trans (new_same np)) (e_H1.free np) upd_same⟩
      · have c' : ¬ sn < n := fun z => c (decide_eq_true z)
        have e : max 0 (sn - n) = sn - n := by omega
        rw [e] at st'
        exact ⟨_, rfl, _, rfl, ka, _, 1, _, rfl, rfl, hk, rfl, _, _, rfl, rfl, (by show 2 ≤ sizeLine; decide), fun p np => ks r _ st' _ p (e_H1.trans (new_same np)) (e_H1.free np) upd_same⟩
end
end Gc

/-! a text with commands, as data; repetitions, as data -/
namespace Gc
open PySem L2
def bothD (T : List Int) (cs : List Cmd) : PyData := .list [.list (T.map PyData.int), .list (cs.map cmdD)]
theorem both_show {T : List Int} {cs : List Cmd} (hT : ∀ x ∈ T, Sml x) (hc : ∀ c ∈ cs, CSml c) (lT : T.length ≤ 200) (lc : cs.length ≤ 100) : (bothD T cs).showable = true ∧ (bothD T cs).hasDict = false ∧ (bothD T cs).depth ≤ 60 ∧ (bothD T cs).shown.length ≤ sizeLine := by
  obtain ⟨c1, c2, c3⟩ := cmds_ok0 hc
  have o : Ok0 (bothD T cs) := ok0_list (ok0_cons (ok0_list (ok0_ints hT)) (ok0_cons (ok0_list c1) ok0_nil))
  refine ⟨o.1, o.2.1, ?_, ok0_len o ?_⟩
  · simp only [bothD, PyData.depth, PyData.depthAll, deep_ints]
    omega
  · have w1 := weight_ints hT
    simp only [bothD, PyData.weight, PyData.weightAll]
    omega
theorem both_lay (T : List Int) (cs : List Cmd) : (bothD T cs).canLay0 = true := by
  have h1 : PyData.canLayAll0 (T.map PyData.int) = true := PySem.W.ke_canLayAll0 T
  simp [bothD, PyData.canLay0, PyData.canLayAll0, h1, lay_cmds cs]
theorem csml_of {c : Cmd} (ok : c.ok) (h : numC c < 10 ^ 32) : CSml c := by
  have key : ∀ n : Int, 1 ≤ n → n < 10 ^ 32 → n.natAbs < 2 ^ 120 := fun n h1 h => by omega
  cases c with
  | down n => exact key n ok h
  | up n => exact key n ok h
  | right n => exact key n ok h
  | left n => exact key n ok h
  | home => trivial
  | stop => trivial
theorem chg_le {B : Nat} : ∀ {cs : List Cmd}, (∀ c ∈ cs, c.ok ∧ numC c ≤ B) → (chg cs).natAbs ≤ B * cs.length
  | [], _ => Nat.le_refl _
  | c :: cs, h => by
    have ih := chg_le (B := B) (cs := cs) fun d hd => h d (List.mem_cons_of_mem _ hd)
    obtain ⟨ok, nb⟩ := h c List.mem_cons_self
    have h1 : (chg1 c).natAbs ≤ B := by
      cases c with
      | right n =>
        have o : 1 ≤ n := ok
        have q : n ≤ (B : Int) := nb
        show n.natAbs ≤ B
        omega
      | left n =>
        have o : 1 ≤ n := ok
        have q : n ≤ (B : Int) := nb
        show (-n).natAbs ≤ B
        omega
      | _ => exact Nat.zero_le _
    show (chg1 c + chg cs).natAbs ≤ B * (cs.length + 1)
    rw [Nat.mul_succ]
    omega
/-- a cursor, or the index of the impossible command in a list -/
def repD : Nat ⊕ (Int × Option Int) → PyData
  | .inl n => .list [.int n]
  | .inr x => .tuple [.int x.1, optD x.2]
theorem repD_lay (x : Nat ⊕ (Int × Option Int)) : (repD x).canLay0 = true := by
  rcases x with n | ⟨r, _ | g⟩ <;> rfl
theorem repD_shaped (x : Nat ⊕ (Int × Option Int)) : SeqAt.shaped (repD x) = true := by
  rcases x with n | ⟨r, _ | g⟩ <;> rfl
theorem repDs_shaped (x : Nat ⊕ (Int × Option Int)) : SeqAt.shaped (.list [repD x, repD x]) = true := by
  rcases x with n | ⟨r, _ | g⟩ <;> rfl
theorem repD_eqv (x : Nat ⊕ (Int × Option Int)) : PyData.eqv (repD x) (repD x) = true := SeqAt.eqv_refl _ (repD_lay x)
theorem repDs_eqv (x : Nat ⊕ (Int × Option Int)) : PyData.eqv (.list [repD x, repD x]) (.list [repD x, repD x]) = true := SeqAt.eqv_refl _ (by rcases x with n | ⟨r, _ | g⟩ <;> rfl)
theorem tup_atL {K : PySem.W.Frag} {H : Hp} {l a : Addr} {ys zs xs : List V} (hl : H l = some (.lst ys)) (h1 : SqT K H a xs) : SqT K (upd H l (.lst zs)) a xs := by
  rcases h1 with (z | ⟨o, z⟩) | z
  · exact .inl (.inl (by rw [upd_ne (ne_of z hl (by intro q; cases q))]; exact z))
  · exact .inl (.inr ⟨o, by rw [upd_ne (ne_of z hl (by intro q; cases q))]; exact z⟩)
  · exact .inr z
theorem paired_ins {α β : Type} {F : α → β → Prop} {xs : List α} {ys : List β} {x : α} {y : β} (h : Paired F xs ys) (h1 : F x y) (i : Nat) : Paired F (xs.take i ++ [x] ++ xs.drop i) (ys.take i ++ [y] ++ ys.drop i) :=
  paired_app (paired_app (paired_take i h) (.cons h1 .nil)) (paired_drop i h)
theorem mem_ins {α : Type} {ys : List α} {y z : α} {i : Nat} (h : z ∈ ys.take i ++ [y] ++ ys.drop i) : z = y ∨ z ∈ ys := by
  rcases List.mem_append.mp h with q | q
  · rcases List.mem_append.mp q with q | q
    · exact .inr (List.mem_of_mem_take q)
    · exact .inl (List.mem_singleton.mp q)
  · exact .inr (List.mem_of_mem_drop q)
theorem len_ins {α : Type} (ys : List α) (y : α) {i : Nat} (h : i ≤ ys.length) : (ys.take i ++ [y] ++ ys.drop i).length = ys.length + 1 := by
  rw [List.length_append, List.length_append, List.length_take, List.length_drop, List.length_singleton]
  omega
end Gc

/-! a caught error that is looked at: handed to a def within the except suite, its classes, its field -/
namespace L2
open PySem PySem.Spec PyProof.Rows
/-- what a def promises that is handed the error of the suite: at a, of the class at C, with the dict d -/
structure FnE (P : Program) (w : World) (K : PySem.W.Frag) (mg : Str → Option Value) (base : Heap) (k : Nat) (f : Addr) (fd : FuncData) (ps : List Str) (sp : Addr → Addr → Addr → Sp) : Prop where
  many : ∀ a C d vs H Q E, sp a C d vs H Q E → vs.length = ps.length
  go : ∀ (A : Around) (below : List Env) (s : Shared) (H : Hp) (given : Args) (us : List Value) (vs : List V) (Q : VK) (E : XK) (q : Addr × Obj) (C d : Addr), L2H.RoomH k A → L2H.PinOk below H s q → Zc (.ref C) (some d) q.2 → (∃ ws, q.2.data = .fields ws) →
    Env0 P w K mg base A below s H → BindsTo s fd given (ps.zip us) → Vals vs us → sp q.1 C d vs H Q E → codeAny (model P w) A (.call (.ref f) given) (CR CX0 below P w H s Q E) s
/-- the context that such a def's body runs in -/
abbrev cxE (P : Program) (w : World) (K : PySem.W.Frag) (mg : Str → Option Value) (base : Heap) (N : List Str) (qual : Str) (sc : Scope) (f : Addr) (cd : Value) (A : Around) (below : List Env) (s : Shared) (H : Hp) (E : XK) (q : Addr × Obj) : Cx :=
  L2H.cxH CX0 P w K mg base N qual sc f cd A below s H E q
theorem Fun.okE {P : Program} {w : World} {K : PySem.W.Frag} {mg : Str → Option Value} {base : Heap} {x qual : Str} {st : Stmt} {f : Addr} {fd : FuncData} {N ps : List Str} {k : Nat} {sp : Addr → Addr → Addr → Sp} (F : Fun K x qual st f fd) (S : FnScope N ps (defScope st))
    (many : ∀ a C d vs H Q E, sp a C d vs H Q E → vs.length = ps.length)
    (body : ∀ (cdv : Value) (A : Around) (below : List Env) (s : Shared) (H : Hp) (vs : List V) (Q : VK) (E : XK) (q : Addr × Obj) (C d : Addr), L2H.RoomH k (A.deeper (envOfC qual (defScope st) s.heap.objs.size f cdv)) → Zc (.ref C) (some d) q.2 → (∃ ws, q.2.data = .fields ws) → sp q.1 C d vs H Q E →
      ∃ t, PSs (cxE P w K mg base N qual (defScope st) f cdv A below s H E q) (defBody st) t ∧ t { nx := fun _ H' => Q .non H', rt := Q } (start N vs) H) : FnE P w K mg base (k + 1) f fd ps sp := by
  obtain ⟨oc, od, kV, doc, pm, an, cdv, ct, osl, rfl, lk, code⟩ := F.ex
  refine ⟨many, fun A below s H given us vs Q E q C d room pin hz hf env bnd rel want => ?_⟩
  have size := many _ _ _ _ _ _ _ want
  have inK : K.In s.heap := env.mod.kin.keeps fun b o z => (env.bs b o z).1
  have free : s.heap.NoLimit := env.mod.nolimit.keeps fun b o z => (env.bs b o z).1
  refine codeAny_call_function room.depth (inK _ _ lk) rfl S.co S.gen rfl (PySem.W.codeRec_of inK code) (bnd _ _ _ _ ?_)
  refine wpAny_newFunctionEnv_cells S.kind (fun ⟨n, v⟩ there => (S.par n (List.of_mem_zip there).1).elim .inl fun z => .inr ⟨z, PySem.W.cellsFrom_some _ _ _ (.inl z)⟩) fun env2 same s1 call => ?_
  subst same
  refine ⟨free.keeps call.toInCall.keep, codeAny_func ?_⟩
  obtain ⟨t, holds, ask⟩ := body cdv A below s H vs Q E q C d (room.deeper _) hz hf want
  refine wpAny_mono (holds.run [] s1 (start N vs) H _ (L2H.inv_startH S pin env size rel call) ask) (fun how s2 end_ => ?_) fun e s2 end_ => end_
  cases how with
  | ret u =>
    obtain ⟨v, τ, G, J, rv, z⟩ := end_
    exact ⟨v, G, J.os, J.bare, J.base, J.hok, rv, z⟩
  | next =>
    obtain ⟨τ, G, J, z⟩ := end_
    exact ⟨V.non, G, J.os, J.bare, J.base, J.hok, rfl, z⟩
  | brk => exact end_.elim fun _ z => z.elim fun _ y => y.2.elim
  | cont => exact end_.elim fun _ z => z.elim fun _ y => y.2.elim
/-- such a def, called by its name -/
structure CalE (P : Program) (w : World) (K : PySem.W.Frag) (mg : Str → Option Value) (base : Heap) (k : Nat) (x : Str) (sp : Addr → Addr → Addr → Sp) : Prop where
  ex : ∃ (f : Addr) (fd : FuncData) (ps : List Str), FnE P w K mg base k f fd ps sp ∧ mg x = some (.ref f) ∧ PySem.W.keepIn K (.ref f) = true ∧ Binds K fd ps []
def tCallE (a : Addr) (cls : Value) (d : Option Addr) (sp : Addr → Addr → Addr → Sp) (t : TA) : TE := fun σ H Q => t σ H fun vs H1 => ∃ C dd : Addr, cls = .ref C ∧ d = some dd ∧ sp a C dd vs H1 Q E0
section
variable {X : Cx} {k j : Nat} {x : Str} {sp : Addr → Addr → Addr → Sp} {p pos : Pos} {e : Expr} {es : List Expr} {t : TA} {te : TE} {a : Addr} {oe : Obj} {cls : Value} {d : Option Addr} {pn : List (Addr × Obj)}
theorem pe_callE (c : CalE X.prog X.w X.K X.mg X.base k x sp) (hr : Room j X.A) (hk : k ≤ j) (hz : Zc cls d oe) (hf : ∃ vs, oe.data = .fields vs) (hg : Gl (X.suite a ((a, oe) :: pn)) x) (ha : PA (X.suite a ((a, oe) :: pn)) (e :: es) t)
    (hdb : (x == ("__debug__" : Str)) = false := by decide)
    (he : starEach (e :: es) X.env = (false, eval e X.env) :: starEach es X.env := by rfl)
    (hpl : (backTo pos (starEach es X.env)).any (·.1) = false := by rfl) :
    PE (X.suite a ((a, oe) :: pn)) (.Call (.Name x p) (e :: es) [] pos) (tCallE a cls d sp t) := by
  obtain ⟨f, fd, ps, F, hm, kp, b⟩ := c.ex
  refine ⟨fun pins s σ H Q I h => ?_⟩
  refine wpAny_Call_Name_kw (ld_glob I hg hm ?_ hdb)
  refine PySem.W.callWith_K (h₀ := X.base) I.ok.mod.kin kp (thn (ha.run pos pins s σ H _ I h) fun us s1 ⟨vs, H1, I1, r, C, dd, ec, ed, q⟩ => ⟨I1.kIn, ?_⟩) he hpl
  subst ec
  subst ed
  have size : us.length = ps.length := by rw [← r.length]; exact F.many _ _ _ _ _ _ _ q
  have bnd := b s1 us I1.kIn (by rw [List.append_nil]; exact size)
  rw [List.append_nil] at bnd
  obtain ⟨p1, p2, p3, p4, p5⟩ := I1.pin (a, oe) (List.mem_append_left _ List.mem_cons_self)
  have pin : L2H.PinOk (X.suite a ((a, oe) :: pn)).stack H1 s1 (a, oe) := ⟨p1, p2, fun z => (List.mem_cons.mp (I1.stkSub a z)).elim p3 p4, p5⟩
  refine wpAny_call (codeAny_mono (F.go _ _ s1 H1 ⟨us, []⟩ us vs Q E0 (a, oe) C dd ((⟨hr.dp, hr.un⟩ : L2H.RoomH j (X.suite a ((a, oe) :: pn)).A).mono hk) pin hz hf I1.env0 bnd r q) fun how s2 end_ => ?_)
  cases how with
  | error u => exact False.elim end_
  | ok fl =>
    cases fl with
    | ret u => exact I1.after end_
    | next => exact False.elim end_
    | brk => exact False.elim end_
    | cont => exact False.elim end_
/-- what an error class must say, so that its instances can be looked at -/
structure ErrI (K : PySem.W.Frag) (C : Addr) : Prop where
  cl : (PySem.W.clsIn K C).isSome = true
  ga : PySem.W.findIn K (.ref C) "__getattribute__" = some (some (.builtin "BaseException.__getattribute__"))
  gg : PySem.W.findIn K (.ref C) "__getattr__" = some none
  be : PySem.W.subIn K (.ref C) (.type "BaseException") = some true
  hd : PySem.W.hasDictIn K C = true
  cc : PySem.W.findIn K (.ref C) "__class__" = some (some (.builtin "object.__class__"))
  gt : PySem.W.specialIn K (.builtin "object.__class__") "__get__" = some (some (.builtin "getset_descriptor.__get__"))
  tk : PySem.W.takesIn K (.builtin "object.__class__") = some true
  ob : PySem.W.mroIn K C (.type "object") = some true
  no : PySem.W.findIn K (.ref C) "value" = some none
theorem pin_inst {pins : List (Addr × Obj)} {s : Shared} {σ : St} {H : Hp} {C dd : Addr} {fs : List (Str × V)} (I : Inv X pins σ H s) (hp : (a, oe) ∈ X.pn) (hz : Zc (.ref C) (some dd) oe) (hf : ∃ vs, oe.data = .fields vs) (ed : H dd = some (.xd fs)) :
    ∃ (od : Obj) (mA : Str → Option Value), PySem.W.InstAt s.heap a oe C (some od) ∧ (∀ f, PySem.W.lookIn f od = some (mA f)) ∧ ∀ f, RelO (fs.lookup f) (mA f) := by
  obtain ⟨p1, _⟩ := I.pin (a, oe) (List.mem_append_left _ hp)
  obtain ⟨vs, hd⟩ := hf
  obtain ⟨mA, hns, rel⟩ := (show ObjOk X.prog X.w H s.heap dd (.xd fs) from I.hok dd _ ed)
  obtain ⟨od, ho, hl⟩ := lookIn_ns hns
  exact ⟨od, mA, ⟨p1, hz.1, by unfold PySem.W.notCls; rw [hd] <;> rfl, by rw [hz.2]; exact ho⟩, hl, rel⟩
/-- isinstance(e, c), e the error -/
def rIsX (K : PySem.W.Frag) (a C dd : Addr) : List V → Hp → VK → Prop := fun xs H Q => ∃ (fs : List (Str × V)) (c : V) (cv : Value) (b : Bool), xs = [.ref a, c] ∧ H dd = some (.xd fs) ∧ ErrI K C ∧ ClsV c cv ∧ PySem.W.kitOne K (.ref C) cv = some b ∧ Q (.bl b) H
theorem call_isX {C dd : Addr} (hp : (a, oe) ∈ X.pn) (hz : Zc (.ref C) (some dd) oe) (hf : ∃ vs, oe.data = .fields vs) : CallR X (.builtin "isinstance") (rIsX X.K a C dd) := by
  intro pins s σ H xs us Q I r h
  obtain ⟨fs, c, cv, b, rfl, ed, T, k, e, q⟩ := h
  obtain ⟨u1, u2, rfl, r1, r2⟩ := vals2 r
  have e2 := k.eq r2
  subst e2
  obtain rfl : u1 = Value.ref a := r1
  obtain ⟨od, mA, J, _, _⟩ := pin_inst I hp hz hf ed
  exact PySem.W.kia_one (PySem.W.kitx_exc T.cl T.ga T.gg T.be T.cc T.gt T.tk T.ob) I.kIn J e (fun z => nomatch z) fun tk => ⟨.bl b, H, I.tok tk, rfl, q⟩
/-- isinstance(e, (c1, c2, ..)) -/
def rIsXT (K : PySem.W.Frag) (a C dd : Addr) : List V → Hp → VK → Prop := fun xs H Q => ∃ (fs : List (Str × V)) (tp : Addr) (cs : List V) (us : List Value) (b : Bool), xs = [.ref a, .ref tp] ∧ H dd = some (.xd fs) ∧ ErrI K C ∧ H tp = some (.tup cs) ∧ Paired ClsV cs us ∧
  PySem.W.kitAny K (.ref C) us = some b ∧ Q (.bl b) H
theorem call_isXT {C dd : Addr} (hp : (a, oe) ∈ X.pn) (hz : Zc (.ref C) (some dd) oe) (hf : ∃ vs, oe.data = .fields vs) : CallR X (.builtin "isinstance") (rIsXT X.K a C dd) := by
  intro pins s σ H xs us Q I r h
  obtain ⟨fs, tp, cs, ws, b, rfl, ed, T, hT, k, e, q⟩ := h
  obtain ⟨u1, u2, rfl, r1, r2⟩ := vals2 r
  obtain rfl : u1 = Value.ref a := r1
  obtain rfl : u2 = Value.ref tp := r2
  obtain ⟨od, mA, J, _, _⟩ := pin_inst I hp hz hf ed
  obtain ⟨_, its, rv, o, g1, g2, n, g3⟩ := (show ObjOk X.prog X.w H s.heap tp (.tup cs) from I.hok tp _ hT)
  have e3 := ClsV.all k rv
  subst e3
  obtain ⟨oc, o2, dt, sl⟩ := o
  simp only at g2 g3
  subst g2 g3
  exact PySem.W.kia_tup (PySem.W.kitx_exc T.cl T.ga T.gg T.be T.cc T.gt T.tk T.ob) I.kIn J g1 e (fun z => nomatch z) fun tk => ⟨.bl b, H, I.tok tk, rfl, q⟩
/-- e.value -/
def tXfA (K : PySem.W.Frag) (a : Addr) (cls : Value) (d : Option Addr) (te : TE) : TE := fun σ H Q => te σ H fun x H1 => x = .ref a ∧ ∃ (C dd : Addr) (v : V), cls = .ref C ∧ d = some dd ∧ ErrI K C ∧ H1 dd = some (.xd [("value", v)]) ∧ Q v H1
theorem pe_xfA (hz : Zc cls d oe) (hf : ∃ vs, oe.data = .fields vs) (he : PE (X.suite a ((a, oe) :: pn)) e te) (hb : attributeBase e "value" X.env (eval e X.env) = eval e X.env := by rfl) :
    PE (X.suite a ((a, oe) :: pn)) (.Attribute e "value" pos) (tXfA X.K a cls d te) := by
  refine ⟨fun pins s σ H Q I h => ?_⟩
  refine attr_of hb (thn (he.run pins s σ H _ I h) fun u s1 hh => ?_)
  obtain ⟨x, H1, I1, rx, ex, C, dd, v, ec, ed, T, hd, q⟩ := hh
  subst ex
  obtain rfl : u = Value.ref a := rx
  subst ec
  subst ed
  obtain ⟨od, mA, J, hl, rel⟩ := pin_inst I1 List.mem_cons_self hz hf hd
  obtain ⟨u, hu, ru⟩ := RelO.some_of (v := v) (o := mA "value") (by
    have z := rel "value"
    rw [show List.lookup ("value" : Str) [(("value" : Str), v)] = some v by simp [List.lookup]] at z
    exact z)
  exact HandSPX.exc_get I1.kIn J T.ga T.gg T.be (PySem.W.findObj_own T.hd T.no rfl (by rw [hl, hu])) (handed_of ru) ⟨v, H1, I1.tok _, ru, q⟩
end
end L2
namespace Gc
open PySem PySem.Spec PyProof.Rows L2
/-- a def that may let an error out, called by names alone -/
structure CalKX (P : Program) (w : World) (K : PySem.W.Frag) (mg : Str → Option Value) (base : Heap) (k : Nat) (x : Str) (ks : List Str) (sp : Sp) : Prop where
  ex : ∃ (f : Addr) (fd : FuncData) (ps : List Str), FnOk P w K mg base (L2.CX P w) k f fd ps sp ∧ mg x = some (.ref f) ∧ PySem.W.keepIn K (.ref f) = true ∧ KBinds K fd ps ks gRev gRev
def tCallKX (sp : Sp) (W : WX) (tk : TA) : TE := fun σ H Q => tk σ H fun zs H2 => sp (gRev [] zs) H2 Q (WE W σ)
theorem pe_calKX {X : Cx} {W : WX} {k j : Nat} {x : Str} {ks : List Str} {sp : Sp} {p pos : Pos} {kws : List Keyword} {t : TA} (tk : Takes X W) (c : CalKX X.prog X.w X.K X.mg X.base k x ks sp) (hr : Room j X.A) (hk : k ≤ j) (hg : Gl X x) (hkw : PK X kws t)
    (hdb : (x == ("__debug__" : Str)) = false := by decide) (hall : (backToKw pos (keywordEach kws X.env)).all (·.1.isSome) = true := by rfl) (hks : (backToKw pos (keywordEach kws X.env)).filterMap (·.1) = ks := by rfl)
    (hpn : ((backTo pos (starEach [] X.env)).any (·.1) || (backToKw pos (keywordEach kws X.env)).any (·.1.isNone)) = false := by rfl) :
    PE X (.Call (.Name x p) [] kws pos) (tCallKX sp W t) := by
  obtain ⟨f, fd, ps, F, hm, kp, b⟩ := c.ex
  refine ⟨fun pins s σ H Q I h => ?_⟩
  refine wpAny_Call_Name_kw (ld_glob I hg hm ?_ hdb)
  refine PySem.W.callWith_KW0 (h₀ := X.base) I.ok.mod.kin kp hall ?_ hpn
  refine thn (hkw.run pos pins s σ H _ I h) fun ws s1 ⟨zs, H1, I1, rz, q⟩ => ⟨I1.kIn, ?_⟩
  rw [hks]
  have r2 := b.rel (us := []) (vs := []) .nil rz
  have size : (gRev [] ws).length = ps.length := by rw [← r2.length]; exact F.len _ _ _ _ q
  refine wpAny_call (codeAny_mono (F.run X.A X.stack s1 H1 ⟨[], ks.zip ws⟩ (gRev [] ws) (gRev [] zs) Q (WE W σ) (hr.mono hk) I1.env0 (b.to s1 [] ws I1.kIn size) r2 q) fun how s2 end_ => ?_)
  cases how with
  | error u => exact passAt tk σ pins H1 s1 u s2 I1 end_
  | ok fl =>
    cases fl with
    | ret u => exact I1.after end_
    | next => exact False.elim end_
    | brk => exact False.elim end_
    | cont => exact False.elim end_
end Gc
namespace L2
open PySem PySem.Spec PyProof.Rows
theorem takesNone {X : Cx} : Takes X (fun _ _ _ _ => False) := fun _ _ x => by
  obtain ⟨_, _, _, _, _, _, _, _, _, _, _, _, _, _, _, _, z⟩ := x
  exact z.elim
end L2

/-! calls by names alone, the names in any order: the i-th parameter is the (p i)-th that is handed in -/
namespace Gc
open PySem PySem.Spec PyProof.Rows GenW L2
def gPerm {α : Type} (p : List Nat) (us ws : List α) : List α := match us with
  | [] => if ws.length = p.length then p.filterMap (fun i => ws[i]?) else []
  | _ :: _ => []
theorem vals_perm {vs : List V} {us : List Value} (h : Vals vs us) : ∀ p : List Nat, Vals (p.filterMap (fun i => vs[i]?)) (p.filterMap (fun i => us[i]?))
  | [] => .nil
  | i :: p => by
    rw [List.filterMap_cons, List.filterMap_cons]
    cases e : vs[i]? with
    | none =>
      have e2 : us[i]? = none := by
        rw [List.getElem?_eq_none_iff] at e ⊢
        rw [← h.length]
        exact e
      rw [e2]
      exact vals_perm h p
    | some v =>
      obtain ⟨u, hu, r⟩ := h.get e
      rw [hu]
      exact .cons r (vals_perm h p)
theorem gPerm_len {α : Type} {p : List Nat} {us ws : List α} (hp : p ≠ []) (h : (gPerm p us ws).length = p.length) : us = [] ∧ ws.length = p.length := by
  have l0 : p.length ≠ 0 := fun z => hp (List.length_eq_zero_iff.mp z)
  cases us with
  | cons u us => exact absurd h.symm l0
  | nil =>
    unfold gPerm at h
    by_cases c : ws.length = p.length
    · exact ⟨rfl, c⟩
    · rw [if_neg c] at h
      exact absurd h.symm l0
theorem bindsP {K : PySem.W.Frag} {x qual : Str} {st : Stmt} {f : Addr} {fd : FuncData} {ps ks : List Str} {p : List Nat} (F : L2.Fun K x qual st f fd) (hp : p ≠ []) (hl : ps.length = p.length)
    (h : ∀ (kV doc pm : Value) (an : Option Addr) (cdv ct : Value) (ws : List Value), ws.length = p.length → bindArgs (PySem.W.fnOf x qual (defArgs st) (defBody st) (defScope st) .none kV doc pm an cdv ct) ⟨[], ks.zip ws⟩ = pure (ps.zip (p.filterMap (fun i => ws[i]?)))) :
    KBinds K fd ps ks (gPerm p) (gPerm p) := by
  obtain ⟨oc, od, kV, doc, pm, an, cdv, ct, osl, rfl, lk, hcd⟩ := F.ex
  refine ⟨fun s us ws _ hq => ?_, fun {vs us zs ws} a b => ?_⟩
  · rw [hl] at hq
    obtain ⟨rfl, lw⟩ := gPerm_len hp hq
    have e : gPerm p [] ws = p.filterMap (fun i => ws[i]?) := by
      unfold gPerm
      rw [if_pos lw]
    rw [e]
    exact .of_eq (h kV doc pm an cdv ct ws lw)
  · cases a with
    | cons _ _ => exact .nil
    | nil =>
      unfold gPerm
      by_cases c : ws.length = p.length
      · have c2 : zs.length = p.length := b.length.trans c
        simp only [c, c2, if_true]
        exact vals_perm b p
      · have c2 : ¬ zs.length = p.length := fun z => c (b.length.symm.trans z)
        simp only [c, c2, if_false]
        exact .nil
structure CalP (P : Program) (w : World) (K : PySem.W.Frag) (mg : Str → Option Value) (base : Heap) (k : Nat) (x : Str) (ks : List Str) (pm : List Nat) (sp : Sp) : Prop where
  ex : ∃ (f : Addr) (fd : FuncData) (ps : List Str), FnOk P w K mg base CX0 k f fd ps sp ∧ mg x = some (.ref f) ∧ PySem.W.keepIn K (.ref f) = true ∧ KBinds K fd ps ks (gPerm pm) (gPerm pm)
theorem pe_calP {X : Cx} {k j : Nat} {x : Str} {ks : List Str} {pm : List Nat} {sp : Sp} {p pos : Pos} {kws : List Keyword} {tk : TA} (c : CalP X.prog X.w X.K X.mg X.base k x ks pm sp) (hr : Room j X.A) (hk : k ≤ j) (hg : Gl X x) (hkw : PK X kws tk)
    (hdb : (x == ("__debug__" : Str)) = false := by decide) (hall : (backToKw pos (keywordEach kws X.env)).all (·.1.isSome) = true := by rfl) (hks : (backToKw pos (keywordEach kws X.env)).filterMap (·.1) = ks := by rfl)
    (hpn : ((backTo pos (starEach [] X.env)).any (·.1) || (backToKw pos (keywordEach kws X.env)).any (·.1.isNone)) = false := by rfl) :
    PE X (.Call (.Name x p) [] kws pos) (tCallK sp (gPerm pm) E0 tNil tk) := by
  obtain ⟨f, fd, ps, F, hm, kp, b⟩ := c.ex
  refine ⟨fun pins s σ H Q I h => ?_⟩
  refine wpAny_Call_Name_kw (ld_glob I hg hm ?_ hdb)
  refine PySem.W.callWith_KW0 (h₀ := X.base) I.ok.mod.kin kp hall ?_ hpn
  refine thn (hkw.run pos pins s σ H _ I h) fun ws s1 ⟨zs, H1, I1, rz, q⟩ => ⟨I1.kIn, ?_⟩
  rw [hks]
  exact run_fnk (us := []) (vs := []) F (hr.mono hk) b pass0 I1 .nil rz q
structure GCalP (P : Program) (w : World) (K : PySem.W.Frag) (mg : Str → Option Value) (base : Heap) (k : Nat) (x : Str) (ks : List Str) (pm : List Nat) (sp : SpG) : Prop where
  ex : ∃ (f : Addr) (fd : FuncData) (ps : List Str), GFn P w K mg base k f fd ps sp ∧ mg x = some (.ref f) ∧ PySem.W.keepIn K (.ref f) = true ∧ KBinds K fd ps ks (gPerm pm) (gPerm pm)
def tCallGP (sp : SpG) (pm : List Nat) (E : XK) (tk : TA) : TGen := fun σ H cont => tk σ H fun zs H2 => sp (gPerm pm [] zs) H2 cont E
section
variable {X : Cx} {k : Nat} {x : Str} {ks : List Str} {pm : List Nat} {sp : SpG} {p p0 pos pos' : Pos} {kws : List Keyword} {tk : TA}
theorem pgen_callP {E : XK} (c : GCalP X.prog X.w X.K X.mg X.base k x ks pm sp) (hr : Room k X.A) (hg : Gl X x) (hkw : PK X kws tk)
    (hdb : (x == ("__debug__" : Str)) = false := by decide) (hall : (backToKw pos (keywordEach kws X.env)).all (·.1.isSome) = true := by rfl) (hks : (backToKw pos (keywordEach kws X.env)).filterMap (·.1) = ks := by rfl)
    (hpn : ((backTo pos (starEach [] X.env)).any (·.1) || (backToKw pos (keywordEach kws X.env)).any (·.1.isNone)) = false := by rfl) :
    PGen X k (.Call (.Name x p) [] kws pos) (tCallGP sp pm E tk) E := by
  obtain ⟨f, fd, ps, F, hm, kp, b⟩ := c.ex
  refine ⟨fun pins s σ H cont I h => ?_⟩
  refine wpAny_Call_Name_kw (ld_glob I hg hm ?_ hdb)
  refine PySem.W.callWith_KW0 (h₀ := X.base) I.ok.mod.kin kp hall ?_ hpn
  refine thn (hkw.run pos pins s σ H _ I h) fun ws s1 ⟨zs, H1, I1, rz, q⟩ => ⟨I1.kIn, ?_⟩
  rw [hks]
  have r2 := b.rel (us := []) (vs := []) .nil rz
  have hl : (gPerm pm [] ws).length = ps.length := by rw [← r2.length]; exact F.len _ _ _ _ q
  refine wpAny_call (codeAny_mono (F.run X.A X.stack s1 H1 ⟨[], ks.zip ws⟩ (gPerm pm [] ws) (gPerm pm [] zs) cont E hr I1.env0 (b.to s1 [] ws I1.kIn hl) r2 q) fun r s' hq => ?_)
  cases r with
  | error e => exact False.elim hq
  | ok fl =>
    cases fl with
    | ret u => exact ⟨H1, s1, [], I1, .nil, hq⟩
    | next => exact False.elim hq
    | brk => exact False.elim hq
    | cont => exact False.elim hq
theorem pe_listGP (c : GCalP X.prog X.w X.K X.mg X.base k x ks pm sp) (hr : Room (k + 3) X.A) (hg : Gl X x) (hkw : PK X kws tk) (hgl : Gl X "list") (hml : X.mg "list" = none)
    (hdb : (x == ("__debug__" : Str)) = false := by decide) (hall : (backToKw pos' (keywordEach kws X.env)).all (·.1.isSome) = true := by rfl) (hks : (backToKw pos' (keywordEach kws X.env)).filterMap (·.1) = ks := by rfl)
    (hpn : ((backTo pos' (starEach [] X.env)).any (·.1) || (backToKw pos' (keywordEach kws X.env)).any (·.1.isNone)) = false := by rfl)
    (he2 : starEach [.Call (.Name x p) [] kws pos'] X.env = (false, eval (.Call (.Name x p) [] kws pos') X.env) :: starEach [] X.env := by rfl) :
    PE X (.Call (.Name "list" p0) [.Call (.Name x p) [] kws pos'] [] pos) (tListG (tCallGP sp pm E0 tk)) :=
  pe_listG (pgen_callP c (hr.mono (by omega)) hg hkw hdb hall hks hpn) passE0 noStop0 hr hgl hml (by decide +kernel) (by decide) (by decide) he2
end
end Gc

/-! defs that call repr: what is shown just now is told to be nothing. The law's own defs go so; all others as before -/
namespace Gc
open PySem PySem.Spec PyProof.Rows L2
structure FnG (P : Program) (w : World) (K : PySem.W.Frag) (mg : Str → Option Value) (base : Heap) (k : Nat) (f : Addr) (fd : FuncData) (ps : List Str) (sp : Sp) : Prop where
  len : ∀ vs H Q E, sp vs H Q E → vs.length = ps.length
  run : ∀ (A : Around) (outer : List Env) (s : Shared) (H : Hp) (args : Args) (us : List Value) (vs : List V) (Q : VK) (E : XK), A.guards = some [] → Room k A → Env0 P w K mg base A outer s H →
    BindsTo s fd args (ps.zip us) → Vals vs us → sp vs H Q E → codeAny (model P w) A (.call (.ref f) args) (CR CX0 outer P w H s Q E) s
theorem FnG.of {P : Program} {w : World} {K : PySem.W.Frag} {mg : Str → Option Value} {base : Heap} {k : Nat} {f : Addr} {fd : FuncData} {ps : List Str} {sp : Sp} (F : FnOk P w K mg base CX0 k f fd ps sp) : FnG P w K mg base k f fd ps sp :=
  ⟨F.len, fun A outer s H args us vs Q E _ hr e0 hb hv hs => F.run A outer s H args us vs Q E hr e0 hb hv hs⟩
section
variable {P : Program} {w : World} {K : PySem.W.Frag} {mg : Str → Option Value} {base : Heap}
theorem okG {x qual : Str} {st : Stmt} {f : Addr} {fd : FuncData} {N ps : List Str} {k : Nat} {sp : Sp} (F : Fun K x qual st f fd) (S : FnScope N ps (defScope st)) (len : ∀ vs H Q E, sp vs H Q E → vs.length = ps.length)
    (hbody : ∀ (cdv : Value) (A : Around) (outer : List Env) (s : Shared) (H : Hp) (vs : List V) (Q : VK) (E : XK), (A.deeper (envOfC qual (defScope st) s.heap.objs.size f cdv)).guards = some [] → Room k (A.deeper (envOfC qual (defScope st) s.heap.objs.size f cdv)) → sp vs H Q E →
      ∃ t, PSs (cxOf CX0 P w K mg base N qual (defScope st) f cdv A outer s H E).nox (defBody st) t ∧ t { nx := fun _ H' => Q .non H', rt := Q } (start N vs) H) : FnG P w K mg base (k + 1) f fd ps sp := by
  obtain ⟨oc, od, kV, doc, pm, an, cdv, ct, osl, rfl, lk, hcd⟩ := F.ex
  refine ⟨len, fun A outer s H args us vs Q E hg hr e0 hb r hsp => ?_⟩
  have n := len _ _ _ _ hsp
  have same : ∀ b o, base.get? b = some o → s.heap.get? b = some o := fun b o e => (e0.bs b o e).1
  have kin : K.In s.heap := e0.mod.kin.keeps same
  have kinds : ∀ y ∈ ps.zip us, (defScope st).names.lookup y.1 = some .local ∨ ((defScope st).names.lookup y.1 = some .cell ∧ ((cellsFrom (s.heap.objs.size + 1) (defScope st).names []).lookup y.1).isSome = true) := by
    rintro ⟨y, v⟩ hy
    exact (S.par y (List.of_mem_zip hy).1).imp id fun q => ⟨q, PySem.W.cellsFrom_some _ _ _ (.inl q)⟩
  refine codeAny_call_function hr.depth (kin _ _ lk) rfl S.co S.gen rfl (PySem.W.codeRec_of kin hcd) (hb _ _ _ _ (wpAny_newFunctionEnv_cells S.kind kinds fun env he s1 x => ?_))
  subst he
  refine ⟨(e0.mod.nolimit.keeps same).keeps x.toInCall.keep, codeAny_func ?_⟩
  obtain ⟨t, ht, hq⟩ := hbody cdv A outer s H vs Q E hg (hr.deeper _) hsp
  refine wpAny_mono (ht.nox.run [] s1 (start N vs) H _ (inv_start S hr.hd e0 n r x) hq) (fun fl s' hs => ?_) fun e s' hs => hs
  match fl, hs with
  | .ret u, ⟨v, σ', H', J, rv, q⟩ => exact ⟨v, H', J.os, J.bare, J.base, J.hok, rv, q⟩
  | .next, ⟨σ', H', J, q⟩ => exact ⟨V.non, H', J.os, J.bare, J.base, J.hok, rfl, q⟩
  | .brk, ⟨_, _, _, q⟩ => exact q.elim
  | .cont, ⟨_, _, _, q⟩ => exact q.elim
end
section
variable {X : Cx} {k : Nat} {f : Addr} {fd : FuncData} {ps : List Str} {sp : Sp} {x : Str} {p pos : Pos} {e : Expr} {es : List Expr} {t : TA}
/-- a call of such a def -/
theorem pe_callG (F : FnG X.prog X.w X.K X.mg X.base k f fd ps sp) (hg0 : X.A.guards = some []) (hr : Room k X.A) (hg : Gl X x) (hm : X.mg x = some (.ref f)) (hk : PySem.W.keepIn X.K (.ref f) = true) (hb : Binds X.K fd ps [])
    (ha : PA X (e :: es) t) (hdb : (x == ("__debug__" : Str)) = false := by decide) (he : starEach (e :: es) X.env = (false, eval e X.env) :: starEach es X.env := by rfl) (hpl : (backTo pos (starEach es X.env)).any (·.1) = false := by rfl) :
    PE X (.Call (.Name x p) (e :: es) [] pos) (tCall sp [] E0 t) := by
  refine ⟨fun pins s σ H Q I h => ?_⟩
  refine wpAny_Call_Name_kw (ld_glob I hg hm ?_ hdb)
  refine PySem.W.callWith_K (h₀ := X.base) I.ok.mod.kin hk (thn (ha.run pos pins s σ H _ I h) fun us s1 ⟨vs, H1, I1, r, q⟩ => ⟨I1.kIn, ?_⟩) he hpl
  have q' : sp vs H1 Q E0 := by
    have z : sp (vs ++ []) H1 Q E0 := q
    rwa [List.append_nil] at z
  have n := F.len _ _ _ _ q'
  have bd := hb s1 us I1.kIn (by rw [List.append_nil, ← r.length]; exact n)
  rw [List.append_nil] at bd
  refine wpAny_call (codeAny_mono (F.run X.A X.stack s1 H1 ⟨us, []⟩ us vs Q E0 hg0 hr I1.env0 bd r q') fun o s' hq => ?_)
  match o, hq with
  | .error _, z => exact z.elim
  | .ok (.ret _), z => exact I1.after z
  | .ok .next, z => exact z.elim
  | .ok .brk, z => exact z.elim
  | .ok .cont, z => exact z.elim
end
/-! ### repr -/
/-- repr(x), x a list or a tuple of data whose ints are not too wide: its text -/
def rRepr (K : PySem.W.Frag) : List V → Hp → VK → Prop := fun xs H Q => ∃ (a : Addr) (d : PyData), xs = [.ref a] ∧ Dp K H (.ref a) d ∧ d.showable = true ∧ d.hasDict = false ∧ d.depth ≤ 60 ∧ d.shown.length ≤ sizeLine ∧ Q (.str d.shown) H
theorem cr_repr {X : Cx} (hg : X.A.guards = some []) (hu : X.A.units + 64 < cLine) : CallR X (.builtin "repr") (rRepr X.K) := by
  intro pins s σ H xs us Q I r h
  obtain ⟨a, d, rfl, hd, hs, hn, hdp, hz, q⟩ := h
  obtain ⟨u, rfl, ru⟩ := vals1 r
  obtain ⟨as, rd⟩ := Dp.reads I d _ u hd ru
  obtain rfl : u = Value.ref a := ru
  refine PySem.repr_of_reads' rd hs (fun z => by rw [hn] at z; cases z) hg (by omega) (fun _ _ e => e) (fun h' v tk hk => ⟨.str d.shown, H, I.kept hk, ⟨_, rfl⟩, q⟩) hz
/-! ### the law is called from the top, where nothing is shown -/
theorem call_lawG {P : Program} {w : World} {K : PySem.W.Frag} {mg mb : Str → Option Value} {k : Nat} {fa a : Addr} {fd : FuncData} {x : Str} {sp : Sp} {s₁ : Shared} {vs : List Value} {ns : List Int}
    (KX : K.In s₁.heap) (hns : s₁.heap.Ns mainGlobals mg) (hb : s₁.heap.Ns builtinsNs mb) (hbb : ∀ x : Str, x ≠ "__name__" → mb x = bootBuiltins x) (hlim : s₁.heap.NoLimit) (hg : s₁.gens = #[])
    (ha : s₁.heap.get? a = some { cls := .type "list", data := .seq vs.toArray }) (hi : IntsAre vs ns) (hl : ns.length ≤ sizeLine) (hr : Room k callerA)
    (F : ∀ base : Heap, K.In base → base.Ns mainGlobals mg → FnG P w K mg base k fa fd [x] sp) (hbind : ∀ (s : Shared) (u : Value), BindsTo s fd ⟨[u], []⟩ [(x, u)])
    (hsp : ∀ H : Hp, Only H → SqL K H a (ns.map V.int) → sp [.ref a] H (fun v _ => v = .bl true) fun _ _ _ => False) :
    codeAny (model P w) callerA (.call (.ref fa) ⟨[.ref a], []⟩) (fun r s' => r = .ok (.ret (.bool true)) ∧ OldK s₁.heap s'.heap ∧ s'.os = s₁.os ∧ AllBare s'.gens) s₁ := by
  have rv := vals_ints hi
  have lv := hi.length
  -- once the heap that is seen is chosen: at most the script is in it
  have go : ∀ H : Hp, Only H → SqL K H a (ns.map V.int) → HOk P w H s₁.heap → (∀ b u, H b = some u → b = a ∧ K.lookup a = none) →
      codeAny (model P w) callerA (.call (.ref fa) ⟨[.ref a], []⟩) (fun r s' => r = .ok (.ret (.bool true)) ∧ OldK s₁.heap s'.heap ∧ s'.os = s₁.os ∧ AllBare s'.gens) s₁ := by
    intro H hO hS hok hA
    have out : ∀ {b : Addr} {o : Obj}, s₁.heap.get? b = some o → (∀ u, H b = some u → False) → (hidT s₁.heap H).get? b = some o := fun {b o} e n => hidT_get e (by
      cases q : H b with
      | none => rfl
      | some u => exact (n u q).elim)
    have isA : ∀ {b : Addr} {o : Obj} {u : HO}, s₁.heap.get? b = some o → H b = some u → o.data = .seq vs.toArray := fun {b o u} e q => by
      obtain ⟨rfl, _⟩ := hA b u q
      rw [ha] at e
      cases e
      rfl
    have nsOut : ∀ {b : Addr} {m : Str → Option Value}, s₁.heap.Ns b m → (hidT s₁.heap H).Ns b m := fun {b m} ⟨o, es, ep, e, d, r⟩ => ⟨o, es, ep, out e fun u q => (by have z := isA e q; rw [d] at z; cases z), d, r⟩
    have kin : K.In (hidT s₁.heap H) := fun b o e => out (KX b o e) fun u q => by
      obtain ⟨rfl, n⟩ := hA b u q
      rw [n] at e
      cases e
    have md : Mod K mg (hidT s₁.heap H) := ⟨kin, nsOut hns, ⟨mb, nsOut hb, hbb⟩, let ⟨mc, h1, h2⟩ := hlim; ⟨mc, nsOut h1, h2⟩⟩
    have none0 : ∀ b : Addr, b ∈ frs ([] : List Env) → False := fun b z => by
      have z' : b ∈ ([] : List Addr) := z
      cases z'
    have e0 : Env0 P w K mg (hidT s₁.heap H) callerA [] s₁ H := ⟨rfl, md, fun b o e => of_hidT e, Nat.le_of_eq (hidT_size _ _), trivial, fun b z => (none0 b z).elim, hok, .of_eq hg⟩
    refine codeAny_mono ((F _ kin (nsOut hns)).run callerA [] s₁ H ⟨[.ref a], []⟩ [.ref a] [.ref a] _ _ rfl hr e0 (hbind s₁ (.ref a)) (.cons rfl .nil) (hsp H hO hS)) fun r s' h => ?_
    match r, h with
    | .error _, z => exact z.elim
    | .ok .next, z => exact z.elim
    | .ok .brk, z => exact z.elim
    | .ok .cont, z => exact z.elim
    | .ok (.ret u), ⟨v, H', os, bare, un, hok', r', q⟩ =>
      obtain rfl : v = .bl true := q
      obtain rfl : u = Value.bool true := r'
      refine ⟨rfl, OldK.of_keep fun b o e => ?_, os, bare⟩
      cases q : H b with
      | none => exact un.keep b o e q (fun z => (none0 b z).elim) (by simp)
      | some u =>
        rcases hO b with z | ⟨ob, xs, z⟩
        · rw [q] at z
          cases z
        · obtain ⟨e1, _⟩ := hok b _ z
          obtain ⟨e2, _⟩ := hok' b _ (un.frzs b ob _ z)
          rw [e] at e1
          cases e1
          exact e2
  cases hk : K.lookup a with
  | some o =>
    have e := KX a o hk
    rw [ha] at e
    cases e
    exact go (fun _ => none) (fun _ => .inl rfl) (.inr ⟨_, vs.toArray, _, hk, rfl, rfl, rfl, by rw [List.size_toArray, lv]; exact hl, by simpa using rv⟩) (fun b u z => nomatch (show (none : Option HO) = some u from z)) fun b u z => nomatch (show (none : Option HO) = some u from z)
  | none =>
    have at' : ∀ {b : Addr} {u : HO}, (if b = a then some (HO.frz { cls := .type "list", data := .seq vs.toArray } (.lst (ns.map V.int))) else none) = some u → b = a ∧ u = .frz { cls := .type "list", data := .seq vs.toArray } (.lst (ns.map V.int)) := fun {b u} z => by
      by_cases h : b = a
      · rw [if_pos h] at z
        exact ⟨h, (Option.some.inj z).symm⟩
      · rw [if_neg h] at z
        cases z
    refine go (fun b => if b = a then some (.frz { cls := .type "list", data := .seq vs.toArray } (.lst (ns.map V.int))) else none) (fun b => ?_) (.inl (.inr ⟨{ cls := .type "list", data := .seq vs.toArray }, if_pos rfl⟩)) (fun b u z => ?_) fun b u z => ⟨(at' z).1, hk⟩
    · by_cases h : b = a
      · exact .inr ⟨_, _, if_pos h⟩
      · exact .inl (if_neg h)
    · obtain ⟨rfl, rfl⟩ := at' z
      exact ⟨ha, by rw [List.length_map]; exact hl, vs, _, rv, ha⟩
/-- the head's last goal, from such a law -/
theorem walk_G {l : PySem.W.OpenLaw} {n k : Nat} {q : Program} {loose : List Str} {XP : (Str → Option Value) → Heap → Prop} {YP : World → Heap → Prop} {d : DefRec} {K : Params → PySem.W.Frag} {sp : World → Sp} {x : Str}
    (hn : l.most = some n) (hn2 : n ≤ sizeLine) (hdf : d.params.defaults = []) (hr : Room k callerA) (hY : ∀ (w : World) (h : Heap), YP w h → (K w.params).In h)
    (F : ∀ (w : World) (mg : Str → Option Value) (fa : Addr) (h : Heap), (K w.params).In h → h.Ns mainGlobals mg → mg d.name = some (.ref fa) →
      ∃ fd : FuncData, (∀ (s : Shared) (u : Value), BindsTo s fd ⟨[u], []⟩ [(x, u)]) ∧ ∀ base : Heap, (K w.params).In base → base.Ns mainGlobals mg → FnG l.prog w (K w.params) mg base k fa fd [x] (sp w))
    (hsp : ∀ (w : World) (H : Hp) (a : Addr) (ns : List Int), ns.length ≤ n → Only H → SqL (K w.params) H a (ns.map V.int) → sp w [.ref a] H (fun v _ => v = .bl true) fun _ _ _ => False) :
    PySem.W.WalkO q loose XP YP l.row.toRowW d [] (fun f vs => PySem.call f vs) := by
  refine Att.attach_call hn hdf fun w s₀ s₁ mg mb fa o pm cd doc a vs ns G Y ho hd hcd hmg hobj hints hlen hg => ?_
  have KX := hY w _ Y
  obtain ⟨fd, hb, hF⟩ := F w mg fa _ KX G.T.g hmg
  exact call_lawG KX G.T.g G.T.b G.T.builtins G.T.nolimit hg hobj hints (Nat.le_trans hlen hn2) hr hF hb fun H hO hS => hsp w H a ns hlen hO hS
end Gc

/-! calls of defs that call repr -/
namespace Gc
open PySem L2
structure CalG (P : Program) (w : World) (K : PySem.W.Frag) (mg : Str → Option Value) (base : Heap) (k : Nat) (x : Str) (sp : Sp) : Prop where
  ex : ∃ (f : Addr) (fd : FuncData) (ps : List Str), FnG P w K mg base k f fd ps sp ∧ mg x = some (.ref f) ∧ PySem.W.keepIn K (.ref f) = true ∧ Binds K fd ps []
theorem FnG.mono {P : Program} {w : World} {K : PySem.W.Frag} {mg : Str → Option Value} {base : Heap} {j k : Nat} {f : Addr} {fd : FuncData} {ps : List Str} {sp : Sp} (F : FnG P w K mg base j f fd ps sp) (h : j ≤ k) : FnG P w K mg base k f fd ps sp :=
  ⟨F.len, fun A outer s H args us vs Q E hg hr => F.run A outer s H args us vs Q E hg (hr.mono h)⟩
theorem pe_calG {X : Cx} {k j : Nat} {x : Str} {sp : Sp} {p pos : Pos} {e : Expr} {es : List Expr} {t : TA} (c : CalG X.prog X.w X.K X.mg X.base k x sp) (hg0 : X.A.guards = some []) (hr : Room j X.A) (hk : k ≤ j) (hg : Gl X x) (ha : PA X (e :: es) t)
    (hdb : (x == ("__debug__" : Str)) = false := by decide) (he : starEach (e :: es) X.env = (false, eval e X.env) :: starEach es X.env := by rfl) (hpl : (backTo pos (starEach es X.env)).any (·.1) = false := by rfl) :
    PE X (.Call (.Name x p) (e :: es) [] pos) (tCall sp [] E0 t) := by
  obtain ⟨f, fd, ps, F, hm, kp, b⟩ := c.ex
  exact pe_callG F hg0 (hr.mono hk) hg hm kp b ha hdb he hpl
end Gc

/-! commands that are possible one after the other (S family: k04, k05) -/
namespace Gc
open PySem L2
abbrev s_fitting : Stmt := top 33
structure TxtFt (mg : Str → Option Value) : Prop where
  range : mg "range" = none
  len : mg "len" = none
def spFit (K : PySem.W.Frag) : Sp := fun vs H Q _ => ∃ (a d t b : Addr) (n : Nat) (T : List Int) (r : Int) (g : Option Int) (many : Int), vs = [.ref a, .ref t, .ref b, .int many] ∧ Src H a d n ∧ n < 2 ^ 36 ∧ H t = some (.lst (T.map V.int)) ∧ t ≠ a ∧ t ≠ d ∧ (∀ x ∈ T, 0 ≤ x) ∧ T.length ≤ 60 ∧ SqT K H b [.int r, optV g] ∧ 0 ≤ r ∧ r < T.length ∧ ge g 0 ∧ 0 ≤ many ∧ many ≤ 60 ∧
  ∀ (H' : Hp) (p : Addr) (xs : List V) (cs : List Cmd), Keep a d H H' → Src H' a d (n + 600) → p ≠ a → p ≠ d → H p = none → H' p = some (.lst xs) → CmdsOf K H' xs cs → AllOk cs → (∀ c ∈ cs, numC c ≤ 10 ^ 30) → cs.length ≤ many → Within cs (-r) (T.length - 1 - r) → Q (.ref p) H'
theorem within_snocF {cs : List Cmd} {c : Cmd} {lo hi : Int} (h : Within cs lo hi) (h1 : lo ≤ last cs + c.dv) (h2 : last cs + c.dv ≤ hi) : Within (cs ++ [c]) lo hi := fun i => by
  by_cases l : i ≤ cs.length
  · rw [List.take_append_of_le_length l]
    exact h i
  · rw [List.take_of_length_le (by rw [List.length_append]; show _ + 1 ≤ i; omega), last_snoc]
    exact ⟨h1, h2⟩
theorem in_text {T : List Int} {r : Int} {g : Option Int} {c : Cmd} (h0 : 0 ≤ r + c.dv) (h1 : r + c.dv < T.length) : stepP T r g c = some (r + c.dv, aim1 (lenAt T r) g c) := by
  by_cases cv : c.vert = true
  · unfold stepP
    rw [if_pos cv, if_pos ⟨h0, h1⟩, aim1_vert (t' := lenAt T r) cv]
  · have d0 := dv_flat cv
    unfold stepP
    rw [if_neg cv, d0, Int.add_zero]
section
variable {P : Program} {w : World} {K : PySem.W.Frag} {mg : Str → Option Value} {base : Heap}
theorem sc_law_fitting : FnScope ["source", "sheet", "spot", "many", "found", "here", "time", "command", "room"] ["source", "sheet", "spot", "many"] (defScope s_fitting) := ⟨rfl, rfl, rfl, by decide +kernel, rfl, by decide +kernel, by decide +kernel⟩
theorem ok_fit {f : Addr} {fd : FuncData} (F : Fun K "_law_fitting" "_law_fitting" s_fitting f fd) (T : TxtFt mg) (c_law_draw : Cal P w K mg base 1 "_law_draw" spDraw) (c_law_command : Cal P w K mg base 3 "_law_command" (spCommand K)) (c_law_moved : Cal P w K mg base 2 "_law_moved" (spLMoved K)) : FnOk P w K mg base CX0 4 f fd ["source", "sheet", "spot", "many"] (spFit K) := by
  refine F.ok sc_law_fitting (fun vs H Q E h => ?_) (fun cdv A outer s H vs Q E hr h => ?_)
  · obtain ⟨a, d, t, b, n, T, r, g, many, rfl, _⟩ := h
    rfl
  · obtain ⟨a, d, t, b, n, tx, r, g, many, rfl, S0, hn, ht, ta, td, nn, t60, hb, r0, r1, g0, m0, m1, k⟩ := h
    refine ⟨_, (pss_cons (ps_par (i := 4) (j := 5) rfl sc_law_fitting.nd rfl rfl (by decide) rfl rfl (pa_cons (pe_lst pa_nil) (pa_cons (pv 2) pa_nil)) (by rfl))
      (pss_cons (ps_for PassesOwn.never rfl (pi_range1 rfl T.range (pa_cons (pe_cal c_law_draw hr (by decide) (by rfl) (pa_cons (pv 0) (pa_cons (pe_op op_add (pv 3) pe_int) pa_nil))) pa_nil)) (pg_name (i := 6) sc_law_fitting.nd rfl (Or.inl rfl)) (pss_cons (ps_set (i := 7) sc_law_fitting.nd rfl (Or.inl rfl) (pe_cal c_law_command hr (by decide) (by rfl) (pa_cons (pv 0) pa_nil)))
      (C8.pss_cut (ps_if (pt_cmpR op_in_seq (pe_ix ix_tup (pv 7) pe_int (fun _ _ => rfl)) (pe_tup (pa_cons pe_str (pa_cons pe_str pa_nil))) (by rfl)) (C8.pss_cut (ps_set (i := 8) sc_law_fitting.nd rfl (Or.inl rfl) (pe_ifExp (pt_cmpR op_eq (pe_ix ix_tup (pv 7) pe_int (fun _ _ => rfl)) pe_str (nomark _)) (pe_op op_sub (pe_op op_sub (pe_callB call_len_seq (by rfl) T.len (by decide +kernel) (pa_cons (pv 1) pa_nil)) pe_int) (pe_ix ix_tup (pv 5) pe_int (fun _ _ => rfl))) (pe_ix ix_tup (pv 5) pe_int (fun _ _ => rfl))))
      (pss_one (ps_set (i := 7) sc_law_fitting.nd rfl (Or.inl rfl) (pe_ifExp (pt_cmpR op_gt (pv 8) pe_int (nomark _)) (pe_tup (pa_cons (pe_ix ix_tup (pv 7) pe_int (fun _ _ => rfl)) (pa_cons (pe_op op_add pe_int (pe_cal c_law_draw hr (by decide) (by rfl) (pa_cons (pv 0) (pa_cons (pv 8) pa_nil)))) pa_nil))) (pe_tup (pa_cons pe_str (pa_cons (pe_op op_add pe_int (pe_cal c_law_draw hr (by decide) (by rfl) (pa_cons (pv 0) (pa_cons pe_int pa_nil)))) pa_nil))))))) pss_nil)
      (pss_cons (ps_set (i := 5) sc_law_fitting.nd rfl (Or.inl rfl) (pe_cal c_law_moved hr (by decide) (by rfl) (pa_cons (pv 1) (pa_cons (pv 5) (pa_cons (pv 7) pa_nil)))))
      (pss_one (ps_expr (pe_bm PySem.F.plainAttrs_list PySem.F.slot_list_append PySem.F.type_list_append mt_append (pv 4) (pa_cons (pv 7) pa_nil))))))))
      (pss_one (ps_ret (pv 4))))), ?_⟩
    refine ⟨(by show 0 ≤ sizeLine; decide), fun fo nfo => ⟨_, rfl, _, _, rfl, ?_⟩⟩
    obtain ⟨foa, fod⟩ := S0.off nfo
    have ft : t ≠ fo := fun z => by rw [← z, ht] at nfo; cases nfo
    have kA : Keep a d H (upd H fo (.lst [])) := Keep.of (new_same nfo)
    have e1 := new_same (o := HO.lst ([] : List V)) nfo
    have hfo : (upd H fo (.lst [])) fo = some (.lst []) := upd_same
    replace S0 := S0.same e1
    replace ht := e1 _ _ ht
    replace hb := seq_t e1 hb
    generalize upd H fo (.lst []) = H1 at kA hfo S0 ht hb ⊢
    refine ⟨_, rfl, _, rfl, _, _, rfl, rfl, a, d, n, _, rfl, S0, by omega, by omega, log9 (a := 20) (by omega) (by decide), fun H2 ct kp2 S2 c0 c1 => ?_⟩
    refine ⟨_, rfl, by omega, by omega, for_range (lo := 0) (n := ct.toNat) (fun i σ H' => ∃ (bh : Addr) (r' : Int) (g' : Option Int) (v6 v7 v8 : Option V) (xs : List V) (cs : List Cmd), σ = [some (.ref a), some (.ref t), some (.ref b), some (.int many), some (.ref fo), some (.ref bh), v6, v7, v8] ∧ Keep a d H H' ∧ Src H' a d (n + 2 + 8 * i) ∧ H' t = some (.lst (tx.map V.int)) ∧
        H' fo = some (.lst xs) ∧ CmdsOf K H' xs cs ∧ AllOk cs ∧ (∀ c ∈ cs, numC c ≤ 10 ^ 30) ∧ cs.length = i ∧ Within cs (-r) (tx.length - 1 - r) ∧ SqT K H' bh [.int r', optV g'] ∧ r' = r + last cs ∧ 0 ≤ r' ∧ r' < tx.length ∧ ge g' 0)
      ⟨b, r, g, none, none, none, [], [], rfl, kA.trans kp2, S2.more (by omega), kp2 _ _ ta td ht, kp2 _ _ foa fod hfo, .nil, (fun _ h => nomatch h), (fun _ h => nomatch h), rfl, (fun i => by rw [List.take_nil]; show -r ≤ 0 ∧ (0 : Int) ≤ _; omega), S0.tup kp2 hb, by show r = r + 0; omega, r0, r1, g0⟩ (fun i σ H3 hi h => ?_) (fun σ H3 h => ?_)⟩
    · obtain ⟨bh, r', g', v6, v7, v8, xs, cs, rfl, kA3, S3, ht3, hf3, hc3, ok3, nb3, lc3, wi3, hb3, er, q0, q1, gg⟩ := h
      refine ⟨_, rfl, a, d, _, rfl, S3, by omega, fun H4 q c kp4 S4 nq hq okc numc => ?_⟩
      refine ⟨fun σ H' => ∃ (q : Addr) (c : Cmd) (v8 : Option V), σ = [some (.ref a), some (.ref t), some (.ref b), some (.int many), some (.ref fo), some (.ref bh), some (.int (0 + (i : Int))), some (.ref q), v8] ∧ Keep a d H3 H' ∧ Src H' a d (n + 9 + 8 * i) ∧ H' q = some (.tup (encC c)) ∧ c.ok ∧ numC c ≤ 10 ^ 30 ∧ 0 ≤ r' + c.dv ∧ r' + c.dv < tx.length, ?_, ?_⟩
      · cases c with
        | home =>
          refine ⟨_, rfl, q, _, 0, _, rfl, rfl, SqT.of hq, rfl, (by show 2 ≤ sizeLine; decide), fun p1 np1 => ?_⟩
          have f1 := new_same (o := HO.tup [V.str "down", .str "up"]) np1
          refine ⟨p1, _, rfl, .inr (SqT.of upd_same), rfl, rfl, false, by decide +kernel, iteF ?_⟩
          exact ⟨q, .home, _, rfl, kp4.trans (Keep.of f1), (S4.same f1).more (by omega), f1 _ _ hq, okc, by omega, (by show 0 ≤ r' + 0; omega), (by show r' + 0 < tx.length; omega)⟩
        | stop =>
          refine ⟨_, rfl, q, _, 0, _, rfl, rfl, SqT.of hq, rfl, (by show 2 ≤ sizeLine; decide), fun p1 np1 => ?_⟩
          have f1 := new_same (o := HO.tup [V.str "down", .str "up"]) np1
          refine ⟨p1, _, rfl, .inr (SqT.of upd_same), rfl, rfl, false, by decide +kernel, iteF ?_⟩
          exact ⟨q, .stop, _, rfl, kp4.trans (Keep.of f1), (S4.same f1).more (by omega), f1 _ _ hq, okc, by omega, (by show 0 ≤ r' + 0; omega), (by show r' + 0 < tx.length; omega)⟩
        | right nn0 =>
          refine ⟨_, rfl, q, _, 0, _, rfl, rfl, SqT.of hq, rfl, (by show 2 ≤ sizeLine; decide), fun p1 np1 => ?_⟩
          have f1 := new_same (o := HO.tup [V.str "down", .str "up"]) np1
          refine ⟨p1, _, rfl, .inr (SqT.of upd_same), rfl, rfl, false, by decide +kernel, iteF ?_⟩
          exact ⟨q, .right nn0, _, rfl, kp4.trans (Keep.of f1), (S4.same f1).more (by omega), f1 _ _ hq, okc, by omega, (by show 0 ≤ r' + 0; omega), (by show r' + 0 < tx.length; omega)⟩
        | left nn0 =>
          refine ⟨_, rfl, q, _, 0, _, rfl, rfl, SqT.of hq, rfl, (by show 2 ≤ sizeLine; decide), fun p1 np1 => ?_⟩
          have f1 := new_same (o := HO.tup [V.str "down", .str "up"]) np1
          refine ⟨p1, _, rfl, .inr (SqT.of upd_same), rfl, rfl, false, by decide +kernel, iteF ?_⟩
          exact ⟨q, .left nn0, _, rfl, kp4.trans (Keep.of f1), (S4.same f1).more (by omega), f1 _ _ hq, okc, by omega, (by show 0 ≤ r' + 0; omega), (by show r' + 0 < tx.length; omega)⟩
        | down nn0 =>
          refine ⟨_, rfl, q, _, 0, _, rfl, rfl, SqT.of hq, rfl, (by show 2 ≤ sizeLine; decide), fun p1 np1 => ?_⟩
          have f1 := new_same (o := HO.tup [V.str "down", .str "up"]) np1
          have h_p1 : (upd H4 p1 (.tup [V.str "down", .str "up"])) p1 = some (.tup [V.str "down", .str "up"]) := upd_same
          replace hq := f1 _ _ hq
          have kp6 := kp4.trans (Keep.of f1)
          have S6 := S4.same f1
          generalize upd H4 p1 (.tup [V.str "down", .str "up"]) = H5 at h_p1 hq kp6 S6 ⊢
          refine ⟨p1, _, rfl, .inr (SqT.of h_p1), rfl, rfl, true, by decide +kernel, iteT ?_⟩
          have ht6 := kp6 _ _ ta td ht3
          have hb6 := S3.tup kp6 hb3
          refine ⟨fun σ H' => σ = [some (.ref a), some (.ref t), some (.ref b), some (.int many), some (.ref fo), some (.ref bh), some (.int (0 + (i : Int))), some (.ref q), some (.int (tx.length - 1 - r'))] ∧ H' = H5, ?_, ?_⟩
          · refine ⟨_, rfl, q, _, 0, _, rfl, rfl, SqT.of hq, rfl, rfl, true, by decide +kernel, iteT ?_⟩
            first
              | exact ⟨_, rfl, bh, _, 0, _, rfl, rfl, hb6, rfl, rfl, rfl⟩
              | (refine ⟨_, rfl, t, _, rfl, .inl (SqL.of ht6), _, _, rfl, rfl, _, rfl, bh, _, 0, _, rfl, rfl, hb6, rfl, _, _, rfl, rfl, ?_, rfl⟩
                 rw [List.length_map]
                 rfl)
          rintro σ H6 ⟨rfl, rfl⟩
          refine ⟨_, rfl, _, _, rfl, rfl, _, rfl, ite2 (fun c => ?_) (fun c => ?_)⟩
          · have c' : (tx.length - 1 - r' : Int) > 0 := of_decide_eq_true c
            refine ⟨_, rfl, q, _, 0, _, rfl, rfl, SqT.of hq, rfl, _, rfl, _, rfl, a, d, _, _, rfl, S6, by omega, by omega, log9 (a := 20) (by omega) (by decide), fun H7 k kp7 S7 k0 k1 => ⟨_, _, rfl, rfl, (by show 2 ≤ sizeLine; decide), fun p np => ?_⟩⟩
            have f8 := new_same (o := HO.tup [V.str "down", .int (1 + k)]) np
            exact ⟨p, .down (1 + k), _, rfl, (kp6.trans kp7).trans (Keep.of f8), (S7.same f8).more (by omega), upd_same, (by show (1 : Int) ≤ 1 + k; omega), (by show 1 + k ≤ 10 ^ 30; omega), (by show 0 ≤ r' + (Cmd.down (1 + k)).dv; simp only [Cmd.dv]; omega), (by show r' + (Cmd.down (1 + k)).dv < tx.length; simp only [Cmd.dv]; omega)⟩
          · refine ⟨_, rfl, a, d, _, 3, rfl, S6, by omega, by decide, by decide, fun H7 k kp7 S7 k0 k1 => ⟨_, _, rfl, rfl, (by show 2 ≤ sizeLine; decide), fun p np => ?_⟩⟩
            have f8 := new_same (o := HO.tup [V.str "right", .int (1 + k)]) np
            exact ⟨p, .right (1 + k), _, rfl, (kp6.trans kp7).trans (Keep.of f8), (S7.same f8).more (by omega), upd_same, (by show (1 : Int) ≤ 1 + k; omega), (by show 1 + k ≤ 10 ^ 30; omega), (by show 0 ≤ r' + 0; omega), (by show r' + 0 < tx.length; omega)⟩
        | up nn0 =>
          refine ⟨_, rfl, q, _, 0, _, rfl, rfl, SqT.of hq, rfl, (by show 2 ≤ sizeLine; decide), fun p1 np1 => ?_⟩
          have f1 := new_same (o := HO.tup [V.str "down", .str "up"]) np1
          have h_p1 : (upd H4 p1 (.tup [V.str "down", .str "up"])) p1 = some (.tup [V.str "down", .str "up"]) := upd_same
          replace hq := f1 _ _ hq
          have kp6 := kp4.trans (Keep.of f1)
          have S6 := S4.same f1
          generalize upd H4 p1 (.tup [V.str "down", .str "up"]) = H5 at h_p1 hq kp6 S6 ⊢
          refine ⟨p1, _, rfl, .inr (SqT.of h_p1), rfl, rfl, true, by decide +kernel, iteT ?_⟩
          have ht6 := kp6 _ _ ta td ht3
          have hb6 := S3.tup kp6 hb3
          refine ⟨fun σ H' => σ = [some (.ref a), some (.ref t), some (.ref b), some (.int many), some (.ref fo), some (.ref bh), some (.int (0 + (i : Int))), some (.ref q), some (.int (r'))] ∧ H' = H5, ?_, ?_⟩
          · refine ⟨_, rfl, q, _, 0, _, rfl, rfl, SqT.of hq, rfl, rfl, false, by decide +kernel, iteF ?_⟩
            first
              | exact ⟨_, rfl, bh, _, 0, _, rfl, rfl, hb6, rfl, rfl, rfl⟩
              | (refine ⟨_, rfl, t, _, rfl, .inl (SqL.of ht6), _, _, rfl, rfl, _, rfl, bh, _, 0, _, rfl, rfl, hb6, rfl, _, _, rfl, rfl, ?_, rfl⟩
                 rw [List.length_map]
                 rfl)
          rintro σ H6 ⟨rfl, rfl⟩
          refine ⟨_, rfl, _, _, rfl, rfl, _, rfl, ite2 (fun c => ?_) (fun c => ?_)⟩
          · have c' : (r' : Int) > 0 := of_decide_eq_true c
            refine ⟨_, rfl, q, _, 0, _, rfl, rfl, SqT.of hq, rfl, _, rfl, _, rfl, a, d, _, _, rfl, S6, by omega, by omega, log9 (a := 20) (by omega) (by decide), fun H7 k kp7 S7 k0 k1 => ⟨_, _, rfl, rfl, (by show 2 ≤ sizeLine; decide), fun p np => ?_⟩⟩
            have f8 := new_same (o := HO.tup [V.str "up", .int (1 + k)]) np
            exact ⟨p, .up (1 + k), _, rfl, (kp6.trans kp7).trans (Keep.of f8), (S7.same f8).more (by omega), upd_same, (by show (1 : Int) ≤ 1 + k; omega), (by show 1 + k ≤ 10 ^ 30; omega), (by show 0 ≤ r' + (Cmd.up (1 + k)).dv; simp only [Cmd.dv]; omega), (by show r' + (Cmd.up (1 + k)).dv < tx.length; simp only [Cmd.dv]; omega)⟩
          · refine ⟨_, rfl, a, d, _, 3, rfl, S6, by omega, by decide, by decide, fun H7 k kp7 S7 k0 k1 => ⟨_, _, rfl, rfl, (by show 2 ≤ sizeLine; decide), fun p np => ?_⟩⟩
            have f8 := new_same (o := HO.tup [V.str "right", .int (1 + k)]) np
            exact ⟨p, .right (1 + k), _, rfl, (kp6.trans kp7).trans (Keep.of f8), (S7.same f8).more (by omega), upd_same, (by show (1 : Int) ≤ 1 + k; omega), (by show 1 + k ≤ 10 ^ 30; omega), (by show 0 ≤ r' + 0; omega), (by show r' + 0 < tx.length; omega)⟩
      rintro σ H5 ⟨q, c, v8, rfl, kp5, S5, hq, okc, numc, in0, in1⟩
      have ht5 := kp5 _ _ ta td ht3
      have hf5 := kp5 _ _ foa fod hf3
      have hb5 := S3.tup kp5 hb3
      have hc5 := S3.cmds kp5 hc3
      refine ⟨_, rfl, _, rfl, _, rfl, t, bh, _, tx, r', g', c, rfl, SqL.of ht5, hb5, ⟨q, rfl, SqT.of hq⟩, q0, q1, okc, by omega, (fun z => by rw [in_text in0 in1] at z; cases z), fun r2 g2 z H6 p6 e6 np6 hp6 => ?_⟩
      rw [in_text in0 in1] at z
      cases z
      have hf6 := e6 _ _ hf5
      have lx := hc5.len
      have qf : q ≠ fo := fun z => by rw [z, hf5] at hq; cases hq
      have pf : p6 ≠ fo := fun z => by rw [z, hf5] at np6; cases np6
      refine ⟨_, rfl, .inl ⟨rfl, _, SqL.of hf6⟩, _, rfl, fo, _, .ref q, rfl, rfl, hf6, lt_line (by omega), ?_⟩
      have ge2 : ge (aim1 (lenAt tx r') g' c) 0 := after_nn (x := (r' + c.dv, aim1 (lenAt tx r') g' c)) nn (cs := [c]) (r := r') (g := g') (fun d hd => by rw [List.mem_singleton.mp hd]; exact okc) gg (by rw [afterL_step, in_text in0 in1]; rfl)
      refine ⟨p6, _, _, _, _, _, xs ++ [.ref q], cs ++ [c], rfl, fun b o n1 n2 hb => by rw [upd_ne (ne_of_none hb nfo)]; exact e6 _ _ (kp5 _ _ n1 n2 (kA3 _ _ n1 n2 hb)), ((S5.same e6).upd foa fod).more (by omega), by rw [upd_ne ft]; exact e6 _ _ ht5, upd_same, pairS ((hc5.same e6).atL hf6) ⟨q, rfl, SqT.of (by rw [upd_ne qf]; exact e6 _ _ hq)⟩, ?_, ?_, by rw [List.length_append, lc3]; rfl, within_snocF wi3 (by omega) (by omega), SqT.of (by rw [upd_ne pf]; exact hp6), by rw [last_snoc]; omega, in0, in1, ge2⟩
      · intro x hx
        rcases List.mem_append.mp hx with h | h
        · exact ok3 x h
        · rw [List.mem_singleton.mp h]
          exact okc
      · intro x hx
        rcases List.mem_append.mp hx with h | h
        · exact nb3 x h
        · rw [List.mem_singleton.mp h]
          exact numc
    · obtain ⟨bh, r', g', v6, v7, v8, xs, cs, rfl, kA3, S3, ht3, hf3, hc3, ok3, nb3, lc3, wi3, hb3, er, q0, q1, gg⟩ := h
      exact ⟨_, rfl, k H3 fo xs cs kA3 (S3.more (by omega)) foa fod nfo hf3 hc3 ok3 nb3 (by omega) wi3⟩
end
end Gc

/-! greater goals and longer lines lead to greater goals; rows that are not visited do not matter; moves over rows alone (for k05) -/
namespace Gc
/-- a goal is at least another one; no goal is greater than all -/
def geG : Option Int → Option Int → Prop
  | none, _ => True
  | some _, none => False
  | some a, some b => b ≤ a
theorem geG_refl (a : Option Int) : geG a a := by
  cases a with
  | none => trivial
  | some x => exact Int.le_refl x
theorem geG_trans {a b c : Option Int} (h1 : geG a b) (h2 : geG b c) : geG a c := by
  cases a with
  | none => trivial
  | some x =>
    cases b with
    | none => exact h1.elim
    | some y =>
      cases c with
      | none => exact h2.elim
      | some z => exact Int.le_trans h2 h1
theorem seen_mono {t t' : Int} {a a' : Option Int} (ht : t ≤ t') (h : geG a' a) : seen t a ≤ seen t' a' := by
  cases a' with
  | none =>
    cases a with
    | none => exact ht
    | some x =>
      show min x t ≤ t'
      omega
  | some y =>
    cases a with
    | none => exact h.elim
    | some x =>
      have h' : x ≤ y := h
      show min x t ≤ min y t'
      omega
theorem aim1_mono {t t' : Int} {a a' : Option Int} (c : Cmd) (ht : t ≤ t') (h : geG a' a) : geG (aim1 t' a' c) (aim1 t a c) := by
  have s := seen_mono ht h
  cases c with
  | down n => exact h
  | up n => exact h
  | right n =>
    show min (seen t a + n) t ≤ min (seen t' a' + n) t'
    omega
  | left n =>
    show max 0 (seen t a - n) ≤ max 0 (seen t' a' - n)
    omega
  | home => exact Int.le_refl 0
  | stop => trivial
/-- greater goals, longer lines -/
theorem aimF_mono {T T' : Int → Int} (hT : ∀ k, T k ≤ T' k) : ∀ (cs : List Cmd) {r : Int} {a a' : Option Int}, geG a' a → geG (aimF T' r a' cs) (aimF T r a cs)
  | [], _, _, _, h => h
  | c :: cs, r, _, _, h => aimF_mono hT cs (aim1_mono c (hT r) h)
/-- the rows in which commands are run, the last one too -/
def rowsOf : Int → List Cmd → List Int
  | r, [] => [r]
  | r, c :: cs => r :: rowsOf (r + c.dv) cs
theorem aimF_rows {T T' : Int → Int} : ∀ (cs : List Cmd) {r : Int} {a : Option Int}, (∀ k ∈ rowsOf r cs, T k = T' k) → aimF T r a cs = aimF T' r a cs
  | [], _, _, _ => rfl
  | c :: cs, r, a, h => by
    show aimF T (r + c.dv) (aim1 (T r) a c) cs = aimF T' (r + c.dv) (aim1 (T' r) a c) cs
    rw [h r List.mem_cons_self]
    exact aimF_rows cs fun k hk => h k (List.mem_cons_of_mem _ hk)
/-- moves over rows keep the goal -/
theorem aimF_vert {T : Int → Int} : ∀ (cs : List Cmd) {r : Int} {a : Option Int}, (∀ c ∈ cs, c.vert = true) → aimF T r a cs = a
  | [], _, _, _ => rfl
  | c :: cs, r, a, h => by
    have hv := h c List.mem_cons_self
    have e : aim1 (T r) a c = a := by cases c <;> first | rfl | cases hv
    show aimF T (r + c.dv) (aim1 (T r) a c) cs = a
    rw [e]
    exact aimF_vert cs fun d hd => h d (List.mem_cons_of_mem _ hd)
/-- behind right, left, home, end only the shown column counts -/
theorem aim1_seen {t : Int} {a a' : Option Int} {c : Cmd} (hc : c.vert = false) (h : seen t a = seen t a') : aim1 t a c = aim1 t a' c := by
  cases c with
  | down n => cases hc
  | up n => cases hc
  | right n =>
    show some (min (seen t a + n) t) = some (min (seen t a' + n) t)
    rw [h]
  | left n =>
    show some (max 0 (seen t a - n)) = some (max 0 (seen t a' - n))
    rw [h]
  | home => rfl
  | stop => rfl
end Gc

/-! possible or not, back to the same cursor (k05) -/
namespace Gc
open PySem L2
abbrev s_poss : Stmt := top 34
abbrev s_at_least : Stmt := top 35
abbrev s_back : Stmt := top 36
structure TxtIm5 (K : PySem.W.Frag) (mg : Str → Option Value) (CO : Addr) : Prop where
  g_Impossible : mg "Impossible" = some (.ref CO)
  ex : PySem.W.exmOne K (.ref CO) (.ref CO) = some true
def spPoss (K : PySem.W.Frag) : Sp := fun vs H Q _ => ∃ (t b l : Addr) (T : List Int) (r : Int) (g : Option Int) (xs : List V) (cs : List Cmd), vs = [.ref t, .ref b, .ref l] ∧ SqL K H t (T.map V.int) ∧ SqT K H b [.int r, optV g] ∧ SqL K H l xs ∧ CmdsOf K H xs cs ∧
  (∀ x ∈ T, 0 ≤ x) ∧ 0 ≤ r ∧ r < T.length ∧ ge g 0 ∧ AllOk cs ∧ cs.length ≤ 10000 ∧ ∀ H', Same H H' → Q (.bl (afterL T r g cs).isSome) H'
/-- goals in order; None is the greatest -/
def atLeast (x y : Option Int) : Bool := match x, y with
  | none, _ => true
  | some _, none => false
  | some x, some y => decide (y ≤ x)
def spAtLeast : Sp := fun vs H Q _ => ∃ x y : Option Int, vs = [optV x, optV y] ∧ Q (.bl (atLeast x y)) H
section
variable {P : Program} {w : World} {K : PySem.W.Frag} {mg : Str → Option Value} {base : Heap} {CO : Addr}
theorem sc_law_is_possible : FnScope ["sheet", "spot", "moves"] ["sheet", "spot", "moves"] (defScope s_poss) := ⟨rfl, rfl, rfl, by decide +kernel, rfl, by decide +kernel, by decide +kernel⟩
theorem ok_poss {f : Addr} {fd : FuncData} (F : Fun K "_law_is_possible" "_law_is_possible" s_poss f fd) (T : TxtIm5 K mg CO) (c_run : CalX P w K mg base 4 "run" (zRunI K CO)) : FnOk P w K mg base CX0 5 f fd ["sheet", "spot", "moves"] (spPoss K) := by
  refine F.ok sc_law_is_possible (fun vs H Q E h => ?_) (fun cdv A outer s H vs Q E hr h => ?_)
  · obtain ⟨t, b, l, tx, r, g, xs, cs, rfl, _⟩ := h
    rfl
  · obtain ⟨t, b, l, tx, r, g, xs, cs, rfl, ht, hb, hl, hcs, nn, r0, r1, g0, ok, ln, k⟩ := h
    refine ⟨_, (pss_cons (ps_try_only rfl rfl ⟨rfl, by decide, .inl T.g_Impossible⟩ takesNone (fun W pn xe tk _ => (pss_one (ps_expr (pe_calX tk c_run hr (by decide) (by rfl) (pa_cons (pv 0) (pa_cons (pv 1) (pa_cons (pv 2) pa_nil))))))) (fun a oe cls d pn _ _ => (pss_one (ps_ret pe_bl))))
      (pss_one (ps_ret pe_bl))), ?_⟩
    refine ⟨_, rfl, _, rfl, _, rfl, ask_runI ht hb hl hcs nn r0 r1 g0 ok ln (fun n hn => ?_) fun r' g' ha H1 p e1 hp => ?_⟩
    · intro H' d e nd
      refine ⟨true, T.ex, fun _ a ha => ?_, fun z => nomatch z⟩
      have an : afterL tx r g cs = none := by
        cases q : afterL tx r g cs with
        | none => rfl
        | some x =>
          have z := fail_none.mpr (show afterL tx r g cs ≠ none by rw [q]; exact fun z => nomatch z)
          rw [hn] at z
          cases z
      rw [an] at k
      exact k _ (e.trans (new_same nd))
    · rw [ha] at k
      exact k _ e1
theorem sc_law_at_least : FnScope ["one", "other"] ["one", "other"] (defScope s_at_least) := ⟨rfl, rfl, rfl, by decide +kernel, rfl, by decide +kernel, by decide +kernel⟩
theorem ok_at_least {f : Addr} {fd : FuncData} (F : Fun K "_law_at_least" "_law_at_least" s_at_least f fd) : FnOk P w K mg base CX0 1 f fd ["one", "other"] spAtLeast := by
  refine F.ok sc_law_at_least (fun vs H Q E h => ?_) (fun cdv A outer s H vs Q E hr h => ?_)
  · obtain ⟨x, y, rfl, _⟩ := h
    rfl
  · obtain ⟨x, y, rfl, k⟩ := h
    refine ⟨_, (pss_one (ps_ret (pe_or (pe_cmpR op_isN (pv 0) pe_non (nomark _)) (pe_one (pe_and (pe_cmpR op_notN (pv 1) pe_non (nomark _)) (pe_one (pe_cmpR op_ge (pv 0) (pv 1) (nomark _)))))))), ?_⟩
    cases x with
    | none => exact ⟨_, rfl, rfl, _, rfl, iteT k⟩
    | some x =>
      refine ⟨_, rfl, rfl, _, rfl, iteF ?_⟩
      cases y with
      | none => exact ⟨_, rfl, rfl, _, rfl, iteF k⟩
      | some y =>
        refine ⟨_, rfl, rfl, _, rfl, iteT ?_⟩
        exact ⟨_, rfl, _, rfl, _, _, rfl, rfl, k⟩
def optG : Option Int → PyData
  | none => .none
  | some n => .int n
theorem dp_optG {K : PySem.W.Frag} {H : Hp} (o : Option Int) : Dp K H (optV o) (optG o) := by
  cases o with
  | none => exact .non
  | some n => exact .int n
/-- back to the same cursor -/
def spBack (K : PySem.W.Frag) : Sp := fun vs H Q _ => ∃ (a d t b : Addr) (n : Nat) (T : List Int) (r : Int) (g : Option Int), vs = [.ref a, .ref t, .ref b] ∧ Src H a d n ∧ n < 2 ^ 36 ∧ H t = some (.lst (T.map V.int)) ∧ t ≠ a ∧ t ≠ d ∧ (∀ x ∈ T, 0 ≤ x) ∧ T.length ≤ 60 ∧ SqT K H b [.int r, optV g] ∧ 0 ≤ r ∧ r < T.length ∧ ge g 0 ∧
  ∀ H', Keep a d H H' → Src H' a d (n + 40) → Q (.bl true) H'
structure TxtBk (mg : Str → Option Value) : Prop where
  range : mg "range" = none
  len : mg "len" = none
theorem sc_law_back_right : FnScope ["source", "sheet", "spot", "row", "goal", "rows", "moves", "here", "other", "time"] ["source", "sheet", "spot"] (defScope s_back) := ⟨rfl, rfl, rfl, by decide +kernel, rfl, by decide +kernel, by decide +kernel⟩
theorem ok_back {f : Addr} {fd : FuncData} (F : Fun K "_law_back_right" "_law_back_right" s_back f fd) (T : TxtBk mg) (c_law_draw : Cal P w K mg base 1 "_law_draw" spDraw) (c_run : Cal P w K mg base 4 "run" (spRun K)) : FnOk P w K mg base CX0 5 f fd ["source", "sheet", "spot"] (spBack K) := by
  refine F.ok sc_law_back_right (fun vs H Q E h => ?_) (fun cdv A outer s H vs Q E hr h => ?_)
  · obtain ⟨a, d, t, b, n, T, r, g, rfl, _⟩ := h
    rfl
  · obtain ⟨a, d, t, b, n, tx, r, g, rfl, S0, hn, ht, ta, td, nn, t60, hb, r0, r1, g0, k⟩ := h
    refine ⟨_, (pss_cons (ps_asg (pv 2) (pg_tup rfl (pgs_cons (pg_name (i := 3) sc_law_back_right.nd rfl (Or.inl rfl)) (pgs_cons (pg_name (i := 4) sc_law_back_right.nd rfl (Or.inl rfl)) pgs_nil))))
      (pss_cons (ps_set (i := 5) sc_law_back_right.nd rfl (Or.inl rfl) (pe_op op_cat (pe_lc (own := [("time", 9)]) rfl sc_law_back_right.nd (pi_range1 rfl T.range (pa_cons pe_int pa_nil)) (blkOk_by (N := ["source", "sheet", "spot", "row", "goal", "rows", "moves", "here", "other", "time"]) (sc := defScope s_back) (by decide +kernel)) (fun _ _ _ _ _ => (pg_name (i := 9) sc_law_back_right.nd rfl (Or.inl rfl))) (fun _ _ _ _ _ => pts_nil) (fun _ _ _ _ _ => (pe_cal c_law_draw hr (by decide) (by rfl) (pa_cons (pv 0) (pa_cons (pe_callB (show CallR _ _ (rLenQ K) from call_len_seq) (by rfl) T.len (by decide +kernel) (pa_cons (pv 1) pa_nil)) pa_nil))))) (pe_lst (pa_cons (pv 3) pa_nil))))
      (pss_cons (ps_par (i := 6) (j := 7) rfl sc_law_back_right.nd rfl rfl (by decide) rfl rfl (pa_cons (pe_lst pa_nil) (pa_cons (pv 3) pa_nil)) (by rfl))
      (pss_cons (ps_for PassesOwn.never rfl (pi_list (pv 5)) (pg_name (i := 8) sc_law_back_right.nd rfl (Or.inl rfl)) (C8.pss_cut (ps_if (pt_cmpR op_ne (pv 8) (pv 7) (nomark _)) (pss_one (ps_expr (pe_bm PySem.F.plainAttrs_list PySem.F.slot_list_append PySem.F.type_list_append mt_append (pv 6) (pa_cons (pe_ifExp (pt_cmpR op_gt (pv 8) (pv 7) (nomark _)) (pe_tup (pa_cons pe_str (pa_cons (pe_op op_sub (pv 8) (pv 7)) pa_nil))) (pe_tup (pa_cons pe_str (pa_cons (pe_op op_sub (pv 7) (pv 8)) pa_nil)))) pa_nil)))) pss_nil)
      (pss_one (ps_set (i := 7) sc_law_back_right.nd rfl (Or.inl rfl) (pv 8)))))
      (pss_one (ps_ret (pe_cmpR (op_eqD hr.units) (pe_cal c_run hr (by decide) (by rfl) (pa_cons (pv 1) (pa_cons (pv 2) (pa_cons (pv 6) pa_nil)))) (pv 2) (nomark _)))))))), ?_⟩
    refine ⟨_, rfl, b, _, rfl, hb, rfl, _, _, rfl, _, _, rfl, rfl, ?_⟩
    refine ⟨4, rfl, by decide, by decide, fun D hD => ?_⟩
    obtain ⟨Da, Dd⟩ := S0.off hD
    have tD := ne_of_none ht hD
    refine lc_range (lo := 0) (n := 4) (fun j H' => ∃ ns : List Int, Keep a d H H' ∧ Src H' a d (n + 2 * j) ∧ H' D = some (.lst (ns.map V.int)) ∧ ns.length = j ∧ ∀ x ∈ ns, 0 ≤ x ∧ x < tx.length)
      ⟨[], Keep.of (new_same hD), S0.same (new_same hD), upd_same, rfl, fun _ z => nomatch z⟩ (fun j H' hj h => ?_) (fun H2 h => ?_)
    · obtain ⟨ns, kp, S, hd, nl, nb⟩ := h
      refine ⟨rfl, ?_⟩
      refine ⟨_, rfl, _, rfl, t, _, rfl, .inl (SqL.of (kp _ _ ta td ht)), a, d, _, _, rfl, S, by omega, by rw [List.length_map]; omega, log9 (a := 20) (by rw [List.length_map]; omega) (by decide), fun H3 v kp3 S3 v0 v1 => ?_⟩
      rw [List.length_map] at v1
      refine ⟨_, kp3 _ _ Da Dd hd, lt_line (by rw [List.length_map]; omega), ns ++ [v], fun x o h1 h2 hx => ?_, ?_, by rw [upd_same, List.map_append]; rfl, by rw [List.length_append, nl]; rfl, fun x hx => ?_⟩
      · rw [upd_ne (ne_of_none hx hD)]
        exact (kp.trans kp3) _ _ h1 h2 hx
      · exact (S3.upd Da Dd).more (by omega)
      · rcases List.mem_append.mp hx with z | z
        · exact nb x z
        · rw [List.mem_singleton.mp z]
          exact ⟨v0, v1⟩
    obtain ⟨ns, kp2, S2, hd2, nl, nb⟩ := h
    refine ⟨_, rfl, (by show 1 ≤ sizeLine; decide), fun q nq => ?_⟩
    have e3 := new_same (o := HO.lst [V.int r]) nq
    have hq3 : (upd H2 q (.lst [V.int r])) q = some (.lst [V.int r]) := upd_same
    replace hd2 := e3 _ _ hd2
    have kp3 := kp2.trans (Keep.of e3)
    have S3 := S2.same e3
    clear e3
    generalize upd H2 q (.lst [V.int r]) = H3 at hq3 hd2 kp3 S3 ⊢
    refine ⟨D, q, _, _, rfl, rfl, hd2, hq3, (Nat.le_trans (show _ ≤ 5 by rw [List.length_map, nl]; exact Nat.le_refl _) (by decide)), fun rw nrw => ?_⟩
    rw [show ns.map V.int ++ [V.int r] = (ns ++ [r]).map V.int by rw [List.map_append]; rfl]
    obtain ⟨rwa, rwd⟩ := S3.off nrw
    have e4 := new_same (o := HO.lst ((ns ++ [r]).map V.int)) nrw
    have h4 : (upd H3 rw (.lst ((ns ++ [r]).map V.int))) rw = some (.lst ((ns ++ [r]).map V.int)) := upd_same
    have kp4 := kp3.trans (Keep.of e4)
    have S4 := S3.same e4
    clear e4
    generalize upd H3 rw (.lst ((ns ++ [r]).map V.int)) = H4 at h4 kp4 S4 ⊢
    refine ⟨(by show 0 ≤ sizeLine; decide), fun m nm => ⟨_, rfl, _, _, rfl, ?_⟩⟩
    obtain ⟨ma, md⟩ := S4.off nm
    have rwm := ne_of_none h4 nm
    have nm0 : H m = none := by
      cases z : H m with
      | none => rfl
      | some o =>
        have y := kp4 _ _ ma md z
        rw [nm] at y
        cases y
    have e5 := new_same (o := HO.lst []) nm
    have h5 : (upd H4 m (.lst [])) m = some (.lst []) := upd_same
    have kp5 := kp4.trans (Keep.of e5)
    have S5 := S4.same e5
    replace h4 := e5 _ _ h4
    clear e5
    generalize upd H4 m (.lst []) = H5 at h4 h5 kp5 S5 ⊢
    have nb2 : ∀ x ∈ ns ++ [r], 0 ≤ x ∧ x < tx.length := fun x hx => by
      rcases List.mem_append.mp hx with z | z
      · exact nb x z
      · rw [List.mem_singleton.mp z]
        exact ⟨r0, r1⟩
    have l5 : (ns ++ [r]).length = 5 := by rw [List.length_append, nl]; rfl
    have last5 : (ns ++ [r])[4]? = some r := by
      rw [List.getElem?_append_right (by omega), nl]
      rfl
    generalize ns ++ [r] = rows at h4 nb2 l5 last5
    refine ⟨_, rfl, rw, rfl, ⟨_, SqL.of h4⟩, for_list (K := K) (a := rw) (xs := rows.map V.int) (fun j σ H' => ∃ (v8 : Option V) (xs : List V) (cs : List Cmd), σ = [some (.ref a), some (.ref t), some (.ref b), some (.int r), some (optV g), some (.ref rw), some (.ref m), some (.int (r + last cs)), v8, none] ∧ Keep a d H H' ∧ Src H' a d (n + 20) ∧ H' rw = some (.lst (rows.map V.int)) ∧ H' m = some (.lst xs) ∧ CmdsOf K H' xs cs ∧ AllOk cs ∧ cs.length ≤ j ∧
        (∀ c ∈ cs, c.vert = true) ∧ Within cs (-r) (tx.length - 1 - r) ∧ ∀ k, j = k + 1 → rows[k]? = some (r + last cs))
      ⟨none, [], [], by rw [show r + last [] = r from Int.add_zero r]; rfl, kp5, S5.more (by omega), h4, h5, .nil, (fun _ z => nomatch z), Nat.le_refl _, (fun _ z => nomatch z), (fun i => by rw [List.take_nil]; show -r ≤ 0 ∧ (0 : Int) ≤ _; omega), fun k z => nomatch z⟩ (fun j σ H' _ h => by obtain ⟨_, _, _, _, _, _, z, _⟩ := h; exact SqL.of z) (fun j x σ H6 hx h => ?_) (fun σ H6 h => ?_)⟩
    · obtain ⟨v8, xs, cs, rfl, kp6, S6, h6, hm6, hc6, ok6, lc6, ve6, wi6, _⟩ := h
      obtain ⟨z, hz, rfl⟩ : ∃ z, rows[j]? = some z ∧ x = .int z := by
        rw [List.getElem?_map] at hx
        cases q : rows[j]? with
        | none => rw [q] at hx; cases hx
        | some z =>
          rw [q] at hx
          exact ⟨z, rfl, (Option.some.inj hx).symm⟩
      have zb := nb2 z (List.mem_of_getElem? hz)
      have wl := wi6.whole
      have hj : j < 5 := by
        have := (List.getElem?_eq_some_iff.mp hz).1
        omega
      refine ⟨fun σ G => ∃ (xs : List V) (cs' : List Cmd), σ = [some (.ref a), some (.ref t), some (.ref b), some (.int r), some (optV g), some (.ref rw), some (.ref m), some (.int (r + last cs)), some (.int z), none] ∧ Keep a d H G ∧ Src G a d (n + 20) ∧ G rw = some (.lst (rows.map V.int)) ∧ G m = some (.lst xs) ∧ CmdsOf K G xs cs' ∧ AllOk cs' ∧ cs'.length ≤ j + 1 ∧
        (∀ c ∈ cs', c.vert = true) ∧ Within cs' (-r) (tx.length - 1 - r) ∧ r + last cs' = z, ?_, ?_⟩
      · refine ⟨_, rfl, _, rfl, rfl, _, rfl, ite2 (fun c => ?_) (fun c => ?_)⟩
        · have zn : z ≠ r + last cs := fun e => by rw [e] at c; simp at c
          have put : ∀ (p : Addr) (c : Cmd), H6 p = none → c.ok → c.vert = true → r + last cs + c.dv = z → ∃ (xs' : List V) (cs' : List Cmd), [some (.ref a), some (.ref t), some (.ref b), some (.int r), some (optV g), some (.ref rw), some (.ref m), some (.int (r + last cs)), some (.int z), none] = [some (.ref a), some (.ref t), some (.ref b), some (.int r), some (optV g), some (.ref rw), some (.ref m), some (.int (r + last cs)), some (.int z), (none : Option V)] ∧ Keep a d H (upd (upd H6 p (.tup (encC c))) m (.lst (xs ++ [.ref p]))) ∧ Src (upd (upd H6 p (.tup (encC c))) m (.lst (xs ++ [.ref p]))) a d (n + 20) ∧ (upd (upd H6 p (.tup (encC c))) m (.lst (xs ++ [.ref p]))) rw = some (.lst (rows.map V.int)) ∧ (upd (upd H6 p (.tup (encC c))) m (.lst (xs ++ [.ref p]))) m = some (.lst xs') ∧ CmdsOf K (upd (upd H6 p (.tup (encC c))) m (.lst (xs ++ [.ref p]))) xs' cs' ∧ AllOk cs' ∧ cs'.length ≤ j + 1 ∧
              (∀ c ∈ cs', c.vert = true) ∧ Within cs' (-r) (tx.length - 1 - r) ∧ r + last cs' = z := fun p c np okc vc ec => by
            have e := new_same (o := HO.tup (encC c)) np
            have pm : p ≠ m := (ne_of_none hm6 np).symm
            refine ⟨xs ++ [.ref p], cs ++ [c], rfl, fun b o n1 n2 hb => by rw [upd_ne (ne_of_none hb nm0)]; exact e _ _ (kp6 _ _ n1 n2 hb), (S6.same e).upd ma md, by rw [upd_ne rwm]; exact e _ _ h6, upd_same, pairS ((hc6.same e).atL (e _ _ hm6)) ⟨p, rfl, SqT.of (by rw [upd_ne pm]; exact upd_same)⟩, fun d hd => ?_, by rw [List.length_append]; simp; omega, fun d hd => ?_, within_snocF wi6 (by omega) (by omega), by rw [last_snoc]; omega⟩
            · rcases List.mem_append.mp hd with h | h
              · exact ok6 d h
              · rw [List.mem_singleton.mp h]; exact okc
            · rcases List.mem_append.mp hd with h | h
              · exact ve6 d h
              · rw [List.mem_singleton.mp h]; exact vc
          have lx := hc6.len
          have lt1 : xs.length < sizeLine := lt_line (by omega)
          refine ⟨_, rfl, .inl ⟨rfl, _, SqL.of hm6⟩, _, rfl, _, rfl, _, _, rfl, rfl, _, rfl, ite2 (fun c2 => ?_) (fun c2 => ?_)⟩
          · refine ⟨_, rfl, _, rfl, _, _, rfl, rfl, (by show 2 ≤ sizeLine; decide), fun p np => ⟨m, xs, .ref p, rfl, rfl, new_same np _ _ hm6, lt1, ?_⟩⟩
            have c3 : r + last cs < z := of_decide_eq_true c2
            exact put p (.down (z - (r + last cs))) np (by show 1 ≤ z - (r + last cs); omega) rfl (by show r + last cs + (z - (r + last cs)) = z; omega)
          · refine ⟨_, rfl, _, rfl, _, _, rfl, rfl, (by show 2 ≤ sizeLine; decide), fun p np => ⟨m, xs, .ref p, rfl, rfl, new_same np _ _ hm6, lt1, ?_⟩⟩
            have c3 : ¬ r + last cs < z := fun q => c2 (decide_eq_true q)
            exact put p (.up (r + last cs - z)) np (by show 1 ≤ r + last cs - z; omega) rfl (by show r + last cs + -(r + last cs - z) = z; omega)
        · have zn : r + last cs = z := by
            by_cases e : z = r + last cs
            · exact e.symm
            · exact absurd (by simp [e]) c
          exact ⟨xs, cs, rfl, kp6, S6, h6, hm6, hc6, ok6, by omega, ve6, wi6, zn⟩
      rintro σ G ⟨xs', cs', rfl, kp7, S7, h7, hm7, hc7, ok7, lc7, ve7, wi7, ez⟩
      refine ⟨_, rfl, ?_⟩
      rw [← ez]
      refine ⟨_, xs', cs', rfl, kp7, S7, h7, hm7, hc7, ok7, lc7, ve7, wi7, fun k hk => ?_⟩
      obtain rfl : j = k := by omega
      rw [hz, ez]
    · obtain ⟨v8, xs, cs, rfl, kp6, S6, h6, hm6, hc6, ok6, lc6, ve6, wi6, fi6⟩ := h
      have fi := fi6 4 (by rw [List.length_map]; exact l5)
      rw [last5] at fi
      have el : r + last cs = r := (Option.some.inj fi).symm
      have lx := hc6.len
      have af : afterL tx r g cs = some (r, g) := by
        rw [afterL_in wi6, el, aimF_vert cs ve6]
      refine ⟨_, rfl, _, rfl, _, rfl, t, b, m, tx, r, g, xs, cs, r, g, rfl, SqL.of (kp6 _ _ ta td ht), S0.tup kp6 hb, SqL.of hm6, hc6, nn, r0, r1, g0, ok6, by rw [List.length_map, l5] at lc6; omega, af, fun H7 p e7 hp => ?_⟩
      refine ⟨_, rfl, .tuple [.int r, optG g], .tuple [.int r, optG g], .tup hp (.cons (.int _) (.cons (dp_optG g) .nil)), .tup (seq_t e7 (S0.tup kp6 hb)) (.cons (.int _) (.cons (dp_optG g) .nil)), ?_, ?_, ?_⟩
      · cases g <;> rfl
      · cases g <;> rfl
      · have e : (PyData.tuple [.int r, optG g]).eqv (.tuple [.int r, optG g]) = true := by
          cases g <;> simp [optG, PyData.eqv, PyData.eqvAll]
        rw [e]
        exact k _ (kp6.trans (Keep.of e7)) ((S6.same e7).more (by omega))
end
end Gc

/-! greater goals, longer lines, lines that are not visited (k05) -/
namespace Gc
open PySem L2
abbrev s_order : Stmt := top 38
structure TxtOr5 (mg : Str → Option Value) : Prop where
  min : mg "min" = none
  enumerate : mg "enumerate" = none
def spOrder (K : PySem.W.Frag) : Sp := fun vs H Q _ => ∃ (a d t b l : Addr) (n : Nat) (T : List Int) (r : Int) (g : Option Int) (xs : List V) (cs : List Cmd), vs = [.ref a, .ref t, .ref b, .ref l] ∧ Src H a d n ∧ n < 2 ^ 36 ∧ H t = some (.lst (T.map V.int)) ∧ t ≠ a ∧ t ≠ d ∧ (∀ x ∈ T, 0 ≤ x ∧ x < 10 ^ 30) ∧ T.length ≤ 60 ∧ SqT K H b [.int r, optV g] ∧ 0 ≤ r ∧ r < T.length ∧ ge g 0 ∧ (∀ x, g = some x → x < 10 ^ 30) ∧
  H l = some (.lst xs) ∧ l ≠ a ∧ l ≠ d ∧ CmdsOf K H xs cs ∧ AllOk cs ∧ (∀ c ∈ cs, numC c ≤ 10 ^ 30) ∧ cs.length ≤ 18 ∧ Within cs (-r) (T.length - 1 - r) ∧ ∀ H', Keep a d H H' → Src H' a d (n + 300) → Q (.bl true) H'
theorem atLeast_of {x y : Option Int} (h : geG x y) : atLeast x y = true := by
  cases x with
  | none => rfl
  | some a =>
    cases y with
    | none => exact h.elim
    | some b => exact decide_eq_true h
theorem ge_up {x y : Option Int} (h : geG x y) (g : ge y 0) : ge x 0 := by
  cases x with
  | none => exact ge_none 0
  | some a =>
    cases y with
    | none => exact h.elim
    | some b =>
      have b0 := ge_some.mp g
      have ab : b ≤ a := h
      exact ge_some.mpr (by omega)
theorem trail_rows {T : List Int} : ∀ {cs : List Cmd} {r : Int} {g : Option Int}, Within cs (-r) (T.length - 1 - r) → ((r, g) :: trailL T r g cs).map (·.1) = rowsOf r cs
  | [], _, _, _ => rfl
  | c :: cs, r, g, wc => by
    have w1 := wc 1
    have e1 : last ((c :: cs).take 1) = c.dv + 0 := rfl
    have hs : step1 T r g c = some (r + c.dv, aim1 (lenAt T (r + c.dv)) g c) := if_pos (by omega)
    rw [trail_step hs]
    show r :: ((r + c.dv, aim1 (lenAt T (r + c.dv)) g c) :: trailL T (r + c.dv) (aim1 (lenAt T (r + c.dv)) g c) cs).map (·.1) = r :: rowsOf (r + c.dv) cs
    rw [trail_rows (wc.tail.le (by omega) (by omega))]
theorem inV_ints {n : Int} {xs : List Int} (h : n ∈ xs) : inV (.int n) (xs.map V.int) = true := by
  unfold inV
  rw [List.any_eq_true]
  exact ⟨.int n, List.mem_map.mpr ⟨n, h, rfl⟩, by simp [eqV]⟩
theorem rowsOf_in : ∀ {cs : List Cmd} {r lo hi : Int}, Within cs lo hi → ∀ k ∈ rowsOf r cs, r + lo ≤ k ∧ k ≤ r + hi
  | [], r, lo, hi, wc, k, hk => by
    have w0 := wc 0
    have e0 : last (([] : List Cmd).take 0) = 0 := rfl
    have e : k = r := List.mem_singleton.mp hk
    omega
  | c :: cs, r, lo, hi, wc, k, hk => by
    rcases List.mem_cons.mp hk with e | h
    · have w0 := wc 0
      have e0 : last ((c :: cs).take 0) = 0 := rfl
      omega
    · have q := rowsOf_in (r := r + c.dv) wc.tail k h
      omega
section
variable {P : Program} {w : World} {K : PySem.W.Frag} {mg : Str → Option Value} {base : Heap}
theorem sc_law_order_right : FnScope ["source", "sheet", "spot", "moves", "row", "goal", "last", "more", "longer", "later", "rows", "other", "size", "place", "at"] ["source", "sheet", "spot", "moves"] (defScope s_order) := ⟨rfl, rfl, rfl, by decide +kernel, rfl, by decide +kernel, by decide +kernel⟩
theorem ok_order {f : Addr} {fd : FuncData} (F : Fun K "_law_order_right" "_law_order_right" s_order f fd) (T : TxtOr5 mg) (c_law_draw : Cal P w K mg base 1 "_law_draw" spDraw) (c_run : Cal P w K mg base 4 "run" (spRun K)) (c_law_at_least : Cal P w K mg base 1 "_law_at_least" spAtLeast) (c_places : NCal P w K mg base 5 "places" (spPlacesN K)) :
    FnOk P w K mg base CX0 9 f fd ["source", "sheet", "spot", "moves"] (spOrder K) := by
  refine F.ok sc_law_order_right (fun vs H Q E h => ?_) (fun cdv A outer s H vs Q E hr h => ?_)
  · obtain ⟨a, d, t, b, l, n, T, r, g, xs, cs, rfl, _⟩ := h
    rfl
  · obtain ⟨a, d, t, b, l, n, tx, r, g, xs, cs, rfl, S0, hn, ht, ta, td, hT, t60, hb, r0, r1, g0, gm, hl, la, ld, hcs, okc, nbc, lc, wc, k⟩ := h
    refine ⟨_, (pss_cons (ps_asg (pv 2) (pg_tup rfl (pgs_cons (pg_name (i := 4) sc_law_order_right.nd rfl (Or.inl rfl)) (pgs_cons (pg_name (i := 5) sc_law_order_right.nd rfl (Or.inl rfl)) pgs_nil))))
      (pss_cons (ps_set (i := 6) sc_law_order_right.nd rfl (Or.inl rfl) (pe_cal c_run hr (by decide) (by rfl) (pa_cons (pv 1) (pa_cons (pv 2) (pa_cons (pv 3) pa_nil)))))
      (C8.pss_cut (ps_set (i := 7) sc_law_order_right.nd rfl (Or.inl rfl) (pe_tup (pa_cons (pv 4) (pa_cons (pe_ifExp (pt_cmpR op_isN (pv 5) pe_non (nomark _)) pe_non (pe_callB (call_min2 rfl) (by rfl) T.min (by decide +kernel) (pa_cons (pe_op op_sub (pe_op op_pow pe_int pe_int) pe_int) (pa_cons (pe_op op_add (pv 5) (pe_cal c_law_draw hr (by decide) (by rfl) (pa_cons (pv 0) (pa_cons pe_int pa_nil)))) pa_nil)))) pa_nil))))
      (pss_cons (ps_setLc (i := 8) (own := [("size", 12)]) rfl sc_law_order_right.nd rfl rfl (sw_true rfl rfl rfl (by decide +kernel)) (pi_list (pv 1)) (blkOk_by (N := ["source", "sheet", "spot", "moves", "row", "goal", "last", "more", "longer", "later", "rows", "other", "size", "place", "at"]) (sc := defScope s_order) (by decide +kernel)) (fun _ _ _ _ _ => (pg_name (i := 12) sc_law_order_right.nd rfl (Or.inl rfl))) (fun _ _ _ _ _ => pts_nil) (fun _ _ _ _ _ => (pe_op op_add (pv 12) (pe_cal c_law_draw hr (by decide) (by rfl) (pa_cons (pv 0) (pa_cons pe_int pa_nil))))))
      (pss_cons (ps_for PassesOwn.never rfl (pi_list (pe_lst (pa_cons (pe_cal c_run hr (by decide) (by rfl) (pa_cons (pv 1) (pa_cons (pv 7) (pa_cons (pv 3) pa_nil)))) (pa_cons (pe_cal c_run hr (by decide) (by rfl) (pa_cons (pv 8) (pa_cons (pv 2) (pa_cons (pv 3) pa_nil)))) (pa_cons (pe_cal c_run hr (by decide) (by rfl) (pa_cons (pv 8) (pa_cons (pv 7) (pa_cons (pv 3) pa_nil)))) pa_nil))))) (pg_name (i := 9) sc_law_order_right.nd rfl (Or.inl rfl)) (pss_one (ps_if (PW.pt (pw_or (pt_cmpR op_ne (pe_ix ix_tup (pv 9) pe_int (fun _ _ => rfl)) (pe_ix ix_tup (pv 6) pe_int (fun _ _ => rfl)) (nomark _)) (pw_or1 (pt_not (pt_val (pe_cal c_law_at_least hr (by decide) (by rfl) (pa_cons (pe_ix ix_tup (pv 9) pe_int (fun _ _ => rfl)) (pa_cons (pe_ix ix_tup (pv 6) pe_int (fun _ _ => rfl)) pa_nil)))))))) (pss_one (ps_ret pe_bl)) pss_nil)))
      (pss_cons (ps_set (i := 10) sc_law_order_right.nd rfl (Or.inr rfl) (pe_lcN (own := [("place", 13)]) rfl c_places (hr.mono (by decide)) (by rfl) (pa_cons (pv 1) (pa_cons (pv 2) (pa_cons (pv 3) pa_nil))) (blkOk_by (N := ["source", "sheet", "spot", "moves", "row", "goal", "last", "more", "longer", "later", "rows", "other", "size", "place", "at"]) (sc := defScope s_order) (by decide +kernel)) (by rfl)))
      (pss_cons (ps_setLc (i := 11) (own := [("at", 14), ("size", 12)]) rfl sc_law_order_right.nd rfl rfl (sw_true rfl rfl rfl (by decide +kernel)) (pi_enum (by rfl) T.enumerate (pa_cons (pv 1) pa_nil)) (blkOk_by (N := ["source", "sheet", "spot", "moves", "row", "goal", "last", "more", "longer", "later", "rows", "other", "size", "place", "at"]) (sc := defScope s_order) (by decide +kernel)) (fun _ _ _ _ _ => (show PG _ _ (gTup K 2 _) from pg_tup rfl (pgs_cons (pg_name (i := 14) sc_law_order_right.nd rfl (Or.inl rfl)) (pgs_cons (pg_name (i := 12) sc_law_order_right.nd rfl (Or.inl rfl)) pgs_nil)))) (fun _ _ _ _ _ => pts_nil) (fun _ _ _ _ _ => (pe_ifExp (pt_cmpR (show OpR _ _ (rIn K false) from op_in_seq) (pv 14) (pv 10) (by rfl)) (pv 12) (pe_cal c_law_draw hr (by decide) (by rfl) (pa_cons (pv 0) (pa_cons pe_int pa_nil))))))
      (pss_one (ps_ret (pe_cmpR (op_eqD hr.units) (pe_cal c_run hr (by decide) (by rfl) (pa_cons (pv 11) (pa_cons (pv 2) (pa_cons (pv 3) pa_nil)))) (pv 6) (nomark _))))))))))), ?_⟩
    have nn : ∀ x ∈ tx, 0 ≤ x := fun x hx => (hT x hx).1
    have run0 := afterL_in (a := g) wc
    refine ⟨_, rfl, b, _, rfl, hb, rfl, _, _, rfl, _, _, rfl, rfl, ?_⟩
    refine ⟨_, rfl, _, rfl, _, rfl, t, b, l, tx, r, g, xs, cs, _, _, rfl, SqL.of ht, hb, SqL.of hl, hcs, nn, r0, r1, g0, okc, by omega, run0, fun H1 p1 e1 hp1 => ?_⟩
    have kp1 : Keep a d H H1 := Keep.of e1
    replace ht := e1 _ _ ht
    replace hl := e1 _ _ hl
    replace hb := seq_t e1 hb
    replace hcs := hcs.same e1
    replace S0 := S0.same e1
    clear e1
    refine ⟨fun σ H' => ∃ (q : Addr) (g2 : Option Int), σ = [some (.ref a), some (.ref t), some (.ref b), some (.ref l), some (.int r), some (optV g), some (.ref p1), some (.ref q), none, none, none, none, none, none, none] ∧ Keep a d H1 H' ∧ Src H' a d (n + 5) ∧ H' q = some (.tup [.int r, optV g2]) ∧ geG g2 g, ?_, ?_⟩
    · cases g with
      | none =>
        refine ⟨_, rfl, _, rfl, rfl, _, rfl, iteT ⟨(by show 2 ≤ sizeLine; decide), fun q nq => ?_⟩⟩
        exact ⟨q, none, rfl, Keep.of (new_same nq), (S0.same (new_same nq)).more (by omega), upd_same, trivial⟩
      | some x =>
        have xm := gm x rfl
        refine ⟨_, rfl, _, rfl, rfl, _, rfl, iteF ?_⟩
        refine ⟨_, _, rfl, rfl, cpow (by decide), _, _, rfl, rfl, _, rfl, _, rfl, a, d, _, 9, rfl, S0, by omega, by decide, by decide, fun H2 u kp2 S2 u0 u1 => ?_⟩
        refine ⟨_, _, rfl, rfl, _, _, rfl, (by show 2 ≤ sizeLine; decide), fun q nq => ?_⟩
        have big : ((10 : Int) ^ (30 : Int).toNat - 1) = 10 ^ 30 - 1 := rfl
        refine ⟨q, some (if x + u < (10 : Int) ^ (30 : Int).toNat - 1 then x + u else (10 : Int) ^ (30 : Int).toNat - 1), rfl, kp2.new nq, (S2.same (new_same nq)).more (by omega), upd_same, ?_⟩
        show x ≤ if x + u < (10 : Int) ^ (30 : Int).toNat - 1 then x + u else (10 : Int) ^ (30 : Int).toNat - 1
        rw [big]
        split <;> omega
    rintro σ H2 ⟨q, g2, rfl, kp2, S2, hq, gq⟩
    replace ht := kp2 _ _ ta td ht
    replace hl := kp2 _ _ la ld hl
    replace hb := S0.tup kp2 hb
    replace hp1 := S0.tup kp2 hp1
    replace hcs := S0.cmds kp2 hcs
    have kp02 := kp1.trans kp2
    clear kp1 kp2 S0
    refine ⟨_, rfl, t, rfl, ⟨_, SqL.of ht⟩, fun D hD => ?_⟩
    obtain ⟨Da, Dd⟩ := S2.off hD
    refine lc_list (K := K) (a := t) (xs := tx.map V.int) (fun i H' => ∃ ty : List Int, Keep a d H2 H' ∧ Src H' a d (n + 5 + 2 * i) ∧ H' D = some (.lst (ty.map V.int)) ∧ ty.length = i ∧ ∀ (k : Nat) (z : Int), ty[k]? = some z → ∃ x, tx[k]? = some x ∧ x ≤ z)
      ⟨[], Keep.of (new_same hD), (S2.same (new_same hD)).more (by omega), upd_same, rfl, fun k z h => by simp at h⟩ (fun i H' _ ⟨ty, kp, _⟩ => SqL.of (kp _ _ ta td ht)) (fun i x H' hx h => ?_) (fun H3 h => ?_)
    · obtain ⟨ty, kp, S, hd, tl, hty⟩ := h
      rw [List.getElem?_map] at hx
      obtain ⟨z, hz, rfl⟩ := Option.map_eq_some_iff.mp hx
      have i60 : i < tx.length := (List.getElem?_eq_some_iff.mp hz).1
      refine ⟨rfl, ?_⟩
      refine ⟨_, rfl, _, rfl, a, d, _, 3, rfl, S, by omega, by decide, by decide, fun H4 u kp4 S4 u0 u1 => ⟨_, _, rfl, rfl, _, kp4 _ _ Da Dd hd, lt_line (by rw [List.length_map]; omega), ty ++ [z + u], fun y o h1 h2 hy => ?_, (S4.upd Da Dd).more (by omega), by rw [upd_same, List.map_append]; rfl, by rw [List.length_append, tl]; rfl, fun k w hw => ?_⟩⟩
      · rw [upd_ne (ne_of_none hy hD)]
        exact (kp.trans kp4) _ _ h1 h2 hy
      · by_cases hk : k < ty.length
        · rw [List.getElem?_append_left hk] at hw
          exact hty k w hw
        · have ek : k = i := by
            have := (List.getElem?_eq_some_iff.mp hw).1
            rw [List.length_append] at this
            have : k < ty.length + 1 := this
            omega
          rw [ek, ← tl, List.getElem?_append_right (Nat.le_refl _), Nat.sub_self] at hw
          cases hw
          exact ⟨z, by rw [ek]; exact hz, by omega⟩
    obtain ⟨ty, kp3, S3, hD3, tl, hty⟩ := h
    rw [List.length_map] at tl
    replace ht := kp3 _ _ ta td ht
    replace hl := kp3 _ _ la ld hl
    replace hb := S2.tup kp3 hb
    replace hp1 := S2.tup kp3 hp1
    replace hq := S2.tup (K := K) kp3 (SqT.of hq)
    replace hcs := S2.cmds kp3 hcs
    have kp03 := kp02.trans kp3
    clear kp3 kp02 S2 hD
    have tyn : ∀ x ∈ ty, 0 ≤ x := fun x hx => by
      obtain ⟨k, hk⟩ := List.mem_iff_getElem?.mp hx
      obtain ⟨y, hy, hxy⟩ := hty k x hk
      have := nn y (List.mem_of_getElem? hy)
      omega
    have le : ∀ k, lenAt tx k ≤ lenAt ty k := fun k => by
      unfold lenAt
      rw [List.getD_eq_getElem?_getD, List.getD_eq_getElem?_getD]
      by_cases hk : k.toNat < ty.length
      · obtain ⟨y, hy, hxy⟩ := hty k.toNat _ (List.getElem?_eq_getElem hk)
        rw [hy, List.getElem?_eq_getElem hk]
        exact hxy
      · rw [List.getElem?_eq_none (by omega), List.getElem?_eq_none (by omega)]
        exact Int.le_refl 0
    have wcy : Within cs (-r) (ty.length - 1 - r) := by rw [tl]; exact wc
    have g20 := ge_up gq g0
    have rym : r < ty.length := by rw [tl]; exact r1
    have run1 := afterL_in (a := g2) wc
    have run2 := afterL_in (a := g) wcy
    have run3 := afterL_in (a := g2) wcy
    have o1 := aimF_mono (T := lenAt tx) (T' := lenAt tx) (fun _ => Int.le_refl _) cs (r := r) gq
    have o2 := aimF_mono (T := lenAt tx) (T' := lenAt ty) le cs (r := r) (geG_refl g)
    have o3 := aimF_mono (T := lenAt tx) (T' := lenAt ty) le cs (r := r) gq
    refine ⟨_, rfl, _, rfl, _, rfl, t, q, l, tx, r, g2, xs, cs, _, _, rfl, SqL.of ht, hq, SqL.of hl, hcs, nn, r0, r1, g20, okc, by omega, run1, fun H4 p4 e4 hp4 => ?_⟩
    refine ⟨_, rfl, _, rfl, _, rfl, D, b, l, ty, r, g, xs, cs, _, _, rfl, SqL.of (e4 _ _ hD3), seq_t e4 hb, SqL.of (e4 _ _ hl), hcs.same e4, tyn, r0, rym, g0, okc, by omega, run2, fun H5 p5 e5 hp5 => ?_⟩
    have e45 := e4.trans e5
    refine ⟨_, rfl, _, rfl, _, rfl, D, q, l, ty, r, g2, xs, cs, _, _, rfl, SqL.of (e45 _ _ hD3), seq_t e45 hq, SqL.of (e45 _ _ hl), hcs.same e45, tyn, r0, rym, g20, okc, by omega, run3, fun H6 p6 e6 hp6 => ?_⟩
    have e36 := e45.trans e6
    replace hp4 := seq_t (e5.trans e6) hp4
    replace hp5 := seq_t e6 hp5
    replace ht := e36 _ _ ht
    replace hl := e36 _ _ hl
    replace hb := seq_t e36 hb
    replace hp1 := seq_t e36 hp1
    replace hcs := hcs.same e36
    replace S3 := S3.same e36
    replace kp03 := kp03.trans (Keep.of e36)
    clear e4 e5 e45 e6 e36 hq
    refine ⟨(by show 3 ≤ sizeLine; decide), fun u nu => ?_⟩
    have hu : (upd H6 u (.lst [V.ref p4, .ref p5, .ref p6])) u = some (.lst [V.ref p4, .ref p5, .ref p6]) := upd_same
    have eu := new_same (o := HO.lst [V.ref p4, .ref p5, .ref p6]) nu
    replace hp4 := seq_t eu hp4
    replace hp5 := seq_t eu hp5
    replace hp6 := seq_t eu hp6
    replace ht := eu _ _ ht
    replace hl := eu _ _ hl
    replace hb := seq_t eu hb
    replace hp1 := seq_t eu hp1
    replace hcs := hcs.same eu
    replace S3 := S3.same eu
    replace kp03 := kp03.trans (Keep.of eu)
    clear eu
    generalize upd H6 u (.lst [V.ref p4, .ref p5, .ref p6]) = H7 at hu hp4 hp5 hp6 ht hl hb hp1 hcs S3 kp03 ⊢
    refine ⟨u, rfl, ⟨_, SqL.of hu⟩, for_list (K := K) (a := u) (xs := [V.ref p4, .ref p5, .ref p6]) (fun i σ H' => ∃ v9 : Option V, σ = [some (.ref a), some (.ref t), some (.ref b), some (.ref l), some (.int r), some (optV g), some (.ref p1), some (.ref q), some (.ref D), v9, none, none, none, none, none] ∧ H7 = H')
      ⟨none, rfl, rfl⟩ (fun i σ H' _ ⟨_, _, e⟩ => by rw [← e]; exact SqL.of hu) (fun i x σ H' hi h => ?_) (fun σ H' h => ?_)⟩
    · obtain ⟨v9, rfl, rfl⟩ := h
      obtain ⟨p, gg, rfl, hp, hgg⟩ : ∃ (p : Addr) (gg : Option Int), x = .ref p ∧ SqT K H7 p [.int (r + last cs), optV gg] ∧ geG gg (aimF (lenAt tx) r g cs) := by
        rcases (show i = 0 ∨ i = 1 ∨ i = 2 by have := (List.getElem?_eq_some_iff.mp hi).1; simp only [List.length_cons, List.length_nil] at this; omega) with rfl | rfl | rfl
        · cases hi
          exact ⟨_, _, rfl, hp4, o1⟩
        · cases hi
          exact ⟨_, _, rfl, hp5, o2⟩
        · cases hi
          exact ⟨_, _, rfl, hp6, o3⟩
      refine ⟨_, rfl, p, _, 0, .int (r + last cs), rfl, rfl, hp, rfl, _, rfl, p1, _, 0, .int (r + last cs), rfl, rfl, hp1, rfl, rfl, false, by simp, iteF ?_⟩
      refine ⟨_, rfl, p, _, 1, optV gg, rfl, rfl, hp, rfl, _, rfl, p1, _, 1, optV (aimF (lenAt tx) r g cs), rfl, rfl, hp1, rfl, gg, _, rfl, ?_⟩
      rw [atLeast_of hgg]
      exact ⟨_, rfl, iteF ⟨_, rfl, rfl⟩⟩
    obtain ⟨v9, rfl, rfl⟩ := h
    clear hp4 hp5 hp6 hu o1 o2 o3 le
    have er : ((r, g) :: trailL tx r g cs).map (fun q => V.int q.1) = (rowsOf r cs).map V.int := by
      rw [← trail_rows (g := g) wc, List.map_map]
      rfl
    refine ⟨_, rfl, _, rfl, _, rfl, ((r, g) :: trailL tx r g cs).map (fun q => V.int q.1), t, b, l, tx, r, g, xs, cs, _, _, rfl, SqL.of ht, hb, SqL.of hl, hcs, nn, r0, r1, g0, okc, by omega, run0, fun ys x H' qq hqq hsp => ?_, fun H8 ys e8 hlen => ⟨by rw [List.length_map]; exact hlen, fun R hR => ?_⟩⟩
    · obtain ⟨pp, rfl, hpp⟩ := hsp
      exact ⟨pp, _, .int qq.1, rfl, hpp, rfl, by rw [List.getElem?_map, hqq]; rfl⟩
    obtain ⟨Ra, Rd⟩ := (S3.same e8).off hR
    rw [er]
    have hRR : (upd H8 R (.lst ((rowsOf r cs).map V.int))) R = some (.lst ((rowsOf r cs).map V.int)) := upd_same
    have eu := e8.trans (new_same (o := HO.lst ((rowsOf r cs).map V.int)) hR)
    replace ht := eu _ _ ht
    replace hl := eu _ _ hl
    replace hb := seq_t eu hb
    replace hp1 := seq_t eu hp1
    replace hcs := hcs.same eu
    replace S3 := S3.same eu
    replace kp03 := kp03.trans (Keep.of eu)
    clear eu e8
    generalize upd H8 R (.lst ((rowsOf r cs).map V.int)) = H9 at hRR ht hl hb hp1 hcs S3 kp03 ⊢
    refine ⟨_, rfl, t, _, rfl, SqL.of ht, fun G hG => ?_⟩
    obtain ⟨Ga, Gd⟩ := S3.off hG
    refine lc_it (walk_enum (K := K) (a := t) (xs := tx.map V.int)) (fun i H' => ∃ tz : List Int, Keep a d H9 H' ∧ Src H' a d (n + 5 + 2 * (tx.map V.int).length + 2 * i) ∧ H' G = some (.lst (tz.map V.int)) ∧ tz.length = i ∧ ∀ (k : Nat) (z : Int), tz[k]? = some z → 0 ≤ z ∧ ((k : Int) ∈ rowsOf r cs → tx[k]? = some z))
      ⟨[], Keep.of (new_same hG), (S3.same (new_same hG)).more (by omega), upd_same, rfl, fun k z h => by simp at h⟩ (fun i H' _ ⟨tz, kp, _⟩ => SqL.of (kp _ _ ta td ht)) (fun i x H' H'' hi h y => ?_) (fun H' h => ?_)
    · obtain ⟨tz, kp, S, hd, tl, htz⟩ := h
      obtain ⟨T1, x1, y1, rfl, nT, rfl, ex1, ex2⟩ := y
      cases ex1
      have ex3 : (tx.map V.int)[i]? = some y1 := ex2
      rw [List.getElem?_map] at ex3
      obtain ⟨z, hz, rfl⟩ := Option.map_eq_some_iff.mp ex3
      have i60 : i < tx.length := (List.getElem?_eq_some_iff.mp hz).1
      have lm : (tx.map V.int).length = tx.length := List.length_map ..
      have eT := new_same (o := HO.tup [.int (i : Nat), .int z]) nT
      have hT1 : (upd H' T1 (.tup [.int (i : Nat), .int z])) T1 = some (.tup [.int (i : Nat), .int z]) := upd_same
      have kpT := kp.trans (Keep.of (a := a) (d := d) eT)
      have ST := S.same eT
      have hdT := eT _ _ hd
      clear S kp hd nT ex2 ex3
      generalize upd H' T1 (.tup [.int (i : Nat), .int z]) = H'' at hT1 kpT ST hdT ⊢
      clear eT
      refine ⟨T1, _, rfl, SqT.of hT1, rfl, _, _, rfl, _, _, rfl, rfl, rfl, ?_⟩
      have put : ∀ (Hf : Hp) (w : Int), Keep a d H9 Hf → Src Hf a d (n + 5 + 2 * (tx.map V.int).length + 2 * i + 2) → Hf G = some (.lst (tz.map V.int)) → 0 ≤ w → ((i : Int) ∈ rowsOf r cs → w = z) → ∃ tz' : List Int, Keep a d H9 (upd Hf G (.lst (tz.map V.int ++ [.int w]))) ∧ Src (upd Hf G (.lst (tz.map V.int ++ [.int w]))) a d (n + 5 + 2 * (tx.map V.int).length + 2 * (i + 1)) ∧
          (upd Hf G (.lst (tz.map V.int ++ [.int w]))) G = some (.lst (tz'.map V.int)) ∧ tz'.length = i + 1 ∧ ∀ (k : Nat) (y : Int), tz'[k]? = some y → 0 ≤ y ∧ ((k : Int) ∈ rowsOf r cs → tx[k]? = some y) := fun Hf w kf Sf hf w0 wz => by
        refine ⟨tz ++ [w], fun y o h1 h2 hy => ?_, (Sf.upd Ga Gd).more (by omega), by rw [upd_same, List.map_append]; rfl, by rw [List.length_append, tl]; rfl, fun k y hy => ?_⟩
        · rw [upd_ne (ne_of_none hy hG)]
          exact kf _ _ h1 h2 hy
        · by_cases hk : k < tz.length
          · rw [List.getElem?_append_left hk] at hy
            exact htz k y hy
          · have ek : k = tz.length := by
              have h := (List.getElem?_eq_some_iff.mp hy).1
              rw [List.length_append] at h
              have h : k < tz.length + 1 := h
              omega
            subst ek
            rw [List.getElem?_append_right (Nat.le_refl _), Nat.sub_self] at hy
            cases hy
            refine ⟨w0, fun hm => ?_⟩
            rw [tl] at hm ⊢
            rw [wz hm]
            exact hz
      refine ⟨_, rfl, _, rfl, R, _, rfl, .inl (SqL.of (kpT _ _ Ra Rd hRR)), rfl, ?_, _, rfl, ite2 (fun hin => ?_) (fun hin => ?_)⟩
      · rw [List.all_eq_true]
        intro v hv
        obtain ⟨z', _, rfl⟩ := List.mem_map.mp hv
        rfl
      · exact ⟨_, rfl, _, hdT, lt_line (by rw [List.length_map]; omega), put _ z kpT (ST.more (by omega)) hdT (nn z (List.mem_of_getElem? hz)) fun _ => rfl⟩
      · refine ⟨_, rfl, a, d, _, 9, rfl, ST, by omega, by decide, by decide, fun H4 u kp4 S4 u0 u1 => ⟨_, kp4 _ _ Ga Gd hdT, lt_line (by rw [List.length_map]; omega), put _ u (kpT.trans kp4) (S4.more (by omega)) (kp4 _ _ Ga Gd hdT) u0 fun hm => ?_⟩⟩
        exact absurd (inV_ints hm) hin
    obtain ⟨tz, kp, S, hd, tl, htz⟩ := h
    rw [List.length_map] at tl S
    have agree : ∀ k ∈ rowsOf r cs, lenAt tx k = lenAt tz k := fun k hk => by
      obtain ⟨k0, k1⟩ := rowsOf_in wc k hk
      have hl : k.toNat < tz.length := by omega
      obtain ⟨_, q⟩ := htz k.toNat _ (List.getElem?_eq_getElem hl)
      have q2 := q (by rw [show ((k.toNat : Nat) : Int) = k by omega]; exact hk)
      unfold lenAt
      rw [List.getD_eq_getElem?_getD, List.getD_eq_getElem?_getD, q2, List.getElem?_eq_getElem hl]
    have tzn : ∀ x ∈ tz, 0 ≤ x := fun x hx => by
      obtain ⟨k, hk⟩ := List.mem_iff_getElem?.mp hx
      exact (htz k x hk).1
    have wcz : Within cs (-r) (tz.length - 1 - r) := by rw [tl]; exact wc
    have run4 := afterL_in (a := g) wcz
    rw [← aimF_rows cs agree] at run4
    refine ⟨_, rfl, _, rfl, _, rfl, G, b, l, tz, r, g, xs, cs, _, _, rfl, SqL.of hd, S3.tup kp hb, SqL.of (kp _ _ la ld hl), S3.cmds kp hcs, tzn, r0, by omega, g0, okc, by omega, run4, fun H5 p5 e5 hp5 => ?_⟩
    refine ⟨_, rfl, .tuple [.int (r + last cs), optG (aimF (lenAt tx) r g cs)], .tuple [.int (r + last cs), optG (aimF (lenAt tx) r g cs)], .tup hp5 (.cons (.int _) (.cons (dp_optG _) .nil)), .tup (seq_t e5 (S3.tup kp hp1)) (.cons (.int _) (.cons (dp_optG _) .nil)), ?_, ?_, ?_⟩
    · cases aimF (lenAt tx) r g cs <;> rfl
    · cases aimF (lenAt tx) r g cs <;> rfl
    · have e : (PyData.tuple [.int (r + last cs), optG (aimF (lenAt tx) r g cs)]).eqv (.tuple [.int (r + last cs), optG (aimF (lenAt tx) r g cs)]) = true := by
        cases aimF (lenAt tx) r g cs <;> simp [optG, PyData.eqv, PyData.eqvAll]
      rw [e]
      exact k _ ((kp03.trans kp).trans (Keep.of e5)) ((S.same e5).more (by omega))
end
end Gc

/-! behind one command only the shown column counts (k05) -/
namespace Gc
open PySem L2
abbrev s_shown_right : Stmt := top 37
def spShownR (K : PySem.W.Frag) : Sp := fun vs H Q _ => ∃ (a d t b : Addr) (n : Nat) (T : List Int) (r : Int) (g : Option Int), vs = [.ref a, .ref t, .ref b] ∧ Src H a d n ∧ n < 2 ^ 36 ∧ H t = some (.lst (T.map V.int)) ∧ t ≠ a ∧ t ≠ d ∧ (∀ x ∈ T, 0 ≤ x) ∧ SqT K H b [.int r, optV g] ∧ 0 ≤ r ∧ r < T.length ∧ ge g 0 ∧
  ∀ H', Keep a d H H' → Src H' a d (n + 40) → Q (.bl true) H'
/-- where the goal is at least the length, the goal behind a command in the row does not depend on it -/
theorem aim1_over {t : Int} {x y : Option Int} (hx : ge x t) (hy : ge y t) {c : Cmd} (hc : c.vert = false) : aim1 t x c = aim1 t y c := by
  have sx : ∀ {z : Option Int}, ge z t → seen t z = t := fun {z} hz => by
    cases z with
    | none => rfl
    | some v =>
      have := ge_some.mp hz
      show min v t = t
      omega
  cases c with
  | down n => cases hc
  | up n => cases hc
  | right n =>
    show some (min (seen t x + n) t) = some (min (seen t y + n) t)
    rw [sx hx, sx hy]
  | left n =>
    show some (max 0 (seen t x - n)) = some (max 0 (seen t y - n))
    rw [sx hx, sx hy]
  | home => rfl
  | stop => rfl
theorem over_seen {t : Int} {z : Option Int} (hz : ge z t) : seen t z = t := by
  cases z with
  | none => rfl
  | some v =>
    have := ge_some.mp hz
    show min v t = t
    omega
theorem over_ge {t : Int} {z : Option Int} (h : ¬ seen t z < t) : ge z t := by
  cases z with
  | none => exact ge_none _
  | some v =>
    have h' : ¬ min v t < t := h
    exact ge_some.mpr (by omega)
theorem over_nn {t : Int} {z : Option Int} (h0 : 0 ≤ t) (hz : ge z t) : ge z 0 := fun x e => Int.le_trans h0 (hz x e)
theorem after_one {T : List Int} {r : Int} {g : Option Int} {c : Cmd} (hc : c.vert = false) : afterL T r g [c] = some (r, aim1 (lenAt T r) g c) := by
  simp only [afterL]
  rw [hc]
  rfl
section
variable {P : Program} {w : World} {K : PySem.W.Frag} {mg : Str → Option Value} {base : Heap}
theorem sc_law_shown_right : FnScope ["source", "sheet", "spot", "row", "goal", "others", "many", "command", "other"] ["source", "sheet", "spot"] (defScope s_shown_right) := ⟨rfl, rfl, rfl, by decide +kernel, rfl, by decide +kernel, by decide +kernel⟩
theorem ok_shown_right {f : Addr} {fd : FuncData} (F : Fun K "_law_shown_right" "_law_shown_right" s_shown_right f fd) (c_law_draw : Cal P w K mg base 1 "_law_draw" spDraw) (c_law_shown : Cal P w K mg base 1 "_law_shown" (spLShown K)) (c_run : Cal P w K mg base 4 "run" (spRun K)) (c_column : Cal P w K mg base 2 "column" (spColumn K)) : FnOk P w K mg base CX0 5 f fd ["source", "sheet", "spot"] (spShownR K) := by
  refine F.ok sc_law_shown_right (fun vs H Q E h => ?_) (fun cdv A outer s H vs Q E hr h => ?_)
  · obtain ⟨a, d, t, b, n, T, r, g, rfl, _⟩ := h
    rfl
  · obtain ⟨a, d, t, b, n, tx, r, g, rfl, S0, hn, ht, ta, td, nn, hb, r0, r1, g0, k⟩ := h
    refine ⟨_, (pss_cons (ps_asg (pv 2) (pg_tup rfl (pgs_cons (pg_name (i := 3) sc_law_shown_right.nd rfl (Or.inl rfl)) (pgs_cons (pg_name (i := 4) sc_law_shown_right.nd rfl (Or.inl rfl)) pgs_nil))))
      (pss_cons (ps_if (pt_cmpR op_lt (pe_cal c_law_shown hr (by decide) (by rfl) (pa_cons (pv 1) (pa_cons (pv 2) pa_nil))) (pe_ix ix_list (pv 1) (pv 3) (fun _ _ => rfl)) (nomark _)) (pss_one (ps_ret pe_bl)) pss_nil)
      (pss_cons (ps_set (i := 5) sc_law_shown_right.nd rfl (Or.inl rfl) (pe_lst (pa_cons (pe_tup (pa_cons (pv 3) (pa_cons (pe_ix ix_list (pv 1) (pv 3) (fun _ _ => rfl)) pa_nil))) (pa_cons (pe_tup (pa_cons (pv 3) (pa_cons (pe_op op_add (pe_op op_add (pe_ix ix_list (pv 1) (pv 3) (fun _ _ => rfl)) pe_int) (pe_cal c_law_draw hr (by decide) (by rfl) (pa_cons (pv 0) (pa_cons pe_int pa_nil)))) pa_nil))) (pa_cons (pe_tup (pa_cons (pv 3) (pa_cons pe_non pa_nil))) pa_nil)))))
      (pss_cons (ps_set (i := 6) sc_law_shown_right.nd rfl (Or.inl rfl) (pe_op op_add pe_int (pe_cal c_law_draw hr (by decide) (by rfl) (pa_cons (pv 0) (pa_cons pe_int pa_nil)))))
      (pss_cons (ps_for PassesOwn.never rfl (pi_list (pe_lst (pa_cons (pe_tup (pa_cons pe_str (pa_cons (pv 6) pa_nil))) (pa_cons (pe_tup (pa_cons pe_str (pa_cons (pv 6) pa_nil))) (pa_cons (pe_tup (pa_cons pe_str pa_nil)) (pa_cons (pe_tup (pa_cons pe_str pa_nil)) pa_nil)))))) (pg_name (i := 7) sc_law_shown_right.nd rfl (Or.inr rfl)) (pss_one (ps_if (pt_cmpR (op_neD hr.units) (pe_lc (own := [("other", 8)]) rfl sc_law_shown_right.nd (pi_list (pv 5)) (blkOk_by (N := ["source", "sheet", "spot", "row", "goal", "others", "many", "command", "other"]) (sc := defScope s_shown_right) (by decide +kernel)) (fun _ _ _ _ _ => (pg_name (i := 8) sc_law_shown_right.nd rfl (Or.inl rfl))) (fun _ _ _ _ _ => (pts_one (pt_cmpR (show OpR _ _ (rNeD K) from op_neD hr.units) (pe_cal c_run hr (by decide) (by rfl) (pa_cons (pv 1) (pa_cons (pv 8) (pa_cons (pe_lst (pa_cons (pv 7) pa_nil)) pa_nil)))) (pe_cal c_run hr (by decide) (by rfl) (pa_cons (pv 1) (pa_cons (pv 2) (pa_cons (pe_lst (pa_cons (pv 7) pa_nil)) pa_nil)))) (nomark _)))) (fun _ _ _ _ _ => (pv 8))) (pe_lst pa_nil) (nomark _)) (pss_one (ps_ret pe_bl)) pss_nil)))
      (pss_one (ps_ret (pe_cmpR (op_eqD hr.units) (pe_lc (own := [("other", 8)]) rfl sc_law_shown_right.nd (pi_list (pv 5)) (blkOk_by (N := ["source", "sheet", "spot", "row", "goal", "others", "many", "command", "other"]) (sc := defScope s_shown_right) (by decide +kernel)) (fun _ _ _ _ _ => (pg_name (i := 8) sc_law_shown_right.nd rfl (Or.inl rfl))) (fun _ _ _ _ _ => (pts_one (pt_cmpR op_ne (pe_cal c_column hr (by decide) (by rfl) (pa_cons (pv 1) (pa_cons (pv 8) pa_nil))) (pe_cal c_column hr (by decide) (by rfl) (pa_cons (pv 1) (pa_cons (pv 2) pa_nil))) (nomark _)))) (fun _ _ _ _ _ => (pv 8))) (pe_lst pa_nil) (nomark _))))))))), ?_⟩
    refine ⟨_, rfl, b, _, rfl, hb, rfl, _, _, rfl, _, _, rfl, rfl, ?_⟩
    have hat := at_len' r0 r1
    have L0 := lenAt_nn nn r
    generalize hL : lenAt tx r = L at hat L0
    refine ⟨_, rfl, _, rfl, t, b, tx, r, g, rfl, SqL.of ht, hb, r0, r1, ?_⟩
    rw [hL]
    refine ⟨_, rfl, _, rfl, t, _, _, _, rfl, rfl, SqL.of ht, hat, _, _, rfl, rfl, _, rfl, ite2 (fun c => k H (Keep.refl H) (S0.more (by omega))) (fun c => ?_)⟩
    have gL : ge g L := over_ge (fun z => c (decide_eq_true z))
    -- others
    refine ⟨_, rfl, _, rfl, _, rfl, t, _, _, _, rfl, rfl, SqL.of ht, hat, (by show 2 ≤ sizeLine; decide), fun p1 n1 => ?_⟩
    have e1 := new_same (o := HO.tup [.int r, .int L]) n1
    have h1 : (upd H p1 (.tup [.int r, .int L])) p1 = some (.tup [.int r, optV (some L)]) := upd_same
    obtain ⟨a1, d1⟩ := S0.off n1
    have kp1 := Keep.of (a := a) (d := d) e1
    have S1 := S0.same e1
    replace ht := e1 _ _ ht
    replace hb := seq_t e1 hb
    clear e1
    generalize upd H p1 (.tup [.int r, .int L]) = H1 at h1 kp1 S1 ht hb ⊢
    refine ⟨_, rfl, _, rfl, _, rfl, t, _, _, _, rfl, rfl, SqL.of ht, hat, _, _, rfl, rfl, ?_⟩
    refine ⟨_, rfl, a, d, _, 9, rfl, S1, by omega, by decide, by decide, fun H2 d2 kp2 S2 d20 d21 => ⟨_, _, rfl, rfl, (by show 2 ≤ sizeLine; decide), fun p2 n2 => ?_⟩⟩
    replace h1 := kp2 _ _ a1 d1 h1
    replace ht := kp2 _ _ ta td ht
    replace hb := S1.tup kp2 hb
    have e3 := new_same (o := HO.tup [.int r, .int (L + 1 + d2)]) n2
    have h2 : (upd H2 p2 (.tup [.int r, .int (L + 1 + d2)])) p2 = some (.tup [.int r, optV (some (L + 1 + d2))]) := upd_same
    obtain ⟨a2, b2⟩ := S2.off n2
    have kp3 := (kp1.trans kp2).trans (Keep.of e3)
    have S3 := S2.same e3
    replace ht := e3 _ _ ht
    replace hb := seq_t e3 hb
    replace h1 := e3 _ _ h1
    clear e3
    generalize upd H2 p2 (.tup [.int r, .int (L + 1 + d2)]) = H3 at h1 h2 kp3 S3 ht hb ⊢
    refine ⟨_, rfl, (by show 2 ≤ sizeLine; decide), fun p3 n3 => ?_⟩
    have e4 := new_same (o := HO.tup [.int r, .non]) n3
    have h3 : (upd H3 p3 (.tup [.int r, .non])) p3 = some (.tup [.int r, optV none]) := upd_same
    obtain ⟨a3, b3⟩ := S3.off n3
    have kp4 := kp3.trans (Keep.of e4)
    have S4 := S3.same e4
    replace ht := e4 _ _ ht
    replace hb := seq_t e4 hb
    replace h1 := e4 _ _ h1
    replace h2 := e4 _ _ h2
    clear e4
    generalize upd H3 p3 (.tup [.int r, .non]) = H4 at h1 h2 h3 kp4 S4 ht hb ⊢
    refine ⟨(by show 3 ≤ sizeLine; decide), fun os nos => ?_⟩
    have e5 := new_same (o := HO.lst [V.ref p1, .ref p2, .ref p3]) nos
    have hos : (upd H4 os (.lst [V.ref p1, .ref p2, .ref p3])) os = some (.lst [V.ref p1, .ref p2, .ref p3]) := upd_same
    obtain ⟨aos, bos⟩ := S4.off nos
    have kp5 := kp4.trans (Keep.of e5)
    have S5 := S4.same e5
    replace ht := e5 _ _ ht
    replace hb := seq_t e5 hb
    replace h1 := e5 _ _ h1
    replace h2 := e5 _ _ h2
    replace h3 := e5 _ _ h3
    clear e5
    generalize upd H4 os (.lst [V.ref p1, .ref p2, .ref p3]) = H5 at h1 h2 h3 hos kp5 S5 ht hb ⊢
    refine ⟨_, rfl, a, d, _, 5, rfl, S5, by omega, by decide, by decide, fun H6 d6 kp6 S6 d60 d61 => ⟨_, _, rfl, rfl, ?_⟩⟩
    replace h1 := kp6 _ _ a1 d1 h1
    replace h2 := kp6 _ _ a2 b2 h2
    replace h3 := kp6 _ _ a3 b3 h3
    replace ht := kp6 _ _ ta td ht
    replace hb := S5.tup kp6 hb
    replace hos := kp6 _ _ aos bos hos
    have kA := kp5.trans kp6
    have many1 : 1 ≤ 1 + d6 := by omega
    have others : ∀ (j : Nat) (x : V), [V.ref p1, .ref p2, .ref p3][j]? = some x → ∃ p z, x = .ref p ∧ H6 p = some (.tup [.int r, optV z]) ∧ ge z L := fun j x hx => by
      match j, hx with
      | 0, hx => cases hx; exact ⟨_, _, rfl, h1, ge_some.mpr (Int.le_refl _)⟩
      | 1, hx => cases hx; exact ⟨_, _, rfl, h2, ge_some.mpr (by omega)⟩
      | 2, hx => cases hx; exact ⟨_, _, rfl, h3, ge_none _⟩
      | j + 3, hx => cases hx
    refine ⟨_, rfl, (by show 2 ≤ sizeLine; decide), fun c1 m1 => ?_⟩
    have f1 := new_same (o := HO.tup [.str "left", .int (1 + d6)]) m1
    have g1 : (upd H6 c1 (.tup [.str "left", .int (1 + d6)])) c1 = some (.tup (encC (.left (1 + d6)))) := upd_same
    have e7 := f1
    generalize upd H6 c1 (.tup [.str "left", .int (1 + d6)]) = H7 at g1 e7 ⊢
    clear f1
    refine ⟨_, rfl, (by show 2 ≤ sizeLine; decide), fun c2 m2 => ?_⟩
    have f2 := new_same (o := HO.tup [.str "right", .int (1 + d6)]) m2
    have g2 : (upd H7 c2 (.tup [.str "right", .int (1 + d6)])) c2 = some (.tup (encC (.right (1 + d6)))) := upd_same
    replace g1 := f2 _ _ g1
    replace e7 := e7.trans f2
    clear f2
    generalize upd H7 c2 (.tup [.str "right", .int (1 + d6)]) = H8 at g1 g2 e7 ⊢
    refine ⟨(by show 1 ≤ sizeLine; decide), fun c3 m3 => ?_⟩
    have f3 := new_same (o := HO.tup [.str "home"]) m3
    have g3 : (upd H8 c3 (.tup [.str "home"])) c3 = some (.tup (encC .home)) := upd_same
    replace g1 := f3 _ _ g1
    replace g2 := f3 _ _ g2
    replace e7 := e7.trans f3
    clear f3
    generalize upd H8 c3 (.tup [.str "home"]) = H9 at g1 g2 g3 e7 ⊢
    refine ⟨(by show 1 ≤ sizeLine; decide), fun c4 m4 => ?_⟩
    have f4 := new_same (o := HO.tup [.str "end"]) m4
    have g4 : (upd H9 c4 (.tup [.str "end"])) c4 = some (.tup (encC .stop)) := upd_same
    replace g1 := f4 _ _ g1
    replace g2 := f4 _ _ g2
    replace g3 := f4 _ _ g3
    replace e7 := e7.trans f4
    clear f4
    generalize upd H9 c4 (.tup [.str "end"]) = H10 at g1 g2 g3 g4 e7 ⊢
    refine ⟨(by show 4 ≤ sizeLine; decide), fun lp nlp => ?_⟩
    have f5 := new_same (o := HO.lst [V.ref c1, .ref c2, .ref c3, .ref c4]) nlp
    have hlp : (upd H10 lp (.lst [V.ref c1, .ref c2, .ref c3, .ref c4])) lp = some (.lst [V.ref c1, .ref c2, .ref c3, .ref c4]) := upd_same
    have cmds : ∀ (j : Nat) (x : V), [V.ref c1, .ref c2, .ref c3, .ref c4][j]? = some x → ∃ p c, x = .ref p ∧ (upd H10 lp (.lst [V.ref c1, .ref c2, .ref c3, .ref c4])) p = some (.tup (encC c)) ∧ c.ok ∧ c.vert = false := fun j x hx => by
      match j, hx with
      | 0, hx => cases hx; exact ⟨_, _, rfl, f5 _ _ g1, many1, rfl⟩
      | 1, hx => cases hx; exact ⟨_, _, rfl, f5 _ _ g2, many1, rfl⟩
      | 2, hx => cases hx; exact ⟨_, _, rfl, f5 _ _ g3, trivial, rfl⟩
      | 3, hx => cases hx; exact ⟨_, _, rfl, f5 _ _ g4, trivial, rfl⟩
      | j + 4, hx => cases hx
    replace e7 := e7.trans f5
    clear f5
    generalize upd H10 lp (.lst [V.ref c1, .ref c2, .ref c3, .ref c4]) = H11 at hlp cmds e7 ⊢
    refine ⟨lp, rfl, ⟨_, SqL.of hlp⟩, for_list (K := K) (a := lp) (xs := [V.ref c1, .ref c2, .ref c3, .ref c4]) (fun j σ H' => ∃ v7 : Option V, σ = [some (.ref a), some (.ref t), some (.ref b), some (.int r), some (optV g), some (.ref os), some (.int (1 + d6)), v7, none] ∧ Same H11 H') ⟨none, rfl, Same.refl _⟩ (fun j σ H' _ h => by obtain ⟨_, _, e⟩ := h; exact SqL.of (e _ _ hlp)) (fun j x σ H12 hx h => ?_) (fun σ H12 h => ?_)⟩
    · obtain ⟨v7, rfl, e12⟩ := h
      obtain ⟨pc, c, rfl, hpc, okc, vc⟩ := cmds j x hx
      have e612 := e7.trans e12
      have ht2 := e612 _ _ ht
      have hb2 := seq_t e612 hb
      have hos2 := e612 _ _ hos
      have hpc2 := e12 _ _ hpc
      have cok : AllOk [c] := fun z hz => by rw [List.mem_singleton.mp hz]; exact okc
      refine ⟨_, rfl, os, rfl, ⟨_, SqL.of hos2⟩, fun D hD => ?_⟩
      refine lc_list (K := K) (a := os) (xs := [V.ref p1, .ref p2, .ref p3]) (fun i' H' => Same H12 H' ∧ H' D = some (.lst [])) ⟨new_same hD, upd_same⟩ (fun i' H' _ h => SqL.of (h.1 _ _ hos2)) (fun i' x H' hx' h => ?_) (fun H' h => ?_)
      · obtain ⟨e', hd⟩ := h
        obtain ⟨po, z, rfl, hpo, hz⟩ := others i' x hx'
        have hpo' := e' _ _ (e612 _ _ hpo)
        refine ⟨rfl, ?_⟩
        refine ⟨_, rfl, _, rfl, _, rfl, (by show 1 ≤ sizeLine; decide), fun l1 nl1 => ?_⟩
        have s1 := new_same (o := HO.lst [V.ref pc]) nl1
        have hl1 : (upd H' l1 (.lst [V.ref pc])) l1 = some (.lst [V.ref pc]) := upd_same
        have e1' := e'.trans s1
        replace hd := s1 _ _ hd
        generalize upd H' l1 (.lst [V.ref pc]) = H13 at s1 hl1 e1' hd ⊢
        refine ⟨t, po, l1, tx, r, z, [.ref pc], [c], r, aim1 L z c, rfl, SqL.of (e1' _ _ ht2), SqT.of (s1 _ _ hpo'), SqL.of hl1, .cons ⟨pc, rfl, SqT.of (e1' _ _ hpc2)⟩ .nil, nn, r0, r1, over_nn L0 hz, cok, by show 1 ≤ 10000; decide, by rw [after_one vc, hL], fun H14 q1 e14 hq1 => ?_⟩
        refine ⟨_, rfl, _, rfl, _, rfl, (by show 1 ≤ sizeLine; decide), fun l2 nl2 => ?_⟩
        have s2 := new_same (o := HO.lst [V.ref pc]) nl2
        have hl2 : (upd H14 l2 (.lst [V.ref pc])) l2 = some (.lst [V.ref pc]) := upd_same
        have e2' := (e1'.trans e14).trans s2
        replace hd := s2 _ _ (e14 _ _ hd)
        generalize upd H14 l2 (.lst [V.ref pc]) = H15 at s2 hl2 e2' hd ⊢
        refine ⟨t, b, l2, tx, r, g, [.ref pc], [c], r, aim1 L g c, rfl, SqL.of (e2' _ _ ht2), seq_t e2' hb2, SqL.of hl2, .cons ⟨pc, rfl, SqT.of (e2' _ _ hpc2)⟩ .nil, nn, r0, r1, g0, cok, by show 1 ≤ 10000; decide, by rw [after_one vc, hL], fun H16 q2 e16 hq2 => ?_⟩
        rw [← aim1_over hz gL vc] at hq2
        refine ⟨.tuple [.int r, optG (aim1 L z c)], .tuple [.int r, optG (aim1 L z c)], .tup (seq_t (s2.trans e16) hq1) (.cons (.int _) (.cons (dp_optG _) .nil)), .tup hq2 (.cons (.int _) (.cons (dp_optG _) .nil)), ?_, ?_, _, rfl, ?_⟩
        · cases aim1 L z c <;> rfl
        · cases aim1 L z c <;> rfl
        · have e : (PyData.tuple [.int r, optG (aim1 L z c)]).eqv (.tuple [.int r, optG (aim1 L z c)]) = true := by
            cases aim1 L z c <;> simp [optG, PyData.eqv, PyData.eqvAll]
          rw [e]
          exact iteF ⟨e2'.trans e16, e16 _ _ hd⟩
      · obtain ⟨e', hd⟩ := h
        refine ⟨(by show 0 ≤ sizeLine; decide), fun q nq => ?_⟩
        have s1 := new_same (o := HO.lst []) nq
        refine ⟨.list [], .list [], .lst (SqL.of (s1 _ _ hd)) .nil, .lst (SqL.of upd_same) .nil, rfl, rfl, _, rfl, iteF ?_⟩
        exact ⟨_, rfl, (e12.trans e').trans s1⟩
    · obtain ⟨v7, rfl, e12⟩ := h
      have e612 := e7.trans e12
      have ht2 := e612 _ _ ht
      have hb2 := seq_t e612 hb
      have hos2 := e612 _ _ hos
      refine ⟨_, rfl, os, rfl, ⟨_, SqL.of hos2⟩, fun D hD => ?_⟩
      refine lc_list (K := K) (a := os) (xs := [V.ref p1, .ref p2, .ref p3]) (fun i' H' => Same H12 H' ∧ H' D = some (.lst [])) ⟨new_same hD, upd_same⟩ (fun i' H' _ h => SqL.of (h.1 _ _ hos2)) (fun i' x H' hx' h => ?_) (fun H' h => ?_)
      · obtain ⟨e', hd⟩ := h
        obtain ⟨po, z, rfl, hpo, hz⟩ := others i' x hx'
        have hpo' := e' _ _ (e612 _ _ hpo)
        refine ⟨rfl, ?_⟩
        refine ⟨_, rfl, _, rfl, t, po, tx, r, z, rfl, SqL.of (e' _ _ ht2), SqT.of hpo', nn, r0, r1, over_nn L0 hz, fun H13 e13 => ?_⟩
        have e2' := e'.trans e13
        refine ⟨_, rfl, _, rfl, t, b, tx, r, g, rfl, SqL.of (e2' _ _ ht2), seq_t e2' hb2, nn, r0, r1, g0, fun H14 e14 => ?_⟩
        rw [hL, over_seen hz, over_seen gL]
        exact ⟨rfl, false, by simp, iteF ⟨e2'.trans e14, e14 _ _ (e13 _ _ hd)⟩⟩
      · obtain ⟨e', hd⟩ := h
        refine ⟨(by show 0 ≤ sizeLine; decide), fun q nq => ?_⟩
        have s1 := new_same (o := HO.lst []) nq
        refine ⟨.list [], .list [], .lst (SqL.of (s1 _ _ hd)) .nil, .lst (SqL.of upd_same) .nil, rfl, rfl, ?_⟩
        have e := (e612.trans e').trans s1
        exact k _ (kA.trans (Keep.of e)) ((S6.same e).more (by omega))
end
end Gc

namespace Gc
open PySem L2
abbrev s_reach : Stmt := top 18
abbrev s_require : Stmt := top 9999
def rstep (s : Int × Int × Int) (c : Cmd) : Int × Int × Int :=
  (if s.2.2 + c.dv < s.1 then s.2.2 + c.dv else s.1, if s.2.2 + c.dv > s.2.1 then s.2.2 + c.dv else s.2.1, s.2.2 + c.dv)
def rchM (cs : List Cmd) : Int × Int × Int := cs.foldl rstep (0, 0, 0)
theorem rch_more {cs : List Cmd} {i : Nat} {c : Cmd} (h : cs[i]? = some c) : rchM (cs.take (i + 1)) = rstep (rchM (cs.take i)) c := by
  unfold rchM
  rw [take_snoc h, List.foldl_append]
  rfl
theorem rch_last : ∀ (cs : List Cmd) (s : Int × Int × Int), (cs.foldl rstep s).2.2 = s.2.2 + last cs
  | [], s => by show s.2.2 = s.2.2 + 0; omega
  | c :: cs, s => by
    show (cs.foldl rstep (rstep s c)).2.2 = s.2.2 + (c.dv + last cs)
    rw [rch_last cs]
    show s.2.2 + c.dv + last cs = _
    omega
def spReach (K : PySem.W.Frag) : Sp := fun vs H Q _ => ∃ (l : Addr) (xs : List V) (cs : List Cmd), vs = [.ref l] ∧ SqL K H l xs ∧ CmdsOf K H xs cs ∧ AllOk cs ∧ cs.length ≤ 10000 ∧
  ∀ (H' : Hp) (p : Addr), Same H H' → H p = none → H' p = some (.tup [.int (rchM cs).1, .int (rchM cs).2.1, .int (last cs)]) → Q (.ref p) H'
def spNum : Sp := fun vs H Q _ => ∃ n k : Int, vs = [.int n, .int k] ∧ k ≤ n ∧ Q .non H
def spReq : Sp := fun vs H Q _ => ∃ (d : Addr) (b : Ps) (o v : Int), vs = [.ref d, .int o, .int v] ∧ H d = some (.dK (dkI b)) ∧ b.length ≤ 10000 ∧ Q .non (upd H d (.dK (dkI (req b o v))))
/-- the tuple of a box, its list and its pairs, all new -/
def BoxAt (H H' : Hp) (p : Addr) (st : Option Int) (L : Ps) : Prop := ∃ (m : Addr) (ts : List Addr), H p = none ∧ H m = none ∧ H' p = some (.tup [optV st, .ref m]) ∧ H' m = some (.lst (ts.map V.ref)) ∧
  Paired (fun (t : Addr) (q : Int × Int) => H' t = some (.tup [.int q.1, .int q.2])) ts L
def spBox (K : PySem.W.Frag) : Sp := fun vs H Q _ => ∃ (l : Addr) (xs : List V) (cs : List Cmd) (goal : Int), vs = [.ref l, .int goal] ∧ SqL K H l xs ∧ CmdsOf K H xs cs ∧ AllOk cs ∧ cs.length ≤ 10000 ∧ 1 ≤ goal ∧
  (boxM cs goal = none → ∀ H', Same H H' → Q .non H') ∧ ∀ st L, boxM cs goal = some (st, L) → ∀ H' p, Same H H' → BoxAt H H' p st L → Q (.ref p) H'
section
variable {P : Program} {w : World} {K : PySem.W.Frag} {mg : Str → Option Value} {base : Heap} {wo wn : Addr}
theorem sc_reach : FnScope ["commands", "least", "greatest", "last", "command"] ["commands"] (defScope s_reach) := ⟨rfl, rfl, rfl, by decide +kernel, rfl, by decide +kernel, by decide +kernel⟩
theorem ok_reach {f : Addr} {fd : FuncData} (F : Fun K "reach" "reach" s_reach f fd) (T : TxtB K mg wo wn) (c_check_commands : Cal P w K mg base 3 "check_commands" (spCheck K)) (c_row_change : Cal P w K mg base 1 "row_change" (spRow K)) :
    FnOk P w K mg base CX0 4 f fd ["commands"] (spReach K) := by
  refine F.ok sc_reach (fun vs H Q E h => ?_) (fun cdv A outer s H vs Q E hr h => ?_)
  · obtain ⟨l, xs, cs, rfl, _⟩ := h
    rfl
  · obtain ⟨l, xs, cs, rfl, hl, hcs, hk, hn, k⟩ := h
    refine ⟨_, (pss_cons (ps_expr (pe_cal c_check_commands hr (by decide) (by rfl) (pa_cons (pv 0) pa_nil)))
      (pss_cons (ps_asg3 pe_int (pg_name (i := 1) sc_reach.nd rfl (Or.inl rfl)) (pg_name (i := 2) sc_reach.nd rfl (Or.inl rfl)) (pg_name (i := 3) sc_reach.nd rfl (Or.inl rfl)))
      (pss_cons (ps_for PassesOwn.never rfl (pi_list (pv 0)) (pg_name (i := 4) sc_reach.nd rfl (Or.inl rfl)) (pss_cons (ps_aug (i := 3) sc_reach.nd rfl (Or.inl rfl) (pe_cal c_row_change hr (by decide) (by rfl) (pa_cons (pv 4) pa_nil)) ip_add)
      (pss_cons (ps_set (i := 1) sc_reach.nd rfl (Or.inl rfl) (pe_callB (call_min2 rfl) (by rfl) T.min (by decide +kernel) (pa_cons (pv 1) (pa_cons (pv 3) pa_nil))))
      (pss_one (ps_set (i := 2) sc_reach.nd rfl (Or.inl rfl) (pe_callB (call_max2 rfl) (by rfl) T.max (by decide +kernel) (pa_cons (pv 2) (pa_cons (pv 3) pa_nil))))))))
      (pss_one (ps_ret (pe_tup (pa_cons (pv 1) (pa_cons (pv 2) (pa_cons (pv 3) pa_nil))))))))), ?_⟩
    refine ⟨_, rfl, l, xs, cs, rfl, hl, hcs, hk, hn, fun H1 e1 => ?_⟩
    refine ⟨_, rfl, l, rfl, ⟨_, e1.seq hl⟩, for_list (K := K) (a := l) (xs := xs) (fun i σ H' => ∃ v : Option V, σ = [some (.ref l), some (.int (rchM (cs.take i)).1), some (.int (rchM (cs.take i)).2.1), some (.int (rchM (cs.take i)).2.2), v] ∧ Same H H')
      ⟨none, rfl, e1⟩ (fun i σ H' _ ⟨_, _, e⟩ => e.seq hl) (fun i x σ H2 hi h => ?_) (fun σ H2 h => ?_)⟩
    · obtain ⟨v, rfl, e⟩ := h
      obtain ⟨c, hc, hca⟩ := paired_at hcs hi
      refine ⟨_, rfl, _, rfl, x, c, rfl, hca.same e, _, _, rfl, rfl, ?_⟩
      refine ⟨_, rfl, _, rfl, _, _, rfl, ?_⟩
      refine ⟨_, rfl, _, rfl, _, _, rfl, ?_⟩
      refine ⟨some x, ?_, e⟩
      rw [rch_more hc]
      rfl
    · obtain ⟨v, rfl, e⟩ := h
      have el : (rchM (cs.take xs.length)).2.2 = last cs := by
        rw [hcs.len, List.take_length]
        unfold rchM
        rw [rch_last]
        show (0 : Int) + last cs = last cs
        omega
      rw [el, hcs.len, List.take_length]
      refine ⟨_, rfl, _, rfl, _, rfl, (by show 3 ≤ sizeLine; decide), fun p hp => ?_⟩
      exact k _ p (same_upd e hp) (e.free hp) upd_same
end
end Gc

/-! the reach, where the law has no boxes -/
namespace Gc
open PySem L2
theorem last_more5 {cs : List Cmd} {i : Nat} {c : Cmd} (h : cs[i]? = some c) : last (cs.take (i + 1)) = last (cs.take i) + c.dv := by
  rw [take_snoc h, last_app]
  show _ + (c.dv + 0) = _
  omega
theorem rch_within5 (cs : List Cmd) : Within cs (rchM cs).1 (rchM cs).2.1 ∧ (rchM cs).2.2 = last cs := by
  have key : ∀ n, n ≤ cs.length → (∀ i, i ≤ n → (rchM (cs.take n)).1 ≤ last (cs.take i) ∧ last (cs.take i) ≤ (rchM (cs.take n)).2.1) ∧ (rchM (cs.take n)).2.2 = last (cs.take n) := by
    intro n
    induction n with
    | zero =>
      intro _
      refine ⟨fun i hi => ?_, rfl⟩
      obtain rfl : i = 0 := by omega
      exact ⟨Int.le_refl 0, Int.le_refl 0⟩
    | succ n ih =>
      intro hn
      obtain ⟨h1, h2⟩ := ih (by omega)
      have hc : cs[n]? = some cs[n] := List.getElem?_eq_getElem (by omega)
      rw [rch_more hc]
      have lm := last_more5 hc
      unfold rstep
      refine ⟨fun i hi => ?_, by rw [h2, lm]⟩
      have top : (if (rchM (cs.take n)).2.2 + cs[n].dv < (rchM (cs.take n)).1 then (rchM (cs.take n)).2.2 + cs[n].dv else (rchM (cs.take n)).1) ≤ (rchM (cs.take n)).1 ∧ (if (rchM (cs.take n)).2.2 + cs[n].dv < (rchM (cs.take n)).1 then (rchM (cs.take n)).2.2 + cs[n].dv else (rchM (cs.take n)).1) ≤ (rchM (cs.take n)).2.2 + cs[n].dv := by
        split <;> omega
      have bot : (rchM (cs.take n)).2.1 ≤ (if (rchM (cs.take n)).2.2 + cs[n].dv > (rchM (cs.take n)).2.1 then (rchM (cs.take n)).2.2 + cs[n].dv else (rchM (cs.take n)).2.1) ∧ (rchM (cs.take n)).2.2 + cs[n].dv ≤ (if (rchM (cs.take n)).2.2 + cs[n].dv > (rchM (cs.take n)).2.1 then (rchM (cs.take n)).2.2 + cs[n].dv else (rchM (cs.take n)).2.1) := by
        split <;> omega
      by_cases e : i = n + 1
      · subst e
        rw [lm, ← h2]
        exact ⟨top.2, bot.2⟩
      · have q := h1 i (by omega)
        exact ⟨Int.le_trans top.1 q.1, Int.le_trans q.2 bot.1⟩
  have kl := key cs.length (Nat.le_refl _)
  rw [List.take_length] at kl
  refine ⟨fun i => ?_, kl.2⟩
  by_cases l : i ≤ cs.length
  · exact kl.1 i l
  · rw [List.take_of_length_le (by omega)]
    have := kl.1 cs.length (Nat.le_refl _)
    rw [List.take_length] at this
    exact this
theorem rch_hits5 (cs : List Cmd) : (∃ i, last (cs.take i) = (rchM cs).1) ∧ ∃ j, last (cs.take j) = (rchM cs).2.1 := by
  have key : ∀ n, n ≤ cs.length → (∃ i, last (cs.take i) = (rchM (cs.take n)).1) ∧ ∃ j, last (cs.take j) = (rchM (cs.take n)).2.1 := by
    intro n
    induction n with
    | zero => intro _; exact ⟨⟨0, rfl⟩, ⟨0, rfl⟩⟩
    | succ n ih =>
      intro hn
      obtain ⟨⟨i, e1⟩, ⟨j, e2⟩⟩ := ih (by omega)
      have hc : cs[n]? = some cs[n] := List.getElem?_eq_getElem (by omega)
      have e3 : (rchM (cs.take n)).2.2 + cs[n].dv = last (cs.take (n + 1)) := by
        rw [(rch_within5 (cs.take n)).2, take_snoc hc, last_app]
        show _ = last (cs.take n) + (cs[n].dv + 0)
        omega
      rw [rch_more hc]
      unfold rstep
      dsimp only
      refine ⟨?_, ?_⟩
      · split
        · exact ⟨n + 1, e3.symm⟩
        · exact ⟨i, e1⟩
      · split
        · exact ⟨n + 1, e3.symm⟩
        · exact ⟨j, e2⟩
  have q := key cs.length (Nat.le_refl _)
  rw [List.take_length] at q
  exact q
end Gc

/-! min of a list of ints that is not empty -/
namespace L2
open PySem PySem.Spec PyProof.Rows
theorem argBest_le {bt : Nat → Nat → Bool} : ∀ k, argBest bt k ≤ k
  | 0 => Nat.le_refl 0
  | k + 1 => by
    simp only [argBest]
    split
    · exact Nat.le_refl _
    · exact Nat.le_succ_of_le (argBest_le k)
theorem argBest_min {f : Nat → Int} : ∀ k i, i ≤ k → f (argBest (fun i j => decide (f i < f j)) k) ≤ f i
  | 0, i, h => by
    obtain rfl : i = 0 := by omega
    exact Int.le_refl _
  | k + 1, i, h => by
    have ih := argBest_min (f := f) k
    simp only [argBest]
    by_cases c : f (k + 1) < f (argBest (fun i j => decide (f i < f j)) k)
    · rw [if_pos (decide_eq_true c)]
      by_cases e : i = k + 1
      · rw [e]; exact Int.le_refl _
      · exact Int.le_of_lt (Int.lt_of_lt_of_le c (ih i (by omega)))
    · rw [if_neg (fun z => c (of_decide_eq_true z))]
      by_cases e : i = k + 1
      · rw [e]; omega
      · exact ih i (by omega)
section
variable {X : Cx}
/-- min(xs), xs a list of ints -/
def rMinI (K : PySem.W.Frag) : List V → Hp → VK → Prop := fun vs H Q => ∃ (p : Addr) (ns : List Int), vs = [.ref p] ∧ SqL K H p (ns.map V.int) ∧ ns ≠ [] ∧ ∀ m, m ∈ ns → (∀ n ∈ ns, m ≤ n) → Q (.int m) H
theorem call_minI (hc : X.calm = true) : CallR X (.builtin "min") (rMinI X.K) := by
  intro pins s σ H vs us Q I r h
  obtain ⟨p, ns, rfl, hs, ne, q⟩ := h
  obtain ⟨its, rv, hl, _⟩ := I.list hs
  rw [Vals.ref1 r]
  have len : its.length = ns.length := by
    rw [← rv.length, List.length_map]
  have at' : ∀ (i : Nat) (v : Value), its.toArray[i]? = some v → ∃ t, v = .int (ns.getD i 0) t := fun i v e => by
    have e' : its[i]? = some v := by simpa using e
    have hi : i < ns.length := by
      obtain ⟨h, _⟩ := List.getElem?_eq_some_iff.mp e'
      omega
    obtain ⟨u, hu, ru⟩ := rv.get (i := i) (x := .int ns[i]) (by rw [List.getElem?_map, List.getElem?_eq_getElem hi]; rfl)
    rw [e'] at hu
    cases hu
    obtain ⟨t, rfl⟩ := (show ∃ t, v = Value.int ns[i] t from ru)
    exact ⟨t, by rw [List.getD_eq_getElem?_getD, List.getElem?_eq_getElem hi]; rfl⟩
  have pos : 0 < ns.length := List.length_pos_iff.mpr ne
  refine call_min_walk (iter_anyList hl.isList fun s₂ e st hfp hlI => ?_)
  subst e
  refine ⟨_, _, _, _, _, _, _, rfl, Walks.list (A := X.A.in1) (I.ok.hd hc) _ p hlI its.toArray, st, hfp, by rw [List.size_toArray, len]; exact pos, CmpOf.ints_lt (fun i => ns.getD i 0) at', fun v h' tk hP hk => ?_⟩
  obtain ⟨t, rfl⟩ := at' _ _ hP
  have sz : its.toArray.size - 1 = ns.length - 1 := by rw [List.size_toArray, len]
  rw [sz] at hP ⊢
  have li : argBest (fun i j => decide (ns.getD i 0 < ns.getD j 0)) (ns.length - 1) < ns.length := by
    have := argBest_le (bt := fun i j => decide (ns.getD i 0 < ns.getD j 0)) (ns.length - 1)
    omega
  refine ⟨.int (ns.getD (argBest (fun i j => decide (ns.getD i 0 < ns.getD j 0)) (ns.length - 1)) 0), H, I.kept (PySem.old_kept hk), ⟨t, rfl⟩, q _ ?_ fun n hn => ?_⟩
  · rw [List.getD_eq_getElem?_getD, List.getElem?_eq_getElem li]
    exact List.getElem_mem li
  · obtain ⟨j, hj, e⟩ := List.mem_iff_getElem.mp hn
    have := argBest_min (f := fun i => ns.getD i 0) (ns.length - 1) j (by omega)
    have ej : ns.getD j 0 = n := by rw [List.getD_eq_getElem?_getD, List.getElem?_eq_getElem hj]; exact e
    rw [← ej]
    exact this
end
end L2

/-! max of a list of ints that is not empty -/
namespace L2
open PySem PySem.Spec PyProof.Rows
theorem argBest_max {f : Nat → Int} : ∀ k i, i ≤ k → f i ≤ f (argBest (fun i j => decide (f i > f j)) k)
  | 0, i, h => by
    obtain rfl : i = 0 := by omega
    exact Int.le_refl _
  | k + 1, i, h => by
    have ih := argBest_max (f := f) k
    simp only [argBest]
    by_cases c : f (k + 1) > f (argBest (fun i j => decide (f i > f j)) k)
    · rw [if_pos (decide_eq_true c)]
      by_cases e : i = k + 1
      · rw [e]; exact Int.le_refl _
      · exact Int.le_trans (ih i (by omega)) (Int.le_of_lt c)
    · rw [if_neg (fun z => c (of_decide_eq_true z))]
      by_cases e : i = k + 1
      · rw [e]; omega
      · exact ih i (by omega)
section
variable {X : Cx}
/-- max(xs), xs a list of ints -/
def rMaxI (K : PySem.W.Frag) : List V → Hp → VK → Prop := fun vs H Q => ∃ (p : Addr) (ns : List Int), vs = [.ref p] ∧ SqL K H p (ns.map V.int) ∧ ns ≠ [] ∧ ∀ m, m ∈ ns → (∀ n ∈ ns, n ≤ m) → Q (.int m) H
theorem call_maxI (hc : X.calm = true) : CallR X (.builtin "max") (rMaxI X.K) := by
  intro pins s σ H vs us Q I r h
  obtain ⟨p, ns, rfl, hs, ne, q⟩ := h
  obtain ⟨its, rv, hl, _⟩ := I.list hs
  rw [Vals.ref1 r]
  have len : its.length = ns.length := by
    rw [← rv.length, List.length_map]
  have at' : ∀ (i : Nat) (v : Value), its.toArray[i]? = some v → ∃ t, v = .int (ns.getD i 0) t := fun i v e => by
    have e' : its[i]? = some v := by simpa using e
    have hi : i < ns.length := by
      obtain ⟨h, _⟩ := List.getElem?_eq_some_iff.mp e'
      omega
    obtain ⟨u, hu, ru⟩ := rv.get (i := i) (x := .int ns[i]) (by rw [List.getElem?_map, List.getElem?_eq_getElem hi]; rfl)
    rw [e'] at hu
    cases hu
    obtain ⟨t, rfl⟩ := (show ∃ t, v = Value.int ns[i] t from ru)
    exact ⟨t, by rw [List.getD_eq_getElem?_getD, List.getElem?_eq_getElem hi]; rfl⟩
  have pos : 0 < ns.length := List.length_pos_iff.mpr ne
  refine call_max_walk (iter_anyList hl.isList fun s₂ e st hfp hlI => ?_)
  subst e
  refine ⟨_, _, _, _, _, _, _, rfl, Walks.list (A := X.A.in1) (I.ok.hd hc) _ p hlI its.toArray, st, hfp, by rw [List.size_toArray, len]; exact pos, CmpOf.ints_gt (fun i => ns.getD i 0) at', fun v h' tk hP hk => ?_⟩
  obtain ⟨t, rfl⟩ := at' _ _ hP
  have sz : its.toArray.size - 1 = ns.length - 1 := by rw [List.size_toArray, len]
  rw [sz] at hP ⊢
  have li : argBest (fun i j => decide (ns.getD i 0 > ns.getD j 0)) (ns.length - 1) < ns.length := by
    have := argBest_le (bt := fun i j => decide (ns.getD i 0 > ns.getD j 0)) (ns.length - 1)
    omega
  refine ⟨.int (ns.getD (argBest (fun i j => decide (ns.getD i 0 > ns.getD j 0)) (ns.length - 1)) 0), H, I.kept (PySem.old_kept hk), ⟨t, rfl⟩, q _ ?_ fun n hn => ?_⟩
  · rw [List.getD_eq_getElem?_getD, List.getElem?_eq_getElem li]
    exact List.getElem_mem li
  · obtain ⟨j, hj, e⟩ := List.mem_iff_getElem.mp hn
    have := argBest_max (f := fun i => ns.getD i 0) (ns.length - 1) j (by omega)
    have ej : ns.getD j 0 = n := by rw [List.getD_eq_getElem?_getD, List.getElem?_eq_getElem hj]; exact e
    rw [← ej]
    exact this
end
end L2

/-! the law of k05, `_law_order_right` taken as promised -/
namespace Gc
open PySem L2
abbrev s_law : Stmt := top 39
structure TxtLw5 (mg : Str → Option Value) : Prop where
  min : mg "min" = none
  max : mg "max" = none
  len : mg "len" = none
  range : mg "range" = none
  int : mg "int" = none
def spLaw (K : PySem.W.Frag) : Sp := fun vs H Q _ => ∃ (a : Addr) (ns : List Int), vs = [.ref a] ∧ SqL K H a (ns.map V.int) ∧ ns.length ≤ 63 ∧ ∀ H', Q (.bl true) H'
/-- the offsets after each command -/
def offM (cs : List Cmd) (i : Nat) : List Int := (List.range (i + 1)).map fun k => last (cs.take k)
theorem offM_snoc (cs : List Cmd) (i : Nat) : offM cs (i + 1) = offM cs i ++ [last (cs.take (i + 1))] := by
  unfold offM
  rw [List.range_succ, List.map_append]
  rfl
theorem offM_len (cs : List Cmd) (i : Nat) : (offM cs i).length = i + 1 := by
  unfold offM
  rw [List.length_map, List.length_range]
theorem atI_lastO5 {zs : List V} {v : V} (h : zs.getLast? = some v) : atI zs (-1) = some v := by
  obtain ⟨ys, rfl⟩ := List.getLast?_eq_some_iff.mp h
  exact atI_last _ _
theorem offM_at (cs : List Cmd) (i : Nat) : atI ((offM cs i).map V.int) (-1) = some (.int (last (cs.take i))) := by
  refine atI_lastO5 ?_
  unfold offM
  rw [List.range_succ, List.map_append, List.map_append]
  exact List.getLast?_concat
theorem offM_min {cs : List Cmd} {m : Int} (h : m ∈ offM cs cs.length) (l : ∀ x ∈ offM cs cs.length, m ≤ x) : m = (rchM cs).1 := by
  have mem : ∀ i, last (cs.take i) ∈ offM cs cs.length := fun i => by
    unfold offM
    by_cases z : i ≤ cs.length
    · exact List.mem_map.mpr ⟨i, List.mem_range.mpr (by omega), rfl⟩
    · exact List.mem_map.mpr ⟨cs.length, List.mem_range.mpr (by omega), by rw [List.take_length, List.take_of_length_le (by omega)]⟩
  obtain ⟨k, _, e⟩ := List.mem_map.mp h
  have w := (rch_within5 cs).1
  obtain ⟨⟨i, hi⟩, _⟩ := rch_hits5 cs
  have a := l _ (mem i)
  have b := (w k).1
  rw [e] at b
  omega
theorem offM_max {cs : List Cmd} {m : Int} (h : m ∈ offM cs cs.length) (l : ∀ x ∈ offM cs cs.length, x ≤ m) : m = (rchM cs).2.1 := by
  have mem : ∀ i, last (cs.take i) ∈ offM cs cs.length := fun i => by
    unfold offM
    by_cases z : i ≤ cs.length
    · exact List.mem_map.mpr ⟨i, List.mem_range.mpr (by omega), rfl⟩
    · exact List.mem_map.mpr ⟨cs.length, List.mem_range.mpr (by omega), by rw [List.take_length, List.take_of_length_le (by omega)]⟩
  obtain ⟨k, _, e⟩ := List.mem_map.mp h
  have w := (rch_within5 cs).1
  obtain ⟨_, i, hi⟩ := rch_hits5 cs
  have a := l _ (mem i)
  have b := (w k).2
  rw [e] at b
  omega
theorem afterL_out5 {T : List Int} : ∀ {cs : List Cmd} {r : Int} {a : Option Int} {x : Int × Option Int}, 0 ≤ r → r < T.length → afterL T r a cs = some x → Within cs (-r) (T.length - 1 - r)
  | [], r, a, x, h0, h1, _ => fun i => by
    rw [List.take_nil]
    show -r ≤ (0 : Int) ∧ (0 : Int) ≤ _
    omega
  | c :: cs, r, a, x, h0, h1, h => by
    rw [afterL_cons h0 h1] at h
    obtain ⟨⟨r2, g2⟩, hst, hrest⟩ := Option.bind_eq_some_iff.mp h
    have hin := step1_in hst
    have er : r2 = r + c.dv := by
      unfold step1 at hst
      split at hst
      · cases hst
        rfl
      · cases hst
    have ih := afterL_out5 hin.1 hin.2 hrest
    intro i
    cases i with
    | zero =>
      show -r ≤ (0 : Int) ∧ (0 : Int) ≤ _
      omega
    | succ i =>
      have q := ih i
      show -r ≤ c.dv + last (cs.take i) ∧ c.dv + last (cs.take i) ≤ _
      omega
theorem poss_iff {T : List Int} {cs : List Cmd} {r : Int} {g : Option Int} (h0 : 0 ≤ r) (h1 : r < T.length) : (afterL T r g cs).isSome = true ↔ 0 ≤ r + (rchM cs).1 ∧ r + (rchM cs).2.1 < T.length := by
  refine ⟨fun h => ?_, fun h => ?_⟩
  · obtain ⟨x, hx⟩ := Option.isSome_iff_exists.mp h
    have w := afterL_out5 h0 h1 hx
    obtain ⟨⟨i, ei⟩, k, ek⟩ := rch_hits5 cs
    have wi := (w i).1
    have wk := (w k).2
    omega
  · rw [afterL_in ((rch_within5 cs).1.le (by omega) (by omega))]
    rfl
theorem vert_in5 (c : Cmd) : inV (V.str (nameC c)) [V.str "down", .str "up"] = c.vert := by
  cases c with
  | down n => show inV (V.str "down") [V.str "down", .str "up"] = true; decide +kernel
  | up n => show inV (V.str "up") [V.str "down", .str "up"] = true; decide +kernel
  | right n => show inV (V.str "right") [V.str "down", .str "up"] = false; decide +kernel
  | left n => show inV (V.str "left") [V.str "down", .str "up"] = false; decide +kernel
  | home => show inV (V.str "home") [V.str "down", .str "up"] = false; decide +kernel
  | stop => show inV (V.str "end") [V.str "down", .str "up"] = false; decide +kernel
section
variable {P : Program} {w : World} {K : PySem.W.Frag} {mg : Str → Option Value} {base : Heap}
theorem sc_law : FnScope ["script", "source", "k", "sheet", "turn", "spot", "moves", "offsets", "command", "step", "told", "fits"] ["script"] (defScope s_law) := ⟨rfl, rfl, rfl, by decide +kernel, rfl, by decide +kernel, by decide +kernel⟩
theorem ok_law {f : Addr} {fd : FuncData} (F : Fun K "law" "law" s_law f fd) (T : TxtLw5 mg) (c_law_source : Cal P w K mg base 1 "_law_source" (spSource K)) (c_law_draw : Cal P w K mg base 1 "_law_draw" spDraw) (c_law_text : Cal P w K mg base 2 "_law_text" (spSheet K)) (c_law_cursor : Cal P w K mg base 2 "_law_cursor" (spCurs K))
    (c_law_command : Cal P w K mg base 3 "_law_command" (spCommand K)) (c_law_fitting : Cal P w K mg base 4 "_law_fitting" (spFit K)) (c_law_back_right : Cal P w K mg base 5 "_law_back_right" (spBack K)) (c_law_shown_right : Cal P w K mg base 5 "_law_shown_right" (spShownR K)) (c_law_order_right : Cal P w K mg base 9 "_law_order_right" (spOrder K))
    (c_law_is_possible : Cal P w K mg base 5 "_law_is_possible" (spPoss K)) (c_law_same : Cal P w K mg base 4 "_law_same" (spSame K 3)) (c_reach : Cal P w K mg base 4 "reach" (spReach K)) (k_reach : CalK P w K mg base 4 "reach" ["commands"] (spReach K)) : FnOk P w K mg base CX0 10 f fd ["script"] (spLaw K) := by
  refine F.ok sc_law (fun vs H Q E h => ?_) (fun cdv A outer s H vs Q E hr h => ?_)
  · obtain ⟨a, ns, rfl, _⟩ := h
    rfl
  · obtain ⟨a0, ns, rfl, hS, hlen, k⟩ := h
    refine ⟨_, (pss_cons (ps_set (i := 1) sc_law.nd rfl (Or.inl rfl) (pe_cal c_law_source hr (by decide) (by rfl) (pa_cons (pv 0) pa_nil)))
      (pss_cons (ps_for PassesOwn.never rfl (pi_range1 rfl T.range (pa_cons (pe_op op_add pe_int (pe_callB (call_min2 rfl) (by rfl) T.min (by decide +kernel) (pa_cons pe_int (pa_cons (pe_callB call_len_seq (by rfl) T.len (by decide +kernel) (pa_cons (pv 0) pa_nil)) pa_nil)))) pa_nil)) (pg_name (i := 2) sc_law.nd rfl (Or.inl rfl)) (pss_cons (ps_set (i := 3) sc_law.nd rfl (Or.inl rfl) (pe_cal c_law_text hr (by decide) (by rfl) (pa_cons (pv 1) (pa_cons (pe_ix ix_list (pe_lst (pa_cons pe_int (pa_cons pe_int pa_nil))) (pe_cal c_law_draw hr (by decide) (by rfl) (pa_cons (pv 1) (pa_cons pe_int pa_nil))) (fun _ _ => rfl)) pa_nil))))
      (pss_one (ps_for PassesOwn.never rfl (pi_range1 rfl T.range (pa_cons pe_int pa_nil)) (pg_name (i := 4) sc_law.nd rfl (Or.inl rfl)) (pss_cons (ps_set (i := 5) sc_law.nd rfl (Or.inl rfl) (pe_cal c_law_cursor hr (by decide) (by rfl) (pa_cons (pv 1) (pa_cons (pv 3) pa_nil))))
      (pss_cons (ps_set (i := 6) sc_law.nd rfl (Or.inl rfl) (pe_cal c_law_fitting hr (by decide) (by rfl) (pa_cons (pv 1) (pa_cons (pv 3) (pa_cons (pv 5) (pa_cons pe_int pa_nil))))))
      (pss_cons (ps_if (PW.pt (pw_or (pt_not (pt_val (pe_cal c_law_back_right hr (by decide) (by rfl) (pa_cons (pv 1) (pa_cons (pv 3) (pa_cons (pv 5) pa_nil)))))) (pw_or1 (pt_not (pt_val (pe_cal c_law_shown_right hr (by decide) (by rfl) (pa_cons (pv 1) (pa_cons (pv 3) (pa_cons (pv 5) pa_nil))))))))) (pss_one (ps_ret pe_bl)) pss_nil)
      (pss_cons (ps_if (pt_not (pt_val (pe_cal c_law_order_right hr (by decide) (by rfl) (pa_cons (pv 1) (pa_cons (pv 3) (pa_cons (pv 5) (pa_cons (pv 6) pa_nil))))))) (pss_one (ps_ret pe_bl)) pss_nil)
      (pss_cons (ps_expr (pe_bm PySem.F.plainAttrs_list PySem.F.slot_list_insert PySem.F.type_list_insert mt_insert (pv 6) (pa_cons (pe_cal c_law_draw hr (by decide) (by rfl) (pa_cons (pv 1) (pa_cons (pe_op op_add (pe_callB call_len_seq (by rfl) T.len (by decide +kernel) (pa_cons (pv 6) pa_nil)) pe_int) pa_nil))) (pa_cons (pe_cal c_law_command hr (by decide) (by rfl) (pa_cons (pv 1) pa_nil)) pa_nil))))
      (pss_cons (ps_set (i := 7) sc_law.nd rfl (Or.inl rfl) (pe_lst (pa_cons pe_int pa_nil)))
      (pss_cons (ps_for PassesOwn.never rfl (pi_list (pv 6)) (pg_name (i := 8) sc_law.nd rfl (Or.inl rfl)) (C8.pss_cut (ps_set (i := 9) sc_law.nd rfl (Or.inl rfl) (pe_ifExp (pt_cmpR op_in_seq (pe_ix ix_tup (pv 8) pe_int (fun _ _ => rfl)) (pe_tup (pa_cons pe_str (pa_cons pe_str pa_nil))) (by rfl)) (pe_op op_mulW (pe_ix ix_tup (pv 8) pe_int (fun _ _ => rfl)) (pe_ix ix_list (pe_lst (pa_cons pe_int (pa_cons (pe_un un_neg pe_int) pa_nil))) (pe_callTy call_int1 (by rfl) T.int (by decide +kernel) (pa_cons (pe_cmpR op_eq (pe_ix ix_tup (pv 8) pe_int (fun _ _ => rfl)) pe_str (nomark _)) pa_nil)) (fun _ _ => rfl))) pe_int))
      (pss_one (ps_expr (pe_bm PySem.F.plainAttrs_list PySem.F.slot_list_append PySem.F.type_list_append mt_append (pv 7) (pa_cons (pe_op op_add (pe_ix ix_list (pv 7) (pe_un un_neg pe_int) (fun _ _ => rfl)) (pv 9)) pa_nil))))))
      (pss_cons (ps_set (i := 10) sc_law.nd rfl (Or.inl rfl) (pe_lst (pa_cons (pe_cal c_reach hr (by decide) (by rfl) (pa_cons (pv 6) pa_nil)) (pa_cons (pe_calK k_reach hr (by decide) (by rfl) (pk_cons (pv 6) pk_nil)) pa_nil))))
      (pss_cons (ps_if (pt_not (pt_val (pe_cal c_law_same hr (by decide) (by rfl) (pa_cons (pv 10) (pa_cons (pe_op op_rep (pe_lst (pa_cons (pe_tup (pa_cons (pe_callB (call_minI rfl) (by rfl) T.min (by decide +kernel) (pa_cons (pv 7) pa_nil)) (pa_cons (pe_callB (call_maxI rfl) (by rfl) T.max (by decide +kernel) (pa_cons (pv 7) pa_nil)) (pa_cons (pe_ix ix_list (pv 7) (pe_un un_neg pe_int) (fun _ _ => rfl)) pa_nil)))) pa_nil)) pe_int) pa_nil))))) (pss_one (ps_ret pe_bl)) pss_nil)
      (C8.pss_cut (ps_set (i := 11) sc_law.nd rfl (Or.inl rfl) (pe_and (pe_cmpR op_le pe_int (pe_op op_add (pe_ix ix_tup (pv 5) pe_int (fun _ _ => rfl)) (pe_callB (call_minI rfl) (by rfl) T.min (by decide +kernel) (pa_cons (pv 7) pa_nil))) (nomark _)) (pe_one (pe_cmpR op_lt (pe_op op_add (pe_ix ix_tup (pv 5) pe_int (fun _ _ => rfl)) (pe_callB (call_maxI rfl) (by rfl) T.max (by decide +kernel) (pa_cons (pv 7) pa_nil))) (pe_callB call_len_seq (by rfl) T.len (by decide +kernel) (pa_cons (pv 3) pa_nil)) (nomark _)))))
      (pss_one (ps_if (pt_cmpR op_ne (pe_cal c_law_is_possible hr (by decide) (by rfl) (pa_cons (pv 3) (pa_cons (pv 5) (pa_cons (pv 6) pa_nil)))) (pv 11) (nomark _)) (pss_one (ps_ret pe_bl)) pss_nil))))))))))))))))
      (pss_one (ps_ret (pe_and (pe_cmpR (op_eqD hr.units) (pe_cal c_reach hr (by decide) (by rfl) (pa_cons (pe_lst pa_nil) pa_nil)) (pe_tup (pa_cons pe_int (pa_cons pe_int (pa_cons pe_int pa_nil)))) (nomark _)) (pe_one (pe_cmpR (op_eqD hr.units) (pe_cal c_reach hr (by decide) (by rfl) (pa_cons (pe_lst (pa_cons (pe_tup (pa_cons pe_str (pa_cons pe_int pa_nil))) (pa_cons (pe_tup (pa_cons pe_str pa_nil)) (pa_cons (pe_tup (pa_cons pe_str (pa_cons pe_int pa_nil))) pa_nil)))) pa_nil)) (pe_tup (pa_cons (pe_un un_neg pe_int) (pa_cons pe_int (pa_cons pe_int pa_nil)))) (nomark _)))))))), ?_⟩
    refine ⟨_, rfl, a0, ns, rfl, hS, hlen, fun H1 p d e1 np nd S1 => ?_⟩
    refine ⟨_, rfl, a0, _, rfl, .inl (e1.seq hS), _, _, rfl, _, _, rfl, rfl, _, rfl, ?_, ?_, ?_⟩
    · omega
    · omega
    refine for_range (lo := 0) (fun i σ H' => ∃ v2 v3 v4 v5 v6 v7 v8 v9 v10 v11 : Option V, σ = [some (.ref a0), some (.ref p), v2, v3, v4, v5, v6, v7, v8, v9, v10, v11] ∧ Src H' p d (5000 * i)) ⟨none, none, none, none, none, none, none, none, none, none, rfl, S1⟩ (fun i σ H2 hi h => ?_) (fun σ H2 h => ?_)
    · obtain ⟨v2, v3, v4, v5, v6, v7, v8, v9, v10, v11, rfl, S2⟩ := h
      have hi' : i < 2 ^ 20 := by
        rw [List.length_map] at hi
        omega
      refine ⟨_, rfl, (by show 2 ≤ sizeLine; decide), fun q nq => ?_⟩
      obtain ⟨qp, qd⟩ := S2.off nq
      have e_H3 : Same H2 (upd H2 q (.lst [V.int 4, .int 40])) := new_same nq
      have h_q : (upd H2 q (.lst [V.int 4, .int 40])) q = some (.lst [V.int 4, .int 40]) := upd_same
      generalize upd H2 q (.lst [V.int 4, .int 40]) = H3 at e_H3 h_q ⊢
      replace S2 := S2.same e_H3
      refine ⟨_, rfl, p, d, _, 2, rfl, S2, by omega, by decide, by decide, fun H4 x kp4 S4 x0 x1 => ?_⟩
      obtain ⟨most, hmost, m1, m2⟩ : ∃ z : Int, atI [V.int 4, .int 40] x = some (.int z) ∧ 1 ≤ z ∧ z ≤ 60 := by
        rcases (show x = 0 ∨ x = 1 by omega) with rfl | rfl
        · exact ⟨_, rfl, by decide, by decide⟩
        · exact ⟨_, rfl, by decide, by decide⟩
      refine ⟨q, _, _, .int most, rfl, rfl, SqL.of (kp4 _ _ qp qd h_q), hmost, p, d, _, most, rfl, S4, by omega, m1, m2, fun H5 t tx kp5 S5 tp td nt ht hT l1 l2 => ?_⟩
      refine ⟨4, rfl, by decide, by decide, for_range (lo := 0) (n := 4) (fun j σ H' => ∃ (v4 v5 v6 v7 v8 v9 v10 v11 : Option V), σ = [some (.ref a0), some (.ref p), some (.int (0 + (i : Int))), some (.ref t), v4, v5, v6, v7, v8, v9, v10, v11] ∧ Src H' p d (5000 * i + 250 + 1100 * j) ∧ H' t = some (.lst (tx.map V.int)))
          ⟨v4, v5, v6, v7, v8, v9, v10, v11, rfl, S5.more (by omega), ht⟩ (fun j σ H6 hj h => ?_) (fun σ H6 h => ?_)⟩
      · obtain ⟨v4, v5, v6, v7, v8, v9, v10, v11, rfl, S6, ht6⟩ := h
        refine ⟨_, rfl, _, rfl, p, d, t, _, tx, rfl, S6, by omega, ht6, tp, td, (fun x hx => by have := hT x hx; omega), by omega, by omega, fun H7 b r g kp7 S7 hb r0 r1 hgb => ?_⟩
        replace ht6 := kp7 _ _ tp td ht6
        have g0 : ge g 0 := fun x e => (hgb x e).1
        have gmx : ∀ x, g = some x → x < 10 ^ 30 := fun x e => (hgb x e).2.2 fun y hy => (hT y hy).2
        have T0 : ∀ x ∈ tx, 0 ≤ x := fun x hx => (hT x hx).1
        refine ⟨_, rfl, _, rfl, _, rfl, p, d, t, b, _, tx, r, g, 18, rfl, S7, by omega, ht6, tp, td, T0, by omega, SqT.of hb, r0, r1, g0, by decide, by decide, fun H8 l xs cs kp8 S8 lp ld nl hl hcs okc nbc lc wc => ?_⟩
        have tl : t ≠ l := fun e => by rw [e, nl] at ht6; cases ht6
        replace ht6 := kp8 _ _ tp td ht6
        have hb8 : SqT K H8 b [.int r, optV g] := S7.tup kp8 (SqT.of hb)
        refine ⟨_, rfl, _, rfl, _, rfl, p, d, t, b, _, tx, r, g, rfl, S8, by omega, ht6, tp, td, T0, by omega, hb8, r0, r1, g0, fun H9 kp9 S9 => ⟨_, rfl, iteF ⟨_, rfl, _, rfl, _, rfl, p, d, t, b, _, tx, r, g, rfl, S9, by omega, kp9 _ _ tp td ht6, tp, td, T0, S8.tup kp9 hb8, r0, r1, g0, fun Ha kpa Sa => ⟨_, rfl, iteF ?_⟩⟩⟩⟩
        have kpx := kp9.trans kpa
        replace ht6 := kpx _ _ tp td ht6
        replace hl := kpx _ _ lp ld hl
        replace hcs := S8.cmds kpx hcs
        replace hb8 := S8.tup kpx hb8
        clear kpx kpa kp9 S9 S8 kp8 S7 S6 kp7
        refine ⟨_, rfl, _, rfl, _, rfl, _, rfl, p, d, t, b, l, _, tx, r, g, xs, cs, rfl, Sa, by omega, ht6, tp, td, (fun x hx => by have := hT x hx; omega), by omega, hb8, r0, r1, g0, gmx, hl, lp, ld, hcs, okc, nbc, by omega, wc, fun Hb kpb Sb => ⟨_, rfl, iteF ?_⟩⟩
        replace ht6 := kpb _ _ tp td ht6
        replace hl := kpb _ _ lp ld hl
        replace hcs := Sa.cmds kpb hcs
        replace hb8 := Sa.tup kpb hb8
        have lx : xs.length = cs.length := hcs.len
        clear kpb Sa
        refine ⟨_, rfl, .inl ⟨rfl, _, SqL.of hl⟩, _, rfl, _, rfl, l, _, rfl, .inl (SqL.of hl), _, _, rfl, rfl, p, d, _, _, rfl, Sb, by omega, by omega, log9 (a := 20) (by omega) (by decide), fun Hc z kpc Sc z0 z1 => ?_⟩
        replace ht6 := kpc _ _ tp td ht6
        replace hl := kpc _ _ lp ld hl
        replace hcs := Sb.cmds kpc hcs
        replace hb8 := Sb.tup kpc hb8
        clear kpc Sb
        refine ⟨_, rfl, p, d, _, rfl, Sc, by omega, fun Hd cp c kpd Sd ncp hcp oc nc => ?_⟩
        replace ht6 := kpd _ _ tp td ht6
        replace hl := kpd _ _ lp ld hl
        replace hcs := Sc.cmds kpd hcs
        replace hb8 := Sc.tup kpd hb8
        clear kpd Sc
        refine ⟨l, xs, z, .ref cp, rfl, rfl, hl, lt_line (by omega), z0, by omega, ?_⟩
        have cpl : cp ≠ l := fun e => by rw [e, hl] at hcp; cases hcp
        obtain ⟨ys, hys⟩ : ∃ ys, ys = xs.take z.toNat ++ [V.ref cp] ++ xs.drop z.toNat := ⟨_, rfl⟩
        obtain ⟨ds, hds⟩ : ∃ ds, ds = cs.take z.toNat ++ [c] ++ cs.drop z.toNat := ⟨_, rfl⟩
        have hl' : (upd Hd l (.lst ys)) l = some (.lst ys) := upd_same
        have hcs' : CmdsOf K (upd Hd l (.lst ys)) ys ds := by
          rw [hys, hds]
          exact CmdsOf.atL hl (paired_app (paired_app (paired_take _ hcs) (.cons ⟨cp, rfl, SqT.of hcp⟩ .nil)) (paired_drop _ hcs))
        have okd : AllOk ds := fun x hx => by
          rw [hds] at hx
          rcases List.mem_append.mp hx with h | h
          · rcases List.mem_append.mp h with h | h
            · exact okc x (List.mem_of_mem_take h)
            · rw [List.mem_singleton.mp h]
              exact oc
          · exact okc x (List.mem_of_mem_drop h)
        have nbd : ∀ x ∈ ds, numC x ≤ 10 ^ 30 := fun x hx => by
          rw [hds] at hx
          rcases List.mem_append.mp hx with h | h
          · rcases List.mem_append.mp h with h | h
            · exact nbc x (List.mem_of_mem_take h)
            · rw [List.mem_singleton.mp h]
              omega
          · exact nbc x (List.mem_of_mem_drop h)
        have ly : ds.length ≤ 19 := by
          rw [hds, List.length_append, List.length_append, List.length_take, List.length_drop]
          show min z.toNat cs.length + 1 + (cs.length - z.toNat) ≤ 19
          omega
        replace ht6 : (upd Hd l (.lst ys)) t = some (.lst (tx.map V.int)) := by rw [upd_ne tl]; exact ht6
        replace hb8 : SqT K (upd Hd l (.lst ys)) b [.int r, optV g] := tup_atL hl hb8
        have Se := Sd.upd (o := HO.lst ys) lp ld
        rw [← hys]
        clear hcs hl hys hds
        generalize upd Hd l (.lst ys) = He at hl' hcs' ht6 hb8 Se ⊢
        have lz : ys.length = ds.length := hcs'.len
        refine ⟨(by show 1 ≤ sizeLine; decide), fun o no => ?_⟩
        obtain ⟨op, od⟩ := Se.off no
        have to : t ≠ o := fun e => by rw [← e, ht6] at no; cases no
        have ol : l ≠ o := fun e => by rw [← e, hl'] at no; cases no
        have e_Hf : Same He (upd He o (.lst [V.int 0])) := new_same no
        have h_o : (upd He o (.lst [V.int 0])) o = some (.lst [V.int 0]) := upd_same
        generalize upd He o (.lst [V.int 0]) = Hf at e_Hf h_o ⊢
        replace Se := Se.same e_Hf
        replace ht6 := e_Hf _ _ ht6
        replace hl' := e_Hf _ _ hl'
        replace hb8 := seq_t e_Hf hb8
        replace hcs' := hcs'.same e_Hf
        refine ⟨_, rfl, l, rfl, ⟨_, SqL.of hl'⟩, for_list (K := K) (a := l) (xs := ys) (fun m σ H' => ∃ v8 v9 v10 v11 : Option V, σ = [some (.ref a0), some (.ref p), some (.int (0 + (i : Int))), some (.ref t), some (.int (0 + (j : Int))), some (.ref b), some (.ref l), some (.ref o), v8, v9, v10, v11] ∧ Src H' p d (5000 * i + 250 + 1100 * j + 1000) ∧ H' t = some (.lst (tx.map V.int)) ∧
            H' l = some (.lst ys) ∧ CmdsOf K H' ys ds ∧ SqT K H' b [.int r, optV g] ∧ H' o = some (.lst ((offM ds m).map V.int))) ⟨v8, v9, v10, v11, rfl, Se.more (by omega), ht6, hl', hcs', hb8, h_o⟩ (fun m σ H' _ ⟨_, _, _, _, _, _, _, e, _⟩ => SqL.of e) (fun m y σ Hg hm h => ?_) (fun σ Hg h => ?_)⟩
        · obtain ⟨v8, v9, v10, v11, rfl, Sg, htg, hlg, hcg, hbg, hog⟩ := h
          obtain ⟨c', hc', q', rfl, hq'⟩ := paired_at hcg hm
          refine ⟨fun σ H' => σ = [some (.ref a0), some (.ref p), some (.int (0 + (i : Int))), some (.ref t), some (.int (0 + (j : Int))), some (.ref b), some (.ref l), some (.ref o), some (.ref q'), some (.int c'.dv), v10, v11] ∧ Src H' p d (5000 * i + 250 + 1100 * j + 1000) ∧ H' t = some (.lst (tx.map V.int)) ∧
            H' l = some (.lst ys) ∧ CmdsOf K H' ys ds ∧ SqT K H' b [.int r, optV g] ∧ H' o = some (.lst ((offM ds m).map V.int)), ?_, ?_⟩
          · refine ⟨_, rfl, q', _, 0, _, rfl, rfl, hq', enc_at c', (by show 2 ≤ sizeLine; decide), fun q2 nq2 => ?_⟩
            have e_Hi : Same Hg (upd Hg q2 (.tup [V.str "down", .str "up"])) := new_same nq2
            have h_q2 : (upd Hg q2 (.tup [V.str "down", .str "up"])) q2 = some (.tup [V.str "down", .str "up"]) := upd_same
            generalize upd Hg q2 (.tup [V.str "down", .str "up"]) = Hi at e_Hi h_q2 ⊢
            replace Sg := Sg.same e_Hi
            replace htg := e_Hi _ _ htg
            replace hlg := e_Hi _ _ hlg
            replace hbg := seq_t e_Hi hbg
            replace hog := e_Hi _ _ hog
            replace hq' := seq_t e_Hi hq'
            replace hcg := hcg.same e_Hi
            cases c' with
            | home => exact ⟨q2, _, rfl, .inr (SqT.of h_q2), rfl, rfl, false, by decide +kernel, iteF ⟨rfl, Sg, htg, hlg, hcg, hbg, hog⟩⟩
            | stop => exact ⟨q2, _, rfl, .inr (SqT.of h_q2), rfl, rfl, false, by decide +kernel, iteF ⟨rfl, Sg, htg, hlg, hcg, hbg, hog⟩⟩
            | right n0 => exact ⟨q2, _, rfl, .inr (SqT.of h_q2), rfl, rfl, false, by rw [if_neg Bool.false_ne_true, vert_in5]; rfl, iteF ⟨rfl, Sg, htg, hlg, hcg, hbg, hog⟩⟩
            | left n0 => exact ⟨q2, _, rfl, .inr (SqT.of h_q2), rfl, rfl, false, by rw [if_neg Bool.false_ne_true, vert_in5]; rfl, iteF ⟨rfl, Sg, htg, hlg, hcg, hbg, hog⟩⟩
            | down n0 =>
              refine ⟨q2, _, rfl, .inr (SqT.of h_q2), rfl, rfl, true, by rw [if_neg Bool.false_ne_true, vert_in5]; rfl, iteT ?_⟩
              refine ⟨_, rfl, q', _, 1, _, rfl, rfl, hq', rfl, _, rfl, (by show 2 ≤ sizeLine; decide), fun q3 nq3 => ?_⟩
              have e_Hj : Same Hi (upd Hi q3 (.lst [V.int 1, .int (-1)])) := new_same nq3
              have h_q3 : (upd Hi q3 (.lst [V.int 1, .int (-1)])) q3 = some (.lst [V.int 1, .int (-1)]) := upd_same
              generalize upd Hi q3 (.lst [V.int 1, .int (-1)]) = Hj at e_Hj h_q3 ⊢
              replace Sg := Sg.same e_Hj
              replace htg := e_Hj _ _ htg
              replace hlg := e_Hj _ _ hlg
              replace hbg := seq_t e_Hj hbg
              replace hog := e_Hj _ _ hog
              replace hq' := seq_t e_Hj hq'
              replace hcg := hcg.same e_Hj
              refine ⟨_, rfl, q', _, 0, _, rfl, rfl, hq', rfl, rfl, .inr ⟨false, rfl, q3, _, 0, _, rfl, rfl, SqL.of h_q3, rfl, ?_⟩⟩
              have nb0 : n0 ≤ 10 ^ 30 := nbd _ (List.mem_of_getElem? hc')
              have ok0 : 1 ≤ n0 := okd _ (List.mem_of_getElem? hc')
              refine ⟨n0, 1, rfl, rfl, wide_mul (a := 101) (b := 101) (by omega) (by omega) (by decide) (by decide) (by decide), ?_⟩
              refine ⟨?_, Sg, htg, hlg, hcg, hbg, hog⟩
              rw [show (Cmd.down n0).dv = n0 * (1) from by show n0 = n0 * (1); omega]
              rfl
            | up n0 =>
              refine ⟨q2, _, rfl, .inr (SqT.of h_q2), rfl, rfl, true, by rw [if_neg Bool.false_ne_true, vert_in5]; rfl, iteT ?_⟩
              refine ⟨_, rfl, q', _, 1, _, rfl, rfl, hq', rfl, _, rfl, (by show 2 ≤ sizeLine; decide), fun q3 nq3 => ?_⟩
              have e_Hj : Same Hi (upd Hi q3 (.lst [V.int 1, .int (-1)])) := new_same nq3
              have h_q3 : (upd Hi q3 (.lst [V.int 1, .int (-1)])) q3 = some (.lst [V.int 1, .int (-1)]) := upd_same
              generalize upd Hi q3 (.lst [V.int 1, .int (-1)]) = Hj at e_Hj h_q3 ⊢
              replace Sg := Sg.same e_Hj
              replace htg := e_Hj _ _ htg
              replace hlg := e_Hj _ _ hlg
              replace hbg := seq_t e_Hj hbg
              replace hog := e_Hj _ _ hog
              replace hq' := seq_t e_Hj hq'
              replace hcg := hcg.same e_Hj
              refine ⟨_, rfl, q', _, 0, _, rfl, rfl, hq', rfl, rfl, .inr ⟨true, rfl, q3, _, 1, _, rfl, rfl, SqL.of h_q3, rfl, ?_⟩⟩
              have nb0 : n0 ≤ 10 ^ 30 := nbd _ (List.mem_of_getElem? hc')
              have ok0 : 1 ≤ n0 := okd _ (List.mem_of_getElem? hc')
              refine ⟨n0, -1, rfl, rfl, wide_mul (a := 101) (b := 101) (by omega) (by omega) (by decide) (by decide) (by decide), ?_⟩
              refine ⟨?_, Sg, htg, hlg, hcg, hbg, hog⟩
              rw [show (Cmd.up n0).dv = n0 * (-1) from by show -n0 = n0 * (-1); omega]
              rfl
          rintro σ Hi ⟨rfl, Si, hti, hli, hci, hbi, hoi⟩
          have hlast : atI ((offM ds m).map V.int) (-1) = some (.int (last (ds.take m))) := offM_at ds m
          refine ⟨_, rfl, .inl ⟨rfl, _, SqL.of hoi⟩, _, rfl, _, rfl, o, _, -1, _, rfl, rfl, SqL.of hoi, hlast, _, rfl, _, _, rfl, rfl, o, _, _, rfl, rfl, hoi, lt_line (by rw [List.length_map, offM_len]; have := (List.getElem?_eq_some_iff.mp hm).1; omega), ?_⟩
          refine ⟨some (.ref q'), some (.int c'.dv), v10, v11, rfl, Si.upd op od, by rw [upd_ne to]; exact hti, by rw [upd_ne ol]; exact hli, CmdsOf.atL hoi hci, tup_atL hoi hbi, ?_⟩
          rw [upd_same, offM_snoc, List.map_append, take_snoc hc', last_snoc]
          rfl
        obtain ⟨v8, v9, v10, v11, rfl, Sg, htg, hlg, hcg, hbg, hog⟩ := h
        have hall : ys.length = ds.length := lz
        rw [hall] at hog
        refine ⟨_, rfl, l, ys, ds, rfl, SqL.of hlg, hcg, okd, by omega, fun Hh t1 e1 n1 h1 => ?_⟩
        replace hlg := e1 _ _ hlg
        replace hcg := hcg.same e1
        replace htg := e1 _ _ htg
        replace hbg := seq_t e1 hbg
        replace hog := e1 _ _ hog
        replace Sg := Sg.same e1
        refine ⟨_, rfl, l, ys, ds, rfl, SqL.of hlg, hcg, okd, by omega, fun Hi t2 e2 n2 h2 => ?_⟩
        replace hlg := e2 _ _ hlg
        replace hcg := hcg.same e2
        replace htg := e2 _ _ htg
        replace hbg := seq_t e2 hbg
        replace hog := e2 _ _ hog
        replace Sg := Sg.same e2
        replace h1 := e2 _ _ h1
        refine ⟨(by show 2 ≤ sizeLine; decide), fun u nu => ?_⟩
        have e_Hj : Same Hi (upd Hi u (.lst [V.ref t1, .ref t2])) := new_same nu
        have h_u : (upd Hi u (.lst [V.ref t1, .ref t2])) u = some (.lst [V.ref t1, .ref t2]) := upd_same
        generalize upd Hi u (.lst [V.ref t1, .ref t2]) = Hj at e_Hj h_u ⊢
        replace Sg := Sg.same e_Hj
        replace htg := e_Hj _ _ htg
        replace hlg := e_Hj _ _ hlg
        replace hbg := seq_t e_Hj hbg
        replace hog := e_Hj _ _ hog
        replace h1 := e_Hj _ _ h1
        replace h2 := e_Hj _ _ h2
        replace hcg := hcg.same e_Hj
        have one : offM ds ds.length ≠ [] := fun e => by
          have := offM_len ds ds.length
          rw [e] at this
          cases this
        refine ⟨_, rfl, _, rfl, o, _, rfl, SqL.of hog, one, fun lo lo1 lo2 => ⟨_, rfl, o, _, rfl, SqL.of hog, one, fun hi hi1 hi2 => ⟨_, rfl, _, rfl, o, _, -1, _, rfl, rfl, SqL.of hog, offM_at ds ds.length, ?_⟩⟩⟩
        have elo := offM_min lo1 lo2
        have ehi := offM_max hi1 hi2
        refine ⟨(by show 3 ≤ sizeLine; decide), fun t3 nt3 => ?_⟩
        rw [List.take_length, elo, ehi]
        have e_Hk : Same Hj (upd Hj t3 (.tup [V.int (rchM ds).1, .int (rchM ds).2.1, .int (last ds)])) := new_same nt3
        have h_t3 : (upd Hj t3 (.tup [V.int (rchM ds).1, .int (rchM ds).2.1, .int (last ds)])) t3 = some (.tup [V.int (rchM ds).1, .int (rchM ds).2.1, .int (last ds)]) := upd_same
        generalize upd Hj t3 (.tup [V.int (rchM ds).1, .int (rchM ds).2.1, .int (last ds)]) = Hk at e_Hk h_t3 ⊢
        replace Sg := Sg.same e_Hk
        replace htg := e_Hk _ _ htg
        replace hlg := e_Hk _ _ hlg
        replace hbg := seq_t e_Hk hbg
        replace hog := e_Hk _ _ hog
        replace h1 := e_Hk _ _ h1
        replace h2 := e_Hk _ _ h2
        replace h_u := e_Hk _ _ h_u
        replace hcg := hcg.same e_Hk
        refine ⟨(by show 1 ≤ sizeLine; decide), fun w1 nw1 => ?_⟩
        have e_Hl : Same Hk (upd Hk w1 (.lst [V.ref t3])) := new_same nw1
        have h_w1 : (upd Hk w1 (.lst [V.ref t3])) w1 = some (.lst [V.ref t3]) := upd_same
        generalize upd Hk w1 (.lst [V.ref t3]) = Hl at e_Hl h_w1 ⊢
        replace Sg := Sg.same e_Hl
        replace htg := e_Hl _ _ htg
        replace hlg := e_Hl _ _ hlg
        replace hbg := seq_t e_Hl hbg
        replace hog := e_Hl _ _ hog
        replace h1 := e_Hl _ _ h1
        replace h2 := e_Hl _ _ h2
        replace h_u := e_Hl _ _ h_u
        replace h_t3 := e_Hl _ _ h_t3
        replace hcg := hcg.same e_Hl
        refine ⟨w1, 2, _, rfl, rfl, h_w1, by decide, by decide, (by show 1 * 2 ≤ sizeLine; decide), fun w2 nw2 => ?_⟩
        have e_Hm : Same Hl (upd Hl w2 (.lst (List.replicate (2 : Int).toNat [V.ref t3]).flatten)) := new_same nw2
        have h_w2 : (upd Hl w2 (.lst (List.replicate (2 : Int).toNat [V.ref t3]).flatten)) w2 = some (.lst [V.ref t3, .ref t3]) := upd_same
        generalize upd Hl w2 (.lst (List.replicate (2 : Int).toNat [V.ref t3]).flatten) = Hm at e_Hm h_w2 ⊢
        replace Sg := Sg.same e_Hm
        replace htg := e_Hm _ _ htg
        replace hlg := e_Hm _ _ hlg
        replace hbg := seq_t e_Hm hbg
        replace hog := e_Hm _ _ hog
        replace h1 := e_Hm _ _ h1
        replace h2 := e_Hm _ _ h2
        replace h_u := e_Hm _ _ h_u
        replace h_t3 := e_Hm _ _ h_t3
        replace hcg := hcg.same e_Hm
        have one3 : ∀ q, SqT K Hm q [V.int (rchM ds).1, .int (rchM ds).2.1, .int (last ds)] → Dp K Hm (.ref q) (.tuple [.int (rchM ds).1, .int (rchM ds).2.1, .int (last ds)]) := fun q hq => .tup hq (.cons (.int _) (.cons (.int _) (.cons (.int _) .nil)))
        refine ⟨.ref u, .ref w2, .list [.tuple [.int (rchM ds).1, .int (rchM ds).2.1, .int (last ds)], .tuple [.int (rchM ds).1, .int (rchM ds).2.1, .int (last ds)]], rfl, .lst (SqL.of h_u) (.cons (one3 _ (SqT.of h1)) (.cons (one3 _ (SqT.of h2)) .nil)), .lst (SqL.of h_w2) (.cons (one3 _ (SqT.of h_t3)) (.cons (one3 _ (SqT.of h_t3)) .nil)), ?_, ?_, fun Hn en => ⟨_, rfl, iteF ?_⟩⟩
        · show PyData.depth _ < 3
          simp [PyData.depth, PyData.depthAll]
        · show wid _ ≤ 1000
          simp [wid, widAll]
        replace Sg := Sg.same en
        replace htg := en _ _ htg
        replace hlg := en _ _ hlg
        replace hbg := seq_t en hbg
        replace hog := en _ _ hog
        replace hcg := hcg.same en
        clear en h1 h2 h_u h_t3 h_w1 h_w2 one3
        refine ⟨fun σ H' => ∃ fb : Bool, σ = [some (.ref a0), some (.ref p), some (.int (0 + (i : Int))), some (.ref t), some (.int (0 + (j : Int))), some (.ref b), some (.ref l), some (.ref o), v8, v9, some (.ref u), some (.bl fb)] ∧ (fb = true ↔ 0 ≤ r + (rchM ds).1 ∧ r + (rchM ds).2.1 < tx.length) ∧ Hn = H', ?_, ?_⟩
        · refine ⟨_, rfl, b, _, 0, .int r, rfl, rfl, hbg, rfl, _, rfl, o, _, rfl, SqL.of hog, one, fun lo lo1 lo2 => ⟨_, _, rfl, rfl, _, _, rfl, rfl, _, rfl, ?_⟩⟩
          have elo := offM_min lo1 lo2
          subst elo
          refine ite2 (fun c => ?_) (fun c => ?_)
          · have c1 := of_decide_eq_true c
            refine ⟨_, rfl, b, _, 0, .int r, rfl, rfl, hbg, rfl, _, rfl, o, _, rfl, SqL.of hog, one, fun hi hi1 hi2 => ⟨_, _, rfl, rfl, _, rfl, t, _, rfl, .inl (SqL.of htg), _, _, rfl, rfl, ?_⟩⟩
            have ehi := offM_max hi1 hi2
            subst ehi
            refine ⟨_, rfl, ?_, rfl⟩
            refine Iff.intro (fun h => And.intro c1 ?_) fun h => ?_
            · have h := of_decide_eq_true h
              rw [List.length_map] at h
              exact h
            · refine decide_eq_true ?_
              rw [List.length_map]
              exact h.2
          · refine ⟨_, rfl, ?_, rfl⟩
            exact Iff.intro (fun h => nomatch h) fun h => absurd (decide_eq_true h.1) c
        rintro σ H' ⟨fb, rfl, efb, rfl⟩
        refine ⟨_, rfl, _, rfl, _, rfl, t, b, l, tx, r, g, ys, ds, rfl, SqL.of htg, hbg, SqL.of hlg, hcg, T0, r0, r1, g0, okd, by omega, fun Ho eo => ?_⟩
        have same : (afterL tx r g ds).isSome = fb := by
          rw [Bool.eq_iff_iff, efb]
          exact poss_iff r0 r1
        rw [same]
        refine ⟨_, rfl, rfl, false, by simp, iteF ?_⟩
        exact ⟨_, _, _, _, _, _, _, _, rfl, (Sg.same eo).more (by omega), eo _ _ htg⟩
      · obtain ⟨v4, v5, v6, v7, v8, v9, v10, v11, rfl, S6, ht6⟩ := h
        exact ⟨_, _, _, _, _, _, _, _, _, _, rfl, S6.more (by omega)⟩
    · obtain ⟨v2, v3, v4, v5, v6, v7, v8, v9, v10, v11, rfl, S2⟩ := h
      refine ⟨(by show 0 ≤ sizeLine; decide), fun q1 nq1 => ?_⟩
      refine ⟨q1, [], [], rfl, SqL.of upd_same, .nil, (fun c hc => nomatch hc), by decide, fun H3 p3 e3 np3 hp3 => ?_⟩
      refine ⟨(by show 3 ≤ sizeLine; decide), fun q2 nq2 => ?_⟩
      have e4 := new_same (o := HO.tup [V.int 0, .int 0, .int 0]) nq2
      refine ⟨.tuple [.int 0, .int 0, .int 0], .tuple [.int 0, .int 0, .int 0], .tup (SqT.of (e4 _ _ hp3)) (.cons (.int _) (.cons (.int _) (.cons (.int _) .nil))), .tup (SqT.of upd_same) (.cons (.int _) (.cons (.int _) (.cons (.int _) .nil))), rfl, rfl, ?_⟩
      rw [show (PyData.tuple [.int 0, .int 0, .int 0]).eqv (.tuple [.int 0, .int 0, .int 0]) = true by simp [PyData.eqv, PyData.eqvAll]]
      refine ⟨_, rfl, iteT ?_⟩
      generalize upd H3 q2 (.tup [V.int 0, .int 0, .int 0]) = H4
      refine ⟨(by show 2 ≤ sizeLine; decide), fun a1 n1 => ?_⟩
      have e_H5 : Same H4 (upd H4 a1 (.tup [V.str "up", .int 2])) := new_same n1
      have h_a1 : (upd H4 a1 (.tup [V.str "up", .int 2])) a1 = some (.tup [V.str "up", .int 2]) := upd_same
      generalize upd H4 a1 (.tup [V.str "up", .int 2]) = H5 at e_H5 h_a1 ⊢
      refine ⟨(by show 1 ≤ sizeLine; decide), fun a2 n2 => ?_⟩
      have e_H6 : Same H5 (upd H5 a2 (.tup [V.str "end"])) := new_same n2
      have h_a2 : (upd H5 a2 (.tup [V.str "end"])) a2 = some (.tup [V.str "end"]) := upd_same
      generalize upd H5 a2 (.tup [V.str "end"]) = H6 at e_H6 h_a2 ⊢
      replace h_a1 := e_H6 _ _ h_a1
      refine ⟨(by show 2 ≤ sizeLine; decide), fun a3 n3 => ?_⟩
      have e_H7 : Same H6 (upd H6 a3 (.tup [V.str "down", .int 5])) := new_same n3
      have h_a3 : (upd H6 a3 (.tup [V.str "down", .int 5])) a3 = some (.tup [V.str "down", .int 5]) := upd_same
      generalize upd H6 a3 (.tup [V.str "down", .int 5]) = H7 at e_H7 h_a3 ⊢
      replace h_a1 := e_H7 _ _ h_a1
      replace h_a2 := e_H7 _ _ h_a2
      refine ⟨(by show 3 ≤ sizeLine; decide), fun a4 n4 => ?_⟩
      have e_H8 : Same H7 (upd H7 a4 (.lst [V.ref a1, .ref a2, .ref a3])) := new_same n4
      have h_a4 : (upd H7 a4 (.lst [V.ref a1, .ref a2, .ref a3])) a4 = some (.lst [V.ref a1, .ref a2, .ref a3]) := upd_same
      generalize upd H7 a4 (.lst [V.ref a1, .ref a2, .ref a3]) = H8 at e_H8 h_a4 ⊢
      replace h_a1 := e_H8 _ _ h_a1
      replace h_a2 := e_H8 _ _ h_a2
      replace h_a3 := e_H8 _ _ h_a3
      have hc3 : CmdsOf K H8 [V.ref a1, .ref a2, .ref a3] [.up 2, .stop, .down 5] := .cons ⟨a1, rfl, SqT.of h_a1⟩ (.cons ⟨a2, rfl, SqT.of h_a2⟩ (.cons ⟨a3, rfl, SqT.of h_a3⟩ .nil))
      have ok3 : AllOk [.up 2, .stop, .down 5] := fun c hc => by
        rcases List.mem_cons.mp hc with rfl | hc
        · show (1 : Int) ≤ 2
          decide
        · rcases List.mem_cons.mp hc with rfl | hc
          · trivial
          · rw [List.mem_singleton.mp hc]
            show (1 : Int) ≤ 5
            decide
      refine ⟨a4, _, _, rfl, SqL.of h_a4, hc3, ok3, by decide, fun H9 p9 e9 np9 hp9 => ?_⟩
      refine ⟨_, rfl, (by show 3 ≤ sizeLine; decide), fun q9 nq9 => ?_⟩
      have e10 := new_same (o := HO.tup [V.int (-2), .int 3, .int 3]) nq9
      refine ⟨.tuple [.int (-2), .int 3, .int 3], .tuple [.int (-2), .int 3, .int 3], .tup (SqT.of (e10 _ _ hp9)) (.cons (.int _) (.cons (.int _) (.cons (.int _) .nil))), .tup (SqT.of upd_same) (.cons (.int _) (.cons (.int _) (.cons (.int _) .nil))), rfl, rfl, ?_⟩
      rw [show (PyData.tuple [.int (-2), .int 3, .int 3]).eqv (.tuple [.int (-2), .int 3, .int 3]) = true by simp [PyData.eqv, PyData.eqvAll]]
      exact k _
end
end Gc

/-! the __init__ of the errors -/
namespace Gc
open PySem L2
theorem kit_own {K : PySem.W.Frag} {C D : Addr} {b : Bool} (h1 : PySem.W.isClsIn K D = true) (h2 : PySem.W.typeIn K (.ref D) = some (.type "type"))
    (h3 : PySem.W.subIn K (.ref C) (.ref D) = some b) (hr : PySem.W.subIn K (.ref C) (.ref C) = some true) : PySem.W.kitOne K (.ref C) (.ref D) = some b := by
  unfold PySem.W.kitOne
  split
  · rename_i e
    have z : C = D := Value.ref.inj (beq_iff_eq.mp e)
    subst z
    exact hr.symm.trans h3
  · show (if ((PySem.W.clsIn K D).isSome && PySem.W.typeIn K (.ref D) == some (.type "type")) = true then PySem.W.subIn K (.ref C) (.ref D) else none) = some b
    have h1' : (PySem.W.clsIn K D).isSome = true := h1
    rw [h1', h2]
    exact h3
theorem kit_bl {K : PySem.W.Frag} {C : Addr} {T : String} {b : Bool} (hm : PySem.W.kitMeta T = true) (h : PySem.W.subIn K (.ref C) (.type T) = some b) : PySem.W.kitOne K (.ref C) (.type T) = some b := by
  unfold PySem.W.kitOne
  rw [if_neg (by intro e; cases beq_iff_eq.mp e)]
  show (if PySem.W.kitMeta T = true then PySem.W.subIn K (.ref C) (.type T) else none) = some b
  rw [if_pos hm]
  exact h
section
variable {P : Program} {w : World} {K : PySem.W.Frag} {mg : Str → Option Value} {base : Heap}
abbrev sI0 : Stmt := inClass (top 2) 0
theorem sc_I0 : FnScope ["self", "value"] ["self", "value"] (defScope sI0) := ⟨rfl, rfl, rfl, by decide +kernel, rfl, by decide +kernel, by decide +kernel⟩
theorem errc_I0 {fI C : Addr} {fd : FuncData} (F : Fun K "__init__" "InvalidText.__init__" sI0 fI fd) (T : OexC K C) (g : mg "InvalidText" = some (.ref C)) (no : PySem.W.findIn K (.ref C) "value" = some none)
    (iC : PySem.W.findIn K (.ref C) "__init__" = some (some (.ref fI))) (tI : PySem.W.typeIn K (.ref fI) = some (.type "function")) : ErrC P w K mg base "InvalidText" C := by
  have ok : FnOk P w K mg base CX0 1 fI fd ["self", "value"] (spKeep C) := by
    refine F.ok sc_I0 (fun vs H Q E h => ?_) (fun cdv A outer s H vs Q E hr h => ?_)
    · obtain ⟨a, v, rfl, _⟩ := h
      rfl
    · obtain ⟨a, v, rfl, ha, k⟩ := h
      refine ⟨_, pss_one (ps_ost (pv 0) (pv 1)), ?_⟩
      exact ⟨_, rfl, _, rfl, a, C, rfl, T, no, .inl ⟨ha, fun dx hd ne => k dx hd ne⟩⟩
  exact ⟨T, g, no, fI, fd, iC, tI, ok, F.binds (ps := ["self", "value"]) fun _ _ _ _ _ _ us hl => match us, hl with | [_, _], _ => rfl⟩
abbrev sI1 : Stmt := inClass (top 3) 0
theorem sc_I1 : FnScope ["self", "value"] ["self", "value"] (defScope sI1) := ⟨rfl, rfl, rfl, by decide +kernel, rfl, by decide +kernel, by decide +kernel⟩
theorem errc_I1 {fI C : Addr} {fd : FuncData} (F : Fun K "__init__" "InvalidCursor.__init__" sI1 fI fd) (T : OexC K C) (g : mg "InvalidCursor" = some (.ref C)) (no : PySem.W.findIn K (.ref C) "value" = some none)
    (iC : PySem.W.findIn K (.ref C) "__init__" = some (some (.ref fI))) (tI : PySem.W.typeIn K (.ref fI) = some (.type "function")) : ErrC P w K mg base "InvalidCursor" C := by
  have ok : FnOk P w K mg base CX0 1 fI fd ["self", "value"] (spKeep C) := by
    refine F.ok sc_I1 (fun vs H Q E h => ?_) (fun cdv A outer s H vs Q E hr h => ?_)
    · obtain ⟨a, v, rfl, _⟩ := h
      rfl
    · obtain ⟨a, v, rfl, ha, k⟩ := h
      refine ⟨_, pss_one (ps_ost (pv 0) (pv 1)), ?_⟩
      exact ⟨_, rfl, _, rfl, a, C, rfl, T, no, .inl ⟨ha, fun dx hd ne => k dx hd ne⟩⟩
  exact ⟨T, g, no, fI, fd, iC, tI, ok, F.binds (ps := ["self", "value"]) fun _ _ _ _ _ _ us hl => match us, hl with | [_, _], _ => rfl⟩
abbrev sI2 : Stmt := inClass (top 4) 0
theorem sc_I2 : FnScope ["self", "value"] ["self", "value"] (defScope sI2) := ⟨rfl, rfl, rfl, by decide +kernel, rfl, by decide +kernel, by decide +kernel⟩
theorem errc_I2 {fI C : Addr} {fd : FuncData} (F : Fun K "__init__" "InvalidCommand.__init__" sI2 fI fd) (T : OexC K C) (g : mg "InvalidCommand" = some (.ref C)) (no : PySem.W.findIn K (.ref C) "value" = some none)
    (iC : PySem.W.findIn K (.ref C) "__init__" = some (some (.ref fI))) (tI : PySem.W.typeIn K (.ref fI) = some (.type "function")) : ErrC P w K mg base "InvalidCommand" C := by
  have ok : FnOk P w K mg base CX0 1 fI fd ["self", "value"] (spKeep C) := by
    refine F.ok sc_I2 (fun vs H Q E h => ?_) (fun cdv A outer s H vs Q E hr h => ?_)
    · obtain ⟨a, v, rfl, _⟩ := h
      rfl
    · obtain ⟨a, v, rfl, ha, k⟩ := h
      refine ⟨_, pss_one (ps_ost (pv 0) (pv 1)), ?_⟩
      exact ⟨_, rfl, _, rfl, a, C, rfl, T, no, .inl ⟨ha, fun dx hd ne => k dx hd ne⟩⟩
  exact ⟨T, g, no, fI, fd, iC, tI, ok, F.binds (ps := ["self", "value"]) fun _ _ _ _ _ _ us hl => match us, hl with | [_, _], _ => rfl⟩
abbrev sI3 : Stmt := inClass (top 5) 0
theorem sc_I3 : FnScope ["self", "value"] ["self", "value"] (defScope sI3) := ⟨rfl, rfl, rfl, by decide +kernel, rfl, by decide +kernel, by decide +kernel⟩
theorem errc_I3 {fI C : Addr} {fd : FuncData} (F : Fun K "__init__" "Impossible.__init__" sI3 fI fd) (T : OexC K C) (g : mg "Impossible" = some (.ref C)) (no : PySem.W.findIn K (.ref C) "value" = some none)
    (iC : PySem.W.findIn K (.ref C) "__init__" = some (some (.ref fI))) (tI : PySem.W.typeIn K (.ref fI) = some (.type "function")) : ErrC P w K mg base "Impossible" C := by
  have ok : FnOk P w K mg base CX0 1 fI fd ["self", "value"] (spKeep C) := by
    refine F.ok sc_I3 (fun vs H Q E h => ?_) (fun cdv A outer s H vs Q E hr h => ?_)
    · obtain ⟨a, v, rfl, _⟩ := h
      rfl
    · obtain ⟨a, v, rfl, ha, k⟩ := h
      refine ⟨_, pss_one (ps_ost (pv 0) (pv 1)), ?_⟩
      exact ⟨_, rfl, _, rfl, a, C, rfl, T, no, .inl ⟨ha, fun dx hd ne => k dx hd ne⟩⟩
  exact ⟨T, g, no, fI, fd, iC, tI, ok, F.binds (ps := ["self", "value"]) fun _ _ _ _ _ _ us hl => match us, hl with | [_, _], _ => rfl⟩
end
end Gc

namespace Gc
open PySem L2
theorem all_mk {l : PySem.W.OpenLaw} {w : World} {K : PySem.W.Frag} {h : Heap} {mg : Str → Option Value} {fa : Addr} (X : K.In h) (G : h.Ns mainGlobals mg) (hfa : mg "law" = some (.ref fa))
    {wn wo : Addr} {odN odO : Option Addr} {nN nO : Nat} {slN slO : Array (Option Value)} {tn0 tn1 tn2 tn3 to0 to1 : Tok}
    {f_is_count : Addr} {oc_is_count kV_is_count dc_is_count pm_is_count cd_is_count ct_is_count : Value} {od_is_count an_is_count : Option Addr} {sl_is_count : Array (Option Value)}
    {f_is_command : Addr} {oc_is_command kV_is_command dc_is_command pm_is_command cd_is_command ct_is_command : Value} {od_is_command an_is_command : Option Addr} {sl_is_command : Array (Option Value)}
    {f_check_commands : Addr} {oc_check_commands kV_check_commands dc_check_commands pm_check_commands cd_check_commands ct_check_commands : Value} {od_check_commands an_check_commands : Option Addr} {sl_check_commands : Array (Option Value)}
    {f_row_change : Addr} {oc_row_change kV_row_change dc_row_change pm_row_change cd_row_change ct_row_change : Value} {od_row_change an_row_change : Option Addr} {sl_row_change : Array (Option Value)}
    {f_check_text : Addr} {oc_check_text kV_check_text dc_check_text pm_check_text cd_check_text ct_check_text : Value} {od_check_text an_check_text : Option Addr} {sl_check_text : Array (Option Value)}
    {f_check_cursor : Addr} {oc_check_cursor kV_check_cursor dc_check_cursor pm_check_cursor cd_check_cursor ct_check_cursor : Value} {od_check_cursor an_check_cursor : Option Addr} {sl_check_cursor : Array (Option Value)}
    {f_column : Addr} {oc_column kV_column dc_column pm_column cd_column ct_column : Value} {od_column an_column : Option Addr} {sl_column : Array (Option Value)}
    {f_run : Addr} {oc_run kV_run dc_run pm_run cd_run ct_run : Value} {od_run an_run : Option Addr} {sl_run : Array (Option Value)}
    {f_places : Addr} {oc_places kV_places dc_places pm_places cd_places ct_places : Value} {od_places an_places : Option Addr} {sl_places : Array (Option Value)}
    {f_reach : Addr} {oc_reach kV_reach dc_reach pm_reach cd_reach ct_reach : Value} {od_reach an_reach : Option Addr} {sl_reach : Array (Option Value)}
    {f_shown_column : Addr} {oc_shown_column kV_shown_column dc_shown_column pm_shown_column cd_shown_column ct_shown_column : Value} {od_shown_column an_shown_column : Option Addr} {sl_shown_column : Array (Option Value)}
    {f_moved : Addr} {oc_moved kV_moved dc_moved pm_moved cd_moved ct_moved : Value} {od_moved an_moved : Option Addr} {sl_moved : Array (Option Value)}
    {f_new_goal : Addr} {oc_new_goal kV_new_goal dc_new_goal pm_new_goal cd_new_goal ct_new_goal : Value} {od_new_goal an_new_goal : Option Addr} {sl_new_goal : Array (Option Value)}
    {f_law_source : Addr} {oc_law_source kV_law_source dc_law_source pm_law_source cd_law_source ct_law_source : Value} {od_law_source an_law_source : Option Addr} {sl_law_source : Array (Option Value)}
    {f_law_draw : Addr} {oc_law_draw kV_law_draw dc_law_draw pm_law_draw cd_law_draw ct_law_draw : Value} {od_law_draw an_law_draw : Option Addr} {sl_law_draw : Array (Option Value)}
    {f_law_same : Addr} {oc_law_same kV_law_same dc_law_same pm_law_same cd_law_same ct_law_same : Value} {od_law_same an_law_same : Option Addr} {sl_law_same : Array (Option Value)}
    {f_law_number : Addr} {oc_law_number kV_law_number dc_law_number pm_law_number cd_law_number ct_law_number : Value} {od_law_number an_law_number : Option Addr} {sl_law_number : Array (Option Value)}
    {f_law_command : Addr} {oc_law_command kV_law_command dc_law_command pm_law_command cd_law_command ct_law_command : Value} {od_law_command an_law_command : Option Addr} {sl_law_command : Array (Option Value)}
    {f_law_text : Addr} {oc_law_text kV_law_text dc_law_text pm_law_text cd_law_text ct_law_text : Value} {od_law_text an_law_text : Option Addr} {sl_law_text : Array (Option Value)}
    {f_law_cursor : Addr} {oc_law_cursor kV_law_cursor dc_law_cursor pm_law_cursor cd_law_cursor ct_law_cursor : Value} {od_law_cursor an_law_cursor : Option Addr} {sl_law_cursor : Array (Option Value)}
    {f_law_shown : Addr} {oc_law_shown kV_law_shown dc_law_shown pm_law_shown cd_law_shown ct_law_shown : Value} {od_law_shown an_law_shown : Option Addr} {sl_law_shown : Array (Option Value)}
    {f_law_moved : Addr} {oc_law_moved kV_law_moved dc_law_moved pm_law_moved cd_law_moved ct_law_moved : Value} {od_law_moved an_law_moved : Option Addr} {sl_law_moved : Array (Option Value)}
    {f_law_fitting : Addr} {oc_law_fitting kV_law_fitting dc_law_fitting pm_law_fitting cd_law_fitting ct_law_fitting : Value} {od_law_fitting an_law_fitting : Option Addr} {sl_law_fitting : Array (Option Value)}
    {f_law_is_possible : Addr} {oc_law_is_possible kV_law_is_possible dc_law_is_possible pm_law_is_possible cd_law_is_possible ct_law_is_possible : Value} {od_law_is_possible an_law_is_possible : Option Addr} {sl_law_is_possible : Array (Option Value)}
    {f_law_at_least : Addr} {oc_law_at_least kV_law_at_least dc_law_at_least pm_law_at_least cd_law_at_least ct_law_at_least : Value} {od_law_at_least an_law_at_least : Option Addr} {sl_law_at_least : Array (Option Value)}
    {f_law_back_right : Addr} {oc_law_back_right kV_law_back_right dc_law_back_right pm_law_back_right cd_law_back_right ct_law_back_right : Value} {od_law_back_right an_law_back_right : Option Addr} {sl_law_back_right : Array (Option Value)}
    {f_law_shown_right : Addr} {oc_law_shown_right kV_law_shown_right dc_law_shown_right pm_law_shown_right cd_law_shown_right ct_law_shown_right : Value} {od_law_shown_right an_law_shown_right : Option Addr} {sl_law_shown_right : Array (Option Value)}
    {f_law_order_right : Addr} {oc_law_order_right kV_law_order_right dc_law_order_right pm_law_order_right cd_law_order_right ct_law_order_right : Value} {od_law_order_right an_law_order_right : Option Addr} {sl_law_order_right : Array (Option Value)}
    {f_law : Addr} {oc_law kV_law dc_law pm_law cd_law ct_law : Value} {od_law an_law : Option Addr} {sl_law : Array (Option Value)}
    {CE : Addr}
    {C0 : Addr}
    {C1 : Addr}
    {C2 : Addr}
    {C3 : Addr}
    {f3 N3 : Addr} {nm3 q3 : Str} {bs3 : List Value} {sn3 : List Str} {sub3 : List Value} {ab3 : Bool} {col3 : Option Bool} {dd3 : Option Addr} {p3_0 p3_1 p3_2 p3_3 p3_5 : Option Value}
    {oc3 kV3 dc3 pm3 cd3 ct3 : Value} {od3 an3 : Option Addr} {sl3 : Array (Option Value)}
    (aWN : PySem.W.nsIn K mainGlobals "WITH_NUMBER" = some (some (.ref wn)))
    (aWO : PySem.W.nsIn K mainGlobals "WITHOUT_NUMBER" = some (some (.ref wo)))
    (lWN : K.lookup wn = some ⟨.type "tuple", odN, .seq #[.str "down" tn0, .str "up" tn1, .str "right" tn2, .str "left" tn3] nN, slN⟩)
    (lWO : K.lookup wo = some ⟨.type "tuple", odO, .seq #[.str "home" to0, .str "end" to1] nO, slO⟩)
    (a_is_count : PySem.W.nsIn K mainGlobals "is_count" = some (some (.ref f_is_count)))
    (l_is_count : K.lookup f_is_count = some ⟨oc_is_count, od_is_count, .func (PySem.W.fnOf "is_count" "is_count" (defArgs s_is_count) (defBody s_is_count) (defScope s_is_count) .none kV_is_count dc_is_count pm_is_count an_is_count cd_is_count ct_is_count), sl_is_count⟩)
    (c_is_count : PySem.W.codeIn K cd_is_count "is_count" = true)
    (k_is_count : PySem.W.keepIn K (.ref f_is_count) = true)
    (a_is_command : PySem.W.nsIn K mainGlobals "is_command" = some (some (.ref f_is_command)))
    (l_is_command : K.lookup f_is_command = some ⟨oc_is_command, od_is_command, .func (PySem.W.fnOf "is_command" "is_command" (defArgs s_is_command) (defBody s_is_command) (defScope s_is_command) .none kV_is_command dc_is_command pm_is_command an_is_command cd_is_command ct_is_command), sl_is_command⟩)
    (c_is_command : PySem.W.codeIn K cd_is_command "is_command" = true)
    (k_is_command : PySem.W.keepIn K (.ref f_is_command) = true)
    (a_check_commands : PySem.W.nsIn K mainGlobals "check_commands" = some (some (.ref f_check_commands)))
    (l_check_commands : K.lookup f_check_commands = some ⟨oc_check_commands, od_check_commands, .func (PySem.W.fnOf "check_commands" "check_commands" (defArgs s_check_commands) (defBody s_check_commands) (defScope s_check_commands) .none kV_check_commands dc_check_commands pm_check_commands an_check_commands cd_check_commands ct_check_commands), sl_check_commands⟩)
    (c_check_commands : PySem.W.codeIn K cd_check_commands "check_commands" = true)
    (k_check_commands : PySem.W.keepIn K (.ref f_check_commands) = true)
    (a_row_change : PySem.W.nsIn K mainGlobals "row_change" = some (some (.ref f_row_change)))
    (l_row_change : K.lookup f_row_change = some ⟨oc_row_change, od_row_change, .func (PySem.W.fnOf "row_change" "row_change" (defArgs s_row_change) (defBody s_row_change) (defScope s_row_change) .none kV_row_change dc_row_change pm_row_change an_row_change cd_row_change ct_row_change), sl_row_change⟩)
    (c_row_change : PySem.W.codeIn K cd_row_change "row_change" = true)
    (k_row_change : PySem.W.keepIn K (.ref f_row_change) = true)
    (a_check_text : PySem.W.nsIn K mainGlobals "check_text" = some (some (.ref f_check_text)))
    (l_check_text : K.lookup f_check_text = some ⟨oc_check_text, od_check_text, .func (PySem.W.fnOf "check_text" "check_text" (defArgs s_check_text) (defBody s_check_text) (defScope s_check_text) .none kV_check_text dc_check_text pm_check_text an_check_text cd_check_text ct_check_text), sl_check_text⟩)
    (c_check_text : PySem.W.codeIn K cd_check_text "check_text" = true)
    (k_check_text : PySem.W.keepIn K (.ref f_check_text) = true)
    (a_check_cursor : PySem.W.nsIn K mainGlobals "check_cursor" = some (some (.ref f_check_cursor)))
    (l_check_cursor : K.lookup f_check_cursor = some ⟨oc_check_cursor, od_check_cursor, .func (PySem.W.fnOf "check_cursor" "check_cursor" (defArgs s_check_cursor) (defBody s_check_cursor) (defScope s_check_cursor) .none kV_check_cursor dc_check_cursor pm_check_cursor an_check_cursor cd_check_cursor ct_check_cursor), sl_check_cursor⟩)
    (c_check_cursor : PySem.W.codeIn K cd_check_cursor "check_cursor" = true)
    (k_check_cursor : PySem.W.keepIn K (.ref f_check_cursor) = true)
    (a_column : PySem.W.nsIn K mainGlobals "column" = some (some (.ref f_column)))
    (l_column : K.lookup f_column = some ⟨oc_column, od_column, .func (PySem.W.fnOf "column" "column" (defArgs s_column) (defBody s_column) (defScope s_column) .none kV_column dc_column pm_column an_column cd_column ct_column), sl_column⟩)
    (c_column : PySem.W.codeIn K cd_column "column" = true)
    (k_column : PySem.W.keepIn K (.ref f_column) = true)
    (a_run : PySem.W.nsIn K mainGlobals "run" = some (some (.ref f_run)))
    (l_run : K.lookup f_run = some ⟨oc_run, od_run, .func (PySem.W.fnOf "run" "run" (defArgs s_run) (defBody s_run) (defScope s_run) .none kV_run dc_run pm_run an_run cd_run ct_run), sl_run⟩)
    (c_run : PySem.W.codeIn K cd_run "run" = true)
    (k_run : PySem.W.keepIn K (.ref f_run) = true)
    (a_places : PySem.W.nsIn K mainGlobals "places" = some (some (.ref f_places)))
    (l_places : K.lookup f_places = some ⟨oc_places, od_places, .func (PySem.W.fnOf "places" "places" (defArgs s_places) (defBody s_places) (defScope s_places) .none kV_places dc_places pm_places an_places cd_places ct_places), sl_places⟩)
    (c_places : PySem.W.codeIn K cd_places "places" = true)
    (k_places : PySem.W.keepIn K (.ref f_places) = true)
    (a_reach : PySem.W.nsIn K mainGlobals "reach" = some (some (.ref f_reach)))
    (l_reach : K.lookup f_reach = some ⟨oc_reach, od_reach, .func (PySem.W.fnOf "reach" "reach" (defArgs s_reach) (defBody s_reach) (defScope s_reach) .none kV_reach dc_reach pm_reach an_reach cd_reach ct_reach), sl_reach⟩)
    (c_reach : PySem.W.codeIn K cd_reach "reach" = true)
    (k_reach : PySem.W.keepIn K (.ref f_reach) = true)
    (a_shown_column : PySem.W.nsIn K mainGlobals "shown_column" = some (some (.ref f_shown_column)))
    (l_shown_column : K.lookup f_shown_column = some ⟨oc_shown_column, od_shown_column, .func (PySem.W.fnOf "shown_column" "shown_column" (defArgs s_shown_column) (defBody s_shown_column) (defScope s_shown_column) .none kV_shown_column dc_shown_column pm_shown_column an_shown_column cd_shown_column ct_shown_column), sl_shown_column⟩)
    (c_shown_column : PySem.W.codeIn K cd_shown_column "shown_column" = true)
    (k_shown_column : PySem.W.keepIn K (.ref f_shown_column) = true)
    (a_moved : PySem.W.nsIn K mainGlobals "moved" = some (some (.ref f_moved)))
    (l_moved : K.lookup f_moved = some ⟨oc_moved, od_moved, .func (PySem.W.fnOf "moved" "moved" (defArgs s_moved) (defBody s_moved) (defScope s_moved) .none kV_moved dc_moved pm_moved an_moved cd_moved ct_moved), sl_moved⟩)
    (c_moved : PySem.W.codeIn K cd_moved "moved" = true)
    (k_moved : PySem.W.keepIn K (.ref f_moved) = true)
    (a_new_goal : PySem.W.nsIn K mainGlobals "new_goal" = some (some (.ref f_new_goal)))
    (l_new_goal : K.lookup f_new_goal = some ⟨oc_new_goal, od_new_goal, .func (PySem.W.fnOf "new_goal" "new_goal" (defArgs s_new_goal) (defBody s_new_goal) (defScope s_new_goal) .none kV_new_goal dc_new_goal pm_new_goal an_new_goal cd_new_goal ct_new_goal), sl_new_goal⟩)
    (c_new_goal : PySem.W.codeIn K cd_new_goal "new_goal" = true)
    (k_new_goal : PySem.W.keepIn K (.ref f_new_goal) = true)
    (a_law_source : PySem.W.nsIn K mainGlobals "_law_source" = some (some (.ref f_law_source)))
    (l_law_source : K.lookup f_law_source = some ⟨oc_law_source, od_law_source, .func (PySem.W.fnOf "_law_source" "_law_source" (defArgs s_source) (defBody s_source) (defScope s_source) .none kV_law_source dc_law_source pm_law_source an_law_source cd_law_source ct_law_source), sl_law_source⟩)
    (c_law_source : PySem.W.codeIn K cd_law_source "_law_source" = true)
    (k_law_source : PySem.W.keepIn K (.ref f_law_source) = true)
    (a_law_draw : PySem.W.nsIn K mainGlobals "_law_draw" = some (some (.ref f_law_draw)))
    (l_law_draw : K.lookup f_law_draw = some ⟨oc_law_draw, od_law_draw, .func (PySem.W.fnOf "_law_draw" "_law_draw" (defArgs s_sdraw) (defBody s_sdraw) (defScope s_sdraw) .none kV_law_draw dc_law_draw pm_law_draw an_law_draw cd_law_draw ct_law_draw), sl_law_draw⟩)
    (c_law_draw : PySem.W.codeIn K cd_law_draw "_law_draw" = true)
    (k_law_draw : PySem.W.keepIn K (.ref f_law_draw) = true)
    (a_law_same : PySem.W.nsIn K mainGlobals "_law_same" = some (some (.ref f_law_same)))
    (l_law_same : K.lookup f_law_same = some ⟨oc_law_same, od_law_same, .func (PySem.W.fnOf "_law_same" "_law_same" (defArgs s_same) (defBody s_same) (defScope s_same) .none kV_law_same dc_law_same pm_law_same an_law_same cd_law_same ct_law_same), sl_law_same⟩)
    (c_law_same : PySem.W.codeIn K cd_law_same "_law_same" = true)
    (k_law_same : PySem.W.keepIn K (.ref f_law_same) = true)
    (a_law_number : PySem.W.nsIn K mainGlobals "_law_number" = some (some (.ref f_law_number)))
    (l_law_number : K.lookup f_law_number = some ⟨oc_law_number, od_law_number, .func (PySem.W.fnOf "_law_number" "_law_number" (defArgs s_number) (defBody s_number) (defScope s_number) .none kV_law_number dc_law_number pm_law_number an_law_number cd_law_number ct_law_number), sl_law_number⟩)
    (c_law_number : PySem.W.codeIn K cd_law_number "_law_number" = true)
    (k_law_number : PySem.W.keepIn K (.ref f_law_number) = true)
    (a_law_command : PySem.W.nsIn K mainGlobals "_law_command" = some (some (.ref f_law_command)))
    (l_law_command : K.lookup f_law_command = some ⟨oc_law_command, od_law_command, .func (PySem.W.fnOf "_law_command" "_law_command" (defArgs s_command) (defBody s_command) (defScope s_command) .none kV_law_command dc_law_command pm_law_command an_law_command cd_law_command ct_law_command), sl_law_command⟩)
    (c_law_command : PySem.W.codeIn K cd_law_command "_law_command" = true)
    (k_law_command : PySem.W.keepIn K (.ref f_law_command) = true)
    (a_law_text : PySem.W.nsIn K mainGlobals "_law_text" = some (some (.ref f_law_text)))
    (l_law_text : K.lookup f_law_text = some ⟨oc_law_text, od_law_text, .func (PySem.W.fnOf "_law_text" "_law_text" (defArgs s_text) (defBody s_text) (defScope s_text) .none kV_law_text dc_law_text pm_law_text an_law_text cd_law_text ct_law_text), sl_law_text⟩)
    (c_law_text : PySem.W.codeIn K cd_law_text "_law_text" = true)
    (k_law_text : PySem.W.keepIn K (.ref f_law_text) = true)
    (a_law_cursor : PySem.W.nsIn K mainGlobals "_law_cursor" = some (some (.ref f_law_cursor)))
    (l_law_cursor : K.lookup f_law_cursor = some ⟨oc_law_cursor, od_law_cursor, .func (PySem.W.fnOf "_law_cursor" "_law_cursor" (defArgs s_cursor) (defBody s_cursor) (defScope s_cursor) .none kV_law_cursor dc_law_cursor pm_law_cursor an_law_cursor cd_law_cursor ct_law_cursor), sl_law_cursor⟩)
    (c_law_cursor : PySem.W.codeIn K cd_law_cursor "_law_cursor" = true)
    (k_law_cursor : PySem.W.keepIn K (.ref f_law_cursor) = true)
    (a_law_shown : PySem.W.nsIn K mainGlobals "_law_shown" = some (some (.ref f_law_shown)))
    (l_law_shown : K.lookup f_law_shown = some ⟨oc_law_shown, od_law_shown, .func (PySem.W.fnOf "_law_shown" "_law_shown" (defArgs s_lshown) (defBody s_lshown) (defScope s_lshown) .none kV_law_shown dc_law_shown pm_law_shown an_law_shown cd_law_shown ct_law_shown), sl_law_shown⟩)
    (c_law_shown : PySem.W.codeIn K cd_law_shown "_law_shown" = true)
    (k_law_shown : PySem.W.keepIn K (.ref f_law_shown) = true)
    (a_law_moved : PySem.W.nsIn K mainGlobals "_law_moved" = some (some (.ref f_law_moved)))
    (l_law_moved : K.lookup f_law_moved = some ⟨oc_law_moved, od_law_moved, .func (PySem.W.fnOf "_law_moved" "_law_moved" (defArgs s_lmoved) (defBody s_lmoved) (defScope s_lmoved) .none kV_law_moved dc_law_moved pm_law_moved an_law_moved cd_law_moved ct_law_moved), sl_law_moved⟩)
    (c_law_moved : PySem.W.codeIn K cd_law_moved "_law_moved" = true)
    (k_law_moved : PySem.W.keepIn K (.ref f_law_moved) = true)
    (a_law_fitting : PySem.W.nsIn K mainGlobals "_law_fitting" = some (some (.ref f_law_fitting)))
    (l_law_fitting : K.lookup f_law_fitting = some ⟨oc_law_fitting, od_law_fitting, .func (PySem.W.fnOf "_law_fitting" "_law_fitting" (defArgs s_fitting) (defBody s_fitting) (defScope s_fitting) .none kV_law_fitting dc_law_fitting pm_law_fitting an_law_fitting cd_law_fitting ct_law_fitting), sl_law_fitting⟩)
    (c_law_fitting : PySem.W.codeIn K cd_law_fitting "_law_fitting" = true)
    (k_law_fitting : PySem.W.keepIn K (.ref f_law_fitting) = true)
    (a_law_is_possible : PySem.W.nsIn K mainGlobals "_law_is_possible" = some (some (.ref f_law_is_possible)))
    (l_law_is_possible : K.lookup f_law_is_possible = some ⟨oc_law_is_possible, od_law_is_possible, .func (PySem.W.fnOf "_law_is_possible" "_law_is_possible" (defArgs s_poss) (defBody s_poss) (defScope s_poss) .none kV_law_is_possible dc_law_is_possible pm_law_is_possible an_law_is_possible cd_law_is_possible ct_law_is_possible), sl_law_is_possible⟩)
    (c_law_is_possible : PySem.W.codeIn K cd_law_is_possible "_law_is_possible" = true)
    (k_law_is_possible : PySem.W.keepIn K (.ref f_law_is_possible) = true)
    (a_law_at_least : PySem.W.nsIn K mainGlobals "_law_at_least" = some (some (.ref f_law_at_least)))
    (l_law_at_least : K.lookup f_law_at_least = some ⟨oc_law_at_least, od_law_at_least, .func (PySem.W.fnOf "_law_at_least" "_law_at_least" (defArgs s_at_least) (defBody s_at_least) (defScope s_at_least) .none kV_law_at_least dc_law_at_least pm_law_at_least an_law_at_least cd_law_at_least ct_law_at_least), sl_law_at_least⟩)
    (c_law_at_least : PySem.W.codeIn K cd_law_at_least "_law_at_least" = true)
    (k_law_at_least : PySem.W.keepIn K (.ref f_law_at_least) = true)
    (a_law_back_right : PySem.W.nsIn K mainGlobals "_law_back_right" = some (some (.ref f_law_back_right)))
    (l_law_back_right : K.lookup f_law_back_right = some ⟨oc_law_back_right, od_law_back_right, .func (PySem.W.fnOf "_law_back_right" "_law_back_right" (defArgs s_back) (defBody s_back) (defScope s_back) .none kV_law_back_right dc_law_back_right pm_law_back_right an_law_back_right cd_law_back_right ct_law_back_right), sl_law_back_right⟩)
    (c_law_back_right : PySem.W.codeIn K cd_law_back_right "_law_back_right" = true)
    (k_law_back_right : PySem.W.keepIn K (.ref f_law_back_right) = true)
    (a_law_shown_right : PySem.W.nsIn K mainGlobals "_law_shown_right" = some (some (.ref f_law_shown_right)))
    (l_law_shown_right : K.lookup f_law_shown_right = some ⟨oc_law_shown_right, od_law_shown_right, .func (PySem.W.fnOf "_law_shown_right" "_law_shown_right" (defArgs s_shown_right) (defBody s_shown_right) (defScope s_shown_right) .none kV_law_shown_right dc_law_shown_right pm_law_shown_right an_law_shown_right cd_law_shown_right ct_law_shown_right), sl_law_shown_right⟩)
    (c_law_shown_right : PySem.W.codeIn K cd_law_shown_right "_law_shown_right" = true)
    (k_law_shown_right : PySem.W.keepIn K (.ref f_law_shown_right) = true)
    (a_law_order_right : PySem.W.nsIn K mainGlobals "_law_order_right" = some (some (.ref f_law_order_right)))
    (l_law_order_right : K.lookup f_law_order_right = some ⟨oc_law_order_right, od_law_order_right, .func (PySem.W.fnOf "_law_order_right" "_law_order_right" (defArgs s_order) (defBody s_order) (defScope s_order) .none kV_law_order_right dc_law_order_right pm_law_order_right an_law_order_right cd_law_order_right ct_law_order_right), sl_law_order_right⟩)
    (c_law_order_right : PySem.W.codeIn K cd_law_order_right "_law_order_right" = true)
    (k_law_order_right : PySem.W.keepIn K (.ref f_law_order_right) = true)
    (a_law : PySem.W.nsIn K mainGlobals "law" = some (some (.ref f_law)))
    (l_law : K.lookup f_law = some ⟨oc_law, od_law, .func (PySem.W.fnOf "law" "law" (defArgs s_law) (defBody s_law) (defScope s_law) .none kV_law dc_law pm_law an_law cd_law ct_law), sl_law⟩)
    (c_law : PySem.W.codeIn K cd_law "law" = true)
    (k_law : PySem.W.keepIn K (.ref f_law) = true)
    (z_isinstance : PySem.W.nsIn K mainGlobals "isinstance" = some none)
    (z_int : PySem.W.nsIn K mainGlobals "int" = some none)
    (z_bool : PySem.W.nsIn K mainGlobals "bool" = some none)
    (z_len : PySem.W.nsIn K mainGlobals "len" = some none)
    (z_enumerate : PySem.W.nsIn K mainGlobals "enumerate" = some none)
    (z_reversed : PySem.W.nsIn K mainGlobals "reversed" = some none)
    (z_sorted : PySem.W.nsIn K mainGlobals "sorted" = some none)
    (z_max : PySem.W.nsIn K mainGlobals "max" = some none)
    (z_min : PySem.W.nsIn K mainGlobals "min" = some none)
    (z_range : PySem.W.nsIn K mainGlobals "range" = some none)
    (z_list : PySem.W.nsIn K mainGlobals "list" = some none)
    (z_str : PySem.W.nsIn K mainGlobals "str" = some none)
    (z_tuple : PySem.W.nsIn K mainGlobals "tuple" = some none)
    (aE : PySem.W.nsIn K mainGlobals "CursorError" = some (some (.ref CE)))
    (yE : PySem.W.typeIn K (.ref CE) = some (.type "type"))
    (bE : PySem.W.subIn K (.ref CE) (.type "BaseException") = some true)
    (hE : PySem.W.hasDictIn K CE = true)
    (icE : PySem.W.isClsIn K CE = true)
    (gt : PySem.W.specialIn K (.builtin "object.__class__") "__get__" = some (some (.builtin "getset_descriptor.__get__")))
    (tk : PySem.W.takesIn K (.builtin "object.__class__") = some true)
    (a0 : PySem.W.nsIn K mainGlobals "InvalidText" = some (some (.ref C0)))
    (ty0 : PySem.W.typeIn K (.ref C0) = some (.type "type"))
    (ic0 : PySem.W.isClsIn K C0 = true)
    (a1 : PySem.W.nsIn K mainGlobals "InvalidCursor" = some (some (.ref C1)))
    (ty1 : PySem.W.typeIn K (.ref C1) = some (.type "type"))
    (ic1 : PySem.W.isClsIn K C1 = true)
    (a2 : PySem.W.nsIn K mainGlobals "InvalidCommand" = some (some (.ref C2)))
    (ty2 : PySem.W.typeIn K (.ref C2) = some (.type "type"))
    (ic2 : PySem.W.isClsIn K C2 = true)
    (a3 : PySem.W.nsIn K mainGlobals "Impossible" = some (some (.ref C3)))
    (ty3 : PySem.W.typeIn K (.ref C3) = some (.type "type"))
    (ic3 : PySem.W.isClsIn K C3 = true)
    (x3 : K.lookup C3 = some (excClassObj nm3 q3 C3 N3 bs3 [.ref CE, .type "ValueError", .type "Exception", .type "BaseException", .type "object"] true sn3 sub3 ab3 col3 dd3 p3_0 p3_1 p3_2 p3_3 p3_5 "ValueError.__new__"))
    (sa3 : PySem.W.findIn K (.ref C3) "__setattr__" = some (some (.builtin "object.__setattr__")))
    (ga3 : PySem.W.findIn K (.ref C3) "__getattribute__" = some (some (.builtin "BaseException.__getattribute__")))
    (gg3 : PySem.W.findIn K (.ref C3) "__getattr__" = some none)
    (no3 : PySem.W.findIn K (.ref C3) "value" = some none)
    (cc3 : PySem.W.findIn K (.ref C3) "__class__" = some (some (.builtin "object.__class__")))
    (in3 : PySem.W.findIn K (.ref C3) "__init__" = some (some (.ref f3)))
    (ti3 : PySem.W.typeIn K (.ref f3) = some (.type "function"))
    (l3 : K.lookup f3 = some ⟨oc3, od3, .func (PySem.W.fnOf "__init__" "Impossible.__init__" (defArgs sI3) (defBody sI3) (defScope sI3) .none kV3 dc3 pm3 an3 cd3 ct3), sl3⟩)
    (c3 : PySem.W.codeIn K cd3 "Impossible.__init__" = true)
    (k3 : PySem.W.keepIn K (.ref f3) = true)
    (kc3 : PySem.W.keepIn K (.ref C3) = true)
    (be3 : PySem.W.subIn K (.ref C3) (.type "BaseException") = some true)
    (ve3 : PySem.W.subIn K (.ref C3) (.type "ValueError") = some true)
    (hd3 : PySem.W.hasDictIn K C3 = true)
    (mo3 : PySem.W.mroIn K C3 (.type "object") = some true)
    (se3 : PySem.W.subIn K (.ref C3) (.ref CE) = some true)
    (s3_0 : PySem.W.subIn K (.ref C3) (.ref C0) = some false)
    (s3_1 : PySem.W.subIn K (.ref C3) (.ref C1) = some false)
    (s3_2 : PySem.W.subIn K (.ref C3) (.ref C2) = some false)
    (s3_3 : PySem.W.subIn K (.ref C3) (.ref C3) = some true) :
    ∃ fd : FuncData, (∀ (s : Shared) (v : Value), BindsTo s fd ⟨[v], []⟩ [("script", v)]) ∧ ∀ base : Heap, K.In base → base.Ns mainGlobals mg → FnOk l.prog w K mg base CX0 10 fa fd ["script"] (spLaw K) := by
  have e := hfa.symm.trans (PySem.W.mg_of X G a_law)
  cases e
  have F_is_count := fun_mk (st := s_is_count) l_is_count c_is_count k_is_count
  have F_is_command := fun_mk (st := s_is_command) l_is_command c_is_command k_is_command
  have F_check_commands := fun_mk (st := s_check_commands) l_check_commands c_check_commands k_check_commands
  have F_row_change := fun_mk (st := s_row_change) l_row_change c_row_change k_row_change
  have F_check_text := fun_mk (st := s_check_text) l_check_text c_check_text k_check_text
  have F_check_cursor := fun_mk (st := s_check_cursor) l_check_cursor c_check_cursor k_check_cursor
  have F_column := fun_mk (st := s_column) l_column c_column k_column
  have F_run := fun_mk (st := s_run) l_run c_run k_run
  have F_places := fun_mk (st := s_places) l_places c_places k_places
  have F_reach := fun_mk (st := s_reach) l_reach c_reach k_reach
  have F_shown_column := fun_mk (st := s_shown_column) l_shown_column c_shown_column k_shown_column
  have F_moved := fun_mk (st := s_moved) l_moved c_moved k_moved
  have F_new_goal := fun_mk (st := s_new_goal) l_new_goal c_new_goal k_new_goal
  have F_law_source := fun_mk (st := s_source) l_law_source c_law_source k_law_source
  have F_law_draw := fun_mk (st := s_sdraw) l_law_draw c_law_draw k_law_draw
  have F_law_same := fun_mk (st := s_same) l_law_same c_law_same k_law_same
  have F_law_number := fun_mk (st := s_number) l_law_number c_law_number k_law_number
  have F_law_command := fun_mk (st := s_command) l_law_command c_law_command k_law_command
  have F_law_text := fun_mk (st := s_text) l_law_text c_law_text k_law_text
  have F_law_cursor := fun_mk (st := s_cursor) l_law_cursor c_law_cursor k_law_cursor
  have F_law_shown := fun_mk (st := s_lshown) l_law_shown c_law_shown k_law_shown
  have F_law_moved := fun_mk (st := s_lmoved) l_law_moved c_law_moved k_law_moved
  have F_law_fitting := fun_mk (st := s_fitting) l_law_fitting c_law_fitting k_law_fitting
  have F_law_is_possible := fun_mk (st := s_poss) l_law_is_possible c_law_is_possible k_law_is_possible
  have F_law_at_least := fun_mk (st := s_at_least) l_law_at_least c_law_at_least k_law_at_least
  have F_law_back_right := fun_mk (st := s_back) l_law_back_right c_law_back_right k_law_back_right
  have F_law_shown_right := fun_mk (st := s_shown_right) l_law_shown_right c_law_shown_right k_law_shown_right
  have F_law_order_right := fun_mk (st := s_order) l_law_order_right c_law_order_right k_law_order_right
  have F_law := fun_mk (st := s_law) l_law c_law k_law
  have b_is_count := F_is_count.binds (ps := ["number"]) fun _ _ _ _ _ _ us hl => match us, hl with | [_], _ => rfl
  have b_is_command := F_is_command.binds (ps := ["command"]) fun _ _ _ _ _ _ us hl => match us, hl with | [_], _ => rfl
  have b_check_commands := F_check_commands.binds (ps := ["commands"]) fun _ _ _ _ _ _ us hl => match us, hl with | [_], _ => rfl
  have b_row_change := F_row_change.binds (ps := ["command"]) fun _ _ _ _ _ _ us hl => match us, hl with | [_], _ => rfl
  have b_check_text := F_check_text.binds (ps := ["text"]) fun _ _ _ _ _ _ us hl => match us, hl with | [_], _ => rfl
  have b_check_cursor := F_check_cursor.binds (ps := ["lines", "cursor"]) fun _ _ _ _ _ _ us hl => match us, hl with | [_, _], _ => rfl
  have b_column := F_column.binds (ps := ["text", "cursor"]) fun _ _ _ _ _ _ us hl => match us, hl with | [_, _], _ => rfl
  have b_run := F_run.binds (ps := ["text", "cursor", "commands"]) fun _ _ _ _ _ _ us hl => match us, hl with | [_, _, _], _ => rfl
  have b_places := F_places.binds (ps := ["text", "cursor", "commands"]) fun _ _ _ _ _ _ us hl => match us, hl with | [_, _, _], _ => rfl
  have b_reach := F_reach.binds (ps := ["commands"]) fun _ _ _ _ _ _ us hl => match us, hl with | [_], _ => rfl
  have b_shown_column := F_shown_column.binds (ps := ["length", "goal"]) fun _ _ _ _ _ _ us hl => match us, hl with | [_, _], _ => rfl
  have b_moved := F_moved.binds (ps := ["text", "cursor", "command"]) fun _ _ _ _ _ _ us hl => match us, hl with | [_, _, _], _ => rfl
  have b_new_goal := F_new_goal.binds (ps := ["length", "goal", "command"]) fun _ _ _ _ _ _ us hl => match us, hl with | [_, _, _], _ => rfl
  have b_law_source := F_law_source.binds (ps := ["script"]) fun _ _ _ _ _ _ us hl => match us, hl with | [_], _ => rfl
  have b_law_draw := F_law_draw.binds (ps := ["source", "many"]) fun _ _ _ _ _ _ us hl => match us, hl with | [_, _], _ => rfl
  have b_law_same := F_law_same.binds (ps := ["found", "wanted"]) fun _ _ _ _ _ _ us hl => match us, hl with | [_, _], _ => rfl
  have b_law_number := F_law_number.binds (ps := ["source"]) fun _ _ _ _ _ _ us hl => match us, hl with | [_], _ => rfl
  have b_law_command := F_law_command.binds (ps := ["source"]) fun _ _ _ _ _ _ us hl => match us, hl with | [_], _ => rfl
  have b_law_text := F_law_text.binds (ps := ["source", "most"]) fun _ _ _ _ _ _ us hl => match us, hl with | [_, _], _ => rfl
  have b_law_cursor := F_law_cursor.binds (ps := ["source", "sheet"]) fun _ _ _ _ _ _ us hl => match us, hl with | [_, _], _ => rfl
  have b_law_shown := F_law_shown.binds (ps := ["sheet", "spot"]) fun _ _ _ _ _ _ us hl => match us, hl with | [_, _], _ => rfl
  have b_law_moved := F_law_moved.binds (ps := ["sheet", "spot", "command"]) fun _ _ _ _ _ _ us hl => match us, hl with | [_, _, _], _ => rfl
  have b_law_fitting := F_law_fitting.binds (ps := ["source", "sheet", "spot", "many"]) fun _ _ _ _ _ _ us hl => match us, hl with | [_, _, _, _], _ => rfl
  have b_law_is_possible := F_law_is_possible.binds (ps := ["sheet", "spot", "moves"]) fun _ _ _ _ _ _ us hl => match us, hl with | [_, _, _], _ => rfl
  have b_law_at_least := F_law_at_least.binds (ps := ["one", "other"]) fun _ _ _ _ _ _ us hl => match us, hl with | [_, _], _ => rfl
  have b_law_back_right := F_law_back_right.binds (ps := ["source", "sheet", "spot"]) fun _ _ _ _ _ _ us hl => match us, hl with | [_, _, _], _ => rfl
  have b_law_shown_right := F_law_shown_right.binds (ps := ["source", "sheet", "spot"]) fun _ _ _ _ _ _ us hl => match us, hl with | [_, _, _], _ => rfl
  have b_law_order_right := F_law_order_right.binds (ps := ["source", "sheet", "spot", "moves"]) fun _ _ _ _ _ _ us hl => match us, hl with | [_, _, _, _], _ => rfl
  have kb_reach := bindsK (ps := ["commands"]) (ks := ["commands"]) F_reach fun _ _ _ _ _ _ us ws hl => by
    have hl2 : us.length + ws.length = 1 := by
      unfold gRev at hl
      rw [List.length_append, List.length_reverse] at hl
      exact hl
    match us, ws, hl2 with
    | [], [], h => simp only [List.length_cons, List.length_nil] at h; omega
    | [], [_], _ => rfl
    | [], _ :: _ :: _, h => simp only [List.length_cons, List.length_nil] at h; omega
    | [_], [], _ => rfl
    | [_], _ :: _, h => simp only [List.length_cons, List.length_nil] at h; omega
    | _ :: _ :: _, _, h => simp only [List.length_cons] at h; omega
  refine ⟨PySem.W.fnOf "law" "law" (defArgs s_law) (defBody s_law) (defScope s_law) .none kV_law dc_law pm_law an_law cd_law ct_law, fun s v => .of_eq rfl, fun base hb gb => ?_⟩
  have TB : TxtB K mg wo wn := {
    g_WITHOUT_NUMBER := PySem.W.mg_of X G aWO
    g_WITH_NUMBER := PySem.W.mg_of X G aWN
    tWO := fun H => .inr ⟨_, _, _, lWO, rfl, rfl, (by show 2 ≤ sizeLine; decide), .cons ⟨_, rfl⟩ (.cons ⟨_, rfl⟩ .nil)⟩
    tWN := fun H => .inr ⟨_, _, _, lWN, rfl, rfl, (by show 4 ≤ sizeLine; decide), .cons ⟨_, rfl⟩ (.cons ⟨_, rfl⟩ (.cons ⟨_, rfl⟩ (.cons ⟨_, rfl⟩ .nil)))⟩
    isinstance := PySem.W.mg_none_of X G z_isinstance
    int := PySem.W.mg_none_of X G z_int
    bool := PySem.W.mg_none_of X G z_bool
    len := PySem.W.mg_none_of X G z_len
    enumerate := PySem.W.mg_none_of X G z_enumerate
    reversed := PySem.W.mg_none_of X G z_reversed
    sorted := PySem.W.mg_none_of X G z_sorted
    max := PySem.W.mg_none_of X G z_max
    min := PySem.W.mg_none_of X G z_min }
  have TD : TxtD mg := { max := PySem.W.mg_none_of X G z_max }
  have TS : TxtS mg := { isinstance := PySem.W.mg_none_of X G z_isinstance, bool := PySem.W.mg_none_of X G z_bool, int := PySem.W.mg_none_of X G z_int, str := PySem.W.mg_none_of X G z_str, list := PySem.W.mg_none_of X G z_list, tuple := PySem.W.mg_none_of X G z_tuple, len := PySem.W.mg_none_of X G z_len, range := PySem.W.mg_none_of X G z_range }
  have TSh : TxtSh mg := { range := PySem.W.mg_none_of X G z_range, len := PySem.W.mg_none_of X G z_len, int := PySem.W.mg_none_of X G z_int }
  have TMv : TxtMv mg := { int := PySem.W.mg_none_of X G z_int, len := PySem.W.mg_none_of X G z_len }
  have TFt : TxtFt mg := { range := PySem.W.mg_none_of X G z_range, len := PySem.W.mg_none_of X G z_len }
  have TBk : TxtBk mg := { range := PySem.W.mg_none_of X G z_range, len := PySem.W.mg_none_of X G z_len }
  have TOr : TxtOr5 mg := { min := PySem.W.mg_none_of X G z_min, enumerate := PySem.W.mg_none_of X G z_enumerate }
  have TLw : TxtLw5 mg := { min := PySem.W.mg_none_of X G z_min, max := PySem.W.mg_none_of X G z_max, len := PySem.W.mg_none_of X G z_len, range := PySem.W.mg_none_of X G z_range, int := PySem.W.mg_none_of X G z_int }
  have C_is_count : Cal l.prog w K mg base 1 "is_count" spCount := ⟨_, _, _, ok_is_count F_is_count TB, PySem.W.mg_of X G a_is_count, k_is_count, b_is_count⟩
  have C_is_command : Cal l.prog w K mg base 2 "is_command" (spIsCmd K) := ⟨_, _, _, ok_is_command F_is_command TB C_is_count, PySem.W.mg_of X G a_is_command, k_is_command, b_is_command⟩
  have C_check_commands : Cal l.prog w K mg base 3 "check_commands" (spCheck K) := ⟨_, _, _, ok_check_commands F_check_commands TB C_is_command, PySem.W.mg_of X G a_check_commands, k_check_commands, b_check_commands⟩
  have C_row_change : Cal l.prog w K mg base 1 "row_change" (spRow K) := ⟨_, _, _, ok_row_change F_row_change, PySem.W.mg_of X G a_row_change, k_row_change, b_row_change⟩
  have C_check_text : Cal l.prog w K mg base 1 "check_text" (spText K) := ⟨_, _, _, ok_check_text F_check_text TB, PySem.W.mg_of X G a_check_text, k_check_text, b_check_text⟩
  have C_check_cursor : Cal l.prog w K mg base 1 "check_cursor" (spCursor K) := ⟨_, _, _, ok_check_cursor F_check_cursor, PySem.W.mg_of X G a_check_cursor, k_check_cursor, b_check_cursor⟩
  have C_shown_column : Cal l.prog w K mg base 1 "shown_column" spShown := ⟨_, _, _, ok_shown_column F_shown_column TB, PySem.W.mg_of X G a_shown_column, k_shown_column, b_shown_column⟩
  have C_new_goal : Cal l.prog w K mg base 2 "new_goal" (spGoal K) := ⟨_, _, _, ok_new_goal F_new_goal TB C_shown_column, PySem.W.mg_of X G a_new_goal, k_new_goal, b_new_goal⟩
  have C_moved : Cal l.prog w K mg base 3 "moved" (spMoved K) := ⟨_, _, _, ok_moved F_moved TB C_row_change C_new_goal, PySem.W.mg_of X G a_moved, k_moved, b_moved⟩
  have C_run : Cal l.prog w K mg base 4 "run" (spRun K) := ⟨_, _, _, ok_run F_run TB C_check_text C_check_cursor C_check_commands C_moved, PySem.W.mg_of X G a_run, k_run, b_run⟩
  have C_column : Cal l.prog w K mg base 2 "column" (spColumn K) := ⟨_, _, _, ok_column F_column TMv C_check_text C_check_cursor C_shown_column, PySem.W.mg_of X G a_column, k_column, b_column⟩
  have C_reach : Cal l.prog w K mg base 4 "reach" (spReach K) := ⟨_, _, _, ok_reach F_reach TB C_check_commands C_row_change, PySem.W.mg_of X G a_reach, k_reach, b_reach⟩
  have T3 : OexC K C3 := { cls := ⟨nm3, q3, N3, bs3, _, sn3, sub3, ab3, col3, dd3, p3_0, p3_1, p3_2, p3_3, p3_5, x3, by show PySem.HandSPX.refsVE [.type "ValueError", .type "Exception", .type "BaseException", .type "object"] = true; decide +kernel⟩, sa := sa3, exC := be3, tyC := ty3, kC := kc3 }
  have V3 : ErrI K C3 := { cl := ic3, ga := ga3, gg := gg3, be := be3, hd := hd3, cc := cc3, gt := gt, tk := tk, ob := mo3, no := no3 }
  have e_Impossible : ErrC l.prog w K mg base "Impossible" C3 := errc_I3 (fun_mk (st := sI3) l3 c3 k3) T3 (PySem.W.mg_of X G a3) no3 in3 ti3
  have TI : TxtIm5 K mg C3 := ⟨PySem.W.mg_of X G a3, PySem.W.exm_ref be3 hd3 ty3 s3_3⟩
  have X_run : CalX l.prog w K mg base 4 "run" (zRunI K C3) := by
    rw [zRunI_eq]
    exact ⟨_, _, _, ok_runI F_run TB C_check_text C_check_cursor C_check_commands C_moved e_Impossible, PySem.W.mg_of X G a_run, k_run, b_run⟩
  have N_places : NCal l.prog w K mg base 5 "places" (spPlacesN K) := ⟨_, _, _, ok_placesN F_places C_run C_moved, PySem.W.mg_of X G a_places, k_places, b_places⟩
  have K_reach : CalK l.prog w K mg base 4 "reach" ["commands"] (spReach K) := ⟨_, _, _, ok_reach F_reach TB C_check_commands C_row_change, PySem.W.mg_of X G a_reach, k_reach, kb_reach⟩
  have C_law_source : Cal l.prog w K mg base 1 "_law_source" (spSource K) := ⟨_, _, _, ok_source F_law_source TD, PySem.W.mg_of X G a_law_source, k_law_source, b_law_source⟩
  have C_law_draw : Cal l.prog w K mg base 1 "_law_draw" spDraw := ⟨_, _, _, ok_draw F_law_draw, PySem.W.mg_of X G a_law_draw, k_law_draw, b_law_draw⟩
  have C_law_number : Cal l.prog w K mg base 2 "_law_number" spNumber := ⟨_, _, _, ok_number F_law_number C_law_draw, PySem.W.mg_of X G a_law_number, k_law_number, b_law_number⟩
  have C_law_command : Cal l.prog w K mg base 3 "_law_command" (spCommand K) := ⟨_, _, _, ok_command F_law_command C_law_draw C_law_number, PySem.W.mg_of X G a_law_command, k_law_command, b_law_command⟩
  have C_law_text : Cal l.prog w K mg base 2 "_law_text" (spSheet K) := ⟨_, _, _, ok_sheet F_law_text TSh C_law_draw, PySem.W.mg_of X G a_law_text, k_law_text, b_law_text⟩
  have C_law_cursor : Cal l.prog w K mg base 2 "_law_cursor" (spCurs K) := ⟨_, _, _, ok_curs F_law_cursor TSh C_law_draw, PySem.W.mg_of X G a_law_cursor, k_law_cursor, b_law_cursor⟩
  have C_law_shown : Cal l.prog w K mg base 1 "_law_shown" (spLShown K) := ⟨_, _, _, ok_lshown F_law_shown, PySem.W.mg_of X G a_law_shown, k_law_shown, b_law_shown⟩
  have C_law_moved : Cal l.prog w K mg base 2 "_law_moved" (spLMoved K) := ⟨_, _, _, ok_lmoved F_law_moved TMv C_law_shown, PySem.W.mg_of X G a_law_moved, k_law_moved, b_law_moved⟩
  have C_law_fitting : Cal l.prog w K mg base 4 "_law_fitting" (spFit K) := ⟨_, _, _, ok_fit F_law_fitting TFt C_law_draw C_law_command C_law_moved, PySem.W.mg_of X G a_law_fitting, k_law_fitting, b_law_fitting⟩
  have C_law_is_possible : Cal l.prog w K mg base 5 "_law_is_possible" (spPoss K) := ⟨_, _, _, ok_poss F_law_is_possible TI X_run, PySem.W.mg_of X G a_law_is_possible, k_law_is_possible, b_law_is_possible⟩
  have C_law_at_least : Cal l.prog w K mg base 1 "_law_at_least" spAtLeast := ⟨_, _, _, ok_at_least F_law_at_least, PySem.W.mg_of X G a_law_at_least, k_law_at_least, b_law_at_least⟩
  have C_law_back_right : Cal l.prog w K mg base 5 "_law_back_right" (spBack K) := ⟨_, _, _, ok_back F_law_back_right TBk C_law_draw C_run, PySem.W.mg_of X G a_law_back_right, k_law_back_right, b_law_back_right⟩
  have C_law_shown_right : Cal l.prog w K mg base 5 "_law_shown_right" (spShownR K) := ⟨_, _, _, ok_shown_right F_law_shown_right C_law_draw C_law_shown C_run C_column, PySem.W.mg_of X G a_law_shown_right, k_law_shown_right, b_law_shown_right⟩
  have C_law_order_right : Cal l.prog w K mg base 9 "_law_order_right" (spOrder K) := ⟨_, _, _, ok_order F_law_order_right TOr C_law_draw C_run C_law_at_least N_places, PySem.W.mg_of X G a_law_order_right, k_law_order_right, b_law_order_right⟩
  have S_0 : Cal l.prog w K mg base 1 "_law_same" (spSame K 0) := ⟨_, _, _, ok_same0 F_law_same, PySem.W.mg_of X G a_law_same, k_law_same, b_law_same⟩
  have S_1 : Cal l.prog w K mg base 2 "_law_same" (spSame K 1) := ⟨_, _, _, ok_sameS F_law_same TS S_0, PySem.W.mg_of X G a_law_same, k_law_same, b_law_same⟩
  have S_2 : Cal l.prog w K mg base 3 "_law_same" (spSame K 2) := ⟨_, _, _, ok_sameS F_law_same TS S_1, PySem.W.mg_of X G a_law_same, k_law_same, b_law_same⟩
  have S_3 : Cal l.prog w K mg base 4 "_law_same" (spSame K 3) := ⟨_, _, _, ok_sameS F_law_same TS S_2, PySem.W.mg_of X G a_law_same, k_law_same, b_law_same⟩
  exact ok_law F_law TLw C_law_source C_law_draw C_law_text C_law_cursor C_law_command C_law_fitting C_law_back_right C_law_shown_right C_law_order_right C_law_is_possible S_3 C_reach K_reach
theorem walk {l : PySem.W.OpenLaw} {q : Program} {loose : List Str} {XP : (Str → Option Value) → Heap → Prop} {YP : World → Heap → Prop} {d : DefRec} {K : Params → PySem.W.Frag} (hn : l.most = some 63) (hdf : d.params.defaults = [])
    (hY : ∀ (w : World) (h : Heap), YP w h → (K w.params).In h)
    (F : ∀ (w : World) (mg : Str → Option Value) (fa : Addr) (h : Heap), (K w.params).In h → h.Ns mainGlobals mg → mg d.name = some (.ref fa) →
      ∃ fd : FuncData, (∀ (s : Shared) (u : Value), BindsTo s fd ⟨[u], []⟩ [("script", u)]) ∧ ∀ base : Heap, (K w.params).In base → base.Ns mainGlobals mg → FnOk l.prog w (K w.params) mg base CX0 10 fa fd ["script"] (spLaw (K w.params))) :
    PySem.W.WalkO q loose XP YP l.row.toRowW d [] (fun f vs => PySem.call f vs) :=
  L2.walk_of (n := 63) (k := 10) (x := "script") (CX := fun _ => CX0) (sp := fun w => spLaw (K w.params)) hn (by decide) hdf ⟨rfl, by decide, by decide⟩ hY F (fun _ _ a ns hl _ hS => ⟨a, ns, rfl, hS, hl, fun _ => rfl⟩) fun _ _ _ _ _ z => z
end Gc

open PySem PySem.W PyProof.Rows in
set_option maxRecDepth 100000 in
set_option maxHeartbeats 0 in
theorem PySem.Challenge.cw_goalcolumn_k05_whole_cursors_and_lines_holds : PySem.Challenge.rw_goalcolumn_k05_whole_cursors_and_lines.Holds := by
  w_on; o_law; k_head; (case hw => w_witness2)
  k_fill
  refine Gc.walk (l := PySem.Challenge.rw_goalcolumn_k05_whole_cursors_and_lines) rfl rfl (fun w h Y => PySem.W.kIn_of Y) ?F
  case F =>
    intro w mg fa h KX G hmg
    refine' Gc.all_mk KX G hmg ?aWN ?aWO ?lWN ?lWO ?a_is_count ?l_is_count ?c_is_count ?k_is_count ?a_is_command ?l_is_command ?c_is_command ?k_is_command ?a_check_commands ?l_check_commands ?c_check_commands ?k_check_commands ?a_row_change ?l_row_change ?c_row_change ?k_row_change ?a_check_text ?l_check_text ?c_check_text ?k_check_text ?a_check_cursor ?l_check_cursor ?c_check_cursor ?k_check_cursor ?a_column ?l_column ?c_column ?k_column ?a_run ?l_run ?c_run ?k_run ?a_places ?l_places ?c_places ?k_places ?a_reach ?l_reach ?c_reach ?k_reach ?a_shown_column ?l_shown_column ?c_shown_column ?k_shown_column ?a_moved ?l_moved ?c_moved ?k_moved ?a_new_goal ?l_new_goal ?c_new_goal ?k_new_goal ?a_law_source ?l_law_source ?c_law_source ?k_law_source ?a_law_draw ?l_law_draw ?c_law_draw ?k_law_draw ?a_law_same ?l_law_same ?c_law_same ?k_law_same ?a_law_number ?l_law_number ?c_law_number ?k_law_number ?a_law_command ?l_law_command ?c_law_command ?k_law_command ?a_law_text ?l_law_text ?c_law_text ?k_law_text ?a_law_cursor ?l_law_cursor ?c_law_cursor ?k_law_cursor ?a_law_shown ?l_law_shown ?c_law_shown ?k_law_shown ?a_law_moved ?l_law_moved ?c_law_moved ?k_law_moved ?a_law_fitting ?l_law_fitting ?c_law_fitting ?k_law_fitting ?a_law_is_possible ?l_law_is_possible ?c_law_is_possible ?k_law_is_possible ?a_law_at_least ?l_law_at_least ?c_law_at_least ?k_law_at_least ?a_law_back_right ?l_law_back_right ?c_law_back_right ?k_law_back_right ?a_law_shown_right ?l_law_shown_right ?c_law_shown_right ?k_law_shown_right ?a_law_order_right ?l_law_order_right ?c_law_order_right ?k_law_order_right ?a_law ?l_law ?c_law ?k_law ?z_isinstance ?z_int ?z_bool ?z_len ?z_enumerate ?z_reversed ?z_sorted ?z_max ?z_min ?z_range ?z_list ?z_str ?z_tuple ?aE ?yE ?bE ?hE ?icE ?gt ?tk ?a0 ?ty0 ?ic0 ?a1 ?ty1 ?ic1 ?a2 ?ty2 ?ic2 ?a3 ?ty3 ?ic3 ?x3 ?sa3 ?ga3 ?gg3 ?no3 ?cc3 ?in3 ?ti3 ?l3 ?c3 ?k3 ?kc3 ?be3 ?ve3 ?hd3 ?mo3 ?se3 ?s3_0 ?s3_1 ?s3_2 ?s3_3
    (case aWN => k_is)
    (case aWO => k_is)
    (case lWN => k_is)
    (case lWO => k_is)
    (case a_is_count => k_is)
    (case l_is_count => k_is)
    (case c_is_count => k_is)
    (case k_is_count => k_is)
    (case a_is_command => k_is)
    (case l_is_command => k_is)
    (case c_is_command => k_is)
    (case k_is_command => k_is)
    (case a_check_commands => k_is)
    (case l_check_commands => k_is)
    (case c_check_commands => k_is)
    (case k_check_commands => k_is)
    (case a_row_change => k_is)
    (case l_row_change => k_is)
    (case c_row_change => k_is)
    (case k_row_change => k_is)
    (case a_check_text => k_is)
    (case l_check_text => k_is)
    (case c_check_text => k_is)
    (case k_check_text => k_is)
    (case a_check_cursor => k_is)
    (case l_check_cursor => k_is)
    (case c_check_cursor => k_is)
    (case k_check_cursor => k_is)
    (case a_column => k_is)
    (case l_column => k_is)
    (case c_column => k_is)
    (case k_column => k_is)
    (case a_run => k_is)
    (case l_run => k_is)
    (case c_run => k_is)
    (case k_run => k_is)
    (case a_places => k_is)
    (case l_places => k_is)
    (case c_places => k_is)
    (case k_places => k_is)
    (case a_reach => k_is)
    (case l_reach => k_is)
    (case c_reach => k_is)
    (case k_reach => k_is)
    (case a_shown_column => k_is)
    (case l_shown_column => k_is)
    (case c_shown_column => k_is)
    (case k_shown_column => k_is)
    (case a_moved => k_is)
    (case l_moved => k_is)
    (case c_moved => k_is)
    (case k_moved => k_is)
    (case a_new_goal => k_is)
    (case l_new_goal => k_is)
    (case c_new_goal => k_is)
    (case k_new_goal => k_is)
    (case a_law_source => k_is)
    (case l_law_source => k_is)
    (case c_law_source => k_is)
    (case k_law_source => k_is)
    (case a_law_draw => k_is)
    (case l_law_draw => k_is)
    (case c_law_draw => k_is)
    (case k_law_draw => k_is)
    (case a_law_same => k_is)
    (case l_law_same => k_is)
    (case c_law_same => k_is)
    (case k_law_same => k_is)
    (case a_law_number => k_is)
    (case l_law_number => k_is)
    (case c_law_number => k_is)
    (case k_law_number => k_is)
    (case a_law_command => k_is)
    (case l_law_command => k_is)
    (case c_law_command => k_is)
    (case k_law_command => k_is)
    (case a_law_text => k_is)
    (case l_law_text => k_is)
    (case c_law_text => k_is)
    (case k_law_text => k_is)
    (case a_law_cursor => k_is)
    (case l_law_cursor => k_is)
    (case c_law_cursor => k_is)
    (case k_law_cursor => k_is)
    (case a_law_shown => k_is)
    (case l_law_shown => k_is)
    (case c_law_shown => k_is)
    (case k_law_shown => k_is)
    (case a_law_moved => k_is)
    (case l_law_moved => k_is)
    (case c_law_moved => k_is)
    (case k_law_moved => k_is)
    (case a_law_fitting => k_is)
    (case l_law_fitting => k_is)
    (case c_law_fitting => k_is)
    (case k_law_fitting => k_is)
    (case a_law_is_possible => k_is)
    (case l_law_is_possible => k_is)
    (case c_law_is_possible => k_is)
    (case k_law_is_possible => k_is)
    (case a_law_at_least => k_is)
    (case l_law_at_least => k_is)
    (case c_law_at_least => k_is)
    (case k_law_at_least => k_is)
    (case a_law_back_right => k_is)
    (case l_law_back_right => k_is)
    (case c_law_back_right => k_is)
    (case k_law_back_right => k_is)
    (case a_law_shown_right => k_is)
    (case l_law_shown_right => k_is)
    (case c_law_shown_right => k_is)
    (case k_law_shown_right => k_is)
    (case a_law_order_right => k_is)
    (case l_law_order_right => k_is)
    (case c_law_order_right => k_is)
    (case k_law_order_right => k_is)
    (case a_law => k_is)
    (case l_law => k_is)
    (case c_law => k_is)
    (case k_law => k_is)
    (case z_isinstance => k_is)
    (case z_int => k_is)
    (case z_bool => k_is)
    (case z_len => k_is)
    (case z_enumerate => k_is)
    (case z_reversed => k_is)
    (case z_sorted => k_is)
    (case z_max => k_is)
    (case z_min => k_is)
    (case z_range => k_is)
    (case z_list => k_is)
    (case z_str => k_is)
    (case z_tuple => k_is)
    (case aE => k_is)
    (case yE => k_is)
    (case bE => k_is)
    (case hE => k_is)
    (case icE => k_is)
    (case gt => k_is)
    (case tk => k_is)
    (case a0 => k_is)
    (case ty0 => k_is)
    (case ic0 => k_is)
    (case a1 => k_is)
    (case ty1 => k_is)
    (case ic1 => k_is)
    (case a2 => k_is)
    (case ty2 => k_is)
    (case ic2 => k_is)
    (case a3 => k_is)
    (case ty3 => k_is)
    (case ic3 => k_is)
    (case x3 => k_is)
    (case sa3 => k_is)
    (case ga3 => k_is)
    (case gg3 => k_is)
    (case no3 => k_is)
    (case cc3 => k_is)
    (case in3 => k_is)
    (case ti3 => k_is)
    (case l3 => k_is)
    (case c3 => k_is)
    (case k3 => k_is)
    (case kc3 => k_is)
    (case be3 => k_is)
    (case ve3 => k_is)
    (case hd3 => k_is)
    (case mo3 => k_is)
    (case se3 => k_is)
    (case s3_0 => k_is)
    (case s3_1 => k_is)
    (case s3_2 => k_is)
    (case s3_3 => k_is)
