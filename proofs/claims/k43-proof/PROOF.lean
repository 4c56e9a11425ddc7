import PyProof.Rows.All
import Wide.All
import OpenK.AllK
import Wide.FinOn
import HandS.Comp
import HandS.Iter
import HandS.Dict
import HandS.Flow
import HandS.Rev
import HandS.Walk
import HandS.WordsList
import HandS.WordsDict
import HandS.IsInst
import HandS.Wide
import HandS.Codes
import HandS.Style
import KE.SortData
import HandS.Base
import HandS.Call
import HandS.List
import HandS.Words
import HandS.DictTup
import PyProof.RulesMatch
import HandS.Sort
import HandS.Text
import HandS.StrMore
import HandS.More
import HandS.Exc
import HandS.ExcOwn
import HandS.ExcInit
import HandS.ExcField
import HandS.WordsExc
import HandS.GenBody
import HandS.GenYield
import HandS.GenCall
import HandS.GenList
import HandS.ForMost
import HandS.HotCalls
import KE.KIsAll
import KE.KExcIs
import HandS.TryOnly
import PyProof.StrOps2
import HandS.ExcIs
import PySem.Challenge.RW_goalcolumn_k43_whole_texts_and_cursors
set_option Elab.async false
set_option linter.all false
set_option maxRecDepth 100000
set_option maxHeartbeats 4000000
namespace Gc
open PySem PyProof.Rows L2
/-! ### heaps: all that stood but at two places -/
def Keep (a d : Addr) (H H' : Hp) : Prop := ∀ b o, b ≠ a → b ≠ d → H b = some o → H' b = some o
theorem Keep.refl {a d : Addr} (H : Hp) : Keep a d H H := fun _ _ _ _ h => h
theorem Keep.trans {a d : Addr} {H H1 H2 : Hp} (x : Keep a d H H1) (y : Keep a d H1 H2) : Keep a d H H2 := fun b o h1 h2 h => y b o h1 h2 (x b o h1 h2 h)
theorem Keep.of {a d : Addr} {H H' : Hp} (e : Same H H') : Keep a d H H' := fun b o _ _ h => e b o h
theorem same_upd {H H' : Hp} {p : Addr} {o : HO} (e : Same H H') (h : H' p = none) : Same H (upd H' p o) := fun b u hb => by
  rw [upd_ne (ne_of_none (e b u hb) h)]
  exact e b u hb
theorem Keep.upd1 {a d : Addr} {H H' : Hp} {o : HO} (e : Keep a d H H') : Keep a d H (upd H' a o) := fun b u h1 h2 h => by
  rw [upd_ne h1]
  exact e b u h1 h2 h
theorem Keep.upd2 {a d : Addr} {H H' : Hp} {o : HO} (e : Keep a d H H') : Keep a d H (upd H' d o) := fun b u h1 h2 h => by
  rw [upd_ne h2]
  exact e b u h1 h2 h
theorem Keep.new {a d p : Addr} {H H' : Hp} {o : HO} (e : Keep a d H H') (h : H' p = none) : Keep a d H (upd H' p o) := fun b u h1 h2 hb => by
  rw [upd_ne (ne_of_none (e b u h1 h2 hb) h)]
  exact e b u h1 h2 hb

theorem cpow {i j : Int} (h : (decide (0 ≤ j) && (decide (j ≤ 1000000) && decide (i.natAbs < 2 ^ 64))) = true) : CPow i j := by
  rw [Bool.and_eq_true, Bool.and_eq_true] at h
  exact ⟨of_decide_eq_true h.1, of_decide_eq_true h.2.1, of_decide_eq_true h.2.2⟩
theorem pow_small {x : Int} {a k b : Nat} (h : x.natAbs < 2 ^ a) (hb : a * k < b) : (x ^ k).natAbs < 2 ^ b := by
  rw [Int.natAbs_pow]
  have h1 : x.natAbs ^ k ≤ (2 ^ a) ^ k := Nat.pow_le_pow_left (Nat.le_of_lt h) k
  rw [← Nat.pow_mul] at h1
  exact Nat.lt_of_le_of_lt h1 (Nat.pow_lt_pow_right (by decide) hb)
theorem int_at {ns : List Int} {i : Nat} {y : V} (h : (ns.map V.int)[i]? = some y) : ∃ u, y = V.int u := by
  rw [List.getElem?_map] at h
  cases e : ns[i]? with
  | none =>
    rw [e] at h
    cases h
  | some u =>
    rw [e] at h
    exact ⟨u, (Option.some.inj h).symm⟩
theorem dp_ints {K : PySem.W.Frag} {H : Hp} : ∀ ns : List Int, DpAll K H (ns.map V.int) (ns.map PyData.int)
  | [] => .nil
  | x :: r => .cons (.int x) (dp_ints r)
/-- a def that is called by its name and lets nothing out -/
structure Cal (P : Program) (w : World) (K : PySem.W.Frag) (mg : Str → Option Value) (base : Heap) (k : Nat) (x : Str) (sp : Sp) : Prop where
  ex : ∃ (f : Addr) (fd : FuncData) (ps : List Str), FnOk P w K mg base CX0 k f fd ps sp ∧
    mg x = some (.ref f) ∧ PySem.W.keepIn K (.ref f) = true ∧ Binds K fd ps []
theorem pe_cal {X : Cx} {k j : Nat} {x : Str} {sp : Sp} {p pos : Pos} {e : Expr} {es : List Expr} {t : TA}
    (c : Cal X.prog X.w X.K X.mg X.base k x sp) (hr : Room j X.A) (hk : k ≤ j) (hg : Gl X x) (ha : PA X (e :: es) t)
    (hdb : (x == ("__debug__" : Str)) = false := by decide)
    (he : starEach (e :: es) X.env = (false, eval e X.env) :: starEach es X.env := by rfl)
    (hpl : (backTo pos (starEach es X.env)).any (·.1) = false := by rfl) :
    PE X (.Call (.Name x p) (e :: es) [] pos) (tCall sp [] E0 t) := by
  obtain ⟨f, fd, ps, F, hm, kp, b⟩ := c.ex
  exact pe_call F (hr.mono hk) hg hm kp b .nil pass0 ha hdb he hpl

/-! ### data carried along -/
theorem seq_t {K : PySem.W.Frag} {H H' : Hp} {a : Addr} {xs : List V} (e : Same H H') (h : SqT K H a xs) : SqT K H' a xs := by
  rcases h with (h | ⟨o, h⟩) | h
  · exact .inl (.inl (e _ _ h))
  · exact .inl (.inr ⟨o, e _ _ h⟩)
  · exact .inr h
mutual
theorem dp_same {K : PySem.W.Frag} {H H' : Hp} (e : Same H H') : ∀ (d : PyData) (v : V), Dp K H v d → Dp K H' v d
  | .none, _, h => by cases h; exact .non
  | .bool b, _, h => by cases h; exact .bl b
  | .int i, _, h => by cases h; exact .int i
  | .str x, _, h => by cases h; exact .str x
  | .list ds, _, h => by
    cases h with
    | lst q r => exact .lst (e.seq q) (dps_same e ds _ r)
  | .tuple ds, _, h => by
    cases h with
    | tup q r => exact .tup (seq_t e q) (dps_same e ds _ r)
  | .dict _, _, h => by cases h
theorem dps_same {K : PySem.W.Frag} {H H' : Hp} (e : Same H H') : ∀ (ds : List PyData) (vs : List V), DpAll K H vs ds → DpAll K H' vs ds
  | [], _, h => by cases h; exact .nil
  | d :: ds, _, h => by
    cases h with
    | cons a b => exact .cons (dp_same e d _ a) (dps_same e ds _ b)
end
theorem dps_len {K : PySem.W.Frag} {H : Hp} : ∀ {vs : List V} {ds : List PyData}, DpAll K H vs ds → vs.length = ds.length
  | [], _, h => by cases h; rfl
  | _ :: vs, _, h => by
    cases h with
    | cons a b => rw [List.length_cons, List.length_cons, dps_len b]
theorem dps_at {K : PySem.W.Frag} {H : Hp} : ∀ {vs : List V} {ds : List PyData} {i : Nat}, DpAll K H vs ds → i < ds.length → ∃ v d, vs[i]? = some v ∧ ds[i]? = some d ∧ Dp K H v d
  | _, _, 0, h, l => by
    cases h with
    | nil => exact absurd l (by decide)
    | cons a b => exact ⟨_, _, rfl, rfl, a⟩
  | _, _, i + 1, h, l => by
    cases h with
    | nil => exact absurd l (Nat.not_lt_zero _)
    | cons a b => exact dps_at (i := i) b (Nat.lt_of_succ_lt_succ l)
theorem depth_at : ∀ {ds : List PyData} {i : Nat} {d : PyData}, ds[i]? = some d → d.depth ≤ PyData.depthAll ds
  | [], i, d, h => by simp at h
  | x :: r, 0, d, h => by
    have e : x = d := Option.some.inj h
    subst e
    simp only [PyData.depthAll]
    exact Nat.le_max_left _ _
  | x :: r, i + 1, d, h => by
    have ih := depth_at (ds := r) (i := i) (d := d) h
    simp only [PyData.depthAll]
    exact Nat.le_trans ih (Nat.le_max_right _ _)
theorem ty_l {K : PySem.W.Frag} {H : Hp} {a : Addr} {xs : List V} (h : SqL K H a xs) : TyX K H (.ref a) (.type "list") := by
  rcases h with (h | ⟨o, h⟩) | h
  · exact .base (.lst h)
  · exact .base (.frz h)
  · obtain ⟨o, its, n, e, c, _⟩ := h
    exact .kList e c
theorem ty_t {K : PySem.W.Frag} {H : Hp} {a : Addr} {xs : List V} (h : SqT K H a xs) : TyX K H (.ref a) (.type "tuple") := by
  rcases h with (h | ⟨o, h⟩) | h
  · exact .base (.tup h)
  · exact .fTuple h
  · obtain ⟨o, its, n, e, c, _⟩ := h
    exact .kTuple e c
theorem isi_q {K : PySem.W.Frag} {H : Hp} {x : V} {t n : String} {b : Bool} {Q : VK} (ty : TyX K H x (.type t)) (k : kitB t n = some b) (q : Q (.bl b) H) : rIsi K [x, .ty n] H Q :=
  ⟨x, .ty n, .type t, .type n, b, rfl, .ty n, ty, kit_ty k, q⟩
theorem log9 {x : Int} {a : Nat} (h : x.natAbs < 2 ^ a) (ha : a < 9000) : x.natAbs.log2 < 9000 :=
  Nat.lt_of_le_of_lt (Nat.le_of_lt_succ (PySem.Flt.log2_lt_of (k := a + 1) (Nat.succ_pos _) (Nat.lt_trans h (Nat.pow_lt_pow_right (by decide) (Nat.lt_succ_self a))))) ha
/-- a power of any whole number, its size told -/
def CPowW (i j : Int) : Prop := 0 ≤ j ∧ j ≤ 64 ∧ i.natAbs.log2 < 100000
theorem op_powW {X : Cx} : OpR X (binaryOp .Pow) (rI CPowW fun i j => .int (i ^ j.toNat)) := opI fun i j _ _ _ _ _ hc q => by
  refine pow_int hc.1 ?_ q
  have h1 : Builtin.Int.intBits i ≤ i.natAbs.log2 + 1 := by
    unfold Builtin.Int.intBits
    split <;> omega
  have h2 := hc.2.1
  have h3 := hc.2.2
  have h4 : (Builtin.Int.intBits i : Int) ≤ 100000 := by omega
  calc (Builtin.Int.intBits i : Int) * j ≤ 100000 * 64 := Int.mul_le_mul h4 h2 hc.1 (by decide)
    _ ≤ 2 ^ 27 := by decide
theorem cpowW {i j : Int} {a : Nat} (hj : 0 ≤ j) (hj2 : j ≤ 64) (h : i.natAbs < 2 ^ a) (ha : a < 100000) : CPowW i j :=
  ⟨hj, hj2, Nat.lt_of_le_of_lt (Nat.le_of_lt_succ (PySem.Flt.log2_lt_of (k := a + 1) (Nat.succ_pos _) (Nat.lt_trans h (Nat.pow_lt_pow_right (by decide) (Nat.lt_succ_self a))))) ha⟩
def rLenQ (K : PySem.W.Frag) : List V → Hp → VK → Prop := fun xs H Q => ∃ p ys, xs = [.ref p] ∧ (SqL K H p ys ∨ SqT K H p ys) ∧ Q (.int ys.length) H
end Gc

/-! boxes of lists of commands: what the program reckons, over plain lists; and the laws of it -/
namespace Gc
inductive Cmd where
  | down (n : Int) | up (n : Int) | right (n : Int) | left (n : Int) | home | stop
  deriving DecidableEq
def Cmd.dv : Cmd → Int
  | .down n => n
  | .up n => -n
  | _ => 0
def Cmd.ok : Cmd → Prop
  | .down n => 1 ≤ n
  | .up n => 1 ≤ n
  | .right n => 1 ≤ n
  | .left n => 1 ≤ n
  | _ => True
def last (cs : List Cmd) : Int := (cs.map Cmd.dv).sum
abbrev Ps := List (Int × Int)
def leK (p q : Int × Int) : Bool := decide (p.1 < q.1 ∨ (p.1 = q.1 ∧ p.2 ≤ q.2))
def look (b : Ps) (k : Int) : Option Int := (b.find? fun q => q.1 = k).map (·.2)
def put (b : Ps) (k v : Int) : Ps := if b.any (fun q => q.1 = k) then b.map (fun q => if q.1 = k then (q.1, v) else q) else b ++ [(k, v)]
def mx (i j : Int) : Int := if j > i then j else i
def req (b : Ps) (o v : Int) : Ps := put b o (mx v ((look b o).getD v))
def go : List Cmd → Int → Int → Ps → Option (Option Int × Ps)
  | [], _, need, b => some (some need, b)
  | .home :: _, _, _, _ => none
  | .stop :: _, _, _, b => some (none, b)
  | .right n :: r, off, need, b => if need > n then go r off (need - n) (req b off need) else some (none, req b off need)
  | .left n :: r, off, need, b => go r off (need + n) (req b off (need + n))
  | .down n :: r, off, need, b => go r (off - n) need b
  | .up n :: r, off, need, b => go r (off + n) need b
def srt (x : Option Int × Ps) : Option Int × Ps := (x.1, x.2.mergeSort leK)
def boxM (cs : List Cmd) (goal : Int) : Option (Option Int × Ps) := (go cs.reverse (last cs) goal []).map srt

/-! ### association lists as functions -/
def val (b : Ps) (k : Int) : Int := (look b k).getD 0
def keys (b : Ps) : List Int := b.map (·.1)
structure Good (b : Ps) : Prop where
  nd : (keys b).Nodup
  pos : ∀ q ∈ b, 1 ≤ q.2
theorem good_nil : Good [] := ⟨List.nodup_nil, fun _ h => nomatch h⟩
theorem look_nil (k : Int) : look [] k = none := rfl
theorem look_cons (q : Int × Int) (b : Ps) (k : Int) : look (q :: b) k = if q.1 = k then some q.2 else look b k := by
  unfold look
  rw [List.find?_cons]
  by_cases h : q.1 = k
  · simp [h]
  · simp [h]
theorem look_none {b : Ps} {k : Int} : look b k = none ↔ k ∉ keys b := by
  induction b with
  | nil => simp [look, keys]
  | cons q b ih =>
    rw [look_cons]
    by_cases h : q.1 = k
    · rw [if_pos h]
      simp [keys, h]
    · rw [if_neg h, ih]
      simp only [keys, List.map_cons, List.mem_cons, not_or]
      exact ⟨fun x => ⟨fun e => h e.symm, x⟩, fun x => x.2⟩
theorem look_mem {b : Ps} {k v : Int} (h : look b k = some v) : (k, v) ∈ b := by
  induction b with
  | nil => cases h
  | cons q b ih =>
    rw [look_cons] at h
    by_cases e : q.1 = k
    · rw [if_pos e] at h
      have e2 := Option.some.inj h
      rw [← e, ← e2]
      exact List.mem_cons_self
    · rw [if_neg e] at h
      exact List.mem_cons_of_mem _ (ih h)
theorem mem_look {b : Ps} {q : Int × Int} (n : (keys b).Nodup) (h : q ∈ b) : look b q.1 = some q.2 := by
  induction b with
  | nil => cases h
  | cons p b ih =>
    have n' : p.1 ∉ keys b ∧ (keys b).Nodup := List.nodup_cons.mp n
    rw [look_cons]
    rcases List.mem_cons.mp h with e | h
    · rw [e, if_pos rfl]
    · have ne : p.1 ≠ q.1 := fun e => n'.1 (by rw [e]; exact List.mem_map.mpr ⟨q, h, rfl⟩)
      rw [if_neg ne]
      exact ih n'.2 h
theorem any_key (b : Ps) (k : Int) : b.any (fun q => q.1 = k) = true ↔ k ∈ keys b := by
  simp [keys, List.any_eq_true]
theorem look_put (b : Ps) (k v j : Int) : look (put b k v) j = if k = j then some v else look b j := by
  unfold put
  by_cases h : b.any (fun q => q.1 = k) = true
  · rw [if_pos h]
    induction b with
    | nil => simp at h
    | cons q b ih =>
      rw [List.map_cons, look_cons, look_cons]
      by_cases e : q.1 = k
      · rw [if_pos e]
        by_cases e2 : k = j
        · simp [e, e2]
        · simp only [e, e2, if_false]
          by_cases hb : b.any (fun q => q.1 = k) = true
          · rw [ih hb, if_neg e2]
          · have nm : ∀ p ∈ b, ¬ p.1 = k := fun p hp z => hb (List.any_eq_true.mpr ⟨p, hp, by simpa using z⟩)
            have em : b.map (fun q => if q.1 = k then (q.1, v) else q) = b := by
              conv => rhs; rw [← List.map_id b]
              exact List.map_congr_left fun p hp => by simp [nm p hp]
            rw [em]
      · rw [if_neg e]
        have hb : b.any (fun q => q.1 = k) = true := by
          rw [List.any_cons] at h
          simpa [e] using h
        by_cases e2 : q.1 = j
        · have e3 : ¬ k = j := fun z => e (e2.trans z.symm)
          simp [e2, e3]
        · simp only [e2, if_false]
          exact ih hb
  · rw [if_neg h]
    have nk : k ∉ keys b := fun z => h ((any_key b k).mpr z)
    clear h
    induction b with
    | nil =>
      show look [(k, v)] j = _
      rw [look_cons]
    | cons q b ih =>
      have n1 : ¬ q.1 = k := fun z => nk (by simp [keys, z])
      have n2 : k ∉ keys b := fun z => nk (List.mem_cons_of_mem _ z)
      rw [List.cons_append, look_cons, look_cons]
      by_cases e2 : q.1 = j
      · have e3 : ¬ k = j := fun z => n1 (e2.trans z.symm)
        simp [e2, e3]
      · simp only [e2, if_false]
        exact ih n2
theorem keys_put (b : Ps) (k v : Int) : keys (put b k v) = if k ∈ keys b then keys b else keys b ++ [k] := by
  unfold put
  by_cases h : b.any (fun q => q.1 = k) = true
  · rw [if_pos h, if_pos ((any_key b k).mp h)]
    unfold keys
    rw [List.map_map]
    refine List.map_congr_left fun p _ => ?_
    show (if p.1 = k then (p.1, v) else p).1 = p.1
    split <;> rfl
  · rw [if_neg h, if_neg fun z => h ((any_key b k).mpr z)]
    simp [keys]
theorem good_put {b : Ps} {k v : Int} (g : Good b) (hv : 1 ≤ v) : Good (put b k v) := by
  have nd : (keys (put b k v)).Nodup := by
    rw [keys_put]
    split
    · exact g.nd
    · rename_i h
      rw [List.nodup_append]
      exact ⟨g.nd, by simp, fun a ha c hc => by
        rw [List.mem_singleton.mp hc]
        intro z
        exact h (z ▸ ha)⟩
  refine ⟨nd, fun q hq => ?_⟩
  have e := mem_look nd hq
  rw [look_put] at e
  split at e
  · rw [← Option.some.inj e]
    exact hv
  · exact g.pos (q.1, q.2) (look_mem e)
theorem val_nonneg {b : Ps} (g : Good b) (k : Int) : 0 ≤ val b k := by
  unfold val
  cases e : look b k with
  | none => exact Int.le_refl 0
  | some v =>
    have := g.pos _ (look_mem e)
    show 0 ≤ v
    have h : 1 ≤ v := this
    omega
theorem val_put (b : Ps) (k v j : Int) : val (put b k v) j = if k = j then v else val b j := by
  unfold val
  rw [look_put]
  split <;> rfl
/-- require, on functions -/
def reqF (f : Int → Int) (o v : Int) : Int → Int := fun k => if o = k then max v (f k) else f k
theorem val_req {b : Ps} (g : Good b) {o v : Int} (hv : 1 ≤ v) : val (req b o v) = reqF (val b) o v := by
  funext k
  unfold req reqF
  rw [val_put]
  by_cases h : o = k
  · subst h
    rw [if_pos rfl, if_pos rfl]
    unfold val mx
    cases e : look b o with
    | none =>
      show (if v > v then v else v) = max v 0
      rw [if_neg (by omega)]
      omega
    | some x =>
      show (if x > v then x else v) = max v x
      split <;> omega
  · rw [if_neg h, if_neg h]
theorem good_req {b : Ps} (g : Good b) {o v : Int} (hv : 1 ≤ v) : Good (req b o v) := by
  refine good_put g ?_
  unfold mx
  split <;> omega

/-! ### the walk, on functions -/
def goF : List Cmd → Int → Int → (Int → Int) → Option (Option Int × (Int → Int))
  | [], _, need, f => some (some need, f)
  | .home :: _, _, _, _ => none
  | .stop :: _, _, _, f => some (none, f)
  | .right n :: r, off, need, f => if need > n then goF r off (need - n) (reqF f off need) else some (none, reqF f off need)
  | .left n :: r, off, need, f => goF r off (need + n) (reqF f off (need + n))
  | .down n :: r, off, need, f => goF r (off - n) need f
  | .up n :: r, off, need, f => goF r (off + n) need f
def AllOk (cs : List Cmd) : Prop := ∀ c ∈ cs, c.ok
theorem go_goF : ∀ {r : List Cmd} {off need : Int} {b : Ps}, AllOk r → Good b → 1 ≤ need →
    (go r off need b = none ∧ goF r off need (val b) = none) ∨ ∃ st b', go r off need b = some (st, b') ∧ Good b' ∧ goF r off need (val b) = some (st, val b') ∧ ∀ n, st = some n → 1 ≤ n
  | [], off, need, b, _, g, hn => .inr ⟨_, _, rfl, g, rfl, fun n e => by rw [← Option.some.inj e]; exact hn⟩
  | .home :: r, off, need, b, _, g, hn => .inl ⟨rfl, rfl⟩
  | .stop :: r, off, need, b, _, g, hn => .inr ⟨_, _, rfl, g, rfl, fun n e => nomatch e⟩
  | .right n :: r, off, need, b, hk, g, hn => by
    have hk' : AllOk r := fun c hc => hk c (List.mem_cons_of_mem _ hc)
    simp only [go, goF]
    by_cases h : need > n
    · rw [if_pos h, if_pos h, ← val_req g hn]
      exact go_goF hk' (good_req g hn) (by omega)
    · rw [if_neg h, if_neg h, ← val_req g hn]
      exact .inr ⟨_, _, rfl, good_req g hn, rfl, fun n e => nomatch e⟩
  | .left n :: r, off, need, b, hk, g, hn => by
    have hk' : AllOk r := fun c hc => hk c (List.mem_cons_of_mem _ hc)
    have h1 : 1 ≤ n := hk _ List.mem_cons_self
    simp only [go, goF]
    rw [← val_req g (by omega)]
    exact go_goF hk' (good_req g (by omega)) (by omega)
  | .down n :: r, off, need, b, hk, g, hn => go_goF (r := r) (fun c hc => hk c (List.mem_cons_of_mem _ hc)) g hn
  | .up n :: r, off, need, b, hk, g, hn => go_goF (r := r) (fun c hc => hk c (List.mem_cons_of_mem _ hc)) g hn

/-! ### ascending lists are told by their functions -/
def Asc (b : Ps) : Prop := b.Pairwise fun p q => p.1 < q.1
theorem asc_nd {b : Ps} (h : Asc b) : (keys b).Nodup := by
  unfold keys
  rw [List.nodup_iff_pairwise_ne, List.pairwise_map]
  exact h.imp fun h => Int.ne_of_lt h
theorem leK_trans (a b c : Int × Int) (h1 : leK a b = true) (h2 : leK b c = true) : leK a c = true := by
  unfold leK at *
  have a1 := of_decide_eq_true h1
  have a2 := of_decide_eq_true h2
  exact decide_eq_true (by omega)
theorem leK_total (a b : Int × Int) : (leK a b || leK b a) = true := by
  unfold leK
  by_cases h : a.1 < b.1 ∨ (a.1 = b.1 ∧ a.2 ≤ b.2)
  · rw [decide_eq_true h]
    rfl
  · rw [decide_eq_true (show b.1 < a.1 ∨ (b.1 = a.1 ∧ b.2 ≤ a.2) by omega), Bool.or_true]
theorem asc_sort {b : Ps} (g : Good b) : Asc (b.mergeSort leK) := by
  have p := List.pairwise_mergeSort (le := leK) leK_trans leK_total b
  have pm := List.mergeSort_perm b leK
  have nd : (keys (b.mergeSort leK)).Nodup := (pm.map (fun q : Int × Int => q.1)).nodup_iff.mpr g.nd
  unfold keys at nd
  rw [List.nodup_iff_pairwise_ne, List.pairwise_map] at nd
  refine (p.and nd).imp fun h => ?_
  have a := of_decide_eq_true h.1
  have c := h.2
  omega
theorem good_perm {b c : Ps} (g : Good b) (p : c.Perm b) : Good c := ⟨(p.map (fun q : Int × Int => q.1)).nodup_iff.mpr g.nd, fun q hq => g.pos q (p.mem_iff.mp hq)⟩
theorem look_perm {b c : Ps} (g : Good b) (p : c.Perm b) (k : Int) : look c k = look b k := by
  have g' := good_perm g p
  cases e : look b k with
  | none =>
    rw [look_none] at e ⊢
    exact fun z => e ((p.map (fun q : Int × Int => q.1)).mem_iff.mp z)
  | some v => exact mem_look g'.nd (p.mem_iff.mpr (look_mem e))
theorem val_perm {b c : Ps} (g : Good b) (p : c.Perm b) : val c = val b := by
  funext k
  unfold val
  rw [look_perm g p]
theorem look_val {b c : Ps} (gb : Good b) (gc : Good c) (h : val b = val c) (k : Int) : look b k = look c k := by
  have e := congrFun h k
  unfold val at e
  cases e1 : look b k with
  | none =>
    cases e2 : look c k with
    | none => rfl
    | some v =>
      rw [e1, e2] at e
      have : 1 ≤ v := gc.pos _ (look_mem e2)
      have e' : (0 : Int) = v := e
      omega
  | some u =>
    cases e2 : look c k with
    | none =>
      rw [e1, e2] at e
      have : 1 ≤ u := gb.pos _ (look_mem e1)
      have e' : u = (0 : Int) := e
      omega
    | some v =>
      rw [e1, e2] at e
      have e' : u = v := e
      rw [e']
theorem asc_ext : ∀ {b c : Ps}, Asc b → Asc c → (∀ k, look b k = look c k) → b = c
  | [], [], _, _, _ => rfl
  | [], q :: c, _, _, h => by
    have e := h q.1
    rw [look_cons, if_pos rfl] at e
    cases e
  | q :: b, [], _, _, h => by
    have e := h q.1
    rw [look_cons, if_pos rfl] at e
    cases e
  | p :: b, q :: c, hb, hc, h => by
    have hb' := List.pairwise_cons.mp hb
    have hc' := List.pairwise_cons.mp hc
    have e1 := h p.1
    rw [look_cons, if_pos rfl, look_cons] at e1
    have e2 := h q.1
    rw [look_cons, look_cons, if_pos rfl] at e2
    have key : p.1 = q.1 := by
      by_cases x : q.1 = p.1
      · exact x.symm
      · rw [if_neg x] at e1
        rw [if_neg fun z => x z.symm] at e2
        have m1 := hc'.1 _ (look_mem e1.symm)
        have m2 := hb'.1 _ (look_mem e2)
        have m1' : q.1 < p.1 := m1
        have m2' : p.1 < q.1 := m2
        omega
    rw [if_pos key.symm] at e1
    have hpq : p = q := Prod.ext key (Option.some.inj e1)
    subst hpq
    rw [asc_ext hb'.2 hc'.2 fun k => ?_]
    have e := h k
    rw [look_cons, look_cons] at e
    by_cases x : p.1 = k
    · have n1 : look b k = none := look_none.mpr fun z => by
        obtain ⟨r, hr, er⟩ := List.mem_map.mp z
        have := hb'.1 r hr
        omega
      have n2 : look c k = none := look_none.mpr fun z => by
        obtain ⟨r, hr, er⟩ := List.mem_map.mp z
        have := hc'.1 r hr
        omega
      rw [n1, n2]
    · rw [if_neg x, if_neg x] at e
      exact e
theorem sort_ext {b c : Ps} (gb : Good b) (gc : Good c) (h : val b = val c) : b.mergeSort leK = c.mergeSort leK :=
  asc_ext (asc_sort gb) (asc_sort gc) fun k => by
    rw [look_perm gb (List.mergeSort_perm b leK), look_perm gc (List.mergeSort_perm c leK)]
    exact look_val gb gc h k
end Gc

/-! laws of boxes: joined lists, greater goals, multiplied moves -/
namespace Gc
abbrev BF := Option (Option Int × (Int → Int))
def boxF (cs : List Cmd) (goal : Int) : BF := goF cs.reverse (last cs) goal fun _ => 0
theorem val_nil : val [] = fun _ => 0 := rfl
theorem allOk_rev {cs : List Cmd} (h : AllOk cs) : AllOk cs.reverse := fun c hc => h c (List.mem_reverse.mp hc)
theorem box_spec {cs : List Cmd} {goal : Int} (h : AllOk cs) (hg : 1 ≤ goal) :
    (boxM cs goal = none ∧ boxF cs goal = none) ∨ ∃ st b, boxM cs goal = some (st, b.mergeSort leK) ∧ Good b ∧ boxF cs goal = some (st, val b) ∧ ∀ n, st = some n → 1 ≤ n := by
  unfold boxM boxF
  rw [← val_nil]
  rcases go_goF (off := last cs) (allOk_rev h) good_nil hg with ⟨e1, e2⟩ | ⟨st, b, e1, g, e2, p⟩
  · exact .inl ⟨by rw [e1]; rfl, e2⟩
  · exact .inr ⟨st, b, by rw [e1]; rfl, g, e2, p⟩
def thenF (x : BF) (k : Int → (Int → Int) → BF) : BF := match x with
  | none => none
  | some (none, g) => some (none, g)
  | some (some n, g) => k n g
theorem goF_app : ∀ (a b : List Cmd) (off need : Int) (f : Int → Int), goF (a ++ b) off need f = thenF (goF a off need f) fun n g => goF b (off - (a.map Cmd.dv).sum) n g
  | [], b, off, need, f => by
    show goF b off need f = goF b (off - 0) need f
    rw [Int.sub_zero]
  | .home :: a, b, off, need, f => rfl
  | .stop :: a, b, off, need, f => rfl
  | .right n :: a, b, off, need, f => by
    have e : off - (((Cmd.right n :: a).map Cmd.dv).sum) = off - (a.map Cmd.dv).sum := by
      rw [List.map_cons, List.sum_cons]
      show off - (0 + _) = _
      omega
    rw [e, List.cons_append]
    simp only [goF]
    by_cases h : need > n
    · rw [if_pos h, if_pos h]
      exact goF_app a b off (need - n) _
    · rw [if_neg h, if_neg h]
      rfl
  | .left n :: a, b, off, need, f => by
    have e : off - (((Cmd.left n :: a).map Cmd.dv).sum) = off - (a.map Cmd.dv).sum := by
      rw [List.map_cons, List.sum_cons]
      show off - (0 + _) = _
      omega
    rw [e, List.cons_append]
    exact goF_app a b off (need + n) _
  | .down n :: a, b, off, need, f => by
    have e : off - (((Cmd.down n :: a).map Cmd.dv).sum) = off - n - (a.map Cmd.dv).sum := by
      rw [List.map_cons, List.sum_cons]
      show off - (n + _) = _
      omega
    rw [e, List.cons_append]
    exact goF_app a b (off - n) need f
  | .up n :: a, b, off, need, f => by
    have e : off - (((Cmd.up n :: a).map Cmd.dv).sum) = off + n - (a.map Cmd.dv).sum := by
      rw [List.map_cons, List.sum_cons]
      show off - (-n + _) = _
      omega
    rw [e, List.cons_append]
    exact goF_app a b (off + n) need f
theorem goF_shift (d : Int) : ∀ (r : List Cmd) (off need : Int) (f : Int → Int), goF r (off + d) need (fun k => f (k - d)) = (goF r off need f).map fun x => (x.1, fun k => x.2 (k - d))
  | [], off, need, f => rfl
  | .home :: r, off, need, f => rfl
  | .stop :: r, off, need, f => rfl
  | .right n :: r, off, need, f => by
    have e : reqF (fun k => f (k - d)) (off + d) need = fun k => reqF f off need (k - d) := by
      funext k
      unfold reqF
      by_cases h : off + d = k
      · rw [if_pos h, if_pos (by omega)]
      · rw [if_neg h, if_neg (by omega)]
    simp only [goF]
    rw [e]
    by_cases h : need > n
    · rw [if_pos h, if_pos h]
      exact goF_shift d r off (need - n) _
    · rw [if_neg h, if_neg h]
      rfl
  | .left n :: r, off, need, f => by
    have e : reqF (fun k => f (k - d)) (off + d) (need + n) = fun k => reqF f off (need + n) (k - d) := by
      funext k
      unfold reqF
      by_cases h : off + d = k
      · rw [if_pos h, if_pos (by omega)]
      · rw [if_neg h, if_neg (by omega)]
    simp only [goF]
    rw [e]
    exact goF_shift d r off (need + n) _
  | .down n :: r, off, need, f => by
    simp only [goF]
    rw [show off + d - n = off - n + d by omega]
    exact goF_shift d r (off - n) need f
  | .up n :: r, off, need, f => by
    simp only [goF]
    rw [show off + d + n = off + n + d by omega]
    exact goF_shift d r (off + n) need f
theorem goF_max (h : Int → Int) : ∀ (r : List Cmd) (off need : Int) (f : Int → Int), goF r off need (fun k => max (f k) (h k)) = (goF r off need f).map fun x => (x.1, fun k => max (x.2 k) (h k))
  | [], off, need, f => rfl
  | .home :: r, off, need, f => rfl
  | .stop :: r, off, need, f => rfl
  | .right n :: r, off, need, f => by
    have e : reqF (fun k => max (f k) (h k)) off need = fun k => max (reqF f off need k) (h k) := by
      funext k
      unfold reqF
      show (if _ then _ else _) = _
      by_cases q : off = k
      · simp only [q, if_true]
        rw [Int.max_assoc]
      · simp only [q, if_false]
    simp only [goF]
    rw [e]
    by_cases c : need > n
    · rw [if_pos c, if_pos c]
      exact goF_max h r off (need - n) _
    · rw [if_neg c, if_neg c]
      rfl
  | .left n :: r, off, need, f => by
    have e : reqF (fun k => max (f k) (h k)) off (need + n) = fun k => max (reqF f off (need + n) k) (h k) := by
      funext k
      unfold reqF
      show (if _ then _ else _) = _
      by_cases q : off = k
      · simp only [q, if_true]
        rw [Int.max_assoc]
      · simp only [q, if_false]
    simp only [goF]
    rw [e]
    exact goF_max h r off (need + n) _
  | .down n :: r, off, need, f => goF_max h r (off - n) need f
  | .up n :: r, off, need, f => goF_max h r (off + n) need f
theorem last_app (a b : List Cmd) : last (a ++ b) = last a + last b := by
  unfold last
  rw [List.map_append, List.sum_append]
theorem sum_rev (l : List Int) : l.reverse.sum = l.sum := by
  induction l with
  | nil => rfl
  | cons a l ih =>
    rw [List.reverse_cons, List.sum_append, ih, List.sum_cons]
    simp
    omega
theorem boxF_app (early late : List Cmd) (aim : Int) (pos : ∀ st g, boxF late aim = some (st, g) → ∀ k, 0 ≤ g k) :
    boxF (early ++ late) aim = match boxF late aim with
      | none => none
      | some (none, g) => some (none, fun k => g (k - last early))
      | some (some n, g) => (boxF early n).map fun x => (x.1, fun k => max (x.2 k) (g (k - last early))) := by
  unfold boxF
  rw [List.reverse_append, goF_app, last_app, Int.add_comm (last early)]
  have sh : goF late.reverse (last late + last early) aim (fun _ => 0) = (goF late.reverse (last late) aim fun _ => 0).map fun x => (x.1, fun k => x.2 (k - last early)) :=
    goF_shift (last early) late.reverse (last late) aim fun _ => 0
  rw [sh]
  have pos' := pos
  unfold boxF at pos'
  cases e : goF late.reverse (last late) aim (fun _ => 0) with
  | none => rfl
  | some x =>
    obtain ⟨st, g⟩ := x
    cases st with
    | none => rfl
    | some n =>
      show goF early.reverse (last late + last early - (late.reverse.map Cmd.dv).sum) n (fun k => g (k - last early)) = _
      have es : (late.reverse.map Cmd.dv).sum = last late := by
        rw [List.map_reverse, sum_rev]
        rfl
      rw [es, show last late + last early - last late = last early by omega]
      have em : (fun k => g (k - last early)) = fun k => max ((fun _ => 0 : Int → Int) k) (g (k - last early)) := by
        funext k
        have := pos' _ _ e (k - last early)
        show g (k - last early) = max 0 (g (k - last early))
        omega
      rw [em, goF_max]

/-! ### the law's own joining -/
def shiftK (d : Int) (b : Ps) : Ps := b.map fun q => (q.1 + d, q.2)
def addAll (b : Ps) (l : Ps) : Ps := l.foldl (fun b q => put b q.1 (mx q.2 ((look b q.1).getD 0))) b
def joinedM (early late : List Cmd) (gone aim : Int) : Option (Option Int × Ps) := match boxM late aim with
  | none => none
  | some (none, l) => some (none, (shiftK gone l).mergeSort leK)
  | some (some n, l) => match boxM early n with
    | none => none
    | some (st, m) => some (st, (addAll (shiftK gone l) m).mergeSort leK)
theorem look_shift (d : Int) : ∀ (b : Ps) (k : Int), look (shiftK d b) k = look b (k - d)
  | [], _ => rfl
  | q :: b, k => by
    show look ((q.1 + d, q.2) :: shiftK d b) k = _
    rw [look_cons, look_cons, look_shift d b]
    by_cases h : q.1 + d = k
    · rw [if_pos h, if_pos (by omega)]
    · rw [if_neg h, if_neg (by omega)]
theorem good_shift (d : Int) {b : Ps} (g : Good b) : Good (shiftK d b) := by
  refine ⟨?_, fun q hq => ?_⟩
  · have e : keys (shiftK d b) = (keys b).map (· + d) := by
      unfold keys shiftK
      rw [List.map_map, List.map_map]
      rfl
    rw [e, List.nodup_iff_pairwise_ne, List.pairwise_map]
    exact (List.nodup_iff_pairwise_ne.mp g.nd).imp fun h => by omega
  · obtain ⟨p, hp, rfl⟩ := List.mem_map.mp hq
    exact g.pos p hp
theorem val_shift (d : Int) (b : Ps) : val (shiftK d b) = fun k => val b (k - d) := by
  funext k
  unfold val
  rw [look_shift]
theorem val_cons (q : Int × Int) (b : Ps) (k : Int) : val (q :: b) k = if q.1 = k then q.2 else val b k := by
  unfold val
  rw [look_cons]
  split <;> rfl
theorem val_out {b : Ps} {k : Int} (h : k ∉ keys b) : val b k = 0 := by
  unfold val
  rw [look_none.mpr h]
  rfl
theorem addAll_good : ∀ {l b : Ps}, Good b → Good l → Good (addAll b l) ∧ ∀ k, val (addAll b l) k = max (val l k) (val b k)
  | [], b, gb, _ => ⟨gb, fun k => by
      have := val_nonneg gb k
      show val b k = max 0 (val b k)
      omega⟩
  | q :: l, b, gb, gl => by
    have nq : q.1 ∉ keys l ∧ (keys l).Nodup := List.nodup_cons.mp gl.nd
    have p1 : 1 ≤ q.2 := gl.pos q List.mem_cons_self
    have gl' : Good l := ⟨nq.2, fun p hp => gl.pos p (List.mem_cons_of_mem _ hp)⟩
    have hv : 1 ≤ mx q.2 ((look b q.1).getD 0) := by
      unfold mx
      split <;> omega
    obtain ⟨g, v⟩ := addAll_good (b := put b q.1 (mx q.2 ((look b q.1).getD 0))) (good_put gb hv) gl'
    refine ⟨g, fun k => ?_⟩
    show val (addAll (put b q.1 (mx q.2 ((look b q.1).getD 0))) l) k = _
    rw [v k, val_put, val_cons]
    by_cases h : q.1 = k
    · subst h
      rw [if_pos rfl, if_pos rfl, val_out nq.1]
      have : mx q.2 ((look b q.1).getD 0) = max q.2 (val b q.1) := by
        unfold mx val
        split <;> omega
      rw [this]
      omega
    · rw [if_neg h, if_neg h]
theorem joined (early late : List Cmd) {aim : Int} (he : AllOk early) (hl : AllOk late) (ha : 1 ≤ aim) : boxM (early ++ late) aim = joinedM early late (last early) aim := by
  have hw : AllOk (early ++ late) := fun c hc => (List.mem_append.mp hc).elim (he c) (hl c)
  have srtd : ∀ {b c : Ps}, Good b → Good c → val b = val c → b.mergeSort leK = c.mergeSort leK := fun gb gc h => sort_ext gb gc h
  rcases box_spec hl ha with ⟨e1, e2⟩ | ⟨st, b, e1, gb, e2, pb⟩
  · have f := boxF_app early late aim fun st g h => by rw [e2] at h; cases h
    rw [e2] at f
    rcases box_spec hw ha with ⟨w1, _⟩ | ⟨_, _, _, _, w2, _⟩
    · rw [w1]
      unfold joinedM
      rw [e1]
    · rw [w2] at f
      cases f
  · have f := boxF_app early late aim fun st g h => by
      rw [e2] at h
      cases h
      exact val_nonneg gb
    rw [e2] at f
    have gs : Good (b.mergeSort leK) := good_perm gb (List.mergeSort_perm b leK)
    have vs : val (b.mergeSort leK) = val b := val_perm gb (List.mergeSort_perm b leK)
    cases st with
    | none =>
      rcases box_spec hw ha with ⟨_, w2⟩ | ⟨st', c, w1, gc, w2, _⟩
      · rw [w2] at f
        cases f
      · rw [w2] at f
        have f' := Option.some.inj f
        have f1 : st' = none := congrArg Prod.fst f'
        have f2 : val c = fun k => val b (k - last early) := congrArg Prod.snd f'
        rw [w1, f1]
        unfold joinedM
        rw [e1]
        show some ((none : Option Int), c.mergeSort leK) = some (none, (shiftK (last early) (b.mergeSort leK)).mergeSort leK)
        rw [srtd gc (good_shift _ gs) (by rw [f2, val_shift, vs])]
    | some n =>
      have hn := pb n rfl
      rcases box_spec he hn with ⟨x1, x2⟩ | ⟨st2, m, x1, gm, x2, _⟩
      · have f' : boxF (early ++ late) aim = (boxF early n).map fun x => (x.1, fun k => max (x.2 k) (val b (k - last early))) := f
        rw [x2] at f'
        rcases box_spec hw ha with ⟨w1, _⟩ | ⟨_, _, _, _, w2, _⟩
        · rw [w1]
          unfold joinedM
          rw [e1]
          show none = match boxM early n with | none => none | some (st, m) => _
          rw [x1]
        · rw [w2] at f'
          cases f'
      · have f' : boxF (early ++ late) aim = (boxF early n).map fun x => (x.1, fun k => max (x.2 k) (val b (k - last early))) := f
        rw [x2] at f'
        rcases box_spec hw ha with ⟨_, w2⟩ | ⟨st', c, w1, gc, w2, _⟩
        · rw [w2] at f'
          cases f'
        · rw [w2] at f'
          have f3 := Option.some.inj f'
          have f1 : st' = st2 := congrArg Prod.fst f3
          have f2 : val c = fun k => max (val m k) (val b (k - last early)) := congrArg Prod.snd f3
          rw [w1, f1]
          unfold joinedM
          rw [e1]
          show some (st2, c.mergeSort leK) = match boxM early n with | none => none | some (st, m) => _
          rw [x1]
          show some (st2, c.mergeSort leK) = some (st2, (addAll (shiftK (last early) (b.mergeSort leK)) (m.mergeSort leK)).mergeSort leK)
          have gms : Good (m.mergeSort leK) := good_perm gm (List.mergeSort_perm m leK)
          obtain ⟨ga, va⟩ := addAll_good (good_shift (last early) gs) gms
          rw [srtd gc ga (by
            funext k
            rw [f2, va k, val_perm gm (List.mergeSort_perm m leK), val_shift, vs])]

/-! ### a greater goal -/
theorem reqF_mono {f g : Int → Int} {o v u : Int} (h : ∀ k, f k ≤ g k) (hv : v ≤ u) (k : Int) : reqF f o v k ≤ reqF g o u k := by
  have := h k
  unfold reqF
  split <;> omega
theorem reqF_ge (f : Int → Int) (o v k : Int) : f k ≤ reqF f o v k := by
  unfold reqF
  split <;> omega
theorem goF_ge : ∀ {r : List Cmd} {off need : Int} {f : Int → Int} {st : Option Int} {g : Int → Int}, goF r off need f = some (st, g) → ∀ k, f k ≤ g k
  | [], off, need, f, st, g, h, k => by cases h; exact Int.le_refl _
  | .home :: r, off, need, f, st, g, h, k => by cases h
  | .stop :: r, off, need, f, st, g, h, k => by cases h; exact Int.le_refl _
  | .right n :: r, off, need, f, st, g, h, k => by
    simp only [goF] at h
    by_cases c : need > n
    · rw [if_pos c] at h
      exact Int.le_trans (reqF_ge f off need k) (goF_ge h k)
    · rw [if_neg c] at h
      cases h
      exact reqF_ge f off need k
  | .left n :: r, off, need, f, st, g, h, k => Int.le_trans (reqF_ge f off (need + n) k) (goF_ge (r := r) h k)
  | .down n :: r, off, need, f, st, g, h, k => goF_ge (r := r) h k
  | .up n :: r, off, need, f, st, g, h, k => goF_ge (r := r) h k
def Less (x y : BF) : Prop := y = none ∨ ∃ st g st' g', x = some (st, g) ∧ y = some (st', g') ∧ (∀ n, st = some n → ∃ n', st' = some n' ∧ n ≤ n') ∧ ∀ k, g k ≤ g' k
theorem goF_mono : ∀ {r : List Cmd} {off need need' : Int} {f f' : Int → Int}, need ≤ need' → (∀ k, f k ≤ f' k) → Less (goF r off need f) (goF r off need' f')
  | [], off, need, need', f, f', h, hf => .inr ⟨_, _, _, _, rfl, rfl, fun n e => ⟨need', rfl, by rw [← Option.some.inj e]; exact h⟩, hf⟩
  | .home :: r, off, need, need', f, f', h, hf => .inl rfl
  | .stop :: r, off, need, need', f, f', h, hf => .inr ⟨_, _, _, _, rfl, rfl, (fun n e => nomatch e), hf⟩
  | .right n :: r, off, need, need', f, f', h, hf => by
    simp only [goF]
    have m := reqF_mono (o := off) hf h
    by_cases c : need > n
    · rw [if_pos c, if_pos (by omega)]
      exact goF_mono (by omega) m
    · rw [if_neg c]
      by_cases c' : need' > n
      · rw [if_pos c']
        cases e : goF r off (need' - n) (reqF f' off need') with
        | none => exact .inl rfl
        | some x => exact .inr ⟨_, _, x.1, x.2, rfl, rfl, (fun n e => nomatch e), fun k => Int.le_trans (m k) (goF_ge e k)⟩
      · rw [if_neg c']
        exact .inr ⟨_, _, _, _, rfl, rfl, (fun n e => nomatch e), m⟩
  | .left n :: r, off, need, need', f, f', h, hf => goF_mono (r := r) (by omega) (reqF_mono (o := off) hf (by omega))
  | .down n :: r, off, need, need', f, f', h, hf => goF_mono (r := r) h hf
  | .up n :: r, off, need, need', f, f', h, hf => goF_mono (r := r) h hf
theorem box_mono {cs : List Cmd} {aim more : Int} (h : AllOk cs) (ha : 1 ≤ aim) (hm : aim ≤ more) :
    boxM cs more = none ∨ ∃ st l st' l', boxM cs aim = some (st, l) ∧ boxM cs more = some (st', l') ∧ (∀ n, st = some n → ∃ n', st' = some n' ∧ n ≤ n') ∧ ∀ q ∈ l, q.2 ≤ val l' q.1 := by
  have m : Less (boxF cs aim) (boxF cs more) := goF_mono hm fun _ => Int.le_refl _
  rcases box_spec h (show 1 ≤ more by omega) with ⟨e1, _⟩ | ⟨st', b', e1, g', e2, _⟩
  · exact .inl e1
  · rcases m with m | ⟨st, g, st2, g2, m1, m2, m3, m4⟩
    · rw [e2] at m
      cases m
    · rw [e2] at m2
      cases m2
      rcases box_spec h ha with ⟨_, x2⟩ | ⟨st3, b, x1, gb, x2, _⟩
      · rw [x2] at m1
        cases m1
      · rw [x2] at m1
        cases m1
        refine .inr ⟨st, _, st', _, x1, e1, m3, fun q hq => ?_⟩
        have gs : Good (b.mergeSort leK) := good_perm gb (List.mergeSort_perm b leK)
        have v : val (b.mergeSort leK) q.1 = q.2 := by
          unfold val
          rw [mem_look gs.nd hq]
          rfl
        rw [val_perm gb (List.mergeSort_perm b leK)] at v
        rw [val_perm g' (List.mergeSort_perm b' leK), ← v]
        exact m4 q.1

/-! ### moves multiplied -/
def Cmd.mul (F : Int) : Cmd → Cmd
  | .down n => .down (n * F)
  | .up n => .up (n * F)
  | c => c
def mulK (F : Int) (b : Ps) : Ps := b.map fun q => (q.1 * F, q.2)
theorem mul_inj {F a b : Int} (hF : 1 ≤ F) : a * F = b * F ↔ a = b := ⟨fun h => Int.eq_of_mul_eq_mul_right (by omega) h, fun h => by rw [h]⟩
theorem look_mul {F : Int} (hF : 1 ≤ F) : ∀ (b : Ps) (k : Int), look (mulK F b) (k * F) = look b k
  | [], _ => rfl
  | q :: b, k => by
    show look ((q.1 * F, q.2) :: mulK F b) (k * F) = _
    rw [look_cons, look_cons, look_mul hF b]
    by_cases h : q.1 = k
    · rw [if_pos h, if_pos (by rw [h])]
    · rw [if_neg h, if_neg fun z => h ((mul_inj hF).mp z)]
theorem put_mul {F : Int} (hF : 1 ≤ F) (b : Ps) (k v : Int) : put (mulK F b) (k * F) v = mulK F (put b k v) := by
  unfold put
  have ea : (mulK F b).any (fun q => decide (q.1 = k * F)) = b.any (fun q => decide (q.1 = k)) := by
    unfold mulK
    rw [List.any_map]
    congr 1
    funext q
    show decide (q.1 * F = k * F) = decide (q.1 = k)
    exact decide_eq_decide.mpr (mul_inj hF)
  rw [ea]
  by_cases h : b.any (fun q => decide (q.1 = k)) = true
  · rw [if_pos h, if_pos h]
    unfold mulK
    rw [List.map_map, List.map_map]
    refine List.map_congr_left fun q _ => ?_
    show (if q.1 * F = k * F then (q.1 * F, v) else (q.1 * F, q.2)) = ((if q.1 = k then (q.1, v) else q).1 * F, (if q.1 = k then (q.1, v) else q).2)
    by_cases e : q.1 = k
    · rw [if_pos e, if_pos (by rw [e])]
    · rw [if_neg e, if_neg fun z => e ((mul_inj hF).mp z)]
  · rw [if_neg h, if_neg h]
    unfold mulK
    rw [List.map_append]
    rfl
theorem req_mul {F : Int} (hF : 1 ≤ F) (b : Ps) (o v : Int) : req (mulK F b) (o * F) v = mulK F (req b o v) := by
  unfold req
  rw [look_mul hF, put_mul hF]
theorem go_mul {F : Int} (hF : 1 ≤ F) : ∀ (r : List Cmd) (off need : Int) (b : Ps), go (r.map (Cmd.mul F)) (off * F) need (mulK F b) = (go r off need b).map fun x => (x.1, mulK F x.2)
  | [], off, need, b => rfl
  | .home :: r, off, need, b => rfl
  | .stop :: r, off, need, b => rfl
  | .right n :: r, off, need, b => by
    show (if need > n then go (r.map (Cmd.mul F)) (off * F) (need - n) (req (mulK F b) (off * F) need) else some (none, req (mulK F b) (off * F) need)) = (if need > n then go r off (need - n) (req b off need) else some (none, req b off need)).map _
    rw [req_mul hF]
    by_cases c : need > n
    · rw [if_pos c, if_pos c]
      exact go_mul hF r off (need - n) _
    · rw [if_neg c, if_neg c]
      rfl
  | .left n :: r, off, need, b => by
    show go (r.map (Cmd.mul F)) (off * F) (need + n) (req (mulK F b) (off * F) (need + n)) = _
    rw [req_mul hF]
    exact go_mul hF r off (need + n) _
  | .down n :: r, off, need, b => by
    show go (r.map (Cmd.mul F)) (off * F - n * F) need (mulK F b) = _
    rw [← Int.sub_mul]
    exact go_mul hF r (off - n) need b
  | .up n :: r, off, need, b => by
    show go (r.map (Cmd.mul F)) (off * F + n * F) need (mulK F b) = _
    rw [← Int.add_mul]
    exact go_mul hF r (off + n) need b
theorem last_mul (F : Int) : ∀ cs : List Cmd, last (cs.map (Cmd.mul F)) = last cs * F
  | [] => by show (0 : Int) = 0 * F; omega
  | c :: cs => by
    have e : ∀ (c : Cmd) (cs : List Cmd), last (c :: cs) = c.dv + last cs := fun _ _ => rfl
    have d : (c.mul F).dv = c.dv * F := by
      cases c with
      | up n =>
        show -(n * F) = -n * F
        rw [Int.neg_mul]
      | down n => rfl
      | right n => show (0 : Int) = 0 * F; omega
      | left n => show (0 : Int) = 0 * F; omega
      | home => show (0 : Int) = 0 * F; omega
      | stop => show (0 : Int) = 0 * F; omega
    rw [List.map_cons, e, e, last_mul F cs, d, Int.add_mul]
theorem good_mul {F : Int} (hF : 1 ≤ F) {b : Ps} (g : Good b) : Good (mulK F b) := by
  refine ⟨?_, fun q hq => ?_⟩
  · have e : keys (mulK F b) = (keys b).map (· * F) := by
      unfold keys mulK
      rw [List.map_map, List.map_map]
      rfl
    rw [e, List.nodup_iff_pairwise_ne, List.pairwise_map]
    exact (List.nodup_iff_pairwise_ne.mp g.nd).imp fun h z => h ((mul_inj hF).mp z)
  · obtain ⟨p, hp, rfl⟩ := List.mem_map.mp hq
    exact g.pos p hp
theorem asc_mul {F : Int} (hF : 1 ≤ F) {b : Ps} (h : Asc b) : Asc (mulK F b) := by
  unfold Asc mulK
  rw [List.pairwise_map]
  exact h.imp fun h => Int.mul_lt_mul_of_pos_right h (by omega)
theorem box_mul {F : Int} (hF : 1 ≤ F) {cs : List Cmd} {goal : Int} (h : AllOk cs) (hg : 1 ≤ goal) :
    boxM (cs.map (Cmd.mul F)) goal = (boxM cs goal).map fun x => (x.1, mulK F x.2) := by
  unfold boxM
  rw [last_mul, ← List.map_reverse]
  have e := go_mul hF cs.reverse (last cs) goal []
  have e' : go (cs.reverse.map (Cmd.mul F)) (last cs * F) goal [] = (go cs.reverse (last cs) goal []).map fun x => (x.1, mulK F x.2) := e
  rw [e']
  rcases go_goF (off := last cs) (allOk_rev h) good_nil hg with ⟨e1, _⟩ | ⟨st, b, e1, g, _, _⟩
  · rw [e1]
    rfl
  · rw [e1]
    show some (st, (mulK F b).mergeSort leK) = some (st, mulK F (b.mergeSort leK))
    have gm := good_mul hF g
    have key : (mulK F b).mergeSort leK = mulK F (b.mergeSort leK) := by
      have p : (mulK F (b.mergeSort leK)).Perm (mulK F b) := (List.mergeSort_perm b leK).map _
      refine asc_ext (asc_sort gm) (asc_mul hF (asc_sort g)) fun k => ?_
      rw [look_perm gm (List.mergeSort_perm _ leK), look_perm gm p]
    rw [key]
def Cmd.vert : Cmd → Bool
  | .down _ => true
  | .up _ => true
  | _ => false
theorem go_plain : ∀ (r : List Cmd) (off need : Int) (b : Ps), (∀ c ∈ r, c.vert = true) → go r off need b = some (some need, b)
  | [], _, _, _, _ => rfl
  | .down n :: r, off, need, b, h => go_plain r (off - n) need b fun c hc => h c (List.mem_cons_of_mem _ hc)
  | .up n :: r, off, need, b, h => go_plain r (off + n) need b fun c hc => h c (List.mem_cons_of_mem _ hc)
  | .right n :: r, _, _, _, h => nomatch h _ List.mem_cons_self
  | .left n :: r, _, _, _, h => nomatch h _ List.mem_cons_self
  | .home :: r, _, _, _, h => nomatch h _ List.mem_cons_self
  | .stop :: r, _, _, _, h => nomatch h _ List.mem_cons_self
theorem box_plain (cs : List Cmd) (goal : Int) (h : ∀ c ∈ cs, c.vert = true) : boxM cs goal = some (some goal, []) := by
  unfold boxM
  rw [go_plain cs.reverse (last cs) goal [] fun c hc => h c (List.mem_reverse.mp hc)]
  show some (some goal, ([] : Ps).mergeSort leK) = _
  rw [List.mergeSort_nil]
end Gc

/-! sorted(d.items()), d a dict of ints by ints -/
namespace Gc
open PySem PySem.Spec PyProof.Rows L2
/-- what such a dict holds -/
def dkI (ps : List (Int × Int)) : List (L2.Key × V) := ps.map fun q => (Sum.inl q.1, V.int q.2)
def encP (q : Int × Int) : PyData := .tuple [.int q.1, .int q.2]
def leP (p q : Int × Int) : Bool := decide (p.1 < q.1 ∨ (p.1 = q.1 ∧ p.2 ≤ q.2))
theorem dkI_at {ps : List (Int × Int)} {j : Nat} {kv : L2.Key × V} (h : (dkI ps)[j]? = some kv) : ∃ q, ps[j]? = some q ∧ kv = (Sum.inl q.1, V.int q.2) := by
  unfold dkI at h
  rw [List.getElem?_map] at h
  cases e : ps[j]? with
  | none =>
    rw [e] at h
    cases h
  | some q =>
    rw [e] at h
    exact ⟨q, rfl, (Option.some.inj h).symm⟩
theorem pairs_at {P : Program} {w : World} : ∀ {es : List DictEntry} {vs : List (L2.Key × Value)} {j : Nat} {e : DictEntry}, Pairs (mixKind P w) es vs → es[j]? = some e →
    ∃ kv, vs[j]? = some kv ∧ keyIs kv.1 e.key = true ∧ e.val = kv.2
  | _, _, 0, e, .cons h1 h2 _, h => by
    obtain rfl := Option.some.inj h
    exact ⟨_, rfl, h1, h2⟩
  | _, _, j + 1, e, .cons _ _ t, h => pairs_at (j := j) t h
theorem pairs_len {P : Program} {w : World} : ∀ {es : List DictEntry} {vs : List (L2.Key × Value)}, Pairs (mixKind P w) es vs → es.length = vs.length
  | _, _, .nil => rfl
  | _, _, .cons _ _ t => by
    rw [List.length_cons, List.length_cons, pairs_len t]
def rSortItI : V → Hp → VK → Prop := fun x H Q => ∃ (d : Addr) (ps : List (Int × Int)), x = .ref d ∧ H d = some (.dK (dkI ps)) ∧
  ∀ (H' : Hp) (l : Addr) (ts : List Addr), Same H H' → H l = none → H' l = some (.lst (ts.map V.ref)) →
    Paired (fun (t : Addr) (q : Int × Int) => H' t = some (.tup [.int q.1, .int q.2])) ts (ps.mergeSort leP) → Q (.ref l) H'
theorem each_paired {R : Value → Int × Int → Prop} {F : Addr → Int × Int → Prop} (hR : ∀ v q, R v q → ∃ t, v = .ref t ∧ F t q) : ∀ {vs : List Value} {qs : List (Int × Int)}, PySem.W.EachIs R vs qs →
    ∃ ts : List Addr, vs = ts.map Value.ref ∧ Paired F ts qs
  | _, _, .nil => ⟨[], rfl, .nil⟩
  | _, _, .cons h t => by
    obtain ⟨t0, e0, f0⟩ := hR _ _ h
    obtain ⟨ts, e1, f1⟩ := each_paired hR t
    exact ⟨t0 :: ts, by rw [e0, e1]; rfl, .cons f0 f1⟩
theorem vals_refs : ∀ as : List Addr, Vals (as.map V.ref) (as.map Value.ref)
  | [] => .nil
  | _ :: as => .cons rfl (vals_refs as)
section
variable {X : Cx}
theorem sort_items_run {pins : List (Addr × Obj)} {σ : L2.St} {H : Hp} {s : Shared} {Q : VK} {p d : Addr} {ps : List (Int × Int)} (I : Inv X pins σ H s) (hh : X.A.handled = none)
    (hu : X.A.units + 64 < cLine) (hd : H d = some (.dK (dkI ps))) (view : s.heap.IsItemsView p d)
    (q : ∀ (H' : Hp) (l : Addr) (ts : List Addr), Same H H' → H l = none → H' l = some (.lst (ts.map V.ref)) →
      Paired (fun (t : Addr) (q : Int × Int) => H' t = some (.tup [.int q.1, .int q.2])) ts (ps.mergeSort leP) → Q (.ref l) H') :
    wpAny (model X.prog X.w) X.A (call (.builtin "sorted") [.ref p]) (EP X pins σ Q) X.xe s := by
  obtain ⟨hz, hs0, vs, kv, o, es, ep, ho, hx, hdat, hko, hpr, hnd⟩ := (show ObjOk X.prog X.w H s.heap d (.dK (dkI ps)) from I.hok d _ hd)
  have l1 : (dkI ps).length = vs.length := Paired.length kv
  have l2 : es.toList.length = vs.length := pairs_len hpr
  have l3 : (dkI ps).length = ps.length := List.length_map ..
  have l4 : es.toList.length = es.size := by simp
  have ent : ∀ (j : Nat) (e : DictEntry), es[j]? = some e → ∃ (q : Int × Int) (t1 t2 : Tok), ps[j]? = some q ∧ e.key = .int q.1 t1 ∧ e.val = .int q.2 t2 := by
    intro j e he
    obtain ⟨kv', e1, e2, e3⟩ := pairs_at hpr (show es.toList[j]? = some e by simpa using he)
    obtain ⟨y, f1, f2, f3⟩ := L2.DX.pget kv e1
    obtain ⟨q, g1, rfl⟩ := dkI_at f1
    have f2' : Sum.inl q.1 = kv'.1 := f2
    rw [← f2'] at e2
    obtain ⟨t1, k1⟩ := Value.isInt_shape (k := q.1) (v := e.key) e2
    obtain ⟨t2, k2⟩ : ∃ t, kv'.2 = Value.int q.2 t := f3
    exact ⟨q, t1, t2, g1, k1, e3.trans k2⟩
  refine DT.sortedI (es := es) (ep := ep) hh view ⟨o, ho, hx, hdat⟩ (by omega) fun h' tk as hk hlt hl hG => ?_
  have nd : as.Nodup := List.Pairwise.imp (fun h => Nat.ne_of_lt h) hG.rise
  have lap : as.length = ps.length := by omega
  have pr : ∀ (j : Nat) (b : Addr), as[j]? = some b → ∃ (q : Int × Int) (t1 t2 : Tok), ps[j]? = some q ∧
      h'.get? b = some { cls := .type "tuple", data := .seq #[Value.int q.1 t1, Value.int q.2 t2] } := by
    intro j b hj
    obtain ⟨e, he, hg⟩ := hG.pairs j b hj
    obtain ⟨q, t1, t2, e1, e2, e3⟩ := ent j e he
    rw [e2, e3] at hg
    exact ⟨q, t1, t2, e1, hg⟩
  have hob : (h'.push { cls := .type "list", data := .seq (as.map Value.ref).toArray }).get? h'.objs.size = some (seqObj "list" (as.map Value.ref).toArray 0) := Heap.get?_push_size _ rfl
  have ne0 : ∀ b o, h'.get? b = some o → b ≠ h'.objs.size := fun b o e => Nat.ne_of_lt (Heap.lt_size e)
  have ka : ∀ b o, h'.get? b = some o → (h'.push { cls := .type "list", data := .seq (as.map Value.ref).toArray }).get? b = some o := fun b o e => Heap.get?_push_of_some _ e
  generalize hh2 : h'.push { cls := .type "list", data := .seq (as.map Value.ref).toArray } = h2 at hob ka ⊢
  have kb : ∀ b o, s.heap.get? b = some o → h2.get? b = some o := fun b o e => ka b o (hk b o e)
  have zipR : ∀ z, z ∈ (as.map Value.ref).zip ps → ∃ (j : Nat) (t : Addr), z.1 = Value.ref t ∧ as[j]? = some t ∧ ps[j]? = some z.2 := by
    intro z hz'
    obtain ⟨j, hj⟩ := List.mem_iff_getElem?.mp hz'
    obtain ⟨j1, j2⟩ := List.getElem?_zip_eq_some.mp hj
    rw [List.getElem?_map] at j1
    cases e : as[j]? with
    | none =>
      rw [e] at j1
      cases j1
    | some t =>
      rw [e] at j1
      exact ⟨j, t, (Option.some.inj j1).symm, e, j2⟩
  have eR : PySem.W.EachIs (fun v (q : Int × Int) => ∃ (j : Nat) (t : Addr), v = Value.ref t ∧ as[j]? = some t ∧ ps[j]? = some q) (as.map Value.ref) ps :=
    PySem.W.EachIs.of_zip (by rw [List.length_map]; exact lap) zipR
  have er : PySem.W.EachIs (fun v (q : Int × Int) => ∃ bs, Reads h2 v (encP q) bs ∧ h'.objs.size ∉ bs) (as.map Value.ref) ps := by
    refine eR.mono fun v q h => ?_
    obtain ⟨j, t, rfl, e1, e2⟩ := h
    obtain ⟨q', t1, t2, g1, g2⟩ := pr j t e1
    obtain rfl : q' = q := Option.some.inj (g1.symm.trans e2)
    exact ⟨_, .tuple (ka _ _ g2) rfl rfl (.cons (.int _ _) (.cons (.int _ _) .nil)), by simp⟩
  refine PySem.W.list_sort_data (s := { s with heap := h2, toks := tk }) (A := X.A.in1) (enc := encP) (bs := ps) (vs := as.map Value.ref) hob eR er
    (PySem.W.AllAlike.of fun b b' => by simp [encP, PySem.W.alike, PySem.W.alikeAll]) (PySem.W.Sortable.tuples fun b => ⟨_, _, rfl⟩) (by omega)
    (fun b _ => by show X.A.units + 1 + 1 + 1 < cLine; omega) fun out ol oe => ?_
  have le_eq : PySem.W.dataLe false encP = leP := PySem.W.dataLe_ii (fun q : Int × Int => q.1) (fun q => q.2)
  rw [le_eq] at oe
  show EP X pins σ Q (.ref h'.objs.size) { s with heap := sortedHeap h2 h'.objs.size (as.map Value.ref) out.toArray, toks := tk }
  obtain ⟨ts, rfl, tp⟩ := each_paired (F := fun t q => ∃ j : Nat, as[j]? = some t ∧ ps[j]? = some q) (fun v q h => by
    obtain ⟨j, t, e1, e2, e3⟩ := h
    exact ⟨t, e1, j, e2, e3⟩) oe
  have kF : ∀ b o, b ≠ h'.objs.size → h2.get? b = some o → (sortedHeap h2 h'.objs.size (as.map Value.ref) (ts.map Value.ref).toArray).get? b = some o :=
    fun b o hb e => (PyProof.Rows.sortedHeap_old hb (Heap.lt_size e)).trans e
  have kS : ∀ b o, s.heap.get? b = some o → (sortedHeap h2 h'.objs.size (as.map Value.ref) (ts.map Value.ref).toArray).get? b = some o :=
    fun b o e => kF b o (ne0 _ _ (hk b o e)) (kb b o e)
  obtain ⟨eF, heF⟩ := PyProof.Rows.sortedHeap_at (vs := as.map Value.ref) (out := (ts.map Value.ref).toArray) hob
  generalize sortedHeap h2 h'.objs.size (as.map Value.ref) (ts.map Value.ref).toArray = hF at kF kS heF ⊢
  have I1 : Inv X pins σ H { s with heap := hF, toks := tk } := I.kept (t' := tk) kS
  have hn0 : H h'.objs.size = none := I.hok.fresh (Nat.le_of_lt hlt)
  have tl : ts.length = ps.length := by
    rw [← ol, List.length_map]
  have I2 : Inv X pins σ (upd H h'.objs.size (.lst (ts.map V.ref))) { s with heap := hF, toks := tk } :=
    I1.take (h' := hF) (t' := tk) (fun b ob _ e => e) (I.fpOk (Nat.le_of_lt hlt) hn0) ⟨by rw [List.length_map]; omega, ts.map Value.ref, eF, vals_refs ts, heF⟩
  obtain ⟨H2, I3, g, qt⟩ := L2.DX.takeT (P := fun b vs => ∃ (j : Nat) (q : Int × Int), as[j]? = some b ∧ ps[j]? = some q ∧ vs = [.int q.1, .int q.2]) I as _ I2 nd fun b hb => by
    obtain ⟨j, hj⟩ := List.mem_iff_getElem?.mp hb
    obtain ⟨q, t1, t2, e1, e2⟩ := pr j b hj
    have old : s.heap.objs.size ≤ b := Nat.le_of_lt (hG.above b hb)
    refine ⟨old, ?_, [.int q.1, .int q.2], ⟨j, q, hj, e1, rfl⟩, fun H3 => ⟨by show 2 ≤ sizeLine; decide, [Value.int q.1 t1, Value.int q.2 t2], .cons ⟨_, rfl⟩ (.cons ⟨_, rfl⟩ .nil), ⟨_, kF _ _ (ne0 _ _ e2) (ka _ _ e2), rfl, 0, rfl⟩⟩⟩
    rw [upd_ne (ne0 _ _ e2)]
    exact I.hok.fresh old
  refine ⟨.ref h'.objs.size, H2, I3, rfl, q H2 h'.objs.size ts (fun b o e => g b o (by rw [upd_ne (ne_of_none e hn0)]; exact e)) hn0 (g _ _ upd_same) ?_⟩
  refine Paired.mapP tp fun t q h => ?_
  obtain ⟨j, j1, j2⟩ := h
  obtain ⟨vs', ⟨i, q', i1, i2, ev⟩, hH⟩ := qt t (List.mem_of_getElem? j1)
  have eij : i = j := (List.getElem?_inj (List.getElem?_eq_some_iff.mp i1).1 nd).mp (i1.trans j1.symm)
  subst eij
  obtain rfl : q' = q := Option.some.inj (i2.symm.trans j2)
  rw [ev] at hH
  exact hH
def tSortItems (te : TE) : TE := fun σ H Q => te σ H fun x H1 => rSortItI x H1 Q
variable {e : Expr} {te : TE} {p apos cpos pos : Pos}
theorem pe_sortItems (hc : X.calm = true) (hu : X.A.units + 64 < cLine) (he : PE X e te) (hg : Gl X "sorted") (hm : X.mg "sorted" = none)
    (hv : bootBuiltins "sorted" = some (.builtin "sorted"))
    (hbase : attributeBase e "items" X.env (eval e X.env) = eval e X.env := by rfl) (hline : (apos.endLine == cpos.line) = true := by rfl)
    (hs : starEach [.Call (.Attribute e "items" apos) [] [] cpos] X.env = (false, eval (.Call (.Attribute e "items" apos) [] [] cpos) X.env) :: starEach [] X.env := by rfl) :
    PE X (.Call (.Name "sorted" p) [.Call (.Attribute e "items" apos) [] [] cpos] [] pos) (tSortItems te) := by
  refine ⟨fun pins s σ H Q I hq => ?_⟩
  refine wpAny_Call_Name_kw (ld_blt I hg hm hv ?_)
  refine PyProof.Rows.callWith_builtin1 ?_ hs rfl
  rw [hs]
  show wpAny _ _ (spliced ((false, eval (.Call (.Attribute e "items" apos) [] [] cpos) X.env) :: backTo pos (starEach [] X.env))) _ _ s
  refine Calls.spliced_cons ?_
  refine wpAny_Call_method (T := "dict") (id := "dict.items") hbase rfl hline F.plainAttrs_dict F.slot_dict_items F.type_dict_items
    (thn (he.run pins s σ H _ I hq) fun u s1 ⟨x, H1, I1, rx, d, ps, ex, hd, q⟩ => ?_)
  subst ex
  obtain rfl : u = Value.ref d := rx
  obtain ⟨hz, hs0, vs, kv, hdo⟩ := I1.hok d _ hd
  have I2 : Inv X pins σ H1 { s1 with heap := s1.heap.push { cls := .type "dict_items", data := .fields #[.ref d] } } :=
    I1.kept (t' := s1.toks) fun b ob z => Heap.get?_push_of_some _ z
  refine ⟨hdo.typeIs, hdo.mapOf.noDict, ?_⟩
  show wpAny _ _ (callWith cpos (.builtin "dict.items") [.ref d] [] []) _ X.xe s1
  refine method_meetsIn F.slot_dict_items F.entry_dict_items rfl (PySem.evalArgs_none ⟨rfl, hdo.typeIs, F.args_dict_items_1 _, _, meets_dict_items (mixKind X.prog X.w) d hs0, ⟨vs, hdo⟩, ?_⟩)
  refine Calls.spliced_nil ?_
  exact sort_items_run I2 (I1.ok.hd hc) hu hd ⟨_, Heap.get?_push_size _ rfl, rfl, rfl⟩ q
end
end Gc

/-! match over written texts, with a last case for the rest -/
namespace Gc
open PySem L2
/-- what is wanted of the cases, by the subject's value -/
abbrev TM := V → TS
structure MC (X : Cx) (cs : List MatchCase) (t : TM) : Prop where
  run : ∀ (first : Bool) (pins : List (Addr × Obj)) (s : Shared) (σ : L2.St) (H : Hp) (D : Ends) (x : V) (v : Value),
    Inv X pins σ H s → RelV x v → t x D σ H →
    wpAny (model X.prog X.w) X.A (matchCases cs X.env v first) (fun f s' => SP X pins D f s') X.xe s
def mNil : TM := fun _ D σ H => D.nx σ H
/-- case 'z': .. -/
def mStr (z : Str) (tb : TS) (r : TM) : TM := fun x D σ H => ∃ y, x = .str y ∧ if decide (y = z) = true then tb D σ H else r x D σ H
/-- case _: .. -/
def mAny (tb : TS) : TM := fun _ D σ H => tb D σ H
section
variable {X : Cx} {rest : List MatchCase} {body : List Stmt} {tb : TS} {r : TM} {z : Str} {k : Nat} {p1 p2 pos : Pos} {e : Expr} {te : TE}
theorem mc_nil : MC X [] mNil := ⟨fun _ pins s σ H D x v I _ h => wpAny_matchCases_nil ⟨σ, H, I, h⟩⟩
theorem mc_str (hb : PSs X body tb) (hr : MC X rest r) :
    MC X (⟨.MatchValue (.Constant (.str z) k p1) p2, none, body⟩ :: rest) (mStr z tb r) := by
  refine ⟨fun first pins s σ H D x v I rx h => ?_⟩
  obtain ⟨y, rfl, h⟩ := h
  refine wpAny_matchCases_cons (wpAny_matchPattern_Value ?_)
  have hq : PE X (.Constant (.str z) k p1) (tC (.str z)) := pe_str
  refine wpAny_mono (hq.run pins s σ H (fun w H' => w = .str z ∧ H' = H) I ⟨rfl, rfl⟩) (fun u s1 hu => ?_) fun _ _ q => q
  obtain ⟨w, H1, I1, rw1, rfl, rfl⟩ := hu
  refine wpAny_mono ((op_eq (X := X)) pins s1 σ _ (.str y) (.str z) v u (fun w H' => w = .bl (decide (y = z)) ∧ H' = _) I1 rx rw1 ⟨rfl, ?_, rfl⟩) (fun c s2 hc => ?_) fun _ _ q => q
  · by_cases q : y = z
    · subst q
      rw [decide_eq_true (Eq.refl _), decide_eq_true (Eq.refl _)]
    · rw [decide_eq_false q, decide_eq_false fun e => q (V.str.inj e)]
  · obtain ⟨w, H2, I2, rw2, rfl, rfl⟩ := hc
    obtain rfl : c = Value.bool (decide (y = z)) := rw2
    refine wpAny_pure ?_
    by_cases q : y = z
    · rw [decide_eq_true q] at h ⊢
      show wpAny _ _ (assignInOrder [] []) _ _ _
      refine wpAny_assignInOrder_none ?_
      exact hb.run pins s2 σ _ D I2 h
    · rw [decide_eq_false q] at h ⊢
      exact hr.run false pins s2 σ _ D (.str y) v I2 rx h
theorem mc_any (hb : PSs X body tb) : MC X (⟨.MatchAs none none p2, none, body⟩ :: rest) (mAny tb) := by
  refine ⟨fun first pins s σ H D x v I rx h => ?_⟩
  refine wpAny_matchCases_cons (wpAny_matchPattern_Capture ?_)
  show wpAny _ _ (assignInOrder [] []) _ _ _
  exact wpAny_assignInOrder_none (hb.run pins s σ H D I h)
def tMatch (te : TE) (t : TM) : TS := fun D σ H => te σ H fun x H1 => t x D σ H1
theorem ps_match {cs : List MatchCase} {t : TM} (he : PE X e te) (hc : MC X cs t) : PS X (.Match e cs pos) (tMatch te t) := by
  refine ⟨fun pins s σ H D I h => ?_⟩
  refine wpAny_Match (wpAny_mono (he.run pins s σ H _ I h) (fun v s1 hv => ?_) fun _ _ q => q)
  obtain ⟨x, H1, I1, rx, q⟩ := hv
  exact hc.run true pins s1 σ H1 D x v I1 rx q
end
end Gc

namespace Gc
open PySem PyProof.Rows L2
/-! ### commands as tuples -/
def encC : Cmd → List V
  | .down n => [.str "down", .int n]
  | .up n => [.str "up", .int n]
  | .right n => [.str "right", .int n]
  | .left n => [.str "left", .int n]
  | .home => [.str "home"]
  | .stop => [.str "end"]
def CmdAt (K : PySem.W.Frag) (H : Hp) (v : V) (c : Cmd) : Prop := ∃ a, v = .ref a ∧ SqT K H a (encC c)
def CmdsOf (K : PySem.W.Frag) (H : Hp) (xs : List V) (cs : List Cmd) : Prop := Paired (CmdAt K H) xs cs
theorem CmdAt.same {K : PySem.W.Frag} {H H' : Hp} {v : V} {c : Cmd} (e : Same H H') (h : CmdAt K H v c) : CmdAt K H' v c := by
  obtain ⟨a, e1, h1⟩ := h
  exact ⟨a, e1, seq_t e h1⟩
theorem CmdsOf.same {K : PySem.W.Frag} {H H' : Hp} {xs : List V} {cs : List Cmd} (e : Same H H') (h : CmdsOf K H xs cs) : CmdsOf K H' xs cs := Paired.mapP h fun _ _ q => q.same e
theorem CmdsOf.len {K : PySem.W.Frag} {H : Hp} {xs : List V} {cs : List Cmd} (h : CmdsOf K H xs cs) : xs.length = cs.length := Paired.length h
theorem paired_at {α β : Type} {F : α → β → Prop} : ∀ {xs : List α} {ys : List β} {i : Nat} {x : α}, Paired F xs ys → xs[i]? = some x → ∃ y, ys[i]? = some y ∧ F x y
  | _, _, _, _, .nil, h => by simp at h
  | _, _, 0, x, .cons f _, h => by
    obtain rfl := Option.some.inj h
    exact ⟨_, rfl, f⟩
  | _, _, i + 1, x, .cons _ t, h => paired_at (i := i) t h
/-! ### dicts of ints by ints -/
theorem valV_dkI : ∀ (b : Ps) (k : Int), valV (dkI b) (Sum.inl k : L2.Key) = (look b k).map V.int
  | [], k => rfl
  | q :: b, k => by
    show valV (((Sum.inl q.1 : L2.Key), V.int q.2) :: dkI b) (Sum.inl k : L2.Key) = _
    rw [look_cons]
    by_cases h : q.1 = k
    · rw [if_pos h, valV_pos (by show (Sum.inl q.1 : L2.Key) = Sum.inl k; rw [h])]
      rfl
    · rw [if_neg h, valV_neg (by intro z; exact h (Sum.inl.inj z))]
      exact valV_dkI b k
theorem putK_dkI (b : Ps) (k v : Int) : putK (dkI b) (Sum.inl k : L2.Key) (V.int v) = dkI (put b k v) := by
  have ea : ((dkI b).any fun kv => decide (kv.1 = (Sum.inl k : L2.Key))) = b.any fun q => decide (q.1 = k) := by
    unfold dkI
    rw [List.any_map]
    congr 1
    funext q
    show decide ((Sum.inl q.1 : L2.Key) = Sum.inl k) = decide (q.1 = k)
    exact decide_eq_decide.mpr ⟨Sum.inl.inj, fun h => by rw [h]⟩
  unfold putK put
  rw [ea]
  by_cases h : (b.any fun q => decide (q.1 = k)) = true
  · rw [if_pos h, if_pos h]
    unfold dkI
    rw [List.map_map, List.map_map]
    refine List.map_congr_left fun q _ => ?_
    show (if (Sum.inl q.1 : L2.Key) = Sum.inl k then ((Sum.inl q.1 : L2.Key), V.int v) else (Sum.inl q.1, V.int q.2)) = (Sum.inl (if q.1 = k then (q.1, v) else q).1, V.int (if q.1 = k then (q.1, v) else q).2)
    by_cases e : q.1 = k
    · rw [if_pos e, if_pos (by rw [e])]
    · rw [if_neg e, if_neg fun z => e (Sum.inl.inj z)]
  · rw [if_neg h, if_neg h]
    unfold dkI
    rw [List.map_append]
    rfl
theorem put_len (b : Ps) (k v : Int) : (put b k v).length ≤ b.length + 1 := by
  unfold put
  split
  · rw [List.length_map]
    exact Nat.le_succ _
  · rw [List.length_append]
    exact Nat.le_refl _
theorem req_len (b : Ps) (o v : Int) : (req b o v).length ≤ b.length + 1 := put_len b o _
end Gc

namespace Gc
open PySem L2
def top (i : Nat) : Stmt := PySem.Challenge.pw_goalcolumn_k43_whole_texts_and_cursors.main.body.getD i (.Pass ⟨0, 0, 0, 0⟩)
abbrev s_is_count : Stmt := top 25
abbrev s_is_command : Stmt := top 24
abbrev s_check_commands : Stmt := top 23
abbrev s_row_change : Stmt := top 31
structure TxtB (K : PySem.W.Frag) (mg : Str → Option Value) (wo wn : Addr) : Prop where
  g_WITHOUT_NUMBER : mg "WITHOUT_NUMBER" = some (.ref wo)
  g_WITH_NUMBER : mg "WITH_NUMBER" = some (.ref wn)
  tWO : ∀ H, SqT K H wo [.str "home", .str "end"]
  tWN : ∀ H, SqT K H wn [.str "down", .str "up", .str "right", .str "left"]
  isinstance : mg "isinstance" = none
  int : mg "int" = none
  bool : mg "bool" = none
  len : mg "len" = none
  enumerate : mg "enumerate" = none
  reversed : mg "reversed" = none
  sorted : mg "sorted" = none
  max : mg "max" = none
  min : mg "min" = none
def spCount : Sp := fun vs H Q _ => ∃ n : Int, vs = [.int n] ∧ 1 ≤ n ∧ Q (.bl true) H
def spIsCmd (K : PySem.W.Frag) : Sp := fun vs H Q _ => ∃ (v : V) (c : Cmd), vs = [v] ∧ CmdAt K H v c ∧ c.ok ∧ ∀ H', Same H H' → Q (.bl true) H'
def spCheck (K : PySem.W.Frag) : Sp := fun vs H Q _ => ∃ (l : Addr) (xs : List V) (cs : List Cmd), vs = [.ref l] ∧ SqL K H l xs ∧ CmdsOf K H xs cs ∧ AllOk cs ∧ cs.length ≤ 10000 ∧ ∀ H', Same H H' → Q .non H'
def spRow (K : PySem.W.Frag) : Sp := fun vs H Q _ => ∃ (v : V) (c : Cmd), vs = [v] ∧ CmdAt K H v c ∧ Q (.int c.dv) H
theorem q_in {H : Hp} {Q : VK} {x : V} {xs : List V} (h : inV x xs = true) (k : Q (.bl true) H) : Q (.bl (if (false : Bool) = true then !inV x xs else inV x xs)) H := by
  rw [if_neg Bool.false_ne_true, h]
  exact k
theorem take_snoc {α : Type} : ∀ {l : List α} {i : Nat} {x : α}, l[i]? = some x → l.take (i + 1) = l.take i ++ [x]
  | [], i, x, h => by simp at h
  | a :: l, 0, x, h => by
    obtain rfl := Option.some.inj h
    rfl
  | a :: l, i + 1, x, h => by
    have ih := take_snoc (l := l) (i := i) (x := x) h
    show a :: l.take (i + 1) = a :: l.take i ++ [x]
    rw [ih]
    rfl
def optV : Option Int → V
  | none => .non
  | some n => .int n
theorem m_no {y z : Str} {tb : TS} {r : TM} {D : Ends} {σ : L2.St} {H : Hp} (h : decide (y = z) = false) (q : r (.str y) D σ H) : mStr z tb r (.str y) D σ H := ⟨y, rfl, by rw [h]; exact iteF q⟩
theorem m_yes {y z : Str} {tb : TS} {r : TM} {D : Ends} {σ : L2.St} {H : Hp} (h : decide (y = z) = true) (q : tb D σ H) : mStr z tb r (.str y) D σ H := ⟨y, rfl, by rw [h]; exact iteT q⟩
section
variable {P : Program} {w : World} {K : PySem.W.Frag} {mg : Str → Option Value} {base : Heap} {wo wn : Addr}
theorem sc_is_count : FnScope ["number"] ["number"] (defScope s_is_count) := ⟨rfl, rfl, rfl, by decide +kernel, rfl, by decide +kernel, by decide +kernel⟩
theorem ok_is_count {f : Addr} {fd : FuncData} (F : Fun K "is_count" "is_count" s_is_count f fd) (T : TxtB K mg wo wn) : FnOk P w K mg base CX0 1 f fd ["number"] spCount := by
  refine F.ok sc_is_count (fun vs H Q E h => ?_) (fun cdv A outer s H vs Q E hr h => ?_)
  · obtain ⟨n, rfl, _⟩ := h
    rfl
  · obtain ⟨n, rfl, hn, k⟩ := h
    refine ⟨_, (pss_one (ps_ret (pe_and (pe_callB call_isi (by rfl) T.isinstance (by decide +kernel) (pa_cons (pv 0) (pa_cons (pe_bltn (v := .ty "int") (u := .type "int") (by rfl) T.int (by decide +kernel) rfl) pa_nil))) (pe_and (pe_not (pe_callB call_isi (by rfl) T.isinstance (by decide +kernel) (pa_cons (pv 0) (pa_cons (pe_bltn (v := .ty "bool") (u := .type "bool") (by rfl) T.bool (by decide +kernel) rfl) pa_nil)))) (pe_one (pe_cmpR op_ge (pv 0) pe_int (nomark _))))))), ?_⟩
    refine ⟨_, rfl, _, _, _, _, _, rfl, .ty "int", .base (.int n), kit_ty (show kitB "int" "int" = some true by decide +kernel), _, rfl, iteT ?_⟩
    refine ⟨_, rfl, _, _, _, _, _, rfl, .ty "bool", .base (.int n), kit_ty (show kitB "int" "bool" = some false by decide +kernel), _, rfl, _, rfl, iteT ?_⟩
    refine ⟨_, rfl, _, _, rfl, rfl, ?_⟩
    show Q (.bl (decide (1 ≤ n))) H
    rw [decide_eq_true hn]
    exact k
theorem sc_is_command : FnScope ["command"] ["command"] (defScope s_is_command) := ⟨rfl, rfl, rfl, by decide +kernel, rfl, by decide +kernel, by decide +kernel⟩
theorem ok_is_command {f : Addr} {fd : FuncData} (F : Fun K "is_command" "is_command" s_is_command f fd) (T : TxtB K mg wo wn) (c_is_count : Cal P w K mg base 1 "is_count" spCount) : FnOk P w K mg base CX0 2 f fd ["command"] (spIsCmd K) := by
  refine F.ok sc_is_command (fun vs H Q E h => ?_) (fun cdv A outer s H vs Q E hr h => ?_)
  · obtain ⟨v, c, rfl, _⟩ := h
    rfl
  · obtain ⟨v, c, rfl, ⟨a, rfl, ha⟩, hc, k⟩ := h
    refine ⟨_, (pss_cons (ps_if (pt_cmpR op_eq (pe_callB call_len_seq (by rfl) T.len (by decide +kernel) (pa_cons (pv 0) pa_nil)) pe_int (nomark _)) (pss_one (ps_ret (pe_cmpR op_in_seq (pe_ix ix_tup (pv 0) pe_int (fun _ _ => rfl)) (pe_glob (v := .ref wo) (by rfl) T.g_WITHOUT_NUMBER rfl) (by rfl)))) pss_nil)
      (pss_one (ps_ret (pe_and (pe_cmpR op_eq (pe_callB call_len_seq (by rfl) T.len (by decide +kernel) (pa_cons (pv 0) pa_nil)) pe_int (nomark _)) (pe_and (pe_cmpR op_in_seq (pe_ix ix_tup (pv 0) pe_int (fun _ _ => rfl)) (pe_glob (v := .ref wn) (by rfl) T.g_WITH_NUMBER rfl) (by rfl)) (pe_one (pe_cal c_is_count hr (by decide) (by rfl) (pa_cons (pe_ix ix_tup (pv 0) pe_int (fun _ _ => rfl)) pa_nil)))))))), ?_⟩
    have k0 := k H (Same.refl H)
    cases c with
    | down n =>
      refine ⟨_, rfl, a, _, rfl, .inr ha, rfl, _, rfl, iteF ?_⟩
      refine ⟨_, rfl, a, _, rfl, .inr ha, rfl, _, rfl, iteT ?_⟩
      refine ⟨_, rfl, a, _, 0, _, rfl, rfl, ha, rfl, wn, _, rfl, .inr (T.tWN _), rfl, rfl, true, by decide +kernel, iteT ?_⟩
      exact ⟨_, rfl, a, _, 1, _, rfl, rfl, ha, rfl, n, rfl, hc, k0⟩
    | up n =>
      refine ⟨_, rfl, a, _, rfl, .inr ha, rfl, _, rfl, iteF ?_⟩
      refine ⟨_, rfl, a, _, rfl, .inr ha, rfl, _, rfl, iteT ?_⟩
      refine ⟨_, rfl, a, _, 0, _, rfl, rfl, ha, rfl, wn, _, rfl, .inr (T.tWN _), rfl, rfl, true, by decide +kernel, iteT ?_⟩
      exact ⟨_, rfl, a, _, 1, _, rfl, rfl, ha, rfl, n, rfl, hc, k0⟩
    | right n =>
      refine ⟨_, rfl, a, _, rfl, .inr ha, rfl, _, rfl, iteF ?_⟩
      refine ⟨_, rfl, a, _, rfl, .inr ha, rfl, _, rfl, iteT ?_⟩
      refine ⟨_, rfl, a, _, 0, _, rfl, rfl, ha, rfl, wn, _, rfl, .inr (T.tWN _), rfl, rfl, true, by decide +kernel, iteT ?_⟩
      exact ⟨_, rfl, a, _, 1, _, rfl, rfl, ha, rfl, n, rfl, hc, k0⟩
    | left n =>
      refine ⟨_, rfl, a, _, rfl, .inr ha, rfl, _, rfl, iteF ?_⟩
      refine ⟨_, rfl, a, _, rfl, .inr ha, rfl, _, rfl, iteT ?_⟩
      refine ⟨_, rfl, a, _, 0, _, rfl, rfl, ha, rfl, wn, _, rfl, .inr (T.tWN _), rfl, rfl, true, by decide +kernel, iteT ?_⟩
      exact ⟨_, rfl, a, _, 1, _, rfl, rfl, ha, rfl, n, rfl, hc, k0⟩
    | home =>
      refine ⟨_, rfl, a, _, rfl, .inr ha, rfl, _, rfl, iteT ?_⟩
      refine ⟨_, rfl, a, _, 0, _, rfl, rfl, ha, rfl, wo, _, rfl, .inr (T.tWO _), rfl, rfl, ?_⟩
      exact q_in (by decide +kernel) k0
    | stop =>
      refine ⟨_, rfl, a, _, rfl, .inr ha, rfl, _, rfl, iteT ?_⟩
      refine ⟨_, rfl, a, _, 0, _, rfl, rfl, ha, rfl, wo, _, rfl, .inr (T.tWO _), rfl, rfl, ?_⟩
      exact q_in (by decide +kernel) k0
theorem sc_row_change : FnScope ["command"] ["command"] (defScope s_row_change) := ⟨rfl, rfl, rfl, by decide +kernel, rfl, by decide +kernel, by decide +kernel⟩
theorem ok_row_change {f : Addr} {fd : FuncData} (F : Fun K "row_change" "row_change" s_row_change f fd) : FnOk P w K mg base CX0 1 f fd ["command"] (spRow K) := by
  refine F.ok sc_row_change (fun vs H Q E h => ?_) (fun cdv A outer s H vs Q E hr h => ?_)
  · obtain ⟨v, c, rfl, _⟩ := h
    rfl
  · obtain ⟨v, c, rfl, ⟨a, rfl, ha⟩, k⟩ := h
    refine ⟨_, (pss_cons (ps_if (pt_cmpR op_eq (pe_ix ix_tup (pv 0) pe_int (fun _ _ => rfl)) pe_str (nomark _)) (pss_one (ps_ret (pe_ix ix_tup (pv 0) pe_int (fun _ _ => rfl)))) pss_nil)
      (pss_cons (ps_if (pt_cmpR op_eq (pe_ix ix_tup (pv 0) pe_int (fun _ _ => rfl)) pe_str (nomark _)) (pss_one (ps_ret (pe_un un_neg (pe_ix ix_tup (pv 0) pe_int (fun _ _ => rfl))))) pss_nil)
      (pss_one (ps_ret pe_int)))), ?_⟩
    cases c with
    | down n =>
      refine ⟨_, rfl, a, _, 0, _, rfl, rfl, ha, rfl, rfl, true, by decide +kernel, iteT ?_⟩
      exact ⟨_, rfl, a, _, 1, _, rfl, rfl, ha, rfl, k⟩
    | up n =>
      refine ⟨_, rfl, a, _, 0, _, rfl, rfl, ha, rfl, rfl, false, by decide +kernel, iteF ?_⟩
      refine ⟨_, rfl, a, _, 0, _, rfl, rfl, ha, rfl, rfl, true, by decide +kernel, iteT ?_⟩
      exact ⟨_, rfl, a, _, 1, _, rfl, rfl, ha, rfl, n, rfl, k⟩
    | right n =>
      refine ⟨_, rfl, a, _, 0, _, rfl, rfl, ha, rfl, rfl, false, by decide +kernel, iteF ?_⟩
      refine ⟨_, rfl, a, _, 0, _, rfl, rfl, ha, rfl, rfl, false, by decide +kernel, iteF ?_⟩
      exact k
    | left n =>
      refine ⟨_, rfl, a, _, 0, _, rfl, rfl, ha, rfl, rfl, false, by decide +kernel, iteF ?_⟩
      refine ⟨_, rfl, a, _, 0, _, rfl, rfl, ha, rfl, rfl, false, by decide +kernel, iteF ?_⟩
      exact k
    | home =>
      refine ⟨_, rfl, a, _, 0, _, rfl, rfl, ha, rfl, rfl, false, by decide +kernel, iteF ?_⟩
      refine ⟨_, rfl, a, _, 0, _, rfl, rfl, ha, rfl, rfl, false, by decide +kernel, iteF ?_⟩
      exact k
    | stop =>
      refine ⟨_, rfl, a, _, 0, _, rfl, rfl, ha, rfl, rfl, false, by decide +kernel, iteF ?_⟩
      refine ⟨_, rfl, a, _, 0, _, rfl, rfl, ha, rfl, rfl, false, by decide +kernel, iteF ?_⟩
      exact k
theorem sc_check_commands : FnScope ["commands", "index", "command"] ["commands"] (defScope s_check_commands) := ⟨rfl, rfl, rfl, by decide +kernel, rfl, by decide +kernel, by decide +kernel⟩
theorem ok_check_commands {f : Addr} {fd : FuncData} (F : Fun K "check_commands" "check_commands" s_check_commands f fd) (T : TxtB K mg wo wn) (c_is_command : Cal P w K mg base 2 "is_command" (spIsCmd K)) : FnOk P w K mg base CX0 3 f fd ["commands"] (spCheck K) := by
  refine F.ok sc_check_commands (fun vs H Q E h => ?_) (fun cdv A outer s H vs Q E hr h => ?_)
  · obtain ⟨l, xs, cs, rfl, _⟩ := h
    rfl
  · obtain ⟨l, xs, cs, rfl, hl, hcs, hk, hn, k⟩ := h
    refine ⟨_, (pss_one (ps_for PassesOwn.never rfl (pi_enum (by rfl) T.enumerate (pa_cons (pv 0) pa_nil)) (pg_tup rfl (pgs_cons (pg_name (i := 1) sc_check_commands.nd rfl (Or.inl rfl)) (pgs_cons (pg_name (i := 2) sc_check_commands.nd rfl (Or.inl rfl)) pgs_nil))) (pss_one (ps_if (pt_not (pt_val (pe_cal c_is_command hr (by decide) (by rfl) (pa_cons (pv 2) pa_nil)))) (pss_one ps_never) pss_nil)))), ?_⟩
    refine ⟨_, rfl, l, xs, rfl, hl, for_it (walk_enum (K := K) (a := l) (xs := xs)) (fun i σ H' => ∃ v1 v2 : Option V, σ = [some (.ref l), v1, v2] ∧ Same H H')
      ⟨none, none, rfl, Same.refl H⟩ (fun i σ H' _ ⟨_, _, _, e⟩ => e.seq hl) (fun i x σ H1 H2 hi h y => ?_) (fun σ H1 h => ?_)⟩
    · obtain ⟨v1, v2, rfl, e⟩ := h
      obtain ⟨T1, x1, y1, rfl, nT, rfl, e1, e2⟩ := y
      obtain ⟨c, hc, hca⟩ := paired_at hcs e2
      have eT : Same H (upd H1 T1 (.tup [x1, y1])) := same_upd e nT
      refine ⟨T1, _, rfl, SqT.of upd_same, rfl, _, _, rfl, _, _, rfl, rfl, ?_⟩
      refine ⟨_, rfl, y1, c, rfl, hca.same eT, hk c (List.mem_of_getElem? hc), fun H3 e3 => ⟨_, rfl, iteF ?_⟩⟩
      exact ⟨_, _, rfl, eT.trans e3⟩
    · obtain ⟨v1, v2, rfl, e⟩ := h
      exact k _ e
end
end Gc

namespace Gc
open PySem L2
abbrev s_reach : Stmt := top 29
abbrev s_require : Stmt := top 9999
def rstep (s : Int × Int × Int) (c : Cmd) : Int × Int × Int :=
  (if s.2.2 + c.dv < s.1 then s.2.2 + c.dv else s.1, if s.2.2 + c.dv > s.2.1 then s.2.2 + c.dv else s.2.1, s.2.2 + c.dv)
def rchM (cs : List Cmd) : Int × Int × Int := cs.foldl rstep (0, 0, 0)
theorem rch_more {cs : List Cmd} {i : Nat} {c : Cmd} (h : cs[i]? = some c) : rchM (cs.take (i + 1)) = rstep (rchM (cs.take i)) c := by
  unfold rchM
  rw [take_snoc h, List.foldl_append]
  rfl
theorem rch_last : ∀ (cs : List Cmd) (s : Int × Int × Int), (cs.foldl rstep s).2.2 = s.2.2 + last cs
  | [], s => by show s.2.2 = s.2.2 + 0; omega
  | c :: cs, s => by
    show (cs.foldl rstep (rstep s c)).2.2 = s.2.2 + (c.dv + last cs)
    rw [rch_last cs]
    show s.2.2 + c.dv + last cs = _
    omega
def spReach (K : PySem.W.Frag) : Sp := fun vs H Q _ => ∃ (l : Addr) (xs : List V) (cs : List Cmd), vs = [.ref l] ∧ SqL K H l xs ∧ CmdsOf K H xs cs ∧ AllOk cs ∧ cs.length ≤ 10000 ∧
  ∀ (H' : Hp) (p : Addr), Same H H' → H p = none → H' p = some (.tup [.int (rchM cs).1, .int (rchM cs).2.1, .int (last cs)]) → Q (.ref p) H'
def spNum : Sp := fun vs H Q _ => ∃ n k : Int, vs = [.int n, .int k] ∧ k ≤ n ∧ Q .non H
def spReq : Sp := fun vs H Q _ => ∃ (d : Addr) (b : Ps) (o v : Int), vs = [.ref d, .int o, .int v] ∧ H d = some (.dK (dkI b)) ∧ b.length ≤ 10000 ∧ Q .non (upd H d (.dK (dkI (req b o v))))
/-- the tuple of a box, its list and its pairs, all new -/
def BoxAt (H H' : Hp) (p : Addr) (st : Option Int) (L : Ps) : Prop := ∃ (m : Addr) (ts : List Addr), H p = none ∧ H m = none ∧ H' p = some (.tup [optV st, .ref m]) ∧ H' m = some (.lst (ts.map V.ref)) ∧
  Paired (fun (t : Addr) (q : Int × Int) => H' t = some (.tup [.int q.1, .int q.2])) ts L
def spBox (K : PySem.W.Frag) : Sp := fun vs H Q _ => ∃ (l : Addr) (xs : List V) (cs : List Cmd) (goal : Int), vs = [.ref l, .int goal] ∧ SqL K H l xs ∧ CmdsOf K H xs cs ∧ AllOk cs ∧ cs.length ≤ 10000 ∧ 1 ≤ goal ∧
  (boxM cs goal = none → ∀ H', Same H H' → Q .non H') ∧ ∀ st L, boxM cs goal = some (st, L) → ∀ H' p, Same H H' → BoxAt H H' p st L → Q (.ref p) H'
section
variable {P : Program} {w : World} {K : PySem.W.Frag} {mg : Str → Option Value} {base : Heap} {wo wn : Addr}
theorem sc_reach : FnScope ["commands", "least", "greatest", "last", "command"] ["commands"] (defScope s_reach) := ⟨rfl, rfl, rfl, by decide +kernel, rfl, by decide +kernel, by decide +kernel⟩
theorem ok_reach {f : Addr} {fd : FuncData} (F : Fun K "reach" "reach" s_reach f fd) (T : TxtB K mg wo wn) (c_check_commands : Cal P w K mg base 3 "check_commands" (spCheck K)) (c_row_change : Cal P w K mg base 1 "row_change" (spRow K)) :
    FnOk P w K mg base CX0 4 f fd ["commands"] (spReach K) := by
  refine F.ok sc_reach (fun vs H Q E h => ?_) (fun cdv A outer s H vs Q E hr h => ?_)
  · obtain ⟨l, xs, cs, rfl, _⟩ := h
    rfl
  · obtain ⟨l, xs, cs, rfl, hl, hcs, hk, hn, k⟩ := h
    refine ⟨_, (pss_cons (ps_expr (pe_cal c_check_commands hr (by decide) (by rfl) (pa_cons (pv 0) pa_nil)))
      (pss_cons (ps_asg3 pe_int (pg_name (i := 1) sc_reach.nd rfl (Or.inl rfl)) (pg_name (i := 2) sc_reach.nd rfl (Or.inl rfl)) (pg_name (i := 3) sc_reach.nd rfl (Or.inl rfl)))
      (pss_cons (ps_for PassesOwn.never rfl (pi_list (pv 0)) (pg_name (i := 4) sc_reach.nd rfl (Or.inl rfl)) (pss_cons (ps_aug (i := 3) sc_reach.nd rfl (Or.inl rfl) (pe_cal c_row_change hr (by decide) (by rfl) (pa_cons (pv 4) pa_nil)) ip_add)
      (pss_cons (ps_set (i := 1) sc_reach.nd rfl (Or.inl rfl) (pe_callB (call_min2 rfl) (by rfl) T.min (by decide +kernel) (pa_cons (pv 1) (pa_cons (pv 3) pa_nil))))
      (pss_one (ps_set (i := 2) sc_reach.nd rfl (Or.inl rfl) (pe_callB (call_max2 rfl) (by rfl) T.max (by decide +kernel) (pa_cons (pv 2) (pa_cons (pv 3) pa_nil))))))))
      (pss_one (ps_ret (pe_tup (pa_cons (pv 1) (pa_cons (pv 2) (pa_cons (pv 3) pa_nil))))))))), ?_⟩
    refine ⟨_, rfl, l, xs, cs, rfl, hl, hcs, hk, hn, fun H1 e1 => ?_⟩
    refine ⟨_, rfl, l, rfl, ⟨_, e1.seq hl⟩, for_list (K := K) (a := l) (xs := xs) (fun i σ H' => ∃ v : Option V, σ = [some (.ref l), some (.int (rchM (cs.take i)).1), some (.int (rchM (cs.take i)).2.1), some (.int (rchM (cs.take i)).2.2), v] ∧ Same H H')
      ⟨none, rfl, e1⟩ (fun i σ H' _ ⟨_, _, e⟩ => e.seq hl) (fun i x σ H2 hi h => ?_) (fun σ H2 h => ?_)⟩
    · obtain ⟨v, rfl, e⟩ := h
      obtain ⟨c, hc, hca⟩ := paired_at hcs hi
      refine ⟨_, rfl, _, rfl, x, c, rfl, hca.same e, _, _, rfl, rfl, ?_⟩
      refine ⟨_, rfl, _, rfl, _, _, rfl, ?_⟩
      refine ⟨_, rfl, _, rfl, _, _, rfl, ?_⟩
      refine ⟨some x, ?_, e⟩
      rw [rch_more hc]
      rfl
    · obtain ⟨v, rfl, e⟩ := h
      have el : (rchM (cs.take xs.length)).2.2 = last cs := by
        rw [hcs.len, List.take_length]
        unfold rchM
        rw [rch_last]
        show (0 : Int) + last cs = last cs
        omega
      rw [el, hcs.len, List.take_length]
      refine ⟨_, rfl, _, rfl, _, rfl, (by show 3 ≤ sizeLine; decide), fun p hp => ?_⟩
      exact k _ p (same_upd e hp) (e.free hp) upd_same
end
end Gc

/-! x *= y of great numbers; xs[i] += y -/
namespace Gc
open PySem PySem.Spec PyProof.Rows L2
section
variable {X : Cx}
def ipC (C : Int → Int → Prop) (f : Int → Int → Int) : TIp := fun x y H Q => ∃ i j, x = .int i ∧ y = .int j ∧ C i j ∧ Q (.int (f i j)) H
theorem ip_mulW : PIp X .Mult (ipC CMulW fun i j => i * j) := by
  intro pins s σ H x y v u Q I rx ry h
  obtain ⟨i, j, rfl, rfl, hc, q⟩ := h
  obtain ⟨t, rfl⟩ := rx
  obtain ⟨t', rfl⟩ := ry
  exact PySem.P.imul_int (⟨.int (i * j), H, I.tok _, ⟨_, rfl⟩, q⟩) hc.ok
/-- an item of a list by its place from the front, within an augmented assignment -/
def rGetL : V → V → Hp → VK → Prop := fun o i H Q => ∃ (p : Addr) (xs : List V) (j : Nat) (v : V), o = .ref p ∧ i = .int j ∧ H p = some (.lst xs) ∧ xs.length ≤ 1000000 ∧ xs[j]? = some v ∧ Q v H
theorem get_list : PGet X rGetL := by
  intro pins s σ H o i ov iv Q I ro ri h
  obtain ⟨p, xs, j, z, rfl, rfl, hp, hl, hj, q⟩ := h
  cases ro
  obtain ⟨t, rfl⟩ := ri
  obtain ⟨its, r, pl, hz⟩ := I.list (.inl (.inl hp))
  obtain ⟨w, ew, rw'⟩ := r.get hj
  have lj := (List.getElem?_eq_some_iff.mp hj).1
  have l63 := line63
  refine wpAny_getItem_list (x := w) pl.isList (by omega) (by omega) (by simpa using ew) ⟨z, H, I, rw', q⟩
end
end Gc

/-! the source of numbers of the laws k01 to k05, k40 to k43 -/
namespace Gc
open PySem L2
abbrev s_source : Stmt := top 35
abbrev s_sdraw : Stmt := top 36
/-! ### the source of drawn numbers: at a, its digits at d; at most n draws were made -/
def Src (H : Hp) (a d : Addr) (n : Nat) : Prop := ∃ (ds : List Int) (cur mix cnt : Int), H a = some (.lst [.ref d, .int cur, .int mix, .int cnt]) ∧ H d = some (.lst (ds.map V.int)) ∧
  0 ≤ mix ∧ mix < 2 ^ 61 ∧ 0 ≤ cnt ∧ cnt ≤ n ∧ ds.length ≤ 63
theorem src_ne {H : Hp} {a d : Addr} {n : Nat} (h : Src H a d n) : a ≠ d := by
  obtain ⟨ds, cur, mix, cnt, h1, h2, _⟩ := h
  refine ne_of h1 h2 fun e => ?_
  cases ds with
  | nil => cases e
  | cons x xs => cases e

theorem Src.same {H H' : Hp} {a d : Addr} {n : Nat} (e : Same H H') (h : Src H a d n) : Src H' a d n := by
  obtain ⟨ds, cur, mix, cnt, h1, h2, h3⟩ := h
  exact ⟨ds, cur, mix, cnt, e _ _ h1, e _ _ h2, h3⟩
theorem Src.more {H : Hp} {a d : Addr} {n m : Nat} (h : Src H a d n) (l : n ≤ m) : Src H a d m := by
  obtain ⟨ds, cur, mix, cnt, h1, h2, h3, h4, h5, h6, h7⟩ := h
  exact ⟨ds, cur, mix, cnt, h1, h2, h3, h4, h5, by omega, h7⟩
theorem Src.off {H : Hp} {a d p : Addr} {n : Nat} (h : Src H a d n) (hp : H p = none) : p ≠ a ∧ p ≠ d := by
  obtain ⟨ds, cur, mix, cnt, h1, h2, _⟩ := h
  exact ⟨(ne_of_none h1 hp).symm, (ne_of_none h2 hp).symm⟩
theorem Src.upd {H : Hp} {a d p : Addr} {n : Nat} {o : HO} (h : Src H a d n) (n1 : p ≠ a) (n2 : p ≠ d) : Src (upd H p o) a d n := by
  obtain ⟨ds, cur, mix, cnt, h1, h2, h3⟩ := h
  exact ⟨ds, cur, mix, cnt, by rw [upd_ne n1.symm]; exact h1, by rw [upd_ne n2.symm]; exact h2, h3⟩
/-- tuples stand while numbers are drawn -/
theorem Src.tup {K : PySem.W.Frag} {H H' : Hp} {a d p : Addr} {n : Nat} {ys : List V} (B : Src H a d n) (e : Keep a d H H') (h : SqT K H p ys) : SqT K H' p ys := by
  obtain ⟨ds, _, _, _, h1, h2, _⟩ := B
  rcases h with (z | ⟨o, z⟩) | z
  · exact .inl (.inl (e _ _ (ne_of z h1 (by intro q; cases q)) (ne_of z h2 (by intro q; cases q)) z))
  · exact .inl (.inr ⟨o, e _ _ (ne_of z h1 (by intro q; cases q)) (ne_of z h2 (by intro q; cases q)) z⟩)
  · exact .inr z
def spSource (K : PySem.W.Frag) : Sp := fun vs H Q _ => ∃ (a : Addr) (ns : List Int), vs = [.ref a] ∧ SqL K H a (ns.map V.int) ∧ ns.length ≤ 63 ∧
  ∀ (H' : Hp) (p d : Addr), Same H H' → H p = none → H d = none → Src H' p d 0 → Q (.ref p) H'
def spDraw : Sp := fun vs H Q _ => ∃ (a d : Addr) (n : Nat) (many : Int), vs = [.ref a, .int many] ∧ Src H a d n ∧ n < 2 ^ 40 ∧ 0 < many ∧ many.natAbs.log2 < 9000 ∧
  ∀ (H' : Hp) (r : Int), Keep a d H H' → Src H' a d (n + 1) → 0 ≤ r → r < many → Q (.int r) H'
theorem pos61 : (0 : Int) < 2 ^ (61 : Int).toNat - 1 := by decide
structure TxtD (mg : Str → Option Value) : Prop where
  max : mg "max" = none

section
variable {P : Program} {w : World} {K : PySem.W.Frag} {mg : Str → Option Value} {base : Heap}
theorem sc_law_source : FnScope ["script", "mix", "digits", "cell", "size"] ["script"] (defScope s_source) := ⟨rfl, rfl, rfl, by decide +kernel, rfl, by decide +kernel, by decide +kernel⟩
theorem ok_source {f : Addr} {fd : FuncData} (F : Fun K "_law_source" "_law_source" s_source f fd) (T : TxtD mg) : FnOk P w K mg base CX0 1 f fd ["script"] (spSource K) := by
  refine F.ok sc_law_source (fun vs H Q E h => ?_) (fun cdv A outer s H vs Q E hr h => ?_)
  · obtain ⟨a, ns, rfl, _⟩ := h
    rfl
  · obtain ⟨a, ns, rfl, hS, hlen, k⟩ := h
    refine ⟨_, (pss_cons (ps_set (i := 1) sc_law_source.nd rfl (Or.inl rfl) pe_int)
      (pss_cons (ps_set (i := 2) sc_law_source.nd rfl (Or.inl rfl) (pe_lst pa_nil))
      (pss_cons (ps_for PassesOwn.never rfl (pi_list (pv 0)) (pg_name (i := 3) sc_law_source.nd rfl (Or.inl rfl)) (pss_cons (ps_set (i := 1) sc_law_source.nd rfl (Or.inl rfl) (pe_op op_mod (pe_op op_add (pe_op op_mulW (pv 1) pe_int) (pv 3)) (pe_op op_sub (pe_op op_pow pe_int pe_int) pe_int)))
      (pss_cons (ps_set (i := 4) sc_law_source.nd rfl (Or.inl rfl) (pe_callB (call_max2 rfl) (by rfl) T.max (by decide +kernel) (pa_cons (pv 3) (pa_cons (pe_op op_sub pe_int (pv 3)) pa_nil))))
      (pss_one (ps_if (pt_cmpR op_ge (pv 4) (pe_op op_pow pe_int pe_int) (nomark _)) (pss_one (ps_expr (pe_bm PySem.F.plainAttrs_list PySem.F.slot_list_append PySem.F.type_list_append mt_append (pv 2) (pa_cons (pe_op op_sub (pv 4) (pe_op op_pow pe_int pe_int)) pa_nil)))) pss_nil)))))
      (pss_one (ps_ret (pe_lst (pa_cons (pv 2) (pa_cons pe_int (pa_cons (pv 1) (pa_cons pe_int pa_nil)))))))))), ?_⟩
    refine ⟨Nat.zero_le _, fun d hd => ?_⟩
    refine ⟨_, rfl, a, rfl, ⟨_, (same_upd (Same.refl H) hd).seq hS⟩, for_list (K := K) (a := a) (xs := ns.map V.int) (fun i σ H' => ∃ (mix : Int) (ds : List Int) (v1 v2 : Option V), σ = [some (.ref a), some (.int mix), some (.ref d), v1, v2] ∧ Same H H' ∧ H' d = some (.lst (ds.map V.int)) ∧ 0 ≤ mix ∧ mix < 2 ^ 61 ∧ ds.length ≤ i)
      ⟨271828182845904, [], none, none, rfl, same_upd (Same.refl H) hd, upd_same, by decide, by decide, Nat.le_refl _⟩ (fun i σ H' _ ⟨_, _, _, _, _, e, _⟩ => e.seq hS) ?_ ?_⟩
    · rintro i y σ H' hi ⟨mix, ds, v1, v2, rfl, e, hD, m0, m1, hl⟩
      obtain ⟨u, rfl⟩ := int_at hi
      have hi' : i < ns.length := by
        have q := (List.getElem?_eq_some_iff.mp hi).1
        rw [List.length_map] at q
        exact q
      -- mix = (mix * 1000033 + cell) % (2 ** 61 - 1)
      refine ⟨_, rfl, _, _, rfl, rfl, wide_mul (a := 61) (b := 61) (by omega) (by decide) (by decide) (by decide) (by decide), _, rfl, _, _, rfl, rfl, _, _, rfl, rfl, cpow (by decide), _, _, rfl, rfl, _, _, rfl, rfl, pos61, ?_⟩
      -- size = max(cell, 0 - cell)
      refine ⟨_, rfl, _, rfl, _, _, rfl, rfl, _, _, rfl, ?_⟩
      -- if size >= 10 ** 18
      refine ⟨_, rfl, _, _, rfl, rfl, cpow (by decide), _, _, rfl, rfl, _, rfl, ?_⟩
      have b0 := Int.emod_nonneg (mix * 1000033 + u) (show (2 : Int) ^ (61 : Int).toNat - 1 ≠ 0 by decide)
      have b1 := Int.emod_lt_of_pos (mix * 1000033 + u) (show (0 : Int) < 2 ^ (61 : Int).toNat - 1 by decide)
      have b2 : (2 : Int) ^ (61 : Int).toNat - 1 < 2 ^ 61 := by decide
      refine ite2 (fun _ => ?_) (fun _ => ?_)
      · refine ⟨_, rfl, Or.inl ⟨rfl, _, SqL.of hD⟩, _, rfl, _, _, rfl, rfl, cpow (by decide), _, _, rfl, rfl, d, _, _, rfl, rfl, hD, ?_, ?_⟩
        · rw [List.length_map]
          exact small1000 (by omega)
        · refine ⟨_, ds ++ [(if 0 - u > u then 0 - u else u) - 10 ^ (18 : Int).toNat], _, _, rfl, fun b o hb => ?_, ?_, b0, Int.lt_trans b1 b2, ?_⟩
          · rw [upd_ne (ne_of_none hb hd)]
            exact e b o hb
          · rw [upd_same, List.map_append]
            rfl
          · rw [List.length_append, List.length_singleton]
            omega
      · exact ⟨_, ds, _, _, rfl, e, hD, b0, Int.lt_trans b1 b2, Nat.le_succ_of_le hl⟩
    · rintro σ H' ⟨mix, ds, v1, v2, rfl, e, hD, m0, m1, hl⟩
      refine ⟨_, rfl, _, rfl, (by show 4 ≤ sizeLine; decide), fun p hp => ?_⟩
      have hl' : ds.length ≤ 63 := by
        rw [List.length_map] at hl
        omega
      have npd : p ≠ d := (ne_of_none hD hp).symm
      exact k _ p d (same_upd e hp) (e.free hp) hd ⟨ds, 0, mix, 0, upd_same, by rw [upd_ne npd.symm]; exact hD, m0, m1, by decide, by decide, hl'⟩
theorem sc_law_draw : FnScope ["source", "many", "drawn", "mixed"] ["source", "many"] (defScope s_sdraw) := ⟨rfl, rfl, rfl, by decide +kernel, rfl, by decide +kernel, by decide +kernel⟩
theorem ok_draw {f : Addr} {fd : FuncData} (F : Fun K "_law_draw" "_law_draw" s_sdraw f fd) : FnOk P w K mg base CX0 1 f fd ["source", "many"] spDraw := by
  refine F.ok sc_law_draw (fun vs H Q E h => ?_) (fun cdv A outer s H vs Q E hr h => ?_)
  · obtain ⟨a, d, n, many, rfl, _⟩ := h
    rfl
  · obtain ⟨a, d, n, many, rfl, hs, hn, m0, mb, k⟩ := h
    have nad := src_ne hs
    obtain ⟨ds0, cur0, mix, cnt, hA0, hD0, x0, x1, c0, c1, hl0⟩ := hs
    refine ⟨_, (C8.pss_cut (ps_while PassesOwn.never (PW.pt (pw_and (pt_cmpR op_lt (pe_ix ix_list (pv 0) pe_int (fun _ _ => rfl)) pe_int (nomark _)) (pw_and1 (pt_cmpR (op_neD hr.units) (pe_ix ix_list (pv 0) pe_int (fun _ _ => rfl)) (pe_lst pa_nil) (nomark _))))) (pss_one (ps_asg (pe_bm PySem.F.plainAttrs_list PySem.F.slot_list_pop PySem.F.type_list_pop mt_popAt (pe_ix ix_list (pv 0) pe_int (fun _ _ => rfl)) (pa_cons pe_int pa_nil)) (pg_sub (pv 0) pe_int set_list))))
      (pss_cons (ps_if (pt_cmpR op_ge (pe_ix ix_list (pv 0) pe_int (fun _ _ => rfl)) pe_int (nomark _)) (pss_cons (ps_set (i := 2) sc_law_draw.nd rfl (Or.inl rfl) (pe_op op_mod (pe_ix ix_list (pv 0) pe_int (fun _ _ => rfl)) (pv 1)))
      (pss_cons (ps_asg (pe_op op_fdivW (pe_ix ix_list (pv 0) pe_int (fun _ _ => rfl)) (pv 1)) (pg_sub (pv 0) pe_int set_list))
      (pss_one (ps_ret (pv 2))))) pss_nil)
      (pss_cons (ps_asg (pe_op op_add (pe_ix ix_list (pv 0) pe_int (fun _ _ => rfl)) pe_int) (pg_sub (pv 0) pe_int set_list))
      (pss_cons (ps_set (i := 3) sc_law_draw.nd rfl (Or.inl rfl) (pe_op op_mulW (pe_op op_add (pe_ix ix_list (pv 0) pe_int (fun _ _ => rfl)) pe_int) (pe_op op_pow (pe_op op_add (pe_ix ix_list (pv 0) pe_int (fun _ _ => rfl)) pe_int) pe_int)))
      (pss_cons (ps_set (i := 3) sc_law_draw.nd rfl (Or.inl rfl) (pe_op op_mod (pe_op op_add (pv 3) (pe_op op_mulW pe_int (pe_ix ix_list (pv 0) pe_int (fun _ _ => rfl)))) (pe_op op_sub (pe_op op_pow pe_int pe_int) pe_int)))
      (pss_one (ps_ret (pe_op op_mod (pe_op op_fdivW (pe_op op_mod (pe_op op_pow (pv 3) pe_int) (pe_op op_add (pe_op op_pow pe_int pe_int) pe_int)) pe_int) (pv 1))))))))), ?_⟩
    refine ⟨fun σ H' => ∃ (ds : List Int) (cur : Int), σ = [some (.ref a), some (.int many), none, none] ∧ Keep a d H H' ∧ H' a = some (.lst [.ref d, .int cur, .int mix, .int cnt]) ∧ H' d = some (.lst (ds.map V.int)) ∧ ds.length ≤ 63, ?_, ?_⟩
    · refine ⟨fun m σ H' => ∃ (ds : List Int) (cur : Int), m = ds.length ∧ σ = [some (.ref a), some (.int many), none, none] ∧ Keep a d H H' ∧ H' a = some (.lst [.ref d, .int cur, .int mix, .int cnt]) ∧ H' d = some (.lst (ds.map V.int)) ∧ ds.length ≤ 63,
        ⟨_, ds0, cur0, rfl, rfl, Keep.refl H, hA0, hD0, hl0⟩, ?_⟩
      rintro m σ H1 ⟨ds, cur, rfl, rfl, e, hA, hD, hl⟩
      refine ⟨_, rfl, a, _, 1, _, rfl, rfl, SqL.of hA, rfl, _, _, rfl, rfl, _, rfl, ?_⟩
      refine ite2 (fun c1 => ?_) (fun c1 => ⟨ds, cur, rfl, e, hA, hD, hl⟩)
      refine ⟨_, rfl, a, _, 0, _, rfl, rfl, SqL.of hA, rfl, Nat.zero_le _, fun p hp => ?_⟩
      have npa : p ≠ a := (ne_of_none hA hp).symm
      have npd : p ≠ d := (ne_of_none hD hp).symm
      have hA' : upd H1 p (.lst []) a = some (.lst [.ref d, .int cur, .int mix, .int cnt]) := by rw [upd_ne npa.symm]; exact hA
      have hD' : upd H1 p (.lst []) d = some (.lst (ds.map V.int)) := by rw [upd_ne npd.symm]; exact hD
      refine ⟨.list (ds.map PyData.int), .list [], Dp.lst (SqL.of hD') (dp_ints ds), Dp.lst (SqL.of upd_same) .nil, PySem.W.ke_shaped_ints ds, rfl, _, rfl, ?_⟩
      cases ds with
      | nil => exact iteF ⟨[], cur, rfl, e.new hp, hA', hD', hl⟩
      | cons x xs =>
        refine iteT ⟨_, fun _ _ h => h, ?_⟩
        refine ⟨_, rfl, a, _, 0, _, rfl, rfl, SqL.of hA', rfl, Or.inl ⟨rfl, _, SqL.of hD'⟩, d, _, 0, 0, _, rfl, rfl, hD', by decide, by decide, seqIndex_of (Int.le_refl 0) (by rw [List.length_map, List.length_cons]; omega), rfl, ?_⟩
        refine ⟨_, rfl, a, _, 1, 1, rfl, rfl, (by rw [upd_ne nad]; exact hA'), rfl, ?_⟩
        refine ⟨xs.length, Nat.lt_succ_self _, xs, x, rfl, rfl, ((e.new hp).upd2).upd1, upd_same, ?_, ?_⟩
        · rw [upd_ne nad.symm, upd_same]
          rfl
        · rw [List.length_cons] at hl
          omega
    · rintro σ H1 ⟨ds, cur, rfl, e, hA, hD, hl⟩
      refine ⟨_, rfl, a, _, 1, _, rfl, rfl, SqL.of hA, rfl, _, _, rfl, rfl, _, rfl, ?_⟩
      refine ite2 (fun c1 => ?_) (fun c1 => ?_)
      · refine ⟨_, rfl, a, _, 1, _, rfl, rfl, SqL.of hA, rfl, _, rfl, _, _, rfl, rfl, m0, ?_⟩
        refine ⟨_, rfl, a, _, 1, _, rfl, rfl, SqL.of hA, rfl, _, rfl, _, _, rfl, rfl, ⟨m0, mb⟩, ?_⟩
        refine ⟨_, rfl, a, _, 1, 1, rfl, rfl, hA, rfl, ?_⟩
        refine ⟨_, rfl, k _ _ e.upd1 ⟨ds, _, mix, cnt, upd_same, by rw [upd_ne nad.symm]; exact hD, x0, x1, c0, by omega, hl⟩ (Int.emod_nonneg _ (by omega)) (Int.emod_lt_of_pos _ m0)⟩
      · refine ⟨_, rfl, a, _, 3, _, rfl, rfl, SqL.of hA, rfl, _, _, rfl, rfl, ?_⟩
        refine ⟨_, rfl, a, _, 3, 3, rfl, rfl, hA, rfl, ?_⟩
        have c2 : cnt + 1 < 2 ^ 41 := by omega
        have hA2 : upd H1 a (.lst [.ref d, .int cur, .int mix, .int (cnt + 1)]) a = some (.lst [.ref d, .int cur, .int mix, .int (cnt + 1)]) := upd_same
        -- mixed = (source[2] + 7) * (source[3] + 3) ** 3
        refine ⟨_, rfl, a, _, 2, _, rfl, rfl, SqL.of hA2, rfl, _, _, rfl, rfl, _, rfl, a, _, 3, _, rfl, rfl, SqL.of hA2, rfl, _, _, rfl, rfl, _, _, rfl, rfl, ⟨by decide, by decide, by omega⟩, _, _, rfl, rfl, wide_mul (a := 62) (b := 200) (by omega) ?_ (by decide) (by decide) (by decide), ?_⟩
        · exact pow_small (a := 62) (k := 3) (by omega) (by decide)
        -- mixed = (mixed + 1000081 * source[3]) % (2 ** 61 - 1)
        refine ⟨_, rfl, _, rfl, a, _, 3, _, rfl, rfl, SqL.of hA2, rfl, _, _, rfl, rfl, wide_mul (a := 61) (b := 61) (by decide) (by omega) (by decide) (by decide) (by decide), _, _, rfl, rfl, _, _, rfl, rfl, cpow (by decide), _, _, rfl, rfl, _, _, rfl, rfl, pos61, ?_⟩
        have b0 := Int.emod_nonneg ((mix + 7) * (cnt + 1 + 3) ^ (3 : Int).toNat + 1000081 * (cnt + 1)) (show (2 : Int) ^ (61 : Int).toNat - 1 ≠ 0 by decide)
        have b1 := Int.emod_lt_of_pos ((mix + 7) * (cnt + 1 + 3) ^ (3 : Int).toNat + 1000081 * (cnt + 1)) pos61
        have b2 : (2 : Int) ^ (61 : Int).toNat - 1 < 2 ^ 61 := by decide
        -- return mixed ** 5 % (10 ** 18 + 9) // 128 % many
        refine ⟨_, rfl, _, _, rfl, rfl, ⟨by decide, by decide, ?_⟩, _, _, rfl, rfl, cpow (by decide), _, _, rfl, rfl, _, _, rfl, rfl, (show (0 : Int) < 10 ^ (18 : Int).toNat + 9 by decide), _, _, rfl, rfl, ⟨by decide, by decide⟩, _, rfl, _, _, rfl, rfl, m0, ?_⟩
        · show (((mix + 7) * (cnt + 1 + 3) ^ (3 : Int).toNat + 1000081 * (cnt + 1)) % (2 ^ (61 : Int).toNat - 1)).natAbs < 2 ^ 64
          omega
        exact k _ _ e.upd1 ⟨ds, cur, mix, cnt + 1, upd_same, by rw [upd_ne nad.symm]; exact hD, x0, x1, by omega, by omega, hl⟩ (Int.emod_nonneg _ (by omega)) (Int.emod_lt_of_pos _ m0)
end
end Gc

/-! _law_same of the laws k01 to k05, k40 to k43 -/
namespace Gc
open PySem L2
abbrev s_same : Stmt := top 37
mutual
/-- the greatest number of items of any list within -/
def wid : PyData → Nat
  | .list ds => max ds.length (widAll ds)
  | .tuple ds => max ds.length (widAll ds)
  | _ => 0
def widAll : List PyData → Nat
  | [] => 0
  | d :: ds => max (wid d) (widAll ds)
end
theorem wid_at : ∀ {ds : List PyData} {i : Nat} {d : PyData}, ds[i]? = some d → wid d ≤ widAll ds
  | [], i, d, h => by simp at h
  | x :: r, 0, d, h => by
    have e : x = d := Option.some.inj h
    subst e
    simp only [widAll]
    exact Nat.le_max_left _ _
  | x :: r, i + 1, d, h => by
    have ih := wid_at (ds := r) (i := i) (d := d) h
    simp only [widAll]
    exact Nat.le_trans ih (Nat.le_max_right _ _)
/-- _law_same(found, wanted), both the same data: True -/
def spSame (K : PySem.W.Frag) (n : Nat) : Sp := fun vs H Q _ => ∃ (x y : V) (d : PyData), vs = [x, y] ∧ Dp K H x d ∧ Dp K H y d ∧ d.depth < n ∧ wid d ≤ 1000 ∧ ∀ H', Same H H' → Q (.bl true) H'
structure TxtS (mg : Str → Option Value) : Prop where
  isinstance : mg "isinstance" = none
  bool : mg "bool" = none
  int : mg "int" = none
  str : mg "str" = none
  list : mg "list" = none
  tuple : mg "tuple" = none
  len : mg "len" = none
  range : mg "range" = none
section
variable {P : Program} {w : World} {K : PySem.W.Frag} {mg : Str → Option Value} {base : Heap}
theorem sc_law_same : FnScope ["found", "wanted", "k"] ["found", "wanted"] (defScope s_same) := ⟨rfl, rfl, rfl, by decide +kernel, rfl, by decide +kernel, by decide +kernel⟩
theorem ok_same0 {f : Addr} {fd : FuncData} (F : Fun K "_law_same" "_law_same" s_same f fd) : FnOk P w K mg base CX0 1 f fd ["found", "wanted"] (spSame K 0) := by
  refine F.ok sc_law_same (fun vs H Q E h => ?_) (fun cdv A outer s H vs Q E hr h => ?_)
  · obtain ⟨x, y, d, rfl, _⟩ := h
    rfl
  · obtain ⟨x, y, d, _, _, _, l, _, _⟩ := h
    exact absurd l (Nat.not_lt_zero _)
theorem ok_sameS {n : Nat} {f : Addr} {fd : FuncData} (F : Fun K "_law_same" "_law_same" s_same f fd) (T : TxtS mg) (cR : Cal P w K mg base (n + 1) "_law_same" (spSame K n)) :
    FnOk P w K mg base CX0 (n + 2) f fd ["found", "wanted"] (spSame K (n + 1)) := by
  refine F.ok sc_law_same (fun vs H Q E h => ?_) (fun cdv A outer s H vs Q E hr h => ?_)
  · obtain ⟨x, y, d, rfl, _⟩ := h
    rfl
  · obtain ⟨x, y, d, rfl, hx, hy, hd, hw, k⟩ := h
    refine ⟨_, (pss_cons (ps_if (pt_cmpR op_isN (pv 1) pe_non (nomark _)) (pss_one (ps_ret (pe_cmpR op_isN (pv 0) pe_non (nomark _)))) pss_nil)
      (pss_cons (ps_if (pt_val (pe_callB call_isi (by rfl) T.isinstance (by decide +kernel) (pa_cons (pv 1) (pa_cons (pe_bltn (v := .ty "bool") (u := .type "bool") (by rfl) T.bool (by decide +kernel) rfl) pa_nil)))) (pss_one (ps_ret (pe_and (pe_callB call_isi (by rfl) T.isinstance (by decide +kernel) (pa_cons (pv 0) (pa_cons (pe_bltn (v := .ty "bool") (u := .type "bool") (by rfl) T.bool (by decide +kernel) rfl) pa_nil))) (pe_one (pe_cmpR op_eq (pv 0) (pv 1) (nomark _)))))) pss_nil)
      (pss_cons (ps_if (pt_val (pe_callB call_isi (by rfl) T.isinstance (by decide +kernel) (pa_cons (pv 1) (pa_cons (pe_bltn (v := .ty "int") (u := .type "int") (by rfl) T.int (by decide +kernel) rfl) pa_nil)))) (pss_one (ps_ret (pe_and (pe_callB call_isi (by rfl) T.isinstance (by decide +kernel) (pa_cons (pv 0) (pa_cons (pe_bltn (v := .ty "int") (u := .type "int") (by rfl) T.int (by decide +kernel) rfl) pa_nil))) (pe_and (pe_not (pe_callB call_isi (by rfl) T.isinstance (by decide +kernel) (pa_cons (pv 0) (pa_cons (pe_bltn (v := .ty "bool") (u := .type "bool") (by rfl) T.bool (by decide +kernel) rfl) pa_nil)))) (pe_one (pe_cmpR op_eq (pv 0) (pv 1) (nomark _))))))) pss_nil)
      (pss_cons (ps_if (pt_val (pe_callB call_isi (by rfl) T.isinstance (by decide +kernel) (pa_cons (pv 1) (pa_cons (pe_bltn (v := .ty "str") (u := .type "str") (by rfl) T.str (by decide +kernel) rfl) pa_nil)))) (pss_one (ps_ret (pe_and (pe_callB call_isi (by rfl) T.isinstance (by decide +kernel) (pa_cons (pv 0) (pa_cons (pe_bltn (v := .ty "str") (u := .type "str") (by rfl) T.str (by decide +kernel) rfl) pa_nil))) (pe_one (pe_cmpR op_eq (pv 0) (pv 1) (nomark _)))))) pss_nil)
      (pss_cons (ps_if (pt_cmpR op_ne (pe_callB call_isi (by rfl) T.isinstance (by decide +kernel) (pa_cons (pv 0) (pa_cons (pe_bltn (v := .ty "list") (u := .type "list") (by rfl) T.list (by decide +kernel) rfl) pa_nil))) (pe_callB call_isi (by rfl) T.isinstance (by decide +kernel) (pa_cons (pv 1) (pa_cons (pe_bltn (v := .ty "list") (u := .type "list") (by rfl) T.list (by decide +kernel) rfl) pa_nil))) (nomark _)) (pss_one (ps_ret pe_bl)) pss_nil)
      (pss_cons (ps_if (PW.pt (pw_or (pt_cmpR op_ne (pe_callB call_isi (by rfl) T.isinstance (by decide +kernel) (pa_cons (pv 0) (pa_cons (pe_bltn (v := .ty "tuple") (u := .type "tuple") (by rfl) T.tuple (by decide +kernel) rfl) pa_nil))) (pe_callB call_isi (by rfl) T.isinstance (by decide +kernel) (pa_cons (pv 1) (pa_cons (pe_bltn (v := .ty "tuple") (u := .type "tuple") (by rfl) T.tuple (by decide +kernel) rfl) pa_nil))) (nomark _)) (pw_or1 (pt_cmpR op_ne (pe_callB call_len_seq (by rfl) T.len (by decide +kernel) (pa_cons (pv 0) pa_nil)) (pe_callB call_len_seq (by rfl) T.len (by decide +kernel) (pa_cons (pv 1) pa_nil)) (nomark _))))) (pss_one (ps_ret pe_bl)) pss_nil)
      (pss_one (ps_ret (pe_cmpR (op_eqD hr.units) (pe_lc (own := [("k", 2)]) rfl sc_law_same.nd (pi_range1 rfl T.range (pa_cons (pe_callB call_len_seq (by rfl) T.len (by decide +kernel) (pa_cons (pv 1) pa_nil)) pa_nil)) (blkOk_by (N := ["found", "wanted", "k"]) (sc := defScope s_same) (by decide +kernel)) (fun _ _ _ _ _ => (pg_name (i := 2) sc_law_same.nd rfl (Or.inl rfl))) (fun _ _ _ _ _ => (pts_one (pt_not (pt_val (pe_cal cR hr (Nat.le_refl _) (by rfl) (pa_cons (pe_ix (show IxR _ (rIx K) from ix_seq) (pv 0) (pv 2) (fun _ _ => rfl)) (pa_cons (pe_ix (show IxR _ (rIx K) from ix_seq) (pv 1) (pv 2) (fun _ _ => rfl)) pa_nil))))))) (fun _ _ _ _ _ => (pv 2))) (pe_lst pa_nil) (nomark _)))))))))), ?_⟩
    have kk : Q (.bl true) H := k H (Same.refl H)
    cases hx with
    | non =>
      cases hy
      refine ⟨_, rfl, rfl, _, rfl, iteT ?_⟩
      exact ⟨_, rfl, rfl, kk⟩
    | bl b =>
      cases hy
      refine ⟨_, rfl, rfl, _, rfl, iteF ?_⟩
      refine ⟨_, rfl, _, _, _, _, _, rfl, .ty "bool", .base (.bl b), kit_ty (show kitB "bool" "bool" = some true by decide +kernel), _, rfl, iteT ?_⟩
      refine ⟨_, rfl, _, _, _, _, _, rfl, .ty "bool", .base (.bl b), kit_ty (show kitB "bool" "bool" = some true by decide +kernel), _, rfl, iteT ?_⟩
      refine ⟨_, rfl, _, rfl, rfl, ?_⟩
      rw [decide_eq_true (Eq.refl (V.bl b))]
      exact kk
    | int i =>
      cases hy
      refine ⟨_, rfl, rfl, _, rfl, iteF ?_⟩
      refine ⟨_, rfl, _, _, _, _, _, rfl, .ty "bool", .base (.int i), kit_ty (show kitB "int" "bool" = some false by decide +kernel), _, rfl, iteF ?_⟩
      refine ⟨_, rfl, _, _, _, _, _, rfl, .ty "int", .base (.int i), kit_ty (show kitB "int" "int" = some true by decide +kernel), _, rfl, iteT ?_⟩
      refine ⟨_, rfl, _, _, _, _, _, rfl, .ty "int", .base (.int i), kit_ty (show kitB "int" "int" = some true by decide +kernel), _, rfl, iteT ?_⟩
      refine ⟨_, rfl, _, _, _, _, _, rfl, .ty "bool", .base (.int i), kit_ty (show kitB "int" "bool" = some false by decide +kernel), _, rfl, _, rfl, iteT ?_⟩
      refine ⟨_, rfl, _, rfl, rfl, ?_⟩
      rw [decide_eq_true (Eq.refl (V.int i))]
      exact kk
    | str z =>
      cases hy
      refine ⟨_, rfl, rfl, _, rfl, iteF ?_⟩
      refine ⟨_, rfl, _, _, _, _, _, rfl, .ty "bool", .base (.str z), kit_ty (show kitB "str" "bool" = some false by decide +kernel), _, rfl, iteF ?_⟩
      refine ⟨_, rfl, _, _, _, _, _, rfl, .ty "int", .base (.str z), kit_ty (show kitB "str" "int" = some false by decide +kernel), _, rfl, iteF ?_⟩
      refine ⟨_, rfl, _, _, _, _, _, rfl, .ty "str", .base (.str z), kit_ty (show kitB "str" "str" = some true by decide +kernel), _, rfl, iteT ?_⟩
      refine ⟨_, rfl, _, _, _, _, _, rfl, .ty "str", .base (.str z), kit_ty (show kitB "str" "str" = some true by decide +kernel), _, rfl, iteT ?_⟩
      refine ⟨_, rfl, _, rfl, rfl, ?_⟩
      rw [decide_eq_true (Eq.refl (V.str z))]
      exact kk
    | @lst a xs ds qx rx =>
      cases hy with
      | @lst a' ys _ qy ry =>
        have dl : PyData.depthAll ds < n := by
          simp only [PyData.depth] at hd
          omega
        simp only [wid] at hw
        have wl : ds.length ≤ 1000 := Nat.le_trans (Nat.le_max_left _ _) hw
        have wa : widAll ds ≤ 1000 := Nat.le_trans (Nat.le_max_right _ _) hw
        have yl := dps_len ry
        refine ⟨_, rfl, rfl, _, rfl, iteF ?_⟩
        refine ⟨_, rfl, _, _, _, _, _, rfl, .ty "bool", (ty_l qy), kit_ty (show kitB "list" "bool" = some false by decide +kernel), _, rfl, iteF ?_⟩
        refine ⟨_, rfl, _, _, _, _, _, rfl, .ty "int", (ty_l qy), kit_ty (show kitB "list" "int" = some false by decide +kernel), _, rfl, iteF ?_⟩
        refine ⟨_, rfl, _, _, _, _, _, rfl, .ty "str", (ty_l qy), kit_ty (show kitB "list" "str" = some false by decide +kernel), _, rfl, iteF ?_⟩
        refine ⟨_, rfl, _, _, _, _, _, rfl, .ty "list", (ty_l qx), kit_ty (show kitB "list" "list" = some true by decide +kernel), _, rfl, _, _, _, _, _, rfl, .ty "list", (ty_l qy), kit_ty (show kitB "list" "list" = some true by decide +kernel), rfl, _, rfl, iteF ?_⟩
        refine ⟨_, rfl, _, _, _, _, _, rfl, .ty "tuple", (ty_l qx), kit_ty (show kitB "list" "tuple" = some false by decide +kernel), _, rfl, _, _, _, _, _, rfl, .ty "tuple", (ty_l qy), kit_ty (show kitB "list" "tuple" = some false by decide +kernel), rfl, _, rfl, ?_⟩
        refine iteF (B := _) ?_
        refine ⟨_, rfl, a, xs, rfl, .inl qx, _, rfl, a', ys, rfl, .inl qy, rfl, _, rfl, iteNS ?_ ?_⟩
        · rw [dps_len rx, dps_len ry]
        refine ⟨_, rfl, a', ys, rfl, .inl qy, _, rfl, ?_, ?_, fun D hD => ?_⟩
        · omega
        · omega
        refine lc_range (lo := 0) (n := ys.length) (fun _ H' => Same H H' ∧ H' D = some (.lst [])) ⟨same_upd (Same.refl H) hD, upd_same⟩ (fun i H' hi h => ?_) (fun H' h => ?_)
        · obtain ⟨e, eD⟩ := h
          obtain ⟨v1, d1, g1, g2, g3⟩ := dps_at (i := i) rx (by rw [← dps_len ry]; exact hi)
          obtain ⟨v2, d2, g4, g5, g6⟩ := dps_at (i := i) ry (by rw [← dps_len ry]; exact hi)
          obtain rfl : d1 = d2 := Option.some.inj (g2.symm.trans g5)
          refine ⟨rfl, _, rfl, _, rfl, Or.inl ⟨a, xs, _, v1, rfl, rfl, Same.seq e qx, at_of (j := i) (by omega) g1, ?_⟩⟩
          refine ⟨_, rfl, _, rfl, Or.inl ⟨a', ys, _, v2, rfl, rfl, Same.seq e qy, at_of (j := i) (by omega) g4, ?_⟩⟩
          refine ⟨v1, v2, d1, rfl, dp_same e _ _ g3, dp_same e _ _ g6, Nat.lt_of_le_of_lt (depth_at g2) dl, Nat.le_trans (wid_at g2) wa, fun H2 e2 => ⟨_, rfl, iteF ?_⟩⟩
          exact ⟨e.trans e2, e2 _ _ eD⟩
        · obtain ⟨e, eD⟩ := h
          refine ⟨Nat.zero_le _, fun p hp => ⟨.list [], .list [], .lst (SqL.of (by rw [upd_ne (ne_of_none eD hp)]; exact eD)) .nil, .lst (SqL.of upd_same) .nil, rfl, rfl, k _ (same_upd e hp)⟩⟩
    | @tup a xs ds qx rx =>
      cases hy with
      | @tup a' ys _ qy ry =>
        have dl : PyData.depthAll ds < n := by
          simp only [PyData.depth] at hd
          omega
        simp only [wid] at hw
        have wl : ds.length ≤ 1000 := Nat.le_trans (Nat.le_max_left _ _) hw
        have wa : widAll ds ≤ 1000 := Nat.le_trans (Nat.le_max_right _ _) hw
        have yl := dps_len ry
        refine ⟨_, rfl, rfl, _, rfl, iteF ?_⟩
        refine ⟨_, rfl, _, _, _, _, _, rfl, .ty "bool", (ty_t qy), kit_ty (show kitB "tuple" "bool" = some false by decide +kernel), _, rfl, iteF ?_⟩
        refine ⟨_, rfl, _, _, _, _, _, rfl, .ty "int", (ty_t qy), kit_ty (show kitB "tuple" "int" = some false by decide +kernel), _, rfl, iteF ?_⟩
        refine ⟨_, rfl, _, _, _, _, _, rfl, .ty "str", (ty_t qy), kit_ty (show kitB "tuple" "str" = some false by decide +kernel), _, rfl, iteF ?_⟩
        refine ⟨_, rfl, _, _, _, _, _, rfl, .ty "list", (ty_t qx), kit_ty (show kitB "tuple" "list" = some false by decide +kernel), _, rfl, _, _, _, _, _, rfl, .ty "list", (ty_t qy), kit_ty (show kitB "tuple" "list" = some false by decide +kernel), rfl, _, rfl, iteF ?_⟩
        refine ⟨_, rfl, _, _, _, _, _, rfl, .ty "tuple", (ty_t qx), kit_ty (show kitB "tuple" "tuple" = some true by decide +kernel), _, rfl, _, _, _, _, _, rfl, .ty "tuple", (ty_t qy), kit_ty (show kitB "tuple" "tuple" = some true by decide +kernel), rfl, _, rfl, ?_⟩
        refine iteF (B := _) ?_
        refine ⟨_, rfl, a, xs, rfl, .inr qx, _, rfl, a', ys, rfl, .inr qy, rfl, _, rfl, iteNS ?_ ?_⟩
        · rw [dps_len rx, dps_len ry]
        refine ⟨_, rfl, a', ys, rfl, .inr qy, _, rfl, ?_, ?_, fun D hD => ?_⟩
        · omega
        · omega
        refine lc_range (lo := 0) (n := ys.length) (fun _ H' => Same H H' ∧ H' D = some (.lst [])) ⟨same_upd (Same.refl H) hD, upd_same⟩ (fun i H' hi h => ?_) (fun H' h => ?_)
        · obtain ⟨e, eD⟩ := h
          obtain ⟨v1, d1, g1, g2, g3⟩ := dps_at (i := i) rx (by rw [← dps_len ry]; exact hi)
          obtain ⟨v2, d2, g4, g5, g6⟩ := dps_at (i := i) ry (by rw [← dps_len ry]; exact hi)
          obtain rfl : d1 = d2 := Option.some.inj (g2.symm.trans g5)
          refine ⟨rfl, _, rfl, _, rfl, Or.inr <| Or.inl ⟨a, xs, _, v1, rfl, rfl, seq_t e qx, at_of (j := i) (by omega) g1, ?_⟩⟩
          refine ⟨_, rfl, _, rfl, Or.inr <| Or.inl ⟨a', ys, _, v2, rfl, rfl, seq_t e qy, at_of (j := i) (by omega) g4, ?_⟩⟩
          refine ⟨v1, v2, d1, rfl, dp_same e _ _ g3, dp_same e _ _ g6, Nat.lt_of_le_of_lt (depth_at g2) dl, Nat.le_trans (wid_at g2) wa, fun H2 e2 => ⟨_, rfl, iteF ?_⟩⟩
          exact ⟨e.trans e2, e2 _ _ eD⟩
        · obtain ⟨e, eD⟩ := h
          refine ⟨Nat.zero_le _, fun p hp => ⟨.list [], .list [], .lst (SqL.of (by rw [upd_ne (ne_of_none eD hp)]; exact eD)) .nil, .lst (SqL.of upd_same) .nil, rfl, rfl, k _ (same_upd e hp)⟩⟩
end
end Gc

/-! heaps, lengths of boxes, dicts out of pairs -/
namespace Gc
open PySem L2
theorem same_freeU {H H' : Hp} {d : Addr} {o : HO} (e : Same H H') (h : H d = none) : Same H (upd H' d o) := fun b u hb => by
  rw [upd_ne (ne_of_none hb h)]
  exact e b u hb
theorem go_len : ∀ {r : List Cmd} {off need : Int} {b : Ps} {st : Option Int} {b' : Ps}, go r off need b = some (st, b') → b'.length ≤ b.length + r.length
  | [], _, _, b, _, _, h => by cases h; exact Nat.le_refl _
  | .home :: r, _, _, b, _, _, h => by cases h
  | .stop :: r, _, _, b, _, _, h => by cases h; exact Nat.le_add_right _ _
  | .right n :: r, off, need, b, st, b', h => by
    have q := req_len b off need
    rw [List.length_cons]
    simp only [go] at h
    split at h
    · have := go_len h
      omega
    · cases h
      omega
  | .left n :: r, off, need, b, st, b', h => by
    have q := req_len b off (need + n)
    rw [List.length_cons]
    simp only [go] at h
    have := go_len h
    omega
  | .down n :: r, off, need, b, st, b', h => by
    rw [List.length_cons]
    simp only [go] at h
    have := go_len h
    omega
  | .up n :: r, off, need, b, st, b', h => by
    rw [List.length_cons]
    simp only [go] at h
    have := go_len h
    omega
theorem box_len {cs : List Cmd} {goal : Int} {st : Option Int} {L : Ps} (h : boxM cs goal = some (st, L)) : L.length ≤ cs.length := by
  unfold boxM at h
  cases e : go cs.reverse (last cs) goal [] with
  | none =>
    rw [e] at h
    cases h
  | some x =>
    rw [e] at h
    obtain ⟨st', b'⟩ := x
    have q := go_len e
    have h' : (st', b'.mergeSort leK) = (st, L) := Option.some.inj h
    cases h'
    rw [List.length_mergeSort]
    rw [List.length_reverse, List.length_nil] at q
    omega
theorem merge_dkI : ∀ (b acc : Ps), (keys acc ++ keys b).Nodup → mergeK (dkI acc) (dkI b) = dkI (acc ++ b)
  | [], acc, _ => by rw [List.append_nil]; rfl
  | q :: b, acc, h => by
    have nq : q.1 ∉ keys acc := fun z => by
      have := (List.nodup_append.mp h).2.2 q.1 z q.1 List.mem_cons_self
      exact this rfl
    show mergeK (putK (dkI acc) (Sum.inl q.1 : L2.Key) (.int q.2)) (dkI b) = _
    rw [putK_dkI]
    have e : put acc q.1 q.2 = acc ++ [q] := by
      unfold put
      rw [if_neg fun z => nq ((any_key acc q.1).mp z)]
    rw [e, merge_dkI b (acc ++ [q]) (by
      have e2 : keys (acc ++ [q]) ++ keys b = keys acc ++ keys (q :: b) := by
        unfold keys
        simp
      rw [e2]
      exact h), List.append_assoc]
    rfl
theorem paired_dkI {K : PySem.W.Frag} {H : Hp} : ∀ {ps : List Addr} {qs : Ps}, Paired (fun (p : Addr) (q : Int × Int) => H p = some (.tup [.int q.1, .int q.2])) ps qs → Paired (fun (p : Addr) (kv : L2.Key × V) => SqT K H p [kV kv.1, kv.2]) ps (dkI qs)
  | _, _, .nil => .nil
  | _, _, .cons h t => .cons (SqT.of h) (paired_dkI t)
theorem ref_at {ts : List Addr} {i : Nat} {x : V} (h : (ts.map V.ref)[i]? = some x) : ∃ t, ts[i]? = some t ∧ x = .ref t := by
  rw [List.getElem?_map] at h
  cases e : ts[i]? with
  | none =>
    rw [e] at h
    cases h
  | some t =>
    rw [e] at h
    exact ⟨t, rfl, (Option.some.inj h).symm⟩
theorem dki_len (b : Ps) : (dkI b).length = b.length := List.length_map ..
end Gc

/-! what repr wants of the data that the laws show -/
namespace Gc
open PySem PySem.Spec PyProof.Rows L2
def Sml (x : Int) : Prop := x.natAbs < 2 ^ 120
theorem sml_log {x : Int} (h : Sml x) : x.natAbs.log2 < 121 := Nat.lt_of_lt_of_le (PySem.Flt.log2_lt_of (k := 121) (by decide) (Nat.lt_trans h (by decide))) (Nat.le_refl _)
theorem sml_show {x : Int} (h : Sml x) : (PyData.int x).showable = true := by
  have := sml_log h
  simp only [PyData.showable, decide_eq_true_eq]
  omega
theorem sml_short {x : Int} (h : Sml x) : (PyData.int x).leavesShort 130 = true := by
  have e := int_text_length_le (k := 121) (by decide) (sml_log h)
  have e' : (PyData.shown (.int x)).length ≤ 130 := by
    have e2 : (PyData.shown (.int x)).length = (toString x).length := by
      show (Str.ofString (toString x)).length = _
      rw [PySem.ofString_length]
    omega
  simpa only [PyData.leavesShort, decide_eq_true_eq] using e'
theorem sml_weight {x : Int} (h : Sml x) : (PyData.int x).weight ≤ 122 := by
  have := sml_log h
  simp only [PyData.weight]
  split <;> omega
def Ok0 (d : PyData) : Prop := d.showable = true ∧ d.hasDict = false ∧ d.leavesShort 130 = true
def Ok0s (ds : List PyData) : Prop := PyData.showableAll ds = true ∧ PyData.hasDictAll ds = false ∧ PyData.leavesShortAll 130 ds = true
theorem ok0_int {x : Int} (h : Sml x) : Ok0 (.int x) := ⟨sml_show h, by simp only [PyData.hasDict], sml_short h⟩
theorem ok0_nil : Ok0s [] := ⟨by simp only [PyData.showableAll], by simp only [PyData.hasDictAll], by simp only [PyData.leavesShortAll]⟩
theorem ok0_cons {d : PyData} {ds : List PyData} (h : Ok0 d) (t : Ok0s ds) : Ok0s (d :: ds) := by
  obtain ⟨a1, a2, a3⟩ := h
  obtain ⟨b1, b2, b3⟩ := t
  refine ⟨?_, ?_, ?_⟩
  · simp only [PyData.showableAll, a1, b1, Bool.and_self]
  · simp only [PyData.hasDictAll, a2, b2, Bool.or_self]
  · simp only [PyData.leavesShortAll, a3, b3, Bool.and_self]
theorem ok0_list {ds : List PyData} (h : Ok0s ds) : Ok0 (.list ds) := by
  obtain ⟨b1, b2, b3⟩ := h
  refine ⟨?_, ?_, ?_⟩
  · simpa only [PyData.showable] using b1
  · simpa only [PyData.hasDict] using b2
  · simpa only [PyData.leavesShort] using b3
theorem ok0_tup {ds : List PyData} (h : Ok0s ds) : Ok0 (.tuple ds) := by
  obtain ⟨b1, b2, b3⟩ := h
  refine ⟨?_, ?_, ?_⟩
  · simpa only [PyData.showable] using b1
  · simpa only [PyData.hasDict] using b2
  · simpa only [PyData.leavesShort] using b3
theorem ok0_len {d : PyData} (h : Ok0 d) (w : d.weight ≤ 100000) : d.shown.length ≤ sizeLine := by
  have e := PyData.shown_le 130 (by decide) d h.2.2
  rw [sizeLine_eq]
  have : (130 + 2) * d.weight ≤ (130 + 2) * 100000 := Nat.mul_le_mul_left _ w
  omega
theorem ok0_ints : ∀ {T : List Int}, (∀ x ∈ T, Sml x) → Ok0s (T.map PyData.int)
  | [], _ => ok0_nil
  | x :: T, h => ok0_cons (ok0_int (h x List.mem_cons_self)) (ok0_ints fun y hy => h y (List.mem_cons_of_mem _ hy))
theorem weight_ints : ∀ {T : List Int}, (∀ x ∈ T, Sml x) → PyData.weightAll (T.map PyData.int) ≤ 123 * T.length
  | [], _ => by simp [PyData.weightAll]
  | x :: T, h => by
    have a := sml_weight (h x List.mem_cons_self)
    have b := weight_ints (T := T) fun y hy => h y (List.mem_cons_of_mem _ hy)
    simp only [List.map_cons, PyData.weightAll, List.length_cons]
    omega
theorem deep_ints : ∀ T : List Int, PyData.depthAll (T.map PyData.int) = 0
  | [] => by simp [PyData.depthAll]
  | x :: T => by simp [PyData.depthAll, PyData.depth, deep_ints T]
/-- a text and a cursor -/
def textD (T : List Int) (r a : Int) : PyData := .tuple [.list (T.map PyData.int), .tuple [.int r, .int a]]
theorem textD_ok {T : List Int} {r a : Int} (hT : ∀ x ∈ T, Sml x) (hr : Sml r) (ha : Sml a) (l : T.length ≤ 500) : (textD T r a).showable = true ∧ (textD T r a).hasDict = false ∧ (textD T r a).depth ≤ 60 ∧ (textD T r a).shown.length ≤ sizeLine := by
  have o : Ok0 (textD T r a) := ok0_tup (ok0_cons (ok0_list (ok0_ints hT)) (ok0_cons (ok0_tup (ok0_cons (ok0_int hr) (ok0_cons (ok0_int ha) ok0_nil))) ok0_nil))
  refine ⟨o.1, o.2.1, ?_, ok0_len o ?_⟩
  · simp only [textD, PyData.depth, PyData.depthAll, deep_ints]
    omega
  · have a1 := weight_ints hT
    have a2 := sml_weight hr
    have a3 := sml_weight ha
    simp only [PyData.weight] at a2 a3
    simp only [textD, PyData.weight, PyData.weightAll]
    omega
/-! ### commands as data -/
def cmdD : Cmd → PyData
  | .down n => .tuple [.str "down", .int n]
  | .up n => .tuple [.str "up", .int n]
  | .right n => .tuple [.str "right", .int n]
  | .left n => .tuple [.str "left", .int n]
  | .home => .tuple [.str "home"]
  | .stop => .tuple [.str "end"]
theorem CmdAt.dp {K : PySem.W.Frag} {H : Hp} {v : V} {c : Cmd} (h : CmdAt K H v c) : Dp K H v (cmdD c) := by
  obtain ⟨a, rfl, h⟩ := h
  cases c with
  | down n => exact .tup h (.cons (.str _) (.cons (.int n) .nil))
  | up n => exact .tup h (.cons (.str _) (.cons (.int n) .nil))
  | right n => exact .tup h (.cons (.str _) (.cons (.int n) .nil))
  | left n => exact .tup h (.cons (.str _) (.cons (.int n) .nil))
  | home => exact .tup h (.cons (.str _) .nil)
  | stop => exact .tup h (.cons (.str _) .nil)
theorem CmdsOf.dp {K : PySem.W.Frag} {H : Hp} : ∀ {xs : List V} {cs : List Cmd}, CmdsOf K H xs cs → DpAll K H xs (cs.map cmdD)
  | _, _, .nil => .nil
  | _, _, .cons h t => .cons h.dp (CmdsOf.dp t)
def CSml : Cmd → Prop
  | .down n => Sml n
  | .up n => Sml n
  | .right n => Sml n
  | .left n => Sml n
  | _ => True
theorem ok0_str {x : Str} (h : (PyData.str x).leavesShort 130 = true) : Ok0 (.str x) := ⟨by simp only [PyData.showable], by simp only [PyData.hasDict], h⟩
theorem cmdD_ok {c : Cmd} (h : CSml c) : Ok0 (cmdD c) ∧ (cmdD c).weight ≤ 200 ∧ (cmdD c).depth ≤ 5 := by
  cases c with
  | down n =>
    have w := sml_weight h
    refine ⟨ok0_tup (ok0_cons (ok0_str (by decide +kernel)) (ok0_cons (ok0_int h) ok0_nil)), ?_, by simp [cmdD, PyData.depth, PyData.depthAll]⟩
    have e : (PyData.str "down").weight = 4 := by decide +kernel
    simp only [cmdD, PyData.weight, PyData.weightAll] at w e ⊢
    omega
  | up n =>
    have w := sml_weight h
    refine ⟨ok0_tup (ok0_cons (ok0_str (by decide +kernel)) (ok0_cons (ok0_int h) ok0_nil)), ?_, by simp [cmdD, PyData.depth, PyData.depthAll]⟩
    have e : (PyData.str "up").weight = 2 := by decide +kernel
    simp only [cmdD, PyData.weight, PyData.weightAll] at w e ⊢
    omega
  | right n =>
    have w := sml_weight h
    refine ⟨ok0_tup (ok0_cons (ok0_str (by decide +kernel)) (ok0_cons (ok0_int h) ok0_nil)), ?_, by simp [cmdD, PyData.depth, PyData.depthAll]⟩
    have e : (PyData.str "right").weight = 5 := by decide +kernel
    simp only [cmdD, PyData.weight, PyData.weightAll] at w e ⊢
    omega
  | left n =>
    have w := sml_weight h
    refine ⟨ok0_tup (ok0_cons (ok0_str (by decide +kernel)) (ok0_cons (ok0_int h) ok0_nil)), ?_, by simp [cmdD, PyData.depth, PyData.depthAll]⟩
    have e : (PyData.str "left").weight = 4 := by decide +kernel
    simp only [cmdD, PyData.weight, PyData.weightAll] at w e ⊢
    omega
  | home => exact ⟨ok0_tup (ok0_cons (ok0_str (by decide +kernel)) ok0_nil), by decide +kernel, by simp [cmdD, PyData.depth, PyData.depthAll]⟩
  | stop => exact ⟨ok0_tup (ok0_cons (ok0_str (by decide +kernel)) ok0_nil), by decide +kernel, by simp [cmdD, PyData.depth, PyData.depthAll]⟩
theorem cmds_ok0 : ∀ {cs : List Cmd}, (∀ c ∈ cs, CSml c) → Ok0s (cs.map cmdD) ∧ PyData.weightAll (cs.map cmdD) ≤ 201 * cs.length ∧ PyData.depthAll (cs.map cmdD) ≤ 5
  | [], _ => ⟨ok0_nil, by simp [PyData.weightAll], by simp [PyData.depthAll]⟩
  | c :: cs, h => by
    obtain ⟨a1, a2, a3⟩ := cmdD_ok (h c List.mem_cons_self)
    obtain ⟨b1, b2, b3⟩ := cmds_ok0 (cs := cs) fun d hd => h d (List.mem_cons_of_mem _ hd)
    refine ⟨ok0_cons a1 b1, ?_, ?_⟩
    · simp only [List.map_cons, PyData.weightAll, List.length_cons]
      omega
    · simp only [List.map_cons, PyData.depthAll]
      omega
theorem cmds_ok {cs : List Cmd} (h : ∀ c ∈ cs, CSml c) (l : cs.length ≤ 300) : (PyData.list (cs.map cmdD)).showable = true ∧ (PyData.list (cs.map cmdD)).hasDict = false ∧ (PyData.list (cs.map cmdD)).depth ≤ 60 ∧ (PyData.list (cs.map cmdD)).shown.length ≤ sizeLine := by
  obtain ⟨a1, a2, a3⟩ := cmds_ok0 h
  have o := ok0_list a1
  refine ⟨o.1, o.2.1, ?_, ok0_len o ?_⟩
  · simp only [PyData.depth]
    omega
  · simp only [PyData.weight]
    omega
/-! ### boxes as data -/
def optD : Option Int → PyData
  | none => .none
  | some n => .int n
def pairD (q : Int × Int) : PyData := .tuple [.int q.1, .int q.2]
def boxD : Option (Option Int × Ps) → PyData
  | none => .none
  | some x => .tuple [optD x.1, .list (x.2.map pairD)]
def BSml : Option (Option Int × Ps) → Prop
  | none => True
  | some x => (∀ n, x.1 = some n → Sml n) ∧ ∀ q ∈ x.2, Sml q.1 ∧ Sml q.2
theorem ok0_none : Ok0 .none := ⟨by simp only [PyData.showable], by simp only [PyData.hasDict], by simp only [PyData.leavesShort]⟩
theorem pairs_ok0 : ∀ {L : Ps}, (∀ q ∈ L, Sml q.1 ∧ Sml q.2) → Ok0s (L.map pairD) ∧ PyData.weightAll (L.map pairD) ≤ 247 * L.length ∧ PyData.depthAll (L.map pairD) ≤ 5
  | [], _ => ⟨ok0_nil, by simp [PyData.weightAll], by simp [PyData.depthAll]⟩
  | q :: L, h => by
    obtain ⟨a, b⟩ := h q List.mem_cons_self
    obtain ⟨c1, c2, c3⟩ := pairs_ok0 (L := L) fun p hp => h p (List.mem_cons_of_mem _ hp)
    have wa := sml_weight a
    have wb := sml_weight b
    refine ⟨ok0_cons (ok0_tup (ok0_cons (ok0_int a) (ok0_cons (ok0_int b) ok0_nil))) c1, ?_, ?_⟩
    · simp only [PyData.weight] at wa wb
      simp only [List.map_cons, pairD, PyData.weight, PyData.weightAll, List.length_cons] at c2 ⊢
      omega
    · simp only [List.map_cons, pairD, PyData.depth, PyData.depthAll] at c3 ⊢
      omega
theorem boxD_ok0 {o : Option (Option Int × Ps)} {n : Nat} (h : BSml o) (l : ∀ x, o = some x → x.2.length ≤ n) : Ok0 (boxD o) ∧ (boxD o).weight ≤ 247 * n + 200 ∧ (boxD o).depth ≤ 10 := by
  cases o with
  | none => exact ⟨ok0_none, by simp [boxD, PyData.weight], by simp [boxD, PyData.depth]⟩
  | some x =>
    obtain ⟨st, L⟩ := x
    obtain ⟨h1, h2⟩ := h
    have h2' : ∀ q ∈ L, Sml q.1 ∧ Sml q.2 := h2
    obtain ⟨c1, c2, c3⟩ := pairs_ok0 h2'
    have ln : L.length ≤ n := l _ rfl
    have o1 : Ok0 (optD st) ∧ (optD st).weight ≤ 122 ∧ (optD st).depth = 0 := by
      cases st with
      | none => exact ⟨ok0_none, by simp [optD, PyData.weight], by simp [optD, PyData.depth]⟩
      | some n => exact ⟨ok0_int (h1 n rfl), sml_weight (h1 n rfl), by simp [optD, PyData.depth]⟩
    obtain ⟨d1, d2, d3⟩ := o1
    refine ⟨ok0_tup (ok0_cons d1 (ok0_cons (ok0_list c1) ok0_nil)), ?_, ?_⟩
    · have m : 247 * L.length ≤ 247 * n := Nat.mul_le_mul_left _ ln
      simp only [boxD, PyData.weight, PyData.weightAll]
      omega
    · simp only [boxD, PyData.depth, PyData.depthAll]
      omega
theorem boxes_ok0 {n : Nat} : ∀ {os : List (Option (Option Int × Ps))}, (∀ o ∈ os, BSml o ∧ ∀ x, o = some x → x.2.length ≤ n) → Ok0s (os.map boxD) ∧ PyData.weightAll (os.map boxD) ≤ (247 * n + 201) * os.length ∧ PyData.depthAll (os.map boxD) ≤ 10
  | [], _ => ⟨ok0_nil, by simp [PyData.weightAll], by simp [PyData.depthAll]⟩
  | o :: os, h => by
    obtain ⟨a, b⟩ := h o List.mem_cons_self
    obtain ⟨c1, c2, c3⟩ := boxD_ok0 a b
    obtain ⟨d1, d2, d3⟩ := boxes_ok0 (os := os) fun p hp => h p (List.mem_cons_of_mem _ hp)
    refine ⟨ok0_cons c1 d1, ?_, ?_⟩
    · rw [List.map_cons, List.length_cons, Nat.mul_succ]
      simp only [PyData.weightAll]
      omega
    · simp only [List.map_cons, PyData.depthAll]
      omega
/-- a list of at most ten boxes of at most thirty lines each -/
theorem boxes_ok {os : List (Option (Option Int × Ps))} (h : ∀ o ∈ os, BSml o ∧ ∀ x, o = some x → x.2.length ≤ 30) (l : os.length ≤ 10) :
    (PyData.list (os.map boxD)).showable = true ∧ (PyData.list (os.map boxD)).hasDict = false ∧ (PyData.list (os.map boxD)).depth ≤ 60 ∧ (PyData.list (os.map boxD)).shown.length ≤ sizeLine := by
  obtain ⟨a1, a2, a3⟩ := boxes_ok0 h
  have o := ok0_list a1
  refine ⟨o.1, o.2.1, ?_, ok0_len o ?_⟩
  · simp only [PyData.depth]
    omega
  · have m : (247 * 30 + 201) * os.length ≤ (247 * 30 + 201) * 10 := Nat.mul_le_mul_left _ l
    simp only [PyData.weight]
    omega
end Gc

/-! small pieces that many laws use -/
namespace Gc
open PySem L2
theorem lt_line {n : Nat} (h : n ≤ 100000) : n < sizeLine := by
  rw [sizeLine_eq]
  omega
theorem tru_seq {K : PySem.W.Frag} {H : Hp} {l : Addr} {xs : List V} (h : SqL K H l xs) : TruV K (.ref l) H (!xs.isEmpty) := .inl ⟨xs, h, rfl⟩
theorem takeS {α : Type} : ∀ {l : List α} {i : Nat} {x : α}, l[i]? = some x → l.take (i + 1) = l.take i ++ [x]
  | [], i, x, h => by simp at h
  | a :: l, 0, x, h => by
    obtain rfl := Option.some.inj h
    rfl
  | a :: l, i + 1, x, h => by
    have ih := takeS (l := l) (i := i) (x := x) h
    show a :: l.take (i + 1) = a :: l.take i ++ [x]
    rw [ih]
    rfl
theorem pairS {α β : Type} {F : α → β → Prop} : ∀ {xs : List α} {ys : List β} {x : α} {y : β}, Paired F xs ys → F x y → Paired F (xs ++ [x]) (ys ++ [y])
  | _, _, _, _, .nil, h => .cons h .nil
  | _, _, _, _, .cons f t, h => .cons f (pairS t h)
/-- a new object, told apart -/
theorem new_same {H : Hp} {p : Addr} {o : HO} (h : H p = none) : Same H (upd H p o) := fun b u hb => by
  rw [upd_ne (ne_of_none hb h)]
  exact hb
/-- a list is written; commands stand -/
theorem CmdsOf.atL {K : PySem.W.Frag} {H : Hp} {l : Addr} {ys zs : List V} {xs : List V} {cs : List Cmd} (hl : H l = some (.lst ys)) (h : CmdsOf K H xs cs) : CmdsOf K (upd H l (.lst zs)) xs cs := Paired.mapP h fun _ _ q => by
  obtain ⟨a, e1, h1⟩ := q
  refine ⟨a, e1, ?_⟩
  rcases h1 with (z | ⟨o, z⟩) | z
  · exact .inl (.inl (by rw [upd_ne (ne_of z hl (by intro q; cases q))]; exact z))
  · exact .inl (.inr ⟨o, by rw [upd_ne (ne_of z hl (by intro q; cases q))]; exact z⟩)
  · exact .inr z
end Gc
namespace Gc
open PySem L2
def nameC : Cmd → Str
  | .down _ => "down"
  | .up _ => "up"
  | .right _ => "right"
  | .left _ => "left"
  | .home => "home"
  | .stop => "end"
theorem enc_at (c : Cmd) : atI (encC c) 0 = some (.str (nameC c)) := by cases c <;> rfl
theorem getK {H : Hp} {p : Addr} {kvs : List (L2.Key × V)} {k : Str} {v : V} (h : H p = some (.dK kvs)) (e : valV kvs (.inr k : L2.Key) = some v) : DGet H p (.str k) (some v) := e ▸ DGet.k (k := .inr k) h
end Gc
namespace Gc
open PySem L2
/-! slices by places -/
theorem cutHi {xs : List V} {n : Nat} {z : Int} (e : z = (n : Int)) (h : n ≤ xs.length) : cutV xs none (some z) = xs.take n := by
  subst e
  unfold cutV
  rw [HT.sIx_none, HT.sIx_nat, List.drop_zero, Nat.sub_zero]
  congr 1
  omega
theorem cutLo {xs : List V} {n : Nat} {z : Int} (e : z = (n : Int)) : cutV xs (some z) none = xs.drop n := by
  subst e
  unfold cutV
  rw [HT.sIx_none, HT.sIx_nat]
  by_cases h : n ≤ xs.length
  · rw [Nat.min_eq_left h]
    exact List.take_of_length_le (by rw [List.length_drop]; exact Nat.le_refl _)
  · rw [Nat.min_eq_right (by omega), List.drop_eq_nil_of_le (Nat.le_refl _), List.take_nil, List.drop_eq_nil_of_le (by omega)]
theorem cutOne {xs : List V} {n m : Nat} {z y : Int} (e : z = (n : Int)) (e2 : y = (m : Int)) (hn : n ≤ xs.length) (hm : n ≤ m) : cutV xs (some z) (some y) = (xs.drop n).take (m - n) := by
  subst e e2
  unfold cutV
  rw [HT.sIx_nat, HT.sIx_nat, Nat.min_eq_left hn]
  by_cases h : m ≤ xs.length
  · rw [Nat.min_eq_left h]
  · rw [Nat.min_eq_right (by omega)]
    rw [List.take_of_length_le (l := xs.drop n) (by rw [List.length_drop]; exact Nat.le_refl _), List.take_of_length_le (by rw [List.length_drop]; omega)]
theorem paired_take {α β : Type} {F : α → β → Prop} : ∀ (n : Nat) {xs : List α} {ys : List β}, Paired F xs ys → Paired F (xs.take n) (ys.take n)
  | 0, _, _, _ => .nil
  | n + 1, _, _, .nil => .nil
  | n + 1, _, _, .cons h t => .cons h (paired_take n t)
theorem paired_drop {α β : Type} {F : α → β → Prop} : ∀ (n : Nat) {xs : List α} {ys : List β}, Paired F xs ys → Paired F (xs.drop n) (ys.drop n)
  | 0, _, _, h => h
  | n + 1, _, _, .nil => .nil
  | n + 1, _, _, .cons _ t => paired_drop n t
theorem paired_app {α β : Type} {F : α → β → Prop} : ∀ {xs xs' : List α} {ys ys' : List β}, Paired F xs ys → Paired F xs' ys' → Paired F (xs ++ xs') (ys ++ ys')
  | _, _, _, _, .nil, h => h
  | _, _, _, _, .cons h t, g => .cons h (paired_app t g)
end Gc

/-! commands as texts: what is written, and that it can be read back -/
namespace Gc
open PySem PyProof.Rows L2 TL
def mkS (l : List Nat) : Str := ⟨l.toArray⟩
theorem tl_mkS (l : List Nat) : tl (mkS l) = l := rfl
theorem mkS_app (l m : List Nat) : mkS l ++ mkS m = mkS (l ++ m) := ext_tl (by rw [tl_append]; rfl)
theorem mkS_len (l : List Nat) : (mkS l).length = l.length := by rw [len_tl]; rfl
theorem mkS_inj {l m : List Nat} (h : mkS l = mkS m) : l = m := by
  have e := congrArg tl h
  exact e
/-- the number of a command -/
def numC : Cmd → Int
  | .down n => n
  | .up n => n
  | .right n => n
  | .left n => n
  | _ => 0
def letC : Cmd → Nat
  | .down _ => 68
  | .up _ => 85
  | .right _ => 82
  | .left _ => 76
  | .home => 72
  | .stop => 69
/-- the digits that stand ahead of the letter -/
def digC : Cmd → List Nat
  | .down n => numL n.toNat
  | .up n => numL n.toNat
  | .right n => numL n.toNat
  | .left n => numL n.toNat
  | _ => []
def cw (c : Cmd) : List Nat := digC c ++ [letC c]
def noneL : List Nat := [110, 111, 110, 101]
def shownL (cs : List Cmd) : List Nat := if cs = [] then noneL else joinL [32] (cs.map cw)
def shownS (cs : List Cmd) : Str := mkS (shownL cs)
theorem digC_digits (c : Cmd) : NumText.AllDigits (digC c) := by
  cases c with
  | down n => exact numL_digits _
  | up n => exact numL_digits _
  | right n => exact numL_digits _
  | left n => exact numL_digits _
  | home => exact fun _ h => nomatch h
  | stop => exact fun _ h => nomatch h
theorem letC_ge (c : Cmd) : 65 ≤ letC c ∧ letC c ≤ 90 := by cases c <;> simp [letC]
theorem cw_free (c : Cmd) : 32 ∉ cw c := fun h => by
  rcases List.mem_append.mp h with h | h
  · have := digC_digits c 32 h
    omega
  · have e := List.mem_singleton.mp h
    have := letC_ge c
    omega
theorem cw_ne (c : Cmd) : cw c ≠ [] := by simp [cw]
theorem cw_inj {c d : Cmd} (hc : c.ok) (hd : d.ok) (h : cw c = cw d) : c = d := by
  have e1 := congrArg List.getLast? h
  have e2 := congrArg List.dropLast h
  unfold cw at e1 e2
  rw [List.getLast?_concat, List.getLast?_concat] at e1
  rw [List.dropLast_concat, List.dropLast_concat] at e2
  have e3 := Option.some.inj e1
  have key : ∀ {n m : Int}, 1 ≤ n → 1 ≤ m → numL n.toNat = numL m.toNat → n = m := fun h1 h2 z => by
    have := numL_inj z
    omega
  cases c <;> cases d <;> simp only [letC] at e3 <;> first
    | rfl
    | exact absurd e3 (by decide)
    | rw [key hc hd e2]
theorem cws_inj : ∀ {cs ds : List Cmd}, AllOk cs → AllOk ds → cs.map cw = ds.map cw → cs = ds
  | [], [], _, _, _ => rfl
  | [], _ :: _, _, _, h => by cases h
  | _ :: _, [], _, _, h => by cases h
  | c :: cs, d :: ds, h1, h2, h => by
    rw [List.map_cons, List.map_cons] at h
    injection h with e1 e2
    rw [cw_inj (h1 c List.mem_cons_self) (h2 d List.mem_cons_self) e1, cws_inj (fun x hx => h1 x (List.mem_cons_of_mem _ hx)) (fun x hx => h2 x (List.mem_cons_of_mem _ hx)) e2]
theorem join_words {cs : List Cmd} (h : cs ≠ []) : spl [32] 0 [] (joinL [32] (cs.map cw)) = cs.map cw :=
  spl_join (fun e => h (List.map_eq_nil_iff.mp e)) fun p hp => by
    obtain ⟨c, _, rfl⟩ := List.mem_map.mp hp
    exact cw_free c
theorem none_words : spl [32] 0 [] noneL = [noneL] := by decide +kernel
theorem none_no {cs : List Cmd} (h : cs ≠ []) : joinL [32] (cs.map cw) ≠ noneL := fun e => by
  have z := join_words h
  rw [e, none_words] at z
  cases cs with
  | nil => exact h rfl
  | cons c cs =>
    rw [List.map_cons] at z
    injection z with z1 z2
    have z3 := congrArg List.getLast? z1
    unfold cw at z3
    rw [List.getLast?_concat] at z3
    have z4 : (101 : Nat) = letC c := Option.some.inj z3
    have := letC_ge c
    omega
theorem shownL_inj {cs ds : List Cmd} (h1 : AllOk cs) (h2 : AllOk ds) (h : shownL cs = shownL ds) : cs = ds := by
  unfold shownL at h
  by_cases c : cs = []
  · by_cases d : ds = []
    · rw [c, d]
    · rw [if_pos c, if_neg d] at h
      exact absurd h.symm (none_no d)
  · by_cases d : ds = []
    · rw [if_neg c, if_pos d] at h
      exact absurd h (none_no c)
    · rw [if_neg c, if_neg d] at h
      have z1 := join_words c
      rw [h, join_words d] at z1
      exact (cws_inj h2 h1 z1).symm
theorem shownS_inj {cs ds : List Cmd} (h1 : AllOk cs) (h2 : AllOk ds) (h : shownS cs = shownS ds) : cs = ds := shownL_inj h1 h2 (mkS_inj h)
/-! lengths -/
theorem digC_len {c : Cmd} (h : numC c < 10 ^ 40) : (digC c).length ≤ 40 := by
  have key : ∀ n : Int, n < 10 ^ 40 → (numL n.toNat).length ≤ 40 := fun n hn => numL_len (k := 40) (by decide) (by omega)
  cases c with
  | down n => exact key n h
  | up n => exact key n h
  | right n => exact key n h
  | left n => exact key n h
  | home => exact Nat.zero_le _
  | stop => exact Nat.zero_le _
theorem cw_len {c : Cmd} (h : numC c < 10 ^ 40) : (cw c).length ≤ 41 := by
  unfold cw
  rw [List.length_append, List.length_singleton]
  have := digC_len h
  omega
theorem joinL_len {k : Nat} : ∀ {ps : List (List Nat)}, (∀ p ∈ ps, p.length ≤ k) → (joinL [32] ps).length ≤ (k + 1) * ps.length
  | [], _ => Nat.zero_le _
  | [p], h => by
    have := h p (List.mem_singleton.mpr rfl)
    show p.length ≤ (k + 1) * 1
    omega
  | p :: q :: r, h => by
    have h1 := h p List.mem_cons_self
    have h2 := joinL_len (ps := q :: r) fun x hx => h x (List.mem_cons_of_mem _ hx)
    show (p ++ ([32] ++ joinL [32] (q :: r))).length ≤ _
    rw [List.length_append, List.length_append, List.length_singleton, List.length_cons (a := p), Nat.mul_succ]
    omega
theorem shownL_len {cs : List Cmd} (h : ∀ c ∈ cs, numC c < 10 ^ 40) : (shownL cs).length ≤ 42 * cs.length + 4 := by
  unfold shownL
  by_cases c : cs = []
  · rw [if_pos c]
    exact Nat.le_add_left _ _
  · rw [if_neg c]
    have := joinL_len (k := 41) (ps := cs.map cw) fun p hp => by
      obtain ⟨d, hd, rfl⟩ := List.mem_map.mp hp
      exact cw_len (h d hd)
    rw [List.length_map] at this
    omega
/-- one more word behind -/
theorem joinL_snoc : ∀ {ps : List (List Nat)} {p : List Nat}, ps ≠ [] → joinL [32] (ps ++ [p]) = joinL [32] ps ++ ([32] ++ p)
  | [], _, h => absurd rfl h
  | [q], p, _ => rfl
  | q :: r :: s, p, _ => by
    show q ++ ([32] ++ joinL [32] ((r :: s) ++ [p])) = (q ++ ([32] ++ joinL [32] (r :: s))) ++ ([32] ++ p)
    rw [joinL_snoc (by simp)]
    simp [List.append_assoc]
theorem joinL_nil_iff : ∀ {ps : List (List Nat)}, (∀ p ∈ ps, p ≠ []) → (joinL [32] ps = [] ↔ ps = [])
  | [], _ => ⟨fun _ => rfl, fun _ => rfl⟩
  | [p], h => ⟨fun e => absurd e (h p (List.mem_singleton.mpr rfl)), fun e => nomatch e⟩
  | p :: q :: r, h => ⟨fun e => by
      have e2 : p ++ ([32] ++ joinL [32] (q :: r)) = [] := e
      simp at e2, fun e => nomatch e⟩
/-! equal lists of commands, as data -/
theorem eqv_cmd (c d : Cmd) : PyData.eqv (cmdD c) (cmdD d) = decide (c = d) := by
  cases c <;> cases d <;> simp [cmdD, PyData.eqv, PyData.eqvAll]
  all_goals first
    | decide +kernel
    | rw [Bool.eq_iff_iff, beq_iff_eq, decide_eq_true_eq]
    | (intro h; exact absurd h (by decide +kernel))
theorem eqvAll_cmds : ∀ cs ds : List Cmd, PyData.eqvAll (cs.map cmdD) (ds.map cmdD) = decide (cs = ds)
  | [], [] => by simp [PyData.eqvAll]
  | [], _ :: _ => by simp [PyData.eqvAll]
  | _ :: _, [] => by simp [PyData.eqvAll]
  | c :: cs, d :: ds => by
    rw [List.map_cons, List.map_cons, PyData.eqvAll, eqv_cmd, eqvAll_cmds cs ds]
    simp
theorem eqv_cmds (cs ds : List Cmd) : PyData.eqv (.list (cs.map cmdD)) (.list (ds.map cmdD)) = decide (cs = ds) := by
  rw [PyData.eqv]
  exact eqvAll_cmds cs ds
end Gc
namespace Gc
open PySem PyProof.Rows L2 TL
theorem depth_cmds : ∀ cs : List Cmd, PyData.depthAll (cs.map cmdD) ≤ 1
  | [] => by simp [PyData.depthAll]
  | c :: cs => by
    have := depth_cmds cs
    cases c <;> simp [PyData.depthAll, PyData.depth, cmdD, this]
theorem lay_cmds : ∀ cs : List Cmd, PyData.canLayAll0 (cs.map cmdD) = true
  | [] => by simp [PyData.canLayAll0]
  | c :: cs => by
    have h1 : PyData.strOk "down" = true := by decide +kernel
    have h2 : PyData.strOk "up" = true := by decide +kernel
    have h3 : PyData.strOk "right" = true := by decide +kernel
    have h4 : PyData.strOk "left" = true := by decide +kernel
    have h5 : PyData.strOk "home" = true := by decide +kernel
    have h6 : PyData.strOk "end" = true := by decide +kernel
    cases c <;> simp [PyData.canLayAll0, PyData.canLay0, cmdD, lay_cmds cs, h1, h2, h3, h4, h5, h6]
theorem shaped_cmds (cs : List Cmd) : SeqAt.shaped (.list (cs.map cmdD)) = true := by
  have h2 := depth_cmds cs
  have hd : (PyData.list (cs.map cmdD)).depth ≤ 64 := by
    simp only [PyData.depth]
    omega
  unfold SeqAt.shaped
  rw [decide_eq_true hd]
  simp [PyData.canLay0, lay_cmds cs]
/-- one more word of what is written -/
theorem shown_step (cs : List Cmd) (i : Nat) (c : Cmd) (h : cs[i]? = some c) :
    joinL [32] ((cs.take (i + 1)).map cw) = joinL [32] ((cs.take i).map cw) ++ (if i = 0 then [] else [32]) ++ digC c ++ [letC c] := by
  have e : cs.take (i + 1) = cs.take i ++ [c] := by
    rw [List.take_add_one, h]
    rfl
  rw [e, List.map_append, List.map_singleton]
  by_cases z : i = 0
  · subst z
    simp [joinL, cw]
  · have ne : (cs.take i).map cw ≠ [] := by
      intro q
      have q2 := congrArg List.length q
      have li := (List.getElem?_eq_some_iff.mp h).1
      rw [List.length_map, List.length_take, List.length_nil] at q2
      omega
    rw [joinL_snoc ne, if_neg z]
    simp [cw, List.append_assoc]
theorem shown_nil (cs : List Cmd) (i : Nat) (c : Cmd) (h : cs[i]? = some c) : joinL [32] ((cs.take i).map cw) = [] ↔ i = 0 := by
  rw [joinL_nil_iff (fun p hp => by
    obtain ⟨c, _, rfl⟩ := List.mem_map.mp hp
    exact cw_ne c)]
  have li := (List.getElem?_eq_some_iff.mp h).1
  constructor
  · intro q
    have q2 := congrArg List.length q
    rw [List.length_map, List.length_take, List.length_nil] at q2
    omega
  · intro q
    subst q
    rfl
end Gc

/-! numbers and commands drawn from the source -/
namespace Gc
open PySem L2
abbrev s_number : Stmt := top 38
abbrev s_command : Stmt := top 39
theorem Src.cmd {K : PySem.W.Frag} {H H' : Hp} {a d : Addr} {n : Nat} {v : V} {c : Cmd} (B : Src H a d n) (e : Keep a d H H') (h : CmdAt K H v c) : CmdAt K H' v c := by
  obtain ⟨b, e1, h1⟩ := h
  exact ⟨b, e1, B.tup e h1⟩
theorem Src.cmds {K : PySem.W.Frag} {H H' : Hp} {a d : Addr} {n : Nat} {xs : List V} {cs : List Cmd} (B : Src H a d n) (e : Keep a d H H') (h : CmdsOf K H xs cs) : CmdsOf K H' xs cs := Paired.mapP h fun _ _ q => B.cmd e q
theorem Keep.free {a d p : Addr} {H H' : Hp} (e : Keep a d H H') (h1 : p ≠ a) (h2 : p ≠ d) (h : H' p = none) : H p = none := by
  cases q : H p with
  | none => rfl
  | some o =>
    rw [e p o h1 h2 q] at h
    cases h
def spNumber : Sp := fun vs H Q _ => ∃ (a d : Addr) (n : Nat), vs = [.ref a] ∧ Src H a d n ∧ n < 2 ^ 39 ∧ ∀ (H' : Hp) (r : Int), Keep a d H H' → Src H' a d (n + 2) → 1 ≤ r → r ≤ 10 ^ 30 - 1 → Q (.int r) H'
def spCommand (K : PySem.W.Frag) : Sp := fun vs H Q _ => ∃ (a d : Addr) (n : Nat), vs = [.ref a] ∧ Src H a d n ∧ n < 2 ^ 38 ∧ ∀ (H' : Hp) (p : Addr) (c : Cmd), Keep a d H H' → Src H' a d (n + 5) → H p = none → H' p = some (.tup (encC c)) → c.ok → numC c ≤ 10 ^ 30 - 1 → Q (.ref p) H'
def nameL : List V := [.str "down", .str "up", .str "right", .str "left", .str "right", .str "left", .str "home", .str "end"]
section
variable {P : Program} {w : World} {K : PySem.W.Frag} {mg : Str → Option Value} {base : Heap}
theorem sc_law_number : FnScope ["source"] ["source"] (defScope s_number) := ⟨rfl, rfl, rfl, by decide +kernel, rfl, by decide +kernel, by decide +kernel⟩
theorem ok_number {f : Addr} {fd : FuncData} (F : Fun K "_law_number" "_law_number" s_number f fd) (c_law_draw : Cal P w K mg base 1 "_law_draw" spDraw) : FnOk P w K mg base CX0 2 f fd ["source"] spNumber := by
  refine F.ok sc_law_number (fun vs H Q E h => ?_) (fun cdv A outer s H vs Q E hr h => ?_)
  · obtain ⟨a, d, n, rfl, _⟩ := h
    rfl
  · obtain ⟨a, d, n, rfl, hs, hn, k⟩ := h
    refine ⟨_, (pss_one (ps_ret (pe_op op_add pe_int (pe_cal c_law_draw hr (by decide) (by rfl) (pa_cons (pv 0) (pa_cons (pe_ix ix_list (pe_lst (pa_cons pe_int (pa_cons pe_int (pa_cons pe_int (pa_cons pe_int (pa_cons (pe_op op_sub (pe_op op_pow pe_int pe_int) pe_int) pa_nil)))))) (pe_cal c_law_draw hr (by decide) (by rfl) (pa_cons (pv 0) (pa_cons pe_int pa_nil))) (fun _ _ => rfl)) pa_nil)))))), ?_⟩
    refine ⟨_, rfl, _, _, rfl, rfl, cpow (by decide), _, _, rfl, rfl, (by show 5 ≤ sizeLine; decide), fun p hp => ?_⟩
    obtain ⟨pa, pd⟩ := hs.off hp
    have e1 : Same H (upd H p (.lst [.int 3, .int 6, .int 12, .int 300, .int (10 ^ (30 : Int).toNat - 1)])) := new_same hp
    refine ⟨_, rfl, a, d, n, 5, rfl, hs.same e1, by omega, by decide, by decide, fun H2 r kp2 s2 r0 r1 => ?_⟩
    have hp2 := kp2 _ _ pa pd upd_same
    have z : (10 : Int) ^ (30 : Int).toNat = 10 ^ 30 := by decide
    obtain ⟨m, hm, m1, m2⟩ : ∃ m : Int, atI [V.int 3, .int 6, .int 12, .int 300, .int (10 ^ (30 : Int).toNat - 1)] r = some (.int m) ∧ 1 ≤ m ∧ m ≤ 10 ^ 30 - 1 := by
      rcases (show r = 0 ∨ r = 1 ∨ r = 2 ∨ r = 3 ∨ r = 4 by omega) with rfl | rfl | rfl | rfl | rfl
      · exact ⟨3, rfl, by decide, by decide⟩
      · exact ⟨6, rfl, by decide, by decide⟩
      · exact ⟨12, rfl, by decide, by decide⟩
      · exact ⟨300, rfl, by decide, by decide⟩
      · exact ⟨_, rfl, by decide, by decide⟩
    refine ⟨p, _, r, _, rfl, rfl, SqL.of hp2, hm, ?_⟩
    refine ⟨a, d, _, m, rfl, s2, by omega, by omega, log9 (a := 110) (by omega) (by decide), fun H3 r3 kp3 s3 r30 r31 => ?_⟩
    exact ⟨_, _, rfl, rfl, k H3 _ (((Keep.of e1).trans kp2).trans kp3) s3 (by omega) (by omega)⟩
theorem sc_law_command : FnScope ["source", "name"] ["source"] (defScope s_command) := ⟨rfl, rfl, rfl, by decide +kernel, rfl, by decide +kernel, by decide +kernel⟩
theorem ok_command {f : Addr} {fd : FuncData} (F : Fun K "_law_command" "_law_command" s_command f fd) (c_law_draw : Cal P w K mg base 1 "_law_draw" spDraw) (c_law_number : Cal P w K mg base 2 "_law_number" spNumber) : FnOk P w K mg base CX0 3 f fd ["source"] (spCommand K) := by
  refine F.ok sc_law_command (fun vs H Q E h => ?_) (fun cdv A outer s H vs Q E hr h => ?_)
  · obtain ⟨a, d, n, rfl, _⟩ := h
    rfl
  · obtain ⟨a, d, n, rfl, hs, hn, k⟩ := h
    refine ⟨_, (pss_cons (ps_set (i := 1) sc_law_command.nd rfl (Or.inl rfl) (pe_ix ix_list (pe_lst (pa_cons pe_str (pa_cons pe_str (pa_cons pe_str (pa_cons pe_str (pa_cons pe_str (pa_cons pe_str (pa_cons pe_str (pa_cons pe_str pa_nil))))))))) (pe_cal c_law_draw hr (by decide) (by rfl) (pa_cons (pv 0) (pa_cons pe_int pa_nil))) (fun _ _ => rfl)))
      (pss_cons (ps_if (pt_cmpR op_in_seq (pv 1) (pe_tup (pa_cons pe_str (pa_cons pe_str pa_nil))) (by rfl)) (pss_one (ps_ret (pe_tup (pa_cons (pv 1) pa_nil)))) pss_nil)
      (pss_one (ps_ret (pe_tup (pa_cons (pv 1) (pa_cons (pe_ix ix_list (pe_lst (pa_cons pe_int (pa_cons (pe_op op_add pe_int (pe_cal c_law_draw hr (by decide) (by rfl) (pa_cons (pv 0) (pa_cons pe_int pa_nil)))) (pa_cons (pe_cal c_law_number hr (by decide) (by rfl) (pa_cons (pv 0) pa_nil)) pa_nil)))) (pe_cal c_law_draw hr (by decide) (by rfl) (pa_cons (pv 0) (pa_cons pe_int pa_nil))) (fun _ _ => rfl)) pa_nil))))))), ?_⟩
    refine ⟨(by show 8 ≤ sizeLine; decide), fun p hp => ?_⟩
    obtain ⟨pa, pd⟩ := hs.off hp
    have e1 : Same H (upd H p (.lst nameL)) := new_same hp
    refine ⟨_, rfl, a, d, n, 8, rfl, hs.same e1, by omega, by decide, by decide, fun H2 r kp2 s2 r0 r1 => ?_⟩
    have hp2 := kp2 _ _ pa pd upd_same
    have k2 := (Keep.of (a := a) (d := d) e1).trans kp2
    rcases (show r = 0 ∨ r = 1 ∨ r = 2 ∨ r = 3 ∨ r = 4 ∨ r = 5 ∨ r = 6 ∨ r = 7 by omega) with rfl | rfl | rfl | rfl | rfl | rfl | rfl | rfl
    · refine ⟨p, _, _, _, rfl, rfl, SqL.of hp2, rfl, ?_⟩
      refine ⟨_, rfl, (by show 2 ≤ sizeLine; decide), fun q hq => ?_⟩
      have e3 : Same H2 (upd H2 q (.tup [.str "home", .str "end"])) := new_same hq
      refine ⟨q, _, rfl, .inr (SqT.of upd_same), rfl, rfl, false, by decide +kernel, iteF ?_⟩
      refine ⟨_, rfl, _, rfl, a, d, _, 4, rfl, s2.same e3, by omega, by decide, by decide, fun H4 r4 kp4 s4 r40 r41 => ?_⟩
      refine ⟨_, _, rfl, rfl, _, rfl, a, d, _, rfl, s4, by omega, fun H5 r5 kp5 s5 r50 r51 => ⟨(by show 3 ≤ sizeLine; decide), fun q5 hq5 => ?_⟩⟩
      obtain ⟨ga, gd⟩ := s5.off hq5
      have e6 : Same H5 (upd H5 q5 (.lst [.int 1, .int (1 + r4), .int r5])) := new_same hq5
      refine ⟨_, rfl, a, d, _, 3, rfl, s5.same e6, by omega, by decide, by decide, fun H6 r6 kp6 s6 r60 r61 => ?_⟩
      obtain ⟨m, hm, m1, m2⟩ : ∃ m : Int, atI [V.int 1, .int (1 + r4), .int r5] r6 = some (.int m) ∧ 1 ≤ m ∧ m ≤ 10 ^ 30 - 1 := by
        rcases (show r6 = 0 ∨ r6 = 1 ∨ r6 = 2 by omega) with rfl | rfl | rfl
        · exact ⟨1, rfl, by decide, by decide⟩
        · exact ⟨1 + r4, rfl, by omega, by omega⟩
        · exact ⟨r5, rfl, by omega, by omega⟩
      refine ⟨q5, _, r6, _, rfl, rfl, SqL.of (kp6 _ _ ga gd upd_same), hm, (by show 2 ≤ sizeLine; decide), fun q7 hq7 => ?_⟩
      obtain ⟨fa, fd'⟩ := s6.off hq7
      have k6 : Keep a d H H6 := ((((k2.trans (Keep.of e3)).trans kp4).trans kp5).trans (Keep.of e6)).trans kp6
      refine k _ q7 (.down m) (k6.new hq7) ((s6.same (new_same hq7)).more (by omega)) (k6.free fa fd' hq7) ?_ m1 m2
      rw [upd_same]
      rfl
    · refine ⟨p, _, _, _, rfl, rfl, SqL.of hp2, rfl, ?_⟩
      refine ⟨_, rfl, (by show 2 ≤ sizeLine; decide), fun q hq => ?_⟩
      have e3 : Same H2 (upd H2 q (.tup [.str "home", .str "end"])) := new_same hq
      refine ⟨q, _, rfl, .inr (SqT.of upd_same), rfl, rfl, false, by decide +kernel, iteF ?_⟩
      refine ⟨_, rfl, _, rfl, a, d, _, 4, rfl, s2.same e3, by omega, by decide, by decide, fun H4 r4 kp4 s4 r40 r41 => ?_⟩
      refine ⟨_, _, rfl, rfl, _, rfl, a, d, _, rfl, s4, by omega, fun H5 r5 kp5 s5 r50 r51 => ⟨(by show 3 ≤ sizeLine; decide), fun q5 hq5 => ?_⟩⟩
      obtain ⟨ga, gd⟩ := s5.off hq5
      have e6 : Same H5 (upd H5 q5 (.lst [.int 1, .int (1 + r4), .int r5])) := new_same hq5
      refine ⟨_, rfl, a, d, _, 3, rfl, s5.same e6, by omega, by decide, by decide, fun H6 r6 kp6 s6 r60 r61 => ?_⟩
      obtain ⟨m, hm, m1, m2⟩ : ∃ m : Int, atI [V.int 1, .int (1 + r4), .int r5] r6 = some (.int m) ∧ 1 ≤ m ∧ m ≤ 10 ^ 30 - 1 := by
        rcases (show r6 = 0 ∨ r6 = 1 ∨ r6 = 2 by omega) with rfl | rfl | rfl
        · exact ⟨1, rfl, by decide, by decide⟩
        · exact ⟨1 + r4, rfl, by omega, by omega⟩
        · exact ⟨r5, rfl, by omega, by omega⟩
      refine ⟨q5, _, r6, _, rfl, rfl, SqL.of (kp6 _ _ ga gd upd_same), hm, (by show 2 ≤ sizeLine; decide), fun q7 hq7 => ?_⟩
      obtain ⟨fa, fd'⟩ := s6.off hq7
      have k6 : Keep a d H H6 := ((((k2.trans (Keep.of e3)).trans kp4).trans kp5).trans (Keep.of e6)).trans kp6
      refine k _ q7 (.up m) (k6.new hq7) ((s6.same (new_same hq7)).more (by omega)) (k6.free fa fd' hq7) ?_ m1 m2
      rw [upd_same]
      rfl
    · refine ⟨p, _, _, _, rfl, rfl, SqL.of hp2, rfl, ?_⟩
      refine ⟨_, rfl, (by show 2 ≤ sizeLine; decide), fun q hq => ?_⟩
      have e3 : Same H2 (upd H2 q (.tup [.str "home", .str "end"])) := new_same hq
      refine ⟨q, _, rfl, .inr (SqT.of upd_same), rfl, rfl, false, by decide +kernel, iteF ?_⟩
      refine ⟨_, rfl, _, rfl, a, d, _, 4, rfl, s2.same e3, by omega, by decide, by decide, fun H4 r4 kp4 s4 r40 r41 => ?_⟩
      refine ⟨_, _, rfl, rfl, _, rfl, a, d, _, rfl, s4, by omega, fun H5 r5 kp5 s5 r50 r51 => ⟨(by show 3 ≤ sizeLine; decide), fun q5 hq5 => ?_⟩⟩
      obtain ⟨ga, gd⟩ := s5.off hq5
      have e6 : Same H5 (upd H5 q5 (.lst [.int 1, .int (1 + r4), .int r5])) := new_same hq5
      refine ⟨_, rfl, a, d, _, 3, rfl, s5.same e6, by omega, by decide, by decide, fun H6 r6 kp6 s6 r60 r61 => ?_⟩
      obtain ⟨m, hm, m1, m2⟩ : ∃ m : Int, atI [V.int 1, .int (1 + r4), .int r5] r6 = some (.int m) ∧ 1 ≤ m ∧ m ≤ 10 ^ 30 - 1 := by
        rcases (show r6 = 0 ∨ r6 = 1 ∨ r6 = 2 by omega) with rfl | rfl | rfl
        · exact ⟨1, rfl, by decide, by decide⟩
        · exact ⟨1 + r4, rfl, by omega, by omega⟩
        · exact ⟨r5, rfl, by omega, by omega⟩
      refine ⟨q5, _, r6, _, rfl, rfl, SqL.of (kp6 _ _ ga gd upd_same), hm, (by show 2 ≤ sizeLine; decide), fun q7 hq7 => ?_⟩
      obtain ⟨fa, fd'⟩ := s6.off hq7
      have k6 : Keep a d H H6 := ((((k2.trans (Keep.of e3)).trans kp4).trans kp5).trans (Keep.of e6)).trans kp6
      refine k _ q7 (.right m) (k6.new hq7) ((s6.same (new_same hq7)).more (by omega)) (k6.free fa fd' hq7) ?_ m1 m2
      rw [upd_same]
      rfl
    · refine ⟨p, _, _, _, rfl, rfl, SqL.of hp2, rfl, ?_⟩
      refine ⟨_, rfl, (by show 2 ≤ sizeLine; decide), fun q hq => ?_⟩
      have e3 : Same H2 (upd H2 q (.tup [.str "home", .str "end"])) := new_same hq
      refine ⟨q, _, rfl, .inr (SqT.of upd_same), rfl, rfl, false, by decide +kernel, iteF ?_⟩
      refine ⟨_, rfl, _, rfl, a, d, _, 4, rfl, s2.same e3, by omega, by decide, by decide, fun H4 r4 kp4 s4 r40 r41 => ?_⟩
      refine ⟨_, _, rfl, rfl, _, rfl, a, d, _, rfl, s4, by omega, fun H5 r5 kp5 s5 r50 r51 => ⟨(by show 3 ≤ sizeLine; decide), fun q5 hq5 => ?_⟩⟩
      obtain ⟨ga, gd⟩ := s5.off hq5
      have e6 : Same H5 (upd H5 q5 (.lst [.int 1, .int (1 + r4), .int r5])) := new_same hq5
      refine ⟨_, rfl, a, d, _, 3, rfl, s5.same e6, by omega, by decide, by decide, fun H6 r6 kp6 s6 r60 r61 => ?_⟩
      obtain ⟨m, hm, m1, m2⟩ : ∃ m : Int, atI [V.int 1, .int (1 + r4), .int r5] r6 = some (.int m) ∧ 1 ≤ m ∧ m ≤ 10 ^ 30 - 1 := by
        rcases (show r6 = 0 ∨ r6 = 1 ∨ r6 = 2 by omega) with rfl | rfl | rfl
        · exact ⟨1, rfl, by decide, by decide⟩
        · exact ⟨1 + r4, rfl, by omega, by omega⟩
        · exact ⟨r5, rfl, by omega, by omega⟩
      refine ⟨q5, _, r6, _, rfl, rfl, SqL.of (kp6 _ _ ga gd upd_same), hm, (by show 2 ≤ sizeLine; decide), fun q7 hq7 => ?_⟩
      obtain ⟨fa, fd'⟩ := s6.off hq7
      have k6 : Keep a d H H6 := ((((k2.trans (Keep.of e3)).trans kp4).trans kp5).trans (Keep.of e6)).trans kp6
      refine k _ q7 (.left m) (k6.new hq7) ((s6.same (new_same hq7)).more (by omega)) (k6.free fa fd' hq7) ?_ m1 m2
      rw [upd_same]
      rfl
    · refine ⟨p, _, _, _, rfl, rfl, SqL.of hp2, rfl, ?_⟩
      refine ⟨_, rfl, (by show 2 ≤ sizeLine; decide), fun q hq => ?_⟩
      have e3 : Same H2 (upd H2 q (.tup [.str "home", .str "end"])) := new_same hq
      refine ⟨q, _, rfl, .inr (SqT.of upd_same), rfl, rfl, false, by decide +kernel, iteF ?_⟩
      refine ⟨_, rfl, _, rfl, a, d, _, 4, rfl, s2.same e3, by omega, by decide, by decide, fun H4 r4 kp4 s4 r40 r41 => ?_⟩
      refine ⟨_, _, rfl, rfl, _, rfl, a, d, _, rfl, s4, by omega, fun H5 r5 kp5 s5 r50 r51 => ⟨(by show 3 ≤ sizeLine; decide), fun q5 hq5 => ?_⟩⟩
      obtain ⟨ga, gd⟩ := s5.off hq5
      have e6 : Same H5 (upd H5 q5 (.lst [.int 1, .int (1 + r4), .int r5])) := new_same hq5
      refine ⟨_, rfl, a, d, _, 3, rfl, s5.same e6, by omega, by decide, by decide, fun H6 r6 kp6 s6 r60 r61 => ?_⟩
      obtain ⟨m, hm, m1, m2⟩ : ∃ m : Int, atI [V.int 1, .int (1 + r4), .int r5] r6 = some (.int m) ∧ 1 ≤ m ∧ m ≤ 10 ^ 30 - 1 := by
        rcases (show r6 = 0 ∨ r6 = 1 ∨ r6 = 2 by omega) with rfl | rfl | rfl
        · exact ⟨1, rfl, by decide, by decide⟩
        · exact ⟨1 + r4, rfl, by omega, by omega⟩
        · exact ⟨r5, rfl, by omega, by omega⟩
      refine ⟨q5, _, r6, _, rfl, rfl, SqL.of (kp6 _ _ ga gd upd_same), hm, (by show 2 ≤ sizeLine; decide), fun q7 hq7 => ?_⟩
      obtain ⟨fa, fd'⟩ := s6.off hq7
      have k6 : Keep a d H H6 := ((((k2.trans (Keep.of e3)).trans kp4).trans kp5).trans (Keep.of e6)).trans kp6
      refine k _ q7 (.right m) (k6.new hq7) ((s6.same (new_same hq7)).more (by omega)) (k6.free fa fd' hq7) ?_ m1 m2
      rw [upd_same]
      rfl
    · refine ⟨p, _, _, _, rfl, rfl, SqL.of hp2, rfl, ?_⟩
      refine ⟨_, rfl, (by show 2 ≤ sizeLine; decide), fun q hq => ?_⟩
      have e3 : Same H2 (upd H2 q (.tup [.str "home", .str "end"])) := new_same hq
      refine ⟨q, _, rfl, .inr (SqT.of upd_same), rfl, rfl, false, by decide +kernel, iteF ?_⟩
      refine ⟨_, rfl, _, rfl, a, d, _, 4, rfl, s2.same e3, by omega, by decide, by decide, fun H4 r4 kp4 s4 r40 r41 => ?_⟩
      refine ⟨_, _, rfl, rfl, _, rfl, a, d, _, rfl, s4, by omega, fun H5 r5 kp5 s5 r50 r51 => ⟨(by show 3 ≤ sizeLine; decide), fun q5 hq5 => ?_⟩⟩
      obtain ⟨ga, gd⟩ := s5.off hq5
      have e6 : Same H5 (upd H5 q5 (.lst [.int 1, .int (1 + r4), .int r5])) := new_same hq5
      refine ⟨_, rfl, a, d, _, 3, rfl, s5.same e6, by omega, by decide, by decide, fun H6 r6 kp6 s6 r60 r61 => ?_⟩
      obtain ⟨m, hm, m1, m2⟩ : ∃ m : Int, atI [V.int 1, .int (1 + r4), .int r5] r6 = some (.int m) ∧ 1 ≤ m ∧ m ≤ 10 ^ 30 - 1 := by
        rcases (show r6 = 0 ∨ r6 = 1 ∨ r6 = 2 by omega) with rfl | rfl | rfl
        · exact ⟨1, rfl, by decide, by decide⟩
        · exact ⟨1 + r4, rfl, by omega, by omega⟩
        · exact ⟨r5, rfl, by omega, by omega⟩
      refine ⟨q5, _, r6, _, rfl, rfl, SqL.of (kp6 _ _ ga gd upd_same), hm, (by show 2 ≤ sizeLine; decide), fun q7 hq7 => ?_⟩
      obtain ⟨fa, fd'⟩ := s6.off hq7
      have k6 : Keep a d H H6 := ((((k2.trans (Keep.of e3)).trans kp4).trans kp5).trans (Keep.of e6)).trans kp6
      refine k _ q7 (.left m) (k6.new hq7) ((s6.same (new_same hq7)).more (by omega)) (k6.free fa fd' hq7) ?_ m1 m2
      rw [upd_same]
      rfl
    · refine ⟨p, _, _, _, rfl, rfl, SqL.of hp2, rfl, ?_⟩
      refine ⟨_, rfl, (by show 2 ≤ sizeLine; decide), fun q hq => ?_⟩
      have e3 : Same H2 (upd H2 q (.tup [.str "home", .str "end"])) := new_same hq
      refine ⟨q, _, rfl, .inr (SqT.of upd_same), rfl, rfl, true, by decide +kernel, iteT ?_⟩
      refine ⟨_, rfl, (by show 1 ≤ sizeLine; decide), fun q7 hq7 => ?_⟩
      have s3 := s2.same e3
      obtain ⟨fa, fd'⟩ := s3.off hq7
      have k3 := k2.trans (Keep.of e3)
      refine k _ q7 .home (k3.new hq7) ((s3.same (new_same hq7)).more (by omega)) (k3.free fa fd' hq7) ?_ trivial (by show (0 : Int) ≤ 10 ^ 30 - 1; decide)
      rw [upd_same]
      rfl
    · refine ⟨p, _, _, _, rfl, rfl, SqL.of hp2, rfl, ?_⟩
      refine ⟨_, rfl, (by show 2 ≤ sizeLine; decide), fun q hq => ?_⟩
      have e3 : Same H2 (upd H2 q (.tup [.str "home", .str "end"])) := new_same hq
      refine ⟨q, _, rfl, .inr (SqT.of upd_same), rfl, rfl, true, by decide +kernel, iteT ?_⟩
      refine ⟨_, rfl, (by show 1 ≤ sizeLine; decide), fun q7 hq7 => ?_⟩
      have s3 := s2.same e3
      obtain ⟨fa, fd'⟩ := s3.off hq7
      have k3 := k2.trans (Keep.of e3)
      refine k _ q7 .stop (k3.new hq7) ((s3.same (new_same hq7)).more (by omega)) (k3.free fa fd' hq7) ?_ trivial (by show (0 : Int) ≤ 10 ^ 30 - 1; decide)
      rw [upd_same]
      rfl
end
end Gc

/-! commands shown as text -/
namespace Gc
open PySem L2 TL
abbrev s_show_commands : Stmt := top 1
abbrev s_show_command : Stmt := top 2
abbrev s_show_number : Stmt := top 3
structure TxtW (mg : Str → Option Value) : Prop where
  str : mg "str" = none
  len : mg "len" = none
  divmod : mg "divmod" = none
def spShowN : Sp := fun vs H Q _ => ∃ n : Int, vs = [.int n] ∧ 0 ≤ n ∧ n < 10 ^ 64 ∧ Q (.str (mkS (numL n.toNat))) H
def spShow1 (K : PySem.W.Frag) : Sp := fun vs H Q _ => ∃ (v : V) (c : Cmd), vs = [v] ∧ CmdAt K H v c ∧ c.ok ∧ numC c < 10 ^ 40 ∧ Q (.str (mkS (cw c))) H
def spShow (K : PySem.W.Frag) : Sp := fun vs H Q _ => ∃ (l : Addr) (xs : List V) (cs : List Cmd), vs = [.ref l] ∧ SqL K H l xs ∧ CmdsOf K H xs cs ∧ AllOk cs ∧ (∀ c ∈ cs, numC c < 10 ^ 40) ∧ cs.length ≤ 10000 ∧ ∀ H', Same H H' → Q (.str (shownS cs)) H'
theorem str_num {n : Int} (h : 0 ≤ n) : Str.ofString (toString n) = mkS (numL n.toNat) := by
  obtain ⟨m, rfl⟩ := Int.eq_ofNat_of_zero_le h
  exact ext_tl (tl_num m)
theorem log64 {n : Int} (h0 : 0 ≤ n) (h : n < 10 ^ 64) : n.natAbs.log2 < 1920 :=
  Nat.lt_of_lt_of_le (PySem.Flt.log2_lt_of (k := 214) (by decide) (by omega)) (by decide)
theorem add_mk {l m : List Nat} (h : l.length + m.length ≤ 100000) {H : Hp} {Q : VK} (q : Q (.str (mkS (l ++ m))) H) : ∃ i j, V.str (mkS l) = .str i ∧ V.str (mkS m) = .str j ∧ i.length + j.length ≤ sizeLine ∧ Q (.str (i ++ j)) H := by
  refine ⟨_, _, rfl, rfl, ?_, ?_⟩
  · rw [mkS_len, mkS_len, sizeLine_eq]
    omega
  · rw [mkS_app]
    exact q
section
variable {P : Program} {w : World} {K : PySem.W.Frag} {mg : Str → Option Value} {base : Heap}
theorem sc_show_number : FnScope ["number", "shown", "rest"] ["number"] (defScope s_show_number) := ⟨rfl, rfl, rfl, by decide +kernel, rfl, by decide +kernel, by decide +kernel⟩
theorem ok_show_number {f : Addr} {fd : FuncData} (F : Fun K "show_number" "show_number" s_show_number f fd) (T : TxtW mg) : FnOk P w K mg base CX0 1 f fd ["number"] spShowN := by
  refine F.ok sc_show_number (fun vs H Q E h => ?_) (fun cdv A outer s H vs Q E hr h => ?_)
  · obtain ⟨n, rfl, _⟩ := h
    rfl
  · obtain ⟨n, rfl, h0, h1, k⟩ := h
    refine ⟨_, (pss_cons (ps_set (i := 1) sc_show_number.nd rfl (Or.inl rfl) pe_str)
      (C8.pss_cut (ps_while PassesOwn.never (pt_cmpR op_ge (pv 0) (pe_op op_pow pe_int pe_int) (nomark _)) (pss_cons (ps_asg (pe_callB call_divmod (by rfl) T.divmod (by decide +kernel) (pa_cons (pv 0) (pa_cons (pe_op op_pow pe_int pe_int) pa_nil))) (pg_tup rfl (pgs_cons (pg_name (i := 0) sc_show_number.nd rfl (Or.inl rfl)) (pgs_cons (pg_name (i := 2) sc_show_number.nd rfl (Or.inl rfl)) pgs_nil))))
      (pss_one (ps_set (i := 1) sc_show_number.nd rfl (Or.inl rfl) (pe_op op_add_str (pe_m1 PySem.F.slot_str_zfill PySem.F.type_str_zfill mt_zfill (pe_callTy call_str_int (by rfl) T.str (by decide +kernel) (pa_cons (pv 2) pa_nil)) pe_int) (pv 1))))))
      (pss_one (ps_ret (pe_op op_add_str (pe_callTy call_str_int (by rfl) T.str (by decide +kernel) (pa_cons (pv 0) pa_nil)) (pv 1)))))), ?_⟩
    refine ⟨fun σ H' => σ = [some (.int n), some (.str ""), none] ∧ H' = H, ?_, ?_⟩
    · refine ⟨fun m σ H' => σ = [some (.int n), some (.str ""), none] ∧ H' = H, ⟨0, rfl, rfl⟩, ?_⟩
      rintro m σ H' ⟨rfl, rfl⟩
      refine ⟨_, rfl, _, _, rfl, rfl, cpow (by decide), _, _, rfl, rfl, _, rfl, ?_⟩
      refine ite2 (fun c => ?_) (fun _ => ⟨rfl, rfl⟩)
      have z : (10 : Int) ^ (64 : Int).toNat ≤ n := of_decide_eq_true c
      have e : (10 : Int) ^ (64 : Int).toNat = 10 ^ 64 := by decide
      omega
    · rintro σ H' ⟨rfl, rfl⟩
      refine ⟨_, rfl, _, rfl, log64 h0 h1, _, rfl, ?_⟩
      rw [str_num h0]
      refine add_mk (m := []) ?_ ?_
      · have := numL_len (n := n.toNat) (k := 64) (by decide) (by omega)
        rw [List.length_nil]
        omega
      · rw [List.append_nil]
        exact k
theorem sc_show_command : FnScope ["command", "letter"] ["command"] (defScope s_show_command) := ⟨rfl, rfl, rfl, by decide +kernel, rfl, by decide +kernel, by decide +kernel⟩
theorem ok_show_command {f : Addr} {fd : FuncData} (F : Fun K "show_command" "show_command" s_show_command f fd) (T : TxtW mg) (c_show_number : Cal P w K mg base 1 "show_number" spShowN) : FnOk P w K mg base CX0 2 f fd ["command"] (spShow1 K) := by
  refine F.ok sc_show_command (fun vs H Q E h => ?_) (fun cdv A outer s H vs Q E hr h => ?_)
  · obtain ⟨v, c, rfl, _⟩ := h
    rfl
  · obtain ⟨v, c, rfl, ⟨a, rfl, ha⟩, hok, hn, k⟩ := h
    refine ⟨_, (pss_cons (ps_set (i := 1) sc_show_command.nd rfl (Or.inl rfl) (pe_upper (pe_ix ix_str (pe_ix ix_tup (pv 0) pe_int (fun _ _ => rfl)) pe_int (fun _ _ => rfl))))
      (pss_one (ps_ret (pe_ifExp (pt_cmpR op_eq (pe_callB call_len_seq (by rfl) T.len (by decide +kernel) (pa_cons (pv 0) pa_nil)) pe_int (nomark _)) (pv 1) (pe_op op_add_str (pe_cal c_show_number hr (by decide) (by rfl) (pa_cons (pe_ix ix_tup (pv 0) pe_int (fun _ _ => rfl)) pa_nil)) (pv 1)))))), ?_⟩
    have dl := digC_len hn
    cases c with
    | down n =>
      have n1 : 1 ≤ n := hok
      have n2 : n < 10 ^ 40 := hn
      refine ⟨_, rfl, a, _, 0, _, rfl, rfl, ha, rfl, _, _, 100, rfl, rfl, by decide +kernel, by decide +kernel, ⟨_, rfl⟩, _, rfl, rfl, by decide +kernel, ?_⟩
      refine ⟨_, rfl, a, _, rfl, .inr ha, rfl, _, rfl, iteF ?_⟩
      refine ⟨_, rfl, a, _, 1, _, rfl, rfl, ha, rfl, _, rfl, by omega, by omega, _, rfl, ?_⟩
      rw [show (Txt.upper ⟨#[100]⟩ : Str) = mkS [68] by decide +kernel]
      refine add_mk ?_ k
      have dl' : (numL n.toNat).length ≤ 40 := dl
      simp
      omega
    | up n =>
      have n1 : 1 ≤ n := hok
      have n2 : n < 10 ^ 40 := hn
      refine ⟨_, rfl, a, _, 0, _, rfl, rfl, ha, rfl, _, _, 117, rfl, rfl, by decide +kernel, by decide +kernel, ⟨_, rfl⟩, _, rfl, rfl, by decide +kernel, ?_⟩
      refine ⟨_, rfl, a, _, rfl, .inr ha, rfl, _, rfl, iteF ?_⟩
      refine ⟨_, rfl, a, _, 1, _, rfl, rfl, ha, rfl, _, rfl, by omega, by omega, _, rfl, ?_⟩
      rw [show (Txt.upper ⟨#[117]⟩ : Str) = mkS [85] by decide +kernel]
      refine add_mk ?_ k
      have dl' : (numL n.toNat).length ≤ 40 := dl
      simp
      omega
    | right n =>
      have n1 : 1 ≤ n := hok
      have n2 : n < 10 ^ 40 := hn
      refine ⟨_, rfl, a, _, 0, _, rfl, rfl, ha, rfl, _, _, 114, rfl, rfl, by decide +kernel, by decide +kernel, ⟨_, rfl⟩, _, rfl, rfl, by decide +kernel, ?_⟩
      refine ⟨_, rfl, a, _, rfl, .inr ha, rfl, _, rfl, iteF ?_⟩
      refine ⟨_, rfl, a, _, 1, _, rfl, rfl, ha, rfl, _, rfl, by omega, by omega, _, rfl, ?_⟩
      rw [show (Txt.upper ⟨#[114]⟩ : Str) = mkS [82] by decide +kernel]
      refine add_mk ?_ k
      have dl' : (numL n.toNat).length ≤ 40 := dl
      simp
      omega
    | left n =>
      have n1 : 1 ≤ n := hok
      have n2 : n < 10 ^ 40 := hn
      refine ⟨_, rfl, a, _, 0, _, rfl, rfl, ha, rfl, _, _, 108, rfl, rfl, by decide +kernel, by decide +kernel, ⟨_, rfl⟩, _, rfl, rfl, by decide +kernel, ?_⟩
      refine ⟨_, rfl, a, _, rfl, .inr ha, rfl, _, rfl, iteF ?_⟩
      refine ⟨_, rfl, a, _, 1, _, rfl, rfl, ha, rfl, _, rfl, by omega, by omega, _, rfl, ?_⟩
      rw [show (Txt.upper ⟨#[108]⟩ : Str) = mkS [76] by decide +kernel]
      refine add_mk ?_ k
      have dl' : (numL n.toNat).length ≤ 40 := dl
      simp
      omega
    | home =>
      refine ⟨_, rfl, a, _, 0, _, rfl, rfl, ha, rfl, _, _, 104, rfl, rfl, by decide +kernel, by decide +kernel, ⟨_, rfl⟩, _, rfl, rfl, by decide +kernel, ?_⟩
      refine ⟨_, rfl, a, _, rfl, .inr ha, rfl, _, rfl, iteT ?_⟩
      refine ⟨_, rfl, ?_⟩
      rw [show (Txt.upper ⟨#[104]⟩ : Str) = mkS [72] by decide +kernel]
      exact k
    | stop =>
      refine ⟨_, rfl, a, _, 0, _, rfl, rfl, ha, rfl, _, _, 101, rfl, rfl, by decide +kernel, by decide +kernel, ⟨_, rfl⟩, _, rfl, rfl, by decide +kernel, ?_⟩
      refine ⟨_, rfl, a, _, rfl, .inr ha, rfl, _, rfl, iteT ?_⟩
      refine ⟨_, rfl, ?_⟩
      rw [show (Txt.upper ⟨#[101]⟩ : Str) = mkS [69] by decide +kernel]
      exact k
theorem sc_show_commands : FnScope ["commands", "command"] ["commands"] (defScope s_show_commands) := ⟨rfl, rfl, rfl, by decide +kernel, rfl, by decide +kernel, by decide +kernel⟩
theorem ok_show_commands {f : Addr} {fd : FuncData} (F : Fun K "show_commands" "show_commands" s_show_commands f fd) (c_show_command : Cal P w K mg base 2 "show_command" (spShow1 K)) : FnOk P w K mg base CX0 3 f fd ["commands"] (spShow K) := by
  refine F.ok sc_show_commands (fun vs H Q E h => ?_) (fun cdv A outer s H vs Q E hr h => ?_)
  · obtain ⟨l, xs, cs, rfl, _⟩ := h
    rfl
  · obtain ⟨l, xs, cs, rfl, hl, hc, ok, hn, hlen, k⟩ := h
    refine ⟨_, (pss_cons (ps_if (pt_not (pt_truth (pv 0) (fun _ => rfl))) (pss_one (ps_ret pe_str)) pss_nil)
      (pss_one (ps_ret (pe_join pe_str (pe_lc (own := [("command", 1)]) rfl sc_show_commands.nd (pi_list (pv 0)) (blkOk_by (N := ["commands", "command"]) (sc := defScope s_show_commands) (by decide +kernel)) (fun _ _ _ _ _ => (pg_name (i := 1) sc_show_commands.nd rfl (Or.inl rfl))) (fun _ _ _ _ _ => pts_nil) (fun _ _ _ _ _ => (pe_cal c_show_command hr (by decide) (by rfl) (pa_cons (pv 1) pa_nil)))))))), ?_⟩
    have xl := hc.len
    refine ⟨_, rfl, _, tru_seq hl, ?_⟩
    cases cs with
    | nil =>
      cases hc
      exact iteT (k H (Same.refl H))
    | cons c0 cr =>
      have x0 : (!xs.isEmpty) = true := by
        cases hc
        rfl
      rw [x0]
      refine iteF ⟨⟨_, rfl⟩, _, rfl, l, rfl, ⟨_, hl⟩, fun D hD => ?_⟩
      refine lc_list (K := K) (a := l) (xs := xs) (fun i H' => Same H H' ∧ H' D = some (.lst ((((c0 :: cr).take i).map fun c => mkS (cw c)).map V.str))) ⟨same_upd (Same.refl H) hD, upd_same⟩ (fun i H' _ ⟨e, _⟩ => e.seq hl) (fun i x H' hi h => ?_) (fun H' h => ?_)
      · obtain ⟨e, eD⟩ := h
        obtain ⟨c, hci, hca⟩ := paired_at hc hi
        have li := (List.getElem?_eq_some_iff.mp hci).1
        have cm := List.mem_of_getElem? hci
        refine ⟨rfl, _, rfl, x, c, rfl, hca.same e, ok c cm, hn c cm, _, eD, ?_, ?_, ?_⟩
        · refine lt_line ?_
          rw [List.length_map, List.length_map, List.length_take]
          omega
        · exact same_freeU e hD
        · rw [upd_same, takeS hci, List.map_append, List.map_append]
          rfl
      · obtain ⟨e, eD⟩ := h
        rw [List.take_of_length_le (by rw [xl]; exact Nat.le_refl _)] at eD
        refine ⟨_, D, (c0 :: cr).map fun c => mkS (cw c), rfl, rfl, .inl (SqL.of eD), ?_, ?_⟩
        · have key : ∀ cs : List Cmd, (∀ c ∈ cs, numC c < 10 ^ 40) → ((cs.map fun c => mkS (cw c)).map (·.length)).sum ≤ 41 * cs.length := by
            intro cs
            induction cs with
            | nil => exact fun _ => Nat.le_refl _
            | cons c cs ih =>
              intro hh
              rw [List.map_cons, List.map_cons, List.sum_cons, List.length_cons]
              have h1 := cw_len (hh c List.mem_cons_self)
              have h2 := ih fun x hx => hh x (List.mem_cons_of_mem _ hx)
              rw [mkS_len]
              omega
          have h3 := key _ hn
          rw [List.length_map]
          have h4 : (Str.ofString " ").length = 1 := by decide +kernel
          rw [h4]
          omega
        · have e2 : Txt.join (Str.ofString " ") ((c0 :: cr).map fun c => mkS (cw c)) = shownS (c0 :: cr) := by
            refine ext_tl ?_
            rw [join_eq, tl_join, List.map_map]
            unfold shownS shownL
            rw [if_neg (by simp)]
            rfl
          show Q (.str (Txt.join (Str.ofString " ") ((c0 :: cr).map fun c => mkS (cw c)))) H'
          rw [e2]
          exact k H' e
end
end Gc

/-! lists of commands, drawn; their text, written by the law -/
namespace Gc
open PySem L2 TL
abbrev s_commands : Stmt := top 42
abbrev s_written : Stmt := top 43
structure TxtV (mg : Str → Option Value) : Prop where
  str : mg "str" = none
  len : mg "len" = none
  int : mg "int" = none
  range : mg "range" = none
def letK : List (L2.Key × V) := [(.inr "down", .str "D"), (.inr "up", .str "U"), (.inr "right", .str "R"), (.inr "left", .str "L"), (.inr "home", .str "H"), (.inr "end", .str "E")]
theorem let_val (c : Cmd) : valV letK (.inr (nameC c) : L2.Key) = some (.str (mkS [letC c])) := by
  cases c <;> simp only [nameC, letC] <;> decide +kernel
def spCommands (K : PySem.W.Frag) : Sp := fun vs H Q _ => ∃ (a d : Addr) (n many : Nat), vs = [.ref a, .int many] ∧ Src H a d n ∧ n < 2 ^ 37 ∧ many ≤ 1000 ∧ ∀ (H' : Hp) (p : Addr) (xs : List V) (cs : List Cmd), Keep a d H H' → Src H' a d (n + 6000) → H p = none → H' p = some (.lst xs) → CmdsOf K H' xs cs → AllOk cs → (∀ c ∈ cs, numC c ≤ 10 ^ 30 - 1) → cs.length ≤ many → Q (.ref p) H'
def spWritten (K : PySem.W.Frag) : Sp := fun vs H Q _ => ∃ (l : Addr) (xs : List V) (cs : List Cmd), vs = [.ref l] ∧ SqL K H l xs ∧ CmdsOf K H xs cs ∧ AllOk cs ∧ (∀ c ∈ cs, numC c < 10 ^ 40) ∧ cs.length ≤ 1000 ∧ ∀ H', Same H H' → Q (.str (shownS cs)) H'
section
variable {P : Program} {w : World} {K : PySem.W.Frag} {mg : Str → Option Value} {base : Heap}
theorem sc_law_commands : FnScope ["source", "many", "time"] ["source", "many"] (defScope s_commands) := ⟨rfl, rfl, rfl, by decide +kernel, rfl, by decide +kernel, by decide +kernel⟩
theorem ok_commands {f : Addr} {fd : FuncData} (F : Fun K "_law_commands" "_law_commands" s_commands f fd) (T : TxtV mg) (c_law_draw : Cal P w K mg base 1 "_law_draw" spDraw) (c_law_command : Cal P w K mg base 3 "_law_command" (spCommand K)) : FnOk P w K mg base CX0 4 f fd ["source", "many"] (spCommands K) := by
  refine F.ok sc_law_commands (fun vs H Q E h => ?_) (fun cdv A outer s H vs Q E hr h => ?_)
  · obtain ⟨a, d, n, many, rfl, _⟩ := h
    rfl
  · obtain ⟨a, d, n, many, rfl, hs, hn, hm, k⟩ := h
    refine ⟨_, (pss_one (ps_ret (pe_lc (own := [("time", 2)]) rfl sc_law_commands.nd (pi_range1 rfl T.range (pa_cons (pe_cal c_law_draw hr (by decide) (by rfl) (pa_cons (pv 0) (pa_cons (pe_op op_add (pv 1) pe_int) pa_nil))) pa_nil)) (blkOk_by (N := ["source", "many", "time"]) (sc := defScope s_commands) (by decide +kernel)) (fun _ _ _ _ _ => (pg_name (i := 2) sc_law_commands.nd rfl (Or.inl rfl))) (fun _ _ _ _ _ => pts_nil) (fun _ _ _ _ _ => (pe_cal c_law_command hr (by decide) (by rfl) (pa_cons (pv 0) pa_nil)))))), ?_⟩
    refine ⟨_, rfl, _, rfl, _, _, rfl, rfl, a, d, n, _, rfl, hs, by omega, by omega, log9 (a := 20) (by omega) (by decide), fun H1 r kp1 s1 r0 r1 => ?_⟩
    obtain ⟨t, rfl⟩ := Int.eq_ofNat_of_zero_le r0
    have tm : t ≤ many := by omega
    refine ⟨_, rfl, by omega, by omega, fun D hD => ?_⟩
    obtain ⟨Da, Dd⟩ := s1.off hD
    refine lc_range (lo := 0) (n := t) (fun i H' => ∃ (xs : List V) (cs : List Cmd), Keep a d H1 H' ∧ Src H' a d (n + 1 + 5 * i) ∧ H' D = some (.lst xs) ∧ CmdsOf K H' xs cs ∧ AllOk cs ∧ (∀ c ∈ cs, numC c ≤ 10 ^ 30 - 1) ∧ cs.length = i)
      ⟨[], [], (Keep.refl H1).new hD, s1.same (new_same hD), upd_same, .nil, (fun _ h => nomatch h), (fun _ h => nomatch h), rfl⟩ (fun i H' hi h => ?_) (fun H' h => ?_)
    · obtain ⟨xs, cs, kp, sr, hD', hc, ok, num, len⟩ := h
      refine ⟨rfl, _, rfl, a, d, _, rfl, sr, by omega, fun H2 q c kp2 s2 nq hq okc numc => ?_⟩
      obtain ⟨qa, qd⟩ := sr.off nq
      have hD2 := kp2 _ _ Da Dd hD'
      have qD : q ≠ D := fun e => by rw [e, hD'] at nq; cases nq
      refine ⟨_, hD2, lt_line (by rw [hc.len]; omega), xs ++ [.ref q], cs ++ [c], ?_, ?_, upd_same, ?_, ?_, ?_, ?_⟩
      · exact fun b o n1 n2 hb => by
          rw [upd_ne (ne_of_none hb hD)]
          exact kp2 _ _ n1 n2 (kp _ _ n1 n2 hb)
      · exact (s2.upd Da Dd).more (by omega)
      · exact pairS ((sr.cmds kp2 hc).atL hD2) ⟨q, rfl, SqT.of (by rw [upd_ne qD]; exact hq)⟩
      · intro x hx
        rcases List.mem_append.mp hx with h | h
        · exact ok x h
        · rw [List.mem_singleton.mp h]
          exact okc
      · intro x hx
        rcases List.mem_append.mp hx with h | h
        · exact num x h
        · rw [List.mem_singleton.mp h]
          exact numc
      · rw [List.length_append, List.length_singleton, len]
    · obtain ⟨xs, cs, kp, sr, hD', hc, ok, num, len⟩ := h
      exact k H' D xs cs (kp1.trans kp) (sr.more (by omega)) (kp1.free Da Dd hD) hD' hc ok num (by omega)
theorem sc_law_written : FnScope ["moves", "found", "command", "letter"] ["moves"] (defScope s_written) := ⟨rfl, rfl, rfl, by decide +kernel, rfl, by decide +kernel, by decide +kernel⟩
theorem ok_written {f : Addr} {fd : FuncData} (F : Fun K "_law_written" "_law_written" s_written f fd) (T : TxtV mg) : FnOk P w K mg base CX0 1 f fd ["moves"] (spWritten K) := by
  refine F.ok sc_law_written (fun vs H Q E h => ?_) (fun cdv A outer s H vs Q E hr h => ?_)
  · obtain ⟨l, xs, cs, rfl, _⟩ := h
    rfl
  · obtain ⟨l, xs, cs, rfl, hl, hc, ok, num, len, k⟩ := h
    refine ⟨_, (pss_cons (ps_set (i := 1) sc_law_written.nd rfl (Or.inl rfl) pe_str)
      (pss_cons (ps_for PassesOwn.never rfl (pi_list (pv 0)) (pg_name (i := 2) sc_law_written.nd rfl (Or.inl rfl)) (pss_cons (ps_set (i := 3) sc_law_written.nd rfl (Or.inl rfl) (pe_dget (hu_of hr) (pe_disp (pps_cons pe_str pe_str (pps_cons pe_str pe_str (pps_cons pe_str pe_str (pps_cons pe_str pe_str (pps_cons pe_str pe_str (pps_cons pe_str pe_str pps_nil)))))) rfl rfl (by simp) (by decide)) (pe_ix ix_tup (pv 2) pe_int (fun _ _ => rfl)) (fun _ _ => rfl)))
      (pss_one (ps_set (i := 1) sc_law_written.nd rfl (Or.inl rfl) (pe_op op_add_str (pe_op op_add_str (pe_op op_add_str (pv 1) (pe_ix ix_list (pe_lst (pa_cons pe_str (pa_cons pe_str pa_nil))) (pe_callTy call_int1 (by rfl) T.int (by decide +kernel) (pa_cons (pe_cmpR op_eq (pv 1) pe_str (nomark _)) pa_nil)) (fun _ _ => rfl))) (pe_ifExp (pt_cmpR op_gt (pe_callB call_len_seq (by rfl) T.len (by decide +kernel) (pa_cons (pv 2) pa_nil)) pe_int (nomark _)) (pe_callTy call_str_int (by rfl) T.str (by decide +kernel) (pa_cons (pe_ix ix_tup (pv 2) pe_int (fun _ _ => rfl)) pa_nil)) pe_str)) (pv 3))))))
      (pss_one (ps_ret (pe_ifExp (pt_cmpR (op_neD hr.units) (pv 0) (pe_lst pa_nil) (nomark _)) (pv 1) pe_str))))), ?_⟩
    have xl := hc.len
    refine ⟨_, rfl, l, rfl, ⟨_, hl⟩, for_list (K := K) (a := l) (xs := xs) (fun i σ H' => ∃ v2 v3 : Option V, σ = [some (.ref l), some (.str (mkS (joinL [32] ((cs.take i).map cw)))), v2, v3] ∧ Same H H')
      ⟨none, none, rfl, Same.refl H⟩ (fun i σ H' _ ⟨_, _, _, e⟩ => e.seq hl) (fun i y σ H1 hi h => ?_) (fun σ H1 h => ?_)⟩
    · obtain ⟨v2, v3, rfl, e⟩ := h
      obtain ⟨c, hci, t, rfl, ht0⟩ := paired_at hc hi
      have ht := seq_t e ht0
      refine fun p hp => ⟨upd_same, letK, rfl, by decide, ?_⟩
      generalize g2 : upd (upd H1 p (.dK [])) p (.dK (mergeK [] letK)) = H2
      have e2 : Same H1 H2 := by rw [← g2]; exact same_freeU (same_freeU (Same.refl _) hp) hp
      have f2 : H2 p = some (.dK letK) := by rw [← g2]; exact upd_same
      have ht2 := seq_t e2 ht
      refine ⟨_, rfl, t, _, 0, _, rfl, rfl, ht2, enc_at c, p, _, rfl, getK f2 (let_val c), ?_⟩
      refine ⟨_, rfl, (by show 2 ≤ sizeLine; decide), fun q hq => ?_⟩
      have e3 : Same H2 (upd H2 q (.lst [.str " ", .str ""])) := new_same hq
      have ht3 := seq_t e3 ht2
      have li := (List.getElem?_eq_some_iff.mp hci).1
      have nums : numC c < 10 ^ 40 := num c (List.mem_of_getElem? hci)
      have dl := digC_len nums
      have fl : (joinL [32] ((cs.take i).map cw)).length ≤ 42 * 1000 := by
        have z := joinL_len (k := 41) (ps := (cs.take i).map cw) fun p hp => by
          obtain ⟨d, hd, rfl⟩ := List.mem_map.mp hp
          exact cw_len (num d (List.mem_of_mem_take hd))
        rw [List.length_map, List.length_take] at z
        omega
      have okc := ok c (List.mem_of_getElem? hci)
      have sep : atI [V.str " ", V.str ""] (if decide (V.str (mkS (joinL [32] ((cs.take i).map cw))) = V.str "") = true then 1 else 0) = some (.str (mkS (if i = 0 then [] else [32]))) := by
        have iff := shown_nil cs i c hci
        by_cases z : i = 0
        · rw [iff.mpr z, if_pos z]
          decide +kernel
        · rw [if_neg z, if_neg]
          · decide +kernel
          · intro q
            have q2 : mkS (joinL [32] ((cs.take i).map cw)) = mkS [] := V.str.inj (of_decide_eq_true q)
            exact z (iff.mp (mkS_inj q2))
      have sl : (if i = 0 then ([] : List Nat) else [32]).length ≤ 1 := by split <;> decide
      have step := shown_step cs i c hci
      refine ⟨_, rfl, rfl, .inr ⟨_, rfl, q, _, _, _, rfl, rfl, SqL.of upd_same, sep, ?_⟩⟩
      refine ⟨_, _, rfl, rfl, by rw [mkS_len, mkS_len, sizeLine_eq]; omega, ?_⟩
      rw [mkS_app]
      cases c with
      | down n =>
        have n1 : 1 ≤ n := okc
        have n2 : n < 10 ^ 40 := nums
        refine ⟨_, rfl, t, _, rfl, .inr ht3, _, _, rfl, rfl, _, rfl, iteT ?_⟩
        refine ⟨_, rfl, t, _, 1, _, rfl, rfl, ht3, rfl, n, rfl, log64 (by omega) (by omega), ?_⟩
        rw [str_num (by omega)]
        have dl' : (numL n.toNat).length ≤ 40 := dl
        refine ⟨_, _, rfl, rfl, by rw [mkS_len, mkS_len, List.length_append, sizeLine_eq]; omega, ?_⟩
        rw [mkS_app]
        refine ⟨_, rfl, _, _, rfl, rfl, by rw [mkS_len, mkS_len, List.length_append, List.length_append, List.length_singleton, sizeLine_eq]; omega, ?_⟩
        rw [mkS_app]
        exact ⟨_, _, by rw [step]; rfl, e.trans (e2.trans e3)⟩
      | up n =>
        have n1 : 1 ≤ n := okc
        have n2 : n < 10 ^ 40 := nums
        refine ⟨_, rfl, t, _, rfl, .inr ht3, _, _, rfl, rfl, _, rfl, iteT ?_⟩
        refine ⟨_, rfl, t, _, 1, _, rfl, rfl, ht3, rfl, n, rfl, log64 (by omega) (by omega), ?_⟩
        rw [str_num (by omega)]
        have dl' : (numL n.toNat).length ≤ 40 := dl
        refine ⟨_, _, rfl, rfl, by rw [mkS_len, mkS_len, List.length_append, sizeLine_eq]; omega, ?_⟩
        rw [mkS_app]
        refine ⟨_, rfl, _, _, rfl, rfl, by rw [mkS_len, mkS_len, List.length_append, List.length_append, List.length_singleton, sizeLine_eq]; omega, ?_⟩
        rw [mkS_app]
        exact ⟨_, _, by rw [step]; rfl, e.trans (e2.trans e3)⟩
      | right n =>
        have n1 : 1 ≤ n := okc
        have n2 : n < 10 ^ 40 := nums
        refine ⟨_, rfl, t, _, rfl, .inr ht3, _, _, rfl, rfl, _, rfl, iteT ?_⟩
        refine ⟨_, rfl, t, _, 1, _, rfl, rfl, ht3, rfl, n, rfl, log64 (by omega) (by omega), ?_⟩
        rw [str_num (by omega)]
        have dl' : (numL n.toNat).length ≤ 40 := dl
        refine ⟨_, _, rfl, rfl, by rw [mkS_len, mkS_len, List.length_append, sizeLine_eq]; omega, ?_⟩
        rw [mkS_app]
        refine ⟨_, rfl, _, _, rfl, rfl, by rw [mkS_len, mkS_len, List.length_append, List.length_append, List.length_singleton, sizeLine_eq]; omega, ?_⟩
        rw [mkS_app]
        exact ⟨_, _, by rw [step]; rfl, e.trans (e2.trans e3)⟩
      | left n =>
        have n1 : 1 ≤ n := okc
        have n2 : n < 10 ^ 40 := nums
        refine ⟨_, rfl, t, _, rfl, .inr ht3, _, _, rfl, rfl, _, rfl, iteT ?_⟩
        refine ⟨_, rfl, t, _, 1, _, rfl, rfl, ht3, rfl, n, rfl, log64 (by omega) (by omega), ?_⟩
        rw [str_num (by omega)]
        have dl' : (numL n.toNat).length ≤ 40 := dl
        refine ⟨_, _, rfl, rfl, by rw [mkS_len, mkS_len, List.length_append, sizeLine_eq]; omega, ?_⟩
        rw [mkS_app]
        refine ⟨_, rfl, _, _, rfl, rfl, by rw [mkS_len, mkS_len, List.length_append, List.length_append, List.length_singleton, sizeLine_eq]; omega, ?_⟩
        rw [mkS_app]
        exact ⟨_, _, by rw [step]; rfl, e.trans (e2.trans e3)⟩
      | home =>
        refine ⟨_, rfl, t, _, rfl, .inr ht3, _, _, rfl, rfl, _, rfl, iteF ?_⟩
        refine ⟨_, mkS [], rfl, rfl, by rw [mkS_len, mkS_len, List.length_append, List.length_nil, sizeLine_eq]; omega, ?_⟩
        rw [mkS_app]
        refine ⟨_, rfl, _, _, rfl, rfl, by rw [mkS_len, mkS_len, List.length_append, List.length_append, List.length_singleton, List.length_nil, sizeLine_eq]; omega, ?_⟩
        rw [mkS_app]
        exact ⟨_, _, by rw [step]; rfl, e.trans (e2.trans e3)⟩
      | stop =>
        refine ⟨_, rfl, t, _, rfl, .inr ht3, _, _, rfl, rfl, _, rfl, iteF ?_⟩
        refine ⟨_, mkS [], rfl, rfl, by rw [mkS_len, mkS_len, List.length_append, List.length_nil, sizeLine_eq]; omega, ?_⟩
        rw [mkS_app]
        refine ⟨_, rfl, _, _, rfl, rfl, by rw [mkS_len, mkS_len, List.length_append, List.length_append, List.length_singleton, List.length_nil, sizeLine_eq]; omega, ?_⟩
        rw [mkS_app]
        exact ⟨_, _, by rw [step]; rfl, e.trans (e2.trans e3)⟩
    · obtain ⟨v2, v3, rfl, e⟩ := h
      rw [List.take_of_length_le (by rw [xl]; exact Nat.le_refl _)]
      refine ⟨_, rfl, Nat.zero_le _, fun p hp => ?_⟩
      have e2 : Same H1 (upd H1 p (.lst [])) := new_same hp
      refine ⟨.list (cs.map cmdD), .list [], .lst ((e.trans e2).seq hl) (hc.same (e.trans e2)).dp, .lst (SqL.of upd_same) .nil, shaped_cmds cs, rfl, _, rfl, ?_⟩
      rw [show PyData.eqv (.list (cs.map cmdD)) (.list []) = decide (cs = []) from eqv_cmds cs []]
      by_cases z : cs = []
      · subst z
        exact iteF (k _ (e.trans e2))
      · rw [decide_eq_false z]
        refine iteT ⟨_, rfl, ?_⟩
        have q : shownS cs = mkS (joinL [32] (cs.map cw)) := by
          unfold shownS shownL
          rw [if_neg z]
        rw [← q]
        exact k _ (e.trans e2)
end
end Gc

/-! words read back: slices, digits, dicts of the module -/
namespace Gc
open PySem PyProof.Rows L2 TL
theorem mk_size (l : List Nat) : (mkS l).length = l.length := mkS_len l
theorem cut_front (l : List Nat) (x : Nat) : cutS (mkS (l ++ [x])) none (some (-1)) = mkS l := by
  refine ext_tl ?_
  show ((l ++ [x]).drop (HT.sIx (mkS (l ++ [x])).length 0 none)).take (HT.sIx (mkS (l ++ [x])).length (mkS (l ++ [x])).length (some (-1)) - HT.sIx (mkS (l ++ [x])).length 0 none) = l
  rw [mkS_len, List.length_append]
  have h1 : HT.sIx (l.length + [x].length) 0 none = 0 := rfl
  have h2 : HT.sIx (l.length + [x].length) (l.length + [x].length) (some (-1)) = l.length := by
    unfold HT.sIx
    simp
    try omega
  rw [h1, h2]
  simp
theorem cut_back (l : List Nat) (x : Nat) : cutS (mkS (l ++ [x])) (some (-1)) none = mkS [x] := by
  refine ext_tl ?_
  show ((l ++ [x]).drop (HT.sIx (mkS (l ++ [x])).length 0 (some (-1)))).take (HT.sIx (mkS (l ++ [x])).length (mkS (l ++ [x])).length none - HT.sIx (mkS (l ++ [x])).length 0 (some (-1))) = [x]
  rw [mkS_len, List.length_append]
  have h1 : HT.sIx (l.length + [x].length) (l.length + [x].length) none = l.length + 1 := rfl
  have h2 : HT.sIx (l.length + [x].length) 0 (some (-1)) = l.length := by
    unfold HT.sIx
    simp
    try omega
  rw [h1, h2]
  simp
theorem int_mk (n : Nat) (h : (numL n).length ≤ 640) : intText? (mkS (numL n)) = some (n : Int) := by
  have e : mkS (numL n) = Str.ofString (toString ((n : Nat) : Int)) := ext_tl (tl_num n).symm
  rw [e]
  exact int_num (by omega)
theorem numL_head : ∀ {n : Nat}, 1 ≤ n → ∃ a l, numL n = a :: l ∧ 49 ≤ a ∧ a ≤ 57 := fun {n} hn => by
  induction n using Nat.strongRecOn with
  | ind n ih =>
    rcases Nat.lt_or_ge n 10 with h | h
    · exact ⟨48 + n, [], numL_lt h, by omega, by omega⟩
    · obtain ⟨a, l, e, h1, h2⟩ := ih (n / 10) (by omega) (by omega)
      refine ⟨a, l ++ [48 + n % 10], ?_, h1, h2⟩
      rw [numL_step h, e]
      rfl
theorem str_beq (a b : Str) : (a == b) = decide (a = b) := by
  by_cases h : a = b
  · subst h
    simp
  · rw [decide_eq_false h]
    exact beq_eq_false_iff_ne.mpr h
/-- what a written dict of the module says of a key -/
theorem ns_dict {K : PySem.W.Frag} {a : Addr} {c : Value} {od : Option Addr} {es : Array DictEntry} {n : Nat} {sl : Array (Option Value)} (l : K.lookup a = some ⟨c, od, .dict es n, sl⟩) (r : es.toList.any (·.refKey) = false) (x : Str) :
    PySem.W.nsIn K a x = some ((es.toList.find? (·.key.isStr x)).map (·.val)) := by
  unfold PySem.W.nsIn
  rw [l]
  dsimp only
  cases h : es.toList.find? (·.key.isStr x) with
  | some e => rfl
  | none =>
    dsimp only
    rw [r]
    rfl
theorem word_ne {l : List Nat} {a b : Nat} (h : a ≠ b) : mkS (l ++ [a]) ≠ mkS [b] := fun z => by
  have q := congrArg List.getLast? (mkS_inj z)
  rw [List.getLast?_concat] at q
  exact h (Option.some.inj q)
theorem one_no {a b : Nat} (h : a ≠ b) : V.bl (decide (V.str ⟨#[a]⟩ = V.str (mkS [b]))) = V.bl false := by
  rw [decide_eq_false fun z => h ?_]
  have q := mkS_inj (l := [a]) (m := [b]) (V.str.inj z)
  exact (List.cons.inj q).1
theorem mk_tl (x : Str) : mkS (tl x) = x := ext_tl rfl
theorem split_shown {cs : List Cmd} (h : cs ≠ []) (hk : ¬ Builtin.Str.strKind (shownS cs) < Builtin.Str.strKind " ") : Txt.split (shownS cs) " " = cs.map fun c => mkS (cw c) := by
  have e := split_spl (shownS cs) " " (by decide +kernel) hk
  have t1 : tl (" " : Str) = [32] := by decide +kernel
  have t2 : tl (shownS cs) = joinL [32] (cs.map cw) := by
    unfold shownS shownL
    rw [if_neg h]
    rfl
  rw [t1, t2, join_words h] at e
  have q := congrArg (List.map mkS) e
  rw [List.map_map, List.map_map] at q
  rw [← List.map_id (Txt.split (shownS cs) " ")]
  have i : (mkS ∘ tl) = id := funext mk_tl
  rw [i] at q
  exact q
/-- an entry of a written dict -/
def entD (P : Params) (kv : Str × Tok × Str × Tok) : DictEntry := ⟨PyData.keyHash P kv.1, .str kv.1 kv.2.1, .str kv.2.2.1 kv.2.2.2⟩
theorem find_ent (P : Params) (x : Str) : ∀ l : List (Str × Tok × Str × Tok), ((l.map (entD P)).find? (·.key.isStr x)).map (·.val) = (l.find? fun kv => decide (kv.1 = x)).map fun kv => .str kv.2.2.1 kv.2.2.2
  | [] => rfl
  | kv :: l => by
    rw [List.map_cons, List.find?_cons, List.find?_cons]
    have e : (entD P kv).key.isStr x = decide (kv.1 = x) := str_beq kv.1 x
    rw [e]
    by_cases h : kv.1 = x
    · rw [decide_eq_true h]
      rfl
    · rw [decide_eq_false h]
      exact find_ent P x l
theorem ent_lit (P : Params) : ∀ l : List (Str × Tok × Str × Tok), PySem.W.KeysLit P (l.map (entD P))
  | [] => trivial
  | kv :: l => ⟨⟨kv.1, kv.2.1, rfl, rfl⟩, ent_lit P l⟩
theorem ent_ref (P : Params) : ∀ l : List (Str × Tok × Str × Tok), (l.map (entD P)).any (·.refKey) = false
  | [] => rfl
  | kv :: l => by
    rw [List.map_cons, List.any_cons, ent_ref P l]
    rfl
theorem ns_ent {K : PySem.W.Frag} {P : Params} {a : Addr} {c : Value} {od : Option Addr} {l : List (Str × Tok × Str × Tok)} {n : Nat} {sl : Array (Option Value)} (h : K.lookup a = some ⟨c, od, .dict (l.map (entD P)).toArray n, sl⟩) (x : Str) :
    PySem.W.nsIn K a x = some ((l.find? fun kv => decide (kv.1 = x)).map fun kv => .str kv.2.2.1 kv.2.2.2) := by
  rw [ns_dict h (ent_ref P l) x]
  exact congrArg some (find_ent P x l)
theorem kd_ent {K : PySem.W.Frag} {w : World} {a : Addr} {l : List (Str × Tok × Str × Tok)} {n : Nat} (h : K.lookup a = some ⟨.type "dict", none, .dict (l.map (entD w.params)).toArray n, #[]⟩) (lo : (a == sysModules) = false) : KDict K w a (l.map (entD w.params)).toArray n :=
  ⟨h, ent_lit w.params l, lo⟩
end Gc

/-! texts read back, where they can be -/
namespace Gc
open PySem L2 TL
abbrev s_read_commands : Stmt := top 15
abbrev s_read_command : Stmt := top 16
abbrev s_is_number : Stmt := top 17
structure TxtRd (K : PySem.W.Frag) (w : World) (mg : Str → Option Value) (na nb : Addr) (eA eB : Array DictEntry) (nA nB : Nat) (tm : Tok) : Prop where
  g_NAMES_ALONE : mg "NAMES_ALONE" = some (.ref na)
  g_NAMES_BEHIND_NUMBER : mg "NAMES_BEHIND_NUMBER" = some (.ref nb)
  g_MOST_DIGITS : mg "MOST_DIGITS" = some (.int 40 tm)
  dA : KDict K w na eA nA
  dB : KDict K w nb eB nB
  aH : ∃ t, PySem.W.nsIn K na "H" = some (some (.str "home" t))
  aE : ∃ t, PySem.W.nsIn K na "E" = some (some (.str "end" t))
  aNo : ∀ x : Str, x ≠ "H" → x ≠ "E" → PySem.W.nsIn K na x = some none
  bD : ∃ t, PySem.W.nsIn K nb "D" = some (some (.str "down" t))
  bU : ∃ t, PySem.W.nsIn K nb "U" = some (some (.str "up" t))
  bR : ∃ t, PySem.W.nsIn K nb "R" = some (some (.str "right" t))
  bL : ∃ t, PySem.W.nsIn K nb "L" = some (some (.str "left" t))
  int : mg "int" = none
  len : mg "len" = none
  all : mg "all" = none
def aloneL (t1 t2 u1 u2 : Tok) : List (Str × Tok × Str × Tok) := [("H", t1, "home", u1), ("E", t2, "end", u2)]
def behindL (t1 t2 t3 t4 u1 u2 u3 u4 : Tok) : List (Str × Tok × Str × Tok) := [("D", t1, "down", u1), ("U", t2, "up", u2), ("R", t3, "right", u3), ("L", t4, "left", u4)]
theorem rd_mk {K : PySem.W.Frag} {w : World} {mg : Str → Option Value} {na nb : Addr} {nA nB : Nat} {tm t1 t2 u1 u2 s1 s2 s3 s4 r1 r2 r3 r4 : Tok} (g1 : mg "NAMES_ALONE" = some (.ref na)) (g2 : mg "NAMES_BEHIND_NUMBER" = some (.ref nb)) (g3 : mg "MOST_DIGITS" = some (.int 40 tm))
    (lA : K.lookup na = some ⟨.type "dict", none, .dict #[⟨PyData.keyHash w.params "H", .str "H" t1, .str "home" u1⟩, ⟨PyData.keyHash w.params "E", .str "E" t2, .str "end" u2⟩] nA, #[]⟩)
    (lB : K.lookup nb = some ⟨.type "dict", none, .dict #[⟨PyData.keyHash w.params "D", .str "D" s1, .str "down" r1⟩, ⟨PyData.keyHash w.params "U", .str "U" s2, .str "up" r2⟩, ⟨PyData.keyHash w.params "R", .str "R" s3, .str "right" r3⟩, ⟨PyData.keyHash w.params "L", .str "L" s4, .str "left" r4⟩] nB, #[]⟩)
    (oA : (na == sysModules) = false) (oB : (nb == sysModules) = false) (z1 : mg "int" = none) (z2 : mg "len" = none) (z3 : mg "all" = none) :
    TxtRd K w mg na nb ((aloneL t1 t2 u1 u2).map (entD w.params)).toArray ((behindL s1 s2 s3 s4 r1 r2 r3 r4).map (entD w.params)).toArray nA nB tm := by
  have hA : K.lookup na = some ⟨.type "dict", none, .dict ((aloneL t1 t2 u1 u2).map (entD w.params)).toArray nA, #[]⟩ := lA
  have hB : K.lookup nb = some ⟨.type "dict", none, .dict ((behindL s1 s2 s3 s4 r1 r2 r3 r4).map (entD w.params)).toArray nB, #[]⟩ := lB
  refine ⟨g1, g2, g3, kd_ent hA oA, kd_ent hB oB, ⟨u1, ?_⟩, ⟨u2, ?_⟩, fun x n1 n2 => ?_, ⟨r1, ?_⟩, ⟨r2, ?_⟩, ⟨r3, ?_⟩, ⟨r4, ?_⟩, z1, z2, z3⟩
  · rw [ns_ent hA]
    unfold aloneL
    rw [List.find?_cons, show decide (("H" : Str) = "H") = true by decide +kernel]
    rfl
  · rw [ns_ent hA]
    unfold aloneL
    rw [List.find?_cons, show decide (("H" : Str) = "E") = false by decide +kernel]
    dsimp only
    rw [List.find?_cons, show decide (("E" : Str) = "E") = true by decide +kernel]
    rfl
  · rw [ns_ent hA]
    unfold aloneL
    rw [List.find?_cons, show decide (("H" : Str) = x) = false from decide_eq_false (Ne.symm n1)]
    dsimp only
    rw [List.find?_cons, show decide (("E" : Str) = x) = false from decide_eq_false (Ne.symm n2)]
    rfl
  · rw [ns_ent hB]
    unfold behindL
    rw [List.find?_cons, show decide (("D" : Str) = "D") = true by decide +kernel]
    rfl
  · rw [ns_ent hB]
    unfold behindL
    rw [List.find?_cons, show decide (("D" : Str) = "U") = false by decide +kernel]
    dsimp only
    rw [List.find?_cons, show decide (("U" : Str) = "U") = true by decide +kernel]
    rfl
  · rw [ns_ent hB]
    unfold behindL
    rw [List.find?_cons, show decide (("D" : Str) = "R") = false by decide +kernel]
    dsimp only
    rw [List.find?_cons, show decide (("U" : Str) = "R") = false by decide +kernel]
    dsimp only
    rw [List.find?_cons, show decide (("R" : Str) = "R") = true by decide +kernel]
    rfl
  · rw [ns_ent hB]
    unfold behindL
    rw [List.find?_cons, show decide (("D" : Str) = "L") = false by decide +kernel]
    dsimp only
    rw [List.find?_cons, show decide (("U" : Str) = "L") = false by decide +kernel]
    dsimp only
    rw [List.find?_cons, show decide (("R" : Str) = "L") = false by decide +kernel]
    dsimp only
    rw [List.find?_cons, show decide (("L" : Str) = "L") = true by decide +kernel]
    rfl
def spIsNum (K : PySem.W.Frag) : Sp := fun vs H Q _ => ∃ n : Nat, vs = [.str (mkS (numL n))] ∧ 1 ≤ n ∧ n < 10 ^ 40 ∧ ∀ H', Same H H' → Q (.bl true) H'
def spRead1 (K : PySem.W.Frag) : Sp := fun vs H Q _ => ∃ c : Cmd, vs = [.str (mkS (cw c))] ∧ c.ok ∧ numC c < 10 ^ 40 ∧ ∀ (H' : Hp) (p : Addr), Same H H' → H p = none → H' p = some (.tup (encC c)) → Q (.ref p) H'
def spRead (K : PySem.W.Frag) : Sp := fun vs H Q _ => ∃ cs : List Cmd, vs = [.str (shownS cs)] ∧ AllOk cs ∧ (∀ c ∈ cs, numC c < 10 ^ 40) ∧ cs.length ≤ 1000 ∧
  ∀ (H' : Hp) (p : Addr) (xs : List V), Same H H' → H p = none → H' p = some (.lst xs) → CmdsOf K H' xs cs → Q (.ref p) H'
section
variable {P : Program} {w : World} {K : PySem.W.Frag} {mg : Str → Option Value} {base : Heap} {na nb : Addr} {eA eB : Array DictEntry} {nA nB : Nat} {tm : Tok}
theorem sc_is_number : FnScope ["digits", "digit"] ["digits"] (defScope s_is_number) := ⟨rfl, rfl, rfl, by decide +kernel, rfl, by decide +kernel, by decide +kernel⟩
theorem ok_is_number {f : Addr} {fd : FuncData} (F : Fun K "is_number" "is_number" s_is_number f fd) (T : TxtRd K w mg na nb eA eB nA nB tm) : FnOk P w K mg base CX0 1 f fd ["digits"] (spIsNum K) := by
  refine F.ok sc_is_number (fun vs H Q E h => ?_) (fun cdv A outer s H vs Q E hr h => ?_)
  · obtain ⟨n, rfl, _⟩ := h
    rfl
  · obtain ⟨n, rfl, n1, n2, k⟩ := h
    refine ⟨_, (pss_cons (ps_if (PW.pt (pw_or (pt_not (pt_chain op_le op_le pe_int (pe_callB call_len_str (by rfl) T.len (by decide +kernel) (pa_cons (pv 0) pa_nil)) (pe_glob (v := .int 40) (by rfl) T.g_MOST_DIGITS ⟨_, rfl⟩))) (pw_or1 (pt_cmpR op_eq (pe_ix ix_str (pv 0) pe_int (fun _ _ => rfl)) pe_str (nomark _))))) (pss_one (ps_ret pe_bl)) pss_nil)
      (pss_one (ps_ret (pe_callB (cr_all rfl) (by rfl) T.all (by decide +kernel) (pa_cons (pe_lc (own := [("digit", 1)]) rfl sc_is_number.nd (pi_str (pv 0)) (blkOk_by (N := ["digits", "digit"]) (sc := defScope s_is_number) (by decide +kernel)) (fun _ _ _ _ _ => (pg_name (i := 1) sc_is_number.nd rfl (Or.inl rfl))) (fun _ _ _ _ _ => pts_nil) (fun _ _ _ _ _ => (pe_cmpR op_in_sign (pv 1) pe_str (by rfl)))) pa_nil))))), ?_⟩
    obtain ⟨a, l, e, a1, a2⟩ := numL_head n1
    have dg := numL_digits n
    have ln := numL_len (n := n) (k := 40) (by decide) n2
    have ll : (mkS (numL n)).length ≤ sizeLine := by
      rw [mkS_len, sizeLine_eq]
      omega
    have l1 : 1 ≤ (numL n).length := by rw [e]; simp
    refine ⟨_, rfl, _, rfl, ll, _, _, rfl, rfl, _, rfl, ?_⟩
    rw [if_pos (decide_eq_true (show (1 : Int) ≤ ((mkS (numL n)).length : Int) by rw [mkS_len]; omega))]
    refine ⟨_, _, rfl, rfl, _, rfl, ?_⟩
    rw [decide_eq_true (show ((mkS (numL n)).length : Int) ≤ 40 by rw [mkS_len]; omega)]
    refine iteF ?_
    have at0 : atI (mkS (numL n)).cps.toList 0 = some a := by
      show atI (numL n) ((0 : Nat) : Int) = some a
      rw [e]
      exact atI_nat rfl
    refine ⟨_, rfl, _, _, a, rfl, rfl, ll, at0, rfl, false, ?_, iteF ?_⟩
    · rw [show ("0" : Str) = mkS [48] by decide +kernel]
      exact one_no (by omega)
    refine ⟨_, rfl, _, rfl, fun D hD => ?_⟩
    refine lc_it walk_str (fun i H' => Same H H' ∧ H' D = some (.lst ((List.replicate i true).map V.bl))) ⟨same_upd (Same.refl H) hD, upd_same⟩ (fun _ _ _ _ => trivial) (fun i x H2 H' hi p y => ?_) (fun H' h => ?_)
    · obtain ⟨rfl, c, hc, rfl⟩ := y
      obtain ⟨s1, eD⟩ := p
      have li : i < (numL n).length := hi
      have cd := dg c (List.mem_of_getElem? (show (numL n)[i]? = some c by rw [← hc]; exact (List.getElem?_toArray ..).symm))
      have cm : decide (c ∈ (("0123456789" : Str)).cps.toList) = true := by
        rw [show (("0123456789" : Str)).cps.toList = [48, 49, 50, 51, 52, 53, 54, 55, 56, 57] by decide +kernel]
        refine decide_eq_true ?_
        simp
        omega
      refine ⟨rfl, _, rfl, c, _, rfl, rfl, _, eD, ?_, same_freeU s1 hD, ?_⟩
      · refine lt_line ?_
        rw [List.length_map, List.length_replicate]
        omega
      · rw [upd_same, cm, List.replicate_succ', List.map_append]
        rfl
    · obtain ⟨s1, eD⟩ := h
      refine ⟨D, List.replicate _ true, rfl, SqL.of eD, ?_⟩
      rw [show ∀ m, (List.replicate m true).all id = true from fun m => by simp]
      exact k _ s1
theorem sc_read_command : FnScope ["word", "digits", "letter"] ["word"] (defScope s_read_command) := ⟨rfl, rfl, rfl, by decide +kernel, rfl, by decide +kernel, by decide +kernel⟩
theorem ok_read_command {f : Addr} {fd : FuncData} (F : Fun K "read_command" "read_command" s_read_command f fd) (T : TxtRd K w mg na nb eA eB nA nB tm) (c_is_number : Cal P w K mg base 1 "is_number" (spIsNum K)) : FnOk P w K mg base CX0 2 f fd ["word"] (spRead1 K) := by
  refine F.ok sc_read_command (fun vs H Q E h => ?_) (fun cdv A outer s H vs Q E hr h => ?_)
  · obtain ⟨n, rfl, _⟩ := h
    rfl
  · obtain ⟨c, rfl, ok, hn, k⟩ := h
    refine ⟨_, (pss_cons (ps_if (pt_cmpR (op_in_kd T.dA) (pv 0) (pe_glob (v := .ref na) (by rfl) T.g_NAMES_ALONE rfl) (by rfl)) (pss_one (ps_ret (pe_tup (pa_cons (pe_ix ix_kdict (pe_glob (v := .ref na) (by rfl) T.g_NAMES_ALONE rfl) (pv 0) (fun _ _ => rfl)) pa_nil)))) pss_nil)
      (pss_cons (ps_par (i := 1) (j := 2) rfl sc_read_command.nd rfl rfl (by decide) rfl rfl (pa_cons (pe_slice sl_str (pv 0) po_none (po_some (pe_un un_neg pe_int))) (pa_cons (pe_slice sl_str (pv 0) (po_some (pe_un un_neg pe_int)) po_none) pa_nil)) (by rfl))
      (pss_cons (ps_if (PW.pt (pw_and (pt_cmpR (op_in_kd T.dB) (pv 2) (pe_glob (v := .ref nb) (by rfl) T.g_NAMES_BEHIND_NUMBER rfl) (by rfl)) (pw_and1 (pt_val (pe_cal c_is_number hr (by decide) (by rfl) (pa_cons (pv 1) pa_nil)))))) (pss_one (ps_ret (pe_tup (pa_cons (pe_ix ix_kdict (pe_glob (v := .ref nb) (by rfl) T.g_NAMES_BEHIND_NUMBER rfl) (pv 2) (fun _ _ => rfl)) (pa_cons (pe_callTy call_int_str (by rfl) T.int (by decide +kernel) (pa_cons (pv 1) pa_nil)) pa_nil))))) pss_nil)
      (pss_one (ps_ret pe_non))))), ?_⟩
    have wl : (mkS (cw c)).length ≤ sizeLine := by
      have := cw_len hn
      rw [mkS_len, sizeLine_eq]
      omega
    have e72 : mkS [72] = ("H" : Str) := by decide +kernel
    have e69 : mkS [69] = ("E" : Str) := by decide +kernel
    cases c with
    | home =>
      obtain ⟨t, ht⟩ := T.aH
      have ew : mkS (cw .home) = ("H" : Str) := e72
      rw [ew]
      refine ⟨_, rfl, _, _, rfl, rfl, ht, _, rfl, iteT ?_⟩
      refine ⟨_, rfl, na, "H", .str "home", rfl, rfl, ⟨eA, nA, _, T.dA.at_, T.dA.lit, ht, ⟨t, rfl⟩⟩, (by show 1 ≤ sizeLine; decide), fun p np => k _ p (new_same np) np upd_same⟩
    | stop =>
      obtain ⟨t, ht⟩ := T.aE
      have ew : mkS (cw .stop) = ("E" : Str) := e69
      rw [ew]
      refine ⟨_, rfl, _, _, rfl, rfl, ht, _, rfl, iteT ?_⟩
      refine ⟨_, rfl, na, "E", .str "end", rfl, rfl, ⟨eA, nA, _, T.dA.at_, T.dA.lit, ht, ⟨t, rfl⟩⟩, (by show 1 ≤ sizeLine; decide), fun p np => k _ p (new_same np) np upd_same⟩
    | down n =>
      have n1 : 1 ≤ n := ok
      have n2 : n < 10 ^ 40 := hn
      obtain ⟨t, ht⟩ := T.bD
      have no := T.aNo (mkS (numL n.toNat ++ [68])) (by rw [← e72]; exact word_ne (by decide)) (by rw [← e69]; exact word_ne (by decide))
      refine ⟨_, rfl, _, _, rfl, rfl, no, _, rfl, iteF ?_⟩
      have el : mkS [68] = ("D" : Str) := by decide +kernel
      refine ⟨_, rfl, _, rfl, _, rfl, _, rfl, wl, ?_⟩
      rw [show mkS (cw (.down n)) = mkS (numL n.toNat ++ [68]) from rfl, cut_front]
      refine ⟨_, rfl, _, rfl, _, rfl, _, rfl, wl, ?_⟩
      rw [cut_back, el]
      refine ⟨_, _, rfl, ?_⟩
      refine ⟨_, rfl, _, _, rfl, rfl, ht, _, rfl, iteT ?_⟩
      refine ⟨_, rfl, n.toNat, rfl, by omega, by omega, fun H1 e1 => ⟨_, rfl, iteT ?_⟩⟩
      have l40 := numL_len (n := n.toNat) (k := 40) (by decide) (by omega)
      refine ⟨_, rfl, nb, "D", .str "down", rfl, rfl, ⟨eB, nB, _, T.dB.at_, T.dB.lit, ht, ⟨t, rfl⟩⟩, _, rfl, _, _, rfl, int_mk _ (by omega), (by rw [mkS_len]; omega), (by show 2 ≤ sizeLine; decide), fun p np => ?_⟩
      rw [show ((n.toNat : Nat) : Int) = n from Int.toNat_of_nonneg (by omega)]
      exact k _ p (e1.trans (new_same np)) (e1.free np) upd_same
    | up n =>
      have n1 : 1 ≤ n := ok
      have n2 : n < 10 ^ 40 := hn
      obtain ⟨t, ht⟩ := T.bU
      have no := T.aNo (mkS (numL n.toNat ++ [85])) (by rw [← e72]; exact word_ne (by decide)) (by rw [← e69]; exact word_ne (by decide))
      refine ⟨_, rfl, _, _, rfl, rfl, no, _, rfl, iteF ?_⟩
      have el : mkS [85] = ("U" : Str) := by decide +kernel
      refine ⟨_, rfl, _, rfl, _, rfl, _, rfl, wl, ?_⟩
      rw [show mkS (cw (.up n)) = mkS (numL n.toNat ++ [85]) from rfl, cut_front]
      refine ⟨_, rfl, _, rfl, _, rfl, _, rfl, wl, ?_⟩
      rw [cut_back, el]
      refine ⟨_, _, rfl, ?_⟩
      refine ⟨_, rfl, _, _, rfl, rfl, ht, _, rfl, iteT ?_⟩
      refine ⟨_, rfl, n.toNat, rfl, by omega, by omega, fun H1 e1 => ⟨_, rfl, iteT ?_⟩⟩
      have l40 := numL_len (n := n.toNat) (k := 40) (by decide) (by omega)
      refine ⟨_, rfl, nb, "U", .str "up", rfl, rfl, ⟨eB, nB, _, T.dB.at_, T.dB.lit, ht, ⟨t, rfl⟩⟩, _, rfl, _, _, rfl, int_mk _ (by omega), (by rw [mkS_len]; omega), (by show 2 ≤ sizeLine; decide), fun p np => ?_⟩
      rw [show ((n.toNat : Nat) : Int) = n from Int.toNat_of_nonneg (by omega)]
      exact k _ p (e1.trans (new_same np)) (e1.free np) upd_same
    | right n =>
      have n1 : 1 ≤ n := ok
      have n2 : n < 10 ^ 40 := hn
      obtain ⟨t, ht⟩ := T.bR
      have no := T.aNo (mkS (numL n.toNat ++ [82])) (by rw [← e72]; exact word_ne (by decide)) (by rw [← e69]; exact word_ne (by decide))
      refine ⟨_, rfl, _, _, rfl, rfl, no, _, rfl, iteF ?_⟩
      have el : mkS [82] = ("R" : Str) := by decide +kernel
      refine ⟨_, rfl, _, rfl, _, rfl, _, rfl, wl, ?_⟩
      rw [show mkS (cw (.right n)) = mkS (numL n.toNat ++ [82]) from rfl, cut_front]
      refine ⟨_, rfl, _, rfl, _, rfl, _, rfl, wl, ?_⟩
      rw [cut_back, el]
      refine ⟨_, _, rfl, ?_⟩
      refine ⟨_, rfl, _, _, rfl, rfl, ht, _, rfl, iteT ?_⟩
      refine ⟨_, rfl, n.toNat, rfl, by omega, by omega, fun H1 e1 => ⟨_, rfl, iteT ?_⟩⟩
      have l40 := numL_len (n := n.toNat) (k := 40) (by decide) (by omega)
      refine ⟨_, rfl, nb, "R", .str "right", rfl, rfl, ⟨eB, nB, _, T.dB.at_, T.dB.lit, ht, ⟨t, rfl⟩⟩, _, rfl, _, _, rfl, int_mk _ (by omega), (by rw [mkS_len]; omega), (by show 2 ≤ sizeLine; decide), fun p np => ?_⟩
      rw [show ((n.toNat : Nat) : Int) = n from Int.toNat_of_nonneg (by omega)]
      exact k _ p (e1.trans (new_same np)) (e1.free np) upd_same
    | left n =>
      have n1 : 1 ≤ n := ok
      have n2 : n < 10 ^ 40 := hn
      obtain ⟨t, ht⟩ := T.bL
      have no := T.aNo (mkS (numL n.toNat ++ [76])) (by rw [← e72]; exact word_ne (by decide)) (by rw [← e69]; exact word_ne (by decide))
      refine ⟨_, rfl, _, _, rfl, rfl, no, _, rfl, iteF ?_⟩
      have el : mkS [76] = ("L" : Str) := by decide +kernel
      refine ⟨_, rfl, _, rfl, _, rfl, _, rfl, wl, ?_⟩
      rw [show mkS (cw (.left n)) = mkS (numL n.toNat ++ [76]) from rfl, cut_front]
      refine ⟨_, rfl, _, rfl, _, rfl, _, rfl, wl, ?_⟩
      rw [cut_back, el]
      refine ⟨_, _, rfl, ?_⟩
      refine ⟨_, rfl, _, _, rfl, rfl, ht, _, rfl, iteT ?_⟩
      refine ⟨_, rfl, n.toNat, rfl, by omega, by omega, fun H1 e1 => ⟨_, rfl, iteT ?_⟩⟩
      have l40 := numL_len (n := n.toNat) (k := 40) (by decide) (by omega)
      refine ⟨_, rfl, nb, "L", .str "left", rfl, rfl, ⟨eB, nB, _, T.dB.at_, T.dB.lit, ht, ⟨t, rfl⟩⟩, _, rfl, _, _, rfl, int_mk _ (by omega), (by rw [mkS_len]; omega), (by show 2 ≤ sizeLine; decide), fun p np => ?_⟩
      rw [show ((n.toNat : Nat) : Int) = n from Int.toNat_of_nonneg (by omega)]
      exact k _ p (e1.trans (new_same np)) (e1.free np) upd_same
theorem sc_read_commands : FnScope ["text", "commands", "word", "command"] ["text"] (defScope s_read_commands) := ⟨rfl, rfl, rfl, by decide +kernel, rfl, by decide +kernel, by decide +kernel⟩
theorem ok_read_commands {f : Addr} {fd : FuncData} (F : Fun K "read_commands" "read_commands" s_read_commands f fd) (c_read_command : Cal P w K mg base 2 "read_command" (spRead1 K)) : FnOk P w K mg base CX0 3 f fd ["text"] (spRead K) := by
  refine F.ok sc_read_commands (fun vs H Q E h => ?_) (fun cdv A outer s H vs Q E hr h => ?_)
  · obtain ⟨n, rfl, _⟩ := h
    rfl
  · obtain ⟨cs, rfl, ok, hn, ln, k⟩ := h
    refine ⟨_, (pss_cons (ps_if (pt_cmpR op_eq (pv 0) pe_str (nomark _)) (pss_one (ps_ret (pe_lst pa_nil))) pss_nil)
      (pss_cons (ps_set (i := 1) sc_read_commands.nd rfl (Or.inl rfl) (pe_lst pa_nil))
      (pss_cons (ps_for PassesOwn.never rfl (pi_list (pe_bm PySem.F.plainAttrs_str PySem.F.slot_str_split PySem.F.type_str_split mt_split (pv 0) (pa_cons pe_str pa_nil))) (pg_name (i := 2) sc_read_commands.nd rfl (Or.inl rfl)) (pss_cons (ps_set (i := 3) sc_read_commands.nd rfl (Or.inl rfl) (pe_cal c_read_command hr (by decide) (by rfl) (pa_cons (pv 2) pa_nil)))
      (pss_cons (ps_if (pt_cmpR op_isN (pv 3) pe_non (nomark _)) (pss_one ps_never) pss_nil)
      (pss_one (ps_expr (pe_bm PySem.F.plainAttrs_list PySem.F.slot_list_append PySem.F.type_list_append mt_append (pv 1) (pa_cons (pv 3) pa_nil)))))))
      (pss_one (ps_ret (pv 1)))))), ?_⟩
    have wl : (shownS cs).length + 2 ≤ sizeLine := by
      have := shownL_len hn
      unfold shownS
      rw [mkS_len, sizeLine_eq]
      omega
    have hk : ¬ Builtin.Str.strKind (shownS cs) < Builtin.Str.strKind " " := by
      rw [show Builtin.Str.strKind " " = 1 by decide +kernel]
      unfold Builtin.Str.strKind
      split
      · omega
      · split <;> omega
    by_cases ce : cs = []
    · subst ce
      refine ⟨_, rfl, rfl, true, ?_, iteT ?_⟩
      · rw [show shownS [] = ("none" : Str) by decide +kernel]
        simp
      · exact ⟨Nat.zero_le _, fun l nl => k _ l [] (new_same nl) nl upd_same .nil⟩
    · have no : shownS cs ≠ ("none" : Str) := by
        rw [show ("none" : Str) = mkS noneL by decide +kernel]
        intro z
        have q := mkS_inj z
        unfold shownL at q
        rw [if_neg ce] at q
        exact none_no ce q
      refine ⟨_, rfl, rfl, false, by simp [no], iteF ?_⟩
      refine ⟨Nat.zero_le _, fun l nl => ?_⟩
      have e1 : Same H (upd H l (.lst [])) := new_same nl
      refine ⟨_, rfl, rfl, _, _, rfl, rfl, by decide +kernel, wl, fun p np => ?_⟩
      rw [split_shown ce hk]
      have pl : p ≠ l := fun z => by rw [z, upd_same] at np; cases np
      have e2 : Same H (upd (upd H l (.lst [])) p (.lst ((cs.map fun c => mkS (cw c)).map V.str))) := e1.trans (new_same np)
      refine ⟨p, rfl, ⟨_, SqL.of upd_same⟩, for_list (K := K) (a := p) (xs := (cs.map fun c => mkS (cw c)).map V.str) (fun i σ H' => ∃ (v2 v3 : Option V) (ys : List V), σ = [some (.str (shownS cs)), some (.ref l), v2, v3] ∧ Same H H' ∧ H' p = some (.lst ((cs.map fun c => mkS (cw c)).map V.str)) ∧ H' l = some (.lst ys) ∧ CmdsOf K H' ys (cs.take i))
        ⟨none, none, [], rfl, e2, upd_same, new_same np _ _ upd_same, .nil⟩ (fun i σ H' hi h => ?_) (fun i x σ H' hx h => ?_) (fun σ H' h => ?_)⟩
      · obtain ⟨_, _, _, _, _, q, _⟩ := h
        exact SqL.of q
      · obtain ⟨v2, v3, ys, rfl, s1, hp, hl, hys⟩ := h
        rw [List.getElem?_map, List.getElem?_map] at hx
        cases hc : cs[i]? with
        | none =>
          rw [hc] at hx
          cases hx
        | some c =>
          rw [hc] at hx
          obtain rfl := Option.some.inj hx
          have cm := List.mem_of_getElem? hc
          have li := (List.getElem?_eq_some_iff.mp hc).1
          have yl := hys.len
          rw [List.length_take] at yl
          refine ⟨_, rfl, c, rfl, ok c cm, hn c cm, fun H2 t e3 nt ht => ?_⟩
          refine ⟨_, rfl, rfl, false, by simp, iteF ?_⟩
          refine ⟨_, rfl, .inl ⟨rfl, _, SqL.of (e3 _ _ hl)⟩, _, rfl, l, ys, .ref t, rfl, rfl, e3 _ _ hl, lt_line (by omega), ?_⟩
          refine ⟨_, _, _, rfl, same_freeU (s1.trans e3) nl, ?_, upd_same, ?_⟩
          · rw [upd_ne pl]
            exact e3 _ _ hp
          · rw [takeS hc]
            exact paired_app (CmdsOf.atL (e3 _ _ hl) (hys.same e3)) (CmdsOf.atL (e3 _ _ hl) (xs := [.ref t]) (cs := [c]) (.cons ⟨t, rfl, SqT.of ht⟩ .nil))
      · obtain ⟨v2, v3, ys, rfl, s1, hp, hl, hys⟩ := h
        rw [List.length_map, List.length_map, List.take_length] at hys
        exact ⟨_, rfl, k H' l ys s1 nl hl hys⟩
end
end Gc

/-! raising the program's own errors: classes whose __init__ keeps one value; calls of defs that may raise -/
namespace L2
open PySem PySem.Spec PyProof.Rows
/-- def __init__(self, value): self.value = value, on a new exception of the class at C -/
def spKeep (C : Addr) : Sp := fun vs H Q _ => ∃ (a : Addr) (v : V), vs = [.ref a, v] ∧ H a = some (exo a C none) ∧
  ∀ dx, H dx = none → dx ≠ a → Q .non (upd (upd H dx (exd dx [("value", v)])) a (exo a C (some dx)))
/-- the error class x of the program, at C -/
structure ErrC (P : Program) (w : World) (K : PySem.W.Frag) (mg : Str → Option Value) (base : Heap) (x : Str) (C : Addr) : Prop where
  T : OexC K C
  g : mg x = some (.ref C)
  no : PySem.W.findIn K (.ref C) "value" = some none
  ex : ∃ (fI : Addr) (fd : FuncData), PySem.W.findIn K (.ref C) "__init__" = some (some (.ref fI)) ∧ PySem.W.typeIn K (.ref fI) = some (.type "function") ∧
    FnOk P w K mg base CX0 1 fI fd ["self", "value"] (spKeep C) ∧ Binds K fd ["self", "value"] []
/-- x(e) in a raise: the new error's class, its dict, the heap with that dict -/
def rRaise (C : Addr) (Q : XK) (v : V) (H1 : Hp) : Prop := [v].length ≤ 1000 ∧ ∀ a, H1 a = none → spKeep C (.ref a :: ([v] ++ [])) (upd H1 a (exo a C none))
  (fun u H2 => u = .non ∧ ∃ (d : Addr) (fs : List (Str × V)), H2 a = some (exo a C (some d)) ∧ H2 d = some (exd d fs) ∧ H1 d = none ∧ Q (.ref C) (some d) (upd (del H2 a) d (.xd fs))) (fun _ _ _ => False)
theorem ask_raise {C : Addr} {Q : XK} {v : V} {H : Hp} (h : ∀ d, H d = none → Q (.ref C) (some d) (upd H d (.xd [("value", v)]))) : rRaise C Q v H := by
  refine ⟨(by show 1 ≤ 1000; decide), fun a ha => ⟨a, v, rfl, upd_same, fun dx hd ne => ⟨rfl, dx, [("value", v)], upd_same, ?_, ?_, ?_⟩⟩⟩
  · rw [upd_ne ne, upd_same]
  · rw [upd_ne ne] at hd
    exact hd
  · have hd' : H dx = none := by
      rw [upd_ne ne] at hd
      exact hd
    have e : upd (del (upd (upd (upd H a (exo a C none)) dx (exd dx [("value", v)])) a (exo a C (some dx))) a) dx (.xd [("value", v)]) = upd H dx (.xd [("value", v)]) := by
      funext b
      by_cases hb : b = dx
      · rw [hb, upd_same, upd_same]
      · rw [upd_ne hb, upd_ne hb]
        by_cases ha' : b = a
        · rw [ha', del_same, ha]
        · rw [del_ne ha', upd_ne ha', upd_ne hb, upd_ne ha']
    rw [e]
    exact h dx hd'
section
variable {X : Cx} {k j : Nat} {x : Str} {sp : Sp} {p pos pos2 : Pos} {e : Expr} {es : List Expr} {t : TA} {te : TE} {W : WX} {C : Addr}
def tRaiseE (C : Addr) (W : WX) (te : TE) : TS := fun _ σ H => te σ H fun v H1 => rRaise C (fun cls d H' => W cls d σ H') v H1
theorem ps_raiseE (hc : X.calm = true) (c : ErrC X.prog X.w X.K X.mg X.base x C) (hr : Room j X.A) (hj : 2 ≤ j) (tk : Takes X W) (he : PE X e te) (hg : Gl X x)
    (hdb : (x == ("__debug__" : Str)) = false := by decide)
    (hs : starEach (e :: []) X.env = (false, eval e X.env) :: starEach [] X.env := by rfl) (hpl : (backTo pos (starEach [] X.env)).any (·.1) = false := by rfl) :
    PS X (.Raise (some (.Call (.Name x p) [e] [] pos)) none pos2) (tRaiseE C W te) := by
  obtain ⟨T, g, no, fI, fd, iC, tI, F, b⟩ := c
  exact ps_raise hc tk (pmk_oex (dvs := []) T iC tI F (hr.mono hj) b .nil pass0 hg g (pa_cons he pa_nil hs) hdb hs hpl)
/-- a def that is called by its name and may let an error out -/
structure CalX (P : Program) (w : World) (K : PySem.W.Frag) (mg : Str → Option Value) (base : Heap) (k : Nat) (x : Str) (sp : Sp) : Prop where
  ex : ∃ (f : Addr) (fd : FuncData) (ps : List Str), FnOk P w K mg base (L2.CX P w) k f fd ps sp ∧
    mg x = some (.ref f) ∧ PySem.W.keepIn K (.ref f) = true ∧ Binds K fd ps []
theorem pe_calX (tk : Takes X W) (c : CalX X.prog X.w X.K X.mg X.base k x sp) (hr : Room j X.A) (hk : k ≤ j) (hg : Gl X x) (ha : PA X (e :: es) t)
    (hdb : (x == ("__debug__" : Str)) = false := by decide)
    (he : starEach (e :: es) X.env = (false, eval e X.env) :: starEach es X.env := by rfl)
    (hpl : (backTo pos (starEach es X.env)).any (·.1) = false := by rfl) :
    PE X (.Call (.Name x p) (e :: es) [] pos) (tCallS sp (WE W) t) := by
  obtain ⟨f, fd, ps, F, hm, kp, b⟩ := c.ex
  exact pe_callS F (hr.mono hk) hg hm kp b (fun σ => passAt tk σ) ha hdb he hpl
end
end L2

/-! an error that is let out -/
namespace Gc
open PySem L2
/-- an error of the class at C that carries v is let out: its dict is new, all else is as it was -/
def Err (E : XK) (C : Addr) (v : V) (H : Hp) : Prop := ∀ (H' : Hp) (d : Addr), Same H H' → H' d = none → E (.ref C) (some d) (upd H' d (.xd [("value", v)]))
theorem Err.same {E : XK} {C : Addr} {v : V} {H H' : Hp} (e : Same H H') (h : Err E C v H) : Err E C v H' := fun H2 d s n => h H2 d (e.trans s) n
theorem Err.ask {E : XK} {C : Addr} {v : V} {H H' : Hp} (e : Same H H') (h : Err E C v H) : rRaise C E v H' := ask_raise fun d hd => h H' d e hd
end Gc

/-! digits without a leading zero are the text of a number -/
namespace Gc
open PySem PyProof.Rows L2 TL
theorem num_of : ∀ (n : Nat) (ds : List Nat), ds.length = n + 1 → (∀ d ∈ ds, 48 ≤ d ∧ d ≤ 57) → (∀ a l, ds = a :: l → a ≠ 48) → ∃ m, 1 ≤ m ∧ numL m = ds
  | 0, ds, hl, hd, hz => by
    match ds, hl with
    | [a], _ =>
      have h1 := hd a List.mem_cons_self
      have h2 := hz a [] rfl
      refine ⟨a - 48, by omega, ?_⟩
      rw [numL_lt (by omega)]
      congr 1
      omega
  | n + 1, ds, hl, hd, hz => by
    have ne : ds ≠ [] := fun z => by rw [z] at hl; cases hl
    obtain ⟨dl, la, rfl⟩ : ∃ dl la, ds = dl ++ [la] := ⟨ds.dropLast, ds.getLast ne, (List.dropLast_concat_getLast ne).symm⟩
    have hlen : dl.length = n + 1 := by
      rw [List.length_append] at hl
      have : ([la] : List Nat).length = 1 := rfl
      omega
    obtain ⟨m, hm, em⟩ := num_of n dl hlen (fun d h => hd d (List.mem_append_left _ h)) (fun a l h => hz a (l ++ [la]) (by rw [h]; rfl))
    have hlast := hd la (List.mem_append_right _ (List.mem_singleton.mpr rfl))
    refine ⟨10 * m + (la - 48), by omega, ?_⟩
    rw [numL_step (by omega), show (10 * m + (la - 48)) / 10 = m by omega, show (10 * m + (la - 48)) % 10 = la - 48 by omega, em]
    congr 2
    omega
theorem pre_sp (c : Nat) (r : List Nat) : pre [32] (c :: r) = decide (c = 32) := by
  by_cases h : c = 32
  · subst h
    cases r <;> simp [pre]
  · have h' : ¬ 32 = c := fun z => h z.symm
    cases r <;> simp [pre, h, h']
theorem spl_ne (S : List Nat) : ∀ (l : List Nat) (k : Nat) (acc : List Nat), spl S k acc l ≠ []
  | [], k, acc => by rw [spl_nil]; simp
  | c :: r, 0, acc => by
    unfold spl
    split
    · simp
    · exact spl_ne S r 0 _
  | c :: r, k + 1, acc => by
    unfold spl
    exact spl_ne S r k _
/-- the words, joined again -/
theorem join_spl : ∀ (l acc : List Nat), joinL [32] (spl [32] 0 acc l) = acc ++ l
  | [], acc => by
    rw [spl_nil, List.append_nil]
    rfl
  | c :: r, acc => by
    by_cases h : c = 32
    · subst h
      rw [spl_hit (by rw [pre_sp]; rfl)]
      have ih := join_spl r []
      have ne := spl_ne [32] r 0 []
      show joinL [32] (acc :: spl [32] 0 [] r) = _
      generalize spl [32] 0 [] r = ws at ih ne ⊢
      cases ws with
      | nil => exact absurd rfl ne
      | cons w ws =>
        show acc ++ ([32] ++ joinL [32] (w :: ws)) = _
        rw [ih]
        rfl
    · rw [spl_miss (by rw [pre_sp]; exact decide_eq_false h), join_spl r (acc ++ [c]), List.append_assoc]
      rfl
end Gc

/-! is_number of any text -/
namespace Gc
open PySem L2 TL
theorem rd_no {K : PySem.W.Frag} {w : World} {nb : Addr} {nB : Nat} {s1 s2 s3 s4 r1 r2 r3 r4 : Tok}
    (lB : K.lookup nb = some ⟨.type "dict", none, .dict #[⟨PyData.keyHash w.params "D", .str "D" s1, .str "down" r1⟩, ⟨PyData.keyHash w.params "U", .str "U" s2, .str "up" r2⟩, ⟨PyData.keyHash w.params "R", .str "R" s3, .str "right" r3⟩, ⟨PyData.keyHash w.params "L", .str "L" s4, .str "left" r4⟩] nB, #[]⟩) :
    ∀ x : Str, x ≠ "D" → x ≠ "U" → x ≠ "R" → x ≠ "L" → PySem.W.nsIn K nb x = some none := fun x n1 n2 n3 n4 => by
  have hB : K.lookup nb = some ⟨.type "dict", none, .dict ((behindL s1 s2 s3 s4 r1 r2 r3 r4).map (entD w.params)).toArray nB, #[]⟩ := lB
  rw [ns_ent hB]
  unfold behindL
  rw [List.find?_cons, show decide (("D" : Str) = x) = false from decide_eq_false (Ne.symm n1)]
  dsimp only
  rw [List.find?_cons, show decide (("U" : Str) = x) = false from decide_eq_false (Ne.symm n2)]
  dsimp only
  rw [List.find?_cons, show decide (("R" : Str) = x) = false from decide_eq_false (Ne.symm n3)]
  dsimp only
  rw [List.find?_cons, show decide (("L" : Str) = x) = false from decide_eq_false (Ne.symm n4)]
  rfl
def digB (c : Nat) : Bool := decide (c ∈ [48, 49, 50, 51, 52, 53, 54, 55, 56, 57])
/-- an integer of at least 1, with at most 40 digits, as it is written -/
def numB (ds : List Nat) : Bool := match ds with
  | [] => false
  | a :: l => decide ((a :: l).length ≤ 40) && (!decide (a = 48) && (a :: l).all digB)
theorem numB_of {ds : List Nat} (h : numB ds = true) : ∃ m, 1 ≤ m ∧ numL m = ds ∧ ds.length ≤ 40 := by
  cases ds with
  | nil => cases h
  | cons a l =>
    have h' : (decide ((a :: l).length ≤ 40) && (!decide (a = 48) && (a :: l).all digB)) = true := h
    simp only [Bool.and_eq_true, decide_eq_true_eq, Bool.not_eq_true', decide_eq_false_iff_not] at h'
    obtain ⟨h1, h2, h3⟩ := h'
    have hd : ∀ d ∈ a :: l, 48 ≤ d ∧ d ≤ 57 := fun d hd => by
      have z := List.all_eq_true.mp h3 d hd
      have z' := of_decide_eq_true z
      simp only [List.mem_cons, List.not_mem_nil, or_false] at z'
      omega
    obtain ⟨m, m1, m2⟩ := num_of l.length (a :: l) rfl hd (fun b r e => by cases e; exact h2)
    exact ⟨m, m1, m2, h1⟩
def spIsNumX : Sp := fun vs H Q _ => ∃ ds : List Nat, vs = [.str (mkS ds)] ∧ ds.length ≤ 100000 ∧ ∀ H', Same H H' → Q (.bl (numB ds)) H'
section
variable {P : Program} {w : World} {K : PySem.W.Frag} {mg : Str → Option Value} {base : Heap} {na nb : Addr} {eA eB : Array DictEntry} {nA nB : Nat} {tm : Tok}
theorem ok_is_numberX {f : Addr} {fd : FuncData} (F : Fun K "is_number" "is_number" s_is_number f fd) (T : TxtRd K w mg na nb eA eB nA nB tm) : FnOk P w K mg base CX0 1 f fd ["digits"] spIsNumX := by
  refine F.ok sc_is_number (fun vs H Q E h => ?_) (fun cdv A outer s H vs Q E hr h => ?_)
  · obtain ⟨n, rfl, _⟩ := h
    rfl
  · obtain ⟨ds, rfl, ln, k⟩ := h
    refine ⟨_, (pss_cons (ps_if (PW.pt (pw_or (pt_not (pt_chain op_le op_le pe_int (pe_callB call_len_str (by rfl) T.len (by decide +kernel) (pa_cons (pv 0) pa_nil)) (pe_glob (v := .int 40) (by rfl) T.g_MOST_DIGITS ⟨_, rfl⟩))) (pw_or1 (pt_cmpR op_eq (pe_ix ix_str (pv 0) pe_int (fun _ _ => rfl)) pe_str (nomark _))))) (pss_one (ps_ret pe_bl)) pss_nil)
      (pss_one (ps_ret (pe_callB (cr_all rfl) (by rfl) T.all (by decide +kernel) (pa_cons (pe_lc (own := [("digit", 1)]) rfl sc_is_number.nd (pi_str (pv 0)) (blkOk_by (N := ["digits", "digit"]) (sc := defScope s_is_number) (by decide +kernel)) (fun _ _ _ _ _ => (pg_name (i := 1) sc_is_number.nd rfl (Or.inl rfl))) (fun _ _ _ _ _ => pts_nil) (fun _ _ _ _ _ => (pe_cmpR op_in_sign (pv 1) pe_str (by rfl)))) pa_nil))))), ?_⟩
    have ll : (mkS ds).length ≤ sizeLine := by
      rw [mkS_len, sizeLine_eq]
      omega
    refine ⟨_, rfl, _, rfl, ll, _, _, rfl, rfl, _, rfl, ?_⟩
    cases ds with
    | nil =>
      rw [if_neg (by decide)]
      exact ⟨_, rfl, iteT (k _ (Same.refl H))⟩
    | cons a l =>
      rw [if_pos (decide_eq_true (show (1 : Int) ≤ ((mkS (a :: l)).length : Int) by rw [mkS_len, List.length_cons]; omega))]
      refine ⟨_, _, rfl, rfl, _, rfl, ?_⟩
      by_cases l40 : (a :: l).length ≤ 40
      · rw [decide_eq_true (show ((mkS (a :: l)).length : Int) ≤ 40 by rw [mkS_len]; omega)]
        refine iteF ?_
        have at0 : atI (mkS (a :: l)).cps.toList 0 = some a := by
          show atI (a :: l) ((0 : Nat) : Int) = some a
          exact atI_nat rfl
        refine ⟨_, rfl, _, _, a, rfl, rfl, ll, at0, rfl, decide (a = 48), ?_, ?_⟩
        · rw [show ("0" : Str) = mkS [48] by decide +kernel]
          congr 1
          exact decide_eq_decide.mpr ⟨fun z => by
            have q := mkS_inj (l := [a]) (m := [48]) (V.str.inj z)
            exact (List.cons.inj q).1, fun z => by rw [z]; rfl⟩
        · by_cases a48 : a = 48
          · rw [decide_eq_true a48]
            have e : numB (a :: l) = false := by
              show (decide ((a :: l).length ≤ 40) && (!decide (a = 48) && _)) = false
              rw [decide_eq_true a48]
              simp
            rw [e] at k
            exact iteT (k _ (Same.refl H))
          · rw [decide_eq_false a48]
            have e : numB (a :: l) = (a :: l).all digB := by
              show (decide ((a :: l).length ≤ 40) && (!decide (a = 48) && _)) = _
              rw [decide_eq_true l40, decide_eq_false a48]
              rfl
            rw [e] at k
            refine iteF ?_
            generalize hds : a :: l = ds at *
            refine ⟨_, rfl, _, rfl, fun D hD => ?_⟩
            refine lc_it walk_str (fun i H' => Same H H' ∧ H' D = some (.lst (((ds.take i).map digB).map V.bl))) ⟨same_upd (Same.refl H) hD, upd_same⟩ (fun _ _ _ _ => trivial) (fun i x H2 H' hi p y => ?_) (fun H' h => ?_)
            · obtain ⟨rfl, c, hc, rfl⟩ := y
              obtain ⟨s1, eD⟩ := p
              have hc' : ds[i]? = some c := by rw [← hc]; exact (List.getElem?_toArray ..).symm
              have cm : decide (c ∈ (("0123456789" : Str)).cps.toList) = digB c := by
                rw [show (("0123456789" : Str)).cps.toList = [48, 49, 50, 51, 52, 53, 54, 55, 56, 57] by decide +kernel]
                rfl
              refine ⟨rfl, _, rfl, c, _, rfl, rfl, _, eD, ?_, same_freeU s1 hD, ?_⟩
              · refine lt_line ?_
                rw [List.length_map, List.length_map, List.length_take]
                omega
              · rw [upd_same, cm, take_snoc hc', List.map_append, List.map_append]
                rfl
            · obtain ⟨s1, eD⟩ := h
              have tk : ds.take (mkS ds).cps.size = ds := List.take_of_length_le (Nat.le_of_eq (by rfl))
              refine ⟨D, ds.map digB, rfl, SqL.of (by rw [eD, tk]), ?_⟩
              rw [List.all_map]
              exact k _ s1
      · rw [decide_eq_false (show ¬ ((mkS (a :: l)).length : Int) ≤ 40 by rw [mkS_len]; omega)]
        refine iteT ?_
        have e : numB (a :: l) = false := by
          show (decide ((a :: l).length ≤ 40) && _) = false
          rw [decide_eq_false l40, Bool.false_and]
        rw [e] at k
        exact k _ (Same.refl H)
def spRead1N (K : PySem.W.Frag) : Sp := fun vs H Q _ => ∃ ws : List Nat, vs = [.str (mkS ws)] ∧ ws.length ≤ 100000 ∧ (∀ c : Cmd, c.ok → numC c < 10 ^ 40 → ws ≠ cw c) ∧ ∀ H', Same H H' → Q .non H'
theorem num_lt {m : Nat} (h : (numL m).length ≤ 40) : m < 10 ^ 40 := by
  rcases Nat.lt_or_ge m (10 ^ 40) with z | z
  · exact z
  · exfalso
    have key : ∀ (k m : Nat), 10 ^ k ≤ m → k + 1 ≤ (numL m).length := fun k => by
      induction k with
      | zero =>
        intro m _
        rcases Nat.lt_or_ge m 10 with q | q
        · rw [numL_lt q]; exact Nat.le_refl _
        · rw [numL_step q, List.length_append]
          show 0 + 1 ≤ _ + 1
          omega
      | succ k ih =>
        intro m hm
        have p10 : 10 ^ (k + 1) = 10 ^ k * 10 := Nat.pow_succ ..
        have pos : 0 < 10 ^ k := Nat.pow_pos (by decide)
        rw [numL_step (by omega), List.length_append]
        have := ih (m / 10) (by omega)
        show k + 1 + 1 ≤ _ + 1
        omega
    have := key 40 m z
    omega
theorem ok_read_commandN {f : Addr} {fd : FuncData} (F : Fun K "read_command" "read_command" s_read_command f fd) (T : TxtRd K w mg na nb eA eB nA nB tm) (bNo : ∀ x : Str, x ≠ "D" → x ≠ "U" → x ≠ "R" → x ≠ "L" → PySem.W.nsIn K nb x = some none)
    (c_is_number : Cal P w K mg base 1 "is_number" spIsNumX) : FnOk P w K mg base CX0 2 f fd ["word"] (spRead1N K) := by
  refine F.ok sc_read_command (fun vs H Q E h => ?_) (fun cdv A outer s H vs Q E hr h => ?_)
  · obtain ⟨n, rfl, _⟩ := h
    rfl
  · obtain ⟨ws, rfl, ln, hno, k⟩ := h
    refine ⟨_, (pss_cons (ps_if (pt_cmpR (op_in_kd T.dA) (pv 0) (pe_glob (v := .ref na) (by rfl) T.g_NAMES_ALONE rfl) (by rfl)) (pss_one (ps_ret (pe_tup (pa_cons (pe_ix ix_kdict (pe_glob (v := .ref na) (by rfl) T.g_NAMES_ALONE rfl) (pv 0) (fun _ _ => rfl)) pa_nil)))) pss_nil)
      (pss_cons (ps_par (i := 1) (j := 2) rfl sc_read_command.nd rfl rfl (by decide) rfl rfl (pa_cons (pe_slice sl_str (pv 0) po_none (po_some (pe_un un_neg pe_int))) (pa_cons (pe_slice sl_str (pv 0) (po_some (pe_un un_neg pe_int)) po_none) pa_nil)) (by rfl))
      (pss_cons (ps_if (PW.pt (pw_and (pt_cmpR (op_in_kd T.dB) (pv 2) (pe_glob (v := .ref nb) (by rfl) T.g_NAMES_BEHIND_NUMBER rfl) (by rfl)) (pw_and1 (pt_val (pe_cal c_is_number hr (by decide) (by rfl) (pa_cons (pv 1) pa_nil)))))) (pss_one (ps_ret (pe_tup (pa_cons (pe_ix ix_kdict (pe_glob (v := .ref nb) (by rfl) T.g_NAMES_BEHIND_NUMBER rfl) (pv 2) (fun _ _ => rfl)) (pa_cons (pe_callTy call_int_str (by rfl) T.int (by decide +kernel) (pa_cons (pv 1) pa_nil)) pa_nil))))) pss_nil)
      (pss_one (ps_ret pe_non))))), ?_⟩
    have wl : (mkS ws).length ≤ sizeLine := by
      rw [mkS_len, sizeLine_eq]
      omega
    have e72 : mkS [72] = ("H" : Str) := by decide +kernel
    have e69 : mkS [69] = ("E" : Str) := by decide +kernel
    have no := T.aNo (mkS ws) (by rw [← e72]; exact fun z => hno .home trivial (by decide) (mkS_inj z)) (by rw [← e69]; exact fun z => hno .stop trivial (by decide) (mkS_inj z))
    refine ⟨_, rfl, _, _, rfl, rfl, no, _, rfl, iteF ?_⟩
    obtain rfl | ⟨l, x, rfl⟩ : ws = [] ∨ ∃ l x, ws = l ++ [x] := by
      by_cases z : ws = []
      · exact .inl z
      · exact .inr ⟨ws.dropLast, ws.getLast z, (List.dropLast_concat_getLast z).symm⟩
    · refine ⟨_, rfl, _, rfl, _, rfl, _, rfl, wl, ?_⟩
      refine ⟨_, rfl, _, rfl, _, rfl, _, rfl, wl, ?_⟩
      refine ⟨_, _, rfl, ?_⟩
      have hn := bNo (cutS (mkS []) (some (-1)) none) (by decide +kernel) (by decide +kernel) (by decide +kernel) (by decide +kernel)
      exact ⟨_, rfl, _, _, rfl, rfl, hn, _, rfl, iteF (k _ (Same.refl H))⟩
    · refine ⟨_, rfl, _, rfl, _, rfl, _, rfl, wl, ?_⟩
      rw [cut_front]
      refine ⟨_, rfl, _, rfl, _, rfl, _, rfl, wl, ?_⟩
      rw [cut_back]
      refine ⟨_, _, rfl, ?_⟩
      have ll : l.length ≤ 100000 := by
        rw [List.length_append] at ln
        omega
      by_cases x68 : x = 68
      · subst x68
        obtain ⟨t, ht⟩ := T.bD
        rw [show mkS [68] = ("D" : Str) by decide +kernel]
        refine ⟨_, rfl, _, _, rfl, rfl, ht, _, rfl, iteT ?_⟩
        refine ⟨_, rfl, l, rfl, ll, fun H1 e1 => ?_⟩
        cases hb : numB l with
        | true =>
          obtain ⟨m, m1, em, l40⟩ := numB_of hb
          rw [← em] at l40
          have mlt := num_lt l40
          exact absurd (show l ++ [68] = cw (.down m) by rw [← em]; rfl) (hno (.down m) (by show (1 : Int) ≤ m; omega) (by show (m : Int) < 10 ^ 40; omega))
        | false => exact ⟨_, rfl, iteF (k _ e1)⟩
      by_cases x85 : x = 85
      · subst x85
        obtain ⟨t, ht⟩ := T.bU
        rw [show mkS [85] = ("U" : Str) by decide +kernel]
        refine ⟨_, rfl, _, _, rfl, rfl, ht, _, rfl, iteT ?_⟩
        refine ⟨_, rfl, l, rfl, ll, fun H1 e1 => ?_⟩
        cases hb : numB l with
        | true =>
          obtain ⟨m, m1, em, l40⟩ := numB_of hb
          rw [← em] at l40
          have mlt := num_lt l40
          exact absurd (show l ++ [85] = cw (.up m) by rw [← em]; rfl) (hno (.up m) (by show (1 : Int) ≤ m; omega) (by show (m : Int) < 10 ^ 40; omega))
        | false => exact ⟨_, rfl, iteF (k _ e1)⟩
      by_cases x82 : x = 82
      · subst x82
        obtain ⟨t, ht⟩ := T.bR
        rw [show mkS [82] = ("R" : Str) by decide +kernel]
        refine ⟨_, rfl, _, _, rfl, rfl, ht, _, rfl, iteT ?_⟩
        refine ⟨_, rfl, l, rfl, ll, fun H1 e1 => ?_⟩
        cases hb : numB l with
        | true =>
          obtain ⟨m, m1, em, l40⟩ := numB_of hb
          rw [← em] at l40
          have mlt := num_lt l40
          exact absurd (show l ++ [82] = cw (.right m) by rw [← em]; rfl) (hno (.right m) (by show (1 : Int) ≤ m; omega) (by show (m : Int) < 10 ^ 40; omega))
        | false => exact ⟨_, rfl, iteF (k _ e1)⟩
      by_cases x76 : x = 76
      · subst x76
        obtain ⟨t, ht⟩ := T.bL
        rw [show mkS [76] = ("L" : Str) by decide +kernel]
        refine ⟨_, rfl, _, _, rfl, rfl, ht, _, rfl, iteT ?_⟩
        refine ⟨_, rfl, l, rfl, ll, fun H1 e1 => ?_⟩
        cases hb : numB l with
        | true =>
          obtain ⟨m, m1, em, l40⟩ := numB_of hb
          rw [← em] at l40
          have mlt := num_lt l40
          exact absurd (show l ++ [76] = cw (.left m) by rw [← em]; rfl) (hno (.left m) (by show (1 : Int) ≤ m; omega) (by show (m : Int) < 10 ^ 40; omega))
        | false => exact ⟨_, rfl, iteF (k _ e1)⟩
      have sx : ∀ y, x ≠ y → mkS [x] ≠ mkS [y] := fun y h z => h (List.cons.inj (mkS_inj z)).1
      have hn := bNo (mkS [x]) (by rw [show ("D" : Str) = mkS [68] by decide +kernel]; exact sx _ x68) (by rw [show ("U" : Str) = mkS [85] by decide +kernel]; exact sx _ x85) (by rw [show ("R" : Str) = mkS [82] by decide +kernel]; exact sx _ x82) (by rw [show ("L" : Str) = mkS [76] by decide +kernel]; exact sx _ x76)
      exact ⟨_, rfl, _, _, rfl, rfl, hn, _, rfl, iteF (k _ (Same.refl H))⟩
theorem spl_len : ∀ (l acc : List Nat), (∀ w ∈ spl [32] 0 acc l, w.length ≤ acc.length + l.length) ∧ (spl [32] 0 acc l).length ≤ l.length + 1
  | [], acc => by
    rw [spl_nil]
    exact ⟨fun w hw => by rw [List.mem_singleton.mp hw]; exact Nat.le_add_right _ _, Nat.le_refl _⟩
  | c :: r, acc => by
    by_cases h : c = 32
    · subst h
      rw [spl_hit (by rw [pre_sp]; rfl)]
      obtain ⟨h1, h2⟩ := spl_len r []
      refine ⟨fun w hw => ?_, by rw [List.length_cons, List.length_cons]; exact Nat.succ_le_succ h2⟩
      rcases List.mem_cons.mp hw with z | z
      · rw [z]; exact Nat.le_add_right _ _
      · have := h1 w z
        rw [List.length_nil] at this
        rw [List.length_cons]
        omega
    · rw [spl_miss (by rw [pre_sp]; exact decide_eq_false h)]
      obtain ⟨h1, h2⟩ := spl_len r (acc ++ [c])
      refine ⟨fun w hw => ?_, by rw [List.length_cons]; omega⟩
      have := h1 w hw
      rw [List.length_append] at this
      rw [List.length_cons]
      have z : ([c] : List Nat).length = 1 := rfl
      omega
def spRead1U (K : PySem.W.Frag) : Sp := fun vs H Q E => spRead1 K vs H Q E ∨ spRead1N K vs H Q E
def spReadN (CR : Addr) : Sp := fun vs H Q E => ∃ t : List Nat, vs = [.str (mkS t)] ∧ t.length ≤ 50000 ∧ (∀ cs : List Cmd, AllOk cs → (∀ c ∈ cs, numC c < 10 ^ 40) → mkS t ≠ shownS cs) ∧ Err E CR (.str (mkS t)) H
theorem ok_read_commandsN {f CR : Addr} {fd : FuncData} (F : Fun K "read_commands" "read_commands" s_read_commands f fd) (c_read_command : Cal P w K mg base 2 "read_command" (spRead1U K)) (e_Unreadable : ErrC P w K mg base "Unreadable" CR) : FnOk P w K mg base (L2.CX P w) 3 f fd ["text"] (spReadN CR) := by
  refine F.okX sc_read_commands (fun vs H Q E h => ?_) (fun cdv A outer s H vs Q E hr h => ?_)
  · obtain ⟨n, rfl, _⟩ := h
    rfl
  · obtain ⟨t, rfl, ln, hno, ke⟩ := h
    refine ⟨_, (pss_cons (ps_if (pt_cmpR op_eq (pv 0) pe_str (nomark _)) (pss_one (ps_ret (pe_lst pa_nil))) pss_nil)
      (pss_cons (ps_set (i := 1) sc_read_commands.nd rfl (Or.inl rfl) (pe_lst pa_nil))
      (pss_cons (ps_for (passes_of rfl) rfl (pi_list (pe_bm PySem.F.plainAttrs_str PySem.F.slot_str_split PySem.F.type_str_split mt_split (pv 0) (pa_cons pe_str pa_nil))) (pg_name (i := 2) sc_read_commands.nd rfl (Or.inl rfl)) (pss_cons (ps_set (i := 3) sc_read_commands.nd rfl (Or.inl rfl) (pe_cal c_read_command hr (by decide) (by rfl) (pa_cons (pv 2) pa_nil)))
      (pss_cons (ps_if (pt_cmpR op_isN (pv 3) pe_non (nomark _)) (pss_one (ps_raiseE rfl e_Unreadable hr (by decide) (takes_of rfl rfl rfl rfl) (pv 0) (by rfl))) pss_nil)
      (pss_one (ps_expr (pe_bm PySem.F.plainAttrs_list PySem.F.slot_list_append PySem.F.type_list_append mt_append (pv 1) (pa_cons (pv 3) pa_nil)))))))
      (pss_one (ps_ret (pv 1)))))), ?_⟩
    have wl : (mkS t).length + 2 ≤ sizeLine := by
      rw [mkS_len, sizeLine_eq]
      omega
    have hk : ¬ Builtin.Str.strKind (mkS t) < Builtin.Str.strKind " " := by
      rw [show Builtin.Str.strKind " " = 1 by decide +kernel]
      unfold Builtin.Str.strKind
      split
      · omega
      · split <;> omega
    have no : mkS t ≠ ("none" : Str) := fun z => hno [] (fun c hc => nomatch hc) (fun c hc => nomatch hc) (by rw [z]; decide +kernel)
    refine ⟨_, rfl, rfl, false, by simp [no], iteF ?_⟩
    refine ⟨Nat.zero_le _, fun l nl => ?_⟩
    have e1 : Same H (upd H l (.lst [])) := new_same nl
    refine ⟨_, rfl, rfl, _, _, rfl, rfl, by decide +kernel, wl, fun p np => ?_⟩
    have sp : Txt.split (mkS t) " " = (spl [32] 0 [] t).map mkS := by
      have q := split_spl (mkS t) " " (by decide +kernel) hk
      have q2 : ((Txt.split (mkS t) " ").map tl).map mkS = Txt.split (mkS t) " " := by
        rw [List.map_map, show (mkS ∘ tl) = id from funext fun s => ext_tl rfl, List.map_id]
      rw [← q2, q]
      rfl
    rw [show (Str.ofString " ") = (" " : Str) from rfl, sp]
    obtain ⟨wlen, wcnt⟩ := spl_len t []
    have wne := spl_ne [32] t 0 []
    have wj : joinL [32] (spl [32] 0 [] t) = t := join_spl t []
    generalize spl [32] 0 [] t = ws at wlen wcnt wne wj np ⊢
    have pl : p ≠ l := fun z => by rw [z, upd_same] at np; cases np
    have e2 : Same H (upd (upd H l (.lst [])) p (.lst ((ws.map mkS).map V.str))) := e1.trans (new_same np)
    refine ⟨p, rfl, ⟨_, SqL.of upd_same⟩, for_list (K := K) (a := p) (xs := (ws.map mkS).map V.str) (fun i σ H' => ∃ (v2 v3 : Option V) (ys : List V) (cs : List Cmd), σ = [some (.str (mkS t)), some (.ref l), v2, v3] ∧ Same H H' ∧ H' p = some (.lst ((ws.map mkS).map V.str)) ∧ H' l = some (.lst ys) ∧ CmdsOf K H' ys cs ∧ AllOk cs ∧ (∀ c ∈ cs, numC c < 10 ^ 40) ∧ ws.take i = cs.map cw)
      ⟨none, none, [], [], rfl, e2, upd_same, new_same np _ _ upd_same, .nil, (fun c hc => nomatch hc), (fun c hc => nomatch hc), rfl⟩ (fun i σ H' hi h => ?_) (fun i x σ H' hx h => ?_) (fun σ H' h => ?_)⟩
    · obtain ⟨_, _, _, _, _, _, q, _⟩ := h
      exact SqL.of q
    · obtain ⟨v2, v3, ys, cs, rfl, s1, hp, hl, hys, ok, hn, tk⟩ := h
      rw [List.getElem?_map, List.getElem?_map] at hx
      cases hc : ws[i]? with
      | none =>
        rw [hc] at hx
        cases hx
      | some wd =>
        rw [hc] at hx
        obtain rfl := Option.some.inj hx
        have cm := List.mem_of_getElem? hc
        have li := (List.getElem?_eq_some_iff.mp hc).1
        have yl := hys.len
        have cl : cs.length ≤ 60000 := by
          have q := congrArg List.length tk
          rw [List.length_take, List.length_map] at q
          omega
        by_cases isC : ∃ c : Cmd, c.ok ∧ numC c < 10 ^ 40 ∧ wd = cw c
        · obtain ⟨c, c1, c2, rfl⟩ := isC
          refine ⟨_, rfl, .inl ⟨c, rfl, c1, c2, fun H2 t2 e3 nt ht => ?_⟩⟩
          refine ⟨_, rfl, rfl, false, by simp, iteF ?_⟩
          refine ⟨_, rfl, .inl ⟨rfl, _, SqL.of (e3 _ _ hl)⟩, _, rfl, l, ys, .ref t2, rfl, rfl, e3 _ _ hl, lt_line (by omega), ?_⟩
          refine ⟨_, _, _, cs ++ [c], rfl, same_freeU (s1.trans e3) nl, ?_, upd_same, ?_, ?_, ?_, ?_⟩
          · rw [upd_ne pl]
            exact e3 _ _ hp
          · exact paired_app (CmdsOf.atL (e3 _ _ hl) (hys.same e3)) (CmdsOf.atL (e3 _ _ hl) (xs := [.ref t2]) (cs := [c]) (.cons ⟨t2, rfl, SqT.of ht⟩ .nil))
          · intro d hd
            rcases List.mem_append.mp hd with z | z
            · exact ok d z
            · rw [List.mem_singleton.mp z]; exact c1
          · intro d hd
            rcases List.mem_append.mp hd with z | z
            · exact hn d z
            · rw [List.mem_singleton.mp z]; exact c2
          · rw [take_snoc hc, tk, List.map_append]
            rfl
        · refine ⟨_, rfl, .inr ⟨wd, rfl, (by have := wlen wd cm; rw [List.length_nil] at this; omega), fun c c1 c2 z => isC ⟨c, c1, c2, z⟩, fun H2 e3 => ?_⟩⟩
          refine ⟨_, rfl, rfl, true, by rfl, iteT ?_⟩
          exact ⟨_, rfl, Err.ask (s1.trans e3) ke⟩
    · obtain ⟨v2, v3, ys, cs, rfl, s1, hp, hl, hys, ok, hn, tk⟩ := h
      rw [List.length_map, List.length_map, List.take_length] at tk
      have cne : cs ≠ [] := fun z => wne (by rw [tk, z]; rfl)
      refine absurd ?_ (hno cs ok hn)
      unfold shownS shownL
      rw [if_neg cne, ← tk, wj]
end
end Gc

/-! running commands over plain texts: the goal is reached exactly if the box is fulfilled -/
namespace Gc
def seen (t : Int) : Option Int → Int
  | none => t
  | some a => min a t
/-- the goal of the cursor after one command in a row of length t -/
def aim1 (t : Int) (a : Option Int) : Cmd → Option Int
  | .down _ => a
  | .up _ => a
  | .right n => some (min (seen t a + n) t)
  | .left n => some (max 0 (seen t a - n))
  | .home => some 0
  | .stop => none
def aimF (T : Int → Int) : Int → Option Int → List Cmd → Option Int
  | _, a, [] => a
  | r, a, c :: cs => aimF T (r + c.dv) (aim1 (T r) a c) cs
theorem aimF_app (T : Int → Int) : ∀ (xs ys : List Cmd) (r : Int) (a : Option Int), aimF T r a (xs ++ ys) = aimF T (r + last xs) (aimF T r a xs) ys
  | [], ys, r, a => by
    show aimF T r a ys = aimF T (r + 0) a ys
    rw [Int.add_zero]
  | c :: xs, ys, r, a => by
    show aimF T (r + c.dv) (aim1 (T r) a c) (xs ++ ys) = aimF T (r + (c.dv + last xs)) _ ys
    rw [aimF_app T xs ys, Int.add_assoc]
    rfl
theorem aimF_snoc (T : Int → Int) (cs : List Cmd) (c : Cmd) (r : Int) (a : Option Int) : aimF T r a (cs ++ [c]) = aim1 (T (r + last cs)) (aimF T r a cs) c := aimF_app T cs [c] r a
def ge (a : Option Int) (n : Int) : Prop := ∀ x, a = some x → n ≤ x
theorem ge_none (n : Int) : ge none n := fun _ h => nomatch h
theorem ge_some {x n : Int} : ge (some x) n ↔ n ≤ x := ⟨fun h => h x rfl, fun h y e => by rw [← Option.some.inj e]; exact h⟩
theorem seen_ge {t n : Int} {a : Option Int} : n ≤ seen t a ↔ n ≤ t ∧ ge a n := by
  cases a with
  | none => exact ⟨fun h => ⟨h, ge_none n⟩, fun h => h.1⟩
  | some x =>
    rw [ge_some]
    show n ≤ min x t ↔ _
    omega
theorem aim1_nn {t : Int} {a : Option Int} {c : Cmd} (ht : 0 ≤ t) (ha : ge a 0) (ok : c.ok) : ge (aim1 t a c) 0 := by
  have hs : 0 ≤ seen t a := seen_ge.mpr ⟨ht, ha⟩
  cases c with
  | down n => exact ha
  | up n => exact ha
  | right n =>
    have o : 1 ≤ n := ok
    refine ge_some.mpr ?_
    omega
  | left n =>
    refine ge_some.mpr ?_
    omega
  | home => exact ge_some.mpr (Int.le_refl 0)
  | stop => exact ge_none 0
theorem aimF_nn {T : Int → Int} (hT : ∀ k, 0 ≤ T k) : ∀ {cs : List Cmd} {r : Int} {a : Option Int}, AllOk cs → ge a 0 → ge (aimF T r a cs) 0
  | [], _, _, _, h => h
  | c :: cs, r, a, ok, h => aimF_nn hT (cs := cs) (fun d hd => ok d (List.mem_cons_of_mem _ hd)) (aim1_nn (hT r) h (ok c List.mem_cons_self))
theorem last_snoc (cs : List Cmd) (c : Cmd) : last (cs ++ [c]) = last cs + c.dv := by
  rw [last_app]
  show _ + (c.dv + 0) = _
  omega
theorem reqF_le {f : Int → Int} {o v : Int} {T : Int → Int} {r : Int} : (∀ k, reqF f o v k ≤ T (r + k)) ↔ (∀ k, f k ≤ T (r + k)) ∧ v ≤ T (r + o) := by
  constructor
  · intro h
    refine ⟨fun k => Int.le_trans (reqF_ge f o v k) (h k), ?_⟩
    have := h o
    unfold reqF at this
    rw [if_pos rfl] at this
    omega
  · rintro ⟨h1, h2⟩ k
    unfold reqF
    have := h1 k
    split
    · rename_i e
      subst e
      omega
    · exact this
/-- the box's walk, and the run -/
theorem go_char {T : Int → Int} (hT : ∀ k, 0 ≤ T k) {r : Int} {a : Option Int} (ha : ge a 0) : ∀ (rs : List Cmd) (need : Int) (f : Int → Int), AllOk rs → 1 ≤ need →
    ((∃ st g, goF rs (last rs.reverse) need f = some (st, g) ∧ (∀ n, st = some n → ge a n) ∧ ∀ k, g k ≤ T (r + k)) ↔ (∀ k, f k ≤ T (r + k)) ∧ ge (aimF T r a rs.reverse) need)
  | [], need, f, _, _ => by
    constructor
    · rintro ⟨st, g, e, h1, h2⟩
      cases e
      exact ⟨h2, h1 need rfl⟩
    · rintro ⟨h1, h2⟩
      exact ⟨_, _, rfl, fun n e => by rw [← Option.some.inj e]; exact h2, h1⟩
  | .home :: rs, need, f, ok, hn => by
    rw [List.reverse_cons, aimF_snoc]
    constructor
    · rintro ⟨st, g, e, _⟩
      cases e
    · rintro ⟨_, h2⟩
      have : need ≤ 0 := ge_some.mp h2
      omega
  | .stop :: rs, need, f, ok, hn => by
    rw [List.reverse_cons, aimF_snoc]
    constructor
    · rintro ⟨st, g, e, _, h2⟩
      cases e
      exact ⟨h2, ge_none _⟩
    · rintro ⟨h1, _⟩
      exact ⟨_, _, rfl, (fun n e => nomatch e), h1⟩
  | .down n :: rs, need, f, ok, hn => by
    rw [List.reverse_cons, aimF_snoc, last_snoc]
    have ih := go_char hT (r := r) ha rs need f (fun d hd => ok d (List.mem_cons_of_mem _ hd)) hn
    have e : last rs.reverse + (Cmd.down n).dv - n = last rs.reverse := by
      show last rs.reverse + n - n = _
      omega
    simp only [goF]
    rw [e]
    exact ih
  | .up n :: rs, need, f, ok, hn => by
    rw [List.reverse_cons, aimF_snoc, last_snoc]
    have ih := go_char hT (r := r) ha rs need f (fun d hd => ok d (List.mem_cons_of_mem _ hd)) hn
    have e : last rs.reverse + (Cmd.up n).dv + n = last rs.reverse := by
      show last rs.reverse + -n + n = _
      omega
    simp only [goF]
    rw [e]
    exact ih
  | .left n :: rs, need, f, ok, hn => by
    have o : 1 ≤ n := ok _ List.mem_cons_self
    rw [List.reverse_cons, aimF_snoc, last_snoc]
    have ih := go_char hT (r := r) ha rs (need + n) (reqF f (last rs.reverse) (need + n)) (fun d hd => ok d (List.mem_cons_of_mem _ hd)) (by omega)
    have e : last rs.reverse + (Cmd.left n).dv = last rs.reverse := Int.add_zero _
    simp only [goF]
    rw [e, ih, reqF_le]
    have s : ge (aim1 (T (r + last rs.reverse)) (aimF T r a rs.reverse) (.left n)) need ↔ need + n ≤ T (r + last rs.reverse) ∧ ge (aimF T r a rs.reverse) (need + n) := by
      rw [← seen_ge]
      show ge (some _) need ↔ _
      rw [ge_some]
      omega
    rw [s]
    exact ⟨fun h => ⟨h.1.1, h.1.2, h.2⟩, fun h => ⟨⟨h.1, h.2.1⟩, h.2.2⟩⟩
  | .right n :: rs, need, f, ok, hn => by
    have o : 1 ≤ n := ok _ List.mem_cons_self
    have okr : AllOk rs := fun d hd => ok d (List.mem_cons_of_mem _ hd)
    rw [List.reverse_cons, aimF_snoc, last_snoc]
    have e : last rs.reverse + (Cmd.right n).dv = last rs.reverse := Int.add_zero _
    have nn : 0 ≤ seen (T (r + last rs.reverse)) (aimF T r a rs.reverse) := seen_ge.mpr ⟨hT _, aimF_nn hT (fun d hd => okr d (List.mem_reverse.mp hd)) ha⟩
    simp only [goF]
    rw [e]
    have s : ge (aim1 (T (r + last rs.reverse)) (aimF T r a rs.reverse) (.right n)) need ↔ need ≤ T (r + last rs.reverse) ∧ need - n ≤ seen (T (r + last rs.reverse)) (aimF T r a rs.reverse) := by
      show ge (some _) need ↔ _
      rw [ge_some]
      omega
    rw [s]
    by_cases c : need > n
    · rw [if_pos c]
      have ih := go_char hT (r := r) ha rs (need - n) (reqF f (last rs.reverse) need) okr (by omega)
      rw [ih, reqF_le, seen_ge]
      exact ⟨fun h => ⟨h.1.1, h.1.2, by omega, h.2⟩, fun h => ⟨⟨h.1, h.2.1⟩, h.2.2.2⟩⟩
    · rw [if_neg c]
      constructor
      · rintro ⟨st, g, e, _, h2⟩
        cases e
        have h3 := reqF_le.mp h2
        exact ⟨h3.1, h3.2, by omega⟩
      · rintro ⟨h1, h2, _⟩
        exact ⟨_, _, rfl, (fun n e => nomatch e), reqF_le.mpr ⟨h1, h2⟩⟩
/-- the goal is reached exactly if the start fulfils the box -/
theorem box_char {T : Int → Int} (hT : ∀ k, 0 ≤ T k) {r : Int} {a : Option Int} (ha : ge a 0) {cs : List Cmd} {goal : Int} (ok : AllOk cs) (hg : 1 ≤ goal) :
    ge (aimF T r a cs) goal ↔ ∃ st L, boxM cs goal = some (st, L) ∧ (∀ n, st = some n → ge a n) ∧ ∀ k, val L k ≤ T (r + k) := by
  have h := go_char hT (r := r) ha cs.reverse goal (fun _ => 0) (allOk_rev ok) hg
  rw [List.reverse_reverse] at h
  have h0 : (∀ k : Int, (fun _ : Int => (0 : Int)) k ≤ T (r + k)) := fun k => hT _
  have h' : (∃ st g, boxF cs goal = some (st, g) ∧ (∀ n, st = some n → ge a n) ∧ ∀ k, g k ≤ T (r + k)) ↔ ge (aimF T r a cs) goal := h.trans ⟨fun x => x.2, fun x => ⟨h0, x⟩⟩
  rw [← h']
  rcases box_spec ok hg with ⟨e1, e2⟩ | ⟨st, b, e1, gb, e2, _⟩
  · rw [e1, e2]
    constructor
    · rintro ⟨_, _, z, _⟩
      cases z
    · rintro ⟨_, _, z, _⟩
      cases z
  · rw [e1, e2]
    have vp := val_perm gb (List.mergeSort_perm b leK)
    constructor
    · rintro ⟨st', g, z, h1, h2⟩
      cases z
      exact ⟨_, _, rfl, h1, fun k => by rw [vp]; exact h2 k⟩
    · rintro ⟨st', L, z, h1, h2⟩
      cases z
      exact ⟨_, _, rfl, h1, fun k => by rw [← vp]; exact h2 k⟩
end Gc

/-! rows that are visited; the least text -/
namespace Gc
def Within (cs : List Cmd) (lo hi : Int) : Prop := ∀ i, lo ≤ last (cs.take i) ∧ last (cs.take i) ≤ hi
theorem Within.tail {c : Cmd} {cs : List Cmd} {lo hi : Int} (h : Within (c :: cs) lo hi) : Within cs (lo - c.dv) (hi - c.dv) := fun i => by
  have q := h (i + 1)
  have e : last ((c :: cs).take (i + 1)) = c.dv + last (cs.take i) := rfl
  rw [e] at q
  omega
theorem Within.init {cs : List Cmd} {c : Cmd} {lo hi : Int} (h : Within (cs ++ [c]) lo hi) : Within cs lo hi := fun i => by
  by_cases l : i ≤ cs.length
  · have q := h i
    rw [List.take_append_of_le_length l] at q
    exact q
  · have q := h cs.length
    rw [List.take_append_of_le_length (Nat.le_refl _)] at q
    rw [List.take_of_length_le (by omega)]
    rw [List.take_length] at q
    exact q
theorem Within.whole {cs : List Cmd} {lo hi : Int} (h : Within cs lo hi) : lo ≤ last cs ∧ last cs ≤ hi := by
  have q := h cs.length
  rw [List.take_length] at q
  exact q
theorem Within.zero {cs : List Cmd} {lo hi : Int} (h : Within cs lo hi) : lo ≤ 0 ∧ 0 ≤ hi := h 0
theorem keys_req' {b : Ps} {o v k : Int} (h : k ∈ keys (req b o v)) : k = o ∨ k ∈ keys b := by
  unfold req at h
  rw [keys_put] at h
  split at h
  · exact .inr h
  · rcases List.mem_append.mp h with q | q
    · exact .inr q
    · exact .inl (List.mem_singleton.mp q)
/-- the offsets of a box are rows that are visited -/
theorem go_within {lo hi : Int} : ∀ {rs : List Cmd} {need : Int} {b : Ps} {st : Option Int} {b' : Ps}, go rs (last rs.reverse) need b = some (st, b') → Within rs.reverse lo hi → (∀ k ∈ keys b, lo ≤ k ∧ k ≤ hi) → ∀ k ∈ keys b', lo ≤ k ∧ k ≤ hi
  | [], need, b, st, b', h, _, hb => by cases h; exact hb
  | .home :: rs, need, b, st, b', h, _, _ => by cases h
  | .stop :: rs, need, b, st, b', h, _, hb => by cases h; exact hb
  | .down n :: rs, need, b, st, b', h, w, hb => by
    rw [List.reverse_cons] at h w
    rw [last_snoc] at h
    have e : last rs.reverse + (Cmd.down n).dv - n = last rs.reverse := by
      show last rs.reverse + n - n = _
      omega
    simp only [go] at h
    rw [e] at h
    exact go_within h w.init hb
  | .up n :: rs, need, b, st, b', h, w, hb => by
    rw [List.reverse_cons] at h w
    rw [last_snoc] at h
    have e : last rs.reverse + (Cmd.up n).dv + n = last rs.reverse := by
      show last rs.reverse + -n + n = _
      omega
    simp only [go] at h
    rw [e] at h
    exact go_within h w.init hb
  | .left n :: rs, need, b, st, b', h, w, hb => by
    rw [List.reverse_cons] at h w
    rw [last_snoc, show last rs.reverse + (Cmd.left n).dv = last rs.reverse from Int.add_zero _] at h
    simp only [go] at h
    refine go_within h w.init fun k hk => ?_
    rcases keys_req' hk with q | q
    · rw [q]
      exact w.init.whole
    · exact hb k q
  | .right n :: rs, need, b, st, b', h, w, hb => by
    rw [List.reverse_cons] at h w
    rw [last_snoc, show last rs.reverse + (Cmd.right n).dv = last rs.reverse from Int.add_zero _] at h
    have hr : ∀ k ∈ keys (req b (last rs.reverse) need), lo ≤ k ∧ k ≤ hi := fun k hk => by
      rcases keys_req' hk with q | q
      · rw [q]
        exact w.init.whole
      · exact hb k q
    simp only [go] at h
    split at h
    · exact go_within h w.init hr
    · cases h
      exact hr
theorem box_within {lo hi : Int} {cs : List Cmd} {goal : Int} {st : Option Int} {L : Ps} (h : boxM cs goal = some (st, L)) (w : Within cs lo hi) : ∀ q ∈ L, lo ≤ q.1 ∧ q.1 ≤ hi := by
  unfold boxM at h
  cases e : go cs.reverse (last cs) goal [] with
  | none =>
    rw [e] at h
    cases h
  | some x =>
    rw [e] at h
    obtain ⟨st', b'⟩ := x
    have h' : (st', b'.mergeSort leK) = (st, L) := Option.some.inj h
    cases h'
    have k := go_within (rs := cs.reverse) (lo := lo) (hi := hi) (by rw [List.reverse_reverse]; exact e) (by rw [List.reverse_reverse]; exact w) (fun k hk => by cases hk)
    intro q hq
    exact k q.1 (List.mem_map.mpr ⟨q, (List.mergeSort_perm b' leK).mem_iff.mp hq, rfl⟩)
/-! ### a text from a box -/
def setAll (lo : Int) (T : List Int) (L : Ps) : List Int := L.foldl (fun T q => T.set (q.1 - lo).toNat q.2) T
theorem setAll_len (lo : Int) : ∀ (L : Ps) (T : List Int), (setAll lo T L).length = T.length
  | [], _ => rfl
  | q :: L, T => by
    show (setAll lo (T.set (q.1 - lo).toNat q.2) L).length = _
    rw [setAll_len lo L, List.length_set]
theorem setAll_get {lo : Int} : ∀ {L : Ps} {T : List Int} {k : Int}, (keys L).Nodup → (∀ q ∈ L, lo ≤ q.1 ∧ q.1 - lo < T.length) → lo ≤ k → k - lo < T.length →
    (setAll lo T L).getD (k - lo).toNat 0 = match look L k with | some v => v | none => T.getD (k - lo).toNat 0
  | [], T, k, _, _, _, _ => rfl
  | q :: L, T, k, nd, hq, h0, h1 => by
    have nd' : q.1 ∉ keys L ∧ (keys L).Nodup := List.nodup_cons.mp nd
    have q0 := hq q List.mem_cons_self
    show (setAll lo (T.set (q.1 - lo).toNat q.2) L).getD (k - lo).toNat 0 = _
    rw [setAll_get (L := L) nd'.2 (fun p hp => by rw [List.length_set]; exact hq p (List.mem_cons_of_mem _ hp)) h0 (by rw [List.length_set]; exact h1), look_cons]
    by_cases e : q.1 = k
    · subst e
      rw [if_pos rfl, look_none.mpr nd'.1]
      show (T.set (q.1 - lo).toNat q.2).getD (q.1 - lo).toNat 0 = q.2
      rw [List.getD_eq_getElem?_getD, List.getElem?_set_self (by omega)]
      rfl
    · rw [if_neg e]
      cases look L k with
      | some v => rfl
      | none =>
        show (T.set (q.1 - lo).toNat q.2).getD (k - lo).toNat 0 = T.getD (k - lo).toNat 0
        rw [List.getD_eq_getElem?_getD, List.getD_eq_getElem?_getD, List.getElem?_set_ne (by omega)]
/-! ### the run over a list of lengths -/
def lenAt (T : List Int) (r : Int) : Int := T.getD r.toNat 0
/-- the run over a text: the row must stand -/
def afterL (T : List Int) : Int → Option Int → List Cmd → Option (Int × Option Int)
  | r, a, [] => some (r, a)
  | r, a, c :: cs => if c.vert = true then (if 0 ≤ r + c.dv ∧ r + c.dv < T.length then afterL T (r + c.dv) a cs else none) else afterL T r (aim1 (lenAt T r) a c) cs
theorem Within.le {cs : List Cmd} {lo hi lo' hi' : Int} (h : Within cs lo hi) (h1 : lo' ≤ lo) (h2 : hi ≤ hi') : Within cs lo' hi' := fun i => by
  have := h i
  omega
theorem afterL_in {T : List Int} : ∀ {cs : List Cmd} {r : Int} {a : Option Int}, Within cs (-r) (T.length - 1 - r) → afterL T r a cs = some (r + last cs, aimF (lenAt T) r a cs)
  | [], r, a, _ => by
    show some (r, a) = some (r + 0, a)
    rw [Int.add_zero]
  | c :: cs, r, a, w => by
    have w1 := w 1
    have e1 : last ((c :: cs).take 1) = c.dv + 0 := rfl
    rw [e1] at w1
    have wt : Within cs (-(r + c.dv)) (T.length - 1 - (r + c.dv)) := w.tail.le (by omega) (by omega)
    have ih := afterL_in (a := aim1 (lenAt T r) a c) wt
    have el : last (c :: cs) = c.dv + last cs := rfl
    have ea : aimF (lenAt T) r a (c :: cs) = aimF (lenAt T) (r + c.dv) (aim1 (lenAt T r) a c) cs := rfl
    rw [ea, el, ← Int.add_assoc]
    by_cases v : c.vert = true
    · have ia : aim1 (lenAt T r) a c = a := by
        cases c with
        | down n => rfl
        | up n => rfl
        | right n => cases v
        | left n => cases v
        | home => cases v
        | stop => cases v
      rw [ia] at ih ⊢
      simp only [afterL]
      rw [if_pos v, if_pos ⟨by omega, by omega⟩, ih]
    · have d0 : c.dv = 0 := by
        cases c with
        | down n => exact absurd rfl v
        | up n => exact absurd rfl v
        | right n => rfl
        | left n => rfl
        | home => rfl
        | stop => rfl
      simp only [afterL]
      rw [if_neg v]
      rw [d0, Int.add_zero] at ih ⊢
      exact ih
theorem lenAt_nn {T : List Int} (h : ∀ x ∈ T, 0 ≤ x) (r : Int) : 0 ≤ lenAt T r := by
  unfold lenAt
  rw [List.getD_eq_getElem?_getD]
  cases e : T[r.toNat]? with
  | none => exact Int.le_refl 0
  | some x => exact h x (List.mem_of_getElem? e)
/-- over a text whose rows are all there: the goal is reached exactly if the box is fulfilled -/
theorem after_char {T : List Int} (hT : ∀ x ∈ T, 0 ≤ x) {r : Int} {a : Option Int} (ha : ge a 0) {cs : List Cmd} {goal : Int} (ok : AllOk cs) (hg : 1 ≤ goal) (w : Within cs (-r) (T.length - 1 - r)) :
    ∃ a', afterL T r a cs = some (r + last cs, a') ∧ ge a' 0 ∧ (ge a' goal ↔ ∃ st L, boxM cs goal = some (st, L) ∧ (∀ n, st = some n → ge a n) ∧ ∀ k, val L k ≤ lenAt T (r + k)) :=
  ⟨_, afterL_in w, aimF_nn (lenAt_nn hT) ok ha, box_char (lenAt_nn hT) ha ok hg⟩
/-! ### the least text -/
def textM (lo hi : Int) (L : Ps) : List Int := setAll lo (List.replicate (hi - lo + 1).toNat 0) L
theorem textM_len {lo hi : Int} (h : lo ≤ hi) (L : Ps) : ((textM lo hi L).length : Int) = hi - lo + 1 := by
  unfold textM
  rw [setAll_len, List.length_replicate]
  omega
theorem textM_at {lo hi : Int} {L : Ps} (g : Good L) (hL : ∀ q ∈ L, lo ≤ q.1 ∧ q.1 ≤ hi) {k : Int} (h0 : lo ≤ k) (h1 : k ≤ hi) : lenAt (textM lo hi L) (k - lo) = val L k := by
  unfold lenAt textM
  have hr : ((List.replicate (hi - lo + 1).toNat (0 : Int)).length : Int) = hi - lo + 1 := by
    rw [List.length_replicate]
    omega
  rw [setAll_get g.nd (fun q hq => by have := hL q hq; omega) h0 (by omega)]
  unfold val
  cases look L k with
  | some v => rfl
  | none =>
    show (List.replicate _ (0 : Int)).getD _ 0 = 0
    rw [List.getD_eq_getElem?_getD, List.getElem?_replicate]
    split <;> rfl
theorem val_off {lo hi : Int} {L : Ps} (hL : ∀ q ∈ L, lo ≤ q.1 ∧ q.1 ≤ hi) {k : Int} (h : ¬ (lo ≤ k ∧ k ≤ hi)) : val L k = 0 := by
  refine val_out fun z => ?_
  obtain ⟨q, hq, e⟩ := List.mem_map.mp z
  rw [← e] at h
  exact h (hL q hq)
theorem textM_nn {lo hi : Int} {L : Ps} (g : Good L) (hL : ∀ q ∈ L, lo ≤ q.1 ∧ q.1 ≤ hi) : ∀ x ∈ textM lo hi L, 0 ≤ x := by
  intro x hx
  obtain ⟨i, hi'⟩ := List.mem_iff_getElem?.mp hx
  have l := (List.getElem?_eq_some_iff.mp hi').1
  have l2 : (textM lo hi L).length = (hi - lo + 1).toNat := by
    unfold textM
    rw [setAll_len, List.length_replicate]
  have e := textM_at g hL (k := i + lo) (by omega) (by omega)
  unfold lenAt at e
  rw [show ((i : Int) + lo - lo).toNat = i by omega, List.getD_eq_getElem?_getD, hi'] at e
  have e' : x = val L (i + lo) := e
  rw [e']
  exact val_nonneg g _
section
variable {cs : List Cmd} {goal lo hi : Int} {st : Option Int} {L : Ps}
/-- from it, and just its goal, the goal is reached -/
theorem least_gets (g : Good L) (w : Within cs lo hi) (ok : AllOk cs) (hg : 1 ≤ goal) (e : boxM cs goal = some (st, L)) (pos : ∀ n, st = some n → 1 ≤ n) :
    ∃ a', afterL (textM lo hi L) (-lo) (some (st.getD 0)) cs = some (-lo + last cs, a') ∧ ge a' goal := by
  have hL := box_within e w
  have z := w.zero
  have tl := textM_len (lo := lo) (hi := hi) (by omega) L
  have a0 : ge (some (st.getD 0)) 0 := ge_some.mpr (by
    cases st with
    | none => exact Int.le_refl 0
    | some n =>
      have := pos n rfl
      show 0 ≤ n
      omega)
  obtain ⟨a', h1, _, h2⟩ := after_char (textM_nn g hL) a0 ok hg (w.le (show -(-lo) ≤ lo by omega) (show hi ≤ (textM lo hi L).length - 1 - (-lo) by omega))
  refine ⟨a', h1, h2.mpr ⟨st, L, e, fun n en => ge_some.mpr (by rw [en]; exact Int.le_refl n), fun k => ?_⟩⟩
  by_cases h : lo ≤ k ∧ k ≤ hi
  · rw [show -lo + k = k - lo by omega, textM_at g hL h.1 h.2]
    exact Int.le_refl _
  · rw [val_off hL h]
    exact lenAt_nn (textM_nn g hL) _
/-- with a goal less by one it is not -/
theorem least_goal (g : Good L) (w : Within cs lo hi) (ok : AllOk cs) (hg : 1 ≤ goal) (e : boxM cs goal = some (st, L)) {n : Int} (es : st = some n) (hn : 1 ≤ n) :
    ∃ a', afterL (textM lo hi L) (-lo) (some (n - 1)) cs = some (-lo + last cs, a') ∧ ¬ ge a' goal := by
  have hL := box_within e w
  have z := w.zero
  have tl := textM_len (lo := lo) (hi := hi) (by omega) L
  obtain ⟨a', h1, _, h2⟩ := after_char (textM_nn g hL) (ge_some.mpr (show 0 ≤ n - 1 by omega)) ok hg (w.le (show -(-lo) ≤ lo by omega) (show hi ≤ (textM lo hi L).length - 1 - (-lo) by omega))
  refine ⟨a', h1, fun x => ?_⟩
  obtain ⟨st', L', e', h3, _⟩ := h2.mp x
  rw [e] at e'
  cases e'
  have := ge_some.mp (h3 n es)
  omega
/-- with a length less by one it is not -/
theorem least_row (g : Good L) (w : Within cs lo hi) (ok : AllOk cs) (hg : 1 ≤ goal) (e : boxM cs goal = some (st, L)) (pos : ∀ n, st = some n → 1 ≤ n) {i : Nat} (li : i < (textM lo hi L).length) (h : 0 < lenAt (textM lo hi L) i) :
    ∃ a', afterL ((textM lo hi L).set i (lenAt (textM lo hi L) i - 1)) (-lo) (some (st.getD 0)) cs = some (-lo + last cs, a') ∧ ¬ ge a' goal := by
  have hL := box_within e w
  have z := w.zero
  have tl := textM_len (lo := lo) (hi := hi) (by omega) L
  have a0 : ge (some (st.getD 0)) 0 := ge_some.mpr (by
    cases st with
    | none => exact Int.le_refl 0
    | some n =>
      have := pos n rfl
      show 0 ≤ n
      omega)
  have nn : ∀ x ∈ (textM lo hi L).set i (lenAt (textM lo hi L) i - 1), 0 ≤ x := fun x hx => by
    rcases List.mem_or_eq_of_mem_set hx with q | q
    · exact textM_nn g hL x q
    · omega
  obtain ⟨a', h1, _, h2⟩ := after_char (r := -lo) nn a0 ok hg (w.le (show -(-lo) ≤ lo by omega) (by rw [List.length_set]; omega))
  refine ⟨a', h1, fun x => ?_⟩
  obtain ⟨st', L', e', _, h4⟩ := h2.mp x
  rw [e] at e'
  cases e'
  have q := h4 (i + lo)
  rw [show -lo + (i + lo) = (i : Int) by omega] at q
  have ev := textM_at g hL (k := i + lo) (by omega) (by omega)
  rw [show (i : Int) + lo - lo = i by omega] at ev
  rw [← ev] at q
  have es : lenAt ((textM lo hi L).set i (lenAt (textM lo hi L) i - 1)) i = lenAt (textM lo hi L) i - 1 := by
    conv => lhs; unfold lenAt
    rw [Int.toNat_natCast, List.getD_eq_getElem?_getD, List.getElem?_set_self li]
    rfl
  rw [es] at q
  omega
end
end Gc

/-! running, where nothing is raised -/
namespace Gc
open PySem L2
abbrev s_check_text : Stmt := top 21
abbrev s_check_cursor : Stmt := top 22
abbrev s_run : Stmt := top 27
abbrev s_shown_column : Stmt := top 30
abbrev s_moved : Stmt := top 32
abbrev s_new_goal : Stmt := top 33
theorem at_len' {T : List Int} {r : Int} (h0 : 0 ≤ r) (h1 : r < T.length) : atI (T.map V.int) r = some (.int (lenAt T r)) := by
  have e : r = (r.toNat : Int) := by omega
  refine at_of (j := r.toNat) e ?_
  have l : r.toNat < T.length := by omega
  unfold lenAt
  rw [List.getElem?_map, List.getD_eq_getElem?_getD, List.getElem?_eq_getElem l]
  rfl
theorem minI (i j : Int) : (if j < i then j else i) = min i j := by split <;> omega
theorem maxI (i j : Int) : (if j > i then j else i) = max i j := by split <;> omega
theorem iteN1 {c A B : Prop} [Decidable c] (hc : c) (h : B) : if (!decide c) = true then A else B := by
  rw [decide_eq_true hc]
  exact iteF h
theorem iteN0 {c A B : Prop} [Decidable c] (hc : ¬ c) (h : A) : if (!decide c) = true then A else B := by
  rw [decide_eq_false hc]
  exact iteT h
def spText (K : PySem.W.Frag) : Sp := fun vs H Q _ => ∃ (t : Addr) (T : List Int), vs = [.ref t] ∧ SqL K H t (T.map V.int) ∧ T ≠ [] ∧ (∀ x ∈ T, 0 ≤ x) ∧ ∀ H', Same H H' → Q .non H'
def spCursor (K : PySem.W.Frag) : Sp := fun vs H Q _ => ∃ (n r : Int) (g : Option Int) (c : Addr), vs = [.int n, .ref c] ∧ SqT K H c [.int r, optV g] ∧ 0 ≤ r ∧ r < n ∧ ge g 0 ∧ Q .non H
def spShown : Sp := fun vs H Q _ => ∃ (t : Int) (g : Option Int), vs = [.int t, optV g] ∧ Q (.int (seen t g)) H
def spGoal (K : PySem.W.Frag) : Sp := fun vs H Q _ => ∃ (t : Int) (g : Option Int) (v : V) (c : Cmd), vs = [.int t, optV g, v] ∧ CmdAt K H v c ∧ Q (optV (aim1 t g c)) H
/-- one command: None, or the new cursor -/
def step1 (T : List Int) (r : Int) (g : Option Int) (c : Cmd) : Option (Int × Option Int) := if 0 ≤ r + c.dv ∧ r + c.dv < T.length then some (r + c.dv, aim1 (lenAt T (r + c.dv)) g c) else none
def spMoved (K : PySem.W.Frag) : Sp := fun vs H Q _ => ∃ (t b : Addr) (T : List Int) (r : Int) (g : Option Int) (v : V) (c : Cmd), vs = [.ref t, .ref b, v] ∧ SqL K H t (T.map V.int) ∧ SqT K H b [.int r, optV g] ∧ CmdAt K H v c ∧
  (step1 T r g c = none → Q .non H) ∧ ∀ r' g', step1 T r g c = some (r', g') → ∀ p, H p = none → Q (.ref p) (upd H p (.tup [.int r', optV g']))
def spRun (K : PySem.W.Frag) : Sp := fun vs H Q _ => ∃ (t b l : Addr) (T : List Int) (r : Int) (g : Option Int) (xs : List V) (cs : List Cmd) (r' : Int) (g' : Option Int), vs = [.ref t, .ref b, .ref l] ∧ SqL K H t (T.map V.int) ∧ SqT K H b [.int r, optV g] ∧ SqL K H l xs ∧ CmdsOf K H xs cs ∧
  (∀ x ∈ T, 0 ≤ x) ∧ 0 ≤ r ∧ r < T.length ∧ ge g 0 ∧ AllOk cs ∧ cs.length ≤ 10000 ∧ afterL T r g cs = some (r', g') ∧ ∀ (H' : Hp) (p : Addr), Same H H' → SqT K H' p [.int r', optV g'] → Q (.ref p) H'
theorem aim1_vert {t t' : Int} {g : Option Int} {c : Cmd} (h : c.vert = true) : aim1 t g c = g := by cases c <;> first | rfl | cases h
theorem dv_flat {c : Cmd} (h : ¬ c.vert = true) : c.dv = 0 := by cases c <;> first | rfl | exact absurd rfl h
theorem afterL_cons {T : List Int} {r : Int} {g : Option Int} {c : Cmd} {cs : List Cmd} (h0 : 0 ≤ r) (h1 : r < T.length) : afterL T r g (c :: cs) = (step1 T r g c).bind fun q => afterL T q.1 q.2 cs := by
  unfold step1
  simp only [afterL]
  by_cases v : c.vert = true
  · rw [if_pos v]
    by_cases i : 0 ≤ r + c.dv ∧ r + c.dv < T.length
    · rw [if_pos i, if_pos i, aim1_vert (t' := 0) v]
      rfl
    · rw [if_neg i, if_neg i]
      rfl
  · rw [if_neg v, dv_flat v, Int.add_zero, if_pos ⟨h0, h1⟩]
    rfl
theorem step1_in {T : List Int} {r r' : Int} {g g' : Option Int} {c : Cmd} (h : step1 T r g c = some (r', g')) : 0 ≤ r' ∧ r' < T.length := by
  unfold step1 at h
  split at h
  · rename_i i
    cases h
    exact i
  · cases h
section
variable {P : Program} {w : World} {K : PySem.W.Frag} {mg : Str → Option Value} {base : Heap} {wo wn : Addr}
theorem sc_check_text : FnScope ["text", "index", "length"] ["text"] (defScope s_check_text) := ⟨rfl, rfl, rfl, by decide +kernel, rfl, by decide +kernel, by decide +kernel⟩
theorem ok_check_text {f : Addr} {fd : FuncData} (F : Fun K "check_text" "check_text" s_check_text f fd) (T : TxtB K mg wo wn) : FnOk P w K mg base CX0 1 f fd ["text"] (spText K) := by
  refine F.ok sc_check_text (fun vs H Q E h => ?_) (fun cdv A outer s H vs Q E hr h => ?_)
  · obtain ⟨t, T, rfl, _⟩ := h
    rfl
  · obtain ⟨t, tx, rfl, ht, ne, nn, k⟩ := h
    refine ⟨_, (pss_cons (ps_if (pt_not (pt_truth (pv 0) (fun _ => rfl))) (pss_one ps_never) pss_nil)
      (pss_one (ps_for PassesOwn.never rfl (pi_enum (by rfl) T.enumerate (pa_cons (pv 0) pa_nil)) (pg_tup rfl (pgs_cons (pg_name (i := 1) sc_check_text.nd rfl (Or.inl rfl)) (pgs_cons (pg_name (i := 2) sc_check_text.nd rfl (Or.inl rfl)) pgs_nil))) (pss_one (ps_if (pt_cmpR op_lt (pv 2) pe_int (nomark _)) (pss_one ps_never) pss_nil))))), ?_⟩
    refine ⟨_, rfl, true, .inl ⟨_, ht, ?_⟩, iteF ?_⟩
    · cases tx with
      | nil => exact absurd rfl ne
      | cons x r => rfl
    refine ⟨_, rfl, t, _, rfl, ht, for_it (walk_enum (K := K) (a := t) (xs := tx.map V.int)) (fun i σ H' => ∃ v1 v2 : Option V, σ = [some (.ref t), v1, v2] ∧ Same H H')
      ⟨none, none, rfl, Same.refl H⟩ (fun i σ H' _ ⟨_, _, _, e⟩ => e.seq ht) (fun i x σ H1 H2 hi h y => ?_) (fun σ H1 h => ?_)⟩
    · obtain ⟨v1, v2, rfl, e⟩ := h
      obtain ⟨T1, x1, y1, rfl, nT, rfl, e1, e2⟩ := y
      obtain ⟨z, hz, rfl⟩ : ∃ z, tx[i]? = some z ∧ y1 = .int z := by
        have e3 : (tx.map V.int)[i]? = some y1 := e2
        rw [List.getElem?_map] at e3
        cases q : tx[i]? with
        | none =>
          rw [q] at e3
          cases e3
        | some z =>
          rw [q] at e3
          exact ⟨z, rfl, (Option.some.inj e3).symm⟩
      have z0 := nn z (List.mem_of_getElem? hz)
      refine ⟨T1, _, rfl, SqT.of upd_same, rfl, _, _, rfl, _, _, rfl, rfl, ?_⟩
      refine ⟨_, rfl, _, _, rfl, rfl, _, rfl, ite2 (fun c => absurd (of_decide_eq_true c) (by omega)) (fun _ => ?_)⟩
      exact ⟨_, _, rfl, same_upd e nT⟩
    · obtain ⟨v1, v2, rfl, e⟩ := h
      exact k _ e
theorem sc_check_cursor : FnScope ["lines", "cursor", "row", "goal"] ["lines", "cursor"] (defScope s_check_cursor) := ⟨rfl, rfl, rfl, by decide +kernel, rfl, by decide +kernel, by decide +kernel⟩
theorem ok_check_cursor {f : Addr} {fd : FuncData} (F : Fun K "check_cursor" "check_cursor" s_check_cursor f fd) : FnOk P w K mg base CX0 1 f fd ["lines", "cursor"] (spCursor K) := by
  refine F.ok sc_check_cursor (fun vs H Q E h => ?_) (fun cdv A outer s H vs Q E hr h => ?_)
  · obtain ⟨n, r, g, c, rfl, _⟩ := h
    rfl
  · obtain ⟨n, r, g, c, rfl, hc, r0, r1, g0, k⟩ := h
    refine ⟨_, (pss_cons (ps_asg (pv 1) (pg_tup rfl (pgs_cons (pg_name (i := 2) sc_check_cursor.nd rfl (Or.inl rfl)) (pgs_cons (pg_name (i := 3) sc_check_cursor.nd rfl (Or.inl rfl)) pgs_nil))))
      (pss_one (ps_if (PW.pt (pw_or (pt_not (pt_chain op_le op_lt pe_int (pv 2) (pv 0))) (pw_or1 (PW.pt (pw_and (pt_cmpR op_notN (pv 3) pe_non (nomark _)) (pw_and1 (pt_cmpR op_lt (pv 3) pe_int (nomark _)))))))) (pss_one ps_never) pss_nil))), ?_⟩
    refine ⟨_, rfl, c, _, rfl, hc, rfl, _, _, rfl, _, _, rfl, rfl, ?_⟩
    refine ⟨_, rfl, _, _, rfl, rfl, _, rfl, ite2 (fun _ => ?_) (fun c => absurd (decide_eq_true r0) c)⟩
    refine ⟨_, rfl, _, _, rfl, rfl, _, rfl, ?_⟩
    refine iteN1 r1 ?_
    cases g with
    | none => exact ⟨_, rfl, rfl, _, rfl, iteF (iteF k)⟩
    | some y =>
      have y0 := ge_some.mp g0
      refine ⟨_, rfl, rfl, _, rfl, iteT ?_⟩
      refine ⟨_, rfl, _, _, rfl, rfl, _, rfl, ite2 (fun c => absurd (of_decide_eq_true c) (by omega)) (fun _ => k)⟩
theorem sc_shown_column : FnScope ["length", "goal"] ["length", "goal"] (defScope s_shown_column) := ⟨rfl, rfl, rfl, by decide +kernel, rfl, by decide +kernel, by decide +kernel⟩
theorem ok_shown_column {f : Addr} {fd : FuncData} (F : Fun K "shown_column" "shown_column" s_shown_column f fd) (T : TxtB K mg wo wn) : FnOk P w K mg base CX0 1 f fd ["length", "goal"] spShown := by
  refine F.ok sc_shown_column (fun vs H Q E h => ?_) (fun cdv A outer s H vs Q E hr h => ?_)
  · obtain ⟨t, g, rfl, _⟩ := h
    rfl
  · obtain ⟨t, g, rfl, k⟩ := h
    refine ⟨_, (pss_one (ps_ret (pe_ifExp (pt_cmpR op_isN (pv 1) pe_non (nomark _)) (pv 0) (pe_callB (call_min2 rfl) (by rfl) T.min (by decide +kernel) (pa_cons (pv 1) (pa_cons (pv 0) pa_nil)))))), ?_⟩
    cases g with
    | none => exact ⟨_, rfl, rfl, _, rfl, iteT ⟨_, rfl, k⟩⟩
    | some y =>
      refine ⟨_, rfl, rfl, _, rfl, iteF ?_⟩
      refine ⟨_, rfl, _, rfl, _, _, rfl, ?_⟩
      show Q (.int (if t < y then t else y)) H
      rw [minI]
      exact k
theorem sc_new_goal : FnScope ["length", "goal", "command"] ["length", "goal", "command"] (defScope s_new_goal) := ⟨rfl, rfl, rfl, by decide +kernel, rfl, by decide +kernel, by decide +kernel⟩
theorem ok_new_goal {f : Addr} {fd : FuncData} (F : Fun K "new_goal" "new_goal" s_new_goal f fd) (T : TxtB K mg wo wn) (c_shown_column : Cal P w K mg base 1 "shown_column" spShown) : FnOk P w K mg base CX0 2 f fd ["length", "goal", "command"] (spGoal K) := by
  refine F.ok sc_new_goal (fun vs H Q E h => ?_) (fun cdv A outer s H vs Q E hr h => ?_)
  · obtain ⟨t, g, v, c, rfl, _⟩ := h
    rfl
  · obtain ⟨t, g, v, c, rfl, ⟨a, rfl, hc⟩, k⟩ := h
    refine ⟨_, (pss_one (ps_match (pe_ix ix_tup (pv 2) pe_int (fun _ _ => rfl)) (mc_str (pss_one (ps_ret pe_int)) (mc_str (pss_one (ps_ret pe_non)) (mc_str (pss_one (ps_ret (pe_callB (call_min2 rfl) (by rfl) T.min (by decide +kernel) (pa_cons (pe_op op_add (pe_cal c_shown_column hr (by decide) (by rfl) (pa_cons (pv 0) (pa_cons (pv 1) pa_nil))) (pe_ix ix_tup (pv 2) pe_int (fun _ _ => rfl))) (pa_cons (pv 0) pa_nil))))) (mc_str (pss_one (ps_ret (pe_callB (call_max2 rfl) (by rfl) T.max (by decide +kernel) (pa_cons (pe_op op_sub (pe_cal c_shown_column hr (by decide) (by rfl) (pa_cons (pv 0) (pa_cons (pv 1) pa_nil))) (pe_ix ix_tup (pv 2) pe_int (fun _ _ => rfl))) (pa_cons pe_int pa_nil))))) (mc_any (pss_one (ps_ret (pv 1)))))))))), ?_⟩
    cases c with
    | home => exact ⟨_, rfl, a, _, 0, _, rfl, rfl, hc, rfl, m_yes (by decide +kernel) k⟩
    | stop => exact ⟨_, rfl, a, _, 0, _, rfl, rfl, hc, rfl, m_no (by decide +kernel) (m_yes (by decide +kernel) k)⟩
    | right n =>
      refine ⟨_, rfl, a, _, 0, _, rfl, rfl, hc, rfl, m_no (by decide +kernel) (m_no (by decide +kernel) (m_yes (by decide +kernel) ?_))⟩
      refine ⟨_, rfl, _, rfl, t, g, rfl, _, rfl, a, _, 1, _, rfl, rfl, hc, rfl, _, _, rfl, rfl, _, rfl, _, _, rfl, ?_⟩
      show Q (.int (if t < seen t g + n then t else seen t g + n)) H
      rw [minI]
      exact k
    | left n =>
      refine ⟨_, rfl, a, _, 0, _, rfl, rfl, hc, rfl, m_no (by decide +kernel) (m_no (by decide +kernel) (m_no (by decide +kernel) (m_yes (by decide +kernel) ?_)))⟩
      refine ⟨_, rfl, _, rfl, t, g, rfl, _, rfl, a, _, 1, _, rfl, rfl, hc, rfl, _, _, rfl, rfl, _, _, rfl, ?_⟩
      show Q (.int (if 0 > seen t g - n then 0 else seen t g - n)) H
      rw [maxI, Int.max_comm]
      exact k
    | down n => exact ⟨_, rfl, a, _, 0, _, rfl, rfl, hc, rfl, m_no (by decide +kernel) (m_no (by decide +kernel) (m_no (by decide +kernel) (m_no (by decide +kernel) ⟨_, rfl, k⟩)))⟩
    | up n => exact ⟨_, rfl, a, _, 0, _, rfl, rfl, hc, rfl, m_no (by decide +kernel) (m_no (by decide +kernel) (m_no (by decide +kernel) (m_no (by decide +kernel) ⟨_, rfl, k⟩)))⟩
theorem sc_moved : FnScope ["text", "cursor", "command", "row"] ["text", "cursor", "command"] (defScope s_moved) := ⟨rfl, rfl, rfl, by decide +kernel, rfl, by decide +kernel, by decide +kernel⟩
theorem ok_moved {f : Addr} {fd : FuncData} (F : Fun K "moved" "moved" s_moved f fd) (T : TxtB K mg wo wn) (c_row_change : Cal P w K mg base 1 "row_change" (spRow K)) (c_new_goal : Cal P w K mg base 2 "new_goal" (spGoal K)) : FnOk P w K mg base CX0 3 f fd ["text", "cursor", "command"] (spMoved K) := by
  refine F.ok sc_moved (fun vs H Q E h => ?_) (fun cdv A outer s H vs Q E hr h => ?_)
  · obtain ⟨t, b, tx, r, g, v, c, rfl, _⟩ := h
    rfl
  · obtain ⟨t, b, tx, r, g, v, c, rfl, ht, hb, hv, kn, ks⟩ := h
    refine ⟨_, (pss_cons (ps_set (i := 3) sc_moved.nd rfl (Or.inl rfl) (pe_op op_add (pe_ix ix_tup (pv 1) pe_int (fun _ _ => rfl)) (pe_cal c_row_change hr (by decide) (by rfl) (pa_cons (pv 2) pa_nil))))
      (pss_cons (ps_if (pt_not (pt_chain op_le op_lt pe_int (pv 3) (pe_callB call_len_seq (by rfl) T.len (by decide +kernel) (pa_cons (pv 0) pa_nil)))) (pss_one (ps_ret pe_non)) pss_nil)
      (pss_one (ps_ret (pe_tup (pa_cons (pv 3) (pa_cons (pe_cal c_new_goal hr (by decide) (by rfl) (pa_cons (pe_ix ix_list (pv 0) (pv 3) (fun _ _ => rfl)) (pa_cons (pe_ix ix_tup (pv 1) pe_int (fun _ _ => rfl)) (pa_cons (pv 2) pa_nil)))) pa_nil))))))), ?_⟩
    refine ⟨_, rfl, b, _, 0, _, rfl, rfl, hb, rfl, _, rfl, v, c, rfl, hv, _, _, rfl, rfl, ?_⟩
    have out : ¬ (0 ≤ r + c.dv ∧ r + c.dv < tx.length) → Q .non H := fun z => kn (by unfold step1; rw [if_neg z])
    refine ⟨_, rfl, _, _, rfl, rfl, _, rfl, ite2 (fun c0 => ?_) (fun c0 => ?_)⟩
    · have c0' : 0 ≤ r + c.dv := of_decide_eq_true c0
      refine ⟨_, rfl, t, _, rfl, .inl ht, _, _, rfl, rfl, _, rfl, ?_⟩
      by_cases c1 : r + c.dv < tx.length
      · refine iteN1 (by rw [List.length_map]; exact c1) ?_
        refine ⟨_, rfl, _, rfl, _, rfl, t, _, _, _, rfl, rfl, ht, at_len' c0' c1, _, rfl, b, _, 1, _, rfl, rfl, hb, rfl, _, rfl, lenAt tx (r + c.dv), g, v, c, rfl, hv, (by show 2 ≤ sizeLine; decide), fun p hp => ?_⟩
        exact ks _ _ (by unfold step1; rw [if_pos ⟨c0', c1⟩]) p hp
      · refine iteN0 (by rw [List.length_map]; exact c1) ?_
        exact out fun z => c1 z.2
    · refine ⟨_, rfl, ?_⟩
      refine iteT (B := _) ?_
      exact out fun z => c0 (decide_eq_true z.1)
theorem sc_run : FnScope ["text", "cursor", "commands", "place", "index", "command"] ["text", "cursor", "commands"] (defScope s_run) := ⟨rfl, rfl, rfl, by decide +kernel, rfl, by decide +kernel, by decide +kernel⟩
theorem ok_run {f : Addr} {fd : FuncData} (F : Fun K "run" "run" s_run f fd) (T : TxtB K mg wo wn) (c_check_text : Cal P w K mg base 1 "check_text" (spText K)) (c_check_cursor : Cal P w K mg base 1 "check_cursor" (spCursor K))
    (c_check_commands : Cal P w K mg base 3 "check_commands" (spCheck K)) (c_moved : Cal P w K mg base 3 "moved" (spMoved K)) : FnOk P w K mg base CX0 4 f fd ["text", "cursor", "commands"] (spRun K) := by
  refine F.ok sc_run (fun vs H Q E h => ?_) (fun cdv A outer s H vs Q E hr h => ?_)
  · obtain ⟨t, b, l, tx, r, g, xs, cs, r', g', rfl, _⟩ := h
    rfl
  · obtain ⟨t, b, l, tx, r, g, xs, cs, r', g', rfl, ht, hb, hl, hcs, nn, r0, r1, g0, ok, ln, hrun, k⟩ := h
    refine ⟨_, (pss_cons (ps_expr (pe_cal c_check_text hr (by decide) (by rfl) (pa_cons (pv 0) pa_nil)))
      (pss_cons (ps_expr (pe_cal c_check_cursor hr (by decide) (by rfl) (pa_cons (pe_callB call_len_seq (by rfl) T.len (by decide +kernel) (pa_cons (pv 0) pa_nil)) (pa_cons (pv 1) pa_nil))))
      (pss_cons (ps_expr (pe_cal c_check_commands hr (by decide) (by rfl) (pa_cons (pv 2) pa_nil)))
      (pss_cons (ps_set (i := 3) sc_run.nd rfl (Or.inl rfl) (pv 1))
      (pss_cons (ps_for PassesOwn.never rfl (pi_enum (by rfl) T.enumerate (pa_cons (pv 2) pa_nil)) (pg_tup rfl (pgs_cons (pg_name (i := 4) sc_run.nd rfl (Or.inl rfl)) (pgs_cons (pg_name (i := 5) sc_run.nd rfl (Or.inl rfl)) pgs_nil))) (pss_cons (ps_set (i := 3) sc_run.nd rfl (Or.inl rfl) (pe_cal c_moved hr (by decide) (by rfl) (pa_cons (pv 0) (pa_cons (pv 3) (pa_cons (pv 5) pa_nil)))))
      (pss_one (ps_if (pt_cmpR op_isN (pv 3) pe_non (nomark _)) (pss_one ps_never) pss_nil))))
      (pss_one (ps_ret (pv 3)))))))), ?_⟩
    refine ⟨_, rfl, t, tx, rfl, ht, (by intro z; subst z; simp at r1; omega), nn, fun H1 e1 => ?_⟩
    refine ⟨_, rfl, t, _, rfl, .inl (e1.seq ht), _, rfl, (tx.map V.int).length, r, g, b, rfl, seq_t e1 hb, r0, by rw [List.length_map]; exact r1, g0, ?_⟩
    refine ⟨_, rfl, l, xs, cs, rfl, e1.seq hl, hcs.same e1, ok, ln, fun H2 e2 => ?_⟩
    have e12 := e1.trans e2
    refine ⟨_, rfl, ?_⟩
    refine ⟨_, rfl, l, _, rfl, e12.seq hl, for_it (walk_enum (K := K) (a := l) (xs := xs)) (fun i σ H' => ∃ (p : Addr) (rr : Int) (gg : Option Int) (v1 v2 : Option V), σ = [some (.ref t), some (.ref b), some (.ref l), some (.ref p), v1, v2] ∧ Same H H' ∧ SqT K H' p [.int rr, optV gg] ∧ 0 ≤ rr ∧ rr < tx.length ∧ afterL tx rr gg (cs.drop i) = some (r', g'))
      ⟨b, r, g, none, none, rfl, e12, seq_t e12 hb, r0, r1, hrun⟩ (fun i σ H' _ ⟨_, _, _, _, _, _, e, _⟩ => e.seq hl) (fun i x σ H3 H4 hi h y => ?_) (fun σ H3 h => ?_)⟩
    · obtain ⟨p, rr, gg, v1, v2, rfl, e3, hp, q0, q1, hgo⟩ := h
      obtain ⟨T1, x1, y1, rfl, nT, rfl, ex1, ex2⟩ := y
      obtain ⟨c, hc, hca⟩ := paired_at hcs ex2
      have hdrop : cs.drop i = c :: cs.drop (i + 1) := by
        obtain ⟨h1, h2⟩ := List.getElem?_eq_some_iff.mp hc
        rw [List.drop_eq_getElem_cons h1, h2]
      rw [hdrop, afterL_cons q0 q1] at hgo
      have eT : Same H3 (upd H3 T1 (.tup [x1, y1])) := same_upd (Same.refl _) nT
      have eHT := e3.trans eT
      obtain ⟨⟨r2, g2⟩, hst, hrest⟩ := Option.bind_eq_some_iff.mp hgo
      have hin := step1_in hst
      refine ⟨T1, _, rfl, SqT.of upd_same, rfl, _, _, rfl, _, _, rfl, rfl, ?_⟩
      refine ⟨_, rfl, _, rfl, _, rfl, t, p, tx, rr, gg, y1, c, rfl, eHT.seq ht, seq_t eT hp, hca.same eHT, (fun z => by rw [hst] at z; cases z), fun r3 g3 z p3 np3 => ?_⟩
      rw [hst] at z
      cases z
      have e4 : Same (upd H3 T1 (.tup [x1, y1])) (upd (upd H3 T1 (.tup [x1, y1])) p3 (.tup [.int r2, optV g2])) := same_upd (Same.refl _) np3
      refine ⟨_, rfl, rfl, _, rfl, iteF ?_⟩
      exact ⟨p3, r2, g2, _, _, rfl, eHT.trans e4, SqT.of upd_same, hin.1, hin.2, hrest⟩
    · obtain ⟨p, rr, gg, v1, v2, rfl, e3, hp, q0, q1, hgo⟩ := h
      rw [hcs.len, List.drop_length] at hgo
      have z : (rr, gg) = (r', g') := Option.some.inj hgo
      cases z
      exact ⟨_, rfl, k _ p e3 hp⟩
end
end Gc

/-! what a list of commands does to all goals on one text: a number added, kept between two bounds -/
namespace Gc
/-- the goal None is the greatest -/
def chg1 : Cmd → Int
  | .right n => n
  | .left n => -n
  | _ => 0
def chg : List Cmd → Int
  | [] => 0
  | c :: cs => chg1 c + chg cs
theorem chg_snoc (cs : List Cmd) (c : Cmd) : chg (cs ++ [c]) = chg cs + chg1 c := by
  induction cs with
  | nil => show chg1 c + 0 = 0 + chg1 c; omega
  | cons d cs ih => show chg1 d + chg (cs ++ [c]) = chg1 d + chg cs + chg1 c; rw [ih]; omega
/-- where the goal x goes, if 0 goes to lo, None to hi, and d is added -/
def Clamp (lo hi : Option Int) (d x : Int) (g : Option Int) : Prop := match lo, hi, g with
  | none, none, none => True
  | some l, none, some y => y = max l (x + d)
  | some l, some h, some y => l ≤ h ∧ y = max l (min h (x + d))
  | _, _, _ => False
theorem clamp1 {t : Int} (ht : 0 ≤ t) {lo hi : Option Int} {d x : Int} {g : Option Int} (h : Clamp lo hi d x g) (c : Cmd) (ok : c.ok) : Clamp (aim1 t lo c) (aim1 t hi c) (d + chg1 c) x (aim1 t g c) := by
  unfold Clamp at h
  cases c with
  | down n =>
    show Clamp lo hi (d + 0) x g
    rw [Int.add_zero]
    exact h
  | up n =>
    show Clamp lo hi (d + 0) x g
    rw [Int.add_zero]
    exact h
  | home => exact ⟨Int.le_refl 0, by omega⟩
  | stop => trivial
  | right n =>
    have o : 1 ≤ n := ok
    match lo, hi, g, h with
    | none, none, none, _ =>
      show min (t + n) t ≤ min (t + n) t ∧ min (t + n) t = max (min (t + n) t) (min (min (t + n) t) (x + (d + n)))
      omega
    | some l, none, some y, h =>
      have h' : y = max l (x + d) := h
      show min (min l t + n) t ≤ min (t + n) t ∧ min (min y t + n) t = max (min (min l t + n) t) (min (min (t + n) t) (x + (d + n)))
      omega
    | some l, some e, some y, h =>
      obtain ⟨h1, h2⟩ : l ≤ e ∧ y = max l (min e (x + d)) := h
      show min (min l t + n) t ≤ min (min e t + n) t ∧ min (min y t + n) t = max (min (min l t + n) t) (min (min (min e t + n) t) (x + (d + n)))
      omega
  | left n =>
    have o : 1 ≤ n := ok
    match lo, hi, g, h with
    | none, none, none, _ =>
      show max 0 (t - n) ≤ max 0 (t - n) ∧ max 0 (t - n) = max (max 0 (t - n)) (min (max 0 (t - n)) (x + (d + -n)))
      omega
    | some l, none, some y, h =>
      have h' : y = max l (x + d) := h
      show max 0 (min l t - n) ≤ max 0 (t - n) ∧ max 0 (min y t - n) = max (max 0 (min l t - n)) (min (max 0 (t - n)) (x + (d + -n)))
      omega
    | some l, some e, some y, h =>
      obtain ⟨h1, h2⟩ : l ≤ e ∧ y = max l (min e (x + d)) := h
      show max 0 (min l t - n) ≤ max 0 (min e t - n) ∧ max 0 (min y t - n) = max (max 0 (min l t - n)) (min (max 0 (min e t - n)) (x + (d + -n)))
      omega
theorem clampF {T : Int → Int} (hT : ∀ k, 0 ≤ T k) {x : Int} (x0 : 0 ≤ x) : ∀ {cs : List Cmd} {r : Int} {lo hi : Option Int} {d : Int} {g : Option Int}, AllOk cs → Clamp lo hi d x g → Clamp (aimF T r lo cs) (aimF T r hi cs) (d + chg cs) x (aimF T r g cs)
  | [], r, lo, hi, d, g, _, h => by
    show Clamp lo hi (d + 0) x g
    rw [Int.add_zero]
    exact h
  | c :: cs, r, lo, hi, d, g, ok, h => by
    have q := clampF hT x0 (cs := cs) (r := r + c.dv) (fun e he => ok e (List.mem_cons_of_mem _ he)) (clamp1 (hT r) h c (ok c List.mem_cons_self))
    rw [show d + chg (c :: cs) = d + chg1 c + chg cs from by show d + (chg1 c + chg cs) = _; omega]
    exact q
theorem clamp_all {T : Int → Int} (hT : ∀ k, 0 ≤ T k) {cs : List Cmd} (ok : AllOk cs) (r : Int) {x : Int} (x0 : 0 ≤ x) : Clamp (aimF T r (some 0) cs) (aimF T r none cs) (chg cs) x (aimF T r (some x) cs) := by
  have q := clampF hT x0 (cs := cs) (r := r) (lo := some 0) (hi := none) (d := 0) (g := some x) ok (by show x = max 0 (x + 0); omega)
  rw [Int.zero_add] at q
  exact q
/-- from a goal of at least all lines on, it is as from None, if that leads to a column -/
theorem aimF_far {T : Int → Int} {B : Int} (hB : ∀ k, T k ≤ B) {x : Int} (hx : B ≤ x) : ∀ {cs : List Cmd} {r : Int}, (aimF T r (some x) cs = aimF T r none cs) ∨ (aimF T r (some x) cs = some x ∧ aimF T r none cs = none ∧ chg cs = 0)
  | [], r => .inr ⟨rfl, rfl, rfl⟩
  | c :: cs, r => by
    have same : ∀ a : Option Int, aim1 (T r) (some x) c = a → aim1 (T r) none c = a → (aimF T r (some x) (c :: cs) = aimF T r none (c :: cs)) := fun a e1 e2 => by
      show aimF T (r + c.dv) (aim1 (T r) (some x) c) cs = aimF T (r + c.dv) (aim1 (T r) none c) cs
      rw [e1, e2]
    have sx : seen (T r) (some x) = seen (T r) none := by
      have := hB r
      show min x (T r) = T r
      omega
    cases c with
    | right n => exact .inl (same _ rfl (by show some (min (seen (T r) none + n) (T r)) = some (min (seen (T r) (some x) + n) (T r)); rw [sx]))
    | left n => exact .inl (same _ rfl (by show some (max 0 (seen (T r) none - n)) = some (max 0 (seen (T r) (some x) - n)); rw [sx]))
    | home => exact .inl (same _ rfl rfl)
    | stop => exact .inl (same _ rfl rfl)
    | down n =>
      rcases aimF_far hB hx (cs := cs) (r := r + n) with e | ⟨e1, e2, e3⟩
      · exact .inl e
      · exact .inr ⟨e1, e2, by show 0 + chg cs = 0; omega⟩
    | up n =>
      rcases aimF_far hB hx (cs := cs) (r := r + -n) with e | ⟨e1, e2, e3⟩
      · exact .inl e
      · exact .inr ⟨e1, e2, by show 0 + chg cs = 0; omega⟩
end Gc

/-! commands repeated in a row: one run, the bounds and the change tell them all -/
namespace Gc
def iterA (f : Option Int → Option Int) : Nat → Option Int → Option Int
  | 0, g => g
  | k + 1, g => iterA f k (f g)
/-- the goal behind m further runs, told by the first one's goal -/
def tellM (lo hi : Option Int) (d : Int) (m : Nat) : Option Int → Option Int
  | none => none
  | some y => match hi with
    | none => some (max (y + m * d) (lo.getD 0))
    | some h => some (min (max (y + m * d) (lo.getD 0)) h)
/-- a goal that a run may leave -/
def Img (lo hi : Option Int) : Option Int → Prop
  | none => hi = none
  | some y => ∃ l, lo = some l ∧ l ≤ y ∧ ∀ h, hi = some h → y ≤ h ∧ l ≤ h
theorem clamp_img {lo hi : Option Int} {d x : Int} {g : Option Int} (h : Clamp lo hi d x g) : Img lo hi g := by
  unfold Clamp at h
  split at h
  · rfl
  · exact ⟨_, rfl, by omega, fun _ z => nomatch z⟩
  · obtain ⟨h1, h2⟩ := h
    exact ⟨_, rfl, by omega, fun _ z => by cases z; omega⟩
  · exact h.elim
theorem tell_iter {f : Option Int → Option Int} {d : Int} {lo hi : Option Int} (fn : f none = hi) (hc : ∀ x, 0 ≤ x → Clamp lo hi d x (f (some x))) (l0 : ∀ l, lo = some l → 0 ≤ l) : ∀ (m : Nat) (g : Option Int), Img lo hi g → iterA f m g = tellM lo hi d m g
  | 0, g, hg => by
    show g = tellM lo hi d 0 g
    cases g with
    | none => rfl
    | some y =>
      obtain ⟨l, rfl, ly, hh⟩ := hg
      cases hi with
      | none =>
        show some y = some (max (y + ((0 : Nat) : Int) * d) l)
        rw [show ((0 : Nat) : Int) * d = 0 by simp]
        congr 1
        omega
      | some h =>
        have := hh h rfl
        show some y = some (min (max (y + ((0 : Nat) : Int) * d) l) h)
        rw [show ((0 : Nat) : Int) * d = 0 by simp]
        congr 1
        omega
  | m + 1, g, hg => by
    show iterA f m (f g) = tellM lo hi d (m + 1) g
    cases g with
    | none =>
      have hn : hi = none := hg
      rw [fn, hn, tell_iter (by rw [fn]; exact hn.symm ▸ rfl) (hn ▸ hc) l0 m none rfl]
      rfl
    | some y =>
      obtain ⟨l, rfl, ly, hh⟩ := hg
      have y0 : 0 ≤ y := Int.le_trans (l0 l rfl) ly
      have c := hc y y0
      rw [tell_iter fn hc l0 m _ (clamp_img c)]
      have md : ((m + 1 : Nat) : Int) * d = m * d + d := by rw [Int.natCast_add, Int.add_mul]; simp
      have up : 0 ≤ d → 0 ≤ (m : Int) * d := fun q => Int.mul_nonneg (Int.natCast_nonneg m) q
      have dn : d ≤ 0 → (m : Int) * d ≤ 0 := fun q => Int.mul_nonpos_of_nonneg_of_nonpos (Int.natCast_nonneg m) q
      cases e : f (some y) with
      | none =>
        rw [e] at c
        unfold Clamp at c
        cases hi <;> exact c.elim
      | some y' =>
        rw [e] at c
        cases hi with
        | none =>
          have c' : y' = max l (y + d) := c
          show some (max (y' + (m : Int) * d) l) = some (max (y + ((m + 1 : Nat) : Int) * d) l)
          rw [md]
          generalize (m : Int) * d = t at up dn ⊢
          congr 1
          omega
        | some h =>
          obtain ⟨c1, c2⟩ : l ≤ h ∧ y' = max l (min h (y + d)) := c
          have yh := (hh h rfl).1
          show some (min (max (y' + (m : Int) * d) l) h) = some (min (max (y + ((m + 1 : Nat) : Int) * d) l) h)
          rw [md]
          generalize (m : Int) * d = t at up dn ⊢
          congr 1
          omega
end Gc

/-! running key by key, where it fails, and again and again -/
namespace Gc
/-- one key -/
def stepP (T : List Int) (r : Int) (g : Option Int) (c : Cmd) : Option (Int × Option Int) := if c.vert = true then (if 0 ≤ r + c.dv ∧ r + c.dv < T.length then some (r + c.dv, g) else none) else some (r, aim1 (lenAt T r) g c)
theorem afterL_step (T : List Int) (r : Int) (g : Option Int) (c : Cmd) (cs : List Cmd) : afterL T r g (c :: cs) = (stepP T r g c).bind fun x => afterL T x.1 x.2 cs := by
  unfold stepP
  simp only [afterL]
  by_cases cv : c.vert = true
  · rw [if_pos cv, if_pos cv]
    split <;> rfl
  · rw [if_neg cv, if_neg cv]
    rfl
/-- the index of the first key that leaves the text -/
def failAt (T : List Int) : Int → Option Int → List Cmd → Option Nat
  | _, _, [] => none
  | r, g, c :: cs => match stepP T r g c with
    | none => some 0
    | some x => (failAt T x.1 x.2 cs).map (· + 1)
theorem fail_step (T : List Int) (r : Int) (g : Option Int) (c : Cmd) (cs : List Cmd) : failAt T r g (c :: cs) = match stepP T r g c with
    | none => some 0
    | some x => (failAt T x.1 x.2 cs).map (· + 1) := rfl
theorem step_row {T : List Int} {r : Int} {g : Option Int} {c : Cmd} {x : Int × Option Int} (r0 : 0 ≤ r) (r1 : r < T.length) (h : stepP T r g c = some x) : 0 ≤ x.1 ∧ x.1 < T.length := by
  unfold stepP at h
  split at h
  · split at h
    · rename_i q
      cases h
      exact q
    · cases h
  · cases h
    exact ⟨r0, r1⟩
theorem fail_none {T : List Int} : ∀ {cs : List Cmd} {r : Int} {g : Option Int}, failAt T r g cs = none ↔ afterL T r g cs ≠ none
  | [], r, g => ⟨fun _ z => (nomatch z), fun _ => rfl⟩
  | c :: cs, r, g => by
    rw [afterL_step]
    unfold failAt
    cases stepP T r g c with
    | none => simp
    | some x =>
      have ih := fail_none (T := T) (cs := cs) (r := x.1) (g := x.2)
      show (failAt T x.1 x.2 cs).map (· + 1) = none ↔ afterL T x.1 x.2 cs ≠ none
      rw [Option.map_eq_none_iff]
      exact ih
def repP (T : List Int) (cs : List Cmd) : Nat → Int → Option Int → Nat ⊕ (Int × Option Int)
  | 0, r, g => .inr (r, g)
  | k + 1, r, g => match failAt T r g cs with
    | some n => .inl n
    | none => match afterL T r g cs with
      | some x => repP T cs k x.1 x.2
      | none => .inl 0
theorem repP_step (T : List Int) (cs : List Cmd) (k : Nat) (r : Int) (g : Option Int) : repP T cs (k + 1) r g = match failAt T r g cs with
    | some n => .inl n
    | none => match afterL T r g cs with
      | some x => repP T cs k x.1 x.2
      | none => .inl 0 := rfl
theorem after_row {T : List Int} : ∀ {cs : List Cmd} {r : Int} {g : Option Int} {x : Int × Option Int}, 0 ≤ r → r < T.length → afterL T r g cs = some x → 0 ≤ x.1 ∧ x.1 < T.length
  | [], r, g, x, h0, h1, h => by
    cases h
    exact ⟨h0, h1⟩
  | c :: cs, r, g, x, h0, h1, h => by
    rw [afterL_step] at h
    cases e : stepP T r g c with
    | none =>
      rw [e] at h
      cases h
    | some y =>
      rw [e] at h
      obtain ⟨a, b⟩ := step_row h0 h1 e
      exact after_row a b h
theorem after_nn {T : List Int} (hT : ∀ x ∈ T, 0 ≤ x) : ∀ {cs : List Cmd} {r : Int} {g : Option Int} {x : Int × Option Int}, AllOk cs → ge g 0 → afterL T r g cs = some x → ge x.2 0
  | [], r, g, x, _, hg, h => by
    cases h
    exact hg
  | c :: cs, r, g, x, ok, hg, h => by
    rw [afterL_step] at h
    cases e : stepP T r g c with
    | none =>
      rw [e] at h
      cases h
    | some y =>
      rw [e] at h
      refine after_nn hT (fun d hd => ok d (List.mem_cons_of_mem _ hd)) ?_ h
      unfold stepP at e
      split at e
      · split at e
        · cases e
          exact hg
        · cases e
      · cases e
        have q := aimF_nn (T := lenAt T) (lenAt_nn hT) (cs := [c]) (r := r) (a := g) (fun d hd => by rw [List.mem_singleton.mp hd]; exact ok c List.mem_cons_self) hg
        exact q
/-- possible exactly within -/
theorem after_within {T : List Int} : ∀ {cs : List Cmd} {r : Int} {g : Option Int}, 0 ≤ r → r < T.length → afterL T r g cs ≠ none → Within cs (-r) (T.length - 1 - r)
  | [], r, g, h0, h1, _, i => by
    rw [List.take_nil]
    show -r ≤ 0 ∧ 0 ≤ _
    omega
  | c :: cs, r, g, h0, h1, h, i => by
    rw [afterL_step] at h
    cases e : stepP T r g c with
    | none =>
      rw [e] at h
      exact absurd rfl h
    | some y =>
      rw [e] at h
      obtain ⟨a, b⟩ := step_row h0 h1 e
      have ih := after_within (T := T) (cs := cs) (r := y.1) (g := y.2) a b h
      have ey : y.1 = r + c.dv := by
        unfold stepP at e
        split at e
        · split at e
          · cases e
            rfl
          · cases e
        · rename_i cv
          cases e
          show r = r + c.dv
          have : c.dv = 0 := by cases c <;> first | rfl | exact absurd rfl cv
          omega
      cases i with
      | zero =>
        show -r ≤ 0 ∧ 0 ≤ _
        omega
      | succ i =>
        have q := ih i
        have e2 : last ((c :: cs).take (i + 1)) = c.dv + last (cs.take i) := rfl
        rw [e2]
        omega
theorem fail_in {T : List Int} {cs : List Cmd} {r : Int} {g : Option Int} (h0 : 0 ≤ r) (h1 : r < T.length) (h : failAt T r g cs = none) : Within cs (-r) (T.length - 1 - r) := after_within h0 h1 (fail_none.mp h)
/-- commands that come back to their row -/
theorem repP_row {T : List Int} {cs : List Cmd} {r : Int} (w : Within cs (-r) (T.length - 1 - r)) (l0 : last cs = 0) : ∀ (m : Nat) (g : Option Int), repP T cs m r g = .inr (r, iterA (fun g => aimF (lenAt T) r g cs) m g)
  | 0, g => rfl
  | m + 1, g => by
    have e := afterL_in (a := g) w
    rw [repP_step, fail_none.mpr (by rw [e]; exact fun z => nomatch z), e, l0, Int.add_zero]
    exact repP_row w l0 m _
end Gc

/-! run of valid arguments: where it fails, Impossible -/
namespace Gc
open PySem L2
theorem step_eq {T : List Int} {r : Int} {g : Option Int} {c : Cmd} (h0 : 0 ≤ r) (h1 : r < T.length) : step1 T r g c = stepP T r g c := by
  unfold step1 stepP
  by_cases cv : c.vert = true
  · rw [if_pos cv, aim1_vert (t' := 0) cv]
  · rw [if_neg cv, dv_flat cv, Int.add_zero, if_pos ⟨h0, h1⟩]
def spRunI (K : PySem.W.Frag) (CO : Addr) : Sp := fun vs H Q E => ∃ (t b l : Addr) (T : List Int) (r : Int) (g : Option Int) (xs : List V) (cs : List Cmd), vs = [.ref t, .ref b, .ref l] ∧ SqL K H t (T.map V.int) ∧ SqT K H b [.int r, optV g] ∧ SqL K H l xs ∧ CmdsOf K H xs cs ∧
  (∀ x ∈ T, 0 ≤ x) ∧ 0 ≤ r ∧ r < T.length ∧ ge g 0 ∧ AllOk cs ∧ cs.length ≤ 10000 ∧ (∀ n, failAt T r g cs = some n → Err E CO (.int (n : Nat)) H) ∧
  ∀ r' g', afterL T r g cs = some (r', g') → ∀ (H' : Hp) (p : Addr), Same H H' → SqT K H' p [.int r', optV g'] → Q (.ref p) H'
@[irreducible] def zRunI (K : PySem.W.Frag) (CO : Addr) : Sp := spRunI K CO
theorem zRunI_eq (K : PySem.W.Frag) (CO : Addr) : zRunI K CO = spRunI K CO := by unfold zRunI; rfl
theorem ask_runI {K : PySem.W.Frag} {CO : Addr} {H : Hp} {Q : VK} {E : XK} {t b l : Addr} {T : List Int} {r : Int} {g : Option Int} {xs : List V} {cs : List Cmd} (ht : SqL K H t (T.map V.int)) (hb : SqT K H b [.int r, optV g]) (hl : SqL K H l xs) (hc : CmdsOf K H xs cs)
    (nn : ∀ x ∈ T, 0 ≤ x) (r0 : 0 ≤ r) (r1 : r < T.length) (g0 : ge g 0) (ok : AllOk cs) (ln : cs.length ≤ 10000) (kf : ∀ n, failAt T r g cs = some n → Err E CO (.int (n : Nat)) H)
    (k : ∀ r' g', afterL T r g cs = some (r', g') → ∀ (H' : Hp) (p : Addr), Same H H' → SqT K H' p [.int r', optV g'] → Q (.ref p) H') : zRunI K CO [.ref t, .ref b, .ref l] H Q E := by
  rw [zRunI_eq]
  exact ⟨t, b, l, T, r, g, xs, cs, rfl, ht, hb, hl, hc, nn, r0, r1, g0, ok, ln, kf, k⟩
section
variable {P : Program} {w : World} {K : PySem.W.Frag} {mg : Str → Option Value} {base : Heap} {wo wn CO : Addr}
theorem ok_runI {f : Addr} {fd : FuncData} (F : Fun K "run" "run" s_run f fd) (T : TxtB K mg wo wn) (c_check_text : Cal P w K mg base 1 "check_text" (spText K)) (c_check_cursor : Cal P w K mg base 1 "check_cursor" (spCursor K))
    (c_check_commands : Cal P w K mg base 3 "check_commands" (spCheck K)) (c_moved : Cal P w K mg base 3 "moved" (spMoved K)) (e_Impossible : ErrC P w K mg base "Impossible" CO) : FnOk P w K mg base (L2.CX P w) 4 f fd ["text", "cursor", "commands"] (spRunI K CO) := by
  refine F.okX sc_run (fun vs H Q E h => ?_) (fun cdv A outer s H vs Q E hr h => ?_)
  · obtain ⟨t, b, l, tx, r, g, xs, cs, rfl, _⟩ := h
    rfl
  · obtain ⟨t, b, l, tx, r, g, xs, cs, rfl, ht, hb, hl, hcs, nn, r0, r1, g0, ok, ln, kf, k⟩ := h
    refine ⟨_, (pss_cons (ps_expr (pe_cal c_check_text hr (by decide) (by rfl) (pa_cons (pv 0) pa_nil)))
      (pss_cons (ps_expr (pe_cal c_check_cursor hr (by decide) (by rfl) (pa_cons (pe_callB call_len_seq (by rfl) T.len (by decide +kernel) (pa_cons (pv 0) pa_nil)) (pa_cons (pv 1) pa_nil))))
      (pss_cons (ps_expr (pe_cal c_check_commands hr (by decide) (by rfl) (pa_cons (pv 2) pa_nil)))
      (pss_cons (ps_set (i := 3) sc_run.nd rfl (Or.inl rfl) (pv 1))
      (pss_cons (ps_for (passes_of rfl) rfl (pi_enum (by rfl) T.enumerate (pa_cons (pv 2) pa_nil)) (pg_tup rfl (pgs_cons (pg_name (i := 4) sc_run.nd rfl (Or.inl rfl)) (pgs_cons (pg_name (i := 5) sc_run.nd rfl (Or.inl rfl)) pgs_nil))) (pss_cons (ps_set (i := 3) sc_run.nd rfl (Or.inl rfl) (pe_cal c_moved hr (by decide) (by rfl) (pa_cons (pv 0) (pa_cons (pv 3) (pa_cons (pv 5) pa_nil)))))
      (pss_one (ps_if (pt_cmpR op_isN (pv 3) pe_non (nomark _)) (pss_one (ps_raiseE rfl e_Impossible hr (by decide) (takes_of rfl rfl rfl rfl) (pv 4) (by rfl))) pss_nil))))
      (pss_one (ps_ret (pv 3)))))))), ?_⟩
    refine ⟨_, rfl, t, tx, rfl, ht, (by intro z; subst z; simp at r1; omega), nn, fun H1 e1 => ?_⟩
    refine ⟨_, rfl, t, _, rfl, .inl (e1.seq ht), _, rfl, (tx.map V.int).length, r, g, b, rfl, seq_t e1 hb, r0, by rw [List.length_map]; exact r1, g0, ?_⟩
    refine ⟨_, rfl, l, xs, cs, rfl, e1.seq hl, hcs.same e1, ok, ln, fun H2 e2 => ?_⟩
    have e12 := e1.trans e2
    refine ⟨_, rfl, ?_⟩
    refine ⟨_, rfl, l, _, rfl, e12.seq hl, for_it (walk_enum (K := K) (a := l) (xs := xs)) (fun i σ H' => ∃ (p : Addr) (rr : Int) (gg : Option Int) (v1 v2 : Option V), σ = [some (.ref t), some (.ref b), some (.ref l), some (.ref p), v1, v2] ∧ Same H H' ∧ SqT K H' p [.int rr, optV gg] ∧ 0 ≤ rr ∧ rr < tx.length ∧
        afterL tx r g cs = afterL tx rr gg (cs.drop i) ∧ failAt tx r g cs = (failAt tx rr gg (cs.drop i)).map (· + i))
      ⟨b, r, g, none, none, rfl, e12, seq_t e12 hb, r0, r1, rfl, by rw [List.drop_zero]; simp⟩ (fun i σ H' _ ⟨_, _, _, _, _, _, e, _⟩ => e.seq hl) (fun i x σ H3 H4 hi h y => ?_) (fun σ H3 h => ?_)⟩
    · obtain ⟨p, rr, gg, v1, v2, rfl, e3, hp, q0, q1, ha, hf⟩ := h
      obtain ⟨T1, x1, y1, rfl, nT, rfl, ex1, ex2⟩ := y
      obtain rfl : V.int (i : Nat) = x1 := Option.some.inj ex1
      obtain ⟨c, hc, hca⟩ := paired_at hcs ex2
      have hdrop : cs.drop i = c :: cs.drop (i + 1) := by
        obtain ⟨h1, h2⟩ := List.getElem?_eq_some_iff.mp hc
        rw [List.drop_eq_getElem_cons h1, h2]
      rw [hdrop] at ha hf
      rw [afterL_step] at ha
      rw [fail_step] at hf
      have eT : Same H3 (upd H3 T1 (.tup [.int (i : Nat), y1])) := same_upd (Same.refl _) nT
      have eHT := e3.trans eT
      refine ⟨T1, _, rfl, SqT.of upd_same, rfl, _, _, rfl, _, _, rfl, rfl, ?_⟩
      refine ⟨_, rfl, _, rfl, _, rfl, t, p, tx, rr, gg, y1, c, rfl, eHT.seq ht, seq_t eT hp, hca.same eHT, (fun z => ?_), fun r3 g3 z p3 np3 => ?_⟩
      · rw [step_eq q0 q1] at z
        rw [z] at hf
        refine ⟨_, rfl, rfl, _, rfl, iteT ⟨_, rfl, ?_⟩⟩
        refine Err.ask eHT (kf i ?_)
        rw [hf]
        simp
      · rw [step_eq q0 q1] at z
        rw [z] at ha hf
        have e4 : Same (upd H3 T1 (.tup [.int (i : Nat), y1])) (upd (upd H3 T1 (.tup [.int (i : Nat), y1])) p3 (.tup [.int r3, optV g3])) := same_upd (Same.refl _) np3
        obtain ⟨a0, a1⟩ := step_row q0 q1 z
        refine ⟨_, rfl, rfl, _, rfl, iteF ?_⟩
        refine ⟨p3, r3, g3, _, _, rfl, eHT.trans e4, SqT.of upd_same, a0, a1, ha, ?_⟩
        rw [hf, Option.map_map]
        show (failAt tx r3 g3 (cs.drop (i + 1))).map _ = _
        congr 1
        funext n
        show n + 1 + i = n + (i + 1)
        omega
    · obtain ⟨p, rr, gg, v1, v2, rfl, e3, hp, q0, q1, ha, hf⟩ := h
      rw [hcs.len, List.drop_length] at ha
      exact ⟨_, rfl, k rr gg ha _ p e3 hp⟩
end
end Gc

/-! a generator's for loop -/
namespace Gc
open PySem PySem.Spec PyProof.Rows GenW L2
section
variable {X : Cx}
/-- as tFor; the list: what is out so far -/
def tGFor (wi : TI) (g : TG) (tb : TGn) : TGn := fun D ys σ H => wi σ H fun J H1 => ∃ W : Nat → Nat → List V → L2.St → Hp → Prop, (∃ m, W 0 m ys σ H1) ∧ ∀ i m ys σ H, W i m ys σ H →
  (J.stop i H ∧ D.nx ys σ H) ∨ (J.go i H ∧ ∃ N : List V → L2.St → Hp → Prop, (∀ ys' σ' H', N ys' σ' H' → ∃ m', m' < m ∧ W (i + 1) m' ys' σ' H') ∧ ∀ x H', J.yld i H x H' → g x σ H' fun σ2 H2 => tb { D with nx := N, ct := N, bk := D.nx } ys σ2 H2)
theorem gs_for {iter tg : Expr} {body : List Stmt} {wi : TI} {g : TG} {tb : TGn} {pos : Pos} (hp : PassesOwn (model X.prog X.w) X.A X.env X.xe) (hc : X.calm = true) (hi : PI X tg iter wi) (hg : PG X tg g) (hb : GSs X body tb)
    (hs : ∀ x, foldedSetIterable iter X.env x = pure x := by intro _; rfl) : GS X (.For tg iter body [] pos) (tGFor wi g tb) := by
  refine ⟨fun A S ip R n ys s₀ c fs K J gd lv s σ H D gc hn k hI ht => ?_⟩
  rw [exec_For]
  refine seg_bind_wrap (wpAny_standAt ?_)
  obtain ⟨acc, cc, r, I⟩ := hI
  refine seg_bind_wrap ?_
  rw [gc.over]
  refine wpAny_mono (hi.run _ s σ H _ I ht) (fun v s1 h1 => ?_) fun x s' hx => k.exc n s₀ x s' hx
  refine seg_bind_wrap ?_
  rw [gc.over]
  refine wpAny_of_eq (hs v) ?_
  refine seg_bind_wrap (wpAny_standAt ?_)
  refine seg_bind_wrap ?_
  rw [gc.over]
  refine wpAny_holding (wpAny_mono h1 (fun itv s2 h2 => ?_) fun x s' hx => k.exc n s₀ x s' hx)
  obtain ⟨it, fp, tn, It0, H2, e, I2, T, st2, f2, W, ⟨m0, w0⟩, turn⟩ := h2
  subst e
  refine seg_call fun p => ?_
  have gl := fun (kk : Result → Sem PySem.Fin) => gc_loop (k := kk) (c' := .forLoop tg (.ref it) body [] X.env) (l := lv []) (kp := []) (p := p) gc rfl rfl
  have gl2 := fun (kk : Result → Sem PySem.Fin) => gc_loop (k := kk) (c' := .block [] X.env) (l := lv []) (kp := []) (p := p) gc rfl rfl
  have stat : ∀ {acc' : Array Value} {c' : Nat} {H' : Hp}, (∀ b ∈ fp, H' b = none) → ∀ b ∈ fp, FpOk X ((S, lstObj acc' c') :: ip) H' b := fun hn b hb => by
    obtain ⟨f0, f1, f2', f3, f4, f5⟩ := f2 b hb
    refine ⟨hn b hb, f1, f2', f3, f4, fun p hp => ?_⟩
    rcases List.mem_append.mp hp with q | q
    · exact f5 p (List.mem_append_left _ q)
    · rcases List.mem_cons.mp q with q | q
      · rw [q]
        exact f5 (S, lstObj acc cc) (List.mem_append_right _ List.mem_cons_self)
      · exact f5 p (List.mem_append_right _ (List.mem_cons_of_mem _ q))
  have fS : ∀ b ∈ fp, b ≠ S := fun b hb z => (f2 b hb).2.2.2.2.2 (S, lstObj acc cc) (List.mem_append_right _ List.mem_cons_self) z.symm
  have loop : ∀ (m i n : Nat) (ys : List V) (s₀ s : Shared) (σ : L2.St) (H : Hp), n + ys.length = sizeLine → W i m ys σ H → GI X S ip ys σ H s → tn i s.heap → (∀ b ∈ fp, H b = none) →
      Seg (model X.prog X.w) A R (GY X S) n s₀ (.forLoop tg (.ref it) body [] X.env) ((model X.prog X.w).den (.forLoop tg (.ref it) body [] X.env))
        (.ret (fun r => ((match r with | .ok f => (.pure f : Sem Flow) | .error e => .raise e).onRaise (cameBack X.env)).wrap K J gd lv) none (gd false) (lv []) c p [] :: fs) s := by
    intro m
    induction m using Nat.strongRecOn with
    | ind m ih =>
      intro i n ys s₀ s σ H hn w hI hst hfr
      have ee : ∀ (n : Nat) (s₀ : Shared) (x : Value) (s' : Shared), X.xe x s' → Seg (model X.prog X.w) A R (GY X S) n s₀ (.forLoop tg (.ref it) body [] X.env)
          ((do noteFrame x X.env; theTreesLotGoes x : Sem Unit).bind fun _ => .raise x)
          (.ret (fun r => ((match r with | .ok f => (.pure f : Sem Flow) | .error e => .raise e).onRaise (cameBack X.env)).wrap K J gd lv) none (gd false) (lv []) c p [] :: fs) s' := fun n s₀ x s' hx => by
        rw [Sem.bind_eq_wrap]
        refine seg_wrap ?_
        rw [(gl _).over]
        refine wpAny_bind (wpAny_mono (hp x s' hx) (fun _ s'' hcb => wpAny_theTreesLotGoes ?_) fun y s'' hcb => ?_)
        · exact seg_leaf (.error x) (seg_cameBack gc k hcb)
        · exact seg_leaf (.error y) (seg_cameBack gc k hcb)
      show Seg _ _ _ _ _ _ _ ((forTurn tg (.ref it) body [] X.env).onRaise (fun x => do noteFrame x X.env; theTreesLotGoes x)) _ _
      rw [Sem.onRaise_eq_wrap]
      simp only [forTurn]
      refine seg_bind_wrap (wpAny_standAt ?_)
      refine seg_bind_wrap ?_
      rw [(gl _).over]
      obtain ⟨acc, cc, r, I⟩ := hI
      rcases turn i m ys σ H w with ⟨stop, qn⟩ | ⟨go, N, hN, step⟩
      · refine wpAny_onRaise (wpAny_mono (T.done X rfl rfl rfl hc i _ s σ H X.xe I (stat hfr) hst stop) (fun a s4 ⟨ha, I4⟩ => ?_) fun x s4 hx => wpAny_standAt (ee n s₀ x s4 hx))
        subst ha
        refine seg_again rfl ?_
        show Seg _ _ _ _ _ _ _ (((execs [] X.env).onRaise (fun x => do noteFrame x X.env; theTreesLotGoes x)).bind fun f => .pure (.done f)) _ _
        exact seg_leaf (.ok .next) (k.ok n ys s₀ s4 .next hn ⟨σ, H, ⟨acc, cc, r, I4⟩, qn⟩)
      · refine wpAny_onRaise (wpAny_mono (T.item X rfl rfl rfl hc i _ s σ H X.xe I (stat hfr) hst go) (fun a s4 ⟨u, ha, h4⟩ => ?_) fun x s4 hx => wpAny_standAt (ee n s₀ x s4 hx))
        subst ha
        refine seg_bind_wrap ?_
        rw [(gl _).over]
        refine wpAny_mono h4 (fun _ s5 ⟨x, H5, I5, r5, y5, st5, fr5⟩ => ?_) fun x s' hx => ee n s₀ x s' hx
        have I5' := I5.pinned (stat fr5) (T.obj _ _ st5)
        refine seg_bind_wrap ?_
        rw [(gl _).over]
        refine wpAny_mono (hg.run _ s5 σ H5 x u _ I5' r5 (step x H5 y5)) (fun _ s6 ⟨σ6, H6, I6, q6⟩ => ?_) fun x s' hx => ee n s₀ x s' hx
        rw [Sem.bind_eq_wrap', Sem.wrap_wrap]
        have g6 := gl fun (r : Result) => ((match r with | .ok f => (.pure f : Sem Flow) | .error e => .raise e).onRaise (cameBack X.env)).wrap K J gd lv
        have G6 : GI X S (ip ++ pinsAt fp s5.heap) ys σ6 H6 s6 := ⟨acc, cc, r, I6⟩
        have gc6 : GC X S (ip ++ pinsAt fp s5.heap) A (.forLoop tg (.ref it) body [] X.env) _ id := { g6 with ip := fun p hp => (List.mem_append.mp hp).elim (gc.ip p) fun z => fS _ (of_pinsAt z).1 }
        have again : ∀ {n' : Nat} {ys7 : List V} {s₀7 s7 : Shared} {σ7 : L2.St} {H7 : Hp}, n' + ys7.length = sizeLine → GI X S (ip ++ pinsAt fp s5.heap) ys7 σ7 H7 s7 → N ys7 σ7 H7 →
            Seg (model X.prog X.w) A R (GY X S) n' s₀7 (.forLoop tg (.ref it) body [] X.env) (.pure (.again (.forLoop tg (.ref it) body [] X.env)))
              (.ret (fun r => ((match r with | .ok f => (.pure f : Sem Flow) | .error e => .raise e).onRaise (cameBack X.env)).wrap K J gd lv) none (gd false) (lv []) c p [] :: fs) s7 := fun {n' ys7 s₀7 s7 σ7 H7} hn7 G7 n7 => by
          obtain ⟨m', hm, w7⟩ := hN _ _ _ n7
          obtain ⟨acc7, cc7, r7, I7⟩ := G7
          have pin7 : ∀ b ∈ fp, ∀ o, s5.heap.get? b = some o → s7.heap.get? b = some o ∧ H7 b = none := fun b hb o e => by
            obtain ⟨z1, z2, _⟩ := I7.pin (b, o) (List.mem_append_right _ (List.mem_cons_of_mem _ (List.mem_append_right _ (mem_pinsAt hb e))))
            exact ⟨z1, z2⟩
          refine seg_again rfl (ih m' hm (i + 1) n' ys7 s₀7 s7 σ7 H7 hn7 w7 ⟨acc7, cc7, r7, I7.pins_of fun p hp => I7.pin p ?_⟩ (T.keep _ _ _ st5 fun b hb o e => (pin7 b hb o e).1) fun b hb => ?_)
          · rcases List.mem_append.mp (show p ∈ X.pn ++ ((S, lstObj acc7 cc7) :: ip) by first | exact List.mem_append_right _ hp | exact hp) with q | q
            · exact List.mem_append_left _ q
            · rcases List.mem_cons.mp q with q | q
              · exact List.mem_append_right _ (q ▸ List.mem_cons_self)
              · exact List.mem_append_right _ (List.mem_cons_of_mem _ (List.mem_append_left _ q))
          · obtain ⟨o, e, d⟩ := T.obj _ _ st5 b hb
            exact (pin7 b hb o e).2
        refine hb.run A S _ R n ys s₀ _ _ _ _ id id s6 σ6 H6 { D with nx := N, ct := N, bk := D.nx } gc6 hn ⟨fun n' ys' s₀' s3 f hn' hs => ?_, fun n' s₀' x s3 hx => ee n' s₀' x s3 hx⟩ G6 q6
        have un : ∀ {ys' : List V} {σ3 : L2.St} {H3 : Hp}, GI X S (ip ++ pinsAt fp s5.heap) ys' σ3 H3 s3 → GI X S ip ys' σ3 H3 s3 := fun {ys' σ3 H3} G3 => by
          obtain ⟨acc7, cc7, r7, I7⟩ := G3
          refine ⟨acc7, cc7, r7, I7.pins_of fun p hp => I7.pin p ?_⟩
          rcases List.mem_append.mp (show p ∈ X.pn ++ ((S, lstObj acc7 cc7) :: ip) by first | exact List.mem_append_right _ hp | exact hp) with q | q
          · exact List.mem_append_left _ q
          · rcases List.mem_cons.mp q with q | q
            · exact List.mem_append_right _ (q ▸ List.mem_cons_self)
            · exact List.mem_append_right _ (List.mem_cons_of_mem _ (List.mem_append_left _ q))
        cases f with
        | next =>
          obtain ⟨σ3, H3, I3, n3⟩ := hs
          exact again hn' I3 n3
        | cont =>
          obtain ⟨σ3, H3, I3, n3⟩ := hs
          exact again hn' I3 n3
        | brk =>
          obtain ⟨σ3, H3, I3, n3⟩ := hs
          exact seg_leaf (.ok .next) (k.ok n' ys' s₀' s3 .next hn' ⟨σ3, H3, un I3, n3⟩)
        | ret v =>
          obtain ⟨x, σ3, H3, I3, r3, n3⟩ := hs
          exact seg_leaf (.ok (.ret v)) (k.ok n' ys' s₀' s3 (.ret v) hn' ⟨x, σ3, H3, un I3, r3, n3⟩)
  exact loop m0 0 n ys s₀ s2 σ H2 hn w0 ⟨acc, cc, r, I2⟩ st2 fun b hb => (f2 b hb).1
end
/-- the turns of a generator's for over a walk -/
theorem gfor_it {J : It} {n : Nat} {G : Hp → Prop} {Y : Nat → Hp → V → Hp → Prop} (w : Walk J n G Y) {g : TG} {tb : TGn} {D : GEnds} {ys : List V} {σ : L2.St} {H : Hp} (Pv : Nat → List V → L2.St → Hp → Prop) (h0 : Pv 0 ys σ H) (hG : ∀ i ys σ H, i ≤ n → Pv i ys σ H → G H)
    (hs : ∀ i x ys σ H H', i < n → Pv i ys σ H → Y i H x H' → g x σ H' fun σ2 H2 => tb { D with nx := Pv (i + 1), ct := Pv (i + 1), bk := D.nx } ys σ2 H2) (hd : ∀ ys σ H, Pv n ys σ H → D.nx ys σ H) :
    ∃ W : Nat → Nat → List V → L2.St → Hp → Prop, (∃ m, W 0 m ys σ H) ∧ ∀ i m ys σ H, W i m ys σ H →
      (J.stop i H ∧ D.nx ys σ H) ∨ (J.go i H ∧ ∃ N : List V → L2.St → Hp → Prop, (∀ ys' σ' H', N ys' σ' H' → ∃ m', m' < m ∧ W (i + 1) m' ys' σ' H') ∧ ∀ x H', J.yld i H x H' → g x σ H' fun σ2 H2 => tb { D with nx := N, ct := N, bk := D.nx } ys σ2 H2) := by
  refine ⟨fun i m ys σ H => m = n - i ∧ i ≤ n ∧ Pv i ys σ H, ⟨n, by simp, Nat.zero_le _, h0⟩, ?_⟩
  rintro i m ys σ H ⟨rfl, hi, p⟩
  have q := hG i ys σ H hi p
  by_cases hlt : i < n
  · exact .inr ⟨w.goes i H hlt q, Pv (i + 1), fun ys' σ' H' p' => ⟨n - (i + 1), by omega, rfl, hlt, p'⟩, fun x H' y => hs i x ys σ H H' hlt p (w.yields i H x H' hlt q y)⟩
  · have e : i = n := by omega
    subst e
    exact .inl ⟨w.stops H q, hd ys σ H p⟩
end Gc

/-! calls by names alone, the names in the other order: f(b=.., a=..) of def f(a, b) -/
namespace Gc
open PySem PySem.Spec PyProof.Rows L2
def gRev {α : Type} (us ws : List α) : List α := us ++ ws.reverse
theorem vals_rev : ∀ {vs : List V} {us : List Value}, Vals vs us → Vals vs.reverse us.reverse
  | _, _, .nil => .nil
  | v :: vs, u :: us, .cons h t => by
    rw [List.reverse_cons, List.reverse_cons]
    exact (vals_rev t).append (.cons h .nil)
structure CalK (P : Program) (w : World) (K : PySem.W.Frag) (mg : Str → Option Value) (base : Heap) (k : Nat) (x : Str) (ks : List Str) (sp : Sp) : Prop where
  ex : ∃ (f : Addr) (fd : FuncData) (ps : List Str), FnOk P w K mg base CX0 k f fd ps sp ∧ mg x = some (.ref f) ∧ PySem.W.keepIn K (.ref f) = true ∧ KBinds K fd ps ks gRev gRev
/-- how it binds: h is «fun _ _ _ _ _ _ us ws hl => match us, ws, hl with | [], [_, _], _ => rfl | [_], [_], _ => rfl | [_, _], [], _ => rfl» -/
theorem bindsK {K : PySem.W.Frag} {x qual : Str} {st : Stmt} {f : Addr} {fd : FuncData} {ps ks : List Str} (F : Fun K x qual st f fd)
    (h : ∀ (kV doc pm : Value) (an : Option Addr) (cdv ct : Value) (us ws : List Value), (gRev us ws).length = ps.length → bindArgs (PySem.W.fnOf x qual (defArgs st) (defBody st) (defScope st) .none kV doc pm an cdv ct) ⟨us, ks.zip ws⟩ = pure (ps.zip (gRev us ws))) : KBinds K fd ps ks gRev gRev := by
  obtain ⟨oc, od, kV, doc, pm, an, cdv, ct, osl, rfl, lk, hcd⟩ := F.ex
  exact ⟨fun s us ws _ hl => .of_eq (h kV doc pm an cdv ct us ws hl), fun a b => a.append (vals_rev b)⟩
theorem pe_calK {X : Cx} {k j : Nat} {x : Str} {ks : List Str} {sp : Sp} {p pos : Pos} {kws : List Keyword} {tk : TA} (c : CalK X.prog X.w X.K X.mg X.base k x ks sp) (hr : Room j X.A) (hk : k ≤ j) (hg : Gl X x) (hkw : PK X kws tk)
    (hdb : (x == ("__debug__" : Str)) = false := by decide) (hall : (backToKw pos (keywordEach kws X.env)).all (·.1.isSome) = true := by rfl) (hks : (backToKw pos (keywordEach kws X.env)).filterMap (·.1) = ks := by rfl)
    (hpn : ((backTo pos (starEach [] X.env)).any (·.1) || (backToKw pos (keywordEach kws X.env)).any (·.1.isNone)) = false := by rfl) :
    PE X (.Call (.Name x p) [] kws pos) (tCallK sp gRev E0 tNil tk) := by
  obtain ⟨f, fd, ps, F, hm, kp, b⟩ := c.ex
  refine ⟨fun pins s σ H Q I h => ?_⟩
  refine wpAny_Call_Name_kw (ld_glob I hg hm ?_ hdb)
  refine PySem.W.callWith_KW0 (h₀ := X.base) I.ok.mod.kin kp hall ?_ hpn
  refine thn (hkw.run pos pins s σ H _ I h) fun ws s1 ⟨zs, H1, I1, rz, q⟩ => ⟨I1.kIn, ?_⟩
  rw [hks]
  exact run_fnk (us := []) (vs := []) F (hr.mono hk) b pass0 I1 .nil rz q
end Gc

/-! generator defs: their rule, list(g(..)) -/
namespace Gc
open PySem PySem.Spec PyProof.Rows GenW L2
/-- a generator def, by its body -/
theorem gen_ok {P : Program} {w : World} {K : PySem.W.Frag} {mg : Str → Option Value} {base : Heap} {x qual : Str} {st : Stmt} {f : Addr} {fd : FuncData} {N ps : List Str} {k : Nat} {sp : SpG} (F : L2.Fun K x qual st f fd) (S : GScope N ps (defScope st)) (len : ∀ vs H Q E, sp vs H Q E → vs.length = ps.length)
    (hbody : ∀ (cdv : Value) (A : Around) (outer : List Env) (s : Shared) (H : Hp) (vs : List V) (Q : List V → Hp → Prop) (E : XK) (pn : List (Addr × Obj)), Room k (A.deeper (envOfC qual (defScope st) s.heap.objs.size f cdv)) → sp vs H Q E →
      ∃ t, GSs (gcxOf P w K mg base N qual (defScope st) f cdv A outer s H E pn) (defBody st) t ∧ t { nx := fun ys _ H' => Q ys H', rt := fun ys v H' => v = .non ∧ Q ys H' } [] (start N vs) H) : GFn P w K mg base (k + 1) f fd ps sp := by
  obtain ⟨oc, od, kV, doc, pm, an, cdv, ct, osl, rfl, lk, hcd⟩ := F.ex
  exact gfn_of lk hcd S len fun A outer s H vs Q E pn hr hsp => hbody cdv A outer s H vs Q E pn hr hsp
structure GCal (P : Program) (w : World) (K : PySem.W.Frag) (mg : Str → Option Value) (base : Heap) (k : Nat) (x : Str) (sp : SpG) : Prop where
  ex : ∃ (f : Addr) (fd : FuncData) (ps : List Str), GFn P w K mg base k f fd ps sp ∧ mg x = some (.ref f) ∧ PySem.W.keepIn K (.ref f) = true ∧ Binds K fd ps []
theorem gfn_mono {P : Program} {w : World} {K : PySem.W.Frag} {mg : Str → Option Value} {base : Heap} {j k : Nat} {f : Addr} {fd : FuncData} {ps : List Str} {sp : SpG} (F : GFn P w K mg base k f fd ps sp) : GFn P w K mg base k f fd ps sp := F
theorem noStop0 {K : PySem.W.Frag} : NoStop K E0 := fun _ _ _ h => h.elim
theorem passE0 {X : Cx} : Passes (CX X.prog X.w) X E0 := fun _ _ _ _ _ _ _ ⟨_, _, _, _, _, _, _, _, _, _, _, _, h⟩ => h.elim
section
variable {X : Cx} {k : Nat} {x : Str} {sp : SpG} {p p0 pos pos' : Pos} {e : Expr} {es : List Expr} {t : TA}
/-- list(g(..)), where nothing is raised -/
theorem pe_listGC (c : GCal X.prog X.w X.K X.mg X.base k x sp) (hr : Room (k + 3) X.A) (hg : Gl X x) (ha : PA X (e :: es) t) (hgl : Gl X "list") (hml : X.mg "list" = none)
    (hdb : (x == ("__debug__" : Str)) = false := by decide) (he : starEach (e :: es) X.env = (false, eval e X.env) :: starEach es X.env := by rfl) (hpl : (backTo pos' (starEach es X.env)).any (·.1) = false := by rfl)
    (he2 : starEach [.Call (.Name x p) (e :: es) [] pos'] X.env = (false, eval (.Call (.Name x p) (e :: es) [] pos') X.env) :: starEach [] X.env := by rfl) :
    PE X (.Call (.Name "list" p0) [.Call (.Name x p) (e :: es) [] pos'] [] pos) (tListG (tCallG sp [] E0 t)) := by
  obtain ⟨f, fd, ps, F, hm, kp, b⟩ := c.ex
  exact pe_listG (pgen_call F (hr.mono (by omega)) hg hm kp b .nil ha hdb he hpl) passE0 noStop0 hr hgl hml (by decide +kernel) (by decide) (by decide) he2
end
structure GCalK (P : Program) (w : World) (K : PySem.W.Frag) (mg : Str → Option Value) (base : Heap) (k : Nat) (x : Str) (ks : List Str) (sp : SpG) : Prop where
  ex : ∃ (f : Addr) (fd : FuncData) (ps : List Str), GFn P w K mg base k f fd ps sp ∧ mg x = some (.ref f) ∧ PySem.W.keepIn K (.ref f) = true ∧ KBinds K fd ps ks gRev gRev
def tCallGK (sp : SpG) (E : XK) (tk : TA) : TGen := fun σ H cont => tk σ H fun zs H2 => sp (gRev [] zs) H2 cont E
section
variable {X : Cx} {k : Nat} {x : Str} {ks : List Str} {sp : SpG} {p p0 pos pos' : Pos} {kws : List Keyword} {tk : TA}
theorem pgen_callK {E : XK} (c : GCalK X.prog X.w X.K X.mg X.base k x ks sp) (hr : Room k X.A) (hg : Gl X x) (hkw : PK X kws tk)
    (hdb : (x == ("__debug__" : Str)) = false := by decide) (hall : (backToKw pos (keywordEach kws X.env)).all (·.1.isSome) = true := by rfl) (hks : (backToKw pos (keywordEach kws X.env)).filterMap (·.1) = ks := by rfl)
    (hpn : ((backTo pos (starEach [] X.env)).any (·.1) || (backToKw pos (keywordEach kws X.env)).any (·.1.isNone)) = false := by rfl) :
    PGen X k (.Call (.Name x p) [] kws pos) (tCallGK sp E tk) E := by
  obtain ⟨f, fd, ps, F, hm, kp, b⟩ := c.ex
  refine ⟨fun pins s σ H cont I h => ?_⟩
  refine wpAny_Call_Name_kw (ld_glob I hg hm ?_ hdb)
  refine PySem.W.callWith_KW0 (h₀ := X.base) I.ok.mod.kin kp hall ?_ hpn
  refine thn (hkw.run pos pins s σ H _ I h) fun ws s1 ⟨zs, H1, I1, rz, q⟩ => ⟨I1.kIn, ?_⟩
  rw [hks]
  have r2 := b.rel (us := []) (vs := []) .nil rz
  have hl : (gRev [] ws).length = ps.length := by rw [← r2.length]; exact F.len _ _ _ _ q
  refine wpAny_call (codeAny_mono (F.run X.A X.stack s1 H1 ⟨[], ks.zip ws⟩ (gRev [] ws) (gRev [] zs) cont E hr I1.env0 (b.to s1 [] ws I1.kIn hl) r2 q) fun r s' hq => ?_)
  cases r with
  | error e => exact False.elim hq
  | ok fl =>
    cases fl with
    | ret u => exact ⟨H1, s1, [], I1, .nil, hq⟩
    | next => exact False.elim hq
    | brk => exact False.elim hq
    | cont => exact False.elim hq
theorem pe_listGK (c : GCalK X.prog X.w X.K X.mg X.base k x ks sp) (hr : Room (k + 3) X.A) (hg : Gl X x) (hkw : PK X kws tk) (hgl : Gl X "list") (hml : X.mg "list" = none)
    (hdb : (x == ("__debug__" : Str)) = false := by decide) (hall : (backToKw pos' (keywordEach kws X.env)).all (·.1.isSome) = true := by rfl) (hks : (backToKw pos' (keywordEach kws X.env)).filterMap (·.1) = ks := by rfl)
    (hpn : ((backTo pos' (starEach [] X.env)).any (·.1) || (backToKw pos' (keywordEach kws X.env)).any (·.1.isNone)) = false := by rfl)
    (he2 : starEach [.Call (.Name x p) [] kws pos'] X.env = (false, eval (.Call (.Name x p) [] kws pos') X.env) :: starEach [] X.env := by rfl) :
    PE X (.Call (.Name "list" p0) [.Call (.Name x p) [] kws pos'] [] pos) (tListG (tCallGK sp E0 tk)) :=
  pe_listG (pgen_callK c (hr.mono (by omega)) hg hkw hdb hall hks hpn) passE0 noStop0 hr hgl hml (by decide +kernel) (by decide) (by decide) he2
end
end Gc

/-! places: a generator -/
namespace Gc
open PySem L2
abbrev s_places : Stmt := top 28
/-- where the commands lead, one by one -/
def trailL (T : List Int) : Int → Option Int → List Cmd → List (Int × Option Int)
  | _, _, [] => []
  | r, g, c :: cs => match step1 T r g c with
    | none => []
    | some q => q :: trailL T q.1 q.2 cs
theorem trail_step {T : List Int} {r : Int} {g : Option Int} {c : Cmd} {cs : List Cmd} {q : Int × Option Int} (h : step1 T r g c = some q) : trailL T r g (c :: cs) = q :: trailL T q.1 q.2 cs := by
  show (match step1 T r g c with | none => [] | some q => q :: trailL T q.1 q.2 cs) = _
  rw [h]
def SpotAt (K : PySem.W.Frag) (H : Hp) (v : V) (q : Int × Option Int) : Prop := ∃ p, v = .ref p ∧ SqT K H p [.int q.1, optV q.2]
def SpotsOf (K : PySem.W.Frag) (H : Hp) (vs : List V) (qs : List (Int × Option Int)) : Prop := Paired (SpotAt K H) vs qs
theorem SpotsOf.same {K : PySem.W.Frag} {H H' : Hp} {vs : List V} {qs : List (Int × Option Int)} (h : SpotsOf K H vs qs) (e : Same H H') : SpotsOf K H' vs qs := Paired.mapP h fun _ _ ⟨p, z, q⟩ => ⟨p, z, seq_t e q⟩
theorem SpotsOf.len {K : PySem.W.Frag} {H : Hp} : ∀ {vs : List V} {qs : List (Int × Option Int)}, SpotsOf K H vs qs → vs.length = qs.length
  | _, _, .nil => rfl
  | _, _, .cons _ t => congrArg (· + 1) (SpotsOf.len t)
theorem trail_len {T : List Int} : ∀ {cs : List Cmd} {r : Int} {g : Option Int}, (trailL T r g cs).length ≤ cs.length
  | [], _, _ => Nat.le_refl _
  | c :: cs, r, g => by
    unfold trailL
    cases step1 T r g c with
    | none => exact Nat.zero_le _
    | some q => exact Nat.succ_le_succ trail_len
/-- places of valid arguments that are possible -/
def spPlaces (K : PySem.W.Frag) : SpG := fun vs H Q _ => ∃ (t b l : Addr) (T : List Int) (r : Int) (g : Option Int) (xs : List V) (cs : List Cmd) (r' : Int) (g' : Option Int), vs = [.ref t, .ref b, .ref l] ∧ SqL K H t (T.map V.int) ∧ SqT K H b [.int r, optV g] ∧ SqL K H l xs ∧ CmdsOf K H xs cs ∧
  (∀ x ∈ T, 0 ≤ x) ∧ 0 ≤ r ∧ r < T.length ∧ ge g 0 ∧ AllOk cs ∧ cs.length ≤ 10000 ∧ afterL T r g cs = some (r', g') ∧ ∀ (H' : Hp) (ys : List V), Same H H' → SpotsOf K H' ys ((r, g) :: trailL T r g cs) → Q ys H'
section
variable {P : Program} {w : World} {K : PySem.W.Frag} {mg : Str → Option Value} {base : Heap}
theorem sc_places : GScope ["text", "cursor", "commands", "place", "command"] ["text", "cursor", "commands"] (defScope s_places) := ⟨rfl, rfl, rfl, by decide +kernel, rfl, by decide +kernel, by decide +kernel⟩
theorem ok_places {f : Addr} {fd : FuncData} (F : Fun K "places" "places" s_places f fd) (c_run : Cal P w K mg base 4 "run" (spRun K)) (c_moved : Cal P w K mg base 3 "moved" (spMoved K)) : GFn P w K mg base 5 f fd ["text", "cursor", "commands"] (spPlaces K) := by
  refine gen_ok F sc_places (fun vs H Q E h => ?_) (fun cdv A outer s H vs Q E pn hr h => ?_)
  · obtain ⟨t, b, l, T, r, g, xs, cs, r', g', rfl, _⟩ := h
    rfl
  · obtain ⟨t, b, l, tx, r, g, xs, cs, r', g', rfl, ht, hb, hl, hcs, nn, r0, r1, g0, ok, ln, hrun, k⟩ := h
    refine ⟨_, (gss_cons (gs_ps (ps_expr (pe_cal c_run hr (by decide) (by rfl) (pa_cons (pv 0) (pa_cons (pv 1) (pa_cons (pv 2) pa_nil))))))
      (gss_cons (gs_ps (ps_set (i := 3) sc_places.nd rfl (Or.inl rfl) (pv 1)))
      (gss_cons (gs_yield (pv 3))
      (gss_cons (gs_for owns_gcx rfl (pi_list (pv 2)) (pg_name (i := 4) sc_places.nd rfl (Or.inl rfl)) (gss_cons (gs_ps (ps_set (i := 3) sc_places.nd rfl (Or.inl rfl) (pe_cal c_moved hr (by decide) (by rfl) (pa_cons (pv 0) (pa_cons (pv 3) (pa_cons (pv 4) pa_nil))))))
      (gss_cons (gs_yield (pv 3))
      gss_nil)))
      gss_nil)))), ?_⟩
    refine ⟨_, rfl, _, rfl, _, rfl, t, b, l, tx, r, g, xs, cs, r', g', rfl, ht, hb, hl, hcs, nn, r0, r1, g0, ok, ln, hrun, fun H1 p1 e1 _ => ?_⟩
    refine ⟨_, rfl, ?_⟩
    refine ⟨Nat.zero_lt_of_lt (lt_line (n := 1) (by decide)), _, rfl, ?_⟩
    refine ⟨_, rfl, l, rfl, ⟨_, e1.seq hl⟩, ?_⟩
    refine gfor_it (walk_list (K := K) (a := l) (xs := xs)) (fun i ys σ H' => ∃ (p : Addr) (rr : Int) (gg : Option Int) (v4 : Option V) (qs : List (Int × Option Int)), σ = [some (.ref t), some (.ref b), some (.ref l), some (.ref p), v4] ∧ Same H H' ∧ SqT K H' p [.int rr, optV gg] ∧ 0 ≤ rr ∧ rr < tx.length ∧
        afterL tx rr gg (cs.drop i) = some (r', g') ∧ SpotsOf K H' ys qs ∧ qs.length = i + 1 ∧ (r, g) :: trailL tx r g cs = qs ++ trailL tx rr gg (cs.drop i))
      ⟨b, r, g, none, [(r, g)], rfl, e1, seq_t e1 hb, r0, r1, hrun, .cons ⟨b, rfl, seq_t e1 hb⟩ .nil, rfl, rfl⟩ (fun i ys σ H' _ ⟨_, _, _, _, _, _, e, _⟩ => e.seq hl) (fun i x ys σ H2 H3 hi h y => ?_) (fun ys σ H2 h => ?_)
    · obtain ⟨p, rr, gg, v4, qs, rfl, e, hp, q0, q1, hgo, hys, hq, htr⟩ := h
      obtain ⟨rfl, ex⟩ := y
      obtain ⟨c, hc, hca⟩ := paired_at hcs ex
      have hdrop : cs.drop i = c :: cs.drop (i + 1) := by
        obtain ⟨h1, h2⟩ := List.getElem?_eq_some_iff.mp hc
        rw [List.drop_eq_getElem_cons h1, h2]
      rw [hdrop, afterL_cons q0 q1] at hgo
      obtain ⟨⟨r2, g2⟩, hst, hrest⟩ := Option.bind_eq_some_iff.mp hgo
      have hin := step1_in hst
      rw [hdrop, trail_step hst] at htr
      refine ⟨_, rfl, _, rfl, _, rfl, t, p, tx, rr, gg, x, c, rfl, e.seq ht, hp, hca.same e, (fun z => by rw [hst] at z; cases z), fun r3 g3 z p3 np3 => ?_⟩
      rw [hst] at z
      cases z
      have e4 := new_same (o := HO.tup [.int r2, optV g2]) np3
      have yl := SpotsOf.len hys
      have xl := hcs.len
      refine ⟨lt_line (by omega), _, rfl, ?_⟩
      refine ⟨p3, r2, g2, _, qs ++ [(r2, g2)], rfl, e.trans e4, SqT.of upd_same, hin.1, hin.2, hrest, ?_, by rw [List.length_append, hq]; rfl, ?_⟩
      · exact paired_app (hys.same e4) (.cons ⟨p3, rfl, SqT.of upd_same⟩ .nil)
      · rw [htr]
        simp
    · obtain ⟨p, rr, gg, v4, qs, rfl, e, hp, q0, q1, hgo, hys, hq, htr⟩ := h
      rw [hcs.len, List.drop_length] at htr
      have hq2 : (r, g) :: trailL tx r g cs = qs := by rw [htr]; exact List.append_nil qs
      refine k _ ys e ?_
      rw [hq2]
      exact hys
end
end Gc

/-! texts and cursors of the laws k02 to k05, k43 -/
namespace Gc
open PySem L2
abbrev s_text : Stmt := top 40
abbrev s_cursor : Stmt := top 41
structure TxtSh (mg : Str → Option Value) : Prop where
  range : mg "range" = none
  len : mg "len" = none
  int : mg "int" = none
def spSheet (K : PySem.W.Frag) : Sp := fun vs H Q _ => ∃ (a d : Addr) (n : Nat) (most : Int), vs = [.ref a, .int most] ∧ Src H a d n ∧ n < 2 ^ 37 ∧ 1 ≤ most ∧ most ≤ 60 ∧
  ∀ (H' : Hp) (p : Addr) (T : List Int), Keep a d H H' → Src H' a d (n + 200) → p ≠ a → p ≠ d → H p = none → H' p = some (.lst (T.map V.int)) → (∀ x ∈ T, 0 ≤ x ∧ x < 10 ^ 30) → 1 ≤ T.length → (T.length : Int) ≤ most → Q (.ref p) H'
def spCurs (K : PySem.W.Frag) : Sp := fun vs H Q _ => ∃ (a d t : Addr) (n : Nat) (T : List Int), vs = [.ref a, .ref t] ∧ Src H a d n ∧ n < 2 ^ 37 ∧ H t = some (.lst (T.map V.int)) ∧ t ≠ a ∧ t ≠ d ∧ (∀ x ∈ T, 0 ≤ x ∧ x < 10 ^ 30 + 50) ∧ 1 ≤ T.length ∧ T.length ≤ 60 ∧
  ∀ (H' : Hp) (p : Addr) (r : Int) (g : Option Int), Keep a d H H' → Src H' a d (n + 10) → H' p = some (.tup [.int r, optV g]) → 0 ≤ r → r < T.length → (∀ x, g = some x → 0 ≤ x ∧ x ≤ 10 ^ 30 + 100) → Q (.ref p) H'
theorem at_lenS {T : List Int} {r : Int} (h0 : 0 ≤ r) (h1 : r < T.length) : ∃ x ∈ T, atI (T.map V.int) r = some (.int x) := by
  have l : r.toNat < T.length := by omega
  refine ⟨T[r.toNat], List.getElem_mem l, at_of (j := r.toNat) (by omega) ?_⟩
  rw [List.getElem?_map, List.getElem?_eq_getElem l]
  rfl
section
variable {P : Program} {w : World} {K : PySem.W.Frag} {mg : Str → Option Value} {base : Heap}
theorem sc_law_text : FnScope ["source", "most", "wide", "row"] ["source", "most"] (defScope s_text) := ⟨rfl, rfl, rfl, by decide +kernel, rfl, by decide +kernel, by decide +kernel⟩
theorem ok_sheet {f : Addr} {fd : FuncData} (F : Fun K "_law_text" "_law_text" s_text f fd) (T : TxtSh mg) (c_law_draw : Cal P w K mg base 1 "_law_draw" spDraw) : FnOk P w K mg base CX0 2 f fd ["source", "most"] (spSheet K) := by
  refine F.ok sc_law_text (fun vs H Q E h => ?_) (fun cdv A outer s H vs Q E hr h => ?_)
  · obtain ⟨a, d, n, most, rfl, _⟩ := h
    rfl
  · obtain ⟨a, d, n, most, rfl, hs, hn, m0, m1, k⟩ := h
    refine ⟨_, (pss_cons (ps_set (i := 2) sc_law_text.nd rfl (Or.inr rfl) (pe_ix ix_list (pe_lst (pa_cons pe_int (pa_cons pe_int (pa_cons pe_int (pa_cons pe_int (pa_cons (pe_op op_sub (pe_op op_pow pe_int pe_int) pe_int) pa_nil)))))) (pe_cal c_law_draw hr (by decide) (by rfl) (pa_cons (pv 0) (pa_cons pe_int pa_nil))) (fun _ _ => rfl)))
      (pss_one (ps_ret (pe_lc (own := [("row", 3)]) rfl sc_law_text.nd (pi_range1 rfl T.range (pa_cons (pe_op op_add pe_int (pe_cal c_law_draw hr (by decide) (by rfl) (pa_cons (pv 0) (pa_cons (pv 1) pa_nil)))) pa_nil)) (blkOk_by (N := ["source", "most", "wide", "row"]) (sc := defScope s_text) (by decide +kernel)) (fun _ _ _ _ _ => (pg_name (i := 3) sc_law_text.nd rfl (Or.inl rfl))) (fun _ _ _ _ _ => pts_nil) (fun _ _ _ _ _ => (pe_op op_mulW (pe_cal c_law_draw hr (by decide) (by rfl) (pa_cons (pv 0) (pa_cons (pe_op op_add (pv 2) pe_int) pa_nil))) (pe_callTy call_int1 (by rfl) T.int (by decide +kernel) (pa_cons (pe_cmpR op_gt (pe_cal c_law_draw hr (by decide) (by rfl) (pa_cons (pv 0) (pa_cons pe_int pa_nil))) pe_int (nomark _)) pa_nil)))))))), ?_⟩
    refine ⟨_, _, rfl, rfl, cpow (by decide), _, _, rfl, rfl, (by show 5 ≤ sizeLine; decide), fun p hp => ?_⟩
    obtain ⟨pa, pd⟩ := hs.off hp
    have e_H1 : Same H (upd H p (.lst [V.int 2, .int 5, .int 12, .int 400, .int (10 ^ (30 : Int).toNat - 99)])) := new_same hp
    have h_p : (upd H p (.lst [V.int 2, .int 5, .int 12, .int 400, .int (10 ^ (30 : Int).toNat - 99)])) p = some (.lst [V.int 2, .int 5, .int 12, .int 400, .int (10 ^ (30 : Int).toNat - 99)]) := upd_same
    generalize upd H p (.lst [V.int 2, .int 5, .int 12, .int 400, .int (10 ^ (30 : Int).toNat - 99)]) = H1 at e_H1 h_p ⊢
    replace hs := hs.same e_H1
    refine ⟨_, rfl, a, d, n, 5, rfl, hs, by omega, by decide, by decide, fun H2 r kp2 s2 r0 r1 => ?_⟩
    obtain ⟨wd, hw, w1, w2⟩ : ∃ m : Int, atI [V.int 2, .int 5, .int 12, .int 400, .int (10 ^ (30 : Int).toNat - 99)] r = some (.int m) ∧ 2 ≤ m ∧ m ≤ 10 ^ 30 - 99 := by
      rcases (show r = 0 ∨ r = 1 ∨ r = 2 ∨ r = 3 ∨ r = 4 by omega) with rfl | rfl | rfl | rfl | rfl
      · exact ⟨2, rfl, by decide, by decide⟩
      · exact ⟨5, rfl, by decide, by decide⟩
      · exact ⟨12, rfl, by decide, by decide⟩
      · exact ⟨400, rfl, by decide, by decide⟩
      · exact ⟨_, rfl, by decide, by decide⟩
    refine ⟨p, _, r, .int wd, rfl, rfl, SqL.of (kp2 _ _ pa pd h_p), hw, ?_⟩
    have k2 := (Keep.of (a := a) (d := d) e_H1).trans kp2
    refine ⟨_, rfl, _, rfl, a, d, _, _, rfl, s2, by omega, by omega, log9 (a := 20) (by omega) (by decide), fun H3 m kp3 s3 m30 m31 => ⟨_, _, rfl, rfl, _, rfl, by omega, by omega, fun D hD => ?_⟩⟩
    obtain ⟨Da, Dd⟩ := s3.off hD
    have k3 := k2.trans kp3
    refine lc_range (lo := 0) (fun i H' => ∃ tx : List Int, Keep a d H3 H' ∧ Src H' a d (n + 2 + 2 * i) ∧ H' D = some (.lst (tx.map V.int)) ∧ tx.length = i ∧ ∀ x ∈ tx, 0 ≤ x ∧ x < 10 ^ 30)
      ⟨[], (Keep.refl H3).new hD, (s3.same (new_same hD)).more (by omega), upd_same, rfl, (fun _ h => nomatch h)⟩ (fun i H' hi h => ?_) (fun H' h => ?_)
    · obtain ⟨tx, kp, sr, hd, tl, tb⟩ := h
      refine ⟨rfl, ?_⟩
      refine ⟨_, rfl, _, rfl, _, _, rfl, rfl, a, d, _, _, rfl, sr, by omega, by omega, log9 (a := 110) (by omega) (by decide), fun H5 x kp5 s5 x0 x1 => ?_⟩
      refine ⟨_, rfl, a, d, _, 6, rfl, s5, by omega, by decide, by decide, fun H6 y kp6 s6 y0 y1 => ⟨_, _, rfl, rfl, .inr ⟨_, rfl, _, _, rfl, rfl, wide_mul (a := 110) (b := 2) (by omega) (by split <;> decide) (by decide) (by decide) (by decide), ?_⟩⟩⟩
      have z01 : 0 ≤ x * (if decide (y > 0) = true then 1 else 0) ∧ x * (if decide (y > 0) = true then 1 else 0) < 10 ^ 30 := by
        split <;> omega
      obtain ⟨z, hz⟩ : ∃ z, z = x * (if decide (y > 0) = true then 1 else 0) := ⟨_, rfl⟩
      rw [← hz] at z01
      have hd6 := kp6 _ _ Da Dd (kp5 _ _ Da Dd hd)
      refine ⟨_, hd6, lt_line (by rw [List.length_map]; omega), tx ++ [z], fun b o n1 n2 hb => ?_, (s6.upd Da Dd).more (by omega), ?_, ?_, ?_⟩
      · rw [upd_ne (ne_of_none hb hD)]
        exact kp6 _ _ n1 n2 (kp5 _ _ n1 n2 (kp _ _ n1 n2 hb))
      · rw [upd_same, List.map_append]
        show some (HO.lst (_ ++ [V.int (x * (if decide (y > 0) = true then 1 else 0))])) = _
        rw [← hz]
        rfl
      · rw [List.length_append, tl]
        rfl
      · intro q hq
        rcases List.mem_append.mp hq with h | h
        · exact tb q h
        · rw [List.mem_singleton.mp h]
          exact z01
    · obtain ⟨tx, kp, sr, hd, tl, tb⟩ := h
      exact k H' D tx (k3.trans kp) (sr.more (by omega)) Da Dd (k3.free Da Dd hD) hd tb (by omega) (by omega)
theorem sc_law_cursor : FnScope ["source", "sheet", "row", "some"] ["source", "sheet"] (defScope s_cursor) := ⟨rfl, rfl, rfl, by decide +kernel, rfl, by decide +kernel, by decide +kernel⟩
theorem ok_curs {f : Addr} {fd : FuncData} (F : Fun K "_law_cursor" "_law_cursor" s_cursor f fd) (T : TxtSh mg) (c_law_draw : Cal P w K mg base 1 "_law_draw" spDraw) : FnOk P w K mg base CX0 2 f fd ["source", "sheet"] (spCurs K) := by
  refine F.ok sc_law_cursor (fun vs H Q E h => ?_) (fun cdv A outer s H vs Q E hr h => ?_)
  · obtain ⟨a, d, t, n, tx, rfl, _⟩ := h
    rfl
  · obtain ⟨a, d, t, n, tx, rfl, hs, hn, ht, ta, td, tb, t1, t60, k⟩ := h
    refine ⟨_, (pss_cons (ps_set (i := 2) sc_law_cursor.nd rfl (Or.inl rfl) (pe_cal c_law_draw hr (by decide) (by rfl) (pa_cons (pv 0) (pa_cons (pe_callB call_len_seq (by rfl) T.len (by decide +kernel) (pa_cons (pv 1) pa_nil)) pa_nil))))
      (pss_cons (ps_set (i := 3) sc_law_cursor.nd rfl (Or.inl rfl) (pe_lst (pa_cons (pe_cal c_law_draw hr (by decide) (by rfl) (pa_cons (pv 0) (pa_cons (pe_op op_add (pe_ix ix_list (pv 1) (pv 2) (fun _ _ => rfl)) pe_int) pa_nil))) (pa_cons (pe_ix ix_list (pv 1) (pv 2) (fun _ _ => rfl)) (pa_cons (pe_op op_add (pe_op op_add (pe_ix ix_list (pv 1) (pv 2) (fun _ _ => rfl)) pe_int) (pe_cal c_law_draw hr (by decide) (by rfl) (pa_cons (pv 0) (pa_cons pe_int pa_nil)))) (pa_cons pe_non (pa_cons pe_int pa_nil)))))))
      (pss_one (ps_ret (pe_tup (pa_cons (pv 2) (pa_cons (pe_ix ix_list (pe_op op_cat (pv 3) (pe_lst (pa_cons (pe_cal c_law_draw hr (by decide) (by rfl) (pa_cons (pv 0) (pa_cons (pe_op op_pow pe_int pe_int) pa_nil))) pa_nil))) (pe_cal c_law_draw hr (by decide) (by rfl) (pa_cons (pv 0) (pa_cons pe_int pa_nil))) (fun _ _ => rfl)) pa_nil))))))), ?_⟩
    refine ⟨_, rfl, _, rfl, t, _, rfl, .inl (SqL.of ht), a, d, n, _, rfl, hs, by omega, by rw [List.length_map]; omega, log9 (a := 20) (by rw [List.length_map]; omega) (by decide), fun H1 r kp1 s1 r0 r1 => ?_⟩
    rw [List.length_map] at r1
    replace ht := kp1 _ _ ta td ht
    obtain ⟨x, hx, hxa⟩ := at_lenS r0 r1
    obtain ⟨x0, x1⟩ := tb x hx
    refine ⟨_, rfl, _, rfl, _, rfl, t, _, r, .int x, rfl, rfl, SqL.of ht, hxa, _, _, rfl, rfl, a, d, _, _, rfl, s1, by omega, by omega, log9 (a := 110) (by omega) (by decide), fun H2 y kp2 s2 y0 y1 => ?_⟩
    replace ht := kp2 _ _ ta td ht
    refine ⟨_, rfl, _, rfl, t, _, r, .int x, rfl, rfl, SqL.of ht, hxa, ?_⟩
    refine ⟨_, rfl, _, rfl, t, _, r, .int x, rfl, rfl, SqL.of ht, hxa, _, _, rfl, rfl, _, rfl, a, d, _, 9, rfl, s2, by omega, by decide, by decide, fun H3 u kp3 s3 u0 u1 => ⟨_, _, rfl, rfl, (by show 5 ≤ sizeLine; decide), fun q nq => ?_⟩⟩
    obtain ⟨qa, qd⟩ := s3.off nq
    have e_H4 : Same H3 (upd H3 q (.lst [V.int y, .int x, .int (x + 1 + u), .non, .int 0])) := new_same nq
    have h_q : (upd H3 q (.lst [V.int y, .int x, .int (x + 1 + u), .non, .int 0])) q = some (.lst [V.int y, .int x, .int (x + 1 + u), .non, .int 0]) := upd_same
    generalize upd H3 q (.lst [V.int y, .int x, .int (x + 1 + u), .non, .int 0]) = H4 at e_H4 h_q ⊢
    replace s3 := s3.same e_H4
    refine ⟨_, rfl, _, rfl, _, rfl, _, _, rfl, rfl, cpow (by decide), a, d, _, _, rfl, s3, by omega, by decide, by decide, fun H5 v kp5 s5 v0 v1 => ⟨(by show 1 ≤ sizeLine; decide), fun q2 nq2 => ?_⟩⟩
    have v1' : v < 10 ^ 30 := v1
    replace h_q := kp5 _ _ qa qd h_q
    have e_H6 : Same H5 (upd H5 q2 (.lst [V.int v])) := new_same nq2
    have h_q2 : (upd H5 q2 (.lst [V.int v])) q2 = some (.lst [V.int v]) := upd_same
    generalize upd H5 q2 (.lst [V.int v]) = H6 at e_H6 h_q2 ⊢
    replace s5 := s5.same e_H6
    replace h_q := e_H6 _ _ h_q
    refine ⟨q, q2, _, _, rfl, rfl, h_q, h_q2, (by show 5 + 1 ≤ sizeLine; decide), fun q3 nq3 => ?_⟩
    obtain ⟨qa3, qd3⟩ := s5.off nq3
    have e_H7 : Same H6 (upd H6 q3 (.lst ([V.int y, .int x, .int (x + 1 + u), .non, .int 0] ++ [V.int v]))) := new_same nq3
    have h_q3 : (upd H6 q3 (.lst ([V.int y, .int x, .int (x + 1 + u), .non, .int 0] ++ [V.int v]))) q3 = some (.lst ([V.int y, .int x, .int (x + 1 + u), .non, .int 0] ++ [V.int v])) := upd_same
    generalize upd H6 q3 (.lst ([V.int y, .int x, .int (x + 1 + u), .non, .int 0] ++ [V.int v])) = H7 at e_H7 h_q3 ⊢
    replace s5 := s5.same e_H7
    refine ⟨_, rfl, a, d, _, 6, rfl, s5, by omega, by decide, by decide, fun H8 z kp8 s8 z0 z1 => ?_⟩
    obtain ⟨g, hg, hgb⟩ : ∃ g : Option Int, atI ([V.int y, .int x, .int (x + 1 + u), .non, .int 0] ++ [V.int v]) z = some (optV g) ∧ ∀ b, g = some b → 0 ≤ b ∧ b ≤ 10 ^ 30 + 100 := by
      rcases (show z = 0 ∨ z = 1 ∨ z = 2 ∨ z = 3 ∨ z = 4 ∨ z = 5 by omega) with rfl | rfl | rfl | rfl | rfl | rfl
      · exact ⟨some y, rfl, fun b e => by cases e; omega⟩
      · exact ⟨some x, rfl, fun b e => by cases e; omega⟩
      · exact ⟨some (x + 1 + u), rfl, fun b e => by cases e; omega⟩
      · exact ⟨none, rfl, fun b e => nomatch e⟩
      · exact ⟨some 0, rfl, fun b e => by cases e; exact ⟨by decide, by decide⟩⟩
      · exact ⟨some v, rfl, fun b e => by cases e; omega⟩
    refine ⟨q3, _, z, _, rfl, rfl, SqL.of (kp8 _ _ qa3 qd3 h_q3), hg, (by show 2 ≤ sizeLine; decide), fun pr npr => ?_⟩
    have kall : Keep a d H H8 := ((((((kp1.trans kp2).trans kp3).trans (Keep.of e_H4)).trans kp5).trans (Keep.of e_H6)).trans (Keep.of e_H7)).trans kp8
    exact k _ pr r g (kall.new npr) ((s8.same (new_same npr)).more (by omega)) upd_same r0 r1 hgb
end
end Gc

/-! a text with commands, as data; repetitions, as data -/
namespace Gc
open PySem L2
def bothD (T : List Int) (cs : List Cmd) : PyData := .list [.list (T.map PyData.int), .list (cs.map cmdD)]
theorem both_show {T : List Int} {cs : List Cmd} (hT : ∀ x ∈ T, Sml x) (hc : ∀ c ∈ cs, CSml c) (lT : T.length ≤ 200) (lc : cs.length ≤ 100) : (bothD T cs).showable = true ∧ (bothD T cs).hasDict = false ∧ (bothD T cs).depth ≤ 60 ∧ (bothD T cs).shown.length ≤ sizeLine := by
  obtain ⟨c1, c2, c3⟩ := cmds_ok0 hc
  have o : Ok0 (bothD T cs) := ok0_list (ok0_cons (ok0_list (ok0_ints hT)) (ok0_cons (ok0_list c1) ok0_nil))
  refine ⟨o.1, o.2.1, ?_, ok0_len o ?_⟩
  · simp only [bothD, PyData.depth, PyData.depthAll, deep_ints]
    omega
  · have w1 := weight_ints hT
    simp only [bothD, PyData.weight, PyData.weightAll]
    omega
theorem both_lay (T : List Int) (cs : List Cmd) : (bothD T cs).canLay0 = true := by
  have h1 : PyData.canLayAll0 (T.map PyData.int) = true := PySem.W.ke_canLayAll0 T
  simp [bothD, PyData.canLay0, PyData.canLayAll0, h1, lay_cmds cs]
theorem csml_of {c : Cmd} (ok : c.ok) (h : numC c < 10 ^ 32) : CSml c := by
  have key : ∀ n : Int, 1 ≤ n → n < 10 ^ 32 → n.natAbs < 2 ^ 120 := fun n h1 h => by omega
  cases c with
  | down n => exact key n ok h
  | up n => exact key n ok h
  | right n => exact key n ok h
  | left n => exact key n ok h
  | home => trivial
  | stop => trivial
theorem chg_le {B : Nat} : ∀ {cs : List Cmd}, (∀ c ∈ cs, c.ok ∧ numC c ≤ B) → (chg cs).natAbs ≤ B * cs.length
  | [], _ => Nat.le_refl _
  | c :: cs, h => by
    have ih := chg_le (B := B) (cs := cs) fun d hd => h d (List.mem_cons_of_mem _ hd)
    obtain ⟨ok, nb⟩ := h c List.mem_cons_self
    have h1 : (chg1 c).natAbs ≤ B := by
      cases c with
      | right n =>
        have o : 1 ≤ n := ok
        have q : n ≤ (B : Int) := nb
        show n.natAbs ≤ B
        omega
      | left n =>
        have o : 1 ≤ n := ok
        have q : n ≤ (B : Int) := nb
        show (-n).natAbs ≤ B
        omega
      | _ => exact Nat.zero_le _
    show (chg1 c + chg cs).natAbs ≤ B * (cs.length + 1)
    rw [Nat.mul_succ]
    omega
/-- a cursor, or the index of the impossible command in a list -/
def repD : Nat ⊕ (Int × Option Int) → PyData
  | .inl n => .list [.int n]
  | .inr x => .tuple [.int x.1, optD x.2]
theorem repD_lay (x : Nat ⊕ (Int × Option Int)) : (repD x).canLay0 = true := by
  rcases x with n | ⟨r, _ | g⟩ <;> rfl
theorem repD_shaped (x : Nat ⊕ (Int × Option Int)) : SeqAt.shaped (repD x) = true := by
  rcases x with n | ⟨r, _ | g⟩ <;> rfl
theorem repDs_shaped (x : Nat ⊕ (Int × Option Int)) : SeqAt.shaped (.list [repD x, repD x]) = true := by
  rcases x with n | ⟨r, _ | g⟩ <;> rfl
theorem repD_eqv (x : Nat ⊕ (Int × Option Int)) : PyData.eqv (repD x) (repD x) = true := SeqAt.eqv_refl _ (repD_lay x)
theorem repDs_eqv (x : Nat ⊕ (Int × Option Int)) : PyData.eqv (.list [repD x, repD x]) (.list [repD x, repD x]) = true := SeqAt.eqv_refl _ (by rcases x with n | ⟨r, _ | g⟩ <;> rfl)
theorem tup_atL {K : PySem.W.Frag} {H : Hp} {l a : Addr} {ys zs xs : List V} (hl : H l = some (.lst ys)) (h1 : SqT K H a xs) : SqT K (upd H l (.lst zs)) a xs := by
  rcases h1 with (z | ⟨o, z⟩) | z
  · exact .inl (.inl (by rw [upd_ne (ne_of z hl (by intro q; cases q))]; exact z))
  · exact .inl (.inr ⟨o, by rw [upd_ne (ne_of z hl (by intro q; cases q))]; exact z⟩)
  · exact .inr z
theorem paired_ins {α β : Type} {F : α → β → Prop} {xs : List α} {ys : List β} {x : α} {y : β} (h : Paired F xs ys) (h1 : F x y) (i : Nat) : Paired F (xs.take i ++ [x] ++ xs.drop i) (ys.take i ++ [y] ++ ys.drop i) :=
  paired_app (paired_app (paired_take i h) (.cons h1 .nil)) (paired_drop i h)
theorem mem_ins {α : Type} {ys : List α} {y z : α} {i : Nat} (h : z ∈ ys.take i ++ [y] ++ ys.drop i) : z = y ∨ z ∈ ys := by
  rcases List.mem_append.mp h with q | q
  · rcases List.mem_append.mp q with q | q
    · exact .inr (List.mem_of_mem_take q)
    · exact .inl (List.mem_singleton.mp q)
  · exact .inr (List.mem_of_mem_drop q)
theorem len_ins {α : Type} (ys : List α) (y : α) {i : Nat} (h : i ≤ ys.length) : (ys.take i ++ [y] ++ ys.drop i).length = ys.length + 1 := by
  rw [List.length_append, List.length_append, List.length_take, List.length_drop, List.length_singleton]
  omega
end Gc

/-! a cursor, or the index of the impossible command in a list, in the heap -/
namespace Gc
open PySem L2
def RepV (K : PySem.W.Frag) (H : Hp) (v : V) : Nat ⊕ (Int × Option Int) → Prop
  | .inl n => ∃ p, v = .ref p ∧ H p = some (.lst [.int (n : Nat)])
  | .inr x => ∃ p, v = .ref p ∧ SqT K H p [.int x.1, optV x.2]
theorem RepV.same {K : PySem.W.Frag} {H H' : Hp} {v : V} {x : Nat ⊕ (Int × Option Int)} (h : RepV K H v x) (e : Same H H') : RepV K H' v x := by
  cases x with
  | inl n =>
    obtain ⟨p, rfl, h⟩ := h
    exact ⟨p, rfl, e _ _ h⟩
  | inr x =>
    obtain ⟨p, rfl, h⟩ := h
    exact ⟨p, rfl, seq_t e h⟩
theorem dp_optR {K : PySem.W.Frag} {H : Hp} (o : Option Int) : Dp K H (optV o) (optD o) := by
  cases o with
  | none => exact .non
  | some n => exact .int n
theorem RepV.dp {K : PySem.W.Frag} {H : Hp} {v : V} {x : Nat ⊕ (Int × Option Int)} (h : RepV K H v x) : Dp K H v (repD x) := by
  cases x with
  | inl n =>
    obtain ⟨p, rfl, h⟩ := h
    exact .lst (SqL.of h) (.cons (.int _) .nil)
  | inr x =>
    obtain ⟨p, rfl, h⟩ := h
    exact .tup h (.cons (.int _) (.cons (dp_optR _) .nil))
end Gc

/-! a caught error that is looked at: handed to a def within the except suite, its classes, its field -/
namespace L2
open PySem PySem.Spec PyProof.Rows
/-- what a def promises that is handed the error of the suite: at a, of the class at C, with the dict d -/
structure FnE (P : Program) (w : World) (K : PySem.W.Frag) (mg : Str → Option Value) (base : Heap) (k : Nat) (f : Addr) (fd : FuncData) (ps : List Str) (sp : Addr → Addr → Addr → Sp) : Prop where
  many : ∀ a C d vs H Q E, sp a C d vs H Q E → vs.length = ps.length
  go : ∀ (A : Around) (below : List Env) (s : Shared) (H : Hp) (given : Args) (us : List Value) (vs : List V) (Q : VK) (E : XK) (q : Addr × Obj) (C d : Addr), L2H.RoomH k A → L2H.PinOk below H s q → Zc (.ref C) (some d) q.2 → (∃ ws, q.2.data = .fields ws) →
    Env0 P w K mg base A below s H → BindsTo s fd given (ps.zip us) → Vals vs us → sp q.1 C d vs H Q E → codeAny (model P w) A (.call (.ref f) given) (CR CX0 below P w H s Q E) s
/-- the context that such a def's body runs in -/
abbrev cxE (P : Program) (w : World) (K : PySem.W.Frag) (mg : Str → Option Value) (base : Heap) (N : List Str) (qual : Str) (sc : Scope) (f : Addr) (cd : Value) (A : Around) (below : List Env) (s : Shared) (H : Hp) (E : XK) (q : Addr × Obj) : Cx :=
  L2H.cxH CX0 P w K mg base N qual sc f cd A below s H E q
theorem Fun.okE {P : Program} {w : World} {K : PySem.W.Frag} {mg : Str → Option Value} {base : Heap} {x qual : Str} {st : Stmt} {f : Addr} {fd : FuncData} {N ps : List Str} {k : Nat} {sp : Addr → Addr → Addr → Sp} (F : Fun K x qual st f fd) (S : FnScope N ps (defScope st))
    (many : ∀ a C d vs H Q E, sp a C d vs H Q E → vs.length = ps.length)
    (body : ∀ (cdv : Value) (A : Around) (below : List Env) (s : Shared) (H : Hp) (vs : List V) (Q : VK) (E : XK) (q : Addr × Obj) (C d : Addr), L2H.RoomH k (A.deeper (envOfC qual (defScope st) s.heap.objs.size f cdv)) → Zc (.ref C) (some d) q.2 → (∃ ws, q.2.data = .fields ws) → sp q.1 C d vs H Q E →
      ∃ t, PSs (cxE P w K mg base N qual (defScope st) f cdv A below s H E q) (defBody st) t ∧ t { nx := fun _ H' => Q .non H', rt := Q } (start N vs) H) : FnE P w K mg base (k + 1) f fd ps sp := by
  obtain ⟨oc, od, kV, doc, pm, an, cdv, ct, osl, rfl, lk, code⟩ := F.ex
  refine ⟨many, fun A below s H given us vs Q E q C d room pin hz hf env bnd rel want => ?_⟩
  have size := many _ _ _ _ _ _ _ want
  have inK : K.In s.heap := env.mod.kin.keeps fun b o z => (env.bs b o z).1
  have free : s.heap.NoLimit := env.mod.nolimit.keeps fun b o z => (env.bs b o z).1
  refine codeAny_call_function room.depth (inK _ _ lk) rfl S.co S.gen rfl (PySem.W.codeRec_of inK code) (bnd _ _ _ _ ?_)
  refine wpAny_newFunctionEnv_cells S.kind (fun ⟨n, v⟩ there => (S.par n (List.of_mem_zip there).1).elim .inl fun z => .inr ⟨z, PySem.W.cellsFrom_some _ _ _ (.inl z)⟩) fun env2 same s1 call => ?_
  subst same
  refine ⟨free.keeps call.toInCall.keep, codeAny_func ?_⟩
  obtain ⟨t, holds, ask⟩ := body cdv A below s H vs Q E q C d (room.deeper _) hz hf want
  refine wpAny_mono (holds.run [] s1 (start N vs) H _ (L2H.inv_startH S pin env size rel call) ask) (fun how s2 end_ => ?_) fun e s2 end_ => end_
  cases how with
  | ret u =>
    obtain ⟨v, τ, G, J, rv, z⟩ := end_
    exact ⟨v, G, J.os, J.bare, J.base, J.hok, rv, z⟩
  | next =>
    obtain ⟨τ, G, J, z⟩ := end_
    exact ⟨V.non, G, J.os, J.bare, J.base, J.hok, rfl, z⟩
  | brk => exact end_.elim fun _ z => z.elim fun _ y => y.2.elim
  | cont => exact end_.elim fun _ z => z.elim fun _ y => y.2.elim
/-- such a def, called by its name -/
structure CalE (P : Program) (w : World) (K : PySem.W.Frag) (mg : Str → Option Value) (base : Heap) (k : Nat) (x : Str) (sp : Addr → Addr → Addr → Sp) : Prop where
  ex : ∃ (f : Addr) (fd : FuncData) (ps : List Str), FnE P w K mg base k f fd ps sp ∧ mg x = some (.ref f) ∧ PySem.W.keepIn K (.ref f) = true ∧ Binds K fd ps []
def tCallE (a : Addr) (cls : Value) (d : Option Addr) (sp : Addr → Addr → Addr → Sp) (t : TA) : TE := fun σ H Q => t σ H fun vs H1 => ∃ C dd : Addr, cls = .ref C ∧ d = some dd ∧ sp a C dd vs H1 Q E0
section
variable {X : Cx} {k j : Nat} {x : Str} {sp : Addr → Addr → Addr → Sp} {p pos : Pos} {e : Expr} {es : List Expr} {t : TA} {te : TE} {a : Addr} {oe : Obj} {cls : Value} {d : Option Addr} {pn : List (Addr × Obj)}
theorem pe_callE (c : CalE X.prog X.w X.K X.mg X.base k x sp) (hr : Room j X.A) (hk : k ≤ j) (hz : Zc cls d oe) (hf : ∃ vs, oe.data = .fields vs) (hg : Gl (X.suite a ((a, oe) :: pn)) x) (ha : PA (X.suite a ((a, oe) :: pn)) (e :: es) t)
    (hdb : (x == ("__debug__" : Str)) = false := by decide)
    (he : starEach (e :: es) X.env = (false, eval e X.env) :: starEach es X.env := by rfl)
    (hpl : (backTo pos (starEach es X.env)).any (·.1) = false := by rfl) :
    PE (X.suite a ((a, oe) :: pn)) (.Call (.Name x p) (e :: es) [] pos) (tCallE a cls d sp t) := by
  obtain ⟨f, fd, ps, F, hm, kp, b⟩ := c.ex
  refine ⟨fun pins s σ H Q I h => ?_⟩
  refine wpAny_Call_Name_kw (ld_glob I hg hm ?_ hdb)
  refine PySem.W.callWith_K (h₀ := X.base) I.ok.mod.kin kp (thn (ha.run pos pins s σ H _ I h) fun us s1 ⟨vs, H1, I1, r, C, dd, ec, ed, q⟩ => ⟨I1.kIn, ?_⟩) he hpl
  subst ec
  subst ed
  have size : us.length = ps.length := by rw [← r.length]; exact F.many _ _ _ _ _ _ _ q
  have bnd := b s1 us I1.kIn (by rw [List.append_nil]; exact size)
  rw [List.append_nil] at bnd
  obtain ⟨p1, p2, p3, p4, p5⟩ := I1.pin (a, oe) (List.mem_append_left _ List.mem_cons_self)
  have pin : L2H.PinOk (X.suite a ((a, oe) :: pn)).stack H1 s1 (a, oe) := ⟨p1, p2, fun z => (List.mem_cons.mp (I1.stkSub a z)).elim p3 p4, p5⟩
  refine wpAny_call (codeAny_mono (F.go _ _ s1 H1 ⟨us, []⟩ us vs Q E0 (a, oe) C dd ((⟨hr.dp, hr.un⟩ : L2H.RoomH j (X.suite a ((a, oe) :: pn)).A).mono hk) pin hz hf I1.env0 bnd r q) fun how s2 end_ => ?_)
  cases how with
  | error u => exact False.elim end_
  | ok fl =>
    cases fl with
    | ret u => exact I1.after end_
    | next => exact False.elim end_
    | brk => exact False.elim end_
    | cont => exact False.elim end_
/-- what an error class must say, so that its instances can be looked at -/
structure ErrI (K : PySem.W.Frag) (C : Addr) : Prop where
  cl : (PySem.W.clsIn K C).isSome = true
  ga : PySem.W.findIn K (.ref C) "__getattribute__" = some (some (.builtin "BaseException.__getattribute__"))
  gg : PySem.W.findIn K (.ref C) "__getattr__" = some none
  be : PySem.W.subIn K (.ref C) (.type "BaseException") = some true
  hd : PySem.W.hasDictIn K C = true
  cc : PySem.W.findIn K (.ref C) "__class__" = some (some (.builtin "object.__class__"))
  gt : PySem.W.specialIn K (.builtin "object.__class__") "__get__" = some (some (.builtin "getset_descriptor.__get__"))
  tk : PySem.W.takesIn K (.builtin "object.__class__") = some true
  ob : PySem.W.mroIn K C (.type "object") = some true
  no : PySem.W.findIn K (.ref C) "value" = some none
theorem pin_inst {pins : List (Addr × Obj)} {s : Shared} {σ : St} {H : Hp} {C dd : Addr} {fs : List (Str × V)} (I : Inv X pins σ H s) (hp : (a, oe) ∈ X.pn) (hz : Zc (.ref C) (some dd) oe) (hf : ∃ vs, oe.data = .fields vs) (ed : H dd = some (.xd fs)) :
    ∃ (od : Obj) (mA : Str → Option Value), PySem.W.InstAt s.heap a oe C (some od) ∧ (∀ f, PySem.W.lookIn f od = some (mA f)) ∧ ∀ f, RelO (fs.lookup f) (mA f) := by
  obtain ⟨p1, _⟩ := I.pin (a, oe) (List.mem_append_left _ hp)
  obtain ⟨vs, hd⟩ := hf
  obtain ⟨mA, hns, rel⟩ := (show ObjOk X.prog X.w H s.heap dd (.xd fs) from I.hok dd _ ed)
  obtain ⟨od, ho, hl⟩ := lookIn_ns hns
  exact ⟨od, mA, ⟨p1, hz.1, by unfold PySem.W.notCls; rw [hd] <;> rfl, by rw [hz.2]; exact ho⟩, hl, rel⟩
/-- isinstance(e, c), e the error -/
def rIsX (K : PySem.W.Frag) (a C dd : Addr) : List V → Hp → VK → Prop := fun xs H Q => ∃ (fs : List (Str × V)) (c : V) (cv : Value) (b : Bool), xs = [.ref a, c] ∧ H dd = some (.xd fs) ∧ ErrI K C ∧ ClsV c cv ∧ PySem.W.kitOne K (.ref C) cv = some b ∧ Q (.bl b) H
theorem call_isX {C dd : Addr} (hp : (a, oe) ∈ X.pn) (hz : Zc (.ref C) (some dd) oe) (hf : ∃ vs, oe.data = .fields vs) : CallR X (.builtin "isinstance") (rIsX X.K a C dd) := by
  intro pins s σ H xs us Q I r h
  obtain ⟨fs, c, cv, b, rfl, ed, T, k, e, q⟩ := h
  obtain ⟨u1, u2, rfl, r1, r2⟩ := vals2 r
  have e2 := k.eq r2
  subst e2
  obtain rfl : u1 = Value.ref a := r1
  obtain ⟨od, mA, J, _, _⟩ := pin_inst I hp hz hf ed
  exact PySem.W.kia_one (PySem.W.kitx_exc T.cl T.ga T.gg T.be T.cc T.gt T.tk T.ob) I.kIn J e (fun z => nomatch z) fun tk => ⟨.bl b, H, I.tok tk, rfl, q⟩
/-- isinstance(e, (c1, c2, ..)) -/
def rIsXT (K : PySem.W.Frag) (a C dd : Addr) : List V → Hp → VK → Prop := fun xs H Q => ∃ (fs : List (Str × V)) (tp : Addr) (cs : List V) (us : List Value) (b : Bool), xs = [.ref a, .ref tp] ∧ H dd = some (.xd fs) ∧ ErrI K C ∧ H tp = some (.tup cs) ∧ Paired ClsV cs us ∧
  PySem.W.kitAny K (.ref C) us = some b ∧ Q (.bl b) H
theorem call_isXT {C dd : Addr} (hp : (a, oe) ∈ X.pn) (hz : Zc (.ref C) (some dd) oe) (hf : ∃ vs, oe.data = .fields vs) : CallR X (.builtin "isinstance") (rIsXT X.K a C dd) := by
  intro pins s σ H xs us Q I r h
  obtain ⟨fs, tp, cs, ws, b, rfl, ed, T, hT, k, e, q⟩ := h
  obtain ⟨u1, u2, rfl, r1, r2⟩ := vals2 r
  obtain rfl : u1 = Value.ref a := r1
  obtain rfl : u2 = Value.ref tp := r2
  obtain ⟨od, mA, J, _, _⟩ := pin_inst I hp hz hf ed
  obtain ⟨_, its, rv, o, g1, g2, n, g3⟩ := (show ObjOk X.prog X.w H s.heap tp (.tup cs) from I.hok tp _ hT)
  have e3 := ClsV.all k rv
  subst e3
  obtain ⟨oc, o2, dt, sl⟩ := o
  simp only at g2 g3
  subst g2 g3
  exact PySem.W.kia_tup (PySem.W.kitx_exc T.cl T.ga T.gg T.be T.cc T.gt T.tk T.ob) I.kIn J g1 e (fun z => nomatch z) fun tk => ⟨.bl b, H, I.tok tk, rfl, q⟩
/-- e.value -/
def tXfA (K : PySem.W.Frag) (a : Addr) (cls : Value) (d : Option Addr) (te : TE) : TE := fun σ H Q => te σ H fun x H1 => x = .ref a ∧ ∃ (C dd : Addr) (v : V), cls = .ref C ∧ d = some dd ∧ ErrI K C ∧ H1 dd = some (.xd [("value", v)]) ∧ Q v H1
theorem pe_xfA (hz : Zc cls d oe) (hf : ∃ vs, oe.data = .fields vs) (he : PE (X.suite a ((a, oe) :: pn)) e te) (hb : attributeBase e "value" X.env (eval e X.env) = eval e X.env := by rfl) :
    PE (X.suite a ((a, oe) :: pn)) (.Attribute e "value" pos) (tXfA X.K a cls d te) := by
  refine ⟨fun pins s σ H Q I h => ?_⟩
  refine attr_of hb (thn (he.run pins s σ H _ I h) fun u s1 hh => ?_)
  obtain ⟨x, H1, I1, rx, ex, C, dd, v, ec, ed, T, hd, q⟩ := hh
  subst ex
  obtain rfl : u = Value.ref a := rx
  subst ec
  subst ed
  obtain ⟨od, mA, J, hl, rel⟩ := pin_inst I1 List.mem_cons_self hz hf hd
  obtain ⟨u, hu, ru⟩ := RelO.some_of (v := v) (o := mA "value") (by
    have z := rel "value"
    rw [show List.lookup ("value" : Str) [(("value" : Str), v)] = some v by simp [List.lookup]] at z
    exact z)
  exact HandSPX.exc_get I1.kIn J T.ga T.gg T.be (PySem.W.findObj_own T.hd T.no rfl (by rw [hl, hu])) (handed_of ru) ⟨v, H1, I1.tok _, ru, q⟩
end
end L2
namespace Gc
open PySem PySem.Spec PyProof.Rows L2
/-- a def that may let an error out, called by names alone -/
structure CalKX (P : Program) (w : World) (K : PySem.W.Frag) (mg : Str → Option Value) (base : Heap) (k : Nat) (x : Str) (ks : List Str) (sp : Sp) : Prop where
  ex : ∃ (f : Addr) (fd : FuncData) (ps : List Str), FnOk P w K mg base (L2.CX P w) k f fd ps sp ∧ mg x = some (.ref f) ∧ PySem.W.keepIn K (.ref f) = true ∧ KBinds K fd ps ks gRev gRev
def tCallKX (sp : Sp) (W : WX) (tk : TA) : TE := fun σ H Q => tk σ H fun zs H2 => sp (gRev [] zs) H2 Q (WE W σ)
theorem pe_calKX {X : Cx} {W : WX} {k j : Nat} {x : Str} {ks : List Str} {sp : Sp} {p pos : Pos} {kws : List Keyword} {t : TA} (tk : Takes X W) (c : CalKX X.prog X.w X.K X.mg X.base k x ks sp) (hr : Room j X.A) (hk : k ≤ j) (hg : Gl X x) (hkw : PK X kws t)
    (hdb : (x == ("__debug__" : Str)) = false := by decide) (hall : (backToKw pos (keywordEach kws X.env)).all (·.1.isSome) = true := by rfl) (hks : (backToKw pos (keywordEach kws X.env)).filterMap (·.1) = ks := by rfl)
    (hpn : ((backTo pos (starEach [] X.env)).any (·.1) || (backToKw pos (keywordEach kws X.env)).any (·.1.isNone)) = false := by rfl) :
    PE X (.Call (.Name x p) [] kws pos) (tCallKX sp W t) := by
  obtain ⟨f, fd, ps, F, hm, kp, b⟩ := c.ex
  refine ⟨fun pins s σ H Q I h => ?_⟩
  refine wpAny_Call_Name_kw (ld_glob I hg hm ?_ hdb)
  refine PySem.W.callWith_KW0 (h₀ := X.base) I.ok.mod.kin kp hall ?_ hpn
  refine thn (hkw.run pos pins s σ H _ I h) fun ws s1 ⟨zs, H1, I1, rz, q⟩ => ⟨I1.kIn, ?_⟩
  rw [hks]
  have r2 := b.rel (us := []) (vs := []) .nil rz
  have size : (gRev [] ws).length = ps.length := by rw [← r2.length]; exact F.len _ _ _ _ q
  refine wpAny_call (codeAny_mono (F.run X.A X.stack s1 H1 ⟨[], ks.zip ws⟩ (gRev [] ws) (gRev [] zs) Q (WE W σ) (hr.mono hk) I1.env0 (b.to s1 [] ws I1.kIn size) r2 q) fun how s2 end_ => ?_)
  cases how with
  | error u => exact passAt tk σ pins H1 s1 u s2 I1 end_
  | ok fl =>
    cases fl with
    | ret u => exact I1.after end_
    | next => exact False.elim end_
    | brk => exact False.elim end_
    | cont => exact False.elim end_
end Gc
namespace L2
open PySem PySem.Spec PyProof.Rows
theorem takesNone {X : Cx} : Takes X (fun _ _ _ _ => False) := fun _ _ x => by
  obtain ⟨_, _, _, _, _, _, _, _, _, _, _, _, _, _, _, _, z⟩ := x
  exact z.elim
end L2

/-! run, or the value of its error in a list -/
namespace Gc
open PySem L2
abbrev s_lrun : Stmt := top 9999
structure TxtIm (K : PySem.W.Frag) (mg : Str → Option Value) (CO : Addr) : Prop where
  g_Impossible : mg "Impossible" = some (.ref CO)
  ex : PySem.W.exmOne K (.ref CO) (.ref CO) = some true
  ei : ErrI K CO
def spLRun (K : PySem.W.Frag) : Sp := fun vs H Q _ => ∃ (t b l : Addr) (T : List Int) (r : Int) (g : Option Int) (xs : List V) (cs : List Cmd), vs = [.ref t, .ref b, .ref l] ∧ SqL K H t (T.map V.int) ∧ SqT K H b [.int r, optV g] ∧ SqL K H l xs ∧ CmdsOf K H xs cs ∧
  (∀ x ∈ T, 0 ≤ x) ∧ 0 ≤ r ∧ r < T.length ∧ ge g 0 ∧ AllOk cs ∧ cs.length ≤ 10000 ∧ ∀ (H' : Hp) (v : V), Same H H' → RepV K H' v (repP T cs 1 r g) → Q v H'
end Gc

/-! list(g(..)) where the generator may raise ahead of its first value -/
namespace Gc
open PySem PySem.Spec PyProof.Rows GenW L2
/-- the errors of E that end no iterator -/
def EN (K : PySem.W.Frag) (E : XK) : XK := fun cls d H => PySem.W.subIn K cls (.type "StopIteration") = some false ∧ E cls d H
theorem en_stop {K : PySem.W.Frag} {E : XK} : NoStop K (EN K E) := fun _ _ _ h => h.1
def tListGX (K : PySem.W.Frag) (W : WX) (tg : XK → TGen) : TE := fun σ H Q => tListG (tg (EN K (WE W σ))) σ H Q
section
variable {X : Cx} {k : Nat} {W : WX} {tg : XK → TGen} {e : Expr} {nm : Str} {p pos : Pos}
theorem pe_listX (h : ∀ E, PGen X k e (tg E) E) (tk : Takes X W) (hr : Room (k + 3) X.A) (hg : Gl X nm) (hmg : X.mg nm = none) (hv : bootBuiltins nm = some (.type "list")) (hnm : nm ≠ "__name__" := by decide) (hdb : (nm == ("__debug__" : Str)) = false := by decide)
    (he : starEach [e] X.env = (false, eval e X.env) :: starEach [] X.env := by rfl) : PE X (.Call (.Name nm p) [e] [] pos) (tListGX X.K W tg) := by
  constructor
  intro pins s σ H Q I hq
  apply wpAny_Call_Name_kw
  apply ld_blt I hg hmg hv _ hnm hdb
  apply PyProof.Rows.callWith_type1 _ he rfl
  rw [he]
  change wpAny _ _ (spliced ((false, eval e X.env) :: backTo pos (starEach [] X.env))) _ _ s
  apply Calls.spliced_cons
  refine thn ((h (EN X.K (WE W σ))).run pins s σ H _ I hq) ?_
  rintro u s1 ⟨H1, sc, ex, I1, hex, made⟩
  apply Calls.spliced_nil
  have size1 : sc.heap.objs.size ≤ s1.heap.objs.size := by
    rcases made with ⟨a, g, c, _, below, above, _⟩
    exact Nat.le_trans below (Nat.le_of_lt above)
  apply call_list_new hr I1.ok.frames made
  · intro S s' acc c H' ys q0 q1 q2 q3 q4 q5 q6 q7 q8 q9
    refine ⟨.ref S, upd H' S (.lst ys), ?_, rfl, q9 S q8⟩
    exact I1.drained (by omega) q3 q1 q2 hex q4 q5 q6 q7 q8
  · intro e s' g c
    have there : X.K.In s'.heap := by
      rcases id c with ⟨a, B, H', cls, d, _, fl, _, ground, _⟩
      apply I1.ok.mod.kin.keeps
      intro b o at_b
      have old := I1.bs b o at_b
      apply fl.1 b o
      apply ground.keep b o old.1 old.2
      intro inF
      rcases List.mem_cons.mp (I1.stkSub b inF) with z | z
      · have l1 := Heap.lt_size at_b
        have l2 := I1.ok.bsz
        have l3 := I1.ok.above
        rw [z] at l1
        have l4 := Nat.lt_of_lt_of_le l1 (Nat.le_trans l2 l3)
        exact absurd l4 (Nat.lt_irrefl _)
      · exact absurd z (I1.ok.nofr at_b)
    refine ⟨notStop_of en_stop there c, ?_⟩
    apply tk
    apply XE.of_call I1 (E := EN X.K (WE W σ)) (fun _ _ _ z => z.2)
    rcases c with ⟨a, B, H', cls, d, z1, fl, z2, ground, z3, z4, z5, z6⟩
    exact ⟨a, B, H', cls, d, z1, fl, z2, ground, z3, z4, allBare_setGen z5 rfl, z6⟩
end
section
variable {X : Cx} {k : Nat} {W : WX} {x : Str} {sp : SpG} {p p0 pos pos' : Pos} {e : Expr} {es : List Expr} {t : TA}
/-- list(g(..)) within a try -/
theorem pe_listGX (tk : Takes X W) (c : GCal X.prog X.w X.K X.mg X.base k x sp) (hr : Room (k + 3) X.A) (hg : Gl X x) (ha : PA X (e :: es) t) (hgl : Gl X "list") (hml : X.mg "list" = none)
    (hdb : (x == ("__debug__" : Str)) = false := by decide) (he : starEach (e :: es) X.env = (false, eval e X.env) :: starEach es X.env := by rfl) (hpl : (backTo pos' (starEach es X.env)).any (·.1) = false := by rfl)
    (he2 : starEach [.Call (.Name x p) (e :: es) [] pos'] X.env = (false, eval (.Call (.Name x p) (e :: es) [] pos') X.env) :: starEach [] X.env := by rfl) :
    PE X (.Call (.Name "list" p0) [.Call (.Name x p) (e :: es) [] pos'] [] pos) (tListGX X.K W fun E => tCallG sp [] E t) := by
  obtain ⟨f, fd, ps, F, hm, kp, b⟩ := c.ex
  exact pe_listX (fun E => pgen_call F (hr.mono (by omega)) hg hm kp b .nil ha hdb he hpl) tk hr hgl hml (by decide +kernel) (by decide) (by decide) he2
end
end Gc

/-! places of valid arguments: where it fails, Impossible -/
namespace Gc
open PySem L2
def spPlacesI (K : PySem.W.Frag) (CO : Addr) : SpG := fun vs H Q E => ∃ (t b l : Addr) (T : List Int) (r : Int) (g : Option Int) (xs : List V) (cs : List Cmd), vs = [.ref t, .ref b, .ref l] ∧ SqL K H t (T.map V.int) ∧ SqT K H b [.int r, optV g] ∧ SqL K H l xs ∧ CmdsOf K H xs cs ∧
  (∀ x ∈ T, 0 ≤ x) ∧ 0 ≤ r ∧ r < T.length ∧ ge g 0 ∧ AllOk cs ∧ cs.length ≤ 10000 ∧ (∀ n, failAt T r g cs = some n → Err E CO (.int (n : Nat)) H) ∧ ∀ (H' : Hp) (ys : List V), failAt T r g cs = none → Same H H' → SpotsOf K H' ys ((r, g) :: trailL T r g cs) → Q ys H'
section
variable {P : Program} {w : World} {K : PySem.W.Frag} {mg : Str → Option Value} {base : Heap} {CO : Addr}
theorem ok_placesI {f : Addr} {fd : FuncData} (F : Fun K "places" "places" s_places f fd) (c_run : CalX P w K mg base 4 "run" (zRunI K CO)) (c_moved : Cal P w K mg base 3 "moved" (spMoved K)) : GFn P w K mg base 5 f fd ["text", "cursor", "commands"] (spPlacesI K CO) := by
  refine gen_ok F sc_places (fun vs H Q E h => ?_) (fun cdv A outer s H vs Q E pn hr h => ?_)
  · obtain ⟨t, b, l, T, r, g, xs, cs, rfl, _⟩ := h
    rfl
  · obtain ⟨t, b, l, tx, r, g, xs, cs, rfl, ht, hb, hl, hcs, nn, r0, r1, g0, ok, ln, kf, k⟩ := h
    refine ⟨_, (gss_cons (gs_ps (ps_expr (pe_calX takes_gcx c_run hr (by decide) (by rfl) (pa_cons (pv 0) (pa_cons (pv 1) (pa_cons (pv 2) pa_nil))))))
      (gss_cons (gs_ps (ps_set (i := 3) sc_places.nd rfl (Or.inl rfl) (pv 1)))
      (gss_cons (gs_yield (pv 3))
      (gss_cons (gs_for owns_gcx rfl (pi_list (pv 2)) (pg_name (i := 4) sc_places.nd rfl (Or.inl rfl)) (gss_cons (gs_ps (ps_set (i := 3) sc_places.nd rfl (Or.inl rfl) (pe_cal c_moved hr (by decide) (by rfl) (pa_cons (pv 0) (pa_cons (pv 3) (pa_cons (pv 4) pa_nil))))))
      (gss_cons (gs_yield (pv 3))
      gss_nil)))
      gss_nil)))), ?_⟩
    refine ⟨_, rfl, _, rfl, _, rfl, ask_runI ht hb hl hcs nn r0 r1 g0 ok ln kf fun r' g' hrun H1 p1 e1 _ => ?_⟩
    have nof : failAt tx r g cs = none := fail_none.mpr (by rw [hrun]; exact fun z => nomatch z)
    refine ⟨_, rfl, ?_⟩
    refine ⟨Nat.zero_lt_of_lt (lt_line (n := 1) (by decide)), _, rfl, ?_⟩
    refine ⟨_, rfl, l, rfl, ⟨_, e1.seq hl⟩, ?_⟩
    refine gfor_it (walk_list (K := K) (a := l) (xs := xs)) (fun i ys σ H' => ∃ (p : Addr) (rr : Int) (gg : Option Int) (v4 : Option V) (qs : List (Int × Option Int)), σ = [some (.ref t), some (.ref b), some (.ref l), some (.ref p), v4] ∧ Same H H' ∧ SqT K H' p [.int rr, optV gg] ∧ 0 ≤ rr ∧ rr < tx.length ∧
        afterL tx rr gg (cs.drop i) = some (r', g') ∧ SpotsOf K H' ys qs ∧ qs.length = i + 1 ∧ (r, g) :: trailL tx r g cs = qs ++ trailL tx rr gg (cs.drop i))
      ⟨b, r, g, none, [(r, g)], rfl, e1, seq_t e1 hb, r0, r1, hrun, .cons ⟨b, rfl, seq_t e1 hb⟩ .nil, rfl, rfl⟩ (fun i ys σ H' _ ⟨_, _, _, _, _, _, e, _⟩ => e.seq hl) (fun i x ys σ H2 H3 hi h y => ?_) (fun ys σ H2 h => ?_)
    · obtain ⟨p, rr, gg, v4, qs, rfl, e, hp, q0, q1, hgo, hys, hq, htr⟩ := h
      obtain ⟨rfl, ex⟩ := y
      obtain ⟨c, hc, hca⟩ := paired_at hcs ex
      have hdrop : cs.drop i = c :: cs.drop (i + 1) := by
        obtain ⟨h1, h2⟩ := List.getElem?_eq_some_iff.mp hc
        rw [List.drop_eq_getElem_cons h1, h2]
      rw [hdrop, afterL_cons q0 q1] at hgo
      obtain ⟨⟨r2, g2⟩, hst, hrest⟩ := Option.bind_eq_some_iff.mp hgo
      have hin := step1_in hst
      rw [hdrop, trail_step hst] at htr
      refine ⟨_, rfl, _, rfl, _, rfl, t, p, tx, rr, gg, x, c, rfl, e.seq ht, hp, hca.same e, (fun z => by rw [hst] at z; cases z), fun r3 g3 z p3 np3 => ?_⟩
      rw [hst] at z
      cases z
      have e4 := new_same (o := HO.tup [.int r2, optV g2]) np3
      have yl := SpotsOf.len hys
      have xl := hcs.len
      refine ⟨lt_line (by omega), _, rfl, ?_⟩
      refine ⟨p3, r2, g2, _, qs ++ [(r2, g2)], rfl, e.trans e4, SqT.of upd_same, hin.1, hin.2, hrest, ?_, by rw [List.length_append, hq]; rfl, ?_⟩
      · exact paired_app (hys.same e4) (.cons ⟨p3, rfl, SqT.of upd_same⟩ .nil)
      · rw [htr]
        simp
    · obtain ⟨p, rr, gg, v4, qs, rfl, e, hp, q0, q1, hgo, hys, hq, htr⟩ := h
      rw [hcs.len, List.drop_length] at htr
      have hq2 : (r, g) :: trailL tx r g cs = qs := by rw [htr]; exact List.append_nil qs
      refine k _ ys nof e ?_
      rw [hq2]
      exact hys
end
end Gc

/-! the places in a list, or the index of the impossible command -/
namespace Gc
open PySem L2
abbrev s_lplaces : Stmt := top 44
def spLPlaces (K : PySem.W.Frag) : Sp := fun vs H Q _ => ∃ (t b l : Addr) (T : List Int) (r : Int) (g : Option Int) (xs : List V) (cs : List Cmd), vs = [.ref t, .ref b, .ref l] ∧ SqL K H t (T.map V.int) ∧ SqT K H b [.int r, optV g] ∧ SqL K H l xs ∧ CmdsOf K H xs cs ∧
  (∀ x ∈ T, 0 ≤ x) ∧ 0 ≤ r ∧ r < T.length ∧ ge g 0 ∧ AllOk cs ∧ cs.length ≤ 10000 ∧ (∀ n, failAt T r g cs = some n → ∀ H', Same H H' → Q (.int (n : Nat)) H') ∧ (failAt T r g cs = none → ∀ (H' : Hp) (p : Addr) (ys : List V), Same H H' → H' p = some (.lst ys) → SpotsOf K H' ys ((r, g) :: trailL T r g cs) → Q (.ref p) H')
@[irreducible] def zLPlaces (K : PySem.W.Frag) : Sp := spLPlaces K
theorem zLPlaces_eq (K : PySem.W.Frag) : zLPlaces K = spLPlaces K := by unfold zLPlaces; rfl
def placesD (T : List Int) (r : Int) (g : Option Int) (cs : List Cmd) : PyData := match failAt T r g cs with
  | some n => .int (n : Nat)
  | none => .list (((r, g) :: trailL T r g cs).map fun x => .tuple [.int x.1, optD x.2])
theorem spots_data {K : PySem.W.Frag} {H : Hp} : ∀ {vs : List V} {qs : List (Int × Option Int)}, SpotsOf K H vs qs → DpAll K H vs (qs.map fun x => .tuple [.int x.1, optD x.2])
  | _, _, .nil => .nil
  | _, _, .cons ⟨p, e, h⟩ t => by
    subst e
    exact .cons (.tup h (.cons (.int _) (.cons (dp_optR _) .nil))) (spots_data t)
/-- its data, told at once -/
theorem ask_lplaces {K : PySem.W.Frag} {H : Hp} {Q : VK} {E : XK} {t b l : Addr} {T : List Int} {r : Int} {g : Option Int} {xs : List V} {cs : List Cmd} (ht : SqL K H t (T.map V.int)) (hb : SqT K H b [.int r, optV g]) (hl : SqL K H l xs) (hc : CmdsOf K H xs cs)
    (nn : ∀ x ∈ T, 0 ≤ x) (r0 : 0 ≤ r) (r1 : r < T.length) (g0 : ge g 0) (ok : AllOk cs) (ln : cs.length ≤ 10000) (k : ∀ H' v, Same H H' → Dp K H' v (placesD T r g cs) → Q v H') : zLPlaces K [.ref t, .ref b, .ref l] H Q E := by
  rw [zLPlaces_eq]
  refine ⟨t, b, l, T, r, g, xs, cs, rfl, ht, hb, hl, hc, nn, r0, r1, g0, ok, ln, fun n hn H' e => k H' _ e ?_, fun hn H' p ys e hp hy => k H' _ e ?_⟩
  · unfold placesD
    rw [hn]
    exact .int _
  · unfold placesD
    rw [hn]
    exact .lst (SqL.of hp) (spots_data hy)
section
variable {P : Program} {w : World} {K : PySem.W.Frag} {mg : Str → Option Value} {base : Heap} {CO : Addr}
theorem sc_law_places : FnScope ["sheet", "spot", "moves", "e"] ["sheet", "spot", "moves"] (defScope s_lplaces) := ⟨rfl, rfl, rfl, by decide +kernel, rfl, by decide +kernel, by decide +kernel⟩
theorem ok_lplaces {f : Addr} {fd : FuncData} (F : Fun K "_law_places" "_law_places" s_lplaces f fd) (T : TxtIm K mg CO) (T_list : mg "list" = none) (noS : PySem.W.subIn K (.ref CO) (.type "StopIteration") = some false) (c_places : GCal P w K mg base 5 "places" (spPlacesI K CO)) : FnOk P w K mg base CX0 9 f fd ["sheet", "spot", "moves"] (spLPlaces K) := by
  refine F.ok sc_law_places (fun vs H Q E h => ?_) (fun cdv A outer s H vs Q E hr h => ?_)
  · obtain ⟨t, b, l, tx, r, g, xs, cs, rfl, _⟩ := h
    rfl
  · obtain ⟨t, b, l, tx, r, g, xs, cs, rfl, ht, hb, hl, hcs, nn, r0, r1, g0, ok, ln, kf, k⟩ := h
    refine ⟨_, (pss_one (ps_try_as (i := 3) rfl rfl sc_law_places.nd rfl rfl ⟨rfl, by decide, .inl T.g_Impossible⟩ takesNone (fun W pn xe tk _ => (pss_one (ps_ret (show PE _ _ (tListGX K W _) from pe_listGX tk c_places (hr.mono (by decide)) (by rfl) (pa_cons (pv 0) (pa_cons (pv 1) (pa_cons (pv 2) pa_nil))) (by rfl) T_list)))) (fun a oe cls d pn hz hf => (pss_one (ps_ret (pe_xfA hz hf (pv 3))))))), ?_⟩
    refine ⟨_, rfl, _, rfl, _, rfl, t, b, l, tx, r, g, xs, cs, rfl, ht, hb, hl, hcs, nn, r0, r1, g0, ok, ln, (fun n hn => ?_), fun H1 ys hn e1 hy p np => ?_⟩
    · intro H' d e nd
      refine ⟨noS, true, T.ex, fun _ a ha => ?_, fun q => nomatch q⟩
      refine ⟨_, rfl, rfl, CO, d, _, rfl, rfl, T.ei, upd_same, ?_⟩
      exact kf n hn _ (e.trans (new_same nd))
    · exact k hn _ p ys (e1.trans (new_same np)) upd_same (hy.same (new_same np))
end
end Gc

/-! the program's checks, where they may raise -/
namespace Gc
open PySem L2
/-- a tuple that may be no command -/
inductive Raw where
  | nil
  | one (n : Str)
  | two (n : Str) (k : Int)
  | three (n : Str) (k j : Int)
def encR : Raw → List V
  | .nil => []
  | .one n => [.str n]
  | .two n k => [.str n, .int k]
  | .three n k j => [.str n, .int k, .int j]
def withN : List V := [.str "down", .str "up", .str "right", .str "left"]
def withoutN : List V := [.str "home", .str "end"]
def Raw.good : Raw → Bool
  | .one n => inV (.str n) withoutN
  | .two n k => inV (.str n) withN && decide (1 ≤ k)
  | _ => false
def Raw.cmd : Raw → Cmd
  | .one n => if n = "home" then .home else .stop
  | .two n k => if n = "down" then .down k else if n = "up" then .up k else if n = "right" then .right k else .left k
  | _ => .home
theorem in_two {n : Str} (h : inV (.str n) withoutN = true) : n = "home" ∨ n = "end" := by
  simp only [inV, withoutN, List.any_cons, List.any_nil, eqV, Bool.or_false, Bool.or_eq_true, beq_iff_eq] at h
  rcases h with h | h
  · exact .inl h.symm
  · exact .inr h.symm
theorem in_four {n : Str} (h : inV (.str n) withN = true) : n = "down" ∨ n = "up" ∨ n = "right" ∨ n = "left" := by
  simp only [inV, withN, List.any_cons, List.any_nil, eqV, Bool.or_false, Bool.or_eq_true, beq_iff_eq] at h
  rcases h with h | h | h | h
  · exact .inl h.symm
  · exact .inr (.inl h.symm)
  · exact .inr (.inr (.inl h.symm))
  · exact .inr (.inr (.inr h.symm))
theorem Raw.enc {r : Raw} (h : r.good = true) : encR r = encC r.cmd ∧ r.cmd.ok := by
  cases r with
  | nil => cases h
  | one n =>
    rcases in_two h with e | e <;> subst e
    · exact ⟨rfl, trivial⟩
    · exact ⟨rfl, trivial⟩
  | two n k =>
    obtain ⟨h1, h2⟩ := Bool.and_eq_true_iff.mp h
    have hk := of_decide_eq_true h2
    rcases in_four h1 with e | e | e | e <;> subst e
    · exact ⟨rfl, hk⟩
    · exact ⟨rfl, hk⟩
    · exact ⟨rfl, hk⟩
    · exact ⟨rfl, hk⟩
  | three n k j => cases h
def RawAt (K : PySem.W.Frag) (H : Hp) (v : V) (r : Raw) : Prop := ∃ a, v = .ref a ∧ SqT K H a (encR r)
def RawsOf (K : PySem.W.Frag) (H : Hp) (xs : List V) (rs : List Raw) : Prop := Paired (RawAt K H) xs rs
theorem RawAt.same {K : PySem.W.Frag} {H H' : Hp} {v : V} {r : Raw} (e : Same H H') (h : RawAt K H v r) : RawAt K H' v r := by
  obtain ⟨a, rfl, h⟩ := h
  exact ⟨a, rfl, seq_t e h⟩
theorem RawsOf.same {K : PySem.W.Frag} {H H' : Hp} {xs : List V} {rs : List Raw} (e : Same H H') (h : RawsOf K H xs rs) : RawsOf K H' xs rs := Paired.mapP h fun _ _ q => q.same e
/-- the index of the first tuple that is no command -/
def badAt (rs : List Raw) : Option Nat := rs.findIdx? fun r => !r.good
theorem bad_at {rs : List Raw} {i : Nat} {r : Raw} (h : rs[i]? = some r) (g : r.good = false) (b : ∀ j r, j < i → rs[j]? = some r → r.good = true) : badAt rs = some i := by
  unfold badAt
  rw [List.findIdx?_eq_some_iff_getElem]
  obtain ⟨hi, e⟩ := List.getElem?_eq_some_iff.mp h
  refine ⟨hi, by rw [e, g]; rfl, fun j hj => ?_⟩
  have := b j rs[j] hj (List.getElem?_eq_getElem (by omega))
  rw [this]
  decide
theorem bad_none {rs : List Raw} (b : ∀ j r, j < rs.length → rs[j]? = some r → r.good = true) : badAt rs = none := by
  unfold badAt
  rw [List.findIdx?_eq_none_iff]
  intro r hr
  obtain ⟨j, hj, e⟩ := List.mem_iff_getElem.mp hr
  rw [b j r hj (by rw [List.getElem?_eq_getElem hj, e])]
  rfl
theorem bad_good {rs : List Raw} (h : badAt rs = none) : ∀ r ∈ rs, r.good = true := by
  unfold badAt at h
  rw [List.findIdx?_eq_none_iff] at h
  intro r hr
  have := h r hr
  cases e : r.good with
  | true => rfl
  | false =>
    rw [e] at this
    cases this
theorem raws_cmds {K : PySem.W.Frag} {H : Hp} : ∀ {xs : List V} {rs : List Raw}, RawsOf K H xs rs → (∀ r ∈ rs, r.good = true) → CmdsOf K H xs (rs.map Raw.cmd) ∧ AllOk (rs.map Raw.cmd)
  | [], [], _, _ => ⟨.nil, fun _ h => nomatch h⟩
  | _ :: _, r :: rs, .cons ⟨a, e, h⟩ q, g => by
    obtain ⟨h1, h2⟩ := raws_cmds q fun r hr => g r (List.mem_cons_of_mem _ hr)
    obtain ⟨e1, e2⟩ := Raw.enc (g r List.mem_cons_self)
    refine ⟨.cons ⟨a, e, e1 ▸ h⟩ h1, fun c hc => ?_⟩
    rcases List.mem_cons.mp hc with z | z
    · rw [z]
      exact e2
    · exact h2 c z
def negAt (T : List Int) : Option Nat := T.findIdx? fun x => decide (x < 0)
theorem neg_at {T : List Int} {i : Nat} {x : Int} (h : T[i]? = some x) (g : x < 0) (b : ∀ j x, j < i → T[j]? = some x → 0 ≤ x) : negAt T = some i := by
  unfold negAt
  rw [List.findIdx?_eq_some_iff_getElem]
  obtain ⟨hi, e⟩ := List.getElem?_eq_some_iff.mp h
  refine ⟨hi, by rw [e]; exact decide_eq_true g, fun j hj => ?_⟩
  have := b j T[j] hj (List.getElem?_eq_getElem (by omega))
  simp only [decide_eq_true_eq]
  omega
theorem neg_none {T : List Int} (b : ∀ j x, j < T.length → T[j]? = some x → 0 ≤ x) : negAt T = none := by
  unfold negAt
  rw [List.findIdx?_eq_none_iff]
  intro x hx
  obtain ⟨j, hj, e⟩ := List.mem_iff_getElem.mp hx
  have := b j x hj (by rw [List.getElem?_eq_getElem hj, e])
  exact decide_eq_false (by omega)
theorem neg_nn {T : List Int} (h : negAt T = none) : ∀ x ∈ T, 0 ≤ x := by
  unfold negAt at h
  rw [List.findIdx?_eq_none_iff] at h
  intro x hx
  have := of_decide_eq_false (h x hx)
  omega
def spCountX : Sp := fun vs H Q _ => ∃ n : Int, vs = [.int n] ∧ Q (.bl (decide (1 ≤ n))) H
def spIsRaw (K : PySem.W.Frag) : Sp := fun vs H Q _ => ∃ (v : V) (r : Raw), vs = [v] ∧ RawAt K H v r ∧ Q (.bl r.good) H
def spCheckX (K : PySem.W.Frag) (CM : Addr) : Sp := fun vs H Q E => ∃ (l : Addr) (xs : List V) (rs : List Raw), vs = [.ref l] ∧ SqL K H l xs ∧ RawsOf K H xs rs ∧
  (∀ i, badAt rs = some i → Err E CM (.int i) H) ∧ (badAt rs = none → ∀ H', Same H H' → Q .non H')
def spTextX (K : PySem.W.Frag) (CT : Addr) : Sp := fun vs H Q E => ∃ (t : Addr) (T : List Int), vs = [.ref t] ∧ SqL K H t (T.map V.int) ∧ (T = [] → Err E CT .non H) ∧ (T ≠ [] → ∀ i, negAt T = some i → Err E CT (.int i) H) ∧
  (T ≠ [] → negAt T = none → ∀ H', Same H H' → Q .non H')
def CurOk (n r : Int) (g : Option Int) : Prop := 0 ≤ r ∧ r < n ∧ ge g 0
def spCursorX (K : PySem.W.Frag) (CC : Addr) : Sp := fun vs H Q E => ∃ (n r : Int) (g : Option Int) (c : Addr), vs = [.int n, .ref c] ∧ SqT K H c [.int r, optV g] ∧ (¬ CurOk n r g → Err E CC (.ref c) H) ∧ (CurOk n r g → Q .non H)
def spNumX (CN : Addr) : Sp := fun vs H Q E => ∃ n k : Int, vs = [.int n, .int k] ∧ (n < k → Err E CN (.int n) H) ∧ (k ≤ n → Q .non H)
section
variable {P : Program} {w : World} {K : PySem.W.Frag} {mg : Str → Option Value} {base : Heap} {wo wn CT CC CM CN : Addr}
theorem ok_is_countX {f : Addr} {fd : FuncData} (F : Fun K "is_count" "is_count" s_is_count f fd) (T : TxtB K mg wo wn) : FnOk P w K mg base CX0 1 f fd ["number"] spCountX := by
  refine F.ok sc_is_count (fun vs H Q E h => ?_) (fun cdv A outer s H vs Q E hr h => ?_)
  · obtain ⟨n, rfl, _⟩ := h
    rfl
  · obtain ⟨n, rfl, k⟩ := h
    refine ⟨_, (pss_one (ps_ret (pe_and (pe_callB call_isi (by rfl) T.isinstance (by decide +kernel) (pa_cons (pv 0) (pa_cons (pe_bltn (v := .ty "int") (u := .type "int") (by rfl) T.int (by decide +kernel) rfl) pa_nil))) (pe_and (pe_not (pe_callB call_isi (by rfl) T.isinstance (by decide +kernel) (pa_cons (pv 0) (pa_cons (pe_bltn (v := .ty "bool") (u := .type "bool") (by rfl) T.bool (by decide +kernel) rfl) pa_nil)))) (pe_one (pe_cmpR op_ge (pv 0) pe_int (nomark _))))))), ?_⟩
    refine ⟨_, rfl, _, _, _, _, _, rfl, .ty "int", .base (.int n), kit_ty (show kitB "int" "int" = some true by decide +kernel), _, rfl, iteT ?_⟩
    refine ⟨_, rfl, _, _, _, _, _, rfl, .ty "bool", .base (.int n), kit_ty (show kitB "int" "bool" = some false by decide +kernel), _, rfl, _, rfl, iteT ?_⟩
    exact ⟨_, rfl, _, _, rfl, rfl, k⟩
theorem ok_is_commandX {f : Addr} {fd : FuncData} (F : Fun K "is_command" "is_command" s_is_command f fd) (T : TxtB K mg wo wn) (c_is_count : Cal P w K mg base 1 "is_count" spCountX) : FnOk P w K mg base CX0 2 f fd ["command"] (spIsRaw K) := by
  refine F.ok sc_is_command (fun vs H Q E h => ?_) (fun cdv A outer s H vs Q E hr h => ?_)
  · obtain ⟨v, c, rfl, _⟩ := h
    rfl
  · obtain ⟨v, r, rfl, ⟨a, rfl, ha⟩, k⟩ := h
    refine ⟨_, (pss_cons (ps_if (pt_cmpR op_eq (pe_callB call_len_seq (by rfl) T.len (by decide +kernel) (pa_cons (pv 0) pa_nil)) pe_int (nomark _)) (pss_one (ps_ret (pe_cmpR op_in_seq (pe_ix ix_tup (pv 0) pe_int (fun _ _ => rfl)) (pe_glob (v := .ref wo) (by rfl) T.g_WITHOUT_NUMBER rfl) (by rfl)))) pss_nil)
      (pss_one (ps_ret (pe_and (pe_cmpR op_eq (pe_callB call_len_seq (by rfl) T.len (by decide +kernel) (pa_cons (pv 0) pa_nil)) pe_int (nomark _)) (pe_and (pe_cmpR op_in_seq (pe_ix ix_tup (pv 0) pe_int (fun _ _ => rfl)) (pe_glob (v := .ref wn) (by rfl) T.g_WITH_NUMBER rfl) (by rfl)) (pe_one (pe_cal c_is_count hr (by decide) (by rfl) (pa_cons (pe_ix ix_tup (pv 0) pe_int (fun _ _ => rfl)) pa_nil)))))))), ?_⟩
    cases r with
    | nil =>
      refine ⟨_, rfl, a, _, rfl, .inr ha, rfl, _, rfl, iteF ?_⟩
      exact ⟨_, rfl, a, _, rfl, .inr ha, rfl, _, rfl, iteF k⟩
    | one n =>
      refine ⟨_, rfl, a, _, rfl, .inr ha, rfl, _, rfl, iteT ?_⟩
      refine ⟨_, rfl, a, _, 0, _, rfl, rfl, ha, rfl, wo, _, rfl, .inr (T.tWO _), rfl, rfl, ?_⟩
      rw [if_neg Bool.false_ne_true]
      exact k
    | two n j =>
      refine ⟨_, rfl, a, _, rfl, .inr ha, rfl, _, rfl, iteF ?_⟩
      refine ⟨_, rfl, a, _, rfl, .inr ha, rfl, _, rfl, iteT ?_⟩
      refine ⟨_, rfl, a, _, 0, _, rfl, rfl, ha, rfl, wn, _, rfl, .inr (T.tWN _), rfl, rfl, inV (.str n) withN, rfl, ?_⟩
      cases hb : inV (.str n) withN with
      | true =>
        refine iteT ⟨_, rfl, a, _, 1, _, rfl, rfl, ha, rfl, j, rfl, ?_⟩
        have e : Raw.good (.two n j) = decide (1 ≤ j) := by
          show (inV (.str n) withN && decide (1 ≤ j)) = _
          rw [hb, Bool.true_and]
        rw [e] at k
        exact k
      | false =>
        refine iteF ?_
        have e : Raw.good (.two n j) = false := by
          show (inV (.str n) withN && decide (1 ≤ j)) = _
          rw [hb, Bool.false_and]
        rw [e] at k
        exact k
    | three n j i =>
      refine ⟨_, rfl, a, _, rfl, .inr ha, rfl, _, rfl, iteF ?_⟩
      exact ⟨_, rfl, a, _, rfl, .inr ha, rfl, _, rfl, iteF k⟩
theorem ok_check_commandsX {f : Addr} {fd : FuncData} (F : Fun K "check_commands" "check_commands" s_check_commands f fd) (T : TxtB K mg wo wn) (c_is_command : Cal P w K mg base 2 "is_command" (spIsRaw K))
    (e_InvalidCommand : ErrC P w K mg base "InvalidCommand" CM) : FnOk P w K mg base (L2.CX P w) 3 f fd ["commands"] (spCheckX K CM) := by
  refine F.okX sc_check_commands (fun vs H Q E h => ?_) (fun cdv A outer s H vs Q E hr h => ?_)
  · obtain ⟨l, xs, rs, rfl, _⟩ := h
    rfl
  · obtain ⟨l, xs, rs, rfl, hl, hrs, kb, kg⟩ := h
    refine ⟨_, (pss_one (ps_for (passes_of rfl) rfl (pi_enum (by rfl) T.enumerate (pa_cons (pv 0) pa_nil)) (pg_tup rfl (pgs_cons (pg_name (i := 1) sc_check_commands.nd rfl (Or.inl rfl)) (pgs_cons (pg_name (i := 2) sc_check_commands.nd rfl (Or.inl rfl)) pgs_nil))) (pss_one (ps_if (pt_not (pt_val (pe_cal c_is_command hr (by decide) (by rfl) (pa_cons (pv 2) pa_nil)))) (pss_one (ps_raiseE rfl e_InvalidCommand hr (by decide) (takes_of rfl rfl rfl rfl) (pv 1) (by rfl))) pss_nil)))), ?_⟩
    refine ⟨_, rfl, l, xs, rfl, hl, for_it (walk_enum (K := K) (a := l) (xs := xs)) (fun i σ H' => ∃ v1 v2 : Option V, σ = [some (.ref l), v1, v2] ∧ Same H H' ∧ ∀ j r, j < i → rs[j]? = some r → r.good = true)
      ⟨none, none, rfl, Same.refl H, fun j r h => absurd h (Nat.not_lt_zero _)⟩ (fun i σ H' _ ⟨_, _, _, e, _⟩ => e.seq hl) (fun i x σ H1 H2 hi h y => ?_) (fun σ H1 h => ?_)⟩
    · obtain ⟨v1, v2, rfl, e, gd⟩ := h
      obtain ⟨T1, x1, y1, rfl, nT, rfl, e1, e2⟩ := y
      obtain rfl : V.int (i : Nat) = x1 := Option.some.inj e1
      obtain ⟨r, hr1, hra⟩ := paired_at hrs e2
      have eT : Same H (upd H1 T1 (.tup [.int (i : Nat), y1])) := same_upd e nT
      refine ⟨T1, _, rfl, SqT.of upd_same, rfl, _, _, rfl, _, _, rfl, rfl, ?_⟩
      refine ⟨_, rfl, y1, r, rfl, hra.same eT, _, rfl, ?_⟩
      cases hg : r.good with
      | true =>
        refine iteF ⟨_, _, rfl, eT, fun j r' hj hr' => ?_⟩
        by_cases z : j = i
        · rw [z, hr1] at hr'
          cases hr'
          exact hg
        · exact gd j r' (by omega) hr'
      | false =>
        refine iteT ⟨_, rfl, Err.ask eT ?_⟩
        have := kb i (bad_at hr1 hg gd)
        exact this
    · obtain ⟨v1, v2, rfl, e, gd⟩ := h
      refine kg (bad_none fun j r hj hr' => gd j r ?_ hr') _ e
      rw [Paired.length hrs]
      exact hj
theorem ok_check_textX {f : Addr} {fd : FuncData} (F : Fun K "check_text" "check_text" s_check_text f fd) (T : TxtB K mg wo wn) (e_InvalidText : ErrC P w K mg base "InvalidText" CT) : FnOk P w K mg base (L2.CX P w) 3 f fd ["text"] (spTextX K CT) := by
  refine F.okX sc_check_text (fun vs H Q E h => ?_) (fun cdv A outer s H vs Q E hr h => ?_)
  · obtain ⟨t, T, rfl, _⟩ := h
    rfl
  · obtain ⟨t, tx, rfl, ht, k0, kn, kg⟩ := h
    refine ⟨_, (pss_cons (ps_if (pt_not (pt_truth (pv 0) (fun _ => rfl))) (pss_one (ps_raiseE rfl e_InvalidText hr (by decide) (takes_of rfl rfl rfl rfl) pe_non (by rfl))) pss_nil)
      (pss_one (ps_for (passes_of rfl) rfl (pi_enum (by rfl) T.enumerate (pa_cons (pv 0) pa_nil)) (pg_tup rfl (pgs_cons (pg_name (i := 1) sc_check_text.nd rfl (Or.inl rfl)) (pgs_cons (pg_name (i := 2) sc_check_text.nd rfl (Or.inl rfl)) pgs_nil))) (pss_one (ps_if (pt_cmpR op_lt (pv 2) pe_int (nomark _)) (pss_one (ps_raiseE rfl e_InvalidText hr (by decide) (takes_of rfl rfl rfl rfl) (pv 1) (by rfl))) pss_nil))))), ?_⟩
    cases tx with
    | nil =>
      refine ⟨_, rfl, false, .inl ⟨_, ht, rfl⟩, iteT ?_⟩
      exact Err.ask (Same.refl H) (k0 rfl)
    | cons z0 zs =>
      have kn' := kn (by simp)
      have kg' := kg (by simp)
      generalize hT : z0 :: zs = tx at *
      refine ⟨_, rfl, true, .inl ⟨_, ht, by rw [← hT]; rfl⟩, iteF ?_⟩
      refine ⟨_, rfl, t, _, rfl, ht, for_it (walk_enum (K := K) (a := t) (xs := tx.map V.int)) (fun i σ H' => ∃ v1 v2 : Option V, σ = [some (.ref t), v1, v2] ∧ Same H H' ∧ ∀ j x, j < i → tx[j]? = some x → 0 ≤ x)
        ⟨none, none, rfl, Same.refl H, fun j r h => absurd h (Nat.not_lt_zero _)⟩ (fun i σ H' _ ⟨_, _, _, e, _⟩ => e.seq ht) (fun i x σ H1 H2 hi h y => ?_) (fun σ H1 h => ?_)⟩
      · obtain ⟨v1, v2, rfl, e, gd⟩ := h
        obtain ⟨T1, x1, y1, rfl, nT, rfl, e1, e2⟩ := y
        obtain rfl : V.int (i : Nat) = x1 := Option.some.inj e1
        obtain ⟨z, hz, rfl⟩ : ∃ z, tx[i]? = some z ∧ y1 = .int z := by
          have e3 : (tx.map V.int)[i]? = some y1 := e2
          rw [List.getElem?_map] at e3
          cases q : tx[i]? with
          | none =>
            rw [q] at e3
            cases e3
          | some z =>
            rw [q] at e3
            exact ⟨z, rfl, (Option.some.inj e3).symm⟩
        have eT : Same H (upd H1 T1 (.tup [.int i, .int z])) := same_upd e nT
        refine ⟨T1, _, rfl, SqT.of upd_same, rfl, _, _, rfl, _, _, rfl, rfl, ?_⟩
        refine ⟨_, rfl, _, _, rfl, rfl, _, rfl, ite2 (fun c => ?_) (fun c => ?_)⟩
        · exact ⟨_, rfl, Err.ask eT (kn' i (neg_at hz (of_decide_eq_true c) gd))⟩
        · refine ⟨_, _, rfl, eT, fun j x hj hx => ?_⟩
          by_cases q : j = i
          · rw [q, hz] at hx
            cases hx
            have : ¬ z < 0 := fun l => c (decide_eq_true l)
            omega
          · exact gd j x (by omega) hx
      · obtain ⟨v1, v2, rfl, e, gd⟩ := h
        refine kg' (neg_none fun j x hj hx => gd j x ?_ hx) _ e
        rw [List.length_map]
        exact hj
theorem ok_check_cursorX {f : Addr} {fd : FuncData} (F : Fun K "check_cursor" "check_cursor" s_check_cursor f fd) (e_InvalidCursor : ErrC P w K mg base "InvalidCursor" CC) : FnOk P w K mg base (L2.CX P w) 3 f fd ["lines", "cursor"] (spCursorX K CC) := by
  refine F.okX sc_check_cursor (fun vs H Q E h => ?_) (fun cdv A outer s H vs Q E hr h => ?_)
  · obtain ⟨n, r, g, c, rfl, _⟩ := h
    rfl
  · obtain ⟨n, r, g, c, rfl, hc, kb, kg⟩ := h
    refine ⟨_, (pss_cons (ps_asg (pv 1) (pg_tup rfl (pgs_cons (pg_name (i := 2) sc_check_cursor.nd rfl (Or.inl rfl)) (pgs_cons (pg_name (i := 3) sc_check_cursor.nd rfl (Or.inl rfl)) pgs_nil))))
      (pss_one (ps_if (PW.pt (pw_or (pt_not (pt_chain op_le op_lt pe_int (pv 2) (pv 0))) (pw_or1 (PW.pt (pw_and (pt_cmpR op_notN (pv 3) pe_non (nomark _)) (pw_and1 (pt_cmpR op_lt (pv 3) pe_int (nomark _)))))))) (pss_one (ps_raiseE rfl e_InvalidCursor hr (by decide) (takes_of rfl rfl rfl rfl) (pv 1) (by rfl))) pss_nil))), ?_⟩
    have bad : ¬ CurOk n r g → rRaise CC E (.ref c) H := fun z => Err.ask (Same.refl H) (kb z)
    refine ⟨_, rfl, c, _, rfl, hc, rfl, _, _, rfl, _, _, rfl, rfl, ?_⟩
    refine ⟨_, rfl, _, _, rfl, rfl, _, rfl, ite2 (fun c0 => ?_) (fun c0 => ?_)⟩
    · refine ⟨_, rfl, _, _, rfl, rfl, _, rfl, ?_⟩
      by_cases c1 : r < n
      · refine iteN1 c1 ?_
        cases g with
        | none => exact ⟨_, rfl, rfl, _, rfl, iteF (iteF (kg ⟨of_decide_eq_true c0, c1, ge_none 0⟩))⟩
        | some y =>
          refine ⟨_, rfl, rfl, _, rfl, iteT ?_⟩
          refine ⟨_, rfl, _, _, rfl, rfl, _, rfl, ite2 (fun c2 => ?_) (fun c2 => ?_)⟩
          · refine ⟨_, rfl, bad fun z => ?_⟩
            have := ge_some.mp z.2.2
            have := of_decide_eq_true c2
            omega
          · have c2' : ¬ y < 0 := fun l => c2 (decide_eq_true l)
            exact kg ⟨of_decide_eq_true c0, c1, ge_some.mpr (by omega)⟩
      · refine iteN0 c1 ?_
        exact ⟨_, rfl, bad fun z => c1 z.2.1⟩
    · refine ⟨_, rfl, ?_⟩
      refine iteT (B := _) ?_
      exact ⟨_, rfl, bad fun z => c0 (decide_eq_true z.1)⟩
end
end Gc

/-! run of invalid arguments -/
namespace Gc
open PySem L2
/-- the class and the value of the error of invalid arguments of run -/
inductive BadRun (b : Addr) (T : List Int) (r : Int) (g : Option Int) (rs : List Raw) : Nat → V → Prop where
  | text0 : T = [] → BadRun b T r g rs 0 .non
  | text (i : Nat) : T ≠ [] → negAt T = some i → BadRun b T r g rs 0 (.int i)
  | cursor : T ≠ [] → negAt T = none → ¬ CurOk T.length r g → BadRun b T r g rs 1 (.ref b)
  | command (i : Nat) : T ≠ [] → negAt T = none → CurOk T.length r g → badAt rs = some i → BadRun b T r g rs 2 (.int i)
def spRunB (K : PySem.W.Frag) (cs : Nat → Addr) : Sp := fun vs H Q E => ∃ (t b l : Addr) (T : List Int) (r : Int) (g : Option Int) (xs : List V) (rs : List Raw) (i : Nat) (v : V), vs = [.ref t, .ref b, .ref l] ∧ SqL K H t (T.map V.int) ∧ SqT K H b [.int r, optV g] ∧ SqL K H l xs ∧ RawsOf K H xs rs ∧ BadRun b T r g rs i v ∧ Err E (cs i) v H
def spRunU (K : PySem.W.Frag) (cs : Nat → Addr) : Sp := fun vs H Q E => spRunB K cs vs H Q E ∨ spRunI K (cs 3) vs H Q E
theorem fnok_or2 {P : Program} {w : World} {K : PySem.W.Frag} {mg : Str → Option Value} {base : Heap} {C : CXT} {k : Nat} {f : Addr} {fd : FuncData} {ps : List Str} {s1 s2 : Sp} (F1 : FnOk P w K mg base C k f fd ps s1) (F2 : FnOk P w K mg base C k f fd ps s2) : FnOk P w K mg base C k f fd ps (fun vs H Q E => s1 vs H Q E ∨ s2 vs H Q E) :=
  ⟨fun vs H Q E h => h.elim (F1.len vs H Q E) (F2.len vs H Q E), fun A outer s H args us vs Q E hr he hb hv hs => hs.elim (F1.run A outer s H args us vs Q E hr he hb hv) (F2.run A outer s H args us vs Q E hr he hb hv)⟩
section
variable {P : Program} {w : World} {K : PySem.W.Frag} {mg : Str → Option Value} {base : Heap} {wo wn : Addr} {cs : Nat → Addr}
theorem ok_runB {f : Addr} {fd : FuncData} (F : Fun K "run" "run" s_run f fd) (T : TxtB K mg wo wn) (c_check_text : CalX P w K mg base 3 "check_text" (spTextX K (cs 0))) (c_check_cursor : CalX P w K mg base 3 "check_cursor" (spCursorX K (cs 1)))
    (c_check_commands : CalX P w K mg base 3 "check_commands" (spCheckX K (cs 2))) (c_moved : Cal P w K mg base 3 "moved" (spMoved K)) (e_Impossible : ErrC P w K mg base "Impossible" (cs 3)) : FnOk P w K mg base (L2.CX P w) 4 f fd ["text", "cursor", "commands"] (spRunB K cs) := by
  refine F.okX sc_run (fun vs H Q E h => ?_) (fun cdv A outer s H vs Q E hr h => ?_)
  · obtain ⟨t, b, l, tx, r, g, xs, rs, i, v, rfl, _⟩ := h
    rfl
  · obtain ⟨t, b, l, tx, r, g, xs, rs, i, v, rfl, ht, hb, hl, hrs, bad, ke⟩ := h
    refine ⟨_, (pss_cons (ps_expr (pe_calX (takes_of rfl rfl rfl rfl) c_check_text hr (by decide) (by rfl) (pa_cons (pv 0) pa_nil)))
      (pss_cons (ps_expr (pe_calX (takes_of rfl rfl rfl rfl) c_check_cursor hr (by decide) (by rfl) (pa_cons (pe_callB call_len_seq (by rfl) T.len (by decide +kernel) (pa_cons (pv 0) pa_nil)) (pa_cons (pv 1) pa_nil))))
      (pss_cons (ps_expr (pe_calX (takes_of rfl rfl rfl rfl) c_check_commands hr (by decide) (by rfl) (pa_cons (pv 2) pa_nil)))
      (pss_cons (ps_set (i := 3) sc_run.nd rfl (Or.inl rfl) (pv 1))
      (pss_cons (ps_for (passes_of rfl) rfl (pi_enum (by rfl) T.enumerate (pa_cons (pv 2) pa_nil)) (pg_tup rfl (pgs_cons (pg_name (i := 4) sc_run.nd rfl (Or.inl rfl)) (pgs_cons (pg_name (i := 5) sc_run.nd rfl (Or.inl rfl)) pgs_nil))) (pss_cons (ps_set (i := 3) sc_run.nd rfl (Or.inl rfl) (pe_cal c_moved hr (by decide) (by rfl) (pa_cons (pv 0) (pa_cons (pv 3) (pa_cons (pv 5) pa_nil)))))
      (pss_one (ps_if (pt_cmpR op_isN (pv 3) pe_non (nomark _)) (pss_one (ps_raiseE rfl e_Impossible hr (by decide) (takes_of rfl rfl rfl rfl) (pv 4) (by rfl))) pss_nil))))
      (pss_one (ps_ret (pv 3)))))))), ?_⟩
    refine ⟨_, rfl, t, tx, rfl, ht, fun z => ?_, fun z j hj => ?_, fun ne hn H1 e1 => ?_⟩
    · cases bad with
      | text0 _ => exact ke
      | text j y _ => exact absurd z y
      | cursor y _ _ => exact absurd z y
      | command j y _ _ _ => exact absurd z y
    · cases bad with
      | text0 y => exact absurd y z
      | text j' _ q =>
        rw [hj] at q
        cases q
        exact ke
      | cursor _ q _ => rw [hj] at q; cases q
      | command j' _ q _ _ => rw [hj] at q; cases q
    refine ⟨_, rfl, t, _, rfl, .inl (e1.seq ht), _, rfl, (tx.map V.int).length, r, g, b, rfl, seq_t e1 hb, ?_, ?_⟩
    · rw [List.length_map]
      intro z
      cases bad with
      | text0 y => exact absurd y ne
      | text j' _ q => rw [hn] at q; cases q
      | cursor _ _ _ => exact Err.same e1 ke
      | command j' _ _ q _ => exact absurd q z
    rw [List.length_map]
    intro hc
    refine ⟨_, rfl, l, xs, rs, rfl, e1.seq hl, hrs.same e1, fun j hj => ?_, fun hg H2 e2 => ?_⟩
    · cases bad with
      | text0 y => exact absurd y ne
      | text j' _ q => rw [hn] at q; cases q
      | cursor _ _ q => exact absurd hc q
      | command j' _ _ _ q =>
        rw [hj] at q
        cases q
        exact Err.same e1 ke
    · cases bad with
      | text0 y => exact absurd y ne
      | text j' _ q => rw [hn] at q; cases q
      | cursor _ _ q => exact absurd hc q
      | command j' _ _ _ q => rw [hg] at q; cases q
end
end Gc

/-! read_commands of any text; a text is unreadable or is shown again -/
namespace Gc
open PySem L2 TL
abbrev s_kept : Stmt := top 45
structure TxtUn (K : PySem.W.Frag) (mg : Str → Option Value) (CR : Addr) : Prop where
  g_Unreadable : mg "Unreadable" = some (.ref CR)
  ex : PySem.W.exmOne K (.ref CR) (.ref CR) = some true
  ei : ErrI K CR
def spReadU (K : PySem.W.Frag) (CR : Addr) : Sp := fun vs H Q E => spRead K vs H Q E ∨ spReadN CR vs H Q E
@[irreducible] def zReadU (K : PySem.W.Frag) (CR : Addr) : Sp := spReadU K CR
theorem zReadU_eq (K : PySem.W.Frag) (CR : Addr) : zReadU K CR = spReadU K CR := by unfold zReadU; rfl
theorem joinL_cnt : ∀ {ws : List (List Nat)}, (∀ w ∈ ws, w ≠ []) → 2 * ws.length ≤ (joinL [32] ws).length + 1
  | [], _ => Nat.zero_le _
  | [w], h => by
    have := List.length_pos_iff.mpr (h w List.mem_cons_self)
    show 2 * 1 ≤ w.length + 1
    omega
  | w :: v :: ws, h => by
    have ih := joinL_cnt (ws := v :: ws) fun x hx => h x (List.mem_cons_of_mem _ hx)
    have h0 := List.length_pos_iff.mpr (h w List.mem_cons_self)
    show 2 * ((v :: ws).length + 1) ≤ (w ++ ([32] ++ joinL [32] (v :: ws))).length + 1
    rw [List.length_append, List.length_append]
    show _ ≤ _ + (1 + _) + 1
    omega
theorem shown_cnt (cs : List Cmd) : 2 * cs.length ≤ (shownL cs).length + 1 := by
  unfold shownL
  by_cases c : cs = []
  · rw [c]; exact Nat.zero_le _
  · rw [if_neg c]
    have := joinL_cnt (ws := cs.map cw) fun w hw => by
      obtain ⟨c, _, rfl⟩ := List.mem_map.mp hw
      exact cw_ne c
    rw [List.length_map] at this
    exact this
theorem ask_readU {K : PySem.W.Frag} {CR : Addr} {H : Hp} {Q : VK} {E : XK} {z : Str} (hz : z.length ≤ 1900) (ke : Err E CR (.str z) H)
    (k : ∀ (H' : Hp) (p : Addr) (xs : List V) (cs : List Cmd), Same H H' → H p = none → H' p = some (.lst xs) → CmdsOf K H' xs cs → AllOk cs → (∀ c ∈ cs, numC c < 10 ^ 40) → cs.length ≤ 1000 → z = shownS cs → Q (.ref p) H') : zReadU K CR [.str z] H Q E := by
  rw [zReadU_eq]
  have ez : mkS (tl z) = z := ext_tl rfl
  by_cases y : ∃ cs : List Cmd, AllOk cs ∧ (∀ c ∈ cs, numC c < 10 ^ 40) ∧ z = shownS cs
  · obtain ⟨cs, ok, hn, e⟩ := y
    have ln : cs.length ≤ 1000 := by
      have h1 := shown_cnt cs
      have h2 : z.length = (shownL cs).length := by rw [e]; exact mkS_len _
      omega
    exact .inl ⟨cs, by rw [e], ok, hn, ln, fun H' p xs s np hp hc => k H' p xs cs s np hp hc ok hn ln e⟩
  · refine .inr ⟨tl z, by rw [ez], ?_, fun cs ok hn h => y ⟨cs, ok, hn, ?_⟩, by rw [ez]; exact ke⟩
    · have := mkS_len (tl z)
      rw [ez] at this
      omega
    · rw [← ez]; exact h
/-- what raises nothing, where errors may be -/
theorem fnok_0x {P : Program} {w : World} {K : PySem.W.Frag} {mg : Str → Option Value} {base : Heap} {C : CXT} {k : Nat} {f : Addr} {fd : FuncData} {ps : List Str} {sp : Sp} (F : FnOk P w K mg base CX0 k f fd ps sp) : FnOk P w K mg base C k f fd ps sp :=
  ⟨F.len, fun A outer s H args us vs Q E hr he hb hv hs => codeAny_mono (F.run A outer s H args us vs Q E hr he hb hv hs) fun r s' q => by
    rcases r with e | fl
    · exact False.elim q
    · cases fl <;> exact q⟩
def spKept : Sp := fun vs H Q _ => ∃ z : Str, vs = [.str z] ∧ z.length ≤ 1900 ∧ ∀ H', Same H H' → Q (.bl true) H'
section
variable {P : Program} {w : World} {K : PySem.W.Frag} {mg : Str → Option Value} {base : Heap} {CR : Addr}
theorem sc_law_is_kept : FnScope ["note", "found", "e"] ["note"] (defScope s_kept) := ⟨rfl, rfl, rfl, by decide +kernel, rfl, by decide +kernel, by decide +kernel⟩
theorem ok_kept {f : Addr} {fd : FuncData} (F : Fun K "_law_is_kept" "_law_is_kept" s_kept f fd) (T : TxtUn K mg CR) (c_read_commands : CalX P w K mg base 3 "read_commands" (zReadU K CR)) (c_show_commands : Cal P w K mg base 3 "show_commands" (spShow K)) : FnOk P w K mg base CX0 4 f fd ["note"] spKept := by
  refine F.ok sc_law_is_kept (fun vs H Q E h => ?_) (fun cdv A outer s H vs Q E hr h => ?_)
  · obtain ⟨z, rfl, _⟩ := h
    rfl
  · obtain ⟨z, rfl, hz, k⟩ := h
    refine ⟨_, (pss_cons (ps_try_as (i := 2) rfl rfl sc_law_is_kept.nd rfl rfl ⟨rfl, by decide, .inl T.g_Unreadable⟩ takesNone (fun W pn xe tk _ => (pss_one (ps_set (i := 1) sc_law_is_kept.nd rfl (Or.inl rfl) (pe_calX tk c_read_commands hr (by decide) (by rfl) (pa_cons (pv 0) pa_nil))))) (fun a oe cls d pn hz hf => (pss_one (ps_ret (pe_cmpR op_eq (pe_xfA hz hf (pv 2)) (pv 0) (nomark _))))))
      (pss_one (ps_ret (pe_cmpR op_eq (pe_cal c_show_commands hr (by decide) (by rfl) (pa_cons (pv 1) pa_nil)) (pv 0) (nomark _))))), ?_⟩
    refine ⟨_, rfl, ask_readU hz ?_ fun H1 p xs cs e1 np hp hc ok hn ln ez => ?_⟩
    · intro H' d e nd
      refine ⟨true, T.ex, fun _ a ha => ?_, fun q => nomatch q⟩
      refine ⟨_, rfl, rfl, CR, d, _, rfl, rfl, T.ei, upd_same, _, rfl, rfl, ?_⟩
      rw [decide_eq_true rfl]
      exact k _ (e.trans (new_same nd))
    · refine ⟨_, rfl, p, xs, cs, rfl, SqL.of hp, hc, ok, hn, by omega, fun H2 e2 => ⟨_, rfl, rfl, ?_⟩⟩
      rw [ez, decide_eq_true rfl]
      exact k _ (e1.trans e2)
end
end Gc

/-! a text taken no times or once -/
namespace L2
open PySem PySem.Spec PyProof.Rows
def rOnce : R2 := fun x y H Q => ∃ (z : Str) (k : Int), x = .str z ∧ y = .int k ∧ 0 ≤ k ∧ k ≤ 1 ∧ ∀ z' : Str, z'.length ≤ z.length → Q (.str z') H
theorem op_once {X : Cx} : OpR X (binaryOp .Mult) rOnce := by
  intro pins s σ H x y v u Q I rx ry h
  obtain ⟨z, k, rfl, rfl, k0, k1, q⟩ := h
  obtain ⟨t, rfl⟩ := rx
  obtain ⟨t', rfl⟩ := ry
  rcases (show k = 0 ∨ k = 1 by omega) with rfl | rfl
  · exact P.mul_str_none (by decide) (by decide) ⟨.str Str.empty, H, I.tok _, ⟨_, rfl⟩, q _ (Nat.zero_le _)⟩
  · refine P.mul_str (by decide) (fun _ h => ?_) (fun _ h => ?_) ?_
    · simp at h
    · simp at h
    · rw [if_neg (by decide), if_pos (by simp)]
      exact ⟨.str z, H, I, ⟨_, rfl⟩, q _ (Nat.le_refl _)⟩
end L2

namespace Gc
open PySem L2 TL
abbrev s_law : Stmt := top 46
structure TxtL (mg : Str → Option Value) : Prop where
  range : mg "range" = none
  min : mg "min" = none
  len : mg "len" = none
def spLaw (K : PySem.W.Frag) : Sp := fun vs H Q _ => ∃ (a : Addr) (ns : List Int), vs = [.ref a] ∧ SqL K H a (ns.map V.int) ∧ ns.length ≤ 63 ∧ ∀ H', Q (.bl true) H'
@[irreducible] def zShow (K : PySem.W.Frag) : Sp := spShow K
theorem zShow_eq (K : PySem.W.Frag) : zShow K = spShow K := by unfold zShow; rfl
theorem ask_show {K : PySem.W.Frag} {H : Hp} {Q : VK} {E : XK} {l : Addr} {xs : List V} {cs : List Cmd} (hl : SqL K H l xs) (hc : CmdsOf K H xs cs) (ok : AllOk cs) (num : ∀ c ∈ cs, numC c ≤ 10 ^ 30 - 1) (len : cs.length ≤ 1000) (k : ∀ H', Same H H' → Q (.str (shownS cs)) H') : zShow K [.ref l] H Q E := by
  rw [zShow_eq]
  exact ⟨l, xs, cs, rfl, hl, hc, ok, (fun c h => by have := num c h; omega), by omega, k⟩
@[irreducible] def zRead (K : PySem.W.Frag) : Sp := spRead K
theorem zRead_eq (K : PySem.W.Frag) : zRead K = spRead K := by unfold zRead; rfl
theorem ask_read {K : PySem.W.Frag} {H : Hp} {Q : VK} {E : XK} {z : Str} {cs : List Cmd} (e : z = shownS cs) (ok : AllOk cs) (num : ∀ c ∈ cs, numC c ≤ 10 ^ 30 - 1) (len : cs.length ≤ 1000) (k : ∀ (H' : Hp) (p : Addr) (xs : List V), Same H H' → H p = none → H' p = some (.lst xs) → CmdsOf K H' xs cs → Q (.ref p) H') : zRead K [.str z] H Q E := by
  rw [zRead_eq]
  exact ⟨cs, by rw [e], ok, (fun c h => by have := num c h; omega), len, k⟩
@[irreducible] def zReach (K : PySem.W.Frag) : Sp := spReach K
theorem zReach_eq (K : PySem.W.Frag) : zReach K = spReach K := by unfold zReach; rfl
theorem ask_reach {K : PySem.W.Frag} {H : Hp} {Q : VK} {E : XK} {l : Addr} {xs : List V} {cs : List Cmd} (hl : SqL K H l xs) (hc : CmdsOf K H xs cs) (ok : AllOk cs) (len : cs.length ≤ 1000) (k : ∀ (H' : Hp) (p : Addr), Same H H' → SqT K H' p [.int (rchM cs).1, .int (rchM cs).2.1, .int (last cs)] → Q (.ref p) H') : zReach K [.ref l] H Q E := by
  rw [zReach_eq]
  exact ⟨l, xs, cs, rfl, hl, hc, ok, by omega, fun H' p e _ hp => k H' p e (SqT.of hp)⟩
@[irreducible] def zSame5 (K : PySem.W.Frag) : Sp := spSame K 5
theorem zSame5_eq (K : PySem.W.Frag) : zSame5 K = spSame K 5 := by unfold zSame5; rfl
theorem wid_cmds (cs : List Cmd) : widAll (cs.map cmdD) ≤ 2 := by
  induction cs with
  | nil => exact Nat.zero_le _
  | cons c cs ih =>
    rw [List.map_cons, widAll]
    have : wid (cmdD c) ≤ 2 := by cases c <;> simp [cmdD, wid, widAll]
    omega
theorem ask_same5 {K : PySem.W.Frag} {H : Hp} {Q : VK} {E : XK} {x y : Addr} {xs ys : List V} {cs : List Cmd} (hx : SqL K H x xs) (hxc : CmdsOf K H xs cs) (hy : SqL K H y ys) (hyc : CmdsOf K H ys cs) (l : cs.length ≤ 1000) (k : ∀ H', Same H H' → Q (.bl true) H') : zSame5 K [.ref x, .ref y] H Q E := by
  rw [zSame5_eq]
  refine ⟨_, _, .list (cs.map cmdD), rfl, .lst hx hxc.dp, .lst hy hyc.dp, ?_, ?_, k⟩
  · have := depth_cmds cs
    simp only [PyData.depth]
    omega
  · have := wid_cmds cs
    simp only [wid, List.length_map]
    omega
theorem joinL_app : ∀ {a b : List (List Nat)}, a ≠ [] → b ≠ [] → joinL [32] (a ++ b) = joinL [32] a ++ [32] ++ joinL [32] b
  | [], b, h, _ => absurd rfl h
  | [w], [], _, h => absurd rfl h
  | [w], v :: b, _, _ => by
    show w ++ ([32] ++ joinL [32] (v :: b)) = (w ++ [32]) ++ joinL [32] (v :: b)
    rw [List.append_assoc]
  | w :: v :: a, b, _, h => by
    have ih := joinL_app (a := v :: a) (b := b) (by simp) h
    show w ++ ([32] ++ joinL [32] (v :: a ++ b)) = (w ++ ([32] ++ joinL [32] (v :: a))) ++ [32] ++ joinL [32] b
    rw [ih]
    simp [List.append_assoc]
theorem shown_two {cs ds : List Cmd} (hc : cs ≠ []) (hd : ds ≠ []) : shownS cs ++ " " ++ shownS ds = shownS (cs ++ ds) := by
  have h1 : (" " : Str) = mkS [32] := by decide +kernel
  unfold shownS shownL
  rw [if_neg hc, if_neg hd, if_neg (by simp [hc]), h1, mkS_app, mkS_app, List.map_append, joinL_app (by simpa using hc) (by simpa using hd)]
theorem lay_spots : ∀ qs : List (Int × Option Int), PyData.canLayAll0 (qs.map fun x => PyData.tuple [.int x.1, optD x.2]) = true
  | [] => by simp [PyData.canLayAll0]
  | (r, none) :: qs => by
    rw [List.map_cons, PyData.canLayAll0, lay_spots qs]
    simp [PyData.canLayAll0, PyData.canLay0, optD]
  | (r, some g) :: qs => by
    rw [List.map_cons, PyData.canLayAll0, lay_spots qs]
    simp [PyData.canLayAll0, PyData.canLay0, optD]
theorem deep_spots : ∀ qs : List (Int × Option Int), PyData.depthAll (qs.map fun x => PyData.tuple [.int x.1, optD x.2]) ≤ 2
  | [] => by simp [PyData.depthAll]
  | (r, none) :: qs => by
    have ih := deep_spots qs
    rw [List.map_cons, PyData.depthAll]
    have : (PyData.tuple [.int r, optD none]).depth ≤ 2 := by simp [optD, PyData.depth, PyData.depthAll]
    exact Nat.max_le.mpr ⟨this, ih⟩
  | (r, some g) :: qs => by
    have ih := deep_spots qs
    rw [List.map_cons, PyData.depthAll]
    have : (PyData.tuple [.int r, optD (some g)]).depth ≤ 2 := by simp [optD, PyData.depth, PyData.depthAll]
    exact Nat.max_le.mpr ⟨this, ih⟩
theorem places_lay (T : List Int) (r : Int) (g : Option Int) (cs : List Cmd) : (placesD T r g cs).canLay0 = true := by
  unfold placesD
  split
  · rfl
  · exact lay_spots _
theorem places_shaped (T : List Int) (r : Int) (g : Option Int) (cs : List Cmd) : SeqAt.shaped (placesD T r g cs) = true := by
  have h1 := places_lay T r g cs
  unfold SeqAt.shaped
  rw [h1, decide_eq_true ?_]
  · rfl
  · unfold placesD
    split
    · simp [PyData.depth]
    · have := deep_spots ((r, g) :: trailL T r g cs)
      simp only [PyData.depth]
      omega
theorem reach_shaped (x y z : Int) : SeqAt.shaped (.tuple [.int x, .int y, .int z]) = true := by rfl
theorem cut_le (z : Str) (lo hi : Option Int) : (cutS z lo hi).length ≤ z.length := by
  unfold cutS
  show (List.toArray _).size ≤ _
  rw [List.size_toArray, List.length_take, List.length_drop]
  show _ ≤ z.cps.size
  have : z.cps.toList.length = z.cps.size := by simp
  omega
theorem str_app_len (a b : Str) : (a ++ b).length = a.length + b.length := by
  show (a.cps ++ b.cps).size = a.cps.size + b.cps.size
  exact Array.size_append
section
variable {P : Program} {w : World} {K : PySem.W.Frag} {mg : Str → Option Value} {base : Heap}
theorem sc_law : FnScope ["script", "source", "k", "sheet", "turn", "one", "other", "note", "more", "back", "spot", "cut", "sign"] ["script"] (defScope s_law) := ⟨rfl, rfl, rfl, by decide +kernel, rfl, by decide +kernel, by decide +kernel⟩
theorem ok_law {f : Addr} {fd : FuncData} (F : Fun K "law" "law" s_law f fd) (T : TxtL mg) (c_law_source : Cal P w K mg base 1 "_law_source" (spSource K)) (c_law_draw : Cal P w K mg base 1 "_law_draw" spDraw) (c_law_text : Cal P w K mg base 2 "_law_text" (spSheet K)) (c_law_cursor : Cal P w K mg base 2 "_law_cursor" (spCurs K))
    (c_law_commands : Cal P w K mg base 4 "_law_commands" (spCommands K)) (c_show_commands : Cal P w K mg base 3 "show_commands" (zShow K)) (c_read_commands : Cal P w K mg base 3 "read_commands" (zRead K)) (c_law_same : Cal P w K mg base 6 "_law_same" (zSame5 K)) (c_reach : Cal P w K mg base 4 "reach" (zReach K))
    (c_law_places : Cal P w K mg base 9 "_law_places" (zLPlaces K)) (c_law_is_kept : Cal P w K mg base 4 "_law_is_kept" spKept) : FnOk P w K mg base CX0 10 f fd ["script"] (spLaw K) := by
  refine F.ok sc_law (fun vs H Q E h => ?_) (fun cdv A outer s H vs Q E hr h => ?_)
  · obtain ⟨a, ns, rfl, _⟩ := h
    rfl
  · obtain ⟨a, ns, rfl, hS, hlen, k⟩ := h
    refine ⟨_, (pss_cons (ps_set (i := 1) sc_law.nd rfl (Or.inl rfl) (pe_cal c_law_source hr (by decide) (by rfl) (pa_cons (pv 0) pa_nil)))
      (pss_cons (ps_for PassesOwn.never rfl (pi_range1 rfl T.range (pa_cons (pe_op op_add pe_int (pe_callB (call_min2 rfl) (by rfl) T.min (by decide +kernel) (pa_cons pe_int (pa_cons (pe_callB call_len_seq (by rfl) T.len (by decide +kernel) (pa_cons (pv 0) pa_nil)) pa_nil)))) pa_nil)) (pg_name (i := 2) sc_law.nd rfl (Or.inl rfl)) (pss_cons (ps_set (i := 3) sc_law.nd rfl (Or.inl rfl) (pe_cal c_law_text hr (by decide) (by rfl) (pa_cons (pv 1) (pa_cons pe_int pa_nil))))
      (pss_one (ps_for PassesOwn.never rfl (pi_range1 rfl T.range (pa_cons pe_int pa_nil)) (pg_name (i := 4) sc_law.nd rfl (Or.inl rfl)) (pss_cons (ps_par (i := 5) (j := 6) rfl sc_law.nd rfl rfl (by decide) rfl rfl (pa_cons (pe_cal c_law_commands hr (by decide) (by rfl) (pa_cons (pv 1) (pa_cons (pe_ix ix_list (pe_lst (pa_cons pe_int (pa_cons pe_int pa_nil))) (pe_cal c_law_draw hr (by decide) (by rfl) (pa_cons (pv 1) (pa_cons pe_int pa_nil))) (fun _ _ => rfl)) pa_nil))) (pa_cons (pe_cal c_law_commands hr (by decide) (by rfl) (pa_cons (pv 1) (pa_cons pe_int pa_nil))) pa_nil)) (by rfl))
      (pss_cons (ps_par (i := 7) (j := 8) rfl sc_law.nd rfl rfl (by decide) rfl rfl (pa_cons (pe_cal c_show_commands hr (by decide) (by rfl) (pa_cons (pv 5) pa_nil)) (pa_cons (pe_cal c_show_commands hr (by decide) (by rfl) (pa_cons (pv 6) pa_nil)) pa_nil)) (by rfl))
      (pss_cons (ps_set (i := 9) sc_law.nd rfl (Or.inl rfl) (pe_cal c_read_commands hr (by decide) (by rfl) (pa_cons (pv 7) pa_nil)))
      (pss_cons (ps_if (PW.pt (pw_or (pt_not (pt_val (pe_cal c_law_same hr (by decide) (by rfl) (pa_cons (pv 9) (pa_cons (pv 5) pa_nil))))) (pw_or (pt_cmpR op_ne (pe_cal c_show_commands hr (by decide) (by rfl) (pa_cons (pv 9) pa_nil)) (pv 7) (nomark _)) (pw_or1 (pt_cmpR (op_neD hr.units) (pe_cal c_reach hr (by decide) (by rfl) (pa_cons (pv 9) pa_nil)) (pe_cal c_reach hr (by decide) (by rfl) (pa_cons (pv 5) pa_nil)) (nomark _)))))) (pss_one (ps_ret pe_bl)) pss_nil)
      (pss_cons (ps_set (i := 10) sc_law.nd rfl (Or.inl rfl) (pe_cal c_law_cursor hr (by decide) (by rfl) (pa_cons (pv 1) (pa_cons (pv 3) pa_nil))))
      (pss_cons (ps_if (pt_cmpR (op_neD hr.units) (pe_cal c_law_places hr (by decide) (by rfl) (pa_cons (pv 3) (pa_cons (pv 10) (pa_cons (pv 9) pa_nil)))) (pe_cal c_law_places hr (by decide) (by rfl) (pa_cons (pv 3) (pa_cons (pv 10) (pa_cons (pv 5) pa_nil)))) (nomark _)) (pss_one (ps_ret pe_bl)) pss_nil)
      (C8.pss_cut (ps_if (PW.pt (pw_and (pt_cmpR (op_neD hr.units) (pv 5) (pe_lst pa_nil) (nomark _)) (pw_and (pt_cmpR (op_neD hr.units) (pv 6) (pe_lst pa_nil) (nomark _)) (pw_and1 (pt_cmpR (op_neD hr.units) (pe_cal c_read_commands hr (by decide) (by rfl) (pa_cons (pe_op op_add_str (pe_op op_add_str (pv 7) pe_str) (pv 8)) pa_nil)) (pe_op op_cat (pv 5) (pv 6)) (nomark _)))))) (pss_one (ps_ret pe_bl)) pss_nil)
      (pss_cons (ps_set (i := 11) sc_law.nd rfl (Or.inl rfl) (pe_cal c_law_draw hr (by decide) (by rfl) (pa_cons (pv 1) (pa_cons (pe_op op_add (pe_callB call_len_str (by rfl) T.len (by decide +kernel) (pa_cons (pv 7) pa_nil)) pe_int) pa_nil))))
      (pss_cons (ps_set (i := 12) sc_law.nd rfl (Or.inl rfl) (pe_op op_once (pe_ix ix_str pe_str (pe_cal c_law_draw hr (by decide) (by rfl) (pa_cons (pv 1) (pa_cons pe_int pa_nil))) (fun _ _ => rfl)) (pe_cal c_law_draw hr (by decide) (by rfl) (pa_cons (pv 1) (pa_cons pe_int pa_nil)))))
      (pss_one (ps_if (pt_not (pt_val (pe_cal c_law_is_kept hr (by decide) (by rfl) (pa_cons (pe_op op_add_str (pe_op op_add_str (pe_slice sl_str (pv 7) po_none (po_some (pv 11))) (pv 12)) (pe_slice sl_str (pv 7) (po_some (pe_op op_add (pv 11) (pe_cal c_law_draw hr (by decide) (by rfl) (pa_cons (pv 1) (pa_cons pe_int pa_nil))))) po_none)) pa_nil)))) (pss_one (ps_ret pe_bl)) pss_nil)))))))))))))))
      (pss_one (ps_ret (pe_and (pe_cal c_law_is_kept hr (by decide) (by rfl) (pa_cons pe_str pa_nil)) (pe_one (pe_cal c_law_is_kept hr (by decide) (by rfl) (pa_cons pe_str pa_nil)))))))), ?_⟩
    refine ⟨_, rfl, a, ns, rfl, hS, hlen, fun H1 p d e1 np nd S1 => ?_⟩
    refine ⟨_, rfl, a, _, rfl, .inl (e1.seq hS), _, _, rfl, _, _, rfl, rfl, _, rfl, ?_, ?_, ?_⟩
    · omega
    · omega
    refine for_range (lo := 0) (fun i σ H' => ∃ v2 v3 v4 v5 v6 v7 v8 v9 v10 v11 v12 : Option V, σ = [some (.ref a), some (.ref p), v2, v3, v4, v5, v6, v7, v8, v9, v10, v11, v12] ∧ Src H' p d (100000 * i)) ⟨none, none, none, none, none, none, none, none, none, none, none, rfl, S1⟩ (fun i σ H2 hi h => ?_) (fun σ H2 h => ?_)
    · obtain ⟨v2, v3, v4, v5, v6, v7, v8, v9, v10, v11, v12, rfl, S2⟩ := h
      have hi' : i < 2 ^ 10 := by
        rw [List.length_map] at hi
        omega
      refine ⟨_, rfl, p, d, _, 6, rfl, S2, by omega, by decide, by decide, fun H3 t tx kp3 S3 tp td nt ht hT l1 l2 => ?_⟩
      refine ⟨4, rfl, by decide, by decide, for_range (lo := 0) (n := 4) (fun j σ H' => ∃ v4 v5 v6 v7 v8 v9 v10 v11 v12 : Option V, σ = [some (.ref a), some (.ref p), some (.int (0 + (i : Int))), some (.ref t), v4, v5, v6, v7, v8, v9, v10, v11, v12] ∧ Src H' p d (100000 * i + 200 + 20000 * j) ∧ H' t = some (.lst (tx.map V.int)))
        ⟨v4, v5, v6, v7, v8, v9, v10, v11, v12, rfl, S3, ht⟩ (fun j σ H4 hj h => ?_) (fun σ H4 h => ?_)⟩
      · obtain ⟨v4, v5, v6, v7, v8, v9, v10, v11, v12, rfl, S4, ht4⟩ := h
        refine ⟨_, rfl, (by show 2 ≤ sizeLine; decide), fun q hq => ?_⟩
        obtain ⟨qa, qd⟩ := S4.off hq
        refine ⟨_, rfl, p, d, _, 2, rfl, S4.same (new_same hq), by omega, by decide, by decide, fun H5 r kp5 S5 r0 r1 => ?_⟩
        obtain ⟨m, hm, m1⟩ : ∃ m : Nat, atI [V.int 3, .int 20] r = some (.int m) ∧ m ≤ 20 := by
          rcases (show r = 0 ∨ r = 1 by omega) with rfl | rfl
          · exact ⟨3, rfl, by decide⟩
          · exact ⟨20, rfl, by decide⟩
        have ht5 := kp5 _ _ tp td (new_same hq _ _ ht4)
        refine ⟨q, _, r, _, rfl, rfl, SqL.of (kp5 _ _ qa qd upd_same), hm, p, d, _, m, rfl, S5, by omega, by omega, fun H6 l xs cs kp6 S6 nl hl hc ok num len => ?_⟩
        obtain ⟨la, ld⟩ := S5.off nl
        refine ⟨_, rfl, p, d, _, 6, rfl, S6, by omega, by omega, fun H7 l2 ys ds kp7 S7 nl2 hl2 hd ok2 num2 len2 => ?_⟩
        obtain ⟨l2a, l2d⟩ := S6.off nl2
        have ht7 := kp7 _ _ tp td (kp6 _ _ tp td ht5)
        have hl7 := kp7 _ _ la ld hl
        have hc7 := S6.cmds kp7 hc
        have num40 : ∀ c ∈ cs, numC c < 10 ^ 40 := fun c h => by have := num c h; omega
        have num40d : ∀ c ∈ ds, numC c < 10 ^ 40 := fun c h => by have := num2 c h; omega
        have ln1 : (shownS cs).length ≤ 844 := by
          have := shownL_len num40
          unfold shownS
          rw [mkS_len]
          omega
        have ln2 : (shownS ds).length ≤ 844 := by
          have := shownL_len num40d
          unfold shownS
          rw [mkS_len]
          omega
        refine ⟨_, _, rfl, _, rfl, ask_show (SqL.of hl7) hc7 ok num (by omega) fun H8 e8 => ⟨_, rfl, ask_show (SqL.of (e8 _ _ hl2)) (hd.same e8) ok2 num2 (by omega) fun H9 e9 => ⟨_, _, rfl, ?_⟩⟩⟩
        have e79 := e8.trans e9
        refine ⟨_, rfl, ask_read rfl ok num (by omega) fun Ha b zs ea nb hb hbc => ?_⟩
        obtain ⟨ba, bd⟩ := (S7.same e79).off nb
        have e7a := e79.trans ea
        refine ⟨_, rfl, _, rfl, ask_same5 (SqL.of hb) hbc (SqL.of (e7a _ _ hl7)) (hc7.same e7a) (by omega) fun Hb eb => ⟨_, rfl, iteF ?_⟩⟩
        refine ⟨_, rfl, ask_show (SqL.of (eb _ _ hb)) (hbc.same eb) ok num (by omega) fun Hc ec => ⟨_, rfl, rfl, false, by simp, iteF ?_⟩⟩
        have eac := eb.trans ec
        have e7c := e7a.trans eac
        refine ⟨_, rfl, ask_reach (SqL.of (eac _ _ hb)) (hbc.same eac) ok (by omega) fun Hd x1 ed hx1 => ⟨_, rfl, ask_reach (SqL.of (ed _ _ (e7c _ _ hl7))) (hc7.same (e7c.trans ed)) ok (by omega) fun He x2 ee hx2 => ?_⟩⟩
        refine ⟨.tuple [.int (rchM cs).1, .int (rchM cs).2.1, .int (last cs)], .tuple [.int (rchM cs).1, .int (rchM cs).2.1, .int (last cs)], .tup (seq_t ee hx1) (.cons (.int _) (.cons (.int _) (.cons (.int _) .nil))), .tup hx2 (.cons (.int _) (.cons (.int _) (.cons (.int _) .nil))), rfl, rfl, false, by rw [SeqAt.eqv_refl _ rfl]; rfl, iteF ?_⟩
        have eae := (eac.trans ed).trans ee
        have e7e := e7a.trans eae
        have hbe := eae _ _ hb
        have hbce := hbc.same eae
        have hle := e7e _ _ hl7
        have hl2e := e7e _ _ hl2
        have hce := hc7.same e7e
        have hde := hd.same e7e
        have hte := e7e _ _ ht7
        have Se := S7.same e7e
        clear eae e7e e7c eac e7a e79
        refine ⟨_, rfl, _, rfl, p, d, t, _, tx, rfl, Se, by omega, hte, tp, td, (fun x hx => by have := hT x hx; omega), by omega, by omega, fun Hf sp r2 g kpf Sf hsp q0 q1 hgb => ?_⟩
        have htf := kpf _ _ tp td hte
        have hbf := kpf _ _ ba bd hbe
        have hbcf := Se.cmds kpf hbce
        have hlf := kpf _ _ la ld hle
        have hcf := Se.cmds kpf hce
        have hl2f := kpf _ _ l2a l2d hl2e
        have hdf := Se.cmds kpf hde
        have nn : ∀ x ∈ tx, 0 ≤ x := fun x hx => (hT x hx).1
        have g0 : ge g 0 := by
          cases g with
          | none => exact ge_none 0
          | some x => exact ge_some.mpr (hgb x rfl).1
        refine ⟨_, rfl, _, rfl, _, rfl, ask_lplaces (SqL.of htf) (SqT.of hsp) (SqL.of hbf) hbcf nn q0 q1 g0 ok (by omega) fun Hg v eg hv => ?_⟩
        refine ⟨_, rfl, _, rfl, _, rfl, ask_lplaces (SqL.of (eg _ _ htf)) (seq_t eg (SqT.of hsp)) (SqL.of (eg _ _ hlf)) (hcf.same eg) nn q0 q1 g0 ok (by omega) fun Hh u eh hu => ?_⟩
        refine ⟨_, _, dp_same eh _ _ hv, hu, places_shaped .., places_shaped .., false, by rw [SeqAt.eqv_refl _ (places_lay ..)]; rfl, iteF ?_⟩
        have efh := eg.trans eh
        replace htf := efh _ _ htf
        replace hlf := efh _ _ hlf
        replace hcf := hcf.same efh
        replace hl2f := efh _ _ hl2f
        replace hdf := hdf.same efh
        replace Sf := Sf.same efh
        refine ⟨fun σ H' => ∃ v5 v6 v8 v9 v10 v11 v12 : Option V, σ = [some (.ref a), some (.ref p), some (.int (0 + (i : Int))), some (.ref t), some (.int (0 + (j : Int))), v5, v6, some (.str (shownS cs)), v8, v9, v10, v11, v12] ∧ Src H' p d (100000 * i + 200 + 20000 * j + 13000) ∧ H' t = some (.lst (tx.map V.int)), ?_, ?_⟩
        · refine ⟨_, rfl, Nat.zero_le _, fun u1 nu1 => ?_⟩
          refine ⟨.list (cs.map cmdD), .list (([] : List Cmd).map cmdD), .lst (SqL.of (new_same nu1 _ _ hlf)) (hcf.same (new_same nu1)).dp, .lst (SqL.of upd_same) .nil, shaped_cmds cs, shaped_cmds [], !decide (cs = []), by rw [eqv_cmds], ?_⟩
          by_cases cs0 : cs = []
          · rw [decide_eq_true cs0]
            refine iteF (iteF ?_)
            exact ⟨_, _, _, _, _, _, _, rfl, (Sf.same (new_same nu1)).more (by omega), new_same nu1 _ _ htf⟩
          rw [decide_eq_false cs0]
          refine iteT ?_
          have e1 := new_same (o := HO.lst []) nu1
          replace htf := e1 _ _ htf
          replace hlf := e1 _ _ hlf
          replace hcf := hcf.same e1
          replace hl2f := e1 _ _ hl2f
          replace hdf := hdf.same e1
          replace Sf := Sf.same e1
          refine ⟨_, rfl, Nat.zero_le _, fun u2 nu2 => ?_⟩
          refine ⟨.list (ds.map cmdD), .list (([] : List Cmd).map cmdD), .lst (SqL.of (new_same nu2 _ _ hl2f)) (hdf.same (new_same nu2)).dp, .lst (SqL.of upd_same) .nil, shaped_cmds ds, shaped_cmds [], !decide (ds = []), by rw [eqv_cmds], ?_⟩
          by_cases ds0 : ds = []
          · rw [decide_eq_true ds0]
            refine iteF (iteF ?_)
            exact ⟨_, _, _, _, _, _, _, rfl, (Sf.same (new_same nu2)).more (by omega), new_same nu2 _ _ htf⟩
          rw [decide_eq_false ds0]
          refine iteT ?_
          have e2 := new_same (o := HO.lst []) nu2
          replace htf := e2 _ _ htf
          replace hlf := e2 _ _ hlf
          replace hcf := hcf.same e2
          replace hl2f := e2 _ _ hl2f
          replace hdf := hdf.same e2
          replace Sf := Sf.same e2
          have lsp : (" " : Str).length = 1 := by decide +kernel
          have fit : ∀ n : Nat, n ≤ 100000 → n ≤ sizeLine := fun n h => Nat.le_of_lt (lt_line h)
          have okA : AllOk (cs ++ ds) := fun c h => (List.mem_append.mp h).elim (ok c) (ok2 c)
          have numA : ∀ c ∈ cs ++ ds, numC c ≤ 10 ^ 30 - 1 := fun c h => (List.mem_append.mp h).elim (num c) (num2 c)
          refine ⟨_, rfl, _, _, rfl, rfl, fit _ (by show _ + (" " : Str).length ≤ _; omega), _, rfl, _, _, rfl, rfl, fit _ (by rw [str_app_len]; show _ + (" " : Str).length + _ ≤ _; omega), ask_read (shown_two cs0 ds0) okA numA (by rw [List.length_append]; omega) fun Hi rb zs3 e3 nrb hrb hrc => ?_⟩
          refine ⟨_, rfl, _, rfl, l, l2, _, _, rfl, rfl, e3 _ _ hlf, e3 _ _ hl2f, fit _ (by rw [hcf.len, hdf.len]; omega), fun q3 nq3 => ?_⟩
          have e4 := new_same (o := HO.lst (xs ++ ys)) nq3
          refine ⟨.list ((cs ++ ds).map cmdD), .list ((cs ++ ds).map cmdD), .lst (SqL.of (e4 _ _ hrb)) (hrc.same e4).dp, .lst (SqL.of upd_same) (CmdsOf.dp (cs := cs ++ ds) (paired_app (hcf.same (e3.trans e4)) (hdf.same (e3.trans e4)))), shaped_cmds _, shaped_cmds _, false, by rw [eqv_cmds, decide_eq_true rfl]; rfl, iteF ?_⟩
          exact ⟨_, _, _, _, _, _, _, rfl, (Sf.same (e3.trans e4)).more (by omega), (e3.trans e4) _ _ htf⟩
        · rintro σ Hi ⟨v5, v6, v8, v9, v10, v11, v12, rfl, Si, hti⟩
          have fit : ∀ n : Nat, n ≤ 100000 → n ≤ sizeLine := fun n h => Nat.le_of_lt (lt_line h)
          refine ⟨_, rfl, _, rfl, _, rfl, fit _ (by omega), _, _, rfl, rfl, p, d, _, ((shownS cs).length : Int) + 1, rfl, Si, by omega, by omega, log9 (a := 20) (by omega) (by decide), fun Hj cut kpj Sj c0 c1 => ?_⟩
          replace hti := kpj _ _ tp td hti
          refine ⟨_, rfl, p, d, _, 6, rfl, Sj, by omega, by decide, by decide, fun Hk si kpk Sk s0 s1 => ?_⟩
          replace hti := kpk _ _ tp td hti
          obtain ⟨sg, hsg⟩ : ∃ c, atI ((" 01DHn" : Str)).cps.toList si = some c := by
            rcases (show si = 0 ∨ si = 1 ∨ si = 2 ∨ si = 3 ∨ si = 4 ∨ si = 5 by omega) with rfl | rfl | rfl | rfl | rfl | rfl <;> exact ⟨_, rfl⟩
          refine ⟨_, _, sg, rfl, rfl, (by decide +kernel), hsg, ?_⟩
          refine ⟨_, rfl, p, d, _, 2, rfl, Sk, by omega, by decide, by decide, fun Hl on kpl Sl o0 o1 => ?_⟩
          replace hti := kpl _ _ tp td hti
          refine ⟨_, on, rfl, rfl, o0, by omega, fun sign ls => ?_⟩
          have ls1 : sign.length ≤ 1 := ls
          have lcut := cut_le (shownS cs) none (some cut)
          refine ⟨_, rfl, _, rfl, _, rfl, _, rfl, fit _ (by omega), _, rfl, _, _, rfl, rfl, fit _ (by omega), _, rfl, _, rfl, _, rfl, p, d, _, 2, rfl, Sl, by omega, by decide, by decide, fun Hm on2 kpm Sm o20 o21 => ?_⟩
          replace hti := kpm _ _ tp td hti
          have lcut2 := cut_le (shownS cs) (some (cut + on2)) none
          refine ⟨_, _, rfl, rfl, _, rfl, _, rfl, fit _ (by omega), _, _, rfl, rfl, fit _ (by rw [str_app_len]; omega), _, rfl, (by rw [str_app_len, str_app_len]; omega), fun Hn en => ⟨_, rfl, iteF ?_⟩⟩
          exact ⟨_, _, _, _, _, _, _, _, _, rfl, (Sm.same en).more (by omega), en _ _ hti⟩
      · obtain ⟨v4, v5, v6, v7, v8, v9, v10, v11, v12, rfl, S4, _⟩ := h
        exact ⟨_, _, _, _, _, _, _, _, _, _, _, rfl, S4.more (by omega)⟩
    · obtain ⟨v2, v3, v4, v5, v6, v7, v8, v9, v10, v11, v12, rfl, S2⟩ := h
      exact ⟨_, rfl, by decide +kernel, fun H3 _ => ⟨_, rfl, iteT ⟨_, rfl, by decide +kernel, fun H4 _ => k _⟩⟩⟩
end
end Gc

/-! the __init__ of the errors -/
namespace Gc
open PySem L2
theorem kit_own {K : PySem.W.Frag} {C D : Addr} {b : Bool} (h1 : PySem.W.isClsIn K D = true) (h2 : PySem.W.typeIn K (.ref D) = some (.type "type"))
    (h3 : PySem.W.subIn K (.ref C) (.ref D) = some b) (hr : PySem.W.subIn K (.ref C) (.ref C) = some true) : PySem.W.kitOne K (.ref C) (.ref D) = some b := by
  unfold PySem.W.kitOne
  split
  · rename_i e
    have z : C = D := Value.ref.inj (beq_iff_eq.mp e)
    subst z
    exact hr.symm.trans h3
  · show (if ((PySem.W.clsIn K D).isSome && PySem.W.typeIn K (.ref D) == some (.type "type")) = true then PySem.W.subIn K (.ref C) (.ref D) else none) = some b
    have h1' : (PySem.W.clsIn K D).isSome = true := h1
    rw [h1', h2]
    exact h3
theorem kit_bl {K : PySem.W.Frag} {C : Addr} {T : String} {b : Bool} (hm : PySem.W.kitMeta T = true) (h : PySem.W.subIn K (.ref C) (.type T) = some b) : PySem.W.kitOne K (.ref C) (.type T) = some b := by
  unfold PySem.W.kitOne
  rw [if_neg (by intro e; cases beq_iff_eq.mp e)]
  show (if PySem.W.kitMeta T = true then PySem.W.subIn K (.ref C) (.type T) else none) = some b
  rw [if_pos hm]
  exact h
section
variable {P : Program} {w : World} {K : PySem.W.Frag} {mg : Str → Option Value} {base : Heap}
abbrev sI0 : Stmt := inClass (top 6) 0
theorem sc_I0 : FnScope ["self", "value"] ["self", "value"] (defScope sI0) := ⟨rfl, rfl, rfl, by decide +kernel, rfl, by decide +kernel, by decide +kernel⟩
theorem errc_I0 {fI C : Addr} {fd : FuncData} (F : Fun K "__init__" "InvalidText.__init__" sI0 fI fd) (T : OexC K C) (g : mg "InvalidText" = some (.ref C)) (no : PySem.W.findIn K (.ref C) "value" = some none)
    (iC : PySem.W.findIn K (.ref C) "__init__" = some (some (.ref fI))) (tI : PySem.W.typeIn K (.ref fI) = some (.type "function")) : ErrC P w K mg base "InvalidText" C := by
  have ok : FnOk P w K mg base CX0 1 fI fd ["self", "value"] (spKeep C) := by
    refine F.ok sc_I0 (fun vs H Q E h => ?_) (fun cdv A outer s H vs Q E hr h => ?_)
    · obtain ⟨a, v, rfl, _⟩ := h
      rfl
    · obtain ⟨a, v, rfl, ha, k⟩ := h
      refine ⟨_, pss_one (ps_ost (pv 0) (pv 1)), ?_⟩
      exact ⟨_, rfl, _, rfl, a, C, rfl, T, no, .inl ⟨ha, fun dx hd ne => k dx hd ne⟩⟩
  exact ⟨T, g, no, fI, fd, iC, tI, ok, F.binds (ps := ["self", "value"]) fun _ _ _ _ _ _ us hl => match us, hl with | [_, _], _ => rfl⟩
abbrev sI1 : Stmt := inClass (top 7) 0
theorem sc_I1 : FnScope ["self", "value"] ["self", "value"] (defScope sI1) := ⟨rfl, rfl, rfl, by decide +kernel, rfl, by decide +kernel, by decide +kernel⟩
theorem errc_I1 {fI C : Addr} {fd : FuncData} (F : Fun K "__init__" "InvalidCursor.__init__" sI1 fI fd) (T : OexC K C) (g : mg "InvalidCursor" = some (.ref C)) (no : PySem.W.findIn K (.ref C) "value" = some none)
    (iC : PySem.W.findIn K (.ref C) "__init__" = some (some (.ref fI))) (tI : PySem.W.typeIn K (.ref fI) = some (.type "function")) : ErrC P w K mg base "InvalidCursor" C := by
  have ok : FnOk P w K mg base CX0 1 fI fd ["self", "value"] (spKeep C) := by
    refine F.ok sc_I1 (fun vs H Q E h => ?_) (fun cdv A outer s H vs Q E hr h => ?_)
    · obtain ⟨a, v, rfl, _⟩ := h
      rfl
    · obtain ⟨a, v, rfl, ha, k⟩ := h
      refine ⟨_, pss_one (ps_ost (pv 0) (pv 1)), ?_⟩
      exact ⟨_, rfl, _, rfl, a, C, rfl, T, no, .inl ⟨ha, fun dx hd ne => k dx hd ne⟩⟩
  exact ⟨T, g, no, fI, fd, iC, tI, ok, F.binds (ps := ["self", "value"]) fun _ _ _ _ _ _ us hl => match us, hl with | [_, _], _ => rfl⟩
abbrev sI2 : Stmt := inClass (top 8) 0
theorem sc_I2 : FnScope ["self", "value"] ["self", "value"] (defScope sI2) := ⟨rfl, rfl, rfl, by decide +kernel, rfl, by decide +kernel, by decide +kernel⟩
theorem errc_I2 {fI C : Addr} {fd : FuncData} (F : Fun K "__init__" "InvalidCommand.__init__" sI2 fI fd) (T : OexC K C) (g : mg "InvalidCommand" = some (.ref C)) (no : PySem.W.findIn K (.ref C) "value" = some none)
    (iC : PySem.W.findIn K (.ref C) "__init__" = some (some (.ref fI))) (tI : PySem.W.typeIn K (.ref fI) = some (.type "function")) : ErrC P w K mg base "InvalidCommand" C := by
  have ok : FnOk P w K mg base CX0 1 fI fd ["self", "value"] (spKeep C) := by
    refine F.ok sc_I2 (fun vs H Q E h => ?_) (fun cdv A outer s H vs Q E hr h => ?_)
    · obtain ⟨a, v, rfl, _⟩ := h
      rfl
    · obtain ⟨a, v, rfl, ha, k⟩ := h
      refine ⟨_, pss_one (ps_ost (pv 0) (pv 1)), ?_⟩
      exact ⟨_, rfl, _, rfl, a, C, rfl, T, no, .inl ⟨ha, fun dx hd ne => k dx hd ne⟩⟩
  exact ⟨T, g, no, fI, fd, iC, tI, ok, F.binds (ps := ["self", "value"]) fun _ _ _ _ _ _ us hl => match us, hl with | [_, _], _ => rfl⟩
abbrev sI3 : Stmt := inClass (top 9) 0
theorem sc_I3 : FnScope ["self", "value"] ["self", "value"] (defScope sI3) := ⟨rfl, rfl, rfl, by decide +kernel, rfl, by decide +kernel, by decide +kernel⟩
theorem errc_I3 {fI C : Addr} {fd : FuncData} (F : Fun K "__init__" "Impossible.__init__" sI3 fI fd) (T : OexC K C) (g : mg "Impossible" = some (.ref C)) (no : PySem.W.findIn K (.ref C) "value" = some none)
    (iC : PySem.W.findIn K (.ref C) "__init__" = some (some (.ref fI))) (tI : PySem.W.typeIn K (.ref fI) = some (.type "function")) : ErrC P w K mg base "Impossible" C := by
  have ok : FnOk P w K mg base CX0 1 fI fd ["self", "value"] (spKeep C) := by
    refine F.ok sc_I3 (fun vs H Q E h => ?_) (fun cdv A outer s H vs Q E hr h => ?_)
    · obtain ⟨a, v, rfl, _⟩ := h
      rfl
    · obtain ⟨a, v, rfl, ha, k⟩ := h
      refine ⟨_, pss_one (ps_ost (pv 0) (pv 1)), ?_⟩
      exact ⟨_, rfl, _, rfl, a, C, rfl, T, no, .inl ⟨ha, fun dx hd ne => k dx hd ne⟩⟩
  exact ⟨T, g, no, fI, fd, iC, tI, ok, F.binds (ps := ["self", "value"]) fun _ _ _ _ _ _ us hl => match us, hl with | [_, _], _ => rfl⟩
abbrev sI6 : Stmt := inClass (top 10) 0
theorem sc_I6 : FnScope ["self", "value"] ["self", "value"] (defScope sI6) := ⟨rfl, rfl, rfl, by decide +kernel, rfl, by decide +kernel, by decide +kernel⟩
theorem errc_I6 {fI C : Addr} {fd : FuncData} (F : Fun K "__init__" "Unreadable.__init__" sI6 fI fd) (T : OexC K C) (g : mg "Unreadable" = some (.ref C)) (no : PySem.W.findIn K (.ref C) "value" = some none)
    (iC : PySem.W.findIn K (.ref C) "__init__" = some (some (.ref fI))) (tI : PySem.W.typeIn K (.ref fI) = some (.type "function")) : ErrC P w K mg base "Unreadable" C := by
  have ok : FnOk P w K mg base CX0 1 fI fd ["self", "value"] (spKeep C) := by
    refine F.ok sc_I6 (fun vs H Q E h => ?_) (fun cdv A outer s H vs Q E hr h => ?_)
    · obtain ⟨a, v, rfl, _⟩ := h
      rfl
    · obtain ⟨a, v, rfl, ha, k⟩ := h
      refine ⟨_, pss_one (ps_ost (pv 0) (pv 1)), ?_⟩
      exact ⟨_, rfl, _, rfl, a, C, rfl, T, no, .inl ⟨ha, fun dx hd ne => k dx hd ne⟩⟩
  exact ⟨T, g, no, fI, fd, iC, tI, ok, F.binds (ps := ["self", "value"]) fun _ _ _ _ _ _ us hl => match us, hl with | [_, _], _ => rfl⟩
end
end Gc

namespace Gc
open PySem L2
theorem all_mk {l : PySem.W.OpenLaw} {w : World} {K : PySem.W.Frag} {h : Heap} {mg : Str → Option Value} {fa : Addr} (X : K.In h) (G : h.Ns mainGlobals mg) (hfa : mg "law" = some (.ref fa))
    {wn wo : Addr} {odN odO : Option Addr} {nN nO : Nat} {slN slO : Array (Option Value)} {tn0 tn1 tn2 tn3 to0 to1 : Tok}
    {f_show_commands : Addr} {oc_show_commands kV_show_commands dc_show_commands pm_show_commands cd_show_commands ct_show_commands : Value} {od_show_commands an_show_commands : Option Addr} {sl_show_commands : Array (Option Value)}
    {f_show_command : Addr} {oc_show_command kV_show_command dc_show_command pm_show_command cd_show_command ct_show_command : Value} {od_show_command an_show_command : Option Addr} {sl_show_command : Array (Option Value)}
    {f_show_number : Addr} {oc_show_number kV_show_number dc_show_number pm_show_number cd_show_number ct_show_number : Value} {od_show_number an_show_number : Option Addr} {sl_show_number : Array (Option Value)}
    {f_read_commands : Addr} {oc_read_commands kV_read_commands dc_read_commands pm_read_commands cd_read_commands ct_read_commands : Value} {od_read_commands an_read_commands : Option Addr} {sl_read_commands : Array (Option Value)}
    {f_read_command : Addr} {oc_read_command kV_read_command dc_read_command pm_read_command cd_read_command ct_read_command : Value} {od_read_command an_read_command : Option Addr} {sl_read_command : Array (Option Value)}
    {f_is_number : Addr} {oc_is_number kV_is_number dc_is_number pm_is_number cd_is_number ct_is_number : Value} {od_is_number an_is_number : Option Addr} {sl_is_number : Array (Option Value)}
    {f_is_count : Addr} {oc_is_count kV_is_count dc_is_count pm_is_count cd_is_count ct_is_count : Value} {od_is_count an_is_count : Option Addr} {sl_is_count : Array (Option Value)}
    {f_is_command : Addr} {oc_is_command kV_is_command dc_is_command pm_is_command cd_is_command ct_is_command : Value} {od_is_command an_is_command : Option Addr} {sl_is_command : Array (Option Value)}
    {f_check_commands : Addr} {oc_check_commands kV_check_commands dc_check_commands pm_check_commands cd_check_commands ct_check_commands : Value} {od_check_commands an_check_commands : Option Addr} {sl_check_commands : Array (Option Value)}
    {f_row_change : Addr} {oc_row_change kV_row_change dc_row_change pm_row_change cd_row_change ct_row_change : Value} {od_row_change an_row_change : Option Addr} {sl_row_change : Array (Option Value)}
    {f_check_text : Addr} {oc_check_text kV_check_text dc_check_text pm_check_text cd_check_text ct_check_text : Value} {od_check_text an_check_text : Option Addr} {sl_check_text : Array (Option Value)}
    {f_check_cursor : Addr} {oc_check_cursor kV_check_cursor dc_check_cursor pm_check_cursor cd_check_cursor ct_check_cursor : Value} {od_check_cursor an_check_cursor : Option Addr} {sl_check_cursor : Array (Option Value)}
    {f_run : Addr} {oc_run kV_run dc_run pm_run cd_run ct_run : Value} {od_run an_run : Option Addr} {sl_run : Array (Option Value)}
    {f_places : Addr} {oc_places kV_places dc_places pm_places cd_places ct_places : Value} {od_places an_places : Option Addr} {sl_places : Array (Option Value)}
    {f_reach : Addr} {oc_reach kV_reach dc_reach pm_reach cd_reach ct_reach : Value} {od_reach an_reach : Option Addr} {sl_reach : Array (Option Value)}
    {f_shown_column : Addr} {oc_shown_column kV_shown_column dc_shown_column pm_shown_column cd_shown_column ct_shown_column : Value} {od_shown_column an_shown_column : Option Addr} {sl_shown_column : Array (Option Value)}
    {f_moved : Addr} {oc_moved kV_moved dc_moved pm_moved cd_moved ct_moved : Value} {od_moved an_moved : Option Addr} {sl_moved : Array (Option Value)}
    {f_new_goal : Addr} {oc_new_goal kV_new_goal dc_new_goal pm_new_goal cd_new_goal ct_new_goal : Value} {od_new_goal an_new_goal : Option Addr} {sl_new_goal : Array (Option Value)}
    {f_law_source : Addr} {oc_law_source kV_law_source dc_law_source pm_law_source cd_law_source ct_law_source : Value} {od_law_source an_law_source : Option Addr} {sl_law_source : Array (Option Value)}
    {f_law_draw : Addr} {oc_law_draw kV_law_draw dc_law_draw pm_law_draw cd_law_draw ct_law_draw : Value} {od_law_draw an_law_draw : Option Addr} {sl_law_draw : Array (Option Value)}
    {f_law_same : Addr} {oc_law_same kV_law_same dc_law_same pm_law_same cd_law_same ct_law_same : Value} {od_law_same an_law_same : Option Addr} {sl_law_same : Array (Option Value)}
    {f_law_number : Addr} {oc_law_number kV_law_number dc_law_number pm_law_number cd_law_number ct_law_number : Value} {od_law_number an_law_number : Option Addr} {sl_law_number : Array (Option Value)}
    {f_law_command : Addr} {oc_law_command kV_law_command dc_law_command pm_law_command cd_law_command ct_law_command : Value} {od_law_command an_law_command : Option Addr} {sl_law_command : Array (Option Value)}
    {f_law_text : Addr} {oc_law_text kV_law_text dc_law_text pm_law_text cd_law_text ct_law_text : Value} {od_law_text an_law_text : Option Addr} {sl_law_text : Array (Option Value)}
    {f_law_cursor : Addr} {oc_law_cursor kV_law_cursor dc_law_cursor pm_law_cursor cd_law_cursor ct_law_cursor : Value} {od_law_cursor an_law_cursor : Option Addr} {sl_law_cursor : Array (Option Value)}
    {f_law_commands : Addr} {oc_law_commands kV_law_commands dc_law_commands pm_law_commands cd_law_commands ct_law_commands : Value} {od_law_commands an_law_commands : Option Addr} {sl_law_commands : Array (Option Value)}
    {f_law_places : Addr} {oc_law_places kV_law_places dc_law_places pm_law_places cd_law_places ct_law_places : Value} {od_law_places an_law_places : Option Addr} {sl_law_places : Array (Option Value)}
    {f_law_is_kept : Addr} {oc_law_is_kept kV_law_is_kept dc_law_is_kept pm_law_is_kept cd_law_is_kept ct_law_is_kept : Value} {od_law_is_kept an_law_is_kept : Option Addr} {sl_law_is_kept : Array (Option Value)}
    {f_law : Addr} {oc_law kV_law dc_law pm_law cd_law ct_law : Value} {od_law an_law : Option Addr} {sl_law : Array (Option Value)}
    {CE : Addr}
    {C0 : Addr}
    {C1 : Addr}
    {C2 : Addr}
    {C3 : Addr}
    {f3 N3 : Addr} {nm3 q3 : Str} {bs3 : List Value} {sn3 : List Str} {sub3 : List Value} {ab3 : Bool} {col3 : Option Bool} {dd3 : Option Addr} {p3_0 p3_1 p3_2 p3_3 p3_5 : Option Value}
    {oc3 kV3 dc3 pm3 cd3 ct3 : Value} {od3 an3 : Option Addr} {sl3 : Array (Option Value)}
    {C6 : Addr}
    {f6 N6 : Addr} {nm6 q6 : Str} {bs6 : List Value} {sn6 : List Str} {sub6 : List Value} {ab6 : Bool} {col6 : Option Bool} {dd6 : Option Addr} {p6_0 p6_1 p6_2 p6_3 p6_5 : Option Value}
    {oc6 kV6 dc6 pm6 cd6 ct6 : Value} {od6 an6 : Option Addr} {sl6 : Array (Option Value)}
    {na nb : Addr} {nA nB : Nat} {tm t1 t2 u1 u2 s1 s2 s3 s4 r1 r2 r3 r4 : Tok}
    (aWN : PySem.W.nsIn K mainGlobals "WITH_NUMBER" = some (some (.ref wn)))
    (aWO : PySem.W.nsIn K mainGlobals "WITHOUT_NUMBER" = some (some (.ref wo)))
    (lWN : K.lookup wn = some ⟨.type "tuple", odN, .seq #[.str "down" tn0, .str "up" tn1, .str "right" tn2, .str "left" tn3] nN, slN⟩)
    (lWO : K.lookup wo = some ⟨.type "tuple", odO, .seq #[.str "home" to0, .str "end" to1] nO, slO⟩)
    (a_show_commands : PySem.W.nsIn K mainGlobals "show_commands" = some (some (.ref f_show_commands)))
    (l_show_commands : K.lookup f_show_commands = some ⟨oc_show_commands, od_show_commands, .func (PySem.W.fnOf "show_commands" "show_commands" (defArgs s_show_commands) (defBody s_show_commands) (defScope s_show_commands) .none kV_show_commands dc_show_commands pm_show_commands an_show_commands cd_show_commands ct_show_commands), sl_show_commands⟩)
    (c_show_commands : PySem.W.codeIn K cd_show_commands "show_commands" = true)
    (k_show_commands : PySem.W.keepIn K (.ref f_show_commands) = true)
    (a_show_command : PySem.W.nsIn K mainGlobals "show_command" = some (some (.ref f_show_command)))
    (l_show_command : K.lookup f_show_command = some ⟨oc_show_command, od_show_command, .func (PySem.W.fnOf "show_command" "show_command" (defArgs s_show_command) (defBody s_show_command) (defScope s_show_command) .none kV_show_command dc_show_command pm_show_command an_show_command cd_show_command ct_show_command), sl_show_command⟩)
    (c_show_command : PySem.W.codeIn K cd_show_command "show_command" = true)
    (k_show_command : PySem.W.keepIn K (.ref f_show_command) = true)
    (a_show_number : PySem.W.nsIn K mainGlobals "show_number" = some (some (.ref f_show_number)))
    (l_show_number : K.lookup f_show_number = some ⟨oc_show_number, od_show_number, .func (PySem.W.fnOf "show_number" "show_number" (defArgs s_show_number) (defBody s_show_number) (defScope s_show_number) .none kV_show_number dc_show_number pm_show_number an_show_number cd_show_number ct_show_number), sl_show_number⟩)
    (c_show_number : PySem.W.codeIn K cd_show_number "show_number" = true)
    (k_show_number : PySem.W.keepIn K (.ref f_show_number) = true)
    (a_read_commands : PySem.W.nsIn K mainGlobals "read_commands" = some (some (.ref f_read_commands)))
    (l_read_commands : K.lookup f_read_commands = some ⟨oc_read_commands, od_read_commands, .func (PySem.W.fnOf "read_commands" "read_commands" (defArgs s_read_commands) (defBody s_read_commands) (defScope s_read_commands) .none kV_read_commands dc_read_commands pm_read_commands an_read_commands cd_read_commands ct_read_commands), sl_read_commands⟩)
    (c_read_commands : PySem.W.codeIn K cd_read_commands "read_commands" = true)
    (k_read_commands : PySem.W.keepIn K (.ref f_read_commands) = true)
    (a_read_command : PySem.W.nsIn K mainGlobals "read_command" = some (some (.ref f_read_command)))
    (l_read_command : K.lookup f_read_command = some ⟨oc_read_command, od_read_command, .func (PySem.W.fnOf "read_command" "read_command" (defArgs s_read_command) (defBody s_read_command) (defScope s_read_command) .none kV_read_command dc_read_command pm_read_command an_read_command cd_read_command ct_read_command), sl_read_command⟩)
    (c_read_command : PySem.W.codeIn K cd_read_command "read_command" = true)
    (k_read_command : PySem.W.keepIn K (.ref f_read_command) = true)
    (a_is_number : PySem.W.nsIn K mainGlobals "is_number" = some (some (.ref f_is_number)))
    (l_is_number : K.lookup f_is_number = some ⟨oc_is_number, od_is_number, .func (PySem.W.fnOf "is_number" "is_number" (defArgs s_is_number) (defBody s_is_number) (defScope s_is_number) .none kV_is_number dc_is_number pm_is_number an_is_number cd_is_number ct_is_number), sl_is_number⟩)
    (c_is_number : PySem.W.codeIn K cd_is_number "is_number" = true)
    (k_is_number : PySem.W.keepIn K (.ref f_is_number) = true)
    (a_is_count : PySem.W.nsIn K mainGlobals "is_count" = some (some (.ref f_is_count)))
    (l_is_count : K.lookup f_is_count = some ⟨oc_is_count, od_is_count, .func (PySem.W.fnOf "is_count" "is_count" (defArgs s_is_count) (defBody s_is_count) (defScope s_is_count) .none kV_is_count dc_is_count pm_is_count an_is_count cd_is_count ct_is_count), sl_is_count⟩)
    (c_is_count : PySem.W.codeIn K cd_is_count "is_count" = true)
    (k_is_count : PySem.W.keepIn K (.ref f_is_count) = true)
    (a_is_command : PySem.W.nsIn K mainGlobals "is_command" = some (some (.ref f_is_command)))
    (l_is_command : K.lookup f_is_command = some ⟨oc_is_command, od_is_command, .func (PySem.W.fnOf "is_command" "is_command" (defArgs s_is_command) (defBody s_is_command) (defScope s_is_command) .none kV_is_command dc_is_command pm_is_command an_is_command cd_is_command ct_is_command), sl_is_command⟩)
    (c_is_command : PySem.W.codeIn K cd_is_command "is_command" = true)
    (k_is_command : PySem.W.keepIn K (.ref f_is_command) = true)
    (a_check_commands : PySem.W.nsIn K mainGlobals "check_commands" = some (some (.ref f_check_commands)))
    (l_check_commands : K.lookup f_check_commands = some ⟨oc_check_commands, od_check_commands, .func (PySem.W.fnOf "check_commands" "check_commands" (defArgs s_check_commands) (defBody s_check_commands) (defScope s_check_commands) .none kV_check_commands dc_check_commands pm_check_commands an_check_commands cd_check_commands ct_check_commands), sl_check_commands⟩)
    (c_check_commands : PySem.W.codeIn K cd_check_commands "check_commands" = true)
    (k_check_commands : PySem.W.keepIn K (.ref f_check_commands) = true)
    (a_row_change : PySem.W.nsIn K mainGlobals "row_change" = some (some (.ref f_row_change)))
    (l_row_change : K.lookup f_row_change = some ⟨oc_row_change, od_row_change, .func (PySem.W.fnOf "row_change" "row_change" (defArgs s_row_change) (defBody s_row_change) (defScope s_row_change) .none kV_row_change dc_row_change pm_row_change an_row_change cd_row_change ct_row_change), sl_row_change⟩)
    (c_row_change : PySem.W.codeIn K cd_row_change "row_change" = true)
    (k_row_change : PySem.W.keepIn K (.ref f_row_change) = true)
    (a_check_text : PySem.W.nsIn K mainGlobals "check_text" = some (some (.ref f_check_text)))
    (l_check_text : K.lookup f_check_text = some ⟨oc_check_text, od_check_text, .func (PySem.W.fnOf "check_text" "check_text" (defArgs s_check_text) (defBody s_check_text) (defScope s_check_text) .none kV_check_text dc_check_text pm_check_text an_check_text cd_check_text ct_check_text), sl_check_text⟩)
    (c_check_text : PySem.W.codeIn K cd_check_text "check_text" = true)
    (k_check_text : PySem.W.keepIn K (.ref f_check_text) = true)
    (a_check_cursor : PySem.W.nsIn K mainGlobals "check_cursor" = some (some (.ref f_check_cursor)))
    (l_check_cursor : K.lookup f_check_cursor = some ⟨oc_check_cursor, od_check_cursor, .func (PySem.W.fnOf "check_cursor" "check_cursor" (defArgs s_check_cursor) (defBody s_check_cursor) (defScope s_check_cursor) .none kV_check_cursor dc_check_cursor pm_check_cursor an_check_cursor cd_check_cursor ct_check_cursor), sl_check_cursor⟩)
    (c_check_cursor : PySem.W.codeIn K cd_check_cursor "check_cursor" = true)
    (k_check_cursor : PySem.W.keepIn K (.ref f_check_cursor) = true)
    (a_run : PySem.W.nsIn K mainGlobals "run" = some (some (.ref f_run)))
    (l_run : K.lookup f_run = some ⟨oc_run, od_run, .func (PySem.W.fnOf "run" "run" (defArgs s_run) (defBody s_run) (defScope s_run) .none kV_run dc_run pm_run an_run cd_run ct_run), sl_run⟩)
    (c_run : PySem.W.codeIn K cd_run "run" = true)
    (k_run : PySem.W.keepIn K (.ref f_run) = true)
    (a_places : PySem.W.nsIn K mainGlobals "places" = some (some (.ref f_places)))
    (l_places : K.lookup f_places = some ⟨oc_places, od_places, .func (PySem.W.fnOf "places" "places" (defArgs s_places) (defBody s_places) (defScope s_places) .none kV_places dc_places pm_places an_places cd_places ct_places), sl_places⟩)
    (c_places : PySem.W.codeIn K cd_places "places" = true)
    (k_places : PySem.W.keepIn K (.ref f_places) = true)
    (a_reach : PySem.W.nsIn K mainGlobals "reach" = some (some (.ref f_reach)))
    (l_reach : K.lookup f_reach = some ⟨oc_reach, od_reach, .func (PySem.W.fnOf "reach" "reach" (defArgs s_reach) (defBody s_reach) (defScope s_reach) .none kV_reach dc_reach pm_reach an_reach cd_reach ct_reach), sl_reach⟩)
    (c_reach : PySem.W.codeIn K cd_reach "reach" = true)
    (k_reach : PySem.W.keepIn K (.ref f_reach) = true)
    (a_shown_column : PySem.W.nsIn K mainGlobals "shown_column" = some (some (.ref f_shown_column)))
    (l_shown_column : K.lookup f_shown_column = some ⟨oc_shown_column, od_shown_column, .func (PySem.W.fnOf "shown_column" "shown_column" (defArgs s_shown_column) (defBody s_shown_column) (defScope s_shown_column) .none kV_shown_column dc_shown_column pm_shown_column an_shown_column cd_shown_column ct_shown_column), sl_shown_column⟩)
    (c_shown_column : PySem.W.codeIn K cd_shown_column "shown_column" = true)
    (k_shown_column : PySem.W.keepIn K (.ref f_shown_column) = true)
    (a_moved : PySem.W.nsIn K mainGlobals "moved" = some (some (.ref f_moved)))
    (l_moved : K.lookup f_moved = some ⟨oc_moved, od_moved, .func (PySem.W.fnOf "moved" "moved" (defArgs s_moved) (defBody s_moved) (defScope s_moved) .none kV_moved dc_moved pm_moved an_moved cd_moved ct_moved), sl_moved⟩)
    (c_moved : PySem.W.codeIn K cd_moved "moved" = true)
    (k_moved : PySem.W.keepIn K (.ref f_moved) = true)
    (a_new_goal : PySem.W.nsIn K mainGlobals "new_goal" = some (some (.ref f_new_goal)))
    (l_new_goal : K.lookup f_new_goal = some ⟨oc_new_goal, od_new_goal, .func (PySem.W.fnOf "new_goal" "new_goal" (defArgs s_new_goal) (defBody s_new_goal) (defScope s_new_goal) .none kV_new_goal dc_new_goal pm_new_goal an_new_goal cd_new_goal ct_new_goal), sl_new_goal⟩)
    (c_new_goal : PySem.W.codeIn K cd_new_goal "new_goal" = true)
    (k_new_goal : PySem.W.keepIn K (.ref f_new_goal) = true)
    (a_law_source : PySem.W.nsIn K mainGlobals "_law_source" = some (some (.ref f_law_source)))
    (l_law_source : K.lookup f_law_source = some ⟨oc_law_source, od_law_source, .func (PySem.W.fnOf "_law_source" "_law_source" (defArgs s_source) (defBody s_source) (defScope s_source) .none kV_law_source dc_law_source pm_law_source an_law_source cd_law_source ct_law_source), sl_law_source⟩)
    (c_law_source : PySem.W.codeIn K cd_law_source "_law_source" = true)
    (k_law_source : PySem.W.keepIn K (.ref f_law_source) = true)
    (a_law_draw : PySem.W.nsIn K mainGlobals "_law_draw" = some (some (.ref f_law_draw)))
    (l_law_draw : K.lookup f_law_draw = some ⟨oc_law_draw, od_law_draw, .func (PySem.W.fnOf "_law_draw" "_law_draw" (defArgs s_sdraw) (defBody s_sdraw) (defScope s_sdraw) .none kV_law_draw dc_law_draw pm_law_draw an_law_draw cd_law_draw ct_law_draw), sl_law_draw⟩)
    (c_law_draw : PySem.W.codeIn K cd_law_draw "_law_draw" = true)
    (k_law_draw : PySem.W.keepIn K (.ref f_law_draw) = true)
    (a_law_same : PySem.W.nsIn K mainGlobals "_law_same" = some (some (.ref f_law_same)))
    (l_law_same : K.lookup f_law_same = some ⟨oc_law_same, od_law_same, .func (PySem.W.fnOf "_law_same" "_law_same" (defArgs s_same) (defBody s_same) (defScope s_same) .none kV_law_same dc_law_same pm_law_same an_law_same cd_law_same ct_law_same), sl_law_same⟩)
    (c_law_same : PySem.W.codeIn K cd_law_same "_law_same" = true)
    (k_law_same : PySem.W.keepIn K (.ref f_law_same) = true)
    (a_law_number : PySem.W.nsIn K mainGlobals "_law_number" = some (some (.ref f_law_number)))
    (l_law_number : K.lookup f_law_number = some ⟨oc_law_number, od_law_number, .func (PySem.W.fnOf "_law_number" "_law_number" (defArgs s_number) (defBody s_number) (defScope s_number) .none kV_law_number dc_law_number pm_law_number an_law_number cd_law_number ct_law_number), sl_law_number⟩)
    (c_law_number : PySem.W.codeIn K cd_law_number "_law_number" = true)
    (k_law_number : PySem.W.keepIn K (.ref f_law_number) = true)
    (a_law_command : PySem.W.nsIn K mainGlobals "_law_command" = some (some (.ref f_law_command)))
    (l_law_command : K.lookup f_law_command = some ⟨oc_law_command, od_law_command, .func (PySem.W.fnOf "_law_command" "_law_command" (defArgs s_command) (defBody s_command) (defScope s_command) .none kV_law_command dc_law_command pm_law_command an_law_command cd_law_command ct_law_command), sl_law_command⟩)
    (c_law_command : PySem.W.codeIn K cd_law_command "_law_command" = true)
    (k_law_command : PySem.W.keepIn K (.ref f_law_command) = true)
    (a_law_text : PySem.W.nsIn K mainGlobals "_law_text" = some (some (.ref f_law_text)))
    (l_law_text : K.lookup f_law_text = some ⟨oc_law_text, od_law_text, .func (PySem.W.fnOf "_law_text" "_law_text" (defArgs s_text) (defBody s_text) (defScope s_text) .none kV_law_text dc_law_text pm_law_text an_law_text cd_law_text ct_law_text), sl_law_text⟩)
    (c_law_text : PySem.W.codeIn K cd_law_text "_law_text" = true)
    (k_law_text : PySem.W.keepIn K (.ref f_law_text) = true)
    (a_law_cursor : PySem.W.nsIn K mainGlobals "_law_cursor" = some (some (.ref f_law_cursor)))
    (l_law_cursor : K.lookup f_law_cursor = some ⟨oc_law_cursor, od_law_cursor, .func (PySem.W.fnOf "_law_cursor" "_law_cursor" (defArgs s_cursor) (defBody s_cursor) (defScope s_cursor) .none kV_law_cursor dc_law_cursor pm_law_cursor an_law_cursor cd_law_cursor ct_law_cursor), sl_law_cursor⟩)
    (c_law_cursor : PySem.W.codeIn K cd_law_cursor "_law_cursor" = true)
    (k_law_cursor : PySem.W.keepIn K (.ref f_law_cursor) = true)
    (a_law_commands : PySem.W.nsIn K mainGlobals "_law_commands" = some (some (.ref f_law_commands)))
    (l_law_commands : K.lookup f_law_commands = some ⟨oc_law_commands, od_law_commands, .func (PySem.W.fnOf "_law_commands" "_law_commands" (defArgs s_commands) (defBody s_commands) (defScope s_commands) .none kV_law_commands dc_law_commands pm_law_commands an_law_commands cd_law_commands ct_law_commands), sl_law_commands⟩)
    (c_law_commands : PySem.W.codeIn K cd_law_commands "_law_commands" = true)
    (k_law_commands : PySem.W.keepIn K (.ref f_law_commands) = true)
    (a_law_places : PySem.W.nsIn K mainGlobals "_law_places" = some (some (.ref f_law_places)))
    (l_law_places : K.lookup f_law_places = some ⟨oc_law_places, od_law_places, .func (PySem.W.fnOf "_law_places" "_law_places" (defArgs s_lplaces) (defBody s_lplaces) (defScope s_lplaces) .none kV_law_places dc_law_places pm_law_places an_law_places cd_law_places ct_law_places), sl_law_places⟩)
    (c_law_places : PySem.W.codeIn K cd_law_places "_law_places" = true)
    (k_law_places : PySem.W.keepIn K (.ref f_law_places) = true)
    (a_law_is_kept : PySem.W.nsIn K mainGlobals "_law_is_kept" = some (some (.ref f_law_is_kept)))
    (l_law_is_kept : K.lookup f_law_is_kept = some ⟨oc_law_is_kept, od_law_is_kept, .func (PySem.W.fnOf "_law_is_kept" "_law_is_kept" (defArgs s_kept) (defBody s_kept) (defScope s_kept) .none kV_law_is_kept dc_law_is_kept pm_law_is_kept an_law_is_kept cd_law_is_kept ct_law_is_kept), sl_law_is_kept⟩)
    (c_law_is_kept : PySem.W.codeIn K cd_law_is_kept "_law_is_kept" = true)
    (k_law_is_kept : PySem.W.keepIn K (.ref f_law_is_kept) = true)
    (a_law : PySem.W.nsIn K mainGlobals "law" = some (some (.ref f_law)))
    (l_law : K.lookup f_law = some ⟨oc_law, od_law, .func (PySem.W.fnOf "law" "law" (defArgs s_law) (defBody s_law) (defScope s_law) .none kV_law dc_law pm_law an_law cd_law ct_law), sl_law⟩)
    (c_law : PySem.W.codeIn K cd_law "law" = true)
    (k_law : PySem.W.keepIn K (.ref f_law) = true)
    (z_isinstance : PySem.W.nsIn K mainGlobals "isinstance" = some none)
    (z_int : PySem.W.nsIn K mainGlobals "int" = some none)
    (z_bool : PySem.W.nsIn K mainGlobals "bool" = some none)
    (z_len : PySem.W.nsIn K mainGlobals "len" = some none)
    (z_enumerate : PySem.W.nsIn K mainGlobals "enumerate" = some none)
    (z_reversed : PySem.W.nsIn K mainGlobals "reversed" = some none)
    (z_sorted : PySem.W.nsIn K mainGlobals "sorted" = some none)
    (z_max : PySem.W.nsIn K mainGlobals "max" = some none)
    (z_min : PySem.W.nsIn K mainGlobals "min" = some none)
    (z_range : PySem.W.nsIn K mainGlobals "range" = some none)
    (z_list : PySem.W.nsIn K mainGlobals "list" = some none)
    (z_str : PySem.W.nsIn K mainGlobals "str" = some none)
    (z_tuple : PySem.W.nsIn K mainGlobals "tuple" = some none)
    (z_divmod : PySem.W.nsIn K mainGlobals "divmod" = some none)
    (z_all : PySem.W.nsIn K mainGlobals "all" = some none)
    (aE : PySem.W.nsIn K mainGlobals "CursorError" = some (some (.ref CE)))
    (yE : PySem.W.typeIn K (.ref CE) = some (.type "type"))
    (bE : PySem.W.subIn K (.ref CE) (.type "BaseException") = some true)
    (hE : PySem.W.hasDictIn K CE = true)
    (icE : PySem.W.isClsIn K CE = true)
    (gt : PySem.W.specialIn K (.builtin "object.__class__") "__get__" = some (some (.builtin "getset_descriptor.__get__")))
    (tk : PySem.W.takesIn K (.builtin "object.__class__") = some true)
    (a0 : PySem.W.nsIn K mainGlobals "InvalidText" = some (some (.ref C0)))
    (ty0 : PySem.W.typeIn K (.ref C0) = some (.type "type"))
    (ic0 : PySem.W.isClsIn K C0 = true)
    (a1 : PySem.W.nsIn K mainGlobals "InvalidCursor" = some (some (.ref C1)))
    (ty1 : PySem.W.typeIn K (.ref C1) = some (.type "type"))
    (ic1 : PySem.W.isClsIn K C1 = true)
    (a2 : PySem.W.nsIn K mainGlobals "InvalidCommand" = some (some (.ref C2)))
    (ty2 : PySem.W.typeIn K (.ref C2) = some (.type "type"))
    (ic2 : PySem.W.isClsIn K C2 = true)
    (a3 : PySem.W.nsIn K mainGlobals "Impossible" = some (some (.ref C3)))
    (ty3 : PySem.W.typeIn K (.ref C3) = some (.type "type"))
    (ic3 : PySem.W.isClsIn K C3 = true)
    (x3 : K.lookup C3 = some (excClassObj nm3 q3 C3 N3 bs3 [.ref CE, .type "ValueError", .type "Exception", .type "BaseException", .type "object"] true sn3 sub3 ab3 col3 dd3 p3_0 p3_1 p3_2 p3_3 p3_5 "ValueError.__new__"))
    (sa3 : PySem.W.findIn K (.ref C3) "__setattr__" = some (some (.builtin "object.__setattr__")))
    (ga3 : PySem.W.findIn K (.ref C3) "__getattribute__" = some (some (.builtin "BaseException.__getattribute__")))
    (gg3 : PySem.W.findIn K (.ref C3) "__getattr__" = some none)
    (no3 : PySem.W.findIn K (.ref C3) "value" = some none)
    (cc3 : PySem.W.findIn K (.ref C3) "__class__" = some (some (.builtin "object.__class__")))
    (in3 : PySem.W.findIn K (.ref C3) "__init__" = some (some (.ref f3)))
    (ti3 : PySem.W.typeIn K (.ref f3) = some (.type "function"))
    (l3 : K.lookup f3 = some ⟨oc3, od3, .func (PySem.W.fnOf "__init__" "Impossible.__init__" (defArgs sI3) (defBody sI3) (defScope sI3) .none kV3 dc3 pm3 an3 cd3 ct3), sl3⟩)
    (c3 : PySem.W.codeIn K cd3 "Impossible.__init__" = true)
    (k3 : PySem.W.keepIn K (.ref f3) = true)
    (kc3 : PySem.W.keepIn K (.ref C3) = true)
    (be3 : PySem.W.subIn K (.ref C3) (.type "BaseException") = some true)
    (ve3 : PySem.W.subIn K (.ref C3) (.type "ValueError") = some true)
    (hd3 : PySem.W.hasDictIn K C3 = true)
    (mo3 : PySem.W.mroIn K C3 (.type "object") = some true)
    (se3 : PySem.W.subIn K (.ref C3) (.ref CE) = some true)
    (a6 : PySem.W.nsIn K mainGlobals "Unreadable" = some (some (.ref C6)))
    (ty6 : PySem.W.typeIn K (.ref C6) = some (.type "type"))
    (ic6 : PySem.W.isClsIn K C6 = true)
    (x6 : K.lookup C6 = some (excClassObj nm6 q6 C6 N6 bs6 [.ref CE, .type "ValueError", .type "Exception", .type "BaseException", .type "object"] true sn6 sub6 ab6 col6 dd6 p6_0 p6_1 p6_2 p6_3 p6_5 "ValueError.__new__"))
    (sa6 : PySem.W.findIn K (.ref C6) "__setattr__" = some (some (.builtin "object.__setattr__")))
    (ga6 : PySem.W.findIn K (.ref C6) "__getattribute__" = some (some (.builtin "BaseException.__getattribute__")))
    (gg6 : PySem.W.findIn K (.ref C6) "__getattr__" = some none)
    (no6 : PySem.W.findIn K (.ref C6) "value" = some none)
    (cc6 : PySem.W.findIn K (.ref C6) "__class__" = some (some (.builtin "object.__class__")))
    (in6 : PySem.W.findIn K (.ref C6) "__init__" = some (some (.ref f6)))
    (ti6 : PySem.W.typeIn K (.ref f6) = some (.type "function"))
    (l6 : K.lookup f6 = some ⟨oc6, od6, .func (PySem.W.fnOf "__init__" "Unreadable.__init__" (defArgs sI6) (defBody sI6) (defScope sI6) .none kV6 dc6 pm6 an6 cd6 ct6), sl6⟩)
    (c6 : PySem.W.codeIn K cd6 "Unreadable.__init__" = true)
    (k6 : PySem.W.keepIn K (.ref f6) = true)
    (kc6 : PySem.W.keepIn K (.ref C6) = true)
    (be6 : PySem.W.subIn K (.ref C6) (.type "BaseException") = some true)
    (ve6 : PySem.W.subIn K (.ref C6) (.type "ValueError") = some true)
    (hd6 : PySem.W.hasDictIn K C6 = true)
    (mo6 : PySem.W.mroIn K C6 (.type "object") = some true)
    (se6 : PySem.W.subIn K (.ref C6) (.ref CE) = some true)
    (s3_0 : PySem.W.subIn K (.ref C3) (.ref C0) = some false)
    (s3_1 : PySem.W.subIn K (.ref C3) (.ref C1) = some false)
    (s3_2 : PySem.W.subIn K (.ref C3) (.ref C2) = some false)
    (s3_3 : PySem.W.subIn K (.ref C3) (.ref C3) = some true)
    (s3_6 : PySem.W.subIn K (.ref C3) (.ref C6) = some false)
    (s6_0 : PySem.W.subIn K (.ref C6) (.ref C0) = some false)
    (s6_1 : PySem.W.subIn K (.ref C6) (.ref C1) = some false)
    (s6_2 : PySem.W.subIn K (.ref C6) (.ref C2) = some false)
    (s6_3 : PySem.W.subIn K (.ref C6) (.ref C3) = some false)
    (s6_6 : PySem.W.subIn K (.ref C6) (.ref C6) = some true)
    (ns3 : PySem.W.subIn K (.ref C3) (.type "StopIteration") = some false)
    (aNA : PySem.W.nsIn K mainGlobals "NAMES_ALONE" = some (some (.ref na)))
    (aNB : PySem.W.nsIn K mainGlobals "NAMES_BEHIND_NUMBER" = some (some (.ref nb)))
    (aMD : PySem.W.nsIn K mainGlobals "MOST_DIGITS" = some (some (.int 40 tm)))
    (lNA : K.lookup na = some ⟨.type "dict", none, .dict #[⟨PyData.keyHash w.params "H", .str "H" t1, .str "home" u1⟩, ⟨PyData.keyHash w.params "E", .str "E" t2, .str "end" u2⟩] nA, #[]⟩)
    (lNB : K.lookup nb = some ⟨.type "dict", none, .dict #[⟨PyData.keyHash w.params "D", .str "D" s1, .str "down" r1⟩, ⟨PyData.keyHash w.params "U", .str "U" s2, .str "up" r2⟩, ⟨PyData.keyHash w.params "R", .str "R" s3, .str "right" r3⟩, ⟨PyData.keyHash w.params "L", .str "L" s4, .str "left" r4⟩] nB, #[]⟩)
    (oNA : (na == sysModules) = false)
    (oNB : (nb == sysModules) = false) :
    ∃ fd : FuncData, (∀ (s : Shared) (v : Value), BindsTo s fd ⟨[v], []⟩ [("script", v)]) ∧ ∀ base : Heap, K.In base → base.Ns mainGlobals mg → FnOk l.prog w K mg base CX0 10 fa fd ["script"] (spLaw K) := by
  have e := hfa.symm.trans (PySem.W.mg_of X G a_law)
  cases e
  have F_show_commands := fun_mk (st := s_show_commands) l_show_commands c_show_commands k_show_commands
  have F_show_command := fun_mk (st := s_show_command) l_show_command c_show_command k_show_command
  have F_show_number := fun_mk (st := s_show_number) l_show_number c_show_number k_show_number
  have F_read_commands := fun_mk (st := s_read_commands) l_read_commands c_read_commands k_read_commands
  have F_read_command := fun_mk (st := s_read_command) l_read_command c_read_command k_read_command
  have F_is_number := fun_mk (st := s_is_number) l_is_number c_is_number k_is_number
  have F_is_count := fun_mk (st := s_is_count) l_is_count c_is_count k_is_count
  have F_is_command := fun_mk (st := s_is_command) l_is_command c_is_command k_is_command
  have F_check_commands := fun_mk (st := s_check_commands) l_check_commands c_check_commands k_check_commands
  have F_row_change := fun_mk (st := s_row_change) l_row_change c_row_change k_row_change
  have F_check_text := fun_mk (st := s_check_text) l_check_text c_check_text k_check_text
  have F_check_cursor := fun_mk (st := s_check_cursor) l_check_cursor c_check_cursor k_check_cursor
  have F_run := fun_mk (st := s_run) l_run c_run k_run
  have F_places := fun_mk (st := s_places) l_places c_places k_places
  have F_reach := fun_mk (st := s_reach) l_reach c_reach k_reach
  have F_shown_column := fun_mk (st := s_shown_column) l_shown_column c_shown_column k_shown_column
  have F_moved := fun_mk (st := s_moved) l_moved c_moved k_moved
  have F_new_goal := fun_mk (st := s_new_goal) l_new_goal c_new_goal k_new_goal
  have F_law_source := fun_mk (st := s_source) l_law_source c_law_source k_law_source
  have F_law_draw := fun_mk (st := s_sdraw) l_law_draw c_law_draw k_law_draw
  have F_law_same := fun_mk (st := s_same) l_law_same c_law_same k_law_same
  have F_law_number := fun_mk (st := s_number) l_law_number c_law_number k_law_number
  have F_law_command := fun_mk (st := s_command) l_law_command c_law_command k_law_command
  have F_law_text := fun_mk (st := s_text) l_law_text c_law_text k_law_text
  have F_law_cursor := fun_mk (st := s_cursor) l_law_cursor c_law_cursor k_law_cursor
  have F_law_commands := fun_mk (st := s_commands) l_law_commands c_law_commands k_law_commands
  have F_law_places := fun_mk (st := s_lplaces) l_law_places c_law_places k_law_places
  have F_law_is_kept := fun_mk (st := s_kept) l_law_is_kept c_law_is_kept k_law_is_kept
  have F_law := fun_mk (st := s_law) l_law c_law k_law
  have b_show_commands := F_show_commands.binds (ps := ["commands"]) fun _ _ _ _ _ _ us hl => match us, hl with | [_], _ => rfl
  have b_show_command := F_show_command.binds (ps := ["command"]) fun _ _ _ _ _ _ us hl => match us, hl with | [_], _ => rfl
  have b_show_number := F_show_number.binds (ps := ["number"]) fun _ _ _ _ _ _ us hl => match us, hl with | [_], _ => rfl
  have b_read_commands := F_read_commands.binds (ps := ["text"]) fun _ _ _ _ _ _ us hl => match us, hl with | [_], _ => rfl
  have b_read_command := F_read_command.binds (ps := ["word"]) fun _ _ _ _ _ _ us hl => match us, hl with | [_], _ => rfl
  have b_is_number := F_is_number.binds (ps := ["digits"]) fun _ _ _ _ _ _ us hl => match us, hl with | [_], _ => rfl
  have b_is_count := F_is_count.binds (ps := ["number"]) fun _ _ _ _ _ _ us hl => match us, hl with | [_], _ => rfl
  have b_is_command := F_is_command.binds (ps := ["command"]) fun _ _ _ _ _ _ us hl => match us, hl with | [_], _ => rfl
  have b_check_commands := F_check_commands.binds (ps := ["commands"]) fun _ _ _ _ _ _ us hl => match us, hl with | [_], _ => rfl
  have b_row_change := F_row_change.binds (ps := ["command"]) fun _ _ _ _ _ _ us hl => match us, hl with | [_], _ => rfl
  have b_check_text := F_check_text.binds (ps := ["text"]) fun _ _ _ _ _ _ us hl => match us, hl with | [_], _ => rfl
  have b_check_cursor := F_check_cursor.binds (ps := ["lines", "cursor"]) fun _ _ _ _ _ _ us hl => match us, hl with | [_, _], _ => rfl
  have b_run := F_run.binds (ps := ["text", "cursor", "commands"]) fun _ _ _ _ _ _ us hl => match us, hl with | [_, _, _], _ => rfl
  have b_places := F_places.binds (ps := ["text", "cursor", "commands"]) fun _ _ _ _ _ _ us hl => match us, hl with | [_, _, _], _ => rfl
  have b_reach := F_reach.binds (ps := ["commands"]) fun _ _ _ _ _ _ us hl => match us, hl with | [_], _ => rfl
  have b_shown_column := F_shown_column.binds (ps := ["length", "goal"]) fun _ _ _ _ _ _ us hl => match us, hl with | [_, _], _ => rfl
  have b_moved := F_moved.binds (ps := ["text", "cursor", "command"]) fun _ _ _ _ _ _ us hl => match us, hl with | [_, _, _], _ => rfl
  have b_new_goal := F_new_goal.binds (ps := ["length", "goal", "command"]) fun _ _ _ _ _ _ us hl => match us, hl with | [_, _, _], _ => rfl
  have b_law_source := F_law_source.binds (ps := ["script"]) fun _ _ _ _ _ _ us hl => match us, hl with | [_], _ => rfl
  have b_law_draw := F_law_draw.binds (ps := ["source", "many"]) fun _ _ _ _ _ _ us hl => match us, hl with | [_, _], _ => rfl
  have b_law_same := F_law_same.binds (ps := ["found", "wanted"]) fun _ _ _ _ _ _ us hl => match us, hl with | [_, _], _ => rfl
  have b_law_number := F_law_number.binds (ps := ["source"]) fun _ _ _ _ _ _ us hl => match us, hl with | [_], _ => rfl
  have b_law_command := F_law_command.binds (ps := ["source"]) fun _ _ _ _ _ _ us hl => match us, hl with | [_], _ => rfl
  have b_law_text := F_law_text.binds (ps := ["source", "most"]) fun _ _ _ _ _ _ us hl => match us, hl with | [_, _], _ => rfl
  have b_law_cursor := F_law_cursor.binds (ps := ["source", "sheet"]) fun _ _ _ _ _ _ us hl => match us, hl with | [_, _], _ => rfl
  have b_law_commands := F_law_commands.binds (ps := ["source", "many"]) fun _ _ _ _ _ _ us hl => match us, hl with | [_, _], _ => rfl
  have b_law_places := F_law_places.binds (ps := ["sheet", "spot", "moves"]) fun _ _ _ _ _ _ us hl => match us, hl with | [_, _, _], _ => rfl
  have b_law_is_kept := F_law_is_kept.binds (ps := ["note"]) fun _ _ _ _ _ _ us hl => match us, hl with | [_], _ => rfl
  refine ⟨PySem.W.fnOf "law" "law" (defArgs s_law) (defBody s_law) (defScope s_law) .none kV_law dc_law pm_law an_law cd_law ct_law, fun s v => .of_eq rfl, fun base hb gb => ?_⟩
  have TB : TxtB K mg wo wn := {
    g_WITHOUT_NUMBER := PySem.W.mg_of X G aWO
    g_WITH_NUMBER := PySem.W.mg_of X G aWN
    tWO := fun H => .inr ⟨_, _, _, lWO, rfl, rfl, (by show 2 ≤ sizeLine; decide), .cons ⟨_, rfl⟩ (.cons ⟨_, rfl⟩ .nil)⟩
    tWN := fun H => .inr ⟨_, _, _, lWN, rfl, rfl, (by show 4 ≤ sizeLine; decide), .cons ⟨_, rfl⟩ (.cons ⟨_, rfl⟩ (.cons ⟨_, rfl⟩ (.cons ⟨_, rfl⟩ .nil)))⟩
    isinstance := PySem.W.mg_none_of X G z_isinstance
    int := PySem.W.mg_none_of X G z_int
    bool := PySem.W.mg_none_of X G z_bool
    len := PySem.W.mg_none_of X G z_len
    enumerate := PySem.W.mg_none_of X G z_enumerate
    reversed := PySem.W.mg_none_of X G z_reversed
    sorted := PySem.W.mg_none_of X G z_sorted
    max := PySem.W.mg_none_of X G z_max
    min := PySem.W.mg_none_of X G z_min }
  have TD : TxtD mg := { max := PySem.W.mg_none_of X G z_max }
  have TS : TxtS mg := { isinstance := PySem.W.mg_none_of X G z_isinstance, bool := PySem.W.mg_none_of X G z_bool, int := PySem.W.mg_none_of X G z_int, str := PySem.W.mg_none_of X G z_str, list := PySem.W.mg_none_of X G z_list, tuple := PySem.W.mg_none_of X G z_tuple, len := PySem.W.mg_none_of X G z_len, range := PySem.W.mg_none_of X G z_range }
  have TSh : TxtSh mg := { range := PySem.W.mg_none_of X G z_range, len := PySem.W.mg_none_of X G z_len, int := PySem.W.mg_none_of X G z_int }
  have TW : TxtW mg := { str := PySem.W.mg_none_of X G z_str, len := PySem.W.mg_none_of X G z_len, divmod := PySem.W.mg_none_of X G z_divmod }
  have TV : TxtV mg := { str := PySem.W.mg_none_of X G z_str, len := PySem.W.mg_none_of X G z_len, int := PySem.W.mg_none_of X G z_int, range := PySem.W.mg_none_of X G z_range }
  have TLw : TxtL mg := { range := PySem.W.mg_none_of X G z_range, min := PySem.W.mg_none_of X G z_min, len := PySem.W.mg_none_of X G z_len }
  have C_is_count : Cal l.prog w K mg base 1 "is_count" spCount := ⟨_, _, _, ok_is_count F_is_count TB, PySem.W.mg_of X G a_is_count, k_is_count, b_is_count⟩
  have C_is_command : Cal l.prog w K mg base 2 "is_command" (spIsCmd K) := ⟨_, _, _, ok_is_command F_is_command TB C_is_count, PySem.W.mg_of X G a_is_command, k_is_command, b_is_command⟩
  have C_check_commands : Cal l.prog w K mg base 3 "check_commands" (spCheck K) := ⟨_, _, _, ok_check_commands F_check_commands TB C_is_command, PySem.W.mg_of X G a_check_commands, k_check_commands, b_check_commands⟩
  have C_row_change : Cal l.prog w K mg base 1 "row_change" (spRow K) := ⟨_, _, _, ok_row_change F_row_change, PySem.W.mg_of X G a_row_change, k_row_change, b_row_change⟩
  have C_check_text : Cal l.prog w K mg base 1 "check_text" (spText K) := ⟨_, _, _, ok_check_text F_check_text TB, PySem.W.mg_of X G a_check_text, k_check_text, b_check_text⟩
  have C_check_cursor : Cal l.prog w K mg base 1 "check_cursor" (spCursor K) := ⟨_, _, _, ok_check_cursor F_check_cursor, PySem.W.mg_of X G a_check_cursor, k_check_cursor, b_check_cursor⟩
  have C_shown_column : Cal l.prog w K mg base 1 "shown_column" spShown := ⟨_, _, _, ok_shown_column F_shown_column TB, PySem.W.mg_of X G a_shown_column, k_shown_column, b_shown_column⟩
  have C_new_goal : Cal l.prog w K mg base 2 "new_goal" (spGoal K) := ⟨_, _, _, ok_new_goal F_new_goal TB C_shown_column, PySem.W.mg_of X G a_new_goal, k_new_goal, b_new_goal⟩
  have C_moved : Cal l.prog w K mg base 3 "moved" (spMoved K) := ⟨_, _, _, ok_moved F_moved TB C_row_change C_new_goal, PySem.W.mg_of X G a_moved, k_moved, b_moved⟩
  have C_show_number : Cal l.prog w K mg base 1 "show_number" spShowN := ⟨_, _, _, ok_show_number F_show_number TW, PySem.W.mg_of X G a_show_number, k_show_number, b_show_number⟩
  have C_show_command : Cal l.prog w K mg base 2 "show_command" (spShow1 K) := ⟨_, _, _, ok_show_command F_show_command TW C_show_number, PySem.W.mg_of X G a_show_command, k_show_command, b_show_command⟩
  have C_show_commands : Cal l.prog w K mg base 3 "show_commands" (spShow K) := ⟨_, _, _, ok_show_commands F_show_commands C_show_command, PySem.W.mg_of X G a_show_commands, k_show_commands, b_show_commands⟩
  have T3 : OexC K C3 := { cls := ⟨nm3, q3, N3, bs3, _, sn3, sub3, ab3, col3, dd3, p3_0, p3_1, p3_2, p3_3, p3_5, x3, by show PySem.HandSPX.refsVE [.type "ValueError", .type "Exception", .type "BaseException", .type "object"] = true; decide +kernel⟩, sa := sa3, exC := be3, tyC := ty3, kC := kc3 }
  have V3 : ErrI K C3 := { cl := ic3, ga := ga3, gg := gg3, be := be3, hd := hd3, cc := cc3, gt := gt, tk := tk, ob := mo3, no := no3 }
  have e_Impossible : ErrC l.prog w K mg base "Impossible" C3 := errc_I3 (fun_mk (st := sI3) l3 c3 k3) T3 (PySem.W.mg_of X G a3) no3 in3 ti3
  have T6 : OexC K C6 := { cls := ⟨nm6, q6, N6, bs6, _, sn6, sub6, ab6, col6, dd6, p6_0, p6_1, p6_2, p6_3, p6_5, x6, by show PySem.HandSPX.refsVE [.type "ValueError", .type "Exception", .type "BaseException", .type "object"] = true; decide +kernel⟩, sa := sa6, exC := be6, tyC := ty6, kC := kc6 }
  have V6 : ErrI K C6 := { cl := ic6, ga := ga6, gg := gg6, be := be6, hd := hd6, cc := cc6, gt := gt, tk := tk, ob := mo6, no := no6 }
  have e_Unreadable : ErrC l.prog w K mg base "Unreadable" C6 := errc_I6 (fun_mk (st := sI6) l6 c6 k6) T6 (PySem.W.mg_of X G a6) no6 in6 ti6
  have TR := rd_mk (PySem.W.mg_of X G aNA) (PySem.W.mg_of X G aNB) (PySem.W.mg_of X G aMD) lNA lNB oNA oNB (PySem.W.mg_none_of X G z_int) (PySem.W.mg_none_of X G z_len) (PySem.W.mg_none_of X G z_all)
  have C_is_number : Cal l.prog w K mg base 1 "is_number" (spIsNum K) := ⟨_, _, _, ok_is_number F_is_number TR, PySem.W.mg_of X G a_is_number, k_is_number, b_is_number⟩
  have C_read_command : Cal l.prog w K mg base 2 "read_command" (spRead1 K) := ⟨_, _, _, ok_read_command F_read_command TR C_is_number, PySem.W.mg_of X G a_read_command, k_read_command, b_read_command⟩
  have X_is_number : Cal l.prog w K mg base 1 "is_number" spIsNumX := ⟨_, _, _, ok_is_numberX F_is_number TR, PySem.W.mg_of X G a_is_number, k_is_number, b_is_number⟩
  have X_read_command : Cal l.prog w K mg base 2 "read_command" (spRead1U K) := ⟨_, _, _, fnok_or2 (ok_read_command F_read_command TR C_is_number) (ok_read_commandN F_read_command TR (rd_no lNB) X_is_number), PySem.W.mg_of X G a_read_command, k_read_command, b_read_command⟩
  have X_read : CalX l.prog w K mg base 3 "read_commands" (zReadU K C6) := by
    rw [zReadU_eq]
    exact ⟨_, _, _, fnok_or2 (fnok_0x (ok_read_commands F_read_commands C_read_command)) (ok_read_commandsN F_read_commands X_read_command e_Unreadable), PySem.W.mg_of X G a_read_commands, k_read_commands, b_read_commands⟩
  have Z_read : Cal l.prog w K mg base 3 "read_commands" (zRead K) := by
    rw [zRead_eq]
    exact ⟨_, _, _, ok_read_commands F_read_commands C_read_command, PySem.W.mg_of X G a_read_commands, k_read_commands, b_read_commands⟩
  have Z_show : Cal l.prog w K mg base 3 "show_commands" (zShow K) := by
    rw [zShow_eq]
    exact ⟨_, _, _, ok_show_commands F_show_commands C_show_command, PySem.W.mg_of X G a_show_commands, k_show_commands, b_show_commands⟩
  have Z_reach : Cal l.prog w K mg base 4 "reach" (zReach K) := by
    rw [zReach_eq]
    exact ⟨_, _, _, ok_reach F_reach TB C_check_commands C_row_change, PySem.W.mg_of X G a_reach, k_reach, b_reach⟩
  have TI : TxtIm K mg C3 := ⟨PySem.W.mg_of X G a3, PySem.W.exm_ref be3 hd3 ty3 s3_3, V3⟩
  have TU : TxtUn K mg C6 := ⟨PySem.W.mg_of X G a6, PySem.W.exm_ref be6 hd6 ty6 s6_6, V6⟩
  have X_run : CalX l.prog w K mg base 4 "run" (zRunI K C3) := by
    rw [zRunI_eq]
    exact ⟨_, _, _, ok_runI F_run TB C_check_text C_check_cursor C_check_commands C_moved e_Impossible, PySem.W.mg_of X G a_run, k_run, b_run⟩
  have G_places : GCal l.prog w K mg base 5 "places" (spPlacesI K C3) := ⟨_, _, _, ok_placesI F_places X_run C_moved, PySem.W.mg_of X G a_places, k_places, b_places⟩
  have C_law_source : Cal l.prog w K mg base 1 "_law_source" (spSource K) := ⟨_, _, _, ok_source F_law_source TD, PySem.W.mg_of X G a_law_source, k_law_source, b_law_source⟩
  have C_law_draw : Cal l.prog w K mg base 1 "_law_draw" spDraw := ⟨_, _, _, ok_draw F_law_draw, PySem.W.mg_of X G a_law_draw, k_law_draw, b_law_draw⟩
  have C_law_number : Cal l.prog w K mg base 2 "_law_number" spNumber := ⟨_, _, _, ok_number F_law_number C_law_draw, PySem.W.mg_of X G a_law_number, k_law_number, b_law_number⟩
  have C_law_command : Cal l.prog w K mg base 3 "_law_command" (spCommand K) := ⟨_, _, _, ok_command F_law_command C_law_draw C_law_number, PySem.W.mg_of X G a_law_command, k_law_command, b_law_command⟩
  have C_law_text : Cal l.prog w K mg base 2 "_law_text" (spSheet K) := ⟨_, _, _, ok_sheet F_law_text TSh C_law_draw, PySem.W.mg_of X G a_law_text, k_law_text, b_law_text⟩
  have C_law_cursor : Cal l.prog w K mg base 2 "_law_cursor" (spCurs K) := ⟨_, _, _, ok_curs F_law_cursor TSh C_law_draw, PySem.W.mg_of X G a_law_cursor, k_law_cursor, b_law_cursor⟩
  have C_law_commands : Cal l.prog w K mg base 4 "_law_commands" (spCommands K) := ⟨_, _, _, ok_commands F_law_commands TV C_law_draw C_law_command, PySem.W.mg_of X G a_law_commands, k_law_commands, b_law_commands⟩
  have C_law_is_kept : Cal l.prog w K mg base 4 "_law_is_kept" spKept := ⟨_, _, _, ok_kept F_law_is_kept TU X_read C_show_commands, PySem.W.mg_of X G a_law_is_kept, k_law_is_kept, b_law_is_kept⟩
  have Z_places : Cal l.prog w K mg base 9 "_law_places" (zLPlaces K) := by
    rw [zLPlaces_eq]
    exact ⟨_, _, _, ok_lplaces F_law_places TI (PySem.W.mg_none_of X G z_list) ns3 G_places, PySem.W.mg_of X G a_law_places, k_law_places, b_law_places⟩
  have S_0 : Cal l.prog w K mg base 1 "_law_same" (spSame K 0) := ⟨_, _, _, ok_same0 F_law_same, PySem.W.mg_of X G a_law_same, k_law_same, b_law_same⟩
  have S_1 : Cal l.prog w K mg base 2 "_law_same" (spSame K 1) := ⟨_, _, _, ok_sameS F_law_same TS S_0, PySem.W.mg_of X G a_law_same, k_law_same, b_law_same⟩
  have S_2 : Cal l.prog w K mg base 3 "_law_same" (spSame K 2) := ⟨_, _, _, ok_sameS F_law_same TS S_1, PySem.W.mg_of X G a_law_same, k_law_same, b_law_same⟩
  have S_3 : Cal l.prog w K mg base 4 "_law_same" (spSame K 3) := ⟨_, _, _, ok_sameS F_law_same TS S_2, PySem.W.mg_of X G a_law_same, k_law_same, b_law_same⟩
  have S_4 : Cal l.prog w K mg base 5 "_law_same" (spSame K 4) := ⟨_, _, _, ok_sameS F_law_same TS S_3, PySem.W.mg_of X G a_law_same, k_law_same, b_law_same⟩
  have S_5 : Cal l.prog w K mg base 6 "_law_same" (spSame K 5) := ⟨_, _, _, ok_sameS F_law_same TS S_4, PySem.W.mg_of X G a_law_same, k_law_same, b_law_same⟩
  have Z_same : Cal l.prog w K mg base 6 "_law_same" (zSame5 K) := by
    rw [zSame5_eq]
    exact S_5
  exact ok_law F_law TLw C_law_source C_law_draw C_law_text C_law_cursor C_law_commands Z_show Z_read Z_same Z_reach Z_places C_law_is_kept
theorem walk {l : PySem.W.OpenLaw} {q : Program} {loose : List Str} {XP : (Str → Option Value) → Heap → Prop} {YP : World → Heap → Prop} {d : DefRec} {K : Params → PySem.W.Frag} (hn : l.most = some 63) (hdf : d.params.defaults = [])
    (hY : ∀ (w : World) (h : Heap), YP w h → (K w.params).In h)
    (F : ∀ (w : World) (mg : Str → Option Value) (fa : Addr) (h : Heap), (K w.params).In h → h.Ns mainGlobals mg → mg d.name = some (.ref fa) →
      ∃ fd : FuncData, (∀ (s : Shared) (u : Value), BindsTo s fd ⟨[u], []⟩ [("script", u)]) ∧ ∀ base : Heap, (K w.params).In base → base.Ns mainGlobals mg → FnOk l.prog w (K w.params) mg base CX0 10 fa fd ["script"] (spLaw (K w.params))) :
    PySem.W.WalkO q loose XP YP l.row.toRowW d [] (fun f vs => PySem.call f vs) :=
  L2.walk_of (n := 63) (k := 10) (x := "script") (CX := fun _ => CX0) (sp := fun w => spLaw (K w.params)) hn (by decide) hdf ⟨rfl, by decide, by decide⟩ hY F (fun _ _ a ns hl _ hS => ⟨a, ns, rfl, hS, hl, fun _ => rfl⟩) fun _ _ _ _ _ z => z
end Gc

open PySem PySem.W PyProof.Rows in
set_option maxRecDepth 100000 in
set_option maxHeartbeats 0 in
theorem PySem.Challenge.cw_goalcolumn_k43_whole_texts_and_cursors_holds : PySem.Challenge.rw_goalcolumn_k43_whole_texts_and_cursors.Holds := by
  w_on; o_law; k_head; (case hw => w_witness2)
  k_fill
  refine Gc.walk (l := PySem.Challenge.rw_goalcolumn_k43_whole_texts_and_cursors) rfl rfl (fun w h Y => PySem.W.kIn_of Y) ?F
  case F =>
    intro w mg fa h KX G hmg
    refine' Gc.all_mk KX G hmg ?aWN ?aWO ?lWN ?lWO ?a_show_commands ?l_show_commands ?c_show_commands ?k_show_commands ?a_show_command ?l_show_command ?c_show_command ?k_show_command ?a_show_number ?l_show_number ?c_show_number ?k_show_number ?a_read_commands ?l_read_commands ?c_read_commands ?k_read_commands ?a_read_command ?l_read_command ?c_read_command ?k_read_command ?a_is_number ?l_is_number ?c_is_number ?k_is_number ?a_is_count ?l_is_count ?c_is_count ?k_is_count ?a_is_command ?l_is_command ?c_is_command ?k_is_command ?a_check_commands ?l_check_commands ?c_check_commands ?k_check_commands ?a_row_change ?l_row_change ?c_row_change ?k_row_change ?a_check_text ?l_check_text ?c_check_text ?k_check_text ?a_check_cursor ?l_check_cursor ?c_check_cursor ?k_check_cursor ?a_run ?l_run ?c_run ?k_run ?a_places ?l_places ?c_places ?k_places ?a_reach ?l_reach ?c_reach ?k_reach ?a_shown_column ?l_shown_column ?c_shown_column ?k_shown_column ?a_moved ?l_moved ?c_moved ?k_moved ?a_new_goal ?l_new_goal ?c_new_goal ?k_new_goal ?a_law_source ?l_law_source ?c_law_source ?k_law_source ?a_law_draw ?l_law_draw ?c_law_draw ?k_law_draw ?a_law_same ?l_law_same ?c_law_same ?k_law_same ?a_law_number ?l_law_number ?c_law_number ?k_law_number ?a_law_command ?l_law_command ?c_law_command ?k_law_command ?a_law_text ?l_law_text ?c_law_text ?k_law_text ?a_law_cursor ?l_law_cursor ?c_law_cursor ?k_law_cursor ?a_law_commands ?l_law_commands ?c_law_commands ?k_law_commands ?a_law_places ?l_law_places ?c_law_places ?k_law_places ?a_law_is_kept ?l_law_is_kept ?c_law_is_kept ?k_law_is_kept ?a_law ?l_law ?c_law ?k_law ?z_isinstance ?z_int ?z_bool ?z_len ?z_enumerate ?z_reversed ?z_sorted ?z_max ?z_min ?z_range ?z_list ?z_str ?z_tuple ?z_divmod ?z_all ?aE ?yE ?bE ?hE ?icE ?gt ?tk ?a0 ?ty0 ?ic0 ?a1 ?ty1 ?ic1 ?a2 ?ty2 ?ic2 ?a3 ?ty3 ?ic3 ?x3 ?sa3 ?ga3 ?gg3 ?no3 ?cc3 ?in3 ?ti3 ?l3 ?c3 ?k3 ?kc3 ?be3 ?ve3 ?hd3 ?mo3 ?se3 ?a6 ?ty6 ?ic6 ?x6 ?sa6 ?ga6 ?gg6 ?no6 ?cc6 ?in6 ?ti6 ?l6 ?c6 ?k6 ?kc6 ?be6 ?ve6 ?hd6 ?mo6 ?se6 ?s3_0 ?s3_1 ?s3_2 ?s3_3 ?s3_6 ?s6_0 ?s6_1 ?s6_2 ?s6_3 ?s6_6 ?ns3 ?aNA ?aNB ?aMD ?lNA ?lNB ?oNA ?oNB
    (case aWN => k_is)
    (case aWO => k_is)
    (case lWN => k_is)
    (case lWO => k_is)
    (case a_show_commands => k_is)
    (case l_show_commands => k_is)
    (case c_show_commands => k_is)
    (case k_show_commands => k_is)
    (case a_show_command => k_is)
    (case l_show_command => k_is)
    (case c_show_command => k_is)
    (case k_show_command => k_is)
    (case a_show_number => k_is)
    (case l_show_number => k_is)
    (case c_show_number => k_is)
    (case k_show_number => k_is)
    (case a_read_commands => k_is)
    (case l_read_commands => k_is)
    (case c_read_commands => k_is)
    (case k_read_commands => k_is)
    (case a_read_command => k_is)
    (case l_read_command => k_is)
    (case c_read_command => k_is)
    (case k_read_command => k_is)
    (case a_is_number => k_is)
    (case l_is_number => k_is)
    (case c_is_number => k_is)
    (case k_is_number => k_is)
    (case a_is_count => k_is)
    (case l_is_count => k_is)
    (case c_is_count => k_is)
    (case k_is_count => k_is)
    (case a_is_command => k_is)
    (case l_is_command => k_is)
    (case c_is_command => k_is)
    (case k_is_command => k_is)
    (case a_check_commands => k_is)
    (case l_check_commands => k_is)
    (case c_check_commands => k_is)
    (case k_check_commands => k_is)
    (case a_row_change => k_is)
    (case l_row_change => k_is)
    (case c_row_change => k_is)
    (case k_row_change => k_is)
    (case a_check_text => k_is)
    (case l_check_text => k_is)
    (case c_check_text => k_is)
    (case k_check_text => k_is)
    (case a_check_cursor => k_is)
    (case l_check_cursor => k_is)
    (case c_check_cursor => k_is)
    (case k_check_cursor => k_is)
    (case a_run => k_is)
    (case l_run => k_is)
    (case c_run => k_is)
    (case k_run => k_is)
    (case a_places => k_is)
    (case l_places => k_is)
    (case c_places => k_is)
    (case k_places => k_is)
    (case a_reach => k_is)
    (case l_reach => k_is)
    (case c_reach => k_is)
    (case k_reach => k_is)
    (case a_shown_column => k_is)
    (case l_shown_column => k_is)
    (case c_shown_column => k_is)
    (case k_shown_column => k_is)
    (case a_moved => k_is)
    (case l_moved => k_is)
    (case c_moved => k_is)
    (case k_moved => k_is)
    (case a_new_goal => k_is)
    (case l_new_goal => k_is)
    (case c_new_goal => k_is)
    (case k_new_goal => k_is)
    (case a_law_source => k_is)
    (case l_law_source => k_is)
    (case c_law_source => k_is)
    (case k_law_source => k_is)
    (case a_law_draw => k_is)
    (case l_law_draw => k_is)
    (case c_law_draw => k_is)
    (case k_law_draw => k_is)
    (case a_law_same => k_is)
    (case l_law_same => k_is)
    (case c_law_same => k_is)
    (case k_law_same => k_is)
    (case a_law_number => k_is)
    (case l_law_number => k_is)
    (case c_law_number => k_is)
    (case k_law_number => k_is)
    (case a_law_command => k_is)
    (case l_law_command => k_is)
    (case c_law_command => k_is)
    (case k_law_command => k_is)
    (case a_law_text => k_is)
    (case l_law_text => k_is)
    (case c_law_text => k_is)
    (case k_law_text => k_is)
    (case a_law_cursor => k_is)
    (case l_law_cursor => k_is)
    (case c_law_cursor => k_is)
    (case k_law_cursor => k_is)
    (case a_law_commands => k_is)
    (case l_law_commands => k_is)
    (case c_law_commands => k_is)
    (case k_law_commands => k_is)
    (case a_law_places => k_is)
    (case l_law_places => k_is)
    (case c_law_places => k_is)
    (case k_law_places => k_is)
    (case a_law_is_kept => k_is)
    (case l_law_is_kept => k_is)
    (case c_law_is_kept => k_is)
    (case k_law_is_kept => k_is)
    (case a_law => k_is)
    (case l_law => k_is)
    (case c_law => k_is)
    (case k_law => k_is)
    (case z_isinstance => k_is)
    (case z_int => k_is)
    (case z_bool => k_is)
    (case z_len => k_is)
    (case z_enumerate => k_is)
    (case z_reversed => k_is)
    (case z_sorted => k_is)
    (case z_max => k_is)
    (case z_min => k_is)
    (case z_range => k_is)
    (case z_list => k_is)
    (case z_str => k_is)
    (case z_tuple => k_is)
    (case z_divmod => k_is)
    (case z_all => k_is)
    (case aE => k_is)
    (case yE => k_is)
    (case bE => k_is)
    (case hE => k_is)
    (case icE => k_is)
    (case gt => k_is)
    (case tk => k_is)
    (case a0 => k_is)
    (case ty0 => k_is)
    (case ic0 => k_is)
    (case a1 => k_is)
    (case ty1 => k_is)
    (case ic1 => k_is)
    (case a2 => k_is)
    (case ty2 => k_is)
    (case ic2 => k_is)
    (case a3 => k_is)
    (case ty3 => k_is)
    (case ic3 => k_is)
    (case x3 => k_is)
    (case sa3 => k_is)
    (case ga3 => k_is)
    (case gg3 => k_is)
    (case no3 => k_is)
    (case cc3 => k_is)
    (case in3 => k_is)
    (case ti3 => k_is)
    (case l3 => k_is)
    (case c3 => k_is)
    (case k3 => k_is)
    (case kc3 => k_is)
    (case be3 => k_is)
    (case ve3 => k_is)
    (case hd3 => k_is)
    (case mo3 => k_is)
    (case se3 => k_is)
    (case a6 => k_is)
    (case ty6 => k_is)
    (case ic6 => k_is)
    (case x6 => k_is)
    (case sa6 => k_is)
    (case ga6 => k_is)
    (case gg6 => k_is)
    (case no6 => k_is)
    (case cc6 => k_is)
    (case in6 => k_is)
    (case ti6 => k_is)
    (case l6 => k_is)
    (case c6 => k_is)
    (case k6 => k_is)
    (case kc6 => k_is)
    (case be6 => k_is)
    (case ve6 => k_is)
    (case hd6 => k_is)
    (case mo6 => k_is)
    (case se6 => k_is)
    (case s3_0 => k_is)
    (case s3_1 => k_is)
    (case s3_2 => k_is)
    (case s3_3 => k_is)
    (case s3_6 => k_is)
    (case s6_0 => k_is)
    (case s6_1 => k_is)
    (case s6_2 => k_is)
    (case s6_3 => k_is)
    (case s6_6 => k_is)
    (case ns3 => k_is)
    (case aNA => k_is)
    (case aNB => k_is)
    (case aMD => k_is)
    (case lNA => k_is)
    (case lNB => k_is)
    (case oNA => rfl)
    (case oNB => rfl)
