import PyProof.Rows.All
import Wide.All
import OpenK.AllK
import Wide.FinOn
import HandS.Comp
import HandS.Iter
import HandS.Dict
import HandS.Flow
import HandS.Rev
import HandS.Walk
import HandS.WordsList
import HandS.WordsDict
import HandS.IsInst
import HandS.Wide
import HandS.Codes
import HandS.Style
import KE.SortData
import HandS.Base
import HandS.Call
import HandS.List
import HandS.Words
import HandS.DictTup
import PyProof.RulesMatch
import HandS.Text
import HandS.StrMore
import HandS.Exc
import HandS.ExcOwn
import HandS.ExcInit
import HandS.ExcField
import HandS.WordsExc
import HandS.HotCalls
import KE.KIsAll
import KE.KExcIs
import HandS.Property
import HandS.Defaults
import HandS.TryOnly
import KE.KDictCopyH
import HandS.Sort
import HandS.FltList
import HandS.SortRule
import HandS.Conv
import HandS.SetKeys
import HandS.More
import HandS.SetFor
import HandS.Strs
import HandS.Deep
import HandS.ExcIs
import PySem.Challenge.RW_goalcolumn_k18_hidden_forms_learned
set_option Elab.async false
set_option linter.all false
set_option maxRecDepth 100000
set_option maxHeartbeats 4000000
namespace Gc
open PySem PyProof.Rows L2
/-! ### heaps: all that stood but at two places -/
def Keep (a d : Addr) (H H' : Hp) : Prop := ∀ b o, b ≠ a → b ≠ d → H b = some o → H' b = some o
theorem Keep.refl {a d : Addr} (H : Hp) : Keep a d H H := fun _ _ _ _ h => h
theorem Keep.trans {a d : Addr} {H H1 H2 : Hp} (x : Keep a d H H1) (y : Keep a d H1 H2) : Keep a d H H2 := fun b o h1 h2 h => y b o h1 h2 (x b o h1 h2 h)
theorem Keep.of {a d : Addr} {H H' : Hp} (e : Same H H') : Keep a d H H' := fun b o _ _ h => e b o h
theorem same_upd {H H' : Hp} {p : Addr} {o : HO} (e : Same H H') (h : H' p = none) : Same H (upd H' p o) := fun b u hb => by
  rw [upd_ne (ne_of_none (e b u hb) h)]
  exact e b u hb
theorem Keep.upd1 {a d : Addr} {H H' : Hp} {o : HO} (e : Keep a d H H') : Keep a d H (upd H' a o) := fun b u h1 h2 h => by
  rw [upd_ne h1]
  exact e b u h1 h2 h
theorem Keep.upd2 {a d : Addr} {H H' : Hp} {o : HO} (e : Keep a d H H') : Keep a d H (upd H' d o) := fun b u h1 h2 h => by
  rw [upd_ne h2]
  exact e b u h1 h2 h
theorem Keep.new {a d p : Addr} {H H' : Hp} {o : HO} (e : Keep a d H H') (h : H' p = none) : Keep a d H (upd H' p o) := fun b u h1 h2 hb => by
  rw [upd_ne (ne_of_none (e b u h1 h2 hb) h)]
  exact e b u h1 h2 hb

theorem cpow {i j : Int} (h : (decide (0 ≤ j) && (decide (j ≤ 1000000) && decide (i.natAbs < 2 ^ 64))) = true) : CPow i j := by
  rw [Bool.and_eq_true, Bool.and_eq_true] at h
  exact ⟨of_decide_eq_true h.1, of_decide_eq_true h.2.1, of_decide_eq_true h.2.2⟩
theorem pow_small {x : Int} {a k b : Nat} (h : x.natAbs < 2 ^ a) (hb : a * k < b) : (x ^ k).natAbs < 2 ^ b := by
  rw [Int.natAbs_pow]
  have h1 : x.natAbs ^ k ≤ (2 ^ a) ^ k := Nat.pow_le_pow_left (Nat.le_of_lt h) k
  rw [← Nat.pow_mul] at h1
  exact Nat.lt_of_le_of_lt h1 (Nat.pow_lt_pow_right (by decide) hb)
theorem int_at {ns : List Int} {i : Nat} {y : V} (h : (ns.map V.int)[i]? = some y) : ∃ u, y = V.int u := by
  rw [List.getElem?_map] at h
  cases e : ns[i]? with
  | none =>
    rw [e] at h
    cases h
  | some u =>
    rw [e] at h
    exact ⟨u, (Option.some.inj h).symm⟩
theorem dp_ints {K : PySem.W.Frag} {H : Hp} : ∀ ns : List Int, DpAll K H (ns.map V.int) (ns.map PyData.int)
  | [] => .nil
  | x :: r => .cons (.int x) (dp_ints r)
/-- a def that is called by its name and lets nothing out -/
structure Cal (P : Program) (w : World) (K : PySem.W.Frag) (mg : Str → Option Value) (base : Heap) (k : Nat) (x : Str) (sp : Sp) : Prop where
  ex : ∃ (f : Addr) (fd : FuncData) (ps : List Str), FnOk P w K mg base CX0 k f fd ps sp ∧
    mg x = some (.ref f) ∧ PySem.W.keepIn K (.ref f) = true ∧ Binds K fd ps []
theorem pe_cal {X : Cx} {k j : Nat} {x : Str} {sp : Sp} {p pos : Pos} {e : Expr} {es : List Expr} {t : TA}
    (c : Cal X.prog X.w X.K X.mg X.base k x sp) (hr : Room j X.A) (hk : k ≤ j) (hg : Gl X x) (ha : PA X (e :: es) t)
    (hdb : (x == ("__debug__" : Str)) = false := by decide)
    (he : starEach (e :: es) X.env = (false, eval e X.env) :: starEach es X.env := by rfl)
    (hpl : (backTo pos (starEach es X.env)).any (·.1) = false := by rfl) :
    PE X (.Call (.Name x p) (e :: es) [] pos) (tCall sp [] E0 t) := by
  obtain ⟨f, fd, ps, F, hm, kp, b⟩ := c.ex
  exact pe_call F (hr.mono hk) hg hm kp b .nil pass0 ha hdb he hpl

/-! ### data carried along -/
theorem seq_t {K : PySem.W.Frag} {H H' : Hp} {a : Addr} {xs : List V} (e : Same H H') (h : SqT K H a xs) : SqT K H' a xs := by
  rcases h with (h | ⟨o, h⟩) | h
  · exact .inl (.inl (e _ _ h))
  · exact .inl (.inr ⟨o, e _ _ h⟩)
  · exact .inr h
mutual
theorem dp_same {K : PySem.W.Frag} {H H' : Hp} (e : Same H H') : ∀ (d : PyData) (v : V), Dp K H v d → Dp K H' v d
  | .none, _, h => by cases h; exact .non
  | .bool b, _, h => by cases h; exact .bl b
  | .int i, _, h => by cases h; exact .int i
  | .str x, _, h => by cases h; exact .str x
  | .list ds, _, h => by
    cases h with
    | lst q r => exact .lst (e.seq q) (dps_same e ds _ r)
  | .tuple ds, _, h => by
    cases h with
    | tup q r => exact .tup (seq_t e q) (dps_same e ds _ r)
  | .dict _, _, h => by cases h
theorem dps_same {K : PySem.W.Frag} {H H' : Hp} (e : Same H H') : ∀ (ds : List PyData) (vs : List V), DpAll K H vs ds → DpAll K H' vs ds
  | [], _, h => by cases h; exact .nil
  | d :: ds, _, h => by
    cases h with
    | cons a b => exact .cons (dp_same e d _ a) (dps_same e ds _ b)
end
theorem dps_len {K : PySem.W.Frag} {H : Hp} : ∀ {vs : List V} {ds : List PyData}, DpAll K H vs ds → vs.length = ds.length
  | [], _, h => by cases h; rfl
  | _ :: vs, _, h => by
    cases h with
    | cons a b => rw [List.length_cons, List.length_cons, dps_len b]
theorem dps_at {K : PySem.W.Frag} {H : Hp} : ∀ {vs : List V} {ds : List PyData} {i : Nat}, DpAll K H vs ds → i < ds.length → ∃ v d, vs[i]? = some v ∧ ds[i]? = some d ∧ Dp K H v d
  | _, _, 0, h, l => by
    cases h with
    | nil => exact absurd l (by decide)
    | cons a b => exact ⟨_, _, rfl, rfl, a⟩
  | _, _, i + 1, h, l => by
    cases h with
    | nil => exact absurd l (Nat.not_lt_zero _)
    | cons a b => exact dps_at (i := i) b (Nat.lt_of_succ_lt_succ l)
theorem depth_at : ∀ {ds : List PyData} {i : Nat} {d : PyData}, ds[i]? = some d → d.depth ≤ PyData.depthAll ds
  | [], i, d, h => by simp at h
  | x :: r, 0, d, h => by
    have e : x = d := Option.some.inj h
    subst e
    simp only [PyData.depthAll]
    exact Nat.le_max_left _ _
  | x :: r, i + 1, d, h => by
    have ih := depth_at (ds := r) (i := i) (d := d) h
    simp only [PyData.depthAll]
    exact Nat.le_trans ih (Nat.le_max_right _ _)
theorem ty_l {K : PySem.W.Frag} {H : Hp} {a : Addr} {xs : List V} (h : SqL K H a xs) : TyX K H (.ref a) (.type "list") := by
  rcases h with (h | ⟨o, h⟩) | h
  · exact .base (.lst h)
  · exact .base (.frz h)
  · obtain ⟨o, its, n, e, c, _⟩ := h
    exact .kList e c
theorem ty_t {K : PySem.W.Frag} {H : Hp} {a : Addr} {xs : List V} (h : SqT K H a xs) : TyX K H (.ref a) (.type "tuple") := by
  rcases h with (h | ⟨o, h⟩) | h
  · exact .base (.tup h)
  · exact .fTuple h
  · obtain ⟨o, its, n, e, c, _⟩ := h
    exact .kTuple e c
theorem isi_q {K : PySem.W.Frag} {H : Hp} {x : V} {t n : String} {b : Bool} {Q : VK} (ty : TyX K H x (.type t)) (k : kitB t n = some b) (q : Q (.bl b) H) : rIsi K [x, .ty n] H Q :=
  ⟨x, .ty n, .type t, .type n, b, rfl, .ty n, ty, kit_ty k, q⟩
theorem log9 {x : Int} {a : Nat} (h : x.natAbs < 2 ^ a) (ha : a < 9000) : x.natAbs.log2 < 9000 :=
  Nat.lt_of_le_of_lt (Nat.le_of_lt_succ (PySem.Flt.log2_lt_of (k := a + 1) (Nat.succ_pos _) (Nat.lt_trans h (Nat.pow_lt_pow_right (by decide) (Nat.lt_succ_self a))))) ha
/-- a power of any whole number, its size told -/
def CPowW (i j : Int) : Prop := 0 ≤ j ∧ j ≤ 64 ∧ i.natAbs.log2 < 100000
theorem op_powW {X : Cx} : OpR X (binaryOp .Pow) (rI CPowW fun i j => .int (i ^ j.toNat)) := opI fun i j _ _ _ _ _ hc q => by
  refine pow_int hc.1 ?_ q
  have h1 : Builtin.Int.intBits i ≤ i.natAbs.log2 + 1 := by
    unfold Builtin.Int.intBits
    split <;> omega
  have h2 := hc.2.1
  have h3 := hc.2.2
  have h4 : (Builtin.Int.intBits i : Int) ≤ 100000 := by omega
  calc (Builtin.Int.intBits i : Int) * j ≤ 100000 * 64 := Int.mul_le_mul h4 h2 hc.1 (by decide)
    _ ≤ 2 ^ 27 := by decide
theorem cpowW {i j : Int} {a : Nat} (hj : 0 ≤ j) (hj2 : j ≤ 64) (h : i.natAbs < 2 ^ a) (ha : a < 100000) : CPowW i j :=
  ⟨hj, hj2, Nat.lt_of_le_of_lt (Nat.le_of_lt_succ (PySem.Flt.log2_lt_of (k := a + 1) (Nat.succ_pos _) (Nat.lt_trans h (Nat.pow_lt_pow_right (by decide) (Nat.lt_succ_self a))))) ha⟩
def rLenQ (K : PySem.W.Frag) : List V → Hp → VK → Prop := fun xs H Q => ∃ p ys, xs = [.ref p] ∧ (SqL K H p ys ∨ SqT K H p ys) ∧ Q (.int ys.length) H
end Gc

/-! boxes of lists of commands: what the program reckons, over plain lists; and the laws of it -/
namespace Gc
inductive Cmd where
  | down (n : Int) | up (n : Int) | right (n : Int) | left (n : Int) | home | stop
  deriving DecidableEq
def Cmd.dv : Cmd → Int
  | .down n => n
  | .up n => -n
  | _ => 0
def Cmd.ok : Cmd → Prop
  | .down n => 1 ≤ n
  | .up n => 1 ≤ n
  | .right n => 1 ≤ n
  | .left n => 1 ≤ n
  | _ => True
def last (cs : List Cmd) : Int := (cs.map Cmd.dv).sum
abbrev Ps := List (Int × Int)
def leK (p q : Int × Int) : Bool := decide (p.1 < q.1 ∨ (p.1 = q.1 ∧ p.2 ≤ q.2))
def look (b : Ps) (k : Int) : Option Int := (b.find? fun q => q.1 = k).map (·.2)
def put (b : Ps) (k v : Int) : Ps := if b.any (fun q => q.1 = k) then b.map (fun q => if q.1 = k then (q.1, v) else q) else b ++ [(k, v)]
def mx (i j : Int) : Int := if j > i then j else i
def req (b : Ps) (o v : Int) : Ps := put b o (mx v ((look b o).getD v))
def go : List Cmd → Int → Int → Ps → Option (Option Int × Ps)
  | [], _, need, b => some (some need, b)
  | .home :: _, _, _, _ => none
  | .stop :: _, _, _, b => some (none, b)
  | .right n :: r, off, need, b => if need > n then go r off (need - n) (req b off need) else some (none, req b off need)
  | .left n :: r, off, need, b => go r off (need + n) (req b off (need + n))
  | .down n :: r, off, need, b => go r (off - n) need b
  | .up n :: r, off, need, b => go r (off + n) need b
def srt (x : Option Int × Ps) : Option Int × Ps := (x.1, x.2.mergeSort leK)
def boxM (cs : List Cmd) (goal : Int) : Option (Option Int × Ps) := (go cs.reverse (last cs) goal []).map srt

/-! ### association lists as functions -/
def val (b : Ps) (k : Int) : Int := (look b k).getD 0
def keys (b : Ps) : List Int := b.map (·.1)
structure Good (b : Ps) : Prop where
  nd : (keys b).Nodup
  pos : ∀ q ∈ b, 1 ≤ q.2
theorem good_nil : Good [] := ⟨List.nodup_nil, fun _ h => nomatch h⟩
theorem look_nil (k : Int) : look [] k = none := rfl
theorem look_cons (q : Int × Int) (b : Ps) (k : Int) : look (q :: b) k = if q.1 = k then some q.2 else look b k := by
  unfold look
  rw [List.find?_cons]
  by_cases h : q.1 = k
  · simp [h]
  · simp [h]
theorem look_none {b : Ps} {k : Int} : look b k = none ↔ k ∉ keys b := by
  induction b with
  | nil => simp [look, keys]
  | cons q b ih =>
    rw [look_cons]
    by_cases h : q.1 = k
    · rw [if_pos h]
      simp [keys, h]
    · rw [if_neg h, ih]
      simp only [keys, List.map_cons, List.mem_cons, not_or]
      exact ⟨fun x => ⟨fun e => h e.symm, x⟩, fun x => x.2⟩
theorem look_mem {b : Ps} {k v : Int} (h : look b k = some v) : (k, v) ∈ b := by
  induction b with
  | nil => cases h
  | cons q b ih =>
    rw [look_cons] at h
    by_cases e : q.1 = k
    · rw [if_pos e] at h
      have e2 := Option.some.inj h
      rw [← e, ← e2]
      exact List.mem_cons_self
    · rw [if_neg e] at h
      exact List.mem_cons_of_mem _ (ih h)
theorem mem_look {b : Ps} {q : Int × Int} (n : (keys b).Nodup) (h : q ∈ b) : look b q.1 = some q.2 := by
  induction b with
  | nil => cases h
  | cons p b ih =>
    have n' : p.1 ∉ keys b ∧ (keys b).Nodup := List.nodup_cons.mp n
    rw [look_cons]
    rcases List.mem_cons.mp h with e | h
    · rw [e, if_pos rfl]
    · have ne : p.1 ≠ q.1 := fun e => n'.1 (by rw [e]; exact List.mem_map.mpr ⟨q, h, rfl⟩)
      rw [if_neg ne]
      exact ih n'.2 h
theorem any_key (b : Ps) (k : Int) : b.any (fun q => q.1 = k) = true ↔ k ∈ keys b := by
  simp [keys, List.any_eq_true]
theorem look_put (b : Ps) (k v j : Int) : look (put b k v) j = if k = j then some v else look b j := by
  unfold put
  by_cases h : b.any (fun q => q.1 = k) = true
  · rw [if_pos h]
    induction b with
    | nil => simp at h
    | cons q b ih =>
      rw [List.map_cons, look_cons, look_cons]
      by_cases e : q.1 = k
      · rw [if_pos e]
        by_cases e2 : k = j
        · simp [e, e2]
        · simp only [e, e2, if_false]
          by_cases hb : b.any (fun q => q.1 = k) = true
          · rw [ih hb, if_neg e2]
          · have nm : ∀ p ∈ b, ¬ p.1 = k := fun p hp z => hb (List.any_eq_true.mpr ⟨p, hp, by simpa using z⟩)
            have em : b.map (fun q => if q.1 = k then (q.1, v) else q) = b := by
              conv => rhs; rw [← List.map_id b]
              exact List.map_congr_left fun p hp => by simp [nm p hp]
            rw [em]
      · rw [if_neg e]
        have hb : b.any (fun q => q.1 = k) = true := by
          rw [List.any_cons] at h
          simpa [e] using h
        by_cases e2 : q.1 = j
        · have e3 : ¬ k = j := fun z => e (e2.trans z.symm)
          simp [e2, e3]
        · simp only [e2, if_false]
          exact ih hb
  · rw [if_neg h]
    have nk : k ∉ keys b := fun z => h ((any_key b k).mpr z)
    clear h
    induction b with
    | nil =>
      show look [(k, v)] j = _
      rw [look_cons]
    | cons q b ih =>
      have n1 : ¬ q.1 = k := fun z => nk (by simp [keys, z])
      have n2 : k ∉ keys b := fun z => nk (List.mem_cons_of_mem _ z)
      rw [List.cons_append, look_cons, look_cons]
      by_cases e2 : q.1 = j
      · have e3 : ¬ k = j := fun z => n1 (e2.trans z.symm)
        simp [e2, e3]
      · simp only [e2, if_false]
        exact ih n2
theorem keys_put (b : Ps) (k v : Int) : keys (put b k v) = if k ∈ keys b then keys b else keys b ++ [k] := by
  unfold put
  by_cases h : b.any (fun q => q.1 = k) = true
  · rw [if_pos h, if_pos ((any_key b k).mp h)]
    unfold keys
    rw [List.map_map]
    refine List.map_congr_left fun p _ => ?_
    show (if p.1 = k then (p.1, v) else p).1 = p.1
    split <;> rfl
  · rw [if_neg h, if_neg fun z => h ((any_key b k).mpr z)]
    simp [keys]
theorem good_put {b : Ps} {k v : Int} (g : Good b) (hv : 1 ≤ v) : Good (put b k v) := by
  have nd : (keys (put b k v)).Nodup := by
    rw [keys_put]
    split
    · exact g.nd
    · rename_i h
      rw [List.nodup_append]
      exact ⟨g.nd, by simp, fun a ha c hc => by
        rw [List.mem_singleton.mp hc]
        intro z
        exact h (z ▸ ha)⟩
  refine ⟨nd, fun q hq => ?_⟩
  have e := mem_look nd hq
  rw [look_put] at e
  split at e
  · rw [← Option.some.inj e]
    exact hv
  · exact g.pos (q.1, q.2) (look_mem e)
theorem val_nonneg {b : Ps} (g : Good b) (k : Int) : 0 ≤ val b k := by
  unfold val
  cases e : look b k with
  | none => exact Int.le_refl 0
  | some v =>
    have := g.pos _ (look_mem e)
    show 0 ≤ v
    have h : 1 ≤ v := this
    omega
theorem val_put (b : Ps) (k v j : Int) : val (put b k v) j = if k = j then v else val b j := by
  unfold val
  rw [look_put]
  split <;> rfl
/-- require, on functions -/
def reqF (f : Int → Int) (o v : Int) : Int → Int := fun k => if o = k then max v (f k) else f k
theorem val_req {b : Ps} (g : Good b) {o v : Int} (hv : 1 ≤ v) : val (req b o v) = reqF (val b) o v := by
  funext k
  unfold req reqF
  rw [val_put]
  by_cases h : o = k
  · subst h
    rw [if_pos rfl, if_pos rfl]
    unfold val mx
    cases e : look b o with
    | none =>
      show (if v > v then v else v) = max v 0
      rw [if_neg (by omega)]
      omega
    | some x =>
      show (if x > v then x else v) = max v x
      split <;> omega
  · rw [if_neg h, if_neg h]
theorem good_req {b : Ps} (g : Good b) {o v : Int} (hv : 1 ≤ v) : Good (req b o v) := by
  refine good_put g ?_
  unfold mx
  split <;> omega

/-! ### the walk, on functions -/
def goF : List Cmd → Int → Int → (Int → Int) → Option (Option Int × (Int → Int))
  | [], _, need, f => some (some need, f)
  | .home :: _, _, _, _ => none
  | .stop :: _, _, _, f => some (none, f)
  | .right n :: r, off, need, f => if need > n then goF r off (need - n) (reqF f off need) else some (none, reqF f off need)
  | .left n :: r, off, need, f => goF r off (need + n) (reqF f off (need + n))
  | .down n :: r, off, need, f => goF r (off - n) need f
  | .up n :: r, off, need, f => goF r (off + n) need f
def AllOk (cs : List Cmd) : Prop := ∀ c ∈ cs, c.ok
theorem go_goF : ∀ {r : List Cmd} {off need : Int} {b : Ps}, AllOk r → Good b → 1 ≤ need →
    (go r off need b = none ∧ goF r off need (val b) = none) ∨ ∃ st b', go r off need b = some (st, b') ∧ Good b' ∧ goF r off need (val b) = some (st, val b') ∧ ∀ n, st = some n → 1 ≤ n
  | [], off, need, b, _, g, hn => .inr ⟨_, _, rfl, g, rfl, fun n e => by rw [← Option.some.inj e]; exact hn⟩
  | .home :: r, off, need, b, _, g, hn => .inl ⟨rfl, rfl⟩
  | .stop :: r, off, need, b, _, g, hn => .inr ⟨_, _, rfl, g, rfl, fun n e => nomatch e⟩
  | .right n :: r, off, need, b, hk, g, hn => by
    have hk' : AllOk r := fun c hc => hk c (List.mem_cons_of_mem _ hc)
    simp only [go, goF]
    by_cases h : need > n
    · rw [if_pos h, if_pos h, ← val_req g hn]
      exact go_goF hk' (good_req g hn) (by omega)
    · rw [if_neg h, if_neg h, ← val_req g hn]
      exact .inr ⟨_, _, rfl, good_req g hn, rfl, fun n e => nomatch e⟩
  | .left n :: r, off, need, b, hk, g, hn => by
    have hk' : AllOk r := fun c hc => hk c (List.mem_cons_of_mem _ hc)
    have h1 : 1 ≤ n := hk _ List.mem_cons_self
    simp only [go, goF]
    rw [← val_req g (by omega)]
    exact go_goF hk' (good_req g (by omega)) (by omega)
  | .down n :: r, off, need, b, hk, g, hn => go_goF (r := r) (fun c hc => hk c (List.mem_cons_of_mem _ hc)) g hn
  | .up n :: r, off, need, b, hk, g, hn => go_goF (r := r) (fun c hc => hk c (List.mem_cons_of_mem _ hc)) g hn

/-! ### ascending lists are told by their functions -/
def Asc (b : Ps) : Prop := b.Pairwise fun p q => p.1 < q.1
theorem asc_nd {b : Ps} (h : Asc b) : (keys b).Nodup := by
  unfold keys
  rw [List.nodup_iff_pairwise_ne, List.pairwise_map]
  exact h.imp fun h => Int.ne_of_lt h
theorem leK_trans (a b c : Int × Int) (h1 : leK a b = true) (h2 : leK b c = true) : leK a c = true := by
  unfold leK at *
  have a1 := of_decide_eq_true h1
  have a2 := of_decide_eq_true h2
  exact decide_eq_true (by omega)
theorem leK_total (a b : Int × Int) : (leK a b || leK b a) = true := by
  unfold leK
  by_cases h : a.1 < b.1 ∨ (a.1 = b.1 ∧ a.2 ≤ b.2)
  · rw [decide_eq_true h]
    rfl
  · rw [decide_eq_true (show b.1 < a.1 ∨ (b.1 = a.1 ∧ b.2 ≤ a.2) by omega), Bool.or_true]
theorem asc_sort {b : Ps} (g : Good b) : Asc (b.mergeSort leK) := by
  have p := List.pairwise_mergeSort (le := leK) leK_trans leK_total b
  have pm := List.mergeSort_perm b leK
  have nd : (keys (b.mergeSort leK)).Nodup := (pm.map (fun q : Int × Int => q.1)).nodup_iff.mpr g.nd
  unfold keys at nd
  rw [List.nodup_iff_pairwise_ne, List.pairwise_map] at nd
  refine (p.and nd).imp fun h => ?_
  have a := of_decide_eq_true h.1
  have c := h.2
  omega
theorem good_perm {b c : Ps} (g : Good b) (p : c.Perm b) : Good c := ⟨(p.map (fun q : Int × Int => q.1)).nodup_iff.mpr g.nd, fun q hq => g.pos q (p.mem_iff.mp hq)⟩
theorem look_perm {b c : Ps} (g : Good b) (p : c.Perm b) (k : Int) : look c k = look b k := by
  have g' := good_perm g p
  cases e : look b k with
  | none =>
    rw [look_none] at e ⊢
    exact fun z => e ((p.map (fun q : Int × Int => q.1)).mem_iff.mp z)
  | some v => exact mem_look g'.nd (p.mem_iff.mpr (look_mem e))
theorem val_perm {b c : Ps} (g : Good b) (p : c.Perm b) : val c = val b := by
  funext k
  unfold val
  rw [look_perm g p]
theorem look_val {b c : Ps} (gb : Good b) (gc : Good c) (h : val b = val c) (k : Int) : look b k = look c k := by
  have e := congrFun h k
  unfold val at e
  cases e1 : look b k with
  | none =>
    cases e2 : look c k with
    | none => rfl
    | some v =>
      rw [e1, e2] at e
      have : 1 ≤ v := gc.pos _ (look_mem e2)
      have e' : (0 : Int) = v := e
      omega
  | some u =>
    cases e2 : look c k with
    | none =>
      rw [e1, e2] at e
      have : 1 ≤ u := gb.pos _ (look_mem e1)
      have e' : u = (0 : Int) := e
      omega
    | some v =>
      rw [e1, e2] at e
      have e' : u = v := e
      rw [e']
theorem asc_ext : ∀ {b c : Ps}, Asc b → Asc c → (∀ k, look b k = look c k) → b = c
  | [], [], _, _, _ => rfl
  | [], q :: c, _, _, h => by
    have e := h q.1
    rw [look_cons, if_pos rfl] at e
    cases e
  | q :: b, [], _, _, h => by
    have e := h q.1
    rw [look_cons, if_pos rfl] at e
    cases e
  | p :: b, q :: c, hb, hc, h => by
    have hb' := List.pairwise_cons.mp hb
    have hc' := List.pairwise_cons.mp hc
    have e1 := h p.1
    rw [look_cons, if_pos rfl, look_cons] at e1
    have e2 := h q.1
    rw [look_cons, look_cons, if_pos rfl] at e2
    have key : p.1 = q.1 := by
      by_cases x : q.1 = p.1
      · exact x.symm
      · rw [if_neg x] at e1
        rw [if_neg fun z => x z.symm] at e2
        have m1 := hc'.1 _ (look_mem e1.symm)
        have m2 := hb'.1 _ (look_mem e2)
        have m1' : q.1 < p.1 := m1
        have m2' : p.1 < q.1 := m2
        omega
    rw [if_pos key.symm] at e1
    have hpq : p = q := Prod.ext key (Option.some.inj e1)
    subst hpq
    rw [asc_ext hb'.2 hc'.2 fun k => ?_]
    have e := h k
    rw [look_cons, look_cons] at e
    by_cases x : p.1 = k
    · have n1 : look b k = none := look_none.mpr fun z => by
        obtain ⟨r, hr, er⟩ := List.mem_map.mp z
        have := hb'.1 r hr
        omega
      have n2 : look c k = none := look_none.mpr fun z => by
        obtain ⟨r, hr, er⟩ := List.mem_map.mp z
        have := hc'.1 r hr
        omega
      rw [n1, n2]
    · rw [if_neg x, if_neg x] at e
      exact e
theorem sort_ext {b c : Ps} (gb : Good b) (gc : Good c) (h : val b = val c) : b.mergeSort leK = c.mergeSort leK :=
  asc_ext (asc_sort gb) (asc_sort gc) fun k => by
    rw [look_perm gb (List.mergeSort_perm b leK), look_perm gc (List.mergeSort_perm c leK)]
    exact look_val gb gc h k
end Gc

/-! laws of boxes: joined lists, greater goals, multiplied moves -/
namespace Gc
abbrev BF := Option (Option Int × (Int → Int))
def boxF (cs : List Cmd) (goal : Int) : BF := goF cs.reverse (last cs) goal fun _ => 0
theorem val_nil : val [] = fun _ => 0 := rfl
theorem allOk_rev {cs : List Cmd} (h : AllOk cs) : AllOk cs.reverse := fun c hc => h c (List.mem_reverse.mp hc)
theorem box_spec {cs : List Cmd} {goal : Int} (h : AllOk cs) (hg : 1 ≤ goal) :
    (boxM cs goal = none ∧ boxF cs goal = none) ∨ ∃ st b, boxM cs goal = some (st, b.mergeSort leK) ∧ Good b ∧ boxF cs goal = some (st, val b) ∧ ∀ n, st = some n → 1 ≤ n := by
  unfold boxM boxF
  rw [← val_nil]
  rcases go_goF (off := last cs) (allOk_rev h) good_nil hg with ⟨e1, e2⟩ | ⟨st, b, e1, g, e2, p⟩
  · exact .inl ⟨by rw [e1]; rfl, e2⟩
  · exact .inr ⟨st, b, by rw [e1]; rfl, g, e2, p⟩
def thenF (x : BF) (k : Int → (Int → Int) → BF) : BF := match x with
  | none => none
  | some (none, g) => some (none, g)
  | some (some n, g) => k n g
theorem goF_app : ∀ (a b : List Cmd) (off need : Int) (f : Int → Int), goF (a ++ b) off need f = thenF (goF a off need f) fun n g => goF b (off - (a.map Cmd.dv).sum) n g
  | [], b, off, need, f => by
    show goF b off need f = goF b (off - 0) need f
    rw [Int.sub_zero]
  | .home :: a, b, off, need, f => rfl
  | .stop :: a, b, off, need, f => rfl
  | .right n :: a, b, off, need, f => by
    have e : off - (((Cmd.right n :: a).map Cmd.dv).sum) = off - (a.map Cmd.dv).sum := by
      rw [List.map_cons, List.sum_cons]
      show off - (0 + _) = _
      omega
    rw [e, List.cons_append]
    simp only [goF]
    by_cases h : need > n
    · rw [if_pos h, if_pos h]
      exact goF_app a b off (need - n) _
    · rw [if_neg h, if_neg h]
      rfl
  | .left n :: a, b, off, need, f => by
    have e : off - (((Cmd.left n :: a).map Cmd.dv).sum) = off - (a.map Cmd.dv).sum := by
      rw [List.map_cons, List.sum_cons]
      show off - (0 + _) = _
      omega
    rw [e, List.cons_append]
    exact goF_app a b off (need + n) _
  | .down n :: a, b, off, need, f => by
    have e : off - (((Cmd.down n :: a).map Cmd.dv).sum) = off - n - (a.map Cmd.dv).sum := by
      rw [List.map_cons, List.sum_cons]
      show off - (n + _) = _
      omega
    rw [e, List.cons_append]
    exact goF_app a b (off - n) need f
  | .up n :: a, b, off, need, f => by
    have e : off - (((Cmd.up n :: a).map Cmd.dv).sum) = off + n - (a.map Cmd.dv).sum := by
      rw [List.map_cons, List.sum_cons]
      show off - (-n + _) = _
      omega
    rw [e, List.cons_append]
    exact goF_app a b (off + n) need f
theorem goF_shift (d : Int) : ∀ (r : List Cmd) (off need : Int) (f : Int → Int), goF r (off + d) need (fun k => f (k - d)) = (goF r off need f).map fun x => (x.1, fun k => x.2 (k - d))
  | [], off, need, f => rfl
  | .home :: r, off, need, f => rfl
  | .stop :: r, off, need, f => rfl
  | .right n :: r, off, need, f => by
    have e : reqF (fun k => f (k - d)) (off + d) need = fun k => reqF f off need (k - d) := by
      funext k
      unfold reqF
      by_cases h : off + d = k
      · rw [if_pos h, if_pos (by omega)]
      · rw [if_neg h, if_neg (by omega)]
    simp only [goF]
    rw [e]
    by_cases h : need > n
    · rw [if_pos h, if_pos h]
      exact goF_shift d r off (need - n) _
    · rw [if_neg h, if_neg h]
      rfl
  | .left n :: r, off, need, f => by
    have e : reqF (fun k => f (k - d)) (off + d) (need + n) = fun k => reqF f off (need + n) (k - d) := by
      funext k
      unfold reqF
      by_cases h : off + d = k
      · rw [if_pos h, if_pos (by omega)]
      · rw [if_neg h, if_neg (by omega)]
    simp only [goF]
    rw [e]
    exact goF_shift d r off (need + n) _
  | .down n :: r, off, need, f => by
    simp only [goF]
    rw [show off + d - n = off - n + d by omega]
    exact goF_shift d r (off - n) need f
  | .up n :: r, off, need, f => by
    simp only [goF]
    rw [show off + d + n = off + n + d by omega]
    exact goF_shift d r (off + n) need f
theorem goF_max (h : Int → Int) : ∀ (r : List Cmd) (off need : Int) (f : Int → Int), goF r off need (fun k => max (f k) (h k)) = (goF r off need f).map fun x => (x.1, fun k => max (x.2 k) (h k))
  | [], off, need, f => rfl
  | .home :: r, off, need, f => rfl
  | .stop :: r, off, need, f => rfl
  | .right n :: r, off, need, f => by
    have e : reqF (fun k => max (f k) (h k)) off need = fun k => max (reqF f off need k) (h k) := by
      funext k
      unfold reqF
      show (if _ then _ else _) = _
      by_cases q : off = k
      · simp only [q, if_true]
        rw [Int.max_assoc]
      · simp only [q, if_false]
    simp only [goF]
    rw [e]
    by_cases c : need > n
    · rw [if_pos c, if_pos c]
      exact goF_max h r off (need - n) _
    · rw [if_neg c, if_neg c]
      rfl
  | .left n :: r, off, need, f => by
    have e : reqF (fun k => max (f k) (h k)) off (need + n) = fun k => max (reqF f off (need + n) k) (h k) := by
      funext k
      unfold reqF
      show (if _ then _ else _) = _
      by_cases q : off = k
      · simp only [q, if_true]
        rw [Int.max_assoc]
      · simp only [q, if_false]
    simp only [goF]
    rw [e]
    exact goF_max h r off (need + n) _
  | .down n :: r, off, need, f => goF_max h r (off - n) need f
  | .up n :: r, off, need, f => goF_max h r (off + n) need f
theorem last_app (a b : List Cmd) : last (a ++ b) = last a + last b := by
  unfold last
  rw [List.map_append, List.sum_append]
theorem sum_rev (l : List Int) : l.reverse.sum = l.sum := by
  induction l with
  | nil => rfl
  | cons a l ih =>
    rw [List.reverse_cons, List.sum_append, ih, List.sum_cons]
    simp
    omega
theorem boxF_app (early late : List Cmd) (aim : Int) (pos : ∀ st g, boxF late aim = some (st, g) → ∀ k, 0 ≤ g k) :
    boxF (early ++ late) aim = match boxF late aim with
      | none => none
      | some (none, g) => some (none, fun k => g (k - last early))
      | some (some n, g) => (boxF early n).map fun x => (x.1, fun k => max (x.2 k) (g (k - last early))) := by
  unfold boxF
  rw [List.reverse_append, goF_app, last_app, Int.add_comm (last early)]
  have sh : goF late.reverse (last late + last early) aim (fun _ => 0) = (goF late.reverse (last late) aim fun _ => 0).map fun x => (x.1, fun k => x.2 (k - last early)) :=
    goF_shift (last early) late.reverse (last late) aim fun _ => 0
  rw [sh]
  have pos' := pos
  unfold boxF at pos'
  cases e : goF late.reverse (last late) aim (fun _ => 0) with
  | none => rfl
  | some x =>
    obtain ⟨st, g⟩ := x
    cases st with
    | none => rfl
    | some n =>
      show goF early.reverse (last late + last early - (late.reverse.map Cmd.dv).sum) n (fun k => g (k - last early)) = _
      have es : (late.reverse.map Cmd.dv).sum = last late := by
        rw [List.map_reverse, sum_rev]
        rfl
      rw [es, show last late + last early - last late = last early by omega]
      have em : (fun k => g (k - last early)) = fun k => max ((fun _ => 0 : Int → Int) k) (g (k - last early)) := by
        funext k
        have := pos' _ _ e (k - last early)
        show g (k - last early) = max 0 (g (k - last early))
        omega
      rw [em, goF_max]

/-! ### the law's own joining -/
def shiftK (d : Int) (b : Ps) : Ps := b.map fun q => (q.1 + d, q.2)
def addAll (b : Ps) (l : Ps) : Ps := l.foldl (fun b q => put b q.1 (mx q.2 ((look b q.1).getD 0))) b
def joinedM (early late : List Cmd) (gone aim : Int) : Option (Option Int × Ps) := match boxM late aim with
  | none => none
  | some (none, l) => some (none, (shiftK gone l).mergeSort leK)
  | some (some n, l) => match boxM early n with
    | none => none
    | some (st, m) => some (st, (addAll (shiftK gone l) m).mergeSort leK)
theorem look_shift (d : Int) : ∀ (b : Ps) (k : Int), look (shiftK d b) k = look b (k - d)
  | [], _ => rfl
  | q :: b, k => by
    show look ((q.1 + d, q.2) :: shiftK d b) k = _
    rw [look_cons, look_cons, look_shift d b]
    by_cases h : q.1 + d = k
    · rw [if_pos h, if_pos (by omega)]
    · rw [if_neg h, if_neg (by omega)]
theorem good_shift (d : Int) {b : Ps} (g : Good b) : Good (shiftK d b) := by
  refine ⟨?_, fun q hq => ?_⟩
  · have e : keys (shiftK d b) = (keys b).map (· + d) := by
      unfold keys shiftK
      rw [List.map_map, List.map_map]
      rfl
    rw [e, List.nodup_iff_pairwise_ne, List.pairwise_map]
    exact (List.nodup_iff_pairwise_ne.mp g.nd).imp fun h => by omega
  · obtain ⟨p, hp, rfl⟩ := List.mem_map.mp hq
    exact g.pos p hp
theorem val_shift (d : Int) (b : Ps) : val (shiftK d b) = fun k => val b (k - d) := by
  funext k
  unfold val
  rw [look_shift]
theorem val_cons (q : Int × Int) (b : Ps) (k : Int) : val (q :: b) k = if q.1 = k then q.2 else val b k := by
  unfold val
  rw [look_cons]
  split <;> rfl
theorem val_out {b : Ps} {k : Int} (h : k ∉ keys b) : val b k = 0 := by
  unfold val
  rw [look_none.mpr h]
  rfl
theorem addAll_good : ∀ {l b : Ps}, Good b → Good l → Good (addAll b l) ∧ ∀ k, val (addAll b l) k = max (val l k) (val b k)
  | [], b, gb, _ => ⟨gb, fun k => by
      have := val_nonneg gb k
      show val b k = max 0 (val b k)
      omega⟩
  | q :: l, b, gb, gl => by
    have nq : q.1 ∉ keys l ∧ (keys l).Nodup := List.nodup_cons.mp gl.nd
    have p1 : 1 ≤ q.2 := gl.pos q List.mem_cons_self
    have gl' : Good l := ⟨nq.2, fun p hp => gl.pos p (List.mem_cons_of_mem _ hp)⟩
    have hv : 1 ≤ mx q.2 ((look b q.1).getD 0) := by
      unfold mx
      split <;> omega
    obtain ⟨g, v⟩ := addAll_good (b := put b q.1 (mx q.2 ((look b q.1).getD 0))) (good_put gb hv) gl'
    refine ⟨g, fun k => ?_⟩
    show val (addAll (put b q.1 (mx q.2 ((look b q.1).getD 0))) l) k = _
    rw [v k, val_put, val_cons]
    by_cases h : q.1 = k
    · subst h
      rw [if_pos rfl, if_pos rfl, val_out nq.1]
      have : mx q.2 ((look b q.1).getD 0) = max q.2 (val b q.1) := by
        unfold mx val
        split <;> omega
      rw [this]
      omega
    · rw [if_neg h, if_neg h]
theorem joined (early late : List Cmd) {aim : Int} (he : AllOk early) (hl : AllOk late) (ha : 1 ≤ aim) : boxM (early ++ late) aim = joinedM early late (last early) aim := by
  have hw : AllOk (early ++ late) := fun c hc => (List.mem_append.mp hc).elim (he c) (hl c)
  have srtd : ∀ {b c : Ps}, Good b → Good c → val b = val c → b.mergeSort leK = c.mergeSort leK := fun gb gc h => sort_ext gb gc h
  rcases box_spec hl ha with ⟨e1, e2⟩ | ⟨st, b, e1, gb, e2, pb⟩
  · have f := boxF_app early late aim fun st g h => by rw [e2] at h; cases h
    rw [e2] at f
    rcases box_spec hw ha with ⟨w1, _⟩ | ⟨_, _, _, _, w2, _⟩
    · rw [w1]
      unfold joinedM
      rw [e1]
    · rw [w2] at f
      cases f
  · have f := boxF_app early late aim fun st g h => by
      rw [e2] at h
      cases h
      exact val_nonneg gb
    rw [e2] at f
    have gs : Good (b.mergeSort leK) := good_perm gb (List.mergeSort_perm b leK)
    have vs : val (b.mergeSort leK) = val b := val_perm gb (List.mergeSort_perm b leK)
    cases st with
    | none =>
      rcases box_spec hw ha with ⟨_, w2⟩ | ⟨st', c, w1, gc, w2, _⟩
      · rw [w2] at f
        cases f
      · rw [w2] at f
        have f' := Option.some.inj f
        have f1 : st' = none := congrArg Prod.fst f'
        have f2 : val c = fun k => val b (k - last early) := congrArg Prod.snd f'
        rw [w1, f1]
        unfold joinedM
        rw [e1]
        show some ((none : Option Int), c.mergeSort leK) = some (none, (shiftK (last early) (b.mergeSort leK)).mergeSort leK)
        rw [srtd gc (good_shift _ gs) (by rw [f2, val_shift, vs])]
    | some n =>
      have hn := pb n rfl
      rcases box_spec he hn with ⟨x1, x2⟩ | ⟨st2, m, x1, gm, x2, _⟩
      · have f' : boxF (early ++ late) aim = (boxF early n).map fun x => (x.1, fun k => max (x.2 k) (val b (k - last early))) := f
        rw [x2] at f'
        rcases box_spec hw ha with ⟨w1, _⟩ | ⟨_, _, _, _, w2, _⟩
        · rw [w1]
          unfold joinedM
          rw [e1]
          show none = match boxM early n with | none => none | some (st, m) => _
          rw [x1]
        · rw [w2] at f'
          cases f'
      · have f' : boxF (early ++ late) aim = (boxF early n).map fun x => (x.1, fun k => max (x.2 k) (val b (k - last early))) := f
        rw [x2] at f'
        rcases box_spec hw ha with ⟨_, w2⟩ | ⟨st', c, w1, gc, w2, _⟩
        · rw [w2] at f'
          cases f'
        · rw [w2] at f'
          have f3 := Option.some.inj f'
          have f1 : st' = st2 := congrArg Prod.fst f3
          have f2 : val c = fun k => max (val m k) (val b (k - last early)) := congrArg Prod.snd f3
          rw [w1, f1]
          unfold joinedM
          rw [e1]
          show some (st2, c.mergeSort leK) = match boxM early n with | none => none | some (st, m) => _
          rw [x1]
          show some (st2, c.mergeSort leK) = some (st2, (addAll (shiftK (last early) (b.mergeSort leK)) (m.mergeSort leK)).mergeSort leK)
          have gms : Good (m.mergeSort leK) := good_perm gm (List.mergeSort_perm m leK)
          obtain ⟨ga, va⟩ := addAll_good (good_shift (last early) gs) gms
          rw [srtd gc ga (by
            funext k
            rw [f2, va k, val_perm gm (List.mergeSort_perm m leK), val_shift, vs])]

/-! ### a greater goal -/
theorem reqF_mono {f g : Int → Int} {o v u : Int} (h : ∀ k, f k ≤ g k) (hv : v ≤ u) (k : Int) : reqF f o v k ≤ reqF g o u k := by
  have := h k
  unfold reqF
  split <;> omega
theorem reqF_ge (f : Int → Int) (o v k : Int) : f k ≤ reqF f o v k := by
  unfold reqF
  split <;> omega
theorem goF_ge : ∀ {r : List Cmd} {off need : Int} {f : Int → Int} {st : Option Int} {g : Int → Int}, goF r off need f = some (st, g) → ∀ k, f k ≤ g k
  | [], off, need, f, st, g, h, k => by cases h; exact Int.le_refl _
  | .home :: r, off, need, f, st, g, h, k => by cases h
  | .stop :: r, off, need, f, st, g, h, k => by cases h; exact Int.le_refl _
  | .right n :: r, off, need, f, st, g, h, k => by
    simp only [goF] at h
    by_cases c : need > n
    · rw [if_pos c] at h
      exact Int.le_trans (reqF_ge f off need k) (goF_ge h k)
    · rw [if_neg c] at h
      cases h
      exact reqF_ge f off need k
  | .left n :: r, off, need, f, st, g, h, k => Int.le_trans (reqF_ge f off (need + n) k) (goF_ge (r := r) h k)
  | .down n :: r, off, need, f, st, g, h, k => goF_ge (r := r) h k
  | .up n :: r, off, need, f, st, g, h, k => goF_ge (r := r) h k
def Less (x y : BF) : Prop := y = none ∨ ∃ st g st' g', x = some (st, g) ∧ y = some (st', g') ∧ (∀ n, st = some n → ∃ n', st' = some n' ∧ n ≤ n') ∧ ∀ k, g k ≤ g' k
theorem goF_mono : ∀ {r : List Cmd} {off need need' : Int} {f f' : Int → Int}, need ≤ need' → (∀ k, f k ≤ f' k) → Less (goF r off need f) (goF r off need' f')
  | [], off, need, need', f, f', h, hf => .inr ⟨_, _, _, _, rfl, rfl, fun n e => ⟨need', rfl, by rw [← Option.some.inj e]; exact h⟩, hf⟩
  | .home :: r, off, need, need', f, f', h, hf => .inl rfl
  | .stop :: r, off, need, need', f, f', h, hf => .inr ⟨_, _, _, _, rfl, rfl, (fun n e => nomatch e), hf⟩
  | .right n :: r, off, need, need', f, f', h, hf => by
    simp only [goF]
    have m := reqF_mono (o := off) hf h
    by_cases c : need > n
    · rw [if_pos c, if_pos (by omega)]
      exact goF_mono (by omega) m
    · rw [if_neg c]
      by_cases c' : need' > n
      · rw [if_pos c']
        cases e : goF r off (need' - n) (reqF f' off need') with
        | none => exact .inl rfl
        | some x => exact .inr ⟨_, _, x.1, x.2, rfl, rfl, (fun n e => nomatch e), fun k => Int.le_trans (m k) (goF_ge e k)⟩
      · rw [if_neg c']
        exact .inr ⟨_, _, _, _, rfl, rfl, (fun n e => nomatch e), m⟩
  | .left n :: r, off, need, need', f, f', h, hf => goF_mono (r := r) (by omega) (reqF_mono (o := off) hf (by omega))
  | .down n :: r, off, need, need', f, f', h, hf => goF_mono (r := r) h hf
  | .up n :: r, off, need, need', f, f', h, hf => goF_mono (r := r) h hf
theorem box_mono {cs : List Cmd} {aim more : Int} (h : AllOk cs) (ha : 1 ≤ aim) (hm : aim ≤ more) :
    boxM cs more = none ∨ ∃ st l st' l', boxM cs aim = some (st, l) ∧ boxM cs more = some (st', l') ∧ (∀ n, st = some n → ∃ n', st' = some n' ∧ n ≤ n') ∧ ∀ q ∈ l, q.2 ≤ val l' q.1 := by
  have m : Less (boxF cs aim) (boxF cs more) := goF_mono hm fun _ => Int.le_refl _
  rcases box_spec h (show 1 ≤ more by omega) with ⟨e1, _⟩ | ⟨st', b', e1, g', e2, _⟩
  · exact .inl e1
  · rcases m with m | ⟨st, g, st2, g2, m1, m2, m3, m4⟩
    · rw [e2] at m
      cases m
    · rw [e2] at m2
      cases m2
      rcases box_spec h ha with ⟨_, x2⟩ | ⟨st3, b, x1, gb, x2, _⟩
      · rw [x2] at m1
        cases m1
      · rw [x2] at m1
        cases m1
        refine .inr ⟨st, _, st', _, x1, e1, m3, fun q hq => ?_⟩
        have gs : Good (b.mergeSort leK) := good_perm gb (List.mergeSort_perm b leK)
        have v : val (b.mergeSort leK) q.1 = q.2 := by
          unfold val
          rw [mem_look gs.nd hq]
          rfl
        rw [val_perm gb (List.mergeSort_perm b leK)] at v
        rw [val_perm g' (List.mergeSort_perm b' leK), ← v]
        exact m4 q.1

/-! ### moves multiplied -/
def Cmd.mul (F : Int) : Cmd → Cmd
  | .down n => .down (n * F)
  | .up n => .up (n * F)
  | c => c
def mulK (F : Int) (b : Ps) : Ps := b.map fun q => (q.1 * F, q.2)
theorem mul_inj {F a b : Int} (hF : 1 ≤ F) : a * F = b * F ↔ a = b := ⟨fun h => Int.eq_of_mul_eq_mul_right (by omega) h, fun h => by rw [h]⟩
theorem look_mul {F : Int} (hF : 1 ≤ F) : ∀ (b : Ps) (k : Int), look (mulK F b) (k * F) = look b k
  | [], _ => rfl
  | q :: b, k => by
    show look ((q.1 * F, q.2) :: mulK F b) (k * F) = _
    rw [look_cons, look_cons, look_mul hF b]
    by_cases h : q.1 = k
    · rw [if_pos h, if_pos (by rw [h])]
    · rw [if_neg h, if_neg fun z => h ((mul_inj hF).mp z)]
theorem put_mul {F : Int} (hF : 1 ≤ F) (b : Ps) (k v : Int) : put (mulK F b) (k * F) v = mulK F (put b k v) := by
  unfold put
  have ea : (mulK F b).any (fun q => decide (q.1 = k * F)) = b.any (fun q => decide (q.1 = k)) := by
    unfold mulK
    rw [List.any_map]
    congr 1
    funext q
    show decide (q.1 * F = k * F) = decide (q.1 = k)
    exact decide_eq_decide.mpr (mul_inj hF)
  rw [ea]
  by_cases h : b.any (fun q => decide (q.1 = k)) = true
  · rw [if_pos h, if_pos h]
    unfold mulK
    rw [List.map_map, List.map_map]
    refine List.map_congr_left fun q _ => ?_
    show (if q.1 * F = k * F then (q.1 * F, v) else (q.1 * F, q.2)) = ((if q.1 = k then (q.1, v) else q).1 * F, (if q.1 = k then (q.1, v) else q).2)
    by_cases e : q.1 = k
    · rw [if_pos e, if_pos (by rw [e])]
    · rw [if_neg e, if_neg fun z => e ((mul_inj hF).mp z)]
  · rw [if_neg h, if_neg h]
    unfold mulK
    rw [List.map_append]
    rfl
theorem req_mul {F : Int} (hF : 1 ≤ F) (b : Ps) (o v : Int) : req (mulK F b) (o * F) v = mulK F (req b o v) := by
  unfold req
  rw [look_mul hF, put_mul hF]
theorem go_mul {F : Int} (hF : 1 ≤ F) : ∀ (r : List Cmd) (off need : Int) (b : Ps), go (r.map (Cmd.mul F)) (off * F) need (mulK F b) = (go r off need b).map fun x => (x.1, mulK F x.2)
  | [], off, need, b => rfl
  | .home :: r, off, need, b => rfl
  | .stop :: r, off, need, b => rfl
  | .right n :: r, off, need, b => by
    show (if need > n then go (r.map (Cmd.mul F)) (off * F) (need - n) (req (mulK F b) (off * F) need) else some (none, req (mulK F b) (off * F) need)) = (if need > n then go r off (need - n) (req b off need) else some (none, req b off need)).map _
    rw [req_mul hF]
    by_cases c : need > n
    · rw [if_pos c, if_pos c]
      exact go_mul hF r off (need - n) _
    · rw [if_neg c, if_neg c]
      rfl
  | .left n :: r, off, need, b => by
    show go (r.map (Cmd.mul F)) (off * F) (need + n) (req (mulK F b) (off * F) (need + n)) = _
    rw [req_mul hF]
    exact go_mul hF r off (need + n) _
  | .down n :: r, off, need, b => by
    show go (r.map (Cmd.mul F)) (off * F - n * F) need (mulK F b) = _
    rw [← Int.sub_mul]
    exact go_mul hF r (off - n) need b
  | .up n :: r, off, need, b => by
    show go (r.map (Cmd.mul F)) (off * F + n * F) need (mulK F b) = _
    rw [← Int.add_mul]
    exact go_mul hF r (off + n) need b
theorem last_mul (F : Int) : ∀ cs : List Cmd, last (cs.map (Cmd.mul F)) = last cs * F
  | [] => by show (0 : Int) = 0 * F; omega
  | c :: cs => by
    have e : ∀ (c : Cmd) (cs : List Cmd), last (c :: cs) = c.dv + last cs := fun _ _ => rfl
    have d : (c.mul F).dv = c.dv * F := by
      cases c with
      | up n =>
        show -(n * F) = -n * F
        rw [Int.neg_mul]
      | down n => rfl
      | right n => show (0 : Int) = 0 * F; omega
      | left n => show (0 : Int) = 0 * F; omega
      | home => show (0 : Int) = 0 * F; omega
      | stop => show (0 : Int) = 0 * F; omega
    rw [List.map_cons, e, e, last_mul F cs, d, Int.add_mul]
theorem good_mul {F : Int} (hF : 1 ≤ F) {b : Ps} (g : Good b) : Good (mulK F b) := by
  refine ⟨?_, fun q hq => ?_⟩
  · have e : keys (mulK F b) = (keys b).map (· * F) := by
      unfold keys mulK
      rw [List.map_map, List.map_map]
      rfl
    rw [e, List.nodup_iff_pairwise_ne, List.pairwise_map]
    exact (List.nodup_iff_pairwise_ne.mp g.nd).imp fun h z => h ((mul_inj hF).mp z)
  · obtain ⟨p, hp, rfl⟩ := List.mem_map.mp hq
    exact g.pos p hp
theorem asc_mul {F : Int} (hF : 1 ≤ F) {b : Ps} (h : Asc b) : Asc (mulK F b) := by
  unfold Asc mulK
  rw [List.pairwise_map]
  exact h.imp fun h => Int.mul_lt_mul_of_pos_right h (by omega)
theorem box_mul {F : Int} (hF : 1 ≤ F) {cs : List Cmd} {goal : Int} (h : AllOk cs) (hg : 1 ≤ goal) :
    boxM (cs.map (Cmd.mul F)) goal = (boxM cs goal).map fun x => (x.1, mulK F x.2) := by
  unfold boxM
  rw [last_mul, ← List.map_reverse]
  have e := go_mul hF cs.reverse (last cs) goal []
  have e' : go (cs.reverse.map (Cmd.mul F)) (last cs * F) goal [] = (go cs.reverse (last cs) goal []).map fun x => (x.1, mulK F x.2) := e
  rw [e']
  rcases go_goF (off := last cs) (allOk_rev h) good_nil hg with ⟨e1, _⟩ | ⟨st, b, e1, g, _, _⟩
  · rw [e1]
    rfl
  · rw [e1]
    show some (st, (mulK F b).mergeSort leK) = some (st, mulK F (b.mergeSort leK))
    have gm := good_mul hF g
    have key : (mulK F b).mergeSort leK = mulK F (b.mergeSort leK) := by
      have p : (mulK F (b.mergeSort leK)).Perm (mulK F b) := (List.mergeSort_perm b leK).map _
      refine asc_ext (asc_sort gm) (asc_mul hF (asc_sort g)) fun k => ?_
      rw [look_perm gm (List.mergeSort_perm _ leK), look_perm gm p]
    rw [key]
def Cmd.vert : Cmd → Bool
  | .down _ => true
  | .up _ => true
  | _ => false
theorem go_plain : ∀ (r : List Cmd) (off need : Int) (b : Ps), (∀ c ∈ r, c.vert = true) → go r off need b = some (some need, b)
  | [], _, _, _, _ => rfl
  | .down n :: r, off, need, b, h => go_plain r (off - n) need b fun c hc => h c (List.mem_cons_of_mem _ hc)
  | .up n :: r, off, need, b, h => go_plain r (off + n) need b fun c hc => h c (List.mem_cons_of_mem _ hc)
  | .right n :: r, _, _, _, h => nomatch h _ List.mem_cons_self
  | .left n :: r, _, _, _, h => nomatch h _ List.mem_cons_self
  | .home :: r, _, _, _, h => nomatch h _ List.mem_cons_self
  | .stop :: r, _, _, _, h => nomatch h _ List.mem_cons_self
theorem box_plain (cs : List Cmd) (goal : Int) (h : ∀ c ∈ cs, c.vert = true) : boxM cs goal = some (some goal, []) := by
  unfold boxM
  rw [go_plain cs.reverse (last cs) goal [] fun c hc => h c (List.mem_reverse.mp hc)]
  show some (some goal, ([] : Ps).mergeSort leK) = _
  rw [List.mergeSort_nil]
end Gc

/-! sorted(d.items()), d a dict of ints by ints -/
namespace Gc
open PySem PySem.Spec PyProof.Rows L2
/-- what such a dict holds -/
def dkI (ps : List (Int × Int)) : List (L2.Key × V) := ps.map fun q => (Sum.inl q.1, V.int q.2)
def encP (q : Int × Int) : PyData := .tuple [.int q.1, .int q.2]
def leP (p q : Int × Int) : Bool := decide (p.1 < q.1 ∨ (p.1 = q.1 ∧ p.2 ≤ q.2))
theorem dkI_at {ps : List (Int × Int)} {j : Nat} {kv : L2.Key × V} (h : (dkI ps)[j]? = some kv) : ∃ q, ps[j]? = some q ∧ kv = (Sum.inl q.1, V.int q.2) := by
  unfold dkI at h
  rw [List.getElem?_map] at h
  cases e : ps[j]? with
  | none =>
    rw [e] at h
    cases h
  | some q =>
    rw [e] at h
    exact ⟨q, rfl, (Option.some.inj h).symm⟩
theorem pairs_at {P : Program} {w : World} : ∀ {es : List DictEntry} {vs : List (L2.Key × Value)} {j : Nat} {e : DictEntry}, Pairs (mixKind P w) es vs → es[j]? = some e →
    ∃ kv, vs[j]? = some kv ∧ keyIs kv.1 e.key = true ∧ e.val = kv.2
  | _, _, 0, e, .cons h1 h2 _, h => by
    obtain rfl := Option.some.inj h
    exact ⟨_, rfl, h1, h2⟩
  | _, _, j + 1, e, .cons _ _ t, h => pairs_at (j := j) t h
theorem pairs_len {P : Program} {w : World} : ∀ {es : List DictEntry} {vs : List (L2.Key × Value)}, Pairs (mixKind P w) es vs → es.length = vs.length
  | _, _, .nil => rfl
  | _, _, .cons _ _ t => by
    rw [List.length_cons, List.length_cons, pairs_len t]
def rSortItI : V → Hp → VK → Prop := fun x H Q => ∃ (d : Addr) (ps : List (Int × Int)), x = .ref d ∧ H d = some (.dK (dkI ps)) ∧
  ∀ (H' : Hp) (l : Addr) (ts : List Addr), Same H H' → H l = none → H' l = some (.lst (ts.map V.ref)) →
    Paired (fun (t : Addr) (q : Int × Int) => H' t = some (.tup [.int q.1, .int q.2])) ts (ps.mergeSort leP) → Q (.ref l) H'
theorem each_paired {R : Value → Int × Int → Prop} {F : Addr → Int × Int → Prop} (hR : ∀ v q, R v q → ∃ t, v = .ref t ∧ F t q) : ∀ {vs : List Value} {qs : List (Int × Int)}, PySem.W.EachIs R vs qs →
    ∃ ts : List Addr, vs = ts.map Value.ref ∧ Paired F ts qs
  | _, _, .nil => ⟨[], rfl, .nil⟩
  | _, _, .cons h t => by
    obtain ⟨t0, e0, f0⟩ := hR _ _ h
    obtain ⟨ts, e1, f1⟩ := each_paired hR t
    exact ⟨t0 :: ts, by rw [e0, e1]; rfl, .cons f0 f1⟩
theorem vals_refs : ∀ as : List Addr, Vals (as.map V.ref) (as.map Value.ref)
  | [] => .nil
  | _ :: as => .cons rfl (vals_refs as)
section
variable {X : Cx}
theorem sort_items_run {pins : List (Addr × Obj)} {σ : L2.St} {H : Hp} {s : Shared} {Q : VK} {p d : Addr} {ps : List (Int × Int)} (I : Inv X pins σ H s) (hh : X.A.handled = none)
    (hu : X.A.units + 64 < cLine) (hd : H d = some (.dK (dkI ps))) (view : s.heap.IsItemsView p d)
    (q : ∀ (H' : Hp) (l : Addr) (ts : List Addr), Same H H' → H l = none → H' l = some (.lst (ts.map V.ref)) →
      Paired (fun (t : Addr) (q : Int × Int) => H' t = some (.tup [.int q.1, .int q.2])) ts (ps.mergeSort leP) → Q (.ref l) H') :
    wpAny (model X.prog X.w) X.A (call (.builtin "sorted") [.ref p]) (EP X pins σ Q) X.xe s := by
  obtain ⟨hz, hs0, vs, kv, o, es, ep, ho, hx, hdat, hko, hpr, hnd⟩ := (show ObjOk X.prog X.w H s.heap d (.dK (dkI ps)) from I.hok d _ hd)
  have l1 : (dkI ps).length = vs.length := Paired.length kv
  have l2 : es.toList.length = vs.length := pairs_len hpr
  have l3 : (dkI ps).length = ps.length := List.length_map ..
  have l4 : es.toList.length = es.size := by simp
  have ent : ∀ (j : Nat) (e : DictEntry), es[j]? = some e → ∃ (q : Int × Int) (t1 t2 : Tok), ps[j]? = some q ∧ e.key = .int q.1 t1 ∧ e.val = .int q.2 t2 := by
    intro j e he
    obtain ⟨kv', e1, e2, e3⟩ := pairs_at hpr (show es.toList[j]? = some e by simpa using he)
    obtain ⟨y, f1, f2, f3⟩ := L2.DX.pget kv e1
    obtain ⟨q, g1, rfl⟩ := dkI_at f1
    have f2' : Sum.inl q.1 = kv'.1 := f2
    rw [← f2'] at e2
    obtain ⟨t1, k1⟩ := Value.isInt_shape (k := q.1) (v := e.key) e2
    obtain ⟨t2, k2⟩ : ∃ t, kv'.2 = Value.int q.2 t := f3
    exact ⟨q, t1, t2, g1, k1, e3.trans k2⟩
  refine DT.sortedI (es := es) (ep := ep) hh view ⟨o, ho, hx, hdat⟩ (by omega) fun h' tk as hk hlt hl hG => ?_
  have nd : as.Nodup := List.Pairwise.imp (fun h => Nat.ne_of_lt h) hG.rise
  have lap : as.length = ps.length := by omega
  have pr : ∀ (j : Nat) (b : Addr), as[j]? = some b → ∃ (q : Int × Int) (t1 t2 : Tok), ps[j]? = some q ∧
      h'.get? b = some { cls := .type "tuple", data := .seq #[Value.int q.1 t1, Value.int q.2 t2] } := by
    intro j b hj
    obtain ⟨e, he, hg⟩ := hG.pairs j b hj
    obtain ⟨q, t1, t2, e1, e2, e3⟩ := ent j e he
    rw [e2, e3] at hg
    exact ⟨q, t1, t2, e1, hg⟩
  have hob : (h'.push { cls := .type "list", data := .seq (as.map Value.ref).toArray }).get? h'.objs.size = some (seqObj "list" (as.map Value.ref).toArray 0) := Heap.get?_push_size _ rfl
  have ne0 : ∀ b o, h'.get? b = some o → b ≠ h'.objs.size := fun b o e => Nat.ne_of_lt (Heap.lt_size e)
  have ka : ∀ b o, h'.get? b = some o → (h'.push { cls := .type "list", data := .seq (as.map Value.ref).toArray }).get? b = some o := fun b o e => Heap.get?_push_of_some _ e
  generalize hh2 : h'.push { cls := .type "list", data := .seq (as.map Value.ref).toArray } = h2 at hob ka ⊢
  have kb : ∀ b o, s.heap.get? b = some o → h2.get? b = some o := fun b o e => ka b o (hk b o e)
  have zipR : ∀ z, z ∈ (as.map Value.ref).zip ps → ∃ (j : Nat) (t : Addr), z.1 = Value.ref t ∧ as[j]? = some t ∧ ps[j]? = some z.2 := by
    intro z hz'
    obtain ⟨j, hj⟩ := List.mem_iff_getElem?.mp hz'
    obtain ⟨j1, j2⟩ := List.getElem?_zip_eq_some.mp hj
    rw [List.getElem?_map] at j1
    cases e : as[j]? with
    | none =>
      rw [e] at j1
      cases j1
    | some t =>
      rw [e] at j1
      exact ⟨j, t, (Option.some.inj j1).symm, e, j2⟩
  have eR : PySem.W.EachIs (fun v (q : Int × Int) => ∃ (j : Nat) (t : Addr), v = Value.ref t ∧ as[j]? = some t ∧ ps[j]? = some q) (as.map Value.ref) ps :=
    PySem.W.EachIs.of_zip (by rw [List.length_map]; exact lap) zipR
  have er : PySem.W.EachIs (fun v (q : Int × Int) => ∃ bs, Reads h2 v (encP q) bs ∧ h'.objs.size ∉ bs) (as.map Value.ref) ps := by
    refine eR.mono fun v q h => ?_
    obtain ⟨j, t, rfl, e1, e2⟩ := h
    obtain ⟨q', t1, t2, g1, g2⟩ := pr j t e1
    obtain rfl : q' = q := Option.some.inj (g1.symm.trans e2)
    exact ⟨_, .tuple (ka _ _ g2) rfl rfl (.cons (.int _ _) (.cons (.int _ _) .nil)), by simp⟩
  refine PySem.W.list_sort_data (s := { s with heap := h2, toks := tk }) (A := X.A.in1) (enc := encP) (bs := ps) (vs := as.map Value.ref) hob eR er
    (PySem.W.AllAlike.of fun b b' => by simp [encP, PySem.W.alike, PySem.W.alikeAll]) (PySem.W.Sortable.tuples fun b => ⟨_, _, rfl⟩) (by omega)
    (fun b _ => by show X.A.units + 1 + 1 + 1 < cLine; omega) fun out ol oe => ?_
  have le_eq : PySem.W.dataLe false encP = leP := PySem.W.dataLe_ii (fun q : Int × Int => q.1) (fun q => q.2)
  rw [le_eq] at oe
  show EP X pins σ Q (.ref h'.objs.size) { s with heap := sortedHeap h2 h'.objs.size (as.map Value.ref) out.toArray, toks := tk }
  obtain ⟨ts, rfl, tp⟩ := each_paired (F := fun t q => ∃ j : Nat, as[j]? = some t ∧ ps[j]? = some q) (fun v q h => by
    obtain ⟨j, t, e1, e2, e3⟩ := h
    exact ⟨t, e1, j, e2, e3⟩) oe
  have kF : ∀ b o, b ≠ h'.objs.size → h2.get? b = some o → (sortedHeap h2 h'.objs.size (as.map Value.ref) (ts.map Value.ref).toArray).get? b = some o :=
    fun b o hb e => (PyProof.Rows.sortedHeap_old hb (Heap.lt_size e)).trans e
  have kS : ∀ b o, s.heap.get? b = some o → (sortedHeap h2 h'.objs.size (as.map Value.ref) (ts.map Value.ref).toArray).get? b = some o :=
    fun b o e => kF b o (ne0 _ _ (hk b o e)) (kb b o e)
  obtain ⟨eF, heF⟩ := PyProof.Rows.sortedHeap_at (vs := as.map Value.ref) (out := (ts.map Value.ref).toArray) hob
  generalize sortedHeap h2 h'.objs.size (as.map Value.ref) (ts.map Value.ref).toArray = hF at kF kS heF ⊢
  have I1 : Inv X pins σ H { s with heap := hF, toks := tk } := I.kept (t' := tk) kS
  have hn0 : H h'.objs.size = none := I.hok.fresh (Nat.le_of_lt hlt)
  have tl : ts.length = ps.length := by
    rw [← ol, List.length_map]
  have I2 : Inv X pins σ (upd H h'.objs.size (.lst (ts.map V.ref))) { s with heap := hF, toks := tk } :=
    I1.take (h' := hF) (t' := tk) (fun b ob _ e => e) (I.fpOk (Nat.le_of_lt hlt) hn0) ⟨by rw [List.length_map]; omega, ts.map Value.ref, eF, vals_refs ts, heF⟩
  obtain ⟨H2, I3, g, qt⟩ := L2.DX.takeT (P := fun b vs => ∃ (j : Nat) (q : Int × Int), as[j]? = some b ∧ ps[j]? = some q ∧ vs = [.int q.1, .int q.2]) I as _ I2 nd fun b hb => by
    obtain ⟨j, hj⟩ := List.mem_iff_getElem?.mp hb
    obtain ⟨q, t1, t2, e1, e2⟩ := pr j b hj
    have old : s.heap.objs.size ≤ b := Nat.le_of_lt (hG.above b hb)
    refine ⟨old, ?_, [.int q.1, .int q.2], ⟨j, q, hj, e1, rfl⟩, fun H3 => ⟨by show 2 ≤ sizeLine; decide, [Value.int q.1 t1, Value.int q.2 t2], .cons ⟨_, rfl⟩ (.cons ⟨_, rfl⟩ .nil), ⟨_, kF _ _ (ne0 _ _ e2) (ka _ _ e2), rfl, 0, rfl⟩⟩⟩
    rw [upd_ne (ne0 _ _ e2)]
    exact I.hok.fresh old
  refine ⟨.ref h'.objs.size, H2, I3, rfl, q H2 h'.objs.size ts (fun b o e => g b o (by rw [upd_ne (ne_of_none e hn0)]; exact e)) hn0 (g _ _ upd_same) ?_⟩
  refine Paired.mapP tp fun t q h => ?_
  obtain ⟨j, j1, j2⟩ := h
  obtain ⟨vs', ⟨i, q', i1, i2, ev⟩, hH⟩ := qt t (List.mem_of_getElem? j1)
  have eij : i = j := (List.getElem?_inj (List.getElem?_eq_some_iff.mp i1).1 nd).mp (i1.trans j1.symm)
  subst eij
  obtain rfl : q' = q := Option.some.inj (i2.symm.trans j2)
  rw [ev] at hH
  exact hH
def tSortItems (te : TE) : TE := fun σ H Q => te σ H fun x H1 => rSortItI x H1 Q
variable {e : Expr} {te : TE} {p apos cpos pos : Pos}
theorem pe_sortItems (hc : X.calm = true) (hu : X.A.units + 64 < cLine) (he : PE X e te) (hg : Gl X "sorted") (hm : X.mg "sorted" = none)
    (hv : bootBuiltins "sorted" = some (.builtin "sorted"))
    (hbase : attributeBase e "items" X.env (eval e X.env) = eval e X.env := by rfl) (hline : (apos.endLine == cpos.line) = true := by rfl)
    (hs : starEach [.Call (.Attribute e "items" apos) [] [] cpos] X.env = (false, eval (.Call (.Attribute e "items" apos) [] [] cpos) X.env) :: starEach [] X.env := by rfl) :
    PE X (.Call (.Name "sorted" p) [.Call (.Attribute e "items" apos) [] [] cpos] [] pos) (tSortItems te) := by
  refine ⟨fun pins s σ H Q I hq => ?_⟩
  refine wpAny_Call_Name_kw (ld_blt I hg hm hv ?_)
  refine PyProof.Rows.callWith_builtin1 ?_ hs rfl
  rw [hs]
  show wpAny _ _ (spliced ((false, eval (.Call (.Attribute e "items" apos) [] [] cpos) X.env) :: backTo pos (starEach [] X.env))) _ _ s
  refine Calls.spliced_cons ?_
  refine wpAny_Call_method (T := "dict") (id := "dict.items") hbase rfl hline F.plainAttrs_dict F.slot_dict_items F.type_dict_items
    (thn (he.run pins s σ H _ I hq) fun u s1 ⟨x, H1, I1, rx, d, ps, ex, hd, q⟩ => ?_)
  subst ex
  obtain rfl : u = Value.ref d := rx
  obtain ⟨hz, hs0, vs, kv, hdo⟩ := I1.hok d _ hd
  have I2 : Inv X pins σ H1 { s1 with heap := s1.heap.push { cls := .type "dict_items", data := .fields #[.ref d] } } :=
    I1.kept (t' := s1.toks) fun b ob z => Heap.get?_push_of_some _ z
  refine ⟨hdo.typeIs, hdo.mapOf.noDict, ?_⟩
  show wpAny _ _ (callWith cpos (.builtin "dict.items") [.ref d] [] []) _ X.xe s1
  refine method_meetsIn F.slot_dict_items F.entry_dict_items rfl (PySem.evalArgs_none ⟨rfl, hdo.typeIs, F.args_dict_items_1 _, _, meets_dict_items (mixKind X.prog X.w) d hs0, ⟨vs, hdo⟩, ?_⟩)
  refine Calls.spliced_nil ?_
  exact sort_items_run I2 (I1.ok.hd hc) hu hd ⟨_, Heap.get?_push_size _ rfl, rfl, rfl⟩ q
end
end Gc

/-! match over written texts, with a last case for the rest -/
namespace Gc
open PySem L2
/-- what is wanted of the cases, by the subject's value -/
abbrev TM := V → TS
structure MC (X : Cx) (cs : List MatchCase) (t : TM) : Prop where
  run : ∀ (first : Bool) (pins : List (Addr × Obj)) (s : Shared) (σ : L2.St) (H : Hp) (D : Ends) (x : V) (v : Value),
    Inv X pins σ H s → RelV x v → t x D σ H →
    wpAny (model X.prog X.w) X.A (matchCases cs X.env v first) (fun f s' => SP X pins D f s') X.xe s
def mNil : TM := fun _ D σ H => D.nx σ H
/-- case 'z': .. -/
def mStr (z : Str) (tb : TS) (r : TM) : TM := fun x D σ H => ∃ y, x = .str y ∧ if decide (y = z) = true then tb D σ H else r x D σ H
/-- case _: .. -/
def mAny (tb : TS) : TM := fun _ D σ H => tb D σ H
section
variable {X : Cx} {rest : List MatchCase} {body : List Stmt} {tb : TS} {r : TM} {z : Str} {k : Nat} {p1 p2 pos : Pos} {e : Expr} {te : TE}
theorem mc_nil : MC X [] mNil := ⟨fun _ pins s σ H D x v I _ h => wpAny_matchCases_nil ⟨σ, H, I, h⟩⟩
theorem mc_str (hb : PSs X body tb) (hr : MC X rest r) :
    MC X (⟨.MatchValue (.Constant (.str z) k p1) p2, none, body⟩ :: rest) (mStr z tb r) := by
  refine ⟨fun first pins s σ H D x v I rx h => ?_⟩
  obtain ⟨y, rfl, h⟩ := h
  refine wpAny_matchCases_cons (wpAny_matchPattern_Value ?_)
  have hq : PE X (.Constant (.str z) k p1) (tC (.str z)) := pe_str
  refine wpAny_mono (hq.run pins s σ H (fun w H' => w = .str z ∧ H' = H) I ⟨rfl, rfl⟩) (fun u s1 hu => ?_) fun _ _ q => q
  obtain ⟨w, H1, I1, rw1, rfl, rfl⟩ := hu
  refine wpAny_mono ((op_eq (X := X)) pins s1 σ _ (.str y) (.str z) v u (fun w H' => w = .bl (decide (y = z)) ∧ H' = _) I1 rx rw1 ⟨rfl, ?_, rfl⟩) (fun c s2 hc => ?_) fun _ _ q => q
  · by_cases q : y = z
    · subst q
      rw [decide_eq_true (Eq.refl _), decide_eq_true (Eq.refl _)]
    · rw [decide_eq_false q, decide_eq_false fun e => q (V.str.inj e)]
  · obtain ⟨w, H2, I2, rw2, rfl, rfl⟩ := hc
    obtain rfl : c = Value.bool (decide (y = z)) := rw2
    refine wpAny_pure ?_
    by_cases q : y = z
    · rw [decide_eq_true q] at h ⊢
      show wpAny _ _ (assignInOrder [] []) _ _ _
      refine wpAny_assignInOrder_none ?_
      exact hb.run pins s2 σ _ D I2 h
    · rw [decide_eq_false q] at h ⊢
      exact hr.run false pins s2 σ _ D (.str y) v I2 rx h
theorem mc_any (hb : PSs X body tb) : MC X (⟨.MatchAs none none p2, none, body⟩ :: rest) (mAny tb) := by
  refine ⟨fun first pins s σ H D x v I rx h => ?_⟩
  refine wpAny_matchCases_cons (wpAny_matchPattern_Capture ?_)
  show wpAny _ _ (assignInOrder [] []) _ _ _
  exact wpAny_assignInOrder_none (hb.run pins s σ H D I h)
def tMatch (te : TE) (t : TM) : TS := fun D σ H => te σ H fun x H1 => t x D σ H1
theorem ps_match {cs : List MatchCase} {t : TM} (he : PE X e te) (hc : MC X cs t) : PS X (.Match e cs pos) (tMatch te t) := by
  refine ⟨fun pins s σ H D I h => ?_⟩
  refine wpAny_Match (wpAny_mono (he.run pins s σ H _ I h) (fun v s1 hv => ?_) fun _ _ q => q)
  obtain ⟨x, H1, I1, rx, q⟩ := hv
  exact hc.run true pins s1 σ H1 D x v I1 rx q
end
end Gc

namespace Gc
open PySem PyProof.Rows L2
/-! ### commands as tuples -/
def encC : Cmd → List V
  | .down n => [.str "down", .int n]
  | .up n => [.str "up", .int n]
  | .right n => [.str "right", .int n]
  | .left n => [.str "left", .int n]
  | .home => [.str "home"]
  | .stop => [.str "end"]
def CmdAt (K : PySem.W.Frag) (H : Hp) (v : V) (c : Cmd) : Prop := ∃ a, v = .ref a ∧ SqT K H a (encC c)
def CmdsOf (K : PySem.W.Frag) (H : Hp) (xs : List V) (cs : List Cmd) : Prop := Paired (CmdAt K H) xs cs
theorem CmdAt.same {K : PySem.W.Frag} {H H' : Hp} {v : V} {c : Cmd} (e : Same H H') (h : CmdAt K H v c) : CmdAt K H' v c := by
  obtain ⟨a, e1, h1⟩ := h
  exact ⟨a, e1, seq_t e h1⟩
theorem CmdsOf.same {K : PySem.W.Frag} {H H' : Hp} {xs : List V} {cs : List Cmd} (e : Same H H') (h : CmdsOf K H xs cs) : CmdsOf K H' xs cs := Paired.mapP h fun _ _ q => q.same e
theorem CmdsOf.len {K : PySem.W.Frag} {H : Hp} {xs : List V} {cs : List Cmd} (h : CmdsOf K H xs cs) : xs.length = cs.length := Paired.length h
theorem paired_at {α β : Type} {F : α → β → Prop} : ∀ {xs : List α} {ys : List β} {i : Nat} {x : α}, Paired F xs ys → xs[i]? = some x → ∃ y, ys[i]? = some y ∧ F x y
  | _, _, _, _, .nil, h => by simp at h
  | _, _, 0, x, .cons f _, h => by
    obtain rfl := Option.some.inj h
    exact ⟨_, rfl, f⟩
  | _, _, i + 1, x, .cons _ t, h => paired_at (i := i) t h
/-! ### dicts of ints by ints -/
theorem valV_dkI : ∀ (b : Ps) (k : Int), valV (dkI b) (Sum.inl k : L2.Key) = (look b k).map V.int
  | [], k => rfl
  | q :: b, k => by
    show valV (((Sum.inl q.1 : L2.Key), V.int q.2) :: dkI b) (Sum.inl k : L2.Key) = _
    rw [look_cons]
    by_cases h : q.1 = k
    · rw [if_pos h, valV_pos (by show (Sum.inl q.1 : L2.Key) = Sum.inl k; rw [h])]
      rfl
    · rw [if_neg h, valV_neg (by intro z; exact h (Sum.inl.inj z))]
      exact valV_dkI b k
theorem putK_dkI (b : Ps) (k v : Int) : putK (dkI b) (Sum.inl k : L2.Key) (V.int v) = dkI (put b k v) := by
  have ea : ((dkI b).any fun kv => decide (kv.1 = (Sum.inl k : L2.Key))) = b.any fun q => decide (q.1 = k) := by
    unfold dkI
    rw [List.any_map]
    congr 1
    funext q
    show decide ((Sum.inl q.1 : L2.Key) = Sum.inl k) = decide (q.1 = k)
    exact decide_eq_decide.mpr ⟨Sum.inl.inj, fun h => by rw [h]⟩
  unfold putK put
  rw [ea]
  by_cases h : (b.any fun q => decide (q.1 = k)) = true
  · rw [if_pos h, if_pos h]
    unfold dkI
    rw [List.map_map, List.map_map]
    refine List.map_congr_left fun q _ => ?_
    show (if (Sum.inl q.1 : L2.Key) = Sum.inl k then ((Sum.inl q.1 : L2.Key), V.int v) else (Sum.inl q.1, V.int q.2)) = (Sum.inl (if q.1 = k then (q.1, v) else q).1, V.int (if q.1 = k then (q.1, v) else q).2)
    by_cases e : q.1 = k
    · rw [if_pos e, if_pos (by rw [e])]
    · rw [if_neg e, if_neg fun z => e (Sum.inl.inj z)]
  · rw [if_neg h, if_neg h]
    unfold dkI
    rw [List.map_append]
    rfl
theorem put_len (b : Ps) (k v : Int) : (put b k v).length ≤ b.length + 1 := by
  unfold put
  split
  · rw [List.length_map]
    exact Nat.le_succ _
  · rw [List.length_append]
    exact Nat.le_refl _
theorem req_len (b : Ps) (o v : Int) : (req b o v).length ≤ b.length + 1 := put_len b o _
end Gc

namespace Gc
open PySem L2
def top (i : Nat) : Stmt := PySem.Challenge.pw_goalcolumn_k18_hidden_forms_learned.main.body.getD i (.Pass ⟨0, 0, 0, 0⟩)
abbrev s_is_count : Stmt := top 13
abbrev s_is_command : Stmt := top 12
abbrev s_check_commands : Stmt := top 11
abbrev s_row_change : Stmt := top 17
structure TxtB (K : PySem.W.Frag) (mg : Str → Option Value) (wo wn : Addr) : Prop where
  g_WITHOUT_NUMBER : mg "WITHOUT_NUMBER" = some (.ref wo)
  g_WITH_NUMBER : mg "WITH_NUMBER" = some (.ref wn)
  tWO : ∀ H, SqT K H wo [.str "home", .str "end"]
  tWN : ∀ H, SqT K H wn [.str "down", .str "up", .str "right", .str "left"]
  isinstance : mg "isinstance" = none
  int : mg "int" = none
  bool : mg "bool" = none
  len : mg "len" = none
  enumerate : mg "enumerate" = none
  reversed : mg "reversed" = none
  sorted : mg "sorted" = none
  max : mg "max" = none
  min : mg "min" = none
def spCount : Sp := fun vs H Q _ => ∃ n : Int, vs = [.int n] ∧ 1 ≤ n ∧ Q (.bl true) H
def spIsCmd (K : PySem.W.Frag) : Sp := fun vs H Q _ => ∃ (v : V) (c : Cmd), vs = [v] ∧ CmdAt K H v c ∧ c.ok ∧ ∀ H', Same H H' → Q (.bl true) H'
def spCheck (K : PySem.W.Frag) : Sp := fun vs H Q _ => ∃ (l : Addr) (xs : List V) (cs : List Cmd), vs = [.ref l] ∧ SqL K H l xs ∧ CmdsOf K H xs cs ∧ AllOk cs ∧ cs.length ≤ 10000 ∧ ∀ H', Same H H' → Q .non H'
def spRow (K : PySem.W.Frag) : Sp := fun vs H Q _ => ∃ (v : V) (c : Cmd), vs = [v] ∧ CmdAt K H v c ∧ Q (.int c.dv) H
theorem q_in {H : Hp} {Q : VK} {x : V} {xs : List V} (h : inV x xs = true) (k : Q (.bl true) H) : Q (.bl (if (false : Bool) = true then !inV x xs else inV x xs)) H := by
  rw [if_neg Bool.false_ne_true, h]
  exact k
theorem take_snoc {α : Type} : ∀ {l : List α} {i : Nat} {x : α}, l[i]? = some x → l.take (i + 1) = l.take i ++ [x]
  | [], i, x, h => by simp at h
  | a :: l, 0, x, h => by
    obtain rfl := Option.some.inj h
    rfl
  | a :: l, i + 1, x, h => by
    have ih := take_snoc (l := l) (i := i) (x := x) h
    show a :: l.take (i + 1) = a :: l.take i ++ [x]
    rw [ih]
    rfl
def optV : Option Int → V
  | none => .non
  | some n => .int n
theorem m_no {y z : Str} {tb : TS} {r : TM} {D : Ends} {σ : L2.St} {H : Hp} (h : decide (y = z) = false) (q : r (.str y) D σ H) : mStr z tb r (.str y) D σ H := ⟨y, rfl, by rw [h]; exact iteF q⟩
theorem m_yes {y z : Str} {tb : TS} {r : TM} {D : Ends} {σ : L2.St} {H : Hp} (h : decide (y = z) = true) (q : tb D σ H) : mStr z tb r (.str y) D σ H := ⟨y, rfl, by rw [h]; exact iteT q⟩
section
variable {P : Program} {w : World} {K : PySem.W.Frag} {mg : Str → Option Value} {base : Heap} {wo wn : Addr}
theorem sc_is_count : FnScope ["number"] ["number"] (defScope s_is_count) := ⟨rfl, rfl, rfl, by decide +kernel, rfl, by decide +kernel, by decide +kernel⟩
theorem ok_is_count {f : Addr} {fd : FuncData} (F : Fun K "is_count" "is_count" s_is_count f fd) (T : TxtB K mg wo wn) : FnOk P w K mg base CX0 1 f fd ["number"] spCount := by
  refine F.ok sc_is_count (fun vs H Q E h => ?_) (fun cdv A outer s H vs Q E hr h => ?_)
  · obtain ⟨n, rfl, _⟩ := h
    rfl
  · obtain ⟨n, rfl, hn, k⟩ := h
    refine ⟨_, (pss_one (ps_ret (pe_and (pe_callB call_isi (by rfl) T.isinstance (by decide +kernel) (pa_cons (pv 0) (pa_cons (pe_bltn (v := .ty "int") (u := .type "int") (by rfl) T.int (by decide +kernel) rfl) pa_nil))) (pe_and (pe_not (pe_callB call_isi (by rfl) T.isinstance (by decide +kernel) (pa_cons (pv 0) (pa_cons (pe_bltn (v := .ty "bool") (u := .type "bool") (by rfl) T.bool (by decide +kernel) rfl) pa_nil)))) (pe_one (pe_cmpR op_ge (pv 0) pe_int (nomark _))))))), ?_⟩
    refine ⟨_, rfl, _, _, _, _, _, rfl, .ty "int", .base (.int n), kit_ty (show kitB "int" "int" = some true by decide +kernel), _, rfl, iteT ?_⟩
    refine ⟨_, rfl, _, _, _, _, _, rfl, .ty "bool", .base (.int n), kit_ty (show kitB "int" "bool" = some false by decide +kernel), _, rfl, _, rfl, iteT ?_⟩
    refine ⟨_, rfl, _, _, rfl, rfl, ?_⟩
    show Q (.bl (decide (1 ≤ n))) H
    rw [decide_eq_true hn]
    exact k
theorem sc_is_command : FnScope ["command"] ["command"] (defScope s_is_command) := ⟨rfl, rfl, rfl, by decide +kernel, rfl, by decide +kernel, by decide +kernel⟩
theorem ok_is_command {f : Addr} {fd : FuncData} (F : Fun K "is_command" "is_command" s_is_command f fd) (T : TxtB K mg wo wn) (c_is_count : Cal P w K mg base 1 "is_count" spCount) : FnOk P w K mg base CX0 2 f fd ["command"] (spIsCmd K) := by
  refine F.ok sc_is_command (fun vs H Q E h => ?_) (fun cdv A outer s H vs Q E hr h => ?_)
  · obtain ⟨v, c, rfl, _⟩ := h
    rfl
  · obtain ⟨v, c, rfl, ⟨a, rfl, ha⟩, hc, k⟩ := h
    refine ⟨_, (pss_cons (ps_if (pt_cmpR op_eq (pe_callB call_len_seq (by rfl) T.len (by decide +kernel) (pa_cons (pv 0) pa_nil)) pe_int (nomark _)) (pss_one (ps_ret (pe_cmpR op_in_seq (pe_ix ix_tup (pv 0) pe_int (fun _ _ => rfl)) (pe_glob (v := .ref wo) (by rfl) T.g_WITHOUT_NUMBER rfl) (by rfl)))) pss_nil)
      (pss_one (ps_ret (pe_and (pe_cmpR op_eq (pe_callB call_len_seq (by rfl) T.len (by decide +kernel) (pa_cons (pv 0) pa_nil)) pe_int (nomark _)) (pe_and (pe_cmpR op_in_seq (pe_ix ix_tup (pv 0) pe_int (fun _ _ => rfl)) (pe_glob (v := .ref wn) (by rfl) T.g_WITH_NUMBER rfl) (by rfl)) (pe_one (pe_cal c_is_count hr (by decide) (by rfl) (pa_cons (pe_ix ix_tup (pv 0) pe_int (fun _ _ => rfl)) pa_nil)))))))), ?_⟩
    have k0 := k H (Same.refl H)
    cases c with
    | down n =>
      refine ⟨_, rfl, a, _, rfl, .inr ha, rfl, _, rfl, iteF ?_⟩
      refine ⟨_, rfl, a, _, rfl, .inr ha, rfl, _, rfl, iteT ?_⟩
      refine ⟨_, rfl, a, _, 0, _, rfl, rfl, ha, rfl, wn, _, rfl, .inr (T.tWN _), rfl, rfl, true, by decide +kernel, iteT ?_⟩
      exact ⟨_, rfl, a, _, 1, _, rfl, rfl, ha, rfl, n, rfl, hc, k0⟩
    | up n =>
      refine ⟨_, rfl, a, _, rfl, .inr ha, rfl, _, rfl, iteF ?_⟩
      refine ⟨_, rfl, a, _, rfl, .inr ha, rfl, _, rfl, iteT ?_⟩
      refine ⟨_, rfl, a, _, 0, _, rfl, rfl, ha, rfl, wn, _, rfl, .inr (T.tWN _), rfl, rfl, true, by decide +kernel, iteT ?_⟩
      exact ⟨_, rfl, a, _, 1, _, rfl, rfl, ha, rfl, n, rfl, hc, k0⟩
    | right n =>
      refine ⟨_, rfl, a, _, rfl, .inr ha, rfl, _, rfl, iteF ?_⟩
      refine ⟨_, rfl, a, _, rfl, .inr ha, rfl, _, rfl, iteT ?_⟩
      refine ⟨_, rfl, a, _, 0, _, rfl, rfl, ha, rfl, wn, _, rfl, .inr (T.tWN _), rfl, rfl, true, by decide +kernel, iteT ?_⟩
      exact ⟨_, rfl, a, _, 1, _, rfl, rfl, ha, rfl, n, rfl, hc, k0⟩
    | left n =>
      refine ⟨_, rfl, a, _, rfl, .inr ha, rfl, _, rfl, iteF ?_⟩
      refine ⟨_, rfl, a, _, rfl, .inr ha, rfl, _, rfl, iteT ?_⟩
      refine ⟨_, rfl, a, _, 0, _, rfl, rfl, ha, rfl, wn, _, rfl, .inr (T.tWN _), rfl, rfl, true, by decide +kernel, iteT ?_⟩
      exact ⟨_, rfl, a, _, 1, _, rfl, rfl, ha, rfl, n, rfl, hc, k0⟩
    | home =>
      refine ⟨_, rfl, a, _, rfl, .inr ha, rfl, _, rfl, iteT ?_⟩
      refine ⟨_, rfl, a, _, 0, _, rfl, rfl, ha, rfl, wo, _, rfl, .inr (T.tWO _), rfl, rfl, ?_⟩
      exact q_in (by decide +kernel) k0
    | stop =>
      refine ⟨_, rfl, a, _, rfl, .inr ha, rfl, _, rfl, iteT ?_⟩
      refine ⟨_, rfl, a, _, 0, _, rfl, rfl, ha, rfl, wo, _, rfl, .inr (T.tWO _), rfl, rfl, ?_⟩
      exact q_in (by decide +kernel) k0
theorem sc_row_change : FnScope ["command"] ["command"] (defScope s_row_change) := ⟨rfl, rfl, rfl, by decide +kernel, rfl, by decide +kernel, by decide +kernel⟩
theorem ok_row_change {f : Addr} {fd : FuncData} (F : Fun K "row_change" "row_change" s_row_change f fd) : FnOk P w K mg base CX0 1 f fd ["command"] (spRow K) := by
  refine F.ok sc_row_change (fun vs H Q E h => ?_) (fun cdv A outer s H vs Q E hr h => ?_)
  · obtain ⟨v, c, rfl, _⟩ := h
    rfl
  · obtain ⟨v, c, rfl, ⟨a, rfl, ha⟩, k⟩ := h
    refine ⟨_, (pss_cons (ps_if (pt_cmpR op_eq (pe_ix ix_tup (pv 0) pe_int (fun _ _ => rfl)) pe_str (nomark _)) (pss_one (ps_ret (pe_ix ix_tup (pv 0) pe_int (fun _ _ => rfl)))) pss_nil)
      (pss_cons (ps_if (pt_cmpR op_eq (pe_ix ix_tup (pv 0) pe_int (fun _ _ => rfl)) pe_str (nomark _)) (pss_one (ps_ret (pe_un un_neg (pe_ix ix_tup (pv 0) pe_int (fun _ _ => rfl))))) pss_nil)
      (pss_one (ps_ret pe_int)))), ?_⟩
    cases c with
    | down n =>
      refine ⟨_, rfl, a, _, 0, _, rfl, rfl, ha, rfl, rfl, true, by decide +kernel, iteT ?_⟩
      exact ⟨_, rfl, a, _, 1, _, rfl, rfl, ha, rfl, k⟩
    | up n =>
      refine ⟨_, rfl, a, _, 0, _, rfl, rfl, ha, rfl, rfl, false, by decide +kernel, iteF ?_⟩
      refine ⟨_, rfl, a, _, 0, _, rfl, rfl, ha, rfl, rfl, true, by decide +kernel, iteT ?_⟩
      exact ⟨_, rfl, a, _, 1, _, rfl, rfl, ha, rfl, n, rfl, k⟩
    | right n =>
      refine ⟨_, rfl, a, _, 0, _, rfl, rfl, ha, rfl, rfl, false, by decide +kernel, iteF ?_⟩
      refine ⟨_, rfl, a, _, 0, _, rfl, rfl, ha, rfl, rfl, false, by decide +kernel, iteF ?_⟩
      exact k
    | left n =>
      refine ⟨_, rfl, a, _, 0, _, rfl, rfl, ha, rfl, rfl, false, by decide +kernel, iteF ?_⟩
      refine ⟨_, rfl, a, _, 0, _, rfl, rfl, ha, rfl, rfl, false, by decide +kernel, iteF ?_⟩
      exact k
    | home =>
      refine ⟨_, rfl, a, _, 0, _, rfl, rfl, ha, rfl, rfl, false, by decide +kernel, iteF ?_⟩
      refine ⟨_, rfl, a, _, 0, _, rfl, rfl, ha, rfl, rfl, false, by decide +kernel, iteF ?_⟩
      exact k
    | stop =>
      refine ⟨_, rfl, a, _, 0, _, rfl, rfl, ha, rfl, rfl, false, by decide +kernel, iteF ?_⟩
      refine ⟨_, rfl, a, _, 0, _, rfl, rfl, ha, rfl, rfl, false, by decide +kernel, iteF ?_⟩
      exact k
theorem sc_check_commands : FnScope ["commands", "index", "command"] ["commands"] (defScope s_check_commands) := ⟨rfl, rfl, rfl, by decide +kernel, rfl, by decide +kernel, by decide +kernel⟩
theorem ok_check_commands {f : Addr} {fd : FuncData} (F : Fun K "check_commands" "check_commands" s_check_commands f fd) (T : TxtB K mg wo wn) (c_is_command : Cal P w K mg base 2 "is_command" (spIsCmd K)) : FnOk P w K mg base CX0 3 f fd ["commands"] (spCheck K) := by
  refine F.ok sc_check_commands (fun vs H Q E h => ?_) (fun cdv A outer s H vs Q E hr h => ?_)
  · obtain ⟨l, xs, cs, rfl, _⟩ := h
    rfl
  · obtain ⟨l, xs, cs, rfl, hl, hcs, hk, hn, k⟩ := h
    refine ⟨_, (pss_one (ps_for PassesOwn.never rfl (pi_enum (by rfl) T.enumerate (pa_cons (pv 0) pa_nil)) (pg_tup rfl (pgs_cons (pg_name (i := 1) sc_check_commands.nd rfl (Or.inl rfl)) (pgs_cons (pg_name (i := 2) sc_check_commands.nd rfl (Or.inl rfl)) pgs_nil))) (pss_one (ps_if (pt_not (pt_val (pe_cal c_is_command hr (by decide) (by rfl) (pa_cons (pv 2) pa_nil)))) (pss_one ps_never) pss_nil)))), ?_⟩
    refine ⟨_, rfl, l, xs, rfl, hl, for_it (walk_enum (K := K) (a := l) (xs := xs)) (fun i σ H' => ∃ v1 v2 : Option V, σ = [some (.ref l), v1, v2] ∧ Same H H')
      ⟨none, none, rfl, Same.refl H⟩ (fun i σ H' _ ⟨_, _, _, e⟩ => e.seq hl) (fun i x σ H1 H2 hi h y => ?_) (fun σ H1 h => ?_)⟩
    · obtain ⟨v1, v2, rfl, e⟩ := h
      obtain ⟨T1, x1, y1, rfl, nT, rfl, e1, e2⟩ := y
      obtain ⟨c, hc, hca⟩ := paired_at hcs e2
      have eT : Same H (upd H1 T1 (.tup [x1, y1])) := same_upd e nT
      refine ⟨T1, _, rfl, SqT.of upd_same, rfl, _, _, rfl, _, _, rfl, rfl, ?_⟩
      refine ⟨_, rfl, y1, c, rfl, hca.same eT, hk c (List.mem_of_getElem? hc), fun H3 e3 => ⟨_, rfl, iteF ?_⟩⟩
      exact ⟨_, _, rfl, eT.trans e3⟩
    · obtain ⟨v1, v2, rfl, e⟩ := h
      exact k _ e
end
end Gc

/-! heaps, lengths of boxes, dicts out of pairs -/
namespace Gc
open PySem L2
theorem same_freeU {H H' : Hp} {d : Addr} {o : HO} (e : Same H H') (h : H d = none) : Same H (upd H' d o) := fun b u hb => by
  rw [upd_ne (ne_of_none hb h)]
  exact e b u hb
theorem go_len : ∀ {r : List Cmd} {off need : Int} {b : Ps} {st : Option Int} {b' : Ps}, go r off need b = some (st, b') → b'.length ≤ b.length + r.length
  | [], _, _, b, _, _, h => by cases h; exact Nat.le_refl _
  | .home :: r, _, _, b, _, _, h => by cases h
  | .stop :: r, _, _, b, _, _, h => by cases h; exact Nat.le_add_right _ _
  | .right n :: r, off, need, b, st, b', h => by
    have q := req_len b off need
    rw [List.length_cons]
    simp only [go] at h
    split at h
    · have := go_len h
      omega
    · cases h
      omega
  | .left n :: r, off, need, b, st, b', h => by
    have q := req_len b off (need + n)
    rw [List.length_cons]
    simp only [go] at h
    have := go_len h
    omega
  | .down n :: r, off, need, b, st, b', h => by
    rw [List.length_cons]
    simp only [go] at h
    have := go_len h
    omega
  | .up n :: r, off, need, b, st, b', h => by
    rw [List.length_cons]
    simp only [go] at h
    have := go_len h
    omega
theorem box_len {cs : List Cmd} {goal : Int} {st : Option Int} {L : Ps} (h : boxM cs goal = some (st, L)) : L.length ≤ cs.length := by
  unfold boxM at h
  cases e : go cs.reverse (last cs) goal [] with
  | none =>
    rw [e] at h
    cases h
  | some x =>
    rw [e] at h
    obtain ⟨st', b'⟩ := x
    have q := go_len e
    have h' : (st', b'.mergeSort leK) = (st, L) := Option.some.inj h
    cases h'
    rw [List.length_mergeSort]
    rw [List.length_reverse, List.length_nil] at q
    omega
theorem merge_dkI : ∀ (b acc : Ps), (keys acc ++ keys b).Nodup → mergeK (dkI acc) (dkI b) = dkI (acc ++ b)
  | [], acc, _ => by rw [List.append_nil]; rfl
  | q :: b, acc, h => by
    have nq : q.1 ∉ keys acc := fun z => by
      have := (List.nodup_append.mp h).2.2 q.1 z q.1 List.mem_cons_self
      exact this rfl
    show mergeK (putK (dkI acc) (Sum.inl q.1 : L2.Key) (.int q.2)) (dkI b) = _
    rw [putK_dkI]
    have e : put acc q.1 q.2 = acc ++ [q] := by
      unfold put
      rw [if_neg fun z => nq ((any_key acc q.1).mp z)]
    rw [e, merge_dkI b (acc ++ [q]) (by
      have e2 : keys (acc ++ [q]) ++ keys b = keys acc ++ keys (q :: b) := by
        unfold keys
        simp
      rw [e2]
      exact h), List.append_assoc]
    rfl
theorem paired_dkI {K : PySem.W.Frag} {H : Hp} : ∀ {ps : List Addr} {qs : Ps}, Paired (fun (p : Addr) (q : Int × Int) => H p = some (.tup [.int q.1, .int q.2])) ps qs → Paired (fun (p : Addr) (kv : L2.Key × V) => SqT K H p [kV kv.1, kv.2]) ps (dkI qs)
  | _, _, .nil => .nil
  | _, _, .cons h t => .cons (SqT.of h) (paired_dkI t)
theorem ref_at {ts : List Addr} {i : Nat} {x : V} (h : (ts.map V.ref)[i]? = some x) : ∃ t, ts[i]? = some t ∧ x = .ref t := by
  rw [List.getElem?_map] at h
  cases e : ts[i]? with
  | none =>
    rw [e] at h
    cases h
  | some t =>
    rw [e] at h
    exact ⟨t, rfl, (Option.some.inj h).symm⟩
theorem dki_len (b : Ps) : (dkI b).length = b.length := List.length_map ..
end Gc

/-! what repr wants of the data that the laws show -/
namespace Gc
open PySem PySem.Spec PyProof.Rows L2
def Sml (x : Int) : Prop := x.natAbs < 2 ^ 120
theorem sml_log {x : Int} (h : Sml x) : x.natAbs.log2 < 121 := Nat.lt_of_lt_of_le (PySem.Flt.log2_lt_of (k := 121) (by decide) (Nat.lt_trans h (by decide))) (Nat.le_refl _)
theorem sml_show {x : Int} (h : Sml x) : (PyData.int x).showable = true := by
  have := sml_log h
  simp only [PyData.showable, decide_eq_true_eq]
  omega
theorem sml_short {x : Int} (h : Sml x) : (PyData.int x).leavesShort 130 = true := by
  have e := int_text_length_le (k := 121) (by decide) (sml_log h)
  have e' : (PyData.shown (.int x)).length ≤ 130 := by
    have e2 : (PyData.shown (.int x)).length = (toString x).length := by
      show (Str.ofString (toString x)).length = _
      rw [PySem.ofString_length]
    omega
  simpa only [PyData.leavesShort, decide_eq_true_eq] using e'
theorem sml_weight {x : Int} (h : Sml x) : (PyData.int x).weight ≤ 122 := by
  have := sml_log h
  simp only [PyData.weight]
  split <;> omega
def Ok0 (d : PyData) : Prop := d.showable = true ∧ d.hasDict = false ∧ d.leavesShort 130 = true
def Ok0s (ds : List PyData) : Prop := PyData.showableAll ds = true ∧ PyData.hasDictAll ds = false ∧ PyData.leavesShortAll 130 ds = true
theorem ok0_int {x : Int} (h : Sml x) : Ok0 (.int x) := ⟨sml_show h, by simp only [PyData.hasDict], sml_short h⟩
theorem ok0_nil : Ok0s [] := ⟨by simp only [PyData.showableAll], by simp only [PyData.hasDictAll], by simp only [PyData.leavesShortAll]⟩
theorem ok0_cons {d : PyData} {ds : List PyData} (h : Ok0 d) (t : Ok0s ds) : Ok0s (d :: ds) := by
  obtain ⟨a1, a2, a3⟩ := h
  obtain ⟨b1, b2, b3⟩ := t
  refine ⟨?_, ?_, ?_⟩
  · simp only [PyData.showableAll, a1, b1, Bool.and_self]
  · simp only [PyData.hasDictAll, a2, b2, Bool.or_self]
  · simp only [PyData.leavesShortAll, a3, b3, Bool.and_self]
theorem ok0_list {ds : List PyData} (h : Ok0s ds) : Ok0 (.list ds) := by
  obtain ⟨b1, b2, b3⟩ := h
  refine ⟨?_, ?_, ?_⟩
  · simpa only [PyData.showable] using b1
  · simpa only [PyData.hasDict] using b2
  · simpa only [PyData.leavesShort] using b3
theorem ok0_tup {ds : List PyData} (h : Ok0s ds) : Ok0 (.tuple ds) := by
  obtain ⟨b1, b2, b3⟩ := h
  refine ⟨?_, ?_, ?_⟩
  · simpa only [PyData.showable] using b1
  · simpa only [PyData.hasDict] using b2
  · simpa only [PyData.leavesShort] using b3
theorem ok0_len {d : PyData} (h : Ok0 d) (w : d.weight ≤ 100000) : d.shown.length ≤ sizeLine := by
  have e := PyData.shown_le 130 (by decide) d h.2.2
  rw [sizeLine_eq]
  have : (130 + 2) * d.weight ≤ (130 + 2) * 100000 := Nat.mul_le_mul_left _ w
  omega
theorem ok0_ints : ∀ {T : List Int}, (∀ x ∈ T, Sml x) → Ok0s (T.map PyData.int)
  | [], _ => ok0_nil
  | x :: T, h => ok0_cons (ok0_int (h x List.mem_cons_self)) (ok0_ints fun y hy => h y (List.mem_cons_of_mem _ hy))
theorem weight_ints : ∀ {T : List Int}, (∀ x ∈ T, Sml x) → PyData.weightAll (T.map PyData.int) ≤ 123 * T.length
  | [], _ => by simp [PyData.weightAll]
  | x :: T, h => by
    have a := sml_weight (h x List.mem_cons_self)
    have b := weight_ints (T := T) fun y hy => h y (List.mem_cons_of_mem _ hy)
    simp only [List.map_cons, PyData.weightAll, List.length_cons]
    omega
theorem deep_ints : ∀ T : List Int, PyData.depthAll (T.map PyData.int) = 0
  | [] => by simp [PyData.depthAll]
  | x :: T => by simp [PyData.depthAll, PyData.depth, deep_ints T]
/-- a text and a cursor -/
def textD (T : List Int) (r a : Int) : PyData := .tuple [.list (T.map PyData.int), .tuple [.int r, .int a]]
theorem textD_ok {T : List Int} {r a : Int} (hT : ∀ x ∈ T, Sml x) (hr : Sml r) (ha : Sml a) (l : T.length ≤ 500) : (textD T r a).showable = true ∧ (textD T r a).hasDict = false ∧ (textD T r a).depth ≤ 60 ∧ (textD T r a).shown.length ≤ sizeLine := by
  have o : Ok0 (textD T r a) := ok0_tup (ok0_cons (ok0_list (ok0_ints hT)) (ok0_cons (ok0_tup (ok0_cons (ok0_int hr) (ok0_cons (ok0_int ha) ok0_nil))) ok0_nil))
  refine ⟨o.1, o.2.1, ?_, ok0_len o ?_⟩
  · simp only [textD, PyData.depth, PyData.depthAll, deep_ints]
    omega
  · have a1 := weight_ints hT
    have a2 := sml_weight hr
    have a3 := sml_weight ha
    simp only [PyData.weight] at a2 a3
    simp only [textD, PyData.weight, PyData.weightAll]
    omega
/-! ### commands as data -/
def cmdD : Cmd → PyData
  | .down n => .tuple [.str "down", .int n]
  | .up n => .tuple [.str "up", .int n]
  | .right n => .tuple [.str "right", .int n]
  | .left n => .tuple [.str "left", .int n]
  | .home => .tuple [.str "home"]
  | .stop => .tuple [.str "end"]
theorem CmdAt.dp {K : PySem.W.Frag} {H : Hp} {v : V} {c : Cmd} (h : CmdAt K H v c) : Dp K H v (cmdD c) := by
  obtain ⟨a, rfl, h⟩ := h
  cases c with
  | down n => exact .tup h (.cons (.str _) (.cons (.int n) .nil))
  | up n => exact .tup h (.cons (.str _) (.cons (.int n) .nil))
  | right n => exact .tup h (.cons (.str _) (.cons (.int n) .nil))
  | left n => exact .tup h (.cons (.str _) (.cons (.int n) .nil))
  | home => exact .tup h (.cons (.str _) .nil)
  | stop => exact .tup h (.cons (.str _) .nil)
theorem CmdsOf.dp {K : PySem.W.Frag} {H : Hp} : ∀ {xs : List V} {cs : List Cmd}, CmdsOf K H xs cs → DpAll K H xs (cs.map cmdD)
  | _, _, .nil => .nil
  | _, _, .cons h t => .cons h.dp (CmdsOf.dp t)
def CSml : Cmd → Prop
  | .down n => Sml n
  | .up n => Sml n
  | .right n => Sml n
  | .left n => Sml n
  | _ => True
theorem ok0_str {x : Str} (h : (PyData.str x).leavesShort 130 = true) : Ok0 (.str x) := ⟨by simp only [PyData.showable], by simp only [PyData.hasDict], h⟩
theorem cmdD_ok {c : Cmd} (h : CSml c) : Ok0 (cmdD c) ∧ (cmdD c).weight ≤ 200 ∧ (cmdD c).depth ≤ 5 := by
  cases c with
  | down n =>
    have w := sml_weight h
    refine ⟨ok0_tup (ok0_cons (ok0_str (by decide +kernel)) (ok0_cons (ok0_int h) ok0_nil)), ?_, by simp [cmdD, PyData.depth, PyData.depthAll]⟩
    have e : (PyData.str "down").weight = 4 := by decide +kernel
    simp only [cmdD, PyData.weight, PyData.weightAll] at w e ⊢
    omega
  | up n =>
    have w := sml_weight h
    refine ⟨ok0_tup (ok0_cons (ok0_str (by decide +kernel)) (ok0_cons (ok0_int h) ok0_nil)), ?_, by simp [cmdD, PyData.depth, PyData.depthAll]⟩
    have e : (PyData.str "up").weight = 2 := by decide +kernel
    simp only [cmdD, PyData.weight, PyData.weightAll] at w e ⊢
    omega
  | right n =>
    have w := sml_weight h
    refine ⟨ok0_tup (ok0_cons (ok0_str (by decide +kernel)) (ok0_cons (ok0_int h) ok0_nil)), ?_, by simp [cmdD, PyData.depth, PyData.depthAll]⟩
    have e : (PyData.str "right").weight = 5 := by decide +kernel
    simp only [cmdD, PyData.weight, PyData.weightAll] at w e ⊢
    omega
  | left n =>
    have w := sml_weight h
    refine ⟨ok0_tup (ok0_cons (ok0_str (by decide +kernel)) (ok0_cons (ok0_int h) ok0_nil)), ?_, by simp [cmdD, PyData.depth, PyData.depthAll]⟩
    have e : (PyData.str "left").weight = 4 := by decide +kernel
    simp only [cmdD, PyData.weight, PyData.weightAll] at w e ⊢
    omega
  | home => exact ⟨ok0_tup (ok0_cons (ok0_str (by decide +kernel)) ok0_nil), by decide +kernel, by simp [cmdD, PyData.depth, PyData.depthAll]⟩
  | stop => exact ⟨ok0_tup (ok0_cons (ok0_str (by decide +kernel)) ok0_nil), by decide +kernel, by simp [cmdD, PyData.depth, PyData.depthAll]⟩
theorem cmds_ok0 : ∀ {cs : List Cmd}, (∀ c ∈ cs, CSml c) → Ok0s (cs.map cmdD) ∧ PyData.weightAll (cs.map cmdD) ≤ 201 * cs.length ∧ PyData.depthAll (cs.map cmdD) ≤ 5
  | [], _ => ⟨ok0_nil, by simp [PyData.weightAll], by simp [PyData.depthAll]⟩
  | c :: cs, h => by
    obtain ⟨a1, a2, a3⟩ := cmdD_ok (h c List.mem_cons_self)
    obtain ⟨b1, b2, b3⟩ := cmds_ok0 (cs := cs) fun d hd => h d (List.mem_cons_of_mem _ hd)
    refine ⟨ok0_cons a1 b1, ?_, ?_⟩
    · simp only [List.map_cons, PyData.weightAll, List.length_cons]
      omega
    · simp only [List.map_cons, PyData.depthAll]
      omega
theorem cmds_ok {cs : List Cmd} (h : ∀ c ∈ cs, CSml c) (l : cs.length ≤ 300) : (PyData.list (cs.map cmdD)).showable = true ∧ (PyData.list (cs.map cmdD)).hasDict = false ∧ (PyData.list (cs.map cmdD)).depth ≤ 60 ∧ (PyData.list (cs.map cmdD)).shown.length ≤ sizeLine := by
  obtain ⟨a1, a2, a3⟩ := cmds_ok0 h
  have o := ok0_list a1
  refine ⟨o.1, o.2.1, ?_, ok0_len o ?_⟩
  · simp only [PyData.depth]
    omega
  · simp only [PyData.weight]
    omega
/-! ### boxes as data -/
def optD : Option Int → PyData
  | none => .none
  | some n => .int n
def pairD (q : Int × Int) : PyData := .tuple [.int q.1, .int q.2]
def boxD : Option (Option Int × Ps) → PyData
  | none => .none
  | some x => .tuple [optD x.1, .list (x.2.map pairD)]
def BSml : Option (Option Int × Ps) → Prop
  | none => True
  | some x => (∀ n, x.1 = some n → Sml n) ∧ ∀ q ∈ x.2, Sml q.1 ∧ Sml q.2
theorem ok0_none : Ok0 .none := ⟨by simp only [PyData.showable], by simp only [PyData.hasDict], by simp only [PyData.leavesShort]⟩
theorem pairs_ok0 : ∀ {L : Ps}, (∀ q ∈ L, Sml q.1 ∧ Sml q.2) → Ok0s (L.map pairD) ∧ PyData.weightAll (L.map pairD) ≤ 247 * L.length ∧ PyData.depthAll (L.map pairD) ≤ 5
  | [], _ => ⟨ok0_nil, by simp [PyData.weightAll], by simp [PyData.depthAll]⟩
  | q :: L, h => by
    obtain ⟨a, b⟩ := h q List.mem_cons_self
    obtain ⟨c1, c2, c3⟩ := pairs_ok0 (L := L) fun p hp => h p (List.mem_cons_of_mem _ hp)
    have wa := sml_weight a
    have wb := sml_weight b
    refine ⟨ok0_cons (ok0_tup (ok0_cons (ok0_int a) (ok0_cons (ok0_int b) ok0_nil))) c1, ?_, ?_⟩
    · simp only [PyData.weight] at wa wb
      simp only [List.map_cons, pairD, PyData.weight, PyData.weightAll, List.length_cons] at c2 ⊢
      omega
    · simp only [List.map_cons, pairD, PyData.depth, PyData.depthAll] at c3 ⊢
      omega
theorem boxD_ok0 {o : Option (Option Int × Ps)} {n : Nat} (h : BSml o) (l : ∀ x, o = some x → x.2.length ≤ n) : Ok0 (boxD o) ∧ (boxD o).weight ≤ 247 * n + 200 ∧ (boxD o).depth ≤ 10 := by
  cases o with
  | none => exact ⟨ok0_none, by simp [boxD, PyData.weight], by simp [boxD, PyData.depth]⟩
  | some x =>
    obtain ⟨st, L⟩ := x
    obtain ⟨h1, h2⟩ := h
    have h2' : ∀ q ∈ L, Sml q.1 ∧ Sml q.2 := h2
    obtain ⟨c1, c2, c3⟩ := pairs_ok0 h2'
    have ln : L.length ≤ n := l _ rfl
    have o1 : Ok0 (optD st) ∧ (optD st).weight ≤ 122 ∧ (optD st).depth = 0 := by
      cases st with
      | none => exact ⟨ok0_none, by simp [optD, PyData.weight], by simp [optD, PyData.depth]⟩
      | some n => exact ⟨ok0_int (h1 n rfl), sml_weight (h1 n rfl), by simp [optD, PyData.depth]⟩
    obtain ⟨d1, d2, d3⟩ := o1
    refine ⟨ok0_tup (ok0_cons d1 (ok0_cons (ok0_list c1) ok0_nil)), ?_, ?_⟩
    · have m : 247 * L.length ≤ 247 * n := Nat.mul_le_mul_left _ ln
      simp only [boxD, PyData.weight, PyData.weightAll]
      omega
    · simp only [boxD, PyData.depth, PyData.depthAll]
      omega
theorem boxes_ok0 {n : Nat} : ∀ {os : List (Option (Option Int × Ps))}, (∀ o ∈ os, BSml o ∧ ∀ x, o = some x → x.2.length ≤ n) → Ok0s (os.map boxD) ∧ PyData.weightAll (os.map boxD) ≤ (247 * n + 201) * os.length ∧ PyData.depthAll (os.map boxD) ≤ 10
  | [], _ => ⟨ok0_nil, by simp [PyData.weightAll], by simp [PyData.depthAll]⟩
  | o :: os, h => by
    obtain ⟨a, b⟩ := h o List.mem_cons_self
    obtain ⟨c1, c2, c3⟩ := boxD_ok0 a b
    obtain ⟨d1, d2, d3⟩ := boxes_ok0 (os := os) fun p hp => h p (List.mem_cons_of_mem _ hp)
    refine ⟨ok0_cons c1 d1, ?_, ?_⟩
    · rw [List.map_cons, List.length_cons, Nat.mul_succ]
      simp only [PyData.weightAll]
      omega
    · simp only [List.map_cons, PyData.depthAll]
      omega
/-- a list of at most ten boxes of at most thirty lines each -/
theorem boxes_ok {os : List (Option (Option Int × Ps))} (h : ∀ o ∈ os, BSml o ∧ ∀ x, o = some x → x.2.length ≤ 30) (l : os.length ≤ 10) :
    (PyData.list (os.map boxD)).showable = true ∧ (PyData.list (os.map boxD)).hasDict = false ∧ (PyData.list (os.map boxD)).depth ≤ 60 ∧ (PyData.list (os.map boxD)).shown.length ≤ sizeLine := by
  obtain ⟨a1, a2, a3⟩ := boxes_ok0 h
  have o := ok0_list a1
  refine ⟨o.1, o.2.1, ?_, ok0_len o ?_⟩
  · simp only [PyData.depth]
    omega
  · have m : (247 * 30 + 201) * os.length ≤ (247 * 30 + 201) * 10 := Nat.mul_le_mul_left _ l
    simp only [PyData.weight]
    omega
end Gc

/-! small pieces that many laws use -/
namespace Gc
open PySem L2
theorem lt_line {n : Nat} (h : n ≤ 100000) : n < sizeLine := by
  rw [sizeLine_eq]
  omega
theorem tru_seq {K : PySem.W.Frag} {H : Hp} {l : Addr} {xs : List V} (h : SqL K H l xs) : TruV K (.ref l) H (!xs.isEmpty) := .inl ⟨xs, h, rfl⟩
theorem takeS {α : Type} : ∀ {l : List α} {i : Nat} {x : α}, l[i]? = some x → l.take (i + 1) = l.take i ++ [x]
  | [], i, x, h => by simp at h
  | a :: l, 0, x, h => by
    obtain rfl := Option.some.inj h
    rfl
  | a :: l, i + 1, x, h => by
    have ih := takeS (l := l) (i := i) (x := x) h
    show a :: l.take (i + 1) = a :: l.take i ++ [x]
    rw [ih]
    rfl
theorem pairS {α β : Type} {F : α → β → Prop} : ∀ {xs : List α} {ys : List β} {x : α} {y : β}, Paired F xs ys → F x y → Paired F (xs ++ [x]) (ys ++ [y])
  | _, _, _, _, .nil, h => .cons h .nil
  | _, _, _, _, .cons f t, h => .cons f (pairS t h)
/-- a new object, told apart -/
theorem new_same {H : Hp} {p : Addr} {o : HO} (h : H p = none) : Same H (upd H p o) := fun b u hb => by
  rw [upd_ne (ne_of_none hb h)]
  exact hb
/-- a list is written; commands stand -/
theorem CmdsOf.atL {K : PySem.W.Frag} {H : Hp} {l : Addr} {ys zs : List V} {xs : List V} {cs : List Cmd} (hl : H l = some (.lst ys)) (h : CmdsOf K H xs cs) : CmdsOf K (upd H l (.lst zs)) xs cs := Paired.mapP h fun _ _ q => by
  obtain ⟨a, e1, h1⟩ := q
  refine ⟨a, e1, ?_⟩
  rcases h1 with (z | ⟨o, z⟩) | z
  · exact .inl (.inl (by rw [upd_ne (ne_of z hl (by intro q; cases q))]; exact z))
  · exact .inl (.inr ⟨o, by rw [upd_ne (ne_of z hl (by intro q; cases q))]; exact z⟩)
  · exact .inr z
end Gc
namespace Gc
open PySem L2
def nameC : Cmd → Str
  | .down _ => "down"
  | .up _ => "up"
  | .right _ => "right"
  | .left _ => "left"
  | .home => "home"
  | .stop => "end"
theorem enc_at (c : Cmd) : atI (encC c) 0 = some (.str (nameC c)) := by cases c <;> rfl
theorem getK {H : Hp} {p : Addr} {kvs : List (L2.Key × V)} {k : Str} {v : V} (h : H p = some (.dK kvs)) (e : valV kvs (.inr k : L2.Key) = some v) : DGet H p (.str k) (some v) := e ▸ DGet.k (k := .inr k) h
end Gc
namespace Gc
open PySem L2
/-! slices by places -/
theorem cutHi {xs : List V} {n : Nat} {z : Int} (e : z = (n : Int)) (h : n ≤ xs.length) : cutV xs none (some z) = xs.take n := by
  subst e
  unfold cutV
  rw [HT.sIx_none, HT.sIx_nat, List.drop_zero, Nat.sub_zero]
  congr 1
  omega
theorem cutLo {xs : List V} {n : Nat} {z : Int} (e : z = (n : Int)) : cutV xs (some z) none = xs.drop n := by
  subst e
  unfold cutV
  rw [HT.sIx_none, HT.sIx_nat]
  by_cases h : n ≤ xs.length
  · rw [Nat.min_eq_left h]
    exact List.take_of_length_le (by rw [List.length_drop]; exact Nat.le_refl _)
  · rw [Nat.min_eq_right (by omega), List.drop_eq_nil_of_le (Nat.le_refl _), List.take_nil, List.drop_eq_nil_of_le (by omega)]
theorem cutOne {xs : List V} {n m : Nat} {z y : Int} (e : z = (n : Int)) (e2 : y = (m : Int)) (hn : n ≤ xs.length) (hm : n ≤ m) : cutV xs (some z) (some y) = (xs.drop n).take (m - n) := by
  subst e e2
  unfold cutV
  rw [HT.sIx_nat, HT.sIx_nat, Nat.min_eq_left hn]
  by_cases h : m ≤ xs.length
  · rw [Nat.min_eq_left h]
  · rw [Nat.min_eq_right (by omega)]
    rw [List.take_of_length_le (l := xs.drop n) (by rw [List.length_drop]; exact Nat.le_refl _), List.take_of_length_le (by rw [List.length_drop]; omega)]
theorem paired_take {α β : Type} {F : α → β → Prop} : ∀ (n : Nat) {xs : List α} {ys : List β}, Paired F xs ys → Paired F (xs.take n) (ys.take n)
  | 0, _, _, _ => .nil
  | n + 1, _, _, .nil => .nil
  | n + 1, _, _, .cons h t => .cons h (paired_take n t)
theorem paired_drop {α β : Type} {F : α → β → Prop} : ∀ (n : Nat) {xs : List α} {ys : List β}, Paired F xs ys → Paired F (xs.drop n) (ys.drop n)
  | 0, _, _, h => h
  | n + 1, _, _, .nil => .nil
  | n + 1, _, _, .cons _ t => paired_drop n t
theorem paired_app {α β : Type} {F : α → β → Prop} : ∀ {xs xs' : List α} {ys ys' : List β}, Paired F xs ys → Paired F xs' ys' → Paired F (xs ++ xs') (ys ++ ys')
  | _, _, _, _, .nil, h => h
  | _, _, _, _, .cons h t, g => .cons h (paired_app t g)
end Gc

/-! the P family's source of numbers (laws k15 to k24) -/
namespace Gc
open PySem L2
abbrev s_pool : Stmt := top 30
abbrev s_draw : Stmt := top 31
/-- the source: what is left of the script's number, a mix, a count -/
def Rng (H : Hp) (a : Addr) (n : Nat) : Prop := ∃ g s c : Int, H a = some (.lst [.int g, .int s, .int c]) ∧ 0 ≤ s ∧ s < 2 ^ 62 ∧ 0 ≤ c ∧ c ≤ n
theorem Rng.same {H H' : Hp} {a : Addr} {n : Nat} (e : Same H H') (h : Rng H a n) : Rng H' a n := by
  obtain ⟨g, s, c, h1, h2⟩ := h
  exact ⟨g, s, c, e _ _ h1, h2⟩
theorem Rng.more {H : Hp} {a : Addr} {n m : Nat} (h : Rng H a n) (l : n ≤ m) : Rng H a m := by
  obtain ⟨g, s, c, h1, h2, h3, h4, h5⟩ := h
  exact ⟨g, s, c, h1, h2, h3, h4, by omega⟩
theorem Rng.off {H : Hp} {r p : Addr} {n : Nat} (B : Rng H r n) (h : H p = none) : p ≠ r := by
  obtain ⟨_, _, _, z, _⟩ := B
  exact (ne_of_none z h).symm
theorem Rng.tupK {H H' : Hp} {r : Addr} {n : Nat} (rg : Rng H r n) (kp : Keep r r H H') : ∀ t xs, H t = some (.tup xs) → H' t = some (.tup xs) := fun t xs q => by
  obtain ⟨_, _, _, z, _⟩ := rg
  exact kp _ _ (ne_of q z (by intro y; cases y)) (ne_of q z (by intro y; cases y)) q
theorem Rng.tup {K : PySem.W.Frag} {H H' : Hp} {r p : Addr} {n : Nat} {ys : List V} (B : Rng H r n) (k : Keep r r H H') (h : SqT K H p ys) : SqT K H' p ys := by
  obtain ⟨_, _, _, z, _⟩ := B
  rcases h with (q | ⟨o, q⟩) | q
  · exact .inl (.inl (k _ _ (ne_of q z (by intro y; cases y)) (ne_of q z (by intro y; cases y)) q))
  · exact .inl (.inr ⟨o, k _ _ (ne_of q z (by intro y; cases y)) (ne_of q z (by intro y; cases y)) q⟩)
  · exact .inr q
theorem Rng.cmds {K : PySem.W.Frag} {H H' : Hp} {r : Addr} {n : Nat} {xs : List V} {cs : List Cmd} (B : Rng H r n) (k : Keep r r H H') (h : CmdsOf K H xs cs) : CmdsOf K H' xs cs := Paired.mapP h fun _ _ q => by
  obtain ⟨b, e, z⟩ := q
  exact ⟨b, e, B.tup k z⟩
theorem Keep.freeU {a l : Addr} {H H' : Hp} {o : HO} (e : Keep a a H H') (h : H l = none) : Keep a a H (upd H' l o) := fun b u h1 h2 hb => by
  rw [upd_ne (ne_of_none hb h)]
  exact e b u h1 h2 hb
theorem Keep.freeK {a l : Addr} {H H' : Hp} (e : Keep a a H H') (n : l ≠ a) (h : H' l = none) : H l = none := by
  cases q : H l with
  | none => rfl
  | some o =>
    rw [e _ _ n n q] at h
    cases h
theorem rng_upd {H : Hp} {r D : Addr} {n : Nat} {o : HO} (h : Rng H r n) (d : D ≠ r) : Rng (upd H D o) r n := by
  obtain ⟨g, s, c, h1, h2⟩ := h
  exact ⟨g, s, c, by rw [upd_ne (Ne.symm d)]; exact h1, h2⟩
theorem Keep.same1 {r : Addr} {H H1 H2 : Hp} (k : Keep r r H H1) (e : Same H1 H2) : Keep r r H H2 := k.trans (Keep.of e)
structure TxtPl (mg : Str → Option Value) : Prop where
  len : mg "len" = none
  max : mg "max" = none
  abs : mg "abs" = none
def spPool (K : PySem.W.Frag) : Sp := fun vs H Q _ => ∃ (a : Addr) (ns : List Int) (i : Nat), vs = [.ref a, .int (i : Nat)] ∧ SqL K H a (ns.map V.int) ∧ ns.length ≤ 63 ∧ i ≤ 63 ∧ ∀ (H' : Hp) (p : Addr), Same H H' → H p = none → Rng H' p 0 → Q (.ref p) H'
def spDraw : Sp := fun vs H Q _ => ∃ (a : Addr) (n : Nat) (many : Int), vs = [.ref a, .int many] ∧ Rng H a n ∧ n < 2 ^ 40 ∧ 0 < many ∧ many.natAbs.log2 < 9000 ∧
  ∀ (H' : Hp) (r : Int), Keep a a H H' → Rng H' a (n + 1) → 0 ≤ r → r < many → Q (.int r) H'
section
variable {P : Program} {w : World} {K : PySem.W.Frag} {mg : Str → Option Value} {base : Heap}
theorem sc_law_pool : FnScope ["script", "at", "cell"] ["script", "at"] (defScope s_pool) := ⟨rfl, rfl, rfl, by decide +kernel, rfl, by decide +kernel, by decide +kernel⟩
theorem ok_pool {f : Addr} {fd : FuncData} (F : Fun K "_law_pool" "_law_pool" s_pool f fd) (T : TxtPl mg) : FnOk P w K mg base CX0 1 f fd ["script", "at"] (spPool K) := by
  refine F.ok sc_law_pool (fun vs H Q E h => ?_) (fun cdv A outer s H vs Q E hr h => ?_)
  · obtain ⟨a, ns, i, rfl, _⟩ := h
    rfl
  · obtain ⟨a, ns, i, rfl, hS, hn, hi, k⟩ := h
    refine ⟨_, (pss_cons (ps_set (i := 2) sc_law_pool.nd rfl (Or.inl rfl) pe_int)
      (C8.pss_cut (ps_if (pt_cmpR op_lt (pv 1) (pe_callB call_len_seq (by rfl) T.len (by decide +kernel) (pa_cons (pv 0) pa_nil)) (nomark _)) (pss_one (ps_set (i := 2) sc_law_pool.nd rfl (Or.inl rfl) (pe_ix ix_list (pv 0) (pv 1) (fun _ _ => rfl)))) pss_nil)
      (pss_one (ps_ret (pe_lst (pa_cons (pe_callB (call_max2 rfl) (by rfl) T.max (by decide +kernel) (pa_cons pe_int (pa_cons (pe_op op_sub (pe_callB call_abs (by rfl) T.abs (by decide +kernel) (pa_cons (pv 2) pa_nil)) (pe_op op_pow pe_int pe_int)) pa_nil))) (pa_cons (pe_op op_add (pe_op op_mod (pv 2) pe_int) (pe_op op_mulW pe_int (pe_op op_add (pv 1) pe_int))) (pa_cons pe_int pa_nil)))))))), ?_⟩
    refine ⟨fun σ H' => ∃ cell : Int, σ = [some (.ref a), some (.int (i : Nat)), some (.int cell)] ∧ H' = H, ?_, ?_⟩
    · refine ⟨_, rfl, _, rfl, a, _, rfl, .inl hS, _, _, rfl, rfl, _, rfl, ite2 (fun c => ?_) (fun c => ?_)⟩
      · have c' : (i : Int) < ((ns.map V.int).length : Int) := of_decide_eq_true c
        rw [List.length_map] at c'
        have hi' : i < ns.length := by omega
        exact ⟨_, rfl, _, rfl, a, _, _, .int ns[i], rfl, rfl, hS, at_of (j := i) rfl (by rw [List.getElem?_map, List.getElem?_eq_getElem hi']; rfl), _, rfl, rfl⟩
      · exact ⟨0, rfl, rfl⟩
    · rintro σ H' ⟨cell, rfl, rfl⟩
      have m1 := Int.emod_nonneg cell (show (2305843009213693951 : Int) ≠ 0 by decide)
      have m2 := Int.emod_lt_of_pos cell (show (0 : Int) < 2305843009213693951 by decide)
      refine ⟨_, rfl, _, rfl, _, _, rfl, rfl, cpow (by decide), _, _, rfl, rfl, _, _, rfl, ?_⟩
      refine ⟨_, rfl, _, _, rfl, rfl, (show (0 : Int) < 2305843009213693951 by decide), _, rfl, _, _, rfl, rfl, _, _, rfl, rfl, wide_mul (a := 61) (b := 61) (by decide) (by omega) (by decide) (by decide) (by decide), _, _, rfl, rfl, (by show 3 ≤ sizeLine; decide), fun p np => ?_⟩
      exact k _ p (new_same np) np ⟨_, _, 0, upd_same, by show 0 ≤ cell % 2305843009213693951 + 1500450271 * ((i : Int) + 1); omega, by show cell % 2305843009213693951 + 1500450271 * ((i : Int) + 1) < 2 ^ 62; omega, by decide, by decide⟩
theorem sc_law_draw : FnScope ["pool", "many", "drawn", "mixed"] ["pool", "many"] (defScope s_draw) := ⟨rfl, rfl, rfl, by decide +kernel, rfl, by decide +kernel, by decide +kernel⟩
theorem ok_draw {f : Addr} {fd : FuncData} (F : Fun K "_law_draw" "_law_draw" s_draw f fd) : FnOk P w K mg base CX0 1 f fd ["pool", "many"] spDraw := by
  refine F.ok sc_law_draw (fun vs H Q E h => ?_) (fun cdv A outer s H vs Q E hr h => ?_)
  · obtain ⟨a, n, many, rfl, _⟩ := h
    rfl
  · obtain ⟨a, n, many, rfl, hs, hn, m0, mb, k⟩ := h
    obtain ⟨g, sd, c, hA, s0, s1, c0, c1⟩ := hs
    refine ⟨_, (pss_cons (ps_if (pt_cmpR op_gt (pe_ix ix_list (pv 0) pe_int (fun _ _ => rfl)) pe_int (nomark _)) (pss_cons (ps_set (i := 2) sc_law_draw.nd rfl (Or.inl rfl) (pe_op op_mod (pe_ix ix_list (pv 0) pe_int (fun _ _ => rfl)) (pv 1)))
      (pss_cons (ps_asg (pe_op op_fdivW (pe_ix ix_list (pv 0) pe_int (fun _ _ => rfl)) (pv 1)) (pg_sub (pv 0) pe_int set_list))
      (pss_one (ps_ret (pv 2))))) pss_nil)
      (pss_cons (ps_asg (pe_op op_add (pe_ix ix_list (pv 0) pe_int (fun _ _ => rfl)) pe_int) (pg_sub (pv 0) pe_int set_list))
      (pss_cons (ps_set (i := 3) sc_law_draw.nd rfl (Or.inl rfl) (pe_op op_mod (pe_op op_powW (pe_op op_add (pe_ix ix_list (pv 0) pe_int (fun _ _ => rfl)) (pe_op op_mulW pe_int (pe_ix ix_list (pv 0) pe_int (fun _ _ => rfl)))) pe_int) pe_int))
      (pss_cons (ps_set (i := 3) sc_law_draw.nd rfl (Or.inl rfl) (pe_op op_mod (pe_op op_powW (pe_op op_add (pv 3) (pe_op op_mulW pe_int (pe_ix ix_list (pv 0) pe_int (fun _ _ => rfl)))) pe_int) pe_int))
      (pss_one (ps_ret (pe_op op_mod (pe_op op_fdivW (pv 3) pe_int) (pv 1)))))))), ?_⟩
    refine ⟨_, rfl, a, _, 0, _, rfl, rfl, SqL.of hA, rfl, _, _, rfl, rfl, _, rfl, ?_⟩
    refine ite2 (fun z => ?_) (fun z => ?_)
    · refine ⟨_, rfl, a, _, 0, _, rfl, rfl, SqL.of hA, rfl, _, rfl, _, _, rfl, rfl, m0, ?_⟩
      refine ⟨_, rfl, a, _, 0, _, rfl, rfl, SqL.of hA, rfl, _, rfl, _, _, rfl, rfl, ⟨m0, mb⟩, ?_⟩
      refine ⟨_, rfl, a, _, 0, 0, rfl, rfl, hA, rfl, ?_⟩
      exact ⟨_, rfl, k _ _ (Keep.refl H).upd1 ⟨_, sd, c, upd_same, s0, s1, c0, by omega⟩ (Int.emod_nonneg _ (by omega)) (Int.emod_lt_of_pos _ m0)⟩
    · refine ⟨_, rfl, a, _, 2, _, rfl, rfl, SqL.of hA, rfl, _, _, rfl, rfl, ?_⟩
      refine ⟨_, rfl, a, _, 2, 2, rfl, rfl, hA, rfl, ?_⟩
      have c2 : c + 1 < 2 ^ 41 := by omega
      generalize hH1 : upd H a (.lst ([V.int g, .int sd, .int c].set 2 (.int (c + 1)))) = H1
      have hA1 : H1 a = some (.lst [.int g, .int sd, .int (c + 1)]) := by rw [← hH1]; exact upd_same
      have kp : Keep a a H H1 := by rw [← hH1]; exact (Keep.refl H).upd1
      have mul1 : CMulW 15488981 (c + 1) := wide_mul (a := 61) (b := 61) (by decide) (by omega) (by decide) (by decide) (by decide)
      refine ⟨_, rfl, a, _, 1, _, rfl, rfl, SqL.of hA1, rfl, _, rfl, a, _, 2, _, rfl, rfl, SqL.of hA1, rfl, _, _, rfl, rfl, mul1, _, _, rfl, rfl, _, _, rfl, rfl, cpowW (a := 80) (by decide) (by decide) (by omega) (by decide), _, _, rfl, rfl, (show (0 : Int) < 162259276829213363391578010288127 by decide), ?_⟩
      have n1 := Int.emod_nonneg ((sd + 15488981 * (c + 1)) ^ (3 : Int).toNat) (show (162259276829213363391578010288127 : Int) ≠ 0 by decide)
      have n2 := Int.emod_lt_of_pos ((sd + 15488981 * (c + 1)) ^ (3 : Int).toNat) (show (0 : Int) < 162259276829213363391578010288127 by decide)
      generalize (sd + 15488981 * (c + 1)) ^ (3 : Int).toNat % 162259276829213363391578010288127 = mx1 at n1 n2 ⊢
      have mul2 : CMulW 32453119 (c + 1) := wide_mul (a := 61) (b := 61) (by decide) (by omega) (by decide) (by decide) (by decide)
      refine ⟨_, rfl, _, rfl, a, _, 2, _, rfl, rfl, SqL.of hA1, rfl, _, _, rfl, rfl, mul2, _, _, rfl, rfl, _, _, rfl, rfl, cpowW (a := 120) (by decide) (by decide) (by omega) (by decide), _, _, rfl, rfl, (show (0 : Int) < 170141183460469231731687303715884105727 by decide), ?_⟩
      generalize (mx1 + 32453119 * (c + 1)) ^ (5 : Int).toNat % 170141183460469231731687303715884105727 = mx2
      refine ⟨_, rfl, _, _, rfl, rfl, ⟨by decide, by decide⟩, _, rfl, _, _, rfl, rfl, m0, ?_⟩
      exact k _ _ kp ⟨g, sd, c + 1, hA1, s0, s1, by omega, by omega⟩ (Int.emod_nonneg _ (by omega)) (Int.emod_lt_of_pos _ m0)
end
end Gc

/-! commands as texts: what is written, and that it can be read back -/
namespace Gc
open PySem PyProof.Rows L2 TL
def mkS (l : List Nat) : Str := ⟨l.toArray⟩
theorem tl_mkS (l : List Nat) : tl (mkS l) = l := rfl
theorem mkS_app (l m : List Nat) : mkS l ++ mkS m = mkS (l ++ m) := ext_tl (by rw [tl_append]; rfl)
theorem mkS_len (l : List Nat) : (mkS l).length = l.length := by rw [len_tl]; rfl
theorem mkS_inj {l m : List Nat} (h : mkS l = mkS m) : l = m := by
  have e := congrArg tl h
  exact e
/-- the number of a command -/
def numC : Cmd → Int
  | .down n => n
  | .up n => n
  | .right n => n
  | .left n => n
  | _ => 0
def letC : Cmd → Nat
  | .down _ => 68
  | .up _ => 85
  | .right _ => 82
  | .left _ => 76
  | .home => 72
  | .stop => 69
/-- the digits that stand ahead of the letter -/
def digC : Cmd → List Nat
  | .down n => numL n.toNat
  | .up n => numL n.toNat
  | .right n => numL n.toNat
  | .left n => numL n.toNat
  | _ => []
def cw (c : Cmd) : List Nat := digC c ++ [letC c]
def noneL : List Nat := [110, 111, 110, 101]
def shownL (cs : List Cmd) : List Nat := if cs = [] then noneL else joinL [32] (cs.map cw)
def shownS (cs : List Cmd) : Str := mkS (shownL cs)
theorem digC_digits (c : Cmd) : NumText.AllDigits (digC c) := by
  cases c with
  | down n => exact numL_digits _
  | up n => exact numL_digits _
  | right n => exact numL_digits _
  | left n => exact numL_digits _
  | home => exact fun _ h => nomatch h
  | stop => exact fun _ h => nomatch h
theorem letC_ge (c : Cmd) : 65 ≤ letC c ∧ letC c ≤ 90 := by cases c <;> simp [letC]
theorem cw_free (c : Cmd) : 32 ∉ cw c := fun h => by
  rcases List.mem_append.mp h with h | h
  · have := digC_digits c 32 h
    omega
  · have e := List.mem_singleton.mp h
    have := letC_ge c
    omega
theorem cw_ne (c : Cmd) : cw c ≠ [] := by simp [cw]
theorem cw_inj {c d : Cmd} (hc : c.ok) (hd : d.ok) (h : cw c = cw d) : c = d := by
  have e1 := congrArg List.getLast? h
  have e2 := congrArg List.dropLast h
  unfold cw at e1 e2
  rw [List.getLast?_concat, List.getLast?_concat] at e1
  rw [List.dropLast_concat, List.dropLast_concat] at e2
  have e3 := Option.some.inj e1
  have key : ∀ {n m : Int}, 1 ≤ n → 1 ≤ m → numL n.toNat = numL m.toNat → n = m := fun h1 h2 z => by
    have := numL_inj z
    omega
  cases c <;> cases d <;> simp only [letC] at e3 <;> first
    | rfl
    | exact absurd e3 (by decide)
    | rw [key hc hd e2]
theorem cws_inj : ∀ {cs ds : List Cmd}, AllOk cs → AllOk ds → cs.map cw = ds.map cw → cs = ds
  | [], [], _, _, _ => rfl
  | [], _ :: _, _, _, h => by cases h
  | _ :: _, [], _, _, h => by cases h
  | c :: cs, d :: ds, h1, h2, h => by
    rw [List.map_cons, List.map_cons] at h
    injection h with e1 e2
    rw [cw_inj (h1 c List.mem_cons_self) (h2 d List.mem_cons_self) e1, cws_inj (fun x hx => h1 x (List.mem_cons_of_mem _ hx)) (fun x hx => h2 x (List.mem_cons_of_mem _ hx)) e2]
theorem join_words {cs : List Cmd} (h : cs ≠ []) : spl [32] 0 [] (joinL [32] (cs.map cw)) = cs.map cw :=
  spl_join (fun e => h (List.map_eq_nil_iff.mp e)) fun p hp => by
    obtain ⟨c, _, rfl⟩ := List.mem_map.mp hp
    exact cw_free c
theorem none_words : spl [32] 0 [] noneL = [noneL] := by decide +kernel
theorem none_no {cs : List Cmd} (h : cs ≠ []) : joinL [32] (cs.map cw) ≠ noneL := fun e => by
  have z := join_words h
  rw [e, none_words] at z
  cases cs with
  | nil => exact h rfl
  | cons c cs =>
    rw [List.map_cons] at z
    injection z with z1 z2
    have z3 := congrArg List.getLast? z1
    unfold cw at z3
    rw [List.getLast?_concat] at z3
    have z4 : (101 : Nat) = letC c := Option.some.inj z3
    have := letC_ge c
    omega
theorem shownL_inj {cs ds : List Cmd} (h1 : AllOk cs) (h2 : AllOk ds) (h : shownL cs = shownL ds) : cs = ds := by
  unfold shownL at h
  by_cases c : cs = []
  · by_cases d : ds = []
    · rw [c, d]
    · rw [if_pos c, if_neg d] at h
      exact absurd h.symm (none_no d)
  · by_cases d : ds = []
    · rw [if_neg c, if_pos d] at h
      exact absurd h (none_no c)
    · rw [if_neg c, if_neg d] at h
      have z1 := join_words c
      rw [h, join_words d] at z1
      exact (cws_inj h2 h1 z1).symm
theorem shownS_inj {cs ds : List Cmd} (h1 : AllOk cs) (h2 : AllOk ds) (h : shownS cs = shownS ds) : cs = ds := shownL_inj h1 h2 (mkS_inj h)
/-! lengths -/
theorem digC_len {c : Cmd} (h : numC c < 10 ^ 40) : (digC c).length ≤ 40 := by
  have key : ∀ n : Int, n < 10 ^ 40 → (numL n.toNat).length ≤ 40 := fun n hn => numL_len (k := 40) (by decide) (by omega)
  cases c with
  | down n => exact key n h
  | up n => exact key n h
  | right n => exact key n h
  | left n => exact key n h
  | home => exact Nat.zero_le _
  | stop => exact Nat.zero_le _
theorem cw_len {c : Cmd} (h : numC c < 10 ^ 40) : (cw c).length ≤ 41 := by
  unfold cw
  rw [List.length_append, List.length_singleton]
  have := digC_len h
  omega
theorem joinL_len {k : Nat} : ∀ {ps : List (List Nat)}, (∀ p ∈ ps, p.length ≤ k) → (joinL [32] ps).length ≤ (k + 1) * ps.length
  | [], _ => Nat.zero_le _
  | [p], h => by
    have := h p (List.mem_singleton.mpr rfl)
    show p.length ≤ (k + 1) * 1
    omega
  | p :: q :: r, h => by
    have h1 := h p List.mem_cons_self
    have h2 := joinL_len (ps := q :: r) fun x hx => h x (List.mem_cons_of_mem _ hx)
    show (p ++ ([32] ++ joinL [32] (q :: r))).length ≤ _
    rw [List.length_append, List.length_append, List.length_singleton, List.length_cons (a := p), Nat.mul_succ]
    omega
theorem shownL_len {cs : List Cmd} (h : ∀ c ∈ cs, numC c < 10 ^ 40) : (shownL cs).length ≤ 42 * cs.length + 4 := by
  unfold shownL
  by_cases c : cs = []
  · rw [if_pos c]
    exact Nat.le_add_left _ _
  · rw [if_neg c]
    have := joinL_len (k := 41) (ps := cs.map cw) fun p hp => by
      obtain ⟨d, hd, rfl⟩ := List.mem_map.mp hp
      exact cw_len (h d hd)
    rw [List.length_map] at this
    omega
/-- one more word behind -/
theorem joinL_snoc : ∀ {ps : List (List Nat)} {p : List Nat}, ps ≠ [] → joinL [32] (ps ++ [p]) = joinL [32] ps ++ ([32] ++ p)
  | [], _, h => absurd rfl h
  | [q], p, _ => rfl
  | q :: r :: s, p, _ => by
    show q ++ ([32] ++ joinL [32] ((r :: s) ++ [p])) = (q ++ ([32] ++ joinL [32] (r :: s))) ++ ([32] ++ p)
    rw [joinL_snoc (by simp)]
    simp [List.append_assoc]
theorem joinL_nil_iff : ∀ {ps : List (List Nat)}, (∀ p ∈ ps, p ≠ []) → (joinL [32] ps = [] ↔ ps = [])
  | [], _ => ⟨fun _ => rfl, fun _ => rfl⟩
  | [p], h => ⟨fun e => absurd e (h p (List.mem_singleton.mpr rfl)), fun e => nomatch e⟩
  | p :: q :: r, h => ⟨fun e => by
      have e2 : p ++ ([32] ++ joinL [32] (q :: r)) = [] := e
      simp at e2, fun e => nomatch e⟩
/-! equal lists of commands, as data -/
theorem eqv_cmd (c d : Cmd) : PyData.eqv (cmdD c) (cmdD d) = decide (c = d) := by
  cases c <;> cases d <;> simp [cmdD, PyData.eqv, PyData.eqvAll]
  all_goals first
    | decide +kernel
    | rw [Bool.eq_iff_iff, beq_iff_eq, decide_eq_true_eq]
    | (intro h; exact absurd h (by decide +kernel))
theorem eqvAll_cmds : ∀ cs ds : List Cmd, PyData.eqvAll (cs.map cmdD) (ds.map cmdD) = decide (cs = ds)
  | [], [] => by simp [PyData.eqvAll]
  | [], _ :: _ => by simp [PyData.eqvAll]
  | _ :: _, [] => by simp [PyData.eqvAll]
  | c :: cs, d :: ds => by
    rw [List.map_cons, List.map_cons, PyData.eqvAll, eqv_cmd, eqvAll_cmds cs ds]
    simp
theorem eqv_cmds (cs ds : List Cmd) : PyData.eqv (.list (cs.map cmdD)) (.list (ds.map cmdD)) = decide (cs = ds) := by
  rw [PyData.eqv]
  exact eqvAll_cmds cs ds
end Gc
namespace Gc
open PySem PyProof.Rows L2 TL
theorem depth_cmds : ∀ cs : List Cmd, PyData.depthAll (cs.map cmdD) ≤ 1
  | [] => by simp [PyData.depthAll]
  | c :: cs => by
    have := depth_cmds cs
    cases c <;> simp [PyData.depthAll, PyData.depth, cmdD, this]
theorem lay_cmds : ∀ cs : List Cmd, PyData.canLayAll0 (cs.map cmdD) = true
  | [] => by simp [PyData.canLayAll0]
  | c :: cs => by
    have h1 : PyData.strOk "down" = true := by decide +kernel
    have h2 : PyData.strOk "up" = true := by decide +kernel
    have h3 : PyData.strOk "right" = true := by decide +kernel
    have h4 : PyData.strOk "left" = true := by decide +kernel
    have h5 : PyData.strOk "home" = true := by decide +kernel
    have h6 : PyData.strOk "end" = true := by decide +kernel
    cases c <;> simp [PyData.canLayAll0, PyData.canLay0, cmdD, lay_cmds cs, h1, h2, h3, h4, h5, h6]
theorem shaped_cmds (cs : List Cmd) : SeqAt.shaped (.list (cs.map cmdD)) = true := by
  have h2 := depth_cmds cs
  have hd : (PyData.list (cs.map cmdD)).depth ≤ 64 := by
    simp only [PyData.depth]
    omega
  unfold SeqAt.shaped
  rw [decide_eq_true hd]
  simp [PyData.canLay0, lay_cmds cs]
/-- one more word of what is written -/
theorem shown_step (cs : List Cmd) (i : Nat) (c : Cmd) (h : cs[i]? = some c) :
    joinL [32] ((cs.take (i + 1)).map cw) = joinL [32] ((cs.take i).map cw) ++ (if i = 0 then [] else [32]) ++ digC c ++ [letC c] := by
  have e : cs.take (i + 1) = cs.take i ++ [c] := by
    rw [List.take_add_one, h]
    rfl
  rw [e, List.map_append, List.map_singleton]
  by_cases z : i = 0
  · subst z
    simp [joinL, cw]
  · have ne : (cs.take i).map cw ≠ [] := by
      intro q
      have q2 := congrArg List.length q
      have li := (List.getElem?_eq_some_iff.mp h).1
      rw [List.length_map, List.length_take, List.length_nil] at q2
      omega
    rw [joinL_snoc ne, if_neg z]
    simp [cw, List.append_assoc]
theorem shown_nil (cs : List Cmd) (i : Nat) (c : Cmd) (h : cs[i]? = some c) : joinL [32] ((cs.take i).map cw) = [] ↔ i = 0 := by
  rw [joinL_nil_iff (fun p hp => by
    obtain ⟨c, _, rfl⟩ := List.mem_map.mp hp
    exact cw_ne c)]
  have li := (List.getElem?_eq_some_iff.mp h).1
  constructor
  · intro q
    have q2 := congrArg List.length q
    rw [List.length_map, List.length_take, List.length_nil] at q2
    omega
  · intro q
    subst q
    rfl
end Gc

/-! running commands over plain texts: the goal is reached exactly if the box is fulfilled -/
namespace Gc
def seen (t : Int) : Option Int → Int
  | none => t
  | some a => min a t
/-- the goal of the cursor after one command in a row of length t -/
def aim1 (t : Int) (a : Option Int) : Cmd → Option Int
  | .down _ => a
  | .up _ => a
  | .right n => some (min (seen t a + n) t)
  | .left n => some (max 0 (seen t a - n))
  | .home => some 0
  | .stop => none
def aimF (T : Int → Int) : Int → Option Int → List Cmd → Option Int
  | _, a, [] => a
  | r, a, c :: cs => aimF T (r + c.dv) (aim1 (T r) a c) cs
theorem aimF_app (T : Int → Int) : ∀ (xs ys : List Cmd) (r : Int) (a : Option Int), aimF T r a (xs ++ ys) = aimF T (r + last xs) (aimF T r a xs) ys
  | [], ys, r, a => by
    show aimF T r a ys = aimF T (r + 0) a ys
    rw [Int.add_zero]
  | c :: xs, ys, r, a => by
    show aimF T (r + c.dv) (aim1 (T r) a c) (xs ++ ys) = aimF T (r + (c.dv + last xs)) _ ys
    rw [aimF_app T xs ys, Int.add_assoc]
    rfl
theorem aimF_snoc (T : Int → Int) (cs : List Cmd) (c : Cmd) (r : Int) (a : Option Int) : aimF T r a (cs ++ [c]) = aim1 (T (r + last cs)) (aimF T r a cs) c := aimF_app T cs [c] r a
def ge (a : Option Int) (n : Int) : Prop := ∀ x, a = some x → n ≤ x
theorem ge_none (n : Int) : ge none n := fun _ h => nomatch h
theorem ge_some {x n : Int} : ge (some x) n ↔ n ≤ x := ⟨fun h => h x rfl, fun h y e => by rw [← Option.some.inj e]; exact h⟩
theorem seen_ge {t n : Int} {a : Option Int} : n ≤ seen t a ↔ n ≤ t ∧ ge a n := by
  cases a with
  | none => exact ⟨fun h => ⟨h, ge_none n⟩, fun h => h.1⟩
  | some x =>
    rw [ge_some]
    show n ≤ min x t ↔ _
    omega
theorem aim1_nn {t : Int} {a : Option Int} {c : Cmd} (ht : 0 ≤ t) (ha : ge a 0) (ok : c.ok) : ge (aim1 t a c) 0 := by
  have hs : 0 ≤ seen t a := seen_ge.mpr ⟨ht, ha⟩
  cases c with
  | down n => exact ha
  | up n => exact ha
  | right n =>
    have o : 1 ≤ n := ok
    refine ge_some.mpr ?_
    omega
  | left n =>
    refine ge_some.mpr ?_
    omega
  | home => exact ge_some.mpr (Int.le_refl 0)
  | stop => exact ge_none 0
theorem aimF_nn {T : Int → Int} (hT : ∀ k, 0 ≤ T k) : ∀ {cs : List Cmd} {r : Int} {a : Option Int}, AllOk cs → ge a 0 → ge (aimF T r a cs) 0
  | [], _, _, _, h => h
  | c :: cs, r, a, ok, h => aimF_nn hT (cs := cs) (fun d hd => ok d (List.mem_cons_of_mem _ hd)) (aim1_nn (hT r) h (ok c List.mem_cons_self))
theorem last_snoc (cs : List Cmd) (c : Cmd) : last (cs ++ [c]) = last cs + c.dv := by
  rw [last_app]
  show _ + (c.dv + 0) = _
  omega
theorem reqF_le {f : Int → Int} {o v : Int} {T : Int → Int} {r : Int} : (∀ k, reqF f o v k ≤ T (r + k)) ↔ (∀ k, f k ≤ T (r + k)) ∧ v ≤ T (r + o) := by
  constructor
  · intro h
    refine ⟨fun k => Int.le_trans (reqF_ge f o v k) (h k), ?_⟩
    have := h o
    unfold reqF at this
    rw [if_pos rfl] at this
    omega
  · rintro ⟨h1, h2⟩ k
    unfold reqF
    have := h1 k
    split
    · rename_i e
      subst e
      omega
    · exact this
/-- the box's walk, and the run -/
theorem go_char {T : Int → Int} (hT : ∀ k, 0 ≤ T k) {r : Int} {a : Option Int} (ha : ge a 0) : ∀ (rs : List Cmd) (need : Int) (f : Int → Int), AllOk rs → 1 ≤ need →
    ((∃ st g, goF rs (last rs.reverse) need f = some (st, g) ∧ (∀ n, st = some n → ge a n) ∧ ∀ k, g k ≤ T (r + k)) ↔ (∀ k, f k ≤ T (r + k)) ∧ ge (aimF T r a rs.reverse) need)
  | [], need, f, _, _ => by
    constructor
    · rintro ⟨st, g, e, h1, h2⟩
      cases e
      exact ⟨h2, h1 need rfl⟩
    · rintro ⟨h1, h2⟩
      exact ⟨_, _, rfl, fun n e => by rw [← Option.some.inj e]; exact h2, h1⟩
  | .home :: rs, need, f, ok, hn => by
    rw [List.reverse_cons, aimF_snoc]
    constructor
    · rintro ⟨st, g, e, _⟩
      cases e
    · rintro ⟨_, h2⟩
      have : need ≤ 0 := ge_some.mp h2
      omega
  | .stop :: rs, need, f, ok, hn => by
    rw [List.reverse_cons, aimF_snoc]
    constructor
    · rintro ⟨st, g, e, _, h2⟩
      cases e
      exact ⟨h2, ge_none _⟩
    · rintro ⟨h1, _⟩
      exact ⟨_, _, rfl, (fun n e => nomatch e), h1⟩
  | .down n :: rs, need, f, ok, hn => by
    rw [List.reverse_cons, aimF_snoc, last_snoc]
    have ih := go_char hT (r := r) ha rs need f (fun d hd => ok d (List.mem_cons_of_mem _ hd)) hn
    have e : last rs.reverse + (Cmd.down n).dv - n = last rs.reverse := by
      show last rs.reverse + n - n = _
      omega
    simp only [goF]
    rw [e]
    exact ih
  | .up n :: rs, need, f, ok, hn => by
    rw [List.reverse_cons, aimF_snoc, last_snoc]
    have ih := go_char hT (r := r) ha rs need f (fun d hd => ok d (List.mem_cons_of_mem _ hd)) hn
    have e : last rs.reverse + (Cmd.up n).dv + n = last rs.reverse := by
      show last rs.reverse + -n + n = _
      omega
    simp only [goF]
    rw [e]
    exact ih
  | .left n :: rs, need, f, ok, hn => by
    have o : 1 ≤ n := ok _ List.mem_cons_self
    rw [List.reverse_cons, aimF_snoc, last_snoc]
    have ih := go_char hT (r := r) ha rs (need + n) (reqF f (last rs.reverse) (need + n)) (fun d hd => ok d (List.mem_cons_of_mem _ hd)) (by omega)
    have e : last rs.reverse + (Cmd.left n).dv = last rs.reverse := Int.add_zero _
    simp only [goF]
    rw [e, ih, reqF_le]
    have s : ge (aim1 (T (r + last rs.reverse)) (aimF T r a rs.reverse) (.left n)) need ↔ need + n ≤ T (r + last rs.reverse) ∧ ge (aimF T r a rs.reverse) (need + n) := by
      rw [← seen_ge]
      show ge (some _) need ↔ _
      rw [ge_some]
      omega
    rw [s]
    exact ⟨fun h => ⟨h.1.1, h.1.2, h.2⟩, fun h => ⟨⟨h.1, h.2.1⟩, h.2.2⟩⟩
  | .right n :: rs, need, f, ok, hn => by
    have o : 1 ≤ n := ok _ List.mem_cons_self
    have okr : AllOk rs := fun d hd => ok d (List.mem_cons_of_mem _ hd)
    rw [List.reverse_cons, aimF_snoc, last_snoc]
    have e : last rs.reverse + (Cmd.right n).dv = last rs.reverse := Int.add_zero _
    have nn : 0 ≤ seen (T (r + last rs.reverse)) (aimF T r a rs.reverse) := seen_ge.mpr ⟨hT _, aimF_nn hT (fun d hd => okr d (List.mem_reverse.mp hd)) ha⟩
    simp only [goF]
    rw [e]
    have s : ge (aim1 (T (r + last rs.reverse)) (aimF T r a rs.reverse) (.right n)) need ↔ need ≤ T (r + last rs.reverse) ∧ need - n ≤ seen (T (r + last rs.reverse)) (aimF T r a rs.reverse) := by
      show ge (some _) need ↔ _
      rw [ge_some]
      omega
    rw [s]
    by_cases c : need > n
    · rw [if_pos c]
      have ih := go_char hT (r := r) ha rs (need - n) (reqF f (last rs.reverse) need) okr (by omega)
      rw [ih, reqF_le, seen_ge]
      exact ⟨fun h => ⟨h.1.1, h.1.2, by omega, h.2⟩, fun h => ⟨⟨h.1, h.2.1⟩, h.2.2.2⟩⟩
    · rw [if_neg c]
      constructor
      · rintro ⟨st, g, e, _, h2⟩
        cases e
        have h3 := reqF_le.mp h2
        exact ⟨h3.1, h3.2, by omega⟩
      · rintro ⟨h1, h2, _⟩
        exact ⟨_, _, rfl, (fun n e => nomatch e), reqF_le.mpr ⟨h1, h2⟩⟩
/-- the goal is reached exactly if the start fulfils the box -/
theorem box_char {T : Int → Int} (hT : ∀ k, 0 ≤ T k) {r : Int} {a : Option Int} (ha : ge a 0) {cs : List Cmd} {goal : Int} (ok : AllOk cs) (hg : 1 ≤ goal) :
    ge (aimF T r a cs) goal ↔ ∃ st L, boxM cs goal = some (st, L) ∧ (∀ n, st = some n → ge a n) ∧ ∀ k, val L k ≤ T (r + k) := by
  have h := go_char hT (r := r) ha cs.reverse goal (fun _ => 0) (allOk_rev ok) hg
  rw [List.reverse_reverse] at h
  have h0 : (∀ k : Int, (fun _ : Int => (0 : Int)) k ≤ T (r + k)) := fun k => hT _
  have h' : (∃ st g, boxF cs goal = some (st, g) ∧ (∀ n, st = some n → ge a n) ∧ ∀ k, g k ≤ T (r + k)) ↔ ge (aimF T r a cs) goal := h.trans ⟨fun x => x.2, fun x => ⟨h0, x⟩⟩
  rw [← h']
  rcases box_spec ok hg with ⟨e1, e2⟩ | ⟨st, b, e1, gb, e2, _⟩
  · rw [e1, e2]
    constructor
    · rintro ⟨_, _, z, _⟩
      cases z
    · rintro ⟨_, _, z, _⟩
      cases z
  · rw [e1, e2]
    have vp := val_perm gb (List.mergeSort_perm b leK)
    constructor
    · rintro ⟨st', g, z, h1, h2⟩
      cases z
      exact ⟨_, _, rfl, h1, fun k => by rw [vp]; exact h2 k⟩
    · rintro ⟨st', L, z, h1, h2⟩
      cases z
      exact ⟨_, _, rfl, h1, fun k => by rw [← vp]; exact h2 k⟩
end Gc

/-! rows that are visited; the least text -/
namespace Gc
def Within (cs : List Cmd) (lo hi : Int) : Prop := ∀ i, lo ≤ last (cs.take i) ∧ last (cs.take i) ≤ hi
theorem Within.tail {c : Cmd} {cs : List Cmd} {lo hi : Int} (h : Within (c :: cs) lo hi) : Within cs (lo - c.dv) (hi - c.dv) := fun i => by
  have q := h (i + 1)
  have e : last ((c :: cs).take (i + 1)) = c.dv + last (cs.take i) := rfl
  rw [e] at q
  omega
theorem Within.init {cs : List Cmd} {c : Cmd} {lo hi : Int} (h : Within (cs ++ [c]) lo hi) : Within cs lo hi := fun i => by
  by_cases l : i ≤ cs.length
  · have q := h i
    rw [List.take_append_of_le_length l] at q
    exact q
  · have q := h cs.length
    rw [List.take_append_of_le_length (Nat.le_refl _)] at q
    rw [List.take_of_length_le (by omega)]
    rw [List.take_length] at q
    exact q
theorem Within.whole {cs : List Cmd} {lo hi : Int} (h : Within cs lo hi) : lo ≤ last cs ∧ last cs ≤ hi := by
  have q := h cs.length
  rw [List.take_length] at q
  exact q
theorem Within.zero {cs : List Cmd} {lo hi : Int} (h : Within cs lo hi) : lo ≤ 0 ∧ 0 ≤ hi := h 0
theorem keys_req' {b : Ps} {o v k : Int} (h : k ∈ keys (req b o v)) : k = o ∨ k ∈ keys b := by
  unfold req at h
  rw [keys_put] at h
  split at h
  · exact .inr h
  · rcases List.mem_append.mp h with q | q
    · exact .inr q
    · exact .inl (List.mem_singleton.mp q)
/-- the offsets of a box are rows that are visited -/
theorem go_within {lo hi : Int} : ∀ {rs : List Cmd} {need : Int} {b : Ps} {st : Option Int} {b' : Ps}, go rs (last rs.reverse) need b = some (st, b') → Within rs.reverse lo hi → (∀ k ∈ keys b, lo ≤ k ∧ k ≤ hi) → ∀ k ∈ keys b', lo ≤ k ∧ k ≤ hi
  | [], need, b, st, b', h, _, hb => by cases h; exact hb
  | .home :: rs, need, b, st, b', h, _, _ => by cases h
  | .stop :: rs, need, b, st, b', h, _, hb => by cases h; exact hb
  | .down n :: rs, need, b, st, b', h, w, hb => by
    rw [List.reverse_cons] at h w
    rw [last_snoc] at h
    have e : last rs.reverse + (Cmd.down n).dv - n = last rs.reverse := by
      show last rs.reverse + n - n = _
      omega
    simp only [go] at h
    rw [e] at h
    exact go_within h w.init hb
  | .up n :: rs, need, b, st, b', h, w, hb => by
    rw [List.reverse_cons] at h w
    rw [last_snoc] at h
    have e : last rs.reverse + (Cmd.up n).dv + n = last rs.reverse := by
      show last rs.reverse + -n + n = _
      omega
    simp only [go] at h
    rw [e] at h
    exact go_within h w.init hb
  | .left n :: rs, need, b, st, b', h, w, hb => by
    rw [List.reverse_cons] at h w
    rw [last_snoc, show last rs.reverse + (Cmd.left n).dv = last rs.reverse from Int.add_zero _] at h
    simp only [go] at h
    refine go_within h w.init fun k hk => ?_
    rcases keys_req' hk with q | q
    · rw [q]
      exact w.init.whole
    · exact hb k q
  | .right n :: rs, need, b, st, b', h, w, hb => by
    rw [List.reverse_cons] at h w
    rw [last_snoc, show last rs.reverse + (Cmd.right n).dv = last rs.reverse from Int.add_zero _] at h
    have hr : ∀ k ∈ keys (req b (last rs.reverse) need), lo ≤ k ∧ k ≤ hi := fun k hk => by
      rcases keys_req' hk with q | q
      · rw [q]
        exact w.init.whole
      · exact hb k q
    simp only [go] at h
    split at h
    · exact go_within h w.init hr
    · cases h
      exact hr
theorem box_within {lo hi : Int} {cs : List Cmd} {goal : Int} {st : Option Int} {L : Ps} (h : boxM cs goal = some (st, L)) (w : Within cs lo hi) : ∀ q ∈ L, lo ≤ q.1 ∧ q.1 ≤ hi := by
  unfold boxM at h
  cases e : go cs.reverse (last cs) goal [] with
  | none =>
    rw [e] at h
    cases h
  | some x =>
    rw [e] at h
    obtain ⟨st', b'⟩ := x
    have h' : (st', b'.mergeSort leK) = (st, L) := Option.some.inj h
    cases h'
    have k := go_within (rs := cs.reverse) (lo := lo) (hi := hi) (by rw [List.reverse_reverse]; exact e) (by rw [List.reverse_reverse]; exact w) (fun k hk => by cases hk)
    intro q hq
    exact k q.1 (List.mem_map.mpr ⟨q, (List.mergeSort_perm b' leK).mem_iff.mp hq, rfl⟩)
/-! ### a text from a box -/
def setAll (lo : Int) (T : List Int) (L : Ps) : List Int := L.foldl (fun T q => T.set (q.1 - lo).toNat q.2) T
theorem setAll_len (lo : Int) : ∀ (L : Ps) (T : List Int), (setAll lo T L).length = T.length
  | [], _ => rfl
  | q :: L, T => by
    show (setAll lo (T.set (q.1 - lo).toNat q.2) L).length = _
    rw [setAll_len lo L, List.length_set]
theorem setAll_get {lo : Int} : ∀ {L : Ps} {T : List Int} {k : Int}, (keys L).Nodup → (∀ q ∈ L, lo ≤ q.1 ∧ q.1 - lo < T.length) → lo ≤ k → k - lo < T.length →
    (setAll lo T L).getD (k - lo).toNat 0 = match look L k with | some v => v | none => T.getD (k - lo).toNat 0
  | [], T, k, _, _, _, _ => rfl
  | q :: L, T, k, nd, hq, h0, h1 => by
    have nd' : q.1 ∉ keys L ∧ (keys L).Nodup := List.nodup_cons.mp nd
    have q0 := hq q List.mem_cons_self
    show (setAll lo (T.set (q.1 - lo).toNat q.2) L).getD (k - lo).toNat 0 = _
    rw [setAll_get (L := L) nd'.2 (fun p hp => by rw [List.length_set]; exact hq p (List.mem_cons_of_mem _ hp)) h0 (by rw [List.length_set]; exact h1), look_cons]
    by_cases e : q.1 = k
    · subst e
      rw [if_pos rfl, look_none.mpr nd'.1]
      show (T.set (q.1 - lo).toNat q.2).getD (q.1 - lo).toNat 0 = q.2
      rw [List.getD_eq_getElem?_getD, List.getElem?_set_self (by omega)]
      rfl
    · rw [if_neg e]
      cases look L k with
      | some v => rfl
      | none =>
        show (T.set (q.1 - lo).toNat q.2).getD (k - lo).toNat 0 = T.getD (k - lo).toNat 0
        rw [List.getD_eq_getElem?_getD, List.getD_eq_getElem?_getD, List.getElem?_set_ne (by omega)]
/-! ### the run over a list of lengths -/
def lenAt (T : List Int) (r : Int) : Int := T.getD r.toNat 0
/-- the run over a text: the row must stand -/
def afterL (T : List Int) : Int → Option Int → List Cmd → Option (Int × Option Int)
  | r, a, [] => some (r, a)
  | r, a, c :: cs => if c.vert = true then (if 0 ≤ r + c.dv ∧ r + c.dv < T.length then afterL T (r + c.dv) a cs else none) else afterL T r (aim1 (lenAt T r) a c) cs
theorem Within.le {cs : List Cmd} {lo hi lo' hi' : Int} (h : Within cs lo hi) (h1 : lo' ≤ lo) (h2 : hi ≤ hi') : Within cs lo' hi' := fun i => by
  have := h i
  omega
theorem afterL_in {T : List Int} : ∀ {cs : List Cmd} {r : Int} {a : Option Int}, Within cs (-r) (T.length - 1 - r) → afterL T r a cs = some (r + last cs, aimF (lenAt T) r a cs)
  | [], r, a, _ => by
    show some (r, a) = some (r + 0, a)
    rw [Int.add_zero]
  | c :: cs, r, a, w => by
    have w1 := w 1
    have e1 : last ((c :: cs).take 1) = c.dv + 0 := rfl
    rw [e1] at w1
    have wt : Within cs (-(r + c.dv)) (T.length - 1 - (r + c.dv)) := w.tail.le (by omega) (by omega)
    have ih := afterL_in (a := aim1 (lenAt T r) a c) wt
    have el : last (c :: cs) = c.dv + last cs := rfl
    have ea : aimF (lenAt T) r a (c :: cs) = aimF (lenAt T) (r + c.dv) (aim1 (lenAt T r) a c) cs := rfl
    rw [ea, el, ← Int.add_assoc]
    by_cases v : c.vert = true
    · have ia : aim1 (lenAt T r) a c = a := by
        cases c with
        | down n => rfl
        | up n => rfl
        | right n => cases v
        | left n => cases v
        | home => cases v
        | stop => cases v
      rw [ia] at ih ⊢
      simp only [afterL]
      rw [if_pos v, if_pos ⟨by omega, by omega⟩, ih]
    · have d0 : c.dv = 0 := by
        cases c with
        | down n => exact absurd rfl v
        | up n => exact absurd rfl v
        | right n => rfl
        | left n => rfl
        | home => rfl
        | stop => rfl
      simp only [afterL]
      rw [if_neg v]
      rw [d0, Int.add_zero] at ih ⊢
      exact ih
theorem lenAt_nn {T : List Int} (h : ∀ x ∈ T, 0 ≤ x) (r : Int) : 0 ≤ lenAt T r := by
  unfold lenAt
  rw [List.getD_eq_getElem?_getD]
  cases e : T[r.toNat]? with
  | none => exact Int.le_refl 0
  | some x => exact h x (List.mem_of_getElem? e)
/-- over a text whose rows are all there: the goal is reached exactly if the box is fulfilled -/
theorem after_char {T : List Int} (hT : ∀ x ∈ T, 0 ≤ x) {r : Int} {a : Option Int} (ha : ge a 0) {cs : List Cmd} {goal : Int} (ok : AllOk cs) (hg : 1 ≤ goal) (w : Within cs (-r) (T.length - 1 - r)) :
    ∃ a', afterL T r a cs = some (r + last cs, a') ∧ ge a' 0 ∧ (ge a' goal ↔ ∃ st L, boxM cs goal = some (st, L) ∧ (∀ n, st = some n → ge a n) ∧ ∀ k, val L k ≤ lenAt T (r + k)) :=
  ⟨_, afterL_in w, aimF_nn (lenAt_nn hT) ok ha, box_char (lenAt_nn hT) ha ok hg⟩
/-! ### the least text -/
def textM (lo hi : Int) (L : Ps) : List Int := setAll lo (List.replicate (hi - lo + 1).toNat 0) L
theorem textM_len {lo hi : Int} (h : lo ≤ hi) (L : Ps) : ((textM lo hi L).length : Int) = hi - lo + 1 := by
  unfold textM
  rw [setAll_len, List.length_replicate]
  omega
theorem textM_at {lo hi : Int} {L : Ps} (g : Good L) (hL : ∀ q ∈ L, lo ≤ q.1 ∧ q.1 ≤ hi) {k : Int} (h0 : lo ≤ k) (h1 : k ≤ hi) : lenAt (textM lo hi L) (k - lo) = val L k := by
  unfold lenAt textM
  have hr : ((List.replicate (hi - lo + 1).toNat (0 : Int)).length : Int) = hi - lo + 1 := by
    rw [List.length_replicate]
    omega
  rw [setAll_get g.nd (fun q hq => by have := hL q hq; omega) h0 (by omega)]
  unfold val
  cases look L k with
  | some v => rfl
  | none =>
    show (List.replicate _ (0 : Int)).getD _ 0 = 0
    rw [List.getD_eq_getElem?_getD, List.getElem?_replicate]
    split <;> rfl
theorem val_off {lo hi : Int} {L : Ps} (hL : ∀ q ∈ L, lo ≤ q.1 ∧ q.1 ≤ hi) {k : Int} (h : ¬ (lo ≤ k ∧ k ≤ hi)) : val L k = 0 := by
  refine val_out fun z => ?_
  obtain ⟨q, hq, e⟩ := List.mem_map.mp z
  rw [← e] at h
  exact h (hL q hq)
theorem textM_nn {lo hi : Int} {L : Ps} (g : Good L) (hL : ∀ q ∈ L, lo ≤ q.1 ∧ q.1 ≤ hi) : ∀ x ∈ textM lo hi L, 0 ≤ x := by
  intro x hx
  obtain ⟨i, hi'⟩ := List.mem_iff_getElem?.mp hx
  have l := (List.getElem?_eq_some_iff.mp hi').1
  have l2 : (textM lo hi L).length = (hi - lo + 1).toNat := by
    unfold textM
    rw [setAll_len, List.length_replicate]
  have e := textM_at g hL (k := i + lo) (by omega) (by omega)
  unfold lenAt at e
  rw [show ((i : Int) + lo - lo).toNat = i by omega, List.getD_eq_getElem?_getD, hi'] at e
  have e' : x = val L (i + lo) := e
  rw [e']
  exact val_nonneg g _
section
variable {cs : List Cmd} {goal lo hi : Int} {st : Option Int} {L : Ps}
/-- from it, and just its goal, the goal is reached -/
theorem least_gets (g : Good L) (w : Within cs lo hi) (ok : AllOk cs) (hg : 1 ≤ goal) (e : boxM cs goal = some (st, L)) (pos : ∀ n, st = some n → 1 ≤ n) :
    ∃ a', afterL (textM lo hi L) (-lo) (some (st.getD 0)) cs = some (-lo + last cs, a') ∧ ge a' goal := by
  have hL := box_within e w
  have z := w.zero
  have tl := textM_len (lo := lo) (hi := hi) (by omega) L
  have a0 : ge (some (st.getD 0)) 0 := ge_some.mpr (by
    cases st with
    | none => exact Int.le_refl 0
    | some n =>
      have := pos n rfl
      show 0 ≤ n
      omega)
  obtain ⟨a', h1, _, h2⟩ := after_char (textM_nn g hL) a0 ok hg (w.le (show -(-lo) ≤ lo by omega) (show hi ≤ (textM lo hi L).length - 1 - (-lo) by omega))
  refine ⟨a', h1, h2.mpr ⟨st, L, e, fun n en => ge_some.mpr (by rw [en]; exact Int.le_refl n), fun k => ?_⟩⟩
  by_cases h : lo ≤ k ∧ k ≤ hi
  · rw [show -lo + k = k - lo by omega, textM_at g hL h.1 h.2]
    exact Int.le_refl _
  · rw [val_off hL h]
    exact lenAt_nn (textM_nn g hL) _
/-- with a goal less by one it is not -/
theorem least_goal (g : Good L) (w : Within cs lo hi) (ok : AllOk cs) (hg : 1 ≤ goal) (e : boxM cs goal = some (st, L)) {n : Int} (es : st = some n) (hn : 1 ≤ n) :
    ∃ a', afterL (textM lo hi L) (-lo) (some (n - 1)) cs = some (-lo + last cs, a') ∧ ¬ ge a' goal := by
  have hL := box_within e w
  have z := w.zero
  have tl := textM_len (lo := lo) (hi := hi) (by omega) L
  obtain ⟨a', h1, _, h2⟩ := after_char (textM_nn g hL) (ge_some.mpr (show 0 ≤ n - 1 by omega)) ok hg (w.le (show -(-lo) ≤ lo by omega) (show hi ≤ (textM lo hi L).length - 1 - (-lo) by omega))
  refine ⟨a', h1, fun x => ?_⟩
  obtain ⟨st', L', e', h3, _⟩ := h2.mp x
  rw [e] at e'
  cases e'
  have := ge_some.mp (h3 n es)
  omega
/-- with a length less by one it is not -/
theorem least_row (g : Good L) (w : Within cs lo hi) (ok : AllOk cs) (hg : 1 ≤ goal) (e : boxM cs goal = some (st, L)) (pos : ∀ n, st = some n → 1 ≤ n) {i : Nat} (li : i < (textM lo hi L).length) (h : 0 < lenAt (textM lo hi L) i) :
    ∃ a', afterL ((textM lo hi L).set i (lenAt (textM lo hi L) i - 1)) (-lo) (some (st.getD 0)) cs = some (-lo + last cs, a') ∧ ¬ ge a' goal := by
  have hL := box_within e w
  have z := w.zero
  have tl := textM_len (lo := lo) (hi := hi) (by omega) L
  have a0 : ge (some (st.getD 0)) 0 := ge_some.mpr (by
    cases st with
    | none => exact Int.le_refl 0
    | some n =>
      have := pos n rfl
      show 0 ≤ n
      omega)
  have nn : ∀ x ∈ (textM lo hi L).set i (lenAt (textM lo hi L) i - 1), 0 ≤ x := fun x hx => by
    rcases List.mem_or_eq_of_mem_set hx with q | q
    · exact textM_nn g hL x q
    · omega
  obtain ⟨a', h1, _, h2⟩ := after_char (r := -lo) nn a0 ok hg (w.le (show -(-lo) ≤ lo by omega) (by rw [List.length_set]; omega))
  refine ⟨a', h1, fun x => ?_⟩
  obtain ⟨st', L', e', _, h4⟩ := h2.mp x
  rw [e] at e'
  cases e'
  have q := h4 (i + lo)
  rw [show -lo + (i + lo) = (i : Int) by omega] at q
  have ev := textM_at g hL (k := i + lo) (by omega) (by omega)
  rw [show (i : Int) + lo - lo = i by omega] at ev
  rw [← ev] at q
  have es : lenAt ((textM lo hi L).set i (lenAt (textM lo hi L) i - 1)) i = lenAt (textM lo hi L) i - 1 := by
    conv => lhs; unfold lenAt
    rw [Int.toNat_natCast, List.getD_eq_getElem?_getD, List.getElem?_set_self li]
    rfl
  rw [es] at q
  omega
end
end Gc

/-! what a list of commands does to all goals on one text: a number added, kept between two bounds -/
namespace Gc
/-- the goal None is the greatest -/
def chg1 : Cmd → Int
  | .right n => n
  | .left n => -n
  | _ => 0
def chg : List Cmd → Int
  | [] => 0
  | c :: cs => chg1 c + chg cs
theorem chg_snoc (cs : List Cmd) (c : Cmd) : chg (cs ++ [c]) = chg cs + chg1 c := by
  induction cs with
  | nil => show chg1 c + 0 = 0 + chg1 c; omega
  | cons d cs ih => show chg1 d + chg (cs ++ [c]) = chg1 d + chg cs + chg1 c; rw [ih]; omega
/-- where the goal x goes, if 0 goes to lo, None to hi, and d is added -/
def Clamp (lo hi : Option Int) (d x : Int) (g : Option Int) : Prop := match lo, hi, g with
  | none, none, none => True
  | some l, none, some y => y = max l (x + d)
  | some l, some h, some y => l ≤ h ∧ y = max l (min h (x + d))
  | _, _, _ => False
theorem clamp1 {t : Int} (ht : 0 ≤ t) {lo hi : Option Int} {d x : Int} {g : Option Int} (h : Clamp lo hi d x g) (c : Cmd) (ok : c.ok) : Clamp (aim1 t lo c) (aim1 t hi c) (d + chg1 c) x (aim1 t g c) := by
  unfold Clamp at h
  cases c with
  | down n =>
    show Clamp lo hi (d + 0) x g
    rw [Int.add_zero]
    exact h
  | up n =>
    show Clamp lo hi (d + 0) x g
    rw [Int.add_zero]
    exact h
  | home => exact ⟨Int.le_refl 0, by omega⟩
  | stop => trivial
  | right n =>
    have o : 1 ≤ n := ok
    match lo, hi, g, h with
    | none, none, none, _ =>
      show min (t + n) t ≤ min (t + n) t ∧ min (t + n) t = max (min (t + n) t) (min (min (t + n) t) (x + (d + n)))
      omega
    | some l, none, some y, h =>
      have h' : y = max l (x + d) := h
      show min (min l t + n) t ≤ min (t + n) t ∧ min (min y t + n) t = max (min (min l t + n) t) (min (min (t + n) t) (x + (d + n)))
      omega
    | some l, some e, some y, h =>
      obtain ⟨h1, h2⟩ : l ≤ e ∧ y = max l (min e (x + d)) := h
      show min (min l t + n) t ≤ min (min e t + n) t ∧ min (min y t + n) t = max (min (min l t + n) t) (min (min (min e t + n) t) (x + (d + n)))
      omega
  | left n =>
    have o : 1 ≤ n := ok
    match lo, hi, g, h with
    | none, none, none, _ =>
      show max 0 (t - n) ≤ max 0 (t - n) ∧ max 0 (t - n) = max (max 0 (t - n)) (min (max 0 (t - n)) (x + (d + -n)))
      omega
    | some l, none, some y, h =>
      have h' : y = max l (x + d) := h
      show max 0 (min l t - n) ≤ max 0 (t - n) ∧ max 0 (min y t - n) = max (max 0 (min l t - n)) (min (max 0 (t - n)) (x + (d + -n)))
      omega
    | some l, some e, some y, h =>
      obtain ⟨h1, h2⟩ : l ≤ e ∧ y = max l (min e (x + d)) := h
      show max 0 (min l t - n) ≤ max 0 (min e t - n) ∧ max 0 (min y t - n) = max (max 0 (min l t - n)) (min (max 0 (min e t - n)) (x + (d + -n)))
      omega
theorem clampF {T : Int → Int} (hT : ∀ k, 0 ≤ T k) {x : Int} (x0 : 0 ≤ x) : ∀ {cs : List Cmd} {r : Int} {lo hi : Option Int} {d : Int} {g : Option Int}, AllOk cs → Clamp lo hi d x g → Clamp (aimF T r lo cs) (aimF T r hi cs) (d + chg cs) x (aimF T r g cs)
  | [], r, lo, hi, d, g, _, h => by
    show Clamp lo hi (d + 0) x g
    rw [Int.add_zero]
    exact h
  | c :: cs, r, lo, hi, d, g, ok, h => by
    have q := clampF hT x0 (cs := cs) (r := r + c.dv) (fun e he => ok e (List.mem_cons_of_mem _ he)) (clamp1 (hT r) h c (ok c List.mem_cons_self))
    rw [show d + chg (c :: cs) = d + chg1 c + chg cs from by show d + (chg1 c + chg cs) = _; omega]
    exact q
theorem clamp_all {T : Int → Int} (hT : ∀ k, 0 ≤ T k) {cs : List Cmd} (ok : AllOk cs) (r : Int) {x : Int} (x0 : 0 ≤ x) : Clamp (aimF T r (some 0) cs) (aimF T r none cs) (chg cs) x (aimF T r (some x) cs) := by
  have q := clampF hT x0 (cs := cs) (r := r) (lo := some 0) (hi := none) (d := 0) (g := some x) ok (by show x = max 0 (x + 0); omega)
  rw [Int.zero_add] at q
  exact q
/-- from a goal of at least all lines on, it is as from None, if that leads to a column -/
theorem aimF_far {T : Int → Int} {B : Int} (hB : ∀ k, T k ≤ B) {x : Int} (hx : B ≤ x) : ∀ {cs : List Cmd} {r : Int}, (aimF T r (some x) cs = aimF T r none cs) ∨ (aimF T r (some x) cs = some x ∧ aimF T r none cs = none ∧ chg cs = 0)
  | [], r => .inr ⟨rfl, rfl, rfl⟩
  | c :: cs, r => by
    have same : ∀ a : Option Int, aim1 (T r) (some x) c = a → aim1 (T r) none c = a → (aimF T r (some x) (c :: cs) = aimF T r none (c :: cs)) := fun a e1 e2 => by
      show aimF T (r + c.dv) (aim1 (T r) (some x) c) cs = aimF T (r + c.dv) (aim1 (T r) none c) cs
      rw [e1, e2]
    have sx : seen (T r) (some x) = seen (T r) none := by
      have := hB r
      show min x (T r) = T r
      omega
    cases c with
    | right n => exact .inl (same _ rfl (by show some (min (seen (T r) none + n) (T r)) = some (min (seen (T r) (some x) + n) (T r)); rw [sx]))
    | left n => exact .inl (same _ rfl (by show some (max 0 (seen (T r) none - n)) = some (max 0 (seen (T r) (some x) - n)); rw [sx]))
    | home => exact .inl (same _ rfl rfl)
    | stop => exact .inl (same _ rfl rfl)
    | down n =>
      rcases aimF_far hB hx (cs := cs) (r := r + n) with e | ⟨e1, e2, e3⟩
      · exact .inl e
      · exact .inr ⟨e1, e2, by show 0 + chg cs = 0; omega⟩
    | up n =>
      rcases aimF_far hB hx (cs := cs) (r := r + -n) with e | ⟨e1, e2, e3⟩
      · exact .inl e
      · exact .inr ⟨e1, e2, by show 0 + chg cs = 0; omega⟩
end Gc

/-! commands repeated in a row: one run, the bounds and the change tell them all -/
namespace Gc
def iterA (f : Option Int → Option Int) : Nat → Option Int → Option Int
  | 0, g => g
  | k + 1, g => iterA f k (f g)
/-- the goal behind m further runs, told by the first one's goal -/
def tellM (lo hi : Option Int) (d : Int) (m : Nat) : Option Int → Option Int
  | none => none
  | some y => match hi with
    | none => some (max (y + m * d) (lo.getD 0))
    | some h => some (min (max (y + m * d) (lo.getD 0)) h)
/-- a goal that a run may leave -/
def Img (lo hi : Option Int) : Option Int → Prop
  | none => hi = none
  | some y => ∃ l, lo = some l ∧ l ≤ y ∧ ∀ h, hi = some h → y ≤ h ∧ l ≤ h
theorem clamp_img {lo hi : Option Int} {d x : Int} {g : Option Int} (h : Clamp lo hi d x g) : Img lo hi g := by
  unfold Clamp at h
  split at h
  · rfl
  · exact ⟨_, rfl, by omega, fun _ z => nomatch z⟩
  · obtain ⟨h1, h2⟩ := h
    exact ⟨_, rfl, by omega, fun _ z => by cases z; omega⟩
  · exact h.elim
theorem tell_iter {f : Option Int → Option Int} {d : Int} {lo hi : Option Int} (fn : f none = hi) (hc : ∀ x, 0 ≤ x → Clamp lo hi d x (f (some x))) (l0 : ∀ l, lo = some l → 0 ≤ l) : ∀ (m : Nat) (g : Option Int), Img lo hi g → iterA f m g = tellM lo hi d m g
  | 0, g, hg => by
    show g = tellM lo hi d 0 g
    cases g with
    | none => rfl
    | some y =>
      obtain ⟨l, rfl, ly, hh⟩ := hg
      cases hi with
      | none =>
        show some y = some (max (y + ((0 : Nat) : Int) * d) l)
        rw [show ((0 : Nat) : Int) * d = 0 by simp]
        congr 1
        omega
      | some h =>
        have := hh h rfl
        show some y = some (min (max (y + ((0 : Nat) : Int) * d) l) h)
        rw [show ((0 : Nat) : Int) * d = 0 by simp]
        congr 1
        omega
  | m + 1, g, hg => by
    show iterA f m (f g) = tellM lo hi d (m + 1) g
    cases g with
    | none =>
      have hn : hi = none := hg
      rw [fn, hn, tell_iter (by rw [fn]; exact hn.symm ▸ rfl) (hn ▸ hc) l0 m none rfl]
      rfl
    | some y =>
      obtain ⟨l, rfl, ly, hh⟩ := hg
      have y0 : 0 ≤ y := Int.le_trans (l0 l rfl) ly
      have c := hc y y0
      rw [tell_iter fn hc l0 m _ (clamp_img c)]
      have md : ((m + 1 : Nat) : Int) * d = m * d + d := by rw [Int.natCast_add, Int.add_mul]; simp
      have up : 0 ≤ d → 0 ≤ (m : Int) * d := fun q => Int.mul_nonneg (Int.natCast_nonneg m) q
      have dn : d ≤ 0 → (m : Int) * d ≤ 0 := fun q => Int.mul_nonpos_of_nonneg_of_nonpos (Int.natCast_nonneg m) q
      cases e : f (some y) with
      | none =>
        rw [e] at c
        unfold Clamp at c
        cases hi <;> exact c.elim
      | some y' =>
        rw [e] at c
        cases hi with
        | none =>
          have c' : y' = max l (y + d) := c
          show some (max (y' + (m : Int) * d) l) = some (max (y + ((m + 1 : Nat) : Int) * d) l)
          rw [md]
          generalize (m : Int) * d = t at up dn ⊢
          congr 1
          omega
        | some h =>
          obtain ⟨c1, c2⟩ : l ≤ h ∧ y' = max l (min h (y + d)) := c
          have yh := (hh h rfl).1
          show some (min (max (y' + (m : Int) * d) l) h) = some (min (max (y + ((m + 1 : Nat) : Int) * d) l) h)
          rw [md]
          generalize (m : Int) * d = t at up dn ⊢
          congr 1
          omega
end Gc

/-! running key by key, where it fails, and again and again -/
namespace Gc
/-- one key -/
def stepP (T : List Int) (r : Int) (g : Option Int) (c : Cmd) : Option (Int × Option Int) := if c.vert = true then (if 0 ≤ r + c.dv ∧ r + c.dv < T.length then some (r + c.dv, g) else none) else some (r, aim1 (lenAt T r) g c)
theorem afterL_step (T : List Int) (r : Int) (g : Option Int) (c : Cmd) (cs : List Cmd) : afterL T r g (c :: cs) = (stepP T r g c).bind fun x => afterL T x.1 x.2 cs := by
  unfold stepP
  simp only [afterL]
  by_cases cv : c.vert = true
  · rw [if_pos cv, if_pos cv]
    split <;> rfl
  · rw [if_neg cv, if_neg cv]
    rfl
/-- the index of the first key that leaves the text -/
def failAt (T : List Int) : Int → Option Int → List Cmd → Option Nat
  | _, _, [] => none
  | r, g, c :: cs => match stepP T r g c with
    | none => some 0
    | some x => (failAt T x.1 x.2 cs).map (· + 1)
theorem fail_step (T : List Int) (r : Int) (g : Option Int) (c : Cmd) (cs : List Cmd) : failAt T r g (c :: cs) = match stepP T r g c with
    | none => some 0
    | some x => (failAt T x.1 x.2 cs).map (· + 1) := rfl
theorem step_row {T : List Int} {r : Int} {g : Option Int} {c : Cmd} {x : Int × Option Int} (r0 : 0 ≤ r) (r1 : r < T.length) (h : stepP T r g c = some x) : 0 ≤ x.1 ∧ x.1 < T.length := by
  unfold stepP at h
  split at h
  · split at h
    · rename_i q
      cases h
      exact q
    · cases h
  · cases h
    exact ⟨r0, r1⟩
theorem fail_none {T : List Int} : ∀ {cs : List Cmd} {r : Int} {g : Option Int}, failAt T r g cs = none ↔ afterL T r g cs ≠ none
  | [], r, g => ⟨fun _ z => (nomatch z), fun _ => rfl⟩
  | c :: cs, r, g => by
    rw [afterL_step]
    unfold failAt
    cases stepP T r g c with
    | none => simp
    | some x =>
      have ih := fail_none (T := T) (cs := cs) (r := x.1) (g := x.2)
      show (failAt T x.1 x.2 cs).map (· + 1) = none ↔ afterL T x.1 x.2 cs ≠ none
      rw [Option.map_eq_none_iff]
      exact ih
def repP (T : List Int) (cs : List Cmd) : Nat → Int → Option Int → Nat ⊕ (Int × Option Int)
  | 0, r, g => .inr (r, g)
  | k + 1, r, g => match failAt T r g cs with
    | some n => .inl n
    | none => match afterL T r g cs with
      | some x => repP T cs k x.1 x.2
      | none => .inl 0
theorem repP_step (T : List Int) (cs : List Cmd) (k : Nat) (r : Int) (g : Option Int) : repP T cs (k + 1) r g = match failAt T r g cs with
    | some n => .inl n
    | none => match afterL T r g cs with
      | some x => repP T cs k x.1 x.2
      | none => .inl 0 := rfl
theorem after_row {T : List Int} : ∀ {cs : List Cmd} {r : Int} {g : Option Int} {x : Int × Option Int}, 0 ≤ r → r < T.length → afterL T r g cs = some x → 0 ≤ x.1 ∧ x.1 < T.length
  | [], r, g, x, h0, h1, h => by
    cases h
    exact ⟨h0, h1⟩
  | c :: cs, r, g, x, h0, h1, h => by
    rw [afterL_step] at h
    cases e : stepP T r g c with
    | none =>
      rw [e] at h
      cases h
    | some y =>
      rw [e] at h
      obtain ⟨a, b⟩ := step_row h0 h1 e
      exact after_row a b h
theorem after_nn {T : List Int} (hT : ∀ x ∈ T, 0 ≤ x) : ∀ {cs : List Cmd} {r : Int} {g : Option Int} {x : Int × Option Int}, AllOk cs → ge g 0 → afterL T r g cs = some x → ge x.2 0
  | [], r, g, x, _, hg, h => by
    cases h
    exact hg
  | c :: cs, r, g, x, ok, hg, h => by
    rw [afterL_step] at h
    cases e : stepP T r g c with
    | none =>
      rw [e] at h
      cases h
    | some y =>
      rw [e] at h
      refine after_nn hT (fun d hd => ok d (List.mem_cons_of_mem _ hd)) ?_ h
      unfold stepP at e
      split at e
      · split at e
        · cases e
          exact hg
        · cases e
      · cases e
        have q := aimF_nn (T := lenAt T) (lenAt_nn hT) (cs := [c]) (r := r) (a := g) (fun d hd => by rw [List.mem_singleton.mp hd]; exact ok c List.mem_cons_self) hg
        exact q
/-- possible exactly within -/
theorem after_within {T : List Int} : ∀ {cs : List Cmd} {r : Int} {g : Option Int}, 0 ≤ r → r < T.length → afterL T r g cs ≠ none → Within cs (-r) (T.length - 1 - r)
  | [], r, g, h0, h1, _, i => by
    rw [List.take_nil]
    show -r ≤ 0 ∧ 0 ≤ _
    omega
  | c :: cs, r, g, h0, h1, h, i => by
    rw [afterL_step] at h
    cases e : stepP T r g c with
    | none =>
      rw [e] at h
      exact absurd rfl h
    | some y =>
      rw [e] at h
      obtain ⟨a, b⟩ := step_row h0 h1 e
      have ih := after_within (T := T) (cs := cs) (r := y.1) (g := y.2) a b h
      have ey : y.1 = r + c.dv := by
        unfold stepP at e
        split at e
        · split at e
          · cases e
            rfl
          · cases e
        · rename_i cv
          cases e
          show r = r + c.dv
          have : c.dv = 0 := by cases c <;> first | rfl | exact absurd rfl cv
          omega
      cases i with
      | zero =>
        show -r ≤ 0 ∧ 0 ≤ _
        omega
      | succ i =>
        have q := ih i
        have e2 : last ((c :: cs).take (i + 1)) = c.dv + last (cs.take i) := rfl
        rw [e2]
        omega
theorem fail_in {T : List Int} {cs : List Cmd} {r : Int} {g : Option Int} (h0 : 0 ≤ r) (h1 : r < T.length) (h : failAt T r g cs = none) : Within cs (-r) (T.length - 1 - r) := after_within h0 h1 (fail_none.mp h)
/-- commands that come back to their row -/
theorem repP_row {T : List Int} {cs : List Cmd} {r : Int} (w : Within cs (-r) (T.length - 1 - r)) (l0 : last cs = 0) : ∀ (m : Nat) (g : Option Int), repP T cs m r g = .inr (r, iterA (fun g => aimF (lenAt T) r g cs) m g)
  | 0, g => rfl
  | m + 1, g => by
    have e := afterL_in (a := g) w
    rw [repP_step, fail_none.mpr (by rw [e]; exact fun z => nomatch z), e, l0, Int.add_zero]
    exact repP_row w l0 m _
end Gc

/-! stands in for pool/Keys, which this law has not -/

/-! the P family's own running, one key at a time -/
namespace Gc
open PySem L2
abbrev s_after1 : Stmt := top 32
structure TxtO (mg : Str → Option Value) : Prop where
  int : mg "int" = none
  len : mg "len" = none
  min : mg "min" = none
  max : mg "max" = none
theorem at_tP {u v : V} {b : Bool} (h : b = true) : atI [u, v] (if b = true then (1 : Int) else 0) = some v := by
  subst h
  rfl
theorem at_fP {u v : V} {b : Bool} (h : b = false) : atI [u, v] (if b = true then (1 : Int) else 0) = some u := by
  subst h
  rfl
theorem at_lenP {T : List Int} {r : Int} (h0 : 0 ≤ r) (h1 : r < T.length) : atI (T.map V.int) r = some (.int (lenAt T r)) := by
  have e : r = (r.toNat : Int) := by omega
  refine at_of (j := r.toNat) e ?_
  have l : r.toNat < T.length := by omega
  unfold lenAt
  rw [List.getElem?_map, List.getD_eq_getElem?_getD, List.getElem?_eq_getElem l]
  rfl
def spAfter1 (K : PySem.W.Frag) : Sp := fun vs H Q _ => ∃ (t b : Addr) (v : V) (T : List Int) (r : Int) (g : Option Int) (c : Cmd), vs = [.ref t, .ref b, v] ∧ SqL K H t (T.map V.int) ∧ SqT K H b [.int r, optV g] ∧ CmdAt K H v c ∧ 0 ≤ r ∧ r < T.length ∧ c.ok ∧ numC c < 10 ^ 40 ∧
  (stepP T r g c = none → ∀ H', Same H H' → Q .non H') ∧ ∀ r' g', stepP T r g c = some (r', g') → ∀ (H' : Hp) (p : Addr), Same H H' → H p = none → H' p = some (.tup [.int r', optV g']) → Q (.ref p) H'
section
variable {P : Program} {w : World} {K : PySem.W.Frag} {mg : Str → Option Value} {base : Heap}
theorem sc_law_after : FnScope ["lengths", "spot", "key", "row", "goal", "seen"] ["lengths", "spot", "key"] (defScope s_after1) := ⟨rfl, rfl, rfl, by decide +kernel, rfl, by decide +kernel, by decide +kernel⟩
theorem ok_after1 {f : Addr} {fd : FuncData} (F : Fun K "_law_after" "_law_after" s_after1 f fd) (T : TxtO mg) : FnOk P w K mg base CX0 1 f fd ["lengths", "spot", "key"] (spAfter1 K) := by
  refine F.ok sc_law_after (fun vs H Q E h => ?_) (fun cdv A outer s H vs Q E hr h => ?_)
  · obtain ⟨t, b, v, tx, r, g, c, rfl, _⟩ := h
    rfl
  · obtain ⟨t, b, v, tx, r, g, c, rfl, ht, hb, ⟨ka, rfl, hk⟩, r0, r1, hcok, nb, kn, ks⟩ := h
    refine ⟨_, (pss_cons (ps_asg (pv 1) (pg_tup rfl (pgs_cons (pg_name (i := 3) sc_law_after.nd rfl (Or.inl rfl)) (pgs_cons (pg_name (i := 4) sc_law_after.nd rfl (Or.inl rfl)) pgs_nil))))
      (pss_cons (ps_if (pt_cmpR op_eq (pe_ix ix_tup (pv 2) pe_int (fun _ _ => rfl)) pe_str (nomark _)) (pss_one (ps_ret (pe_tup (pa_cons (pv 3) (pa_cons pe_int pa_nil))))) pss_nil)
      (pss_cons (ps_if (pt_cmpR op_eq (pe_ix ix_tup (pv 2) pe_int (fun _ _ => rfl)) pe_str (nomark _)) (pss_one (ps_ret (pe_tup (pa_cons (pv 3) (pa_cons pe_non pa_nil))))) pss_nil)
      (pss_cons (ps_if (pt_cmpR op_in_seq (pe_ix ix_tup (pv 2) pe_int (fun _ _ => rfl)) (pe_lst (pa_cons pe_str (pa_cons pe_str pa_nil))) (by rfl)) (pss_cons (ps_set (i := 3) sc_law_after.nd rfl (Or.inl rfl) (pe_op op_add (pv 3) (pe_op op_mulW (pe_ix ix_tup (pv 2) pe_int (fun _ _ => rfl)) (pe_ix ix_list (pe_lst (pa_cons pe_int (pa_cons (pe_un un_neg pe_int) pa_nil))) (pe_callTy call_int1 (by rfl) T.int (by decide +kernel) (pa_cons (pe_cmpR op_eq (pe_ix ix_tup (pv 2) pe_int (fun _ _ => rfl)) pe_str (nomark _)) pa_nil)) (fun _ _ => rfl)))))
      (pss_one (ps_ret (pe_ifExp (pt_chain op_le op_lt pe_int (pv 3) (pe_callB call_len_seq (by rfl) T.len (by decide +kernel) (pa_cons (pv 0) pa_nil))) (pe_tup (pa_cons (pv 3) (pa_cons (pv 4) pa_nil))) pe_non)))) pss_nil)
      (pss_cons (ps_set (i := 5) sc_law_after.nd rfl (Or.inl rfl) (pe_ifExp (pt_cmpR op_isN (pv 4) pe_non (nomark _)) (pe_ix ix_list (pv 0) (pv 3) (fun _ _ => rfl)) (pe_callB (call_min2 rfl) (by rfl) T.min (by decide +kernel) (pa_cons (pv 4) (pa_cons (pe_ix ix_list (pv 0) (pv 3) (fun _ _ => rfl)) pa_nil)))))
      (pss_one (ps_ret (pe_tup (pa_cons (pv 3) (pa_cons (pe_ifExp (pt_cmpR op_eq (pe_ix ix_tup (pv 2) pe_int (fun _ _ => rfl)) pe_str (nomark _)) (pe_callB (call_min2 rfl) (by rfl) T.min (by decide +kernel) (pa_cons (pe_op op_add (pv 5) (pe_ix ix_tup (pv 2) pe_int (fun _ _ => rfl))) (pa_cons (pe_ix ix_list (pv 0) (pv 3) (fun _ _ => rfl)) pa_nil))) (pe_callB (call_max2 rfl) (by rfl) T.max (by decide +kernel) (pa_cons pe_int (pa_cons (pe_op op_sub (pv 5) (pe_ix ix_tup (pv 2) pe_int (fun _ _ => rfl))) pa_nil)))) pa_nil)))))))))), ?_⟩
    refine ⟨_, rfl, b, _, rfl, hb, rfl, _, _, rfl, _, _, rfl, rfl, ?_⟩
    cases c with
    | home =>
      refine ⟨_, rfl, ka, _, 0, _, rfl, rfl, hk, rfl, rfl, true, by decide +kernel, iteT ?_⟩
      exact ⟨_, rfl, (by show 2 ≤ sizeLine; decide), fun p np => ks r (some 0) rfl _ p (new_same np) np upd_same⟩
    | stop =>
      refine ⟨_, rfl, ka, _, 0, _, rfl, rfl, hk, rfl, rfl, false, by decide +kernel, iteF ?_⟩
      refine ⟨_, rfl, ka, _, 0, _, rfl, rfl, hk, rfl, rfl, true, by decide +kernel, iteT ?_⟩
      exact ⟨_, rfl, (by show 2 ≤ sizeLine; decide), fun p np => ks r none rfl _ p (new_same np) np upd_same⟩
    | down n =>
      have nb' : n < 10 ^ 40 := nb
      refine ⟨_, rfl, ka, _, 0, _, rfl, rfl, hk, rfl, rfl, false, by decide +kernel, iteF ?_⟩
      refine ⟨_, rfl, ka, _, 0, _, rfl, rfl, hk, rfl, rfl, false, by decide +kernel, iteF ?_⟩
      refine ⟨_, rfl, ka, _, 0, _, rfl, rfl, hk, rfl, (by show 2 ≤ sizeLine; decide), fun p1 np1 => ?_⟩
      have e_H1 : Same H (upd H p1 (.lst [V.str "down", .str "up"])) := new_same np1
      have h_p1 : (upd H p1 (.lst [V.str "down", .str "up"])) p1 = some (.lst [V.str "down", .str "up"]) := upd_same
      generalize upd H p1 (.lst [V.str "down", .str "up"]) = H1 at e_H1 h_p1 ⊢
      replace hk := seq_t e_H1 hk
      replace ht := e_H1.seq ht
      refine ⟨p1, _, rfl, .inl (SqL.of h_p1), rfl, rfl, true, by decide +kernel, iteT ?_⟩
      refine ⟨_, rfl, _, rfl, ka, _, 1, _, rfl, rfl, hk, rfl, _, rfl, (by show 2 ≤ sizeLine; decide), fun p2 np2 => ?_⟩
      have e_H2 : Same H1 (upd H1 p2 (.lst [V.int 1, .int (-1)])) := new_same np2
      have h_p2 : (upd H1 p2 (.lst [V.int 1, .int (-1)])) p2 = some (.lst [V.int 1, .int (-1)]) := upd_same
      generalize upd H1 p2 (.lst [V.int 1, .int (-1)]) = H2 at e_H2 h_p2 ⊢
      replace hk := seq_t e_H2 hk
      replace ht := e_H2.seq ht
      refine ⟨_, rfl, ka, _, 0, _, rfl, rfl, hk, rfl, rfl, .inr ⟨_, rfl, p2, _, _, _, rfl, rfl, SqL.of h_p2, at_fP (by decide +kernel), _, _, rfl, rfl, ?_⟩⟩
      have e12 := e_H1.trans e_H2
      have okc := hcok
      have n1 : 1 ≤ n := okc
      refine ⟨wide_mul (a := 134) (b := 2) (by omega) (by decide) (by decide) (by decide) (by decide), _, _, rfl, rfl, ?_⟩
      obtain ⟨r2, hr2, hd⟩ : ∃ r2, r + n * (if false = true then -1 else 1) = r2 ∧ r2 = r + (Cmd.down n).dv := ⟨_, rfl, by show r + n * (if false = true then -1 else 1) = r + n; simp⟩
      have hin : 0 ≤ r2 → r2 < tx.length → stepP tx r g (.down n) = some (r2, g) := fun h1 h2 => by
        unfold stepP
        rw [if_pos (show (Cmd.down n).vert = true from rfl), ← hd, if_pos ⟨h1, h2⟩]
      have hout : ¬ (0 ≤ r2 ∧ r2 < tx.length) → stepP tx r g (.down n) = none := fun h1 => by
        unfold stepP
        rw [if_pos (show (Cmd.down n).vert = true from rfl), ← hd, if_neg h1]
      show gName 3 (V.int (r + n * (if false = true then -1 else 1))) _ H2 _
      rw [hr2]
      refine ⟨_, rfl, _, _, rfl, rfl, _, rfl, ite2 (fun c0 => ?_) (fun c0 => ?_)⟩
      · have c0' : 0 ≤ r2 := of_decide_eq_true c0
        refine ⟨_, rfl, t, _, rfl, .inl ht, _, _, rfl, rfl, _, rfl, ite2 (fun c1 => ?_) (fun c1 => ?_)⟩
        · have c1' : r2 < ((tx.map V.int).length : Int) := of_decide_eq_true c1
          rw [List.length_map] at c1'
          exact ⟨_, rfl, _, rfl, (by show 2 ≤ sizeLine; decide), fun p np => ks r2 g (hin c0' c1') _ p (e12.trans (new_same np)) (e12.free np) upd_same⟩
        · have c1' : ¬ r2 < ((tx.map V.int).length : Int) := fun z => c1 (decide_eq_true z)
          rw [List.length_map] at c1'
          exact kn (hout fun z => c1' z.2) _ e12
      · have c0' : ¬ 0 ≤ r2 := fun z => c0 (decide_eq_true z)
        exact ⟨_, rfl, iteF (kn (hout fun z => c0' z.1) _ e12)⟩
    | up n =>
      have nb' : n < 10 ^ 40 := nb
      refine ⟨_, rfl, ka, _, 0, _, rfl, rfl, hk, rfl, rfl, false, by decide +kernel, iteF ?_⟩
      refine ⟨_, rfl, ka, _, 0, _, rfl, rfl, hk, rfl, rfl, false, by decide +kernel, iteF ?_⟩
      refine ⟨_, rfl, ka, _, 0, _, rfl, rfl, hk, rfl, (by show 2 ≤ sizeLine; decide), fun p1 np1 => ?_⟩
      have e_H1 : Same H (upd H p1 (.lst [V.str "down", .str "up"])) := new_same np1
      have h_p1 : (upd H p1 (.lst [V.str "down", .str "up"])) p1 = some (.lst [V.str "down", .str "up"]) := upd_same
      generalize upd H p1 (.lst [V.str "down", .str "up"]) = H1 at e_H1 h_p1 ⊢
      replace hk := seq_t e_H1 hk
      replace ht := e_H1.seq ht
      refine ⟨p1, _, rfl, .inl (SqL.of h_p1), rfl, rfl, true, by decide +kernel, iteT ?_⟩
      refine ⟨_, rfl, _, rfl, ka, _, 1, _, rfl, rfl, hk, rfl, _, rfl, (by show 2 ≤ sizeLine; decide), fun p2 np2 => ?_⟩
      have e_H2 : Same H1 (upd H1 p2 (.lst [V.int 1, .int (-1)])) := new_same np2
      have h_p2 : (upd H1 p2 (.lst [V.int 1, .int (-1)])) p2 = some (.lst [V.int 1, .int (-1)]) := upd_same
      generalize upd H1 p2 (.lst [V.int 1, .int (-1)]) = H2 at e_H2 h_p2 ⊢
      replace hk := seq_t e_H2 hk
      replace ht := e_H2.seq ht
      refine ⟨_, rfl, ka, _, 0, _, rfl, rfl, hk, rfl, rfl, .inr ⟨_, rfl, p2, _, _, _, rfl, rfl, SqL.of h_p2, at_tP (by decide +kernel), _, _, rfl, rfl, ?_⟩⟩
      have e12 := e_H1.trans e_H2
      have okc := hcok
      have n1 : 1 ≤ n := okc
      refine ⟨wide_mul (a := 134) (b := 2) (by omega) (by decide) (by decide) (by decide) (by decide), _, _, rfl, rfl, ?_⟩
      obtain ⟨r2, hr2, hd⟩ : ∃ r2, r + n * (if true = true then -1 else 1) = r2 ∧ r2 = r + (Cmd.up n).dv := ⟨_, rfl, by show r + n * (if true = true then -1 else 1) = r + -n; simp⟩
      have hin : 0 ≤ r2 → r2 < tx.length → stepP tx r g (.up n) = some (r2, g) := fun h1 h2 => by
        unfold stepP
        rw [if_pos (show (Cmd.up n).vert = true from rfl), ← hd, if_pos ⟨h1, h2⟩]
      have hout : ¬ (0 ≤ r2 ∧ r2 < tx.length) → stepP tx r g (.up n) = none := fun h1 => by
        unfold stepP
        rw [if_pos (show (Cmd.up n).vert = true from rfl), ← hd, if_neg h1]
      show gName 3 (V.int (r + n * (if true = true then -1 else 1))) _ H2 _
      rw [hr2]
      refine ⟨_, rfl, _, _, rfl, rfl, _, rfl, ite2 (fun c0 => ?_) (fun c0 => ?_)⟩
      · have c0' : 0 ≤ r2 := of_decide_eq_true c0
        refine ⟨_, rfl, t, _, rfl, .inl ht, _, _, rfl, rfl, _, rfl, ite2 (fun c1 => ?_) (fun c1 => ?_)⟩
        · have c1' : r2 < ((tx.map V.int).length : Int) := of_decide_eq_true c1
          rw [List.length_map] at c1'
          exact ⟨_, rfl, _, rfl, (by show 2 ≤ sizeLine; decide), fun p np => ks r2 g (hin c0' c1') _ p (e12.trans (new_same np)) (e12.free np) upd_same⟩
        · have c1' : ¬ r2 < ((tx.map V.int).length : Int) := fun z => c1 (decide_eq_true z)
          rw [List.length_map] at c1'
          exact kn (hout fun z => c1' z.2) _ e12
      · have c0' : ¬ 0 ≤ r2 := fun z => c0 (decide_eq_true z)
        exact ⟨_, rfl, iteF (kn (hout fun z => c0' z.1) _ e12)⟩
    | right n =>
      have nb' : n < 10 ^ 40 := nb
      have st : stepP tx r g (.right n) = some (r, aim1 (lenAt tx r) g (.right n)) := rfl
      have al := at_lenP r0 r1
      refine ⟨_, rfl, ka, _, 0, _, rfl, rfl, hk, rfl, rfl, false, by decide +kernel, iteF ?_⟩
      refine ⟨_, rfl, ka, _, 0, _, rfl, rfl, hk, rfl, rfl, false, by decide +kernel, iteF ?_⟩
      refine ⟨_, rfl, ka, _, 0, _, rfl, rfl, hk, rfl, (by show 2 ≤ sizeLine; decide), fun p1 np1 => ?_⟩
      have e_H1 : Same H (upd H p1 (.lst [V.str "down", .str "up"])) := new_same np1
      have h_p1 : (upd H p1 (.lst [V.str "down", .str "up"])) p1 = some (.lst [V.str "down", .str "up"]) := upd_same
      generalize upd H p1 (.lst [V.str "down", .str "up"]) = H1 at e_H1 h_p1 ⊢
      replace hk := seq_t e_H1 hk
      replace ht := e_H1.seq ht
      refine ⟨p1, _, rfl, .inl (SqL.of h_p1), rfl, rfl, false, by decide +kernel, iteF ?_⟩
      cases g with
      | none =>
        refine ⟨_, rfl, rfl, true, by rfl, iteT ⟨_, rfl, _, rfl, t, _, _, _, rfl, rfl, ht, al, ?_⟩⟩
        refine ⟨_, rfl, ?_⟩
        refine ⟨_, rfl, ka, _, 0, _, rfl, rfl, hk, rfl, rfl, true, by decide +kernel, iteT ?_⟩
        refine ⟨_, rfl, _, rfl, ka, _, 1, _, rfl, rfl, hk, rfl, _, _, rfl, rfl, _, rfl, _, rfl, t, _, _, _, rfl, rfl, ht, al, _, _, rfl, (by show 2 ≤ sizeLine; decide), fun p np => ?_⟩
        have e : (if lenAt tx r < lenAt tx r + n then lenAt tx r else lenAt tx r + n) = min (seen (lenAt tx r) none + n) (lenAt tx r) := by
          show _ = min (lenAt tx r + n) (lenAt tx r)
          split <;> omega
        exact ks r _ st _ p (e_H1.trans (new_same np)) (e_H1.free np) (upd_same.trans (by rw [e]; rfl))
      | some x =>
        refine ⟨_, rfl, rfl, false, by rfl, iteF ⟨_, rfl, _, rfl, _, rfl, t, _, _, _, rfl, rfl, ht, al, _, _, rfl, ?_⟩⟩
        refine ⟨_, rfl, ?_⟩
        refine ⟨_, rfl, ka, _, 0, _, rfl, rfl, hk, rfl, rfl, true, by decide +kernel, iteT ?_⟩
        refine ⟨_, rfl, _, rfl, ka, _, 1, _, rfl, rfl, hk, rfl, _, _, rfl, rfl, _, rfl, _, rfl, t, _, _, _, rfl, rfl, ht, al, _, _, rfl, (by show 2 ≤ sizeLine; decide), fun p np => ?_⟩
        have e : (if lenAt tx r < (if lenAt tx r < x then lenAt tx r else x) + n then lenAt tx r else (if lenAt tx r < x then lenAt tx r else x) + n) = min (seen (lenAt tx r) (some x) + n) (lenAt tx r) := by
          show _ = min (min x (lenAt tx r) + n) (lenAt tx r)
          split <;> (split <;> omega)
        exact ks r _ st _ p (e_H1.trans (new_same np)) (e_H1.free np) (upd_same.trans (by rw [e]; rfl))
    | left n =>
      have nb' : n < 10 ^ 40 := nb
      have st : stepP tx r g (.left n) = some (r, aim1 (lenAt tx r) g (.left n)) := rfl
      have al := at_lenP r0 r1
      refine ⟨_, rfl, ka, _, 0, _, rfl, rfl, hk, rfl, rfl, false, by decide +kernel, iteF ?_⟩
      refine ⟨_, rfl, ka, _, 0, _, rfl, rfl, hk, rfl, rfl, false, by decide +kernel, iteF ?_⟩
      refine ⟨_, rfl, ka, _, 0, _, rfl, rfl, hk, rfl, (by show 2 ≤ sizeLine; decide), fun p1 np1 => ?_⟩
      have e_H1 : Same H (upd H p1 (.lst [V.str "down", .str "up"])) := new_same np1
      have h_p1 : (upd H p1 (.lst [V.str "down", .str "up"])) p1 = some (.lst [V.str "down", .str "up"]) := upd_same
      generalize upd H p1 (.lst [V.str "down", .str "up"]) = H1 at e_H1 h_p1 ⊢
      replace hk := seq_t e_H1 hk
      replace ht := e_H1.seq ht
      refine ⟨p1, _, rfl, .inl (SqL.of h_p1), rfl, rfl, false, by decide +kernel, iteF ?_⟩
      cases g with
      | none =>
        refine ⟨_, rfl, rfl, true, by rfl, iteT ⟨_, rfl, _, rfl, t, _, _, _, rfl, rfl, ht, al, ?_⟩⟩
        refine ⟨_, rfl, ?_⟩
        refine ⟨_, rfl, ka, _, 0, _, rfl, rfl, hk, rfl, rfl, false, by decide +kernel, iteF ?_⟩
        refine ⟨_, rfl, _, rfl, ka, _, 1, _, rfl, rfl, hk, rfl, _, _, rfl, rfl, _, _, rfl, (by show 2 ≤ sizeLine; decide), fun p np => ?_⟩
        have e : (if lenAt tx r - n > 0 then lenAt tx r - n else 0) = max 0 (seen (lenAt tx r) none - n) := by
          show _ = max 0 (lenAt tx r - n)
          split <;> omega
        exact ks r _ st _ p (e_H1.trans (new_same np)) (e_H1.free np) (upd_same.trans (by rw [e]; rfl))
      | some x =>
        refine ⟨_, rfl, rfl, false, by rfl, iteF ⟨_, rfl, _, rfl, _, rfl, t, _, _, _, rfl, rfl, ht, al, _, _, rfl, ?_⟩⟩
        refine ⟨_, rfl, ?_⟩
        refine ⟨_, rfl, ka, _, 0, _, rfl, rfl, hk, rfl, rfl, false, by decide +kernel, iteF ?_⟩
        refine ⟨_, rfl, _, rfl, ka, _, 1, _, rfl, rfl, hk, rfl, _, _, rfl, rfl, _, _, rfl, (by show 2 ≤ sizeLine; decide), fun p np => ?_⟩
        have e : (if (if lenAt tx r < x then lenAt tx r else x) - n > 0 then (if lenAt tx r < x then lenAt tx r else x) - n else 0) = max 0 (seen (lenAt tx r) (some x) - n) := by
          show _ = max 0 (min x (lenAt tx r) - n)
          split <;> (split <;> omega)
        exact ks r _ st _ p (e_H1.trans (new_same np)) (e_H1.free np) (upd_same.trans (by rw [e]; rfl))
end
end Gc

/-! the P family's own running, and its cursors -/
namespace Gc
open PySem L2
abbrev s_ran : Stmt := top 33
structure TxtN (mg : Str → Option Value) : Prop where
  enumerate : mg "enumerate" = none
def spRan (K : PySem.W.Frag) : Sp := fun vs H Q _ => ∃ (t b l : Addr) (T : List Int) (r : Int) (g : Option Int) (xs : List V) (cs : List Cmd), vs = [.ref t, .ref b, .ref l] ∧ SqL K H t (T.map V.int) ∧ SqT K H b [.int r, optV g] ∧ SqL K H l xs ∧ CmdsOf K H xs cs ∧ 0 ≤ r ∧ r < T.length ∧ AllOk cs ∧ (∀ c ∈ cs, numC c < 10 ^ 40) ∧
  (∀ n, failAt T r g cs = some n → ∀ (H' : Hp) (p : Addr), Same H H' → H p = none → H' p = some (.lst [.non, .int (n : Nat)]) → Q (.ref p) H') ∧
  ∀ r' g', afterL T r g cs = some (r', g') → ∀ (H' : Hp) (p q : Addr), Same H H' → H p = none → H' p = some (.lst [.ref q, .non]) → SqT K H' q [.int r', optV g'] → Q (.ref p) H'
section
variable {P : Program} {w : World} {K : PySem.W.Frag} {mg : Str → Option Value} {base : Heap}
theorem sc_law_ran : FnScope ["lengths", "spot", "keys", "at", "key", "later"] ["lengths", "spot", "keys"] (defScope s_ran) := ⟨rfl, rfl, rfl, by decide +kernel, rfl, by decide +kernel, by decide +kernel⟩
theorem ok_ran {f : Addr} {fd : FuncData} (F : Fun K "_law_ran" "_law_ran" s_ran f fd) (T : TxtN mg) (c_law_after : Cal P w K mg base 1 "_law_after" (spAfter1 K)) : FnOk P w K mg base CX0 2 f fd ["lengths", "spot", "keys"] (spRan K) := by
  refine F.ok sc_law_ran (fun vs H Q E h => ?_) (fun cdv A outer s H vs Q E hr h => ?_)
  · obtain ⟨t, b, l, tx, r, g, xs, cs, rfl, _⟩ := h
    rfl
  · obtain ⟨t, b, l, tx, r, g, xs, cs, rfl, ht, hb, hl, hc, r0, r1, ok, nb, kf, ks⟩ := h
    refine ⟨_, (pss_cons (ps_for PassesOwn.never rfl (pi_enum (by rfl) T.enumerate (pa_cons (pv 2) pa_nil)) (pg_tup rfl (pgs_cons (pg_name (i := 3) sc_law_ran.nd rfl (Or.inl rfl)) (pgs_cons (pg_name (i := 4) sc_law_ran.nd rfl (Or.inl rfl)) pgs_nil))) (pss_cons (ps_set (i := 5) sc_law_ran.nd rfl (Or.inl rfl) (pe_cal c_law_after hr (by decide) (by rfl) (pa_cons (pv 0) (pa_cons (pv 1) (pa_cons (pv 4) pa_nil)))))
      (pss_cons (ps_if (pt_cmpR op_isN (pv 5) pe_non (nomark _)) (pss_one (ps_ret (pe_lst (pa_cons pe_non (pa_cons (pv 3) pa_nil))))) pss_nil)
      (pss_one (ps_set (i := 1) sc_law_ran.nd rfl (Or.inl rfl) (pv 5))))))
      (pss_one (ps_ret (pe_lst (pa_cons (pv 1) (pa_cons pe_non pa_nil)))))), ?_⟩
    refine ⟨_, rfl, l, xs, rfl, hl, for_it (walk_enum (K := K) (a := l) (xs := xs)) (fun i σ H' => ∃ (b' : Addr) (r' : Int) (g' : Option Int) (v3 v4 v5 : Option V), σ = [some (.ref t), some (.ref b'), some (.ref l), v3, v4, v5] ∧ Same H H' ∧ SqT K H' b' [.int r', optV g'] ∧ 0 ≤ r' ∧ r' < tx.length ∧
        afterL tx r g cs = afterL tx r' g' (cs.drop i) ∧ failAt tx r g cs = (failAt tx r' g' (cs.drop i)).map (· + i))
      ⟨b, r, g, none, none, none, rfl, Same.refl H, hb, r0, r1, rfl, by rw [List.drop_zero]; simp⟩ (fun i σ H' _ ⟨_, _, _, _, _, _, _, e, _⟩ => e.seq hl) (fun i x σ H1 H2 hi h y => ?_) (fun σ H1 h => ?_)⟩
    · obtain ⟨b', r', g', v3, v4, v5, rfl, e, hb', p0, p1, ha, hf⟩ := h
      obtain ⟨T1, x1, y1, rfl, nT, rfl, e1, e2⟩ := y
      obtain rfl := Option.some.inj e1
      obtain ⟨c, hci, hca⟩ := paired_at hc e2
      have eT := new_same (o := HO.tup [.int (i : Nat), y1]) nT
      have e12 := e.trans eT
      have dr : cs.drop i = c :: cs.drop (i + 1) := by
        obtain ⟨q1, q2⟩ := List.getElem?_eq_some_iff.mp hci
        rw [List.drop_eq_getElem_cons q1, q2]
      rw [dr] at ha hf
      rw [afterL_step] at ha
      rw [fail_step] at hf
      refine ⟨T1, _, rfl, SqT.of upd_same, rfl, _, _, rfl, _, _, rfl, rfl, ?_⟩
      refine ⟨_, rfl, _, rfl, _, rfl, t, b', y1, tx, r', g', c, rfl, e12.seq ht, seq_t eT hb', hca.same e12, p0, p1, ok c (List.mem_of_getElem? hci), nb c (List.mem_of_getElem? hci), fun z H3 e3 => ?_, fun r2 g2 z H3 p e3 np hp => ?_⟩
      · rw [z] at hf
        refine ⟨_, rfl, rfl, true, by rfl, iteT ?_⟩
        refine ⟨_, rfl, (by show 2 ≤ sizeLine; decide), fun p np => ?_⟩
        exact kf i (by rw [hf]; simp) _ p ((e12.trans e3).trans (new_same np)) ((e12.trans e3).free np) upd_same
      · rw [z] at ha hf
        obtain ⟨q0, q1⟩ := step_row p0 p1 z
        refine ⟨_, rfl, rfl, false, by simp, iteF ?_⟩
        refine ⟨_, rfl, p, r2, g2, _, _, _, rfl, e12.trans e3, SqT.of hp, q0, q1, ha, ?_⟩
        rw [hf]
        show ((failAt tx r2 g2 (cs.drop (i + 1))).map (· + 1)).map (· + i) = _
        rw [Option.map_map]
        congr 1
        funext k
        show k + 1 + i = k + (i + 1)
        omega
    · obtain ⟨b', r', g', v3, v4, v5, rfl, e, hb', p0, p1, ha, hf⟩ := h
      rw [hc.len, List.drop_length] at ha
      refine ⟨_, rfl, (by show 2 ≤ sizeLine; decide), fun p np => ?_⟩
      exact ks r' g' ha _ p b' (e.trans (new_same np)) (e.free np) upd_same (seq_t (new_same np) hb')
end
end Gc

/-! running, where nothing is raised -/
namespace Gc
open PySem L2
abbrev s_check_text : Stmt := top 9
abbrev s_check_cursor : Stmt := top 10
abbrev s_run : Stmt := top 15
abbrev s_shown_column : Stmt := top 16
abbrev s_moved : Stmt := top 18
abbrev s_new_goal : Stmt := top 19
theorem at_len' {T : List Int} {r : Int} (h0 : 0 ≤ r) (h1 : r < T.length) : atI (T.map V.int) r = some (.int (lenAt T r)) := by
  have e : r = (r.toNat : Int) := by omega
  refine at_of (j := r.toNat) e ?_
  have l : r.toNat < T.length := by omega
  unfold lenAt
  rw [List.getElem?_map, List.getD_eq_getElem?_getD, List.getElem?_eq_getElem l]
  rfl
theorem minI (i j : Int) : (if j < i then j else i) = min i j := by split <;> omega
theorem maxI (i j : Int) : (if j > i then j else i) = max i j := by split <;> omega
theorem iteN1 {c A B : Prop} [Decidable c] (hc : c) (h : B) : if (!decide c) = true then A else B := by
  rw [decide_eq_true hc]
  exact iteF h
theorem iteN0 {c A B : Prop} [Decidable c] (hc : ¬ c) (h : A) : if (!decide c) = true then A else B := by
  rw [decide_eq_false hc]
  exact iteT h
def spText (K : PySem.W.Frag) : Sp := fun vs H Q _ => ∃ (t : Addr) (T : List Int), vs = [.ref t] ∧ SqL K H t (T.map V.int) ∧ T ≠ [] ∧ (∀ x ∈ T, 0 ≤ x) ∧ ∀ H', Same H H' → Q .non H'
def spCursor (K : PySem.W.Frag) : Sp := fun vs H Q _ => ∃ (n r : Int) (g : Option Int) (c : Addr), vs = [.int n, .ref c] ∧ SqT K H c [.int r, optV g] ∧ 0 ≤ r ∧ r < n ∧ ge g 0 ∧ Q .non H
def spShown : Sp := fun vs H Q _ => ∃ (t : Int) (g : Option Int), vs = [.int t, optV g] ∧ Q (.int (seen t g)) H
def spGoal (K : PySem.W.Frag) : Sp := fun vs H Q _ => ∃ (t : Int) (g : Option Int) (v : V) (c : Cmd), vs = [.int t, optV g, v] ∧ CmdAt K H v c ∧ Q (optV (aim1 t g c)) H
/-- one command: None, or the new cursor -/
def step1 (T : List Int) (r : Int) (g : Option Int) (c : Cmd) : Option (Int × Option Int) := if 0 ≤ r + c.dv ∧ r + c.dv < T.length then some (r + c.dv, aim1 (lenAt T (r + c.dv)) g c) else none
def spMoved (K : PySem.W.Frag) : Sp := fun vs H Q _ => ∃ (t b : Addr) (T : List Int) (r : Int) (g : Option Int) (v : V) (c : Cmd), vs = [.ref t, .ref b, v] ∧ SqL K H t (T.map V.int) ∧ SqT K H b [.int r, optV g] ∧ CmdAt K H v c ∧
  (step1 T r g c = none → Q .non H) ∧ ∀ r' g', step1 T r g c = some (r', g') → ∀ p, H p = none → Q (.ref p) (upd H p (.tup [.int r', optV g']))
def spRun (K : PySem.W.Frag) : Sp := fun vs H Q _ => ∃ (t b l : Addr) (T : List Int) (r : Int) (g : Option Int) (xs : List V) (cs : List Cmd) (r' : Int) (g' : Option Int), vs = [.ref t, .ref b, .ref l] ∧ SqL K H t (T.map V.int) ∧ SqT K H b [.int r, optV g] ∧ SqL K H l xs ∧ CmdsOf K H xs cs ∧
  (∀ x ∈ T, 0 ≤ x) ∧ 0 ≤ r ∧ r < T.length ∧ ge g 0 ∧ AllOk cs ∧ cs.length ≤ 10000 ∧ afterL T r g cs = some (r', g') ∧ ∀ (H' : Hp) (p : Addr), Same H H' → SqT K H' p [.int r', optV g'] → Q (.ref p) H'
theorem aim1_vert {t t' : Int} {g : Option Int} {c : Cmd} (h : c.vert = true) : aim1 t g c = g := by cases c <;> first | rfl | cases h
theorem dv_flat {c : Cmd} (h : ¬ c.vert = true) : c.dv = 0 := by cases c <;> first | rfl | exact absurd rfl h
theorem afterL_cons {T : List Int} {r : Int} {g : Option Int} {c : Cmd} {cs : List Cmd} (h0 : 0 ≤ r) (h1 : r < T.length) : afterL T r g (c :: cs) = (step1 T r g c).bind fun q => afterL T q.1 q.2 cs := by
  unfold step1
  simp only [afterL]
  by_cases v : c.vert = true
  · rw [if_pos v]
    by_cases i : 0 ≤ r + c.dv ∧ r + c.dv < T.length
    · rw [if_pos i, if_pos i, aim1_vert (t' := 0) v]
      rfl
    · rw [if_neg i, if_neg i]
      rfl
  · rw [if_neg v, dv_flat v, Int.add_zero, if_pos ⟨h0, h1⟩]
    rfl
theorem step1_in {T : List Int} {r r' : Int} {g g' : Option Int} {c : Cmd} (h : step1 T r g c = some (r', g')) : 0 ≤ r' ∧ r' < T.length := by
  unfold step1 at h
  split at h
  · rename_i i
    cases h
    exact i
  · cases h
section
variable {P : Program} {w : World} {K : PySem.W.Frag} {mg : Str → Option Value} {base : Heap} {wo wn : Addr}
theorem sc_check_text : FnScope ["text", "index", "length"] ["text"] (defScope s_check_text) := ⟨rfl, rfl, rfl, by decide +kernel, rfl, by decide +kernel, by decide +kernel⟩
theorem ok_check_text {f : Addr} {fd : FuncData} (F : Fun K "check_text" "check_text" s_check_text f fd) (T : TxtB K mg wo wn) : FnOk P w K mg base CX0 1 f fd ["text"] (spText K) := by
  refine F.ok sc_check_text (fun vs H Q E h => ?_) (fun cdv A outer s H vs Q E hr h => ?_)
  · obtain ⟨t, T, rfl, _⟩ := h
    rfl
  · obtain ⟨t, tx, rfl, ht, ne, nn, k⟩ := h
    refine ⟨_, (pss_cons (ps_if (pt_not (pt_truth (pv 0) (fun _ => rfl))) (pss_one ps_never) pss_nil)
      (pss_one (ps_for PassesOwn.never rfl (pi_enum (by rfl) T.enumerate (pa_cons (pv 0) pa_nil)) (pg_tup rfl (pgs_cons (pg_name (i := 1) sc_check_text.nd rfl (Or.inl rfl)) (pgs_cons (pg_name (i := 2) sc_check_text.nd rfl (Or.inl rfl)) pgs_nil))) (pss_one (ps_if (pt_cmpR op_lt (pv 2) pe_int (nomark _)) (pss_one ps_never) pss_nil))))), ?_⟩
    refine ⟨_, rfl, true, .inl ⟨_, ht, ?_⟩, iteF ?_⟩
    · cases tx with
      | nil => exact absurd rfl ne
      | cons x r => rfl
    refine ⟨_, rfl, t, _, rfl, ht, for_it (walk_enum (K := K) (a := t) (xs := tx.map V.int)) (fun i σ H' => ∃ v1 v2 : Option V, σ = [some (.ref t), v1, v2] ∧ Same H H')
      ⟨none, none, rfl, Same.refl H⟩ (fun i σ H' _ ⟨_, _, _, e⟩ => e.seq ht) (fun i x σ H1 H2 hi h y => ?_) (fun σ H1 h => ?_)⟩
    · obtain ⟨v1, v2, rfl, e⟩ := h
      obtain ⟨T1, x1, y1, rfl, nT, rfl, e1, e2⟩ := y
      obtain ⟨z, hz, rfl⟩ : ∃ z, tx[i]? = some z ∧ y1 = .int z := by
        have e3 : (tx.map V.int)[i]? = some y1 := e2
        rw [List.getElem?_map] at e3
        cases q : tx[i]? with
        | none =>
          rw [q] at e3
          cases e3
        | some z =>
          rw [q] at e3
          exact ⟨z, rfl, (Option.some.inj e3).symm⟩
      have z0 := nn z (List.mem_of_getElem? hz)
      refine ⟨T1, _, rfl, SqT.of upd_same, rfl, _, _, rfl, _, _, rfl, rfl, ?_⟩
      refine ⟨_, rfl, _, _, rfl, rfl, _, rfl, ite2 (fun c => absurd (of_decide_eq_true c) (by omega)) (fun _ => ?_)⟩
      exact ⟨_, _, rfl, same_upd e nT⟩
    · obtain ⟨v1, v2, rfl, e⟩ := h
      exact k _ e
theorem sc_check_cursor : FnScope ["lines", "cursor", "row", "goal"] ["lines", "cursor"] (defScope s_check_cursor) := ⟨rfl, rfl, rfl, by decide +kernel, rfl, by decide +kernel, by decide +kernel⟩
theorem ok_check_cursor {f : Addr} {fd : FuncData} (F : Fun K "check_cursor" "check_cursor" s_check_cursor f fd) : FnOk P w K mg base CX0 1 f fd ["lines", "cursor"] (spCursor K) := by
  refine F.ok sc_check_cursor (fun vs H Q E h => ?_) (fun cdv A outer s H vs Q E hr h => ?_)
  · obtain ⟨n, r, g, c, rfl, _⟩ := h
    rfl
  · obtain ⟨n, r, g, c, rfl, hc, r0, r1, g0, k⟩ := h
    refine ⟨_, (pss_cons (ps_asg (pv 1) (pg_tup rfl (pgs_cons (pg_name (i := 2) sc_check_cursor.nd rfl (Or.inl rfl)) (pgs_cons (pg_name (i := 3) sc_check_cursor.nd rfl (Or.inl rfl)) pgs_nil))))
      (pss_one (ps_if (PW.pt (pw_or (pt_not (pt_chain op_le op_lt pe_int (pv 2) (pv 0))) (pw_or1 (PW.pt (pw_and (pt_cmpR op_notN (pv 3) pe_non (nomark _)) (pw_and1 (pt_cmpR op_lt (pv 3) pe_int (nomark _)))))))) (pss_one ps_never) pss_nil))), ?_⟩
    refine ⟨_, rfl, c, _, rfl, hc, rfl, _, _, rfl, _, _, rfl, rfl, ?_⟩
    refine ⟨_, rfl, _, _, rfl, rfl, _, rfl, ite2 (fun _ => ?_) (fun c => absurd (decide_eq_true r0) c)⟩
    refine ⟨_, rfl, _, _, rfl, rfl, _, rfl, ?_⟩
    refine iteN1 r1 ?_
    cases g with
    | none => exact ⟨_, rfl, rfl, _, rfl, iteF (iteF k)⟩
    | some y =>
      have y0 := ge_some.mp g0
      refine ⟨_, rfl, rfl, _, rfl, iteT ?_⟩
      refine ⟨_, rfl, _, _, rfl, rfl, _, rfl, ite2 (fun c => absurd (of_decide_eq_true c) (by omega)) (fun _ => k)⟩
theorem sc_shown_column : FnScope ["length", "goal"] ["length", "goal"] (defScope s_shown_column) := ⟨rfl, rfl, rfl, by decide +kernel, rfl, by decide +kernel, by decide +kernel⟩
theorem ok_shown_column {f : Addr} {fd : FuncData} (F : Fun K "shown_column" "shown_column" s_shown_column f fd) (T : TxtB K mg wo wn) : FnOk P w K mg base CX0 1 f fd ["length", "goal"] spShown := by
  refine F.ok sc_shown_column (fun vs H Q E h => ?_) (fun cdv A outer s H vs Q E hr h => ?_)
  · obtain ⟨t, g, rfl, _⟩ := h
    rfl
  · obtain ⟨t, g, rfl, k⟩ := h
    refine ⟨_, (pss_one (ps_ret (pe_ifExp (pt_cmpR op_isN (pv 1) pe_non (nomark _)) (pv 0) (pe_callB (call_min2 rfl) (by rfl) T.min (by decide +kernel) (pa_cons (pv 1) (pa_cons (pv 0) pa_nil)))))), ?_⟩
    cases g with
    | none => exact ⟨_, rfl, rfl, _, rfl, iteT ⟨_, rfl, k⟩⟩
    | some y =>
      refine ⟨_, rfl, rfl, _, rfl, iteF ?_⟩
      refine ⟨_, rfl, _, rfl, _, _, rfl, ?_⟩
      show Q (.int (if t < y then t else y)) H
      rw [minI]
      exact k
theorem sc_new_goal : FnScope ["length", "goal", "command"] ["length", "goal", "command"] (defScope s_new_goal) := ⟨rfl, rfl, rfl, by decide +kernel, rfl, by decide +kernel, by decide +kernel⟩
theorem ok_new_goal {f : Addr} {fd : FuncData} (F : Fun K "new_goal" "new_goal" s_new_goal f fd) (T : TxtB K mg wo wn) (c_shown_column : Cal P w K mg base 1 "shown_column" spShown) : FnOk P w K mg base CX0 2 f fd ["length", "goal", "command"] (spGoal K) := by
  refine F.ok sc_new_goal (fun vs H Q E h => ?_) (fun cdv A outer s H vs Q E hr h => ?_)
  · obtain ⟨t, g, v, c, rfl, _⟩ := h
    rfl
  · obtain ⟨t, g, v, c, rfl, ⟨a, rfl, hc⟩, k⟩ := h
    refine ⟨_, (pss_one (ps_match (pe_ix ix_tup (pv 2) pe_int (fun _ _ => rfl)) (mc_str (pss_one (ps_ret pe_int)) (mc_str (pss_one (ps_ret pe_non)) (mc_str (pss_one (ps_ret (pe_callB (call_min2 rfl) (by rfl) T.min (by decide +kernel) (pa_cons (pe_op op_add (pe_cal c_shown_column hr (by decide) (by rfl) (pa_cons (pv 0) (pa_cons (pv 1) pa_nil))) (pe_ix ix_tup (pv 2) pe_int (fun _ _ => rfl))) (pa_cons (pv 0) pa_nil))))) (mc_str (pss_one (ps_ret (pe_callB (call_max2 rfl) (by rfl) T.max (by decide +kernel) (pa_cons (pe_op op_sub (pe_cal c_shown_column hr (by decide) (by rfl) (pa_cons (pv 0) (pa_cons (pv 1) pa_nil))) (pe_ix ix_tup (pv 2) pe_int (fun _ _ => rfl))) (pa_cons pe_int pa_nil))))) (mc_any (pss_one (ps_ret (pv 1)))))))))), ?_⟩
    cases c with
    | home => exact ⟨_, rfl, a, _, 0, _, rfl, rfl, hc, rfl, m_yes (by decide +kernel) k⟩
    | stop => exact ⟨_, rfl, a, _, 0, _, rfl, rfl, hc, rfl, m_no (by decide +kernel) (m_yes (by decide +kernel) k)⟩
    | right n =>
      refine ⟨_, rfl, a, _, 0, _, rfl, rfl, hc, rfl, m_no (by decide +kernel) (m_no (by decide +kernel) (m_yes (by decide +kernel) ?_))⟩
      refine ⟨_, rfl, _, rfl, t, g, rfl, _, rfl, a, _, 1, _, rfl, rfl, hc, rfl, _, _, rfl, rfl, _, rfl, _, _, rfl, ?_⟩
      show Q (.int (if t < seen t g + n then t else seen t g + n)) H
      rw [minI]
      exact k
    | left n =>
      refine ⟨_, rfl, a, _, 0, _, rfl, rfl, hc, rfl, m_no (by decide +kernel) (m_no (by decide +kernel) (m_no (by decide +kernel) (m_yes (by decide +kernel) ?_)))⟩
      refine ⟨_, rfl, _, rfl, t, g, rfl, _, rfl, a, _, 1, _, rfl, rfl, hc, rfl, _, _, rfl, rfl, _, _, rfl, ?_⟩
      show Q (.int (if 0 > seen t g - n then 0 else seen t g - n)) H
      rw [maxI, Int.max_comm]
      exact k
    | down n => exact ⟨_, rfl, a, _, 0, _, rfl, rfl, hc, rfl, m_no (by decide +kernel) (m_no (by decide +kernel) (m_no (by decide +kernel) (m_no (by decide +kernel) ⟨_, rfl, k⟩)))⟩
    | up n => exact ⟨_, rfl, a, _, 0, _, rfl, rfl, hc, rfl, m_no (by decide +kernel) (m_no (by decide +kernel) (m_no (by decide +kernel) (m_no (by decide +kernel) ⟨_, rfl, k⟩)))⟩
theorem sc_moved : FnScope ["text", "cursor", "command", "row"] ["text", "cursor", "command"] (defScope s_moved) := ⟨rfl, rfl, rfl, by decide +kernel, rfl, by decide +kernel, by decide +kernel⟩
theorem ok_moved {f : Addr} {fd : FuncData} (F : Fun K "moved" "moved" s_moved f fd) (T : TxtB K mg wo wn) (c_row_change : Cal P w K mg base 1 "row_change" (spRow K)) (c_new_goal : Cal P w K mg base 2 "new_goal" (spGoal K)) : FnOk P w K mg base CX0 3 f fd ["text", "cursor", "command"] (spMoved K) := by
  refine F.ok sc_moved (fun vs H Q E h => ?_) (fun cdv A outer s H vs Q E hr h => ?_)
  · obtain ⟨t, b, tx, r, g, v, c, rfl, _⟩ := h
    rfl
  · obtain ⟨t, b, tx, r, g, v, c, rfl, ht, hb, hv, kn, ks⟩ := h
    refine ⟨_, (pss_cons (ps_set (i := 3) sc_moved.nd rfl (Or.inl rfl) (pe_op op_add (pe_ix ix_tup (pv 1) pe_int (fun _ _ => rfl)) (pe_cal c_row_change hr (by decide) (by rfl) (pa_cons (pv 2) pa_nil))))
      (pss_cons (ps_if (pt_not (pt_chain op_le op_lt pe_int (pv 3) (pe_callB call_len_seq (by rfl) T.len (by decide +kernel) (pa_cons (pv 0) pa_nil)))) (pss_one (ps_ret pe_non)) pss_nil)
      (pss_one (ps_ret (pe_tup (pa_cons (pv 3) (pa_cons (pe_cal c_new_goal hr (by decide) (by rfl) (pa_cons (pe_ix ix_list (pv 0) (pv 3) (fun _ _ => rfl)) (pa_cons (pe_ix ix_tup (pv 1) pe_int (fun _ _ => rfl)) (pa_cons (pv 2) pa_nil)))) pa_nil))))))), ?_⟩
    refine ⟨_, rfl, b, _, 0, _, rfl, rfl, hb, rfl, _, rfl, v, c, rfl, hv, _, _, rfl, rfl, ?_⟩
    have out : ¬ (0 ≤ r + c.dv ∧ r + c.dv < tx.length) → Q .non H := fun z => kn (by unfold step1; rw [if_neg z])
    refine ⟨_, rfl, _, _, rfl, rfl, _, rfl, ite2 (fun c0 => ?_) (fun c0 => ?_)⟩
    · have c0' : 0 ≤ r + c.dv := of_decide_eq_true c0
      refine ⟨_, rfl, t, _, rfl, .inl ht, _, _, rfl, rfl, _, rfl, ?_⟩
      by_cases c1 : r + c.dv < tx.length
      · refine iteN1 (by rw [List.length_map]; exact c1) ?_
        refine ⟨_, rfl, _, rfl, _, rfl, t, _, _, _, rfl, rfl, ht, at_len' c0' c1, _, rfl, b, _, 1, _, rfl, rfl, hb, rfl, _, rfl, lenAt tx (r + c.dv), g, v, c, rfl, hv, (by show 2 ≤ sizeLine; decide), fun p hp => ?_⟩
        exact ks _ _ (by unfold step1; rw [if_pos ⟨c0', c1⟩]) p hp
      · refine iteN0 (by rw [List.length_map]; exact c1) ?_
        exact out fun z => c1 z.2
    · refine ⟨_, rfl, ?_⟩
      refine iteT (B := _) ?_
      exact out fun z => c0 (decide_eq_true z.1)
theorem sc_run : FnScope ["text", "cursor", "commands", "place", "index", "command"] ["text", "cursor", "commands"] (defScope s_run) := ⟨rfl, rfl, rfl, by decide +kernel, rfl, by decide +kernel, by decide +kernel⟩
theorem ok_run {f : Addr} {fd : FuncData} (F : Fun K "run" "run" s_run f fd) (T : TxtB K mg wo wn) (c_check_text : Cal P w K mg base 1 "check_text" (spText K)) (c_check_cursor : Cal P w K mg base 1 "check_cursor" (spCursor K))
    (c_check_commands : Cal P w K mg base 3 "check_commands" (spCheck K)) (c_moved : Cal P w K mg base 3 "moved" (spMoved K)) : FnOk P w K mg base CX0 4 f fd ["text", "cursor", "commands"] (spRun K) := by
  refine F.ok sc_run (fun vs H Q E h => ?_) (fun cdv A outer s H vs Q E hr h => ?_)
  · obtain ⟨t, b, l, tx, r, g, xs, cs, r', g', rfl, _⟩ := h
    rfl
  · obtain ⟨t, b, l, tx, r, g, xs, cs, r', g', rfl, ht, hb, hl, hcs, nn, r0, r1, g0, ok, ln, hrun, k⟩ := h
    refine ⟨_, (pss_cons (ps_expr (pe_cal c_check_text hr (by decide) (by rfl) (pa_cons (pv 0) pa_nil)))
      (pss_cons (ps_expr (pe_cal c_check_cursor hr (by decide) (by rfl) (pa_cons (pe_callB call_len_seq (by rfl) T.len (by decide +kernel) (pa_cons (pv 0) pa_nil)) (pa_cons (pv 1) pa_nil))))
      (pss_cons (ps_expr (pe_cal c_check_commands hr (by decide) (by rfl) (pa_cons (pv 2) pa_nil)))
      (pss_cons (ps_set (i := 3) sc_run.nd rfl (Or.inl rfl) (pv 1))
      (pss_cons (ps_for PassesOwn.never rfl (pi_enum (by rfl) T.enumerate (pa_cons (pv 2) pa_nil)) (pg_tup rfl (pgs_cons (pg_name (i := 4) sc_run.nd rfl (Or.inl rfl)) (pgs_cons (pg_name (i := 5) sc_run.nd rfl (Or.inl rfl)) pgs_nil))) (pss_cons (ps_set (i := 3) sc_run.nd rfl (Or.inl rfl) (pe_cal c_moved hr (by decide) (by rfl) (pa_cons (pv 0) (pa_cons (pv 3) (pa_cons (pv 5) pa_nil)))))
      (pss_one (ps_if (pt_cmpR op_isN (pv 3) pe_non (nomark _)) (pss_one ps_never) pss_nil))))
      (pss_one (ps_ret (pv 3)))))))), ?_⟩
    refine ⟨_, rfl, t, tx, rfl, ht, (by intro z; subst z; simp at r1; omega), nn, fun H1 e1 => ?_⟩
    refine ⟨_, rfl, t, _, rfl, .inl (e1.seq ht), _, rfl, (tx.map V.int).length, r, g, b, rfl, seq_t e1 hb, r0, by rw [List.length_map]; exact r1, g0, ?_⟩
    refine ⟨_, rfl, l, xs, cs, rfl, e1.seq hl, hcs.same e1, ok, ln, fun H2 e2 => ?_⟩
    have e12 := e1.trans e2
    refine ⟨_, rfl, ?_⟩
    refine ⟨_, rfl, l, _, rfl, e12.seq hl, for_it (walk_enum (K := K) (a := l) (xs := xs)) (fun i σ H' => ∃ (p : Addr) (rr : Int) (gg : Option Int) (v1 v2 : Option V), σ = [some (.ref t), some (.ref b), some (.ref l), some (.ref p), v1, v2] ∧ Same H H' ∧ SqT K H' p [.int rr, optV gg] ∧ 0 ≤ rr ∧ rr < tx.length ∧ afterL tx rr gg (cs.drop i) = some (r', g'))
      ⟨b, r, g, none, none, rfl, e12, seq_t e12 hb, r0, r1, hrun⟩ (fun i σ H' _ ⟨_, _, _, _, _, _, e, _⟩ => e.seq hl) (fun i x σ H3 H4 hi h y => ?_) (fun σ H3 h => ?_)⟩
    · obtain ⟨p, rr, gg, v1, v2, rfl, e3, hp, q0, q1, hgo⟩ := h
      obtain ⟨T1, x1, y1, rfl, nT, rfl, ex1, ex2⟩ := y
      obtain ⟨c, hc, hca⟩ := paired_at hcs ex2
      have hdrop : cs.drop i = c :: cs.drop (i + 1) := by
        obtain ⟨h1, h2⟩ := List.getElem?_eq_some_iff.mp hc
        rw [List.drop_eq_getElem_cons h1, h2]
      rw [hdrop, afterL_cons q0 q1] at hgo
      have eT : Same H3 (upd H3 T1 (.tup [x1, y1])) := same_upd (Same.refl _) nT
      have eHT := e3.trans eT
      obtain ⟨⟨r2, g2⟩, hst, hrest⟩ := Option.bind_eq_some_iff.mp hgo
      have hin := step1_in hst
      refine ⟨T1, _, rfl, SqT.of upd_same, rfl, _, _, rfl, _, _, rfl, rfl, ?_⟩
      refine ⟨_, rfl, _, rfl, _, rfl, t, p, tx, rr, gg, y1, c, rfl, eHT.seq ht, seq_t eT hp, hca.same eHT, (fun z => by rw [hst] at z; cases z), fun r3 g3 z p3 np3 => ?_⟩
      rw [hst] at z
      cases z
      have e4 : Same (upd H3 T1 (.tup [x1, y1])) (upd (upd H3 T1 (.tup [x1, y1])) p3 (.tup [.int r2, optV g2])) := same_upd (Same.refl _) np3
      refine ⟨_, rfl, rfl, _, rfl, iteF ?_⟩
      exact ⟨p3, r2, g2, _, _, rfl, eHT.trans e4, SqT.of upd_same, hin.1, hin.2, hrest⟩
    · obtain ⟨p, rr, gg, v1, v2, rfl, e3, hp, q0, q1, hgo⟩ := h
      rw [hcs.len, List.drop_length] at hgo
      have z : (rr, gg) = (r', g') := Option.some.inj hgo
      cases z
      exact ⟨_, rfl, k _ p e3 hp⟩
end
end Gc

/-! raising the program's own errors: classes whose __init__ keeps one value; calls of defs that may raise -/
namespace L2
open PySem PySem.Spec PyProof.Rows
/-- def __init__(self, value): self.value = value, on a new exception of the class at C -/
def spKeep (C : Addr) : Sp := fun vs H Q _ => ∃ (a : Addr) (v : V), vs = [.ref a, v] ∧ H a = some (exo a C none) ∧
  ∀ dx, H dx = none → dx ≠ a → Q .non (upd (upd H dx (exd dx [("value", v)])) a (exo a C (some dx)))
/-- the error class x of the program, at C -/
structure ErrC (P : Program) (w : World) (K : PySem.W.Frag) (mg : Str → Option Value) (base : Heap) (x : Str) (C : Addr) : Prop where
  T : OexC K C
  g : mg x = some (.ref C)
  no : PySem.W.findIn K (.ref C) "value" = some none
  ex : ∃ (fI : Addr) (fd : FuncData), PySem.W.findIn K (.ref C) "__init__" = some (some (.ref fI)) ∧ PySem.W.typeIn K (.ref fI) = some (.type "function") ∧
    FnOk P w K mg base CX0 1 fI fd ["self", "value"] (spKeep C) ∧ Binds K fd ["self", "value"] []
/-- x(e) in a raise: the new error's class, its dict, the heap with that dict -/
def rRaise (C : Addr) (Q : XK) (v : V) (H1 : Hp) : Prop := [v].length ≤ 1000 ∧ ∀ a, H1 a = none → spKeep C (.ref a :: ([v] ++ [])) (upd H1 a (exo a C none))
  (fun u H2 => u = .non ∧ ∃ (d : Addr) (fs : List (Str × V)), H2 a = some (exo a C (some d)) ∧ H2 d = some (exd d fs) ∧ H1 d = none ∧ Q (.ref C) (some d) (upd (del H2 a) d (.xd fs))) (fun _ _ _ => False)
theorem ask_raise {C : Addr} {Q : XK} {v : V} {H : Hp} (h : ∀ d, H d = none → Q (.ref C) (some d) (upd H d (.xd [("value", v)]))) : rRaise C Q v H := by
  refine ⟨(by show 1 ≤ 1000; decide), fun a ha => ⟨a, v, rfl, upd_same, fun dx hd ne => ⟨rfl, dx, [("value", v)], upd_same, ?_, ?_, ?_⟩⟩⟩
  · rw [upd_ne ne, upd_same]
  · rw [upd_ne ne] at hd
    exact hd
  · have hd' : H dx = none := by
      rw [upd_ne ne] at hd
      exact hd
    have e : upd (del (upd (upd (upd H a (exo a C none)) dx (exd dx [("value", v)])) a (exo a C (some dx))) a) dx (.xd [("value", v)]) = upd H dx (.xd [("value", v)]) := by
      funext b
      by_cases hb : b = dx
      · rw [hb, upd_same, upd_same]
      · rw [upd_ne hb, upd_ne hb]
        by_cases ha' : b = a
        · rw [ha', del_same, ha]
        · rw [del_ne ha', upd_ne ha', upd_ne hb, upd_ne ha']
    rw [e]
    exact h dx hd'
section
variable {X : Cx} {k j : Nat} {x : Str} {sp : Sp} {p pos pos2 : Pos} {e : Expr} {es : List Expr} {t : TA} {te : TE} {W : WX} {C : Addr}
def tRaiseE (C : Addr) (W : WX) (te : TE) : TS := fun _ σ H => te σ H fun v H1 => rRaise C (fun cls d H' => W cls d σ H') v H1
theorem ps_raiseE (hc : X.calm = true) (c : ErrC X.prog X.w X.K X.mg X.base x C) (hr : Room j X.A) (hj : 2 ≤ j) (tk : Takes X W) (he : PE X e te) (hg : Gl X x)
    (hdb : (x == ("__debug__" : Str)) = false := by decide)
    (hs : starEach (e :: []) X.env = (false, eval e X.env) :: starEach [] X.env := by rfl) (hpl : (backTo pos (starEach [] X.env)).any (·.1) = false := by rfl) :
    PS X (.Raise (some (.Call (.Name x p) [e] [] pos)) none pos2) (tRaiseE C W te) := by
  obtain ⟨T, g, no, fI, fd, iC, tI, F, b⟩ := c
  exact ps_raise hc tk (pmk_oex (dvs := []) T iC tI F (hr.mono hj) b .nil pass0 hg g (pa_cons he pa_nil hs) hdb hs hpl)
/-- a def that is called by its name and may let an error out -/
structure CalX (P : Program) (w : World) (K : PySem.W.Frag) (mg : Str → Option Value) (base : Heap) (k : Nat) (x : Str) (sp : Sp) : Prop where
  ex : ∃ (f : Addr) (fd : FuncData) (ps : List Str), FnOk P w K mg base (L2.CX P w) k f fd ps sp ∧
    mg x = some (.ref f) ∧ PySem.W.keepIn K (.ref f) = true ∧ Binds K fd ps []
theorem pe_calX (tk : Takes X W) (c : CalX X.prog X.w X.K X.mg X.base k x sp) (hr : Room j X.A) (hk : k ≤ j) (hg : Gl X x) (ha : PA X (e :: es) t)
    (hdb : (x == ("__debug__" : Str)) = false := by decide)
    (he : starEach (e :: es) X.env = (false, eval e X.env) :: starEach es X.env := by rfl)
    (hpl : (backTo pos (starEach es X.env)).any (·.1) = false := by rfl) :
    PE X (.Call (.Name x p) (e :: es) [] pos) (tCallS sp (WE W) t) := by
  obtain ⟨f, fd, ps, F, hm, kp, b⟩ := c.ex
  exact pe_callS F (hr.mono hk) hg hm kp b (fun σ => passAt tk σ) ha hdb he hpl
end
end L2

/-! an error that is let out -/
namespace Gc
open PySem L2
/-- an error of the class at C that carries v is let out: its dict is new, all else is as it was -/
def Err (E : XK) (C : Addr) (v : V) (H : Hp) : Prop := ∀ (H' : Hp) (d : Addr), Same H H' → H' d = none → E (.ref C) (some d) (upd H' d (.xd [("value", v)]))
theorem Err.same {E : XK} {C : Addr} {v : V} {H H' : Hp} (e : Same H H') (h : Err E C v H) : Err E C v H' := fun H2 d s n => h H2 d (e.trans s) n
theorem Err.ask {E : XK} {C : Addr} {v : V} {H H' : Hp} (e : Same H H') (h : Err E C v H) : rRaise C E v H' := ask_raise fun d hd => h H' d e hd
end Gc

/-! run of valid arguments: where it fails, Impossible -/
namespace Gc
open PySem L2
theorem step_eq {T : List Int} {r : Int} {g : Option Int} {c : Cmd} (h0 : 0 ≤ r) (h1 : r < T.length) : step1 T r g c = stepP T r g c := by
  unfold step1 stepP
  by_cases cv : c.vert = true
  · rw [if_pos cv, aim1_vert (t' := 0) cv]
  · rw [if_neg cv, dv_flat cv, Int.add_zero, if_pos ⟨h0, h1⟩]
def spRunI (K : PySem.W.Frag) (CO : Addr) : Sp := fun vs H Q E => ∃ (t b l : Addr) (T : List Int) (r : Int) (g : Option Int) (xs : List V) (cs : List Cmd), vs = [.ref t, .ref b, .ref l] ∧ SqL K H t (T.map V.int) ∧ SqT K H b [.int r, optV g] ∧ SqL K H l xs ∧ CmdsOf K H xs cs ∧
  (∀ x ∈ T, 0 ≤ x) ∧ 0 ≤ r ∧ r < T.length ∧ ge g 0 ∧ AllOk cs ∧ cs.length ≤ 10000 ∧ (∀ n, failAt T r g cs = some n → Err E CO (.int (n : Nat)) H) ∧
  ∀ r' g', afterL T r g cs = some (r', g') → ∀ (H' : Hp) (p : Addr), Same H H' → SqT K H' p [.int r', optV g'] → Q (.ref p) H'
@[irreducible] def zRunI (K : PySem.W.Frag) (CO : Addr) : Sp := spRunI K CO
theorem zRunI_eq (K : PySem.W.Frag) (CO : Addr) : zRunI K CO = spRunI K CO := by unfold zRunI; rfl
theorem ask_runI {K : PySem.W.Frag} {CO : Addr} {H : Hp} {Q : VK} {E : XK} {t b l : Addr} {T : List Int} {r : Int} {g : Option Int} {xs : List V} {cs : List Cmd} (ht : SqL K H t (T.map V.int)) (hb : SqT K H b [.int r, optV g]) (hl : SqL K H l xs) (hc : CmdsOf K H xs cs)
    (nn : ∀ x ∈ T, 0 ≤ x) (r0 : 0 ≤ r) (r1 : r < T.length) (g0 : ge g 0) (ok : AllOk cs) (ln : cs.length ≤ 10000) (kf : ∀ n, failAt T r g cs = some n → Err E CO (.int (n : Nat)) H)
    (k : ∀ r' g', afterL T r g cs = some (r', g') → ∀ (H' : Hp) (p : Addr), Same H H' → SqT K H' p [.int r', optV g'] → Q (.ref p) H') : zRunI K CO [.ref t, .ref b, .ref l] H Q E := by
  rw [zRunI_eq]
  exact ⟨t, b, l, T, r, g, xs, cs, rfl, ht, hb, hl, hc, nn, r0, r1, g0, ok, ln, kf, k⟩
section
variable {P : Program} {w : World} {K : PySem.W.Frag} {mg : Str → Option Value} {base : Heap} {wo wn CO : Addr}
theorem ok_runI {f : Addr} {fd : FuncData} (F : Fun K "run" "run" s_run f fd) (T : TxtB K mg wo wn) (c_check_text : Cal P w K mg base 1 "check_text" (spText K)) (c_check_cursor : Cal P w K mg base 1 "check_cursor" (spCursor K))
    (c_check_commands : Cal P w K mg base 3 "check_commands" (spCheck K)) (c_moved : Cal P w K mg base 3 "moved" (spMoved K)) (e_Impossible : ErrC P w K mg base "Impossible" CO) : FnOk P w K mg base (L2.CX P w) 4 f fd ["text", "cursor", "commands"] (spRunI K CO) := by
  refine F.okX sc_run (fun vs H Q E h => ?_) (fun cdv A outer s H vs Q E hr h => ?_)
  · obtain ⟨t, b, l, tx, r, g, xs, cs, rfl, _⟩ := h
    rfl
  · obtain ⟨t, b, l, tx, r, g, xs, cs, rfl, ht, hb, hl, hcs, nn, r0, r1, g0, ok, ln, kf, k⟩ := h
    refine ⟨_, (pss_cons (ps_expr (pe_cal c_check_text hr (by decide) (by rfl) (pa_cons (pv 0) pa_nil)))
      (pss_cons (ps_expr (pe_cal c_check_cursor hr (by decide) (by rfl) (pa_cons (pe_callB call_len_seq (by rfl) T.len (by decide +kernel) (pa_cons (pv 0) pa_nil)) (pa_cons (pv 1) pa_nil))))
      (pss_cons (ps_expr (pe_cal c_check_commands hr (by decide) (by rfl) (pa_cons (pv 2) pa_nil)))
      (pss_cons (ps_set (i := 3) sc_run.nd rfl (Or.inl rfl) (pv 1))
      (pss_cons (ps_for (passes_of rfl) rfl (pi_enum (by rfl) T.enumerate (pa_cons (pv 2) pa_nil)) (pg_tup rfl (pgs_cons (pg_name (i := 4) sc_run.nd rfl (Or.inl rfl)) (pgs_cons (pg_name (i := 5) sc_run.nd rfl (Or.inl rfl)) pgs_nil))) (pss_cons (ps_set (i := 3) sc_run.nd rfl (Or.inl rfl) (pe_cal c_moved hr (by decide) (by rfl) (pa_cons (pv 0) (pa_cons (pv 3) (pa_cons (pv 5) pa_nil)))))
      (pss_one (ps_if (pt_cmpR op_isN (pv 3) pe_non (nomark _)) (pss_one (ps_raiseE rfl e_Impossible hr (by decide) (takes_of rfl rfl rfl rfl) (pv 4) (by rfl))) pss_nil))))
      (pss_one (ps_ret (pv 3)))))))), ?_⟩
    refine ⟨_, rfl, t, tx, rfl, ht, (by intro z; subst z; simp at r1; omega), nn, fun H1 e1 => ?_⟩
    refine ⟨_, rfl, t, _, rfl, .inl (e1.seq ht), _, rfl, (tx.map V.int).length, r, g, b, rfl, seq_t e1 hb, r0, by rw [List.length_map]; exact r1, g0, ?_⟩
    refine ⟨_, rfl, l, xs, cs, rfl, e1.seq hl, hcs.same e1, ok, ln, fun H2 e2 => ?_⟩
    have e12 := e1.trans e2
    refine ⟨_, rfl, ?_⟩
    refine ⟨_, rfl, l, _, rfl, e12.seq hl, for_it (walk_enum (K := K) (a := l) (xs := xs)) (fun i σ H' => ∃ (p : Addr) (rr : Int) (gg : Option Int) (v1 v2 : Option V), σ = [some (.ref t), some (.ref b), some (.ref l), some (.ref p), v1, v2] ∧ Same H H' ∧ SqT K H' p [.int rr, optV gg] ∧ 0 ≤ rr ∧ rr < tx.length ∧
        afterL tx r g cs = afterL tx rr gg (cs.drop i) ∧ failAt tx r g cs = (failAt tx rr gg (cs.drop i)).map (· + i))
      ⟨b, r, g, none, none, rfl, e12, seq_t e12 hb, r0, r1, rfl, by rw [List.drop_zero]; simp⟩ (fun i σ H' _ ⟨_, _, _, _, _, _, e, _⟩ => e.seq hl) (fun i x σ H3 H4 hi h y => ?_) (fun σ H3 h => ?_)⟩
    · obtain ⟨p, rr, gg, v1, v2, rfl, e3, hp, q0, q1, ha, hf⟩ := h
      obtain ⟨T1, x1, y1, rfl, nT, rfl, ex1, ex2⟩ := y
      obtain rfl : V.int (i : Nat) = x1 := Option.some.inj ex1
      obtain ⟨c, hc, hca⟩ := paired_at hcs ex2
      have hdrop : cs.drop i = c :: cs.drop (i + 1) := by
        obtain ⟨h1, h2⟩ := List.getElem?_eq_some_iff.mp hc
        rw [List.drop_eq_getElem_cons h1, h2]
      rw [hdrop] at ha hf
      rw [afterL_step] at ha
      rw [fail_step] at hf
      have eT : Same H3 (upd H3 T1 (.tup [.int (i : Nat), y1])) := same_upd (Same.refl _) nT
      have eHT := e3.trans eT
      refine ⟨T1, _, rfl, SqT.of upd_same, rfl, _, _, rfl, _, _, rfl, rfl, ?_⟩
      refine ⟨_, rfl, _, rfl, _, rfl, t, p, tx, rr, gg, y1, c, rfl, eHT.seq ht, seq_t eT hp, hca.same eHT, (fun z => ?_), fun r3 g3 z p3 np3 => ?_⟩
      · rw [step_eq q0 q1] at z
        rw [z] at hf
        refine ⟨_, rfl, rfl, _, rfl, iteT ⟨_, rfl, ?_⟩⟩
        refine Err.ask eHT (kf i ?_)
        rw [hf]
        simp
      · rw [step_eq q0 q1] at z
        rw [z] at ha hf
        have e4 : Same (upd H3 T1 (.tup [.int (i : Nat), y1])) (upd (upd H3 T1 (.tup [.int (i : Nat), y1])) p3 (.tup [.int r3, optV g3])) := same_upd (Same.refl _) np3
        obtain ⟨a0, a1⟩ := step_row q0 q1 z
        refine ⟨_, rfl, rfl, _, rfl, iteF ?_⟩
        refine ⟨p3, r3, g3, _, _, rfl, eHT.trans e4, SqT.of upd_same, a0, a1, ha, ?_⟩
        rw [hf, Option.map_map]
        show (failAt tx r3 g3 (cs.drop (i + 1))).map _ = _
        congr 1
        funext n
        show n + 1 + i = n + (i + 1)
        omega
    · obtain ⟨p, rr, gg, v1, v2, rfl, e3, hp, q0, q1, ha, hf⟩ := h
      rw [hcs.len, List.drop_length] at ha
      exact ⟨_, rfl, k rr gg ha _ p e3 hp⟩
end
end Gc

/-! the program's checks, where they may raise -/
namespace Gc
open PySem L2
/-- a tuple that may be no command -/
inductive Raw where
  | nil
  | one (n : Str)
  | two (n : Str) (k : Int)
  | three (n : Str) (k j : Int)
def encR : Raw → List V
  | .nil => []
  | .one n => [.str n]
  | .two n k => [.str n, .int k]
  | .three n k j => [.str n, .int k, .int j]
def withN : List V := [.str "down", .str "up", .str "right", .str "left"]
def withoutN : List V := [.str "home", .str "end"]
def Raw.good : Raw → Bool
  | .one n => inV (.str n) withoutN
  | .two n k => inV (.str n) withN && decide (1 ≤ k)
  | _ => false
def Raw.cmd : Raw → Cmd
  | .one n => if n = "home" then .home else .stop
  | .two n k => if n = "down" then .down k else if n = "up" then .up k else if n = "right" then .right k else .left k
  | _ => .home
theorem in_two {n : Str} (h : inV (.str n) withoutN = true) : n = "home" ∨ n = "end" := by
  simp only [inV, withoutN, List.any_cons, List.any_nil, eqV, Bool.or_false, Bool.or_eq_true, beq_iff_eq] at h
  rcases h with h | h
  · exact .inl h.symm
  · exact .inr h.symm
theorem in_four {n : Str} (h : inV (.str n) withN = true) : n = "down" ∨ n = "up" ∨ n = "right" ∨ n = "left" := by
  simp only [inV, withN, List.any_cons, List.any_nil, eqV, Bool.or_false, Bool.or_eq_true, beq_iff_eq] at h
  rcases h with h | h | h | h
  · exact .inl h.symm
  · exact .inr (.inl h.symm)
  · exact .inr (.inr (.inl h.symm))
  · exact .inr (.inr (.inr h.symm))
theorem Raw.enc {r : Raw} (h : r.good = true) : encR r = encC r.cmd ∧ r.cmd.ok := by
  cases r with
  | nil => cases h
  | one n =>
    rcases in_two h with e | e <;> subst e
    · exact ⟨rfl, trivial⟩
    · exact ⟨rfl, trivial⟩
  | two n k =>
    obtain ⟨h1, h2⟩ := Bool.and_eq_true_iff.mp h
    have hk := of_decide_eq_true h2
    rcases in_four h1 with e | e | e | e <;> subst e
    · exact ⟨rfl, hk⟩
    · exact ⟨rfl, hk⟩
    · exact ⟨rfl, hk⟩
    · exact ⟨rfl, hk⟩
  | three n k j => cases h
def RawAt (K : PySem.W.Frag) (H : Hp) (v : V) (r : Raw) : Prop := ∃ a, v = .ref a ∧ SqT K H a (encR r)
def RawsOf (K : PySem.W.Frag) (H : Hp) (xs : List V) (rs : List Raw) : Prop := Paired (RawAt K H) xs rs
theorem RawAt.same {K : PySem.W.Frag} {H H' : Hp} {v : V} {r : Raw} (e : Same H H') (h : RawAt K H v r) : RawAt K H' v r := by
  obtain ⟨a, rfl, h⟩ := h
  exact ⟨a, rfl, seq_t e h⟩
theorem RawsOf.same {K : PySem.W.Frag} {H H' : Hp} {xs : List V} {rs : List Raw} (e : Same H H') (h : RawsOf K H xs rs) : RawsOf K H' xs rs := Paired.mapP h fun _ _ q => q.same e
/-- the index of the first tuple that is no command -/
def badAt (rs : List Raw) : Option Nat := rs.findIdx? fun r => !r.good
theorem bad_at {rs : List Raw} {i : Nat} {r : Raw} (h : rs[i]? = some r) (g : r.good = false) (b : ∀ j r, j < i → rs[j]? = some r → r.good = true) : badAt rs = some i := by
  unfold badAt
  rw [List.findIdx?_eq_some_iff_getElem]
  obtain ⟨hi, e⟩ := List.getElem?_eq_some_iff.mp h
  refine ⟨hi, by rw [e, g]; rfl, fun j hj => ?_⟩
  have := b j rs[j] hj (List.getElem?_eq_getElem (by omega))
  rw [this]
  decide
theorem bad_none {rs : List Raw} (b : ∀ j r, j < rs.length → rs[j]? = some r → r.good = true) : badAt rs = none := by
  unfold badAt
  rw [List.findIdx?_eq_none_iff]
  intro r hr
  obtain ⟨j, hj, e⟩ := List.mem_iff_getElem.mp hr
  rw [b j r hj (by rw [List.getElem?_eq_getElem hj, e])]
  rfl
theorem bad_good {rs : List Raw} (h : badAt rs = none) : ∀ r ∈ rs, r.good = true := by
  unfold badAt at h
  rw [List.findIdx?_eq_none_iff] at h
  intro r hr
  have := h r hr
  cases e : r.good with
  | true => rfl
  | false =>
    rw [e] at this
    cases this
theorem raws_cmds {K : PySem.W.Frag} {H : Hp} : ∀ {xs : List V} {rs : List Raw}, RawsOf K H xs rs → (∀ r ∈ rs, r.good = true) → CmdsOf K H xs (rs.map Raw.cmd) ∧ AllOk (rs.map Raw.cmd)
  | [], [], _, _ => ⟨.nil, fun _ h => nomatch h⟩
  | _ :: _, r :: rs, .cons ⟨a, e, h⟩ q, g => by
    obtain ⟨h1, h2⟩ := raws_cmds q fun r hr => g r (List.mem_cons_of_mem _ hr)
    obtain ⟨e1, e2⟩ := Raw.enc (g r List.mem_cons_self)
    refine ⟨.cons ⟨a, e, e1 ▸ h⟩ h1, fun c hc => ?_⟩
    rcases List.mem_cons.mp hc with z | z
    · rw [z]
      exact e2
    · exact h2 c z
def negAt (T : List Int) : Option Nat := T.findIdx? fun x => decide (x < 0)
theorem neg_at {T : List Int} {i : Nat} {x : Int} (h : T[i]? = some x) (g : x < 0) (b : ∀ j x, j < i → T[j]? = some x → 0 ≤ x) : negAt T = some i := by
  unfold negAt
  rw [List.findIdx?_eq_some_iff_getElem]
  obtain ⟨hi, e⟩ := List.getElem?_eq_some_iff.mp h
  refine ⟨hi, by rw [e]; exact decide_eq_true g, fun j hj => ?_⟩
  have := b j T[j] hj (List.getElem?_eq_getElem (by omega))
  simp only [decide_eq_true_eq]
  omega
theorem neg_none {T : List Int} (b : ∀ j x, j < T.length → T[j]? = some x → 0 ≤ x) : negAt T = none := by
  unfold negAt
  rw [List.findIdx?_eq_none_iff]
  intro x hx
  obtain ⟨j, hj, e⟩ := List.mem_iff_getElem.mp hx
  have := b j x hj (by rw [List.getElem?_eq_getElem hj, e])
  exact decide_eq_false (by omega)
theorem neg_nn {T : List Int} (h : negAt T = none) : ∀ x ∈ T, 0 ≤ x := by
  unfold negAt at h
  rw [List.findIdx?_eq_none_iff] at h
  intro x hx
  have := of_decide_eq_false (h x hx)
  omega
def spCountX : Sp := fun vs H Q _ => ∃ n : Int, vs = [.int n] ∧ Q (.bl (decide (1 ≤ n))) H
def spIsRaw (K : PySem.W.Frag) : Sp := fun vs H Q _ => ∃ (v : V) (r : Raw), vs = [v] ∧ RawAt K H v r ∧ Q (.bl r.good) H
def spCheckX (K : PySem.W.Frag) (CM : Addr) : Sp := fun vs H Q E => ∃ (l : Addr) (xs : List V) (rs : List Raw), vs = [.ref l] ∧ SqL K H l xs ∧ RawsOf K H xs rs ∧
  (∀ i, badAt rs = some i → Err E CM (.int i) H) ∧ (badAt rs = none → ∀ H', Same H H' → Q .non H')
def spTextX (K : PySem.W.Frag) (CT : Addr) : Sp := fun vs H Q E => ∃ (t : Addr) (T : List Int), vs = [.ref t] ∧ SqL K H t (T.map V.int) ∧ (T = [] → Err E CT .non H) ∧ (T ≠ [] → ∀ i, negAt T = some i → Err E CT (.int i) H) ∧
  (T ≠ [] → negAt T = none → ∀ H', Same H H' → Q .non H')
def CurOk (n r : Int) (g : Option Int) : Prop := 0 ≤ r ∧ r < n ∧ ge g 0
def spCursorX (K : PySem.W.Frag) (CC : Addr) : Sp := fun vs H Q E => ∃ (n r : Int) (g : Option Int) (c : Addr), vs = [.int n, .ref c] ∧ SqT K H c [.int r, optV g] ∧ (¬ CurOk n r g → Err E CC (.ref c) H) ∧ (CurOk n r g → Q .non H)
def spNumX (CN : Addr) : Sp := fun vs H Q E => ∃ n k : Int, vs = [.int n, .int k] ∧ (n < k → Err E CN (.int n) H) ∧ (k ≤ n → Q .non H)
section
variable {P : Program} {w : World} {K : PySem.W.Frag} {mg : Str → Option Value} {base : Heap} {wo wn CT CC CM CN : Addr}
theorem ok_is_countX {f : Addr} {fd : FuncData} (F : Fun K "is_count" "is_count" s_is_count f fd) (T : TxtB K mg wo wn) : FnOk P w K mg base CX0 1 f fd ["number"] spCountX := by
  refine F.ok sc_is_count (fun vs H Q E h => ?_) (fun cdv A outer s H vs Q E hr h => ?_)
  · obtain ⟨n, rfl, _⟩ := h
    rfl
  · obtain ⟨n, rfl, k⟩ := h
    refine ⟨_, (pss_one (ps_ret (pe_and (pe_callB call_isi (by rfl) T.isinstance (by decide +kernel) (pa_cons (pv 0) (pa_cons (pe_bltn (v := .ty "int") (u := .type "int") (by rfl) T.int (by decide +kernel) rfl) pa_nil))) (pe_and (pe_not (pe_callB call_isi (by rfl) T.isinstance (by decide +kernel) (pa_cons (pv 0) (pa_cons (pe_bltn (v := .ty "bool") (u := .type "bool") (by rfl) T.bool (by decide +kernel) rfl) pa_nil)))) (pe_one (pe_cmpR op_ge (pv 0) pe_int (nomark _))))))), ?_⟩
    refine ⟨_, rfl, _, _, _, _, _, rfl, .ty "int", .base (.int n), kit_ty (show kitB "int" "int" = some true by decide +kernel), _, rfl, iteT ?_⟩
    refine ⟨_, rfl, _, _, _, _, _, rfl, .ty "bool", .base (.int n), kit_ty (show kitB "int" "bool" = some false by decide +kernel), _, rfl, _, rfl, iteT ?_⟩
    exact ⟨_, rfl, _, _, rfl, rfl, k⟩
theorem ok_is_commandX {f : Addr} {fd : FuncData} (F : Fun K "is_command" "is_command" s_is_command f fd) (T : TxtB K mg wo wn) (c_is_count : Cal P w K mg base 1 "is_count" spCountX) : FnOk P w K mg base CX0 2 f fd ["command"] (spIsRaw K) := by
  refine F.ok sc_is_command (fun vs H Q E h => ?_) (fun cdv A outer s H vs Q E hr h => ?_)
  · obtain ⟨v, c, rfl, _⟩ := h
    rfl
  · obtain ⟨v, r, rfl, ⟨a, rfl, ha⟩, k⟩ := h
    refine ⟨_, (pss_cons (ps_if (pt_cmpR op_eq (pe_callB call_len_seq (by rfl) T.len (by decide +kernel) (pa_cons (pv 0) pa_nil)) pe_int (nomark _)) (pss_one (ps_ret (pe_cmpR op_in_seq (pe_ix ix_tup (pv 0) pe_int (fun _ _ => rfl)) (pe_glob (v := .ref wo) (by rfl) T.g_WITHOUT_NUMBER rfl) (by rfl)))) pss_nil)
      (pss_one (ps_ret (pe_and (pe_cmpR op_eq (pe_callB call_len_seq (by rfl) T.len (by decide +kernel) (pa_cons (pv 0) pa_nil)) pe_int (nomark _)) (pe_and (pe_cmpR op_in_seq (pe_ix ix_tup (pv 0) pe_int (fun _ _ => rfl)) (pe_glob (v := .ref wn) (by rfl) T.g_WITH_NUMBER rfl) (by rfl)) (pe_one (pe_cal c_is_count hr (by decide) (by rfl) (pa_cons (pe_ix ix_tup (pv 0) pe_int (fun _ _ => rfl)) pa_nil)))))))), ?_⟩
    cases r with
    | nil =>
      refine ⟨_, rfl, a, _, rfl, .inr ha, rfl, _, rfl, iteF ?_⟩
      exact ⟨_, rfl, a, _, rfl, .inr ha, rfl, _, rfl, iteF k⟩
    | one n =>
      refine ⟨_, rfl, a, _, rfl, .inr ha, rfl, _, rfl, iteT ?_⟩
      refine ⟨_, rfl, a, _, 0, _, rfl, rfl, ha, rfl, wo, _, rfl, .inr (T.tWO _), rfl, rfl, ?_⟩
      rw [if_neg Bool.false_ne_true]
      exact k
    | two n j =>
      refine ⟨_, rfl, a, _, rfl, .inr ha, rfl, _, rfl, iteF ?_⟩
      refine ⟨_, rfl, a, _, rfl, .inr ha, rfl, _, rfl, iteT ?_⟩
      refine ⟨_, rfl, a, _, 0, _, rfl, rfl, ha, rfl, wn, _, rfl, .inr (T.tWN _), rfl, rfl, inV (.str n) withN, rfl, ?_⟩
      cases hb : inV (.str n) withN with
      | true =>
        refine iteT ⟨_, rfl, a, _, 1, _, rfl, rfl, ha, rfl, j, rfl, ?_⟩
        have e : Raw.good (.two n j) = decide (1 ≤ j) := by
          show (inV (.str n) withN && decide (1 ≤ j)) = _
          rw [hb, Bool.true_and]
        rw [e] at k
        exact k
      | false =>
        refine iteF ?_
        have e : Raw.good (.two n j) = false := by
          show (inV (.str n) withN && decide (1 ≤ j)) = _
          rw [hb, Bool.false_and]
        rw [e] at k
        exact k
    | three n j i =>
      refine ⟨_, rfl, a, _, rfl, .inr ha, rfl, _, rfl, iteF ?_⟩
      exact ⟨_, rfl, a, _, rfl, .inr ha, rfl, _, rfl, iteF k⟩
theorem ok_check_commandsX {f : Addr} {fd : FuncData} (F : Fun K "check_commands" "check_commands" s_check_commands f fd) (T : TxtB K mg wo wn) (c_is_command : Cal P w K mg base 2 "is_command" (spIsRaw K))
    (e_InvalidCommand : ErrC P w K mg base "InvalidCommand" CM) : FnOk P w K mg base (L2.CX P w) 3 f fd ["commands"] (spCheckX K CM) := by
  refine F.okX sc_check_commands (fun vs H Q E h => ?_) (fun cdv A outer s H vs Q E hr h => ?_)
  · obtain ⟨l, xs, rs, rfl, _⟩ := h
    rfl
  · obtain ⟨l, xs, rs, rfl, hl, hrs, kb, kg⟩ := h
    refine ⟨_, (pss_one (ps_for (passes_of rfl) rfl (pi_enum (by rfl) T.enumerate (pa_cons (pv 0) pa_nil)) (pg_tup rfl (pgs_cons (pg_name (i := 1) sc_check_commands.nd rfl (Or.inl rfl)) (pgs_cons (pg_name (i := 2) sc_check_commands.nd rfl (Or.inl rfl)) pgs_nil))) (pss_one (ps_if (pt_not (pt_val (pe_cal c_is_command hr (by decide) (by rfl) (pa_cons (pv 2) pa_nil)))) (pss_one (ps_raiseE rfl e_InvalidCommand hr (by decide) (takes_of rfl rfl rfl rfl) (pv 1) (by rfl))) pss_nil)))), ?_⟩
    refine ⟨_, rfl, l, xs, rfl, hl, for_it (walk_enum (K := K) (a := l) (xs := xs)) (fun i σ H' => ∃ v1 v2 : Option V, σ = [some (.ref l), v1, v2] ∧ Same H H' ∧ ∀ j r, j < i → rs[j]? = some r → r.good = true)
      ⟨none, none, rfl, Same.refl H, fun j r h => absurd h (Nat.not_lt_zero _)⟩ (fun i σ H' _ ⟨_, _, _, e, _⟩ => e.seq hl) (fun i x σ H1 H2 hi h y => ?_) (fun σ H1 h => ?_)⟩
    · obtain ⟨v1, v2, rfl, e, gd⟩ := h
      obtain ⟨T1, x1, y1, rfl, nT, rfl, e1, e2⟩ := y
      obtain rfl : V.int (i : Nat) = x1 := Option.some.inj e1
      obtain ⟨r, hr1, hra⟩ := paired_at hrs e2
      have eT : Same H (upd H1 T1 (.tup [.int (i : Nat), y1])) := same_upd e nT
      refine ⟨T1, _, rfl, SqT.of upd_same, rfl, _, _, rfl, _, _, rfl, rfl, ?_⟩
      refine ⟨_, rfl, y1, r, rfl, hra.same eT, _, rfl, ?_⟩
      cases hg : r.good with
      | true =>
        refine iteF ⟨_, _, rfl, eT, fun j r' hj hr' => ?_⟩
        by_cases z : j = i
        · rw [z, hr1] at hr'
          cases hr'
          exact hg
        · exact gd j r' (by omega) hr'
      | false =>
        refine iteT ⟨_, rfl, Err.ask eT ?_⟩
        have := kb i (bad_at hr1 hg gd)
        exact this
    · obtain ⟨v1, v2, rfl, e, gd⟩ := h
      refine kg (bad_none fun j r hj hr' => gd j r ?_ hr') _ e
      rw [Paired.length hrs]
      exact hj
theorem ok_check_textX {f : Addr} {fd : FuncData} (F : Fun K "check_text" "check_text" s_check_text f fd) (T : TxtB K mg wo wn) (e_InvalidText : ErrC P w K mg base "InvalidText" CT) : FnOk P w K mg base (L2.CX P w) 3 f fd ["text"] (spTextX K CT) := by
  refine F.okX sc_check_text (fun vs H Q E h => ?_) (fun cdv A outer s H vs Q E hr h => ?_)
  · obtain ⟨t, T, rfl, _⟩ := h
    rfl
  · obtain ⟨t, tx, rfl, ht, k0, kn, kg⟩ := h
    refine ⟨_, (pss_cons (ps_if (pt_not (pt_truth (pv 0) (fun _ => rfl))) (pss_one (ps_raiseE rfl e_InvalidText hr (by decide) (takes_of rfl rfl rfl rfl) pe_non (by rfl))) pss_nil)
      (pss_one (ps_for (passes_of rfl) rfl (pi_enum (by rfl) T.enumerate (pa_cons (pv 0) pa_nil)) (pg_tup rfl (pgs_cons (pg_name (i := 1) sc_check_text.nd rfl (Or.inl rfl)) (pgs_cons (pg_name (i := 2) sc_check_text.nd rfl (Or.inl rfl)) pgs_nil))) (pss_one (ps_if (pt_cmpR op_lt (pv 2) pe_int (nomark _)) (pss_one (ps_raiseE rfl e_InvalidText hr (by decide) (takes_of rfl rfl rfl rfl) (pv 1) (by rfl))) pss_nil))))), ?_⟩
    cases tx with
    | nil =>
      refine ⟨_, rfl, false, .inl ⟨_, ht, rfl⟩, iteT ?_⟩
      exact Err.ask (Same.refl H) (k0 rfl)
    | cons z0 zs =>
      have kn' := kn (by simp)
      have kg' := kg (by simp)
      generalize hT : z0 :: zs = tx at *
      refine ⟨_, rfl, true, .inl ⟨_, ht, by rw [← hT]; rfl⟩, iteF ?_⟩
      refine ⟨_, rfl, t, _, rfl, ht, for_it (walk_enum (K := K) (a := t) (xs := tx.map V.int)) (fun i σ H' => ∃ v1 v2 : Option V, σ = [some (.ref t), v1, v2] ∧ Same H H' ∧ ∀ j x, j < i → tx[j]? = some x → 0 ≤ x)
        ⟨none, none, rfl, Same.refl H, fun j r h => absurd h (Nat.not_lt_zero _)⟩ (fun i σ H' _ ⟨_, _, _, e, _⟩ => e.seq ht) (fun i x σ H1 H2 hi h y => ?_) (fun σ H1 h => ?_)⟩
      · obtain ⟨v1, v2, rfl, e, gd⟩ := h
        obtain ⟨T1, x1, y1, rfl, nT, rfl, e1, e2⟩ := y
        obtain rfl : V.int (i : Nat) = x1 := Option.some.inj e1
        obtain ⟨z, hz, rfl⟩ : ∃ z, tx[i]? = some z ∧ y1 = .int z := by
          have e3 : (tx.map V.int)[i]? = some y1 := e2
          rw [List.getElem?_map] at e3
          cases q : tx[i]? with
          | none =>
            rw [q] at e3
            cases e3
          | some z =>
            rw [q] at e3
            exact ⟨z, rfl, (Option.some.inj e3).symm⟩
        have eT : Same H (upd H1 T1 (.tup [.int i, .int z])) := same_upd e nT
        refine ⟨T1, _, rfl, SqT.of upd_same, rfl, _, _, rfl, _, _, rfl, rfl, ?_⟩
        refine ⟨_, rfl, _, _, rfl, rfl, _, rfl, ite2 (fun c => ?_) (fun c => ?_)⟩
        · exact ⟨_, rfl, Err.ask eT (kn' i (neg_at hz (of_decide_eq_true c) gd))⟩
        · refine ⟨_, _, rfl, eT, fun j x hj hx => ?_⟩
          by_cases q : j = i
          · rw [q, hz] at hx
            cases hx
            have : ¬ z < 0 := fun l => c (decide_eq_true l)
            omega
          · exact gd j x (by omega) hx
      · obtain ⟨v1, v2, rfl, e, gd⟩ := h
        refine kg' (neg_none fun j x hj hx => gd j x ?_ hx) _ e
        rw [List.length_map]
        exact hj
theorem ok_check_cursorX {f : Addr} {fd : FuncData} (F : Fun K "check_cursor" "check_cursor" s_check_cursor f fd) (e_InvalidCursor : ErrC P w K mg base "InvalidCursor" CC) : FnOk P w K mg base (L2.CX P w) 3 f fd ["lines", "cursor"] (spCursorX K CC) := by
  refine F.okX sc_check_cursor (fun vs H Q E h => ?_) (fun cdv A outer s H vs Q E hr h => ?_)
  · obtain ⟨n, r, g, c, rfl, _⟩ := h
    rfl
  · obtain ⟨n, r, g, c, rfl, hc, kb, kg⟩ := h
    refine ⟨_, (pss_cons (ps_asg (pv 1) (pg_tup rfl (pgs_cons (pg_name (i := 2) sc_check_cursor.nd rfl (Or.inl rfl)) (pgs_cons (pg_name (i := 3) sc_check_cursor.nd rfl (Or.inl rfl)) pgs_nil))))
      (pss_one (ps_if (PW.pt (pw_or (pt_not (pt_chain op_le op_lt pe_int (pv 2) (pv 0))) (pw_or1 (PW.pt (pw_and (pt_cmpR op_notN (pv 3) pe_non (nomark _)) (pw_and1 (pt_cmpR op_lt (pv 3) pe_int (nomark _)))))))) (pss_one (ps_raiseE rfl e_InvalidCursor hr (by decide) (takes_of rfl rfl rfl rfl) (pv 1) (by rfl))) pss_nil))), ?_⟩
    have bad : ¬ CurOk n r g → rRaise CC E (.ref c) H := fun z => Err.ask (Same.refl H) (kb z)
    refine ⟨_, rfl, c, _, rfl, hc, rfl, _, _, rfl, _, _, rfl, rfl, ?_⟩
    refine ⟨_, rfl, _, _, rfl, rfl, _, rfl, ite2 (fun c0 => ?_) (fun c0 => ?_)⟩
    · refine ⟨_, rfl, _, _, rfl, rfl, _, rfl, ?_⟩
      by_cases c1 : r < n
      · refine iteN1 c1 ?_
        cases g with
        | none => exact ⟨_, rfl, rfl, _, rfl, iteF (iteF (kg ⟨of_decide_eq_true c0, c1, ge_none 0⟩))⟩
        | some y =>
          refine ⟨_, rfl, rfl, _, rfl, iteT ?_⟩
          refine ⟨_, rfl, _, _, rfl, rfl, _, rfl, ite2 (fun c2 => ?_) (fun c2 => ?_)⟩
          · refine ⟨_, rfl, bad fun z => ?_⟩
            have := ge_some.mp z.2.2
            have := of_decide_eq_true c2
            omega
          · have c2' : ¬ y < 0 := fun l => c2 (decide_eq_true l)
            exact kg ⟨of_decide_eq_true c0, c1, ge_some.mpr (by omega)⟩
      · refine iteN0 c1 ?_
        exact ⟨_, rfl, bad fun z => c1 z.2.1⟩
    · refine ⟨_, rfl, ?_⟩
      refine iteT (B := _) ?_
      exact ⟨_, rfl, bad fun z => c0 (decide_eq_true z.1)⟩
end
end Gc

/-! run of invalid arguments -/
namespace Gc
open PySem L2
/-- the class and the value of the error of invalid arguments of run -/
inductive BadRun (b : Addr) (T : List Int) (r : Int) (g : Option Int) (rs : List Raw) : Nat → V → Prop where
  | text0 : T = [] → BadRun b T r g rs 0 .non
  | text (i : Nat) : T ≠ [] → negAt T = some i → BadRun b T r g rs 0 (.int i)
  | cursor : T ≠ [] → negAt T = none → ¬ CurOk T.length r g → BadRun b T r g rs 1 (.ref b)
  | command (i : Nat) : T ≠ [] → negAt T = none → CurOk T.length r g → badAt rs = some i → BadRun b T r g rs 2 (.int i)
def spRunB (K : PySem.W.Frag) (cs : Nat → Addr) : Sp := fun vs H Q E => ∃ (t b l : Addr) (T : List Int) (r : Int) (g : Option Int) (xs : List V) (rs : List Raw) (i : Nat) (v : V), vs = [.ref t, .ref b, .ref l] ∧ SqL K H t (T.map V.int) ∧ SqT K H b [.int r, optV g] ∧ SqL K H l xs ∧ RawsOf K H xs rs ∧ BadRun b T r g rs i v ∧ Err E (cs i) v H
def spRunU (K : PySem.W.Frag) (cs : Nat → Addr) : Sp := fun vs H Q E => spRunB K cs vs H Q E ∨ spRunI K (cs 3) vs H Q E
theorem fnok_or2 {P : Program} {w : World} {K : PySem.W.Frag} {mg : Str → Option Value} {base : Heap} {C : CXT} {k : Nat} {f : Addr} {fd : FuncData} {ps : List Str} {s1 s2 : Sp} (F1 : FnOk P w K mg base C k f fd ps s1) (F2 : FnOk P w K mg base C k f fd ps s2) : FnOk P w K mg base C k f fd ps (fun vs H Q E => s1 vs H Q E ∨ s2 vs H Q E) :=
  ⟨fun vs H Q E h => h.elim (F1.len vs H Q E) (F2.len vs H Q E), fun A outer s H args us vs Q E hr he hb hv hs => hs.elim (F1.run A outer s H args us vs Q E hr he hb hv) (F2.run A outer s H args us vs Q E hr he hb hv)⟩
section
variable {P : Program} {w : World} {K : PySem.W.Frag} {mg : Str → Option Value} {base : Heap} {wo wn : Addr} {cs : Nat → Addr}
theorem ok_runB {f : Addr} {fd : FuncData} (F : Fun K "run" "run" s_run f fd) (T : TxtB K mg wo wn) (c_check_text : CalX P w K mg base 3 "check_text" (spTextX K (cs 0))) (c_check_cursor : CalX P w K mg base 3 "check_cursor" (spCursorX K (cs 1)))
    (c_check_commands : CalX P w K mg base 3 "check_commands" (spCheckX K (cs 2))) (c_moved : Cal P w K mg base 3 "moved" (spMoved K)) (e_Impossible : ErrC P w K mg base "Impossible" (cs 3)) : FnOk P w K mg base (L2.CX P w) 4 f fd ["text", "cursor", "commands"] (spRunB K cs) := by
  refine F.okX sc_run (fun vs H Q E h => ?_) (fun cdv A outer s H vs Q E hr h => ?_)
  · obtain ⟨t, b, l, tx, r, g, xs, rs, i, v, rfl, _⟩ := h
    rfl
  · obtain ⟨t, b, l, tx, r, g, xs, rs, i, v, rfl, ht, hb, hl, hrs, bad, ke⟩ := h
    refine ⟨_, (pss_cons (ps_expr (pe_calX (takes_of rfl rfl rfl rfl) c_check_text hr (by decide) (by rfl) (pa_cons (pv 0) pa_nil)))
      (pss_cons (ps_expr (pe_calX (takes_of rfl rfl rfl rfl) c_check_cursor hr (by decide) (by rfl) (pa_cons (pe_callB call_len_seq (by rfl) T.len (by decide +kernel) (pa_cons (pv 0) pa_nil)) (pa_cons (pv 1) pa_nil))))
      (pss_cons (ps_expr (pe_calX (takes_of rfl rfl rfl rfl) c_check_commands hr (by decide) (by rfl) (pa_cons (pv 2) pa_nil)))
      (pss_cons (ps_set (i := 3) sc_run.nd rfl (Or.inl rfl) (pv 1))
      (pss_cons (ps_for (passes_of rfl) rfl (pi_enum (by rfl) T.enumerate (pa_cons (pv 2) pa_nil)) (pg_tup rfl (pgs_cons (pg_name (i := 4) sc_run.nd rfl (Or.inl rfl)) (pgs_cons (pg_name (i := 5) sc_run.nd rfl (Or.inl rfl)) pgs_nil))) (pss_cons (ps_set (i := 3) sc_run.nd rfl (Or.inl rfl) (pe_cal c_moved hr (by decide) (by rfl) (pa_cons (pv 0) (pa_cons (pv 3) (pa_cons (pv 5) pa_nil)))))
      (pss_one (ps_if (pt_cmpR op_isN (pv 3) pe_non (nomark _)) (pss_one (ps_raiseE rfl e_Impossible hr (by decide) (takes_of rfl rfl rfl rfl) (pv 4) (by rfl))) pss_nil))))
      (pss_one (ps_ret (pv 3)))))))), ?_⟩
    refine ⟨_, rfl, t, tx, rfl, ht, fun z => ?_, fun z j hj => ?_, fun ne hn H1 e1 => ?_⟩
    · cases bad with
      | text0 _ => exact ke
      | text j y _ => exact absurd z y
      | cursor y _ _ => exact absurd z y
      | command j y _ _ _ => exact absurd z y
    · cases bad with
      | text0 y => exact absurd y z
      | text j' _ q =>
        rw [hj] at q
        cases q
        exact ke
      | cursor _ q _ => rw [hj] at q; cases q
      | command j' _ q _ _ => rw [hj] at q; cases q
    refine ⟨_, rfl, t, _, rfl, .inl (e1.seq ht), _, rfl, (tx.map V.int).length, r, g, b, rfl, seq_t e1 hb, ?_, ?_⟩
    · rw [List.length_map]
      intro z
      cases bad with
      | text0 y => exact absurd y ne
      | text j' _ q => rw [hn] at q; cases q
      | cursor _ _ _ => exact Err.same e1 ke
      | command j' _ _ q _ => exact absurd q z
    rw [List.length_map]
    intro hc
    refine ⟨_, rfl, l, xs, rs, rfl, e1.seq hl, hrs.same e1, fun j hj => ?_, fun hg H2 e2 => ?_⟩
    · cases bad with
      | text0 y => exact absurd y ne
      | text j' _ q => rw [hn] at q; cases q
      | cursor _ _ q => exact absurd hc q
      | command j' _ _ _ q =>
        rw [hj] at q
        cases q
        exact Err.same e1 ke
    · cases bad with
      | text0 y => exact absurd y ne
      | text j' _ q => rw [hn] at q; cases q
      | cursor _ _ q => exact absurd hc q
      | command j' _ _ _ q => rw [hg] at q; cases q
end
end Gc

/-! calls by names alone, the names in the other order: f(b=.., a=..) of def f(a, b) -/
namespace Gc
open PySem PySem.Spec PyProof.Rows L2
def gRev {α : Type} (us ws : List α) : List α := us ++ ws.reverse
theorem vals_rev : ∀ {vs : List V} {us : List Value}, Vals vs us → Vals vs.reverse us.reverse
  | _, _, .nil => .nil
  | v :: vs, u :: us, .cons h t => by
    rw [List.reverse_cons, List.reverse_cons]
    exact (vals_rev t).append (.cons h .nil)
structure CalK (P : Program) (w : World) (K : PySem.W.Frag) (mg : Str → Option Value) (base : Heap) (k : Nat) (x : Str) (ks : List Str) (sp : Sp) : Prop where
  ex : ∃ (f : Addr) (fd : FuncData) (ps : List Str), FnOk P w K mg base CX0 k f fd ps sp ∧ mg x = some (.ref f) ∧ PySem.W.keepIn K (.ref f) = true ∧ KBinds K fd ps ks gRev gRev
/-- how it binds: h is «fun _ _ _ _ _ _ us ws hl => match us, ws, hl with | [], [_, _], _ => rfl | [_], [_], _ => rfl | [_, _], [], _ => rfl» -/
theorem bindsK {K : PySem.W.Frag} {x qual : Str} {st : Stmt} {f : Addr} {fd : FuncData} {ps ks : List Str} (F : Fun K x qual st f fd)
    (h : ∀ (kV doc pm : Value) (an : Option Addr) (cdv ct : Value) (us ws : List Value), (gRev us ws).length = ps.length → bindArgs (PySem.W.fnOf x qual (defArgs st) (defBody st) (defScope st) .none kV doc pm an cdv ct) ⟨us, ks.zip ws⟩ = pure (ps.zip (gRev us ws))) : KBinds K fd ps ks gRev gRev := by
  obtain ⟨oc, od, kV, doc, pm, an, cdv, ct, osl, rfl, lk, hcd⟩ := F.ex
  exact ⟨fun s us ws _ hl => .of_eq (h kV doc pm an cdv ct us ws hl), fun a b => a.append (vals_rev b)⟩
theorem pe_calK {X : Cx} {k j : Nat} {x : Str} {ks : List Str} {sp : Sp} {p pos : Pos} {kws : List Keyword} {tk : TA} (c : CalK X.prog X.w X.K X.mg X.base k x ks sp) (hr : Room j X.A) (hk : k ≤ j) (hg : Gl X x) (hkw : PK X kws tk)
    (hdb : (x == ("__debug__" : Str)) = false := by decide) (hall : (backToKw pos (keywordEach kws X.env)).all (·.1.isSome) = true := by rfl) (hks : (backToKw pos (keywordEach kws X.env)).filterMap (·.1) = ks := by rfl)
    (hpn : ((backTo pos (starEach [] X.env)).any (·.1) || (backToKw pos (keywordEach kws X.env)).any (·.1.isNone)) = false := by rfl) :
    PE X (.Call (.Name x p) [] kws pos) (tCallK sp gRev E0 tNil tk) := by
  obtain ⟨f, fd, ps, F, hm, kp, b⟩ := c.ex
  refine ⟨fun pins s σ H Q I h => ?_⟩
  refine wpAny_Call_Name_kw (ld_glob I hg hm ?_ hdb)
  refine PySem.W.callWith_KW0 (h₀ := X.base) I.ok.mod.kin kp hall ?_ hpn
  refine thn (hkw.run pos pins s σ H _ I h) fun ws s1 ⟨zs, H1, I1, rz, q⟩ => ⟨I1.kIn, ?_⟩
  rw [hks]
  exact run_fnk (us := []) (vs := []) F (hr.mono hk) b pass0 I1 .nil rz q
end Gc

/-! a caught error that is looked at: handed to a def within the except suite, its classes, its field -/
namespace L2
open PySem PySem.Spec PyProof.Rows
/-- what a def promises that is handed the error of the suite: at a, of the class at C, with the dict d -/
structure FnE (P : Program) (w : World) (K : PySem.W.Frag) (mg : Str → Option Value) (base : Heap) (k : Nat) (f : Addr) (fd : FuncData) (ps : List Str) (sp : Addr → Addr → Addr → Sp) : Prop where
  many : ∀ a C d vs H Q E, sp a C d vs H Q E → vs.length = ps.length
  go : ∀ (A : Around) (below : List Env) (s : Shared) (H : Hp) (given : Args) (us : List Value) (vs : List V) (Q : VK) (E : XK) (q : Addr × Obj) (C d : Addr), L2H.RoomH k A → L2H.PinOk below H s q → Zc (.ref C) (some d) q.2 → (∃ ws, q.2.data = .fields ws) →
    Env0 P w K mg base A below s H → BindsTo s fd given (ps.zip us) → Vals vs us → sp q.1 C d vs H Q E → codeAny (model P w) A (.call (.ref f) given) (CR CX0 below P w H s Q E) s
/-- the context that such a def's body runs in -/
abbrev cxE (P : Program) (w : World) (K : PySem.W.Frag) (mg : Str → Option Value) (base : Heap) (N : List Str) (qual : Str) (sc : Scope) (f : Addr) (cd : Value) (A : Around) (below : List Env) (s : Shared) (H : Hp) (E : XK) (q : Addr × Obj) : Cx :=
  L2H.cxH CX0 P w K mg base N qual sc f cd A below s H E q
theorem Fun.okE {P : Program} {w : World} {K : PySem.W.Frag} {mg : Str → Option Value} {base : Heap} {x qual : Str} {st : Stmt} {f : Addr} {fd : FuncData} {N ps : List Str} {k : Nat} {sp : Addr → Addr → Addr → Sp} (F : Fun K x qual st f fd) (S : FnScope N ps (defScope st))
    (many : ∀ a C d vs H Q E, sp a C d vs H Q E → vs.length = ps.length)
    (body : ∀ (cdv : Value) (A : Around) (below : List Env) (s : Shared) (H : Hp) (vs : List V) (Q : VK) (E : XK) (q : Addr × Obj) (C d : Addr), L2H.RoomH k (A.deeper (envOfC qual (defScope st) s.heap.objs.size f cdv)) → Zc (.ref C) (some d) q.2 → (∃ ws, q.2.data = .fields ws) → sp q.1 C d vs H Q E →
      ∃ t, PSs (cxE P w K mg base N qual (defScope st) f cdv A below s H E q) (defBody st) t ∧ t { nx := fun _ H' => Q .non H', rt := Q } (start N vs) H) : FnE P w K mg base (k + 1) f fd ps sp := by
  obtain ⟨oc, od, kV, doc, pm, an, cdv, ct, osl, rfl, lk, code⟩ := F.ex
  refine ⟨many, fun A below s H given us vs Q E q C d room pin hz hf env bnd rel want => ?_⟩
  have size := many _ _ _ _ _ _ _ want
  have inK : K.In s.heap := env.mod.kin.keeps fun b o z => (env.bs b o z).1
  have free : s.heap.NoLimit := env.mod.nolimit.keeps fun b o z => (env.bs b o z).1
  refine codeAny_call_function room.depth (inK _ _ lk) rfl S.co S.gen rfl (PySem.W.codeRec_of inK code) (bnd _ _ _ _ ?_)
  refine wpAny_newFunctionEnv_cells S.kind (fun ⟨n, v⟩ there => (S.par n (List.of_mem_zip there).1).elim .inl fun z => .inr ⟨z, PySem.W.cellsFrom_some _ _ _ (.inl z)⟩) fun env2 same s1 call => ?_
  subst same
  refine ⟨free.keeps call.toInCall.keep, codeAny_func ?_⟩
  obtain ⟨t, holds, ask⟩ := body cdv A below s H vs Q E q C d (room.deeper _) hz hf want
  refine wpAny_mono (holds.run [] s1 (start N vs) H _ (L2H.inv_startH S pin env size rel call) ask) (fun how s2 end_ => ?_) fun e s2 end_ => end_
  cases how with
  | ret u =>
    obtain ⟨v, τ, G, J, rv, z⟩ := end_
    exact ⟨v, G, J.os, J.bare, J.base, J.hok, rv, z⟩
  | next =>
    obtain ⟨τ, G, J, z⟩ := end_
    exact ⟨V.non, G, J.os, J.bare, J.base, J.hok, rfl, z⟩
  | brk => exact end_.elim fun _ z => z.elim fun _ y => y.2.elim
  | cont => exact end_.elim fun _ z => z.elim fun _ y => y.2.elim
/-- such a def, called by its name -/
structure CalE (P : Program) (w : World) (K : PySem.W.Frag) (mg : Str → Option Value) (base : Heap) (k : Nat) (x : Str) (sp : Addr → Addr → Addr → Sp) : Prop where
  ex : ∃ (f : Addr) (fd : FuncData) (ps : List Str), FnE P w K mg base k f fd ps sp ∧ mg x = some (.ref f) ∧ PySem.W.keepIn K (.ref f) = true ∧ Binds K fd ps []
def tCallE (a : Addr) (cls : Value) (d : Option Addr) (sp : Addr → Addr → Addr → Sp) (t : TA) : TE := fun σ H Q => t σ H fun vs H1 => ∃ C dd : Addr, cls = .ref C ∧ d = some dd ∧ sp a C dd vs H1 Q E0
section
variable {X : Cx} {k j : Nat} {x : Str} {sp : Addr → Addr → Addr → Sp} {p pos : Pos} {e : Expr} {es : List Expr} {t : TA} {te : TE} {a : Addr} {oe : Obj} {cls : Value} {d : Option Addr} {pn : List (Addr × Obj)}
theorem pe_callE (c : CalE X.prog X.w X.K X.mg X.base k x sp) (hr : Room j X.A) (hk : k ≤ j) (hz : Zc cls d oe) (hf : ∃ vs, oe.data = .fields vs) (hg : Gl (X.suite a ((a, oe) :: pn)) x) (ha : PA (X.suite a ((a, oe) :: pn)) (e :: es) t)
    (hdb : (x == ("__debug__" : Str)) = false := by decide)
    (he : starEach (e :: es) X.env = (false, eval e X.env) :: starEach es X.env := by rfl)
    (hpl : (backTo pos (starEach es X.env)).any (·.1) = false := by rfl) :
    PE (X.suite a ((a, oe) :: pn)) (.Call (.Name x p) (e :: es) [] pos) (tCallE a cls d sp t) := by
  obtain ⟨f, fd, ps, F, hm, kp, b⟩ := c.ex
  refine ⟨fun pins s σ H Q I h => ?_⟩
  refine wpAny_Call_Name_kw (ld_glob I hg hm ?_ hdb)
  refine PySem.W.callWith_K (h₀ := X.base) I.ok.mod.kin kp (thn (ha.run pos pins s σ H _ I h) fun us s1 ⟨vs, H1, I1, r, C, dd, ec, ed, q⟩ => ⟨I1.kIn, ?_⟩) he hpl
  subst ec
  subst ed
  have size : us.length = ps.length := by rw [← r.length]; exact F.many _ _ _ _ _ _ _ q
  have bnd := b s1 us I1.kIn (by rw [List.append_nil]; exact size)
  rw [List.append_nil] at bnd
  obtain ⟨p1, p2, p3, p4, p5⟩ := I1.pin (a, oe) (List.mem_append_left _ List.mem_cons_self)
  have pin : L2H.PinOk (X.suite a ((a, oe) :: pn)).stack H1 s1 (a, oe) := ⟨p1, p2, fun z => (List.mem_cons.mp (I1.stkSub a z)).elim p3 p4, p5⟩
  refine wpAny_call (codeAny_mono (F.go _ _ s1 H1 ⟨us, []⟩ us vs Q E0 (a, oe) C dd ((⟨hr.dp, hr.un⟩ : L2H.RoomH j (X.suite a ((a, oe) :: pn)).A).mono hk) pin hz hf I1.env0 bnd r q) fun how s2 end_ => ?_)
  cases how with
  | error u => exact False.elim end_
  | ok fl =>
    cases fl with
    | ret u => exact I1.after end_
    | next => exact False.elim end_
    | brk => exact False.elim end_
    | cont => exact False.elim end_
/-- what an error class must say, so that its instances can be looked at -/
structure ErrI (K : PySem.W.Frag) (C : Addr) : Prop where
  cl : (PySem.W.clsIn K C).isSome = true
  ga : PySem.W.findIn K (.ref C) "__getattribute__" = some (some (.builtin "BaseException.__getattribute__"))
  gg : PySem.W.findIn K (.ref C) "__getattr__" = some none
  be : PySem.W.subIn K (.ref C) (.type "BaseException") = some true
  hd : PySem.W.hasDictIn K C = true
  cc : PySem.W.findIn K (.ref C) "__class__" = some (some (.builtin "object.__class__"))
  gt : PySem.W.specialIn K (.builtin "object.__class__") "__get__" = some (some (.builtin "getset_descriptor.__get__"))
  tk : PySem.W.takesIn K (.builtin "object.__class__") = some true
  ob : PySem.W.mroIn K C (.type "object") = some true
  no : PySem.W.findIn K (.ref C) "value" = some none
theorem pin_inst {pins : List (Addr × Obj)} {s : Shared} {σ : St} {H : Hp} {C dd : Addr} {fs : List (Str × V)} (I : Inv X pins σ H s) (hp : (a, oe) ∈ X.pn) (hz : Zc (.ref C) (some dd) oe) (hf : ∃ vs, oe.data = .fields vs) (ed : H dd = some (.xd fs)) :
    ∃ (od : Obj) (mA : Str → Option Value), PySem.W.InstAt s.heap a oe C (some od) ∧ (∀ f, PySem.W.lookIn f od = some (mA f)) ∧ ∀ f, RelO (fs.lookup f) (mA f) := by
  obtain ⟨p1, _⟩ := I.pin (a, oe) (List.mem_append_left _ hp)
  obtain ⟨vs, hd⟩ := hf
  obtain ⟨mA, hns, rel⟩ := (show ObjOk X.prog X.w H s.heap dd (.xd fs) from I.hok dd _ ed)
  obtain ⟨od, ho, hl⟩ := lookIn_ns hns
  exact ⟨od, mA, ⟨p1, hz.1, by unfold PySem.W.notCls; rw [hd] <;> rfl, by rw [hz.2]; exact ho⟩, hl, rel⟩
/-- isinstance(e, c), e the error -/
def rIsX (K : PySem.W.Frag) (a C dd : Addr) : List V → Hp → VK → Prop := fun xs H Q => ∃ (fs : List (Str × V)) (c : V) (cv : Value) (b : Bool), xs = [.ref a, c] ∧ H dd = some (.xd fs) ∧ ErrI K C ∧ ClsV c cv ∧ PySem.W.kitOne K (.ref C) cv = some b ∧ Q (.bl b) H
theorem call_isX {C dd : Addr} (hp : (a, oe) ∈ X.pn) (hz : Zc (.ref C) (some dd) oe) (hf : ∃ vs, oe.data = .fields vs) : CallR X (.builtin "isinstance") (rIsX X.K a C dd) := by
  intro pins s σ H xs us Q I r h
  obtain ⟨fs, c, cv, b, rfl, ed, T, k, e, q⟩ := h
  obtain ⟨u1, u2, rfl, r1, r2⟩ := vals2 r
  have e2 := k.eq r2
  subst e2
  obtain rfl : u1 = Value.ref a := r1
  obtain ⟨od, mA, J, _, _⟩ := pin_inst I hp hz hf ed
  exact PySem.W.kia_one (PySem.W.kitx_exc T.cl T.ga T.gg T.be T.cc T.gt T.tk T.ob) I.kIn J e (fun z => nomatch z) fun tk => ⟨.bl b, H, I.tok tk, rfl, q⟩
/-- isinstance(e, (c1, c2, ..)) -/
def rIsXT (K : PySem.W.Frag) (a C dd : Addr) : List V → Hp → VK → Prop := fun xs H Q => ∃ (fs : List (Str × V)) (tp : Addr) (cs : List V) (us : List Value) (b : Bool), xs = [.ref a, .ref tp] ∧ H dd = some (.xd fs) ∧ ErrI K C ∧ H tp = some (.tup cs) ∧ Paired ClsV cs us ∧
  PySem.W.kitAny K (.ref C) us = some b ∧ Q (.bl b) H
theorem call_isXT {C dd : Addr} (hp : (a, oe) ∈ X.pn) (hz : Zc (.ref C) (some dd) oe) (hf : ∃ vs, oe.data = .fields vs) : CallR X (.builtin "isinstance") (rIsXT X.K a C dd) := by
  intro pins s σ H xs us Q I r h
  obtain ⟨fs, tp, cs, ws, b, rfl, ed, T, hT, k, e, q⟩ := h
  obtain ⟨u1, u2, rfl, r1, r2⟩ := vals2 r
  obtain rfl : u1 = Value.ref a := r1
  obtain rfl : u2 = Value.ref tp := r2
  obtain ⟨od, mA, J, _, _⟩ := pin_inst I hp hz hf ed
  obtain ⟨_, its, rv, o, g1, g2, n, g3⟩ := (show ObjOk X.prog X.w H s.heap tp (.tup cs) from I.hok tp _ hT)
  have e3 := ClsV.all k rv
  subst e3
  obtain ⟨oc, o2, dt, sl⟩ := o
  simp only at g2 g3
  subst g2 g3
  exact PySem.W.kia_tup (PySem.W.kitx_exc T.cl T.ga T.gg T.be T.cc T.gt T.tk T.ob) I.kIn J g1 e (fun z => nomatch z) fun tk => ⟨.bl b, H, I.tok tk, rfl, q⟩
/-- e.value -/
def tXfA (K : PySem.W.Frag) (a : Addr) (cls : Value) (d : Option Addr) (te : TE) : TE := fun σ H Q => te σ H fun x H1 => x = .ref a ∧ ∃ (C dd : Addr) (v : V), cls = .ref C ∧ d = some dd ∧ ErrI K C ∧ H1 dd = some (.xd [("value", v)]) ∧ Q v H1
theorem pe_xfA (hz : Zc cls d oe) (hf : ∃ vs, oe.data = .fields vs) (he : PE (X.suite a ((a, oe) :: pn)) e te) (hb : attributeBase e "value" X.env (eval e X.env) = eval e X.env := by rfl) :
    PE (X.suite a ((a, oe) :: pn)) (.Attribute e "value" pos) (tXfA X.K a cls d te) := by
  refine ⟨fun pins s σ H Q I h => ?_⟩
  refine attr_of hb (thn (he.run pins s σ H _ I h) fun u s1 hh => ?_)
  obtain ⟨x, H1, I1, rx, ex, C, dd, v, ec, ed, T, hd, q⟩ := hh
  subst ex
  obtain rfl : u = Value.ref a := rx
  subst ec
  subst ed
  obtain ⟨od, mA, J, hl, rel⟩ := pin_inst I1 List.mem_cons_self hz hf hd
  obtain ⟨u, hu, ru⟩ := RelO.some_of (v := v) (o := mA "value") (by
    have z := rel "value"
    rw [show List.lookup ("value" : Str) [(("value" : Str), v)] = some v by simp [List.lookup]] at z
    exact z)
  exact HandSPX.exc_get I1.kIn J T.ga T.gg T.be (PySem.W.findObj_own T.hd T.no rfl (by rw [hl, hu])) (handed_of ru) ⟨v, H1, I1.tok _, ru, q⟩
end
end L2
namespace Gc
open PySem PySem.Spec PyProof.Rows L2
/-- a def that may let an error out, called by names alone -/
structure CalKX (P : Program) (w : World) (K : PySem.W.Frag) (mg : Str → Option Value) (base : Heap) (k : Nat) (x : Str) (ks : List Str) (sp : Sp) : Prop where
  ex : ∃ (f : Addr) (fd : FuncData) (ps : List Str), FnOk P w K mg base (L2.CX P w) k f fd ps sp ∧ mg x = some (.ref f) ∧ PySem.W.keepIn K (.ref f) = true ∧ KBinds K fd ps ks gRev gRev
def tCallKX (sp : Sp) (W : WX) (tk : TA) : TE := fun σ H Q => tk σ H fun zs H2 => sp (gRev [] zs) H2 Q (WE W σ)
theorem pe_calKX {X : Cx} {W : WX} {k j : Nat} {x : Str} {ks : List Str} {sp : Sp} {p pos : Pos} {kws : List Keyword} {t : TA} (tk : Takes X W) (c : CalKX X.prog X.w X.K X.mg X.base k x ks sp) (hr : Room j X.A) (hk : k ≤ j) (hg : Gl X x) (hkw : PK X kws t)
    (hdb : (x == ("__debug__" : Str)) = false := by decide) (hall : (backToKw pos (keywordEach kws X.env)).all (·.1.isSome) = true := by rfl) (hks : (backToKw pos (keywordEach kws X.env)).filterMap (·.1) = ks := by rfl)
    (hpn : ((backTo pos (starEach [] X.env)).any (·.1) || (backToKw pos (keywordEach kws X.env)).any (·.1.isNone)) = false := by rfl) :
    PE X (.Call (.Name x p) [] kws pos) (tCallKX sp W t) := by
  obtain ⟨f, fd, ps, F, hm, kp, b⟩ := c.ex
  refine ⟨fun pins s σ H Q I h => ?_⟩
  refine wpAny_Call_Name_kw (ld_glob I hg hm ?_ hdb)
  refine PySem.W.callWith_KW0 (h₀ := X.base) I.ok.mod.kin kp hall ?_ hpn
  refine thn (hkw.run pos pins s σ H _ I h) fun ws s1 ⟨zs, H1, I1, rz, q⟩ => ⟨I1.kIn, ?_⟩
  rw [hks]
  have r2 := b.rel (us := []) (vs := []) .nil rz
  have size : (gRev [] ws).length = ps.length := by rw [← r2.length]; exact F.len _ _ _ _ q
  refine wpAny_call (codeAny_mono (F.run X.A X.stack s1 H1 ⟨[], ks.zip ws⟩ (gRev [] ws) (gRev [] zs) Q (WE W σ) (hr.mono hk) I1.env0 (b.to s1 [] ws I1.kIn size) r2 q) fun how s2 end_ => ?_)
  cases how with
  | error u => exact passAt tk σ pins H1 s1 u s2 I1 end_
  | ok fl =>
    cases fl with
    | ret u => exact I1.after end_
    | next => exact False.elim end_
    | brk => exact False.elim end_
    | cont => exact False.elim end_
end Gc
namespace L2
open PySem PySem.Spec PyProof.Rows
theorem takesNone {X : Cx} : Takes X (fun _ _ _ _ => False) := fun _ _ x => by
  obtain ⟨_, _, _, _, _, _, _, _, _, _, _, _, _, _, _, _, z⟩ := x
  exact z.elim
end L2

/-! what is known of the error classes; R: which of them may be raised -/
namespace L2
open PySem PySem.Spec PyProof.Rows
/-- e.value in a def that was handed the caught error -/
theorem pe_xfE {X : Cx} {e : Expr} {te : TE} {a : Addr} {oe : Obj} {C dd : Addr} {pos : Pos} (hp : (a, oe) ∈ X.pn) (hz : Zc (.ref C) (some dd) oe) (hf : ∃ vs, oe.data = .fields vs) (he : PE X e te) (hb : attributeBase e "value" X.env (eval e X.env) = eval e X.env := by rfl) :
    PE X (.Attribute e "value" pos) (tXfA X.K a (.ref C) (some dd) te) := by
  refine ⟨fun pins s σ H Q I h => ?_⟩
  refine attr_of hb (thn (he.run pins s σ H _ I h) fun u s1 hh => ?_)
  obtain ⟨x, H1, I1, rx, ex, C', dd', v, ec, ed, T, hd, q⟩ := hh
  subst ex
  obtain rfl : u = Value.ref a := rx
  cases ec
  cases ed
  obtain ⟨od, mA, J, hl, rel⟩ := pin_inst I1 hp hz hf hd
  obtain ⟨u, hu, ru⟩ := RelO.some_of (v := v) (o := mA "value") (by
    have z := rel "value"
    rw [show List.lookup ("value" : Str) [(("value" : Str), v)] = some v by simp [List.lookup]] at z
    exact z)
  exact HandSPX.exc_get I1.kIn J T.ga T.gg T.be (PySem.W.findObj_own T.hd T.no rfl (by rw [hl, hu])) (handed_of ru) ⟨v, H1, I1.tok _, ru, q⟩
end L2
namespace Gc
open PySem L2
structure TxtE (K : PySem.W.Frag) (mg : Str → Option Value) (cs : Nat → Addr) (CE : Addr) (R : Nat → Prop) : Prop where
  g0 : mg "InvalidText" = some (.ref (cs 0))
  g1 : mg "InvalidCursor" = some (.ref (cs 1))
  g2 : mg "InvalidCommand" = some (.ref (cs 2))
  g3 : mg "Impossible" = some (.ref (cs 3))
  g4 : mg "InvalidNumber" = some (.ref (cs 4))
  g5 : mg "NothingToUndo" = some (.ref (cs 5))
  g6 : mg "Unreadable" = some (.ref (cs 6))
  gE : mg "CursorError" = some (.ref CE)
  lt : ∀ i, R i → i < 7
  kit : ∀ i j, R i → j < 7 → PySem.W.kitOne K (.ref (cs i)) (.ref (cs j)) = some (decide (i = j))
  kve : ∀ i, R i → PySem.W.kitOne K (.ref (cs i)) (.type "ValueError") = some true
  kce : ∀ i, R i → PySem.W.kitOne K (.ref (cs i)) (.ref CE) = some true
  ex : ∀ i, R i → PySem.W.exmOne K (.ref (cs i)) (.ref CE) = some true
  ei : ∀ i, R i → ErrI K (cs i)
  isinstance : mg "isinstance" = none
  ValueError : mg "ValueError" = none
def nmE : Nat → Str
  | 0 => "InvalidText"
  | 1 => "InvalidCursor"
  | 2 => "InvalidCommand"
  | 3 => "Impossible"
  | 4 => "InvalidNumber"
  | 5 => "NothingToUndo"
  | _ => "Unreadable"
end Gc

/-! a caught error that is kept behind its except suite: try: .. except X as e: kept = e -/
namespace Gc
open PySem PySem.Spec PyProof.Rows L2
def ExK (cls : Value) (d : Option Addr) (a : Addr) : HO := .ext fun h => ∃ (oe : Obj) (fl : Array Value), h.get? a = some oe ∧ Zc cls d oe ∧ oe.data = .fields fl
theorem exK_ok {P : Program} {w : World} {H : Hp} {h : Heap} {a : Addr} {cls : Value} {d : Option Addr} {oe : Obj} {fl : Array Value} (e : h.get? a = some oe) (z : Zc cls d oe) (f : oe.data = .fields fl) : ObjOk P w H h a (ExK cls d a) :=
  ⟨⟨oe, fl, e, z, f⟩, ⟨oe, e⟩, fun _ _ ⟨o, v, q, r⟩ k => ⟨o, v, k o q, r⟩⟩
theorem exK_at {P : Program} {w : World} {H : Hp} {h : Heap} {a : Addr} {cls : Value} {d : Option Addr} (ok : HOk P w H h) (e : H a = some (ExK cls d a)) : ∃ (oe : Obj) (fl : Array Value), h.get? a = some oe ∧ Zc cls d oe ∧ oe.data = .fields fl := by
  have z : ObjOk P w H h a (.ext fun h => ∃ (oe : Obj) (fl : Array Value), h.get? a = some oe ∧ Zc cls d oe ∧ oe.data = .fields fl) := ok a _ e
  exact z.1
section
variable {X : Cx} {pins : List (Addr × Obj)} {σ : L2.St} {H : Hp} {s : Shared} {a : Addr} {oe : Obj} {fl : Array Value} {cls : Value} {d : Option Addr}
/-- what was pinned is tracked from here on -/
theorem keepEx (I : Inv X ((a, oe) :: pins) σ H s) (z : Zc cls d oe) (f : oe.data = .fields fl) (n0 : X.s_0.heap.get? a = none) (np : ∀ p ∈ X.pn ++ pins, p.1 ≠ a) : Inv X pins σ (upd H a (ExK cls d a)) s := by
  obtain ⟨p1, p2, p3, p4, p5⟩ := I.pin (a, oe) (List.mem_append_right _ List.mem_cons_self)
  have off : ∀ {b : Addr} {o : Obj}, X.s_0.heap.get? b = some o → b ≠ a := fun {b o} q e => by
    rw [e, n0] at q
    cases q
  refine ⟨I.ok, I.os, I.bare, ⟨I.base.keep, I.base.slot, fun b o q n hx => ?_, I.base.there, fun b xs q => ?_, fun b o u q => ?_, fun b ps q => ?_⟩, I.loc, I.cell, ?_, fun x c q => ?_, fun p hp => ?_, fun b u q => ?_, I.len⟩
  · rw [upd_ne (off q)]
    exact I.base.free b o q n hx
  · have t := I.base.tups b xs q
    rw [upd_ne (ne_of_none t p2)]
    exact t
  · have t := I.base.frzs b o u q
    rw [upd_ne (ne_of_none t p2)]
    exact t
  · obtain ⟨more, t⟩ := I.base.tbls b ps q
    exact ⟨more, by rw [upd_ne (ne_of_none t p2)]; exact t⟩
  · rw [upd_ne (Ne.symm p3)]
    exact I.free
  · have ca : c ≠ a := fun e => by
      obtain ⟨v, o, ho, hd⟩ := I.cell x c q
      rw [e, p1] at ho
      cases ho
      exact p5 v hd
    rw [upd_ne ca]
    exact I.freeC x c q
  · obtain ⟨q1, q2, q3⟩ := I.pin p ((List.mem_append.mp hp).elim (fun y => List.mem_append_left _ y) fun y => List.mem_append_right _ (List.mem_cons_of_mem _ y))
    exact ⟨q1, by rw [upd_ne (np p hp)]; exact q2, q3⟩
  · by_cases hb : b = a
    · subst hb
      rw [upd_same] at q
      cases q
      exact exK_ok p1 z f
    · rw [upd_ne hb] at q
      refine (I.hok b u q).stay (fun c v _ y => y) (fun c y => ?_) fun c xs y => ?_
      · rw [upd_ne (ne_of_none y p2)]
        exact y
      · rw [upd_ne (ne_of_none y p2)]
        exact y
end
/-- what is wanted where the error is kept -/
def wKeep (K : PySem.W.Frag) (c : Value) (i : Nat) (ts : Addr → Value → Option Addr → TS) (Wo : WX) (D : Ends) : WX := fun cls d σ H =>
  ∃ b, PySem.W.exmOne K cls c = some b ∧ (b = true → ∀ a, H a = none → ts a cls d { nx := fun τ G => D.nx (τ.set i none) (upd G a (ExK cls d a)), rt := D.rt, bk := fun τ G => D.bk (τ.set i none) G, ct := fun τ G => D.ct (τ.set i none) G } (σ.set i (some (.ref a))) H) ∧
    (b = false → Wo cls d σ H)
section
variable {X : Cx} {x n : Str} {c : Value} {i : Nat} {body suite : List Stmt} {b0 : Stmt} {np pos pos' : Pos} {tb : WX → TS} {ts : Addr → Value → Option Addr → TS} {Wo : WX}
theorem ps_try_keep (hx : X.ex = []) (hs : X.stack = X.env :: X.outer) (hf : X.env.frame = some X.env.locals) (hN : X.N.Nodup) (hi : X.N[i]? = some n) (hln : X.env.kindOf n = some .local) (hc : Names X x c) (tk : Takes X Wo)
    (hb : ∀ (W : WX) (pn : List (Addr × Obj)) (xe : Value → Shared → Prop), Takes (X.tr pn xe) W → PassesOwn (model X.prog X.w) X.A X.env xe → PSs (X.tr pn xe) body (tb W))
    (hsu : ∀ (a : Addr) (oe : Obj) (cls : Value) (d : Option Addr) (pn : List (Addr × Obj)), Zc cls d oe → (∃ fl, oe.data = .fields fl) → PSs (X.suite a ((a, oe) :: pn)) (b0 :: suite) (ts a cls d)) :
    PS X (.Try body [.ExceptHandler (some (.Name x np)) (some n) (b0 :: suite) pos'] [] [] pos) (fun D σ H => tb (wKeep X.K c i ts Wo D) D σ H) := by
  refine ⟨fun pins s σ H D I want => ?_⟩
  have good := I.ok
  have fr : X.A.frames = some (X.env :: X.outer) := by rw [good.frames, hs]
  have nloc : Loc X.env.scope n := .inl hln
  refine wpAny_Try_except ?_
  refine wpAny_mono ((hb (wKeep X.K c i ts Wo D) (X.pn ++ pins) (fun er t => wpAny (model X.prog X.w) X.A (noteFrame er X.env) (fun _ t2 => wpAny (model X.prog X.w) X.A (setFlight er none) (fun _ t3 => wpAny (model X.prog X.w) X.A (handleBy er X.env [.ExceptHandler (some (.Name x np)) (some n) (b0 :: suite) pos']) (SP X pins D) X.xe t3) X.xe t2) X.xe t)
    (fun er t air => ?_) PassesOwn.looking).run [] s σ H D (I.toTry _) want) (fun how t end_ => ?_) (fun _ _ z => z)
  · obtain ⟨a, B, sI, pins2, τ, G, cls, d, rfl, K0, nb, up, sky, na, os, ag, b, told, yes, no⟩ := air
    have K1 : Inv X pins τ G sI := K0.ofTry good
    rw [show (X.tr (X.pn ++ pins) _).stack = X.env :: X.outer from hs] at sky
    show wpAny (model X.prog X.w) X.A (noteFrame (.ref a) X.env) _ _ _
    refine Sky.land Zc.steady fr hf sky fun h3 fl3 up3 => ?_
    have K3 : Inv X pins τ G { t with heap := h3 } := K1.landed nb fl3.1 (up.trans up3) os ag
    obtain ⟨o3, v3, e3, z3, d3⟩ := fl3.there
    have out : a ∉ frs (X.env :: X.outer) := fun hm => by
      obtain ⟨_, o', q, nf⟩ := fl3.2.2.1.mem hm
      rw [e3] at q
      cases q
      exact nf _ d3
    have offL : a ≠ X.env.locals := fun q => out (List.mem_filterMap.mpr ⟨X.env, List.mem_cons_self, by rw [hf, q]⟩)
    have offF : a ∉ X.fs := fun hm => by
      obtain ⟨e, he, q⟩ := List.mem_filterMap.mp hm
      exact out (List.mem_filterMap.mpr ⟨e, List.mem_cons_of_mem _ he, q⟩)
    -- the error is newer than all that stood
    have noB : B.get? a = none := fl3.2.1
    have n0 : X.s_0.heap.get? a = none := by
      cases q : X.s_0.heap.get? a with
      | none => rfl
      | some o =>
        obtain ⟨o', q'⟩ := K1.base.there a o q (by rw [hx]; exact fun y => nomatch y)
        have y := nb a o' q' (by rw [show (X.tr (X.pn ++ pins) _).stack = X.env :: X.outer from hs]; exact out)
        rw [noB] at y
        cases y
    have npin : ∀ p ∈ X.pn ++ pins, p.1 ≠ a := fun p hp q => by
      obtain ⟨q1, _, q3, q4, _⟩ := K1.pin p hp
      have y := nb p.1 p.2 q1 fun hm => (List.mem_cons.mp (K1.stkSub p.1 hm)).elim q3 q4
      rw [q, noB] at y
      cases y
    have S3 := K3.suite e3 d3 na offL offF
    refine wpAny_handleBy_cons (codeAny_handlers_test ?_) (by intro q; cases q)
    have LT : PySem.W.Looks (model X.prog X.w) h3 (typeOf (.ref a)) cls := fun A Q E s k q => wpAny_typeOf_ref (k _ _ e3) (by rw [z3.1]; exact q)
    have LM := PySem.W.exm_one (M := model X.prog X.w) (K3.kIn) LT told
    have test : ∀ {Q : Value → Shared → Prop} {E : Value → Shared → Prop}, Q c { t with heap := h3 } → wpAny (model X.prog X.w) (X.A.mark (some (.ref a))) (eval (.Name x np) X.env) Q E { t with heap := h3 } := fun {Q E} q => by
      obtain ⟨hg, hdb, hm | ⟨hm, hv, hnn⟩⟩ := hc
      · exact ld_glob (X := X.suite a ((a, o3) :: (X.pn ++ pins))) S3 hg hm q hdb
      · exact ld_blt (X := X.suite a ((a, o3) :: (X.pn ++ pins))) S3 hg hm hv q hnn hdb
    refine test (LM.here ?_)
    cases b with
    | true =>
      refine codeAny_handlers_suite_as ?_
      refine HandSPX.lands_againZ fl3 fun h4 fl4 up4 => ?_
      have K4 : Inv X pins τ G { t with heap := h4 } := K1.landed nb fl4.1 ((up.trans up3).trans up4) os ag
      obtain ⟨o4, v4, e4, z4, d4⟩ := fl4.there
      have S4 := K4.suite e4 d4 na offL offF
      refine store_ok (X := X.suite a ((a, o4) :: (X.pn ++ pins))) (v := .ref a) S4 hN hi nloc rfl (fun s5 S5 => ?_) (.inr hln)
      refine wpAny_mono ((hsu a o4 cls d (X.pn ++ pins) z4 ⟨_, d4⟩).run [] s5 _ G _ S5 (yes rfl a na)) (fun how s6 z6 => ?_) (fun _ _ z => False.elim z)
      have pass : ∀ {τ6 : L2.St} {G6 : Hp} {Q : Shared → Prop}, Inv (X.suite a ((a, o4) :: (X.pn ++ pins))) [] τ6 G6 s6 → (∀ s7, Inv X pins (τ6.set i none) G6 s7 → Q s7) →
          wpAny (model X.prog X.w) X.A (do bindName X.env n .none; unbindBehindTheSuite X.env n pos') (fun _ s7 => Q s7) X.xe s6 := fun {τ6 G6 Q} S6 hq => gone_ok (S6.unsuite good) hN hi hln hq
      cases how with
      | next =>
        obtain ⟨τ6, G6, S6, q6⟩ := z6
        have K6 : Inv X ((a, o4) :: pins) τ6 G6 s6 := ⟨good, S6.os, S6.bare, S6.base, S6.loc, S6.cell, S6.free, S6.freeC, fun p hp => S6.pin p (List.mem_append_left _ (by
          rcases List.mem_append.mp hp with y | y
          · exact List.mem_cons_of_mem _ (List.mem_append_left _ y)
          · rcases List.mem_cons.mp y with y | y
            · rw [y]
              exact List.mem_cons_self
            · exact List.mem_cons_of_mem _ (List.mem_append_right _ y))), S6.hok, S6.len⟩
        exact gone_ok K6 hN hi hln fun s7 K7 => ⟨_, _, keepEx K7 z4 d4 n0 npin, q6⟩
      | brk =>
        obtain ⟨τ6, G6, S6, q6⟩ := z6
        exact pass S6 fun s7 K7 => ⟨_, _, K7, q6⟩
      | cont =>
        obtain ⟨τ6, G6, S6, q6⟩ := z6
        exact pass S6 fun s7 K7 => ⟨_, _, K7, q6⟩
      | ret u =>
        obtain ⟨v6, τ6, G6, S6, r6, q6⟩ := z6
        exact pass S6 fun s7 K7 => ⟨_, _, _, K7, r6, q6⟩
    | false =>
      show wpAny _ X.A (handleBy (.ref a) X.env []) _ _ _
      refine wpAny_handleBy_nil ?_
      obtain ⟨k1, k2, k3, oe, vs, T0, oT, tsl, he, hz, hd, h1, hr⟩ := id fl3
      unfold PySem.passOn
      refine wpAny_bind (wpAny_field he hd h1 ?_)
      rw [if_neg (show ¬ ((Value.ref T0 == Value.none) = true) from by simp)]
      have last : wpAny (model X.prog X.w) X.A (setFlight (.ref a) X.env.frame) (fun _ s4 => wpAny (model X.prog X.w) X.A (throw (.ref a) : Sem Flow) (SP X pins D) X.xe s4) X.xe { t with heap := h3 } := by
        rw [hf]
        refine HandSPX.setFlight_upZ fl3 fun h4 held up4 => wpAny_throw (tk _ _ ?_)
        exact ⟨a, B, sI, pins, τ, G, cls, d, rfl, K1, nb, (up.trans up3).trans up4, .inr (.inr (by rw [hs]; exact held)), na, os, ag, no rfl⟩
      first
        | exact wpAny_bind (wpAny_pure (wpAny_bind last))
        | exact wpAny_bind last
  · cases how with
    | next =>
      obtain ⟨τ, G, K0, q⟩ := end_
      exact wpAny_execs_nil ⟨τ, G, K0.ofTry good, q⟩
    | brk =>
      obtain ⟨τ, G, K0, q⟩ := end_
      exact ⟨τ, G, K0.ofTry good, q⟩
    | cont =>
      obtain ⟨τ, G, K0, q⟩ := end_
      exact ⟨τ, G, K0.ofTry good, q⟩
    | ret u =>
      obtain ⟨v, τ, G, K0, r, q⟩ := end_
      exact ⟨v, τ, G, K0.ofTry good, r, q⟩
end
/-! ### the kept error, looked at -/
section
variable {X : Cx} {e : Expr} {te : TE} {pos : Pos}
/-- the error at a, of the class at C, its value v -/
def Held (H : Hp) (a C : Addr) (v : V) : Prop := ∃ dd : Addr, H a = some (ExK (.ref C) (some dd) a) ∧ H dd = some (.xd [("value", v)])
theorem Held.same {H H' : Hp} {a C : Addr} {v : V} (e : Same H H') (h : Held H a C v) : Held H' a C v := by
  obtain ⟨dd, h1, h2⟩ := h
  exact ⟨dd, e _ _ h1, e _ _ h2⟩
theorem held_inst {pins : List (Addr × Obj)} {s : Shared} {σ : L2.St} {H : Hp} {a C : Addr} {v : V} (I : Inv X pins σ H s) (h : Held H a C v) :
    ∃ (oe od : Obj) (mA : Str → Option Value), PySem.W.InstAt s.heap a oe C (some od) ∧ (∀ f, PySem.W.lookIn f od = some (mA f)) ∧ ∀ f, RelO (List.lookup f [(("value" : Str), v)]) (mA f) := by
  obtain ⟨dd, h1, h2⟩ := h
  obtain ⟨oe, fl, p1, hz, hd⟩ := exK_at I.hok h1
  obtain ⟨mA, hns, rel⟩ := (show ObjOk X.prog X.w H s.heap dd (.xd [("value", v)]) from I.hok dd _ h2)
  obtain ⟨od, ho, hl⟩ := lookIn_ns hns
  exact ⟨oe, od, mA, ⟨p1, hz.1, by unfold PySem.W.notCls; rw [hd] <;> rfl, by rw [hz.2]; exact ho⟩, hl, rel⟩
/-- isinstance(kept, c) -/
def rIsK (K : PySem.W.Frag) : List V → Hp → VK → Prop := fun xs H Q => ∃ (a C : Addr) (v c : V) (cv : Value) (b : Bool), xs = [.ref a, c] ∧ Held H a C v ∧ ErrI K C ∧ ClsV c cv ∧ PySem.W.kitOne K (.ref C) cv = some b ∧ Q (.bl b) H
theorem call_isK : CallR X (.builtin "isinstance") (rIsK X.K) := by
  intro pins s σ H xs us Q I r h
  obtain ⟨a, C, v, c, cv, b, rfl, hh, T, k, e, q⟩ := h
  obtain ⟨u1, u2, rfl, r1, r2⟩ := vals2 r
  have e2 := k.eq r2
  subst e2
  obtain rfl : u1 = Value.ref a := r1
  obtain ⟨oe, od, mA, J, _, _⟩ := held_inst I hh
  exact PySem.W.kia_one (PySem.W.kitx_exc T.cl T.ga T.gg T.be T.cc T.gt T.tk T.ob) I.kIn J e (fun z => nomatch z) fun tk => ⟨.bl b, H, I.tok tk, rfl, q⟩
/-- isinstance(kept, (c1, c2, ..)) -/
def rIsKT (K : PySem.W.Frag) : List V → Hp → VK → Prop := fun xs H Q => ∃ (a C : Addr) (v : V) (tp : Addr) (cs : List V) (us : List Value) (b : Bool), xs = [.ref a, .ref tp] ∧ Held H a C v ∧ ErrI K C ∧ H tp = some (.tup cs) ∧ Paired ClsV cs us ∧
  PySem.W.kitAny K (.ref C) us = some b ∧ Q (.bl b) H
theorem call_isKT : CallR X (.builtin "isinstance") (rIsKT X.K) := by
  intro pins s σ H xs us Q I r h
  obtain ⟨a, C, v, tp, cs, ws, b, rfl, hh, T, hT, k, e, q⟩ := h
  obtain ⟨u1, u2, rfl, r1, r2⟩ := vals2 r
  obtain rfl : u1 = Value.ref a := r1
  obtain rfl : u2 = Value.ref tp := r2
  obtain ⟨oe, od, mA, J, _, _⟩ := held_inst I hh
  obtain ⟨_, its, rv, o, g1, g2, n, g3⟩ := (show ObjOk X.prog X.w H s.heap tp (.tup cs) from I.hok tp _ hT)
  have e3 := ClsV.all k rv
  subst e3
  obtain ⟨oc, o2, dt, sl⟩ := o
  simp only at g2 g3
  subst g2 g3
  exact PySem.W.kia_tup (PySem.W.kitx_exc T.cl T.ga T.gg T.be T.cc T.gt T.tk T.ob) I.kIn J g1 e (fun z => nomatch z) fun tk => ⟨.bl b, H, I.tok tk, rfl, q⟩
/-- kept.value -/
def tXk (K : PySem.W.Frag) (te : TE) : TE := fun σ H Q => te σ H fun x H1 => ∃ (a C : Addr) (v : V), x = .ref a ∧ ErrI K C ∧ Held H1 a C v ∧ Q v H1
theorem pe_xk (he : PE X e te) (hb : attributeBase e "value" X.env (eval e X.env) = eval e X.env := by rfl) : PE X (.Attribute e "value" pos) (tXk X.K te) := by
  refine ⟨fun pins s σ H Q I h => ?_⟩
  refine attr_of hb (thn (he.run pins s σ H _ I h) fun u s1 hh => ?_)
  obtain ⟨x, H1, I1, rx, a, C, v, rfl, T, hd, q⟩ := hh
  obtain rfl : u = Value.ref a := rx
  obtain ⟨oe, od, mA, J, hl, rel⟩ := held_inst I1 hd
  obtain ⟨u, hu, ru⟩ := RelO.some_of (v := v) (o := mA "value") (by
    have z := rel "value"
    rw [show List.lookup ("value" : Str) [(("value" : Str), v)] = some v by simp [List.lookup]] at z
    exact z)
  exact HandSPX.exc_get I1.kIn J T.ga T.gg T.be (PySem.W.findObj_own T.hd T.no rfl (by rw [hl, hu])) (handed_of ru) ⟨v, H1, I1.tok _, ru, q⟩
end
end Gc

/-! own classes: instances made, methods, properties; all of them may raise -/
namespace L2
open PySem PySem.Spec PyProof.Rows
/-- a method of the class at C -/
structure Mth (P : Program) (w : World) (K : PySem.W.Frag) (mg : Str → Option Value) (base : Heap) (CX : CXT) (k : Nat) (C : Addr) (m : Str) (sp : Sp) : Prop where
  cls : Cls K C
  ex : ∃ (f : Addr) (fd : FuncData) (ps : List Str), Meth K C m f ∧ FnOk P w K mg base CX k f fd ps sp ∧ Binds K fd ps []
/-- .. called by names alone -/
structure MthK (P : Program) (w : World) (K : PySem.W.Frag) (mg : Str → Option Value) (base : Heap) (CX : CXT) (k : Nat) (C : Addr) (m : Str) (ks : List Str) (sp : Sp) : Prop where
  cls : Cls K C
  ex : ∃ (f : Addr) (fd : FuncData) (ps : List Str), Meth K C m f ∧ FnOk P w K mg base CX k f fd ps sp ∧ KBn K fd ps 1 ks Gc.gRev Gc.gRev
/-- the class x, with its __init__ -/
structure Mak (P : Program) (w : World) (K : PySem.W.Frag) (mg : Str → Option Value) (base : Heap) (CX : CXT) (k : Nat) (x : Str) (C : Addr) (sp : Sp) : Prop where
  g : mg x = some (.ref C)
  ex : ∃ (f : Addr) (fd : FuncData) (ps : List Str), Mk K C f ∧ FnOk P w K mg base CX k f fd ps sp ∧ Binds K fd ps []
structure MakK (P : Program) (w : World) (K : PySem.W.Frag) (mg : Str → Option Value) (base : Heap) (CX : CXT) (k : Nat) (x : Str) (C : Addr) (ks : List Str) (sp : Sp) : Prop where
  g : mg x = some (.ref C)
  ex : ∃ (f : Addr) (fd : FuncData) (ps : List Str), Mk K C f ∧ FnOk P w K mg base CX k f fd ps sp ∧ KBn K fd ps 1 ks Gc.gRev Gc.gRev
/-- a property -/
structure Prp (P : Program) (w : World) (K : PySem.W.Frag) (mg : Str → Option Value) (base : Heap) (k : Nat) (C : Addr) (m : Str) (sp : Sp) : Prop where
  cls : Cls K C
  ex : ∃ (p f : Addr) (fd : FuncData) (ps : List Str), PropOf K C m p f ∧ FnOk P w K mg base CX0 k f fd ps sp ∧ Binds K fd ps []
theorem bindsN {K : PySem.W.Frag} {x qual : Str} {st : Stmt} {f : Addr} {fd : FuncData} {ps ks : List Str} {n : Nat} (F : Fun K x qual st f fd)
    (h : ∀ (kV doc pm : Value) (an : Option Addr) (cdv ct : Value) (us ws : List Value), us.length = n → ws.length = ks.length → bindArgs (PySem.W.fnOf x qual (defArgs st) (defBody st) (defScope st) .none kV doc pm an cdv ct) ⟨us, ks.zip ws⟩ = pure (ps.zip (Gc.gRev us ws))) : KBn K fd ps n ks Gc.gRev Gc.gRev := by
  obtain ⟨oc, od, kV, doc, pm, an, cdv, ct, osl, rfl, lk, hcd⟩ := F.ex
  exact ⟨fun s us ws _ h1 h2 => .of_eq (h kV doc pm an cdv ct us ws h1 h2), fun a b => a.append (Gc.vals_rev b)⟩
section
variable {X : Cx} {k j : Nat} {f C : Addr} {fd : FuncData} {ps ks : List Str} {sp : Sp} {W : WX} {x m : Str} {p pos apos : Pos} {e o : Expr} {es : List Expr} {kws : List Keyword} {ta : TE} {t tk : TA} {pl : Sem Bool}
def tMX (C : Addr) (m : Str) (sp : Sp) (W : WX) (ta : TE) (t : TA) : TE := fun σ H Q => ta σ H fun x H1 => ∃ a dx fs, x = .ref a ∧ H1 a = some (.ins C dx fs) ∧ fs.lookup m = none ∧ t σ H1 fun vs H2 => sp (x :: vs) H2 Q (WE W σ)
def tMKX (C : Addr) (m : Str) (n : Nat) (sp : Sp) (W : WX) (ta : TE) (t : TA) : TE := fun σ H Q => ta σ H fun x H1 => ∃ a dx fs, x = .ref a ∧ H1 a = some (.ins C dx fs) ∧ fs.lookup m = none ∧ t σ H1 fun zs H2 => zs.length = n ∧ sp (Gc.gRev [x] zs) H2 Q (WE W σ)
/-- o.m(e, ..), m may raise -/
theorem pe_mthX (tk : Takes X W) (c : Mth X.prog X.w X.K X.mg X.base (L2.CX X.prog X.w) k C m sp) (hr : Room j X.A) (hk : k ≤ j) (he : PE X o ta) (ha : PA X (e :: es) t)
    (hst : starEach (e :: es) X.env = (false, eval e X.env) :: starEach es X.env := by rfl) (hpl : (backTo pos (starEach es X.env)).any (·.1) = false := by rfl)
    (ht : eval (.Call (.Attribute o m apos) (e :: es) [] pos) X.env = (do
      let ov ← eval o X.env
      standAt apos.atName
      let (f, first) ← holding [ov] (getMethod ov m pl)
      callWith pos f first (backTo pos (starEach (e :: es) X.env)) (backToKw pos (keywordEach [] X.env))) := by rfl) :
    PE X (.Call (.Attribute o m apos) (e :: es) [] pos) (tMX C m sp W ta t) := by
  obtain ⟨cl, f, fd, ps, hm, F, hb⟩ := c
  refine ⟨fun pins s σ H Q I h => ?_⟩
  refine PySem.W.methodCall_KW (pl := pl) (thn (he.run pins s σ H _ I h) fun u s1 ⟨x, H1, I1, rx, a, dx, fs, ex, ea, l, q⟩ => ?_) ht
  subst ex
  obtain rfl : u = Value.ref a := rx
  refine getmeth_ok I1 ea cl hm l ?_
  refine PySem.W.callWith_K (first := [.ref a]) (h₀ := X.base) I.ok.mod.kin hm.kp (thn (ha.run pos pins s1 σ H1 _ I1 q) fun us s2 ⟨vs, H2, I2, r, q2⟩ => ⟨I2.kIn, ?_⟩) hst hpl
  exact run_fnS (us := .ref a :: us) (vs := .ref a :: vs) F (hr.mono hk) hb (passAt tk σ) I2 (.cons rfl r) q2
/-- o.m(), m may raise -/
theorem pe_mthX0 (tk : Takes X W) (c : Mth X.prog X.w X.K X.mg X.base (L2.CX X.prog X.w) k C m sp) (hr : Room j X.A) (hk : k ≤ j) (he : PE X o ta)
    (ht : eval (.Call (.Attribute o m apos) [] [] pos) X.env = (do
      let ov ← eval o X.env
      standAt apos.atName
      let (f, first) ← holding [ov] (getMethod ov m pl)
      callWith pos f first (backTo pos (starEach [] X.env)) (backToKw pos (keywordEach [] X.env))) := by rfl) :
    PE X (.Call (.Attribute o m apos) [] [] pos) (tMX C m sp W ta tNil) := by
  obtain ⟨cl, f, fd, ps, hm, F, hb⟩ := c
  refine ⟨fun pins s σ H Q I h => ?_⟩
  refine PySem.W.methodCall_KW (pl := pl) (thn (he.run pins s σ H _ I h) fun u s1 ⟨x, H1, I1, rx, a, dx, fs, ex, ea, l, q⟩ => ?_) ht
  subst ex
  obtain rfl : u = Value.ref a := rx
  refine getmeth_ok I1 ea cl hm l ?_
  exact PySem.W.callWith_K0 (first := [.ref a]) I1.kIn hm.kp (run_fnS (us := [.ref a]) (vs := [.ref a]) F (hr.mono hk) hb (passAt tk σ) I1 (.cons rfl .nil) q)
/-- o.m(k = v, ..), m may raise -/
theorem pe_mthKX (tk : Takes X W) (c : MthK X.prog X.w X.K X.mg X.base (L2.CX X.prog X.w) k C m ks sp) (hr : Room j X.A) (hk : k ≤ j) (he : PE X o ta) (hkw : PK X kws t)
    (hall : (backToKw pos (keywordEach kws X.env)).all (·.1.isSome) = true := by rfl) (hks : (backToKw pos (keywordEach kws X.env)).filterMap (·.1) = ks := by rfl)
    (hpn : ((backTo pos (starEach [] X.env)).any (·.1) || (backToKw pos (keywordEach kws X.env)).any (·.1.isNone)) = false := by rfl)
    (ht : eval (.Call (.Attribute o m apos) [] kws pos) X.env = (do
      let ov ← eval o X.env
      standAt apos.atName
      let (f, first) ← holding [ov] (getMethod ov m pl)
      callWith pos f first (backTo pos (starEach [] X.env)) (backToKw pos (keywordEach kws X.env))) := by rfl) :
    PE X (.Call (.Attribute o m apos) [] kws pos) (tMKX C m ks.length sp W ta t) := by
  obtain ⟨cl, f, fd, ps, hm, F, b⟩ := c
  refine ⟨fun pins s σ H Q I h => ?_⟩
  refine PySem.W.methodCall_KW (pl := pl) (thn (he.run pins s σ H _ I h) fun u s1 ⟨x, H1, I1, rx, a, dx, fs, ex, ea, l, q⟩ => ?_) ht
  subst ex
  obtain rfl : u = Value.ref a := rx
  refine getmeth_ok I1 ea cl hm l ?_
  refine PySem.W.callWith_KW0 (first := [.ref a]) (h₀ := X.base) I.ok.mod.kin hm.kp hall ?_ hpn
  refine thn (hkw.run pos pins s1 σ H1 _ I1 q) fun ws s2 ⟨zs, H2, I2, rz, lz, q2⟩ => ⟨I2.kIn, ?_⟩
  rw [hks]
  have r1 : Vals [V.ref a] [Value.ref a] := .cons rfl .nil
  have r2 := b.rel r1 rz
  refine wpAny_call (codeAny_mono (F.run X.A X.stack s2 H2 ⟨[.ref a], ks.zip ws⟩ (Gc.gRev [.ref a] ws) (Gc.gRev [.ref a] zs) Q (WE W σ) (hr.mono hk) I2.env0 (b.to s2 [.ref a] ws I2.kIn rfl (rz.length.symm.trans lz)) r2 q2) fun how s3 end_ => ?_)
  cases how with
  | error u => exact passAt tk σ pins H2 s2 u s3 I2 end_
  | ok fl =>
    cases fl with
    | ret u => exact I2.after end_
    | next => exact False.elim end_
    | brk => exact False.elim end_
    | cont => exact False.elim end_
def tMakX (C : Addr) (sp : Sp) (W : WX) (t : TA) : TE := fun σ H Q => t σ H fun vs H1 => ∀ x dx, H1 x = none → H1 dx = none → dx ≠ x →
  sp (.ref x :: vs) (upd (upd H1 dx (.own x)) x (.ins C dx [])) (fun v H2 => v = .non ∧ Q (.ref x) H2) (WE W σ)
def tMakKX (C : Addr) (m : Nat) (sp : Sp) (W : WX) (t : TA) : TE := fun σ H Q => t σ H fun zs H1 => zs.length = m ∧ ∀ x dx, H1 x = none → H1 dx = none → dx ≠ x →
  sp (Gc.gRev [.ref x] zs) (upd (upd H1 dx (.own x)) x (.ins C dx [])) (fun v H2 => v = .non ∧ Q (.ref x) H2) (WE W σ)
theorem madePass {X : Cx} {pins : List (Addr × Obj)} {σ : St} {H : Hp} {s : Shared} (tk : Takes X W) (I : Inv X pins σ H s) {u : Value} {s2 : Shared} (c : L2.CX X.prog X.w X.stack H s (WE W σ) u s2) : X.xe u s2 := passAt tk σ pins H s u s2 I c
/-- C(e, ..), __init__ may raise -/
theorem pe_makX (tk : Takes X W) (c : Mak X.prog X.w X.K X.mg X.base (L2.CX X.prog X.w) k x C sp) (hr : Room j X.A) (hk : k + 1 ≤ j) (hg : Gl X x) (ha : PA X (e :: es) t)
    (hdb : (x == ("__debug__" : Str)) = false := by decide) (he : starEach (e :: es) X.env = (false, eval e X.env) :: starEach es X.env := by rfl) (hpl : (backTo pos (starEach es X.env)).any (·.1) = false := by rfl) :
    PE X (.Call (.Name x p) (e :: es) [] pos) (tMakX C sp W t) := by
  obtain ⟨hm, f, fd, ps, M, F, hb⟩ := c
  refine ⟨fun pins s0 σ H0 Q I0 h0 => ?_⟩
  refine wpAny_Call_Name_kw (ld_glob I0 hg hm ?_ hdb)
  refine PySem.W.callWith_K (h₀ := X.base) I0.ok.mod.kin M.kp (thn (ha.run pos pins s0 σ H0 _ I0 h0) fun us s ⟨vs, H, I, r, h⟩ => ⟨I.kIn, ?_⟩) he hpl
  have hq := h (s.heap.objs.size + 1) s.heap.objs.size (I.hok.fresh (Nat.le_succ _)) (I.hok.fresh (Nat.le_refl _)) (Nat.ne_of_lt (Nat.lt_succ_self _))
  have I2 := Inv.made (C := C) I
  have r2 : Vals (V.ref (s.heap.objs.size + 1) :: vs) (Value.ref (s.heap.objs.size + 1) :: us) := .cons rfl r
  have hl : (Value.ref (s.heap.objs.size + 1) :: us ++ []).length = ps.length := by
    rw [List.append_nil, ← r2.length]
    exact F.len _ _ _ _ hq
  have b := hb _ (Value.ref (s.heap.objs.size + 1) :: us) I2.kIn hl
  rw [List.append_nil] at b
  refine wpAny_call (make_map (f := f) I.kIn M.makes M.init (beq_iff_eq.mp M.fn) (codeAny_mono (F.run _ X.stack _ _ ⟨Value.ref (s.heap.objs.size + 1) :: us, []⟩ (Value.ref (s.heap.objs.size + 1) :: us) _ _ (WE W σ) ((hr.mono hk).make C us [])
    (I2.env0.make C us []) b r2 hq) fun r s' hq' => ?_))
  cases r with
  | error e => exact madePass tk I2 hq'
  | ok fl =>
    cases fl with
    | ret u =>
      obtain ⟨v, H', I3, rv, ev, q3⟩ := I2.after hq'
      subst ev
      exact ⟨rv, ⟨V.ref (s.heap.objs.size + 1), H', I3, rfl, q3⟩⟩
    | next => exact False.elim hq'
    | brk => exact False.elim hq'
    | cont => exact False.elim hq'
/-- C(k = v, ..), __init__ may raise -/
theorem pe_makKX (tk : Takes X W) (c : MakK X.prog X.w X.K X.mg X.base (L2.CX X.prog X.w) k x C ks sp) (hr : Room j X.A) (hk : k + 1 ≤ j) (hg : Gl X x) (hkw : PK X kws t)
    (hdb : (x == ("__debug__" : Str)) = false := by decide) (hall : (backToKw pos (keywordEach kws X.env)).all (·.1.isSome) = true := by rfl) (hks : (backToKw pos (keywordEach kws X.env)).filterMap (·.1) = ks := by rfl)
    (hpl : ((backTo pos (starEach [] X.env)).any (·.1) || (backToKw pos (keywordEach kws X.env)).any (·.1.isNone)) = false := by rfl) :
    PE X (.Call (.Name x p) [] kws pos) (tMakKX C ks.length sp W t) := by
  obtain ⟨hm, f, fd, ps, M, F, hb⟩ := c
  refine ⟨fun pins s0 σ H0 Q I0 h0 => ?_⟩
  refine wpAny_Call_Name_kw (ld_glob I0 hg hm ?_ hdb)
  refine PySem.W.callWith_KW0 (h₀ := X.base) I0.ok.mod.kin M.kp hall ?_ hpl
  refine thn (hkw.run pos pins s0 σ H0 _ I0 h0) fun ws s ⟨zs, H, I, rz, l2, h⟩ => ⟨I.kIn, ?_⟩
  rw [hks]
  have hq := h (s.heap.objs.size + 1) s.heap.objs.size (I.hok.fresh (Nat.le_succ _)) (I.hok.fresh (Nat.le_refl _)) (Nat.ne_of_lt (Nat.lt_succ_self _))
  have I2 := Inv.made (C := C) I
  have r1 : Vals [V.ref (s.heap.objs.size + 1)] [Value.ref (s.heap.objs.size + 1)] := .cons rfl .nil
  have r2 := hb.rel r1 rz
  refine wpAny_call (make_map (f := f) I.kIn M.makes M.init (beq_iff_eq.mp M.fn) (codeAny_mono (F.run _ X.stack _ _ ⟨[Value.ref (s.heap.objs.size + 1)], ks.zip ws⟩ (Gc.gRev [Value.ref (s.heap.objs.size + 1)] ws) _ _ (WE W σ) ((hr.mono hk).make C [] (ks.zip ws))
    (I2.env0.make C [] (ks.zip ws)) (hb.to _ [Value.ref (s.heap.objs.size + 1)] ws I2.kIn rfl (rz.length.symm.trans l2)) r2 hq) fun r s' hq' => ?_))
  cases r with
  | error e => exact madePass tk I2 hq'
  | ok fl =>
    cases fl with
    | ret u =>
      obtain ⟨v, H', I3, rv, ev, q3⟩ := I2.after hq'
      subst ev
      exact ⟨rv, ⟨V.ref (s.heap.objs.size + 1), H', I3, rfl, q3⟩⟩
    | next => exact False.elim hq'
    | brk => exact False.elim hq'
    | cont => exact False.elim hq'
/-- o.m, a property -/
theorem pe_prp (c : Prp X.prog X.w X.K X.mg X.base k C m sp) (hr : Room j X.A) (hk : k + 1 ≤ j) (he : PE X o ta) (hab : attributeBase o m X.env (eval o X.env) = eval o X.env) : PE X (.Attribute o m pos) (tProp C sp [] E0 ta) := by
  obtain ⟨cl, p, f, fd, ps, hp, F, hb⟩ := c
  exact pe_prop he cl hp F (hr.mono hk) hb .nil pass0 hab
end
end L2

/-! the class Box: made, asked, counted -/
namespace Gc
open PySem L2
abbrev s_box_init : Stmt := inClass (top 21) 0
abbrev s_box_questions : Stmt := inClass (top 21) 1
abbrev s_box_answer : Stmt := inClass (top 21) 2
structure TxtBx (K : PySem.W.Frag) (mg : Str → Option Value) (CB : Addr) : Prop where
  list : mg "list" = none
  cl : Cls K CB
  n1 : NoAttr K CB "_commands"
  n2 : NoAttr K CB "_questions"
/-- a box: the address of its commands, how often it was asked -/
def BoxAt (H : Hp) (x CB dx l : Addr) (n : Int) : Prop := H x = some (.ins CB dx [("_commands", .ref l), ("_questions", .int n)])
@[irreducible] def zRunU (K : PySem.W.Frag) (cs : Nat → Addr) : Sp := spRunU K cs
theorem zRunU_eq (K : PySem.W.Frag) (cs : Nat → Addr) : zRunU K cs = spRunU K cs := by unfold zRunU; rfl
def spBoxInit (K : PySem.W.Frag) (CB CM : Addr) : Sp := fun vs H Q E => ∃ (x dx l : Addr) (xs : List V) (rs : List Raw), vs = [.ref x, .ref l] ∧ H x = some (.ins CB dx []) ∧ SqL K H l xs ∧ RawsOf K H xs rs ∧ (∀ i, badAt rs = some i → Err E CM (.int (i : Nat)) H) ∧
  (badAt rs = none → ∀ (H' : Hp) (p : Addr), Keep x x H H' → H p = none → BoxAt H' x CB dx p 0 → H' p = some (.lst xs) → Q .non H')
def spQuestions (CB : Addr) : Sp := fun vs H Q _ => ∃ (x dx l : Addr) (n : Int), vs = [.ref x] ∧ BoxAt H x CB dx l n ∧ Q (.int n) H
def spAnswer (K : PySem.W.Frag) (CB : Addr) (cs : Nat → Addr) : Sp := fun vs H Q E => ∃ (x dx t b l : Addr) (n : Int), vs = [.ref x, .ref t, .ref b] ∧ BoxAt H x CB dx l n ∧
  ((∃ (T : List Int) (r : Int) (g : Option Int) (xs : List V) (rs : List Raw) (i : Nat) (v : V), SqL K H t (T.map V.int) ∧ SqT K H b [.int r, optV g] ∧ SqL K H l xs ∧ RawsOf K H xs rs ∧ BadRun b T r g rs i v ∧ Err E (cs i) v H) ∨
   ∃ (T : List Int) (r : Int) (g : Option Int) (xs : List V) (es : List Cmd), SqL K H t (T.map V.int) ∧ SqT K H b [.int r, optV g] ∧ SqL K H l xs ∧ CmdsOf K H xs es ∧ (∀ x ∈ T, 0 ≤ x) ∧ 0 ≤ r ∧ r < T.length ∧ ge g 0 ∧ AllOk es ∧ es.length ≤ 10000 ∧
    (∀ m, failAt T r g es = some m → ∀ H', Keep x x H H' → BoxAt H' x CB dx l (n + 1) → Q .non H') ∧
    ∀ r' g', afterL T r g es = some (r', g') → ∀ (H' : Hp) (p : Addr), Keep x x H H' → BoxAt H' x CB dx l (n + 1) → SqT K H' p [.int r', optV g'] → Q (.ref p) H')
theorem tup_ins {K : PySem.W.Frag} {H : Hp} {x C dx p : Addr} {fs : List (Str × V)} {o : HO} {xs : List V} (hx : H x = some (.ins C dx fs)) (h1 : SqT K H p xs) : SqT K (upd H x o) p xs := by
  rcases h1 with (z | ⟨o, z⟩) | z
  · exact .inl (.inl (by rw [upd_ne (ne_of z hx (by intro q; cases q))]; exact z))
  · exact .inl (.inr ⟨o, by rw [upd_ne (ne_of z hx (by intro q; cases q))]; exact z⟩)
  · exact .inr z
section
variable {P : Program} {w : World} {K : PySem.W.Frag} {mg : Str → Option Value} {base : Heap} {CB CM : Addr} {cs : Nat → Addr}
theorem sc_Box___init__ : FnScope ["self", "commands"] ["self", "commands"] (defScope s_box_init) := ⟨rfl, rfl, rfl, by decide +kernel, rfl, by decide +kernel, by decide +kernel⟩
theorem ok_box_init {f : Addr} {fd : FuncData} (F : Fun K "__init__" "Box.__init__" s_box_init f fd) (T : TxtBx K mg CB) (c_check_commands : CalX P w K mg base 3 "check_commands" (spCheckX K CM)) : FnOk P w K mg base (L2.CX P w) 4 f fd ["self", "commands"] (spBoxInit K CB CM) := by
  refine F.okX sc_Box___init__ (fun vs H Q E h => ?_) (fun cdv A outer s H vs Q E hr h => ?_)
  · obtain ⟨x, dx, l, xs, rs, rfl, _⟩ := h
    rfl
  · obtain ⟨x, dx, l, xs, rs, rfl, hx, hl, hrs, kb, kg⟩ := h
    refine ⟨_, (pss_cons (ps_expr (pe_calX (takes_of rfl rfl rfl rfl) c_check_commands hr (by decide) (by rfl) (pa_cons (pv 1) pa_nil)))
      (pss_cons (ps_fld (pv 0) (pe_callTy call_list_of (by rfl) T.list (by decide +kernel) (pa_cons (pv 1) pa_nil)) rfl)
      (pss_one (ps_fld (pv 0) pe_int rfl)))), ?_⟩
    refine ⟨_, rfl, l, xs, rs, rfl, hl, hrs, kb, fun hg H1 e1 => ?_⟩
    replace kg := kg hg
    refine ⟨_, rfl, l, xs, rfl, .inl (e1.seq hl), fun p np => ?_⟩
    have px : p ≠ x := fun z => by
      rw [z, e1 _ _ hx] at np
      cases np
    have k1 : Keep x x H (upd H1 p (.lst xs)) := Keep.of (e1.trans (new_same np))
    refine ⟨_, rfl, x, CB, dx, [], rfl, new_same np _ _ (e1 _ _ hx), T.cl, T.n1, by decide, ?_⟩
    refine ⟨_, rfl, x, CB, dx, _, rfl, upd_same, T.cl, T.n2, (by show 1 < 1000; decide), ?_⟩
    refine kg _ p (fun c o h1 h2 hc => ?_) ?_ upd_same ?_
    · rw [upd_ne h1, upd_ne h1]
      exact k1 c o h1 h2 hc
    · cases q : H p with
      | none => rfl
      | some o =>
        rw [e1 _ _ q] at np
        cases np
    · rw [upd_ne px, upd_ne px, upd_same]
theorem sc_Box_questions : FnScope ["self"] ["self"] (defScope s_box_questions) := ⟨rfl, rfl, rfl, by decide +kernel, rfl, by decide +kernel, by decide +kernel⟩
theorem ok_box_questions {f : Addr} {fd : FuncData} (F : Fun K "questions" "Box.questions" s_box_questions f fd) (T : TxtBx K mg CB) : FnOk P w K mg base CX0 1 f fd ["self"] (spQuestions CB) := by
  refine F.ok sc_Box_questions (fun vs H Q E h => ?_) (fun cdv A outer s H vs Q E hr h => ?_)
  · obtain ⟨x, dx, l, n, rfl, _⟩ := h
    rfl
  · obtain ⟨x, dx, l, n, rfl, hx, k⟩ := h
    refine ⟨_, (pss_one (ps_ret (pe_fld (pv 0) rfl))), ?_⟩
    exact ⟨_, rfl, x, CB, dx, _, _, rfl, hx, T.cl, T.n2, rfl, k⟩
theorem sc_Box_answer : FnScope ["self", "text", "cursor", "place"] ["self", "text", "cursor"] (defScope s_box_answer) := ⟨rfl, rfl, rfl, by decide +kernel, rfl, by decide +kernel, by decide +kernel⟩
theorem ok_box_answer {f : Addr} {fd : FuncData} (F : Fun K "answer" "Box.answer" s_box_answer f fd) (T : TxtBx K mg CB) (c_run : CalX P w K mg base 4 "run" (zRunU K cs)) (e_Impossible : ErrC P w K mg base "Impossible" (cs 3))
    (exI : ∀ i, i < 4 → PySem.W.exmOne K (.ref (cs i)) (.ref (cs 3)) = some (decide (i = 3))) : FnOk P w K mg base (L2.CX P w) 5 f fd ["self", "text", "cursor"] (spAnswer K CB cs) := by
  refine F.okX sc_Box_answer (fun vs H Q E h => ?_) (fun cdv A outer s H vs Q E hr h => ?_)
  · obtain ⟨x, dx, t, b, l, n, rfl, _⟩ := h
    rfl
  · obtain ⟨x, dx, t, b, l, n, rfl, hx, h⟩ := h
    refine ⟨_, (pss_cons (ps_try_only rfl rfl ⟨rfl, by decide, .inl e_Impossible.g⟩ (takes_of rfl rfl rfl rfl) (fun W pn xe tk _ => (pss_one (ps_set (i := 3) sc_Box_answer.nd rfl (Or.inl rfl) (pe_calX tk c_run hr (by decide) (by rfl) (pa_cons (pv 1) (pa_cons (pv 2) (pa_cons (show PE _ _ (tFld K (tVar 0) "_commands") from pe_fld (pv 0) rfl) pa_nil))))))) (fun a oe cls d pn _ _ => (pss_one (ps_set (i := 3) sc_Box_answer.nd rfl (Or.inl rfl) pe_non))))
      (pss_cons (ps_fldaug (pv 0) pe_int in_add)
      (pss_one (ps_ret (pv 3))))), ?_⟩
    have lk : SqL K H l [] ∨ True := .inr trivial
    refine ⟨_, rfl, _, rfl, _, rfl, x, CB, dx, _, _, rfl, hx, T.cl, T.n1, rfl, ?_⟩
    rcases h with ⟨T', r, g, xs, rs, i, v, ht, hb, hl, hrs, bad, ke⟩ | ⟨T', r, g, xs, es, ht, hb, hl, hc, nn, r0, r1, g0, ok, ln, kn, ks⟩
    · have i3 : i < 3 := by cases bad <;> omega
      show zRunU K cs [.ref t, .ref b, .ref l] H _ _
      rw [zRunU_eq]
      refine .inl ⟨t, b, l, T', r, g, xs, rs, i, v, rfl, ht, hb, hl, hrs, bad, fun H' d e nd => ?_⟩
      refine ⟨false, ?_, (fun z => nomatch z), fun _ => ke H' d e nd⟩
      have q := exI i (by omega)
      rw [decide_eq_false (by omega : ¬ i = 3)] at q
      exact q
    · show zRunU K cs [.ref t, .ref b, .ref l] H _ _
      rw [zRunU_eq]
      have fin : ∀ (H2 : Hp), Same H H2 → BoxAt (upd H2 x (.ins CB dx [("_commands", .ref l), ("_questions", .int (n + 1))])) x CB dx l (n + 1) ∧ Keep x x H (upd H2 x (.ins CB dx [("_commands", .ref l), ("_questions", .int (n + 1))])) := fun H2 e => ⟨upd_same, fun c o h1 _ hc => by rw [upd_ne h1]; exact e _ _ hc⟩
      refine .inr ⟨t, b, l, T', r, g, xs, es, rfl, ht, hb, hl, hc, nn, r0, r1, g0, ok, ln, fun m hm H' d e nd => ?_, fun r' g' ha H' p e hp => ?_⟩
      · refine ⟨true, ?_, fun _ a ha => ?_, fun z => nomatch z⟩
        · have q := exI 3 (by omega)
          exact q
        · have e2 := e.trans (new_same (o := HO.xd [("value", V.int (m : Nat))]) nd)
          refine ⟨_, rfl, x, CB, dx, _, _, rfl, e2 _ _ hx, T.cl, T.n2, rfl, _, _, rfl, rfl, _, _, e2 _ _ hx, (by show 2 < 1000; decide), ?_⟩
          exact ⟨_, rfl, kn m hm _ (fin _ e2).2 (fin _ e2).1⟩
      · refine ⟨_, rfl, x, CB, dx, _, _, rfl, e _ _ hx, T.cl, T.n2, rfl, _, _, rfl, rfl, _, _, e _ _ hx, (by show 2 < 1000; decide), ?_⟩
        refine ⟨_, rfl, ks r' g' ha _ p (fin _ e).2 (fin _ e).1 ?_⟩
        exact tup_ins (e _ _ hx) hp
end
end Gc

/-! how large the numbers of a box are -/
namespace Gc
def lft : Cmd → Int
  | .left n => n
  | _ => 0
def lsum (r : List Cmd) : Int := (r.map lft).sum
theorem lsum_cons (c : Cmd) (r : List Cmd) : lsum (c :: r) = lft c + lsum r := by
  unfold lsum
  rw [List.map_cons, List.sum_cons]
theorem lsum_nn : ∀ {r : List Cmd}, AllOk r → 0 ≤ lsum r
  | [], _ => Int.le_refl 0
  | c :: r, ok => by
    rw [lsum_cons]
    have h := lsum_nn (r := r) fun d hd => ok d (List.mem_cons_of_mem _ hd)
    have o := ok c List.mem_cons_self
    cases c with
    | left n =>
      have o' : 1 ≤ n := o
      show 0 ≤ n + _
      omega
    | down n => show 0 ≤ (0 : Int) + _; omega
    | up n => show 0 ≤ (0 : Int) + _; omega
    | right n => show 0 ≤ (0 : Int) + _; omega
    | home => show 0 ≤ (0 : Int) + _; omega
    | stop => show 0 ≤ (0 : Int) + _; omega
theorem put_mem {b : Ps} {k v : Int} {q : Int × Int} (h : q ∈ put b k v) : q.2 = v ∨ q ∈ b := by
  unfold put at h
  split at h
  · obtain ⟨p, hp, e⟩ := List.mem_map.mp h
    split at e
    · rw [← e]
      exact .inl rfl
    · rw [← e]
      exact .inr hp
  · rcases List.mem_append.mp h with z | z
    · exact .inr z
    · rw [List.mem_singleton.mp z]
      exact .inl rfl
theorem req_le {b : Ps} {o v B : Int} (hb : ∀ q ∈ b, q.2 ≤ B) (hv : v ≤ B) : ∀ q ∈ req b o v, q.2 ≤ B := by
  intro q hq
  rcases put_mem hq with e | e
  · rw [e]
    unfold mx
    cases l : look b o with
    | none =>
      show (if v > v then v else v) ≤ B
      rw [if_neg (by omega)]
      exact hv
    | some x =>
      have := hb _ (look_mem l)
      show (if x > v then x else v) ≤ B
      have h : x ≤ B := this
      split <;> omega
  · exact hb q e
theorem go_vals {B : Int} : ∀ {r : List Cmd} {off need : Int} {b : Ps} {st : Option Int} {b' : Ps}, go r off need b = some (st, b') → AllOk r → need + lsum r ≤ B → (∀ q ∈ b, q.2 ≤ B) → (∀ q ∈ b', q.2 ≤ B) ∧ ∀ n, st = some n → n ≤ B
  | [], _, need, b, _, _, h, _, l, hb => by
    cases h
    refine ⟨hb, fun n e => ?_⟩
    rw [← Option.some.inj e]
    have e0 : lsum ([] : List Cmd) = 0 := rfl
    omega
  | .home :: r, _, _, b, _, _, h, _, _, _ => by cases h
  | .stop :: r, _, _, b, _, _, h, _, _, hb => by
    cases h
    exact ⟨hb, fun n e => nomatch e⟩
  | .right n :: r, off, need, b, st, b', h, ok, l, hb => by
    have okr : AllOk r := fun d hd => ok d (List.mem_cons_of_mem _ hd)
    have o : 1 ≤ n := ok _ List.mem_cons_self
    have nn := lsum_nn okr
    rw [lsum_cons] at l
    have e0 : lft (.right n) = 0 := rfl
    simp only [go] at h
    split at h
    · exact go_vals h okr (by omega) (req_le hb (by omega))
    · cases h
      exact ⟨req_le hb (by omega), fun n e => nomatch e⟩
  | .left n :: r, off, need, b, st, b', h, ok, l, hb => by
    have okr : AllOk r := fun d hd => ok d (List.mem_cons_of_mem _ hd)
    have nn := lsum_nn okr
    rw [lsum_cons] at l
    have e0 : lft (.left n) = n := rfl
    simp only [go] at h
    exact go_vals h okr (by omega) (req_le hb (by omega))
  | .down n :: r, off, need, b, st, b', h, ok, l, hb => by
    rw [lsum_cons] at l
    have e0 : lft (.down n) = 0 := rfl
    simp only [go] at h
    exact go_vals h (fun d hd => ok d (List.mem_cons_of_mem _ hd)) (by omega) hb
  | .up n :: r, off, need, b, st, b', h, ok, l, hb => by
    rw [lsum_cons] at l
    have e0 : lft (.up n) = 0 := rfl
    simp only [go] at h
    exact go_vals h (fun d hd => ok d (List.mem_cons_of_mem _ hd)) (by omega) hb
theorem lsum_rev (r : List Cmd) : lsum r.reverse = lsum r := by
  unfold lsum
  rw [List.map_reverse, sum_rev]
theorem box_vals {B : Int} {cs : List Cmd} {goal : Int} {st : Option Int} {L : Ps} (h : boxM cs goal = some (st, L)) (ok : AllOk cs) (l : goal + lsum cs ≤ B) : (∀ q ∈ L, q.2 ≤ B) ∧ ∀ n, st = some n → n ≤ B := by
  unfold boxM at h
  cases e : go cs.reverse (last cs) goal [] with
  | none =>
    rw [e] at h
    cases h
  | some x =>
    rw [e] at h
    obtain ⟨st', b'⟩ := x
    have h' : (st', b'.mergeSort leK) = (st, L) := Option.some.inj h
    cases h'
    obtain ⟨a, b⟩ := go_vals (B := B) e (allOk_rev ok) (by rw [lsum_rev]; exact l) (fun q h => nomatch h)
    exact ⟨fun q hq => a q ((List.mergeSort_perm b' leK).mem_iff.mp hq), b⟩
theorem val_le {L : Ps} {B : Int} (h : ∀ q ∈ L, q.2 ≤ B) (h0 : 0 ≤ B) (k : Int) : val L k ≤ B := by
  unfold val
  cases e : look L k with
  | none => exact h0
  | some v => exact h _ (look_mem e)
theorem textM_le {lo hi B : Int} {L : Ps} (g : Good L) (hL : ∀ q ∈ L, lo ≤ q.1 ∧ q.1 ≤ hi) (h : ∀ q ∈ L, q.2 ≤ B) (h0 : 0 ≤ B) : ∀ x ∈ textM lo hi L, x ≤ B := by
  intro x hx
  obtain ⟨i, hi'⟩ := List.mem_iff_getElem?.mp hx
  have l := (List.getElem?_eq_some_iff.mp hi').1
  have l2 : (textM lo hi L).length = (hi - lo + 1).toNat := by
    unfold textM
    rw [setAll_len, List.length_replicate]
  have e := textM_at g hL (k := i + lo) (by omega) (by omega)
  unfold lenAt at e
  rw [show ((i : Int) + lo - lo).toNat = i by omega, List.getD_eq_getElem?_getD, hi'] at e
  have e' : x = val L (i + lo) := e
  rw [e']
  exact val_le h h0 _
/-- commands with numbers as the laws draw them -/
def Bnd (cs : List Cmd) : Prop := ∀ c ∈ cs, lft c ≤ 10 ^ 30 ∧ c.dv.natAbs ≤ 8
theorem lsum_le : ∀ {cs : List Cmd}, Bnd cs → lsum cs ≤ cs.length * 10 ^ 30
  | [], _ => by show (0 : Int) ≤ 0 * 10 ^ 30; decide
  | c :: cs, h => by
    have a := (h c List.mem_cons_self).1
    have b := lsum_le (cs := cs) fun d hd => h d (List.mem_cons_of_mem _ hd)
    rw [lsum_cons, List.length_cons]
    omega
theorem last_le : ∀ {cs : List Cmd}, Bnd cs → (last cs).natAbs ≤ 8 * cs.length
  | [], _ => Nat.le_refl _
  | c :: cs, h => by
    have a := (h c List.mem_cons_self).2
    have b := last_le (cs := cs) fun d hd => h d (List.mem_cons_of_mem _ hd)
    have e : last (c :: cs) = c.dv + last cs := rfl
    rw [e, List.length_cons]
    omega
end Gc

/-! forms: what the program reckons, over plain lists; the pieces are the boxes, gathered by runs -/
namespace Gc
/-! ### a function on the whole numbers, gathered by runs -/
section
variable {δ : Type} [DecidableEq δ]
/-- from a up to b -/
def Seg (D : Int → δ) : Int → List (Int × δ) → Int → Prop
  | a, [], b => a = b
  | a, (f, d) :: r, b => f = a ∧ ∃ c, a < c ∧ (∀ v, a ≤ v → v < c → D v = d) ∧ (∀ e, r.head? = some e → e.2 ≠ d) ∧ Seg D c r b
/-- from a on -/
def Rle (D : Int → δ) : Int → List (Int × δ) → Prop
  | _, [] => False
  | a, [(f, d)] => f = a ∧ ∀ v, a ≤ v → D v = d
  | a, (f, d) :: (g, e) :: r => f = a ∧ a < g ∧ (∀ v, a ≤ v → v < g → D v = d) ∧ d ≠ e ∧ Rle D g ((g, e) :: r)
/-- one more run, unless it only goes on -/
def addP (ps : List (Int × δ)) (p : Int × δ) : List (Int × δ) := if (ps.getLast?.map (·.2)) = some p.2 then ps else ps ++ [p]
theorem addP_nil (p : Int × δ) : addP [] p = [p] := rfl
theorem addP_cons {x y : Int × δ} {r : List (Int × δ)} (p : Int × δ) : addP (x :: y :: r) p = x :: addP (y :: r) p := by
  unfold addP
  rw [List.getLast?_cons_cons]
  split <;> rfl
theorem addP_head {x : Int × δ} {r : List (Int × δ)} (p : Int × δ) : (addP (x :: r) p).head? = some x := by
  unfold addP
  split <;> rfl
theorem Seg.le {D : Int → δ} : ∀ {ps : List (Int × δ)} {a b : Int}, Seg D a ps b → a ≤ b
  | [], _, _, h => Int.le_of_eq h
  | (_, _) :: r, _, _, h => by
    obtain ⟨_, c, h1, _, _, h2⟩ := h
    have := h2.le
    omega
theorem Seg.add {D : Int → δ} {d : δ} {c : Int} : ∀ {ps : List (Int × δ)} {a b : Int}, Seg D a ps b → b < c → (∀ v, b ≤ v → v < c → D v = d) → Seg D a (addP ps (b, d)) c
  | [], a, b, h, hc, hd => by
    have e : a = b := h
    subst e
    exact ⟨rfl, c, hc, hd, (fun _ z => nomatch z), rfl⟩
  | [(f, x)], a, b, h, hc, hd => by
    obtain ⟨h1, c0, h2, h3, _, h4⟩ := h
    have e : c0 = b := h4
    subst e
    unfold addP
    by_cases z : x = d
    · rw [if_pos (by simp [z])]
      refine ⟨h1, c, by omega, fun v v0 v1 => ?_, (fun _ z => nomatch z), rfl⟩
      by_cases q : v < c0
      · exact h3 v v0 q
      · rw [z]
        exact hd v (by omega) v1
    · rw [if_neg (by simp [z])]
      exact ⟨h1, c0, h2, h3, fun e he => by obtain rfl := Option.some.inj he; exact Ne.symm z, rfl, c, hc, hd, (fun _ z => nomatch z), rfl⟩
  | (f, x) :: y :: r, a, b, h, hc, hd => by
    obtain ⟨h1, c0, h2, h3, h4, h5⟩ := h
    rw [addP_cons]
    refine ⟨h1, c0, h2, h3, fun e he => ?_, h5.add hc hd⟩
    rw [addP_head] at he
    exact h4 e he
theorem Seg.rle {D : Int → δ} {d : δ} : ∀ {ps : List (Int × δ)} {a b : Int}, Seg D a ps b → (∀ v, b ≤ v → D v = d) → Rle D a (addP ps (b, d))
  | [], a, b, h, hd => by
    have e : a = b := h
    subst e
    exact ⟨rfl, hd⟩
  | [(f, x)], a, b, h, hd => by
    obtain ⟨h1, c0, h2, h3, _, h4⟩ := h
    have e : c0 = b := h4
    subst e
    unfold addP
    by_cases z : x = d
    · rw [if_pos (by simp [z])]
      refine ⟨h1, fun v v0 => ?_⟩
      by_cases q : v < c0
      · exact h3 v v0 q
      · rw [z]
        exact hd v (by omega)
    · rw [if_neg (by simp [z])]
      exact ⟨h1, h2, h3, z, rfl, hd⟩
  | (f, x) :: (g, y) :: r, a, b, h, hd => by
    obtain ⟨h1, c0, h2, h3, h4, h5⟩ := h
    have ih := h5.rle hd
    have g0 : g = c0 := h5.1
    subst g0
    rw [addP_cons]
    have hh := addP_head (x := (g, y)) (r := r) (b, d)
    cases e : addP ((g, y) :: r) (b, d) with
    | nil =>
      rw [e] at hh
      cases hh
    | cons z zs =>
      rw [e] at hh ih
      obtain rfl := Option.some.inj hh
      exact ⟨h1, h2, h3, Ne.symm (h4 (g, y) rfl), ih⟩
theorem Rle.head {D : Int → δ} : ∀ {ps : List (Int × δ)} {a : Int}, Rle D a ps → ∃ r, ps = (a, D a) :: r
  | [(f, d)], a, h => by
    obtain ⟨rfl, h2⟩ := h
    exact ⟨[], by rw [h2 f (Int.le_refl _)]⟩
  | (f, d) :: (g, e) :: r, a, h => by
    obtain ⟨rfl, h1, h2, _⟩ := h
    exact ⟨(g, e) :: r, by rw [h2 f (Int.le_refl _) h1]⟩
theorem Rle.one {D : Int → δ} : ∀ {ps qs : List (Int × δ)} {a : Int}, Rle D a ps → Rle D a qs → ps = qs
  | [(f, d)], [(f', d')], a, h, h' => by
    obtain ⟨rfl, h2⟩ := h
    obtain ⟨rfl, h2'⟩ := h'
    rw [← h2 f' (Int.le_refl _), ← h2' f' (Int.le_refl _)]
  | [(f, d)], (f', d') :: (g, e) :: r, a, h, h' => by
    exfalso
    obtain ⟨rfl, h2⟩ := h
    obtain ⟨rfl, h3, h4, h5, h6⟩ := h'
    obtain ⟨_, q⟩ := h6.head
    injection q with q1 q2
    injection q1 with q3 q4
    refine h5 ?_
    rw [q4, h2 g (by omega), ← h4 f' (Int.le_refl _) h3, h2 f' (Int.le_refl _)]
  | (f', d') :: (g, e) :: r, [(f, d)], a, h', h => by
    exfalso
    obtain ⟨rfl, h2⟩ := h
    obtain ⟨rfl, h3, h4, h5, h6⟩ := h'
    obtain ⟨_, q⟩ := h6.head
    injection q with q1 q2
    injection q1 with q3 q4
    refine h5 ?_
    rw [q4, h2 g (by omega), ← h4 f' (Int.le_refl _) h3, h2 f' (Int.le_refl _)]
  | (f, d) :: (g, e) :: r, (f', d') :: (g', e') :: r', a, h, h' => by
    obtain ⟨rfl, h3, h4, h5, h6⟩ := h
    obtain ⟨rfl, h3', h4', h5', h6'⟩ := h'
    have ed : d = d' := by rw [← h4 f' (Int.le_refl _) h3, ← h4' f' (Int.le_refl _) h3']
    subst ed
    obtain ⟨_, q⟩ := h6.head
    injection q with q1 q2
    injection q1 with q3 q4
    obtain ⟨_, q'⟩ := h6'.head
    injection q' with q1' q2'
    injection q1' with q3' q4'
    have eg : g = g' := by
      rcases (show g < g' ∨ g = g' ∨ g' < g by omega) with z | z | z
      · exfalso
        refine h5 ?_
        rw [q4, h4' g (by omega) z]
      · exact z
      · exfalso
        refine h5' ?_
        rw [q4', h4 g' (by omega) z]
    subst eg
    rw [Rle.one h6 h6']
theorem Rle.ne {D : Int → δ} {ps : List (Int × δ)} {a : Int} (h : Rle D a ps) : ps ≠ [] := by
  obtain ⟨r, e⟩ := h.head
  rw [e]
  simp
/-- two functions with the same runs are the same -/
theorem Rle.same {D E : Int → δ} : ∀ {ps : List (Int × δ)} {a : Int}, Rle D a ps → Rle E a ps → ∀ v, a ≤ v → D v = E v
  | [(f, d)], a, h, h', v, hv => by rw [h.2 v hv, h'.2 v hv]
  | (f, d) :: (g, e) :: r, a, h, h', v, hv => by
    obtain ⟨rfl, h3, h4, h5, h6⟩ := h
    obtain ⟨_, _, h4', _, h6'⟩ := h'
    by_cases z : v < g
    · rw [h4 v hv z, h4' v hv z]
    · exact Rle.same h6 h6' v (by omega)
theorem Rle.of {D E : Int → δ} : ∀ {ps : List (Int × δ)} {a : Int}, Rle D a ps → (∀ v, a ≤ v → D v = E v) → Rle E a ps
  | [(f, d)], a, h, e => ⟨h.1, fun v hv => by rw [← e v hv]; exact h.2 v hv⟩
  | (f, d) :: (g, y) :: r, a, h, e => by
    obtain ⟨h1, h3, h4, h5, h6⟩ := h
    exact ⟨h1, h3, fun v v0 v1 => by rw [← e v v0]; exact h4 v v0 v1, h5, Rle.of h6 fun v hv => e v (by omega)⟩
end
/-! ### the pieces -/
abbrev PData := Option Int × Option Ps
abbrev Piece := Int × PData
def sortP (b : Ps) : Ps := b.mergeSort leK
def goP : List Cmd → Int → Int → Int → Ps → List Piece → List Piece
  | [], _, added, first, lines, found => addP found (first, some added, some (sortP lines))
  | .home :: _, _, _, first, _, found => addP found (first, none, none)
  | .stop :: _, _, _, first, lines, found => addP found (first, none, some (sortP lines))
  | .right n :: r, off, added, first, lines, found =>
    if first ≤ -(added - n) then goP r off (added - n) (1 - (added - n)) (req lines off added) (addP found (first, none, some (sortP (req lines off added))))
    else goP r off (added - n) first (req lines off added) found
  | .left n :: r, off, added, first, lines, found => goP r off (added + n) first (req lines off (added + n)) found
  | .down n :: r, off, added, first, lines, found => goP r (off - n) added first lines found
  | .up n :: r, off, added, first, lines, found => goP r (off + n) added first lines found
def formM (cs : List Cmd) : List Piece := goP cs.reverse (last cs) 0 1 [] []
/-- a box, less the goal -/
def dataOf (v : Int) : Option (Option Int × Ps) → PData
  | none => (none, none)
  | some (st, L) => (st.map (· - v), some (L.map fun q => (q.1, q.2 - v)))
def shiftV (v : Int) (b : Ps) : Ps := b.map fun q => (q.1, q.2 + v)
theorem look_shiftV (v k : Int) : ∀ b : Ps, look (shiftV v b) k = (look b k).map (· + v)
  | [] => rfl
  | q :: b => by
    show look ((q.1, q.2 + v) :: shiftV v b) k = _
    rw [look_cons, look_cons]
    by_cases h : q.1 = k
    · rw [if_pos h, if_pos h]
      rfl
    · rw [if_neg h, if_neg h]
      exact look_shiftV v k b
theorem put_shiftV (v k x : Int) (b : Ps) : put (shiftV v b) k (x + v) = shiftV v (put b k x) := by
  unfold put shiftV
  rw [List.any_map]
  have e : ((fun q : Int × Int => decide (q.1 = k)) ∘ fun q : Int × Int => (q.1, q.2 + v)) = fun q : Int × Int => decide (q.1 = k) := rfl
  rw [e]
  by_cases h : (b.any fun q => decide (q.1 = k)) = true
  · rw [if_pos h, if_pos h, List.map_map, List.map_map]
    refine List.map_congr_left fun q _ => ?_
    show (if q.1 = k then (q.1, x + v) else (q.1, q.2 + v)) = _
    by_cases z : q.1 = k
    · rw [if_pos z]
      show _ = ((if q.1 = k then (q.1, x) else q).1, (if q.1 = k then (q.1, x) else q).2 + v)
      rw [if_pos z]
    · rw [if_neg z]
      show _ = ((if q.1 = k then (q.1, x) else q).1, (if q.1 = k then (q.1, x) else q).2 + v)
      rw [if_neg z]
  · rw [if_neg h, if_neg h, List.map_append]
    rfl
theorem req_shiftV (v k x : Int) (b : Ps) : req (shiftV v b) k (x + v) = shiftV v (req b k x) := by
  unfold req
  rw [look_shiftV]
  have e : mx (x + v) (((look b k).map (· + v)).getD (x + v)) = mx x ((look b k).getD x) + v := by
    cases look b k with
    | none =>
      show mx (x + v) (x + v) = mx x x + v
      unfold mx
      split <;> split <;> omega
    | some y =>
      show mx (x + v) (y + v) = mx x y + v
      unfold mx
      split <;> split <;> omega
  rw [e, put_shiftV]
theorem sort_shiftV (v : Int) (b : Ps) : sortP (shiftV v b) = shiftV v (sortP b) := by
  unfold sortP shiftV
  refine (List.map_mergeSort fun p _ q _ => ?_).symm
  unfold leK
  exact decide_eq_decide.mpr (by simp only; omega)
theorem data_some (v : Int) (st : Option Int) (b : Ps) : dataOf v ((some (st, shiftV v b)).map srt) = (st.map (· - v), some (sortP b)) := by
  have e : (sortP (shiftV v b)).map (fun q => (q.1, q.2 - v)) = sortP b := by
    rw [sort_shiftV]
    unfold shiftV
    rw [List.map_map]
    conv => rhs; rw [← List.map_id (sortP b)]
    refine List.map_congr_left fun q _ => ?_
    show (q.1, q.2 + v - v) = q
    rw [show q.2 + v - v = q.2 by omega]
  show (st.map (· - v), some ((sortP (shiftV v b)).map fun q => (q.1, q.2 - v))) = _
  rw [e]
theorem goP_rle {D : Int → PData} : ∀ (r : List Cmd) (off added first : Int) (lines : Ps) (found : List Piece), Seg D 1 found first →
    (∀ v, first ≤ v → D v = dataOf v ((go r off (added + v) (shiftV v lines)).map srt)) → Rle D 1 (goP r off added first lines found)
  | [], off, added, first, lines, found, hs, hD => by
    refine hs.rle fun v hv => ?_
    rw [hD v hv]
    show dataOf v ((some (some (added + v), shiftV v lines)).map srt) = _
    rw [data_some]
    show (some (added + v - v), _) = _
    rw [show added + v - v = added by omega]
  | .home :: r, off, added, first, lines, found, hs, hD => hs.rle fun v hv => hD v hv
  | .stop :: r, off, added, first, lines, found, hs, hD => by
    refine hs.rle fun v hv => ?_
    rw [hD v hv]
    exact data_some v none lines
  | .right n :: r, off, added, first, lines, found, hs, hD => by
    have key : ∀ v, first ≤ v → D v = dataOf v ((if added + v > n then go r off (added + v - n) (shiftV v (req lines off added)) else some (none, shiftV v (req lines off added))).map srt) := fun v hv => by
      rw [hD v hv]
      simp only [go]
      rw [req_shiftV]
    simp only [goP]
    split
    · rename_i c
      refine goP_rle r off (added - n) (1 - (added - n)) _ _ (hs.add (by omega) fun v v0 v1 => ?_) fun v hv => ?_
      · rw [key v v0, if_neg (by omega)]
        exact data_some v none _
      · rw [key v (by omega), if_pos (by omega), show added + v - n = added - n + v by omega]
    · rename_i c
      refine goP_rle r off (added - n) first _ _ hs fun v hv => ?_
      rw [key v hv, if_pos (by omega), show added + v - n = added - n + v by omega]
  | .left n :: r, off, added, first, lines, found, hs, hD => by
    refine goP_rle r off (added + n) first _ _ hs fun v hv => ?_
    rw [hD v hv]
    simp only [go]
    rw [show added + v + n = added + n + v by omega, req_shiftV]
  | .down n :: r, off, added, first, lines, found, hs, hD => by
    refine goP_rle r (off - n) added first _ _ hs fun v hv => ?_
    rw [hD v hv]
    simp only [go]
  | .up n :: r, off, added, first, lines, found, hs, hD => by
    refine goP_rle r (off + n) added first _ _ hs fun v hv => ?_
    rw [hD v hv]
    simp only [go]
/-- THE FORM IS ITS BOXES: from each piece's first value on the boxes have its data -/
theorem form_rle (cs : List Cmd) : Rle (fun v => dataOf v (boxM cs v)) 1 (formM cs) := by
  refine goP_rle cs.reverse (last cs) 0 1 [] [] rfl fun v _ => ?_
  show _ = dataOf v ((go cs.reverse (last cs) (0 + v) []).map srt)
  rw [Int.zero_add]
  rfl
theorem dataOf_inj {v : Int} : ∀ {x y : Option (Option Int × Ps)}, dataOf v x = dataOf v y → x = y
  | none, none, _ => rfl
  | none, some (_, _), h => by cases (Prod.mk.inj h).2
  | some (_, _), none, h => by cases (Prod.mk.inj h).2
  | some (st, L), some (st', L'), h => by
    obtain ⟨h1, h2⟩ := Prod.mk.inj h
    have e1 : st = st' := by
      cases st <;> cases st'
      · rfl
      · cases h1
      · cases h1
      · rename_i a b
        have z : a - v = b - v := Option.some.inj h1
        rw [show a = b by omega]
    have e2 : L = L' := by
      have z := Option.some.inj h2
      have inj : ∀ {p q : Int × Int}, (p.1, p.2 - v) = (q.1, q.2 - v) → p = q := fun {p q} e => by
        obtain ⟨e1, e2⟩ := Prod.mk.inj e
        exact Prod.ext e1 (by omega)
      exact List.map_inj_right (fun p q e => inj e) |>.mp z
    rw [e1, e2]
theorem form_eq (cs ds : List Cmd) : formM cs = formM ds ↔ ∀ v, 1 ≤ v → boxM cs v = boxM ds v := by
  constructor
  · intro h v hv
    have a := form_rle cs
    rw [h] at a
    exact dataOf_inj (a.same (form_rle ds) v hv)
  · intro h
    refine (form_rle cs).one ?_
    exact (form_rle ds).of fun v hv => by
      show dataOf v (boxM ds v) = dataOf v (boxM cs v)
      rw [h v hv]
end Gc

/-! forms in the heap, and as data -/
namespace Gc
open PySem PyProof.Rows L2
def optW : Option Int → V
  | none => .non
  | some n => .int n
def optE : Option Int → PyData
  | none => .none
  | some n => .int n
def linesD : Option Ps → PyData
  | none => .none
  | some L => .list (L.map encP)
def pdataD (d : PData) : PyData := .tuple [optE d.1, linesD d.2]
def pieceD (p : Piece) : PyData := .tuple [.int p.1, optE p.2.1, linesD p.2.2]
def reachD (x : Int × Int × Int) : PyData := .tuple [.int x.1, .int x.2.1, .int x.2.2]
def formD (x : Int × Int × Int) (ps : List Piece) : PyData := .tuple [reachD x, .list (ps.map pieceD)]
theorem dp_opt {K : PySem.W.Frag} {H : Hp} (o : Option Int) : Dp K H (optW o) (optE o) := by
  cases o with
  | none => exact .non
  | some n => exact .int n
theorem eqv_opt (a b : Option Int) : PyData.eqv (optE a) (optE b) = decide (a = b) := by
  cases a <;> cases b <;> simp [optE, PyData.eqv]
  rw [Bool.eq_iff_iff, beq_iff_eq, decide_eq_true_eq]
theorem eqv_pairs : ∀ a b : Ps, PyData.eqvAll (a.map encP) (b.map encP) = decide (a = b)
  | [], [] => by simp [PyData.eqvAll]
  | [], _ :: _ => by simp [PyData.eqvAll]
  | _ :: _, [] => by simp [PyData.eqvAll]
  | (x, y) :: a, (u, v) :: b => by
    rw [List.map_cons, List.map_cons, PyData.eqvAll, eqv_pairs a b]
    simp only [encP, PyData.eqv, PyData.eqvAll, Bool.and_true]
    rw [Bool.eq_iff_iff]
    simp
theorem eqv_lines (a b : Option Ps) : PyData.eqv (linesD a) (linesD b) = decide (a = b) := by
  cases a <;> cases b <;> simp [linesD, PyData.eqv]
  exact eqv_pairs _ _
theorem eqv_pdata (a b : PData) : PyData.eqv (pdataD a) (pdataD b) = decide (a = b) := by
  obtain ⟨a1, a2⟩ := a
  obtain ⟨b1, b2⟩ := b
  simp only [pdataD, PyData.eqv, PyData.eqvAll, Bool.and_true]
  rw [eqv_opt, eqv_lines, Bool.eq_iff_iff]
  simp
theorem eqv_pieces : ∀ a b : List Piece, PyData.eqvAll (a.map pieceD) (b.map pieceD) = decide (a = b)
  | [], [] => by simp [PyData.eqvAll]
  | [], _ :: _ => by simp [PyData.eqvAll]
  | _ :: _, [] => by simp [PyData.eqvAll]
  | (x, s, l) :: a, (u, t, m) :: b => by
    rw [List.map_cons, List.map_cons, PyData.eqvAll, eqv_pieces a b]
    simp only [pieceD, PyData.eqv, PyData.eqvAll, Bool.and_true]
    rw [eqv_opt, eqv_lines, Bool.eq_iff_iff]
    simp
theorem eqv_reach (x y : Int × Int × Int) : PyData.eqv (reachD x) (reachD y) = decide (x = y) := by
  obtain ⟨a, b, c⟩ := x
  obtain ⟨d, e, f⟩ := y
  simp only [reachD, PyData.eqv, PyData.eqvAll, Bool.and_true]
  rw [Bool.eq_iff_iff]
  simp
theorem eqv_form (x y : Int × Int × Int) (ps qs : List Piece) : PyData.eqv (formD x ps) (formD y qs) = decide (x = y ∧ ps = qs) := by
  simp only [formD, PyData.eqv, PyData.eqvAll, Bool.and_true]
  rw [eqv_reach, eqv_pieces, Bool.eq_iff_iff]
  simp
theorem lay_pairs : ∀ a : Ps, PyData.canLayAll0 (a.map encP) = true ∧ PyData.depthAll (a.map encP) ≤ 1
  | [] => by simp [PyData.canLayAll0, PyData.depthAll]
  | q :: a => by
    obtain ⟨h1, h2⟩ := lay_pairs a
    simp [PyData.canLayAll0, PyData.canLay0, encP, PyData.depthAll, PyData.depth, h1, h2]
theorem lay_opt (o : Option Int) : PyData.canLay0 (optE o) = true ∧ (optE o).depth = 0 := by
  cases o <;> simp [optE, PyData.canLay0, PyData.depth]
theorem lay_lines (o : Option Ps) : PyData.canLay0 (linesD o) = true ∧ (linesD o).depth ≤ 2 := by
  cases o with
  | none => simp [linesD, PyData.canLay0, PyData.depth]
  | some L =>
    obtain ⟨h1, h2⟩ := lay_pairs L
    simp only [linesD, PyData.canLay0, PyData.depth, h1]
    exact ⟨trivial, by omega⟩
theorem shaped_pdata (d : PData) : SeqAt.shaped (pdataD d) = true := by
  obtain ⟨h1, h2⟩ := lay_opt d.1
  obtain ⟨h3, h4⟩ := lay_lines d.2
  unfold SeqAt.shaped
  rw [decide_eq_true]
  · simp [pdataD, PyData.canLay0, PyData.canLayAll0, h1, h3]
  · simp only [pdataD, PyData.depth, PyData.depthAll, h2]
    omega
theorem lay_pieces : ∀ a : List Piece, PyData.canLayAll0 (a.map pieceD) = true ∧ PyData.depthAll (a.map pieceD) ≤ 3
  | [] => by simp [PyData.canLayAll0, PyData.depthAll]
  | p :: a => by
    obtain ⟨h1, h2⟩ := lay_pieces a
    obtain ⟨h3, h4⟩ := lay_opt p.2.1
    obtain ⟨h5, h6⟩ := lay_lines p.2.2
    simp only [List.map_cons, PyData.canLayAll0, PyData.canLay0, pieceD, PyData.depthAll, PyData.depth, h1, h3, h4, h5]
    exact ⟨by simp, by omega⟩
theorem shaped_pieces (ps : List Piece) : SeqAt.shaped (.list (ps.map pieceD)) = true := by
  obtain ⟨h1, h2⟩ := lay_pieces ps
  unfold SeqAt.shaped
  rw [decide_eq_true]
  · simp [PyData.canLay0, h1]
  · simp only [PyData.depth]
    omega
theorem shaped_reach (x : Int × Int × Int) : SeqAt.shaped (reachD x) = true := by
  unfold SeqAt.shaped
  rw [decide_eq_true] <;> simp [reachD, PyData.canLay0, PyData.canLayAll0, PyData.depth, PyData.depthAll]
theorem shaped_form (x : Int × Int × Int) (ps : List Piece) : SeqAt.shaped (formD x ps) = true := by
  obtain ⟨h1, h2⟩ := lay_pieces ps
  unfold SeqAt.shaped
  rw [decide_eq_true]
  · simp [formD, reachD, PyData.canLay0, PyData.canLayAll0, h1]
  · simp only [formD, reachD, PyData.depth, PyData.depthAll]
    omega
/-! ### in the heap -/
def PairsAt (H : Hp) (ts : List Addr) (L : Ps) : Prop := Paired (fun (t : Addr) (q : Int × Int) => H t = some (.tup [.int q.1, .int q.2])) ts L
def refO : Option Addr → V
  | none => .non
  | some l => .ref l
def LinesAt (H : Hp) : Option Addr → Option Ps → Prop
  | none, none => True
  | some l, some L => ∃ ts : List Addr, H l = some (.lst (ts.map V.ref)) ∧ PairsAt H ts L
  | _, _ => False
/-- a piece, its tuple and its list -/
def PieceAt (H : Hp) (i : Addr × Option Addr) (p : Piece) : Prop := H i.1 = some (.tup [.int p.1, optW p.2.1, refO i.2]) ∧ LinesAt H i.2 p.2.2
theorem PairsAt.mono {H H' : Hp} {ts : List Addr} {L : Ps} (e : ∀ t xs, H t = some (.tup xs) → H' t = some (.tup xs)) (h : PairsAt H ts L) : PairsAt H' ts L := Paired.mapP h fun _ _ q => e _ _ q
theorem LinesAt.mono {H H' : Hp} {l : Option Addr} {o : Option Ps} (e : ∀ t xs, H t = some (.tup xs) → H' t = some (.tup xs)) (k : ∀ a xs, l = some a → H a = some (.lst xs) → H' a = some (.lst xs)) (h : LinesAt H l o) : LinesAt H' l o := by
  match l, o, h with
  | none, none, _ => trivial
  | some l, some L, h =>
    obtain ⟨ts, h1, h2⟩ := h
    exact ⟨ts, k l _ rfl h1, h2.mono e⟩
theorem PieceAt.mono {H H' : Hp} {i : Addr × Option Addr} {p : Piece} (e : ∀ t xs, H t = some (.tup xs) → H' t = some (.tup xs)) (k : ∀ a xs, i.2 = some a → H a = some (.lst xs) → H' a = some (.lst xs)) (h : PieceAt H i p) : PieceAt H' i p :=
  ⟨e _ _ h.1, h.2.mono e k⟩
theorem PieceAt.same {H H' : Hp} {i : Addr × Option Addr} {p : Piece} (e : Same H H') (h : PieceAt H i p) : PieceAt H' i p := h.mono (fun _ _ q => e _ _ q) fun _ _ _ q => e _ _ q
theorem PairsAt.dp {K : PySem.W.Frag} {H : Hp} : ∀ {ts : List Addr} {L : Ps}, PairsAt H ts L → DpAll K H (ts.map V.ref) (L.map encP)
  | _, _, .nil => .nil
  | _, _, .cons h t => .cons (.tup (SqT.of h) (.cons (.int _) (.cons (.int _) .nil))) (PairsAt.dp t)
theorem LinesAt.dp {K : PySem.W.Frag} {H : Hp} {l : Option Addr} {o : Option Ps} (h : LinesAt H l o) : Dp K H (refO l) (linesD o) := by
  match l, o, h with
  | none, none, _ => exact .non
  | some l, some L, h =>
    obtain ⟨ts, h1, h2⟩ := h
    exact .lst (SqL.of h1) h2.dp
theorem PieceAt.dp {K : PySem.W.Frag} {H : Hp} {i : Addr × Option Addr} {p : Piece} (h : PieceAt H i p) : Dp K H (.ref i.1) (pieceD p) := .tup (SqT.of h.1) (.cons (.int _) (.cons (dp_opt _) (.cons h.2.dp .nil)))
theorem pieces_dp {K : PySem.W.Frag} {H : Hp} : ∀ {is : List (Addr × Option Addr)} {ps : List Piece}, Paired (PieceAt H) is ps → DpAll K H (is.map fun i => V.ref i.1) (ps.map pieceD)
  | _, _, .nil => .nil
  | _, _, .cons h t => .cons h.dp (pieces_dp t)
/-- a list of pieces that grows at m; all of it is newer than H0, each list of lines its own -/
structure FoundAt (H0 H : Hp) (m : Addr) (is : List (Addr × Option Addr)) (ps : List Piece) : Prop where
  lst : H m = some (.lst (is.map fun i => V.ref i.1))
  its : Paired (PieceAt H) is ps
  nd : (is.filterMap (·.2)).Nodup
  new : ∀ l ∈ is.filterMap (·.2), H0 l = none ∧ l ≠ m ∧ ∃ xs, H l = some (.lst xs)
  m0 : H0 m = none
theorem FoundAt.same {H0 H H' : Hp} {m : Addr} {is : List (Addr × Option Addr)} {ps : List Piece} (e : Same H H') (h : FoundAt H0 H m is ps) : FoundAt H0 H' m is ps :=
  ⟨e _ _ h.lst, Paired.mapP h.its fun _ _ q => q.same e, h.nd, fun l hl => by
    obtain ⟨h1, h2, xs, h3⟩ := h.new l hl
    exact ⟨h1, h2, xs, e _ _ h3⟩, h.m0⟩
theorem addP_len {ps : List Piece} {p : Piece} : (addP ps p).length ≤ ps.length + 1 := by
  unfold addP
  split
  · exact Nat.le_succ _
  · rw [List.length_append]
    exact Nat.le_refl _
theorem paired_last {α β : Type} {F : α → β → Prop} {xs : List α} {ys : List β} (h : Paired F xs ys) : (xs = [] ∧ ys = []) ∨ ∃ x y xs' ys', xs = xs' ++ [x] ∧ ys = ys' ++ [y] ∧ F x y := by
  induction h with
  | nil => exact .inl ⟨rfl, rfl⟩
  | @cons a b as bs h t ih =>
    rcases ih with ⟨rfl, rfl⟩ | ⟨x, y, xs', ys', rfl, rfl, f⟩
    · exact .inr ⟨a, b, [], [], rfl, rfl, h⟩
    · exact .inr ⟨x, y, a :: xs', b :: ys', rfl, rfl, f⟩
end Gc

/-! lists that lead every goal to the same goal have the same boxes, and so the same form -/
namespace Gc
/-- the same goals, on all lines -/
def Alike (cs ds : List Cmd) : Prop := last cs = last ds ∧ ∀ (T : Int → Int) (r : Int) (a : Option Int), (∀ k, 0 ≤ T k) → ge a 0 → aimF T r a cs = aimF T r a ds
theorem Alike.refl (cs : List Cmd) : Alike cs cs := ⟨rfl, fun _ _ _ _ _ => rfl⟩
theorem Alike.symm {cs ds : List Cmd} (h : Alike cs ds) : Alike ds cs := ⟨h.1.symm, fun T r a hT ha => (h.2 T r a hT ha).symm⟩
theorem Alike.trans {cs ds es : List Cmd} (h : Alike cs ds) (g : Alike ds es) : Alike cs es := ⟨h.1.trans g.1, fun T r a hT ha => (h.2 T r a hT ha).trans (g.2 T r a hT ha)⟩
theorem last_two (a b : List Cmd) : last (a ++ b) = last a + last b := last_app a b
theorem Alike.around {u v : List Cmd} (h : Alike u v) (xs ys : List Cmd) (ok : AllOk xs) : Alike (xs ++ u ++ ys) (xs ++ v ++ ys) := by
  refine ⟨by rw [last_two, last_two, last_two, last_two, h.1], fun T r a hT ha => ?_⟩
  rw [aimF_app, aimF_app, aimF_app, aimF_app, last_two, last_two, h.1, h.2 T _ _ hT (aimF_nn hT ok ha)]
/-- the start that a box asks for -/
def startOf (st : Option Int) : Option Int := some (st.getD 0)
theorem val_at {b : Ps} (g : Good b) : val (b.mergeSort leK) = val b := val_perm g (List.mergeSort_perm b leK)
/-- the least start of a box fulfils it -/
theorem box_self {cs : List Cmd} {v : Int} (ok : AllOk cs) (hv : 1 ≤ v) {st : Option Int} {b : Ps} (e : boxM cs v = some (st, b.mergeSort leK)) (g : Good b) (pos : ∀ n, st = some n → 1 ≤ n) : ge (aimF (val b) 0 (startOf st) cs) v := by
  have a0 : ge (startOf st) 0 := ge_some.mpr (by
    cases st with
    | none => exact Int.le_refl 0
    | some n =>
      have := pos n rfl
      show 0 ≤ n
      omega)
  refine (box_char (fun k => val_nonneg g k) a0 ok hv).mpr ⟨st, _, e, fun n en => ge_some.mpr (by rw [en]; exact Int.le_refl n), fun k => ?_⟩
  rw [val_at g, Int.zero_add]
  exact Int.le_refl _
/-- if the least start of cs fulfils the box of ds, then that box asks for no more -/
theorem box_less {ds : List Cmd} {v : Int} (ok : AllOk ds) (hv : 1 ≤ v) {st : Option Int} {b : Ps} (g : Good b) (pos : ∀ n, st = some n → 1 ≤ n) (h : ge (aimF (val b) 0 (startOf st) ds) v) :
    ∃ st' b', boxM ds v = some (st', b'.mergeSort leK) ∧ Good b' ∧ (∀ n, st' = some n → 1 ≤ n) ∧ (∀ n, st' = some n → ∃ m, st = some m ∧ n ≤ m) ∧ ∀ k, val b' k ≤ val b k := by
  have a0 : ge (startOf st) 0 := ge_some.mpr (by
    cases st with
    | none => exact Int.le_refl 0
    | some n =>
      have := pos n rfl
      show 0 ≤ n
      omega)
  obtain ⟨st', L, e, h1, h2⟩ := (box_char (fun k => val_nonneg g k) a0 ok hv).mp h
  rcases box_spec ok hv with ⟨z, _⟩ | ⟨st2, b', z, g', _, p⟩
  · rw [z] at e
    cases e
  · rw [z] at e
    cases e
    refine ⟨_, b', z, g', p, fun n en => ?_, fun k => ?_⟩
    · have q := ge_some.mp (h1 n en)
      have := p n en
      cases st with
      | none =>
        have q' : n ≤ 0 := q
        omega
      | some m => exact ⟨m, rfl, q⟩
    · have q := h2 k
      rw [val_at g', Int.zero_add] at q
      exact q
theorem box_two {st st' : Option Int} {b b' : Ps} (g : Good b) (g' : Good b') (s1 : ∀ n, st' = some n → ∃ m, st = some m ∧ n ≤ m) (s2 : ∀ n, st = some n → ∃ m, st' = some m ∧ n ≤ m) (l1 : ∀ k, val b' k ≤ val b k) (l2 : ∀ k, val b k ≤ val b' k) :
    (st, b.mergeSort leK) = (st', b'.mergeSort leK) := by
  have e1 : st = st' := by
    cases st with
    | none =>
      cases st' with
      | none => rfl
      | some n =>
        obtain ⟨m, z, _⟩ := s1 n rfl
        cases z
    | some n =>
      obtain ⟨m, z, h⟩ := s2 n rfl
      subst z
      obtain ⟨m', z', h'⟩ := s1 m rfl
      cases z'
      rw [show n = m by omega]
  rw [e1, sort_ext g g' (funext fun k => Int.le_antisymm (l2 k) (l1 k))]
theorem box_sem {cs ds : List Cmd} (okc : AllOk cs) (okd : AllOk ds) {v : Int} (hv : 1 ≤ v) (h : ∀ (T : Int → Int) (a : Option Int), (∀ k, 0 ≤ T k) → ge a 0 → (ge (aimF T 0 a cs) v ↔ ge (aimF T 0 a ds) v)) : boxM cs v = boxM ds v := by
  have nn : ∀ {st : Option Int}, (∀ n, st = some n → 1 ≤ n) → ge (startOf st) 0 := fun {st} pos => ge_some.mpr (by
    cases st with
    | none => exact Int.le_refl 0
    | some n =>
      have := pos n rfl
      show 0 ≤ n
      omega)
  rcases box_spec okc hv with ⟨e1, _⟩ | ⟨st, b, e1, g, _, pos⟩
  · rcases box_spec okd hv with ⟨e2, _⟩ | ⟨st', b', e2, g', _, pos'⟩
    · rw [e1, e2]
    · exfalso
      have q := (h _ _ (fun k => val_nonneg g' k) (nn pos')).mpr (box_self okd hv e2 g' pos')
      obtain ⟨_, _, z, _⟩ := box_less okc hv g' pos' q
      rw [e1] at z
      cases z
  · have q := (h _ _ (fun k => val_nonneg g k) (nn pos)).mp (box_self okc hv e1 g pos)
    obtain ⟨st', b', e2, g', pos', s1, l1⟩ := box_less okd hv g pos q
    have q2 := (h _ _ (fun k => val_nonneg g' k) (nn pos')).mpr (box_self okd hv e2 g' pos')
    obtain ⟨st2, b2, e3, g2, pos2, s2, l2⟩ := box_less okc hv g' pos' q2
    rw [e1] at e3
    have e4 : st = st2 ∧ b.mergeSort leK = b2.mergeSort leK := by
      have z := Option.some.inj e3
      exact ⟨(Prod.mk.inj z).1, (Prod.mk.inj z).2⟩
    have ev : val b = val b2 := by rw [← val_at g, ← val_at g2, e4.2]
    rw [e1, e2]
    refine congrArg some (box_two g g' s1 (fun n hn => ?_) l1 fun k => ?_)
    · rw [e4.1] at hn
      exact s2 n hn
    · rw [ev]
      exact l2 k
theorem Alike.box {cs ds : List Cmd} (h : Alike cs ds) (okc : AllOk cs) (okd : AllOk ds) {v : Int} (hv : 1 ≤ v) : boxM cs v = boxM ds v :=
  box_sem okc okd hv fun T a hT ha => by rw [h.2 T 0 a hT ha]
theorem Alike.form {cs ds : List Cmd} (h : Alike cs ds) (okc : AllOk cs) (okd : AllOk ds) : formM cs = formM ds := (form_eq cs ds).mpr fun v hv => h.box okc okd hv
/-! ### some lists that are alike -/
theorem alike_up (n : Int) : Alike [.down n, .up n] [] := ⟨by show n + (-n + 0) = 0; omega, fun _ _ _ _ _ => rfl⟩
theorem alike_down (n : Int) : Alike [.up n, .down n] [] := ⟨by show -n + (n + 0) = 0; omega, fun _ _ _ _ _ => rfl⟩
theorem alike_right (p n : Int) (hp : 0 ≤ p) (hn : p ≤ n) : Alike [.right p, .right (n - p)] [.right n] := by
  refine ⟨rfl, fun T r a hT ha => ?_⟩
  have t0 := hT (r + 0)
  have t1 := hT r
  simp only [aimF, aim1, Cmd.dv, Int.add_zero, seen] at *
  cases a with
  | none =>
    simp only [seen]
    refine congrArg some ?_
    omega
  | some x =>
    have := ha x rfl
    simp only [seen]
    refine congrArg some ?_
    omega
theorem alike_left (p n : Int) (hp : 0 ≤ p) (hn : p ≤ n) : Alike [.left p, .left (n - p)] [.left n] := by
  refine ⟨rfl, fun T r a hT ha => ?_⟩
  have t1 := hT r
  simp only [aimF, aim1, Cmd.dv, Int.add_zero, seen] at *
  cases a with
  | none =>
    simp only [seen]
    refine congrArg some ?_
    omega
  | some x =>
    have := ha x rfl
    simp only [seen]
    refine congrArg some ?_
    omega
theorem aimF_home (T : Int → Int) (r : Int) (a : Option Int) (xs : List Cmd) : aimF T r a (xs ++ [.home]) = some 0 := by
  rw [aimF_snoc]
  rfl
theorem aimF_stop (T : Int → Int) (r : Int) (a : Option Int) (xs : List Cmd) : aimF T r a (xs ++ [.stop]) = none := by
  rw [aimF_snoc]
  rfl
theorem last_flat : ∀ {xs : List Cmd}, (∀ c ∈ xs, c.dv = 0) → last xs = 0
  | [], _ => rfl
  | c :: xs, h => by
    show c.dv + last xs = 0
    rw [h c List.mem_cons_self, last_flat fun d hd => h d (List.mem_cons_of_mem _ hd)]
    rfl
theorem alike_home {xs : List Cmd} (h : ∀ c ∈ xs, c.dv = 0) : Alike (xs ++ [.home]) [.home] := by
  refine ⟨?_, fun T r a _ _ => by rw [aimF_home]; rfl⟩
  rw [last_two, last_flat h]
  exact Int.zero_add _
theorem alike_stop {xs : List Cmd} (h : ∀ c ∈ xs, c.dv = 0) : Alike (xs ++ [.stop]) [.stop] := by
  refine ⟨?_, fun T r a _ _ => by rw [aimF_stop]; rfl⟩
  rw [last_two, last_flat h]
  exact Int.zero_add _
theorem alike_home_left (n : Int) (hn : 1 ≤ n) : Alike [.home, .left n] [.home] := by
  refine ⟨rfl, fun T r a hT _ => ?_⟩
  have t1 := hT r
  simp only [aimF, aim1, Cmd.dv, Int.add_zero, seen] at *
  refine congrArg some ?_
  omega
end Gc

/-! what a form's constants are like (k18): where they begin, how they grow -/
namespace Gc
def mvA : Cmd → Int
  | .left n => n
  | .right n => n
  | _ => 0
def tot (r : List Cmd) : Int := (r.map mvA).sum
theorem tot_cons (c : Cmd) (r : List Cmd) : tot (c :: r) = mvA c + tot r := by
  unfold tot
  rw [List.map_cons, List.sum_cons]
theorem mvA_nn {c : Cmd} (h : c.ok) : 0 ≤ mvA c := by
  cases c with
  | left n =>
    have h' : 1 ≤ n := h
    show 0 ≤ n
    omega
  | right n =>
    have h' : 1 ≤ n := h
    show 0 ≤ n
    omega
  | _ => exact Int.le_refl 0
theorem tot_nn : ∀ {r : List Cmd}, AllOk r → 0 ≤ tot r
  | [], _ => Int.le_refl 0
  | c :: r, h => by
    rw [tot_cons]
    have := mvA_nn (h c List.mem_cons_self)
    have := tot_nn (r := r) fun d hd => h d (List.mem_cons_of_mem _ hd)
    omega
theorem tot_rev (r : List Cmd) : tot r.reverse = tot r := by
  unfold tot
  rw [List.map_reverse, sum_rev]
theorem lsum_tot : ∀ {r : List Cmd}, AllOk r → lsum r ≤ tot r
  | [], _ => Int.le_refl 0
  | c :: r, h => by
    rw [tot_cons, lsum_cons]
    have ih := lsum_tot (r := r) fun d hd => h d (List.mem_cons_of_mem _ hd)
    have o := h c List.mem_cons_self
    cases c with
    | right n =>
      have o' : 1 ≤ n := o
      show 0 + _ ≤ n + _
      omega
    | left n => show n + _ ≤ n + _; omega
    | down n => show (0 : Int) + _ ≤ 0 + _; omega
    | up n => show (0 : Int) + _ ≤ 0 + _; omega
    | home => show (0 : Int) + _ ≤ 0 + _; omega
    | stop => show (0 : Int) + _ ≤ 0 + _; omega
theorem req_all {Q : Int → Prop} {b : Ps} {o v : Int} (hb : ∀ q ∈ b, Q q.2) (hv : Q v) : ∀ q ∈ req b o v, Q q.2 := by
  intro q hq
  rcases put_mem hq with e | e
  · rw [e]
    unfold mx
    cases l : look b o with
    | none =>
      show Q (if v > v then v else v)
      rw [if_neg (by omega)]
      exact hv
    | some x =>
      have hx : Q x := hb _ (look_mem l)
      show Q (if x > v then x else v)
      split
      · exact hx
      · exact hv
  · exact hb q e
/-- a piece begins early, and so do its bounds -/
def PB1 (B : Int) (p : Piece) : Prop := 1 ≤ p.1 ∧ p.1 ≤ 1 + B ∧ (∀ s, p.2.1 = some s → p.1 + s ≤ 1 + B) ∧ ∀ L, p.2.2 = some L → ∀ q ∈ L, p.1 + q.2 ≤ 1 + B
theorem pb1_add {B : Int} {ps : List Piece} {p : Piece} (h : ∀ q ∈ ps, PB1 B q) (hp : PB1 B p) : ∀ q ∈ addP ps p, PB1 B q := fun q hq => by
  unfold addP at hq
  split at hq
  · exact h q hq
  · rcases List.mem_append.mp hq with z | z
    · exact h q z
    · rw [List.mem_singleton.mp z]
      exact hp
theorem mem_sortP {b : Ps} {q : Int × Int} : q ∈ sortP b ↔ q ∈ b := (List.mergeSort_perm b leK).mem_iff
theorem goP_tot : ∀ (r : List Cmd) (off added first : Int) (lines : Ps) (found : List Piece) (t B : Int), AllOk r → t + tot r ≤ B → 0 ≤ t → 1 ≤ first → first ≤ 1 + t → first + added ≤ 1 + t → -added ≤ t → (∀ q ∈ lines, q.2 - added ≤ t ∧ first + q.2 ≤ 1 + t) →
    (∀ p ∈ found, PB1 B p) → ∀ p ∈ goP r off added first lines found, PB1 B p
  | [], off, added, first, lines, found, t, B, ok, hB, t0, f1, f2, f3, f4, hl, hf => by
    have e : tot [] = 0 := rfl
    exact pb1_add hf ⟨f1, (by show first ≤ _; omega), fun s hs => by
      obtain rfl : added = s := Option.some.inj hs
      show first + added ≤ _
      omega, fun L hL q hq => by
      obtain rfl : sortP lines = L := Option.some.inj hL
      have := (hl q (mem_sortP.mp hq)).2
      show first + q.2 ≤ _
      omega⟩
  | .home :: r, off, added, first, lines, found, t, B, ok, hB, t0, f1, f2, f3, f4, hl, hf => by
    have := tot_nn ok
    exact pb1_add hf ⟨f1, (by show first ≤ _; omega), (fun s hs => nomatch hs), fun L hL => nomatch hL⟩
  | .stop :: r, off, added, first, lines, found, t, B, ok, hB, t0, f1, f2, f3, f4, hl, hf => by
    have := tot_nn ok
    exact pb1_add hf ⟨f1, (by show first ≤ _; omega), (fun s hs => nomatch hs), fun L hL q hq => by
      obtain rfl : sortP lines = L := Option.some.inj hL
      have := (hl q (mem_sortP.mp hq)).2
      show first + q.2 ≤ _
      omega⟩
  | .right n :: r, off, added, first, lines, found, t, B, ok, hB, t0, f1, f2, f3, f4, hl, hf => by
    have n1 : 1 ≤ n := ok _ List.mem_cons_self
    have ok' : AllOk r := fun c hc => ok c (List.mem_cons_of_mem _ hc)
    have tr := tot_nn ok'
    rw [tot_cons] at hB
    replace hB : t + (n + tot r) ≤ B := hB
    have hl' := req_all (Q := fun x => x - added ≤ t ∧ first + x ≤ 1 + t) (o := off) (v := added) hl ⟨by omega, f3⟩
    simp only [goP]
    split
    · rename_i c
      refine goP_tot r off (added - n) (1 - (added - n)) _ _ (t + n) B ok' (by omega) (by omega) (by omega) (by omega) (by omega) (by omega) (fun q hq => ?_) (pb1_add hf ⟨f1, (by show first ≤ _; omega), (fun s hs => nomatch hs), fun L hL q hq => ?_⟩)
      · have := hl' q hq
        exact ⟨by omega, by omega⟩
      · obtain rfl : sortP (req lines off added) = L := Option.some.inj hL
        have := (hl' q (mem_sortP.mp hq)).2
        show first + q.2 ≤ _
        omega
    · refine goP_tot r off (added - n) first _ _ (t + n) B ok' (by omega) (by omega) f1 (by omega) (by omega) (by omega) (fun q hq => ?_) hf
      have := hl' q hq
      exact ⟨by omega, by omega⟩
  | .left n :: r, off, added, first, lines, found, t, B, ok, hB, t0, f1, f2, f3, f4, hl, hf => by
    have n1 : 1 ≤ n := ok _ List.mem_cons_self
    have ok' : AllOk r := fun c hc => ok c (List.mem_cons_of_mem _ hc)
    rw [tot_cons] at hB
    replace hB : t + (n + tot r) ≤ B := hB
    refine goP_tot r off (added + n) first _ _ (t + n) B ok' (by omega) (by omega) f1 (by omega) (by omega) (by omega) (req_all (Q := fun x => x - (added + n) ≤ t + n ∧ first + x ≤ 1 + (t + n)) (fun q hq => ?_) ⟨by omega, by omega⟩) hf
    have := hl q hq
    exact ⟨by omega, by omega⟩
  | .down n :: r, off, added, first, lines, found, t, B, ok, hB, t0, f1, f2, f3, f4, hl, hf => by
    rw [tot_cons] at hB
    replace hB : t + (0 + tot r) ≤ B := hB
    exact goP_tot r (off - n) added first lines found t B (fun c hc => ok c (List.mem_cons_of_mem _ hc)) (by omega) t0 f1 f2 f3 f4 hl hf
  | .up n :: r, off, added, first, lines, found, t, B, ok, hB, t0, f1, f2, f3, f4, hl, hf => by
    rw [tot_cons] at hB
    replace hB : t + (0 + tot r) ≤ B := hB
    exact goP_tot r (off + n) added first lines found t B (fun c hc => ok c (List.mem_cons_of_mem _ hc)) (by omega) t0 f1 f2 f3 f4 hl hf
theorem form_tot {cs : List Cmd} (ok : AllOk cs) {B : Int} (h : tot cs ≤ B) : ∀ p ∈ formM cs, PB1 B p :=
  goP_tot cs.reverse (last cs) 0 1 [] [] 0 B (allOk_rev ok) (by rw [tot_rev]; omega) (by omega) (by omega) (by omega) (by omega) (by omega) (fun _ h => nomatch h) (fun _ h => nomatch h)
/-! ### runs -/
section
variable {δ : Type} [DecidableEq δ]
theorem Rle.at {D : Int → δ} : ∀ {ps : List (Int × δ)} {a : Int}, Rle D a ps → ∀ v, a ≤ v → (v = a ∨ D v ≠ D (v - 1)) → (v, D v) ∈ ps
  | [(f, d)], a, h, v, hv, hc => by
    obtain ⟨rfl, h2⟩ := h
    rcases hc with rfl | hc
    · rw [h2 v hv]
      exact List.mem_cons_self
    · by_cases z : v = f
      · rw [z, h2 f (Int.le_refl _)]
        exact List.mem_cons_self
      · exact absurd (by rw [h2 v hv, h2 (v - 1) (by omega)]) hc
  | (f, d) :: (g, e) :: r, a, h, v, hv, hc => by
    obtain ⟨rfl, h3, h4, h5, h6⟩ := h
    by_cases z : v < g
    · by_cases q : v = f
      · rw [q, h4 f (Int.le_refl _) h3]
        exact List.mem_cons_self
      · rcases hc with w | w
        · exact absurd w q
        · exact absurd (by rw [h4 v hv z, h4 (v - 1) (by omega) (by omega)]) w
    · refine List.mem_cons_of_mem _ (Rle.at h6 v (by omega) ?_)
      by_cases q : v = g
      · exact .inl q
      · refine .inr ?_
        rcases hc with w | w
        · omega
        · exact w
theorem Rle.far {D : Int → δ} : ∀ {ps : List (Int × δ)} {a m : Int}, Rle D a ps → (∀ p ∈ ps, p.1 ≤ m) → ∀ v, m ≤ v → D v = D m
  | [(f, d)], a, m, h, hm, v, hv => by
    obtain ⟨rfl, h2⟩ := h
    have q : f ≤ m := hm _ List.mem_cons_self
    rw [h2 v (by omega), h2 m q]
  | (f, d) :: (g, e) :: r, a, m, h, hm, v, hv => Rle.far h.2.2.2.2 (fun p hp => hm p (List.mem_cons_of_mem _ hp)) v hv
end
/-! ### the constants -/
/-- the constant of the start, or of a line -/
def cAt (d : PData) : Option Int → Option Int
  | none => d.1
  | some k => d.2.bind fun L => look L k
def dat (cs : List Cmd) (v : Int) : PData := dataOf v (boxM cs v)
/-- what is needed there, 0 for nothing -/
def nd (cs : List Cmd) (o : Option Int) (v : Int) : Int := match cAt (dat cs v) o with
  | none => 0
  | some c => v + c
theorem look_less (v k : Int) : ∀ L : Ps, look (L.map fun q => (q.1, q.2 - v)) k = (look L k).map (· - v)
  | [] => rfl
  | q :: b => by
    show look ((q.1, q.2 - v) :: b.map fun q => (q.1, q.2 - v)) k = _
    rw [look_cons, look_cons]
    by_cases h : q.1 = k
    · rw [if_pos h, if_pos h]
      rfl
    · rw [if_neg h, if_neg h]
      exact look_less v k b
theorem cAt_box {cs : List Cmd} {v : Int} {st : Option Int} {L : Ps} (e : boxM cs v = some (st, L)) : cAt (dat cs v) none = st.map (· - v) ∧ ∀ k, cAt (dat cs v) (some k) = (look L k).map (· - v) := by
  unfold dat
  rw [e]
  exact ⟨rfl, fun k => look_less v k L⟩
theorem nd_box {cs : List Cmd} {v : Int} {st : Option Int} {L : Ps} (e : boxM cs v = some (st, L)) : nd cs none v = st.getD 0 ∧ ∀ k, nd cs (some k) v = val L k := by
  obtain ⟨h1, h2⟩ := cAt_box e
  constructor
  · unfold nd
    rw [h1]
    cases st with
    | none => rfl
    | some n =>
      show v + (n - v) = n
      omega
  · intro k
    unfold nd val
    rw [h2 k]
    cases look L k with
    | none => rfl
    | some n =>
      show v + (n - v) = n
      omega
theorem cAt_none {cs : List Cmd} {v : Int} (e : boxM cs v = none) (o : Option Int) : cAt (dat cs v) o = none := by
  unfold dat
  rw [e]
  cases o <;> rfl
/-- a constant is a bound of at least 1 -/
theorem cAt_pos {cs : List Cmd} (ok : AllOk cs) {v : Int} (hv : 1 ≤ v) {o : Option Int} {c : Int} (h : cAt (dat cs v) o = some c) : 1 ≤ v + c := by
  rcases box_spec ok hv with ⟨e, _⟩ | ⟨st, b, e, g, _, p⟩
  · rw [cAt_none e o] at h
    cases h
  · obtain ⟨h1, h2⟩ := cAt_box e
    cases o with
    | none =>
      rw [h1] at h
      cases st with
      | none => cases h
      | some n =>
        obtain rfl : n - v = c := Option.some.inj h
        have := p n rfl
        omega
    | some k =>
      rw [h2 k, look_perm g (List.mergeSort_perm b leK)] at h
      cases l : look b k with
      | none =>
        rw [l] at h
        cases h
      | some n =>
        rw [l] at h
        obtain rfl : n - v = c := Option.some.inj h
        have := g.pos _ (look_mem l)
        have q : 1 ≤ n := this
        omega
theorem nd_nn {cs : List Cmd} (ok : AllOk cs) {v : Int} (hv : 1 ≤ v) (o : Option Int) : 0 ≤ nd cs o v := by
  unfold nd
  cases e : cAt (dat cs v) o with
  | none => exact Int.le_refl 0
  | some c =>
    have := cAt_pos ok hv e
    show 0 ≤ v + c
    omega
theorem nd_some {cs : List Cmd} (ok : AllOk cs) {v : Int} (hv : 1 ≤ v) {o : Option Int} (h : 1 ≤ nd cs o v) : cAt (dat cs v) o = some (nd cs o v - v) := by
  unfold nd at h ⊢
  cases e : cAt (dat cs v) o with
  | none =>
    rw [e] at h
    exact absurd (show (1 : Int) ≤ 0 from h) (by decide)
  | some c =>
    show some c = some (v + c - v)
    rw [show v + c - v = c by omega]
theorem nd_zero {cs : List Cmd} (ok : AllOk cs) {v : Int} (hv : 1 ≤ v) {o : Option Int} (h : nd cs o v ≤ 0) : cAt (dat cs v) o = none := by
  cases e : cAt (dat cs v) o with
  | none => rfl
  | some c =>
    have := cAt_pos ok hv e
    unfold nd at h
    rw [e] at h
    replace h : v + c ≤ 0 := h
    omega
/-! ### one goal more needs one more everywhere -/
/-- at most one less -/
def Lp (a a' : Option Int) : Prop := ∀ y, a' = some y → ∃ x, a = some x ∧ x - 1 ≤ y
theorem aim1_lp {t t' : Int} {a a' : Option Int} {c : Cmd} (ht : t - 1 ≤ t') (h0 : 0 ≤ t') (h : Lp a a') (g' : ge a' 0) : Lp (aim1 t a c) (aim1 t' a' c) := by
  have sn : seen t a - 1 ≤ seen t' a' ∧ 0 ≤ seen t' a' := by
    cases a' with
    | none =>
      cases a with
      | none => exact ⟨ht, h0⟩
      | some x =>
        refine ⟨?_, h0⟩
        show min x t - 1 ≤ t'
        omega
    | some y =>
      obtain ⟨x, rfl, l⟩ := h y rfl
      have y0 := ge_some.mp g'
      constructor
      · show min x t - 1 ≤ min y t'
        omega
      · show 0 ≤ min y t'
        omega
  cases c with
  | down n => exact h
  | up n => exact h
  | home => exact fun y e => ⟨0, rfl, by cases e; omega⟩
  | stop => exact fun y e => nomatch e
  | right n =>
    intro y e
    have e' : min (seen t' a' + n) t' = y := Option.some.inj e
    exact ⟨_, rfl, by omega⟩
  | left n =>
    intro y e
    have e' : max 0 (seen t' a' - n) = y := Option.some.inj e
    exact ⟨_, rfl, by omega⟩
theorem aimF_lp {T T' : Int → Int} (ht : ∀ k, T k - 1 ≤ T' k) (h0 : ∀ k, 0 ≤ T' k) : ∀ (cs : List Cmd) (r : Int) (a a' : Option Int), AllOk cs → Lp a a' → ge a' 0 → Lp (aimF T r a cs) (aimF T' r a' cs)
  | [], _, _, _, _, h, _ => h
  | c :: cs, r, a, a', ok, h, g' => aimF_lp ht h0 cs (r + c.dv) _ _ (fun d hd => ok d (List.mem_cons_of_mem _ hd)) (aim1_lp (ht _) (h0 _) h g') (aim1_nn (h0 _) g' (ok c List.mem_cons_self))
theorem need_step {cs : List Cmd} (ok : AllOk cs) {v : Int} (hv : 1 ≤ v) (h : boxM cs (v + 1) ≠ none) : boxM cs v ≠ none ∧ ∀ o, nd cs o v ≤ max 0 (nd cs o (v + 1) - 1) := by
  rcases box_spec ok (show 1 ≤ v + 1 by omega) with ⟨e, _⟩ | ⟨st', b', e, g', _, p'⟩
  · exact absurd e h
  · have q := box_self ok (by omega) e g' p'
    have T0 : ∀ k, 0 ≤ max 0 (val b' k - 1) := fun k => by omega
    have a0 : ge (some (max 0 (st'.getD 0 - 1))) 0 := ge_some.mpr (by omega)
    have q2 : ge (aimF (fun k => max 0 (val b' k - 1)) 0 (some (max 0 (st'.getD 0 - 1))) cs) v := by
      intro y ey
      obtain ⟨x, ex, l⟩ := aimF_lp (T := val b') (T' := fun k => max 0 (val b' k - 1)) (fun k => by show val b' k - 1 ≤ max 0 (val b' k - 1); omega) T0 cs 0 (startOf st') (some (max 0 (st'.getD 0 - 1))) ok (fun y e => ⟨_, rfl, by cases e; omega⟩) a0 y ey
      have := q x ex
      omega
    obtain ⟨st, L, e2, h1, h2⟩ := (box_char T0 a0 ok hv).mp q2
    refine ⟨by rw [e2]; simp, fun o => ?_⟩
    obtain ⟨n1, n2⟩ := nd_box e
    obtain ⟨m1, m2⟩ := nd_box e2
    cases o with
    | none =>
      rw [n1, m1]
      cases st with
      | none => show (0 : Int) ≤ _; omega
      | some n => exact ge_some.mp (h1 n rfl)
    | some k =>
      rw [n2 k, m2 k, val_at g']
      have := h2 k
      rw [Int.zero_add] at this
      exact this
theorem box_down {cs : List Cmd} (ok : AllOk cs) {v : Int} (hv : 1 ≤ v) : ∀ (j : Nat), boxM cs (v + j) ≠ none → boxM cs v ≠ none ∧ ∀ o, nd cs o v ≤ max 0 (nd cs o (v + j) - j)
  | 0, h => by
    rw [show v + (0 : Nat) = v by omega] at h ⊢
    exact ⟨h, fun o => by omega⟩
  | j + 1, h => by
    have e : v + (j + 1 : Nat) = v + j + 1 := by omega
    rw [e] at h ⊢
    obtain ⟨h1, h2⟩ := need_step ok (v := v + j) (by omega) h
    obtain ⟨h3, h4⟩ := box_down ok hv j h1
    refine ⟨h3, fun o => ?_⟩
    have := h2 o
    have := h4 o
    omega
end Gc

/-! where the constants of a line change: as often as it is visited, at most (k18) -/
namespace Gc
theorem look_permN {b c : Ps} (g : (keys b).Nodup) (p : c.Perm b) (k : Int) : look c k = look b k := by
  have gc : (keys c).Nodup := (p.map fun q : Int × Int => q.1).nodup_iff.mpr g
  cases l : look b k with
  | some v =>
    have h := mem_look gc (p.mem_iff.mpr (look_mem l))
    exact h
  | none =>
    have h := look_none.mp l
    exact look_none.mpr fun z => h ((p.map fun q : Int × Int => q.1).mem_iff.mp z)
theorem look_sortP {b : Ps} (g : (keys b).Nodup) (k : Int) : look (sortP b) k = look b k := look_permN g (List.mergeSort_perm b leK) k
theorem nodup_req {b : Ps} (g : (keys b).Nodup) (o v : Int) : (keys (req b o v)).Nodup := by
  unfold req
  rw [keys_put]
  split
  · exact g
  · rename_i h
    rw [List.nodup_append]
    refine ⟨g, by simp, fun x hx y hy => ?_⟩
    rw [List.mem_singleton.mp hy]
    exact fun z => h (by rw [← z]; exact hx)
theorem look_req (b : Ps) (o v k : Int) : look (req b o v) k = if o = k then some (mx v ((look b o).getD v)) else look b k := by
  unfold req
  rw [look_put]
/-- (from, to, constant) -/
abbrev Run := Int × Int × Int
structure Runs (cl : Int → Option Int) (f M : Int) (R : List Run) : Prop where
  ok : ∀ x y c, (x, y, c) ∈ R → f ≤ x ∧ ∀ v, x ≤ v → v ≤ y → cl v = some c
  cov : ∀ v c, f ≤ v → v ≤ M → cl v = some c → ∃ x y c', (x, y, c') ∈ R ∧ x ≤ v ∧ v ≤ y
def visits (k : Int) : List Cmd → Int → Nat
  | [], _ => 0
  | .home :: _, _ => 0
  | .stop :: _, _ => 0
  | .right _ :: r, off => (if off = k then 1 else 0) + visits k r off
  | .left _ :: r, off => (if off = k then 1 else 0) + visits k r off
  | .down n :: r, off => visits k r (off - n)
  | .up n :: r, off => visits k r (off + n)
/-- with the run that stands at first -/
def withF (o : Option Int) (f w : Int) (R : List Run) : List Run := match o with
  | some x => (f, w, x) :: R
  | none => R
theorem mem_withF {o : Option Int} {f w : Int} {R : List Run} {q : Run} (h : q ∈ R) : q ∈ withF o f w R := by
  cases o with
  | none => exact h
  | some x => exact List.mem_cons_of_mem _ h
/-- the same run, from the same place on -/
theorem cl_data {v : Int} {st : Option Int} {b : Ps} (g : (keys b).Nodup) (k : Int) : cAt (dataOf v ((some (st, shiftV v b)).map srt)) (some k) = look b k := by
  rw [data_some]
  exact look_sortP g k
theorem runs_line (k M : Int) {D : Int → PData} : ∀ (r : List Cmd) (off a f : Int) (lines : Ps), (keys lines).Nodup → (∀ v, f ≤ v → D v = dataOf v ((go r off (a + v) (shiftV v lines)).map srt)) →
    ∃ w R, R.length ≤ visits k r off ∧ Runs (fun v => cAt (D v) (some k)) f M (withF (look lines k) f w R)
  | [], off, a, f, lines, g, hD => by
    have e : ∀ v, f ≤ v → cAt (D v) (some k) = look lines k := fun v hv => by
      rw [hD v hv]
      exact cl_data g k
    refine ⟨M, [], Nat.le_refl _, ?_⟩
    cases l : look lines k with
    | none => exact ⟨(fun x y c h => nomatch h), fun v c hv _ h => by rw [show cAt (D v) (some k) = _ from e v hv, l] at h; cases h⟩
    | some x =>
      refine ⟨fun x' y' c' h => ?_, fun v c hv hm h => ⟨f, M, x, List.mem_cons_self, hv, hm⟩⟩
      cases List.mem_singleton.mp h
      exact ⟨Int.le_refl _, fun v h1 _ => by show cAt (D v) (some k) = _; rw [e v h1, l]⟩
  | .home :: r, off, a, f, lines, g, hD => by
    have e : ∀ v, f ≤ v → cAt (D v) (some k) = none := fun v hv => by
      rw [hD v hv]
      rfl
    refine ⟨f - 1, [], Nat.le_refl _, ⟨fun x y c h => ?_, fun v c hv _ h => by rw [show cAt (D v) (some k) = _ from e v hv] at h; cases h⟩⟩
    cases l : look lines k with
    | none =>
      rw [l] at h
      cases h
    | some z =>
      rw [l] at h
      cases List.mem_singleton.mp h
      exact ⟨Int.le_refl _, fun v h1 h2 => by omega⟩
  | .stop :: r, off, a, f, lines, g, hD => by
    have e : ∀ v, f ≤ v → cAt (D v) (some k) = look lines k := fun v hv => by
      rw [hD v hv]
      exact cl_data g k
    refine ⟨M, [], Nat.le_refl _, ?_⟩
    cases l : look lines k with
    | none => exact ⟨(fun x y c h => nomatch h), fun v c hv _ h => by rw [show cAt (D v) (some k) = _ from e v hv, l] at h; cases h⟩
    | some x =>
      refine ⟨fun x' y' c' h => ?_, fun v c hv hm h => ⟨f, M, x, List.mem_cons_self, hv, hm⟩⟩
      cases List.mem_singleton.mp h
      exact ⟨Int.le_refl _, fun v h1 _ => by show cAt (D v) (some k) = _; rw [e v h1, l]⟩
  | .right n :: r, off, a, f, lines, g, hD => by
    have key : ∀ v, f ≤ v → D v = dataOf v ((if a + v > n then go r off (a + v - n) (shiftV v (req lines off a)) else some (none, shiftV v (req lines off a))).map srt) := fun v hv => by
      rw [hD v hv]
      simp only [go]
      rw [req_shiftV]
    have g' := nodup_req g off a
    have rest : ∀ f', f ≤ f' → n - a < f' → ∀ v, f' ≤ v → D v = dataOf v ((go r off (a - n + v) (shiftV v (req lines off a))).map srt) := fun f' h1 h2 v hv => by
      rw [key v (by omega), if_pos (by omega), show a + v - n = a - n + v by omega]
    -- the list from f on, with what stands at first in the new lines
    have main : ∃ w R, R.length ≤ visits k r off ∧ Runs (fun v => cAt (D v) (some k)) f M (withF (look (req lines off a) k) f w R) := by
      by_cases c : f ≤ n - a
      · obtain ⟨w, R, h1, h2⟩ := runs_line k M r off (a - n) (n - a + 1) (req lines off a) g' (rest _ (by omega) (by omega))
        have brk : ∀ v, f ≤ v → v ≤ n - a → cAt (D v) (some k) = look (req lines off a) k := fun v v0 v1 => by
          rw [key v v0, if_neg (by omega)]
          exact cl_data g' k
        refine ⟨max (n - a) w, R, h1, ?_⟩
        cases l : look (req lines off a) k with
        | none =>
          rw [l] at h2
          refine ⟨fun x y c' h => ⟨by have := (h2.ok x y c' h).1; omega, (h2.ok x y c' h).2⟩, fun v c' v0 v1 h => ?_⟩
          by_cases q : v ≤ n - a
          · rw [show cAt (D v) (some k) = _ from brk v v0 q, l] at h
            cases h
          · exact h2.cov v c' (by omega) v1 h
        | some x =>
          rw [l] at h2
          refine ⟨fun x' y c' h => ?_, fun v c' v0 v1 h => ?_⟩
          · rcases List.mem_cons.mp h with z | z
            · cases z
              refine ⟨Int.le_refl _, fun v w0 w1 => ?_⟩
              by_cases q : v ≤ n - a
              · show cAt (D v) (some k) = _
                rw [brk v w0 q, l]
              · exact (h2.ok _ _ _ List.mem_cons_self).2 v (by omega) (by omega)
            · have := h2.ok x' y c' (List.mem_cons_of_mem _ z)
              exact ⟨by omega, this.2⟩
          · by_cases q : v ≤ n - a
            · exact ⟨f, max (n - a) w, x, List.mem_cons_self, v0, by omega⟩
            · obtain ⟨x', y, c2, m, i1, i2⟩ := h2.cov v c' (by omega) v1 h
              rcases List.mem_cons.mp m with z | z
              · cases z
                exact ⟨f, max (n - a) w, x, List.mem_cons_self, v0, by omega⟩
              · exact ⟨x', y, c2, List.mem_cons_of_mem _ z, i1, i2⟩
      · exact runs_line k M r off (a - n) f (req lines off a) g' (rest f (Int.le_refl _) (by omega))
    obtain ⟨w, R, h1, h2⟩ := main
    rw [look_req] at h2
    by_cases e : off = k
    · rw [if_pos e] at h2
      refine ⟨f - 1, (f, w, mx a ((look lines off).getD a)) :: R, ?_, ?_⟩
      · show R.length + 1 ≤ (if off = k then 1 else 0) + visits k r off
        rw [if_pos e]
        omega
      · cases l : look lines k with
        | none => exact h2
        | some x =>
          refine ⟨fun x' y c' h => ?_, fun v c' v0 v1 h => ?_⟩
          · rcases List.mem_cons.mp h with z | z
            · cases z
              exact ⟨Int.le_refl _, fun v w0 w1 => by omega⟩
            · exact h2.ok x' y c' z
          · obtain ⟨x', y, c2, m, i1, i2⟩ := h2.cov v c' v0 v1 h
            exact ⟨x', y, c2, List.mem_cons_of_mem _ m, i1, i2⟩
    · rw [if_neg e] at h2
      refine ⟨w, R, ?_, h2⟩
      show R.length ≤ (if off = k then 1 else 0) + visits k r off
      omega
  | .left n :: r, off, a, f, lines, g, hD => by
    have g' := nodup_req g off (a + n)
    obtain ⟨w, R, h1, h2⟩ := runs_line (D := D) k M r off (a + n) f (req lines off (a + n)) g' fun v hv => by
      rw [hD v hv]
      simp only [go]
      rw [show a + v + n = a + n + v by omega, req_shiftV]
    rw [look_req] at h2
    by_cases e : off = k
    · rw [if_pos e] at h2
      refine ⟨f - 1, (f, w, mx (a + n) ((look lines off).getD (a + n))) :: R, ?_, ?_⟩
      · show R.length + 1 ≤ (if off = k then 1 else 0) + visits k r off
        rw [if_pos e]
        omega
      · cases l : look lines k with
        | none => exact h2
        | some x =>
          refine ⟨fun x' y c' h => ?_, fun v c' v0 v1 h => ?_⟩
          · rcases List.mem_cons.mp h with z | z
            · cases z
              exact ⟨Int.le_refl _, fun v w0 w1 => by omega⟩
            · exact h2.ok x' y c' z
          · obtain ⟨x', y, c2, m, i1, i2⟩ := h2.cov v c' v0 v1 h
            exact ⟨x', y, c2, List.mem_cons_of_mem _ m, i1, i2⟩
    · rw [if_neg e] at h2
      refine ⟨w, R, ?_, h2⟩
      show R.length ≤ (if off = k then 1 else 0) + visits k r off
      omega
  | .down n :: r, off, a, f, lines, g, hD => runs_line k M r (off - n) a f lines g fun v hv => by
    rw [hD v hv]
    simp only [go]
  | .up n :: r, off, a, f, lines, g, hD => runs_line k M r (off + n) a f lines g fun v hv => by
    rw [hD v hv]
    simp only [go]
theorem runs_start (M : Int) {D : Int → PData} : ∀ (r : List Cmd) (off a f : Int) (lines : Ps), (∀ v, f ≤ v → D v = dataOf v ((go r off (a + v) (shiftV v lines)).map srt)) →
    ∃ R, R.length ≤ 1 ∧ Runs (fun v => cAt (D v) none) f M R
  | [], off, a, f, lines, hD => by
    have e : ∀ v, f ≤ v → cAt (D v) none = some a := fun v hv => by
      rw [hD v hv]
      show cAt (dataOf v ((some (some (a + v), shiftV v lines)).map srt)) none = some a
      rw [data_some]
      show some (a + v - v) = some a
      rw [show a + v - v = a by omega]
    refine ⟨[(f, M, a)], Nat.le_refl _, ⟨fun x y c h => ?_, fun v c hv hm h => ⟨f, M, a, List.mem_cons_self, hv, hm⟩⟩⟩
    cases List.mem_singleton.mp h
    exact ⟨Int.le_refl _, fun v h1 _ => e v h1⟩
  | .home :: r, off, a, f, lines, hD => by
    refine ⟨[], Nat.zero_le _, ⟨(fun x y c h => nomatch h), fun v c hv _ h => ?_⟩⟩
    rw [show cAt (D v) none = none by rw [hD v hv]; rfl] at h
    cases h
  | .stop :: r, off, a, f, lines, hD => by
    refine ⟨[], Nat.zero_le _, ⟨(fun x y c h => nomatch h), fun v c hv _ h => ?_⟩⟩
    rw [show cAt (D v) none = none by rw [hD v hv]; rfl] at h
    cases h
  | .right n :: r, off, a, f, lines, hD => by
    have key : ∀ v, f ≤ v → D v = dataOf v ((if a + v > n then go r off (a + v - n) (shiftV v (req lines off a)) else some (none, shiftV v (req lines off a))).map srt) := fun v hv => by
      rw [hD v hv]
      simp only [go]
      rw [req_shiftV]
    have rest : ∀ f', f ≤ f' → n - a < f' → ∀ v, f' ≤ v → D v = dataOf v ((go r off (a - n + v) (shiftV v (req lines off a))).map srt) := fun f' h1 h2 v hv => by
      rw [key v (by omega), if_pos (by omega), show a + v - n = a - n + v by omega]
    by_cases c : f ≤ n - a
    · obtain ⟨R, h1, h2⟩ := runs_start M r off (a - n) (n - a + 1) (req lines off a) (rest _ (by omega) (by omega))
      refine ⟨R, h1, ⟨fun x y c' h => ⟨by have := (h2.ok x y c' h).1; omega, (h2.ok x y c' h).2⟩, fun v c' v0 v1 h => ?_⟩⟩
      by_cases q : v ≤ n - a
      · rw [show cAt (D v) none = none by rw [key v v0, if_neg (by omega)]; rfl] at h
        cases h
      · exact h2.cov v c' (by omega) v1 h
    · exact runs_start M r off (a - n) f (req lines off a) (rest f (Int.le_refl _) (by omega))
  | .left n :: r, off, a, f, lines, hD => runs_start M r off (a + n) f (req lines off (a + n)) fun v hv => by
    rw [hD v hv]
    simp only [go]
    rw [show a + v + n = a + n + v by omega, req_shiftV]
  | .down n :: r, off, a, f, lines, hD => runs_start M r (off - n) a f lines fun v hv => by
    rw [hD v hv]
    simp only [go]
  | .up n :: r, off, a, f, lines, hD => runs_start M r (off + n) a f lines fun v hv => by
    rw [hD v hv]
    simp only [go]
/-- how often a place's constant may change -/
def most (cs : List Cmd) : Option Int → Nat
  | none => 1
  | some k => visits k cs.reverse (last cs)
theorem runs_all (cs : List Cmd) (M : Int) (o : Option Int) : ∃ R, R.length ≤ most cs o ∧ Runs (fun v => cAt (dat cs v) o) 1 M R := by
  have hD : ∀ v, 1 ≤ v → dat cs v = dataOf v ((go cs.reverse (last cs) (0 + v) (shiftV v [])).map srt) := fun v _ => by
    rw [Int.zero_add]
    rfl
  cases o with
  | none => exact runs_start M cs.reverse (last cs) 0 1 [] hD
  | some k =>
    obtain ⟨w, R, h1, h2⟩ := runs_line k M cs.reverse (last cs) 0 1 [] List.nodup_nil hD
    exact ⟨R, h1, h2⟩
/-- over different lines: no more visits than commands -/
theorem visits_sum : ∀ (ks : List Int) (r : List Cmd) (off : Int), ks.Nodup → (ks.map fun k => visits k r off).sum ≤ r.length
  | ks, [], off, _ => by
    have e : (ks.map fun k => visits k [] off) = ks.map fun _ => 0 := rfl
    rw [e, List.map_const', List.sum_replicate_nat]
    omega
  | ks, .home :: r, off, _ => by
    have e : (ks.map fun k => visits k (.home :: r) off) = ks.map fun _ => 0 := rfl
    rw [e, List.map_const', List.sum_replicate_nat]
    omega
  | ks, .stop :: r, off, _ => by
    have e : (ks.map fun k => visits k (.stop :: r) off) = ks.map fun _ => 0 := rfl
    rw [e, List.map_const', List.sum_replicate_nat]
    omega
  | ks, .down n :: r, off, h => Nat.le_trans (visits_sum ks r (off - n) h) (Nat.le_succ _)
  | ks, .up n :: r, off, h => Nat.le_trans (visits_sum ks r (off + n) h) (Nat.le_succ _)
  | ks, .right n :: r, off, h => by
    have q := visits_sum ks r off h
    have e : (ks.map fun k => visits k (.right n :: r) off).sum ≤ (ks.map fun k => visits k r off).sum + 1 := one_more (fun k => visits k r off) off ks h
    show _ ≤ r.length + 1
    omega
  | ks, .left n :: r, off, h => by
    have q := visits_sum ks r off h
    have e : (ks.map fun k => visits k (.left n :: r) off).sum ≤ (ks.map fun k => visits k r off).sum + 1 := one_more (fun k => visits k r off) off ks h
    show _ ≤ r.length + 1
    omega
where
  one_more (g : Int → Nat) (off : Int) : ∀ (ks : List Int), ks.Nodup → (ks.map fun k => (if off = k then 1 else 0) + g k).sum ≤ (ks.map g).sum + 1
    | [], _ => by simp
    | k :: ks, h => by
      rw [List.map_cons, List.sum_cons, List.map_cons, List.sum_cons]
      obtain ⟨h1, h2⟩ := List.nodup_cons.mp h
      by_cases e : off = k
      · have z : (ks.map fun k => (if off = k then 1 else 0) + g k) = ks.map g := List.map_congr_left fun x hx => by
          rw [if_neg fun z => h1 (by rw [← e, z]; exact hx), Nat.zero_add]
        rw [z, if_pos e]
        omega
      · have := one_more g off ks h2
        rw [if_neg e]
        omega
end Gc

/-! learning one place: the goal as a function of the bound, points without a bend between, what is found (k18) -/
namespace Gc
/-- g b is the goal for the bound b at the place o, for bounds up to S + 1 -/
structure GF (cs : List Cmd) (o : Option Int) (S : Int) (g : Int → Int) : Prop where
  nn : ∀ b, 0 ≤ b → b ≤ S + 1 → 0 ≤ g b
  le : ∀ b, 0 ≤ b → b ≤ S + 1 → g b ≤ S + b
  iff : ∀ b v, 0 ≤ b → b ≤ S + 1 → 1 ≤ v → v ≤ 2 * S + 2 → (v ≤ g b ↔ boxM cs v ≠ none ∧ nd cs o v ≤ b)
def Strt (g : Int → Int) (b c : Int) : Prop := g c - g b = 0 ∨ g c - g b = c - b
section
variable {cs : List Cmd} {o : Option Int} {S : Int} {g : Int → Int}
theorem GF.mono (G : GF cs o S g) {b c : Int} (h0 : 0 ≤ b) (h : b ≤ c) (h1 : c ≤ S + 1) : g b ≤ g c := by
  have n1 := G.nn c (by omega) h1
  have n2 := G.le b h0 (by omega)
  by_cases z : 1 ≤ g b
  · have q := (G.iff b (g b) h0 (by omega) z (by omega)).mp (Int.le_refl _)
    exact (G.iff c (g b) (by omega) h1 z (by omega)).mpr ⟨q.1, by have := q.2; omega⟩
  · omega
theorem GF.lip (G : GF cs o S g) (ok : AllOk cs) {b c : Int} (h0 : 0 ≤ b) (h : b ≤ c) (h1 : c ≤ S + 1) : g c ≤ g b + (c - b) := by
  refine Classical.byContradiction fun z => ?_
  have n1 := G.nn b h0 (by omega)
  have n2 := G.le c (by omega) h1
  have q := (G.iff c (g b + 1 + (c - b)) (by omega) h1 (by omega) (by omega)).mp (by omega)
  obtain ⟨j, hj⟩ : ∃ j : Nat, (j : Int) = c - b := ⟨(c - b).toNat, by omega⟩
  rw [← hj] at q
  obtain ⟨q1, q2⟩ := box_down ok (v := g b + 1) (by omega) j q.1
  have q3 := q2 o
  have q4 := q.2
  have := (G.iff b (g b + 1) h0 (by omega) (by omega) (by omega)).mpr ⟨q1, by omega⟩
  omega
theorem GF.short (G : GF cs o S g) (ok : AllOk cs) {b c : Int} (h0 : 0 ≤ b) (h : b ≤ c) (h1 : c ≤ S + 1) (hs : c - b ≤ 1) : Strt g b c := by
  have m := G.mono h0 h h1
  have l := G.lip ok h0 h h1
  unfold Strt
  omega
/-- between two ends without a bend -/
theorem GF.between (G : GF cs o S g) (ok : AllOk cs) {b c x : Int} (h0 : 0 ≤ b) (h : b ≤ x) (h2 : x ≤ c) (h1 : c ≤ S + 1) (hs : Strt g b c) (up : g b < g c) : g x = g b + (x - b) := by
  have l1 := G.lip ok h0 h (by omega)
  have l2 := G.lip ok (by omega) h2 h1
  unfold Strt at hs
  omega
/-- on a rising stretch the constant is the bound less the goal -/
theorem GF.const (G : GF cs o S g) (ok : AllOk cs) {b c v : Int} (h0 : 0 ≤ b) (h : b ≤ c) (h1 : c ≤ S + 1) (hs : Strt g b c) (v0 : g b < v) (v1 : v ≤ g c) : nd cs o v - v = b - g b := by
  have n0 := G.nn b h0 (by omega)
  have l := G.le c (by omega) h1
  have lp := G.lip ok h0 h h1
  have e1 := G.between ok (x := b + (v - g b)) h0 (by omega) (by omega) h1 hs (by omega)
  have e2 := G.between ok (x := b + (v - g b) - 1) h0 (by omega) (by omega) h1 hs (by omega)
  have q := (G.iff (b + (v - g b)) v (by omega) (by omega) (by omega) (by omega)).mp (by omega)
  have q2 : ¬ nd cs o v ≤ b + (v - g b) - 1 := fun z => by
    have := (G.iff (b + (v - g b) - 1) v (by omega) (by omega) (by omega) (by omega)).mpr ⟨q.1, z⟩
    omega
  have := q.2
  omega
/-! ### bends -/
def bends (R : List Run) : List Int := R.flatMap fun q => [q.1 - 1 + q.2.2, q.2.1 + q.2.2]
theorem bends_len : ∀ R : List Run, (bends R).length = 2 * R.length
  | [] => rfl
  | q :: R => by
    show ((q.1 - 1 + q.2.2) :: (q.2.1 + q.2.2) :: bends R).length = 2 * (R.length + 1)
    rw [List.length_cons, List.length_cons, bends_len R]
    omega
theorem mem_bends {R : List Run} {x y c : Int} (h : (x, y, c) ∈ R) : x - 1 + c ∈ bends R ∧ y + c ∈ bends R :=
  ⟨List.mem_flatMap.mpr ⟨_, h, List.mem_cons_self⟩, List.mem_flatMap.mpr ⟨_, h, List.mem_cons_of_mem _ List.mem_cons_self⟩⟩
theorem GF.bend (G : GF cs o S g) (ok : AllOk cs) {R : List Run} (hR : Runs (fun v => cAt (dat cs v) o) 1 (2 * S + 2) R) {b c : Int} (h0 : 0 ≤ b) (h : b ≤ c) (h1 : c ≤ S + 1) (hz : ∀ z ∈ bends R, ¬ (b < z ∧ z < c)) : Strt g b c := by
  have mo := G.mono h0 h h1
  by_cases up : g b < g c
  · refine .inr ?_
    have n0 := G.nn b h0 (by omega)
    have lb := G.le b h0 (by omega)
    have lc := G.le c (by omega) h1
    have lp := G.lip ok h0 h h1
    have q := (G.iff c (g b + 1) (by omega) h1 (by omega) (by omega)).mp (by omega)
    have q0 : ¬ nd cs o (g b + 1) ≤ b := fun z => by
      have := (G.iff b (g b + 1) h0 (by omega) (by omega) (by omega)).mpr ⟨q.1, z⟩
      omega
    have hc := nd_some ok (v := g b + 1) (by omega) (o := o) (by omega)
    have qn := q.2
    generalize hk : nd cs o (g b + 1) = nv at hc q0 qn
    obtain ⟨x, y, k, m, i1, i2⟩ := hR.cov (g b + 1) _ (by omega) (by omega) hc
    have hx := (hR.ok x y k m).1
    have hrun := (hR.ok x y k m).2
    have ek : k = nv - (g b + 1) := by
      have z := hrun (g b + 1) i1 i2
      rw [hc] at z
      exact (Option.some.inj z).symm
    have z1 := hz _ (mem_bends m).1
    have z2 := hz _ (mem_bends m).2
    have b1 : x - 1 + k ≤ b := by omega
    have b2 : b = g b + k := by
      by_cases e : g b + 1 = x
      · omega
      · have z := hrun (g b) (by omega) (by omega)
        have w := (G.iff b (g b) h0 (by omega) (by omega) (by omega)).mp (Int.le_refl _)
        have e3 : nd cs o (g b) = g b + k := by
          unfold nd
          rw [show cAt (dat cs (g b)) o = some k from z]
        have := w.2
        omega
    have b3 : c ≤ y + k := by omega
    have z := hrun (c - k) (by omega) (by omega)
    have e3 : nd cs o (c - k) = c := by
      unfold nd
      rw [show cAt (dat cs (c - k)) o = some k from z]
      show c - k + k = c
      omega
    have bx : boxM cs (c - k) ≠ none := fun e => by
      have z' : cAt (dat cs (c - k)) o = some k := z
      rw [cAt_none e] at z'
      cases z'
    have := (G.iff c (c - k) (by omega) h1 (by omega) (by omega)).mpr ⟨bx, by omega⟩
    omega
  · exact .inl (by omega)
end
/-- bends strictly between -/
def inside (Z : List Int) (b c : Int) : Nat := Z.countP fun z => decide (b < z ∧ z < c)
theorem inside_split (b m c : Int) (h1 : b ≤ m) (h2 : m ≤ c) : ∀ Z : List Int, inside Z b m + inside Z m c ≤ inside Z b c
  | [] => Nat.le_refl _
  | z :: Z => by
    have ih := inside_split b m c h1 h2 Z
    unfold inside at *
    rw [List.countP_cons, List.countP_cons, List.countP_cons]
    by_cases q1 : b < z ∧ z < m
    · have q2 : ¬ (m < z ∧ z < c) := by omega
      have q3 : b < z ∧ z < c := by omega
      simp only [decide_eq_true q1, decide_eq_false q2, decide_eq_true q3]
      simp only [if_true, Bool.false_eq_true, if_false]
      omega
    · by_cases q2 : m < z ∧ z < c
      · have q3 : b < z ∧ z < c := by omega
        simp only [decide_eq_false q1, decide_eq_true q2, decide_eq_true q3]
        simp only [if_true, Bool.false_eq_true, if_false]
        omega
      · simp only [decide_eq_false q1, decide_eq_false q2]
        simp only [Bool.false_eq_true, if_false]
        split <;> omega
theorem inside_le (Z : List Int) (b c : Int) : inside Z b c ≤ Z.length := List.countP_le_length
theorem inside_zero {Z : List Int} {b c : Int} (h : inside Z b c = 0) : ∀ z ∈ Z, ¬ (b < z ∧ z < c) := fun z hz q => by
  unfold inside at h
  have := List.countP_eq_zero.mp h z hz
  exact this (decide_eq_true q)
/-! ### points, one after the other, without a bend between -/
def Chn (g : Int → Int) : Int → List Int → Prop
  | _, [] => True
  | b, c :: r => b ≤ c ∧ Strt g b c ∧ Chn g c r
def endC (b : Int) (q : List Int) : Int := q.getLast?.getD b
theorem endC_cons (b c : Int) (q : List Int) : endC b (c :: q) = endC c q := by
  unfold endC
  cases q with
  | nil => rfl
  | cons x r =>
    rw [List.getLast?_cons_cons]
    cases e : (x :: r).getLast? with
    | none => simp at e
    | some y => rfl
theorem chn_app {g : Int → Int} : ∀ {q1 q2 : List Int} {b : Int}, Chn g b q1 → Chn g (endC b q1) q2 → Chn g b (q1 ++ q2) ∧ endC b (q1 ++ q2) = endC (endC b q1) q2
  | [], q2, b, _, h => ⟨h, rfl⟩
  | c :: r, q2, b, h, h' => by
    obtain ⟨h1, h2, h3⟩ := h
    rw [endC_cons] at h' ⊢
    obtain ⟨i1, i2⟩ := chn_app h3 h'
    exact ⟨⟨h1, h2, i1⟩, by rw [List.cons_append, endC_cons]; exact i2⟩
/-- what is found along the points -/
def fnd (g : Int → Int) : Int → List Int → List (Int × Int) → List (Int × Int)
  | _, [], acc => acc
  | b, c :: r, acc => fnd g c r (if g b < g c then addP acc (g b + 1, b - g b) else acc)
theorem fnd_seg {cs : List Cmd} {o : Option Int} {S : Int} {g : Int → Int} (G : GF cs o S g) (ok : AllOk cs) {a : Int} : ∀ (q : List Int) (b : Int) (acc : List (Int × Int)), 0 ≤ b → Chn g b q → endC b q ≤ S + 1 → (∀ x ∈ q, x ≤ S + 1) → b ≤ S + 1 → Seg (fun v => nd cs o v - v) a acc (g b + 1) →
    Seg (fun v => nd cs o v - v) a (fnd g b q acc) (g (endC b q) + 1)
  | [], b, acc, _, _, _, _, _, h => h
  | c :: r, b, acc, b0, hc, he, hm, hb, h => by
    obtain ⟨h1, h2, h3⟩ := hc
    rw [endC_cons] at he ⊢
    have c1 := hm c List.mem_cons_self
    have mo := G.mono b0 h1 c1
    refine fnd_seg G ok r c _ (by omega) h3 he (fun x hx => hm x (List.mem_cons_of_mem _ hx)) c1 ?_
    split
    · rename_i up
      exact h.add (by omega) fun v v0 v1 => G.const ok b0 h1 c1 h2 (by omega) (by omega)
    · have e : g c = g b := by omega
      rw [e]
      exact h
/-! ### what a list of runs tells -/
section
variable {δ : Type} [DecidableEq δ]
theorem Seg.inn {D : Int → δ} : ∀ {ps : List (Int × δ)} {a b : Int}, Seg D a ps b → ∀ v d, (v, d) ∈ ps → a ≤ v ∧ v < b ∧ d = D v
  | (f, x) :: r, a, b, h, v, d, hm => by
    obtain ⟨rfl, c, h1, h2, h3, h4⟩ := h
    have := Seg.le h4
    rcases List.mem_cons.mp hm with z | z
    · cases z
      exact ⟨Int.le_refl _, by omega, (h2 _ (Int.le_refl _) h1).symm⟩
    · obtain ⟨q1, q2, q3⟩ := Seg.inn h4 v d z
      exact ⟨by omega, q2, q3⟩
theorem Seg.begin {D : Int → δ} : ∀ {ps : List (Int × δ)} {a b : Int}, Seg D a ps b → ∀ v d, (v, d) ∈ ps → v = a ∨ D v ≠ D (v - 1)
  | (f, x) :: r, a, b, h, v, d, hm => by
    obtain ⟨rfl, c, h1, h2, h3, h4⟩ := h
    rcases List.mem_cons.mp hm with z | z
    · cases z
      exact .inl rfl
    · refine .inr ?_
      rcases Seg.begin h4 v d z with e | e
      · subst e
        cases r with
        | nil => cases z
        | cons y r =>
          obtain ⟨f2, x2⟩ := y
          have e0 : f2 = v := h4.1
          subst e0
          have n := h3 _ rfl
          obtain ⟨_, c2, w1, w2, _⟩ := h4
          rw [w2 f2 (Int.le_refl _) w1, h2 (f2 - 1) (by omega) (by omega)]
          exact n
      · exact e
theorem Seg.has {D : Int → δ} : ∀ {ps : List (Int × δ)} {a b : Int}, Seg D a ps b → ∀ v, a ≤ v → v < b → (v = a ∨ D v ≠ D (v - 1)) → (v, D v) ∈ ps
  | [], a, b, h, v, h0, h1, _ => by
    have e : a = b := h
    omega
  | (f, x) :: r, a, b, h, v, h0, h1, hc => by
    obtain ⟨rfl, c, q1, q2, q3, q4⟩ := h
    by_cases z : v < c
    · have e : v = f := by
        rcases hc with e | e
        · exact e
        · refine Classical.byContradiction fun w => e ?_
          rw [q2 v h0 z, q2 (v - 1) (by omega) (by omega)]
      rw [e, q2 f (Int.le_refl _) q1]
      exact List.mem_cons_self
    · refine List.mem_cons_of_mem _ (Seg.has q4 v (by omega) h1 ?_)
      rcases hc with e | e
      · omega
      · exact .inr e
theorem Seg.asc {D : Int → δ} : ∀ {ps : List (Int × δ)} {a b : Int}, Seg D a ps b → ps.Pairwise fun p q => p.1 < q.1
  | [], _, _, _ => .nil
  | (f, x) :: r, a, b, h => by
    obtain ⟨rfl, c, q1, q2, q3, q4⟩ := h
    refine .cons (fun p hp => ?_) (Seg.asc q4)
    have := (Seg.inn q4 p.1 p.2 hp).1
    show f < p.1
    omega
end
end Gc

/-! what is learned at all places together is the form (k18) -/
namespace Gc
/-- the last goal that is learned: all goals up to it can be reached; it is far enough -/
structure Ends (cs : List Cmd) (S last : Int) : Prop where
  le : last ≤ S + 1
  nn : 0 ≤ last
  box : ∀ v, 1 ≤ v → v ≤ last → boxM cs v ≠ none
  fin : last = S + 1 ∨ (last ≤ S ∧ ∀ v, last < v → boxM cs v = none)
/-- where the constant of a place changes, and to what -/
def FoundM (cs : List Cmd) (o : Option Int) (last : Int) (F : List (Int × Int)) : Prop :=
  (F.Pairwise fun p q => p.1 < q.1) ∧ ∀ v c, (v, c) ∈ F ↔ 1 ≤ v ∧ v ≤ last ∧ cAt (dat cs v) o = some c ∧ (v = 1 ∨ cAt (dat cs (v - 1)) o ≠ some c)
section
variable {cs : List Cmd} {o : Option Int} {S last : Int} {g : Int → Int}
theorem cAt_bx {v c : Int} (h : cAt (dat cs v) o = some c) : boxM cs v ≠ none := fun e => by
  rw [cAt_none e] at h
  cases h
theorem nd_of {v c : Int} (h : cAt (dat cs v) o = some c) : nd cs o v = v + c := by
  unfold nd
  rw [h]
/-- a change comes early, with an early bound -/
theorem chg_leL (ok : AllOk cs) (ht : tot cs ≤ S) {v c : Int} (hv : 1 ≤ v) (h : cAt (dat cs v) o = some c) (hc : v = 1 ∨ cAt (dat cs (v - 1)) o ≠ some c) : v ≤ S + 1 ∧ v + c ≤ S + 1 := by
  have m := (form_rle cs).at v hv (by
    rcases hc with e | e
    · exact .inl e
    · refine .inr fun z => e ?_
      have z' : dat cs v = dat cs (v - 1) := z
      rw [← z']
      exact h)
  obtain ⟨_, p2, p3, p4⟩ := form_tot ok ht _ m
  refine ⟨by show v ≤ S + 1; have q : v ≤ 1 + S := p2; omega, ?_⟩
  cases o with
  | none =>
    have q := p3 c h
    have q' : v + c ≤ 1 + S := q
    omega
  | some k =>
    cases e : (dat cs v).2 with
    | none =>
      unfold cAt at h
      rw [e] at h
      cases h
    | some L =>
      unfold cAt at h
      rw [e] at h
      have q := p4 L e _ (look_mem (show look L k = some c from h))
      have q' : v + c ≤ 1 + S := q
      omega
theorem no_vanish (ok : AllOk cs) {v : Int} (hv : 2 ≤ v) (hb : boxM cs v ≠ none) (h : cAt (dat cs v) o = none) : cAt (dat cs (v - 1)) o = none := by
  have q := (need_step ok (v := v - 1) (by omega) (by rw [show v - 1 + 1 = v by omega]; exact hb)).2 o
  rw [show v - 1 + 1 = v by omega] at q
  have z : nd cs o v = 0 := by
    unfold nd
    rw [h]
  exact nd_zero ok (by omega) (by omega)
theorem found_spec (ok : AllOk cs) (ht : tot cs ≤ S) (E : Ends cs S last) (G : GF cs o S g) {F : List (Int × Int)} (hF : Seg (fun v => nd cs o v - v) (g 0 + 1) F (g (S + 1) + 1)) : FoundM cs o last F := by
  have S0 : 0 ≤ S := by
    have := tot_nn ok
    omega
  have g0 := G.nn 0 (Int.le_refl _) (by omega)
  have g1 := G.le (S + 1) (by omega) (Int.le_refl _)
  -- between the two ends
  have mid : ∀ v, g 0 < v → v ≤ g (S + 1) → cAt (dat cs v) o = some (nd cs o v - v) := fun v v0 v1 => by
    have q := (G.iff (S + 1) v (by omega) (Int.le_refl _) (by omega) (by omega)).mp v1
    have q2 : ¬ nd cs o v ≤ 0 := fun z => by
      have := (G.iff 0 v (Int.le_refl _) (by omega) (by omega) (by omega)).mpr ⟨q.1, z⟩
      omega
    exact nd_some ok (by omega) (by omega)
  refine ⟨hF.asc, fun v c => ⟨fun h => ?_, fun ⟨v1, v2, h1, h2⟩ => ?_⟩⟩
  · obtain ⟨q1, q2, q3⟩ := hF.inn v c h
    have hc : cAt (dat cs v) o = some c := by
      rw [q3]
      exact mid v (by omega) (by omega)
    have ch : v = 1 ∨ cAt (dat cs (v - 1)) o ≠ some c := by
      by_cases e1 : v = 1
      · exact .inl e1
      · refine .inr ?_
        by_cases e : v = g 0 + 1
        · have w := (G.iff 0 (v - 1) (Int.le_refl _) (by omega) (by omega) (by omega)).mp (by omega)
          rw [nd_zero ok (by omega) w.2]
          exact fun z => nomatch z
        · rcases hF.begin v c h with w | w
          · exact absurd w e
          · rw [mid (v - 1) (by omega) (by omega), q3]
            exact fun z => w (Option.some.inj z).symm
    refine ⟨by omega, ?_, hc, ch⟩
    have := (chg_leL ok ht (by omega) hc ch).1
    rcases E.fin with e | ⟨e1, e2⟩
    · omega
    · refine Classical.byContradiction fun z => cAt_bx hc (e2 v (by omega))
  · have l := chg_leL ok ht v1 h1 h2
    have n := nd_of h1
    have ps := cAt_pos ok v1 h1
    have le2 := E.le
    have a1 : v ≤ g (S + 1) := (G.iff (S + 1) v (by omega) (Int.le_refl _) v1 (by omega)).mpr ⟨cAt_bx h1, by omega⟩
    have a0 : ¬ v ≤ g 0 := fun z => by
      have := ((G.iff 0 v (Int.le_refl _) (by omega) v1 (by omega)).mp z).2
      omega
    have m := hF.has v (by omega) (by omega) (by
      by_cases e : v = g 0 + 1
      · exact .inl e
      · refine .inr fun z => ?_
        have b := mid (v - 1) (by omega) (by omega)
        have w : nd cs o v - v = nd cs o (v - 1) - (v - 1) := z
        rw [← w] at b
        rcases h2 with e1 | e1
        · omega
        · exact e1 (by rw [b, n, show v + c - v = c by omega]))
    have w : nd cs o v - v = c := by omega
    rw [w] at m
    exact m
theorem found_empty (h : ∀ v, 1 ≤ v → v ≤ last → cAt (dat cs v) o = none) : FoundM cs o last [] :=
  ⟨.nil, fun v c => ⟨(fun z => nomatch z), fun ⟨v1, v2, z, _⟩ => by rw [h v v1 v2] at z; cases z⟩⟩
theorem asc_shift (v : Int) {b : Ps} (h : Asc b) : Asc (b.map fun q => (q.1, q.2 - v)) := by
  unfold Asc at *
  rw [List.pairwise_map]
  exact h
theorem dat_some (ok : AllOk cs) {v : Int} (hv : 1 ≤ v) (h : boxM cs v ≠ none) : ∃ L, (dat cs v).2 = some L ∧ Asc L := by
  rcases box_spec ok hv with ⟨e, _⟩ | ⟨st, b, e, gb, _, _⟩
  · exact absurd e h
  · refine ⟨_, ?_, asc_shift v (asc_sort gb)⟩
    unfold dat
    rw [e]
    rfl
theorem dat_ext (ok : AllOk cs) {v w : Int} (hv : 1 ≤ v) (hw : 1 ≤ w) (h1 : boxM cs v ≠ none) (h2 : boxM cs w ≠ none) (h : ∀ o, cAt (dat cs v) o = cAt (dat cs w) o) : dat cs v = dat cs w := by
  obtain ⟨L, e1, a1⟩ := dat_some ok hv h1
  obtain ⟨M, e2, a2⟩ := dat_some ok hw h2
  refine Prod.ext (h none) ?_
  rw [e1, e2]
  refine congrArg some (asc_ext a1 a2 fun k => ?_)
  have q := h (some k)
  unfold cAt at q
  rw [e1, e2] at q
  exact q
theorem dat_none {v : Int} (h : boxM cs v = none) : dat cs v = (none, none) := by
  unfold dat
  rw [h]
  rfl
end
/-! ### all places together -/
section
variable {cs : List Cmd} {S last : Int} {Os : List (Option Int)} {Fs : Option Int → List (Int × Int)}
structure Lrn (cs : List Cmd) (S last : Int) (Os : List (Option Int)) (Fs : Option Int → List (Int × Int)) : Prop where
  ok : AllOk cs
  ht : tot cs ≤ S
  E : Ends cs S last
  F : ∀ o ∈ Os, FoundM cs o last (Fs o)
  out : ∀ o, o ∉ Os → ∀ v, 1 ≤ v → cAt (dat cs v) o = none
/-- a goal with which a piece begins -/
def IsKey (last : Int) (Os : List (Option Int)) (Fs : Option Int → List (Int × Int)) (f : Int) : Prop := (f = 1 ∧ 0 < last) ∨ ∃ o ∈ Os, ∃ c, (f, c) ∈ Fs o
theorem Lrn.key_le (L : Lrn cs S last Os Fs) {f : Int} (h : IsKey last Os Fs f) : 1 ≤ f ∧ f ≤ last := by
  rcases h with ⟨e, l⟩ | ⟨o, ho, c, hc⟩
  · omega
  · have q := ((L.F o ho).2 f c).mp hc
    exact ⟨q.1, q.2.1⟩
theorem Lrn.key (L : Lrn cs S last Os Fs) {v : Int} (hv : 2 ≤ v) : IsKey last Os Fs v ↔ v ≤ last ∧ dat cs v ≠ dat cs (v - 1) := by
  constructor
  · rintro (⟨e, _⟩ | ⟨o, ho, c, hc⟩)
    · omega
    · obtain ⟨_, q2, q3, q4⟩ := ((L.F o ho).2 v c).mp hc
      refine ⟨q2, fun z => ?_⟩
      rcases q4 with e | e
      · omega
      · exact e (by rw [← z]; exact q3)
  · rintro ⟨h1, h2⟩
    refine .inr (Classical.byContradiction fun z => h2 ?_)
    refine dat_ext L.ok (by omega) (by omega) (L.E.box v (by omega) h1) (L.E.box (v - 1) (by omega) (by omega)) fun o => ?_
    by_cases ho : o ∈ Os
    · cases e : cAt (dat cs v) o with
      | none => exact (no_vanish L.ok hv (L.E.box v (by omega) h1) e).symm
      | some c =>
        refine Classical.byContradiction fun w => z ⟨o, ho, c, ((L.F o ho).2 v c).mpr ⟨by omega, h1, e, .inr fun q => w q.symm⟩⟩
    · rw [L.out o ho v (by omega), L.out o ho (v - 1) (by omega)]
/-- the constants behind a key, from those ahead of it -/
theorem Lrn.step (L : Lrn cs S last Os Fs) {f : Int} (hk : IsKey last Os Fs f) {m : Option Int → Option Int} (hm : (f = 1 ∧ ∀ o, m o = none) ∨ (2 ≤ f ∧ ∀ o, m o = cAt (dat cs (f - 1)) o)) {m' : Option Int → Option Int}
    (h1 : ∀ o ∈ Os, ∀ c, (f, c) ∈ Fs o → m' o = some c) (h2 : ∀ o, (o ∉ Os ∨ ∀ c, (f, c) ∉ Fs o) → m' o = m o) : ∀ o, m' o = cAt (dat cs f) o := fun o => by
  obtain ⟨f1, fl⟩ := L.key_le hk
  by_cases ho : o ∈ Os
  · by_cases hc : ∃ c, (f, c) ∈ Fs o
    · obtain ⟨c, hc⟩ := hc
      rw [h1 o ho c hc, (((L.F o ho).2 f c).mp hc).2.2.1]
    · rw [h2 o (.inr fun c hc' => hc ⟨c, hc'⟩)]
      cases e : cAt (dat cs f) o with
      | none =>
        rcases hm with ⟨_, q⟩ | ⟨q1, q⟩
        · exact q o
        · rw [q o]
          exact no_vanish L.ok q1 (L.E.box f f1 fl) e
      | some c =>
        rcases hm with ⟨e1, _⟩ | ⟨q1, q⟩
        · exact absurd ⟨c, ((L.F o ho).2 f c).mpr ⟨f1, fl, e, .inl e1⟩⟩ hc
        · rw [q o]
          refine Classical.byContradiction fun w => hc ⟨c, ((L.F o ho).2 f c).mpr ⟨f1, fl, e, .inr w⟩⟩
  · rw [h2 o (.inl ho), L.out o ho f f1]
    rcases hm with ⟨_, q⟩ | ⟨q1, q⟩
    · exact q o
    · rw [q o, L.out o ho (f - 1) (by omega)]
/-- between two keys nothing changes -/
theorem Lrn.calm (L : Lrn cs S last Os Fs) {f : Int} (f1 : 1 ≤ f) : ∀ (j : Nat), f + j ≤ last → (∀ v, f < v → v ≤ f + j → ¬ IsKey last Os Fs v) → dat cs (f + j) = dat cs f
  | 0, _, _ => by rw [show f + (0 : Nat) = f by omega]
  | j + 1, h, hn => by
    have ih := L.calm f1 j (by omega) fun v v0 v1 => hn v v0 (by omega)
    rw [← ih]
    refine Classical.byContradiction fun z => hn (f + (j + 1 : Nat)) (by omega) (Int.le_refl _) ((L.key (by omega)).mpr ⟨h, fun w => z ?_⟩)
    rw [w, show f + (j + 1 : Nat) - 1 = f + j by omega]
end
/-! ### runs from their keys -/
theorem rle_keys {δ : Type} [DecidableEq δ] {D : Int → δ} : ∀ (r : List Int) (a : Int), (a :: r).Pairwise (· < ·) → (∀ v, a < v → v ∉ r → D v = D (v - 1)) → (∀ v ∈ r, D v ≠ D (v - 1)) → Rle D a ((a :: r).map fun f => (f, D f))
  | [], a, _, h1, _ => by
    refine ⟨rfl, fun v hv => ?_⟩
    obtain ⟨j, hj⟩ : ∃ j : Nat, v = a + j := ⟨(v - a).toNat, by omega⟩
    subst hj
    clear hv
    induction j with
    | zero => rw [show a + (0 : Nat) = a by omega]
    | succ j ih => rw [h1 (a + (j + 1 : Nat)) (by omega) (fun z => nomatch z), show a + (j + 1 : Nat) - 1 = a + j by omega, ih]
  | b :: r, a, hp, h1, h2 => by
    obtain ⟨q1, q2⟩ := List.pairwise_cons.mp hp
    have ab := q1 b List.mem_cons_self
    have hbr := (List.pairwise_cons.mp q2).1
    have flat : ∀ j : Nat, a + j < b → D (a + j) = D a := fun j => by
      induction j with
      | zero => intro _; rw [show a + (0 : Nat) = a by omega]
      | succ j ih =>
        intro hj
        rw [h1 (a + (j + 1 : Nat)) (by omega) (fun z => by
          rcases List.mem_cons.mp z with e | e
          · omega
          · have := hbr _ e
            omega), show a + (j + 1 : Nat) - 1 = a + j by omega]
        exact ih (by omega)
    refine ⟨rfl, ab, fun v v0 v1 => ?_, ?_, rle_keys r b q2 (fun v v0 v1 => h1 v (by omega) fun z => ?_) fun v hv => h2 v (List.mem_cons_of_mem _ hv)⟩
    · obtain ⟨j, hj⟩ : ∃ j : Nat, v = a + j := ⟨(v - a).toNat, by omega⟩
      subst hj
      exact flat j v1
    · have e := h2 b List.mem_cons_self
      obtain ⟨j, hj⟩ : ∃ j : Nat, b - 1 = a + j := ⟨(b - 1 - a).toNat, by omega⟩
      rw [hj, flat j (by omega)] at e
      exact fun z => e z.symm
    · rcases List.mem_cons.mp z with e | e
      · omega
      · exact v1 e
section
variable {cs : List Cmd} {S last : Int} {Os : List (Option Int)} {Fs : Option Int → List (Int × Int)}
/-- WHAT IS LEARNED IS THE FORM -/
theorem Lrn.form (L : Lrn cs S last Os Fs) {K : List Int} (asc : K.Pairwise (· < ·)) (mem : ∀ f, f ∈ K ↔ IsKey last Os Fs f) :
    formM cs = (K.map fun f => (f, dat cs f)) ++ if last = S + 1 then [] else [(last + 1, (none, none))] := by
  have S0 : 0 ≤ S := by
    have := tot_nn L.ok
    have := L.ht
    omega
  have kle : ∀ f ∈ K, 1 ≤ f ∧ f ≤ last := fun f hf => L.key_le ((mem f).mp hf)
  have far : ∀ v, S + 1 < v → dat cs v = dat cs (v - 1) := fun v hv => by
    have b : ∀ p ∈ formM cs, p.1 ≤ S + 1 := fun p hp => by
      have := (form_tot L.ok L.ht p hp).2.1
      omega
    have q := (form_rle cs).far b
    rw [show dat cs v = _ from q v (by omega), show dat cs (v - 1) = _ from q (v - 1) (by omega)]
  -- the first key is 1, if there is one
  have head : 0 < last → ∃ r, K = 1 :: r := fun h => by
    have m := (mem 1).mpr (.inl ⟨rfl, h⟩)
    cases K with
    | nil => cases m
    | cons x r =>
      rcases List.mem_cons.mp m with e | e
      · exact ⟨r, by rw [e]⟩
      · have h1 := (List.pairwise_cons.mp asc).1 1 e
        have h2 := (kle x List.mem_cons_self).1
        omega
  by_cases e : last = S + 1
  · rw [if_pos e, List.append_nil]
    obtain ⟨r, rfl⟩ := head (by omega)
    refine (form_rle cs).one (rle_keys r 1 asc (fun v v0 v1 => ?_) fun v hv => ?_)
    · by_cases q : v ≤ last
      · refine Classical.byContradiction fun z => v1 ?_
        have m := (mem v).mpr ((L.key (by omega)).mpr ⟨q, z⟩)
        rcases List.mem_cons.mp m with w | w
        · omega
        · exact w
      · exact far v (by omega)
    · have q := (List.pairwise_cons.mp asc).1 v hv
      exact ((L.key (by omega)).mp ((mem v).mp (List.mem_cons_of_mem _ hv))).2
  · rw [if_neg e]
    rcases L.E.fin with q | ⟨le, no⟩
    · exact absurd q e
    have dn : ∀ v, last < v → dat cs v = (none, none) := fun v hv => dat_none (no v hv)
    have eK : (K.map fun f => (f, dat cs f)) ++ [(last + 1, ((none, none) : PData))] = (K ++ [last + 1]).map fun f => (f, dat cs f) := by
      rw [List.map_append, List.map_cons, List.map_nil, dn (last + 1) (by omega)]
    rw [eK]
    have asc' : (K ++ [last + 1]).Pairwise (· < ·) := List.pairwise_append.mpr ⟨asc, List.pairwise_singleton _ _, fun x hx y hy => by
      rw [List.mem_singleton.mp hy]
      have := (kle x hx).2
      omega⟩
    by_cases l0 : 0 < last
    · obtain ⟨r, rfl⟩ := head l0
      refine (form_rle cs).one (rle_keys (r ++ [last + 1]) 1 asc' (fun v v0 v1 => ?_) fun v hv => ?_)
      · by_cases q : v ≤ last
        · refine Classical.byContradiction fun z => v1 ?_
          have m := (mem v).mpr ((L.key (by omega)).mpr ⟨q, z⟩)
          rcases List.mem_cons.mp m with w | w
          · omega
          · exact List.mem_append_left _ w
        · by_cases q2 : v = last + 1
          · exact absurd (List.mem_append_right _ (by rw [q2]; exact List.mem_cons_self)) v1
          · show dat cs v = dat cs (v - 1)
            rw [dn v (by omega), dn (v - 1) (by omega)]
      · rcases List.mem_append.mp hv with w | w
        · have q := (List.pairwise_cons.mp asc).1 v w
          exact ((L.key (by omega)).mp ((mem v).mp (List.mem_cons_of_mem _ w))).2
        · rw [List.mem_singleton.mp w]
          show dat cs (last + 1) ≠ dat cs (last + 1 - 1)
          rw [dn (last + 1) (by omega), show last + 1 - 1 = last by omega]
          obtain ⟨M, e1, _⟩ := dat_some L.ok (v := last) (by omega) (L.E.box last (by omega) (Int.le_refl _))
          intro z
          rw [← z] at e1
          cases e1
    · have l00 : last = 0 := by
        have := L.E.nn
        omega
      have K0 : K = [] := by
        cases K with
        | nil => rfl
        | cons x r =>
          have := kle x List.mem_cons_self
          omega
      subst K0
      rw [l00]
      refine (form_rle cs).one (rle_keys [] 1 (List.pairwise_singleton _ _) (fun v v0 _ => ?_) fun v hv => nomatch hv)
      show dat cs v = dat cs (v - 1)
      rw [dn v (by omega), dn (v - 1) (by omega)]
end
end Gc

/-! what the probe asks, and what it is told (k18) -/
namespace Gc
def lineT (S lo hi : Int) : List Int := List.replicate (hi - lo + 1).toNat (4 * S + 4)
def ptT (S lo hi : Int) (o : Option Int) (b : Int) : List Int := match o with
  | none => lineT S lo hi
  | some k => (lineT S lo hi).set (k - lo).toNat b
def ptA (o : Option Int) (b : Int) : Option Int := match o with
  | none => some b
  | some _ => none
def ptG (cs : List Cmd) (S lo hi : Int) (o : Option Int) (b : Int) : Option Int := aimF (lenAt (ptT S lo hi o b)) (-lo) (ptA o b) cs
def topG (cs : List Cmd) (S lo hi : Int) : Option Int := aimF (lenAt (lineT S lo hi)) (-lo) none cs
structure Hid (cs : List Cmd) (S lo hi : Int) : Prop where
  ok : AllOk cs
  ht : tot cs ≤ S
  w : Within cs lo hi
section
variable {cs : List Cmd} {S lo hi : Int} {o : Option Int}
theorem Hid.s0 (H : Hid cs S lo hi) : 0 ≤ S := by
  have := tot_nn H.ok
  have := H.ht
  omega
theorem ptT_len (S lo hi : Int) (o : Option Int) (b : Int) : (ptT S lo hi o b).length = (hi - lo + 1).toNat := by
  cases o with
  | none => exact List.length_replicate
  | some k =>
    show ((lineT S lo hi).set (k - lo).toNat b).length = _
    rw [List.length_set]
    exact List.length_replicate
theorem lineT_nn (H : Hid cs S lo hi) : ∀ x ∈ lineT S lo hi, 0 ≤ x := fun x hx => by
  have := H.s0
  rw [List.eq_of_mem_replicate hx]
  omega
theorem ptT_nn (H : Hid cs S lo hi) {b : Int} (hb : 0 ≤ b) : ∀ x ∈ ptT S lo hi o b, 0 ≤ x := fun x hx => by
  cases o with
  | none => exact lineT_nn H x hx
  | some k =>
    rcases List.mem_or_eq_of_mem_set hx with z | z
    · exact lineT_nn H x z
    · rw [z]
      exact hb
theorem ptA_nn {b : Int} (hb : 0 ≤ b) : ge (ptA o b) 0 := by
  cases o with
  | none => exact ge_some.mpr hb
  | some k => exact ge_none 0
theorem lineT_at {r : Int} (h0 : 0 ≤ r) (h1 : r < hi - lo + 1) : lenAt (lineT S lo hi) r = 4 * S + 4 := by
  unfold lenAt lineT
  rw [List.getD_eq_getElem?_getD, List.getElem?_replicate, if_pos (by omega)]
  rfl
theorem ptT_at {k r b : Int} (k0 : lo ≤ k) (k1 : k ≤ hi) (h0 : 0 ≤ r) (h1 : r < hi - lo + 1) : lenAt (ptT S lo hi (some k) b) r = if r = k - lo then b else 4 * S + 4 := by
  show lenAt ((lineT S lo hi).set (k - lo).toNat b) r = _
  have e := lineT_at (S := S) (lo := lo) (hi := hi) h0 h1
  unfold lenAt at *
  rw [List.getD_eq_getElem?_getD, List.getElem?_set]
  rw [List.getD_eq_getElem?_getD] at e
  by_cases z : r = k - lo
  · rw [if_pos (by omega), if_pos (by unfold lineT; rw [List.length_replicate]; omega), if_pos z]
    rfl
  · rw [if_neg (by omega), if_neg z]
    exact e
/-- the bounds of a box, as far as goals are probed -/
theorem box_bd (H : Hid cs S lo hi) {v : Int} (hv : 1 ≤ v) (hm : v ≤ 2 * S + 2) {st : Option Int} {Lb : Ps} (e : boxM cs v = some (st, Lb)) : (∀ k, val Lb k ≤ 4 * S + 4) ∧ (∀ k, ¬ (lo ≤ k ∧ k ≤ hi) → val Lb k = 0) := by
  have s0 := H.s0
  have l := lsum_tot H.ok
  have t := H.ht
  exact ⟨fun k => val_le (box_vals (B := 4 * S + 4) e H.ok (by omega)).1 (by omega) k, fun k h => val_off (box_within e H.w) h⟩
theorem topG_char (H : Hid cs S lo hi) : ge (topG cs S lo hi) 0 ∧ ∀ v, 1 ≤ v → v ≤ 2 * S + 2 → (ge (topG cs S lo hi) v ↔ boxM cs v ≠ none) := by
  have T0 : ∀ k, 0 ≤ lenAt (lineT S lo hi) k := lenAt_nn (lineT_nn H)
  refine ⟨aimF_nn T0 H.ok (ge_none 0), fun v hv hm => ?_⟩
  unfold topG
  rw [box_char T0 (ge_none 0) H.ok hv]
  constructor
  · rintro ⟨st, Lb, e, _⟩
    rw [e]
    simp
  · intro h
    cases e : boxM cs v with
    | none => exact absurd e h
    | some x =>
      obtain ⟨st, Lb⟩ := x
      obtain ⟨b1, b2⟩ := box_bd H hv hm e
      refine ⟨st, Lb, rfl, fun n _ => ge_none n, fun k => ?_⟩
      by_cases z : lo ≤ k ∧ k ≤ hi
      · rw [lineT_at (by omega) (by omega)]
        exact b1 k
      · rw [b2 k z]
        exact T0 _
theorem ptG_char (H : Hid cs S lo hi) (ho : ∀ k, o = some k → lo ≤ k ∧ k ≤ hi) {b : Int} (hb : 0 ≤ b) : ge (ptG cs S lo hi o b) 0 ∧ ∀ v, 1 ≤ v → v ≤ 2 * S + 2 → (ge (ptG cs S lo hi o b) v ↔ boxM cs v ≠ none ∧ nd cs o v ≤ b) := by
  have T0 : ∀ k, 0 ≤ lenAt (ptT S lo hi o b) k := lenAt_nn (ptT_nn H hb)
  have A0 := ptA_nn (o := o) hb
  refine ⟨aimF_nn T0 H.ok A0, fun v hv hm => ?_⟩
  unfold ptG
  rw [box_char T0 A0 H.ok hv]
  constructor
  · rintro ⟨st, Lb, e, h1, h2⟩
    refine ⟨by rw [e]; simp, ?_⟩
    obtain ⟨n1, n2⟩ := nd_box e
    cases o with
    | none =>
      rw [n1]
      cases st with
      | none => exact hb
      | some n => exact ge_some.mp (h1 n rfl)
    | some k =>
      obtain ⟨k0, k1⟩ := ho k rfl
      rw [n2 k]
      have q := h2 k
      rw [ptT_at k0 k1 (by omega) (by omega), if_pos (by omega)] at q
      exact q
  · rintro ⟨h, hn⟩
    cases e : boxM cs v with
    | none => exact absurd e h
    | some x =>
      obtain ⟨st, Lb⟩ := x
      obtain ⟨b1, b2⟩ := box_bd H hv hm e
      obtain ⟨n1, n2⟩ := nd_box e
      refine ⟨st, Lb, rfl, fun n en => ?_, fun j => ?_⟩
      · cases o with
        | none =>
          rw [n1, en] at hn
          exact ge_some.mpr hn
        | some k => exact ge_none n
      · by_cases z : lo ≤ j ∧ j ≤ hi
        · cases o with
          | none =>
            show _ ≤ lenAt (lineT S lo hi) (-lo + j)
            rw [lineT_at (by omega) (by omega)]
            exact b1 j
          | some k =>
            obtain ⟨k0, k1⟩ := ho k rfl
            rw [ptT_at k0 k1 (by omega) (by omega)]
            split
            · rename_i q
              have : j = k := by omega
              subst this
              rw [n2 j] at hn
              exact hn
            · exact b1 j
        · rw [b2 j z]
          exact T0 _
theorem pt_after (H : Hid cs S lo hi) (o : Option Int) (b : Int) : afterL (ptT S lo hi o b) (-lo) (ptA o b) cs = some (-lo + last cs, ptG cs S lo hi o b) := by
  have z := H.w.zero
  refine afterL_in (H.w.le (by omega) ?_)
  rw [ptT_len]
  omega
theorem top_after (H : Hid cs S lo hi) : afterL (lineT S lo hi) (-lo) none cs = some (-lo + last cs, topG cs S lo hi) := by
  have z := H.w.zero
  refine afterL_in (H.w.le (by omega) ?_)
  unfold lineT
  rw [List.length_replicate]
  omega
/-- one goal more, one bound more: the goals stay near the first -/
theorem pt_near (H : Hid cs S lo hi) (ho : ∀ k, o = some k → lo ≤ k ∧ k ≤ hi) {g0 : Int} (e : ptG cs S lo hi o 0 = some g0) (l : g0 ≤ S) {b : Int} (hb : 0 ≤ b) (h1 : b ≤ S + 1) : ∃ y, ptG cs S lo hi o b = some y ∧ 0 ≤ y ∧ y ≤ S + b := by
  obtain ⟨c0, c1⟩ := ptG_char H ho (Int.le_refl 0)
  obtain ⟨d0, d1⟩ := ptG_char H ho hb
  rw [e] at c0 c1
  have g00 := ge_some.mp c0
  have no : ¬ ge (ptG cs S lo hi o b) (g0 + b + 1) := fun z => by
    have q := (d1 (g0 + b + 1) (by omega) (by omega)).mp z
    obtain ⟨j, hj⟩ : ∃ j : Nat, (j : Int) = b := ⟨b.toNat, by omega⟩
    rw [show g0 + b + 1 = g0 + 1 + (j : Int) by omega] at q
    obtain ⟨q1, q2⟩ := box_down H.ok (v := g0 + 1) (by omega) j q.1
    have q3 := q2 o
    have q4 := q.2
    have := ge_some.mp ((c1 (g0 + 1) (by omega) (by omega)).mpr ⟨q1, by omega⟩)
    omega
  cases e2 : ptG cs S lo hi o b with
  | none =>
    rw [e2] at no
    exact absurd (ge_none _) no
  | some y =>
    rw [e2] at no d0
    have := ge_some.mp d0
    refine ⟨y, rfl, this, ?_⟩
    refine Classical.byContradiction fun z => no (ge_some.mpr (by omega))
def ptI (cs : List Cmd) (S lo hi : Int) (o : Option Int) (b : Int) : Int := (ptG cs S lo hi o b).getD 0
theorem gf_of (H : Hid cs S lo hi) (ho : ∀ k, o = some k → lo ≤ k ∧ k ≤ hi) {g0 : Int} (e : ptG cs S lo hi o 0 = some g0) (l : g0 ≤ S) :
    GF cs o S (ptI cs S lo hi o) ∧ ∀ b, 0 ≤ b → b ≤ S + 1 → ptG cs S lo hi o b = some (ptI cs S lo hi o b) := by
  have near : ∀ b, 0 ≤ b → b ≤ S + 1 → ptG cs S lo hi o b = some (ptI cs S lo hi o b) ∧ 0 ≤ ptI cs S lo hi o b ∧ ptI cs S lo hi o b ≤ S + b := fun b b0 b1 => by
    obtain ⟨y, e1, y0, y1⟩ := pt_near H ho e l b0 b1
    unfold ptI
    rw [e1]
    exact ⟨rfl, y0, y1⟩
  refine ⟨⟨fun b b0 b1 => (near b b0 b1).2.1, fun b b0 b1 => (near b b0 b1).2.2, fun b v b0 b1 v0 v1 => ?_⟩, fun b b0 b1 => (near b b0 b1).1⟩
  have q := (ptG_char H ho b0).2 v v0 v1
  rw [(near b b0 b1).1] at q
  exact ge_some.symm.trans q
/-- nothing is learned at a place that limits nothing -/
theorem empty_of (H : Hid cs S lo hi) (ho : ∀ k, o = some k → lo ≤ k ∧ k ≤ hi) {last : Int} (hl : last ≤ S + 1) (h : ge (ptG cs S lo hi o 0) last) : FoundM cs o last [] :=
  found_empty fun v v0 v1 => by
    have s0 := H.s0
    have q := ((ptG_char H ho (Int.le_refl 0)).2 v v0 (by omega)).mp fun x hx => by
      have := h x hx
      omega
    exact nd_zero H.ok v0 q.2
theorem ends_far (H : Hid cs S lo hi) (h : ge (topG cs S lo hi) (S + 1)) : Ends cs S (S + 1) := by
  have s0 := H.s0
  exact ⟨Int.le_refl _, by omega, fun v v0 v1 => ((topG_char H).2 v v0 (by omega)).mp fun x hx => by have := h x hx; omega, .inl rfl⟩
theorem ends_near (H : Hid cs S lo hi) {t : Int} (e : topG cs S lo hi = some t) (l : t ≤ S) : Ends cs S t := by
  have s0 := H.s0
  obtain ⟨c0, c1⟩ := topG_char H
  rw [e] at c0 c1
  have t0 := ge_some.mp c0
  refine ⟨by omega, t0, fun v v0 v1 => (c1 v v0 (by omega)).mp (ge_some.mpr v1), .inr ⟨l, fun v hv => ?_⟩⟩
  refine Classical.byContradiction fun z => ?_
  obtain ⟨j, hj⟩ : ∃ j : Nat, v = t + 1 + j := ⟨(v - (t + 1)).toNat, by omega⟩
  rw [hj] at z
  have q := (box_down H.ok (v := t + 1) (by omega) j z).1
  have := ge_some.mp ((c1 (t + 1) (by omega) (by omega)).mpr q)
  omega
theorem out_of (H : Hid cs S lo hi) {k : Int} (hk : ¬ (lo ≤ k ∧ k ≤ hi)) {v : Int} (hv : 1 ≤ v) : cAt (dat cs v) (some k) = none := by
  cases e : boxM cs v with
  | none => exact cAt_none e _
  | some x =>
    obtain ⟨st, Lb⟩ := x
    rw [(cAt_box e).2 k]
    rw [show look Lb k = none from look_none.mpr fun z => by
      obtain ⟨q, hq, e2⟩ := List.mem_map.mp z
      have w := box_within e H.w q hq
      rw [e2] at w
      exact hk w]
    rfl
end
end Gc

/-! the class Probe: made, asked (k18) -/
namespace Gc
open PySem L2
abbrev s_probe_init : Stmt := inClass (top 22) 0
abbrev s_probe_point : Stmt := inClass (top 22) 1
@[irreducible] def zAnswer (K : PySem.W.Frag) (CB : Addr) (cs : Nat → Addr) : Sp := spAnswer K CB cs
theorem zAnswer_eq (K : PySem.W.Frag) (CB : Addr) (cs : Nat → Addr) : zAnswer K CB cs = spAnswer K CB cs := by unfold zAnswer; rfl
/-- a box that hides cs, asked n times -/
structure Hides (K : PySem.W.Frag) (CB : Addr) (H : Hp) (x dx l : Addr) (xs : List V) (es : List Cmd) (n : Int) : Prop where
  bx : BoxAt H x CB dx l n
  hl : H l = some (.lst xs)
  hc : CmdsOf K H xs es
  ok : AllOk es
  ln : es.length ≤ 10000
section
variable {K : PySem.W.Frag} {CB : Addr} {H H' : Hp} {x dx l : Addr} {xs : List V} {es : List Cmd} {n m : Int}
theorem tup_keepX {o : HO} {p : Addr} {ys : List V} (hx : H x = some o) (no : ∀ zs, o ≠ .tup zs) (nf : ∀ ob zs, o ≠ .frz ob (.tup zs)) (kp : Keep x x H H') (h : SqT K H p ys) : SqT K H' p ys := by
  rcases h with (z | ⟨ob, z⟩) | z
  · have e := ne_of z hx fun q => no _ q.symm
    exact .inl (.inl (kp _ _ e e z))
  · have e := ne_of z hx fun q => nf _ _ q.symm
    exact .inl (.inr ⟨ob, kp _ _ e e z⟩)
  · exact .inr z
theorem Hides.same (h : Hides K CB H x dx l xs es n) (e : Same H H') : Hides K CB H' x dx l xs es n := ⟨e _ _ h.bx, e _ _ h.hl, h.hc.same e, h.ok, h.ln⟩
theorem Hides.tup (h : Hides K CB H x dx l xs es n) (kp : Keep x x H H') {p : Addr} {ys : List V} (q : SqT K H p ys) : SqT K H' p ys := tup_keepX h.bx (fun _ z => nomatch z) (fun _ _ z => nomatch z) kp q
theorem Hides.keep (h : Hides K CB H x dx l xs es n) (kp : Keep x x H H') (bx : BoxAt H' x CB dx l m) : Hides K CB H' x dx l xs es m := by
  have e := ne_of h.hl h.bx fun z => nomatch z
  refine ⟨bx, kp _ _ e e h.hl, Paired.mapP h.hc fun _ _ q => ?_, h.ok, h.ln⟩
  obtain ⟨b, e, z⟩ := q
  exact ⟨b, e, h.tup kp z⟩
/-- asked with a text and a cursor in it -/
theorem ask_box18 {cs : Nat → Addr} {Q : VK} {E : XK} {t b : Addr} {T : List Int} {r : Int} {g : Option Int} (h : Hides K CB H x dx l xs es n) (ht : SqL K H t (T.map V.int)) (hb : SqT K H b [.int r, optV g]) (nn : ∀ y ∈ T, 0 ≤ y) (r0 : 0 ≤ r) (r1 : r < T.length) (g0 : ge g 0)
    (k0 : afterL T r g es = none → ∀ H', Keep x x H H' → Hides K CB H' x dx l xs es (n + 1) → Q .non H') (k1 : ∀ r' g', afterL T r g es = some (r', g') → ∀ (H' : Hp) (p : Addr), Keep x x H H' → Hides K CB H' x dx l xs es (n + 1) → SqT K H' p [.int r', optV g'] → Q (.ref p) H') : zAnswer K CB cs [.ref x, .ref t, .ref b] H Q E := by
  rw [zAnswer_eq]
  refine ⟨x, dx, t, b, l, n, rfl, h.bx, .inr ⟨T, r, g, xs, es, ht, hb, SqL.of h.hl, h.hc, nn, r0, r1, g0, h.ok, h.ln, fun m hm H' kp bx => ?_, fun r' g' ha H' p kp bx hp => k1 r' g' ha H' p kp (h.keep kp bx) hp⟩⟩
  refine k0 ?_ H' kp (h.keep kp bx)
  cases q : afterL T r g es with
  | none => rfl
  | some y =>
    have z := fail_none.mpr (show afterL T r g es ≠ none by rw [q]; simp)
    rw [z] at hm
    cases hm
end
theorem kk0 {H H3 : Hp} {x d : Addr} {o o' : HO} (hx : H x = some o) (hx3 : H3 x = some o') (nd : H3 d = none) (kp : Keep x x H H3) : H d = none := by
  have dx : d ≠ x := (ne_of_none hx3 nd).symm
  cases e : H d with
  | none => rfl
  | some u =>
    rw [kp d u dx dx e] at nd
    cases nd
structure TxtPr (K : PySem.W.Frag) (mg : Str → Option Value) (CP : Addr) : Prop where
  list : mg "list" = none
  cl : Cls K CP
  n1 : NoAttr K CP "_box"
  n2 : NoAttr K CP "_row"
  n3 : NoAttr K CP "_lengths"
/-- a probe of the box at x, its lengths at ln -/
structure ProbeAt (H : Hp) (pb CP dp x ln : Addr) (S lo hi : Int) : Prop where
  at_ : H pb = some (.ins CP dp [("_box", .ref x), ("_row", .int (-lo)), ("_lengths", .ref ln)])
  ls : H ln = some (.lst ((lineT S lo hi).map V.int))
theorem ProbeAt.same {H H' : Hp} {pb CP dp x ln : Addr} {S lo hi : Int} (h : ProbeAt H pb CP dp x ln S lo hi) (e : Same H H') : ProbeAt H' pb CP dp x ln S lo hi := ⟨e _ _ h.at_, e _ _ h.ls⟩
theorem ProbeAt.keep {K : PySem.W.Frag} {CB : Addr} {H H' : Hp} {pb CP dp x dx l ln : Addr} {xs : List V} {es : List Cmd} {n S lo hi : Int} (h : ProbeAt H pb CP dp x ln S lo hi) (b : Hides K CB H x dx l xs es n) (kp : Keep x x H H') : ProbeAt H' pb CP dp x ln S lo hi := by
  have e1 := ne_of h.at_ b.bx fun z => nomatch z
  have e2 := ne_of h.ls b.bx fun z => nomatch z
  exact ⟨kp _ _ e1 e1 h.at_, kp _ _ e2 e2 h.ls⟩
def spProbeInit (K : PySem.W.Frag) (CP : Addr) : Sp := fun vs H Q _ => ∃ (pb dp x sp : Addr) (S lo hi la : Int), vs = [.ref pb, .ref x, .ref sp, .int S] ∧ H pb = some (.ins CP dp []) ∧ SqT K H sp [.int lo, .int hi, .int la] ∧ 0 ≤ S ∧ S ≤ 10 ^ 6 ∧ lo ≤ hi ∧ hi - lo ≤ 100 ∧
  ∀ (H' : Hp) (ln : Addr), Keep pb pb H H' → H ln = none → ProbeAt H' pb CP dp x ln S lo hi → Q .non H'
/-- asked at a place, or without a limit -/
def spPoint (K : PySem.W.Frag) (CB CP : Addr) : Sp := fun vs H Q _ => ∃ (pb dp x dx l ln : Addr) (xs : List V) (es : List Cmd) (n S lo hi : Int) (a b : V), vs = [.ref pb, a, b] ∧ ProbeAt H pb CP dp x ln S lo hi ∧ Hides K CB H x dx l xs es n ∧ Hid es S lo hi ∧ S ≤ 10 ^ 6 ∧ hi - lo ≤ 100 ∧
  ((∃ (o : Option Int) (y : Int), a = optV o ∧ b = .int y ∧ (∀ k, o = some k → lo ≤ k ∧ k ≤ hi) ∧ 0 ≤ y ∧ ∀ (H' : Hp) (p : Addr), Keep x x H H' → Hides K CB H' x dx l xs es (n + 1) → H p = none → H' p = some (.tup [.int y, optV (ptG es S lo hi o y)]) → Q (.ref p) H') ∨
   (a = .non ∧ b = .non ∧ ∀ (H' : Hp) (p : Addr), Keep x x H H' → Hides K CB H' x dx l xs es (n + 1) → H p = none → H' p = some (.tup [.non, optV (topG es S lo hi)]) → Q (.ref p) H'))
section
variable {P : Program} {w : World} {K : PySem.W.Frag} {mg : Str → Option Value} {base : Heap} {CB CP : Addr} {cs : Nat → Addr}
theorem sc_Probe___init__ : FnScope ["self", "box", "spanned", "size", "least", "greatest", "_"] ["self", "box", "spanned", "size"] (defScope s_probe_init) := ⟨rfl, rfl, rfl, by decide +kernel, rfl, by decide +kernel, by decide +kernel⟩
theorem ok_probe_init {f : Addr} {fd : FuncData} (F : Fun K "__init__" "Probe.__init__" s_probe_init f fd) (T : TxtPr K mg CP) : FnOk P w K mg base CX0 1 f fd ["self", "box", "spanned", "size"] (spProbeInit K CP) := by
  refine F.ok sc_Probe___init__ (fun vs H Q E h => ?_) (fun cdv A outer s H vs Q E hr h => ?_)
  · obtain ⟨pb, dp, x, sp, S, lo, hi, la, rfl, _⟩ := h
    rfl
  · obtain ⟨pb, dp, x, sp, S, lo, hi, la, rfl, hp, hs, S0, S1, lh, l100, k⟩ := h
    refine ⟨_, (pss_cons (ps_asg (pv 2) (pg_tup rfl (pgs_cons (pg_name (i := 4) sc_Probe___init__.nd rfl (Or.inl rfl)) (pgs_cons (pg_name (i := 5) sc_Probe___init__.nd rfl (Or.inl rfl)) (pgs_cons (pg_name (i := 6) sc_Probe___init__.nd rfl (Or.inl rfl)) pgs_nil)))))
      (pss_cons (ps_fld (pv 0) (pv 1) rfl)
      (pss_cons (ps_fld (pv 0) (pe_un un_neg (pv 4)) rfl)
      (pss_one (ps_fld (pv 0) (pe_op op_rep (pe_lst (pa_cons (pe_op op_add (pe_op op_mulW pe_int (pv 3)) pe_int) pa_nil)) (pe_op op_add (pe_op op_sub (pv 5) (pv 4)) pe_int)) rfl))))), ?_⟩
    refine ⟨_, rfl, sp, _, rfl, hs, rfl, _, _, rfl, _, _, rfl, _, _, rfl, rfl, ?_⟩
    refine ⟨_, rfl, _, rfl, pb, CP, dp, [], rfl, hp, T.cl, T.n1, by decide, ?_⟩
    have h1 : (upd H pb (.ins CP dp [("_box", .ref x)])) pb = some (.ins CP dp [("_box", .ref x)]) := upd_same
    have k1 : Keep pb pb H (upd H pb (.ins CP dp [("_box", .ref x)])) := (Keep.refl H).upd1
    show tSeq _ _ _ _ (upd H pb (.ins CP dp [("_box", .ref x)]))
    generalize upd H pb (.ins CP dp [("_box", .ref x)]) = H1 at h1 k1 ⊢
    refine ⟨_, rfl, _, rfl, _, rfl, pb, CP, dp, _, rfl, h1, T.cl, T.n2, (by show 1 < 1000; decide), ?_⟩
    have k2 : Keep pb pb H (upd H1 pb (.ins CP dp (putF "_row" (V.int (-lo)) [("_box", .ref x)]))) := k1.trans (Keep.refl H1).upd1
    have h2 : (upd H1 pb (.ins CP dp (putF "_row" (V.int (-lo)) [("_box", .ref x)]))) pb = some (.ins CP dp [("_box", .ref x), ("_row", .int (-lo))]) := upd_same
    generalize upd H1 pb (.ins CP dp (putF "_row" (V.int (-lo)) [("_box", .ref x)])) = H2 at h2 k2 ⊢
    refine ⟨_, rfl, _, _, rfl, rfl, wide_mul (a := 5) (b := 30) (by decide) (by omega) (by decide) (by decide) (by decide), _, _, rfl, rfl, (by show 1 ≤ sizeLine; decide), fun q nq => ?_⟩
    have qp : q ≠ pb := (ne_of_none h2 nq).symm
    have e3 := new_same (o := HO.lst [V.int (4 * S + 4)]) nq
    have hq : (upd H2 q (.lst [V.int (4 * S + 4)])) q = some (.lst [V.int (4 * S + 4)]) := upd_same
    have k3 := k2.trans (Keep.of e3)
    replace h2 := e3 _ _ h2
    generalize upd H2 q (.lst [V.int (4 * S + 4)]) = H3 at hq k3 h2 ⊢
    refine ⟨_, rfl, _, rfl, _, _, rfl, rfl, _, _, rfl, rfl, q, _, _, rfl, rfl, hq, by omega, by omega, (by show 1 * (hi - lo + 1).toNat ≤ sizeLine; rw [sizeLine_eq]; omega), fun ln nl => ?_⟩
    have lp : ln ≠ pb := (ne_of_none h2 nl).symm
    have e4 := new_same (o := HO.lst (List.replicate (hi - lo + 1).toNat [V.int (4 * S + 4)]).flatten) nl
    refine ⟨_, rfl, pb, CP, dp, _, rfl, e4 _ _ h2, T.cl, T.n3, (by show 2 < 1000; decide), ?_⟩
    refine k _ ln (fun c o a1 a2 hc => ?_) (kk0 hp h2 nl k3) ⟨upd_same, ?_⟩
    · rw [upd_ne a1]
      exact e4 _ _ (k3 c o a1 a2 hc)
    · rw [upd_ne lp, upd_same]
      unfold lineT
      rw [List.map_replicate]
      refine congrArg (fun z => some (HO.lst z)) ?_
      generalize (hi - lo + 1).toNat = m
      induction m with
      | zero => rfl
      | succ m ih =>
        rw [List.replicate_succ, List.flatten_cons, ih, List.replicate_succ]
        rfl
theorem sc_Probe_point : FnScope ["self", "offset", "bound", "lengths", "start"] ["self", "offset", "bound"] (defScope s_probe_point) := ⟨rfl, rfl, rfl, by decide +kernel, rfl, by decide +kernel, by decide +kernel⟩
theorem ok_probe_point {f : Addr} {fd : FuncData} (F : Fun K "point" "Probe.point" s_probe_point f fd) (T : TxtPr K mg CP) (m_answer : Mth P w K mg base (L2.CX P w) 5 CB "answer" (zAnswer K CB cs)) : FnOk P w K mg base CX0 6 f fd ["self", "offset", "bound"] (spPoint K CB CP) := by
  refine F.ok sc_Probe_point (fun vs H Q E h => ?_) (fun cdv A outer s H vs Q E hr h => ?_)
  · obtain ⟨pb, dp, x, dx, l, ln, xs, es, n, S, lo, hi, a, b, rfl, _⟩ := h
    rfl
  · obtain ⟨pb, dp, x, dx, l, ln, xs, es, n, S, lo, hi, a, b, rfl, hp, hh, hd, S1, l100, h⟩ := h
    refine ⟨_, (pss_cons (ps_set (i := 3) sc_Probe_point.nd rfl (Or.inl rfl) (pe_callTy call_list_of (by rfl) T.list (by decide +kernel) (pa_cons (pe_fld (pv 0) rfl) pa_nil)))
      (pss_cons (ps_set (i := 4) sc_Probe_point.nd rfl (Or.inl rfl) pe_non)
      (pss_cons (ps_if (pt_cmpR op_isN (pv 1) pe_non (nomark _)) (pss_one (ps_set (i := 4) sc_Probe_point.nd rfl (Or.inl rfl) (pv 2))) (pss_one (ps_asg (pv 2) (pg_sub (pv 3) (pe_op op_add (pe_fld (pv 0) rfl) (pv 1)) set_list))))
      (pss_one (ps_ret (pe_tup (pa_cons (pv 2) (pa_cons (pe_ix ix_tup (pe_mthX takesNone m_answer hr (by decide) (pe_fld (pv 0) rfl) (pa_cons (pv 3) (pa_cons (pe_tup (pa_cons (pe_fld (pv 0) rfl) (pa_cons (pv 4) pa_nil))) pa_nil))) pe_int (fun _ _ => rfl)) pa_nil)))))))), ?_⟩
    refine ⟨_, rfl, pb, CP, dp, _, _, rfl, hp.at_, T.cl, T.n3, rfl, ln, _, rfl, .inl (SqL.of hp.ls), fun q nq => ?_⟩
    have e1 := new_same (o := HO.lst ((lineT S lo hi).map V.int)) nq
    have hq : (upd H q (.lst ((lineT S lo hi).map V.int))) q = some (.lst ((lineT S lo hi).map V.int)) := upd_same
    have hp1 := hp.same e1
    have hh1 := hh.same e1
    generalize upd H q (.lst ((lineT S lo hi).map V.int)) = H1 at e1 hq hp1 hh1 ⊢
    have z0 := hd.w.zero
    have s0 := hd.s0
    refine ⟨_, rfl, rfl, _, rfl, ?_⟩
    rcases h with ⟨o, y, rfl, rfl, ho, y0, k⟩ | ⟨rfl, rfl, k⟩
    · cases o with
      | none =>
        refine iteT ⟨_, rfl, ?_⟩
        refine ⟨_, rfl, _, rfl, pb, CP, dp, _, _, rfl, hp1.at_, T.cl, T.n1, rfl, x, dx, _, rfl, hh1.bx, rfl, _, rfl, _, rfl, pb, CP, dp, _, _, rfl, hp1.at_, T.cl, T.n2, rfl, _, rfl, (by show 2 ≤ sizeLine; decide), fun c nc => ?_⟩
        have e2 := e1.trans (new_same (o := HO.tup [V.int (-lo), .int y]) nc)
        refine ask_box18 (T := lineT S lo hi) (r := -lo) (g := some y) (hh1.same (new_same nc)) (SqL.of (new_same nc _ _ hq)) (SqT.of upd_same) (lineT_nn hd) (by omega) (by unfold lineT; rw [List.length_replicate]; omega) (ge_some.mpr y0) (fun z => ?_) fun r' g' ha H3 p kp hh3 hp3 => ?_
        · have w := pt_after hd none y
          rw [show afterL (lineT S lo hi) (-lo) (some y) es = _ from w] at z
          cases z
        · rw [show afterL (lineT S lo hi) (-lo) (some y) es = _ from pt_after hd none y] at ha
          cases ha
          refine ⟨p, _, 1, _, rfl, rfl, hp3, rfl, (by show 2 ≤ sizeLine; decide), fun d nd => ?_⟩
          have kk : Keep x x H (upd H3 d (.tup [V.int y, optV (ptG es S lo hi none y)])) := fun c o a1 a2 hc => new_same nd _ _ (kp c o a1 a2 (e2 _ _ hc))
          exact k _ d kk (hh3.same (new_same nd)) (kk0 hh.bx hh3.bx nd fun c o a1 a2 hc => kp c o a1 a2 (e2 _ _ hc)) upd_same
      | some j =>
        obtain ⟨j0, j1⟩ := ho j rfl
        refine iteF ?_
        have lnn : ((lineT S lo hi).map V.int).length = (hi - lo + 1).toNat := by
          rw [List.length_map]
          exact List.length_replicate
        have ix : ixN ((lineT S lo hi).map V.int).length (-lo + j) = some (j - lo).toNat := by
          unfold ixN
          rw [if_pos (by omega), lnn, if_pos (by omega), show -lo + j = j - lo by omega]
        refine ⟨_, rfl, _, rfl, _, rfl, pb, CP, dp, _, _, rfl, hp1.at_, T.cl, T.n2, rfl, _, rfl, _, _, rfl, rfl, q, _, _, _, rfl, rfl, hq, ix, ?_⟩
        have qx : x ≠ q := ne_of_none hh.bx nq
        have qp : pb ≠ q := ne_of_none hp.at_ nq
        have e3 : Same H (upd H1 q (.lst (((lineT S lo hi).map V.int).set (j - lo).toNat (.int y)))) := same_freeU e1 nq
        have hq2 : (upd H1 q (.lst (((lineT S lo hi).map V.int).set (j - lo).toNat (.int y)))) q = some (.lst ((ptT S lo hi (some j) y).map V.int)) := by
          rw [upd_same]
          show some (HO.lst _) = some (HO.lst (((lineT S lo hi).set (j - lo).toNat y).map V.int))
          rw [List.map_set]
        have hp2 := hp.same e3
        have hh2 := hh.same e3
        generalize upd H1 q (.lst (((lineT S lo hi).map V.int).set (j - lo).toNat (.int y))) = H2 at e3 hq2 hp2 hh2 ⊢
        refine ⟨_, rfl, _, rfl, pb, CP, dp, _, _, rfl, hp2.at_, T.cl, T.n1, rfl, x, dx, _, rfl, hh2.bx, rfl, _, rfl, _, rfl, pb, CP, dp, _, _, rfl, hp2.at_, T.cl, T.n2, rfl, _, rfl, (by show 2 ≤ sizeLine; decide), fun c nc => ?_⟩
        have e2 := e3.trans (new_same (o := HO.tup [V.int (-lo), .non]) nc)
        refine ask_box18 (T := ptT S lo hi (some j) y) (r := -lo) (g := none) (hh2.same (new_same nc)) (SqL.of (new_same nc _ _ hq2)) (SqT.of upd_same) (ptT_nn hd y0) (by omega) (by rw [ptT_len]; omega) (ge_none 0) (fun z => ?_) fun r' g' ha H3 p kp hh3 hp3 => ?_
        · rw [show afterL (ptT S lo hi (some j) y) (-lo) none es = _ from pt_after hd (some j) y] at z
          cases z
        · rw [show afterL (ptT S lo hi (some j) y) (-lo) none es = _ from pt_after hd (some j) y] at ha
          cases ha
          refine ⟨p, _, 1, _, rfl, rfl, hp3, rfl, (by show 2 ≤ sizeLine; decide), fun d nd => ?_⟩
          have kk : Keep x x H (upd H3 d (.tup [V.int y, optV (ptG es S lo hi (some j) y)])) := fun c o a1 a2 hc => new_same nd _ _ (kp c o a1 a2 (e2 _ _ hc))
          exact k _ d kk (hh3.same (new_same nd)) (kk0 hh.bx hh3.bx nd fun c o a1 a2 hc => kp c o a1 a2 (e2 _ _ hc)) upd_same
    · refine iteT ⟨_, rfl, ?_⟩
      refine ⟨_, rfl, _, rfl, pb, CP, dp, _, _, rfl, hp1.at_, T.cl, T.n1, rfl, x, dx, _, rfl, hh1.bx, rfl, _, rfl, _, rfl, pb, CP, dp, _, _, rfl, hp1.at_, T.cl, T.n2, rfl, _, rfl, (by show 2 ≤ sizeLine; decide), fun c nc => ?_⟩
      have e2 := e1.trans (new_same (o := HO.tup [V.int (-lo), .non]) nc)
      refine ask_box18 (T := lineT S lo hi) (r := -lo) (g := none) (hh1.same (new_same nc)) (SqL.of (new_same nc _ _ hq)) (SqT.of upd_same) (lineT_nn hd) (by omega) (by unfold lineT; rw [List.length_replicate]; omega) (ge_none 0) (fun z => ?_) fun r' g' ha H3 p kp hh3 hp3 => ?_
      · rw [top_after hd] at z
        cases z
      · rw [top_after hd] at ha
        cases ha
        refine ⟨p, _, 1, _, rfl, rfl, hp3, rfl, (by show 2 ≤ sizeLine; decide), fun d nd => ?_⟩
        have kk : Keep x x H (upd H3 d (.tup [V.non, optV (topG es S lo hi)])) := fun c o a1 a2 hc => new_same nd _ _ (kp c o a1 a2 (e2 _ _ hc))
        exact k _ d kk (hh3.same (new_same nd)) (kk0 hh.bx hh3.bx nd fun c o a1 a2 hc => kp c o a1 a2 (e2 _ _ hc)) upd_same
end
end Gc

/-! points without a bend between (k18) -/
namespace Gc
open PySem L2
abbrev s_straight : Stmt := top 28
abbrev s_addp : Stmt := top 27
def strD (b x c y : Int) : Bool := decide (y - x = 0 ∨ y - x = c - b)
def spStraight (K : PySem.W.Frag) : Sp := fun vs H Q _ => ∃ (p q : Addr) (b x c y : Int), vs = [.ref p, .ref q] ∧ SqT K H p [.int b, .int x] ∧ SqT K H q [.int c, .int y] ∧ ∀ H', Same H H' → Q (.bl (strD b x c y)) H'
@[irreducible] def zPoint (K : PySem.W.Frag) (CB CP : Addr) : Sp := spPoint K CB CP
theorem zPoint_eq (K : PySem.W.Frag) (CB CP : Addr) : zPoint K CB CP = spPoint K CB CP := by unfold zPoint; rfl
/-- all that is known of a place while its points are gathered -/
structure Plc (es : List Cmd) (S lo hi : Int) (o : Option Int) (Z : List Int) : Prop where
  H : Hid es S lo hi
  ho : ∀ k, o = some k → lo ≤ k ∧ k ≤ hi
  G : GF es o S (ptI es S lo hi o)
  pe : ∀ b, 0 ≤ b → b ≤ S + 1 → ptG es S lo hi o b = some (ptI es S lo hi o b)
  hz : ∀ b c, 0 ≤ b → b ≤ c → c ≤ S + 1 → (∀ z ∈ Z, ¬ (b < z ∧ z < c)) → Strt (ptI es S lo hi o) b c
  S1 : S ≤ 10 ^ 6
  l100 : hi - lo ≤ 100
/-- points, each with its goal -/
def PtsAt (H : Hp) (pl : Addr) (g : Int → Int) (bs : List Int) : Prop := ∃ ws : List V, H pl = some (.lst ws) ∧ Paired (fun v b => ∃ p, v = .ref p ∧ H p = some (.tup [.int b, .int (g b)])) ws bs
/-- one point, as it stands -/
def PtAt (H : Hp) (g : Int → Int) (p : Addr) (y : Int) : Prop := H p = some (.tup [.int y, .int (g y)])
theorem PtAt.keep {a d : Addr} {H H' : Hp} {g : Int → Int} {p : Addr} {y : Int} {o1 o2 : HO} (h : PtAt H g p y) (k : Keep a d H H') (ha : H a = some o1) (hd : H d = some o2) (n1 : ∀ zs, o1 ≠ .tup zs) (n2 : ∀ zs, o2 ≠ .tup zs) : PtAt H' g p y :=
  k _ _ (ne_of h ha fun z => n1 _ z.symm) (ne_of h hd fun z => n2 _ z.symm) h
theorem PtsAt.keepX {H H' : Hp} {x pl : Addr} {g : Int → Int} {bs : List Int} {o : HO} (h : PtsAt H pl g bs) (k : Keep x x H H') (hx : H x = some o) (n : ∀ zs, o ≠ .tup zs) (nl : pl ≠ x) : PtsAt H' pl g bs := by
  obtain ⟨ws, hw, pw⟩ := h
  refine ⟨ws, k _ _ nl nl hw, Paired.mapP pw fun v b z => ?_⟩
  obtain ⟨p, e, hp⟩ := z
  have q := ne_of hp hx fun z => n _ z.symm
  exact ⟨p, e, k _ _ q q hp⟩
theorem PtsAt.same {H H' : Hp} {pl : Addr} {g : Int → Int} {bs : List Int} (h : PtsAt H pl g bs) (e : Same H H') : PtsAt H' pl g bs := by
  obtain ⟨ws, hw, pw⟩ := h
  exact ⟨ws, e _ _ hw, Paired.mapP pw fun v b z => ⟨z.choose, z.choose_spec.1, e _ _ z.choose_spec.2⟩⟩
theorem PtsAt.last {H : Hp} {pl : Addr} {g : Int → Int} {bs : List Int} {b : Int} (h : PtsAt H pl g bs) (l : bs.getLast? = some b) : ∃ (ws : List V) (p : Addr), H pl = some (.lst ws) ∧ atI ws (-1) = some (.ref p) ∧ PtAt H g p b ∧ ws.length = bs.length := by
  obtain ⟨ws, hw, pw⟩ := h
  rcases paired_last pw with ⟨_, e⟩ | ⟨v, y, ws', ys', e1, e2, p, e3, hp⟩
  · rw [e] at l
    cases l
  · rw [e2, List.getLast?_append] at l
    have l' : y = b := Option.some.inj l
    subst l'
    subst e3
    exact ⟨ws, p, hw, by rw [e1]; exact atI_last _ _, hp, Paired.length pw⟩
/-- one more point behind -/
theorem PtsAt.put {H : Hp} {pl p : Addr} {g : Int → Int} {bs : List Int} {y : Int} {ws : List V} (h : PtsAt H pl g bs) (hw : H pl = some (.lst ws)) (hp : PtAt H g p y) : PtsAt (upd H pl (.lst (ws ++ [.ref p]))) pl g (bs ++ [y]) := by
  obtain ⟨ws', hw', pw⟩ := h
  rw [hw] at hw'
  cases hw'
  have tp : ∀ q zs, H q = some (.tup zs) → (upd H pl (.lst (ws ++ [.ref p]))) q = some (.tup zs) := fun q zs z => by
    rw [upd_ne (ne_of z hw fun e => nomatch e)]
    exact z
  exact ⟨_, upd_same, paired_app (Paired.mapP pw fun v b z => ⟨z.choose, z.choose_spec.1, tp _ _ z.choose_spec.2⟩) (.cons ⟨p, rfl, tp _ _ hp⟩ .nil)⟩
theorem Hides.updL {K : PySem.W.Frag} {CB : Addr} {H : Hp} {x dx l pl : Addr} {xs : List V} {es : List Cmd} {n : Int} {ws zs : List V} (h : Hides K CB H x dx l xs es n) (hw : H pl = some (.lst ws)) (nl : pl ≠ l) : Hides K CB (upd H pl (.lst zs)) x dx l xs es n :=
  ⟨by show upd H pl (.lst zs) x = _; rw [upd_ne (ne_of h.bx hw fun z => nomatch z)]; exact h.bx, by rw [upd_ne nl.symm]; exact h.hl, CmdsOf.atL hw h.hc, h.ok, h.ln⟩
theorem ask_point {K : PySem.W.Frag} {CB CP : Addr} {H : Hp} {Q : VK} {E : XK} {pb dp x dx l ln : Addr} {xs : List V} {es : List Cmd} {n S lo hi : Int} {o : Option Int} {Z : List Int} {y : Int} (hP : ProbeAt H pb CP dp x ln S lo hi) (hh : Hides K CB H x dx l xs es n) (pc : Plc es S lo hi o Z) (y0 : 0 ≤ y) (y1 : y ≤ S + 1)
    (k : ∀ (H' : Hp) (p : Addr), Keep x x H H' → Hides K CB H' x dx l xs es (n + 1) → H p = none → PtAt H' (ptI es S lo hi o) p y → Q (.ref p) H') : zPoint K CB CP [.ref pb, optV o, .int y] H Q E := by
  rw [zPoint_eq]
  refine ⟨pb, dp, x, dx, l, ln, xs, es, n, S, lo, hi, _, _, rfl, hP, hh, pc.H, pc.S1, pc.l100, .inl ⟨o, y, rfl, rfl, pc.ho, y0, fun H' p kp hh' np hp => k H' p kp hh' np ?_⟩⟩
  rw [pc.pe y y0 y1] at hp
  exact hp
/-- stops, one after the other, not far apart -/
def Stp (d : Int) : Int → List Int → Prop
  | _, [] => True
  | b, y :: r => b ≤ y ∧ y - b ≤ d ∧ Stp d y r
def cur (b : Int) (sb : List Int) (i : Nat) : Int := ((b :: sb)[i]?).getD 0
theorem stp_at {d : Int} : ∀ {sb : List Int} {b : Int} {i : Nat} {y : Int}, Stp d b sb → sb[i]? = some y → b ≤ cur b sb i ∧ cur b sb i ≤ y ∧ y - cur b sb i ≤ d ∧ cur b sb (i + 1) = y
  | z :: sb, b, 0, y, h, e => by
    obtain rfl : z = y := Option.some.inj e
    exact ⟨Int.le_refl _, h.1, h.2.1, rfl⟩
  | z :: sb, b, i + 1, y, h, e => by
    obtain ⟨q1, q2, q3, q4⟩ := stp_at (i := i) h.2.2 e
    have := h.1
    refine ⟨?_, q2, q3, q4⟩
    show b ≤ cur z sb i
    omega
theorem stp_le {d : Int} : ∀ {sb : List Int} {b y : Int}, Stp d b sb → y ∈ sb → b ≤ y ∧ y ≤ endC b sb
  | z :: sb, b, y, h, m => by
    rw [endC_cons]
    have h1 := h.1
    rcases List.mem_cons.mp m with e | e
    · subst e
      refine ⟨h1, ?_⟩
      cases sb with
      | nil => exact Int.le_refl _
      | cons u r =>
        have q := stp_le h.2.2 (List.mem_cons_self (a := u) (l := r))
        omega
    · have q := stp_le h.2.2 e
      omega
theorem Paired.other {α β : Type} {F : α → β → Prop} : ∀ {xs : List α} {ys : List β} {i : Nat} {y : β}, Paired F xs ys → ys[i]? = some y → ∃ x, xs[i]? = some x ∧ F x y
  | _, _, _, _, .nil, h => by simp at h
  | _, _, 0, y, .cons f _, h => by
    obtain rfl := Option.some.inj h
    exact ⟨_, rfl, f⟩
  | _, _, i + 1, y, .cons _ t, h => Paired.other (i := i) t h
theorem getLast_more {bs q : List Int} {b : Int} (h : bs.getLast? = some b) : (bs ++ q).getLast? = some (endC b q) := by
  unfold endC
  rw [List.getLast?_append, h]
  cases q.getLast? <;> rfl
theorem endC_app {b c : Int} {q r : List Int} (h : r ≠ []) (e : endC c r = y) : endC b (q ++ r) = y := by
  unfold endC at *
  rw [List.getLast?_append]
  cases l : r.getLast? with
  | none => exact absurd (List.getLast?_eq_none_iff.mp l) h
  | some z =>
    rw [l] at e
    exact e
theorem ProbeAt.keep2 {K : PySem.W.Frag} {CB : Addr} {H H' : Hp} {pb pl CP dp x dx l ln : Addr} {xs ws : List V} {es : List Cmd} {n S lo hi : Int} (h : ProbeAt H pb CP dp x ln S lo hi) (b : Hides K CB H x dx l xs es n) (hw : H pl = some (.lst ws)) (nl : pl ≠ ln) (kp : Keep pl x H H') : ProbeAt H' pb CP dp x ln S lo hi :=
  ⟨kp _ _ (ne_of h.at_ hw fun z => nomatch z) (ne_of h.at_ b.bx fun z => nomatch z) h.at_, kp _ _ nl.symm (ne_of h.ls b.bx fun z => nomatch z) h.ls⟩
theorem cur_end (b c : Int) (sb : List Int) : cur b (sb ++ [c]) (sb.length + 1) = c := by
  unfold cur
  rw [List.getElem?_cons_succ, List.getElem?_append_right (Nat.le_refl _), Nat.sub_self]
  rfl
theorem endC_snoc (b c : Int) (sb : List Int) : endC b (sb ++ [c]) = c := by
  unfold endC
  rw [List.getLast?_append]
  rfl
def spAdd (K : PySem.W.Frag) (CB CP : Addr) (lv : Nat) : Sp := fun vs H Q _ => ∃ (pl hp pb dp x dx l ln : Addr) (xs : List V) (es : List Cmd) (n S lo hi : Int) (o : Option Int) (Z : List Int) (bs : List Int) (b c : Int), vs = [.ref pl, .ref hp, .ref pb, optV o] ∧ ProbeAt H pb CP dp x ln S lo hi ∧ Hides K CB H x dx l xs es n ∧ Plc es S lo hi o Z ∧
  PtsAt H pl (ptI es S lo hi o) bs ∧ pl ≠ ln ∧ pl ≠ l ∧ bs.getLast? = some b ∧ H hp = some (.tup [.int c, .int (ptI es S lo hi o c)]) ∧ 0 ≤ b ∧ b ≤ c ∧ c ≤ S + 1 ∧ 0 < lv ∧ c - b ≤ 2 ^ (lv - 1) ∧ bs.length + 1 + 3 * lv * inside Z b c ≤ 90000 ∧
  ∀ (H' : Hp) (q : List Int) (m : Nat), Keep pl x H H' → Hides K CB H' x dx l xs es (n + m) → PtsAt H' pl (ptI es S lo hi o) (bs ++ q) → m ≤ 3 * lv * inside Z b c → q.length ≤ 1 + 3 * lv * inside Z b c → q ≠ [] → endC b q = c → Chn (ptI es S lo hi o) b q → (∀ y ∈ q, y ≤ S + 1) → Q .non H'
section
variable {P : Program} {w : World} {K : PySem.W.Frag} {mg : Str → Option Value} {base : Heap} {CB CP : Addr}
theorem sc_is_straight : FnScope ["low", "high"] ["low", "high"] (defScope s_straight) := ⟨rfl, rfl, rfl, by decide +kernel, rfl, by decide +kernel, by decide +kernel⟩
theorem ok_is_straight {f : Addr} {fd : FuncData} (F : Fun K "is_straight" "is_straight" s_straight f fd) : FnOk P w K mg base CX0 1 f fd ["low", "high"] (spStraight K) := by
  refine F.ok sc_is_straight (fun vs H Q E h => ?_) (fun cdv A outer s H vs Q E hr h => ?_)
  · obtain ⟨p, q, b, x, c, y, rfl, _⟩ := h
    rfl
  · obtain ⟨p, q, b, x, c, y, rfl, hp, hq, k⟩ := h
    refine ⟨_, (pss_one (ps_ret (pe_cmpR op_in_seq (pe_op op_sub (pe_ix ix_tup (pv 1) pe_int (fun _ _ => rfl)) (pe_ix ix_tup (pv 0) pe_int (fun _ _ => rfl))) (pe_tup (pa_cons pe_int (pa_cons (pe_op op_sub (pe_ix ix_tup (pv 1) pe_int (fun _ _ => rfl)) (pe_ix ix_tup (pv 0) pe_int (fun _ _ => rfl))) pa_nil))) (by rfl)))), ?_⟩
    refine ⟨_, rfl, q, _, 1, _, rfl, rfl, hq, rfl, _, rfl, p, _, 1, _, rfl, rfl, hp, rfl, _, _, rfl, rfl, ?_⟩
    refine ⟨_, rfl, q, _, 0, _, rfl, rfl, hq, rfl, _, rfl, p, _, 0, _, rfl, rfl, hp, rfl, _, _, rfl, rfl, (by show 2 ≤ sizeLine; decide), fun d nd => ?_⟩
    refine ⟨d, _, rfl, .inr (SqT.of upd_same), rfl, rfl, ?_⟩
    have e : inV (.int (y - x)) [.int 0, .int (c - b)] = strD b x c y := by
      show ((0 == y - x) || ((c - b == y - x) || false)) = decide (y - x = 0 ∨ y - x = c - b)
      by_cases h1 : y - x = 0
      · rw [decide_eq_true (.inl h1), h1]
        rfl
      · by_cases h2 : y - x = c - b
        · rw [decide_eq_true (.inr h2), h2]
          simp
        · rw [decide_eq_false (fun z => z.elim h1 h2), beq_eq_false_iff_ne.mpr (Ne.symm h1), beq_eq_false_iff_ne.mpr (Ne.symm h2)]
          rfl
    show Q (.bl (inV (.int (y - x)) [.int 0, .int (c - b)])) _
    rw [e]
    exact k _ (new_same nd)
theorem sc_add_points : FnScope ["points", "high", "probe", "offset", "low", "middle", "stops", "start", "end", "stop"] ["points", "high", "probe", "offset"] (defScope s_addp) := ⟨rfl, rfl, rfl, by decide +kernel, rfl, by decide +kernel, by decide +kernel⟩
theorem ok_add0 {f : Addr} {fd : FuncData} (F : Fun K "add_points" "add_points" s_addp f fd) : FnOk P w K mg base CX0 7 f fd ["points", "high", "probe", "offset"] (spAdd K CB CP 0) := by
  refine F.ok sc_add_points (fun vs H Q E h => ?_) (fun cdv A outer s H vs Q E hr h => ?_)
  · obtain ⟨pl, hp, pb, dp, x, dx, l, ln, xs, es, n, S, lo, hi, o, Z, bs, b, c, rfl, _⟩ := h
    rfl
  · obtain ⟨pl, hp, pb, dp, x, dx, l, ln, xs, es, n, S, lo, hi, o, Z, bs, b, c, _, _, _, _, _, _, _, _, _, _, _, _, z, _⟩ := h
    exact absurd z (Nat.lt_irrefl 0)
theorem ok_addS {lv : Nat} {f : Addr} {fd : FuncData} (F : Fun K "add_points" "add_points" s_addp f fd) (c_is_straight : Cal P w K mg base 1 "is_straight" (spStraight K)) (m_point : Mth P w K mg base (L2.CX P w) 6 CP "point" (zPoint K CB CP)) (cR : Cal P w K mg base (lv + 7) "add_points" (spAdd K CB CP lv)) :
    FnOk P w K mg base CX0 (lv + 8) f fd ["points", "high", "probe", "offset"] (spAdd K CB CP (lv + 1)) := by
  refine F.ok sc_add_points (fun vs H Q E h => ?_) (fun cdv A outer s H vs Q E hr h => ?_)
  · obtain ⟨pl, hp, pb, dp, x, dx, l, ln, xs, es, n, S, lo, hi, o, Z, bs, b, c, rfl, _⟩ := h
    rfl
  · obtain ⟨pl, hp, pb, dp, x, dx, l, ln, xs, es, n, S, lo, hi, o, Z, bs, b, c, rfl, hP, hh, pc, pts, pln, pll, lst, hhp, b0, bc, c1, _, two, room, k⟩ := h
    refine ⟨_, (pss_cons (ps_set (i := 4) sc_add_points.nd rfl (Or.inl rfl) (pe_ix ix_list (pv 0) (pe_un un_neg pe_int) (fun _ _ => rfl)))
      (pss_cons (ps_if (pt_val (pe_cal c_is_straight hr (by omega) (by rfl) (pa_cons (pv 4) (pa_cons (pv 1) pa_nil)))) (pss_cons (ps_expr (pe_bm PySem.F.plainAttrs_list PySem.F.slot_list_append PySem.F.type_list_append mt_append (pv 0) (pa_cons (pv 1) pa_nil)))
      (pss_one ps_retN)) pss_nil)
      (pss_cons (ps_set (i := 5) sc_add_points.nd rfl (Or.inl rfl) (pe_mthX takesNone m_point hr (by omega) (pv 2) (pa_cons (pv 3) (pa_cons (pe_op op_fdivW (pe_op op_add (pe_ix ix_tup (pv 4) pe_int (fun _ _ => rfl)) (pe_ix ix_tup (pv 1) pe_int (fun _ _ => rfl))) pe_int) pa_nil))))
      (pss_cons (ps_set (i := 6) sc_add_points.nd rfl (Or.inl rfl) (pe_lst (pa_cons (pv 5) pa_nil)))
      (C8.pss_cut (ps_if (PW.pt (pw_and (pt_not (pt_val (pe_cal c_is_straight hr (by omega) (by rfl) (pa_cons (pv 4) (pa_cons (pv 5) pa_nil))))) (pw_and1 (pt_not (pt_val (pe_cal c_is_straight hr (by omega) (by rfl) (pa_cons (pv 5) (pa_cons (pv 1) pa_nil)))))))) (pss_cons (ps_set (i := 7) sc_add_points.nd rfl (Or.inl rfl) (pe_mthX takesNone m_point hr (by omega) (pv 2) (pa_cons (pv 3) (pa_cons (pe_op op_sub (pe_op op_add (pe_ix ix_tup (pv 4) pe_int (fun _ _ => rfl)) (pe_ix ix_tup (pv 5) pe_int (fun _ _ => rfl))) (pe_ix ix_tup (pv 4) pe_int (fun _ _ => rfl))) pa_nil))))
      (pss_cons (ps_set (i := 8) sc_add_points.nd rfl (Or.inl rfl) (pe_mthX takesNone m_point hr (by omega) (pv 2) (pa_cons (pv 3) (pa_cons (pe_op op_add (pe_op op_sub (pe_ix ix_tup (pv 1) pe_int (fun _ _ => rfl)) (pe_ix ix_tup (pv 1) pe_int (fun _ _ => rfl))) (pe_ix ix_tup (pv 5) pe_int (fun _ _ => rfl))) pa_nil))))
      (pss_one (ps_set (i := 6) sc_add_points.nd rfl (Or.inl rfl) (pe_lst (pa_cons (pv 7) (pa_cons (pv 5) (pa_cons (pv 8) pa_nil)))))))) pss_nil)
      (pss_one (ps_for PassesOwn.never rfl (pi_list (pe_op op_cat (pv 6) (pe_lst (pa_cons (pv 1) pa_nil)))) (pg_name (i := 9) sc_add_points.nd rfl (Or.inl rfl)) (pss_one (ps_expr (pe_cal cR hr (Nat.le_refl _) (by rfl) (pa_cons (pv 0) (pa_cons (pv 9) (pa_cons (pv 2) (pa_cons (pv 3) pa_nil)))))))))))))), ?_⟩
    obtain ⟨ws, lowp, hw, w1, hlow, wl⟩ := pts.last lst
    have xpl : pl ≠ x := (ne_of hh.bx hw fun z => nomatch z).symm
    have Amono : ∀ i j z : Nat, i + j ≤ z → 3 * lv * i + 3 * lv * j ≤ 3 * lv * z := fun i j z h => by
      rw [← Nat.mul_add]
      exact Nat.mul_le_mul_left _ h
    refine ⟨_, rfl, _, rfl, pl, ws, -1, .ref lowp, rfl, rfl, SqL.of hw, w1, ?_⟩
    refine ⟨_, rfl, _, rfl, lowp, hp, b, _, c, _, rfl, SqT.of hlow, SqT.of hhp, fun H1 e1 => ⟨_, rfl, ite2 (fun st => ?_) (fun st => ?_)⟩⟩
    · -- no bend
      refine ⟨_, rfl, .inl ⟨rfl, _, SqL.of (e1 _ _ hw)⟩, _, rfl, pl, ws, _, rfl, rfl, e1 _ _ hw, lt_line (by omega), ?_⟩
      have hh2 : Hides K CB (upd H1 pl (.lst (ws ++ [.ref hp]))) x dx l xs es (n + (0 : Nat)) := by
        rw [show n + ((0 : Nat) : Int) = n by omega]
        exact (hh.same e1).updL (e1 _ _ hw) pll
      exact k _ [c] 0 (Keep.of e1).upd1 hh2 ((pts.same e1).put (e1 _ _ hw) (show PtAt H1 _ hp c from e1 _ _ hhp)) (Nat.zero_le _) (by show 1 ≤ 1 + _; omega) (by simp) rfl ⟨bc, (show _ ∨ _ from of_decide_eq_true (show decide _ = true from st)), trivial⟩ fun y hy => by
        rw [List.mem_singleton.mp hy]
        exact c1
    · have nst : ¬ Strt (ptI es S lo hi o) b c := fun z => st (by unfold strD; unfold Strt at z; exact decide_eq_true z)
      have i1 : 1 ≤ inside Z b c := by
        refine Classical.byContradiction fun z => nst (pc.hz b c b0 bc c1 (inside_zero (by omega)))
      have l1 : 1 ≤ lv := by
        refine Classical.byContradiction fun z => nst (pc.G.short pc.H.ok b0 bc c1 ?_)
        obtain rfl : lv = 0 := by omega
        exact two
      have two' : c - b ≤ 2 * 2 ^ (lv - 1) := by
        have e : (2 : Int) ^ (lv + 1 - 1) = 2 * 2 ^ (lv - 1) := by
          rw [show lv + 1 - 1 = (lv - 1) + 1 by omega, Int.pow_succ, Int.mul_comm]
        rw [e] at two
        exact two
      generalize hD : (2 : Int) ^ (lv - 1) = D at two'
      have hP1 := hP.same e1
      have hh1 := hh.same e1
      have low1 : PtAt H1 (ptI es S lo hi o) lowp b := e1 _ _ hlow
      have hi1 : PtAt H1 (ptI es S lo hi o) hp c := e1 _ _ hhp
      have m0 : b ≤ (b + c) / 2 := by omega
      have m1 : (b + c) / 2 ≤ c := by omega
      have m2 : (b + c) / 2 - b ≤ D := by omega
      have m3 : c - (b + c) / 2 ≤ D := by omega
      refine ⟨_, rfl, pb, dp, _, rfl, hP1.at_, rfl, _, rfl, _, rfl, lowp, _, 0, _, rfl, rfl, SqT.of low1, rfl, _, rfl, hp, _, 0, _, rfl, rfl, SqT.of hi1, rfl, _, _, rfl, rfl, _, _, rfl, rfl, ⟨by decide, by decide⟩, ?_⟩
      refine ask_point hP1 hh1 pc (by omega) (by omega) fun H2 mp kp2 hh2 nmp hmp => ?_
      have hP2 := hP1.keep hh1 kp2
      have low2 : PtAt H2 (ptI es S lo hi o) lowp b := low1.keep kp2 hh1.bx hh1.bx (fun _ z => nomatch z) (fun _ z => nomatch z)
      have hi2 : PtAt H2 (ptI es S lo hi o) hp c := hi1.keep kp2 hh1.bx hh1.bx (fun _ z => nomatch z) (fun _ z => nomatch z)
      have pts2 := (pts.same e1).keepX kp2 hh1.bx (fun _ z => nomatch z) xpl
      have kA2 : Keep x x H H2 := (Keep.of e1).trans kp2
      generalize (b + c) / 2 = md at m0 m1 m2 m3 hmp ⊢
      refine ⟨_, rfl, (by show 1 ≤ sizeLine; decide), fun sp nsp => ?_⟩
      have e3 := new_same (o := HO.lst [V.ref mp]) nsp
      have hsp : (upd H2 sp (.lst [V.ref mp])) sp = some (.lst [V.ref mp]) := upd_same
      have hP3 := hP2.same e3
      have hh3 := hh2.same e3
      have low3 : PtAt _ (ptI es S lo hi o) lowp b := e3 _ _ low2
      have hi3 : PtAt _ (ptI es S lo hi o) hp c := e3 _ _ hi2
      have mp3 : PtAt _ (ptI es S lo hi o) mp md := e3 _ _ hmp
      have pts3 := pts2.same e3
      have kA3 : Keep x x H (upd H2 sp (.lst [V.ref mp])) := kA2.trans (Keep.of e3)
      generalize upd H2 sp (.lst [V.ref mp]) = H3 at hsp hP3 hh3 low3 hi3 mp3 pts3 kA3 ⊢
      refine ⟨fun σ H' => ∃ (sb : List Int) (ps : List Addr) (sl : Addr) (j : Nat) (v7 v8 : Option V), σ = [some (.ref pl), some (.ref hp), some (.ref pb), some (optV o), some (.ref lowp), some (.ref mp), some (.ref sl), v7, v8, none] ∧ Keep x x H H' ∧ Hides K CB H' x dx l xs es (n + 1 + j) ∧ H' sl = some (.lst (ps.map V.ref)) ∧ Paired (PtAt H' (ptI es S lo hi o)) ps sb ∧ j ≤ 2 ∧ sb.length ≤ 3 ∧ Stp D b (sb ++ [c]), ?_, ?_⟩
      · refine ⟨_, rfl, _, rfl, lowp, mp, b, _, md, _, rfl, SqT.of low3, SqT.of mp3, fun H4 e4 => ⟨_, rfl, ?_⟩⟩
        have hz0 : n + 1 + ((0 : Nat) : Int) = n + 1 := by omega
        refine ite2 (fun s1 => ?_) (fun s1 => iteF ?_)
        · have hi4 := e4 _ _ hi3
          have mp4 := e4 _ _ mp3
          refine ⟨_, rfl, _, rfl, mp, hp, md, _, c, _, rfl, SqT.of mp4, SqT.of hi4, fun H5 e5 => ⟨_, rfl, ite2 (fun s2 => ?_) (fun s2 => ?_)⟩⟩
          · have e35 := e4.trans e5
            have hP5 := hP3.same e35
            have hh5 := hh3.same e35
            have low5 : PtAt H5 (ptI es S lo hi o) lowp b := e35 _ _ low3
            have hi5 : PtAt H5 (ptI es S lo hi o) hp c := e35 _ _ hi3
            have mp5 : PtAt H5 (ptI es S lo hi o) mp md := e35 _ _ mp3
            have g1 := pc.G.mono b0 m0 (by omega)
            have g2 := pc.G.lip pc.H.ok b0 m0 (by omega)
            have g3 := pc.G.mono (b := md) (c := c) (by omega) m1 c1
            have g4 := pc.G.lip pc.H.ok (b := md) (c := c) (by omega) m1 c1
            refine ⟨_, rfl, pb, dp, _, rfl, hP5.at_, rfl, _, rfl, _, rfl, lowp, _, 0, _, rfl, rfl, SqT.of low5, rfl, _, rfl, mp, _, 1, _, rfl, rfl, SqT.of mp5, rfl, _, _, rfl, rfl, _, rfl, lowp, _, 1, _, rfl, rfl, SqT.of low5, rfl, _, _, rfl, rfl, ?_⟩
            refine ask_point hP5 hh5 pc (by omega) (by omega) fun H6 st6 kp6 hh6 _ hs6 => ?_
            have hP6 := hP5.keep hh5 kp6
            have hi6 : PtAt H6 (ptI es S lo hi o) hp c := hi5.keep kp6 hh5.bx hh5.bx (fun _ z => nomatch z) (fun _ z => nomatch z)
            have mp6 : PtAt H6 (ptI es S lo hi o) mp md := mp5.keep kp6 hh5.bx hh5.bx (fun _ z => nomatch z) (fun _ z => nomatch z)
            refine ⟨_, rfl, pb, dp, _, rfl, hP6.at_, rfl, _, rfl, _, rfl, hp, _, 0, _, rfl, rfl, SqT.of hi6, rfl, _, rfl, hp, _, 1, _, rfl, rfl, SqT.of hi6, rfl, _, _, rfl, rfl, _, rfl, mp, _, 1, _, rfl, rfl, SqT.of mp6, rfl, _, _, rfl, rfl, ?_⟩
            refine ask_point hP6 hh6 pc (by omega) (by omega) fun H7 en7 kp7 hh7 _ he7 => ?_
            have hs7 := hs6.keep kp7 hh6.bx hh6.bx (fun _ z => nomatch z) (fun _ z => nomatch z)
            have mp7 : PtAt H7 (ptI es S lo hi o) mp md := mp6.keep kp7 hh6.bx hh6.bx (fun _ z => nomatch z) (fun _ z => nomatch z)
            refine ⟨_, rfl, _, rfl, _, rfl, (by show 3 ≤ sizeLine; decide), fun s8 n8 => ?_⟩
            have e8 := new_same (o := HO.lst [V.ref st6, .ref mp, .ref en7]) n8
            refine ⟨[_, md, _], [st6, mp, en7], s8, 2, _, _, rfl, ((kA3.trans (Keep.of e35)).trans (kp6.trans kp7)).trans (Keep.of e8), ?_, upd_same, .cons (e8 _ _ hs7) (.cons (e8 _ _ mp7) (.cons (e8 _ _ he7) .nil)), by omega, by show 3 ≤ 3; omega, ⟨by omega, by omega, by omega, by omega, by omega, by omega, by omega, by omega, trivial⟩⟩
            rw [show n + 1 + ((2 : Nat) : Int) = n + 1 + 1 + 1 by omega]
            exact hh7.same e8
          · have e35 := e4.trans e5
            refine ⟨[md], [mp], sp, 0, none, none, rfl, kA3.trans (Keep.of e35), ?_, e35 _ _ hsp, .cons (e35 _ _ mp3) .nil, by omega, by show 1 ≤ 3; omega, ⟨m0, m2, m1, m3, trivial⟩⟩
            rw [hz0]
            exact hh3.same e35
        · refine ⟨[md], [mp], sp, 0, none, none, rfl, kA3.trans (Keep.of e4), ?_, e4 _ _ hsp, .cons (e4 _ _ mp3) .nil, by omega, by show 1 ≤ 3; omega, ⟨m0, m2, m1, m3, trivial⟩⟩
          rw [hz0]
          exact hh3.same e4
      rintro σ H6 ⟨sb, ps, sl, j, v7, v8, rfl, kA6, hh6, hsl, pps, j2, sb3, stp⟩
      have hP6 := hP.keep hh kA6
      have hw6 := kA6 _ _ xpl xpl hw
      have pts6 := pts.keepX kA6 hh.bx (fun _ z => nomatch z) xpl
      have hi6 : PtAt H6 (ptI es S lo hi o) hp c := PtAt.keep (g := ptI es S lo hi o) hhp kA6 hh.bx hh.bx (fun _ z => nomatch z) (fun _ z => nomatch z)
      have lps : ps.length = sb.length := Paired.length pps
      refine ⟨_, rfl, _, rfl, (by show 1 ≤ sizeLine; decide), fun t1 nt1 => ?_⟩
      have e7 := new_same (o := HO.lst [V.ref hp]) nt1
      have ht1 : (upd H6 t1 (.lst [V.ref hp])) t1 = some (.lst [V.ref hp]) := upd_same
      have hsl7 := e7 _ _ hsl
      generalize upd H6 t1 (.lst [V.ref hp]) = H7 at e7 ht1 hsl7 ⊢
      refine ⟨sl, t1, _, _, rfl, rfl, hsl7, ht1, Nat.le_of_lt (lt_line (by rw [List.length_map]; show ps.length + 1 ≤ 100000; omega)), fun al nal => ?_⟩
      have e8 := e7.trans (new_same (o := HO.lst (ps.map V.ref ++ [V.ref hp])) nal)
      have hal : (upd H7 al (.lst (ps.map V.ref ++ [V.ref hp]))) al = some (.lst ((ps ++ [hp]).map V.ref)) := by
        rw [upd_same, List.map_append]
        rfl
      have alpl : al ≠ pl := (ne_of_none (e7 _ _ hw6) nal).symm
      have alx : al ≠ x := (ne_of_none (e7 _ _ hh6.bx) nal).symm
      generalize upd H7 al (.lst (ps.map V.ref ++ [V.ref hp])) = H8 at e8 hal ⊢
      have ebs : endC b (sb ++ [c]) = c := endC_snoc b c sb
      have I3 : 3 * (lv + 1) * inside Z b c = 3 * lv * inside Z b c + 3 * inside Z b c := by
        rw [Nat.mul_add, Nat.add_mul]
      refine ⟨al, rfl, ⟨_, SqL.of hal⟩, for_list (K := K) (a := al) (xs := (ps ++ [hp]).map V.ref) (fun i σ H' => ∃ (q : List Int) (m : Nat) (v9 : Option V), σ = [some (.ref pl), some (.ref hp), some (.ref pb), some (optV o), some (.ref lowp), some (.ref mp), some (.ref sl), v7, v8, v9] ∧ Keep pl x H H' ∧ Hides K CB H' x dx l xs es (n + 1 + j + m) ∧ PtsAt H' pl (ptI es S lo hi o) (bs ++ q) ∧
        m ≤ 3 * lv * inside Z b (cur b (sb ++ [c]) i) ∧ q.length ≤ i + 3 * lv * inside Z b (cur b (sb ++ [c]) i) ∧ (0 < i → q ≠ []) ∧ endC b q = cur b (sb ++ [c]) i ∧ Chn (ptI es S lo hi o) b q ∧ (∀ y ∈ q, y ≤ S + 1) ∧ H' al = some (.lst ((ps ++ [hp]).map V.ref)) ∧ Paired (PtAt H' (ptI es S lo hi o)) (ps ++ [hp]) (sb ++ [c]) ∧ ProbeAt H' pb CP dp x ln S lo hi)
        ⟨[], 0, none, rfl, ?_, ?_, ?_, Nat.zero_le _, Nat.zero_le _, (fun z => absurd z (Nat.lt_irrefl 0)), rfl, trivial, (fun _ z => nomatch z), hal, paired_app (Paired.mapP pps fun _ _ z => e8 _ _ z) (.cons (e8 _ _ hi6) .nil), hP6.same e8⟩ (fun i σ H' _ h => ?_) (fun i v σ H' hv h => ?_) (fun σ H' h => ?_)⟩
      · exact fun u ob h1 h2 hu => e8 _ _ (kA6 _ _ h2 h2 hu)
      · rw [show n + 1 + (j : Int) + ((0 : Nat) : Int) = n + 1 + j by omega]
        exact hh6.same e8
      · rw [List.append_nil]
        exact pts6.same e8
      · obtain ⟨q, m, v9, _, _, _, _, _, _, _, _, _, _, z, _⟩ := h
        exact SqL.of z
      · obtain ⟨q, m, v9, rfl, kq, hhq, ptq, mq, lq, nq, eq, cq, sq, alq, psq, hPq⟩ := h
        rw [List.getElem?_map] at hv
        cases hpi : (ps ++ [hp])[i]? with
        | none =>
          rw [hpi] at hv
          cases hv
        | some pi =>
          rw [hpi] at hv
          obtain rfl : V.ref pi = v := Option.some.inj hv
          obtain ⟨y, hy, hpy⟩ := paired_at psq hpi
          obtain ⟨c1', c2, c3, c4⟩ := stp_at stp hy
          have yc := stp_le stp (List.mem_of_getElem? hy)
          rw [ebs] at yc
          have il : i < (ps ++ [hp]).length := by
            refine Classical.byContradiction fun z => ?_
            rw [List.getElem?_eq_none (by omega)] at hpi
            cases hpi
          rw [List.length_append] at il
          replace il : i < ps.length + 1 := il
          have s1 := inside_split b (cur b (sb ++ [c]) i) y c1' c2 Z
          have s2 := inside_split b y c (by omega) yc.2 Z
          have A1 := Amono _ _ _ s1
          have A2 := Amono (inside Z b y) 0 (inside Z b c) (by omega)
          obtain ⟨wsq, hwq, _⟩ := ptq
          have ptq' : PtsAt H' pl (ptI es S lo hi o) (bs ++ q) := ⟨wsq, hwq, by assumption⟩
          refine ⟨_, rfl, _, rfl, _, rfl, _, rfl, pl, pi, pb, dp, x, dx, l, ln, xs, es, _, S, lo, hi, o, Z, bs ++ q, cur b (sb ++ [c]) i, y, rfl, hPq, hhq, pc, ptq', pln, pll, by rw [getLast_more lst, eq], hpy, by omega, c2, by omega, by omega, by rw [hD]; exact c3, by rw [List.length_append]; omega, fun H9 q1 m1 k9 hh9 pt9 mm ql qne qe qc qs => ?_⟩
          refine ⟨q ++ q1, m + m1, _, rfl, kq.trans k9, ?_, by rw [← List.append_assoc]; exact pt9, by rw [c4]; omega, by rw [List.length_append, c4]; omega, fun _ z => qne (List.append_eq_nil_iff.mp z).2, by rw [c4]; exact endC_app qne qe, (chn_app cq (by rw [eq]; exact qc)).1, fun u hu => ?_, k9 _ _ alpl alx alq, Paired.mapP psq fun _ _ z => z.keep k9 hwq hhq.bx (fun _ z => nomatch z) (fun _ z => nomatch z), hPq.keep2 hhq hwq pln k9⟩
          · rw [show n + 1 + (j : Int) + ((m + m1 : Nat) : Int) = n + 1 + j + m + m1 by omega]
            exact hh9
          · rcases List.mem_append.mp hu with z | z
            · exact sq u z
            · exact qs u z
      · obtain ⟨q, m, v9, rfl, kq, hhq, ptq, mq, lq, nq, eq, cq, sq, alq, psq, hPq⟩ := h
        have el : ((ps ++ [hp]).map V.ref).length = sb.length + 1 := by
          rw [List.length_map, List.length_append, lps]
          rfl
        rw [el, cur_end] at mq lq eq
        rw [el] at nq
        refine k H' q (1 + j + m) kq ?_ ptq (by rw [I3]; omega) (by rw [I3]; omega) (nq (Nat.succ_pos _)) eq cq sq
        rw [show n + ((1 + j + m : Nat) : Int) = n + 1 + j + m by omega]
        exact hhq
end
end Gc

/-! the constants of one place (k18) -/
namespace Gc
open PySem L2
abbrev s_consts : Stmt := top 26
structure TxtCo (mg : Str → Option Value) : Prop where
  zip : mg "zip" = none
theorem add_all {P : Program} {w : World} {K : PySem.W.Frag} {mg : Str → Option Value} {base : Heap} {CB CP f : Addr} {fd : FuncData} (F : Fun K "add_points" "add_points" s_addp f fd) (hm : mg "add_points" = some (.ref f)) (hk : PySem.W.keepIn K (.ref f) = true) (hb : Binds K fd ["points", "high", "probe", "offset"] [])
    (c_is_straight : Cal P w K mg base 1 "is_straight" (spStraight K)) (m_point : Mth P w K mg base (L2.CX P w) 6 CP "point" (zPoint K CB CP)) : ∀ lv : Nat, Cal P w K mg base (lv + 7) "add_points" (spAdd K CB CP lv)
  | 0 => ⟨_, _, _, ok_add0 F, hm, hk, hb⟩
  | lv + 1 => ⟨_, _, _, ok_addS F c_is_straight m_point (add_all F hm hk hb c_is_straight m_point lv), hm, hk, hb⟩
/-- pairs of numbers, in a list -/
def PairsL (H : Hp) (p : Addr) (F : List (Int × Int)) : Prop := ∃ ws : List V, H p = some (.lst ws) ∧ Paired (fun v (q : Int × Int) => ∃ a, v = .ref a ∧ H a = some (.tup [.int q.1, .int q.2])) ws F
/-- zip of two lists, the second the shorter one -/
theorem for_zipS {K : PySem.W.Frag} {a b : Addr} {xs ys : List V} {g : TG} {tb : TS} {D : L2.Ends} {σ : L2.St} {H : Hp} (hl : ys.length ≤ xs.length) (Pv : Nat → L2.St → Hp → Prop) (h0 : Pv 0 σ H) (hq : ∀ i σ H, Pv i σ H → SqL K H a xs ∧ SqL K H b ys)
    (hs : ∀ (i : Nat) (x y : V) (t : Addr) (σ : L2.St) (H : Hp), xs[i]? = some x → ys[i]? = some y → Pv i σ H → H t = none → g (.ref t) σ (upd H t (.tup [x, y])) fun σ2 H2 => tb { D with nx := Pv (i + 1), ct := Pv (i + 1), bk := D.nx } σ2 H2)
    (hd : ∀ σ H, Pv ys.length σ H → D.nx σ H) : ∃ W : Nat → Nat → L2.St → Hp → Prop, (∃ m, W 0 m σ H) ∧ ∀ i m σ H, W i m σ H →
      ((Itz K a b).stop i H ∧ D.nx σ H) ∨ ((Itz K a b).go i H ∧ ∃ N : L2.St → Hp → Prop, (∀ σ' H', N σ' H' → ∃ m', m' < m ∧ W (i + 1) m' σ' H') ∧
        ∀ v H', (Itz K a b).yld i H v H' → g v σ H' fun σ2 H2 => tb { D with nx := N, ct := N, bk := D.nx } σ2 H2) := by
  refine ⟨fun i m σ H => m = ys.length - i ∧ i ≤ ys.length ∧ Pv i σ H, ⟨ys.length, rfl, Nat.zero_le _, h0⟩, ?_⟩
  rintro i m σ H ⟨rfl, le, pv⟩
  obtain ⟨sx, sy⟩ := hq i σ H pv
  by_cases lt : i < ys.length
  · have ax : xs[i]? = some (xs[i]'(by omega)) := List.getElem?_eq_getElem (by omega)
    have ay : ys[i]? = some ys[i] := List.getElem?_eq_getElem lt
    refine .inr ⟨⟨xs, ys, _, _, sx, sy, ax, ay⟩, Pv (i + 1), fun σ2 H2 pv2 => ⟨ys.length - (i + 1), by omega, rfl, lt, pv2⟩, fun v H2 yl => ?_⟩
    obtain ⟨t, x', y', rfl, nt, rfl, f1, f2⟩ := yl
    exact hs i x' y' t σ H (f1 xs sx) (f2 ys sy) pv nt
  · obtain rfl : i = ys.length := by omega
    exact .inl ⟨⟨xs, ys, sx, sy, .inr (Nat.le_refl _)⟩, hd σ H pv⟩
theorem cut1 (v : V) (r : List V) : cutV (v :: r) (some 1) none = r := by
  simp [cutV, HT.sIx]
theorem fnd_snoc (g : Int → Int) : ∀ (l : List Int) (b c : Int) (acc : List (Int × Int)), fnd g b (l ++ [c]) acc = if g (endC b l) < g c then addP (fnd g b l acc) (g (endC b l) + 1, endC b l - g (endC b l)) else fnd g b l acc
  | [], b, c, acc => rfl
  | y :: l, b, c, acc => by
    rw [endC_cons]
    exact fnd_snoc g l y c _
theorem fnd_len (g : Int → Int) : ∀ (l : List Int) (b : Int) (acc : List (Int × Int)), (fnd g b l acc).length ≤ acc.length + l.length
  | [], b, acc => Nat.le_refl _
  | c :: l, b, acc => by
    have h := fnd_len g l c (if g b < g c then addP acc (g b + 1, b - g b) else acc)
    have q : (if g b < g c then addP acc (g b + 1, b - g b) else acc).length ≤ acc.length + 1 := by
      split
      · unfold addP
        split
        · omega
        · rw [List.length_append]
          exact Nat.le_refl _
      · omega
    show (fnd g c l _).length ≤ acc.length + (l.length + 1)
    omega
theorem endC_take {b : Int} : ∀ {q : List Int} {i : Nat}, i ≤ q.length → endC b (q.take i) = cur b q i
  | q, 0, _ => by
    rw [List.take_zero]
    rfl
  | [], i + 1, h => absurd h (Nat.not_succ_le_zero i)
  | y :: q, i + 1, h => by
    rw [List.take_succ_cons, endC_cons]
    exact endC_take (b := y) (q := q) (i := i) (Nat.le_of_succ_le_succ h)
theorem ask_point0 {K : PySem.W.Frag} {CB CP : Addr} {H : Hp} {Q : VK} {E : XK} {pb dp x dx l ln : Addr} {xs : List V} {es : List Cmd} {n S lo hi : Int} {o : Option Int} {y : Int} (hP : ProbeAt H pb CP dp x ln S lo hi) (hh : Hides K CB H x dx l xs es n) (hd : Hid es S lo hi) (ho : ∀ k, o = some k → lo ≤ k ∧ k ≤ hi) (S1 : S ≤ 10 ^ 6) (l100 : hi - lo ≤ 100) (y0 : 0 ≤ y)
    (k : ∀ (H' : Hp) (p : Addr), Keep x x H H' → Hides K CB H' x dx l xs es (n + 1) → H p = none → H' p = some (.tup [.int y, optV (ptG es S lo hi o y)]) → Q (.ref p) H') : zPoint K CB CP [.ref pb, optV o, .int y] H Q E := by
  rw [zPoint_eq]
  exact ⟨pb, dp, x, dx, l, ln, xs, es, n, S, lo, hi, _, _, rfl, hP, hh, hd, S1, l100, .inl ⟨o, y, rfl, rfl, ho, y0, k⟩⟩
theorem most_le (es : List Cmd) (o : Option Int) : most es o ≤ 1 + es.length := by
  cases o with
  | none => show 1 ≤ _; omega
  | some k =>
    have h := visits_sum [k] es.reverse (Gc.last es) (by simp)
    rw [List.map_cons, List.map_nil, List.sum_cons, List.sum_nil, List.length_reverse] at h
    show visits k es.reverse (Gc.last es) ≤ _
    omega
def spConsts (K : PySem.W.Frag) (CB CP : Addr) : Sp := fun vs H Q _ => ∃ (pb dp x dx l ln : Addr) (xs : List V) (es : List Cmd) (n S lo hi last : Int) (o : Option Int), vs = [.ref pb, optV o, .int S, .int last] ∧ ProbeAt H pb CP dp x ln S lo hi ∧ Hides K CB H x dx l xs es n ∧ Hid es S lo hi ∧ (∀ k, o = some k → lo ≤ k ∧ k ≤ hi) ∧ S ≤ 10 ^ 6 ∧ hi - lo ≤ 100 ∧ es.length ≤ 300 ∧ Ends es S last ∧
  ∀ (H' : Hp) (p : Addr) (F : List (Int × Int)) (m : Nat), Keep x x H H' → Hides K CB H' x dx l xs es (n + m) → H p = none → PairsL H' p F → FoundM es o last F → m ≤ 2 + 126 * most es o → F.length ≤ 1 + 126 * most es o → Q (.ref p) H'
section
variable {P : Program} {w : World} {K : PySem.W.Frag} {mg : Str → Option Value} {base : Heap} {CB CP : Addr}
theorem sc_learn_constants : FnScope ["probe", "offset", "size", "last", "points", "nearest", "found", "bound", "goal", "_", "next_goal"] ["probe", "offset", "size", "last"] (defScope s_consts) := ⟨rfl, rfl, rfl, by decide +kernel, rfl, by decide +kernel, by decide +kernel⟩
theorem ok_consts {f : Addr} {fd : FuncData} (F : Fun K "learn_constants" "learn_constants" s_consts f fd) (T : TxtCo mg) (m_point : Mth P w K mg base (L2.CX P w) 6 CP "point" (zPoint K CB CP)) (c_add_points : Cal P w K mg base 28 "add_points" (spAdd K CB CP 21)) :
    FnOk P w K mg base CX0 29 f fd ["probe", "offset", "size", "last"] (spConsts K CB CP) := by
  refine F.ok sc_learn_constants (fun vs H Q E h => ?_) (fun cdv A outer s H vs Q E hr h => ?_)
  · obtain ⟨pb, dp, x, dx, l, ln, xs, es, n, S, lo, hi, last, o, rfl, _⟩ := h
    rfl
  · obtain ⟨pb, dp, x, dx, l, ln, xs, es, n, S, lo, hi, last, o, rfl, hP, hh, hd, ho, S1, l100, es300, en, k⟩ := h
    refine ⟨_, (pss_cons (ps_set (i := 4) sc_learn_constants.nd rfl (Or.inl rfl) (pe_lst (pa_cons (pe_mthX takesNone m_point hr (by decide) (pv 0) (pa_cons (pv 1) (pa_cons pe_int pa_nil))) pa_nil)))
      (pss_cons (ps_set (i := 5) sc_learn_constants.nd rfl (Or.inl rfl) (pe_ix ix_tup (pe_ix ix_list (pv 4) pe_int (fun _ _ => rfl)) pe_int (fun _ _ => rfl)))
      (pss_cons (ps_if (PW.pt (pw_or (pt_cmpR op_isN (pv 5) pe_non (nomark _)) (pw_or1 (pt_cmpR op_ge (pv 5) (pv 3) (nomark _))))) (pss_one (ps_ret (pe_lst pa_nil))) pss_nil)
      (pss_cons (ps_expr (pe_cal c_add_points hr (by decide) (by rfl) (pa_cons (pv 4) (pa_cons (pe_mthX takesNone m_point hr (by decide) (pv 0) (pa_cons (pv 1) (pa_cons (pe_op op_add (pv 2) pe_int) pa_nil))) (pa_cons (pv 0) (pa_cons (pv 1) pa_nil))))))
      (pss_cons (ps_set (i := 6) sc_learn_constants.nd rfl (Or.inl rfl) (pe_lst pa_nil))
      (pss_cons (ps_for PassesOwn.never rfl (pi_zip (by rfl) T.zip (pa_cons (pv 4) (pa_cons (pe_slice sl_list (pv 4) (po_some pe_int) po_none) pa_nil))) (pg_tup rfl (pgs_cons (pg_tup rfl (pgs_cons (pg_name (i := 7) sc_learn_constants.nd rfl (Or.inl rfl)) (pgs_cons (pg_name (i := 8) sc_learn_constants.nd rfl (Or.inl rfl)) pgs_nil))) (pgs_cons (pg_tup rfl (pgs_cons (pg_name (i := 9) sc_learn_constants.nd rfl (Or.inl rfl)) (pgs_cons (pg_name (i := 10) sc_learn_constants.nd rfl (Or.inl rfl)) pgs_nil))) pgs_nil))) (pss_one (ps_if (PW.pt (pw_and (pt_cmpR op_gt (pv 10) (pv 8) (nomark _)) (pw_and1 (PW.pt (pw_or (pt_not (pt_truth (pv 6) (fun _ => rfl))) (pw_or1 (pt_cmpR op_ne (pe_ix ix_tup (pe_ix ix_list (pv 6) (pe_un un_neg pe_int) (fun _ _ => rfl)) pe_int (fun _ _ => rfl)) (pe_op op_sub (pv 7) (pv 8)) (nomark _)))))))) (pss_one (ps_expr (pe_bm PySem.F.plainAttrs_list PySem.F.slot_list_append PySem.F.type_list_append mt_append (pv 6) (pa_cons (pe_tup (pa_cons (pe_op op_add (pv 8) pe_int) (pa_cons (pe_op op_sub (pv 7) (pv 8)) pa_nil))) pa_nil)))) pss_nil)))
      (pss_one (ps_ret (pv 6))))))))), ?_⟩
    have s0 := hd.s0
    refine ⟨_, rfl, pb, dp, _, rfl, hP.at_, rfl, _, rfl, ?_⟩
    refine ask_point0 hP hh hd ho S1 l100 (Int.le_refl 0) fun H1 p1 kp1 hh1 np1 hp1 => ?_
    have hP1 := hP.keep hh kp1
    refine ⟨(by show 1 ≤ sizeLine; decide), fun q nq => ?_⟩
    have e2 := new_same (o := HO.lst [V.ref p1]) nq
    have hq : (upd H1 q (.lst [V.ref p1])) q = some (.lst [V.ref p1]) := upd_same
    have hP2 := hP1.same e2
    have hh2 := hh1.same e2
    have hp2 := e2 _ _ hp1
    have qx : q ≠ x := (ne_of_none hh1.bx nq).symm
    have ql : q ≠ l := (ne_of_none hh1.hl nq).symm
    have qn : q ≠ ln := (ne_of_none hP1.ls nq).symm
    have kp2 : Keep x x H (upd H1 q (.lst [V.ref p1])) := kp1.trans (Keep.of e2)
    have nqH : H q = none := kk0 hh.bx hh1.bx nq kp1
    generalize upd H1 q (.lst [V.ref p1]) = H2 at hq hP2 hh2 hp2 kp2 ⊢
    refine ⟨_, rfl, q, _, 0, _, rfl, rfl, SqL.of hq, rfl, p1, _, 1, _, rfl, rfl, SqT.of hp2, rfl, ?_⟩
    have mo := most_le es o
    have hn1 : n + ((1 : Nat) : Int) = n + 1 := by omega
    have ret0 : ge (ptG es S lo hi o 0) last → ∀ r, H2 r = none → Q (.ref r) (upd H2 r (.lst [])) := fun hg r nr => by
      have e3 := new_same (o := HO.lst []) nr
      refine k _ r [] 1 (kp2.trans (Keep.of e3)) (by rw [hn1]; exact hh2.same e3) (kk0 hh.bx hh2.bx nr kp2) ⟨[], upd_same, .nil⟩ (empty_of hd ho en.le hg) (by omega) (Nat.zero_le _)
    cases e0 : ptG es S lo hi o 0 with
    | none =>
      rw [e0] at ret0
      exact ⟨_, rfl, rfl, _, rfl, iteT (iteT ⟨(by show 0 ≤ sizeLine; decide), fun r nr => ret0 (ge_none _) r nr⟩)⟩
    | some g0 =>
      rw [e0] at ret0 hp2
      refine ⟨_, rfl, rfl, _, rfl, iteF ⟨_, rfl, _, rfl, _, _, rfl, rfl, _, rfl, ite2 (fun c => ?_) (fun c => ?_)⟩⟩
      · exact ⟨(by show 0 ≤ sizeLine; decide), fun r nr => ret0 (ge_some.mpr (of_decide_eq_true c)) r nr⟩
      · have gl : g0 < last := by
          have : ¬ last ≤ g0 := fun z => c (decide_eq_true z)
          omega
        have le := en.le
        obtain ⟨G, pe⟩ := gf_of hd ho e0 (by omega)
        obtain ⟨R, R1, R2⟩ := runs_all es (2 * S + 2) o
        have pc : Plc es S lo hi o (bends R) := ⟨hd, ho, G, pe, fun b c b0 bc c1 z => G.bend hd.ok R2 b0 bc c1 z, S1, l100⟩
        have zl : (bends R).length ≤ 2 * most es o := by
          rw [bends_len]
          omega
        have il := inside_le (bends R) 0 (S + 1)
        refine ⟨_, rfl, _, rfl, pb, dp, _, rfl, hP2.at_, rfl, _, rfl, _, rfl, _, _, rfl, rfl, ?_⟩
        refine ask_point hP2 hh2 pc (by omega) (by omega) fun H3 hp3 kp3 hh3 np3 hi3 => ?_
        have hP3 := hP2.keep hh2 kp3
        have hq3 := kp3 _ _ qx qx hq
        have hp13 : PtAt H3 (ptI es S lo hi o) p1 0 := by
          have w : H2 p1 = some (.tup [.int 0, .int (ptI es S lo hi o 0)]) := by
            have z := pe 0 (Int.le_refl 0) (by omega)
            rw [e0] at z
            rw [← Option.some.inj z]
            exact hp2
          exact PtAt.keep (g := ptI es S lo hi o) w kp3 hh2.bx hh2.bx (fun _ z => nomatch z) (fun _ z => nomatch z)
        have pts3 : PtsAt H3 q (ptI es S lo hi o) [0] := ⟨_, hq3, .cons ⟨p1, rfl, hp13⟩ .nil⟩
        refine ⟨_, rfl, _, rfl, q, hp3, pb, dp, x, dx, l, ln, xs, es, _, S, lo, hi, o, bends R, [0], 0, S + 1, rfl, hP3, hh3, pc, pts3, qn, ql, rfl, hi3, Int.le_refl 0, by omega, Int.le_refl _, by decide, by show S + 1 - 0 ≤ 2 ^ 20; omega, by show 1 + 1 + 3 * 21 * inside (bends R) 0 (S + 1) ≤ 90000; omega, fun H4 qs m kp4 hh4 pts4 mm lq qne qe qc qb => ?_⟩
        obtain ⟨ws, hw, pw⟩ := pts4
        have kpH : Keep q x H H4 := fun u ob h1 h2 hu => kp4 u ob h1 h2 (kp3 u ob h2 h2 (kp2 u ob h2 h2 hu))
        have kx : Keep x x H H4 := fun u ob h1 h2 hu => kpH u ob (fun z => by rw [z, nqH] at hu; cases hu) h1 hu
        -- the points: the first one, and the others
        rw [show ([0] : List Int) ++ qs = 0 :: qs from rfl] at pw
        cases pw with
        | @cons v0 z0 wr qr h0 pr =>
        refine ⟨(by show 0 ≤ sizeLine; decide), fun r nr => ?_⟩
        have rq : r ≠ q := (ne_of_none hw nr).symm
        have rx : r ≠ x := (ne_of_none hh4.bx nr).symm
        have e5 := new_same (o := HO.lst []) nr
        have hr5 : (upd H4 r (.lst [])) r = some (.lst []) := upd_same
        have hw5 := e5 _ _ hw
        generalize upd H4 r (.lst []) = H5 at e5 hr5 hw5 ⊢
        refine ⟨_, rfl, _, rfl, _, rfl, q, _, rfl, SqL.of hw5, fun s ns => ?_⟩
        have sr : s ≠ r := (ne_of_none hr5 ns).symm
        rw [cut1]
        have e6 := e5.trans (new_same (o := HO.lst wr) ns)
        have hs6 : (upd H5 s (.lst wr)) s = some (.lst wr) := upd_same
        have hr6 := new_same (o := HO.lst wr) ns _ _ hr5
        generalize upd H5 s (.lst wr) = H6 at e6 hs6 hr6 ⊢
        have lwr : wr.length = qs.length := Paired.length pr
        have G0 := G
        generalize hg : ptI es S lo hi o = g at G0 h0 pr qc qb ⊢
        have eT : ∀ i c, qs[i]? = some c → qs.take (i + 1) = qs.take i ++ [c] := fun i c h => takeS h
        refine ⟨q, s, v0 :: wr, wr, rfl, SqL.of (e6 _ _ hw), SqL.of hs6, for_zipS (K := K) (a := q) (b := s) (xs := v0 :: wr) (ys := wr) (by simp) (fun i σ H' => ∃ (v7 v8 v9 v10 : Option V), σ = [some (.ref pb), some (optV o), some (.int S), some (.int last), some (.ref q), some (.int g0), some (.ref r), v7, v8, v9, v10] ∧ Same H4 H' ∧ H' s = some (.lst wr) ∧ PairsL H' r (fnd g 0 (qs.take i) []))
          ⟨none, none, none, none, rfl, e6, hs6, [], hr6, .nil⟩ (fun i σ H' h => ?_) (fun i u v t σ H' hu hv h nt => ?_) (fun σ H' h => ?_)⟩
        · obtain ⟨_, _, _, _, _, e, hs', _⟩ := h
          exact ⟨SqL.of (e _ _ hw), SqL.of hs'⟩
        · obtain ⟨v7, v8, v9, v10, rfl, e, hs', wf, hwf, pf⟩ := h
          obtain ⟨c, hc, pc', rfl, hpc⟩ := paired_at pr hv
          have il : i < qs.length := by
            refine Classical.byContradiction fun z => ?_
            rw [List.getElem?_eq_none (by omega)] at hc
            cases hc
          obtain ⟨pu, rfl, hpu⟩ : ∃ p, u = .ref p ∧ H4 p = some (.tup [.int (cur 0 qs i), .int (g (cur 0 qs i))]) := by
            cases i with
            | zero =>
              obtain rfl : v0 = u := Option.some.inj hu
              exact h0
            | succ i =>
              obtain ⟨c', hc', z⟩ := paired_at pr (show wr[i]? = some u from hu)
              have ec : cur 0 qs (i + 1) = c' := by
                unfold cur
                rw [List.getElem?_cons_succ, hc']
                rfl
              rw [ec]
              exact z
          have ecur := endC_take (b := 0) (q := qs) (i := i) (by omega)
          have fs := fnd_snoc g (qs.take i) 0 c []
          rw [ecur] at fs
          rw [eT i c hc, fs]
          have la := fnd_len g (qs.take i) 0 []
          rw [List.length_take] at la
          have lw := Paired.length pf
          generalize fnd g 0 (qs.take i) [] = acc at pf la lw ⊢
          replace la : acc.length ≤ 0 + min i qs.length := la
          generalize cur 0 qs i = b at hpu ⊢
          have e7 := e.trans (new_same (o := HO.tup [V.ref pu, .ref pc']) nt)
          have ht : (upd H' t (.tup [V.ref pu, .ref pc'])) t = some (.tup [V.ref pu, .ref pc']) := upd_same
          have hs7 := new_same (o := HO.tup [V.ref pu, .ref pc']) nt _ _ hs'
          have hwf7 := new_same (o := HO.tup [V.ref pu, .ref pc']) nt _ _ hwf
          have pf7 : Paired (fun v (q : Int × Int) => ∃ a, v = .ref a ∧ (upd H' t (.tup [V.ref pu, .ref pc'])) a = some (.tup [.int q.1, .int q.2])) wf acc := Paired.mapP pf fun _ _ z => ⟨z.choose, z.choose_spec.1, new_same nt _ _ z.choose_spec.2⟩
          generalize upd H' t (.tup [V.ref pu, .ref pc']) = H7 at e7 ht hs7 hwf7 pf7 ⊢
          refine ⟨t, _, rfl, SqT.of ht, rfl, _, _, rfl, pu, _, rfl, SqT.of (e7 _ _ hpu), rfl, _, _, rfl, _, _, rfl, rfl, _, _, rfl, pc', _, rfl, SqT.of (e7 _ _ hpc), rfl, _, _, rfl, _, _, rfl, rfl, rfl, ?_⟩
          have more : ∀ (H8 : Hp), Same H7 H8 → wf.length < sizeLine → ∀ tt, H8 tt = none → ∃ (v7 v8 v9 v10 : Option V), ([some (.ref pb), some (optV o), some (.int S), some (.int last), some (.ref q), some (.int g0), some (.ref r), some (.int b), some (.int (g b)), some (.int c), some (.int (g c))] : L2.St) = [some (.ref pb), some (optV o), some (.int S), some (.int last), some (.ref q), some (.int g0), some (.ref r), v7, v8, v9, v10] ∧ Same H4 (upd (upd H8 tt (.tup [.int (g b + 1), .int (b - g b)])) r (.lst (wf ++ [.ref tt]))) ∧ (upd (upd H8 tt (.tup [.int (g b + 1), .int (b - g b)])) r (.lst (wf ++ [.ref tt]))) s = some (.lst wr) ∧ PairsL (upd (upd H8 tt (.tup [.int (g b + 1), .int (b - g b)])) r (.lst (wf ++ [.ref tt]))) r (acc ++ [(g b + 1, b - g b)]) := fun H8 e8 hz tt ntt => by
            have e9 := e8.trans (new_same (o := HO.tup [V.int (g b + 1), .int (b - g b)]) ntt)
            have ht9 : (upd H8 tt (.tup [V.int (g b + 1), .int (b - g b)])) tt = some (.tup [V.int (g b + 1), .int (b - g b)]) := upd_same
            generalize upd H8 tt (.tup [V.int (g b + 1), .int (b - g b)]) = H9 at e9 ht9 ⊢
            have hr9 := e9 _ _ hwf7
            have tp : ∀ a zs, H9 a = some (.tup zs) → (upd H9 r (.lst (wf ++ [.ref tt]))) a = some (.tup zs) := fun a zs z => by
              rw [upd_ne (ne_of z hr9 fun e => nomatch e)]
              exact z
            refine ⟨_, _, _, _, rfl, same_freeU (e7.trans e9) nr, by rw [upd_ne sr]; exact e9 _ _ hs7, _, upd_same, paired_app (Paired.mapP pf7 fun _ _ z => ⟨z.choose, z.choose_spec.1, tp _ _ (e9 _ _ z.choose_spec.2)⟩) (.cons ⟨tt, rfl, tp _ _ ht9⟩ .nil)⟩
          refine ⟨_, rfl, _, rfl, _, _, rfl, rfl, _, rfl, ite2 (fun up => ?_) (fun up => ?_)⟩
          · have up' : g b < g c := of_decide_eq_true up
            rw [if_pos up']
            have wz : wf.length < sizeLine := lt_line (by omega)
            rcases paired_last pf7 with ⟨rfl, rfl⟩ | ⟨wl, yl, wf', acc', rfl, rfl, al, rfl, hal⟩
            · refine ⟨_, rfl, _, tru_seq (SqL.of hwf7), iteT (iteT ?_)⟩
              refine ⟨_, rfl, .inl ⟨rfl, _, SqL.of hwf7⟩, _, rfl, _, _, rfl, rfl, _, rfl, _, rfl, _, _, rfl, rfl, (by show 2 ≤ sizeLine; decide), fun tt ntt => ?_⟩
              rw [addP_nil]
              exact ⟨r, _, _, rfl, rfl, new_same ntt _ _ hwf7, wz, more _ (Same.refl _) wz tt ntt⟩
            · have tr : (!(wf' ++ [V.ref al]).isEmpty) = true := by simp
              refine ⟨_, rfl, _, tru_seq (SqL.of hwf7), ?_⟩
              rw [tr]
              refine iteF ?_
              have ad : ∀ d, addP (acc' ++ [yl]) (g b + 1, d) = if yl.2 = d then acc' ++ [yl] else acc' ++ [yl] ++ [(g b + 1, d)] := fun d => by
                unfold addP
                rw [List.getLast?_append]
                show (if some yl.2 = some d then _ else _) = _
                by_cases z : yl.2 = d
                · rw [if_pos (by rw [z]), if_pos z]
                · rw [if_neg (fun w => z (Option.some.inj w)), if_neg z]
              refine ⟨_, rfl, _, rfl, r, _, -1, _, rfl, rfl, SqL.of hwf7, atI_last _ _, al, _, 1, _, rfl, rfl, SqT.of hal, rfl, _, rfl, _, rfl, _, _, rfl, rfl, rfl, _, rfl, ite2 (fun d => ?_) (fun d => ?_)⟩
              · have ne : ¬ yl.2 = b - g b := fun z => by
                  rw [z, decide_eq_true rfl] at d
                  cases d
                rw [ad, if_neg ne]
                refine ⟨_, rfl, .inl ⟨rfl, _, SqL.of hwf7⟩, _, rfl, _, _, rfl, rfl, _, rfl, _, rfl, _, _, rfl, rfl, (by show 2 ≤ sizeLine; decide), fun tt ntt => ?_⟩
                exact ⟨r, _, _, rfl, rfl, new_same ntt _ _ hwf7, wz, more _ (Same.refl _) wz tt ntt⟩
              · have eq : yl.2 = b - g b := by
                  refine Classical.byContradiction fun z => d ?_
                  rw [decide_eq_false (fun w => z (V.int.inj w))]
                  rfl
                rw [ad, if_pos eq]
                exact ⟨_, _, _, _, rfl, e7, hs7, _, hwf7, pf7⟩
          · have up' : ¬ g b < g c := fun z => up (decide_eq_true z)
            rw [if_neg up']
            refine iteF ?_
            exact ⟨_, _, _, _, rfl, e7, hs7, _, hwf7, pf7⟩
        · obtain ⟨v7, v8, v9, v10, rfl, e, hs', pf⟩ := h
          rw [lwr, List.take_length] at pf
          have sg := fnd_seg G0 hd.ok qs 0 [] (Int.le_refl 0) qc (by omega) qb (by omega) (a := g 0 + 1) rfl
          rw [qe] at sg
          have fl := fnd_len g qs 0 []
          replace fl : (fnd g 0 qs []).length ≤ 0 + qs.length := fl
          refine ⟨_, rfl, k H' r _ (2 + m) (kx.trans (Keep.of e)) ?_ (kk0 hh.bx hh4.bx nr kx) pf (found_spec hd.ok hd.ht en G0 sg) (by omega) (by omega)⟩
          rw [show n + ((2 + m : Nat) : Int) = n + 1 + 1 + m by omega]
          exact hh4.same e
end
end Gc

/-! dicts whose keys are whole numbers and None: made, stored to, asked, walked -/
namespace Gc
open PySem PySem.Spec PyProof.Rows L2
/-- None, or a number -/
abbrev NK := Option Int
def nkIs : NK → Value → Bool
  | none, .none => true
  | some i, .int j _ => decide (j = i)
  | _, _ => false
def nkL : NK → Leaf
  | none => .none
  | some i => .num i
def nkV : NK → V
  | none => .non
  | some i => .int i
theorem nk_shape {k : NK} {v : Value} (h : nkIs k v = true) : (k = none ∧ v = Value.none) ∨ ∃ i t, k = some i ∧ v = Value.int i t := by
  cases k with
  | none =>
    cases v with
    | none => exact .inl ⟨rfl, rfl⟩
    | _ => exact absurd h Bool.false_ne_true
  | some i =>
    cases v with
    | int j t =>
      obtain rfl : j = i := of_decide_eq_true h
      exact .inr ⟨j, t, rfl, rfl⟩
    | _ => exact absurd h Bool.false_ne_true
theorem nk_leaf {k : NK} {v : Value} (h : nkIs k v = true) : Leaf.isOf (nkL k) v = true := by
  rcases nk_shape h with ⟨rfl, rfl⟩ | ⟨i, t, rfl, rfl⟩
  · rfl
  · exact decide_eq_true rfl
theorem nkL_inj {a b : NK} (h : nkL a = nkL b) : a = b := by
  cases a with
  | none =>
    cases b with
    | none => rfl
    | some j => exact nomatch h
  | some i =>
    cases b with
    | none => exact nomatch h
    | some j =>
      injection h with h
      rw [h]
theorem nkL_dec (a b : NK) : decide (nkL a = nkL b) = decide (a = b) := by
  by_cases e : a = b
  · rw [decide_eq_true e, e, decide_eq_true rfl]
  · rw [decide_eq_false e, decide_eq_false fun z => e (nkL_inj z)]
def noKind (prog : Program) (w : World) : PySem.KeyKind prog w NK where
  is := nkIs
  hash := fun k => (leafKind prog w).hash (nkL k)
  inj := fun v a b ha hb => nkL_inj ((leafKind prog w).inj v _ _ (nk_leaf ha) (nk_leaf hb))
  byValue := fun k v h => (leafKind prog w).byValue (nkL k) v (nk_leaf h)
  pyHash := fun hv h => (leafKind prog w).pyHash (nk_leaf hv) h
  eqBool := fun {A} {E} {s} {a} {b} {u} {v} {Q} hu hv h => (leafKind prog w).eqBool (nk_leaf hu) (nk_leaf hv) (by rw [nkL_dec]; exact h)
  «strs» := fun k x t v h => by
    rcases nk_shape h with ⟨_, e⟩ | ⟨i, t', _, e⟩ <;> exact nomatch e
theorem nkV_is {P : Program} {w : World} {k : NK} {u : Value} (r : RelV (nkV k) u) : (noKind P w).is k u = true := by
  cases k with
  | none =>
    obtain rfl : u = Value.none := r
    rfl
  | some i =>
    obtain ⟨t, rfl⟩ := (show ∃ t, u = Value.int i t from r)
    exact decide_eq_true rfl
theorem nkV_rel {P : Program} {w : World} {k : NK} {u : Value} (h : (noKind P w).is k u = true) : RelV (nkV k) u := by
  rcases nk_shape (show nkIs k u = true from h) with ⟨rfl, rfl⟩ | ⟨i, t, rfl, rfl⟩
  · rfl
  · exact ⟨t, rfl⟩
/-- such a dict -/
def NoD (P : Program) (w : World) (a : Addr) (kvs : List (NK × V)) : HO := .ext fun h => kvs.length ≤ sizeLine ∧ (a == sysModules) = false ∧ ∃ vs, KV kvs vs ∧ h.DictOf (noKind P w) a vs
theorem noD_ok {P : Program} {w : World} {H : Hp} {h : Heap} {a : Addr} {kvs : List (NK × V)} (hz : kvs.length ≤ sizeLine) (hd : (a == sysModules) = false) {vs : List (NK × Value)} (r : KV kvs vs) (x : h.DictOf (noKind P w) a vs) : ObjOk P w H h a (NoD P w a kvs) := by
  refine ⟨⟨hz, hd, vs, r, x⟩, ?_, fun h1 h2 q st => ?_⟩
  · obtain ⟨o, _, _, ho, _⟩ := x
    exact ⟨o, ho⟩
  · obtain ⟨z1, z2, vs', r', o, es, ep, ho, x'⟩ := q
    exact ⟨z1, z2, vs', r', o, es, ep, st o ho, x'⟩
theorem no_rd {P : Program} {w : World} {H : Hp} {h : Heap} {a : Addr} {kvs : List (NK × V)} (ok : HOk P w H h) (e : Rd H a (NoD P w a kvs)) : kvs.length ≤ sizeLine ∧ (a == sysModules) = false ∧ ∃ vs, KV kvs vs ∧ h.DictOf (noKind P w) a vs := by
  rcases e with e | ⟨o, e⟩
  · exact (show ObjOk P w H h a (NoD P w a kvs) from ok a _ e).1
  · obtain ⟨_, x⟩ := ok a _ e
    exact (show ObjOk P w H h a (NoD P w a kvs) from x).1
/-- {} -/
def tNoNew (P : Program) (w : World) : TE := fun _ H Q => ∀ p, H p = none → Q (.ref p) (upd H p (NoD P w p []))
def tNoGet (P : Program) (w : World) (td ty : TE) : TE := fun σ H Q => td σ H fun x H1 => ty σ H1 fun y H2 => ∃ a kvs k v, x = .ref a ∧ Rd H2 a (NoD P w a kvs) ∧ y = nkV k ∧ valV kvs k = some v ∧ Q v H2
def tNoGet1 (P : Program) (w : World) (td ty : TE) : TE := fun σ H Q => td σ H fun x H1 => ∃ a kvs, x = .ref a ∧ Rd H1 a (NoD P w a kvs) ∧ ty σ H1 fun y H2 => ∃ kvs k, Rd H2 a (NoD P w a kvs) ∧ y = nkV k ∧ Q ((valV kvs k).getD .non) H2
def sNoPut (P : Program) (w : World) (td ty tv : TE) : TS := fun D σ H => tv σ H fun v H1 => td σ H1 fun x H2 => ty σ H2 fun y H3 => ∃ a kvs k, x = .ref a ∧ H3 a = some (NoD P w a kvs) ∧ y = nkV k ∧ kvs.length < sizeLine ∧ D.nx σ (upd H3 a (NoD P w a (putK kvs k v)))
section
variable {X : Cx} {o i e value : Expr} {pos pos' apos cpos : Pos} {td ty tv : TE}
theorem pe_noNew : PE X (.Dict [] [] pos) (tNoNew X.prog X.w) := ⟨fun pins s σ H Q I h =>
  wpAny_Dict_empty ⟨.ref s.heap.objs.size, _, I.laid (a := s.heap.objs.size) (o := NoD X.prog X.w s.heap.objs.size []) (t' := s.toks) (fun _ _ q => Heap.get?_push_of_some _ q) (Nat.le_refl _)
    (noD_ok (Nat.zero_le _) (beq_eq_false_iff_ne.mpr (Ne.symm (Nat.ne_of_lt I.big))) .nil (Heap.DictOf.new s.heap)), rfl, h _ (I.hok.fresh (Nat.le_refl _))⟩⟩
theorem pe_noGet (ho : PE X o td) (hi : PE X i ty) (hs : NoSl i) : PE X (.Subscript o i pos) (tNoGet X.prog X.w td ty) := by
  refine ⟨fun pins s σ H Q I h => ?_⟩
  refine subD_of PySem.F.slot_dict_getitem.lookup hs (thn (ho.run pins s σ H _ I h) fun u s1 ⟨x, H1, I1, rx, q1⟩ => thn (hi.run pins s1 σ H1 _ I1 q1) fun iv s2 ⟨y, H2, I2, ry, a, kvs, k, v, ex, g, ey, gv, q2⟩ => ?_)
  subst ex
  subst ey
  obtain rfl : u = Value.ref a := rx
  obtain ⟨_, hd, vs, rel, dd⟩ := no_rd I2.hok g
  obtain ⟨w', hw, rw'⟩ := RelO.some_of (v := v) (o := valueAt vs k) (by rw [← gv]; exact rel.val k)
  exact ⟨dd.typeIs, wpAny_getItem_of (nkV_is ry) dd.mapOf hw ⟨v, H2, I2.tok _, rw', q2⟩⟩
theorem pe_noGet1 (ho : PE X o td) (he : PE X e ty) (m : M1 X o "get" apos e cpos) : PE X (.Call (.Attribute o "get" apos) [e] [] cpos) (tNoGet1 X.prog X.w td ty) := by
  refine ⟨fun pins s σ H Q I h => ?_⟩
  refine wpAny_Call_method m.base m.few m.line PySem.F.plainAttrs_dict PySem.F.slot_dict_get PySem.F.type_dict_get (thn (ho.run pins s σ H _ I h) fun u s1 ⟨x, H1, I1, rx, a, kvs, ex, d, q1⟩ => ?_)
  subst ex
  obtain rfl : u = Value.ref a := rx
  obtain ⟨_, hd0, vs0, _, dd0⟩ := no_rd I1.hok d
  refine ⟨dd0.typeIs, fun b q => ?_, ?_⟩
  · cases q
    obtain ⟨ob, _, _, h1, h2, _⟩ := dd0
    exact ⟨ob, h1, h2.2.1⟩
  rw [m.trees]
  refine Calls.callWith_builtin rfl (Calls.evalArgs_plain (Calls.spliced_cons (thn (he.run pins s1 σ H1 _ I1 q1) fun iv s2 ⟨y, H2, I2, ry, kvs2, k, g, ey, q2⟩ => Calls.spliced_nil ?_)))
  subst ey
  obtain ⟨_, hd, vs, rel, dd⟩ := no_rd I2.hok g
  refine call_meetsIn PySem.F.slot_dict_get dd.typeIs PySem.F.entry_dict_get (PySem.F.args_dict_get_2 _ _) (meets_dict_get (noKind X.prog X.w) a (nkV_is ry) hd) ⟨_, dd.mapOf, ?_⟩
  exact ⟨_, H2, I2.tok _, (rel.val k).getD (d := .non) (show RelV .non Value.none from rfl), q2⟩
theorem ps_noPut (ho : PE X o td) (hi : PE X i ty) (hv : PE X value tv) (hs : swapsWith value (some (.Subscript o i pos')) pos.line X.env = pure false) :
    PS X (.Assign [.Subscript o i pos'] value pos) (sNoPut X.prog X.w td ty tv) := by
  refine ⟨fun pins s σ H D I h => ?_⟩
  refine wpAny_Assign_Subscript (thn (hv.run pins s σ H _ I h) fun r s1 ⟨v, H1, I1, rv, q1⟩ => thn (ho.run pins s1 σ H1 _ I1 q1) fun u s2 ⟨x, H2, I2, rx, q2⟩ => thn (hi.run pins s2 σ H2 _ I2 q2) fun iv s3 ⟨y, H3, I3, ry, a, kvs, k, ex, e, ey, l, q3⟩ => ?_) hs
  subst ex
  subst ey
  obtain rfl : u = Value.ref a := rx
  obtain ⟨z, hd, vs, rel, dd⟩ := no_rd I3.hok (.inl e)
  have hz : vs.length ≤ sizeLine := by
    rw [← rel.length]
    exact z
  have hl : (putK kvs k v).length ≤ sizeLine := by
    have := length_putK kvs k v
    omega
  refine wpAny_setItem_pairs (hsz := hz) (nkV_is ry) dd fun h' dd' hs => ⟨σ, _, ?_, q3⟩
  have he : ∃ q, h'.get? a = some q := let ⟨q, _, _, hq, _⟩ := dd'; ⟨q, hq⟩
  exact d_write I3 (by rw [e]; exact True.intro) hs he (noD_ok hl hd (rel.put k rv) dd')
end
/-! ### walked -/
theorem no_frz {X : Cx} {pins : List (Addr × Obj)} {σ : L2.St} {H : Hp} {s : Shared} {d : Addr} {o : Obj} {kvs : List (NK × V)} (I : Inv X pins σ H s) (hfz : H d = some (.frz o (NoD X.prog X.w d kvs))) :
    (d == sysModules) = false ∧ s.heap.get? d = some o ∧ o.ExactDict ∧ ∃ (es : Array DictEntry) (ep : Nat) (vs : List (NK × Value)), o.data = .dict es ep ∧ es.size = kvs.length ∧ KV kvs vs ∧ s.heap.DictAt (noKind X.prog X.w) d vs ep := by
  obtain ⟨at_d, x⟩ := I.hok d _ hfz
  obtain ⟨_, nsys, vs, rel, o2, es, ep, at_2, exact2, data2, more⟩ := (show ObjOk X.prog X.w H s.heap d (NoD X.prog X.w d kvs) from x).1
  rw [at_d] at at_2
  cases at_2
  refine ⟨nsys, at_d, exact2, es, ep, vs, data2, ?_, rel, o, es, at_d, exact2, data2, more⟩
  have q1 := more.2.1.length
  have q2 : kvs.length = vs.length := Paired.length rel
  rw [Array.length_toList] at q1
  omega
def ItNo (P : Program) (w : World) (d : Addr) (o : Obj) (kvs : List (NK × V)) : It :=
  ⟨fun i H => H d = some (.frz o (NoD P w d kvs)) ∧ i < kvs.length, fun i H x H' => H' = H ∧ ∃ k v, kvs[i]? = some (k, v) ∧ x = nkV k, fun i H => H d = some (.frz o (NoD P w d kvs)) ∧ kvs.length ≤ i⟩
theorem kv_at {κ : Type} {kvs : List (κ × V)} {vs : List (κ × Value)} (h : KV kvs vs) {i : Nat} {k : κ} {v : V} (e : kvs[i]? = some (k, v)) : ∃ u, vs[i]? = some (k, u) ∧ RelV v u := by
  obtain ⟨⟨k', u⟩, e', h1, h2⟩ := paired_get h e
  obtain rfl : k = k' := h1
  exact ⟨u, e', h2⟩
section
variable {P : Program} {w : World} {K : PySem.W.Frag} {tg : Expr} {d : Addr} {o : Obj} {es : Array DictEntry} {ep : Nat}
theorem turn_no {kvs : List (NK × V)} (it : Addr) (data : o.data = .dict es ep) : Turn P w K tg (ItNo P w d o kvs) [it] it (fun i h => h.IsKeyIter it d i kvs.length ep) where
  mem := List.mem_singleton.mpr rfl
  obj := fun i h st b mb => by
    obtain rfl := List.mem_singleton.mp mb
    obtain ⟨q, at_q, _, dq⟩ := st
    refine ⟨q, at_q, fun v z => ?_⟩
    rw [dq] at z
    cases z
  keep := fun i h h' st kp => st.at fun q at_q => kp it (List.mem_singleton.mpr rfl) q at_q
  item := by
    rintro X rfl rfl rfl calm i pins s σ H E I fr st ⟨locked, il⟩
    obtain ⟨m0, m1, m2, m3, m4, m5⟩ := fr it (List.mem_singleton.mpr rfl)
    obtain ⟨_, _, _, es2, ep2, vs, data2, _, rel, at_v⟩ := no_frz I locked
    obtain ⟨rfl, rfl⟩ := dict_ep data data2
    obtain ⟨⟨k, v⟩, at_i⟩ : ∃ p, kvs[i]? = some p := ⟨kvs[i], List.getElem?_eq_getElem il⟩
    obtain ⟨u, at_u, ru⟩ := kv_at rel at_i
    have same_len : kvs.length = vs.length := Paired.length rel
    rw [same_len] at st
    refine wpAny_pyNext_dict_item st at_v at_u fun key h2 is_key st2 but => ?_
    have I2 : Inv X pins σ H { s with heap := h2 } := I.turned (t' := s.toks) (fun b q nb at_b => (but.2 b nb).trans at_b) m0 m1 m3 m4 m5
    obtain ⟨q, at_q, cq, dq⟩ := id st2
    refine ⟨key, rfl, go_of (s := { s with heap := h2 }) at_q cq dq (by decide) ⟨nkV k, H, I2, nkV_rel is_key, ⟨rfl, k, v, at_i, rfl⟩, ?_, fun b mb => (fr b mb).1⟩⟩
    show h2.IsKeyIter it d (i + 1) kvs.length _
    rw [same_len]
    exact st2
  done := by
    rintro X rfl rfl rfl calm i pins s σ H E I fr st ⟨locked, il⟩
    obtain ⟨m0, m1, m2, m3, m4, m5⟩ := fr it (List.mem_singleton.mpr rfl)
    obtain ⟨_, at_d, _, es2, ep2, vs, data2, size2, rel, at_v⟩ := no_frz I locked
    obtain ⟨rfl, rfl⟩ := dict_ep data data2
    exact next_key_end (I.ok.hd calm) st at_d data2 size2 il fun h2 same => ⟨rfl, I.turned (t' := s.toks) (fun b q nb at_b => same b q nb at_b) m0 m1 m3 m4 m5⟩
  self := fun A i s Q E st h => wpAny_pyIter_keyiter st h
end
/-- the dict is locked (tLock, or by the caller) -/
def iNo (P : Program) (w : World) (td : TE) : TI := fun σ H R => td σ H fun x H1 => ∃ d o kvs, x = .ref d ∧ H1 d = some (.frz o (NoD P w d kvs)) ∧ R (ItNo P w d o kvs) H1
theorem pi_no {X : Cx} {tg e : Expr} {td : TE} (he : PE X e td) : PI X tg e (iNo X.prog X.w td) := by
  refine ⟨fun pins s σ H R I h => ?_⟩
  refine thn (he.run pins s σ H _ I h) fun u s1 ⟨x, H1, I1, rx, d, o, kvs, ex, hd, q⟩ => ?_
  subst ex
  obtain rfl : u = Value.ref d := rx
  obtain ⟨nsys, at_d, exact2, es, ep, vs, data2, size2, rel, at_v⟩ := no_frz I1 hd
  refine iter_keys nsys at_d exact2 data2 (pi_one (tk := s1.toks) I1 _ (turn_no _ data2) ⟨_, Heap.get?_push_size _ rfl, rfl, ?_⟩ q)
  rw [size2] <;> rfl
end Gc

/-! a range held in a variable: made of one number, walked more than once -/
namespace Gc
open PySem PySem.Spec PyProof.Rows L2
def rRange1 : List V → Hp → VK → Prop := fun vs H Q => ∃ n : Int, vs = [.int n] ∧ ∀ p, H p = none → Q (.ref p) (upd H p (.rng 0 n))
theorem cr_range1 {X : Cx} : CallR X (.type "range") rRange1 := by
  intro pins s σ H vs us Q I rel ask
  obtain ⟨n, rfl, told⟩ := ask
  obtain ⟨u, rfl, ru⟩ := vals1 rel
  obtain ⟨t, rfl⟩ := ru
  refine call_range_1 ⟨.ref s.heap.objs.size, upd H s.heap.objs.size (.rng 0 n), I.laid (t' := s.toks + 1 + 1) (fun b o at_b => Heap.get?_push_of_some _ at_b) (Nat.le_refl _) ?_, rfl, told _ (I.hok.fresh (Nat.le_refl _))⟩
  exact ⟨s.toks, t, s.toks + 1, Heap.get?_push_size _ rfl⟩
def iRngO (te : TE) : TI := fun σ H R => te σ H fun x H1 => ∃ (a : Addr) (lo hi : Int), x = .ref a ∧ H1 a = some (.rng lo hi) ∧ (-(2 ^ 62) ≤ lo ∧ lo < 2 ^ 62 ∧ -(2 ^ 62) ≤ hi ∧ hi < 2 ^ 62) ∧ R (Itr lo (hi - lo).toNat) H1
theorem pi_rngO {X : Cx} {tg e : Expr} {te : TE} (he : PE X e te) : PI X tg e (iRngO te) := by
  refine ⟨fun pins s σ H R I ask => thn (he.run pins s σ H _ I ask) fun v s1 ⟨x, H1, I1, rel, a, lo, hi, ex, at_a, ⟨l1, l2, l3, l4⟩, told⟩ => ?_⟩
  subst ex
  cases rel
  obtain ⟨t, u, w, obj⟩ := I1.hok a _ at_a
  refine wpAny_pyIter_range obj (small_one l1 l2 l3 l4) ?_
  refine ⟨s1.heap.objs.size, [s1.heap.objs.size], _, _, H1, rfl, I1.kept (t' := s1.toks) fun b o at_b => Heap.get?_push_of_some _ at_b, turn_range _ lo (hi - lo).toNat, ?_, fun b mb => ?_, told⟩
  · have q1 : lo + ((0 : Nat) : Int) * 1 = lo := by simp
    have q2 : (((hi - lo).toNat : Nat) : Int) - ((0 : Nat) : Int) = Builtin.Range.rangeSize lo hi 1 := by
      rw [rangeSize_one]
      split <;> omega
    show IsRangeIter _ _ (lo + ((0 : Nat) : Int) * 1) ((((hi - lo).toNat : Nat) : Int) - ((0 : Nat) : Int)) 1
    rw [q1, q2]
    exact Heap.get?_push_size _ rfl
  · obtain rfl : b = s1.heap.objs.size := by simpa using mb
    exact I1.fpOk (Nat.le_refl _) (I1.hok.fresh (Nat.le_refl _))
end Gc

/-! min of a list of ints that is not empty -/
namespace L2
open PySem PySem.Spec PyProof.Rows
theorem argBest_le {bt : Nat → Nat → Bool} : ∀ k, argBest bt k ≤ k
  | 0 => Nat.le_refl 0
  | k + 1 => by
    simp only [argBest]
    split
    · exact Nat.le_refl _
    · exact Nat.le_succ_of_le (argBest_le k)
theorem argBest_min {f : Nat → Int} : ∀ k i, i ≤ k → f (argBest (fun i j => decide (f i < f j)) k) ≤ f i
  | 0, i, h => by
    obtain rfl : i = 0 := by omega
    exact Int.le_refl _
  | k + 1, i, h => by
    have ih := argBest_min (f := f) k
    simp only [argBest]
    by_cases c : f (k + 1) < f (argBest (fun i j => decide (f i < f j)) k)
    · rw [if_pos (decide_eq_true c)]
      by_cases e : i = k + 1
      · rw [e]; exact Int.le_refl _
      · exact Int.le_of_lt (Int.lt_of_lt_of_le c (ih i (by omega)))
    · rw [if_neg (fun z => c (of_decide_eq_true z))]
      by_cases e : i = k + 1
      · rw [e]; omega
      · exact ih i (by omega)
section
variable {X : Cx}
/-- min(xs), xs a list of ints -/
def rMinI (K : PySem.W.Frag) : List V → Hp → VK → Prop := fun vs H Q => ∃ (p : Addr) (ns : List Int), vs = [.ref p] ∧ SqL K H p (ns.map V.int) ∧ ns ≠ [] ∧ ∀ m, m ∈ ns → (∀ n ∈ ns, m ≤ n) → Q (.int m) H
theorem call_minI (hc : X.calm = true) : CallR X (.builtin "min") (rMinI X.K) := by
  intro pins s σ H vs us Q I r h
  obtain ⟨p, ns, rfl, hs, ne, q⟩ := h
  obtain ⟨its, rv, hl, _⟩ := I.list hs
  rw [Vals.ref1 r]
  have len : its.length = ns.length := by
    rw [← rv.length, List.length_map]
  have at' : ∀ (i : Nat) (v : Value), its.toArray[i]? = some v → ∃ t, v = .int (ns.getD i 0) t := fun i v e => by
    have e' : its[i]? = some v := by simpa using e
    have hi : i < ns.length := by
      obtain ⟨h, _⟩ := List.getElem?_eq_some_iff.mp e'
      omega
    obtain ⟨u, hu, ru⟩ := rv.get (i := i) (x := .int ns[i]) (by rw [List.getElem?_map, List.getElem?_eq_getElem hi]; rfl)
    rw [e'] at hu
    cases hu
    obtain ⟨t, rfl⟩ := (show ∃ t, v = Value.int ns[i] t from ru)
    exact ⟨t, by rw [List.getD_eq_getElem?_getD, List.getElem?_eq_getElem hi]; rfl⟩
  have pos : 0 < ns.length := List.length_pos_iff.mpr ne
  refine call_min_walk (iter_anyList hl.isList fun s₂ e st hfp hlI => ?_)
  subst e
  refine ⟨_, _, _, _, _, _, _, rfl, Walks.list (A := X.A.in1) (I.ok.hd hc) _ p hlI its.toArray, st, hfp, by rw [List.size_toArray, len]; exact pos, CmpOf.ints_lt (fun i => ns.getD i 0) at', fun v h' tk hP hk => ?_⟩
  obtain ⟨t, rfl⟩ := at' _ _ hP
  have sz : its.toArray.size - 1 = ns.length - 1 := by rw [List.size_toArray, len]
  rw [sz] at hP ⊢
  have li : argBest (fun i j => decide (ns.getD i 0 < ns.getD j 0)) (ns.length - 1) < ns.length := by
    have := argBest_le (bt := fun i j => decide (ns.getD i 0 < ns.getD j 0)) (ns.length - 1)
    omega
  refine ⟨.int (ns.getD (argBest (fun i j => decide (ns.getD i 0 < ns.getD j 0)) (ns.length - 1)) 0), H, I.kept (PySem.old_kept hk), ⟨t, rfl⟩, q _ ?_ fun n hn => ?_⟩
  · rw [List.getD_eq_getElem?_getD, List.getElem?_eq_getElem li]
    exact List.getElem_mem li
  · obtain ⟨j, hj, e⟩ := List.mem_iff_getElem.mp hn
    have := argBest_min (f := fun i => ns.getD i 0) (ns.length - 1) j (by omega)
    have ej : ns.getD j 0 = n := by rw [List.getD_eq_getElem?_getD, List.getElem?_eq_getElem hj]; exact e
    rw [← ej]
    exact this
end
end L2

/-! the reach, where the law has no boxes -/
namespace Gc
open PySem L2
def rstep (s : Int × Int × Int) (c : Cmd) : Int × Int × Int :=
  (if s.2.2 + c.dv < s.1 then s.2.2 + c.dv else s.1, if s.2.2 + c.dv > s.2.1 then s.2.2 + c.dv else s.2.1, s.2.2 + c.dv)
def rchM (cs : List Cmd) : Int × Int × Int := cs.foldl rstep (0, 0, 0)
theorem rch_more {cs : List Cmd} {i : Nat} {c : Cmd} (h : cs[i]? = some c) : rchM (cs.take (i + 1)) = rstep (rchM (cs.take i)) c := by
  unfold rchM
  rw [take_snoc h, List.foldl_append]
  rfl
theorem rch_last : ∀ (cs : List Cmd) (s : Int × Int × Int), (cs.foldl rstep s).2.2 = s.2.2 + last cs
  | [], s => by show s.2.2 = s.2.2 + 0; omega
  | c :: cs, s => by
    show (cs.foldl rstep (rstep s c)).2.2 = s.2.2 + (c.dv + last cs)
    rw [rch_last cs]
    show s.2.2 + c.dv + last cs = _
    omega
theorem last_more5 {cs : List Cmd} {i : Nat} {c : Cmd} (h : cs[i]? = some c) : last (cs.take (i + 1)) = last (cs.take i) + c.dv := by
  rw [take_snoc h, last_app]
  show _ + (c.dv + 0) = _
  omega
theorem rch_within5 (cs : List Cmd) : Within cs (rchM cs).1 (rchM cs).2.1 ∧ (rchM cs).2.2 = last cs := by
  have key : ∀ n, n ≤ cs.length → (∀ i, i ≤ n → (rchM (cs.take n)).1 ≤ last (cs.take i) ∧ last (cs.take i) ≤ (rchM (cs.take n)).2.1) ∧ (rchM (cs.take n)).2.2 = last (cs.take n) := by
    intro n
    induction n with
    | zero =>
      intro _
      refine ⟨fun i hi => ?_, rfl⟩
      obtain rfl : i = 0 := by omega
      exact ⟨Int.le_refl 0, Int.le_refl 0⟩
    | succ n ih =>
      intro hn
      obtain ⟨h1, h2⟩ := ih (by omega)
      have hc : cs[n]? = some cs[n] := List.getElem?_eq_getElem (by omega)
      rw [rch_more hc]
      have lm := last_more5 hc
      unfold rstep
      refine ⟨fun i hi => ?_, by rw [h2, lm]⟩
      have top : (if (rchM (cs.take n)).2.2 + cs[n].dv < (rchM (cs.take n)).1 then (rchM (cs.take n)).2.2 + cs[n].dv else (rchM (cs.take n)).1) ≤ (rchM (cs.take n)).1 ∧ (if (rchM (cs.take n)).2.2 + cs[n].dv < (rchM (cs.take n)).1 then (rchM (cs.take n)).2.2 + cs[n].dv else (rchM (cs.take n)).1) ≤ (rchM (cs.take n)).2.2 + cs[n].dv := by
        split <;> omega
      have bot : (rchM (cs.take n)).2.1 ≤ (if (rchM (cs.take n)).2.2 + cs[n].dv > (rchM (cs.take n)).2.1 then (rchM (cs.take n)).2.2 + cs[n].dv else (rchM (cs.take n)).2.1) ∧ (rchM (cs.take n)).2.2 + cs[n].dv ≤ (if (rchM (cs.take n)).2.2 + cs[n].dv > (rchM (cs.take n)).2.1 then (rchM (cs.take n)).2.2 + cs[n].dv else (rchM (cs.take n)).2.1) := by
        split <;> omega
      by_cases e : i = n + 1
      · subst e
        rw [lm, ← h2]
        exact ⟨top.2, bot.2⟩
      · have q := h1 i (by omega)
        exact ⟨Int.le_trans top.1 q.1, Int.le_trans q.2 bot.1⟩
  have kl := key cs.length (Nat.le_refl _)
  rw [List.take_length] at kl
  refine ⟨fun i => ?_, kl.2⟩
  by_cases l : i ≤ cs.length
  · exact kl.1 i l
  · rw [List.take_of_length_le (by omega)]
    have := kl.1 cs.length (Nat.le_refl _)
    rw [List.take_length] at this
    exact this
theorem rch_hits5 (cs : List Cmd) : (∃ i, last (cs.take i) = (rchM cs).1) ∧ ∃ j, last (cs.take j) = (rchM cs).2.1 := by
  have key : ∀ n, n ≤ cs.length → (∃ i, last (cs.take i) = (rchM (cs.take n)).1) ∧ ∃ j, last (cs.take j) = (rchM (cs.take n)).2.1 := by
    intro n
    induction n with
    | zero => intro _; exact ⟨⟨0, rfl⟩, ⟨0, rfl⟩⟩
    | succ n ih =>
      intro hn
      obtain ⟨⟨i, e1⟩, ⟨j, e2⟩⟩ := ih (by omega)
      have hc : cs[n]? = some cs[n] := List.getElem?_eq_getElem (by omega)
      have e3 : (rchM (cs.take n)).2.2 + cs[n].dv = last (cs.take (n + 1)) := by
        rw [(rch_within5 (cs.take n)).2, take_snoc hc, last_app]
        show _ = last (cs.take n) + (cs[n].dv + 0)
        omega
      rw [rch_more hc]
      unfold rstep
      dsimp only
      refine ⟨?_, ?_⟩
      · split
        · exact ⟨n + 1, e3.symm⟩
        · exact ⟨i, e1⟩
      · split
        · exact ⟨n + 1, e3.symm⟩
        · exact ⟨j, e2⟩
  have q := key cs.length (Nat.le_refl _)
  rw [List.take_length] at q
  exact q
end Gc

/-! the reach that is learned (k18) -/
namespace Gc
open PySem L2
abbrev s_lreach18 : Stmt := top 24
structure TxtLr (mg : Str → Option Value) : Prop where
  range : mg "range" = none
  min : mg "min" = none
def spReach18 (K : PySem.W.Frag) (CB : Addr) : Sp := fun vs H Q _ => ∃ (x dx l : Addr) (xs : List V) (es : List Cmd) (n rows : Int), vs = [.ref x, .int rows] ∧ Hides K CB H x dx l xs es n ∧ 0 ≤ rows ∧ rows ≤ 15 ∧ Within es (-rows) rows ∧
  ∀ (H' : Hp) (p : Addr) (m : Nat), Keep x x H H' → Hides K CB H' x dx l xs es (n + m) → H p = none → H' p = some (.tup [.int (rchM es).1, .int (rchM es).2.1, .int (last es)]) → m ≤ 40 → Q (.ref p) H'
theorem within_iff {es : List Cmd} {lo hi : Int} : Within es lo hi ↔ lo ≤ (rchM es).1 ∧ (rchM es).2.1 ≤ hi := by
  constructor
  · intro h
    obtain ⟨⟨i, e1⟩, ⟨j, e2⟩⟩ := rch_hits5 es
    rw [← e1, ← e2]
    exact ⟨(h i).1, (h j).2⟩
  · rintro ⟨h1, h2⟩
    exact (rch_within5 es).1.le h1 h2
theorem zeros_flat : ∀ k : Nat, (List.replicate k [V.int 0]).flatten = (List.replicate k (0 : Int)).map V.int
  | 0 => rfl
  | k + 1 => by
    rw [List.replicate_succ, List.flatten_cons, zeros_flat k, List.replicate_succ]
    rfl
/-- possible exactly if the reach is in the text -/
theorem zero_after (es : List Cmd) {r k : Int} (r0 : 0 ≤ r) (rk : r < k) : afterL (List.replicate k.toNat 0) r (some 0) es ≠ none ↔ -r ≤ (rchM es).1 ∧ (rchM es).2.1 ≤ k - 1 - r := by
  have len : ((List.replicate k.toNat (0 : Int)).length : Int) = k := by
    rw [List.length_replicate]
    omega
  rw [← within_iff]
  constructor
  · intro h
    have w := after_within r0 (by rw [len]; exact rk) h
    rw [len] at w
    exact w
  · intro h
    rw [← len] at h
    rw [afterL_in h]
    simp
theorem ask_zero {K : PySem.W.Frag} {CB : Addr} {cs : Nat → Addr} {H : Hp} {Q : VK} {E : XK} {x dx l t b : Addr} {xs : List V} {es : List Cmd} {n r k : Int} (h : Hides K CB H x dx l xs es n) (ht : H t = some (.lst (List.replicate k.toNat [V.int 0]).flatten)) (hb : H b = some (.tup [.int r, .int 0])) (r0 : 0 ≤ r) (rk : r < k)
    (k0 : ¬ (-r ≤ (rchM es).1 ∧ (rchM es).2.1 ≤ k - 1 - r) → ∀ H', Keep x x H H' → Hides K CB H' x dx l xs es (n + 1) → Q .non H') (k1 : (-r ≤ (rchM es).1 ∧ (rchM es).2.1 ≤ k - 1 - r) → ∀ (H' : Hp) (p : Addr) (g : Option Int), Keep x x H H' → Hides K CB H' x dx l xs es (n + 1) → SqT K H' p [.int (r + last es), optV g] → Q (.ref p) H') : zAnswer K CB cs [.ref x, .ref t, .ref b] H Q E := by
  rw [zeros_flat] at ht
  refine ask_box18 (T := List.replicate k.toNat 0) (r := r) (g := some 0) h (SqL.of ht) (SqT.of hb) (fun y hy => by rw [List.eq_of_mem_replicate hy]; exact Int.le_refl 0) r0 (by rw [List.length_replicate]; omega) (ge_some.mpr (Int.le_refl 0)) (fun z => k0 fun w => (zero_after es r0 rk).mpr w z) fun r' g' ha H' p kp hh hp => ?_
  have w := (zero_after es r0 rk).mp (by rw [ha]; simp)
  have len : ((List.replicate k.toNat (0 : Int)).length : Int) = k := by
    rw [List.length_replicate]
    omega
  have e := afterL_in (T := List.replicate k.toNat (0 : Int)) (a := some 0) (show Within es (-r) (((List.replicate k.toNat (0 : Int)).length : Int) - 1 - r) by rw [len]; exact within_iff.mpr w)
  rw [ha] at e
  cases e
  exact k1 w H' p _ kp hh hp
section
variable {P : Program} {w : World} {K : PySem.W.Frag} {mg : Str → Option Value} {base : Heap} {CB : Addr} {cs : Nat → Addr}
theorem sc_learn_reach : FnScope ["box", "rows", "room", "above", "below", "row", "_", "lines"] ["box", "rows"] (defScope s_lreach18) := ⟨rfl, rfl, rfl, by decide +kernel, rfl, by decide +kernel, by decide +kernel⟩
theorem ok_lreach18 {f : Addr} {fd : FuncData} (F : Fun K "learn_reach" "learn_reach" s_lreach18 f fd) (T : TxtLr mg) (m_answer : Mth P w K mg base (L2.CX P w) 5 CB "answer" (zAnswer K CB cs)) : FnOk P w K mg base CX0 6 f fd ["box", "rows"] (spReach18 K CB) := by
  refine F.ok sc_learn_reach (fun vs H Q E h => ?_) (fun cdv A outer s H vs Q E hr h => ?_)
  · obtain ⟨x, dx, l, xs, es, n, rows, rfl, _⟩ := h
    rfl
  · obtain ⟨x, dx, l, xs, es, n, rows, rfl, hh, r0, r15, win, k⟩ := h
    refine ⟨_, (pss_cons (ps_set (i := 2) sc_learn_reach.nd rfl (Or.inl rfl) (pe_callTy cr_range1 (by rfl) T.range (by decide +kernel) (pa_cons (pe_op op_add (pv 1) pe_int) pa_nil)))
      (pss_cons (ps_set (i := 3) sc_learn_reach.nd rfl (Or.inr rfl) (pe_callB (call_minI rfl) (by rfl) T.min (by decide +kernel) (pa_cons (pe_lc (own := [("lines", 7)]) rfl sc_learn_reach.nd (pi_rngO (pv 2)) (blkOk_by (N := ["box", "rows", "room", "above", "below", "row", "_", "lines"]) (sc := defScope s_lreach18) (by decide +kernel)) (fun _ _ _ _ _ => (pg_name (i := 7) sc_learn_reach.nd rfl (Or.inl rfl))) (fun _ _ _ _ _ => (pts_one (pt_cmpR op_notN (show PE _ _ (tMX CB "answer" (zAnswer K CB cs) (fun _ _ _ _ => False) _ _) from pe_mthX takesNone m_answer hr (by decide) (pv 0) (pa_cons (pe_op op_rep (pe_lst (pa_cons pe_int pa_nil)) (pe_op op_add (pe_op op_add (pv 7) pe_int) (pv 1))) (pa_cons (pe_tup (pa_cons (pv 7) (pa_cons pe_int pa_nil))) pa_nil))) pe_non (nomark _)))) (fun _ _ _ _ _ => (pv 7))) pa_nil)))
      (pss_cons (ps_set (i := 4) sc_learn_reach.nd rfl (Or.inl rfl) (pe_callB (call_minI rfl) (by rfl) T.min (by decide +kernel) (pa_cons (pe_lc (own := [("lines", 7)]) rfl sc_learn_reach.nd (pi_rngO (pv 2)) (blkOk_by (N := ["box", "rows", "room", "above", "below", "row", "_", "lines"]) (sc := defScope s_lreach18) (by decide +kernel)) (fun _ _ _ _ _ => (pg_name (i := 7) sc_learn_reach.nd rfl (Or.inl rfl))) (fun _ _ _ _ _ => (pts_one (pt_cmpR op_notN (show PE _ _ (tMX CB "answer" (zAnswer K CB cs) (fun _ _ _ _ => False) _ _) from pe_mthX takesNone m_answer hr (by decide) (pv 0) (pa_cons (pe_op op_rep (pe_lst (pa_cons pe_int pa_nil)) (pe_op op_add (pe_op op_add (pv 3) pe_int) (pv 7))) (pa_cons (pe_tup (pa_cons (pv 3) (pa_cons pe_int pa_nil))) pa_nil))) pe_non (nomark _)))) (fun _ _ _ _ _ => (pv 7))) pa_nil)))
      (pss_cons (ps_asg (pe_mthX takesNone m_answer hr (by decide) (pv 0) (pa_cons (pe_op op_rep (pe_lst (pa_cons pe_int pa_nil)) (pe_op op_add (pe_op op_add (pv 3) pe_int) (pv 4))) (pa_cons (pe_tup (pa_cons (pv 3) (pa_cons pe_int pa_nil))) pa_nil))) (pg_tup rfl (pgs_cons (pg_name (i := 5) sc_learn_reach.nd rfl (Or.inl rfl)) (pgs_cons (pg_name (i := 6) sc_learn_reach.nd rfl (Or.inl rfl)) pgs_nil))))
      (pss_one (ps_ret (pe_tup (pa_cons (pe_un un_neg (pv 3)) (pa_cons (pv 4) (pa_cons (pe_op op_sub (pv 5) (pv 3)) pa_nil)))))))))), ?_⟩
    obtain ⟨w1, w2⟩ := within_iff.mp win
    obtain ⟨z1, z2⟩ := (rch_within5 es).1.zero
    have el := (rch_within5 es).2
    generalize hlo : (rchM es).1 = lo at w1 z1 k
    generalize hhi : (rchM es).2.1 = hi at w2 z2 k
    refine ⟨_, rfl, _, _, rfl, rfl, _, rfl, fun rg nrg => ?_⟩
    have e1 := new_same (o := HO.rng 0 (rows + 1)) nrg
    have hrg : (upd H rg (.rng 0 (rows + 1))) rg = some (.rng 0 (rows + 1)) := upd_same
    have hh1 := hh.same e1
    have k1 : Keep x x H (upd H rg (.rng 0 (rows + 1))) := Keep.of e1
    have rgx : rg ≠ x := (ne_of_none hh.bx nrg).symm
    generalize upd H rg (.rng 0 (rows + 1)) = H1 at hrg hh1 k1 ⊢
    have n00 : n + ((0 : Nat) : Int) = n := by omega
    -- above
    refine ⟨_, rfl, rg, 0, rows + 1, rfl, hrg, ⟨by omega, by omega, by omega, by omega⟩, fun D nD => ?_⟩
    have eD := new_same (o := HO.lst []) nD
    have Dx : D ≠ x := (ne_of_none hh1.bx nD).symm
    have Dl : D ≠ l := (ne_of_none hh1.hl nD).symm
    have Drg : D ≠ rg := (ne_of_none hrg nD).symm
    refine lc_range (lo := 0) (n := (rows + 1 - 0).toNat) (fun i H' => ∃ ns : List Int, Keep x x H1 H' ∧ Hides K CB H' x dx l xs es (n + i) ∧ H' D = some (.lst (ns.map V.int)) ∧ ns.length ≤ i ∧ (∀ z ∈ ns, -z ≤ lo) ∧ ∀ z : Int, 0 ≤ z → z < i → -z ≤ lo → z ∈ ns)
      ⟨[], Keep.of eD, by rw [n00]; exact hh1.same eD, upd_same, Nat.le_refl _, (fun z hz => nomatch hz), fun z y0 y1 _ => absurd y1 (by omega)⟩ (fun i H' hi h => ?_) (fun H' h => ?_)
    · obtain ⟨ns, kH, hH, hD, nl, a1, a2⟩ := h
      refine ⟨rfl, ?_⟩
      refine ⟨_, rfl, x, dx, _, rfl, hH.bx, rfl, (by show 1 ≤ sizeLine; decide), fun q nq => ?_⟩
      have f1 := new_same (o := HO.lst [V.int 0]) nq
      have hq : (upd H' q (.lst [V.int 0])) q = some (.lst [V.int 0]) := upd_same
      have hH1 := hH.same f1
      have hD1 := f1 _ _ hD
      generalize upd H' q (.lst [V.int 0]) = G1 at f1 hq hH1 hD1 ⊢
      refine ⟨_, rfl, _, _, rfl, rfl, _, rfl, _, _, rfl, rfl, q, _, _, rfl, rfl, hq, by omega, by omega, (by show 1 * _ ≤ sizeLine; rw [sizeLine_eq]; omega), fun t nt => ?_⟩
      have f2 := new_same (o := HO.lst (List.replicate (0 + (i : Int) + 1 + rows).toNat [V.int 0]).flatten) nt
      have ht : (upd G1 t (.lst (List.replicate (0 + (i : Int) + 1 + rows).toNat [V.int 0]).flatten)) t = some (.lst (List.replicate (0 + (i : Int) + 1 + rows).toNat [V.int 0]).flatten) := upd_same
      have hH2 := hH1.same f2
      have hD2 := f2 _ _ hD1
      generalize upd G1 t (.lst (List.replicate (0 + (i : Int) + 1 + rows).toNat [V.int 0]).flatten) = G2 at f2 ht hH2 hD2 ⊢
      refine ⟨_, rfl, (by show 2 ≤ sizeLine; decide), fun c nc => ?_⟩
      have f3 := new_same (o := HO.tup [V.int (0 + (i : Int)), .int 0]) nc
      have f123 := f1.trans (f2.trans f3)
      refine ask_zero (hH2.same f3) (f3 _ _ ht) upd_same (by omega) (by omega) (fun no H2 kp hh2 => ?_) fun yes H2 p g kp hh2 hp => ?_
      · refine ⟨rfl, _, rfl, iteF ?_⟩
        refine ⟨ns, fun b o h1 h2 hb => kp _ _ h1 h2 (f123 _ _ (kH b o h1 h2 hb)), by rw [show n + ((i + 1 : Nat) : Int) = n + i + 1 by omega]; exact hh2, kp _ _ Dx Dx (f3 _ _ hD2), by omega, a1, fun z y0 y1 y2 => ?_⟩
        by_cases e : z = i
        · exact absurd ⟨by omega, by omega⟩ no
        · exact a2 z y0 (by omega) y2
      · refine ⟨rfl, _, rfl, iteT ?_⟩
        have hDk := kp _ _ Dx Dx (f3 _ _ hD2)
        refine ⟨_, rfl, _, hDk, lt_line (by rw [List.length_map]; omega), ns ++ [0 + (i : Int)], fun b o h1 h2 hb => ?_, ?_, by rw [upd_same, List.map_append]; rfl, by rw [List.length_append]; show ns.length + 1 ≤ i + 1; omega, fun z hz => ?_, fun z y0 y1 y2 => ?_⟩
        · rw [upd_ne (ne_of_none hb nD)]
          exact kp _ _ h1 h2 (f123 _ _ (kH b o h1 h2 hb))
        · rw [show n + ((i + 1 : Nat) : Int) = n + i + 1 by omega]
          exact hh2.updL hDk Dl
        · rcases List.mem_append.mp hz with y | y
          · exact a1 z y
          · rw [List.mem_singleton.mp y]
            omega
        · by_cases e : z = i
          · exact List.mem_append_right _ (by rw [e]; simp)
          · exact List.mem_append_left _ (a2 z y0 (by omega) y2)
    obtain ⟨ns, kH2, hH2, hD, nl, a1, a2⟩ := h
    have inA : -lo ∈ ns := a2 (-lo) (by omega) (by omega) (by omega)
    refine ⟨D, ns, rfl, SqL.of hD, (fun z => by rw [z] at inA; cases inA), fun mn hm hmin => ?_⟩
    obtain rfl : mn = -lo := by
      have q1 := hmin _ inA
      have q2 := a1 _ hm
      omega
    have kA := k1.trans kH2
    have hrg2 := kH2 _ _ rgx rgx hrg
    generalize H' = H2 at kA hH2 hrg2 ⊢
    -- below
    refine ⟨_, rfl, rg, 0, rows + 1, rfl, hrg2, ⟨by omega, by omega, by omega, by omega⟩, fun D2 nD2 => ?_⟩
    have eD2 := new_same (o := HO.lst []) nD2
    have D2x : D2 ≠ x := (ne_of_none hH2.bx nD2).symm
    have D2l : D2 ≠ l := (ne_of_none hH2.hl nD2).symm
    have hJ0 : n + (((rows + 1 - 0).toNat : Nat) : Int) = n + (rows + 1) := by omega
    rw [hJ0] at hH2
    have hi0 : n + (rows + 1) + ((0 : Nat) : Int) = n + (rows + 1) := by omega
    refine lc_range (lo := 0) (n := (rows + 1 - 0).toNat) (fun i H' => ∃ ns : List Int, Keep x x H2 H' ∧ Hides K CB H' x dx l xs es (n + (rows + 1) + i) ∧ H' D2 = some (.lst (ns.map V.int)) ∧ ns.length ≤ i ∧ (∀ z ∈ ns, hi ≤ z) ∧ ∀ z : Int, 0 ≤ z → z < i → hi ≤ z → z ∈ ns)
      ⟨[], Keep.of eD2, by rw [hi0]; exact hH2.same eD2, upd_same, Nat.le_refl _, (fun z hz => nomatch hz), fun z y0 y1 _ => absurd y1 (by omega)⟩ (fun i H' hi' h => ?_) (fun H' h => ?_)
    · obtain ⟨ns, kH, hH, hD, nl, a1, a2⟩ := h
      refine ⟨rfl, ?_⟩
      refine ⟨_, rfl, x, dx, _, rfl, hH.bx, rfl, (by show 1 ≤ sizeLine; decide), fun q nq => ?_⟩
      have f1 := new_same (o := HO.lst [V.int 0]) nq
      have hq : (upd H' q (.lst [V.int 0])) q = some (.lst [V.int 0]) := upd_same
      have hH1 := hH.same f1
      have hD1 := f1 _ _ hD
      generalize upd H' q (.lst [V.int 0]) = G1 at f1 hq hH1 hD1 ⊢
      refine ⟨_, rfl, _, _, rfl, rfl, _, rfl, _, _, rfl, rfl, q, _, _, rfl, rfl, hq, by omega, by omega, (by show 1 * _ ≤ sizeLine; rw [sizeLine_eq]; omega), fun t nt => ?_⟩
      have f2 := new_same (o := HO.lst (List.replicate (-lo + 1 + (0 + (i : Int))).toNat [V.int 0]).flatten) nt
      have ht : (upd G1 t (.lst (List.replicate (-lo + 1 + (0 + (i : Int))).toNat [V.int 0]).flatten)) t = some (.lst (List.replicate (-lo + 1 + (0 + (i : Int))).toNat [V.int 0]).flatten) := upd_same
      have hH2 := hH1.same f2
      have hD2 := f2 _ _ hD1
      generalize upd G1 t (.lst (List.replicate (-lo + 1 + (0 + (i : Int))).toNat [V.int 0]).flatten) = G2 at f2 ht hH2 hD2 ⊢
      refine ⟨_, rfl, (by show 2 ≤ sizeLine; decide), fun c nc => ?_⟩
      have f3 := new_same (o := HO.tup [V.int (-lo), .int 0]) nc
      have f123 := f1.trans (f2.trans f3)
      refine ask_zero (hH2.same f3) (f3 _ _ ht) upd_same (by omega) (by omega) (fun no H2 kp hh2 => ?_) fun yes H2 p g kp hh2 hp => ?_
      · refine ⟨rfl, _, rfl, iteF ?_⟩
        refine ⟨ns, fun b o h1 h2 hb => kp _ _ h1 h2 (f123 _ _ (kH b o h1 h2 hb)), by rw [show n + (rows + 1) + ((i + 1 : Nat) : Int) = n + (rows + 1) + i + 1 by omega]; exact hh2, kp _ _ D2x D2x (f3 _ _ hD2), by omega, a1, fun z y0 y1 y2 => ?_⟩
        by_cases e : z = i
        · exact absurd ⟨by omega, by omega⟩ no
        · exact a2 z y0 (by omega) y2
      · refine ⟨rfl, _, rfl, iteT ?_⟩
        have hDk := kp _ _ D2x D2x (f3 _ _ hD2)
        refine ⟨_, rfl, _, hDk, lt_line (by rw [List.length_map]; omega), ns ++ [0 + (i : Int)], fun b o h1 h2 hb => ?_, ?_, by rw [upd_same, List.map_append]; rfl, by rw [List.length_append]; show ns.length + 1 ≤ i + 1; omega, fun z hz => ?_, fun z y0 y1 y2 => ?_⟩
        · rw [upd_ne (ne_of_none hb nD2)]
          exact kp _ _ h1 h2 (f123 _ _ (kH b o h1 h2 hb))
        · rw [show n + (rows + 1) + ((i + 1 : Nat) : Int) = n + (rows + 1) + i + 1 by omega]
          exact hh2.updL hDk D2l
        · rcases List.mem_append.mp hz with y | y
          · exact a1 z y
          · rw [List.mem_singleton.mp y]
            omega
        · by_cases e : z = i
          · exact List.mem_append_right _ (by rw [e]; simp)
          · exact List.mem_append_left _ (a2 z y0 (by omega) y2)
    obtain ⟨ms, kH3, hH3, hD3, ml, b1, b2⟩ := h
    have inB : hi ∈ ms := b2 hi (by omega) (by omega) (by omega)
    refine ⟨D2, ms, rfl, SqL.of hD3, (fun z => by rw [z] at inB; cases inB), fun mn hm2 hmin2 => ?_⟩
    obtain rfl : mn = hi := by
      have q1 := hmin2 _ inB
      have q2 := b1 _ hm2
      omega
    have kB := kA.trans kH3
    have hJ1 : n + (rows + 1) + (((rows + 1 - 0).toNat : Nat) : Int) = n + (2 * rows + 2) := by omega
    rw [hJ1] at hH3
    generalize H' = H3 at kB hH3 ⊢
    -- the last offset
    refine ⟨_, rfl, x, dx, _, rfl, hH3.bx, rfl, (by show 1 ≤ sizeLine; decide), fun q nq => ?_⟩
    have f1 := new_same (o := HO.lst [V.int 0]) nq
    have hq : (upd H3 q (.lst [V.int 0])) q = some (.lst [V.int 0]) := upd_same
    have hG1 := hH3.same f1
    generalize upd H3 q (.lst [V.int 0]) = G1 at f1 hq hG1 ⊢
    refine ⟨_, rfl, _, _, rfl, rfl, _, rfl, _, _, rfl, rfl, q, _, _, rfl, rfl, hq, by omega, by omega, (by show 1 * _ ≤ sizeLine; rw [sizeLine_eq]; omega), fun t nt => ?_⟩
    have f2 := new_same (o := HO.lst (List.replicate (-lo + 1 + mn).toNat [V.int 0]).flatten) nt
    have ht : (upd G1 t (.lst (List.replicate (-lo + 1 + mn).toNat [V.int 0]).flatten)) t = some (.lst (List.replicate (-lo + 1 + mn).toNat [V.int 0]).flatten) := upd_same
    have hG2 := hG1.same f2
    generalize upd G1 t (.lst (List.replicate (-lo + 1 + mn).toNat [V.int 0]).flatten) = G2 at f2 ht hG2 ⊢
    refine ⟨_, rfl, (by show 2 ≤ sizeLine; decide), fun c nc => ?_⟩
    have f3 := new_same (o := HO.tup [V.int (-lo), .int 0]) nc
    have f123 := f1.trans (f2.trans f3)
    refine ask_zero (hG2.same f3) (f3 _ _ ht) upd_same (by omega) (by omega) (fun no => absurd ⟨by omega, by omega⟩ no) fun yes H4 p g kp hh4 hp => ?_
    refine ⟨p, _, rfl, hp, rfl, _, _, rfl, _, _, rfl, rfl, ?_⟩
    refine ⟨_, rfl, _, rfl, _, rfl, _, rfl, _, rfl, _, _, rfl, rfl, (by show 3 ≤ sizeLine; decide), fun d nd => ?_⟩
    have f4 := new_same (o := HO.tup [V.int (-(-lo)), .int mn, .int (-lo + last es - -lo)]) nd
    have kk : Keep x x H (upd H4 d (.tup [V.int (-(-lo)), .int mn, .int (-lo + last es - -lo)])) := fun b o h1 h2 hb => f4 _ _ (kp _ _ h1 h2 (f123 _ _ (kB b o h1 h2 hb)))
    refine k _ d (2 * rows + 3).toNat kk ?_ (kk0 hh.bx hh4.bx nd fun b o h1 h2 hb => kp _ _ h1 h2 (f123 _ _ (kB b o h1 h2 hb))) ?_ (by omega)
    · rw [show n + (((2 * rows + 3).toNat : Nat) : Int) = n + (2 * rows + 2) + 1 by omega]
      exact hh4.same f4
    · rw [upd_same]
      show some (HO.tup [V.int (-(-lo)), .int mn, .int (-lo + last es - -lo)]) = _
      rw [show -(-lo) = lo by omega, show -lo + last es - -lo = last es by omega]
end
end Gc

/-! what is gathered while places are learned: the changes by goals, the constants by places (k18) -/
namespace Gc
open PySem L2
theorem nk_opt (o : Option Int) : nkV o = optV o := by cases o <;> rfl
theorem optW_opt (o : Option Int) : optW o = optV o := by cases o <;> rfl
/-- a place, its constant -/
abbrev Ent := Option Int × Int
def EntAt18 (H : Hp) (v : V) (q : Ent) : Prop := ∃ t, v = .ref t ∧ H t = some (.tup [optV q.1, .int q.2])
/-- with the goal from which on it stands -/
abbrev Tri := Int × Ent
def cont (P : List Tri) (f : Int) : List Ent := P.filterMap fun q => if q.1 = f then some q.2 else none
theorem cont_app (P R : List Tri) (f : Int) : cont (P ++ R) f = cont P f ++ cont R f := List.filterMap_append
theorem cont_one (f g : Int) (e : Ent) : cont [(g, e)] f = if g = f then [e] else [] := by
  unfold cont
  by_cases h : g = f
  · simp [h]
  · simp [h]
theorem mem_cont {P : List Tri} {f : Int} {e : Ent} : e ∈ cont P f ↔ (f, e) ∈ P := by
  unfold cont
  rw [List.mem_filterMap]
  constructor
  · rintro ⟨⟨g, x⟩, h1, h2⟩
    by_cases q : g = f
    · rw [if_pos q] at h2
      cases h2
      rw [← q]
      exact h1
    · rw [if_neg q] at h2
      cases h2
  · intro h
    exact ⟨_, h, by rw [if_pos rfl]⟩
theorem cont_nil {P : List Tri} {f : Int} (h : ∀ e, (f, e) ∉ P) : cont P f = [] := by
  cases q : cont P f with
  | nil => rfl
  | cons x r => exact absurd (mem_cont.mp (by rw [q]; exact List.mem_cons_self)) (h x)
theorem ent_keep {H H' : Hp} (tp : ∀ t xs, H t = some (.tup xs) → H' t = some (.tup xs)) {ws : List V} {es : List Ent} (h : Paired (EntAt18 H) ws es) : Paired (EntAt18 H') ws es := Paired.mapP h fun _ _ z => ⟨z.choose, z.choose_spec.1, tp _ _ z.choose_spec.2⟩
/-- the changes: a dict at d, by goals, of lists -/
structure ChgAt (H0 H : Hp) (d : Addr) (P : List Tri) (ks : List Int) (kvs : List (L2.Key × V)) (ad : Int → Addr) : Prop where
  at_ : H d = some (.dK kvs)
  fr : H0 d = none
  keys : kvs.map (·.1) = ks.map Sum.inl
  nd : ks.Nodup
  val : ∀ f, valV kvs (.inl f) = if f ∈ ks then some (.ref (ad f)) else none
  ls : ∀ f, f ∈ ks → H0 (ad f) = none ∧ ad f ≠ d ∧ (∀ f', f' ∈ ks → ad f' = ad f → f' = f) ∧ ∃ ws, H (ad f) = some (.lst ws) ∧ Paired (EntAt18 H) ws (cont P f)
section
variable {H0 H H' : Hp} {d : Addr} {P : List Tri} {ks : List Int} {kvs : List (L2.Key × V)} {ad : Int → Addr}
theorem ChgAt.same (h : ChgAt H0 H d P ks kvs ad) (e : Same H H') : ChgAt H0 H' d P ks kvs ad :=
  ⟨e _ _ h.at_, h.fr, h.keys, h.nd, h.val, fun f hf => by
    obtain ⟨h1, h2, h3, ws, h4, h5⟩ := h.ls f hf
    exact ⟨h1, h2, h3, ws, e _ _ h4, ent_keep (fun t xs z => e _ _ z) h5⟩⟩
/-- while another object that stood before is written -/
theorem ChgAt.keep {x : Addr} {o : HO} (h : ChgAt H0 H d P ks kvs ad) (k : Keep x x H H') (hx0 : ∃ o, H0 x = some o) (hx : H x = some o) (nt : ∀ xs, o ≠ .tup xs) : ChgAt H0 H' d P ks kvs ad := by
  obtain ⟨o0, hx0⟩ := hx0
  have ne : ∀ a, H0 a = none → a ≠ x := fun a ha z => by rw [z, hx0] at ha; cases ha
  refine ⟨k _ _ (ne _ h.fr) (ne _ h.fr) h.at_, h.fr, h.keys, h.nd, h.val, fun f hf => ?_⟩
  obtain ⟨h1, h2, h3, ws, h4, h5⟩ := h.ls f hf
  exact ⟨h1, h2, h3, ws, k _ _ (ne _ h1) (ne _ h1) h4, ent_keep (fun t xs z => k _ _ (ne_of z hx fun q => nt _ q.symm) (ne_of z hx fun q => nt _ q.symm) z) h5⟩
theorem ChgAt.len (h : ChgAt H0 H d P ks kvs ad) : kvs.length = ks.length := by
  have e := congrArg List.length h.keys
  rw [List.length_map, List.length_map] at e
  exact e
/-- a new goal, its list at q, empty -/
theorem ChgAt.fresh {f : Int} {q : Addr} (h : ChgAt H0 H d P ks kvs ad) (nf : f ∉ ks) (np : ∀ e, (f, e) ∉ P) (hq : H q = some (.lst [])) (q0 : H0 q = none) (qd : q ≠ d) (qa : ∀ f', f' ∈ ks → ad f' ≠ q) :
    ChgAt H0 (upd H d (.dK (putK kvs (.inl f) (.ref q)))) d P (ks ++ [f]) (putK kvs (.inl f) (.ref q)) fun z => if z = f then q else ad z := by
  have v0 : valV kvs (.inl f) = none := by rw [h.val f, if_neg nf]
  have tp : ∀ t xs, H t = some (.tup xs) → (upd H d (.dK (putK kvs (.inl f) (.ref q)))) t = some (.tup xs) := fun t xs z => by
    rw [upd_ne (ne_of z h.at_ fun e => nomatch e)]
    exact z
  refine ⟨upd_same, h.fr, ?_, ?_, fun g => ?_, fun g hg => ?_⟩
  · rw [putK_new _ v0, List.map_append, h.keys, List.map_append]
    rfl
  · rw [List.nodup_append]
    refine ⟨h.nd, by simp, fun a ha b hb => ?_⟩
    rw [List.mem_singleton.mp hb]
    exact fun z => nf (by rw [← z]; exact ha)
  · rw [valV_put]
    by_cases e : g = f
    · rw [if_pos (by rw [e]), if_pos (List.mem_append_right _ (by rw [e]; exact List.mem_cons_self)), if_pos e]
    · rw [if_neg (fun z => e (Sum.inl.inj z)), h.val g]
      by_cases m : g ∈ ks
      · rw [if_pos m, if_pos (List.mem_append_left _ m), if_neg e]
      · rw [if_neg m, if_neg (fun z => by
          rcases List.mem_append.mp z with w | w
          · exact m w
          · exact e (List.mem_singleton.mp w))]
  · by_cases e : g = f
    · subst e
      rw [if_pos rfl]
      refine ⟨q0, qd, fun f' hf' ea => ?_, [], by rw [upd_ne qd]; exact hq, by rw [cont_nil np]; exact .nil⟩
      by_cases e : f' = g
      · exact e
      · rw [if_neg e] at ea
        rcases List.mem_append.mp hf' with w | w
        · exact absurd ea (qa f' w)
        · exact List.mem_singleton.mp w
    · have m : g ∈ ks := by
        rcases List.mem_append.mp hg with w | w
        · exact w
        · exact absurd (List.mem_singleton.mp w) e
      rw [if_neg e]
      obtain ⟨h1, h2, h3, ws, h4, h5⟩ := h.ls g m
      refine ⟨h1, h2, fun f' hf' ea => ?_, ws, by rw [upd_ne h2]; exact h4, ent_keep tp h5⟩
      by_cases e' : f' = f
      · rw [if_pos e'] at ea
        exact absurd ea.symm (qa g m)
      · rw [if_neg e'] at ea
        rcases List.mem_append.mp hf' with w | w
        · exact h3 f' w ea
        · exact absurd (List.mem_singleton.mp w) e'
/-- one more entry in the list of a goal -/
theorem ChgAt.more {f : Int} {e : Ent} {t : Addr} {ws : List V} (h : ChgAt H0 H d P ks kvs ad) (hf : f ∈ ks) (hw : H (ad f) = some (.lst ws)) (ht : H t = some (.tup [optV e.1, .int e.2])) : ChgAt H0 (upd H (ad f) (.lst (ws ++ [.ref t]))) d (P ++ [(f, e)]) ks kvs ad := by
  have tp : ∀ u xs, H u = some (.tup xs) → (upd H (ad f) (.lst (ws ++ [.ref t]))) u = some (.tup xs) := fun u xs z => by
    rw [upd_ne (ne_of z hw fun e => nomatch e)]
    exact z
  obtain ⟨f1, f2, f3, ws', f4, f5⟩ := h.ls f hf
  rw [hw] at f4
  cases f4
  refine ⟨by rw [upd_ne f2.symm]; exact h.at_, h.fr, h.keys, h.nd, h.val, fun g hg => ?_⟩
  obtain ⟨h1, h2, h3, wg, h4, h5⟩ := h.ls g hg
  by_cases eg : g = f
  · subst eg
    refine ⟨h1, h2, h3, _, upd_same, ?_⟩
    rw [cont_app, cont_one, if_pos rfl]
    exact paired_app (ent_keep tp f5) (.cons ⟨t, rfl, tp _ _ ht⟩ .nil)
  · refine ⟨h1, h2, h3, wg, ?_, ?_⟩
    · rw [upd_ne fun z => eg (f3 g hg z)]
      exact h4
    · rw [cont_app, cont_one, if_neg (Ne.symm eg), List.append_nil]
      exact ent_keep tp h5
end
/-! ### the constants of a goal -/
/-- in its place, or behind -/
def putC (c : List Ent) (o : Option Int) (x : Int) : List Ent := if (c.any fun q => decide (q.1 = o)) = true then c.map (fun q => if q.1 = o then (q.1, x) else q) else c ++ [(o, x)]
def lookC (c : List Ent) (o : Option Int) : Option Int := (c.find? fun q => decide (q.1 = o)).map (·.2)
def encC18 (c : List Ent) : List (NK × V) := c.map fun q => (q.1, V.int q.2)
theorem enc_put (c : List Ent) (o : Option Int) (x : Int) : putK (encC18 c) o (.int x) = encC18 (putC c o x) := by
  have e : ((encC18 c).any fun kv => decide (kv.1 = o)) = c.any fun q => decide (q.1 = o) := by
    unfold encC18
    rw [List.any_map]
    rfl
  unfold putK putC
  rw [e]
  by_cases h : (c.any fun q => decide (q.1 = o)) = true
  · rw [if_pos h, if_pos h]
    unfold encC18
    rw [List.map_map, List.map_map]
    refine List.map_congr_left fun q _ => ?_
    show (if q.1 = o then (q.1, V.int x) else (q.1, V.int q.2)) = ((if q.1 = o then (q.1, x) else q).1, V.int (if q.1 = o then (q.1, x) else q).2)
    split <;> rfl
  · rw [if_neg h, if_neg h]
    unfold encC18
    rw [List.map_append]
    rfl
theorem enc_look (c : List Ent) (o : Option Int) : valV (encC18 c) o = (lookC c o).map V.int := by
  unfold lookC
  induction c with
  | nil => rfl
  | cons q c ih =>
    show valV ((q.1, V.int q.2) :: encC18 c) o = _
    by_cases h : q.1 = o
    · rw [valV_pos (p := (q.1, V.int q.2)) h]
      simp [List.find?_cons, h]
    · rw [valV_neg (p := (q.1, V.int q.2)) h, ih]
      simp [List.find?_cons, h]
theorem int_map_inj {a b : Option Int} (h : a.map V.int = b.map V.int) : a = b := by
  cases a with
  | none =>
    cases b with
    | none => rfl
    | some y => cases h
  | some x =>
    cases b with
    | none => cases h
    | some y =>
      have z : V.int x = V.int y := Option.some.inj h
      rw [V.int.inj z]
theorem look_putC (c : List Ent) (o p : Option Int) (x : Int) : lookC (putC c o x) p = if p = o then some x else lookC c p := by
  refine int_map_inj ?_
  rw [← enc_look, ← enc_put, valV_put, enc_look]
  split <;> rfl
theorem keys_putC (c : List Ent) (o : Option Int) (x : Int) (h : (c.map (·.1)).Nodup) : ((putC c o x).map (·.1)).Nodup := by
  unfold putC
  split
  · rw [List.map_map]
    have e : (c.map ((fun q : Ent => q.1) ∘ fun q => if q.1 = o then (q.1, x) else q)) = c.map (·.1) := List.map_congr_left fun q _ => by
      show (if q.1 = o then (q.1, x) else q).1 = q.1
      split <;> rfl
    rw [e]
    exact h
  · rename_i n
    rw [List.map_append, List.nodup_append]
    refine ⟨h, by simp, fun a ha b hb => ?_⟩
    have eb : b = o := List.mem_singleton.mp hb
    rw [eb]
    intro z
    obtain ⟨q, hq, e⟩ := List.mem_map.mp ha
    exact n (List.any_eq_true.mpr ⟨q, hq, decide_eq_true (by rw [e, z])⟩)
theorem len_putC (c : List Ent) (o : Option Int) (x : Int) : (putC c o x).length ≤ c.length + 1 := by
  unfold putC
  split
  · rw [List.length_map]
    omega
  · rw [List.length_append]
    exact Nat.le_refl _
/-- the entries of one goal, put one after the other -/
def putAll (c : List Ent) (l : List Ent) : List Ent := l.foldl (fun c e => putC c e.1 e.2) c
theorem putAll_snoc (c l : List Ent) (e : Ent) : putAll c (l ++ [e]) = putC (putAll c l) e.1 e.2 := by
  unfold putAll
  rw [List.foldl_append]
  rfl
theorem look_putAll (p : Option Int) : ∀ (l c : List Ent), (∀ e, e ∈ l → e.1 = p → ∀ e', e' ∈ l → e'.1 = p → e'.2 = e.2) → (∀ x, (p, x) ∈ l → lookC (putAll c l) p = some x) ∧ ((∀ x, (p, x) ∉ l) → lookC (putAll c l) p = lookC c p)
  | [], c, _ => ⟨(fun x h => nomatch h), fun _ => rfl⟩
  | e :: l, c, u => by
    obtain ⟨h1, h2⟩ := look_putAll p l (putC c e.1 e.2) fun a ha ea b hb eb => u a (List.mem_cons_of_mem _ ha) ea b (List.mem_cons_of_mem _ hb) eb
    refine ⟨fun x hx => ?_, fun hn => ?_⟩
    · by_cases q : ∃ y, (p, y) ∈ l
      · obtain ⟨y, hy⟩ := q
        have e1 := h1 y hy
        have e2 := u (p, y) (List.mem_cons_of_mem _ hy) rfl (p, x) hx rfl
        show lookC (putAll (putC c e.1 e.2) l) p = some x
        rw [e1]
        exact congrArg some e2.symm
      · have e1 := h2 fun y hy => q ⟨y, hy⟩
        show lookC (putAll (putC c e.1 e.2) l) p = some x
        rw [e1, look_putC]
        rcases List.mem_cons.mp hx with z | z
        · rw [← z, if_pos rfl]
        · exact absurd ⟨x, z⟩ q
    · have e1 := h2 fun x hx => hn x (List.mem_cons_of_mem _ hx)
      show lookC (putAll (putC c e.1 e.2) l) p = lookC c p
      rw [e1, look_putC, if_neg fun z => hn e.2 (by rw [z]; exact List.mem_cons_self)]
theorem keys_putAll : ∀ (l c : List Ent), (c.map (·.1)).Nodup → ((putAll c l).map (·.1)).Nodup
  | [], _, h => h
  | e :: l, c, h => keys_putAll l _ (keys_putC c e.1 e.2 h)
theorem len_putAll : ∀ (l c : List Ent), (putAll c l).length ≤ c.length + l.length
  | [], _ => Nat.le_refl _
  | e :: l, c => by
    have h1 := len_putAll l (putC c e.1 e.2)
    have h2 := len_putC c e.1 e.2
    show (putAll (putC c e.1 e.2) l).length ≤ c.length + (l.length + 1)
    omega
/-- the lines among them -/
def prs (c : List Ent) : Ps := c.filterMap fun q => q.1.map fun k => (k, q.2)
theorem prs_cons (q : Ent) (c : List Ent) : prs (q :: c) = match q.1 with
    | none => prs c
    | some k => (k, q.2) :: prs c := by
  unfold prs
  rw [List.filterMap_cons]
  obtain ⟨o, x⟩ := q
  cases o <;> rfl
theorem look_prs (k : Int) : ∀ c : List Ent, look (prs c) k = lookC c (some k)
  | [] => rfl
  | q :: c => by
    have ih := look_prs k c
    rw [prs_cons]
    obtain ⟨o, x⟩ := q
    cases o with
    | none =>
      show look (prs c) k = _
      rw [ih]
      unfold lookC
      rw [List.find?_cons]
      rfl
    | some j =>
      show look ((j, x) :: prs c) k = _
      rw [look_cons]
      unfold lookC
      rw [List.find?_cons]
      by_cases h : j = k
      · rw [if_pos h]
        simp [h]
      · rw [if_neg h, ih]
        simp [h, lookC]
theorem keys_prs : ∀ c : List Ent, (c.map (·.1)).Nodup → (keys (prs c)).Nodup
  | [], _ => List.nodup_nil
  | q :: c, h => by
    rw [List.map_cons, List.nodup_cons] at h
    have ih := keys_prs c h.2
    rw [prs_cons]
    obtain ⟨o, x⟩ := q
    cases o with
    | none => exact ih
    | some j =>
      show (j :: keys (prs c)).Nodup
      rw [List.nodup_cons]
      refine ⟨fun z => h.1 ?_, ih⟩
      obtain ⟨p, hp, e⟩ := List.mem_map.mp z
      obtain ⟨r, hr, er⟩ := List.mem_filterMap.mp hp
      obtain ⟨o, y⟩ := r
      cases o with
      | none => cases er
      | some i =>
        obtain rfl : (i, y) = p := Option.some.inj er
        have e' : i = j := e
        rw [← e']
        exact List.mem_map.mpr ⟨_, hr, rfl⟩
/-- sorted, they are the lines of the goal's data -/
theorem lines_eq {cs : List Cmd} (ok : AllOk cs) {v : Int} (hv : 1 ≤ v) (hb : boxM cs v ≠ none) {c : List Ent} (nd : (c.map (·.1)).Nodup) (h : ∀ o, lookC c o = cAt (dat cs v) o) {L : Ps} (asc : Asc L) (pm : L.Perm (prs c)) : dat cs v = (lookC c none, some L) := by
  obtain ⟨M, e, am⟩ := dat_some ok hv hb
  refine Prod.ext ?_ ?_
  · exact (h none).symm
  · show (dat cs v).2 = some L
    rw [e]
    refine congrArg some (asc_ext am asc fun k => ?_)
    rw [look_permN (keys_prs c nd) pm, look_prs, h (some k)]
    unfold cAt
    rw [e]
    rfl
end Gc

/-! what stands while all places are learned (k18) -/
namespace Gc
open PySem L2
/-- the places in their order -/
def placesO (lo hi : Int) : List (Option Int) := none :: (List.range (hi + 1 - lo).toNat).map fun i => some (lo + (i : Nat))
theorem placesO_v (lo hi : Int) : (placesO lo hi).map optV = V.non :: rgV lo (hi + 1) := by
  unfold placesO rgV
  rw [List.map_cons, List.map_map]
  rfl
theorem mem_placesO {lo hi : Int} {o : Option Int} : o ∈ placesO lo hi ↔ ∀ k, o = some k → lo ≤ k ∧ k ≤ hi := by
  unfold placesO
  rw [List.mem_cons]
  constructor
  · rintro (rfl | h) k hk
    · cases hk
    · obtain ⟨i, hi', e⟩ := List.mem_map.mp h
      rw [hk] at e
      have e' : lo + (i : Int) = k := Option.some.inj e
      have := List.mem_range.mp hi'
      omega
  · intro h
    cases o with
    | none => exact .inl rfl
    | some k =>
      obtain ⟨h1, h2⟩ := h k rfl
      refine .inr (List.mem_map.mpr ⟨(k - lo).toNat, List.mem_range.mpr (by omega), congrArg some (by omega)⟩)
theorem nodup_placesO (lo hi : Int) : (placesO lo hi).Nodup := by
  unfold placesO
  rw [List.nodup_cons]
  constructor
  · intro h
    obtain ⟨i, _, e⟩ := List.mem_map.mp h
    cases e
  · rw [List.nodup_iff_pairwise_ne, List.pairwise_map]
    refine List.Pairwise.imp ?_ List.pairwise_lt_range
    intro a b h z
    have e := Option.some.inj z
    omega
theorem len_placesO (lo hi : Int) : (placesO lo hi).length = (hi + 1 - lo).toNat + 1 := by
  unfold placesO
  rw [List.length_cons, List.length_map, List.length_range]
/-- all together they change no more often than there are commands, and once more -/
theorem most_sum (es : List Cmd) (lo hi : Int) : ((placesO lo hi).map (most es)).sum ≤ 1 + es.length := by
  have n := nodup_placesO lo hi
  unfold placesO at n ⊢
  rw [List.nodup_cons] at n
  rw [List.map_cons, List.sum_cons, List.map_map]
  have nn : ((List.range (hi + 1 - lo).toNat).map fun i => lo + ((i : Nat) : Int)).Nodup := by
    have q := n.2
    rw [List.nodup_iff_pairwise_ne, List.pairwise_map] at q ⊢
    exact q.imp fun h z => h (congrArg some z)
  have v := visits_sum _ es.reverse (Gc.last es) nn
  rw [List.map_map, List.length_reverse] at v
  exact Nat.add_le_add_left v 1
theorem sum_lin (h : Option Int → Nat) (a b : Nat) : ∀ l : List (Option Int), (l.map fun o => a + b * h o).sum = a * l.length + b * (l.map h).sum
  | [] => by simp
  | o :: l => by
    rw [List.map_cons, List.sum_cons, sum_lin h a b l, List.map_cons, List.sum_cons, List.length_cons, Nat.mul_add, Nat.mul_add]
    omega
theorem sum_take {h : Option Int → Nat} : ∀ (l : List (Option Int)) (i : Nat), ((l.take i).map h).sum ≤ (l.map h).sum
  | [], i => by simp
  | o :: l, 0 => by simp
  | o :: l, i + 1 => by
    rw [List.take_succ_cons, List.map_cons, List.sum_cons, List.map_cons, List.sum_cons]
    have := sum_take (h := h) l i
    omega
/-- what stands while the changes are gathered -/
structure PcA (K : PySem.W.Frag) (CB : Addr) (H0 H : Hp) (x dx l : Addr) (xs : List V) (es : List Cmd) (n last : Int) (d : Addr) (av : List Addr) (P : List Tri) (ks : List Int) (kvs : List (L2.Key × V)) (ad : Int → Addr) (m : Nat) : Prop where
  kx : Keep x x H0 H
  hh : Hides K CB H x dx l xs es (n + m)
  ch : ChgAt H0 H d P ks kvs ad
  km : ∀ f, f ∈ ks ↔ (f = 1 ∧ 0 < last) ∨ ∃ e, (f, e) ∈ P
  kl : ks.length ≤ P.length + 1
  wl : ∀ f ws, f ∈ ks → H (ad f) = some (.lst ws) → ws.length ≤ P.length
  av : ∀ a ∈ av, a ≠ d ∧ ∀ f ∈ ks, ad f ≠ a
section
variable {K : PySem.W.Frag} {CB : Addr} {H0 H H' : Hp} {x dx l : Addr} {xs : List V} {es : List Cmd} {n last : Int} {d : Addr} {av : List Addr} {P : List Tri} {ks : List Int} {kvs : List (L2.Key × V)} {ad : Int → Addr} {m : Nat}
theorem PcA.same (h : PcA K CB H0 H x dx l xs es n last d av P ks kvs ad m) (e : Same H H') : PcA K CB H0 H' x dx l xs es n last d av P ks kvs ad m := by
  refine ⟨fun c o h1 h2 hc => e _ _ (h.kx c o h1 h2 hc), h.hh.same e, h.ch.same e, h.km, h.kl, fun f ws hf hw => ?_, h.av⟩
  obtain ⟨_, _, _, ws', h4, _⟩ := h.ch.ls f hf
  have h5 := e _ _ h4
  rw [hw] at h5
  cases h5
  exact h.wl f ws hf h4
theorem PcA.keep {j : Nat} (h : PcA K CB H0 H x dx l xs es n last d av P ks kvs ad m) (hx0 : ∃ o, H0 x = some o) (k : Keep x x H H') (hh : Hides K CB H' x dx l xs es (n + j)) : PcA K CB H0 H' x dx l xs es n last d av P ks kvs ad j := by
  refine ⟨h.kx.trans k, hh, h.ch.keep k hx0 h.hh.bx (fun _ z => nomatch z), h.km, h.kl, fun f ws hf hw => ?_, h.av⟩
  obtain ⟨h1, _, _, ws', h4, _⟩ := h.ch.ls f hf
  have ax : ad f ≠ x := fun z => by
    obtain ⟨o, ho⟩ := hx0
    rw [z, ho] at h1
    cases h1
  have h5 := k _ _ ax ax h4
  rw [hw] at h5
  cases h5
  exact h.wl f ws hf h4
theorem PcA.avoid (h : PcA K CB H0 H x dx l xs es n last d av P ks kvs ad m) {a : Addr} (na : H a = none) : PcA K CB H0 H x dx l xs es n last d (a :: av) P ks kvs ad m := by
  refine ⟨h.kx, h.hh, h.ch, h.km, h.kl, h.wl, fun b hb => ?_⟩
  rcases List.mem_cons.mp hb with e | e
  · rw [e]
    refine ⟨(ne_of_none h.ch.at_ na).symm, fun f hf => ?_⟩
    obtain ⟨_, _, _, ws', h4, _⟩ := h.ch.ls f hf
    exact ne_of_none h4 na
  · exact h.av b e
theorem PcA.less {bv : List Addr} (h : PcA K CB H0 H x dx l xs es n last d av P ks kvs ad m) (hb : ∀ a ∈ bv, a ∈ av) : PcA K CB H0 H x dx l xs es n last d bv P ks kvs ad m := ⟨h.kx, h.hh, h.ch, h.km, h.kl, h.wl, fun a ha => h.av a (hb a ha)⟩
theorem PcA.off (h : PcA K CB H0 H x dx l xs es n last d av P ks kvs ad m) (hl0 : ∃ o, H0 l = some o) {a : Addr} (a0 : H0 a = none) : a ≠ l := fun z => by
  obtain ⟨o, ho⟩ := hl0
  rw [z, ho] at a0
  cases a0
/-- a new goal -/
theorem PcA.fresh {f : Int} {q : Addr} (h : PcA K CB H0 H x dx l xs es n last d av P ks kvs ad m) (hx0 : ∃ o, H0 x = some o) (hl0 : ∃ o, H0 l = some o) (nf : f ∉ ks) (nq : H q = none) :
    ∃ ad', ad' f = q ∧ (upd (upd H q (.lst [])) d (.dK (putK kvs (.inl f) (.ref q)))) q = some (.lst []) ∧ (∀ e, (f, e) ∉ P) ∧ ∀ e : Ent, ∀ t, (upd (upd H q (.lst [])) d (.dK (putK kvs (.inl f) (.ref q)))) t = none → q ∉ av →
      PcA K CB H0 (upd (upd (upd (upd H q (.lst [])) d (.dK (putK kvs (.inl f) (.ref q)))) t (.tup [optV e.1, .int e.2])) q (.lst ([] ++ [.ref t]))) x dx l xs es n last d av (P ++ [(f, e)]) (ks ++ [f]) (putK kvs (.inl f) (.ref q)) ad' m ∧
      (∀ a o, a ≠ d → H a = some o → (upd (upd (upd (upd H q (.lst [])) d (.dK (putK kvs (.inl f) (.ref q)))) t (.tup [optV e.1, .int e.2])) q (.lst ([] ++ [.ref t]))) a = some o) := by
  have e1 := new_same (o := HO.lst []) nq
  have np : ∀ e, (f, e) ∉ P := fun e z => nf ((h.km f).mpr (.inr ⟨e, z⟩))
  have c1 := h.ch.same e1
  have hq1 : (upd H q (.lst [])) q = some (.lst []) := upd_same
  have qd : q ≠ d := (ne_of_none h.ch.at_ nq).symm
  obtain ⟨ox, hox⟩ := hx0
  have qx : q ≠ x := (ne_of_none h.hh.bx nq).symm
  have dx' : d ≠ x := fun z => by
    have := h.ch.fr
    rw [z, hox] at this
    cases this
  have q0 : H0 q = none := by
    cases z : H0 q with
    | none => rfl
    | some o =>
      have := h.kx _ _ qx qx z
      rw [nq] at this
      cases this
  have qa : ∀ f', f' ∈ ks → ad f' ≠ q := fun f' hf' => by
    obtain ⟨_, _, _, ws', h4, _⟩ := h.ch.ls f' hf'
    exact ne_of_none h4 nq
  have c2 := c1.fresh nf np hq1 q0 qd qa
  have hq2 : (upd (upd H q (.lst [])) d (.dK (putK kvs (.inl f) (.ref q)))) q = some (.lst []) := by rw [upd_ne qd]; exact hq1
  refine ⟨fun z => if z = f then q else ad z, if_pos rfl, hq2, np, fun e t nt qav => ?_⟩
  have e3 := new_same (o := HO.tup [optV e.1, .int e.2]) nt
  have ht : (upd (upd (upd H q (.lst [])) d (.dK (putK kvs (.inl f) (.ref q)))) t (.tup [optV e.1, .int e.2])) t = some (.tup [optV e.1, .int e.2]) := upd_same
  have c3 := c2.same e3
  have hq3 := e3 _ _ hq2
  have c4 := c3.more (f := f) (e := e) (t := t) (List.mem_append_right _ List.mem_cons_self) (show _ = some (HO.lst []) by rw [if_pos rfl]; exact hq3) ht
  rw [if_pos rfl] at c4
  have fr : ∀ a o, a ≠ d → H a = some o → (upd (upd (upd (upd H q (.lst [])) d (.dK (putK kvs (.inl f) (.ref q)))) t (.tup [optV e.1, .int e.2])) q (.lst ([] ++ [.ref t]))) a = some o := fun a o ad ha => by
    rw [upd_ne (ne_of_none ha nq)]
    refine e3 _ _ ?_
    rw [upd_ne ad]
    exact e1 _ _ ha
  refine ⟨⟨fun a o h1 h2 ha => fr a o (fun z => by rw [z, h.ch.fr] at ha; cases ha) (h.kx a o h1 h2 ha), ?_, c4, fun g => ?_, by rw [List.length_append, List.length_append]; exact Nat.add_le_add_right h.kl 1, fun g ws hg hw => ?_, fun a ha => ⟨(h.av a ha).1, fun g hg => ?_⟩⟩, fr⟩
  · have ld := h.off hl0 h.ch.fr
    have lq := h.off hl0 q0
    refine ⟨fr _ _ dx'.symm h.hh.bx, fr _ _ ld.symm h.hh.hl, ?_, h.hh.ok, h.hh.ln⟩
    have s1 := h.hh.hc.same e1
    have s2 : CmdsOf K (upd (upd H q (.lst [])) d (.dK (putK kvs (.inl f) (.ref q)))) xs es := Paired.mapP s1 fun v c z => by
      obtain ⟨b, eb, zb⟩ := z
      refine ⟨b, eb, ?_⟩
      rcases zb with (w | ⟨ob, w⟩) | w
      · exact .inl (.inl (by rw [upd_ne (ne_of w c1.at_ fun y => nomatch y)]; exact w))
      · exact .inl (.inr ⟨ob, by rw [upd_ne (ne_of w c1.at_ fun y => nomatch y)]; exact w⟩)
      · exact .inr w
    exact CmdsOf.atL hq3 (s2.same e3)
  · rw [List.mem_append, List.mem_singleton, h.km g]
    constructor
    · rintro ((z | ⟨e', z⟩) | z)
      · exact .inl z
      · exact .inr ⟨e', List.mem_append_left _ z⟩
      · exact .inr ⟨e, by rw [z]; exact List.mem_append_right _ List.mem_cons_self⟩
    · rintro (z | ⟨e', z⟩)
      · exact .inl (.inl z)
      · rcases List.mem_append.mp z with w | w
        · exact .inl (.inr ⟨e', w⟩)
        · exact .inr (congrArg (·.1) (List.mem_singleton.mp w))
  · rw [List.length_append]
    by_cases eg : g = f
    · rw [if_pos eg, upd_same] at hw
      cases hw
      show 1 ≤ P.length + 1
      omega
    · have mg : g ∈ ks := by
        rcases List.mem_append.mp hg with w | w
        · exact w
        · exact absurd (List.mem_singleton.mp w) eg
      obtain ⟨_, g2, _, ws', h4, _⟩ := h.ch.ls g mg
      rw [if_neg eg, fr _ _ g2 h4] at hw
      cases hw
      have := h.wl g ws mg h4
      omega
  · by_cases eg : g = f
    · rw [if_pos eg]
      exact fun z => qav (by rw [z]; exact ha)
    · rw [if_neg eg]
      rcases List.mem_append.mp hg with w | w
      · exact (h.av a ha).2 g w
      · exact absurd (List.mem_singleton.mp w) eg
/-- one more entry for a goal that is there -/
theorem PcA.more {f : Int} (h : PcA K CB H0 H x dx l xs es n last d av P ks kvs ad m) (hx0 : ∃ o, H0 x = some o) (hl0 : ∃ o, H0 l = some o) (hf : f ∈ ks) :
    ∃ ws, H (ad f) = some (.lst ws) ∧ ws.length ≤ P.length ∧ ∀ e : Ent, ∀ t, H t = none →
      PcA K CB H0 (upd (upd H t (.tup [optV e.1, .int e.2])) (ad f) (.lst (ws ++ [.ref t]))) x dx l xs es n last d av (P ++ [(f, e)]) ks kvs ad m ∧
      (∀ a o, (∀ ws, o ≠ .lst ws) ∨ a ∈ av → H a = some o → (upd (upd H t (.tup [optV e.1, .int e.2])) (ad f) (.lst (ws ++ [.ref t]))) a = some o) := by
  obtain ⟨f1, f2, f3, ws, hw, hp⟩ := h.ch.ls f hf
  refine ⟨ws, hw, h.wl f ws hf hw, fun e t nt => ?_⟩
  have e3 := new_same (o := HO.tup [optV e.1, .int e.2]) nt
  have ht : (upd H t (.tup [optV e.1, .int e.2])) t = some (.tup [optV e.1, .int e.2]) := upd_same
  have c4 := (h.ch.same e3).more (e := e) hf (e3 _ _ hw) ht
  have fr : ∀ a o, a ≠ ad f → H a = some o → (upd (upd H t (.tup [optV e.1, .int e.2])) (ad f) (.lst (ws ++ [.ref t]))) a = some o := fun a o na ha => by
    rw [upd_ne na]
    exact e3 _ _ ha
  have ax : ad f ≠ x := fun z => by
    obtain ⟨o, ho⟩ := hx0
    rw [z, ho] at f1
    cases f1
  refine ⟨⟨fun a o h1 h2 ha => fr a o (fun z => by rw [z, f1] at ha; cases ha) (h.kx a o h1 h2 ha), (h.hh.same e3).updL (e3 _ _ hw) (h.off hl0 f1), c4, fun g => ?_, by rw [List.length_append]; exact Nat.le_succ_of_le h.kl, fun g wg hg hwg => ?_, h.av⟩, fun a o ho ha => fr a o (fun z => ?_) ha⟩
  · rw [h.km g]
    constructor
    · rintro (z | ⟨e', z⟩)
      · exact .inl z
      · exact .inr ⟨e', List.mem_append_left _ z⟩
    · rintro (z | ⟨e', z⟩)
      · exact .inl z
      · rcases List.mem_append.mp z with w | w
        · exact .inr ⟨e', w⟩
        · have eg : g = f := congrArg (·.1) (List.mem_singleton.mp w)
          rw [eg]
          exact (h.km f).mp hf
  · rw [List.length_append]
    by_cases eg : ad g = ad f
    · rw [eg, upd_same] at hwg
      cases hwg
      have := h.wl f ws hf hw
      rw [List.length_append]
      exact Nat.add_le_add_right this 1
    · obtain ⟨_, _, _, ws', h4, _⟩ := h.ch.ls g hg
      rw [fr _ _ eg h4] at hwg
      cases hwg
      have := h.wl g wg hg h4
      exact Nat.le_succ_of_le this
  · rcases ho with q | q
    · rw [z, hw] at ha
      exact q ws (Option.some.inj ha).symm
    · exact (h.av a q).2 f hf z.symm
end
/-! ### walks of such dicts in comprehensions -/
theorem lc_no {P : Program} {w : World} {d : Addr} {od : Obj} {kvs : List (NK × V)} {g : TG} {tt : TT} {te : TE} {vs : List Nat} {σ : L2.St} {H1 : Hp} {D : Addr} {Qd : Hp → Prop} (Pv : Nat → Hp → Prop) (h0 : Pv 0 (upd H1 D (.lst []))) (hl : ∀ i H, Pv i H → H d = some (.frz od (NoD P w d kvs)))
    (hs : ∀ i k v H, kvs[i]? = some (k, v) → Pv i H → g (nkV k) (wipe σ vs) H fun σ2 H2 => wipe σ2 vs = wipe σ vs ∧ tt σ2 H2 fun b H3 =>
      if b = true then te σ2 H3 fun y H4 => ∃ acc, H4 D = some (.lst acc) ∧ acc.length < sizeLine ∧ Pv (i + 1) (upd H4 D (.lst (acc ++ [y]))) else Pv (i + 1) H3)
    (hd : ∀ H, Pv kvs.length H → Qd H) : ∃ W : Nat → Nat → Hp → Prop, (∃ m, W 0 m (upd H1 D (.lst []))) ∧ ∀ i m H, W i m H →
      ((ItNo P w d od kvs).stop i H ∧ Qd H) ∨ ((ItNo P w d od kvs).go i H ∧ ∃ Nx : Hp → Prop, (∀ H', Nx H' → ∃ m', m' < m ∧ W (i + 1) m' H') ∧
        ∀ x H', (ItNo P w d od kvs).yld i H x H' → g x (wipe σ vs) H' fun σ2 H2 => wipe σ2 vs = wipe σ vs ∧ tt σ2 H2 fun b H3 =>
          if b = true then te σ2 H3 fun y H4 => ∃ acc, H4 D = some (.lst acc) ∧ acc.length < sizeLine ∧ Nx (upd H4 D (.lst (acc ++ [y]))) else Nx H3) := by
  refine ⟨fun i m H => m = kvs.length - i ∧ i ≤ kvs.length ∧ Pv i H, ⟨kvs.length, rfl, Nat.zero_le _, h0⟩, ?_⟩
  rintro i m H ⟨rfl, le, pv⟩
  have locked := hl i H pv
  by_cases lt : i < kvs.length
  · refine .inr ⟨⟨locked, lt⟩, Pv (i + 1), fun H2 pv2 => ⟨kvs.length - (i + 1), by omega, rfl, lt, pv2⟩, fun x H2 yl => ?_⟩
    obtain ⟨rfl, k, v, at_i, rfl⟩ := yl
    exact hs i k v _ at_i pv
  · obtain rfl : i = kvs.length := by omega
    exact .inl ⟨⟨locked, Nat.le_refl _⟩, hd H pv⟩
/-- a list of pieces stands while something else is written -/
theorem found_upd {H0 H : Hp} {m c : Addr} {is : List (Addr × Option Addr)} {ps : List Piece} {o ob : HO} (h : FoundAt H0 H m is ps) (hc : H c = some o) (nt : ∀ xs, o ≠ .tup xs) (nl : ∀ xs, o ≠ .lst xs) : FoundAt H0 (upd H c ob) m is ps := by
  have ne : ∀ a xs, H a = some (.lst xs) → a ≠ c := fun a xs z => ne_of z hc fun e => nl _ e.symm
  refine ⟨by rw [upd_ne (ne _ _ h.lst)]; exact h.lst, Paired.mapP h.its fun i p q => q.mono (fun t xs z => by rw [upd_ne (ne_of z hc fun e => nt _ e.symm)]; exact z) fun a xs _ z => by rw [upd_ne (ne a xs z)]; exact z, h.nd, fun a ha => ?_, h.m0⟩
  obtain ⟨h1, h2, xs, h3⟩ := h.new a ha
  exact ⟨h1, h2, xs, by rw [upd_ne (ne a xs h3)]; exact h3⟩
/-- one piece more -/
theorem found_put {H0 H : Hp} {m t a : Addr} {is : List (Addr × Option Addr)} {ps : List Piece} {p : Piece} {xs : List V} (h : FoundAt H0 H m is ps) (hp : PieceAt H (t, some a) p) (ha : H a = some (.lst xs)) (a0 : H0 a = none) (am : a ≠ m) (an : a ∉ is.filterMap (·.2)) :
    FoundAt H0 (upd H m (.lst (is.map (fun i => V.ref i.1) ++ [.ref t]))) m (is ++ [(t, some a)]) (ps ++ [p]) := by
  have tp : ∀ u zs, H u = some (.tup zs) → (upd H m (.lst (is.map (fun i => V.ref i.1) ++ [.ref t]))) u = some (.tup zs) := fun u zs z => by
    rw [upd_ne (ne_of z h.lst fun e => nomatch e)]
    exact z
  refine ⟨by rw [upd_same, List.map_append]; rfl, ?_, ?_, fun b hb => ?_, h.m0⟩
  · refine paired_app ?_ (.cons (hp.mono tp fun b zs eb z => ?_) .nil)
    · have q : ∀ {is' : List (Addr × Option Addr)} {ps' : List Piece}, Paired (PieceAt H) is' ps' → (∀ b ∈ is'.filterMap (·.2), b ≠ m) → Paired (PieceAt (upd H m (.lst (is.map (fun i => V.ref i.1) ++ [.ref t])))) is' ps' := fun {is'} {ps'} hh => by
        induction hh with
        | nil => intro _; exact .nil
        | @cons i p is' ps' z zs ih =>
          intro hn
          refine .cons (z.mono tp fun b ws eb w => ?_) (ih fun b hb => hn b ?_)
          · rw [upd_ne (hn b (by rw [List.filterMap_cons]; rw [eb]; exact List.mem_cons_self))]
            exact w
          · rw [List.filterMap_cons]
            cases i.2 with
            | none => exact hb
            | some c => exact List.mem_cons_of_mem _ hb
      exact q h.its fun b hb => (h.new b hb).2.1
    · have e : a = b := Option.some.inj eb
      rw [upd_ne (by rw [← e]; exact am)]
      exact z
  · rw [List.filterMap_append, List.nodup_append]
    refine ⟨h.nd, by simp, fun b hb c hc => ?_⟩
    have ec : c = a := by simpa using hc
    rw [ec]
    exact fun z => an (by rw [← z]; exact hb)
  · rw [List.filterMap_append] at hb
    rcases List.mem_append.mp hb with w | w
    · obtain ⟨h1, h2, zs, h3⟩ := h.new b w
      exact ⟨h1, h2, zs, by rw [upd_ne h2]; exact h3⟩
    · have eb : b = a := by simpa using w
      rw [eb]
      exact ⟨a0, am, xs, by rw [upd_ne am]; exact ha⟩
/-! ### pairs sorted -/
/-- the pair that a tuple holds -/
def pairOf (H : Hp) : V → Int × Int
  | .ref t => match H t with
    | some (.tup [.int i, .int j]) => (i, j)
    | _ => (0, 0)
  | _ => (0, 0)
theorem pairOf_at {H : Hp} {t : Addr} {i j : Int} (h : H t = some (.tup [.int i, .int j])) : pairOf H (.ref t) = (i, j) := by
  simp only [pairOf, h]
theorem sorted_asc {H : Hp} {ys xs : List V} {b : Ps} (hx : xs.map (pairOf H) = b) (nd : (keys b).Nodup) (srt : SrtO.Srtd (ltP (pairOf H)) ys) (stb : SrtO.Stb (ltP (pairOf H)) ys xs) : Asc (ys.map (pairOf H)) ∧ (ys.map (pairOf H)).Perm b := by
  have pm : (ys.map (pairOf H)).Perm b := by
    rw [← hx]
    exact stb.perm.map _
  refine ⟨?_, pm⟩
  have ndy : (keys (ys.map (pairOf H))).Nodup := (pm.map fun q : Int × Int => q.1).nodup_iff.mpr nd
  unfold Asc
  rw [List.pairwise_map]
  unfold keys at ndy
  rw [List.map_map, List.nodup_iff_pairwise_ne, List.pairwise_map] at ndy
  have both := List.Pairwise.and srt ndy
  refine both.imp fun {u v} h => ?_
  have h1 := SrtO.lexB_no.mp h.1
  have h2 : (pairOf H u).1 ≠ (pairOf H v).1 := h.2
  omega
/-! ### how many keys -/
theorem goP_len : ∀ (r : List Cmd) (off added first : Int) (lines : Ps) (found : List Piece), (goP r off added first lines found).length ≤ found.length + r.length + 1
  | [], off, added, first, lines, found => by
    have := addP_len (ps := found) (p := (first, some added, some (sortP lines)))
    show (addP found _).length ≤ found.length + 0 + 1
    omega
  | .home :: r, off, added, first, lines, found => by
    have := addP_len (ps := found) (p := (first, none, none))
    show (addP found _).length ≤ found.length + (r.length + 1) + 1
    omega
  | .stop :: r, off, added, first, lines, found => by
    have := addP_len (ps := found) (p := (first, none, some (sortP lines)))
    show (addP found _).length ≤ found.length + (r.length + 1) + 1
    omega
  | .right n :: r, off, added, first, lines, found => by
    have := addP_len (ps := found) (p := (first, none, some (sortP (req lines off added))))
    show (if first ≤ -(added - n) then _ else _ : List Piece).length ≤ found.length + (r.length + 1) + 1
    split
    · have := goP_len r off (added - n) (1 - (added - n)) (req lines off added) (addP found (first, none, some (sortP (req lines off added))))
      omega
    · have := goP_len r off (added - n) first (req lines off added) found
      omega
  | .left n :: r, off, added, first, lines, found => by
    have := goP_len r off (added + n) first (req lines off (added + n)) found
    show (goP r _ _ _ _ _).length ≤ found.length + (r.length + 1) + 1
    omega
  | .down n :: r, off, added, first, lines, found => by
    have := goP_len r (off - n) added first lines found
    show (goP r _ _ _ _ _).length ≤ found.length + (r.length + 1) + 1
    omega
  | .up n :: r, off, added, first, lines, found => by
    have := goP_len r (off + n) added first lines found
    show (goP r _ _ _ _ _).length ≤ found.length + (r.length + 1) + 1
    omega
theorem form_len (cs : List Cmd) : (formM cs).length ≤ cs.length + 1 := by
  have := goP_len cs.reverse (Gc.last cs) 0 1 [] []
  rw [List.length_reverse] at this
  show (goP _ _ _ _ _ _).length ≤ _
  simpa using this
theorem nodup_le {α : Type} [DecidableEq α] : ∀ {l m : List α}, l.Nodup → (∀ x ∈ l, x ∈ m) → l.length ≤ m.length
  | [], _, _, _ => Nat.zero_le _
  | x :: l, m, h, hm => by
    obtain ⟨h1, h2⟩ := List.nodup_cons.mp h
    have mx := hm x List.mem_cons_self
    have ih := nodup_le (l := l) (m := m.erase x) h2 fun y hy => (List.mem_erase_of_ne (fun z => h1 (by rw [← z]; exact hy))).mpr (hm y (List.mem_cons_of_mem _ hy))
    rw [List.length_erase_of_mem mx] at ih
    have := List.length_pos_of_mem mx
    rw [List.length_cons]
    omega
/-- every key begins a piece -/
theorem Lrn.few {cs : List Cmd} {S last : Int} {Os : List (Option Int)} {Fs : Option Int → List (Int × Int)} (L : Lrn cs S last Os Fs) {ks : List Int} (nd : ks.Nodup) (mem : ∀ f, f ∈ ks ↔ IsKey last Os Fs f) : ks.length ≤ cs.length + 1 := by
  have h : ∀ f ∈ ks, f ∈ (formM cs).map (·.1) := fun f hf => by
    have ik := (mem f).mp hf
    obtain ⟨f1, fl⟩ := L.key_le ik
    have m := (form_rle cs).at f f1 (by
      by_cases e : f = 1
      · exact .inl e
      · exact .inr ((L.key (by omega)).mp ik).2)
    exact List.mem_map.mpr ⟨_, m, rfl⟩
  have q := nodup_le nd h
  rw [List.length_map] at q
  have := form_len cs
  omega
end Gc

/-! the pieces of all places (k18) -/
namespace Gc
open PySem L2
abbrev s_pieces18 : Stmt := top 25
structure TxtPi (mg : Str → Option Value) : Prop where
  list : mg "list" = none
  range : mg "range" = none
  sorted : mg "sorted" = none
theorem pw_at {l : List Int} (h : l.Pairwise (· < ·)) {i j : Nat} {a b : Int} (ha : l[i]? = some a) (hb : l[j]? = some b) (ij : i < j) : a < b := by
  obtain ⟨hi, rfl⟩ := List.getElem?_eq_some_iff.mp ha
  obtain ⟨hj, rfl⟩ := List.getElem?_eq_some_iff.mp hb
  exact List.pairwise_iff_getElem.mp h i j hi hj ij
theorem lookC_mem {o : Option Int} {x : Int} : ∀ {c : List Ent}, (o, x) ∈ c → lookC c o ≠ none
  | q :: c, h => by
    unfold lookC
    rw [List.find?_cons]
    by_cases e : q.1 = o
    · simp [e]
    · rcases List.mem_cons.mp h with z | z
      · exact absurd (by rw [← z]) e
      · simp only [decide_eq_false e]
        exact lookC_mem z
theorem lookC_at {o : Option Int} {x : Int} : ∀ {c : List Ent}, (c.map (·.1)).Nodup → (o, x) ∈ c → lookC c o = some x
  | q :: c, n, h => by
    rw [List.map_cons, List.nodup_cons] at n
    unfold lookC
    rw [List.find?_cons]
    by_cases e : q.1 = o
    · rcases List.mem_cons.mp h with z | z
      · simp [← z]
      · exact absurd (List.mem_map.mpr ⟨_, z, e.symm⟩) n.1
    · rcases List.mem_cons.mp h with z | z
      · exact absurd (by rw [← z]) e
      · simp only [decide_eq_false e]
        exact lookC_at n.2 z
theorem pairs_ts {H : Hp} : ∀ {ys : List V}, (∀ y ∈ ys, ∃ t i j, y = .ref t ∧ H t = some (.tup [.int i, .int j])) → ∃ ts : List Addr, ys = ts.map V.ref ∧ PairsAt H ts (ys.map (pairOf H))
  | [], _ => ⟨[], rfl, .nil⟩
  | y :: ys, h => by
    obtain ⟨t, i, j, rfl, ht⟩ := h y List.mem_cons_self
    obtain ⟨ts, e, p⟩ := pairs_ts (ys := ys) fun z hz => h z (List.mem_cons_of_mem _ hz)
    refine ⟨t :: ts, by rw [e]; rfl, .cons ?_ p⟩
    rw [pairOf_at ht]
    exact ht
def spPieces18 (K : PySem.W.Frag) (CB CP : Addr) : Sp := fun vs H Q _ => ∃ (pb dp x dx l ln sp : Addr) (xs : List V) (es : List Cmd) (n S lo hi la last : Int), vs = [.ref pb, .ref sp, .int S, .int last] ∧ ProbeAt H pb CP dp x ln S lo hi ∧ Hides K CB H x dx l xs es n ∧ Hid es S lo hi ∧ SqT K H sp [.int lo, .int hi, .int la] ∧ S ≤ 10 ^ 6 ∧ hi - lo ≤ 100 ∧ es.length ≤ 60 ∧ Ends es S last ∧
  ∀ (H' : Hp) (p : Addr) (is : List (Addr × Option Addr)) (ps : List Piece) (m : Nat), Keep x x H H' → Hides K CB H' x dx l xs es (n + m) → H p = none → FoundAt H H' p is ps → is.length ≤ 62 → formM es = ps ++ (if last = S + 1 then [] else [(last + 1, (none, none))]) → m ≤ 15000 → Q (.ref p) H'
section
variable {P : Program} {w : World} {K : PySem.W.Frag} {mg : Str → Option Value} {base : Heap} {CB CP : Addr}
theorem sc_learn_pieces : FnScope ["probe", "spanned", "size", "last", "changes", "offset", "first", "constant", "pieces", "constants", "lines", "line"] ["probe", "spanned", "size", "last"] (defScope s_pieces18) := ⟨rfl, rfl, rfl, by decide +kernel, rfl, by decide +kernel, by decide +kernel⟩
theorem ok_pieces18 {f : Addr} {fd : FuncData} (F : Fun K "learn_pieces" "learn_pieces" s_pieces18 f fd) (T : TxtPi mg) (c_learn_constants : Cal P w K mg base 29 "learn_constants" (spConsts K CB CP)) :
    FnOk P w K mg base CX0 30 f fd ["probe", "spanned", "size", "last"] (spPieces18 K CB CP) := by
  refine F.ok sc_learn_pieces (fun vs H Q E h => ?_) (fun cdv A outer s H vs Q E hr h => ?_)
  · obtain ⟨pb, dp, x, dx, l, ln, sp, xs, es, n, S, lo, hi, la, last, rfl, _⟩ := h
    rfl
  · obtain ⟨pb, dp, x, dx, l, ln, sp, xs, es, n, S, lo, hi, la, last, rfl, hP, hh, hd, hsp, S1, l100, e60, en, k⟩ := h
    refine ⟨_, (pss_cons (ps_set (i := 4) sc_learn_pieces.nd rfl (Or.inl rfl) pe_dnewK)
      (C8.pss_cut (ps_if (pt_cmpR op_gt (pv 3) pe_int (nomark _)) (pss_one (ps_dput (hu_of hr) (pv 4) pe_int (pe_lst pa_nil) rfl)) pss_nil)
      (pss_cons (ps_for PassesOwn.never rfl (pi_list (pe_op op_cat (pe_lst (pa_cons pe_non pa_nil)) (pe_listRg rfl (by rfl) T.list (prg_2 (by rfl) T.range (pe_ix ix_tup (pv 1) pe_int (fun _ _ => rfl)) (pe_op op_add (pe_ix ix_tup (pv 1) pe_int (fun _ _ => rfl)) pe_int))))) (pg_name (i := 5) sc_learn_pieces.nd rfl (Or.inl rfl)) (pss_one (ps_for PassesOwn.never rfl (pi_list (pe_cal c_learn_constants hr (by decide) (by rfl) (pa_cons (pv 0) (pa_cons (pv 5) (pa_cons (pv 2) (pa_cons (pv 3) pa_nil)))))) (pg_tup rfl (pgs_cons (pg_name (i := 6) sc_learn_pieces.nd rfl (Or.inl rfl)) (pgs_cons (pg_name (i := 7) sc_learn_pieces.nd rfl (Or.inl rfl)) pgs_nil))) (pss_one (ps_expr (pe_bm PySem.F.plainAttrs_list PySem.F.slot_list_append PySem.F.type_list_append mt_append (pe_dsetd (pv 4) (pv 6) (pe_lst pa_nil) ⟨rfl, rfl, rfl, rfl⟩) (pa_cons (pe_tup (pa_cons (pv 5) (pa_cons (pv 7) pa_nil))) pa_nil)))))))
      (pss_cons (ps_set (i := 8) sc_learn_pieces.nd rfl (Or.inl rfl) (pe_lst pa_nil))
      (pss_cons (ps_set (i := 9) sc_learn_pieces.nd rfl (Or.inr rfl) (show PE _ _ (tNoNew P w) from pe_noNew))
      (pss_cons (ps_for PassesOwn.never rfl (pi_list (pe_callB (call_sortedDI rfl) (by rfl) T.sorted (by decide +kernel) (pa_cons (pv 4) pa_nil))) (pg_name (i := 6) sc_learn_pieces.nd rfl (Or.inl rfl)) (pss_cons (ps_for PassesOwn.never rfl (pi_list (pe_dget (hu_of hr) (pv 4) (pv 6) (fun _ _ => rfl))) (pg_tup rfl (pgs_cons (pg_name (i := 5) sc_learn_pieces.nd rfl (Or.inl rfl)) (pgs_cons (pg_name (i := 7) sc_learn_pieces.nd rfl (Or.inl rfl)) pgs_nil))) (pss_one (show PS _ _ (sNoPut P w (tVar 9) (tVar 5) (tVar 7)) from ps_noPut (pv 9) (pv 5) (pv 7) rfl)))
      (pss_cons (ps_set (i := 10) sc_learn_pieces.nd rfl (Or.inl rfl) (pe_callB cr_sortedPO (by rfl) T.sorted (by decide +kernel) (pa_cons (pe_lock (pe_lc (own := [("line", 11)]) rfl sc_learn_pieces.nd (show PI _ _ _ (iNo P w (tVar 9)) from pi_no (pv 9)) (blkOk_by (N := ["probe", "spanned", "size", "last", "changes", "offset", "first", "constant", "pieces", "constants", "lines", "line"]) (sc := defScope s_pieces18) (by decide +kernel)) (fun _ _ _ _ _ => (pg_name (i := 11) sc_learn_pieces.nd rfl (Or.inl rfl))) (fun _ _ _ _ _ => (pts_one (pt_cmpR op_notN (pv 11) pe_non (nomark _)))) (fun _ _ _ _ _ => (pe_tup (pa_cons (pv 11) (pa_cons (show PE _ _ (tNoGet P w (tVar 9) (tVar 11)) from pe_noGet (pv 9) (pv 11) (fun _ _ => rfl)) pa_nil)))))) pa_nil)))
      (pss_one (ps_expr (pe_bm PySem.F.plainAttrs_list PySem.F.slot_list_append PySem.F.type_list_append mt_append (pv 8) (pa_cons (pe_tup (pa_cons (pv 6) (pa_cons (show PE _ _ (tNoGet1 P w (tVar 9) (tC V.non)) from pe_noGet1 (pv 9) pe_non ⟨rfl, rfl, rfl, rfl⟩) (pa_cons (pv 10) pa_nil)))) pa_nil)))))))
      (pss_one (ps_ret (pv 8))))))))), ?_⟩
    have s0 := hd.s0
    have z0 := hd.w.zero
    have hx0 : ∃ o, H x = some o := ⟨_, hh.bx⟩
    have hl0 : ∃ o, H l = some o := ⟨_, hh.hl⟩
    refine fun d nd => ?_
    have e1 := new_same (o := HO.dK []) nd
    have hd1 : (upd H d (.dK [])) d = some (.dK []) := upd_same
    have c1 : ChgAt H (upd H d (.dK [])) d [] [] [] (fun _ => 0) := ⟨hd1, nd, rfl, .nil, fun f => rfl, fun f hf => nomatch hf⟩
    have hh1 := hh.same e1
    generalize upd H d (.dK []) = H1 at e1 hd1 c1 hh1 ⊢
    refine ⟨fun σ H' => ∃ (ks : List Int) (kvs : List (L2.Key × V)) (ad : Int → Addr), σ = [some (.ref pb), some (.ref sp), some (.int S), some (.int last), some (.ref d), none, none, none, none, none, none, none] ∧ Same H H' ∧ PcA K CB H H' x dx l xs es n last d [] [] ks kvs ad 0, ?_, ?_⟩
    · have n0 : n + ((0 : Nat) : Int) = n := by omega
      refine ⟨_, rfl, _, _, rfl, rfl, _, rfl, ite2 (fun c => ?_) (fun c => ?_)⟩
      · have l0 : 0 < last := of_decide_eq_true c
        refine ⟨(by show 0 ≤ sizeLine; decide), fun q nq => ?_⟩
        have qd : q ≠ d := (ne_of_none hd1 nq).symm
        have e2 := new_same (o := HO.lst []) nq
        have c2 := c1.same e2
        have hq2 : (upd H1 q (.lst [])) q = some (.lst []) := upd_same
        have hh2 := hh1.same e2
        have q0 : H q = none := by
          cases z : H q with
          | none => rfl
          | some o =>
            rw [e1 _ _ z] at nq
            cases nq
        generalize hg : upd H1 q (.lst []) = H2 at e2 c2 hq2 hh2 ⊢
        refine ⟨_, rfl, d, _, rfl, DPut.k (k := .inl 1) c2.at_ (by decide), ?_⟩
        have c3 := c2.fresh (f := 1) (fun z => nomatch z) (fun e z => nomatch z) hq2 q0 qd (fun f' z => nomatch z)
        refine ⟨_, _, _, rfl, same_freeU (e1.trans e2) nd, Keep.of (same_freeU (e1.trans e2) nd), ?_, c3, fun f => ?_, Nat.le_refl _, fun f ws hf hw => ?_, fun a ha => nomatch ha⟩
        · rw [n0]
          exact hh.same (same_freeU (e1.trans e2) nd)
        · show f ∈ [1] ↔ _
          rw [List.mem_singleton]
          exact ⟨fun z => .inl ⟨z, l0⟩, fun z => by
            rcases z with z | ⟨e, z⟩
            · exact z.1
            · cases z⟩
        · have ef : f = 1 := List.mem_singleton.mp hf
          rw [if_pos ef, upd_ne qd, hq2] at hw
          cases hw
          exact Nat.le_refl 0
      · have l0 : ¬ 0 < last := fun z => c (decide_eq_true z)
        refine ⟨[], [], _, rfl, e1, Keep.of e1, by rw [n0]; exact hh1, c1, fun f => ⟨(fun z => nomatch z), fun z => ?_⟩, Nat.zero_le _, (fun f ws hf => nomatch hf), fun a ha => nomatch ha⟩
        rcases z with z | ⟨e, z⟩
        · exact absurd z.2 l0
        · cases z
    rintro σ H2 ⟨ks0, kvs0, ad0, rfl, e2, p2⟩
    refine ⟨(by show 1 ≤ sizeLine; decide), fun q1 n1 => ?_⟩
    have f1 := new_same (o := HO.lst [V.non]) n1
    have hq1 : (upd H2 q1 (.lst [V.non])) q1 = some (.lst [V.non]) := upd_same
    have p3 := p2.same f1
    generalize upd H2 q1 (.lst [V.non]) = H3 at f1 hq1 p3 ⊢
    have e3 := e2.trans f1
    refine ⟨_, rfl, sp, _, 0, _, rfl, rfl, seq_t e3 hsp, rfl, _, rfl, sp, _, 1, _, rfl, rfl, seq_t e3 hsp, rfl, _, _, rfl, rfl, _, _, rfl, rfl, ⟨by omega, by omega, by omega, by omega, by omega⟩, fun q2 n2 => ?_⟩
    have f2 := new_same (o := HO.lst (rgV lo (hi + 1))) n2
    have hq2 : (upd H3 q2 (.lst (rgV lo (hi + 1)))) q2 = some (.lst (rgV lo (hi + 1))) := upd_same
    have p4 := p3.same f2
    replace hq1 := f2 _ _ hq1
    generalize upd H3 q2 (.lst (rgV lo (hi + 1))) = H4 at f2 hq2 hq1 p4 ⊢
    refine ⟨q1, q2, _, _, rfl, rfl, hq1, hq2, Nat.le_of_lt (lt_line (by rw [rgV_length]; show 1 + _ ≤ 100000; omega)), fun ol nol => ?_⟩
    have p5 := (p4.avoid nol).same (new_same (o := HO.lst ([V.non] ++ rgV lo (hi + 1))) nol)
    have hol : (upd H4 ol (.lst ([V.non] ++ rgV lo (hi + 1)))) ol = some (.lst ((placesO lo hi).map optV)) := by
      rw [upd_same, placesO_v]
      rfl
    generalize upd H4 ol (.lst ([V.non] ++ rgV lo (hi + 1))) = H5 at p5 hol ⊢
    have ndo := nodup_placesO lo hi
    refine ⟨ol, rfl, ⟨_, SqL.of hol⟩, for_list (K := K) (a := ol) (xs := (placesO lo hi).map optV) (fun i σ H' => ∃ (tr : List Tri) (ks : List Int) (kvs : List (L2.Key × V)) (ad : Int → Addr) (Fs : Option Int → List (Int × Int)) (m : Nat) (v5 v6 v7 : Option V), σ = [some (.ref pb), some (.ref sp), some (.int S), some (.int last), some (.ref d), v5, v6, v7, none, none, none, none] ∧
      PcA K CB H H' x dx l xs es n last d [ol] tr ks kvs ad m ∧ (∀ f o c, (f, (o, c)) ∈ tr ↔ o ∈ (placesO lo hi).take i ∧ (f, c) ∈ Fs o) ∧ (∀ o ∈ (placesO lo hi).take i, FoundM es o last (Fs o)) ∧ m ≤ (((placesO lo hi).take i).map fun o => 2 + 126 * most es o).sum ∧ tr.length ≤ (((placesO lo hi).take i).map fun o => 1 + 126 * most es o).sum ∧ H' ol = some (.lst ((placesO lo hi).map optV)))
      ⟨[], ks0, kvs0, ad0, fun _ => [], 0, none, none, none, rfl, p5, (fun f o c => ⟨(fun z => nomatch z), fun z => nomatch z.1⟩), (fun o z => nomatch z), Nat.zero_le _, Nat.zero_le _, hol⟩ (fun i σ H' _ h => ?_) (fun i v σ H' hv h => ?_) (fun σ H' h => ?_)⟩
    · obtain ⟨_, _, _, _, _, _, _, _, _, _, _, _, _, _, _, z⟩ := h
      exact SqL.of z
    · obtain ⟨tr, ks, kvs, ad, Fs, m, v5, v6, v7, rfl, pa, mem, fnd, mb, tl, hol⟩ := h
      rw [List.getElem?_map] at hv
      cases hoi : (placesO lo hi)[i]? with
      | none =>
        rw [hoi] at hv
        cases hv
      | some o =>
      rw [hoi] at hv
      obtain rfl : optV o = v := Option.some.inj hv
      have tk := takeS hoi
      have no : o ∉ (placesO lo hi).take i := fun z => by
        have q := ndo.sublist (List.take_sublist (i + 1) (placesO lo hi))
        rw [tk, List.nodup_append] at q
        exact q.2.2 o z o List.mem_cons_self rfl
      have mo := List.mem_of_getElem? hoi
      refine ⟨_, rfl, _, rfl, _, rfl, _, rfl, pb, dp, x, dx, l, ln, xs, es, _, S, lo, hi, last, o, rfl, hP.keep hh pa.kx, pa.hh, hd, mem_placesO.mp mo, S1, l100, by omega, en, fun H6 pf Fo m1 kp hh6 npf hF fm mb1 fl => ?_⟩
      obtain ⟨wf, hwf, pwf⟩ := hF
      have ox : ol ≠ x := ne_of hol pa.hh.bx fun z => nomatch z
      have p6 := (pa.avoid npf).keep (j := m + m1) hx0 kp (by rw [show n + ((m + m1 : Nat) : Int) = n + m + m1 by omega]; exact hh6)
      have hol6 := kp _ _ ox ox hol
      have lwf : wf.length = Fo.length := Paired.length pwf
      have most1 : ∀ o ∈ placesO lo hi, most es o ≤ 61 := fun o _ => by
        have := most_le es o
        omega
      have tlb : tr.length ≤ 20000 := by
        have a1 := sum_lin (most es) 1 126 ((placesO lo hi).take i)
        have a2 := sum_take (h := most es) (placesO lo hi) i
        have a3 := most_sum es lo hi
        have a4 : ((placesO lo hi).take i).length ≤ (hi + 1 - lo).toNat + 1 := by
          rw [← len_placesO, List.length_take]
          omega
        rw [a1] at tl
        omega
      have Fb : Fo.length ≤ 20000 := by
        have := most1 o mo
        omega
      refine ⟨pf, rfl, ⟨_, SqL.of hwf⟩, for_list (K := K) (a := pf) (xs := wf) (fun j σ H' => ∃ (tr' : List Tri) (ks : List Int) (kvs : List (L2.Key × V)) (ad : Int → Addr) (v6 v7 : Option V), σ = [some (.ref pb), some (.ref sp), some (.int S), some (.int last), some (.ref d), some (optV o), v6, v7, none, none, none, none] ∧
        PcA K CB H H' x dx l xs es n last d [pf, ol] tr' ks kvs ad (m + m1) ∧ tr' = tr ++ (Fo.take j).map (fun q => (q.1, (o, q.2))) ∧ H' pf = some (.lst wf) ∧ Paired (fun v (q : Int × Int) => ∃ a, v = .ref a ∧ H' a = some (.tup [.int q.1, .int q.2])) wf Fo ∧ H' ol = some (.lst ((placesO lo hi).map optV)))
        ⟨tr, ks, kvs, ad, v6, v7, rfl, p6, by rw [List.take_zero, List.map_nil, List.append_nil], hwf, pwf, hol6⟩ (fun j σ H' _ h => ?_) (fun j v σ H' hv h => ?_) (fun σ H' h => ?_)⟩
      · obtain ⟨_, _, _, _, _, _, _, _, _, z, _⟩ := h
        exact SqL.of z
      · obtain ⟨tr', ks, kvs, ad, v6, v7, rfl, pj, etr, hwf, pwf, hol⟩ := h
        obtain ⟨q, hq, a, rfl, ha⟩ := paired_at pwf hv
        have tkj := takeS hq
        have ljt : tr'.length ≤ 40000 := by
          rw [etr, List.length_append, List.length_map, List.length_take]
          omega
        refine ⟨a, _, rfl, SqT.of ha, rfl, _, _, rfl, _, _, rfl, rfl, ?_⟩
        have kl := pj.kl
        have kvl := pj.ch.len
        have enew : tr' ++ [(q.1, (o, q.2))] = tr ++ (Fo.take (j + 1)).map (fun q => (q.1, (o, q.2))) := by
          rw [etr, tkj, List.map_append, List.append_assoc]
          rfl
        refine ⟨_, rfl, d, rfl, .inl ⟨_, .inl pj.ch.at_⟩, _, rfl, (by show 0 ≤ sizeLine; decide), fun qn nqn => ⟨_, .inl q.1, new_same nqn _ _ pj.ch.at_, rfl, lt_line (by omega), fun v hv => ?_, fun hn => ?_⟩⟩
        · rw [pj.ch.val] at hv
          by_cases mf : q.1 ∈ ks
          · rw [if_pos mf] at hv
            obtain rfl : V.ref (ad q.1) = v := Option.some.inj hv
            obtain ⟨ws, hw, wlen, more⟩ := (pj.same (new_same (o := HO.lst []) nqn)).more hx0 hl0 mf
            refine ⟨.inl ⟨rfl, _, SqL.of hw⟩, _, rfl, _, rfl, (by show 2 ≤ sizeLine; decide), fun t nt => ⟨ad q.1, ws, _, rfl, rfl, new_same nt _ _ hw, lt_line (by omega), ?_⟩⟩
            obtain ⟨pn, fr⟩ := more (o, q.2) t nt
            exact ⟨_, _, _, _, _, _, rfl, pn, enew, fr pf _ (.inr List.mem_cons_self) (new_same nqn _ _ hwf), Paired.mapP pwf fun _ _ z => ⟨z.choose, z.choose_spec.1, fr _ _ (.inl fun _ w => nomatch w) (new_same nqn _ _ z.choose_spec.2)⟩, fr ol _ (.inr (List.mem_cons_of_mem _ List.mem_cons_self)) (new_same nqn _ _ hol)⟩
          · rw [if_neg mf] at hv
            cases hv
        · have mf : q.1 ∉ ks := fun z => by
            rw [pj.ch.val, if_pos z] at hn
            cases hn
          obtain ⟨ad2, ea, hq2, np, more⟩ := pj.fresh hx0 hl0 mf nqn
          refine ⟨.inl ⟨rfl, _, SqL.of hq2⟩, _, rfl, _, rfl, (by show 2 ≤ sizeLine; decide), fun t nt => ⟨qn, [], _, rfl, rfl, new_same nt _ _ hq2, lt_line (by decide), ?_⟩⟩
          obtain ⟨pn, fr⟩ := more (o, q.2) t nt fun z => by
            rcases List.mem_cons.mp z with w | w
            · exact ne_of_none hwf nqn w.symm
            · exact ne_of_none hol nqn (List.mem_singleton.mp w).symm
          have pfd : pf ≠ d := (pj.av pf List.mem_cons_self).1
          have old : ol ≠ d := (pj.av ol (List.mem_cons_of_mem _ List.mem_cons_self)).1
          exact ⟨_, _, _, _, _, _, rfl, pn, enew, fr pf _ pfd hwf, Paired.mapP pwf fun _ _ z => ⟨z.choose, z.choose_spec.1, fr _ _ (ne_of z.choose_spec.2 pj.ch.at_ fun w => nomatch w) z.choose_spec.2⟩, fr ol _ old hol⟩
      · obtain ⟨tr', ks, kvs, ad, v6, v7, rfl, pj, etr, hwf, pwf, hol⟩ := h
        rw [lwf, List.take_length] at etr
        refine ⟨tr', ks, kvs, ad, fun o' => if o' = o then Fo else Fs o', m + m1, _, v6, v7, rfl, pj.less (fun a ha => List.mem_cons_of_mem _ ha), fun f o' c => ?_, fun o' ho' => ?_, ?_, ?_, hol⟩
        · rw [tk, etr, List.mem_append, List.mem_append, mem f o' c, List.mem_singleton]
          constructor
          · rintro (⟨z1, z2⟩ | z)
            · refine ⟨.inl z1, ?_⟩
              show (f, c) ∈ if o' = o then Fo else Fs o'
              rw [if_neg fun w => no (by rw [← w]; exact z1)]
              exact z2
            · obtain ⟨q, hq, e⟩ := List.mem_map.mp z
              cases e
              refine ⟨.inr rfl, ?_⟩
              show (q.1, q.2) ∈ if o = o then Fo else Fs o
              rw [if_pos rfl]
              exact hq
          · rintro ⟨z1, z2⟩
            replace z2 : (f, c) ∈ if o' = o then Fo else Fs o' := z2
            by_cases w : o' = o
            · rw [if_pos w] at z2
              exact .inr (List.mem_map.mpr ⟨_, z2, by rw [w]⟩)
            · rw [if_neg w] at z2
              rcases z1 with z1 | z1
              · exact .inl ⟨z1, z2⟩
              · exact absurd z1 w
        · by_cases w : o' = o
          · show FoundM es o' last (if o' = o then Fo else Fs o')
            rw [if_pos w, w]
            exact fm
          · show FoundM es o' last (if o' = o then Fo else Fs o')
            rw [if_neg w]
            rw [tk] at ho'
            rcases List.mem_append.mp ho' with z | z
            · exact fnd o' z
            · exact absurd (List.mem_singleton.mp z) w
        · rw [tk, List.map_append, List.sum_append]
          show m + m1 ≤ _ + (2 + 126 * most es o + 0)
          omega
        · rw [tk, List.map_append, List.sum_append, etr, List.length_append, List.length_map]
          show tr.length + Fo.length ≤ _ + (1 + 126 * most es o + 0)
          omega
    · obtain ⟨tr, ks, kvs, ad, Fs, m, v5, v6, v7, rfl, pa, mem, fnd, mb, tl, hol⟩ := h
      rw [List.length_map, List.take_length] at mem fnd mb tl
      have L : Lrn es S last (placesO lo hi) Fs := ⟨hd.ok, hd.ht, en, fnd, fun o ho v hv => by
        cases o with
        | none => exact absurd ((mem_placesO (o := none)).mpr fun k z => by cases z) ho
        | some k => exact out_of hd (fun z => ho (mem_placesO.mpr fun j e => by cases e; exact z)) hv⟩
      have ik : ∀ f, f ∈ ks ↔ IsKey last (placesO lo hi) Fs f := fun f => by
        rw [pa.km f]
        constructor
        · rintro (z | ⟨⟨o, c⟩, z⟩)
          · exact .inl z
          · obtain ⟨z1, z2⟩ := (mem f o c).mp z
            exact .inr ⟨o, z1, c, z2⟩
        · rintro (z | ⟨o, z1, c, z2⟩)
          · exact .inl z
          · exact .inr ⟨(o, c), (mem f o c).mpr ⟨z1, z2⟩⟩
      have few := L.few pa.ch.nd ik
      have pll := len_placesO lo hi
      have mb2 : m ≤ 15000 := by
        have a1 := sum_lin (most es) 2 126 (placesO lo hi)
        have a3 := most_sum es lo hi
        rw [a1] at mb
        omega
      have tlb : tr.length ≤ 20000 := by
        have a1 := sum_lin (most es) 1 126 (placesO lo hi)
        have a3 := most_sum es lo hi
        rw [a1] at tl
        omega
      -- what is new now was new at first
      have fr0 : ∀ {Hz : Hp} {a : Addr}, Same H' Hz → Hz a = none → H a = none := fun e na => by
        have q := e _ _ pa.hh.bx
        exact kk0 hh.bx q na fun b o h1 h2 hb => e _ _ (pa.kx b o h1 h2 hb)
      refine ⟨(by show 0 ≤ sizeLine; decide), fun r nr => ?_⟩
      have g1 := new_same (o := HO.lst []) nr
      have hr1 : (upd H' r (.lst [])) r = some (.lst []) := upd_same
      generalize upd H' r (.lst []) = G1 at g1 hr1 ⊢
      refine fun c nc => ?_
      have cr : c ≠ r := (ne_of_none hr1 nc).symm
      have g2 := g1.trans (new_same (o := NoD P w c []) nc)
      have hc2 : (upd G1 c (NoD P w c [])) c = some (NoD P w c []) := upd_same
      have hr2 := new_same (o := NoD P w c []) nc _ _ hr1
      have nc0 : H' c = none := by
        cases z : H' c with
        | none => rfl
        | some o =>
          rw [g1 _ _ z] at nc
          cases nc
      generalize upd G1 c (NoD P w c []) = G2 at g2 hc2 hr2 ⊢
      refine ⟨_, rfl, d, kvs, ks, rfl, .inl (g2 _ _ pa.ch.at_), pa.ch.keys, by omega, fun ys sl pm srt nsl => ?_⟩
      have slc : sl ≠ c := (ne_of_none hc2 nsl).symm
      have slr : sl ≠ r := (ne_of_none hr2 nsl).symm
      have g3 := g2.trans (new_same (o := HO.lst (ys.map V.int)) nsl)
      have hs3 : (upd G2 sl (.lst (ys.map V.int))) sl = some (.lst (ys.map V.int)) := upd_same
      have hc3 := new_same (o := HO.lst (ys.map V.int)) nsl _ _ hc2
      have hr3 := new_same (o := HO.lst (ys.map V.int)) nsl _ _ hr2
      generalize upd G2 sl (.lst (ys.map V.int)) = G3 at g3 hs3 hc3 hr3 ⊢
      have ndy : ys.Nodup := pm.nodup_iff.mpr pa.ch.nd
      have asc : ys.Pairwise (· < ·) := by
        rw [List.nodup_iff_pairwise_ne] at ndy
        exact (srt.and ndy).imp fun {a b} h => by
          have h1 := h.1
          have h2 := h.2
          omega
      have my : ∀ f, f ∈ ys ↔ IsKey last (placesO lo hi) Fs f := fun f => pm.mem_iff.trans (ik f)
      have yl : ys.length ≤ 61 := by
        rw [pm.length_eq]
        omega
      have F0 : FoundAt H G3 r [] [] := ⟨hr3, .nil, .nil, (fun a ha => absurd ha (by simp)), fr0 (Same.refl _) nr⟩
      refine ⟨sl, rfl, ⟨_, SqL.of hs3⟩, for_list (K := K) (a := sl) (xs := ys.map V.int) (fun i σ H'' => ∃ (is : List (Addr × Option Addr)) (cst : List Ent) (v5 v6 v7 v10 v11 : Option V), σ = [some (.ref pb), some (.ref sp), some (.int S), some (.int last), some (.ref d), v5, v6, v7, some (.ref r), some (.ref c), v10, v11] ∧
        Same H' H'' ∧ FoundAt H H'' r is ((ys.take i).map fun f => (f, dat es f)) ∧ is.length ≤ i ∧ H'' c = some (NoD P w c (encC18 cst)) ∧ (cst.map (·.1)).Nodup ∧ ((i = 0 ∧ ∀ o, lookC cst o = none) ∨ ∃ f, 0 < i ∧ ys[i - 1]? = some f ∧ ∀ o, lookC cst o = cAt (dat es f) o) ∧ H'' sl = some (.lst (ys.map V.int)))
        ⟨[], [], v5, v6, v7, none, none, rfl, g3, F0, Nat.zero_le _, hc3, .nil, .inl ⟨rfl, fun o => rfl⟩, hs3⟩ (fun i σ H'' _ h => ?_) (fun i v σ H'' hv h => ?_) (fun σ H'' h => ?_)⟩
      · obtain ⟨_, _, _, _, _, _, _, _, _, _, _, _, _, _, z⟩ := h
        exact SqL.of z
      · obtain ⟨is, cst, v5, v6, v7, v10, v11, rfl, e, Fd, il, hc, ndc, look, hsl⟩ := h
        rw [List.getElem?_map] at hv
        cases hfi : ys[i]? with
        | none =>
          rw [hfi] at hv
          cases hv
        | some f =>
        rw [hfi] at hv
        obtain rfl : V.int f = v := Option.some.inj hv
        have tk := takeS hfi
        have isk := (my f).mp (List.mem_of_getElem? hfi)
        have fks := (ik f).mpr isk
        obtain ⟨f1, fl⟩ := L.key_le isk
        have hb := en.box f f1 fl
        have li : i < ys.length := (List.getElem?_eq_some_iff.mp hfi).1
        -- what stands ahead of this goal
        have hm : (f = 1 ∧ ∀ o, lookC cst o = none) ∨ (2 ≤ f ∧ ∀ o, lookC cst o = cAt (dat es (f - 1)) o) := by
          rcases look with ⟨i0, lk⟩ | ⟨f', i0, hf', lk⟩
          · refine .inl ⟨?_, lk⟩
            have m1 : 1 ∈ ys := (my 1).mpr (.inl ⟨rfl, by omega⟩)
            obtain ⟨t1, ht1⟩ := List.getElem?_of_mem m1
            subst i0
            by_cases z : t1 = 0
            · rw [z, hfi] at ht1
              exact Option.some.inj ht1
            · have := pw_at asc hfi ht1 (by omega)
              omega
          · have lt := pw_at asc hf' hfi (by omega)
            have f'1 := (L.key_le ((my f').mp (List.mem_of_getElem? hf'))).1
            refine .inr ⟨by omega, fun o => ?_⟩
            obtain ⟨j, hj⟩ : ∃ j : Nat, f - 1 = f' + j := ⟨(f - 1 - f').toNat, by omega⟩
            rw [lk o, hj, L.calm f'1 j (by omega) fun v v0 v1 hk => ?_]
            obtain ⟨t1, ht1⟩ := List.getElem?_of_mem ((my v).mpr hk)
            by_cases z : t1 < i
            · by_cases z2 : t1 = i - 1
              · rw [z2, hf'] at ht1
                have := Option.some.inj ht1
                omega
              · have := pw_at asc ht1 hf' (by omega)
                omega
            · by_cases z2 : t1 = i
              · rw [z2, hfi] at ht1
                have := Option.some.inj ht1
                omega
              · have := pw_at asc hfi ht1 (by omega)
                omega
        have cl : cst.length ≤ 103 := by
          have q := nodup_le (m := placesO lo hi) ndc fun o ho => by
            obtain ⟨q, hq, eq⟩ := List.mem_map.mp ho
            refine Classical.byContradiction fun no => lookC_mem (o := o) (x := q.2) (c := cst) (by rw [← eq]; exact hq) ?_
            rcases hm with ⟨_, lk⟩ | ⟨f2, lk⟩
            · exact lk o
            · rw [lk o]
              exact L.out o no (f - 1) (by omega)
          rw [List.length_map] at q
          omega
        have vf := pa.ch.val f
        rw [if_pos fks] at vf
        obtain ⟨a0, _, _, ws, hws, pws⟩ := pa.ch.ls f fks
        have lws : ws.length = (cont tr f).length := Paired.length pws
        have lct : (cont tr f).length ≤ tr.length := List.length_filterMap_le _ _
        refine ⟨_, rfl, _, rfl, d, .ref (ad f), rfl, (by rw [← vf]; exact DGet.k (k := .inl f) (e _ _ pa.ch.at_)), ad f, rfl, ⟨_, SqL.of (e _ _ hws)⟩, for_list (K := K) (a := ad f) (xs := ws) (fun j σ H2 => ∃ (v5 v7 : Option V), σ = [some (.ref pb), some (.ref sp), some (.int S), some (.int last), some (.ref d), v5, some (.int f), v7, some (.ref r), some (.ref c), v10, v11] ∧
          Same H' H2 ∧ FoundAt H H2 r is ((ys.take i).map fun f => (f, dat es f)) ∧ H2 c = some (NoD P w c (encC18 (putAll cst ((cont tr f).take j)))) ∧ H2 sl = some (.lst (ys.map V.int)))
          ⟨v5, v7, rfl, e, Fd, hc, hsl⟩ (fun j σ H2 _ h => ?_) (fun j v σ H2 hv h => ?_) (fun σ H2 h => ?_)⟩
        · obtain ⟨_, _, _, z, _⟩ := h
          exact SqL.of (z _ _ hws)
        · obtain ⟨v5, v7, rfl, e2, F2, hc2, hs2⟩ := h
          obtain ⟨ent, hen, t, rfl, ht⟩ := paired_at pws hv
          have tkj := takeS hen
          have jl := (List.getElem?_eq_some_iff.mp hen).1
          refine ⟨t, _, rfl, SqT.of (e2 _ _ ht), rfl, _, _, rfl, _, _, rfl, rfl, ?_⟩
          refine ⟨_, rfl, _, rfl, _, rfl, c, _, ent.1, rfl, hc2, (nk_opt ent.1).symm, lt_line ?_, ?_⟩
          · have q1 : (encC18 (putAll cst ((cont tr f).take j))).length = (putAll cst ((cont tr f).take j)).length := List.length_map _
            have q2 := len_putAll ((cont tr f).take j) cst
            rw [List.length_take] at q2
            omega
          · refine ⟨_, _, rfl, same_freeU e2 nc0, found_upd F2 hc2 (fun _ z => by unfold NoD at z; cases z) (fun _ z => by unfold NoD at z; cases z), ?_, by rw [upd_ne slc]; exact hs2⟩
            rw [upd_same, enc_put, tkj, putAll_snoc]
        · obtain ⟨v5, v7, rfl, e2, F2, hc2, hs2⟩ := h
          rw [lws, List.take_length] at hc2
          have ent1 : ∀ en ∈ cont tr f, cAt (dat es f) en.1 = some en.2 := fun en hen => by
            obtain ⟨z1, z2⟩ := (mem f en.1 en.2).mp (mem_cont.mp hen)
            exact (((fnd en.1 z1).2 f en.2).mp z2).2.2.1
          have uniq : ∀ o en, en ∈ cont tr f → en.1 = o → ∀ en', en' ∈ cont tr f → en'.1 = o → en'.2 = en.2 := fun o a ha ea b hb eb => by
            have q1 := ent1 a ha
            have q2 := ent1 b hb
            rw [ea] at q1
            rw [eb, q1] at q2
            exact (Option.some.inj q2).symm
          have lk := L.step isk (m := lookC cst) hm (m' := lookC (putAll cst (cont tr f))) (fun o ho c hc => (look_putAll o _ cst (uniq o)).1 c (mem_cont.mpr ((mem f o c).mpr ⟨ho, hc⟩))) fun o ho => (look_putAll o _ cst (uniq o)).2 fun x hx => by
            obtain ⟨z1, z2⟩ := (mem f o x).mp (mem_cont.mp hx)
            rcases ho with ho | ho
            · exact ho z1
            · exact ho x z2
          have ndk := keys_putAll (cont tr f) cst ndc
          have lcs : (putAll cst (cont tr f)).length ≤ 20200 := by
            have := len_putAll (cont tr f) cst
            omega
          generalize putAll cst (cont tr f) = cs2 at hc2 lk ndk lcs ⊢
          -- the lines, the dict locked
          refine ⟨c, _, hc2, (by unfold NoD; trivial), fun od => ?_⟩
          have hcL : (upd H2 c (.frz od (NoD P w c (encC18 cs2)))) c = some (.frz od (NoD P w c (encC18 cs2))) := upd_same
          have kL : Keep c c H2 (upd H2 c (.frz od (NoD P w c (encC18 cs2)))) := (Keep.refl H2).upd1
          generalize hHL : upd H2 c (.frz od (NoD P w c (encC18 cs2))) = HL at hcL kL ⊢
          refine ⟨_, rfl, c, od, _, rfl, hcL, fun D nD => ?_⟩
          have eD := new_same (o := HO.lst []) nD
          have Dc : D ≠ c := (ne_of_none hcL nD).symm
          refine lc_no (P := P) (w := w) (fun i H3 => ∃ wsD : List V, H3 c = some (.frz od (NoD P w c (encC18 cs2))) ∧ H3 D = some (.lst wsD) ∧ Keep D D HL H3 ∧ wsD.length ≤ i ∧ Paired (fun v (q : Int × Int) => ∃ t, v = .ref t ∧ H3 t = some (.tup [.int q.1, .int q.2])) wsD (prs (cs2.take i)))
            ⟨[], eD _ _ hcL, upd_same, Keep.of eD, Nat.le_refl _, .nil⟩ (fun i H3 h => ?_) (fun i kk vv H3 hk h => ?_) (fun H3 h => ?_)
          · obtain ⟨_, z, _⟩ := h
            exact z
          · obtain ⟨wsD, hc3, hD3, kD, lD, pD⟩ := h
            have hk2 : (encC18 cs2)[i]? = some (kk, vv) := hk
            unfold encC18 at hk2
            rw [List.getElem?_map] at hk2
            cases hci : cs2[i]? with
            | none =>
              rw [hci] at hk2
              cases hk2
            | some en3 =>
            rw [hci] at hk2
            have ek : (en3.1, V.int en3.2) = (kk, vv) := Option.some.inj hk2
            cases ek
            have tki := takeS hci
            have pr1 : prs (cs2.take (i + 1)) = prs (cs2.take i) ++ prs [en3] := by
              rw [tki]
              exact List.filterMap_append
            have cil := (List.getElem?_eq_some_iff.mp hci).1
            refine ⟨rfl, ?_⟩
            refine ⟨_, rfl, rfl, _, rfl, ?_⟩
            obtain ⟨eo, ex⟩ := en3
            cases eo with
            | none =>
              refine iteF ?_
              refine ⟨wsD, hc3, hD3, kD, by omega, ?_⟩
              rw [pr1]
              show Paired _ wsD (prs (cs2.take i) ++ [])
              rw [List.append_nil]
              exact pD
            | some kn =>
              refine iteT ?_
              have vl : valV (encC18 cs2) (some kn) = some (.int ex) := by
                rw [enc_look, lookC_at ndk (List.mem_of_getElem? hci)]
                rfl
              refine ⟨_, rfl, _, rfl, _, rfl, c, _, some kn, _, rfl, .inr ⟨od, hc3⟩, rfl, vl, (by show 2 ≤ sizeLine; decide), fun t nt => ?_⟩
              have e4 := new_same (o := HO.tup [V.int kn, .int ex]) nt
              have ht : (upd H3 t (.tup [V.int kn, .int ex])) t = some (.tup [V.int kn, .int ex]) := upd_same
              refine ⟨wsD, e4 _ _ hD3, lt_line (by omega), wsD ++ [.ref t], ?_⟩
              have hD4 := e4 _ _ hD3
              have tp : ∀ u zs, H3 u = some (.tup zs) → (upd (upd H3 t (.tup [V.int kn, .int ex])) D (.lst (wsD ++ [.ref t]))) u = some (.tup zs) := fun u zs z => by
                rw [upd_ne (ne_of (e4 _ _ z) hD4 fun y => nomatch y)]
                exact e4 _ _ z
              refine ⟨by rw [upd_ne Dc.symm]; exact e4 _ _ hc3, upd_same, (kD.trans (Keep.of e4)).upd1, by rw [List.length_append]; show wsD.length + 1 ≤ i + 1; omega, ?_⟩
              rw [pr1]
              refine paired_app (Paired.mapP pD fun _ _ z => ⟨z.choose, z.choose_spec.1, tp _ _ z.choose_spec.2⟩) (.cons ⟨t, rfl, ?_⟩ .nil)
              rw [upd_ne (ne_of ht hD4 fun y => nomatch y)]
              exact ht
          · obtain ⟨wsD, hc3, hD3, kD, lD, pD⟩ := h
            refine ⟨hc3, ?_⟩
            have eU : Same H2 (upd H3 c (NoD P w c (encC18 cs2))) := fun a o ha => by
              by_cases ac : a = c
              · rw [ac, hc2] at ha
                cases ha
                rw [ac]
                exact upd_same
              · rw [upd_ne ac]
                have q := kL a o ac ac ha
                have aD := ne_of_none q nD
                exact kD a o aD aD q
            have hDU : (upd H3 c (NoD P w c (encC18 cs2))) D = some (.lst wsD) := by
              rw [upd_ne Dc]
              exact hD3
            have pU : Paired (fun v (q : Int × Int) => ∃ t, v = .ref t ∧ (upd H3 c (NoD P w c (encC18 cs2))) t = some (.tup [.int q.1, .int q.2])) wsD (prs cs2) := by
              have ll : (encC18 cs2).length = cs2.length := List.length_map _
              rw [ll, List.take_length] at pD
              exact Paired.mapP pD fun _ _ z => ⟨z.choose, z.choose_spec.1, by rw [upd_ne (ne_of z.choose_spec.2 hc3 fun y => nomatch y)]; exact z.choose_spec.2⟩
            generalize upd H3 c (NoD P w c (encC18 cs2)) = HU at eU hDU pU ⊢
            have itm : ∀ y ∈ wsD, ∃ t i j, y = .ref t ∧ HU t = some (.tup [.int i, .int j]) := fun y hy => by
              obtain ⟨n1, hn1⟩ := List.getElem?_of_mem hy
              obtain ⟨q, _, t, et, ht⟩ := paired_at pU hn1
              exact ⟨t, q.1, q.2, et, ht⟩
            have hm2 : wsD.map (pairOf HU) = prs cs2 := by
              have q : ∀ {ws : List V} {b : Ps}, Paired (fun v (q : Int × Int) => ∃ t, v = .ref t ∧ HU t = some (.tup [.int q.1, .int q.2])) ws b → ws.map (pairOf HU) = b := fun {ws} {b} h => by
                induction h with
                | nil => rfl
                | @cons v p ws b z _ ih =>
                  obtain ⟨t, rfl, ht⟩ := z
                  rw [List.map_cons, ih, pairOf_at ht]
              exact q pU
            refine ⟨D, wsD, pairOf HU, rfl, SqL.of hDU, fun y hy => ?_, fun yl2 lp srt2 stb2 nlp => ?_⟩
            · obtain ⟨t, i1, j1, rfl, ht⟩ := itm y hy
              refine ⟨t, rfl, ?_⟩
              rw [pairOf_at ht]
              exact ht
            obtain ⟨ascL, pmL⟩ := sorted_asc hm2 (keys_prs cs2 ndk) srt2 stb2
            have dl := lines_eq hd.ok f1 hb ndk lk ascL pmL
            obtain ⟨ts, ets, pts⟩ := pairs_ts (H := HU) (ys := yl2) fun y hy => itm y (stb2.perm.mem_iff.mp hy)
            have FU := F2.same eU
            have lpr : lp ≠ r := (ne_of_none FU.lst nlp).symm
            have lpn : lp ∉ is.filterMap (·.2) := fun z => by
              obtain ⟨_, _, zs, h3⟩ := FU.new lp z
              rw [nlp] at h3
              cases h3
            have lp0 : H lp = none := fr0 (e2.trans eU) nlp
            have e5 := new_same (o := HO.lst yl2) nlp
            have hl5 : (upd HU lp (.lst yl2)) lp = some (.lst yl2) := upd_same
            have F5 := FU.same e5
            have hc5 := e5 _ _ (eU _ _ hc2)
            have e25 := eU.trans e5
            have pts5 : PairsAt (upd HU lp (.lst yl2)) ts (yl2.map (pairOf HU)) := pts.mono fun t xs z => e5 _ _ z
            generalize yl2.map (pairOf HU) = LL at dl pts5
            generalize upd HU lp (.lst yl2) = H5 at hl5 F5 hc5 e25 pts5 ⊢
            have ev : (valV (encC18 cs2) none).getD .non = optW (lookC cs2 none) := by
              rw [enc_look]
              cases lookC cs2 none <;> rfl
            refine ⟨_, rfl, .inl ⟨rfl, _, SqL.of F5.lst⟩, _, rfl, _, rfl, c, _, rfl, .inl hc5, _, none, .inl hc5, rfl, _, rfl, (by show 3 ≤ sizeLine; decide), fun pt npt => ⟨r, _, _, rfl, rfl, new_same npt _ _ F5.lst, lt_line (by rw [List.length_map]; omega), ?_⟩⟩
            have e6 := new_same (o := HO.tup [V.int f, (valV (encC18 cs2) none).getD .non, .ref lp]) npt
            have hpt : (upd H5 pt (.tup [V.int f, (valV (encC18 cs2) none).getD .non, .ref lp])) pt = some (.tup [V.int f, optW (lookC cs2 none), .ref lp]) := by rw [upd_same, ev]
            have F6 := F5.same e6
            have hl6 := e6 _ _ hl5
            have hc6 := e6 _ _ hc5
            have e26 := e25.trans e6
            have pts6 : PairsAt _ ts LL := pts5.mono fun t xs z => e6 _ _ z
            generalize upd H5 pt (.tup [V.int f, (valV (encC18 cs2) none).getD .non, .ref lp]) = H6 at hpt F6 hl6 hc6 e26 pts6 ⊢
            have pat : PieceAt H6 (pt, some lp) (f, dat es f) := by
              rw [dl]
              exact ⟨hpt, ts, by rw [hl6, ets], pts6⟩
            refine ⟨is ++ [(pt, some lp)], cs2, _, _, _, _, _, rfl, same_freeU (e2.trans e26) nr, ?_, by rw [List.length_append]; show is.length + 1 ≤ i + 1; omega, by rw [upd_ne cr]; exact hc6, ndk, .inr ⟨f, Nat.succ_pos _, hfi, lk⟩, by rw [upd_ne slr]; exact e26 _ _ hs2⟩
            rw [tk, List.map_append]
            exact found_put F6 pat hl6 lp0 lpr lpn
      · obtain ⟨is, cst, v5, v6, v7, v10, v11, rfl, e, Fd, il, hc, ndc, look, hsl⟩ := h
        rw [List.length_map, List.take_length] at Fd
        rw [List.length_map] at il
        exact ⟨_, rfl, k H'' r is _ m (fun b o h1 h2 hb => e _ _ (pa.kx b o h1 h2 hb)) (pa.hh.same e) Fd.m0 Fd (by omega) (L.form asc my) mb2⟩
end
end Gc

/-! a box learned (k18) -/
namespace Gc
open PySem L2
abbrev s_learn : Stmt := top 23
@[irreducible] def zProbeInit (K : PySem.W.Frag) (CP : Addr) : Sp := spProbeInit K CP
theorem zProbeInit_eq (K : PySem.W.Frag) (CP : Addr) : zProbeInit K CP = spProbeInit K CP := by unfold zProbeInit; rfl
def spLearn (K : PySem.W.Frag) (CB : Addr) : Sp := fun vs H Q _ => ∃ (x dx l : Addr) (xs : List V) (es : List Cmd) (n rows S : Int), vs = [.ref x, .int rows, .int S] ∧ Hides K CB H x dx l xs es n ∧ 0 ≤ rows ∧ rows ≤ 15 ∧ Within es (-rows) rows ∧ tot es ≤ S ∧ S ≤ 10 ^ 6 ∧ es.length ≤ 60 ∧
  ∀ (H' : Hp) (p r q : Addr) (is : List (Addr × Option Addr)) (m : Nat), Keep x x H H' → Hides K CB H' x dx l xs es (n + m) → H p = none → H' p = some (.tup [.ref r, .ref q]) → H' r = some (.tup [.int (rchM es).1, .int (rchM es).2.1, .int (last es)]) → FoundAt H H' q is (formM es) → is.length ≤ 63 → m ≤ 16000 → Q (.ref p) H'
theorem found_base {H0 H1 H : Hp} {m : Addr} {is : List (Addr × Option Addr)} {ps : List Piece} (h : FoundAt H1 H m is ps) (b : ∀ a, H1 a = none → H0 a = none) : FoundAt H0 H m is ps :=
  ⟨h.lst, h.its, h.nd, fun l hl => ⟨b l (h.new l hl).1, (h.new l hl).2⟩, b _ h.m0⟩
section
variable {P : Program} {w : World} {K : PySem.W.Frag} {mg : Str → Option Value} {base : Heap} {CB CP : Addr}
theorem sc_learn : FnScope ["box", "rows", "size", "spanned", "probe", "_", "top", "pieces"] ["box", "rows", "size"] (defScope s_learn) := ⟨rfl, rfl, rfl, by decide +kernel, rfl, by decide +kernel, by decide +kernel⟩
theorem ok_learn {f : Addr} {fd : FuncData} (F : Fun K "learn" "learn" s_learn f fd) (c_learn_reach : Cal P w K mg base 6 "learn_reach" (spReach18 K CB)) (m_Probe : Mak P w K mg base (L2.CX P w) 1 "Probe" CP (zProbeInit K CP)) (m_point : Mth P w K mg base (L2.CX P w) 6 CP "point" (zPoint K CB CP)) (c_learn_pieces : Cal P w K mg base 30 "learn_pieces" (spPieces18 K CB CP)) :
    FnOk P w K mg base CX0 31 f fd ["box", "rows", "size"] (spLearn K CB) := by
  refine F.ok sc_learn (fun vs H Q E h => ?_) (fun cdv A outer s H vs Q E hr h => ?_)
  · obtain ⟨x, dx, l, xs, es, n, rows, S, rfl, _⟩ := h
    rfl
  · obtain ⟨x, dx, l, xs, es, n, rows, S, rfl, hh, r0, r15, win, ht, S1, e60, k⟩ := h
    refine ⟨_, (pss_cons (ps_set (i := 3) sc_learn.nd rfl (Or.inl rfl) (pe_cal c_learn_reach hr (by decide) (by rfl) (pa_cons (pv 0) (pa_cons (pv 1) pa_nil))))
      (pss_cons (ps_set (i := 4) sc_learn.nd rfl (Or.inl rfl) (pe_makX takesNone m_Probe hr (by decide) (by rfl) (pa_cons (pv 0) (pa_cons (pv 3) (pa_cons (pv 2) pa_nil)))))
      (pss_cons (ps_asg (pe_mthX takesNone m_point hr (by decide) (pv 4) (pa_cons pe_non (pa_cons pe_non pa_nil))) (pg_tup rfl (pgs_cons (pg_name (i := 5) sc_learn.nd rfl (Or.inl rfl)) (pgs_cons (pg_name (i := 6) sc_learn.nd rfl (Or.inl rfl)) pgs_nil))))
      (pss_cons (ps_if (PW.pt (pw_or (pt_cmpR op_isN (pv 6) pe_non (nomark _)) (pw_or1 (pt_cmpR op_gt (pv 6) (pv 2) (nomark _))))) (pss_one (ps_ret (pe_tup (pa_cons (pv 3) (pa_cons (pe_cal c_learn_pieces hr (by decide) (by rfl) (pa_cons (pv 4) (pa_cons (pv 3) (pa_cons (pv 2) (pa_cons (pe_op op_add (pv 2) pe_int) pa_nil))))) pa_nil))))) pss_nil)
      (pss_cons (ps_set (i := 7) sc_learn.nd rfl (Or.inl rfl) (pe_cal c_learn_pieces hr (by decide) (by rfl) (pa_cons (pv 4) (pa_cons (pv 3) (pa_cons (pv 2) (pa_cons (pv 6) pa_nil))))))
      (pss_one (ps_ret (pe_tup (pa_cons (pv 3) (pa_cons (pe_op op_cat (pv 7) (pe_lst (pa_cons (pe_tup (pa_cons (pe_op op_add (pv 6) pe_int) (pa_cons pe_non (pa_cons pe_non pa_nil)))) pa_nil))) pa_nil)))))))))), ?_⟩
    obtain ⟨w1, w2⟩ := within_iff.mp win
    have hd : Hid es S (rchM es).1 (rchM es).2.1 := ⟨hh.ok, ht, (rch_within5 es).1⟩
    have z0 := hd.w.zero
    have s0 := hd.s0
    refine ⟨_, rfl, _, rfl, x, dx, l, xs, es, n, rows, rfl, hh, r0, r15, win, fun H1 sp m1 kp1 hh1 nsp hsp mb1 => ?_⟩
    generalize hlo : (rchM es).1 = lo at w1 hd z0 hsp k
    generalize hhi : (rchM es).2.1 = hi at w2 hd z0 hsp k
    refine ⟨_, rfl, _, rfl, _, rfl, fun pb dp npb ndp ne => ?_⟩
    have e2 : Same H1 (upd (upd H1 dp (.own pb)) pb (.ins CP dp [])) := same_freeU (new_same ndp) npb
    have hpb : (upd (upd H1 dp (.own pb)) pb (.ins CP dp [])) pb = some (.ins CP dp []) := upd_same
    generalize upd (upd H1 dp (.own pb)) pb (.ins CP dp []) = H2 at e2 hpb ⊢
    show zProbeInit K CP [.ref pb, .ref x, .ref sp, .int S] H2 _ _
    rw [zProbeInit_eq]
    refine ⟨pb, dp, x, sp, S, lo, hi, last es, rfl, hpb, SqT.of (e2 _ _ hsp), s0, S1, by omega, by omega, fun H3 ln kp3 nln hP => ?_⟩
    have e3 : Same H1 H3 := fun a o ha => by
      have q : a ≠ pb := ne_of_none ha npb
      exact kp3 a o q q (e2 _ _ ha)
    have hh3 := hh1.same e3
    have hsp3 := e3 _ _ hsp
    have kp03 : Keep x x H H3 := kp1.trans (Keep.of e3)
    refine ⟨rfl, _, rfl, pb, dp, _, rfl, hP.at_, rfl, ?_⟩
    show zPoint K CB CP [.ref pb, .non, .non] H3 _ _
    rw [zPoint_eq]
    refine ⟨pb, dp, x, dx, l, ln, xs, es, _, S, lo, hi, _, _, rfl, hP, hh3, hd, S1, by omega, .inr ⟨rfl, rfl, fun H4 tp kp4 hh4 ntp htp => ?_⟩⟩
    have hP4 := hP.keep hh3 kp4
    have spx := ne_of hsp3 hh3.bx fun z => nomatch z
    have hsp4 := kp4 _ _ spx spx hsp3
    have kp04 : Keep x x H H4 := kp03.trans kp4
    have b4 : ∀ a, H4 a = none → H a = none := fun a ha => kk0 hh.bx hh4.bx ha kp04
    refine ⟨tp, _, rfl, SqT.of htp, rfl, _, _, rfl, _, _, rfl, rfl, ?_⟩
    -- the pieces up to size + 1
    have far : ge (topG es S lo hi) (S + 1) → ∀ (H5 : Hp) (p5 : Addr) (is : List (Addr × Option Addr)) (ps : List Piece) (m5 : Nat), Keep x x H4 H5 → Hides K CB H5 x dx l xs es (n + m1 + 1 + m5) → FoundAt H4 H5 p5 is ps → is.length ≤ 62 → formM es = ps ++ (if S + 1 = S + 1 then [] else [(S + 1 + 1, (none, none))]) → m5 ≤ 15000 → ∀ d, H5 d = none → Q (.ref d) (upd H5 d (.tup [.ref sp, .ref p5])) := fun _ H5 p5 is ps m5 kp5 hh5 F5 il fe mb5 d nd => by
      rw [if_pos rfl, List.append_nil] at fe
      have e6 := new_same (o := HO.tup [V.ref sp, .ref p5]) nd
      have spx4 := ne_of hsp4 hh4.bx fun z => nomatch z
      refine k _ d sp p5 is (m1 + 1 + m5) ((kp04.trans kp5).trans (Keep.of e6)) ?_ (kk0 hh.bx hh5.bx nd (kp04.trans kp5)) upd_same (e6 _ _ (kp5 _ _ spx4 spx4 hsp4)) ?_ (by omega) (by omega)
      · rw [show n + ((m1 + 1 + m5 : Nat) : Int) = n + m1 + 1 + m5 by omega]
        exact hh5.same e6
      · rw [fe]
        exact (found_base F5 b4).same e6
    cases et : topG es S lo hi with
    | none =>
      rw [et] at far
      refine ⟨_, rfl, rfl, _, rfl, iteT (iteT ?_)⟩
      refine ⟨_, rfl, _, rfl, _, rfl, _, rfl, _, rfl, _, _, rfl, rfl, pb, dp, x, dx, l, ln, sp, xs, es, _, S, lo, hi, last es, S + 1, rfl, hP4, hh4, hd, SqT.of hsp4, S1, by omega, e60, ends_far hd (by rw [et]; exact ge_none _), fun H5 p5 is ps m5 kp5 hh5 np5 F5 il fe mb5 => ⟨(by show 2 ≤ sizeLine; decide), fun d nd => far (ge_none _) H5 p5 is ps m5 kp5 hh5 F5 il fe mb5 d nd⟩⟩
    | some t =>
      rw [et] at far
      refine ⟨_, rfl, rfl, _, rfl, iteF ⟨_, rfl, _, rfl, _, _, rfl, rfl, _, rfl, ite2 (fun c => ?_) (fun c => ?_)⟩⟩
      · have c' : S < t := of_decide_eq_true c
        have g1 : ge (some t) (S + 1) := ge_some.mpr (by omega)
        refine ⟨_, rfl, _, rfl, _, rfl, _, rfl, _, rfl, _, _, rfl, rfl, pb, dp, x, dx, l, ln, sp, xs, es, _, S, lo, hi, last es, S + 1, rfl, hP4, hh4, hd, SqT.of hsp4, S1, by omega, e60, ends_far hd (by rw [et]; exact g1), fun H5 p5 is ps m5 kp5 hh5 np5 F5 il fe mb5 => ⟨(by show 2 ≤ sizeLine; decide), fun d nd => far g1 H5 p5 is ps m5 kp5 hh5 F5 il fe mb5 d nd⟩⟩
      · have c' : ¬ S < t := fun z => c (decide_eq_true z)
        refine ⟨_, rfl, _, rfl, _, rfl, _, rfl, pb, dp, x, dx, l, ln, sp, xs, es, _, S, lo, hi, last es, t, rfl, hP4, hh4, hd, SqT.of hsp4, S1, by omega, e60, ends_near hd et (by omega), fun H5 p5 is ps m5 kp5 hh5 np5 F5 il fe mb5 => ?_⟩
        have nt : ¬ t = S + 1 := by omega
        rw [if_neg nt] at fe
        have spx4 := ne_of hsp4 hh4.bx fun z => nomatch z
        have hsp5 := kp5 _ _ spx4 spx4 hsp4
        refine ⟨_, rfl, _, rfl, _, rfl, _, _, rfl, rfl, (by show 3 ≤ sizeLine; decide), fun t3 nt3 => ⟨(by show 1 ≤ sizeLine; decide), fun l3 nl3 => ?_⟩⟩
        have e6 := new_same (o := HO.tup [V.int (t + 1), .non, .non]) nt3
        have ht6 : (upd H5 t3 (.tup [V.int (t + 1), .non, .non])) t3 = some (.tup [V.int (t + 1), .non, .non]) := upd_same
        generalize upd H5 t3 (.tup [V.int (t + 1), .non, .non]) = H6 at e6 ht6 nl3 ⊢
        have e7 := e6.trans (new_same (o := HO.lst [V.ref t3]) nl3)
        have hl7 : (upd H6 l3 (.lst [V.ref t3])) l3 = some (.lst [V.ref t3]) := upd_same
        have ht7 := new_same (o := HO.lst [V.ref t3]) nl3 _ _ ht6
        generalize upd H6 l3 (.lst [V.ref t3]) = H7 at e7 hl7 ht7 ⊢
        have F7 := (found_base F5 b4).same e7
        refine ⟨p5, l3, _, _, rfl, rfl, F7.lst, hl7, Nat.le_of_lt (lt_line (by rw [List.length_map]; show is.length + 1 ≤ 100000; omega)), fun q8 n8 => ?_⟩
        have e8 := new_same (o := HO.lst (is.map (fun i => V.ref i.1) ++ [V.ref t3])) n8
        have h8 : (upd H7 q8 (.lst (is.map (fun i => V.ref i.1) ++ [V.ref t3]))) q8 = some (.lst ((is ++ [(t3, (none : Option Addr))]).map fun i => V.ref i.1)) := by
          rw [upd_same, List.map_append]
          rfl
        have F8 := F7.same e8
        have ht8 := e8 _ _ ht7
        have e78 := e7.trans e8
        have q80 : H q8 = none := kk0 hh.bx (e7 _ _ hh5.bx) n8 fun a o h1 h2 ha => e7 _ _ ((kp04.trans kp5) a o h1 h2 ha)
        have qne : ∀ a ∈ is.filterMap (·.2), a ≠ q8 := fun a ha => by
          obtain ⟨_, _, zs, h3⟩ := F7.new a ha
          exact ne_of_none h3 n8
        generalize upd H7 q8 (.lst (is.map (fun i => V.ref i.1) ++ [V.ref t3])) = H8 at e8 h8 F8 ht8 e78 ⊢
        have F9 : FoundAt H H8 q8 (is ++ [(t3, none)]) (formM es) := by
          rw [fe]
          refine ⟨h8, paired_app F8.its (.cons ⟨ht8, trivial⟩ .nil), ?_, fun a ha => ?_, q80⟩
          · rw [List.filterMap_append]
            show (is.filterMap (fun i : Addr × Option Addr => i.2) ++ []).Nodup
            rw [List.append_nil]
            exact F8.nd
          · rw [List.filterMap_append] at ha
            have ha' : a ∈ is.filterMap (fun i : Addr × Option Addr => i.2) ++ [] := ha
            rw [List.append_nil] at ha'
            obtain ⟨h1, _, zs, h3⟩ := F8.new a ha'
            exact ⟨h1, qne a ha', zs, h3⟩
        refine ⟨(by show 2 ≤ sizeLine; decide), fun d nd => ?_⟩
        have e9 := new_same (o := HO.tup [V.ref sp, .ref q8]) nd
        refine k _ d sp q8 _ (m1 + 1 + m5) (fun a o h1 h2 ha => e9 _ _ (e78 _ _ ((kp04.trans kp5) a o h1 h2 ha))) ?_ (kk0 hh.bx (e78 _ _ hh5.bx) nd fun a o h1 h2 ha => e78 _ _ ((kp04.trans kp5) a o h1 h2 ha)) upd_same (e9 _ _ (e78 _ _ hsp5)) (F9.same e9) (by rw [List.length_append]; show is.length + 1 ≤ 63; omega) (by omega)
        rw [show n + ((m1 + 1 + m5 : Nat) : Int) = n + m1 + 1 + m5 by omega]
        exact hh5.same (e78.trans e9)
end
end Gc

/-! max of a list of ints that is not empty -/
namespace L2
open PySem PySem.Spec PyProof.Rows
theorem argBest_max {f : Nat → Int} : ∀ k i, i ≤ k → f i ≤ f (argBest (fun i j => decide (f i > f j)) k)
  | 0, i, h => by
    obtain rfl : i = 0 := by omega
    exact Int.le_refl _
  | k + 1, i, h => by
    have ih := argBest_max (f := f) k
    simp only [argBest]
    by_cases c : f (k + 1) > f (argBest (fun i j => decide (f i > f j)) k)
    · rw [if_pos (decide_eq_true c)]
      by_cases e : i = k + 1
      · rw [e]; exact Int.le_refl _
      · exact Int.le_trans (ih i (by omega)) (Int.le_of_lt c)
    · rw [if_neg (fun z => c (of_decide_eq_true z))]
      by_cases e : i = k + 1
      · rw [e]; omega
      · exact ih i (by omega)
section
variable {X : Cx}
/-- max(xs), xs a list of ints -/
def rMaxI (K : PySem.W.Frag) : List V → Hp → VK → Prop := fun vs H Q => ∃ (p : Addr) (ns : List Int), vs = [.ref p] ∧ SqL K H p (ns.map V.int) ∧ ns ≠ [] ∧ ∀ m, m ∈ ns → (∀ n ∈ ns, n ≤ m) → Q (.int m) H
theorem call_maxI (hc : X.calm = true) : CallR X (.builtin "max") (rMaxI X.K) := by
  intro pins s σ H vs us Q I r h
  obtain ⟨p, ns, rfl, hs, ne, q⟩ := h
  obtain ⟨its, rv, hl, _⟩ := I.list hs
  rw [Vals.ref1 r]
  have len : its.length = ns.length := by
    rw [← rv.length, List.length_map]
  have at' : ∀ (i : Nat) (v : Value), its.toArray[i]? = some v → ∃ t, v = .int (ns.getD i 0) t := fun i v e => by
    have e' : its[i]? = some v := by simpa using e
    have hi : i < ns.length := by
      obtain ⟨h, _⟩ := List.getElem?_eq_some_iff.mp e'
      omega
    obtain ⟨u, hu, ru⟩ := rv.get (i := i) (x := .int ns[i]) (by rw [List.getElem?_map, List.getElem?_eq_getElem hi]; rfl)
    rw [e'] at hu
    cases hu
    obtain ⟨t, rfl⟩ := (show ∃ t, v = Value.int ns[i] t from ru)
    exact ⟨t, by rw [List.getD_eq_getElem?_getD, List.getElem?_eq_getElem hi]; rfl⟩
  have pos : 0 < ns.length := List.length_pos_iff.mpr ne
  refine call_max_walk (iter_anyList hl.isList fun s₂ e st hfp hlI => ?_)
  subst e
  refine ⟨_, _, _, _, _, _, _, rfl, Walks.list (A := X.A.in1) (I.ok.hd hc) _ p hlI its.toArray, st, hfp, by rw [List.size_toArray, len]; exact pos, CmpOf.ints_gt (fun i => ns.getD i 0) at', fun v h' tk hP hk => ?_⟩
  obtain ⟨t, rfl⟩ := at' _ _ hP
  have sz : its.toArray.size - 1 = ns.length - 1 := by rw [List.size_toArray, len]
  rw [sz] at hP ⊢
  have li : argBest (fun i j => decide (ns.getD i 0 > ns.getD j 0)) (ns.length - 1) < ns.length := by
    have := argBest_le (bt := fun i j => decide (ns.getD i 0 > ns.getD j 0)) (ns.length - 1)
    omega
  refine ⟨.int (ns.getD (argBest (fun i j => decide (ns.getD i 0 > ns.getD j 0)) (ns.length - 1)) 0), H, I.kept (PySem.old_kept hk), ⟨t, rfl⟩, q _ ?_ fun n hn => ?_⟩
  · rw [List.getD_eq_getElem?_getD, List.getElem?_eq_getElem li]
    exact List.getElem_mem li
  · obtain ⟨j, hj, e⟩ := List.mem_iff_getElem.mp hn
    have := argBest_max (f := fun i => ns.getD i 0) (ns.length - 1) j (by omega)
    have ej : ns.getD j 0 = n := by rw [List.getD_eq_getElem?_getD, List.getElem?_eq_getElem hj]; exact e
    rw [← ej]
    exact this
end
end L2

/-! the law's own boxes (k18) -/
namespace Gc
open PySem L2
abbrev s_lbox : Stmt := top 34
abbrev s_lrch : Stmt := top 35
structure TxtLb (mg : Str → Option Value) : Prop where
  sum : mg "sum" = none
  int : mg "int" = none
  max : mg "max" = none
  min : mg "min" = none
/-- the law looks before it goes on -/
def gl (r : List Cmd) (off low : Int) (b : Ps) : Option (Option Int × Ps) := if low < 1 then some (none, b) else go r off low b
def spLBox18 (K : PySem.W.Frag) : Sp := fun vs H Q _ => ∃ (l : Addr) (xs : List V) (es : List Cmd) (v : Int), vs = [.ref l, .int v] ∧ SqL K H l xs ∧ CmdsOf K H xs es ∧ AllOk es ∧ (∀ c ∈ es, numC c < 10 ^ 40) ∧ es.length ≤ 100 ∧ 1 ≤ v ∧
  (go es.reverse (last es) v [] = none → ∀ H', Same H H' → Q .non H') ∧ ∀ st b, go es.reverse (last es) v [] = some (st, b) → ∀ (H' : Hp) (p d : Addr), Same H H' → H p = none → H' p = some (.lst [optV st, .ref d]) → H' d = some (.dK (dkI b)) → b.length ≤ es.length → Q (.ref p) H'
def spLRch18 (K : PySem.W.Frag) : Sp := fun vs H Q _ => ∃ (l : Addr) (xs : List V) (es : List Cmd), vs = [.ref l] ∧ SqL K H l xs ∧ CmdsOf K H xs es ∧ AllOk es ∧ (∀ c ∈ es, numC c < 10 ^ 40) ∧ es.length ≤ 100 ∧
  ∀ (H' : Hp) (p : Addr), Same H H' → H p = none → H' p = some (.tup [.int (rchM es).1, .int (rchM es).2.1, .int (last es)]) → Q (.ref p) H'
theorem dv_snoc (cs : List Cmd) (c : Cmd) : last (cs ++ [c]) = last cs + c.dv := last_snoc cs c
theorem paired_rev {α β : Type} {F : α → β → Prop} : ∀ {xs : List α} {ys : List β}, Paired F xs ys → Paired F xs.reverse ys.reverse
  | _, _, .nil => .nil
  | _, _, .cons h t => by
    rw [List.reverse_cons, List.reverse_cons]
    exact paired_app (paired_rev t) (.cons h .nil)
theorem tup_dK {K : PySem.W.Frag} {H : Hp} {d p : Addr} {kv : List (L2.Key × V)} {o : HO} {ys : List V} (h : SqT K H p ys) (hd : H d = some (.dK kv)) : SqT K (upd H d o) p ys := by
  rcases h with (z | ⟨o', z⟩) | z
  · exact .inl (.inl (by rw [upd_ne (ne_of z hd fun y => nomatch y)]; exact z))
  · exact .inl (.inr ⟨o', by rw [upd_ne (ne_of z hd fun y => nomatch y)]; exact z⟩)
  · exact .inr z
theorem mxI (b : Ps) (off need : Int) (h : 1 ≤ need) : (if (look b off).getD 0 > need then (look b off).getD 0 else need) = mx need ((look b off).getD need) := by
  unfold mx
  cases look b off with
  | none =>
    show (if (0 : Int) > need then 0 else need) = if need > need then need else need
    rw [if_neg (by omega), if_neg (by omega)]
  | some y => rfl
theorem len_put (b : Ps) (k v : Int) : (put b k v).length ≤ b.length + 1 := by
  unfold put
  split
  · rw [List.length_map]
    omega
  · rw [List.length_append]
    exact Nat.le_refl _
section
variable {P : Program} {w : World} {K : PySem.W.Frag} {mg : Str → Option Value} {base : Heap}
theorem sc_law_box : FnScope ["keys", "value", "here", "bounds", "low", "key", "need"] ["keys", "value"] (defScope s_lbox) := ⟨rfl, rfl, rfl, by decide +kernel, rfl, by decide +kernel, by decide +kernel⟩
theorem ok_lbox {f : Addr} {fd : FuncData} (F : Fun K "_law_box" "_law_box" s_lbox f fd) (T : TxtLb mg) : FnOk P w K mg base CX0 1 f fd ["keys", "value"] (spLBox18 K) := by
  refine F.ok sc_law_box (fun vs H Q E h => ?_) (fun cdv A outer s H vs Q E hr h => ?_)
  · obtain ⟨l, xs, es, v, rfl, _⟩ := h
    rfl
  · obtain ⟨l, xs, es, v, rfl, hl, hcs, ok, nb, l100, v1, kn, ks⟩ := h
    refine ⟨_, (pss_cons (ps_set (i := 2) sc_law_box.nd rfl (Or.inl rfl) (pe_callB (cr_sum rfl) (by rfl) T.sum (by decide +kernel) (pa_cons (pe_lc (own := [("key", 5)]) rfl sc_law_box.nd (pi_list (pv 0)) (blkOk_by (N := ["keys", "value", "here", "bounds", "low", "key", "need"]) (sc := defScope s_lbox) (by decide +kernel)) (fun _ _ _ _ _ => (pg_name (i := 5) sc_law_box.nd rfl (Or.inl rfl))) (fun _ _ _ _ _ => (pts_one (pt_cmpR (show OpR _ _ (rIn K false) from op_in_seq) (pe_ix (show IxR _ (rIxT K) from ix_tup) (pv 5) pe_int (fun _ _ => rfl)) (pe_lst (pa_cons pe_str (pa_cons pe_str pa_nil))) (by rfl)))) (fun _ _ _ _ _ => (pe_op op_mulW (pe_ix (show IxR _ (rIxT K) from ix_tup) (pv 5) pe_int (fun _ _ => rfl)) (pe_ix (show IxR _ (rIxL K) from ix_list) (pe_lst (pa_cons pe_int (pa_cons (pe_un un_neg pe_int) pa_nil))) (pe_callTy call_int1 (by rfl) T.int (by decide +kernel) (pa_cons (pe_cmpR op_eq (pe_ix (show IxR _ (rIxT K) from ix_tup) (pv 5) pe_int (fun _ _ => rfl)) pe_str (nomark _)) pa_nil)) (fun _ _ => rfl))))) pa_nil)))
      (pss_cons (ps_par (i := 3) (j := 4) rfl sc_law_box.nd rfl rfl (by decide) rfl rfl (pa_cons pe_dnewK (pa_cons (pv 1) pa_nil)) (by rfl))
      (pss_cons (ps_for PassesOwn.never rfl (pi_list (pe_revL (pv 0))) (pg_name (i := 5) sc_law_box.nd rfl (Or.inl rfl)) (pss_cons (ps_if (PW.pt (pw_or (pt_cmpR op_lt (pv 4) pe_int (nomark _)) (pw_or1 (pt_cmpR op_eq (pe_ix (show IxR _ (rIxT K) from ix_tup) (pv 5) pe_int (fun _ _ => rfl)) pe_str (nomark _))))) (pss_one (ps_ret (pe_lst (pa_cons pe_non (pa_cons (pv 3) pa_nil))))) pss_nil)
      (pss_cons (ps_if (pt_cmpR op_eq (pe_ix (show IxR _ (rIxT K) from ix_tup) (pv 5) pe_int (fun _ _ => rfl)) pe_str (nomark _)) (pss_one (ps_ret pe_non)) pss_nil)
      (pss_one (ps_if (pt_cmpR (show OpR _ _ (rIn K false) from op_in_seq) (pe_ix (show IxR _ (rIxT K) from ix_tup) (pv 5) pe_int (fun _ _ => rfl)) (pe_lst (pa_cons pe_str (pa_cons pe_str pa_nil))) (by rfl)) (pss_one (ps_set (i := 2) sc_law_box.nd rfl (Or.inl rfl) (pe_op op_sub (pv 2) (pe_op op_mulW (pe_ix (show IxR _ (rIxT K) from ix_tup) (pv 5) pe_int (fun _ _ => rfl)) (pe_ix (show IxR _ (rIxL K) from ix_list) (pe_lst (pa_cons pe_int (pa_cons (pe_un un_neg pe_int) pa_nil))) (pe_callTy call_int1 (by rfl) T.int (by decide +kernel) (pa_cons (pe_cmpR op_eq (pe_ix (show IxR _ (rIxT K) from ix_tup) (pv 5) pe_int (fun _ _ => rfl)) pe_str (nomark _)) pa_nil)) (fun _ _ => rfl)))))) (pss_cons (ps_set (i := 6) sc_law_box.nd rfl (Or.inl rfl) (pe_op op_add (pv 4) (pe_op op_mulW (pe_ix (show IxR _ (rIxT K) from ix_tup) (pv 5) pe_int (fun _ _ => rfl)) (pe_callTy call_int1 (by rfl) T.int (by decide +kernel) (pa_cons (pe_cmpR op_eq (pe_ix (show IxR _ (rIxT K) from ix_tup) (pv 5) pe_int (fun _ _ => rfl)) pe_str (nomark _)) pa_nil)))))
      (pss_cons (ps_dput (hu_of hr) (pv 3) (pv 2) (pe_callB (call_max2 rfl) (by rfl) T.max (by decide +kernel) (pa_cons (pv 6) (pa_cons (pe_dget2 (hu_of hr) (pv 3) (pv 2) pe_int ⟨rfl, rfl, rfl, rfl⟩) pa_nil))) rfl)
      (pss_one (ps_set (i := 4) sc_law_box.nd rfl (Or.inl rfl) (pe_op op_add (pv 4) (pe_op op_mulW (pe_ix (show IxR _ (rIxT K) from ix_tup) (pv 5) pe_int (fun _ _ => rfl)) (pe_ix ix_list (pe_lst (pa_cons (pe_un un_neg pe_int) (pa_cons pe_int pa_nil))) (pe_callTy call_int1 (by rfl) T.int (by decide +kernel) (pa_cons (pe_cmpR op_eq (pe_ix (show IxR _ (rIxT K) from ix_tup) (pv 5) pe_int (fun _ _ => rfl)) pe_str (nomark _)) pa_nil)) (fun _ _ => rfl)))))))))))))
      (pss_one (ps_ret (pe_lst (pa_cons (pe_ifExp (pt_cmpR op_gt (pv 4) pe_int (nomark _)) (pv 4) pe_non) (pa_cons (pv 3) pa_nil)))))))), ?_⟩
    -- the last offset
    refine ⟨_, rfl, l, rfl, ⟨_, hl⟩, fun D nD => ?_⟩
    refine lc_list (K := K) (a := l) (xs := xs) (fun i H' => ∃ ns : List Int, Same H H' ∧ H' D = some (.lst (ns.map V.int)) ∧ ns.length ≤ i ∧ ns.sum = last (es.take i)) ⟨[], new_same nD, upd_same, Nat.le_refl _, rfl⟩ (fun i H' _ ⟨_, e, _⟩ => e.seq hl) (fun i x H' hi h => ?_) (fun H1 h => ?_)
    · obtain ⟨ns, e, hD, nl, sm⟩ := h
      obtain ⟨c, hc, t, rfl, ht0⟩ := paired_at hcs hi
      have ht := seq_t e ht0
      have li := (List.getElem?_eq_some_iff.mp hc).1
      have okc := ok c (List.mem_of_getElem? hc)
      have nbc := nb c (List.mem_of_getElem? hc)
      have tk := takeS hc
      have ls : last (es.take (i + 1)) = last (es.take i) + c.dv := by rw [tk, dv_snoc]
      cases c with
      | down n =>
        have nb' : n < 10 ^ 40 := nbc
        have n1 : 1 ≤ n := okc
        refine ⟨rfl, _, rfl, t, _, 0, _, rfl, rfl, ht, rfl, (by show 2 ≤ sizeLine; decide), fun p1 np1 => ?_⟩
        have e1 := e.trans (new_same (o := HO.lst [V.str "down", .str "up"]) np1)
        have h1 : (upd H' p1 (.lst [V.str "down", .str "up"])) p1 = some (.lst [V.str "down", .str "up"]) := upd_same
        have hD1 := new_same (o := HO.lst [V.str "down", .str "up"]) np1 _ _ hD
        have ht1 := seq_t (new_same (o := HO.lst [V.str "down", .str "up"]) np1) ht
        generalize upd H' p1 (.lst [V.str "down", .str "up"]) = G1 at e1 h1 hD1 ht1 ⊢
        refine ⟨p1, _, rfl, .inl (SqL.of h1), rfl, rfl, true, by decide +kernel, iteT ?_⟩
        refine ⟨_, rfl, t, _, 1, _, rfl, rfl, ht1, rfl, _, rfl, (by show 2 ≤ sizeLine; decide), fun p2 np2 => ?_⟩
        have e2 := e1.trans (new_same (o := HO.lst [V.int 1, .int (-1)]) np2)
        have h2 : (upd G1 p2 (.lst [V.int 1, .int (-1)])) p2 = some (.lst [V.int 1, .int (-1)]) := upd_same
        have hD2 := new_same (o := HO.lst [V.int 1, .int (-1)]) np2 _ _ hD1
        have ht2 := seq_t (new_same (o := HO.lst [V.int 1, .int (-1)]) np2) ht1
        generalize upd G1 p2 (.lst [V.int 1, .int (-1)]) = G2 at e2 h2 hD2 ht2 ⊢
        refine ⟨_, rfl, t, _, 0, _, rfl, rfl, ht2, rfl, rfl, .inr ⟨_, rfl, p2, _, _, _, rfl, rfl, SqL.of h2, at_fP (by decide +kernel), _, _, rfl, rfl, wide_mul (a := 134) (b := 2) (by omega) (by decide) (by decide) (by decide) (by decide), _, hD2, lt_line (by rw [List.length_map]; omega), ns ++ [n], same_freeU e2 nD, ?_, ?_, ?_⟩⟩
        · rw [upd_same, List.map_append]
          show some (HO.lst (ns.map V.int ++ [V.int (n * 1)])) = some (HO.lst (ns.map V.int ++ [V.int (n)]))
          rw [show n * 1 = n by omega]
        · rw [List.length_append]
          exact Nat.succ_le_succ nl
        · rw [List.sum_append, sm, ls]
          show _ + (n + 0) = _ + n
          omega
      | up n =>
        have nb' : n < 10 ^ 40 := nbc
        have n1 : 1 ≤ n := okc
        refine ⟨rfl, _, rfl, t, _, 0, _, rfl, rfl, ht, rfl, (by show 2 ≤ sizeLine; decide), fun p1 np1 => ?_⟩
        have e1 := e.trans (new_same (o := HO.lst [V.str "down", .str "up"]) np1)
        have h1 : (upd H' p1 (.lst [V.str "down", .str "up"])) p1 = some (.lst [V.str "down", .str "up"]) := upd_same
        have hD1 := new_same (o := HO.lst [V.str "down", .str "up"]) np1 _ _ hD
        have ht1 := seq_t (new_same (o := HO.lst [V.str "down", .str "up"]) np1) ht
        generalize upd H' p1 (.lst [V.str "down", .str "up"]) = G1 at e1 h1 hD1 ht1 ⊢
        refine ⟨p1, _, rfl, .inl (SqL.of h1), rfl, rfl, true, by decide +kernel, iteT ?_⟩
        refine ⟨_, rfl, t, _, 1, _, rfl, rfl, ht1, rfl, _, rfl, (by show 2 ≤ sizeLine; decide), fun p2 np2 => ?_⟩
        have e2 := e1.trans (new_same (o := HO.lst [V.int 1, .int (-1)]) np2)
        have h2 : (upd G1 p2 (.lst [V.int 1, .int (-1)])) p2 = some (.lst [V.int 1, .int (-1)]) := upd_same
        have hD2 := new_same (o := HO.lst [V.int 1, .int (-1)]) np2 _ _ hD1
        have ht2 := seq_t (new_same (o := HO.lst [V.int 1, .int (-1)]) np2) ht1
        generalize upd G1 p2 (.lst [V.int 1, .int (-1)]) = G2 at e2 h2 hD2 ht2 ⊢
        refine ⟨_, rfl, t, _, 0, _, rfl, rfl, ht2, rfl, rfl, .inr ⟨_, rfl, p2, _, _, _, rfl, rfl, SqL.of h2, at_tP (by decide +kernel), _, _, rfl, rfl, wide_mul (a := 134) (b := 2) (by omega) (by decide) (by decide) (by decide) (by decide), _, hD2, lt_line (by rw [List.length_map]; omega), ns ++ [-n], same_freeU e2 nD, ?_, ?_, ?_⟩⟩
        · rw [upd_same, List.map_append]
          show some (HO.lst (ns.map V.int ++ [V.int (n * (-1))])) = some (HO.lst (ns.map V.int ++ [V.int (-n)]))
          rw [show n * (-1) = -n by omega]
        · rw [List.length_append]
          exact Nat.succ_le_succ nl
        · rw [List.sum_append, sm, ls]
          show _ + (-n + 0) = _ + -n
          omega
      | right n =>
        refine ⟨rfl, _, rfl, t, _, 0, _, rfl, rfl, ht, rfl, (by show 2 ≤ sizeLine; decide), fun p1 np1 => ?_⟩
        have e1 := e.trans (new_same (o := HO.lst [V.str "down", .str "up"]) np1)
        have h1 : (upd H' p1 (.lst [V.str "down", .str "up"])) p1 = some (.lst [V.str "down", .str "up"]) := upd_same
        have hD1 := new_same (o := HO.lst [V.str "down", .str "up"]) np1 _ _ hD
        have ht1 := seq_t (new_same (o := HO.lst [V.str "down", .str "up"]) np1) ht
        generalize upd H' p1 (.lst [V.str "down", .str "up"]) = G1 at e1 h1 hD1 ht1 ⊢
        refine ⟨p1, _, rfl, .inl (SqL.of h1), rfl, rfl, false, by decide +kernel, iteF ?_⟩
        refine ⟨ns, e1, hD1, Nat.le_succ_of_le nl, ?_⟩
        rw [ls, sm]
        show _ = _ + (0 : Int)
        omega
      | left n =>
        refine ⟨rfl, _, rfl, t, _, 0, _, rfl, rfl, ht, rfl, (by show 2 ≤ sizeLine; decide), fun p1 np1 => ?_⟩
        have e1 := e.trans (new_same (o := HO.lst [V.str "down", .str "up"]) np1)
        have h1 : (upd H' p1 (.lst [V.str "down", .str "up"])) p1 = some (.lst [V.str "down", .str "up"]) := upd_same
        have hD1 := new_same (o := HO.lst [V.str "down", .str "up"]) np1 _ _ hD
        have ht1 := seq_t (new_same (o := HO.lst [V.str "down", .str "up"]) np1) ht
        generalize upd H' p1 (.lst [V.str "down", .str "up"]) = G1 at e1 h1 hD1 ht1 ⊢
        refine ⟨p1, _, rfl, .inl (SqL.of h1), rfl, rfl, false, by decide +kernel, iteF ?_⟩
        refine ⟨ns, e1, hD1, Nat.le_succ_of_le nl, ?_⟩
        rw [ls, sm]
        show _ = _ + (0 : Int)
        omega
      | home =>
        refine ⟨rfl, _, rfl, t, _, 0, _, rfl, rfl, ht, rfl, (by show 2 ≤ sizeLine; decide), fun p1 np1 => ?_⟩
        have e1 := e.trans (new_same (o := HO.lst [V.str "down", .str "up"]) np1)
        have h1 : (upd H' p1 (.lst [V.str "down", .str "up"])) p1 = some (.lst [V.str "down", .str "up"]) := upd_same
        have hD1 := new_same (o := HO.lst [V.str "down", .str "up"]) np1 _ _ hD
        have ht1 := seq_t (new_same (o := HO.lst [V.str "down", .str "up"]) np1) ht
        generalize upd H' p1 (.lst [V.str "down", .str "up"]) = G1 at e1 h1 hD1 ht1 ⊢
        refine ⟨p1, _, rfl, .inl (SqL.of h1), rfl, rfl, false, by decide +kernel, iteF ?_⟩
        refine ⟨ns, e1, hD1, Nat.le_succ_of_le nl, ?_⟩
        rw [ls, sm]
        show _ = _ + (0 : Int)
        omega
      | stop =>
        refine ⟨rfl, _, rfl, t, _, 0, _, rfl, rfl, ht, rfl, (by show 2 ≤ sizeLine; decide), fun p1 np1 => ?_⟩
        have e1 := e.trans (new_same (o := HO.lst [V.str "down", .str "up"]) np1)
        have h1 : (upd H' p1 (.lst [V.str "down", .str "up"])) p1 = some (.lst [V.str "down", .str "up"]) := upd_same
        have hD1 := new_same (o := HO.lst [V.str "down", .str "up"]) np1 _ _ hD
        have ht1 := seq_t (new_same (o := HO.lst [V.str "down", .str "up"]) np1) ht
        generalize upd H' p1 (.lst [V.str "down", .str "up"]) = G1 at e1 h1 hD1 ht1 ⊢
        refine ⟨p1, _, rfl, .inl (SqL.of h1), rfl, rfl, false, by decide +kernel, iteF ?_⟩
        refine ⟨ns, e1, hD1, Nat.le_succ_of_le nl, ?_⟩
        rw [ls, sm]
        show _ = _ + (0 : Int)
        omega
    obtain ⟨ns, e1, hD, nl, sm⟩ := h
    refine ⟨D, ns, rfl, SqL.of hD, ?_⟩
    rw [sm, hcs.len, List.take_length]
    have eg : ∀ (b : Ps) (off : Int), (valV (dkI b) (Sum.inl off : L2.Key)).getD (.int 0) = .int ((look b off).getD 0) := fun b off => by
      rw [valV_dkI]
      cases look b off <;> rfl
    refine fun d nd => ?_
    have nd0 : H d = none := e1.free nd
    have e2 := e1.trans (new_same (o := HO.dK []) nd)
    have hd2 : (upd H1 d (.dK [])) d = some (.dK (dkI [])) := upd_same
    generalize upd H1 d (.dK []) = H2 at e2 hd2 ⊢
    refine ⟨_, rfl, _, _, rfl, ?_⟩
    refine ⟨_, rfl, l, xs, rfl, e2.seq hl, fun q nq => ?_⟩
    have e3 := e2.trans (new_same (o := HO.lst xs.reverse) nq)
    have hd3 := new_same (o := HO.lst xs.reverse) nq _ _ hd2
    have hq3 : (upd H2 q (.lst xs.reverse)) q = some (.lst xs.reverse) := upd_same
    have qd : q ≠ d := (ne_of_none hd2 nq).symm
    generalize upd H2 q (.lst xs.reverse) = H3 at e3 hd3 hq3 ⊢
    have hrv := paired_rev hcs
    refine ⟨q, rfl, ⟨_, SqL.of hq3⟩, for_list (K := K) (a := q) (xs := xs.reverse) (fun i σ H' => ∃ (off low : Int) (b : Ps) (v5 v6 : Option V), σ = [some (.ref l), some (.int v), some (.int off), some (.ref d), some (.int low), v5, v6] ∧ go es.reverse (last es) v [] = gl (es.reverse.drop i) off low b ∧ Same H H' ∧ H' d = some (.dK (dkI b)) ∧ H' q = some (.lst xs.reverse) ∧ b.length ≤ i)
      ⟨last es, v, [], none, none, rfl, by unfold gl; rw [if_neg (by omega)]; rfl, e3, hd3, hq3, Nat.le_refl _⟩ (fun i σ H' _ h => ?_) (fun i x σ H' hi h => ?_) (fun σ H' h => ?_)⟩
    · obtain ⟨_, _, _, _, _, _, _, _, _, z, _⟩ := h
      exact SqL.of z
    · obtain ⟨off, low, b, v5, v6, rfl, eq, e, hd, hq, bl⟩ := h
      obtain ⟨c, hc, t, rfl, ht0⟩ := paired_at hrv hi
      have ht := seq_t e ht0
      have li := (List.getElem?_eq_some_iff.mp hc).1
      rw [List.length_reverse] at li
      have okc := ok c (List.mem_reverse.mp (List.mem_of_getElem? hc))
      have nbc := nb c (List.mem_reverse.mp (List.mem_of_getElem? hc))
      have dr : es.reverse.drop i = c :: es.reverse.drop (i + 1) := by
        obtain ⟨lt, ec⟩ := List.getElem?_eq_some_iff.mp hc
        rw [List.drop_eq_getElem_cons lt, ec]
      rw [dr] at eq
      refine ⟨_, rfl, _, _, rfl, rfl, _, rfl, ite2 (fun c1 => ?_) (fun c1 => ?_)⟩
      · have c1' : low < 1 := of_decide_eq_true c1
        unfold gl at eq
        rw [if_pos c1'] at eq
        refine iteT ⟨_, rfl, (by show 2 ≤ sizeLine; decide), fun p np => ?_⟩
        exact ks none b eq _ p d (e.trans (new_same np)) (e.free np) upd_same (new_same np _ _ hd) (by omega)
      have c1' : ¬ low < 1 := fun z => c1 (decide_eq_true z)
      unfold gl at eq
      rw [if_neg c1'] at eq
      have glI : ∀ r o x y, 1 ≤ x → gl r o x y = go r o x y := fun r o x y h => by
        unfold gl
        rw [if_neg (by omega)]
      cases c with
      | stop =>
        refine ⟨_, rfl, t, _, 0, _, rfl, rfl, ht, rfl, rfl, true, by decide +kernel, iteT ?_⟩
        refine ⟨_, rfl, (by show 2 ≤ sizeLine; decide), fun p np => ?_⟩
        exact ks none b eq _ p d (e.trans (new_same np)) (e.free np) upd_same (new_same np _ _ hd) (by omega)
      | home =>
        refine ⟨_, rfl, t, _, 0, _, rfl, rfl, ht, rfl, rfl, false, by decide +kernel, iteF ?_⟩
        refine ⟨_, rfl, t, _, 0, _, rfl, rfl, ht, rfl, rfl, true, by decide +kernel, iteT ?_⟩
        exact kn eq H' e
      | down n =>
        have nb' : n < 10 ^ 40 := nbc
        have n1 : 1 ≤ n := okc
        refine ⟨_, rfl, t, _, 0, _, rfl, rfl, ht, rfl, rfl, false, by decide +kernel, iteF ?_⟩
        refine ⟨_, rfl, t, _, 0, _, rfl, rfl, ht, rfl, rfl, false, by decide +kernel, iteF ?_⟩
        refine ⟨_, rfl, t, _, 0, _, rfl, rfl, ht, rfl, (by show 2 ≤ sizeLine; decide), fun p1 np1 => ?_⟩
        have f1 := new_same (o := HO.lst [V.str "down", .str "up"]) np1
        have h1 : (upd H' p1 (.lst [V.str "down", .str "up"])) p1 = some (.lst [V.str "down", .str "up"]) := upd_same
        have ht1 := seq_t f1 ht
        generalize upd H' p1 (.lst [V.str "down", .str "up"]) = G1 at f1 h1 ht1 ⊢
        refine ⟨p1, _, rfl, .inl (SqL.of h1), rfl, rfl, true, by decide +kernel, iteT ?_⟩
        refine ⟨_, rfl, _, rfl, t, _, 1, _, rfl, rfl, ht1, rfl, _, rfl, (by show 2 ≤ sizeLine; decide), fun p2 np2 => ?_⟩
        have f2 := f1.trans (new_same (o := HO.lst [V.int 1, .int (-1)]) np2)
        have h2 : (upd G1 p2 (.lst [V.int 1, .int (-1)])) p2 = some (.lst [V.int 1, .int (-1)]) := upd_same
        have ht2 := seq_t (new_same (o := HO.lst [V.int 1, .int (-1)]) np2) ht1
        generalize upd G1 p2 (.lst [V.int 1, .int (-1)]) = G2 at f2 h2 ht2 ⊢
        refine ⟨_, rfl, t, _, 0, _, rfl, rfl, ht2, rfl, rfl, .inr ⟨_, rfl, p2, _, _, _, rfl, rfl, SqL.of h2, at_fP (by decide +kernel), _, _, rfl, rfl, wide_mul (a := 134) (b := 2) (by omega) (by decide) (by decide) (by decide) (by decide), _, _, rfl, rfl, ?_⟩⟩
        refine ⟨off - n * 1, low, b, _, v6, rfl, ?_, e.trans f2, f2 _ _ hd, f2 _ _ hq, by omega⟩
        rw [eq, glI _ _ _ _ (by omega), show off - n * 1 = off - (Cmd.down n).dv by show _ = off - (n); omega]
        simp only [go]
        first | rfl | (rw [show off - (Cmd.down n).dv = off + n by show off - (-n) = _; omega])
      | up n =>
        have nb' : n < 10 ^ 40 := nbc
        have n1 : 1 ≤ n := okc
        refine ⟨_, rfl, t, _, 0, _, rfl, rfl, ht, rfl, rfl, false, by decide +kernel, iteF ?_⟩
        refine ⟨_, rfl, t, _, 0, _, rfl, rfl, ht, rfl, rfl, false, by decide +kernel, iteF ?_⟩
        refine ⟨_, rfl, t, _, 0, _, rfl, rfl, ht, rfl, (by show 2 ≤ sizeLine; decide), fun p1 np1 => ?_⟩
        have f1 := new_same (o := HO.lst [V.str "down", .str "up"]) np1
        have h1 : (upd H' p1 (.lst [V.str "down", .str "up"])) p1 = some (.lst [V.str "down", .str "up"]) := upd_same
        have ht1 := seq_t f1 ht
        generalize upd H' p1 (.lst [V.str "down", .str "up"]) = G1 at f1 h1 ht1 ⊢
        refine ⟨p1, _, rfl, .inl (SqL.of h1), rfl, rfl, true, by decide +kernel, iteT ?_⟩
        refine ⟨_, rfl, _, rfl, t, _, 1, _, rfl, rfl, ht1, rfl, _, rfl, (by show 2 ≤ sizeLine; decide), fun p2 np2 => ?_⟩
        have f2 := f1.trans (new_same (o := HO.lst [V.int 1, .int (-1)]) np2)
        have h2 : (upd G1 p2 (.lst [V.int 1, .int (-1)])) p2 = some (.lst [V.int 1, .int (-1)]) := upd_same
        have ht2 := seq_t (new_same (o := HO.lst [V.int 1, .int (-1)]) np2) ht1
        generalize upd G1 p2 (.lst [V.int 1, .int (-1)]) = G2 at f2 h2 ht2 ⊢
        refine ⟨_, rfl, t, _, 0, _, rfl, rfl, ht2, rfl, rfl, .inr ⟨_, rfl, p2, _, _, _, rfl, rfl, SqL.of h2, at_tP (by decide +kernel), _, _, rfl, rfl, wide_mul (a := 134) (b := 2) (by omega) (by decide) (by decide) (by decide) (by decide), _, _, rfl, rfl, ?_⟩⟩
        refine ⟨off - n * (-1), low, b, _, v6, rfl, ?_, e.trans f2, f2 _ _ hd, f2 _ _ hq, by omega⟩
        rw [eq, glI _ _ _ _ (by omega), show off - n * (-1) = off - (Cmd.up n).dv by show _ = off - (-n); omega]
        simp only [go]
        first | rfl | (rw [show off - (Cmd.up n).dv = off + n by show off - (-n) = _; omega])
      | right n =>
        have nb' : n < 10 ^ 40 := nbc
        have n1 : 1 ≤ n := okc
        refine ⟨_, rfl, t, _, 0, _, rfl, rfl, ht, rfl, rfl, false, by decide +kernel, iteF ?_⟩
        refine ⟨_, rfl, t, _, 0, _, rfl, rfl, ht, rfl, rfl, false, by decide +kernel, iteF ?_⟩
        refine ⟨_, rfl, t, _, 0, _, rfl, rfl, ht, rfl, (by show 2 ≤ sizeLine; decide), fun p1 np1 => ?_⟩
        have f1 := new_same (o := HO.lst [V.str "down", .str "up"]) np1
        have h1 : (upd H' p1 (.lst [V.str "down", .str "up"])) p1 = some (.lst [V.str "down", .str "up"]) := upd_same
        have ht1 := seq_t f1 ht
        have hd1 := f1 _ _ hd
        generalize upd H' p1 (.lst [V.str "down", .str "up"]) = G1 at f1 h1 ht1 hd1 ⊢
        refine ⟨p1, _, rfl, .inl (SqL.of h1), rfl, rfl, false, by decide +kernel, iteF ?_⟩
        refine ⟨_, rfl, _, rfl, t, _, 1, _, rfl, rfl, ht1, rfl, _, rfl, t, _, 0, _, rfl, rfl, ht1, rfl, rfl, .inr ⟨_, rfl, _, _, rfl, rfl, wide_mul (a := 134) (b := 2) (by omega) (by split <;> decide) (by decide) (by decide) (by decide), _, _, rfl, rfl, ?_⟩⟩
        rw [if_neg (show ¬ (decide (V.str "right" = V.str "left")) = true by decide +kernel)]
        refine ⟨_, rfl, _, rfl, d, rfl, .inl ⟨_, .inl hd1⟩, _, rfl, _, DGet.k (k := Sum.inl off) hd1, (low + n * 0), (look b off).getD 0, (by rw [eg]), ?_⟩
        rw [mxI b off (low + n * 0) (by omega)]
        refine ⟨_, rfl, _, rfl, d, _, rfl, DPut.k (k := Sum.inl off) hd1 (by unfold dkI; rw [List.length_map]; exact lt_line (by omega)), ?_⟩
        rw [putK_dkI]
        have f2 : Same H (upd G1 d (.dK (dkI (put b off (mx (low + n * 0) ((look b off).getD (low + n * 0))))))) := same_freeU (e.trans f1) nd0
        have hd2 : (upd G1 d (.dK (dkI (put b off (mx (low + n * 0) ((look b off).getD (low + n * 0))))))) d = some (.dK (dkI (req b off (low + n * 0)))) := upd_same
        have ht2 := tup_dK (o := .dK (dkI (put b off (mx (low + n * 0) ((look b off).getD (low + n * 0)))))) ht1 hd1
        have hq2 : (upd G1 d (.dK (dkI (put b off (mx (low + n * 0) ((look b off).getD (low + n * 0))))))) q = some (.lst xs.reverse) := by
          rw [upd_ne qd]
          exact f1 _ _ hq
        generalize upd G1 d (.dK (dkI (put b off (mx (low + n * 0) ((look b off).getD (low + n * 0)))))) = G2 at f2 hd2 ht2 hq2 ⊢
        have rl : (req b off (low + n * 0)).length ≤ i + 1 := by
          have := len_put b off (mx (low + n * 0) ((look b off).getD (low + n * 0)))
          show (put b off _).length ≤ i + 1
          omega
        refine ⟨_, rfl, _, rfl, t, _, 1, _, rfl, rfl, ht2, rfl, _, rfl, (by show 2 ≤ sizeLine; decide), fun p2 np2 => ?_⟩
        have f3 := new_same (o := HO.lst [V.int (-1), .int 1]) np2
        have h2 : (upd G2 p2 (.lst [V.int (-1), .int 1])) p2 = some (.lst [V.int (-1), .int 1]) := upd_same
        have ht3 := seq_t f3 ht2
        refine ⟨_, rfl, t, _, 0, _, rfl, rfl, ht3, rfl, rfl, .inr ⟨_, rfl, p2, _, _, _, rfl, rfl, SqL.of h2, at_fP (by decide +kernel), _, _, rfl, rfl, wide_mul (a := 134) (b := 2) (by omega) (by decide) (by decide) (by decide) (by decide), _, _, rfl, rfl, ?_⟩⟩
        refine ⟨off, low + n * (-1), req b off (low + n * 0), _, _, rfl, ?_, f2.trans f3, f3 _ _ hd2, f3 _ _ hq2, rl⟩
        rw [eq]
        simp only [go]
        unfold gl
        first
          | (rw [show low + n * 0 = low by omega]
             by_cases z : low > n
             · rw [if_pos z, if_neg (by omega), show low + n * (-1) = low - n by omega]
             · rw [if_neg z, if_pos (by omega)])
          | (rw [if_neg (by omega), show low + n * (-1) = low + n by omega])
      | left n =>
        have nb' : n < 10 ^ 40 := nbc
        have n1 : 1 ≤ n := okc
        refine ⟨_, rfl, t, _, 0, _, rfl, rfl, ht, rfl, rfl, false, by decide +kernel, iteF ?_⟩
        refine ⟨_, rfl, t, _, 0, _, rfl, rfl, ht, rfl, rfl, false, by decide +kernel, iteF ?_⟩
        refine ⟨_, rfl, t, _, 0, _, rfl, rfl, ht, rfl, (by show 2 ≤ sizeLine; decide), fun p1 np1 => ?_⟩
        have f1 := new_same (o := HO.lst [V.str "down", .str "up"]) np1
        have h1 : (upd H' p1 (.lst [V.str "down", .str "up"])) p1 = some (.lst [V.str "down", .str "up"]) := upd_same
        have ht1 := seq_t f1 ht
        have hd1 := f1 _ _ hd
        generalize upd H' p1 (.lst [V.str "down", .str "up"]) = G1 at f1 h1 ht1 hd1 ⊢
        refine ⟨p1, _, rfl, .inl (SqL.of h1), rfl, rfl, false, by decide +kernel, iteF ?_⟩
        refine ⟨_, rfl, _, rfl, t, _, 1, _, rfl, rfl, ht1, rfl, _, rfl, t, _, 0, _, rfl, rfl, ht1, rfl, rfl, .inr ⟨_, rfl, _, _, rfl, rfl, wide_mul (a := 134) (b := 2) (by omega) (by split <;> decide) (by decide) (by decide) (by decide), _, _, rfl, rfl, ?_⟩⟩
        rw [if_pos (show (decide (V.str "left" = V.str "left")) = true by decide +kernel), Int.mul_one]
        refine ⟨_, rfl, _, rfl, d, rfl, .inl ⟨_, .inl hd1⟩, _, rfl, _, DGet.k (k := Sum.inl off) hd1, (low + n), (look b off).getD 0, (by rw [eg]), ?_⟩
        rw [mxI b off (low + n) (by omega)]
        refine ⟨_, rfl, _, rfl, d, _, rfl, DPut.k (k := Sum.inl off) hd1 (by unfold dkI; rw [List.length_map]; exact lt_line (by omega)), ?_⟩
        rw [putK_dkI]
        have f2 : Same H (upd G1 d (.dK (dkI (put b off (mx (low + n) ((look b off).getD (low + n))))))) := same_freeU (e.trans f1) nd0
        have hd2 : (upd G1 d (.dK (dkI (put b off (mx (low + n) ((look b off).getD (low + n))))))) d = some (.dK (dkI (req b off (low + n)))) := upd_same
        have ht2 := tup_dK (o := .dK (dkI (put b off (mx (low + n) ((look b off).getD (low + n)))))) ht1 hd1
        have hq2 : (upd G1 d (.dK (dkI (put b off (mx (low + n) ((look b off).getD (low + n))))))) q = some (.lst xs.reverse) := by
          rw [upd_ne qd]
          exact f1 _ _ hq
        generalize upd G1 d (.dK (dkI (put b off (mx (low + n) ((look b off).getD (low + n)))))) = G2 at f2 hd2 ht2 hq2 ⊢
        have rl : (req b off (low + n)).length ≤ i + 1 := by
          have := len_put b off (mx (low + n) ((look b off).getD (low + n)))
          show (put b off _).length ≤ i + 1
          omega
        refine ⟨_, rfl, _, rfl, t, _, 1, _, rfl, rfl, ht2, rfl, _, rfl, (by show 2 ≤ sizeLine; decide), fun p2 np2 => ?_⟩
        have f3 := new_same (o := HO.lst [V.int (-1), .int 1]) np2
        have h2 : (upd G2 p2 (.lst [V.int (-1), .int 1])) p2 = some (.lst [V.int (-1), .int 1]) := upd_same
        have ht3 := seq_t f3 ht2
        refine ⟨_, rfl, t, _, 0, _, rfl, rfl, ht3, rfl, rfl, .inr ⟨_, rfl, p2, _, _, _, rfl, rfl, SqL.of h2, at_tP (by decide +kernel), _, _, rfl, rfl, wide_mul (a := 134) (b := 2) (by omega) (by decide) (by decide) (by decide) (by decide), _, _, rfl, rfl, ?_⟩⟩
        refine ⟨off, low + n * 1, req b off (low + n), _, _, rfl, ?_, f2.trans f3, f3 _ _ hd2, f3 _ _ hq2, rl⟩
        rw [eq]
        simp only [go]
        unfold gl
        first
          | (rw [show low + n * 0 = low by omega]
             by_cases z : low > n
             · rw [if_pos z, if_neg (by omega), show low + n * 1 = low - n by omega]
             · rw [if_neg z, if_pos (by omega)])
          | (rw [if_neg (by omega), show low + n * 1 = low + n by omega])
    · obtain ⟨off, low, b, v5, v6, rfl, eq, e, hd, hq, bl⟩ := h
      rw [List.length_reverse, hcs.len, List.drop_of_length_le (by rw [List.length_reverse]; exact Nat.le_refl _)] at eq
      rw [List.length_reverse, hcs.len] at bl
      refine ⟨_, rfl, _, _, rfl, rfl, _, rfl, ite2 (fun c => ?_) (fun c => ?_)⟩
      · have c' : 0 < low := of_decide_eq_true c
        unfold gl at eq
        rw [if_neg (by omega)] at eq
        refine ⟨_, rfl, _, rfl, (by show 2 ≤ sizeLine; decide), fun p np => ?_⟩
        exact ks (some low) b eq _ p d (e.trans (new_same np)) (e.free np) upd_same (new_same np _ _ hd) (by omega)
      · have c' : ¬ 0 < low := fun z => c (decide_eq_true z)
        unfold gl at eq
        rw [if_pos (by omega)] at eq
        refine ⟨_, rfl, (by show 2 ≤ sizeLine; decide), fun p np => ?_⟩
        exact ks none b eq _ p d (e.trans (new_same np)) (e.free np) upd_same (new_same np _ _ hd) (by omega)
theorem sc_law_reach : FnScope ["keys", "here", "some", "key"] ["keys"] (defScope s_lrch) := ⟨rfl, rfl, rfl, by decide +kernel, rfl, by decide +kernel, by decide +kernel⟩
theorem ok_lrch {f : Addr} {fd : FuncData} (F : Fun K "_law_reach" "_law_reach" s_lrch f fd) (T : TxtLb mg) : FnOk P w K mg base CX0 1 f fd ["keys"] (spLRch18 K) := by
  refine F.ok sc_law_reach (fun vs H Q E h => ?_) (fun cdv A outer s H vs Q E hr h => ?_)
  · obtain ⟨l, xs, es, rfl, _⟩ := h
    rfl
  · obtain ⟨l, xs, es, rfl, hl, hcs, ok, nb, l100, k⟩ := h
    refine ⟨_, (pss_cons (ps_par (i := 1) (j := 2) rfl sc_law_reach.nd rfl rfl (by decide) rfl rfl (pa_cons pe_int (pa_cons (pe_lst (pa_cons pe_int pa_nil)) pa_nil)) (by rfl))
      (pss_cons (ps_for PassesOwn.never rfl (pi_list (pv 0)) (pg_name (i := 3) sc_law_reach.nd rfl (Or.inl rfl)) (pss_one (ps_if (pt_cmpR op_in_seq (pe_ix ix_tup (pv 3) pe_int (fun _ _ => rfl)) (pe_lst (pa_cons pe_str (pa_cons pe_str pa_nil))) (by rfl)) (pss_cons (ps_set (i := 1) sc_law_reach.nd rfl (Or.inl rfl) (pe_op op_add (pv 1) (pe_op op_mulW (pe_ix ix_tup (pv 3) pe_int (fun _ _ => rfl)) (pe_ix ix_list (pe_lst (pa_cons pe_int (pa_cons (pe_un un_neg pe_int) pa_nil))) (pe_callTy call_int1 (by rfl) T.int (by decide +kernel) (pa_cons (pe_cmpR op_eq (pe_ix ix_tup (pv 3) pe_int (fun _ _ => rfl)) pe_str (nomark _)) pa_nil)) (fun _ _ => rfl)))))
      (pss_one (ps_expr (pe_bm PySem.F.plainAttrs_list PySem.F.slot_list_append PySem.F.type_list_append mt_append (pv 2) (pa_cons (pv 1) pa_nil))))) pss_nil)))
      (pss_one (ps_ret (pe_tup (pa_cons (pe_callB (call_minI rfl) (by rfl) T.min (by decide +kernel) (pa_cons (pv 2) pa_nil)) (pa_cons (pe_callB (call_maxI rfl) (by rfl) T.max (by decide +kernel) (pa_cons (pv 2) pa_nil)) (pa_cons (pv 1) pa_nil)))))))), ?_⟩
    refine ⟨(by show 1 ≤ sizeLine; decide), fun s ns => ?_⟩
    have e1 := new_same (o := HO.lst [V.int 0]) ns
    have hs1 : (upd H s (.lst [V.int 0])) s = some (.lst [V.int 0]) := upd_same
    generalize upd H s (.lst [V.int 0]) = H1 at e1 hs1 ⊢
    refine ⟨_, _, rfl, ?_⟩
    refine ⟨_, rfl, l, rfl, ⟨_, e1.seq hl⟩, for_list (K := K) (a := l) (xs := xs) (fun i σ H' => ∃ (ns : List Int) (v3 : Option V), σ = [some (.ref l), some (.int (last (es.take i))), some (.ref s), v3] ∧ Same H H' ∧ H' s = some (.lst (ns.map V.int)) ∧ ns.length ≤ i + 1 ∧ (∀ z ∈ ns, ∃ j, last (es.take j) = z) ∧ ∀ j, j ≤ i → last (es.take j) ∈ ns)
      ⟨[0], none, rfl, e1, hs1, Nat.le_refl _, (fun z hz => ⟨0, (List.mem_singleton.mp hz).symm⟩), fun j hj => by
        obtain rfl : j = 0 := by omega
        exact List.mem_cons_self⟩ (fun i σ H' _ h => ?_) (fun i x σ H' hi h => ?_) (fun σ H' h => ?_)⟩
    · obtain ⟨_, _, _, e, _⟩ := h
      exact e.seq hl
    · obtain ⟨ms, v3, rfl, e, hs, ml, a1, a2⟩ := h
      obtain ⟨c, hc, t, rfl, ht0⟩ := paired_at hcs hi
      have ht := seq_t e ht0
      have li := (List.getElem?_eq_some_iff.mp hc).1
      have okc := ok c (List.mem_of_getElem? hc)
      have nbc := nb c (List.mem_of_getElem? hc)
      have ls : last (es.take (i + 1)) = last (es.take i) + c.dv := by rw [takeS hc, dv_snoc]
      cases c with
      | down n =>
        have nb' : n < 10 ^ 40 := nbc
        have n1 : 1 ≤ n := okc
        refine ⟨_, rfl, t, _, 0, _, rfl, rfl, ht, rfl, (by show 2 ≤ sizeLine; decide), fun p1 np1 => ?_⟩
        have f1 := new_same (o := HO.lst [V.str "down", .str "up"]) np1
        have h1 : (upd H' p1 (.lst [V.str "down", .str "up"])) p1 = some (.lst [V.str "down", .str "up"]) := upd_same
        have ht1 := seq_t f1 ht
        generalize upd H' p1 (.lst [V.str "down", .str "up"]) = G1 at f1 h1 ht1 ⊢
        refine ⟨p1, _, rfl, .inl (SqL.of h1), rfl, rfl, true, by decide +kernel, iteT ?_⟩
        refine ⟨_, rfl, _, rfl, t, _, 1, _, rfl, rfl, ht1, rfl, _, rfl, (by show 2 ≤ sizeLine; decide), fun p2 np2 => ?_⟩
        have f2 := f1.trans (new_same (o := HO.lst [V.int 1, .int (-1)]) np2)
        have h2 : (upd G1 p2 (.lst [V.int 1, .int (-1)])) p2 = some (.lst [V.int 1, .int (-1)]) := upd_same
        have ht2 := seq_t (new_same (o := HO.lst [V.int 1, .int (-1)]) np2) ht1
        generalize upd G1 p2 (.lst [V.int 1, .int (-1)]) = G2 at f2 h2 ht2 ⊢
        refine ⟨_, rfl, t, _, 0, _, rfl, rfl, ht2, rfl, rfl, .inr ⟨_, rfl, p2, _, _, _, rfl, rfl, SqL.of h2, at_fP (by decide +kernel), _, _, rfl, rfl, wide_mul (a := 134) (b := 2) (by omega) (by decide) (by decide) (by decide) (by decide), _, _, rfl, rfl, ?_⟩⟩
        have hs2 := f2 _ _ hs
        refine ⟨_, rfl, .inl ⟨rfl, _, SqL.of hs2⟩, _, rfl, s, _, _, rfl, rfl, hs2, lt_line (by rw [List.length_map]; omega), ?_⟩
        have ev : last (es.take i) + n * 1 = last (es.take (i + 1)) := by
          rw [ls]
          show _ = _ + (n)
          omega
        refine ⟨ms ++ [last (es.take i) + n * 1], _, by rw [ls, show n * 1 = (Cmd.down n).dv by show _ = (n); omega]; rfl, same_freeU (e.trans f2) ns, by rw [upd_same, List.map_append]; rfl, by rw [List.length_append]; exact Nat.succ_le_succ ml, fun z hz => ?_, fun j hj => ?_⟩
        · rcases List.mem_append.mp hz with y | y
          · exact a1 z y
          · exact ⟨i + 1, by rw [List.mem_singleton.mp y, ev]⟩
        · by_cases ej : j = i + 1
          · rw [ej, ← ev]
            exact List.mem_append_right _ List.mem_cons_self
          · exact List.mem_append_left _ (a2 j (by omega))
      | up n =>
        have nb' : n < 10 ^ 40 := nbc
        have n1 : 1 ≤ n := okc
        refine ⟨_, rfl, t, _, 0, _, rfl, rfl, ht, rfl, (by show 2 ≤ sizeLine; decide), fun p1 np1 => ?_⟩
        have f1 := new_same (o := HO.lst [V.str "down", .str "up"]) np1
        have h1 : (upd H' p1 (.lst [V.str "down", .str "up"])) p1 = some (.lst [V.str "down", .str "up"]) := upd_same
        have ht1 := seq_t f1 ht
        generalize upd H' p1 (.lst [V.str "down", .str "up"]) = G1 at f1 h1 ht1 ⊢
        refine ⟨p1, _, rfl, .inl (SqL.of h1), rfl, rfl, true, by decide +kernel, iteT ?_⟩
        refine ⟨_, rfl, _, rfl, t, _, 1, _, rfl, rfl, ht1, rfl, _, rfl, (by show 2 ≤ sizeLine; decide), fun p2 np2 => ?_⟩
        have f2 := f1.trans (new_same (o := HO.lst [V.int 1, .int (-1)]) np2)
        have h2 : (upd G1 p2 (.lst [V.int 1, .int (-1)])) p2 = some (.lst [V.int 1, .int (-1)]) := upd_same
        have ht2 := seq_t (new_same (o := HO.lst [V.int 1, .int (-1)]) np2) ht1
        generalize upd G1 p2 (.lst [V.int 1, .int (-1)]) = G2 at f2 h2 ht2 ⊢
        refine ⟨_, rfl, t, _, 0, _, rfl, rfl, ht2, rfl, rfl, .inr ⟨_, rfl, p2, _, _, _, rfl, rfl, SqL.of h2, at_tP (by decide +kernel), _, _, rfl, rfl, wide_mul (a := 134) (b := 2) (by omega) (by decide) (by decide) (by decide) (by decide), _, _, rfl, rfl, ?_⟩⟩
        have hs2 := f2 _ _ hs
        refine ⟨_, rfl, .inl ⟨rfl, _, SqL.of hs2⟩, _, rfl, s, _, _, rfl, rfl, hs2, lt_line (by rw [List.length_map]; omega), ?_⟩
        have ev : last (es.take i) + n * (-1) = last (es.take (i + 1)) := by
          rw [ls]
          show _ = _ + (-n)
          omega
        refine ⟨ms ++ [last (es.take i) + n * (-1)], _, by rw [ls, show n * (-1) = (Cmd.up n).dv by show _ = (-n); omega]; rfl, same_freeU (e.trans f2) ns, by rw [upd_same, List.map_append]; rfl, by rw [List.length_append]; exact Nat.succ_le_succ ml, fun z hz => ?_, fun j hj => ?_⟩
        · rcases List.mem_append.mp hz with y | y
          · exact a1 z y
          · exact ⟨i + 1, by rw [List.mem_singleton.mp y, ev]⟩
        · by_cases ej : j = i + 1
          · rw [ej, ← ev]
            exact List.mem_append_right _ List.mem_cons_self
          · exact List.mem_append_left _ (a2 j (by omega))
      | right n =>
        refine ⟨_, rfl, t, _, 0, _, rfl, rfl, ht, rfl, (by show 2 ≤ sizeLine; decide), fun p1 np1 => ?_⟩
        have f1 := new_same (o := HO.lst [V.str "down", .str "up"]) np1
        have h1 : (upd H' p1 (.lst [V.str "down", .str "up"])) p1 = some (.lst [V.str "down", .str "up"]) := upd_same
        refine ⟨p1, _, rfl, .inl (SqL.of h1), rfl, rfl, false, by decide +kernel, iteF ?_⟩
        have ev : last (es.take (i + 1)) = last (es.take i) := by
          rw [ls]
          show _ + (0 : Int) = _
          omega
        refine ⟨ms, _, by rw [ev]; rfl, e.trans f1, f1 _ _ hs, Nat.le_succ_of_le ml, a1, fun j hj => ?_⟩
        by_cases ej : j = i + 1
        · rw [ej, ev]
          exact a2 i (Nat.le_refl _)
        · exact a2 j (by omega)
      | left n =>
        refine ⟨_, rfl, t, _, 0, _, rfl, rfl, ht, rfl, (by show 2 ≤ sizeLine; decide), fun p1 np1 => ?_⟩
        have f1 := new_same (o := HO.lst [V.str "down", .str "up"]) np1
        have h1 : (upd H' p1 (.lst [V.str "down", .str "up"])) p1 = some (.lst [V.str "down", .str "up"]) := upd_same
        refine ⟨p1, _, rfl, .inl (SqL.of h1), rfl, rfl, false, by decide +kernel, iteF ?_⟩
        have ev : last (es.take (i + 1)) = last (es.take i) := by
          rw [ls]
          show _ + (0 : Int) = _
          omega
        refine ⟨ms, _, by rw [ev]; rfl, e.trans f1, f1 _ _ hs, Nat.le_succ_of_le ml, a1, fun j hj => ?_⟩
        by_cases ej : j = i + 1
        · rw [ej, ev]
          exact a2 i (Nat.le_refl _)
        · exact a2 j (by omega)
      | home =>
        refine ⟨_, rfl, t, _, 0, _, rfl, rfl, ht, rfl, (by show 2 ≤ sizeLine; decide), fun p1 np1 => ?_⟩
        have f1 := new_same (o := HO.lst [V.str "down", .str "up"]) np1
        have h1 : (upd H' p1 (.lst [V.str "down", .str "up"])) p1 = some (.lst [V.str "down", .str "up"]) := upd_same
        refine ⟨p1, _, rfl, .inl (SqL.of h1), rfl, rfl, false, by decide +kernel, iteF ?_⟩
        have ev : last (es.take (i + 1)) = last (es.take i) := by
          rw [ls]
          show _ + (0 : Int) = _
          omega
        refine ⟨ms, _, by rw [ev]; rfl, e.trans f1, f1 _ _ hs, Nat.le_succ_of_le ml, a1, fun j hj => ?_⟩
        by_cases ej : j = i + 1
        · rw [ej, ev]
          exact a2 i (Nat.le_refl _)
        · exact a2 j (by omega)
      | stop =>
        refine ⟨_, rfl, t, _, 0, _, rfl, rfl, ht, rfl, (by show 2 ≤ sizeLine; decide), fun p1 np1 => ?_⟩
        have f1 := new_same (o := HO.lst [V.str "down", .str "up"]) np1
        have h1 : (upd H' p1 (.lst [V.str "down", .str "up"])) p1 = some (.lst [V.str "down", .str "up"]) := upd_same
        refine ⟨p1, _, rfl, .inl (SqL.of h1), rfl, rfl, false, by decide +kernel, iteF ?_⟩
        have ev : last (es.take (i + 1)) = last (es.take i) := by
          rw [ls]
          show _ + (0 : Int) = _
          omega
        refine ⟨ms, _, by rw [ev]; rfl, e.trans f1, f1 _ _ hs, Nat.le_succ_of_le ml, a1, fun j hj => ?_⟩
        by_cases ej : j = i + 1
        · rw [ej, ev]
          exact a2 i (Nat.le_refl _)
        · exact a2 j (by omega)
    · obtain ⟨ms, v3, rfl, e, hs, ml, a1, a2⟩ := h
      rw [hcs.len, List.take_length]
      rw [hcs.len] at a2
      obtain ⟨⟨i1, e1'⟩, ⟨j1, e2'⟩⟩ := rch_hits5 es
      have W := (rch_within5 es).1
      have all : ∀ j, last (es.take j) ∈ ms := fun j => by
        by_cases lj : j ≤ es.length
        · exact a2 j lj
        · rw [List.take_of_length_le (by omega), ← List.take_length (l := es)]
          exact a2 es.length (Nat.le_refl _)
      have ne : ms ≠ [] := fun z => by
        have := all 0
        rw [z] at this
        cases this
      refine ⟨_, rfl, s, ms, rfl, SqL.of hs, ne, fun mn hm hmin => ?_⟩
      refine ⟨_, rfl, s, ms, rfl, SqL.of hs, ne, fun mx hx hmax => ?_⟩
      have q1 : mn = (rchM es).1 := by
        have z1 := hmin _ (all i1)
        obtain ⟨j, ej⟩ := a1 mn hm
        have z2 := (W j).1
        rw [e1'] at z1
        omega
      have q2 : mx = (rchM es).2.1 := by
        have z1 := hmax _ (all j1)
        obtain ⟨j, ej⟩ := a1 mx hx
        have z2 := (W j).2
        rw [e2'] at z1
        omega
      rw [q1, q2]
      refine ⟨_, rfl, (by show 3 ≤ sizeLine; decide), fun p np => ?_⟩
      exact k _ p (e.trans (new_same np)) (e.free np) upd_same
end
end Gc

/-! set(xs), xs a list of ints: a set as the hand layer's sorted and its like want it -/
namespace Gc
open PySem PySem.Spec PyProof.Rows L2
/-- the empty set that is made first, and the walk over the list -/
def nsO (w : World) : Obj := ⟨.type "set", none, .set #[] 0 (.fresh 0 0 (!w.params.followText "set-order")), #[]⟩
def liO (l : Addr) : Obj := ⟨.type "list_iterator", none, .fields #[.ref l, .int 0 0], #[]⟩
section
variable {P : Program} {w : World} {A : Around} {E : Value → Shared → Prop} {s : Shared}
/-- the set after such a walk -/
def SetMade (w : World) (s : Shared) (ns : List Int) (r : Value) (s' : Shared) : Prop := r = .none ∧ ∃ (h' : Heap) (tk c : Nat), s' = { s with heap := h', toks := tk } ∧ SetR w h' s.heap.objs.size (fun j => decide (j ∈ ns)) c ∧ c ≤ ns.length ∧ ∀ b o, s.heap.get? b = some o → h'.get? b = some o
theorem fill_set {l : Addr} {items : Array Value} (ns : List Int) (hh : A.handled = none) (hl : s.heap.IsList l items) (hit : IntsAre items.toList ns) (hb : ns.length + 1 < scanBound) :
    codeAny (model P w) A (.builtin "set.update.loop" ⟨[.ref s.heap.objs.size, .ref (s.heap.push (nsO w)).objs.size], []⟩) (fun r s' => ∃ v, r = .ok (.ret v) ∧ SetMade w s ns v s') { s with heap := (s.heap.push (nsO w)).push (liO l) } := by
  obtain ⟨ol, hol, hl'⟩ := id hl
  have lt : l < s.heap.objs.size := Heap.lt_size hol
  have z1 : (s.heap.push (nsO w)).objs.size = s.heap.objs.size + 1 := Heap.size_push ..
  have len : items.size = ns.length := by
    have q := IntsAre.length hit
    rwa [Array.length_toList] at q
  have gS : (s.heap.push (nsO w)).get? s.heap.objs.size = some (nsO w) := Heap.get?_push_size _ rfl
  have notin : s.heap.objs.size ∉ [(s.heap.push (nsO w)).objs.size, l] := by
    simp only [z1, List.mem_cons, List.not_mem_nil, or_false, not_or]
    exact ⟨Nat.ne_of_lt (Nat.lt_succ_self _), Nat.ne_of_gt lt⟩
  refine set_update_ints (fp := [(s.heap.push (nsO w)).objs.size, l]) (wr := [(s.heap.push (nsO w)).objs.size]) (Walks.list (by simp [hh]) (s.heap.push (nsO w)).objs.size l (by rw [z1]; exact Nat.ne_of_lt (Nat.lt_succ_of_lt lt)) items).toS s.heap.objs.size notin ns len hb (fun i v hv => ?_) (items.size - 0) 0 _ (by omega) (Nat.zero_le _)
    ⟨⟨_, Heap.get?_push_size _ rfl, rfl, rfl⟩, (hl.push _).push _⟩ ⟨0, Nat.le_refl 0, setR_new_at (Heap.get?_push_of_some _ gS)⟩ (fun s' c hm hc hS => ?_)
  · have hi : i < ns.length := len ▸ (Array.getElem?_eq_some_iff.mp hv).1
    obtain ⟨t, e⟩ := IntsAre.int_at hit i v (by rwa [Array.getElem?_toList])
    exact ⟨ns[i], t, List.getElem?_eq_getElem hi, by rw [e, List.getD_eq_getElem?_getD, List.getElem?_eq_getElem hi]; rfl⟩
  · obtain ⟨h', g2, d', tk', os'⟩ := s'
    obtain rfl : g2 = s.gens := hm.gens
    obtain rfl : d' = s.drawn := hm.drawn
    obtain rfl : os' = s.os := hm.os
    refine ⟨_, rfl, rfl, h', tk', c, rfl, hS, len ▸ hc, fun b o e => ?_⟩
    have hb0 : b < s.heap.objs.size := Heap.lt_size e
    refine hm.heap b o ?_ (Heap.get?_push_of_some _ (Heap.get?_push_of_some _ e))
    simp only [z1, List.mem_cons, List.not_mem_nil, or_false, not_or]
    exact ⟨Nat.ne_of_lt hb0, Nat.ne_of_lt (Nat.lt_succ_of_lt hb0)⟩
/-- set(l) -/
theorem call_setL {l : Addr} {items : Array Value} (ns : List Int) {Q : Value → Shared → Prop} (hh : A.handled = none) (hl : s.heap.IsList l items) (hit : IntsAre items.toList ns) (hb : ns.length + 1 < scanBound)
    (h : ∀ (h' : Heap) (tk c : Nat), SetR w h' s.heap.objs.size (fun j => decide (j ∈ ns)) c → c ≤ ns.length → (∀ b o, s.heap.get? b = some o → h'.get? b = some o) → Q (.ref s.heap.objs.size) { s with heap := h', toks := tk }) : wpAny (model P w) A (call (.type "set") [.ref l]) Q E s := by
  have gS : (s.heap.push (nsO w)).get? s.heap.objs.size = some (nsO w) := Heap.get?_push_size _ rfl
  have tS : Shared.TypeIs { s with heap := s.heap.push (nsO w) } (.ref s.heap.objs.size) "set" := ⟨_, gS, rfl⟩
  obtain ⟨c, tl, mro⟩ := F.called_set.mro
  have made := F.called_set.made
  have sub := F.called_set.sub
  have n1 := F.called_set.notType
  have n2 := F.called_set.canCreate
  have tc := F.typeCall_set_1 (.ref l)
  refine wpAny_call (codeAny_of_tree ?_)
  show wpAny (model P w) _ (callAny (.type "set") ⟨[.ref l], []⟩) _ _ s
  refine wpAny_pure ⟨Code.quiet_builtin _ (by decide +kernel), codeAny_builtin F.entry_type_call ?_⟩
  rw [Around.under_plain (weight_type_call_type "set" [.ref l] []) (by rfl)]
  repeat (any_goals (first | wp_step | assumption))
  refine codeAny_mono (code_set_led1 (.ref l) (E := E) (Q₁ := fun o s₁ => o = .ref s.heap.objs.size ∧ s₁ = { s with heap := s.heap.push (nsO w) }) ⟨rfl, rfl⟩) fun r s₁ hr => ?_
  match r, hr with
  | .error e, hr => exact hr
  | .ok .next, hr => exact hr.elim
  | .ok .brk, hr => exact hr.elim
  | .ok .cont, hr => exact hr.elim
  | .ok (.ret o), hr =>
    obtain ⟨rfl, rfl⟩ := hr
    have li := F.called_set.init.lookup
    have bi := F.called_set.init.bind (.ref s.heap.objs.size)
    repeat (any_goals (first | wp_step | assumption))
    refine codeAny_mono (codeAny_call_builtin (R := fun r s' => ∃ v, r = .ok (.ret v) ∧ SetMade w s ns v s') F.called_set.init.plain F.entry_set_init (check_set_init_1 tS ?_)) fun r₂ s₂ h₂ => ?_
    · obtain ⟨ol, hol, hcl, nl, hdl⟩ := id hl
      obtain ⟨ocls, odict, odata, oslots⟩ := ol
      simp only at hcl hdl
      subst hcl
      subst hdl
      have tl' : (s.heap.push (nsO w)).get? l = some ⟨.type "list", odict, .seq items nl, oslots⟩ := Heap.get?_push_of_some _ hol
      have b1 := F.sub_list_set
      have b2 := F.sub_list_frozenset
      have b3 : (Value.type "list" == Value.type "dict") = false := by decide
      unfold Builtin.«set.__init__» noKeywords Builtin.Frozenset.updateFrom
      generalize hPI : pyIter = PI
      wp_walk
      subst hPI
      refine wpAny_pyIter_list (hl.push (nsO w)) (wpAny_bind (wpAny_runValue ?_))
      refine codeAny_mono (fill_set (A := A.in1.in1) ns (by simp [hh]) hl hit hb) fun r₃ s₃ h₃ => ?_
      obtain ⟨v, rfl, hv⟩ := h₃
      show wpAny (model P w) _ (pure ()) _ _ s₃
      exact wpAny_pure (wpAny_pure ⟨.none, rfl, rfl, hv.2⟩)
    · obtain ⟨v, rfl, rfl, h', tk, c', rfl, hS, hc, hk⟩ := h₂
      repeat (any_goals (first | wp_step | assumption))
      exact h _ _ _ hS hc hk
end
section
variable {X : Cx}
def rSetL (K : PySem.W.Frag) (w : World) : List V → Hp → VK → Prop := fun xs H Q => ∃ (l : Addr) (ns : List Int), xs = [V.ref l] ∧ SqL K H l (ns.map V.int) ∧ ns.length ≤ 1000 ∧
  ∀ (a : Addr) (c : Nat), H a = none → c ≤ ns.length → Q (.ref a) (upd H a (SetO w a (fun j => decide (j ∈ ns)) c))
theorem cr_setL (hc : X.calm = true) : CallR X (.type "set") (rSetL X.K X.w) := by
  intro pins s σ H xs us Q I r h
  obtain ⟨l, ns, rfl, hl, hf, q⟩ := h
  rw [Vals.ref1 r]
  obtain ⟨its, rv, pl, hz⟩ := I.list hl
  refine call_setL (P := X.prog) (w := X.w) ns (I.ok.hd hc) pl.isList (by simpa using ints_of_vals rv) (by unfold scanBound; omega) fun h' tk c R hcn k => ?_
  exact ⟨.ref s.heap.objs.size, upd H s.heap.objs.size (SetO X.w s.heap.objs.size (fun j => decide (j ∈ ns)) c), I.laid (t' := tk) k (Nat.le_refl _) (setO_new R), rfl, q _ c (I.hok.fresh (Nat.le_refl _)) hcn⟩
end
/-- ascending lists of the same ints are the same -/
theorem ascI_ext : ∀ {xs ys : List Int}, xs.Pairwise (· < ·) → ys.Pairwise (· < ·) → (∀ k, k ∈ xs ↔ k ∈ ys) → xs = ys
  | [], [], _, _, _ => rfl
  | [], y :: ys, _, _, h => nomatch (h y).mpr List.mem_cons_self
  | x :: xs, [], _, _, h => nomatch (h x).mp List.mem_cons_self
  | x :: xs, y :: ys, hx, hy, h => by
    obtain ⟨ax, px⟩ := List.pairwise_cons.mp hx
    obtain ⟨ay, py⟩ := List.pairwise_cons.mp hy
    have e : x = y := by
      rcases List.mem_cons.mp ((h x).mp List.mem_cons_self) with e | m
      · exact e
      · rcases List.mem_cons.mp ((h y).mpr List.mem_cons_self) with e | m2
        · exact e.symm
        · have := ay x m
          have := ax y m2
          omega
    subst e
    rw [ascI_ext px py fun k => ⟨fun m => ?_, fun m => ?_⟩]
    · rcases List.mem_cons.mp ((h k).mp (List.mem_cons_of_mem _ m)) with e | m2
      · have := ax k m
        omega
      · exact m2
    · rcases List.mem_cons.mp ((h k).mpr (List.mem_cons_of_mem _ m)) with e | m2
      · have := ay k m
        omega
      · exact m2
end Gc

/-! the law's own forms (k18) -/
namespace Gc
open PySem L2
abbrev s_lpiece : Stmt := top 36
abbrev s_lform : Stmt := top 37
structure TxtLf (mg : Str → Option Value) : Prop where
  sorted : mg "sorted" = none
  set : mg "set" = none
  int : mg "int" = none
def spLPiece18 (K : PySem.W.Frag) : Sp := fun vs H Q _ => ∃ (l : Addr) (xs : List V) (es : List Cmd) (v : Int), vs = [.ref l, .int v] ∧ SqL K H l xs ∧ CmdsOf K H xs es ∧ AllOk es ∧ (∀ c ∈ es, numC c < 10 ^ 40) ∧ es.length ≤ 60 ∧ 1 ≤ v ∧
  ∀ (H' : Hp) (p : Addr) (lo : Option Addr), Same H H' → H p = none → H' p = some (.tup [optW (dat es v).1, refO lo]) → LinesAt H' lo (dat es v).2 → (∀ a, lo = some a → H a = none) → Q (.ref p) H'
def spLForm18 (K : PySem.W.Frag) : Sp := fun vs H Q _ => ∃ (l : Addr) (xs : List V) (es : List Cmd), vs = [.ref l] ∧ SqL K H l xs ∧ CmdsOf K H xs es ∧ AllOk es ∧ (∀ c ∈ es, numC c < 10 ^ 40) ∧ es.length ≤ 60 ∧
  ∀ (H' : Hp) (p r q : Addr) (is : List (Addr × Option Addr)), Same H H' → H p = none → H r = none → H' p = some (.tup [.ref r, .ref q]) → H' r = some (.tup [.int (rchM es).1, .int (rchM es).2.1, .int (last es)]) → FoundAt H H' q is (formM es) → is.length ≤ 61 → Q (.ref p) H'
/-! ### mathematics: the candidates -/
theorem keys_sorted {b : Ps} (g : (keys b).Nodup) {ys : List Int} (pm : ys.Perm (keys b)) (sr : ys.Pairwise (· ≤ ·)) (v : Int) : ys.map (fun k => (k, (look b k).getD 0 - v)) = (sortP b).map fun q => (q.1, q.2 - v) := by
  have ps : (sortP b).Perm b := List.mergeSort_perm b leK
  have nd : (keys (sortP b)).Nodup := (ps.map fun q : Int × Int => q.1).nodup_iff.mpr g
  have a1 : (keys (sortP b)).Pairwise (· < ·) := by
    have p := List.pairwise_mergeSort (le := leK) leK_trans leK_total b
    unfold keys at nd ⊢
    rw [List.pairwise_map]
    rw [List.nodup_iff_pairwise_ne, List.pairwise_map] at nd
    refine (List.Pairwise.and p nd).imp fun {x y} h => ?_
    have h1 := h.1
    have h2 := h.2
    unfold leK at h1
    have h3 := of_decide_eq_true h1
    omega
  have a2 : ys.Pairwise (· < ·) := by
    have n2 := pm.nodup_iff.mpr g
    rw [List.nodup_iff_pairwise_ne] at n2
    exact (sr.and n2).imp fun {a b} h => by
      have h1 := h.1
      have h2 := h.2
      omega
  have e : ys = keys (sortP b) := ascI_ext a2 a1 fun k => by
    rw [pm.mem_iff]
    unfold keys
    exact (ps.map fun q : Int × Int => q.1).mem_iff.symm
  rw [e]
  unfold keys
  rw [List.map_map]
  refine List.map_congr_left fun q hq => ?_
  have m := ps.mem_iff.mp hq
  show (q.1, (look b q.1).getD 0 - v) = _
  rw [mem_look g m]
  rfl
def cnd : List Cmd → Int → List Int
  | [], _ => []
  | .right n :: r, low => (1 - (low - n)) :: cnd r (low - n)
  | .left n :: r, low => (1 - (low + n)) :: cnd r (low + n)
  | .down _ :: r, low => cnd r low
  | .up _ :: r, low => cnd r low
  | .home :: r, low => cnd r low
  | .stop :: r, low => cnd r low
theorem addP_mem {ps : List Piece} {p q : Piece} (h : q ∈ addP ps p) : q ∈ ps ∨ q = p := by
  unfold addP at h
  split at h
  · exact .inl h
  · rcases List.mem_append.mp h with z | z
    · exact .inl z
    · exact .inr (List.mem_singleton.mp z)
theorem goP_cnd : ∀ (r : List Cmd) (off added first : Int) (lines : Ps) (found : List Piece) (p : Piece), p ∈ goP r off added first lines found → p ∈ found ∨ p.1 = first ∨ p.1 ∈ cnd r added
  | [], off, added, first, lines, found, p, h => by
    rcases addP_mem h with z | z
    · exact .inl z
    · exact .inr (.inl (by rw [z]))
  | .home :: r, off, added, first, lines, found, p, h => by
    rcases addP_mem h with z | z
    · exact .inl z
    · exact .inr (.inl (by rw [z]))
  | .stop :: r, off, added, first, lines, found, p, h => by
    rcases addP_mem h with z | z
    · exact .inl z
    · exact .inr (.inl (by rw [z]))
  | .right n :: r, off, added, first, lines, found, p, h => by
    simp only [goP] at h
    simp only [cnd]
    split at h
    · rcases goP_cnd r _ _ _ _ _ p h with z | z | z
      · rcases addP_mem z with y | y
        · exact .inl y
        · exact .inr (.inl (by rw [y]))
      · exact .inr (.inr (by rw [z]; exact List.mem_cons_self))
      · exact .inr (.inr (List.mem_cons_of_mem _ z))
    · rcases goP_cnd r _ _ _ _ _ p h with z | z | z
      · exact .inl z
      · exact .inr (.inl z)
      · exact .inr (.inr (List.mem_cons_of_mem _ z))
  | .left n :: r, off, added, first, lines, found, p, h => by
    simp only [goP] at h
    simp only [cnd]
    rcases goP_cnd r _ _ _ _ _ p h with z | z | z
    · exact .inl z
    · exact .inr (.inl z)
    · exact .inr (.inr (List.mem_cons_of_mem _ z))
  | .down n :: r, off, added, first, lines, found, p, h => goP_cnd r (off - n) added first lines found p h
  | .up n :: r, off, added, first, lines, found, p, h => goP_cnd r (off + n) added first lines found p h
theorem flat_on {D : Int → PData} {a : Int} {r : List Int} (h : ∀ v, a < v → v ∉ r → D v = D (v - 1)) : ∀ (j : Nat), (∀ k ∈ r, a + j < k) → D (a + j) = D a
  | 0, _ => by rw [show a + (0 : Nat) = a by omega]
  | j + 1, hk => by
    rw [h (a + (j + 1 : Nat)) (by omega) (fun z => by have := hk _ z; omega), show a + (j + 1 : Nat) - 1 = a + j by omega]
    exact flat_on h j fun k z => by
      have := hk k z
      omega
/-- pieces told one after the other, where they may change, are the form's -/
theorem fold_rle {D : Int → PData} : ∀ (r : List Int) (a : Int) (acc : List Piece), Seg D 1 acc a → (a :: r).Pairwise (· < ·) → (∀ v, a < v → v ∉ r → D v = D (v - 1)) → Rle D 1 ((a :: r).foldl (fun ps v => addP ps (v, D v)) acc)
  | [], a, acc, hs, _, h => hs.rle fun v hv => by
    obtain ⟨j, hj⟩ : ∃ j : Nat, v = a + j := ⟨(v - a).toNat, by omega⟩
    rw [hj]
    exact flat_on h j fun k z => nomatch z
  | b :: r, a, acc, hs, hp, h => by
    obtain ⟨q1, q2⟩ := List.pairwise_cons.mp hp
    have ab := q1 b List.mem_cons_self
    have hbr := (List.pairwise_cons.mp q2).1
    refine fold_rle r b (addP acc (a, D a)) (hs.add ab fun v v0 v1 => ?_) q2 fun v hv nv => h v (by omega) fun z => ?_
    · obtain ⟨j, hj⟩ : ∃ j : Nat, v = a + j := ⟨(v - a).toNat, by omega⟩
      rw [hj]
      refine flat_on h j fun k z => ?_
      rcases List.mem_cons.mp z with e | e
      · omega
      · have := hbr k e
        omega
    · rcases List.mem_cons.mp z with e | e
      · omega
      · exact nv e
theorem cnd_form {es : List Cmd} {ns : List Int} (asc : ns.Pairwise (· < ·)) (mem : ∀ k, k ∈ ns ↔ k ∈ 1 :: cnd es.reverse 0 ∧ 0 < k) : ns.foldl (fun ps v => addP ps (v, dat es v)) [] = formM es := by
  cases ns with
  | nil => exact absurd ((mem 1).mpr ⟨List.mem_cons_self, by decide⟩) fun z => nomatch z
  | cons a r =>
    have e1 : a = 1 := by
      have p := ((mem a).mp List.mem_cons_self).2
      rcases List.mem_cons.mp ((mem 1).mpr ⟨List.mem_cons_self, by decide⟩) with e | e
      · exact e.symm
      · have := (List.pairwise_cons.mp asc).1 1 e
        omega
    subst e1
    refine (Rle.one (form_rle es) (fold_rle r 1 [] rfl asc fun v hv nv => ?_)).symm
    refine Classical.byContradiction fun z => nv ?_
    have m := (form_rle es).at v (by omega) (.inr z)
    rcases goP_cnd _ _ _ _ _ _ _ m with y | y | y
    · cases y
    · have : v = 1 := y
      omega
    · rcases List.mem_cons.mp ((mem v).mpr ⟨List.mem_cons_of_mem _ y, by omega⟩) with e | e
      · omega
      · exact e
/-- one more piece at the end of the list -/
theorem found_push {H0 H1 : Hp} {m t : Addr} {lo : Option Addr} {is : List (Addr × Option Addr)} {ps : List Piece} {p : Piece} (F1 : FoundAt H0 H1 m is ps) (P1 : PieceAt H1 (t, lo) p) (hN : ∀ l, lo = some l → H0 l = none ∧ l ≠ m ∧ l ∉ is.filterMap (·.2)) :
    FoundAt H0 (upd H1 m (.lst ((is.map fun i => V.ref i.1) ++ [.ref t]))) m (is ++ [(t, lo)]) (ps ++ [p]) := by
  have tm : ∀ {b : Addr} {xs : List V}, H1 b = some (.tup xs) → b ≠ m := fun {b xs} q => ne_of q F1.lst (by intro y; cases y)
  have mono : ∀ {i : Addr × Option Addr} {q : Piece}, (∀ l, i.2 = some l → l ≠ m) → PieceAt H1 i q → PieceAt (upd H1 m (.lst ((is.map fun i => V.ref i.1) ++ [.ref t]))) i q := fun {i q} hi h => h.mono (fun b xs y => by rw [upd_ne (tm y)]; exact y) fun a xs ea y => by rw [upd_ne (hi a ea)]; exact y
  have fm : (is ++ [(t, lo)]).filterMap (·.2) = is.filterMap (·.2) ++ lo.toList := by
    rw [List.filterMap_append]
    cases lo <;> rfl
  refine ⟨?_, pairS ?_ (mono (fun l q => (hN l q).2.1) P1), ?_, fun l hl => ?_, F1.m0⟩
  · rw [upd_same, List.map_append]
    rfl
  · have all : ∀ {is' : List (Addr × Option Addr)} {ps' : List Piece}, (∀ i ∈ is', ∀ l, i.2 = some l → l ≠ m) → Paired (PieceAt H1) is' ps' → Paired (PieceAt (upd H1 m (.lst ((is.map fun i => V.ref i.1) ++ [.ref t])))) is' ps' := by
      intro is' ps' hi h
      induction h with
      | nil => exact .nil
      | cons a b ih => exact .cons (mono (hi _ List.mem_cons_self) a) (ih fun i h => hi i (List.mem_cons_of_mem _ h))
    exact all (fun i hi l el => (F1.new l (List.mem_filterMap.mpr ⟨i, hi, el⟩)).2.1) F1.its
  · rw [fm]
    cases lo with
    | none => simpa using F1.nd
    | some l =>
      rw [List.nodup_append]
      refine ⟨F1.nd, by simp, fun a ha b hb => ?_⟩
      have eb : b = l := by simpa using hb
      rw [eb]
      intro q
      rw [q] at ha
      exact (hN l rfl).2.2 ha
  · rw [fm] at hl
    rcases List.mem_append.mp hl with h | h
    · obtain ⟨h1, h2, xs, h3⟩ := F1.new l h
      exact ⟨h1, h2, xs, by rw [upd_ne h2]; exact h3⟩
    · cases lo with
      | none => simp at h
      | some l' =>
        have el : l = l' := by simpa using h
        subst el
        obtain ⟨h1, h2, h3⟩ := hN l rfl
        have q := P1.2
        cases e2 : p.2.2 with
        | none =>
          rw [e2] at q
          exact q.elim
        | some L =>
          rw [e2] at q
          obtain ⟨ts, q1, _⟩ := q
          exact ⟨h1, h2, _, by rw [upd_ne h2]; exact q1⟩
section
variable {P : Program} {w : World} {K : PySem.W.Frag} {mg : Str → Option Value} {base : Heap}
theorem sc_law_piece : FnScope ["keys", "value", "found", "lines", "offset"] ["keys", "value"] (defScope s_lpiece) := ⟨rfl, rfl, rfl, by decide +kernel, rfl, by decide +kernel, by decide +kernel⟩
theorem ok_lpiece {f : Addr} {fd : FuncData} (F : Fun K "_law_piece" "_law_piece" s_lpiece f fd) (T : TxtLf mg) (c_law_box : Cal P w K mg base 1 "_law_box" (spLBox18 K)) : FnOk P w K mg base CX0 2 f fd ["keys", "value"] (spLPiece18 K) := by
  refine F.ok sc_law_piece (fun vs H Q E h => ?_) (fun cdv A outer s H vs Q E hr h => ?_)
  · obtain ⟨l, xs, es, v, rfl, _⟩ := h
    rfl
  · obtain ⟨l, xs, es, v, rfl, hl, hcs, ok, nb, l60, v1, k⟩ := h
    refine ⟨_, (pss_cons (ps_set (i := 2) sc_law_piece.nd rfl (Or.inr rfl) (pe_cal c_law_box hr (by decide) (by rfl) (pa_cons (pv 0) (pa_cons (pv 1) pa_nil))))
      (pss_cons (ps_if (pt_cmpR op_isN (pv 2) pe_non (nomark _)) (pss_one (ps_ret (pe_tup (pa_cons pe_non (pa_cons pe_non pa_nil))))) pss_nil)
      (pss_cons (ps_setLc (i := 3) (own := [("offset", 4)]) rfl sc_law_piece.nd rfl rfl (sw_true rfl rfl rfl (by decide +kernel)) (pi_list (pe_callB (call_sortedDI rfl) (by rfl) T.sorted (by decide +kernel) (pa_cons (pe_ix (show IxR _ (rIxL K) from ix_list) (pv 2) pe_int (fun _ _ => rfl)) pa_nil))) (blkOk_by (N := ["keys", "value", "found", "lines", "offset"]) (sc := defScope s_lpiece) (by decide +kernel)) (fun _ _ _ _ _ => (pg_name (i := 4) sc_law_piece.nd rfl (Or.inl rfl))) (fun _ _ _ _ _ => pts_nil) (fun _ _ _ _ _ => (pe_tup (pa_cons (pv 4) (pa_cons (pe_op op_sub (pe_dget (hu_of hr) (pe_ix (show IxR _ (rIxL K) from ix_list) (pv 2) pe_int (fun _ _ => rfl)) (pv 4) (fun _ _ => rfl)) (pv 1)) pa_nil)))))
      (pss_one (ps_ret (pe_tup (pa_cons (pe_ifExp (pt_cmpR op_isN (pe_ix (show IxR _ (rIxL K) from ix_list) (pv 2) pe_int (fun _ _ => rfl)) pe_non (nomark _)) pe_non (pe_op op_sub (pe_ix (show IxR _ (rIxL K) from ix_list) (pv 2) pe_int (fun _ _ => rfl)) (pv 1))) (pa_cons (pv 3) pa_nil)))))))), ?_⟩
    refine ⟨_, rfl, _, rfl, l, xs, es, v, rfl, hl, hcs, ok, nb, by omega, v1, fun hn H1 e1 => ?_, fun st b hb H1 p d e1 np hp hd bl => ?_⟩
    · have db : dat es v = (none, none) := by
        unfold dat boxM
        rw [hn]
        rfl
      rw [db] at k
      refine ⟨_, rfl, rfl, _, rfl, iteT ?_⟩
      refine ⟨(by show 2 ≤ sizeLine; decide), fun p np => ?_⟩
      exact k _ p none (e1.trans (new_same np)) (e1.free np) upd_same trivial fun a z => nomatch z
    · obtain ⟨gnd, db⟩ : (keys b).Nodup ∧ dat es v = (st.map (· - v), some ((sortP b).map fun q => (q.1, q.2 - v))) := by
        rcases go_goF (off := last es) (allOk_rev ok) good_nil v1 with ⟨e, _⟩ | ⟨st', b', e, g, _, _⟩
        · rw [hb] at e
          cases e
        · rw [hb] at e
          obtain ⟨z1, z2⟩ := Prod.mk.inj (Option.some.inj e)
          refine ⟨by rw [z2]; exact g.nd, ?_⟩
          unfold dat boxM
          rw [hb]
          rfl
      rw [db] at k
      have eg : ∀ (o : Int), o ∈ keys b → valV (dkI b) (Sum.inl o : L2.Key) = some (.int ((look b o).getD 0)) := fun o ho => by
        rw [valV_dkI]
        cases z : look b o with
        | none => exact absurd ho (look_none.mp z)
        | some y => rfl
      refine ⟨_, rfl, rfl, _, rfl, iteF ?_⟩
      refine ⟨_, rfl, p, _, 1, _, rfl, rfl, SqL.of hp, rfl, d, dkI b, keys b, rfl, .inl hd, (by unfold dkI keys; rw [List.map_map, List.map_map]; rfl), (by unfold keys; rw [List.length_map]; omega), fun ys sl pm sr nsl => ?_⟩
      have e2 := new_same (o := HO.lst (ys.map V.int)) nsl
      have hs2 : (upd H1 sl (.lst (ys.map V.int))) sl = some (.lst (ys.map V.int)) := upd_same
      have hp2 := e2 _ _ hp
      have hd2 := e2 _ _ hd
      generalize upd H1 sl (.lst (ys.map V.int)) = H2 at e2 hs2 hp2 hd2 ⊢
      have ly : ys.length ≤ 60 := by
        rw [pm.length_eq]
        unfold keys
        rw [List.length_map]
        omega
      refine ⟨sl, rfl, ⟨_, SqL.of hs2⟩, fun D nD => ?_⟩
      have d0 : H D = none := (e1.trans e2).free nD
      refine lc_list (K := K) (a := sl) (xs := ys.map V.int) (fun i H' => ∃ ts : List Addr, Same H2 H' ∧ H' D = some (.lst (ts.map V.ref)) ∧ PairsAt H' ts ((ys.take i).map fun k => (k, (look b k).getD 0 - v))) ⟨[], new_same nD, upd_same, .nil⟩ (fun i H' _ ⟨_, e, _⟩ => SqL.of (e _ _ hs2)) (fun i x H' hi h => ?_) (fun H3 h => ?_)
      · obtain ⟨ts, e3, hD, hts⟩ := h
        obtain ⟨o, ho, rfl⟩ : ∃ o, ys[i]? = some o ∧ V.int o = x := by
          rw [List.getElem?_map] at hi
          cases z : ys[i]? with
          | none =>
            rw [z] at hi
            cases hi
          | some o =>
            rw [z] at hi
            exact ⟨o, rfl, Option.some.inj hi⟩
        have mo := (pm.mem_iff).mp (List.mem_of_getElem? ho)
        have li := (List.getElem?_eq_some_iff.mp ho).1
        have hl3 := Paired.length hts
        rw [List.length_map, List.length_take] at hl3
        refine ⟨rfl, _, rfl, _, rfl, p, _, 1, _, rfl, rfl, SqL.of (e3 _ _ hp2), rfl, _, rfl, d, _, rfl, (by have q := DGet.k (k := Sum.inl o) (e3 _ _ hd2); rw [eg o mo] at q; exact q), _, rfl, _, _, rfl, rfl, ?_⟩
        refine ⟨(by show 2 ≤ sizeLine; decide), fun t nt => ?_⟩
        have e4 := new_same (o := HO.tup [V.int o, .int ((look b o).getD 0 - v)]) nt
        have ht4 : (upd H' t (.tup [V.int o, .int ((look b o).getD 0 - v)])) t = some (.tup [V.int o, .int ((look b o).getD 0 - v)]) := upd_same
        have hD4 := e4 _ _ hD
        have hts4 := hts.mono fun _ _ q => e4 _ _ q
        refine ⟨_, hD4, lt_line (by rw [List.length_map, hl3]; omega), ts ++ [t], same_freeU (e3.trans e4) nD, ?_, ?_⟩
        · rw [upd_same, List.map_append]
          rfl
        · rw [takeS ho, List.map_append]
          exact paired_app (hts4.mono fun a zs q => by rw [upd_ne (ne_of q hD4 fun w => nomatch w)]; exact q) (.cons (by rw [upd_ne (ne_of ht4 hD4 fun w => nomatch w)]; exact ht4) .nil)
      · obtain ⟨ts, e3, hD, hts⟩ := h
        rw [List.length_map, List.take_length, keys_sorted gnd pm sr v] at hts
        have e4 := (e1.trans e2).trans e3
        have fin : ∀ (H4 : Hp) (pp : Addr), Same H3 H4 → H3 pp = none → H4 pp = some (.tup [optW (st.map (· - v)), .ref D]) → Q (.ref pp) H4 := fun H4 pp e5 n5 h5 => k _ pp (some D) (e4.trans e5) (e4.free n5) h5 ⟨ts, e5 _ _ hD, hts.mono fun _ _ q => e5 _ _ q⟩ fun a z => by cases z; exact d0
        have hp3 := e3 _ _ hp2
        cases st with
        | none =>
          refine ⟨_, rfl, p, _, 0, _, rfl, rfl, SqL.of hp3, rfl, rfl, _, rfl, iteT ?_⟩
          refine ⟨_, rfl, (by show 2 ≤ sizeLine; decide), fun pp np => ?_⟩
          exact fin _ pp (new_same np) np upd_same
        | some n =>
          refine ⟨_, rfl, p, _, 0, _, rfl, rfl, SqL.of hp3, rfl, rfl, _, rfl, iteF ?_⟩
          refine ⟨_, rfl, p, _, 0, _, rfl, rfl, SqL.of hp3, rfl, _, rfl, _, _, rfl, rfl, _, rfl, (by show 2 ≤ sizeLine; decide), fun pp np => ?_⟩
          exact fin _ pp (new_same np) np upd_same
theorem sc_law_form : FnScope ["keys", "some", "low", "key", "found", "value", "piece", "one"] ["keys"] (defScope s_lform) := ⟨rfl, rfl, rfl, by decide +kernel, rfl, by decide +kernel, by decide +kernel⟩
theorem ok_lform {f : Addr} {fd : FuncData} (F : Fun K "_law_form" "_law_form" s_lform f fd) (T : TxtLf mg) (c_law_piece : Cal P w K mg base 2 "_law_piece" (spLPiece18 K)) (c_law_reach : Cal P w K mg base 1 "_law_reach" (spLRch18 K)) : FnOk P w K mg base CX0 3 f fd ["keys"] (spLForm18 K) := by
  refine F.ok sc_law_form (fun vs H Q E h => ?_) (fun cdv A outer s H vs Q E hr h => ?_)
  · obtain ⟨l, xs, es, rfl, _⟩ := h
    rfl
  · obtain ⟨l, xs, es, rfl, hl, hcs, ok, nb, l60, k⟩ := h
    refine ⟨_, (pss_cons (ps_par (i := 1) (j := 2) rfl sc_law_form.nd rfl rfl (by decide) rfl rfl (pa_cons (pe_lst (pa_cons pe_int pa_nil)) (pa_cons pe_int pa_nil)) (by rfl))
      (pss_cons (ps_for PassesOwn.never rfl (pi_list (pe_revL (pv 0))) (pg_name (i := 3) sc_law_form.nd rfl (Or.inl rfl)) (pss_one (ps_if (pt_cmpR op_in_seq (pe_ix ix_tup (pv 3) pe_int (fun _ _ => rfl)) (pe_lst (pa_cons pe_str (pa_cons pe_str pa_nil))) (by rfl)) (pss_cons (ps_set (i := 2) sc_law_form.nd rfl (Or.inl rfl) (pe_op op_add (pv 2) (pe_op op_mulW (pe_ix ix_tup (pv 3) pe_int (fun _ _ => rfl)) (pe_ix ix_list (pe_lst (pa_cons (pe_un un_neg pe_int) (pa_cons pe_int pa_nil))) (pe_callTy call_int1 (by rfl) T.int (by decide +kernel) (pa_cons (pe_cmpR op_eq (pe_ix ix_tup (pv 3) pe_int (fun _ _ => rfl)) pe_str (nomark _)) pa_nil)) (fun _ _ => rfl)))))
      (pss_one (ps_expr (pe_bm PySem.F.plainAttrs_list PySem.F.slot_list_append PySem.F.type_list_append mt_append (pv 1) (pa_cons (pe_op op_sub pe_int (pv 2)) pa_nil))))) pss_nil)))
      (pss_cons (ps_set (i := 4) sc_law_form.nd rfl (Or.inl rfl) (pe_lst pa_nil))
      (pss_cons (ps_for PassesOwn.never rfl (pi_list (pe_callB (cr_sortedSet rfl) (by rfl) T.sorted (by decide +kernel) (pa_cons (pe_callTy (cr_setL rfl) (by rfl) T.set (by decide +kernel) (pa_cons (pe_lc (own := [("one", 7)]) rfl sc_law_form.nd (pi_list (pv 1)) (blkOk_by (N := ["keys", "some", "low", "key", "found", "value", "piece", "one"]) (sc := defScope s_lform) (by decide +kernel)) (fun _ _ _ _ _ => (pg_name (i := 7) sc_law_form.nd rfl (Or.inl rfl))) (fun _ _ _ _ _ => (pts_one (pt_cmpR op_gt (pv 7) pe_int (nomark _)))) (fun _ _ _ _ _ => (pv 7))) pa_nil)) pa_nil))) (pg_name (i := 5) sc_law_form.nd rfl (Or.inl rfl)) (pss_cons (ps_set (i := 6) sc_law_form.nd rfl (Or.inl rfl) (pe_cal c_law_piece hr (by decide) (by rfl) (pa_cons (pv 0) (pa_cons (pv 5) pa_nil))))
      (pss_one (ps_if (PW.pt (pw_or (pt_cmpR (op_eqD hr.units) (pv 4) (pe_lst pa_nil) (nomark _)) (pw_or1 (pt_cmpR (op_neD hr.units) (pe_slice sl_tup (pe_ix ix_list (pv 4) (pe_un un_neg pe_int) (fun _ _ => rfl)) (po_some pe_int) po_none) (pv 6) (nomark _))))) (pss_one (ps_expr (pe_bm PySem.F.plainAttrs_list PySem.F.slot_list_append PySem.F.type_list_append mt_append (pv 4) (pa_cons (pe_op op_catT (pe_tup (pa_cons (pv 5) pa_nil)) (pv 6)) pa_nil)))) pss_nil))))
      (pss_one (ps_ret (pe_tup (pa_cons (pe_cal c_law_reach hr (by decide) (by rfl) (pa_cons (pv 0) pa_nil)) (pa_cons (pv 4) pa_nil))))))))), ?_⟩
    refine ⟨(by show 1 ≤ sizeLine; decide), fun sa ns => ?_⟩
    have e1 := new_same (o := HO.lst [V.int 1]) ns
    have hs1 : (upd H sa (.lst [V.int 1])) sa = some (.lst [V.int 1]) := upd_same
    generalize upd H sa (.lst [V.int 1]) = H1 at e1 hs1 ⊢
    refine ⟨_, _, rfl, ?_⟩
    refine ⟨_, rfl, l, xs, rfl, e1.seq hl, fun q nq => ?_⟩
    have e2 := e1.trans (new_same (o := HO.lst xs.reverse) nq)
    have hs2 := new_same (o := HO.lst xs.reverse) nq _ _ hs1
    have hq2 : (upd H1 q (.lst xs.reverse)) q = some (.lst xs.reverse) := upd_same
    have qs : q ≠ sa := (ne_of_none hs1 nq).symm
    generalize upd H1 q (.lst xs.reverse) = H2 at e2 hs2 hq2 ⊢
    have hrv := paired_rev hcs
    refine ⟨q, rfl, ⟨_, SqL.of hq2⟩, for_list (K := K) (a := q) (xs := xs.reverse) (fun i σ H' => ∃ (ms : List Int) (low : Int) (v3 : Option V), σ = [some (.ref l), some (.ref sa), some (.int low), v3, none, none, none, none] ∧ Same H H' ∧ H' sa = some (.lst (ms.map V.int)) ∧ H' q = some (.lst xs.reverse) ∧ ms.length ≤ i + 1 ∧ ms ++ cnd (es.reverse.drop i) low = 1 :: cnd es.reverse 0)
      ⟨[1], 0, none, rfl, e2, hs2, hq2, Nat.le_refl _, rfl⟩ (fun i σ H' _ h => ?_) (fun i x σ H' hi h => ?_) (fun σ H' h => ?_)⟩
    · obtain ⟨_, _, _, _, _, _, z, _⟩ := h
      exact SqL.of z
    · obtain ⟨ms, low, v3, rfl, e, hs, hq, ml, me⟩ := h
      obtain ⟨c, hc, t, rfl, ht0⟩ := paired_at hrv hi
      have ht := seq_t e ht0
      have li := (List.getElem?_eq_some_iff.mp hc).1
      rw [List.length_reverse] at li
      have okc := ok c (List.mem_reverse.mp (List.mem_of_getElem? hc))
      have nbc := nb c (List.mem_reverse.mp (List.mem_of_getElem? hc))
      have dr : es.reverse.drop i = c :: es.reverse.drop (i + 1) := by
        obtain ⟨lt, ec⟩ := List.getElem?_eq_some_iff.mp hc
        rw [List.drop_eq_getElem_cons lt, ec]
      rw [dr] at me
      cases c with
      | right n =>
        have nb' : n < 10 ^ 40 := nbc
        have n1 : 1 ≤ n := okc
        refine ⟨_, rfl, t, _, 0, _, rfl, rfl, ht, rfl, (by show 2 ≤ sizeLine; decide), fun p1 np1 => ?_⟩
        have f1 := new_same (o := HO.lst [V.str "right", .str "left"]) np1
        have h1 : (upd H' p1 (.lst [V.str "right", .str "left"])) p1 = some (.lst [V.str "right", .str "left"]) := upd_same
        have ht1 := seq_t f1 ht
        generalize upd H' p1 (.lst [V.str "right", .str "left"]) = G1 at f1 h1 ht1 ⊢
        refine ⟨p1, _, rfl, .inl (SqL.of h1), rfl, rfl, true, by decide +kernel, iteT ?_⟩
        refine ⟨_, rfl, _, rfl, t, _, 1, _, rfl, rfl, ht1, rfl, _, rfl, (by show 2 ≤ sizeLine; decide), fun p2 np2 => ?_⟩
        have f2 := f1.trans (new_same (o := HO.lst [V.int (-1), .int 1]) np2)
        have h2 : (upd G1 p2 (.lst [V.int (-1), .int 1])) p2 = some (.lst [V.int (-1), .int 1]) := upd_same
        have ht2 := seq_t (new_same (o := HO.lst [V.int (-1), .int 1]) np2) ht1
        generalize upd G1 p2 (.lst [V.int (-1), .int 1]) = G2 at f2 h2 ht2 ⊢
        refine ⟨_, rfl, t, _, 0, _, rfl, rfl, ht2, rfl, rfl, .inr ⟨_, rfl, p2, _, _, _, rfl, rfl, SqL.of h2, at_fP (by decide +kernel), _, _, rfl, rfl, wide_mul (a := 134) (b := 2) (by omega) (by decide) (by decide) (by decide) (by decide), _, _, rfl, rfl, ?_⟩⟩
        have hs2 := f2 _ _ hs
        refine ⟨_, rfl, .inl ⟨rfl, _, SqL.of hs2⟩, _, rfl, _, _, rfl, rfl, sa, _, _, rfl, rfl, hs2, lt_line (by rw [List.length_map]; omega), ?_⟩
        refine ⟨ms ++ [1 - (low + n * (-1))], low + n * (-1), _, rfl, same_freeU (e.trans f2) ns, by rw [upd_same, List.map_append]; rfl, by rw [upd_ne qs]; exact f2 _ _ hq, by rw [List.length_append]; exact Nat.succ_le_succ ml, ?_⟩
        rw [← me, List.append_assoc, show low + n * (-1) = low - n by omega]
        rfl
      | left n =>
        have nb' : n < 10 ^ 40 := nbc
        have n1 : 1 ≤ n := okc
        refine ⟨_, rfl, t, _, 0, _, rfl, rfl, ht, rfl, (by show 2 ≤ sizeLine; decide), fun p1 np1 => ?_⟩
        have f1 := new_same (o := HO.lst [V.str "right", .str "left"]) np1
        have h1 : (upd H' p1 (.lst [V.str "right", .str "left"])) p1 = some (.lst [V.str "right", .str "left"]) := upd_same
        have ht1 := seq_t f1 ht
        generalize upd H' p1 (.lst [V.str "right", .str "left"]) = G1 at f1 h1 ht1 ⊢
        refine ⟨p1, _, rfl, .inl (SqL.of h1), rfl, rfl, true, by decide +kernel, iteT ?_⟩
        refine ⟨_, rfl, _, rfl, t, _, 1, _, rfl, rfl, ht1, rfl, _, rfl, (by show 2 ≤ sizeLine; decide), fun p2 np2 => ?_⟩
        have f2 := f1.trans (new_same (o := HO.lst [V.int (-1), .int 1]) np2)
        have h2 : (upd G1 p2 (.lst [V.int (-1), .int 1])) p2 = some (.lst [V.int (-1), .int 1]) := upd_same
        have ht2 := seq_t (new_same (o := HO.lst [V.int (-1), .int 1]) np2) ht1
        generalize upd G1 p2 (.lst [V.int (-1), .int 1]) = G2 at f2 h2 ht2 ⊢
        refine ⟨_, rfl, t, _, 0, _, rfl, rfl, ht2, rfl, rfl, .inr ⟨_, rfl, p2, _, _, _, rfl, rfl, SqL.of h2, at_tP (by decide +kernel), _, _, rfl, rfl, wide_mul (a := 134) (b := 2) (by omega) (by decide) (by decide) (by decide) (by decide), _, _, rfl, rfl, ?_⟩⟩
        have hs2 := f2 _ _ hs
        refine ⟨_, rfl, .inl ⟨rfl, _, SqL.of hs2⟩, _, rfl, _, _, rfl, rfl, sa, _, _, rfl, rfl, hs2, lt_line (by rw [List.length_map]; omega), ?_⟩
        refine ⟨ms ++ [1 - (low + n * 1)], low + n * 1, _, rfl, same_freeU (e.trans f2) ns, by rw [upd_same, List.map_append]; rfl, by rw [upd_ne qs]; exact f2 _ _ hq, by rw [List.length_append]; exact Nat.succ_le_succ ml, ?_⟩
        rw [← me, List.append_assoc, show low + n * 1 = low + n by omega]
        rfl
      | down n =>
        refine ⟨_, rfl, t, _, 0, _, rfl, rfl, ht, rfl, (by show 2 ≤ sizeLine; decide), fun p1 np1 => ?_⟩
        have f1 := new_same (o := HO.lst [V.str "right", .str "left"]) np1
        have h1 : (upd H' p1 (.lst [V.str "right", .str "left"])) p1 = some (.lst [V.str "right", .str "left"]) := upd_same
        refine ⟨p1, _, rfl, .inl (SqL.of h1), rfl, rfl, false, by decide +kernel, iteF ?_⟩
        exact ⟨ms, low, _, rfl, e.trans f1, f1 _ _ hs, f1 _ _ hq, Nat.le_succ_of_le ml, me⟩
      | up n =>
        refine ⟨_, rfl, t, _, 0, _, rfl, rfl, ht, rfl, (by show 2 ≤ sizeLine; decide), fun p1 np1 => ?_⟩
        have f1 := new_same (o := HO.lst [V.str "right", .str "left"]) np1
        have h1 : (upd H' p1 (.lst [V.str "right", .str "left"])) p1 = some (.lst [V.str "right", .str "left"]) := upd_same
        refine ⟨p1, _, rfl, .inl (SqL.of h1), rfl, rfl, false, by decide +kernel, iteF ?_⟩
        exact ⟨ms, low, _, rfl, e.trans f1, f1 _ _ hs, f1 _ _ hq, Nat.le_succ_of_le ml, me⟩
      | home =>
        refine ⟨_, rfl, t, _, 0, _, rfl, rfl, ht, rfl, (by show 2 ≤ sizeLine; decide), fun p1 np1 => ?_⟩
        have f1 := new_same (o := HO.lst [V.str "right", .str "left"]) np1
        have h1 : (upd H' p1 (.lst [V.str "right", .str "left"])) p1 = some (.lst [V.str "right", .str "left"]) := upd_same
        refine ⟨p1, _, rfl, .inl (SqL.of h1), rfl, rfl, false, by decide +kernel, iteF ?_⟩
        exact ⟨ms, low, _, rfl, e.trans f1, f1 _ _ hs, f1 _ _ hq, Nat.le_succ_of_le ml, me⟩
      | stop =>
        refine ⟨_, rfl, t, _, 0, _, rfl, rfl, ht, rfl, (by show 2 ≤ sizeLine; decide), fun p1 np1 => ?_⟩
        have f1 := new_same (o := HO.lst [V.str "right", .str "left"]) np1
        have h1 : (upd H' p1 (.lst [V.str "right", .str "left"])) p1 = some (.lst [V.str "right", .str "left"]) := upd_same
        refine ⟨p1, _, rfl, .inl (SqL.of h1), rfl, rfl, false, by decide +kernel, iteF ?_⟩
        exact ⟨ms, low, _, rfl, e.trans f1, f1 _ _ hs, f1 _ _ hq, Nat.le_succ_of_le ml, me⟩
    · obtain ⟨ms, low, v3, rfl, e, hs, hq, ml, me⟩ := h
      rw [List.length_reverse, hcs.len, List.drop_of_length_le (by rw [List.length_reverse]; exact Nat.le_refl _)] at me
      rw [List.length_reverse, hcs.len] at ml
      have me' : ms = 1 :: cnd es.reverse 0 := by
        rw [← me]
        exact (List.append_nil ms).symm
      refine ⟨(by show 0 ≤ sizeLine; decide), fun fo nfo => ?_⟩
      have e3 := e.trans (new_same (o := HO.lst []) nfo)
      have hf3 : (upd H' fo (.lst [])) fo = some (.lst []) := upd_same
      have hs3 := new_same (o := HO.lst []) nfo _ _ hs
      have fo0 : H fo = none := e.free nfo
      generalize upd H' fo (.lst []) = H3 at e3 hf3 hs3 ⊢
      refine ⟨_, rfl, sa, rfl, ⟨_, SqL.of hs3⟩, fun D nD => ?_⟩
      refine lc_list (K := K) (a := sa) (xs := ms.map V.int) (fun i H' => ∃ ps : List Int, Same H3 H' ∧ H' D = some (.lst (ps.map V.int)) ∧ ps.length ≤ i ∧ ∀ k, k ∈ ps ↔ k ∈ ms.take i ∧ 0 < k) ⟨[], new_same nD, upd_same, Nat.le_refl _, fun k => ⟨(fun z => nomatch z), fun z => nomatch z.1⟩⟩ (fun i H' _ ⟨_, e, _⟩ => SqL.of (e _ _ hs3)) (fun i x H' hi h => ?_) (fun H4 h => ?_)
      · obtain ⟨ps, e4, hD, pl, pm⟩ := h
        obtain ⟨o, ho, rfl⟩ : ∃ o, ms[i]? = some o ∧ V.int o = x := by
          rw [List.getElem?_map] at hi
          cases z : ms[i]? with
          | none =>
            rw [z] at hi
            cases hi
          | some o =>
            rw [z] at hi
            exact ⟨o, rfl, Option.some.inj hi⟩
        have li := (List.getElem?_eq_some_iff.mp ho).1
        refine ⟨rfl, _, rfl, _, _, rfl, rfl, _, rfl, ite2 (fun c => ?_) (fun c => ?_)⟩
        · have c' : 0 < o := of_decide_eq_true c
          refine ⟨_, rfl, _, hD, lt_line (by rw [List.length_map]; omega), ps ++ [o], same_freeU e4 nD, by rw [upd_same, List.map_append]; rfl, by rw [List.length_append]; exact Nat.succ_le_succ pl, fun k => ?_⟩
          rw [List.mem_append, pm k, takeS ho, List.mem_append, List.mem_singleton]
          constructor
          · rintro (⟨z1, z2⟩ | rfl)
            · exact ⟨.inl z1, z2⟩
            · exact ⟨.inr rfl, c'⟩
          · rintro ⟨z1 | z1, z2⟩
            · exact .inl ⟨z1, z2⟩
            · exact .inr z1
        · have c' : ¬ 0 < o := fun z => c (decide_eq_true z)
          refine ⟨ps, e4, hD, Nat.le_succ_of_le pl, fun k => ?_⟩
          rw [pm k, takeS ho, List.mem_append, List.mem_singleton]
          constructor
          · rintro ⟨z1, z2⟩
            exact ⟨.inl z1, z2⟩
          · rintro ⟨z1 | z1, z2⟩
            · exact ⟨z1, z2⟩
            · rw [z1] at z2
              exact absurd z2 c'
      · obtain ⟨ps, e4, hD, pl, pm⟩ := h
        rw [List.length_map] at pl
        rw [List.length_map, List.take_length, me'] at pm
        have hf4 := e4 _ _ hf3
        refine ⟨D, ps, rfl, SqL.of hD, by omega, fun sA c hsA hc => ?_⟩
        refine ⟨sA, _, c, rfl, upd_same, by omega, fun ns p2 hns hmem hnl np2 => ?_⟩
        have e45 : Same H4 (upd (upd H4 sA (SetO w sA (fun j => decide (j ∈ ps)) c)) p2 (.lst (ns.map V.int))) := same_upd (same_upd (Same.refl H4) hsA) np2
        have e5 := (e3.trans e4).trans e45
        have hn5 : (upd (upd H4 sA (SetO w sA (fun j => decide (j ∈ ps)) c)) p2 (.lst (ns.map V.int))) p2 = some (.lst (ns.map V.int)) := upd_same
        have hf5 := e45 _ _ hf4
        have mem : ∀ k, k ∈ ns ↔ k ∈ 1 :: cnd es.reverse 0 ∧ 0 < k := fun k => by rw [hmem k, decide_eq_true_eq, pm k]
        have lns : ns.length ≤ 61 := by omega
        have pf : p2 ≠ fo := (ne_of_none (same_upd (Same.refl H4) hsA _ _ hf4) np2).symm
        have F5 : FoundAt H (upd (upd H4 sA (SetO w sA (fun j => decide (j ∈ ps)) c)) p2 (.lst (ns.map V.int))) fo [] [] := ⟨hf5, .nil, List.nodup_nil, (fun _ z => nomatch z), fo0⟩
        refine ⟨p2, rfl, ⟨_, SqL.of hn5⟩, for_list (K := K) (a := p2) (xs := ns.map V.int) (fun i σ H' => ∃ (is : List (Addr × Option Addr)) (v5 v6 : Option V), σ = [some (.ref l), some (.ref sa), some (.int low), v3, some (.ref fo), v5, v6, none] ∧ Same H H' ∧ FoundAt H H' fo is ((ns.take i).foldl (fun ps v => addP ps (v, dat es v)) []) ∧ is.length ≤ i ∧ H' p2 = some (.lst (ns.map V.int)))
          ⟨[], none, none, rfl, e5, F5, Nat.le_refl _, hn5⟩ (fun i σ H' _ h => ?_) (fun i x σ H' hi h => ?_) (fun σ H' h => ?_)⟩
        · obtain ⟨_, _, _, _, _, _, _, z⟩ := h
          exact SqL.of z
        · obtain ⟨is, v5, v6, rfl, e6, F6, il, hn6⟩ := h
          obtain ⟨v, hv, rfl⟩ : ∃ o, ns[i]? = some o ∧ V.int o = x := by
            rw [List.getElem?_map] at hi
            cases z : ns[i]? with
            | none =>
              rw [z] at hi
              cases hi
            | some o =>
              rw [z] at hi
              exact ⟨o, rfl, Option.some.inj hi⟩
          have li := (List.getElem?_eq_some_iff.mp hv).1
          have v1 : 1 ≤ v := by
            have := ((mem v).mp (List.mem_of_getElem? hv)).2
            omega
          have fold : (ns.take (i + 1)).foldl (fun ps v => addP ps (v, dat es v)) [] = addP ((ns.take i).foldl (fun ps v => addP ps (v, dat es v)) []) (v, dat es v) := by
            rw [takeS hv, List.foldl_append]
            rfl
          refine ⟨_, rfl, _, rfl, l, xs, es, v, rfl, e6.seq hl, hcs.same e6, ok, nb, l60, v1, fun H7 pp lo e7 npp hpp hlo nlo => ?_⟩
          rw [fold]
          generalize (ns.take i).foldl (fun ps v => addP ps (v, dat es v)) [] = ps0 at F6 ⊢
          have F7 := F6.same e7
          have hn7 := e7 _ _ hn6
          have e67 := e6.trans e7
          have full : (is.map fun i => V.ref i.1).length < sizeLine := by
            rw [List.length_map]
            exact lt_line (by omega)
          have hN : ∀ a, lo = some a → H a = none ∧ a ≠ fo ∧ a ∉ is.filterMap (·.2) := fun a ea => by
            have n6 := nlo a ea
            refine ⟨e6.free n6, (fun z => by rw [z, F6.lst] at n6; cases n6), fun z => ?_⟩
            obtain ⟨_, _, zs, h3⟩ := F6.new a z
            rw [n6] at h3
            cases h3
          -- one more piece
          have fin : ∀ (H8 : Hp) (p3 : Addr), Same H7 H8 → H8 p3 = some (.tup [.int v, optW (dat es v).1, refO lo]) → addP ps0 (v, dat es v) = ps0 ++ [(v, dat es v)] →
              Same H (upd H8 fo (.lst ((is.map fun i => V.ref i.1) ++ [.ref p3]))) ∧ FoundAt H (upd H8 fo (.lst ((is.map fun i => V.ref i.1) ++ [.ref p3]))) fo (is ++ [(p3, lo)]) (addP ps0 (v, dat es v)) ∧ (is ++ [(p3, lo)]).length ≤ i + 1 ∧ (upd H8 fo (.lst ((is.map fun i => V.ref i.1) ++ [.ref p3]))) p2 = some (.lst (ns.map V.int)) := fun H8 p3 e8 hp3 ad => by
            refine ⟨same_freeU (e67.trans e8) fo0, ?_, by rw [List.length_append]; exact Nat.succ_le_succ il, by rw [upd_ne pf]; exact e8 _ _ hn7⟩
            rw [ad]
            refine found_push (F7.same e8) ⟨hp3, ?_⟩ hN
            exact hlo.mono (fun t xs q => e8 _ _ q) fun a xs _ q => e8 _ _ q
          refine ⟨_, rfl, (by show 0 ≤ sizeLine; decide), fun q0 nq0 => ?_⟩
          have s0 : Same H7 (upd H7 q0 (.lst [])) := new_same nq0
          have hq0 : (upd H7 q0 (.lst [])) q0 = some (.lst []) := upd_same
          generalize upd H7 q0 (.lst []) = H8 at s0 hq0 ⊢
          have F8 := F7.same s0
          refine ⟨.list (ps0.map pieceD), .list [], .lst (SqL.of F8.lst) (pieces_dp F8.its), .lst (SqL.of hq0) .nil, shaped_pieces ps0, rfl, ?_⟩
          rcases paired_last F8.its with ⟨rfl, rfl⟩ | ⟨y, q, is', ps', rfl, rfl, hq⟩
          · refine ⟨_, rfl, iteT (iteT ?_)⟩
            refine ⟨_, rfl, .inl ⟨rfl, _, SqL.of F8.lst⟩, _, rfl, (by show 1 ≤ sizeLine; decide), fun t1 nt1 => ?_⟩
            have g1 := s0.trans (new_same (o := HO.tup [V.int v]) nt1)
            have ht1 : (upd H8 t1 (.tup [V.int v])) t1 = some (.tup [V.int v]) := upd_same
            generalize upd H8 t1 (.tup [V.int v]) = G1 at g1 ht1 ⊢
            refine ⟨_, rfl, t1, pp, [V.int v], [optW (dat es v).1, refO lo], rfl, rfl, SqT.of ht1, SqT.of (g1 _ _ hpp), (fun z => nomatch z), (by show 3 ≤ sizeLine; decide), (fun z => nomatch z), fun _ p3 np3 => ?_⟩
            have g2 := g1.trans (new_same (o := HO.tup ([V.int v] ++ [optW (dat es v).1, refO lo])) np3)
            obtain ⟨r1, r2, r3, r4⟩ := fin _ p3 g2 upd_same rfl
            exact ⟨fo, _, _, rfl, rfl, g2 _ _ F7.lst, full, _, _, _, rfl, r1, r2, r3, r4⟩
          · refine ⟨_, rfl, ?_⟩
            rw [show PyData.eqv (.list ((ps' ++ [q]).map pieceD)) (.list []) = false by cases ps' <;> simp [PyData.eqv, PyData.eqvAll]]
            refine iteF ?_
            have lst1 : atI ((is' ++ [y]).map fun i => V.ref i.1) (-1) = some (.ref y.1) := by
              rw [List.map_append]
              exact atI_last _ _
            refine ⟨_, rfl, _, rfl, fo, _, -1, _, rfl, rfl, SqL.of F8.lst, lst1, _, rfl, y.1, _, rfl, SqT.of hq.1, (by show ¬ (1 = 0 ∧ 3 = 3); decide), fun a ha => ?_⟩
            have e3 : Same H8 (upd H8 a (.tup (cutV [.int q.1, optW q.2.1, refO y.2] (some 1) none))) := new_same ha
            have h3 : upd H8 a (.tup (cutV [.int q.1, optW q.2.1, refO y.2] (some 1) none)) a = some (.tup [optW q.2.1, refO y.2]) := by
              rw [upd_same]
              rfl
            generalize upd H8 a (.tup (cutV [.int q.1, optW q.2.1, refO y.2] (some 1) none)) = H10 at e3 h3 ⊢
            have G0 := F8.same e3
            have s10 := s0.trans e3
            refine ⟨_, rfl, pdataD q.2, pdataD (dat es v), .tup (SqT.of h3) (.cons (dp_opt _) (.cons (hq.same e3).2.dp .nil)), .tup (SqT.of (s10 _ _ hpp)) (.cons (dp_opt _) (.cons (LinesAt.dp (hlo.mono (fun t xs q => s10 _ _ q) fun a xs _ q => s10 _ _ q)) .nil)), shaped_pdata _, shaped_pdata _, _, rfl, ?_⟩
            rw [eqv_pdata]
            have gl : (ps' ++ [q]).getLast? = some q := by simp
            by_cases z : q.2 = dat es v
            · have ad : addP (ps' ++ [q]) (v, dat es v) = ps' ++ [q] := by
                unfold addP
                rw [gl, if_pos (by simp [z])]
              rw [decide_eq_true z]
              refine iteF ?_
              rw [ad]
              exact ⟨_, _, _, rfl, e67.trans s10, G0, Nat.le_succ_of_le il, s10 _ _ hn7⟩
            · have ad : addP (ps' ++ [q]) (v, dat es v) = ps' ++ [q] ++ [(v, dat es v)] := by
                unfold addP
                rw [gl, if_neg (by simp [z])]
              rw [decide_eq_false z]
              refine iteT ?_
              refine ⟨_, rfl, .inl ⟨rfl, _, SqL.of G0.lst⟩, _, rfl, (by show 1 ≤ sizeLine; decide), fun t1 nt1 => ?_⟩
              have g1 := (s0.trans e3).trans (new_same (o := HO.tup [V.int v]) nt1)
              have ht1 : (upd H10 t1 (.tup [V.int v])) t1 = some (.tup [V.int v]) := upd_same
              generalize upd H10 t1 (.tup [V.int v]) = G1 at g1 ht1 ⊢
              refine ⟨_, rfl, t1, pp, [V.int v], [optW (dat es v).1, refO lo], rfl, rfl, SqT.of ht1, SqT.of (g1 _ _ hpp), (fun z => nomatch z), (by show 3 ≤ sizeLine; decide), (fun z => nomatch z), fun _ p3 np3 => ?_⟩
              have g2 := g1.trans (new_same (o := HO.tup ([V.int v] ++ [optW (dat es v).1, refO lo])) np3)
              obtain ⟨r1, r2, r3, r4⟩ := fin _ p3 g2 upd_same ad
              exact ⟨fo, _, _, rfl, rfl, g2 _ _ F7.lst, full, _, _, _, rfl, r1, r2, r3, r4⟩
        · obtain ⟨is, v5, v6, rfl, e6, F6, il, hn6⟩ := h
          rw [List.length_map, List.take_length, cnd_form hns mem] at F6
          rw [List.length_map] at il
          refine ⟨_, rfl, l, xs, es, rfl, e6.seq hl, hcs.same e6, ok, nb, by omega, fun H7 r e7 nr hr7 => ?_⟩
          refine ⟨_, rfl, (by show 2 ≤ sizeLine; decide), fun p np => ?_⟩
          have e8 := new_same (o := HO.tup [V.ref r, .ref fo]) np
          exact k _ p r fo is ((e6.trans e7).trans e8) ((e6.trans e7).free np) (e6.free nr) upd_same (e8 _ _ hr7) ((F6.same e7).same e8) (by omega)
end
end Gc

/-! the law's hidden commands (k18) -/
namespace Gc
open PySem L2
abbrev s_hidden : Stmt := top 38
structure TxtHd (mg : Str → Option Value) : Prop where
  range : mg "range" = none
  int : mg "int" = none
  abs : mg "abs" = none
  min : mg "min" = none
def spHidden18 (K : PySem.W.Frag) : Sp := fun vs H Q _ => ∃ (a : Addr) (n : Nat) (many far : Int), vs = [.ref a, .int many, .int far] ∧ Rng H a n ∧ n < 2 ^ 37 ∧ 0 ≤ many ∧ many ≤ 15 ∧ 0 ≤ far ∧ far ≤ 10 ^ 6 ∧
  ∀ (H' : Hp) (l : Addr) (xs : List V) (es : List Cmd), Keep a a H H' → Rng H' a (n + 200) → H l = none → H' l = some (.lst xs) → CmdsOf K H' xs es → AllOk es → es.length ≤ 20 → Within es (-many) many → tot es ≤ far → (∀ c ∈ es, numC c < 10 ^ 40) → Q (.ref l) H'
/-- what stands while commands are drawn -/
structure HI (K : PySem.W.Frag) (H : Hp) (a l : Addr) (n i : Nat) (many far : Int) (H' : Hp) (xs : List V) (es : List Cmd) (here left : Int) : Prop where
  kp : Keep a a H H'
  rg : Rng H' a (n + 3 + 6 * i)
  hl : H' l = some (.lst xs)
  hc : CmdsOf K H' xs es
  ok : AllOk es
  ln : es.length ≤ i
  la : last es = here
  wi : Within es (-many) many
  tt : tot es + left = far
  l0 : 0 ≤ left
  nb : ∀ c ∈ es, numC c < 10 ^ 40
theorem tot_snoc (es : List Cmd) (c : Cmd) : tot (es ++ [c]) = tot es + mvA c := by
  unfold tot
  rw [List.map_append, List.sum_append]
  show _ + (mvA c + 0) = _
  omega
theorem within_snoc {es : List Cmd} {c : Cmd} {lo hi : Int} (h : Within es lo hi) (h1 : lo ≤ last es + c.dv) (h2 : last es + c.dv ≤ hi) : Within (es ++ [c]) lo hi := fun j => by
  by_cases lj : j ≤ es.length
  · rw [List.take_append_of_le_length lj]
    exact h j
  · rw [List.take_of_length_le (by rw [List.length_append]; show es.length + 1 ≤ j; omega), dv_snoc]
    exact ⟨h1, h2⟩
section
variable {K : PySem.W.Frag} {H H1 H6 : Hp} {a l t : Addr} {n i : Nat} {many far here left : Int} {xs : List V} {es : List Cmd}
theorem HI.keep {m : Nat} (h : HI K H a l n i many far H1 xs es here left) (la : l ≠ a) (k : Keep a a H1 H6) (B : Rng H6 a m) (hm : m ≤ n + 3 + 6 * (i + 1)) : HI K H a l n (i + 1) many far H6 xs es here left :=
  ⟨h.kp.trans k, B.more hm, k _ _ la la h.hl, h.rg.cmds k h.hc, h.ok, Nat.le_succ_of_le h.ln, h.la, h.wi, h.tt, h.l0, h.nb⟩
theorem HI.step {m : Nat} {c : Cmd} {h2 l2 : Int} (h : HI K H a l n i many far H1 xs es here left) (la : l ≠ a) (nl : H l = none) (k : Keep a a H1 H6) (B : Rng H6 a m) (hm : m ≤ n + 3 + 6 * (i + 1)) (ht : H6 t = some (.tup (encC c))) (ok : c.ok) (nb : numC c < 10 ^ 40) (e1 : here + c.dv = h2) (b1 : -many ≤ h2) (b2 : h2 ≤ many) (e2 : left - mvA c = l2) (b3 : 0 ≤ l2) :
    HI K H a l n (i + 1) many far (upd H6 l (.lst (xs ++ [.ref t]))) (xs ++ [.ref t]) (es ++ [c]) h2 l2 := by
  have hl6 := k _ _ la la h.hl
  have hc6 := h.rg.cmds k h.hc
  refine ⟨(h.kp.trans k).freeU nl, (rng_upd B la).more hm, upd_same, paired_app (CmdsOf.atL hl6 hc6) (CmdsOf.atL hl6 (xs := [.ref t]) (cs := [c]) (.cons ⟨t, rfl, SqT.of ht⟩ .nil)), fun d hd => ?_, by rw [List.length_append]; exact Nat.succ_le_succ h.ln, ?_, within_snoc h.wi ?_ ?_, ?_, b3, fun d hd => ?_⟩
  · rcases List.mem_append.mp hd with z | z
    · exact h.ok d z
    · rw [List.mem_singleton.mp z]
      exact ok
  · rw [dv_snoc, h.la, e1]
  · rw [h.la]
    omega
  · rw [h.la]
    omega
  · rw [tot_snoc]
    have := h.tt
    omega
  · rcases List.mem_append.mp hd with z | z
    · exact h.nb d z
    · rw [List.mem_singleton.mp z]
      exact nb
end
section
variable {P : Program} {w : World} {K : PySem.W.Frag} {mg : Str → Option Value} {base : Heap}
theorem sc_law_hidden : FnScope ["pool", "many", "far", "found", "here", "left", "turn", "way", "later", "number"] ["pool", "many", "far"] (defScope s_hidden) := ⟨rfl, rfl, rfl, by decide +kernel, rfl, by decide +kernel, by decide +kernel⟩
theorem ok_hidden {f : Addr} {fd : FuncData} (F : Fun K "_law_hidden" "_law_hidden" s_hidden f fd) (T : TxtHd mg) (c_law_draw : Cal P w K mg base 1 "_law_draw" spDraw) : FnOk P w K mg base CX0 2 f fd ["pool", "many", "far"] (spHidden18 K) := by
  refine F.ok sc_law_hidden (fun vs H Q E h => ?_) (fun cdv A outer s H vs Q E hr h => ?_)
  · obtain ⟨a, n, many, far, rfl, _⟩ := h
    rfl
  · obtain ⟨a, n, many, far, rfl, rg, hn, m0, m1, f0, f1, k⟩ := h
    refine ⟨_, (pss_cons (ps_par3 (i := 3) (j := 4) (l := 5) rfl sc_law_hidden.nd rfl rfl rfl (by decide) (by decide) (by decide) rfl rfl rfl (pa_cons (pe_lst pa_nil) (pa_cons pe_int (pa_cons (pv 2) pa_nil))) (by rfl))
      (pss_cons (ps_for PassesOwn.never rfl (pi_range1 rfl T.range (pa_cons (pe_ix ix_list (pe_lst (pa_cons (pe_cal c_law_draw hr (by decide) (by rfl) (pa_cons (pv 0) (pa_cons pe_int pa_nil))) (pa_cons (pe_cal c_law_draw hr (by decide) (by rfl) (pa_cons (pv 0) (pa_cons pe_int pa_nil))) pa_nil))) (pe_cal c_law_draw hr (by decide) (by rfl) (pa_cons (pv 0) (pa_cons pe_int pa_nil))) (fun _ _ => rfl)) pa_nil)) (pg_name (i := 6) sc_law_hidden.nd rfl (Or.inl rfl)) (pss_cons (ps_set (i := 7) sc_law_hidden.nd rfl (Or.inl rfl) (pe_cal c_law_draw hr (by decide) (by rfl) (pa_cons (pv 0) (pa_cons pe_int pa_nil))))
      (pss_one (ps_if (pt_cmpR op_lt (pv 7) pe_int (nomark _)) (pss_one (ps_expr (pe_bm PySem.F.plainAttrs_list PySem.F.slot_list_append PySem.F.type_list_append mt_append (pv 3) (pa_cons (pe_ix ix_list (pe_lst (pa_cons (pe_tup (pa_cons pe_str pa_nil)) (pa_cons (pe_tup (pa_cons pe_str pa_nil)) pa_nil))) (pv 7) (fun _ _ => rfl)) pa_nil)))) (pss_one (ps_if (pt_cmpR op_lt (pv 7) pe_int (nomark _)) (pss_cons (ps_set (i := 8) sc_law_hidden.nd rfl (Or.inl rfl) (pe_ix ix_list (pe_lst (pa_cons (pe_op op_sub (pe_cal c_law_draw hr (by decide) (by rfl) (pa_cons (pv 0) (pa_cons (pe_op op_add (pe_op op_mulW pe_int (pv 1)) pe_int) pa_nil))) (pv 1)) (pa_cons pe_int pa_nil))) (pe_callTy call_int1 (by rfl) T.int (by decide +kernel) (pa_cons (pe_cmpR op_eq (pv 7) pe_int (nomark _)) pa_nil)) (fun _ _ => rfl)))
      (pss_cons (ps_if (pt_cmpR op_ne (pv 8) (pv 4) (nomark _)) (pss_one (ps_expr (pe_bm PySem.F.plainAttrs_list PySem.F.slot_list_append PySem.F.type_list_append mt_append (pv 3) (pa_cons (pe_tup (pa_cons (pe_ix ix_list (pe_lst (pa_cons pe_str (pa_cons pe_str pa_nil))) (pe_callTy call_int1 (by rfl) T.int (by decide +kernel) (pa_cons (pe_cmpR op_gt (pv 8) (pv 4) (nomark _)) pa_nil)) (fun _ _ => rfl)) (pa_cons (pe_callB call_abs (by rfl) T.abs (by decide +kernel) (pa_cons (pe_op op_sub (pv 8) (pv 4)) pa_nil)) pa_nil))) pa_nil)))) pss_nil)
      (pss_one (ps_set (i := 4) sc_law_hidden.nd rfl (Or.inl rfl) (pv 8))))) (pss_one (ps_if (pt_cmpR op_gt (pv 5) pe_int (nomark _)) (pss_cons (ps_set (i := 9) sc_law_hidden.nd rfl (Or.inl rfl) (pe_op op_add pe_int (pe_cal c_law_draw hr (by decide) (by rfl) (pa_cons (pv 0) (pa_cons (pe_callB (call_min2 rfl) (by rfl) T.min (by decide +kernel) (pa_cons (pv 5) (pa_cons (pe_ix ix_list (pe_lst (pa_cons pe_int (pa_cons pe_int (pa_cons (pv 2) pa_nil)))) (pe_cal c_law_draw hr (by decide) (by rfl) (pa_cons (pv 0) (pa_cons pe_int pa_nil))) (fun _ _ => rfl)) pa_nil))) pa_nil)))))
      (pss_cons (ps_expr (pe_bm PySem.F.plainAttrs_list PySem.F.slot_list_append PySem.F.type_list_append mt_append (pv 3) (pa_cons (pe_tup (pa_cons (pe_ix ix_list (pe_lst (pa_cons pe_str (pa_cons pe_str pa_nil))) (pe_op op_mod (pv 7) pe_int) (fun _ _ => rfl)) (pa_cons (pv 9) pa_nil))) pa_nil)))
      (pss_one (ps_set (i := 5) sc_law_hidden.nd rfl (Or.inl rfl) (pe_op op_sub (pv 5) (pv 9)))))) pss_nil))))))))
      (pss_one (ps_ret (pv 3))))), ?_⟩
    refine ⟨Nat.zero_le _, fun l nl => ?_⟩
    have la := rg.off nl
    have e1 := new_same (o := HO.lst []) nl
    have hl1 : (upd H l (.lst [])) l = some (.lst []) := upd_same
    replace rg := rg.same e1
    generalize upd H l (.lst []) = H1 at e1 hl1 rg ⊢
    refine ⟨_, rfl, _, _, _, rfl, ?_⟩
    refine ⟨_, rfl, a, _, 5, rfl, rg, by omega, by decide, by decide, fun H2 d2 kp2 rg2 d20 d21 => ?_⟩
    refine ⟨_, rfl, a, _, 21, rfl, rg2, by omega, by decide, by decide, fun H3 d3 kp3 rg3 d30 d31 => ?_⟩
    refine ⟨(by show 2 ≤ sizeLine; decide), fun q nq => ?_⟩
    have qa := rg3.off nq
    replace hl1 := kp3 _ _ la la (kp2 _ _ la la hl1)
    have hk0 : Keep a a H H3 := (Keep.of e1).trans (kp2.trans kp3)
    have e_H4 : Same H3 (upd H3 q (.lst [V.int d2, .int d3])) := new_same nq
    have h_q : (upd H3 q (.lst [V.int d2, .int d3])) q = some (.lst [V.int d2, .int d3]) := upd_same
    generalize upd H3 q (.lst [V.int d2, .int d3]) = H4 at e_H4 h_q ⊢
    replace rg3 := rg3.same e_H4
    replace hl1 := e_H4 _ _ hl1
    refine ⟨_, rfl, a, _, 2, rfl, rg3, by omega, by decide, by decide, fun H5 d4 kp5 rg5 d40 d41 => ?_⟩
    replace h_q := kp5 _ _ qa qa h_q
    replace hl1 := kp5 _ _ la la hl1
    obtain ⟨cnt, hcnt, c0, c1⟩ : ∃ v : Int, atI [V.int d2, .int d3] d4 = some (.int v) ∧ 0 ≤ v ∧ v ≤ 20 := by
      rcases (show d4 = 0 ∨ d4 = 1 by omega) with rfl | rfl
      · exact ⟨_, rfl, d20, by omega⟩
      · exact ⟨_, rfl, d30, by omega⟩
    have kp05 : Keep a a H H5 := hk0.trans ((Keep.of e_H4).trans kp5)
    refine ⟨q, _, _, _, rfl, rfl, SqL.of h_q, hcnt, _, rfl, by omega, by omega, for_range (lo := 0) (n := cnt.toNat) (fun i σ H' => ∃ (xs : List V) (es : List Cmd) (here left : Int) (v6 v7 v8 v9 : Option V), σ = [some (.ref a), some (.int many), some (.int far), some (.ref l), some (.int here), some (.int left), v6, v7, v8, v9] ∧ HI K H a l n i many far H' xs es here left)
      ⟨[], [], 0, far, none, none, none, none, rfl, kp05, rg5, hl1, .nil, (fun _ z => nomatch z), Nat.le_refl _, rfl, (fun j => by rw [List.take_nil]; exact ⟨by show -many ≤ (0 : Int); omega, m0⟩), (by show (0 : Int) + far = far; omega), f0, fun _ z => nomatch z⟩ (fun i σ H6 hi h => ?_) (fun σ H6 h => ?_)⟩
    · obtain ⟨xs, es, here, left, v6, v7, v8, v9, rfl, h⟩ := h
      have hi' : i < 20 := by omega
      have xl : xs.length ≤ 1000 := by
        have := h.ln
        rw [h.hc.len]
        omega
      refine ⟨_, rfl, a, _, 16, rfl, h.rg, by omega, by decide, by decide, fun H7 way kp7 rg7 w0 w1 => ?_⟩
      have hl7 := kp7 _ _ la la h.hl
      have hb := h.wi es.length
      rw [List.take_length, h.la] at hb
      refine ⟨_, rfl, _, _, rfl, rfl, _, rfl, ite2 (fun c => ?_) (fun c => ?_)⟩
      · have c' : way < 2 := of_decide_eq_true c
        refine ⟨_, rfl, .inl ⟨rfl, _, SqL.of hl7⟩, (by show 1 ≤ sizeLine; decide), fun t1 n1 => ?_⟩
        have e_H8 : Same H7 (upd H7 t1 (.tup [.str "home"])) := new_same n1
        have h_t1 : (upd H7 t1 (.tup [.str "home"])) t1 = some (.tup [.str "home"]) := upd_same
        generalize upd H7 t1 (.tup [.str "home"]) = H8 at e_H8 h_t1 ⊢
        replace rg7 := rg7.same e_H8
        refine ⟨(by show 1 ≤ sizeLine; decide), fun t2 n2 => ?_⟩
        have e_H9 : Same H8 (upd H8 t2 (.tup [.str "end"])) := new_same n2
        have h_t2 : (upd H8 t2 (.tup [.str "end"])) t2 = some (.tup [.str "end"]) := upd_same
        generalize upd H8 t2 (.tup [.str "end"]) = H9 at e_H9 h_t2 ⊢
        replace rg7 := rg7.same e_H9
        replace h_t1 := e_H9 _ _ h_t1
        refine ⟨(by show 2 ≤ sizeLine; decide), fun t3 n3 => ?_⟩
        have e_H10 : Same H9 (upd H9 t3 (.lst [.ref t1, .ref t2])) := new_same n3
        have h_t3 : (upd H9 t3 (.lst [.ref t1, .ref t2])) t3 = some (.lst [.ref t1, .ref t2]) := upd_same
        generalize upd H9 t3 (.lst [.ref t1, .ref t2]) = H10 at e_H10 h_t3 ⊢
        replace rg7 := rg7.same e_H10
        replace h_t1 := e_H10 _ _ h_t1
        replace h_t2 := e_H10 _ _ h_t2
        have kp10 := kp7.trans (Keep.of (e_H8.trans (e_H9.trans e_H10)))
        rcases (show way = 0 ∨ way = 1 by omega) with rfl | rfl
        · refine ⟨_, rfl, t3, _, _, _, rfl, rfl, SqL.of h_t3, rfl, l, _, _, rfl, rfl, kp10 _ _ la la h.hl, lt_line (by omega), ?_⟩
          exact ⟨_, _, _, _, _, _, _, _, rfl, h.step la nl kp10 rg7 (by omega) (c := .home) h_t1 trivial (by decide) (Int.add_zero _) hb.1 hb.2 (Int.sub_zero _) h.l0⟩
        · refine ⟨_, rfl, t3, _, _, _, rfl, rfl, SqL.of h_t3, rfl, l, _, _, rfl, rfl, kp10 _ _ la la h.hl, lt_line (by omega), ?_⟩
          exact ⟨_, _, _, _, _, _, _, _, rfl, h.step la nl kp10 rg7 (by omega) (c := .stop) h_t2 trivial (by decide) (Int.add_zero _) hb.1 hb.2 (Int.sub_zero _) h.l0⟩
      · have c' : ¬ way < 2 := fun z => c (decide_eq_true z)
        refine ⟨_, rfl, _, _, rfl, rfl, _, rfl, ite2 (fun e => ?_) (fun e => ?_)⟩
        · have e' : way < 7 := of_decide_eq_true e
          refine ⟨_, rfl, _, rfl, _, _, rfl, rfl, wide_mul (a := 2) (b := 10) (by decide) (by omega) (by decide) (by decide) (by decide), _, _, rfl, rfl, a, _, _, rfl, rg7, by omega, by omega, log9 (a := 10) (by omega) (by decide), fun H8 dl kp8 rg8 dl0 dl1 => ?_⟩
          refine ⟨_, rfl, _, _, rfl, rfl, (by show 2 ≤ sizeLine; decide), fun q1 nq1 => ?_⟩
          have q1a := rg8.off nq1
          have kp78 := kp7.trans kp8
          have e_H9 : Same H8 (upd H8 q1 (.lst [V.int (dl - many), .int 0])) := new_same nq1
          have h_q1 : (upd H8 q1 (.lst [V.int (dl - many), .int 0])) q1 = some (.lst [V.int (dl - many), .int 0]) := upd_same
          generalize upd H8 q1 (.lst [V.int (dl - many), .int 0]) = H9 at e_H9 h_q1 ⊢
          replace rg8 := rg8.same e_H9
          obtain ⟨later, hat, b1, b2⟩ : ∃ v : Int, atI [V.int (dl - many), .int 0] (if decide (V.int way = V.int 2) = true then 1 else 0) = some (.int v) ∧ -many ≤ v ∧ v ≤ many := by
            by_cases hw : way = 2
            · exact ⟨0, at_tP (by rw [hw]; decide +kernel), by omega, by omega⟩
            · exact ⟨dl - many, at_fP (by simp [hw]), by omega, by omega⟩
          refine ⟨_, rfl, rfl, .inr ⟨_, rfl, q1, _, _, _, rfl, rfl, SqL.of h_q1, hat, ?_⟩⟩
          have kp79 := kp78.trans (Keep.of e_H9)
          have hl9 := kp79 _ _ la la h.hl
          refine ⟨_, rfl, _, rfl, rfl, _, rfl, ite2 (fun g => ?_) (fun g => ?_)⟩
          · have g' : later ≠ here := fun z => by
              rw [z] at g
              simp at g
            refine ⟨_, rfl, .inl ⟨rfl, _, SqL.of hl9⟩, (by show 2 ≤ sizeLine; decide), fun p1 np1 => ?_⟩
            have e_H10 : Same H9 (upd H9 p1 (.lst [V.str "up", .str "down"])) := new_same np1
            have h_p1 : (upd H9 p1 (.lst [V.str "up", .str "down"])) p1 = some (.lst [V.str "up", .str "down"]) := upd_same
            generalize upd H9 p1 (.lst [V.str "up", .str "down"]) = H10 at e_H10 h_p1 ⊢
            replace rg8 := rg8.same e_H10
            replace hl9 := e_H10 _ _ hl9
            have kp10 := kp79.trans (Keep.of e_H10)
            rcases (show here < later ∨ ¬ here < later by omega) with lt | lt
            · refine ⟨_, rfl, _, rfl, _, _, rfl, rfl, .inr ⟨_, rfl, p1, _, _, _, rfl, rfl, SqL.of h_p1, at_tP (decide_eq_true lt), _, rfl, _, rfl, _, _, rfl, rfl, _, rfl, (by show 2 ≤ sizeLine; decide), fun t nt => ?_⟩⟩
              rw [if_neg (show ¬ later - here < 0 by omega)]
              refine ⟨l, _, _, rfl, rfl, new_same nt _ _ hl9, lt_line (by omega), _, rfl, ?_⟩
              exact ⟨_, _, _, _, _, _, _, _, rfl, h.step la nl (kp10.trans (Keep.of (new_same nt))) (rg8.same (new_same nt)) (by omega) (c := .down (later - here)) upd_same (by show 1 ≤ later - here; omega) (by show later - here < _; omega) (by show here + (later - here) = later; omega) b1 b2 (Int.sub_zero _) h.l0⟩
            · refine ⟨_, rfl, _, rfl, _, _, rfl, rfl, .inr ⟨_, rfl, p1, _, _, _, rfl, rfl, SqL.of h_p1, at_fP (decide_eq_false lt), _, rfl, _, rfl, _, _, rfl, rfl, _, rfl, (by show 2 ≤ sizeLine; decide), fun t nt => ?_⟩⟩
              rw [if_pos (show later - here < 0 by omega)]
              refine ⟨l, _, _, rfl, rfl, new_same nt _ _ hl9, lt_line (by omega), _, rfl, ?_⟩
              exact ⟨_, _, _, _, _, _, _, _, rfl, h.step la nl (kp10.trans (Keep.of (new_same nt))) (rg8.same (new_same nt)) (by omega) (c := .up (-(later - here))) upd_same (by show 1 ≤ -(later - here); omega) (by show -(later - here) < _; omega) (by show here + -(-(later - here)) = later; omega) b1 b2 (Int.sub_zero _) h.l0⟩
          · have g' : later = here := Classical.byContradiction fun z => g (by simp [z])
            refine ⟨_, rfl, ?_⟩
            rw [g']
            exact ⟨_, _, _, _, _, _, _, _, rfl, h.keep la kp79 rg8 (by omega)⟩
        · have e' : ¬ way < 7 := fun z => e (decide_eq_true z)
          refine ⟨_, rfl, _, _, rfl, rfl, _, rfl, ite2 (fun g => ?_) (fun g => ?_)⟩
          · have g' : 0 < left := of_decide_eq_true g
            have tl := h.tt
            have tn := tot_nn h.ok
            refine ⟨_, rfl, _, rfl, _, rfl, (by show 3 ≤ sizeLine; decide), fun q1 nq1 => ?_⟩
            have q1a := rg7.off nq1
            have e_H8 : Same H7 (upd H7 q1 (.lst [V.int 4, .int 30, .int far])) := new_same nq1
            have h_q1 : (upd H7 q1 (.lst [V.int 4, .int 30, .int far])) q1 = some (.lst [V.int 4, .int 30, .int far]) := upd_same
            generalize upd H7 q1 (.lst [V.int 4, .int 30, .int far]) = H8 at e_H8 h_q1 ⊢
            replace rg7 := rg7.same e_H8
            refine ⟨_, rfl, a, _, 3, rfl, rg7, by omega, by decide, by decide, fun H9 d9 kp9 rg9 d90 d91 => ?_⟩
            replace h_q1 := kp9 _ _ q1a q1a h_q1
            obtain ⟨top, hat, b1, b2⟩ : ∃ v : Int, atI [V.int 4, .int 30, .int far] d9 = some (.int v) ∧ 0 < v ∧ v ≤ 10 ^ 6 := by
              rcases (show d9 = 0 ∨ d9 = 1 ∨ d9 = 2 by omega) with rfl | rfl | rfl
              · exact ⟨_, rfl, by decide, by decide⟩
              · exact ⟨_, rfl, by decide, by decide⟩
              · exact ⟨_, rfl, by omega, f1⟩
            refine ⟨q1, _, _, _, rfl, rfl, SqL.of h_q1, hat, _, _, rfl, ?_⟩
            obtain ⟨mn, emn, mn0, mn1⟩ : ∃ mn : Int, (if top < left then top else left) = mn ∧ 0 < mn ∧ mn ≤ left := ⟨_, rfl, by split <;> omega, by split <;> omega⟩
            rw [emn]
            refine ⟨a, _, _, rfl, rg9, by omega, mn0, log9 (a := 30) (by omega) (by decide), fun H10 dn kp10 rg10 dn0 dn1 => ?_⟩
            have kpA := kp7.trans ((Keep.of e_H8).trans (kp9.trans kp10))
            have hlA := kpA _ _ la la h.hl
            refine ⟨_, _, rfl, rfl, _, rfl, .inl ⟨rfl, _, SqL.of hlA⟩, (by show 2 ≤ sizeLine; decide), fun p1 np1 => ?_⟩
            have e_H11 : Same H10 (upd H10 p1 (.lst [V.str "right", .str "left"])) := new_same np1
            have h_p1 : (upd H10 p1 (.lst [V.str "right", .str "left"])) p1 = some (.lst [V.str "right", .str "left"]) := upd_same
            generalize upd H10 p1 (.lst [V.str "right", .str "left"]) = H11 at e_H11 h_p1 ⊢
            replace rg10 := rg10.same e_H11
            replace hlA := e_H11 _ _ hlA
            have kpB := kpA.trans (Keep.of e_H11)
            rcases (show way % 2 = 0 ∨ way % 2 = 1 by omega) with hd | hd
            · refine ⟨_, rfl, _, _, rfl, rfl, (by decide : (0 : Int) < 2), p1, _, _, .str "right", rfl, rfl, SqL.of h_p1, (by rw [hd]; rfl), _, rfl, (by show 2 ≤ sizeLine; decide), fun t nt => ?_⟩
              refine ⟨l, _, _, rfl, rfl, new_same nt _ _ hlA, lt_line (by omega), _, rfl, _, rfl, _, _, rfl, rfl, ?_⟩
              exact ⟨_, _, _, _, _, _, _, _, rfl, h.step la nl (kpB.trans (Keep.of (new_same nt))) (rg10.same (new_same nt)) (by omega) (c := .right (1 + dn)) upd_same (by show 1 ≤ 1 + dn; omega) (by show 1 + dn < _; omega) (Int.add_zero _) hb.1 hb.2 rfl (by show 0 ≤ left - (1 + dn); omega)⟩
            · refine ⟨_, rfl, _, _, rfl, rfl, (by decide : (0 : Int) < 2), p1, _, _, .str "left", rfl, rfl, SqL.of h_p1, (by rw [hd]; rfl), _, rfl, (by show 2 ≤ sizeLine; decide), fun t nt => ?_⟩
              refine ⟨l, _, _, rfl, rfl, new_same nt _ _ hlA, lt_line (by omega), _, rfl, _, rfl, _, _, rfl, rfl, ?_⟩
              exact ⟨_, _, _, _, _, _, _, _, rfl, h.step la nl (kpB.trans (Keep.of (new_same nt))) (rg10.same (new_same nt)) (by omega) (c := .left (1 + dn)) upd_same (by show 1 ≤ 1 + dn; omega) (by show 1 + dn < _; omega) (Int.add_zero _) hb.1 hb.2 rfl (by show 0 ≤ left - (1 + dn); omega)⟩
          · exact ⟨_, _, _, _, _, _, _, _, rfl, h.keep la kp7 rg7 (by omega)⟩
    · obtain ⟨xs, es, here, left, v6, v7, v8, v9, rfl, h⟩ := h
      have := h.ln
      have := h.tt
      have := h.l0
      exact ⟨_, rfl, k _ l xs es h.kp (h.rg.more (by omega)) nl h.hl h.hc h.ok (by omega) h.wi (by omega) h.nb⟩
end
end Gc

/-! a box asked against the law's own running (k18) -/
namespace Gc
open PySem L2
abbrev s_asks : Stmt := top 39
structure TxtAs (mg : Str → Option Value) : Prop where
  range : mg "range" = none
  len : mg "len" = none
/-- the source, the box, the law's own list -/
structure Sit18 (K : PySem.W.Frag) (CB : Addr) (H : Hp) (a : Addr) (N : Nat) (x dx l kl : Addr) (xs : List V) (es : List Cmd) (n : Int) : Prop where
  rg : Rng H a N
  hh : Hides K CB H x dx l xs es n
  hk : H kl = some (.lst xs)
  la : l ≠ a
  ka : kl ≠ a
  nb : ∀ c ∈ es, numC c < 10 ^ 40
section
variable {K : PySem.W.Frag} {CB : Addr} {H H' : Hp} {a x dx l kl : Addr} {N M : Nat} {xs : List V} {es : List Cmd} {n m : Int}
theorem Sit18.xa (S : Sit18 K CB H a N x dx l kl xs es n) : x ≠ a := by
  obtain ⟨_, _, _, z, _⟩ := S.rg
  exact ne_of S.hh.bx z fun q => nomatch q
theorem Sit18.same (S : Sit18 K CB H a N x dx l kl xs es n) (e : Same H H') : Sit18 K CB H' a N x dx l kl xs es n := ⟨S.rg.same e, S.hh.same e, e _ _ S.hk, S.la, S.ka, S.nb⟩
theorem Sit18.more (S : Sit18 K CB H a N x dx l kl xs es n) (h : N ≤ M) : Sit18 K CB H a M x dx l kl xs es n := { S with rg := S.rg.more h }
theorem Sit18.draw (S : Sit18 K CB H a N x dx l kl xs es n) (k : Keep a a H H') (R : Rng H' a M) : Sit18 K CB H' a M x dx l kl xs es n :=
  ⟨R, ⟨k _ _ S.xa S.xa S.hh.bx, k _ _ S.la S.la S.hh.hl, S.rg.cmds k S.hh.hc, S.hh.ok, S.hh.ln⟩, k _ _ S.ka S.ka S.hk, S.la, S.ka, S.nb⟩
theorem Sit18.ask (S : Sit18 K CB H a N x dx l kl xs es n) (k : Keep x x H H') (hh : Hides K CB H' x dx l xs es m) : Sit18 K CB H' a N x dx l kl xs es m := by
  have kx := ne_of S.hk S.hh.bx fun q => nomatch q
  obtain ⟨g, s, c, z, z2⟩ := S.rg
  exact ⟨⟨g, s, c, k _ _ S.xa.symm S.xa.symm z, z2⟩, hh, k _ _ kx kx S.hk, S.la, S.ka, S.nb⟩
end
theorem keepL {a x : Addr} {H H' : Hp} (k : Keep a a H H') : Keep a x H H' := fun c o h1 _ hc => k c o h1 h1 hc
theorem keepR {a x : Addr} {H H' : Hp} (k : Keep x x H H') : Keep a x H H' := fun c o _ h2 hc => k c o h2 h2 hc
def optDA : Option Int → PyData
  | none => .none
  | some n => .int n
theorem dp_optA {K : PySem.W.Frag} {H : Hp} (o : Option Int) : Dp K H (optV o) (optDA o) := by
  cases o with
  | none => exact .non
  | some n => exact .int n
theorem spot_layA (r : Int) (g : Option Int) : (PyData.tuple [.int r, optDA g]).canLay0 = true := by cases g <;> rfl
theorem spot_shapedA (r : Int) (g : Option Int) : SeqAt.shaped (.tuple [.int r, optDA g]) = true := by cases g <;> rfl
def spAsks18 (K : PySem.W.Frag) (CB : Addr) : Sp := fun vs H Q _ => ∃ (a x dx l kl : Addr) (N : Nat) (xs : List V) (es : List Cmd) (n : Int), vs = [.ref a, .ref x, .ref kl] ∧ Sit18 K CB H a N x dx l kl xs es n ∧ N < 2 ^ 36 ∧
  ∀ H', Keep a x H H' → Sit18 K CB H' a (N + 400) x dx l kl xs es (n + 3) → Q (.bl true) H'
section
variable {P : Program} {w : World} {K : PySem.W.Frag} {mg : Str → Option Value} {base : Heap} {CB : Addr} {cs : Nat → Addr}
theorem sc_law_answers_right : FnScope ["pool", "hidden", "keys", "turn", "lengths", "spot", "before", "line"] ["pool", "hidden", "keys"] (defScope s_asks) := ⟨rfl, rfl, rfl, by decide +kernel, rfl, by decide +kernel, by decide +kernel⟩
theorem ok_asks {f : Addr} {fd : FuncData} (F : Fun K "_law_answers_right" "_law_answers_right" s_asks f fd) (T : TxtAs mg) (c_law_draw : Cal P w K mg base 1 "_law_draw" spDraw) (c_law_ran : Cal P w K mg base 2 "_law_ran" (spRan K)) (m_answer : Mth P w K mg base (L2.CX P w) 5 CB "answer" (zAnswer K CB cs)) (c_questions : Prp P w K mg base 1 CB "questions" (spQuestions CB)) :
    FnOk P w K mg base CX0 6 f fd ["pool", "hidden", "keys"] (spAsks18 K CB) := by
  refine F.ok sc_law_answers_right (fun vs H Q E h => ?_) (fun cdv A outer s H vs Q E hr h => ?_)
  · obtain ⟨a, x, dx, l, kl, N, xs, es, n, rfl, _⟩ := h
    rfl
  · obtain ⟨a, x, dx, l, kl, N, xs, es, n, rfl, S, hN, k⟩ := h
    refine ⟨_, (pss_cons (ps_for PassesOwn.never rfl (pi_range1 rfl T.range (pa_cons pe_int pa_nil)) (pg_name (i := 3) sc_law_answers_right.nd rfl (Or.inl rfl)) (pss_cons (ps_setLc (i := 4) (own := [("line", 7)]) rfl sc_law_answers_right.nd rfl rfl (sw_true rfl rfl rfl (by decide +kernel)) (pi_range1 rfl T.range (pa_cons (pe_op op_add pe_int (pe_cal c_law_draw hr (by decide) (by rfl) (pa_cons (pv 0) (pa_cons pe_int pa_nil)))) pa_nil)) (blkOk_by (N := ["pool", "hidden", "keys", "turn", "lengths", "spot", "before", "line"]) (sc := defScope s_asks) (by decide +kernel)) (fun _ _ _ _ _ => (pg_name (i := 7) sc_law_answers_right.nd rfl (Or.inl rfl))) (fun _ _ _ _ _ => pts_nil) (fun _ _ _ _ _ => (pe_cal c_law_draw hr (by decide) (by rfl) (pa_cons (pv 0) (pa_cons (pe_ix (show IxR _ (rIxL K) from ix_list) (pe_lst (pa_cons pe_int (pa_cons pe_int pa_nil))) (pe_cal c_law_draw hr (by decide) (by rfl) (pa_cons (pv 0) (pa_cons pe_int pa_nil))) (fun _ _ => rfl)) pa_nil)))))
      (pss_cons (ps_set (i := 5) sc_law_answers_right.nd rfl (Or.inl rfl) (pe_tup (pa_cons (pe_cal c_law_draw hr (by decide) (by rfl) (pa_cons (pv 0) (pa_cons (pe_callB call_len_seq (by rfl) T.len (by decide +kernel) (pa_cons (pv 4) pa_nil)) pa_nil))) (pa_cons (pe_ix ix_list (pe_lst (pa_cons (pe_cal c_law_draw hr (by decide) (by rfl) (pa_cons (pv 0) (pa_cons pe_int pa_nil))) (pa_cons pe_non pa_nil))) (pe_cal c_law_draw hr (by decide) (by rfl) (pa_cons (pv 0) (pa_cons pe_int pa_nil))) (fun _ _ => rfl)) pa_nil))))
      (pss_cons (ps_set (i := 6) sc_law_answers_right.nd rfl (Or.inl rfl) (pe_prp c_questions hr (by decide) (pv 1) rfl))
      (pss_one (ps_if (PW.pt (pw_or (pt_cmpR (show OpR _ _ (rNeD K) from op_neD hr.units) (show PE _ _ (tMX CB "answer" (zAnswer K CB cs) (fun _ _ _ _ => False) _ _) from pe_mthX takesNone m_answer hr (by decide) (pv 1) (pa_cons (pv 4) (pa_cons (pv 5) pa_nil))) (pe_ix (show IxR _ (rIxL K) from ix_list) (pe_cal c_law_ran hr (by decide) (by rfl) (pa_cons (pv 4) (pa_cons (pv 5) (pa_cons (pv 2) pa_nil)))) pe_int (fun _ _ => rfl)) (nomark _)) (pw_or1 (pt_cmpR op_ne (pe_prp c_questions hr (by decide) (pv 1) rfl) (pe_op op_add (pv 6) pe_int) (nomark _))))) (pss_one (ps_ret pe_bl)) pss_nil))))))
      (pss_one (ps_ret pe_bl))), ?_⟩
    have xa := S.xa
    refine ⟨_, rfl, by decide, by decide, for_range (lo := 0) (n := 3) (fun i σ H' => ∃ (v3 v4 v5 v6 : Option V), σ = [some (.ref a), some (.ref x), some (.ref kl), v3, v4, v5, v6, none] ∧ Keep a x H H' ∧ Sit18 K CB H' a (N + 100 * i) x dx l kl xs es (n + (i : Nat)))
      ⟨none, none, none, none, rfl, Keep.refl H, by rw [show n + ((0 : Nat) : Int) = n by omega]; exact S⟩ (fun i σ H1 hi h => ?_) (fun σ H1 h => ?_)⟩
    · obtain ⟨v3, v4, v5, v6, rfl, kp0, S1⟩ := h
      refine ⟨_, rfl, a, _, 31, rfl, S1.rg, by omega, by decide, by decide, fun H2 dn kp2 rg2 dn0 dn1 => ⟨_, _, rfl, rfl, ?_⟩⟩
      have S2 := S1.draw kp2 rg2
      refine ⟨_, rfl, by omega, by omega, fun D nD => ?_⟩
      have Da := rg2.off nD
      refine lc_range (lo := 0) (n := (1 + dn).toNat) (fun j H' => ∃ T : List Int, Keep a a H2 H' ∧ Rng H' a (N + 100 * i + 1 + 2 * j) ∧ H' D = some (.lst (T.map V.int)) ∧ T.length = j ∧ ∀ y ∈ T, 0 ≤ y ∧ y < 40)
        ⟨[], Keep.of (new_same nD), rg2.same (new_same nD), upd_same, rfl, fun _ z => nomatch z⟩ (fun j H3 hj h => ?_) (fun H3 h => ?_)
      · obtain ⟨T, kp3, rg3, hD, tl, tb⟩ := h
        refine ⟨rfl, _, rfl, (by show 2 ≤ sizeLine; decide), fun q nq => ?_⟩
        have qa := rg3.off nq
        have e_H4 : Same H3 (upd H3 q (.lst [V.int 3, .int 40])) := new_same nq
        have h_q : (upd H3 q (.lst [V.int 3, .int 40])) q = some (.lst [V.int 3, .int 40]) := upd_same
        generalize upd H3 q (.lst [V.int 3, .int 40]) = H4 at e_H4 h_q ⊢
        replace rg3 := rg3.same e_H4
        replace hD := e_H4 _ _ hD
        refine ⟨_, rfl, a, _, 2, rfl, rg3, by omega, by decide, by decide, fun H5 d5 kp5 rg5 d50 d51 => ?_⟩
        replace h_q := kp5 _ _ qa qa h_q
        replace hD := kp5 _ _ Da Da hD
        obtain ⟨top, hat, t0, t1⟩ : ∃ v : Int, atI [V.int 3, .int 40] d5 = some (.int v) ∧ 0 < v ∧ v ≤ 40 := by
          rcases (show d5 = 0 ∨ d5 = 1 by omega) with rfl | rfl
          · exact ⟨_, rfl, by decide, by decide⟩
          · exact ⟨_, rfl, by decide, by decide⟩
        refine ⟨q, _, _, _, rfl, rfl, SqL.of h_q, hat, a, _, _, rfl, rg5, by omega, t0, log9 (a := 10) (by omega) (by decide), fun H6 dv kp6 rg6 dv0 dv1 => ?_⟩
        replace hD := kp6 _ _ Da Da hD
        refine ⟨_, hD, lt_line (by rw [List.length_map]; omega), T ++ [dv], (kp3.trans ((Keep.of e_H4).trans (kp5.trans kp6))).freeU nD, (rng_upd rg6 Da).more (by omega), by rw [upd_same, List.map_append]; rfl, by rw [List.length_append, tl]; rfl, fun y hy => ?_⟩
        rcases List.mem_append.mp hy with z | z
        · exact tb y z
        · rw [List.mem_singleton.mp z]
          exact ⟨dv0, by omega⟩
      · obtain ⟨T, kp3, rg3, hD, tl, tb⟩ := h
        have S3 := S2.draw kp3 rg3
        have kp13 := kp2.trans kp3
        refine ⟨_, rfl, _, rfl, D, _, rfl, .inl (SqL.of hD), a, _, _, rfl, rg3, by omega, by rw [List.length_map]; omega, log9 (a := 10) (by rw [List.length_map]; omega) (by decide), fun H5 row kp5 rg5 row0 row1 => ?_⟩
        rw [List.length_map] at row1
        refine ⟨_, rfl, a, _, 30, rfl, rg5, by omega, by decide, by decide, fun H6 gl kp6 rg6 gl0 gl1 => ?_⟩
        refine ⟨(by show 2 ≤ sizeLine; decide), fun q nq => ?_⟩
        have qa := rg6.off nq
        have S6 := S3.draw (kp5.trans kp6) rg6
        have kp16 := kp13.trans (kp5.trans kp6)
        replace hD := kp6 _ _ Da Da (kp5 _ _ Da Da hD)
        have e_H7 : Same H6 (upd H6 q (.lst [V.int gl, .non])) := new_same nq
        have h_q : (upd H6 q (.lst [V.int gl, .non])) q = some (.lst [V.int gl, .non]) := upd_same
        generalize upd H6 q (.lst [V.int gl, .non]) = H7 at e_H7 h_q ⊢
        replace rg6 := rg6.same e_H7
        replace hD := e_H7 _ _ hD
        refine ⟨_, rfl, a, _, 2, rfl, rg6, by omega, by decide, by decide, fun H8 d8 kp8 rg8 d80 d81 => ?_⟩
        have S8 := (S6.same e_H7).draw kp8 rg8
        have kp18 := kp16.trans ((Keep.of e_H7).trans kp8)
        replace h_q := kp8 _ _ qa qa h_q
        replace hD := kp8 _ _ Da Da hD
        obtain ⟨g, hat, g0⟩ : ∃ g : Option Int, atI [V.int gl, .non] d8 = some (optV g) ∧ ge g 0 := by
          rcases (show d8 = 0 ∨ d8 = 1 by omega) with rfl | rfl
          · exact ⟨some gl, rfl, ge_some.mpr gl0⟩
          · exact ⟨none, rfl, ge_none 0⟩
        refine ⟨q, _, _, _, rfl, rfl, SqL.of h_q, hat, (by show 2 ≤ sizeLine; decide), fun b nb => ?_⟩
        have S9 := S8.same (new_same (o := HO.tup [V.int row, optV g]) nb)
        have kp19 := kp18.trans (Keep.of (new_same (o := HO.tup [V.int row, optV g]) nb))
        have hb9 : (upd H8 b (.tup [V.int row, optV g])) b = some (.tup [V.int row, optV g]) := upd_same
        have hD9 := new_same (o := HO.tup [V.int row, optV g]) nb _ _ hD
        generalize upd H8 b (.tup [V.int row, optV g]) = H9 at S9 kp19 hb9 hD9 ⊢
        refine ⟨_, rfl, x, dx, _, rfl, S9.hh.bx, x, dx, l, _, rfl, S9.hh.bx, ?_⟩
        have nn : ∀ y ∈ T, 0 ≤ y := fun y hy => (tb y hy).1
        -- the law's own answer, and the count
        have rest : ∀ (o : Option (Int × Option Int)), afterL T row g es = o → ∀ (H10 : Hp) (v : V) (d : PyData), Keep x x H9 H10 → Hides K CB H10 x dx l xs es (n + i + 1) → (o = none → v = .non ∧ d = .none) → (∀ r' g', o = some (r', g') → ∃ p, v = .ref p ∧ SqT K H10 p [.int r', optV g'] ∧ d = .tuple [.int r', optDA g']) →
            SqL K H10 D (T.map V.int) ∧ SqT K H10 b [.int row, optV g] ∧ Sit18 K CB H10 a (N + 100 * (i + 1)) x dx l kl xs es (n + ((i + 1 : Nat) : Int)) ∧ Keep a x H H10 := fun o ho H10 v d kp hh h1 h2 => by
          have Dx := ne_of hD9 S9.hh.bx fun z => nomatch z
          refine ⟨SqL.of (kp _ _ Dx Dx hD9), S9.hh.tup kp (SqT.of hb9), ?_, kp0.trans ((keepL kp19).trans (keepR kp))⟩
          rw [show n + ((i + 1 : Nat) : Int) = n + i + 1 by omega]
          exact (S9.ask kp hh).more (by omega)
        refine ⟨_, rfl, x, dx, _, rfl, S9.hh.bx, rfl, _, rfl, _, rfl, ask_box18 S9.hh (SqL.of hD9) (SqT.of hb9) nn row0 row1 g0 (fun ha H10 kp10 hh10 => ?_) (fun r' g' ha H10 p kp10 hh10 hp => ?_)⟩
        · obtain ⟨a1, a2, a3, a4⟩ := rest none ha H10 .non .none kp10 hh10 (fun _ => ⟨rfl, rfl⟩) (fun _ _ z => nomatch z)
          refine ⟨_, rfl, _, rfl, _, rfl, D, b, kl, T, row, g, xs, es, rfl, a1, a2, SqL.of a3.hk, a3.hh.hc, row0, row1, S.hh.ok, S.nb, fun m hm H11 pr e11 npr hpr => ?_, fun r' g' hb => ?_⟩
          · refine ⟨pr, _, 0, _, rfl, rfl, SqL.of hpr, rfl, .none, .none, .non, .non, rfl, rfl, _, rfl, ?_⟩
            rw [SeqAt.eqv_refl _ rfl]
            refine iteF ?_
            have S11 := a3.same e11
            refine ⟨_, rfl, x, dx, _, rfl, S11.hh.bx, x, dx, l, _, rfl, S11.hh.bx, _, rfl, _, _, rfl, rfl, rfl, _, rfl, ite2 (fun c => ?_) (fun _ => ⟨_, _, _, _, rfl, a4.trans (keepL (Keep.of e11)), S11⟩)⟩
            rw [show n + ((i + 1 : Nat) : Int) = n + i + 1 by omega] at c
            simp at c
          · rw [ha] at hb
            cases hb
        · obtain ⟨a1, a2, a3, a4⟩ := rest (some (r', g')) ha H10 (.ref p) _ kp10 hh10 (fun z => nomatch z) (fun r2 g2 z => by
            cases z
            exact ⟨p, rfl, hp, rfl⟩)
          refine ⟨_, rfl, _, rfl, _, rfl, D, b, kl, T, row, g, xs, es, rfl, a1, a2, SqL.of a3.hk, a3.hh.hc, row0, row1, S.hh.ok, S.nb, fun m hm => ?_, fun r2 g2 hb H11 pr q2 e11 npr hpr hq2 => ?_⟩
          · have z := fail_none.mpr (show afterL T row g es ≠ none by rw [ha]; simp)
            rw [z] at hm
            cases hm
          · rw [ha] at hb
            cases hb
            refine ⟨pr, _, 0, _, rfl, rfl, SqL.of hpr, rfl, .tuple [.int r', optDA g'], .tuple [.int r', optDA g'], .tup (seq_t e11 hp) (.cons (.int _) (.cons (dp_optA _) .nil)), .tup hq2 (.cons (.int _) (.cons (dp_optA _) .nil)), spot_shapedA r' g', spot_shapedA r' g', _, rfl, ?_⟩
            rw [SeqAt.eqv_refl _ (spot_layA r' g')]
            refine iteF ?_
            have S11 := a3.same e11
            refine ⟨_, rfl, x, dx, _, rfl, S11.hh.bx, x, dx, l, _, rfl, S11.hh.bx, _, rfl, _, _, rfl, rfl, rfl, _, rfl, ite2 (fun c => ?_) (fun _ => ⟨_, _, _, _, rfl, a4.trans (keepL (Keep.of e11)), S11⟩)⟩
            rw [show n + ((i + 1 : Nat) : Int) = n + i + 1 by omega] at c
            simp at c
    · obtain ⟨v3, v4, v5, v6, rfl, kp0, S1⟩ := h
      exact k _ kp0 (S1.more (by show N + 100 * 3 ≤ _; omega))
end
end Gc

/-! defs that call repr: what is shown just now is told to be nothing. The law's own defs go so; all others as before -/
namespace Gc
open PySem PySem.Spec PyProof.Rows L2
structure FnG (P : Program) (w : World) (K : PySem.W.Frag) (mg : Str → Option Value) (base : Heap) (k : Nat) (f : Addr) (fd : FuncData) (ps : List Str) (sp : Sp) : Prop where
  len : ∀ vs H Q E, sp vs H Q E → vs.length = ps.length
  run : ∀ (A : Around) (outer : List Env) (s : Shared) (H : Hp) (args : Args) (us : List Value) (vs : List V) (Q : VK) (E : XK), A.guards = some [] → Room k A → Env0 P w K mg base A outer s H →
    BindsTo s fd args (ps.zip us) → Vals vs us → sp vs H Q E → codeAny (model P w) A (.call (.ref f) args) (CR CX0 outer P w H s Q E) s
theorem FnG.of {P : Program} {w : World} {K : PySem.W.Frag} {mg : Str → Option Value} {base : Heap} {k : Nat} {f : Addr} {fd : FuncData} {ps : List Str} {sp : Sp} (F : FnOk P w K mg base CX0 k f fd ps sp) : FnG P w K mg base k f fd ps sp :=
  ⟨F.len, fun A outer s H args us vs Q E _ hr e0 hb hv hs => F.run A outer s H args us vs Q E hr e0 hb hv hs⟩
section
variable {P : Program} {w : World} {K : PySem.W.Frag} {mg : Str → Option Value} {base : Heap}
theorem okG {x qual : Str} {st : Stmt} {f : Addr} {fd : FuncData} {N ps : List Str} {k : Nat} {sp : Sp} (F : Fun K x qual st f fd) (S : FnScope N ps (defScope st)) (len : ∀ vs H Q E, sp vs H Q E → vs.length = ps.length)
    (hbody : ∀ (cdv : Value) (A : Around) (outer : List Env) (s : Shared) (H : Hp) (vs : List V) (Q : VK) (E : XK), (A.deeper (envOfC qual (defScope st) s.heap.objs.size f cdv)).guards = some [] → Room k (A.deeper (envOfC qual (defScope st) s.heap.objs.size f cdv)) → sp vs H Q E →
      ∃ t, PSs (cxOf CX0 P w K mg base N qual (defScope st) f cdv A outer s H E).nox (defBody st) t ∧ t { nx := fun _ H' => Q .non H', rt := Q } (start N vs) H) : FnG P w K mg base (k + 1) f fd ps sp := by
  obtain ⟨oc, od, kV, doc, pm, an, cdv, ct, osl, rfl, lk, hcd⟩ := F.ex
  refine ⟨len, fun A outer s H args us vs Q E hg hr e0 hb r hsp => ?_⟩
  have n := len _ _ _ _ hsp
  have same : ∀ b o, base.get? b = some o → s.heap.get? b = some o := fun b o e => (e0.bs b o e).1
  have kin : K.In s.heap := e0.mod.kin.keeps same
  have kinds : ∀ y ∈ ps.zip us, (defScope st).names.lookup y.1 = some .local ∨ ((defScope st).names.lookup y.1 = some .cell ∧ ((cellsFrom (s.heap.objs.size + 1) (defScope st).names []).lookup y.1).isSome = true) := by
    rintro ⟨y, v⟩ hy
    exact (S.par y (List.of_mem_zip hy).1).imp id fun q => ⟨q, PySem.W.cellsFrom_some _ _ _ (.inl q)⟩
  refine codeAny_call_function hr.depth (kin _ _ lk) rfl S.co S.gen rfl (PySem.W.codeRec_of kin hcd) (hb _ _ _ _ (wpAny_newFunctionEnv_cells S.kind kinds fun env he s1 x => ?_))
  subst he
  refine ⟨(e0.mod.nolimit.keeps same).keeps x.toInCall.keep, codeAny_func ?_⟩
  obtain ⟨t, ht, hq⟩ := hbody cdv A outer s H vs Q E hg (hr.deeper _) hsp
  refine wpAny_mono (ht.nox.run [] s1 (start N vs) H _ (inv_start S hr.hd e0 n r x) hq) (fun fl s' hs => ?_) fun e s' hs => hs
  match fl, hs with
  | .ret u, ⟨v, σ', H', J, rv, q⟩ => exact ⟨v, H', J.os, J.bare, J.base, J.hok, rv, q⟩
  | .next, ⟨σ', H', J, q⟩ => exact ⟨V.non, H', J.os, J.bare, J.base, J.hok, rfl, q⟩
  | .brk, ⟨_, _, _, q⟩ => exact q.elim
  | .cont, ⟨_, _, _, q⟩ => exact q.elim
end
section
variable {X : Cx} {k : Nat} {f : Addr} {fd : FuncData} {ps : List Str} {sp : Sp} {x : Str} {p pos : Pos} {e : Expr} {es : List Expr} {t : TA}
/-- a call of such a def -/
theorem pe_callG (F : FnG X.prog X.w X.K X.mg X.base k f fd ps sp) (hg0 : X.A.guards = some []) (hr : Room k X.A) (hg : Gl X x) (hm : X.mg x = some (.ref f)) (hk : PySem.W.keepIn X.K (.ref f) = true) (hb : Binds X.K fd ps [])
    (ha : PA X (e :: es) t) (hdb : (x == ("__debug__" : Str)) = false := by decide) (he : starEach (e :: es) X.env = (false, eval e X.env) :: starEach es X.env := by rfl) (hpl : (backTo pos (starEach es X.env)).any (·.1) = false := by rfl) :
    PE X (.Call (.Name x p) (e :: es) [] pos) (tCall sp [] E0 t) := by
  refine ⟨fun pins s σ H Q I h => ?_⟩
  refine wpAny_Call_Name_kw (ld_glob I hg hm ?_ hdb)
  refine PySem.W.callWith_K (h₀ := X.base) I.ok.mod.kin hk (thn (ha.run pos pins s σ H _ I h) fun us s1 ⟨vs, H1, I1, r, q⟩ => ⟨I1.kIn, ?_⟩) he hpl
  have q' : sp vs H1 Q E0 := by
    have z : sp (vs ++ []) H1 Q E0 := q
    rwa [List.append_nil] at z
  have n := F.len _ _ _ _ q'
  have bd := hb s1 us I1.kIn (by rw [List.append_nil, ← r.length]; exact n)
  rw [List.append_nil] at bd
  refine wpAny_call (codeAny_mono (F.run X.A X.stack s1 H1 ⟨us, []⟩ us vs Q E0 hg0 hr I1.env0 bd r q') fun o s' hq => ?_)
  match o, hq with
  | .error _, z => exact z.elim
  | .ok (.ret _), z => exact I1.after z
  | .ok .next, z => exact z.elim
  | .ok .brk, z => exact z.elim
  | .ok .cont, z => exact z.elim
end
/-! ### repr -/
/-- repr(x), x a list or a tuple of data whose ints are not too wide: its text -/
def rRepr (K : PySem.W.Frag) : List V → Hp → VK → Prop := fun xs H Q => ∃ (a : Addr) (d : PyData), xs = [.ref a] ∧ Dp K H (.ref a) d ∧ d.showable = true ∧ d.hasDict = false ∧ d.depth ≤ 60 ∧ d.shown.length ≤ sizeLine ∧ Q (.str d.shown) H
theorem cr_repr {X : Cx} (hg : X.A.guards = some []) (hu : X.A.units + 64 < cLine) : CallR X (.builtin "repr") (rRepr X.K) := by
  intro pins s σ H xs us Q I r h
  obtain ⟨a, d, rfl, hd, hs, hn, hdp, hz, q⟩ := h
  obtain ⟨u, rfl, ru⟩ := vals1 r
  obtain ⟨as, rd⟩ := Dp.reads I d _ u hd ru
  obtain rfl : u = Value.ref a := ru
  refine PySem.repr_of_reads' rd hs (fun z => by rw [hn] at z; cases z) hg (by omega) (fun _ _ e => e) (fun h' v tk hk => ⟨.str d.shown, H, I.kept hk, ⟨_, rfl⟩, q⟩) hz
/-! ### the law is called from the top, where nothing is shown -/
theorem call_lawG {P : Program} {w : World} {K : PySem.W.Frag} {mg mb : Str → Option Value} {k : Nat} {fa a : Addr} {fd : FuncData} {x : Str} {sp : Sp} {s₁ : Shared} {vs : List Value} {ns : List Int}
    (KX : K.In s₁.heap) (hns : s₁.heap.Ns mainGlobals mg) (hb : s₁.heap.Ns builtinsNs mb) (hbb : ∀ x : Str, x ≠ "__name__" → mb x = bootBuiltins x) (hlim : s₁.heap.NoLimit) (hg : s₁.gens = #[])
    (ha : s₁.heap.get? a = some { cls := .type "list", data := .seq vs.toArray }) (hi : IntsAre vs ns) (hl : ns.length ≤ sizeLine) (hr : Room k callerA)
    (F : ∀ base : Heap, K.In base → base.Ns mainGlobals mg → FnG P w K mg base k fa fd [x] sp) (hbind : ∀ (s : Shared) (u : Value), BindsTo s fd ⟨[u], []⟩ [(x, u)])
    (hsp : ∀ H : Hp, Only H → SqL K H a (ns.map V.int) → sp [.ref a] H (fun v _ => v = .bl true) fun _ _ _ => False) :
    codeAny (model P w) callerA (.call (.ref fa) ⟨[.ref a], []⟩) (fun r s' => r = .ok (.ret (.bool true)) ∧ OldK s₁.heap s'.heap ∧ s'.os = s₁.os ∧ AllBare s'.gens) s₁ := by
  have rv := vals_ints hi
  have lv := hi.length
  -- once the heap that is seen is chosen: at most the script is in it
  have go : ∀ H : Hp, Only H → SqL K H a (ns.map V.int) → HOk P w H s₁.heap → (∀ b u, H b = some u → b = a ∧ K.lookup a = none) →
      codeAny (model P w) callerA (.call (.ref fa) ⟨[.ref a], []⟩) (fun r s' => r = .ok (.ret (.bool true)) ∧ OldK s₁.heap s'.heap ∧ s'.os = s₁.os ∧ AllBare s'.gens) s₁ := by
    intro H hO hS hok hA
    have out : ∀ {b : Addr} {o : Obj}, s₁.heap.get? b = some o → (∀ u, H b = some u → False) → (hidT s₁.heap H).get? b = some o := fun {b o} e n => hidT_get e (by
      cases q : H b with
      | none => rfl
      | some u => exact (n u q).elim)
    have isA : ∀ {b : Addr} {o : Obj} {u : HO}, s₁.heap.get? b = some o → H b = some u → o.data = .seq vs.toArray := fun {b o u} e q => by
      obtain ⟨rfl, _⟩ := hA b u q
      rw [ha] at e
      cases e
      rfl
    have nsOut : ∀ {b : Addr} {m : Str → Option Value}, s₁.heap.Ns b m → (hidT s₁.heap H).Ns b m := fun {b m} ⟨o, es, ep, e, d, r⟩ => ⟨o, es, ep, out e fun u q => (by have z := isA e q; rw [d] at z; cases z), d, r⟩
    have kin : K.In (hidT s₁.heap H) := fun b o e => out (KX b o e) fun u q => by
      obtain ⟨rfl, n⟩ := hA b u q
      rw [n] at e
      cases e
    have md : Mod K mg (hidT s₁.heap H) := ⟨kin, nsOut hns, ⟨mb, nsOut hb, hbb⟩, let ⟨mc, h1, h2⟩ := hlim; ⟨mc, nsOut h1, h2⟩⟩
    have none0 : ∀ b : Addr, b ∈ frs ([] : List Env) → False := fun b z => by
      have z' : b ∈ ([] : List Addr) := z
      cases z'
    have e0 : Env0 P w K mg (hidT s₁.heap H) callerA [] s₁ H := ⟨rfl, md, fun b o e => of_hidT e, Nat.le_of_eq (hidT_size _ _), trivial, fun b z => (none0 b z).elim, hok, .of_eq hg⟩
    refine codeAny_mono ((F _ kin (nsOut hns)).run callerA [] s₁ H ⟨[.ref a], []⟩ [.ref a] [.ref a] _ _ rfl hr e0 (hbind s₁ (.ref a)) (.cons rfl .nil) (hsp H hO hS)) fun r s' h => ?_
    match r, h with
    | .error _, z => exact z.elim
    | .ok .next, z => exact z.elim
    | .ok .brk, z => exact z.elim
    | .ok .cont, z => exact z.elim
    | .ok (.ret u), ⟨v, H', os, bare, un, hok', r', q⟩ =>
      obtain rfl : v = .bl true := q
      obtain rfl : u = Value.bool true := r'
      refine ⟨rfl, OldK.of_keep fun b o e => ?_, os, bare⟩
      cases q : H b with
      | none => exact un.keep b o e q (fun z => (none0 b z).elim) (by simp)
      | some u =>
        rcases hO b with z | ⟨ob, xs, z⟩
        · rw [q] at z
          cases z
        · obtain ⟨e1, _⟩ := hok b _ z
          obtain ⟨e2, _⟩ := hok' b _ (un.frzs b ob _ z)
          rw [e] at e1
          cases e1
          exact e2
  cases hk : K.lookup a with
  | some o =>
    have e := KX a o hk
    rw [ha] at e
    cases e
    exact go (fun _ => none) (fun _ => .inl rfl) (.inr ⟨_, vs.toArray, _, hk, rfl, rfl, rfl, by rw [List.size_toArray, lv]; exact hl, by simpa using rv⟩) (fun b u z => nomatch (show (none : Option HO) = some u from z)) fun b u z => nomatch (show (none : Option HO) = some u from z)
  | none =>
    have at' : ∀ {b : Addr} {u : HO}, (if b = a then some (HO.frz { cls := .type "list", data := .seq vs.toArray } (.lst (ns.map V.int))) else none) = some u → b = a ∧ u = .frz { cls := .type "list", data := .seq vs.toArray } (.lst (ns.map V.int)) := fun {b u} z => by
      by_cases h : b = a
      · rw [if_pos h] at z
        exact ⟨h, (Option.some.inj z).symm⟩
      · rw [if_neg h] at z
        cases z
    refine go (fun b => if b = a then some (.frz { cls := .type "list", data := .seq vs.toArray } (.lst (ns.map V.int))) else none) (fun b => ?_) (.inl (.inr ⟨{ cls := .type "list", data := .seq vs.toArray }, if_pos rfl⟩)) (fun b u z => ?_) fun b u z => ⟨(at' z).1, hk⟩
    · by_cases h : b = a
      · exact .inr ⟨_, _, if_pos h⟩
      · exact .inl (if_neg h)
    · obtain ⟨rfl, rfl⟩ := at' z
      exact ⟨ha, by rw [List.length_map]; exact hl, vs, _, rv, ha⟩
/-- the head's last goal, from such a law -/
theorem walk_G {l : PySem.W.OpenLaw} {n k : Nat} {q : Program} {loose : List Str} {XP : (Str → Option Value) → Heap → Prop} {YP : World → Heap → Prop} {d : DefRec} {K : Params → PySem.W.Frag} {sp : World → Sp} {x : Str}
    (hn : l.most = some n) (hn2 : n ≤ sizeLine) (hdf : d.params.defaults = []) (hr : Room k callerA) (hY : ∀ (w : World) (h : Heap), YP w h → (K w.params).In h)
    (F : ∀ (w : World) (mg : Str → Option Value) (fa : Addr) (h : Heap), (K w.params).In h → h.Ns mainGlobals mg → mg d.name = some (.ref fa) →
      ∃ fd : FuncData, (∀ (s : Shared) (u : Value), BindsTo s fd ⟨[u], []⟩ [(x, u)]) ∧ ∀ base : Heap, (K w.params).In base → base.Ns mainGlobals mg → FnG l.prog w (K w.params) mg base k fa fd [x] (sp w))
    (hsp : ∀ (w : World) (H : Hp) (a : Addr) (ns : List Int), ns.length ≤ n → Only H → SqL (K w.params) H a (ns.map V.int) → sp w [.ref a] H (fun v _ => v = .bl true) fun _ _ _ => False) :
    PySem.W.WalkO q loose XP YP l.row.toRowW d [] (fun f vs => PySem.call f vs) := by
  refine Att.attach_call hn hdf fun w s₀ s₁ mg mb fa o pm cd doc a vs ns G Y ho hd hcd hmg hobj hints hlen hg => ?_
  have KX := hY w _ Y
  obtain ⟨fd, hb, hF⟩ := F w mg fa _ KX G.T.g hmg
  exact call_lawG KX G.T.g G.T.b G.T.builtins G.T.nolimit hg hobj hints (Nat.le_trans hlen hn2) hr hF hb fun H hO hS => hsp w H a ns hlen hO hS
end Gc

/-! calls of defs that call repr -/
namespace Gc
open PySem L2
structure CalG (P : Program) (w : World) (K : PySem.W.Frag) (mg : Str → Option Value) (base : Heap) (k : Nat) (x : Str) (sp : Sp) : Prop where
  ex : ∃ (f : Addr) (fd : FuncData) (ps : List Str), FnG P w K mg base k f fd ps sp ∧ mg x = some (.ref f) ∧ PySem.W.keepIn K (.ref f) = true ∧ Binds K fd ps []
theorem FnG.mono {P : Program} {w : World} {K : PySem.W.Frag} {mg : Str → Option Value} {base : Heap} {j k : Nat} {f : Addr} {fd : FuncData} {ps : List Str} {sp : Sp} (F : FnG P w K mg base j f fd ps sp) (h : j ≤ k) : FnG P w K mg base k f fd ps sp :=
  ⟨F.len, fun A outer s H args us vs Q E hg hr => F.run A outer s H args us vs Q E hg (hr.mono h)⟩
theorem pe_calG {X : Cx} {k j : Nat} {x : Str} {sp : Sp} {p pos : Pos} {e : Expr} {es : List Expr} {t : TA} (c : CalG X.prog X.w X.K X.mg X.base k x sp) (hg0 : X.A.guards = some []) (hr : Room j X.A) (hk : k ≤ j) (hg : Gl X x) (ha : PA X (e :: es) t)
    (hdb : (x == ("__debug__" : Str)) = false := by decide) (he : starEach (e :: es) X.env = (false, eval e X.env) :: starEach es X.env := by rfl) (hpl : (backTo pos (starEach es X.env)).any (·.1) = false := by rfl) :
    PE X (.Call (.Name x p) (e :: es) [] pos) (tCall sp [] E0 t) := by
  obtain ⟨f, fd, ps, F, hm, kp, b⟩ := c.ex
  exact pe_callG F hg0 (hr.mono hk) hg hm kp b ha hdb he hpl
end Gc

/-! how large the numbers of a form are, and that it can be shown -/
namespace Gc
open PySem PySem.Spec PyProof.Rows L2
def NB (M V : Int) : Cmd → Prop
  | .down n => -V ≤ n ∧ n ≤ V
  | .up n => -V ≤ n ∧ n ≤ V
  | .right n => 0 ≤ n ∧ n ≤ M
  | .left n => 0 ≤ n ∧ n ≤ M
  | _ => True
def LB (B W : Int) (L : Ps) : Prop := ∀ q ∈ L, -W ≤ q.1 ∧ q.1 ≤ W ∧ -B ≤ q.2 ∧ q.2 ≤ B
def PB (B W : Int) (n : Nat) (p : Piece) : Prop := 1 ≤ p.1 ∧ p.1 ≤ 1 + B ∧ (∀ s, p.2.1 = some s → -B ≤ s ∧ s ≤ B) ∧ ∀ L, p.2.2 = some L → L.length ≤ n ∧ LB B W L
theorem lb_req {B W : Int} {b : Ps} {o v : Int} (h : LB B W b) (o1 : -W ≤ o) (o2 : o ≤ W) (v1 : -B ≤ v) (v2 : v ≤ B) : LB B W (req b o v) := fun q hq => by
  have k1 : -W ≤ q.1 ∧ q.1 ≤ W := by
    rcases keys_req' (List.mem_map.mpr ⟨q, hq, rfl⟩) with e | e
    · rw [e]
      exact ⟨o1, o2⟩
    · obtain ⟨p, hp, e⟩ := List.mem_map.mp e
      rw [← e]
      exact ⟨(h p hp).1, (h p hp).2.1⟩
  have k2 : -B ≤ q.2 ∧ q.2 ≤ B := by
    rcases put_mem hq with e | e
    · rw [e]
      unfold mx
      cases l : look b o with
      | none =>
        show -B ≤ (if v > v then v else v) ∧ (if v > v then v else v) ≤ B
        split <;> exact ⟨v1, v2⟩
      | some x =>
        have z := (h _ (look_mem l)).2.2
        show -B ≤ (if x > v then x else v) ∧ (if x > v then x else v) ≤ B
        split
        · exact z
        · exact ⟨v1, v2⟩
    · exact (h q e).2.2
  exact ⟨k1.1, k1.2, k2.1, k2.2⟩
theorem lb_sort {B W : Int} {b : Ps} (h : LB B W b) : LB B W (sortP b) := fun q hq => h q ((List.mergeSort_perm b leK).mem_iff.mp hq)
theorem sort_len (b : Ps) : (sortP b).length = b.length := List.length_mergeSort b
theorem pb_add {B W : Int} {n : Nat} {ps : List Piece} {p : Piece} (h : ∀ q ∈ ps, PB B W n q) (hp : PB B W n p) : ∀ q ∈ addP ps p, PB B W n q := fun q hq => by
  unfold addP at hq
  split at hq
  · exact h q hq
  · rcases List.mem_append.mp hq with z | z
    · exact h q z
    · rw [List.mem_singleton.mp z]
      exact hp
theorem goP_bnd {M V B W : Int} {n : Nat} (M0 : 0 ≤ M) (V0 : 0 ≤ V) : ∀ (r : List Cmd) (off added first : Int) (lines : Ps) (found : List Piece), (∀ c ∈ r, NB M V c) → off = (r.map Cmd.dv).sum →
    -B ≤ added - r.length * M → added + r.length * M ≤ B → r.length * V ≤ W → LB B W lines → lines.length + r.length ≤ n → 1 ≤ first → first ≤ 1 + B → (∀ q ∈ found, PB B W n q) → found.length + r.length ≤ n →
    (∀ q ∈ goP r off added first lines found, PB B W n q) ∧ (goP r off added first lines found).length ≤ n + 1
  | [], off, added, first, lines, found, _, _, a1, a2, _, hl, ll, f1, f2, hf, fl => by
    simp only [List.length_nil] at a1 a2 ll fl
    refine ⟨pb_add hf ⟨f1, f2, fun s e => ?_, fun L e => ?_⟩, ?_⟩
    · obtain rfl := Option.some.inj e
      omega
    · obtain rfl := Option.some.inj e
      exact ⟨by rw [sort_len]; omega, lb_sort hl⟩
    · have := addP_len (ps := found) (p := (first, some added, some (sortP lines)))
      show (addP found (first, some added, some (sortP lines))).length ≤ n + 1
      omega
  | .home :: r, off, added, first, lines, found, _, _, a1, a2, _, hl, ll, f1, f2, hf, fl => by
    simp only [List.length_cons] at fl
    refine ⟨pb_add hf ⟨f1, f2, (fun s e => nomatch e), (fun L e => nomatch e)⟩, ?_⟩
    have := addP_len (ps := found) (p := (first, none, none))
    show (addP found (first, none, none)).length ≤ n + 1
    omega
  | .stop :: r, off, added, first, lines, found, _, _, a1, a2, _, hl, ll, f1, f2, hf, fl => by
    simp only [List.length_cons] at fl ll
    refine ⟨pb_add hf ⟨f1, f2, (fun s e => nomatch e), fun L e => ?_⟩, ?_⟩
    · obtain rfl := Option.some.inj e
      exact ⟨by rw [sort_len]; omega, lb_sort hl⟩
    · have := addP_len (ps := found) (p := (first, none, some (sortP lines)))
      show (addP found (first, none, some (sortP lines))).length ≤ n + 1
      omega
  | .right k :: r, off, added, first, lines, found, hc, ho, a1, a2, hw, hl, ll, f1, f2, hf, fl => by
    have c0 : 0 ≤ k ∧ k ≤ M := hc _ List.mem_cons_self
    have hc' := fun d hd => hc d (List.mem_cons_of_mem _ hd)
    have off1 : -W ≤ off ∧ off ≤ W := by
      have key : ∀ {r : List Cmd}, (∀ c ∈ r, NB M V c) → -(r.length * V) ≤ (r.map Cmd.dv).sum ∧ (r.map Cmd.dv).sum ≤ r.length * V := by
        intro r
        induction r with
        | nil => intro _; simp
        | cons c r ih =>
          intro h
          obtain ⟨i1, i2⟩ := ih fun d hd => h d (List.mem_cons_of_mem _ hd)
          have b := h c List.mem_cons_self
          have q : -V ≤ c.dv ∧ c.dv ≤ V := by
            cases c with
            | down n => exact b
            | up n =>
              have b' : -V ≤ n ∧ n ≤ V := b
              show -V ≤ -n ∧ -n ≤ V
              omega
            | right n => exact ⟨by show -V ≤ 0; omega, V0⟩
            | left n => exact ⟨by show -V ≤ 0; omega, V0⟩
            | home => exact ⟨by show -V ≤ 0; omega, V0⟩
            | stop => exact ⟨by show -V ≤ 0; omega, V0⟩
          rw [List.map_cons, List.sum_cons, List.length_cons, Int.natCast_add, Int.add_mul]
          omega
      have := key hc
      rw [← ho] at this
      omega
    rw [List.length_cons, Int.natCast_add, Int.add_mul] at a1 a2 hw
    simp only [List.length_cons] at ll fl
    have rm : 0 ≤ (r.length : Int) * M := Int.mul_nonneg (Int.natCast_nonneg _) M0
    have hl' : LB B W (req lines off added) := lb_req hl off1.1 off1.2 (by omega) (by omega)
    have ql := req_len lines off added
    simp only [goP]
    split
    · rename_i c
      refine goP_bnd M0 V0 r off (added - k) _ _ _ hc' (by rw [ho, List.map_cons, List.sum_cons]; exact Int.zero_add _) (by omega) (by omega) (by omega) hl' (by omega) (by omega) (by omega) (pb_add hf ⟨f1, f2, (fun s e => nomatch e), fun L e => ?_⟩) ?_
      · obtain rfl := Option.some.inj e
        exact ⟨by rw [sort_len]; omega, lb_sort hl'⟩
      · have := addP_len (ps := found) (p := (first, none, some (sortP (req lines off added))))
        omega
    · exact goP_bnd M0 V0 r off (added - k) first _ _ hc' (by rw [ho, List.map_cons, List.sum_cons]; exact Int.zero_add _) (by omega) (by omega) (by omega) hl' (by omega) f1 f2 hf (by omega)
  | .left k :: r, off, added, first, lines, found, hc, ho, a1, a2, hw, hl, ll, f1, f2, hf, fl => by
    have c0 : 0 ≤ k ∧ k ≤ M := hc _ List.mem_cons_self
    have hc' := fun d hd => hc d (List.mem_cons_of_mem _ hd)
    have off1 : -W ≤ off ∧ off ≤ W := by
      have key : ∀ {r : List Cmd}, (∀ c ∈ r, NB M V c) → -(r.length * V) ≤ (r.map Cmd.dv).sum ∧ (r.map Cmd.dv).sum ≤ r.length * V := by
        intro r
        induction r with
        | nil => intro _; simp
        | cons c r ih =>
          intro h
          obtain ⟨i1, i2⟩ := ih fun d hd => h d (List.mem_cons_of_mem _ hd)
          have b := h c List.mem_cons_self
          have q : -V ≤ c.dv ∧ c.dv ≤ V := by
            cases c with
            | down n => exact b
            | up n =>
              have b' : -V ≤ n ∧ n ≤ V := b
              show -V ≤ -n ∧ -n ≤ V
              omega
            | right n => exact ⟨by show -V ≤ 0; omega, V0⟩
            | left n => exact ⟨by show -V ≤ 0; omega, V0⟩
            | home => exact ⟨by show -V ≤ 0; omega, V0⟩
            | stop => exact ⟨by show -V ≤ 0; omega, V0⟩
          rw [List.map_cons, List.sum_cons, List.length_cons, Int.natCast_add, Int.add_mul]
          omega
      have := key hc
      rw [← ho] at this
      omega
    rw [List.length_cons, Int.natCast_add, Int.add_mul] at a1 a2 hw
    simp only [List.length_cons] at ll fl
    have rm : 0 ≤ (r.length : Int) * M := Int.mul_nonneg (Int.natCast_nonneg _) M0
    have hl' : LB B W (req lines off (added + k)) := lb_req hl off1.1 off1.2 (by omega) (by omega)
    have ql := req_len lines off (added + k)
    exact goP_bnd M0 V0 r off (added + k) first _ _ hc' (by rw [ho, List.map_cons, List.sum_cons]; exact Int.zero_add _) (by omega) (by omega) (by omega) hl' (by omega) f1 f2 hf (by omega)
  | .down k :: r, off, added, first, lines, found, hc, ho, a1, a2, hw, hl, ll, f1, f2, hf, fl => by
    have hc' := fun d hd => hc d (List.mem_cons_of_mem _ hd)
    rw [List.length_cons, Int.natCast_add, Int.add_mul] at a1 a2 hw
    simp only [List.length_cons] at ll fl
    have rv : 0 ≤ (r.length : Int) * V := Int.mul_nonneg (Int.natCast_nonneg _) V0
    exact goP_bnd M0 V0 r (off - k) added first _ _ hc' (by rw [ho]; show k + (r.map Cmd.dv).sum - k = _; omega) (by omega) (by omega) (by omega) hl (by omega) f1 f2 hf (by omega)
  | .up k :: r, off, added, first, lines, found, hc, ho, a1, a2, hw, hl, ll, f1, f2, hf, fl => by
    have hc' := fun d hd => hc d (List.mem_cons_of_mem _ hd)
    rw [List.length_cons, Int.natCast_add, Int.add_mul] at a1 a2 hw
    simp only [List.length_cons] at ll fl
    have rv : 0 ≤ (r.length : Int) * V := Int.mul_nonneg (Int.natCast_nonneg _) V0
    exact goP_bnd M0 V0 r (off + k) added first _ _ hc' (by rw [ho]; show -k + (r.map Cmd.dv).sum + k = _; omega) (by omega) (by omega) (by omega) hl (by omega) f1 f2 hf (by omega)
theorem form_bnd {M V : Int} {cs : List Cmd} (M0 : 0 ≤ M) (V0 : 0 ≤ V) (h : ∀ c ∈ cs, NB M V c) : (∀ q ∈ formM cs, PB (cs.length * M) (cs.length * V) cs.length q) ∧ (formM cs).length ≤ cs.length + 1 := by
  have z : 0 ≤ (cs.length : Int) * M := Int.mul_nonneg (Int.natCast_nonneg _) M0
  exact goP_bnd (B := cs.length * M) (W := cs.length * V) (n := cs.length) M0 V0 cs.reverse (last cs) 0 1 [] [] (fun c hc => h c (List.mem_reverse.mp hc)) (by
    unfold last
    rw [List.map_reverse, sum_rev]) (by rw [List.length_reverse]; omega) (by rw [List.length_reverse]; omega) (by rw [List.length_reverse]; omega) (fun _ q => nomatch q) (by simp) (by decide) (by omega) (fun _ q => nomatch q) (by simp)
/-! ### shown -/
theorem w_int {x : Int} {k : Nat} (hk : 0 < k) (h : x.natAbs < 2 ^ k) : (PyData.int x).weight ≤ k + 2 := by
  have := PySem.Flt.log2_lt_of (k := k) hk h
  simp only [PyData.weight]
  split <;> omega
theorem pairs_ok {B W : Int} {k : Nat} (hk : 0 < k) (kb : k ≤ 120) (hB : B < 2 ^ k) (hW : W < 2 ^ 10) : ∀ {L : Ps}, LB B W L → Ok0s (L.map encP) ∧ PyData.weightAll (L.map encP) ≤ (k + 20) * L.length ∧ PyData.depthAll (L.map encP) ≤ 1
  | [], _ => ⟨ok0_nil, by simp [PyData.weightAll], by simp [PyData.depthAll]⟩
  | q :: L, h => by
    have h1 := h q List.mem_cons_self
    obtain ⟨i1, i2, i3⟩ := pairs_ok hk kb hB hW (L := L) fun p hp => h p (List.mem_cons_of_mem _ hp)
    have p1 : (2 : Int) ^ 10 = 1024 := by decide
    have n1 : q.1.natAbs < 2 ^ 10 := by
      have : (2 : Nat) ^ 10 = 1024 := by decide
      omega
    have cast : ((2 ^ k : Nat) : Int) = 2 ^ k := by simp
    have n2 : q.2.natAbs < 2 ^ k := by omega
    have s1 : Sml q.1 := Nat.lt_of_lt_of_le n1 (by decide)
    have s2 : Sml q.2 := Nat.lt_of_lt_of_le n2 (Nat.pow_le_pow_right (by decide) kb)
    have w1 := w_int (k := 10) (by decide) n1
    have w2 := w_int hk n2
    refine ⟨ok0_cons (ok0_tup (ok0_cons (ok0_int s1) (ok0_cons (ok0_int s2) ok0_nil))) i1, ?_, ?_⟩
    · simp only [List.map_cons, PyData.weightAll, encP, PyData.weight, List.length_cons] at w1 w2 ⊢
      rw [Nat.mul_succ]
      omega
    · simp only [List.map_cons, PyData.depthAll, encP, PyData.depth]
      omega
theorem opt_ok {k : Nat} (hk : 0 < k) (kb : k ≤ 120) {o : Option Int} (h : ∀ s, o = some s → s.natAbs < 2 ^ k) : Ok0 (optE o) ∧ (optE o).weight ≤ k + 2 ∧ (optE o).depth = 0 := by
  cases o with
  | none => exact ⟨⟨by simp only [optE, PyData.showable], by simp only [optE, PyData.hasDict], by decide +kernel⟩, by simp [optE, PyData.weight], by simp [optE, PyData.depth]⟩
  | some s => exact ⟨ok0_int (Nat.lt_of_lt_of_le (h s rfl) (Nat.pow_le_pow_right (by decide) kb)), w_int hk (h s rfl), by simp [optE, PyData.depth]⟩
theorem lines_ok {B W : Int} {k n : Nat} (hk : 0 < k) (kb : k ≤ 120) (hB : B < 2 ^ k) (hW : W < 2 ^ 10) {o : Option Ps} (h : ∀ L, o = some L → L.length ≤ n ∧ LB B W L) : Ok0 (linesD o) ∧ (linesD o).weight ≤ (k + 20) * n + 4 ∧ (linesD o).depth ≤ 2 := by
  cases o with
  | none => exact ⟨⟨by simp only [linesD, PyData.showable], by simp only [linesD, PyData.hasDict], by decide +kernel⟩, by simp [linesD, PyData.weight], by simp [linesD, PyData.depth]⟩
  | some L =>
    obtain ⟨l, lb⟩ := h L rfl
    obtain ⟨a, b, c⟩ := pairs_ok hk kb hB hW lb
    refine ⟨ok0_list a, ?_, ?_⟩
    · have : (k + 20) * L.length ≤ (k + 20) * n := Nat.mul_le_mul_left _ l
      simp only [linesD, PyData.weight]
      omega
    · simp only [linesD, PyData.depth]
      omega
theorem pieces_ok {B W : Int} {k n : Nat} (hk : 0 < k) (kb : k ≤ 120) (hB : B + 1 < 2 ^ k) (hW : W < 2 ^ 10) : ∀ {ps : List Piece}, (∀ p ∈ ps, PB B W n p) → Ok0s (ps.map pieceD) ∧ PyData.weightAll (ps.map pieceD) ≤ ((k + 20) * n + 2 * k + 20) * ps.length ∧ PyData.depthAll (ps.map pieceD) ≤ 3
  | [], _ => ⟨ok0_nil, by simp [PyData.weightAll], by simp [PyData.depthAll]⟩
  | p :: ps, h => by
    obtain ⟨h1, h2, h3, h4⟩ := h p List.mem_cons_self
    obtain ⟨i1, i2, i3⟩ := pieces_ok hk kb hB hW (ps := ps) fun q hq => h q (List.mem_cons_of_mem _ hq)
    have cast : ((2 ^ k : Nat) : Int) = 2 ^ k := by simp
    have n1 : p.1.natAbs < 2 ^ k := by omega
    have s1 : Sml p.1 := Nat.lt_of_lt_of_le n1 (Nat.pow_le_pow_right (by decide) kb)
    obtain ⟨o1, o2, o3⟩ := opt_ok hk kb (o := p.2.1) fun s e => by
      have := h3 s e
      omega
    obtain ⟨l1, l2, l3⟩ := lines_ok hk kb (show B < 2 ^ k by omega) hW (o := p.2.2) (n := n) h4
    have w1 := w_int hk n1
    refine ⟨ok0_cons (ok0_tup (ok0_cons (ok0_int s1) (ok0_cons o1 (ok0_cons l1 ok0_nil)))) i1, ?_, ?_⟩
    · simp only [List.map_cons, PyData.weightAll, pieceD, PyData.weight, List.length_cons] at w1 ⊢
      rw [Nat.mul_succ]
      omega
    · simp only [List.map_cons, PyData.depthAll, pieceD, PyData.depth]
      omega
end Gc

/-! a text with commands, as data; repetitions, as data -/
namespace Gc
open PySem L2
def bothD (T : List Int) (cs : List Cmd) : PyData := .list [.list (T.map PyData.int), .list (cs.map cmdD)]
theorem both_show {T : List Int} {cs : List Cmd} (hT : ∀ x ∈ T, Sml x) (hc : ∀ c ∈ cs, CSml c) (lT : T.length ≤ 200) (lc : cs.length ≤ 100) : (bothD T cs).showable = true ∧ (bothD T cs).hasDict = false ∧ (bothD T cs).depth ≤ 60 ∧ (bothD T cs).shown.length ≤ sizeLine := by
  obtain ⟨c1, c2, c3⟩ := cmds_ok0 hc
  have o : Ok0 (bothD T cs) := ok0_list (ok0_cons (ok0_list (ok0_ints hT)) (ok0_cons (ok0_list c1) ok0_nil))
  refine ⟨o.1, o.2.1, ?_, ok0_len o ?_⟩
  · simp only [bothD, PyData.depth, PyData.depthAll, deep_ints]
    omega
  · have w1 := weight_ints hT
    simp only [bothD, PyData.weight, PyData.weightAll]
    omega
theorem both_lay (T : List Int) (cs : List Cmd) : (bothD T cs).canLay0 = true := by
  have h1 : PyData.canLayAll0 (T.map PyData.int) = true := PySem.W.ke_canLayAll0 T
  simp [bothD, PyData.canLay0, PyData.canLayAll0, h1, lay_cmds cs]
theorem csml_of {c : Cmd} (ok : c.ok) (h : numC c < 10 ^ 32) : CSml c := by
  have key : ∀ n : Int, 1 ≤ n → n < 10 ^ 32 → n.natAbs < 2 ^ 120 := fun n h1 h => by omega
  cases c with
  | down n => exact key n ok h
  | up n => exact key n ok h
  | right n => exact key n ok h
  | left n => exact key n ok h
  | home => trivial
  | stop => trivial
theorem chg_le {B : Nat} : ∀ {cs : List Cmd}, (∀ c ∈ cs, c.ok ∧ numC c ≤ B) → (chg cs).natAbs ≤ B * cs.length
  | [], _ => Nat.le_refl _
  | c :: cs, h => by
    have ih := chg_le (B := B) (cs := cs) fun d hd => h d (List.mem_cons_of_mem _ hd)
    obtain ⟨ok, nb⟩ := h c List.mem_cons_self
    have h1 : (chg1 c).natAbs ≤ B := by
      cases c with
      | right n =>
        have o : 1 ≤ n := ok
        have q : n ≤ (B : Int) := nb
        show n.natAbs ≤ B
        omega
      | left n =>
        have o : 1 ≤ n := ok
        have q : n ≤ (B : Int) := nb
        show (-n).natAbs ≤ B
        omega
      | _ => exact Nat.zero_le _
    show (chg1 c + chg cs).natAbs ≤ B * (cs.length + 1)
    rw [Nat.mul_succ]
    omega
/-- a cursor, or the index of the impossible command in a list -/
def repD : Nat ⊕ (Int × Option Int) → PyData
  | .inl n => .list [.int n]
  | .inr x => .tuple [.int x.1, optD x.2]
theorem repD_lay (x : Nat ⊕ (Int × Option Int)) : (repD x).canLay0 = true := by
  rcases x with n | ⟨r, _ | g⟩ <;> rfl
theorem repD_shaped (x : Nat ⊕ (Int × Option Int)) : SeqAt.shaped (repD x) = true := by
  rcases x with n | ⟨r, _ | g⟩ <;> rfl
theorem repDs_shaped (x : Nat ⊕ (Int × Option Int)) : SeqAt.shaped (.list [repD x, repD x]) = true := by
  rcases x with n | ⟨r, _ | g⟩ <;> rfl
theorem repD_eqv (x : Nat ⊕ (Int × Option Int)) : PyData.eqv (repD x) (repD x) = true := SeqAt.eqv_refl _ (repD_lay x)
theorem repDs_eqv (x : Nat ⊕ (Int × Option Int)) : PyData.eqv (.list [repD x, repD x]) (.list [repD x, repD x]) = true := SeqAt.eqv_refl _ (by rcases x with n | ⟨r, _ | g⟩ <;> rfl)
theorem tup_atL {K : PySem.W.Frag} {H : Hp} {l a : Addr} {ys zs xs : List V} (hl : H l = some (.lst ys)) (h1 : SqT K H a xs) : SqT K (upd H l (.lst zs)) a xs := by
  rcases h1 with (z | ⟨o, z⟩) | z
  · exact .inl (.inl (by rw [upd_ne (ne_of z hl (by intro q; cases q))]; exact z))
  · exact .inl (.inr ⟨o, by rw [upd_ne (ne_of z hl (by intro q; cases q))]; exact z⟩)
  · exact .inr z
theorem paired_ins {α β : Type} {F : α → β → Prop} {xs : List α} {ys : List β} {x : α} {y : β} (h : Paired F xs ys) (h1 : F x y) (i : Nat) : Paired F (xs.take i ++ [x] ++ xs.drop i) (ys.take i ++ [y] ++ ys.drop i) :=
  paired_app (paired_app (paired_take i h) (.cons h1 .nil)) (paired_drop i h)
theorem mem_ins {α : Type} {ys : List α} {y z : α} {i : Nat} (h : z ∈ ys.take i ++ [y] ++ ys.drop i) : z = y ∨ z ∈ ys := by
  rcases List.mem_append.mp h with q | q
  · rcases List.mem_append.mp q with q | q
    · exact .inr (List.mem_of_mem_take q)
    · exact .inl (List.mem_singleton.mp q)
  · exact .inr (List.mem_of_mem_drop q)
theorem len_ins {α : Type} (ys : List α) (y : α) {i : Nat} (h : i ≤ ys.length) : (ys.take i ++ [y] ++ ys.drop i).length = ys.length + 1 := by
  rw [List.length_append, List.length_append, List.length_take, List.length_drop, List.length_singleton]
  omega
end Gc

/-! raw commands as data -/
namespace Gc
open PySem L2
def rawOf : Cmd → Raw
  | .down n => .two "down" n
  | .up n => .two "up" n
  | .right n => .two "right" n
  | .left n => .two "left" n
  | .home => .one "home"
  | .stop => .one "end"
theorem rawOf_enc (c : Cmd) : encR (rawOf c) = encC c := by cases c <;> rfl
theorem raws_of {K : PySem.W.Frag} {H : Hp} : ∀ {xs : List V} {cs : List Cmd}, CmdsOf K H xs cs → RawsOf K H xs (cs.map rawOf)
  | [], [], _ => .nil
  | _ :: _, c :: cs, .cons ⟨a, e, h⟩ q => .cons ⟨a, e, by rw [rawOf_enc]; exact h⟩ (raws_of q)
theorem raws_snoc {K : PySem.W.Frag} {H : Hp} {xs : List V} {rs : List Raw} {p : Addr} {r : Raw} (h : RawsOf K H xs rs) (hp : H p = some (.tup (encR r))) : RawsOf K H (xs ++ [.ref p]) (rs ++ [r]) := paired_app h (.cons ⟨p, rfl, SqT.of hp⟩ .nil)
def rawD : Raw → PyData
  | .nil => .tuple []
  | .one n => .tuple [.str n]
  | .two n k => .tuple [.str n, .int k]
  | .three n k j => .tuple [.str n, .int k, .int j]
theorem RawAt.dp {K : PySem.W.Frag} {H : Hp} {v : V} {r : Raw} (h : RawAt K H v r) : Dp K H v (rawD r) := by
  obtain ⟨a, rfl, h⟩ := h
  cases r with
  | nil => exact .tup h .nil
  | one n => exact .tup h (.cons (.str n) .nil)
  | two n k => exact .tup h (.cons (.str n) (.cons (.int k) .nil))
  | three n k j => exact .tup h (.cons (.str n) (.cons (.int k) (.cons (.int j) .nil)))
/-- it can be shown -/
def RawOk (r : Raw) : Prop := SeqAt.shaped (rawD r) = true ∧ Ok0 (rawD r) ∧ (rawD r).weight ≤ 200 ∧ (rawD r).depth ≤ 5
theorem rawOf_D (c : Cmd) : rawD (rawOf c) = cmdD c := by cases c <;> rfl
theorem rawOf_ok {c : Cmd} (h : CSml c) : RawOk (rawOf c) := by
  unfold RawOk
  rw [rawOf_D]
  have q := cmdD_ok h
  refine ⟨?_, q⟩
  have z : PyData.canLayAll0 ([c].map cmdD) = true := lay_cmds [c]
  simp only [List.map_cons, List.map_nil, PyData.canLayAll0, Bool.and_true] at z
  unfold SeqAt.shaped
  rw [z, decide_eq_true (show (cmdD c).depth ≤ 64 by omega)]
  rfl
theorem rawOf_cmd (c : Cmd) : (rawOf c).cmd = c := by cases c <;> rfl
theorem rawOf_good {c : Cmd} (h : c.ok) : (rawOf c).good = true := by
  cases c with
  | home => rfl
  | stop => rfl
  | _ => exact decide_eq_true h
theorem room65 {k : Nat} {A : Around} (r : Room k A) : A.units + 65 < cLine := by
  have := r.un
  omega
theorem RawsOf.atL {K : PySem.W.Frag} {H : Hp} {l : Addr} {ys zs xs : List V} {rs : List Raw} (hl : H l = some (.lst ys)) (h : RawsOf K H xs rs) : RawsOf K (upd H l (.lst zs)) xs rs := Paired.mapP h fun _ _ q => by
  obtain ⟨b, e, z⟩ := q
  exact ⟨b, e, tup_atL hl z⟩
def loneD : List PyData := [.tuple [.str "home"], .tuple [.str "end"]]
theorem lone_shaped : SeqAt.shaped (.list loneD) = true := by decide +kernel
theorem lone_in (r : Raw) : loneD.any (fun z => PyData.eqv z (rawD r)) = match r with
    | .one n => inV (.str n) withoutN
    | _ => false := by
  cases r <;> simp [loneD, rawD, PyData.eqv, PyData.eqvAll, inV, withoutN, eqV]
end Gc

/-! a hidden box learned, and what was learned held against the law's own form (k18) -/
namespace Gc
open PySem L2
abbrev s_right : Stmt := top 40
@[irreducible] def zBoxI18 (K : PySem.W.Frag) (CB CM : Addr) : Sp := spBoxInit K CB CM
theorem zBoxI18_eq (K : PySem.W.Frag) (CB CM : Addr) : zBoxI18 K CB CM = spBoxInit K CB CM := by unfold zBoxI18; rfl
@[irreducible] def zLearn (K : PySem.W.Frag) (CB : Addr) : Sp := spLearn K CB
theorem zLearn_eq (K : PySem.W.Frag) (CB : Addr) : zLearn K CB = spLearn K CB := by unfold zLearn; rfl
structure TxtRi (mg : Str → Option Value) : Prop where
  repr : mg "repr" = none
  min : mg "min" = none
def spRight18 (K : PySem.W.Frag) : Sp := fun vs H Q _ => ∃ (a : Addr) (n : Nat), vs = [.ref a] ∧ Rng H a n ∧ n < 2 ^ 35 ∧ ∀ H', Keep a a H H' → Rng H' a (n + 2000) → Q (.bl true) H'
/-! ### how large a form's numbers are -/
theorem mvA_le : ∀ {es : List Cmd}, AllOk es → ∀ c ∈ es, mvA c ≤ tot es
  | d :: es, ok, c, hc => by
    have ok' : AllOk es := fun e he => ok e (List.mem_cons_of_mem _ he)
    have t0 := tot_nn ok'
    have d0 := mvA_nn (ok d List.mem_cons_self)
    rw [tot_cons]
    rcases List.mem_cons.mp hc with z | z
    · rw [z]
      omega
    · have := mvA_le ok' c z
      omega
theorem dv_within {es : List Cmd} {lo hi : Int} (h : Within es lo hi) : ∀ c ∈ es, lo - hi ≤ c.dv ∧ c.dv ≤ hi - lo := fun c hc => by
  obtain ⟨i, hi'⟩ := List.getElem?_of_mem hc
  have e : last (es.take (i + 1)) = last (es.take i) + c.dv := by rw [takeS hi', dv_snoc]
  have h1 := h i
  have h2 := h (i + 1)
  omega
def Shw (d : PyData) : Prop := d.showable = true ∧ d.hasDict = false ∧ d.depth ≤ 60 ∧ d.shown.length ≤ sizeLine
theorem form_show18 {es : List Cmd} (ok : AllOk es) (wi : Within es (-15) 15) (tt : tot es ≤ 10 ^ 6) (ln : es.length ≤ 20) : Shw (formD ((rchM es).1, (rchM es).2.1, last es) (formM es)) := by
  have nb : ∀ c ∈ es, NB (10 ^ 6) 30 c := fun c hc => by
    have o := ok c hc
    have m := mvA_le ok c hc
    have d := dv_within wi c hc
    cases c with
    | left n => exact ⟨Int.le_trans (by decide) (show 1 ≤ n from o), Int.le_trans (show n ≤ tot es from m) tt⟩
    | right n => exact ⟨Int.le_trans (by decide) (show 1 ≤ n from o), Int.le_trans (show n ≤ tot es from m) tt⟩
    | down n =>
      have d' : -15 - 15 ≤ n ∧ n ≤ 15 - (-15) := d
      exact ⟨by omega, by omega⟩
    | up n =>
      have d' : -15 - 15 ≤ -n ∧ -n ≤ 15 - (-15) := d
      exact ⟨by omega, by omega⟩
    | home => trivial
    | stop => trivial
  obtain ⟨b1, b2⟩ := form_bnd (M := 10 ^ 6) (V := 30) (by decide) (by decide) nb
  have B : ((es.length : Int) * 10 ^ 6) + 1 < 2 ^ 105 := by
    have p1 : (2 : Int) ^ 105 = 40564819207303340847894502572032 := by decide
    omega
  have W : ((es.length : Int) * 30) < 2 ^ 10 := by
    have p1 : (2 : Int) ^ 10 = 1024 := by decide
    omega
  obtain ⟨o1, o2, o3⟩ := pieces_ok (k := 105) (by decide) (by decide) B W b1
  have s : ∀ x : Int, -15 ≤ x → x ≤ 15 → Sml x := fun x h1 h2 => by
    unfold Sml
    have : (2 : Nat) ^ 120 = 1329227995784915872903807060280344576 := by decide
    omega
  obtain ⟨r1, r2⟩ := within_iff.mp wi
  have z := (rch_within5 es).1.zero
  have w := wi es.length
  rw [List.take_length] at w
  have s1 := s (rchM es).1 (by omega) (by omega)
  have s2 := s (rchM es).2.1 (by omega) (by omega)
  have s3 := s (last es) (by omega) (by omega)
  have w1 := sml_weight s1
  have w2 := sml_weight s2
  have w3 := sml_weight s3
  have e : formD ((rchM es).1, (rchM es).2.1, last es) (formM es) = .tuple [.tuple [.int (rchM es).1, .int (rchM es).2.1, .int (last es)], .list ((formM es).map pieceD)] := rfl
  have m : ((105 + 20) * es.length + 2 * 105 + 20) * (formM es).length ≤ ((105 + 20) * 20 + 2 * 105 + 20) * 21 := Nat.mul_le_mul (by omega) (by omega)
  rw [e]
  have o := ok0_tup (ok0_cons (ok0_tup (ok0_cons (ok0_int s1) (ok0_cons (ok0_int s2) (ok0_cons (ok0_int s3) ok0_nil)))) (ok0_cons (ok0_list o1) ok0_nil))
  refine ⟨o.1, o.2.1, ?_, ok0_len o ?_⟩
  · simp only [PyData.depth, PyData.depthAll]
    omega
  · simp only [PyData.weight, PyData.weightAll] at w1 w2 w3 ⊢
    omega
theorem paired_memG {α β : Type} {F G : α → β → Prop} : ∀ {xs : List α} {ys : List β}, Paired F xs ys → (∀ x y, x ∈ xs → F x y → G x y) → Paired G xs ys
  | _, _, .nil, _ => .nil
  | _, _, .cons h t, k => .cons (k _ _ List.mem_cons_self h) (paired_memG t fun x y hx => k x y (List.mem_cons_of_mem _ hx))
/-- a form in the heap, newer than H0 -/
structure DueAt (H0 H : Hp) (p r q : Addr) (is : List (Addr × Option Addr)) (es : List Cmd) : Prop where
  tp : H p = some (.tup [.ref r, .ref q])
  rp : H r = some (.tup [.int (rchM es).1, .int (rchM es).2.1, .int (last es)])
  fd : FoundAt H0 H q is (formM es)
abbrev formE (es : List Cmd) : PyData := formD ((rchM es).1, (rchM es).2.1, last es) (formM es)
theorem DueAt.dp {K : PySem.W.Frag} {H0 H : Hp} {p r q : Addr} {is : List (Addr × Option Addr)} {es : List Cmd} (D : DueAt H0 H p r q is es) : Dp K H (.ref p) (formE es) :=
  .tup (SqT.of D.tp) (.cons (.tup (SqT.of D.rp) (.cons (.int _) (.cons (.int _) (.cons (.int _) .nil)))) (.cons (.lst (SqL.of D.fd.lst) (pieces_dp D.fd.its)) .nil))
theorem DueAt.keep {H0 H H' : Hp} {p r q a x : Addr} {is : List (Addr × Option Addr)} {es : List Cmd} {ys : List V} {C dx : Addr} {fs : List (Str × V)} (D : DueAt H0 H p r q is es) (h0 : H0 a ≠ none) (ha : H a = some (.lst ys)) (hx : H x = some (.ins C dx fs)) (k : Keep a x H H') : DueAt H0 H' p r q is es := by
  have tup : ∀ {t : Addr} {xs : List V}, H t = some (.tup xs) → H' t = some (.tup xs) := fun {t xs} h => k _ _ (ne_of h ha fun z => nomatch z) (ne_of h hx fun z => nomatch z) h
  have lst : ∀ {t : Addr} {xs : List V}, H0 t = none → H t = some (.lst xs) → H' t = some (.lst xs) := fun {t xs} n h => k _ _ (fun z => h0 (by rw [← z]; exact n)) (ne_of h hx fun z => nomatch z) h
  refine ⟨tup D.tp, tup D.rp, lst D.fd.m0 D.fd.lst, paired_memG D.fd.its fun i y hi h => h.mono (fun t xs z => tup z) fun b xs e z => lst (D.fd.new b (List.mem_filterMap.mpr ⟨i, hi, e⟩)).1 z, D.fd.nd, fun l hl => ?_, D.fd.m0⟩
  obtain ⟨h1, h2, xs, h3⟩ := D.fd.new l hl
  exact ⟨h1, h2, xs, lst h1 h3⟩
theorem Sit18.updL {K : PySem.W.Frag} {CB : Addr} {H : Hp} {a x dx l kl q : Addr} {N : Nat} {xs ys zs : List V} {es : List Cmd} {n : Int} (S : Sit18 K CB H a N x dx l kl xs es n) (hq : H q = some (.lst ys)) (qa : q ≠ a) (ql : q ≠ l) (qk : q ≠ kl) : Sit18 K CB (upd H q (.lst zs)) a N x dx l kl xs es n := by
  have hx : (upd H q (.lst zs)) x = H x := upd_ne (ne_of S.hh.bx hq fun z => nomatch z)
  exact ⟨rng_upd S.rg qa, ⟨by unfold BoxAt; rw [hx]; exact S.hh.bx, by rw [upd_ne (Ne.symm ql)]; exact S.hh.hl, CmdsOf.atL hq S.hh.hc, S.hh.ok, S.hh.ln⟩, by rw [upd_ne (Ne.symm qk)]; exact S.hk, S.la, S.ka, S.nb⟩
theorem keep_new {a x q : Addr} {H H' : Hp} {o : HO} (k : Keep a x H H') (n : H q = none) : Keep a x H (upd H' q o) := fun c u h1 h2 hc => by
  rw [upd_ne (ne_of_none hc n)]
  exact k c u h1 h2 hc
theorem keep_free {a x q : Addr} {H H' : Hp} (k : Keep a x H H') (qa : q ≠ a) (qx : q ≠ x) (n : H' q = none) : H q = none := by
  cases z : H q with
  | none => rfl
  | some o =>
    rw [k q o qa qx z] at n
    cases n
theorem box_same18 {H H1 H2 : Hp} {x l : Addr} (e0 : Same H H1) (nx : H x = none) (kp : Keep x x H1 H2) (nl : H1 l = none) : Same H H2 ∧ H l = none := by
  refine ⟨fun c o hc => ?_, ?_⟩
  · have hcx : c ≠ x := fun z => by rw [z, nx] at hc; cases hc
    exact kp c o hcx hcx (e0 _ _ hc)
  · cases q : H l with
    | none => rfl
    | some o =>
      rw [e0 _ _ q] at nl
      cases nl
theorem cs_good18 {es : List Cmd} (h : ∀ c ∈ es, c.ok) : badAt (es.map rawOf) = none := bad_none fun j r' _ hr' => by
  obtain ⟨c, hc1, rfl⟩ := List.mem_map.mp (List.mem_of_getElem? hr')
  exact rawOf_good (h c hc1)
section
variable {P : Program} {w : World} {K : PySem.W.Frag} {mg : Str → Option Value} {base : Heap} {CB CM : Addr}
theorem sc_law_right : FnScope ["pool", "many", "far", "keys", "hidden", "due", "before", "told"] ["pool"] (defScope s_right) := ⟨rfl, rfl, rfl, by decide +kernel, rfl, by decide +kernel, by decide +kernel⟩
theorem ok_right18 {f : Addr} {fd : FuncData} (F : Fun K "_law_right" "_law_right" s_right f fd) (T : TxtRi mg) (c_law_draw : Cal P w K mg base 1 "_law_draw" spDraw) (c_law_hidden : Cal P w K mg base 2 "_law_hidden" (spHidden18 K)) (m_Box : Mak P w K mg base (L2.CX P w) 4 "Box" CB (zBoxI18 K CB CM)) (c_law_form : Cal P w K mg base 3 "_law_form" (spLForm18 K))
    (c_law_answers_right : Cal P w K mg base 6 "_law_answers_right" (spAsks18 K CB)) (c_questions : Prp P w K mg base 1 CB "questions" (spQuestions CB)) (c_learn : Cal P w K mg base 31 "learn" (zLearn K CB)) (k_learn : CalK P w K mg base 31 "learn" ["size", "rows", "box"] (zLearn K CB)) : FnG P w K mg base 32 f fd ["pool"] (spRight18 K) := by
  refine okG F sc_law_right (fun vs H Q E h => ?_) (fun cdv A outer s H vs Q E hg hr h => ?_)
  · obtain ⟨a, n, rfl, _⟩ := h
    rfl
  · obtain ⟨a, n, rfl, R, hn, k⟩ := h
    refine ⟨_, (pss_cons (ps_par (i := 1) (j := 2) rfl sc_law_right.nd rfl rfl (by decide) rfl rfl (pa_cons (pe_ix ix_list (pe_lst (pa_cons pe_int (pa_cons pe_int (pa_cons pe_int pa_nil)))) (pe_cal c_law_draw hr (by decide) (by rfl) (pa_cons (pv 0) (pa_cons pe_int pa_nil))) (fun _ _ => rfl)) (pa_cons (pe_ix ix_list (pe_lst (pa_cons pe_int (pa_cons pe_int (pa_cons pe_int (pa_cons (pe_op op_pow pe_int pe_int) pa_nil))))) (pe_cal c_law_draw hr (by decide) (by rfl) (pa_cons (pv 0) (pa_cons pe_int pa_nil))) (fun _ _ => rfl)) pa_nil)) (by rfl))
      (pss_cons (ps_set (i := 3) sc_law_right.nd rfl (Or.inl rfl) (pe_cal c_law_hidden hr (by decide) (by rfl) (pa_cons (pv 0) (pa_cons (pv 1) (pa_cons (pv 2) pa_nil)))))
      (pss_cons (ps_par (i := 4) (j := 5) rfl sc_law_right.nd rfl rfl (by decide) rfl rfl (pa_cons (pe_makX takesNone m_Box hr (by decide) (by rfl) (pa_cons (pv 3) pa_nil)) (pa_cons (pe_cal c_law_form hr (by decide) (by rfl) (pa_cons (pv 3) pa_nil)) pa_nil)) (by rfl))
      (C8.pss_cut (ps_if (PW.pt (pw_and (pt_cmpR op_eq (pe_cal c_law_draw hr (by decide) (by rfl) (pa_cons (pv 0) (pa_cons pe_int pa_nil))) pe_int (nomark _)) (pw_and1 (pt_not (pt_val (pe_cal c_law_answers_right hr (by decide) (by rfl) (pa_cons (pv 0) (pa_cons (pv 4) (pa_cons (pv 3) pa_nil))))))))) (pss_one (ps_ret pe_bl)) pss_nil)
      (pss_cons (ps_set (i := 6) sc_law_right.nd rfl (Or.inl rfl) (pe_prp c_questions hr (by decide) (pv 4) rfl))
      (pss_cons (ps_set (i := 7) sc_law_right.nd rfl (Or.inl rfl) (pe_cal c_learn hr (by decide) (by rfl) (pa_cons (pv 4) (pa_cons (pv 1) (pa_cons (pv 2) pa_nil)))))
      (pss_cons (ps_if (PW.pt (pw_or (pt_cmpR (show OpR _ _ (rNeD K) from op_neD hr.units) (pv 7) (pv 5) (nomark _)) (pw_or (pt_cmpR op_ne (pe_callB (show CallR _ _ (rRepr K) from cr_repr hg hr.units) (by rfl) T.repr (by decide +kernel) (pa_cons (pv 7) pa_nil)) (pe_callB (show CallR _ _ (rRepr K) from cr_repr hg hr.units) (by rfl) T.repr (by decide +kernel) (pa_cons (pv 5) pa_nil)) (nomark _)) (pw_or1 (pt_not (pt_chain op_le op_le (pv 6) (pe_prp c_questions hr (by decide) (pv 4) rfl) (pe_op op_add (pv 6) pe_int))))))) (pss_one (ps_ret pe_bl)) pss_nil)
      (pss_cons (ps_if (pt_not (pt_val (pe_cal c_law_answers_right hr (by decide) (by rfl) (pa_cons (pv 0) (pa_cons (pv 4) (pa_cons (pv 3) pa_nil)))))) (pss_one (ps_ret pe_bl)) pss_nil)
      (pss_cons (ps_expr (pe_bm PySem.F.plainAttrs_list PySem.F.slot_list_append PySem.F.type_list_append mt_append (pe_ix (show IxR _ (rIxT K) from ix_tup) (pv 7) pe_int (fun _ _ => rfl)) (pa_cons pe_str pa_nil)))
      (pss_cons (ps_set (i := 6) sc_law_right.nd rfl (Or.inl rfl) (pe_prp c_questions hr (by decide) (pv 4) rfl))
      (C8.pss_cut (ps_if (pt_cmpR op_eq (pe_cal c_law_draw hr (by decide) (by rfl) (pa_cons (pv 0) (pa_cons pe_int pa_nil))) pe_int (nomark _)) (pss_one (ps_if (pt_cmpR (show OpR _ _ (rNeD K) from op_neD hr.units) (pe_calK k_learn hr (by decide) (by rfl) (pk_cons (pe_callB (call_min2 rfl) (by rfl) T.min (by decide +kernel) (pa_cons (pe_op op_pow pe_int pe_int) (pa_cons (pe_op op_add (pv 2) (pe_cal c_law_draw hr (by decide) (by rfl) (pa_cons (pv 0) (pa_cons pe_int pa_nil)))) pa_nil))) (pk_cons (pe_callB (call_min2 rfl) (by rfl) T.min (by decide +kernel) (pa_cons pe_int (pa_cons (pe_op op_add (pv 1) pe_int) pa_nil))) (pk_cons (pv 4) pk_nil)))) (pv 5) (nomark _)) (pss_one (ps_ret pe_bl)) pss_nil)) pss_nil)
      (pss_one (ps_ret (pe_cmpR op_le (pe_prp c_questions hr (by decide) (pv 4) rfl) (pe_op op_add (pv 6) pe_int) (nomark _))))))))))))))), ?_⟩
    have ha0 : H a ≠ none := by
      obtain ⟨_, _, _, z, _⟩ := R
      rw [z]
      exact fun z => nomatch z
    refine ⟨(by show 3 ≤ sizeLine; decide), fun q1 nq1 => ?_⟩
    have q1a := R.off nq1
    have e_H1 : Same H (upd H q1 (.lst [V.int 0, .int 2, .int 15])) := new_same nq1
    have h_q1 : (upd H q1 (.lst [V.int 0, .int 2, .int 15])) q1 = some (.lst [V.int 0, .int 2, .int 15]) := upd_same
    generalize upd H q1 (.lst [V.int 0, .int 2, .int 15]) = H1 at e_H1 h_q1 ⊢
    replace R := R.same e_H1
    refine ⟨_, rfl, a, _, 3, rfl, R, by omega, by decide, by decide, fun H2 d2 kp2 R2 d20 d21 => ?_⟩
    replace h_q1 := kp2 _ _ q1a q1a h_q1
    obtain ⟨many, hat, m0, m1⟩ : ∃ v : Int, atI [V.int 0, .int 2, .int 15] d2 = some (.int v) ∧ 0 ≤ v ∧ v ≤ 15 := by
      rcases (show d2 = 0 ∨ d2 = 1 ∨ d2 = 2 by omega) with rfl | rfl | rfl
      · exact ⟨_, rfl, by decide, by decide⟩
      · exact ⟨_, rfl, by decide, by decide⟩
      · exact ⟨_, rfl, by decide, by decide⟩
    refine ⟨q1, _, _, _, rfl, rfl, SqL.of h_q1, hat, ?_⟩
    refine ⟨_, _, rfl, rfl, cpow (by decide +kernel), (by show 4 ≤ sizeLine; decide), fun q2 nq2 => ?_⟩
    have q2a := R2.off nq2
    have e_H3 : Same H2 (upd H2 q2 (.lst [V.int 0, .int 9, .int 100, .int (10 ^ (6 : Int).toNat)])) := new_same nq2
    have h_q2 : (upd H2 q2 (.lst [V.int 0, .int 9, .int 100, .int (10 ^ (6 : Int).toNat)])) q2 = some (.lst [V.int 0, .int 9, .int 100, .int (10 ^ (6 : Int).toNat)]) := upd_same
    generalize upd H2 q2 (.lst [V.int 0, .int 9, .int 100, .int (10 ^ (6 : Int).toNat)]) = H3 at e_H3 h_q2 ⊢
    replace R2 := R2.same e_H3
    refine ⟨_, rfl, a, _, 4, rfl, R2, by omega, by decide, by decide, fun H4 d4 kp4 R4 d40 d41 => ?_⟩
    replace h_q2 := kp4 _ _ q2a q2a h_q2
    obtain ⟨far, hat2, f0, f1⟩ : ∃ v : Int, atI [V.int 0, .int 9, .int 100, .int (10 ^ (6 : Int).toNat)] d4 = some (.int v) ∧ 0 ≤ v ∧ v ≤ 10 ^ 6 := by
      rcases (show d4 = 0 ∨ d4 = 1 ∨ d4 = 2 ∨ d4 = 3 by omega) with rfl | rfl | rfl | rfl
      · exact ⟨_, rfl, by decide, by decide⟩
      · exact ⟨_, rfl, by decide, by decide⟩
      · exact ⟨_, rfl, by decide, by decide⟩
      · exact ⟨_, rfl, by decide, by decide⟩
    refine ⟨q2, _, _, _, rfl, rfl, SqL.of h_q2, hat2, ?_⟩
    have kp04 : Keep a a H H4 := (Keep.of e_H1).trans (kp2.trans ((Keep.of e_H3).trans kp4))
    refine ⟨_, _, rfl, ?_⟩
    refine ⟨_, rfl, _, rfl, _, rfl, a, _, many, far, rfl, R4, by omega, m0, m1, f0, f1, fun H5 kl xs es kp5 R5 nkl hkl hc ok l20 wi tt nb => ?_⟩
    have ka := R4.off nkl
    refine ⟨_, rfl, fun x dx nx ndx ne => ?_⟩
    have e6 : Same H5 (upd (upd H5 dx (.own x)) x (.ins CB dx [])) := same_freeU (new_same ndx) nx
    have hx6 : (upd (upd H5 dx (.own x)) x (.ins CB dx [])) x = some (.ins CB dx []) := upd_same
    generalize upd (upd H5 dx (.own x)) x (.ins CB dx []) = H6 at e6 hx6 ⊢
    show zBoxI18 K CB CM [.ref x, .ref kl] H6 _ _
    rw [zBoxI18_eq]
    refine ⟨x, dx, kl, xs, es.map rawOf, rfl, hx6, SqL.of (e6 _ _ hkl), (raws_of hc).same e6, fun i hi => absurd hi (by rw [cs_good18 ok]; exact fun z => nomatch z), fun _ H7 l kp7 nl7 bx hl => ⟨rfl, ?_⟩⟩
    obtain ⟨e7, nl⟩ := box_same18 e6 nx kp7 nl7
    have la := R5.off nl
    have hc7 := hc.same e7
    have hkl7 := e7 _ _ hkl
    refine ⟨_, rfl, kl, xs, es, rfl, SqL.of hkl7, hc7, ok, nb, by omega, fun H8 p r q is e8 np nr hp hr8 hF il => ?_⟩
    have ha7 : H7 a ≠ none := by
      obtain ⟨_, _, _, z, _⟩ := R5.same e7
      rw [z]
      exact fun z => nomatch z
    have D8 : DueAt H7 H8 p r q is es := ⟨hp, hr8, hF⟩
    have S8 : Sit18 K CB H8 a (n + 300) x dx l kl xs es ((0 : Nat) : Int) := ⟨((R5.same e7).same e8).more (by omega), ⟨e8 _ _ bx, e8 _ _ hl, hc7.same e8, ok, by omega⟩, e8 _ _ hkl7, la, ka, nb⟩
    have kp08 : Keep a a H H8 := kp04.trans (kp5.trans (Keep.of (e7.trans e8)))
    have hx0 : H x = none := (kp04.trans kp5).freeK (R5.off nx) nx
    clear kp04 kp5 kp7 e6 hx6
    refine ⟨_, _, rfl, ?_⟩
    have ha8 : ∃ ys, H8 a = some (.lst ys) := by
      obtain ⟨_, _, _, z, _⟩ := S8.rg
      exact ⟨_, z⟩
    obtain ⟨ys8, ha8⟩ := ha8
    refine ⟨fun σ H' => ∃ m : Nat, σ = [some (.ref a), some (.int many), some (.int far), some (.ref kl), some (.ref x), some (.ref p), none, none] ∧ Keep a x H8 H' ∧ Sit18 K CB H' a (n + 800) x dx l kl xs es (m : Int), ?_, ?_⟩
    · refine ⟨_, rfl, a, _, 2, rfl, S8.rg, by omega, by decide, by decide, fun H9 d9 kp9 R9 d90 d91 => ?_⟩
      have S9 := S8.draw kp9 R9
      refine ⟨rfl, _, rfl, ite2 (fun c => ?_) (fun c => ?_)⟩
      · refine ⟨_, rfl, _, rfl, _, rfl, a, x, dx, l, kl, _, xs, es, _, rfl, S9, by omega, fun H10 kp10 S10 => ?_⟩
        refine ⟨_, rfl, ?_⟩
        exact ⟨0 + 3, rfl, (keepL kp9).trans kp10, S10.more (by omega)⟩
      · exact ⟨0, rfl, keepL kp9, S9.more (by omega)⟩
    · rintro σ H9 ⟨m, rfl, kp89, S9⟩
      refine ⟨_, rfl, x, dx, _, rfl, S9.hh.bx, x, dx, l, _, rfl, S9.hh.bx, ?_⟩
      refine ⟨_, rfl, _, rfl, _, rfl, ?_⟩
      show zLearn K CB [.ref x, .int many, .int far] H9 _ _
      rw [zLearn_eq]
      refine ⟨x, dx, l, xs, es, _, many, far, rfl, S9.hh, m0, m1, wi, tt, f1, by omega, fun H10 p3 r3 q3 is3 m3 kp10 hh10 np3 hp3 hr3 F3 il3 mb3 => ?_⟩
      have S10 := S9.ask kp10 hh10
      have kp810 := kp89.trans (keepR kp10)
      have D10 := D8.keep ha7 ha8 S8.hh.bx kp810
      have E10 : DueAt H9 H10 p3 r3 q3 is3 es := ⟨hp3, hr3, F3⟩
      have sh := form_show18 ok (within_iff.mpr (by have := within_iff.mp wi; omega)) (by omega) l20
      have shp := shaped_form ((rchM es).1, (rchM es).2.1, last es) (formM es)
      have can : (formE es).canLay0 = true := by
        unfold SeqAt.shaped at shp
        simp only [Bool.and_eq_true] at shp
        exact shp.1
      refine ⟨_, rfl, _, rfl, formE es, formE es, E10.dp, D10.dp, shp, shp, _, rfl, ?_⟩
      rw [SeqAt.eqv_refl _ can]
      refine iteF ?_
      refine ⟨_, rfl, p3, _, rfl, E10.dp, sh.1, sh.2.1, sh.2.2.1, sh.2.2.2, _, rfl, p, _, rfl, D10.dp, sh.1, sh.2.1, sh.2.2.1, sh.2.2.2, ?_⟩
      refine ⟨rfl, _, rfl, ite2 (fun c => absurd c (by simp)) (fun _ => ?_)⟩
      refine ⟨_, rfl, _, rfl, x, dx, _, rfl, S10.hh.bx, x, dx, l, _, rfl, S10.hh.bx, _, _, rfl, rfl, _, rfl, ite2 (fun _ => ?_) (fun c => absurd (decide_eq_true (show (m : Int) ≤ m + m3 by omega)) c)⟩
      refine ⟨_, rfl, _, _, rfl, rfl, _, _, rfl, rfl, _, rfl, ite2 (fun c => ?_) (fun _ => ?_)⟩
      · rw [decide_eq_true (show (m : Int) + m3 ≤ m + 20000 by omega)] at c
        cases c
      refine ⟨_, rfl, _, rfl, _, rfl, a, x, dx, l, kl, _, xs, es, _, rfl, S10, by omega, fun H11 kp11 S11 => ⟨_, rfl, iteF ?_⟩⟩
      have ha9 : ∃ ys, H9 a = some (.lst ys) := by
        obtain ⟨_, _, _, z, _⟩ := S9.rg
        exact ⟨_, z⟩
      obtain ⟨ys9, ha9⟩ := ha9
      have ha10 : ∃ ys, H10 a = some (.lst ys) := by
        obtain ⟨_, _, _, z, _⟩ := S10.rg
        exact ⟨_, z⟩
      obtain ⟨ys10, ha10⟩ := ha10
      have E11 := E10.keep (a := a) (x := x) (by rw [ha9]; exact fun z => nomatch z) ha10 S10.hh.bx kp11
      have n9 := E11.fd.m0
      have qa := (ne_of_none ha9 n9).symm
      have qx := (ne_of_none S9.hh.bx n9).symm
      have q8 := keep_free kp89 qa qx n9
      have S12 := S11.updL (zs := is3.map (fun i => V.ref i.1) ++ [V.str "changed"]) E11.fd.lst qa (ne_of_none S9.hh.hl n9).symm (ne_of_none S9.hk n9).symm
      have kp812 : Keep a x H8 (upd H11 q3 (.lst (is3.map (fun i => V.ref i.1) ++ [V.str "changed"]))) := keep_new (kp810.trans kp11) q8
      refine ⟨_, rfl, p3, _, 1, _, rfl, rfl, SqT.of E11.tp, rfl, .inl ⟨rfl, _, SqL.of E11.fd.lst⟩, q3, _, _, rfl, rfl, E11.fd.lst, lt_line (by rw [List.length_map]; omega), ?_⟩
      generalize upd H11 q3 (.lst (is3.map (fun i => V.ref i.1) ++ [V.str "changed"])) = H12 at S12 kp812 ⊢
      refine ⟨_, rfl, x, dx, _, rfl, S12.hh.bx, x, dx, l, _, rfl, S12.hh.bx, ?_⟩
      refine ⟨fun σ H' => ∃ (b c : Int) (v7 : Option V), σ = [some (.ref a), some (.int many), some (.int far), some (.ref kl), some (.ref x), some (.ref p), some (.int b), v7] ∧ Keep a x H8 H' ∧ Sit18 K CB H' a (n + 1800) x dx l kl xs es c ∧ c ≤ b + 20000, ?_, ?_⟩
      · refine ⟨_, rfl, a, _, 3, rfl, S12.rg, by omega, by decide, by decide, fun H13 d13 kp13 R13 d130 d131 => ?_⟩
        have S13 := S12.draw kp13 R13
        have kp813 := kp812.trans (keepL kp13)
        refine ⟨rfl, _, rfl, ite2 (fun c => ?_) (fun c => ?_)⟩
        · refine ⟨_, _, rfl, rfl, cpow (by decide +kernel), _, rfl, _, rfl, a, _, 50, rfl, R13, by omega, by decide, by decide, fun H14 d14 kp14 R14 d140 d141 => ⟨_, _, rfl, rfl, ?_⟩⟩
          have S14 := S13.draw kp14 R14
          have kp814 := kp813.trans (keepL kp14)
          obtain ⟨sz, esz, s0, s1⟩ : ∃ sz : Int, (if far + d14 < 10 ^ (6 : Int).toNat then far + d14 else 10 ^ (6 : Int).toNat) = sz ∧ far ≤ sz ∧ sz ≤ 10 ^ 6 := by
            have e6 : (10 : Int) ^ (6 : Int).toNat = 1000000 := by decide
            exact ⟨_, rfl, by rw [e6]; split <;> omega, by rw [e6]; split <;> omega⟩
          obtain ⟨rw18, erw, w0, w1, w2⟩ : ∃ r : Int, (if many + 1 < 15 then many + 1 else 15) = r ∧ 0 ≤ r ∧ r ≤ 15 ∧ many ≤ r := ⟨_, rfl, by split <;> omega, by split <;> omega, by split <;> omega⟩
          refine ⟨_, _, rfl, _, rfl, _, _, rfl, rfl, _, _, rfl, _, rfl, ?_⟩
          refine ⟨x, dx, l, xs, es, _, rw18, sz, (by rw [← esz, ← erw]; rfl), S14.hh, w0, w1, within_iff.mpr (by have := within_iff.mp wi; omega), by omega, s1, by omega, fun H15 p4 r4 q4 is4 m4 kp15 hh15 np4 hp4 hr4 F4 il4 mb4 => ?_⟩
          have S15 := S14.ask kp15 hh15
          have kp815 := kp814.trans (keepR kp15)
          have D15 := D8.keep ha7 ha8 S8.hh.bx kp815
          have E15 : DueAt H14 H15 p4 r4 q4 is4 es := ⟨hp4, hr4, F4⟩
          refine ⟨_, rfl, formE es, formE es, E15.dp, D15.dp, shp, shp, _, rfl, ?_⟩
          rw [SeqAt.eqv_refl _ can]
          refine iteF ?_
          exact ⟨_, _, _, rfl, kp815, S15.more (by omega), by omega⟩
        · exact ⟨_, _, _, rfl, kp813, S13.more (by omega), by omega⟩
      · rintro σ H13 ⟨b, c, v7, rfl, kp813, S13, cb⟩
        refine ⟨_, rfl, x, dx, _, rfl, S13.hh.bx, x, dx, l, _, rfl, S13.hh.bx, _, rfl, _, _, rfl, rfl, _, _, rfl, rfl, ?_⟩
        show Q (.bl (decide (c ≤ b + 20000))) H13
        rw [decide_eq_true cb]
        exact k _ (fun d o h1 h2 hd => kp813 d o h1 (fun z => by rw [z, hx0] at hd; cases hd) (kp08 _ _ h1 h2 hd)) (S13.rg.more (by omega))
end
end Gc

/-! the law (k18) -/
namespace Gc
open PySem L2
abbrev s_law : Stmt := top 41
structure TxtL (mg : Str → Option Value) : Prop where
  max : mg "max" = none
  min : mg "min" = none
  len : mg "len" = none
  int : mg "int" = none
  range : mg "range" = none
def spLaw (K : PySem.W.Frag) : Sp := fun vs H Q _ => ∃ (a : Addr) (ns : List Int), vs = [.ref a] ∧ SqL K H a (ns.map V.int) ∧ ns.length ≤ 63 ∧ ∀ H', Q (.bl true) H'
@[irreducible] def zRight18 (K : PySem.W.Frag) : Sp := spRight18 K
theorem zRight18_eq (K : PySem.W.Frag) : zRight18 K = spRight18 K := by unfold zRight18; rfl
theorem ask_right18 {K : PySem.W.Frag} {H : Hp} {Q : VK} {E : XK} {a : Addr} {n : Nat} (R : Rng H a n) (hn : n < 2 ^ 35) (k : ∀ H', Keep a a H H' → Rng H' a (n + 2000) → Q (.bl true) H') : zRight18 K [.ref a] H Q E := by
  rw [zRight18_eq]
  exact ⟨a, n, rfl, R, hn, k⟩
theorem sq_keep {K : PySem.W.Frag} {H H1 H2 : Hp} {s p : Addr} {xs : List V} (h : SqL K H s xs) (hp : H p = none) (e : Same H H1) (kp : Keep p p H1 H2) : SqL K H2 s xs := by
  rcases h with (z | ⟨o, z⟩) | z
  · exact .inl (.inl (kp _ _ (ne_of_none z hp) (ne_of_none z hp) (e _ _ z)))
  · exact .inl (.inr ⟨o, kp _ _ (ne_of_none z hp) (ne_of_none z hp) (e _ _ z)⟩)
  · exact .inr z
/-- what raises nothing, where errors may be -/
theorem fnok_0x18 {P : Program} {w : World} {K : PySem.W.Frag} {mg : Str → Option Value} {base : Heap} {C : CXT} {k : Nat} {f : Addr} {fd : FuncData} {ps : List Str} {sp : Sp} (F : FnOk P w K mg base CX0 k f fd ps sp) : FnOk P w K mg base C k f fd ps sp :=
  ⟨F.len, fun A outer s H args us vs Q E hr he hb hv hs => codeAny_mono (F.run A outer s H args us vs Q E hr he hb hv hs) fun r s' q => by
    rcases r with e | fl
    · exact False.elim q
    · cases fl <;> exact q⟩
/-! ### the long list -/
def stepC (n : Nat) : Cmd := if n ≤ 6 then .down 2 else .up 2
def bigC : Nat → List Cmd
  | 0 => []
  | n + 1 => (bigC n ++ [stepC n]) ++ [.right (99990 + n)]
theorem step_cases (n : Nat) : (stepC n = .down 2 ∧ n ≤ 6) ∨ (stepC n = .up 2 ∧ ¬ n ≤ 6) := by
  unfold stepC
  by_cases h : n ≤ 6
  · rw [if_pos h]
    exact .inl ⟨rfl, h⟩
  · rw [if_neg h]
    exact .inr ⟨rfl, h⟩
theorem step_ok (n : Nat) : (stepC n).ok ∧ numC (stepC n) < 10 ^ 40 ∧ mvA (stepC n) = 0 := by
  rcases step_cases n with ⟨e, _⟩ | ⟨e, _⟩ <;> rw [e] <;> exact ⟨by show (1 : Int) ≤ 2; decide, by show (2 : Int) < _; decide, rfl⟩
theorem big_all : ∀ n : Nat, n ≤ 10 → AllOk (bigC n) ∧ (∀ c ∈ bigC n, numC c < 10 ^ 40) ∧ (bigC n).length = 2 * n ∧ tot (bigC n) ≤ n * 99999 ∧ Within (bigC n) (-15) 15 ∧ last (bigC n) = (if n ≤ 7 then 2 * (n : Int) else 28 - 2 * n)
  | 0, _ => ⟨(fun _ h => nomatch h), (fun _ h => nomatch h), rfl, Int.le_refl _, (fun j => by
      show -15 ≤ last (List.take j []) ∧ last (List.take j []) ≤ 15
      rw [List.take_nil]
      exact ⟨by show (-15 : Int) ≤ 0; decide, by show (0 : Int) ≤ 15; decide⟩), rfl⟩
  | n + 1, h => by
    obtain ⟨h1, h2, h3, h4, h5, h6⟩ := big_all n (by omega)
    obtain ⟨s1, s2, s3⟩ := step_ok n
    have mem : ∀ c ∈ bigC (n + 1), c ∈ bigC n ∨ c = stepC n ∨ c = .right (99990 + n) := fun c hc => by
      rcases List.mem_append.mp hc with z | z
      · rcases List.mem_append.mp z with z | z
        · exact .inl z
        · exact .inr (.inl (List.mem_singleton.mp z))
      · exact .inr (.inr (List.mem_singleton.mp z))
    have l1 : last (bigC n ++ [stepC n]) = (if n + 1 ≤ 7 then 2 * ((n + 1 : Nat) : Int) else 28 - 2 * (n + 1 : Nat)) := by
      rw [dv_snoc, h6]
      rcases step_cases n with ⟨e, z⟩ | ⟨e, z⟩
      · rw [e, if_pos (by omega), if_pos (by omega)]
        show 2 * (n : Int) + 2 = _
        omega
      · rw [e, if_neg (show ¬ n + 1 ≤ 7 by omega)]
        show (if n ≤ 7 then 2 * (n : Int) else 28 - 2 * n) + (-2) = _
        split <;> omega
    refine ⟨fun c hc => ?_, fun c hc => ?_, ?_, ?_, ?_, ?_⟩
    · rcases mem c hc with z | z | z
      · exact h1 c z
      · rw [z]
        exact s1
      · rw [z]
        show (1 : Int) ≤ 99990 + n
        omega
    · rcases mem c hc with z | z | z
      · exact h2 c z
      · rw [z]
        exact s2
      · rw [z]
        show (99990 : Int) + n < _
        omega
    · show ((bigC n ++ [stepC n]) ++ [_]).length = _
      rw [List.length_append, List.length_append, h3]
      show 2 * n + 1 + 1 = _
      omega
    · show tot ((bigC n ++ [stepC n]) ++ [_]) ≤ _
      rw [tot_snoc, tot_snoc, s3]
      show _ + 0 + (99990 + (n : Int)) ≤ _
      omega
    · have b : -15 ≤ last (bigC n ++ [stepC n]) ∧ last (bigC n ++ [stepC n]) ≤ 15 := by
        rw [l1]
        split <;> omega
      rw [dv_snoc] at b
      refine within_snoc (within_snoc h5 b.1 b.2) ?_ ?_
      · rw [dv_snoc]
        show -15 ≤ _ + (0 : Int)
        omega
      · rw [dv_snoc]
        show _ + (0 : Int) ≤ 15
        omega
    · show last ((bigC n ++ [stepC n]) ++ [_]) = _
      rw [dv_snoc, l1]
      exact Int.add_zero _
/-! ### the short list -/
def twoC : List Cmd := [.home, .right 2]
theorem two_form : formM twoC = [(1, none, some [(0, 0)]), (3, none, none)] := by
  have e : sortP [((0 : Int), (0 : Int))] = [(0, 0)] := (List.mergeSort_perm _ leK).eq_singleton
  show goP [.right 2, .home] 0 0 1 [] [] = _
  simp only [goP]
  have r : req [] 0 0 = [((0 : Int), (0 : Int))] := rfl
  rw [if_pos (by decide), r, e]
  rfl
theorem two_ok : AllOk twoC ∧ (∀ c ∈ twoC, numC c < 10 ^ 40) ∧ tot twoC = 2 ∧ Within twoC (-0) 0 ∧ (rchM twoC).1 = 0 ∧ (rchM twoC).2.1 = 0 ∧ last twoC = 0 := by
  refine ⟨fun c hc => ?_, fun c hc => ?_, rfl, fun j => ?_, rfl, rfl, rfl⟩
  · simp only [twoC, List.mem_cons, List.not_mem_nil, or_false] at hc
    rcases hc with rfl | rfl
    · trivial
    · show (1 : Int) ≤ 2
      decide
  · simp only [twoC, List.mem_cons, List.not_mem_nil, or_false] at hc
    rcases hc with rfl | rfl
    · decide
    · decide
  · rcases j with _ | _ | _ | j
    · decide
    · decide
    · decide
    · rw [List.take_of_length_le (by show 2 ≤ _; omega)]
      decide
theorem DueAt.same {H0 H H' : Hp} {p r q : Addr} {is : List (Addr × Option Addr)} {es : List Cmd} (D : DueAt H0 H p r q is es) (e : Same H H') : DueAt H0 H' p r q is es := ⟨e _ _ D.tp, e _ _ D.rp, D.fd.same e⟩
def twoD : PyData := .tuple [.tuple [.int 0, .int 0, .int 0], .list [.tuple [.int 1, .none, .list [.tuple [.int 0, .int 0]]], .tuple [.int 3, .none, .none]]]
theorem two_data : formE twoC = twoD := by
  unfold formE
  rw [two_form, two_ok.2.2.2.2.1, two_ok.2.2.2.2.2.1, two_ok.2.2.2.2.2.2]
  rfl
section
variable {P : Program} {w : World} {K : PySem.W.Frag} {mg : Str → Option Value} {base : Heap} {CB CM : Addr}
theorem sc_law : FnScope ["script", "at", "pool", "turn", "keys", "number", "hidden"] ["script"] (defScope s_law) := ⟨rfl, rfl, rfl, by decide +kernel, rfl, by decide +kernel, by decide +kernel⟩
theorem ok_law {f : Addr} {fd : FuncData} (F : Fun K "law" "law" s_law f fd) (T : TxtL mg) (c_law_pool : Cal P w K mg base 1 "_law_pool" (spPool K)) (c_law_right : CalG P w K mg base 32 "_law_right" (zRight18 K)) (m_Box : Mak P w K mg base (L2.CX P w) 4 "Box" CB (zBoxI18 K CB CM)) (c_law_form : Cal P w K mg base 3 "_law_form" (spLForm18 K))
    (c_questions : Prp P w K mg base 1 CB "questions" (spQuestions CB)) (c_learn : Cal P w K mg base 31 "learn" (zLearn K CB)) : FnG P w K mg base 33 f fd ["script"] (spLaw K) := by
  refine okG F sc_law (fun vs H Q E h => ?_) (fun cdv A outer s H vs Q E hg hr h => ?_)
  · obtain ⟨a, ns, rfl, _⟩ := h
    rfl
  · obtain ⟨a, ns, rfl, hS, hlen, k⟩ := h
    refine ⟨_, (pss_cons (ps_for PassesOwn.never rfl (pi_range1 rfl T.range (pa_cons (pe_callB (call_max2 rfl) (by rfl) T.max (by decide +kernel) (pa_cons pe_int (pa_cons (pe_callB (call_min2 rfl) (by rfl) T.min (by decide +kernel) (pa_cons pe_int (pa_cons (pe_callB call_len_seq (by rfl) T.len (by decide +kernel) (pa_cons (pv 0) pa_nil)) pa_nil))) pa_nil))) pa_nil)) (pg_name (i := 1) sc_law.nd rfl (Or.inl rfl)) (pss_cons (ps_set (i := 2) sc_law.nd rfl (Or.inl rfl) (pe_cal c_law_pool hr (by decide) (by rfl) (pa_cons (pv 0) (pa_cons (pv 1) pa_nil))))
      (pss_one (ps_for PassesOwn.never rfl (pi_range1 rfl T.range (pa_cons pe_int pa_nil)) (pg_name (i := 3) sc_law.nd rfl (Or.inl rfl)) (pss_one (ps_if (pt_not (pt_val (pe_calG c_law_right hg hr (by decide) (by rfl) (pa_cons (pv 2) pa_nil)))) (pss_one (ps_ret pe_bl)) pss_nil))))))
      (pss_cons (ps_set (i := 4) sc_law.nd rfl (Or.inl rfl) (pe_lst pa_nil))
      (pss_cons (ps_for PassesOwn.never rfl (pi_range1 rfl T.range (pa_cons pe_int pa_nil)) (pg_name (i := 5) sc_law.nd rfl (Or.inl rfl)) (pss_one (ps_set (i := 4) sc_law.nd rfl (Or.inl rfl) (pe_op op_cat (pv 4) (pe_lst (pa_cons (pe_tup (pa_cons (pe_ix ix_list (pe_lst (pa_cons pe_str (pa_cons pe_str pa_nil))) (pe_callTy call_int1 (by rfl) T.int (by decide +kernel) (pa_cons (pe_cmpR op_gt (pv 5) pe_int (nomark _)) pa_nil)) (fun _ _ => rfl)) (pa_cons pe_int pa_nil))) (pa_cons (pe_tup (pa_cons pe_str (pa_cons (pe_op op_add pe_int (pv 5)) pa_nil))) pa_nil)))))))
      (pss_cons (ps_set (i := 6) sc_law.nd rfl (Or.inl rfl) (pe_makX takesNone m_Box hr (by decide) (by rfl) (pa_cons (pv 4) pa_nil)))
      (pss_cons (ps_if (PW.pt (pw_or (pt_cmpR (show OpR _ _ (rNeD K) from op_neD hr.units) (pe_cal c_learn hr (by decide) (by rfl) (pa_cons (pv 6) (pa_cons pe_int (pa_cons (pe_op op_pow pe_int pe_int) pa_nil)))) (pe_cal c_law_form hr (by decide) (by rfl) (pa_cons (pv 4) pa_nil)) (nomark _)) (pw_or1 (pt_cmpR op_gt (pe_prp c_questions hr (by decide) (pv 6) rfl) pe_int (nomark _))))) (pss_one (ps_ret pe_bl)) pss_nil)
      (pss_one (ps_ret (pe_cmpR (show OpR _ _ (rEqD K) from op_eqD hr.units) (pe_cal c_learn hr (by decide) (by rfl) (pa_cons (pe_makX takesNone m_Box hr (by decide) (by rfl) (pa_cons (pe_lst (pa_cons (pe_tup (pa_cons pe_str pa_nil)) (pa_cons (pe_tup (pa_cons pe_str (pa_cons pe_int pa_nil))) pa_nil))) pa_nil)) (pa_cons pe_int (pa_cons pe_int pa_nil)))) (pe_tup (pa_cons (pe_tup (pa_cons pe_int (pa_cons pe_int (pa_cons pe_int pa_nil)))) (pa_cons (pe_lst (pa_cons (pe_tup (pa_cons pe_int (pa_cons pe_non (pa_cons (pe_lst (pa_cons (pe_tup (pa_cons pe_int (pa_cons pe_int pa_nil))) pa_nil)) pa_nil)))) (pa_cons (pe_tup (pa_cons pe_int (pa_cons pe_non (pa_cons pe_non pa_nil)))) pa_nil))) pa_nil))) (nomark _))))))))), ?_⟩
    refine ⟨_, rfl, a, _, rfl, .inl hS, _, _, rfl, _, _, rfl, _, rfl, ?_⟩
    have h8 : (0 : Int) ≤ (if ((ns.map V.int).length : Int) < 3 then ((ns.map V.int).length : Int) else 3) ∧ (if ((ns.map V.int).length : Int) < 3 then ((ns.map V.int).length : Int) else 3) ≤ 3 := by split <;> omega
    generalize (if ((ns.map V.int).length : Int) < 3 then ((ns.map V.int).length : Int) else 3) = z at h8 ⊢
    have h9 : 1 ≤ (if z > 1 then z else 1) ∧ (if z > 1 then z else 1) ≤ 3 := by split <;> omega
    generalize (if z > 1 then z else 1) = y at h9 ⊢
    refine ⟨by omega, by omega, for_range (lo := 0) (fun i σ H' => ∃ v1 v2 v3 : Option V, σ = [some (.ref a), v1, v2, v3, none, none, none] ∧ SqL K H' a (ns.map V.int)) ⟨none, none, none, rfl, hS⟩ (fun i σ H1 hi h => ?_) (fun σ H1 h => ?_)⟩
    · obtain ⟨v1, v2, v3, rfl, hS1⟩ := h
      refine ⟨_, rfl, _, rfl, a, ns, i, (by rw [Int.zero_add]; rfl), hS1, hlen, by omega, fun H2 p e2 np R2 => ?_⟩
      refine ⟨2, rfl, by decide, by decide, for_range (lo := 0) (n := 2) (fun j σ H' => ∃ v3 : Option V, σ = [some (.ref a), some (.int (0 + (i : Int))), some (.ref p), v3, none, none, none] ∧ SqL K H' a (ns.map V.int) ∧ Keep p p H2 H' ∧ Rng H' p (2000 * j)) ⟨v3, rfl, e2.seq hS1, Keep.refl _, R2⟩ (fun j σ H3 hj h => ?_) (fun σ H3 h => ?_)⟩
      · obtain ⟨w3, rfl, hS3, kp3, R3⟩ := h
        refine ⟨_, rfl, ask_right18 R3 (by omega) fun H4 kp4 R4 => ⟨_, rfl, iteF ?_⟩⟩
        exact ⟨_, rfl, sq_keep hS1 np e2 (kp3.trans kp4), kp3.trans kp4, R4.more (by omega)⟩
      · obtain ⟨w3, rfl, hS3, _⟩ := h
        exact ⟨_, _, _, rfl, hS3⟩
    · obtain ⟨v1, v2, v3, rfl, hS1⟩ := h
      refine ⟨(by show 0 ≤ sizeLine; decide), fun k0 nk0 => ?_⟩
      refine ⟨10, rfl, by decide, by decide, for_range (lo := 0) (n := 10) (fun i σ H' => ∃ (kl : Addr) (xs : List V) (v5 : Option V), σ = [some (.ref a), v1, v2, v3, some (.ref kl), v5, none] ∧ H' kl = some (.lst xs) ∧ CmdsOf K H' xs (bigC i)) ⟨k0, [], none, rfl, upd_same, .nil⟩ (fun i σ H3 hi h => ?_) (fun σ H3 h => ?_)⟩
      · obtain ⟨kl, xs, v5, rfl, hk, hc⟩ := h
        have hi' : i < 10 := hi
        have xl : xs.length ≤ 40 := by
          rw [hc.len, (big_all i (by omega)).2.2.1]
          omega
        simp only [Int.zero_add]
        refine ⟨_, rfl, (by show 2 ≤ sizeLine; decide), fun q nq => ?_⟩
        have e_H4 : Same H3 (upd H3 q (.lst [V.str "down", .str "up"])) := new_same nq
        have h_q : (upd H3 q (.lst [V.str "down", .str "up"])) q = some (.lst [V.str "down", .str "up"]) := upd_same
        generalize upd H3 q (.lst [V.str "down", .str "up"]) = H4 at e_H4 h_q ⊢
        replace hk := e_H4 _ _ hk
        obtain ⟨nm, hat, est⟩ : ∃ nm : Str, atI [V.str "down", .str "up"] (if decide ((6 : Int) < (i : Int)) = true then 1 else 0) = some (.str nm) ∧ encC (stepC i) = [.str nm, .int 2] := by
          rcases step_cases i with ⟨e, z⟩ | ⟨e, z⟩
          · exact ⟨"down", at_fP (decide_eq_false (by omega)), by rw [e]; rfl⟩
          · exact ⟨"up", at_tP (decide_eq_true (by omega)), by rw [e]; rfl⟩
        refine ⟨_, rfl, _, _, rfl, rfl, .inr ⟨_, rfl, q, _, _, _, rfl, rfl, SqL.of h_q, hat, (by show 2 ≤ sizeLine; decide), fun t1 n1 => ?_⟩⟩
        have e_H5 : Same H4 (upd H4 t1 (.tup [V.str nm, .int 2])) := new_same n1
        have h_t1 : (upd H4 t1 (.tup [V.str nm, .int 2])) t1 = some (.tup [V.str nm, .int 2]) := upd_same
        generalize upd H4 t1 (.tup [V.str nm, .int 2]) = H5 at e_H5 h_t1 ⊢
        replace hk := e_H5 _ _ hk
        refine ⟨_, rfl, _, _, rfl, rfl, (by show 2 ≤ sizeLine; decide), fun t2 n2 => ?_⟩
        have e_H6 : Same H5 (upd H5 t2 (.tup [V.str "right", .int (99990 + (i : Int))])) := new_same n2
        have h_t2 : (upd H5 t2 (.tup [V.str "right", .int (99990 + (i : Int))])) t2 = some (.tup [V.str "right", .int (99990 + (i : Int))]) := upd_same
        generalize upd H5 t2 (.tup [V.str "right", .int (99990 + (i : Int))]) = H6 at e_H6 h_t2 ⊢
        replace h_t1 := e_H6 _ _ h_t1
        replace hk := e_H6 _ _ hk
        refine ⟨(by show 2 ≤ sizeLine; decide), fun l2 nl2 => ?_⟩
        have e_H7 : Same H6 (upd H6 l2 (.lst [V.ref t1, .ref t2])) := new_same nl2
        have h_l2 : (upd H6 l2 (.lst [V.ref t1, .ref t2])) l2 = some (.lst [V.ref t1, .ref t2]) := upd_same
        generalize upd H6 l2 (.lst [V.ref t1, .ref t2]) = H7 at e_H7 h_l2 ⊢
        replace h_t1 := e_H7 _ _ h_t1
        replace h_t2 := e_H7 _ _ h_t2
        replace hk := e_H7 _ _ hk
        have e37 := e_H4.trans (e_H5.trans (e_H6.trans e_H7))
        refine ⟨kl, l2, _, _, rfl, rfl, hk, h_l2, Nat.le_of_lt (lt_line (by show xs.length + 2 ≤ _; omega)), fun p np => ?_⟩
        have e8 := new_same (o := HO.lst (xs ++ [V.ref t1, .ref t2])) np
        refine ⟨p, _, _, rfl, upd_same, ?_⟩
        have c1 : CmdsOf K (upd H7 p (.lst (xs ++ [V.ref t1, .ref t2]))) [V.ref t1, .ref t2] [stepC i, .right (99990 + (i : Int))] := .cons ⟨t1, rfl, SqT.of (by rw [est]; exact e8 _ _ h_t1)⟩ (.cons ⟨t2, rfl, SqT.of (e8 _ _ h_t2)⟩ .nil)
        show CmdsOf K _ _ ((bigC i ++ [stepC i]) ++ [.right (99990 + (i : Int))])
        rw [List.append_assoc]
        exact paired_app ((hc.same e37).same e8) c1
      · obtain ⟨kl, xs, v5, rfl, hk, hc⟩ := h
        obtain ⟨b1, b2, b3, b4, b5, b6⟩ := big_all 10 (Nat.le_refl _)
        replace hc : CmdsOf K H3 xs (bigC 10) := hc
        generalize bigC 10 = es at hc b1 b2 b3 b4 b5 b6
        replace b3 : es.length = 20 := b3
        replace b4 : tot es ≤ 999990 := b4
        refine ⟨_, rfl, fun x dx nx ndx ne => ?_⟩
        have e4 : Same H3 (upd (upd H3 dx (.own x)) x (.ins CB dx [])) := same_freeU (new_same ndx) nx
        have hx4 : (upd (upd H3 dx (.own x)) x (.ins CB dx [])) x = some (.ins CB dx []) := upd_same
        generalize upd (upd H3 dx (.own x)) x (.ins CB dx []) = H4 at e4 hx4 ⊢
        show zBoxI18 K CB CM [.ref x, .ref kl] H4 _ _
        rw [zBoxI18_eq]
        refine ⟨x, dx, kl, xs, es.map rawOf, rfl, hx4, SqL.of (e4 _ _ hk), (raws_of hc).same e4, fun i hi => absurd hi (by rw [cs_good18 b1]; exact fun z => nomatch z), fun _ H5 l kp5 nl5 bx hl => ⟨rfl, ?_⟩⟩
        obtain ⟨e5, nl⟩ := box_same18 e4 nx kp5 nl5
        have hh5 : Hides K CB H5 x dx l xs es 0 := ⟨bx, hl, hc.same e5, b1, by omega⟩
        have hk5 := e5 _ _ hk
        clear kp5 hx4 e4
        refine ⟨_, rfl, _, _, rfl, rfl, cpow (by decide +kernel), ?_⟩
        show zLearn K CB [.ref x, .int 15, .int (10 ^ (6 : Int).toNat)] H5 _ _
        rw [zLearn_eq]
        have e6 : (10 : Int) ^ (6 : Int).toNat = 1000000 := by decide
        refine ⟨x, dx, l, xs, es, 0, 15, 10 ^ (6 : Int).toNat, rfl, hh5, by decide, by decide, b5, by rw [e6]; omega, by rw [e6]; decide, by omega, fun H6 p3 r3 q3 is3 m3 kp6 hh6 np3 hp3 hr3 F3 il3 mb3 => ?_⟩
        have E6 : DueAt H5 H6 p3 r3 q3 is3 es := ⟨hp3, hr3, F3⟩
        have kx := ne_of hk5 bx fun z => nomatch z
        have hk6 := kp6 _ _ kx kx hk5
        refine ⟨_, rfl, kl, xs, es, rfl, SqL.of hk6, hh6.hc, b1, b2, by omega, fun H7 p r q is e7 np nr hp hr7 hF il => ?_⟩
        have D7 : DueAt H6 H7 p r q is es := ⟨hp, hr7, hF⟩
        have shp := shaped_form ((rchM es).1, (rchM es).2.1, last es) (formM es)
        have can : (formE es).canLay0 = true := by
          unfold SeqAt.shaped at shp
          simp only [Bool.and_eq_true] at shp
          exact shp.1
        refine ⟨formE es, formE es, (E6.same e7).dp, D7.dp, shp, shp, _, rfl, ?_⟩
        rw [SeqAt.eqv_refl _ can]
        refine iteF ?_
        have hh7 := hh6.same e7
        refine ⟨_, rfl, x, dx, _, rfl, hh7.bx, x, dx, l, _, rfl, hh7.bx, _, _, rfl, rfl, _, rfl, ite2 (fun c => ?_) (fun _ => ?_)⟩
        · have c' : (20000 : Int) < 0 + m3 := of_decide_eq_true c
          omega
        -- the short list
        refine ⟨(by show 1 ≤ sizeLine; decide), fun t1 n1 => ?_⟩
        have e_H8 : Same H7 (upd H7 t1 (.tup [V.str "home"])) := new_same n1
        have h_t1 : (upd H7 t1 (.tup [V.str "home"])) t1 = some (.tup [V.str "home"]) := upd_same
        generalize upd H7 t1 (.tup [V.str "home"]) = H8 at e_H8 h_t1 ⊢
        refine ⟨(by show 2 ≤ sizeLine; decide), fun t2 n2 => ?_⟩
        have e_H9 : Same H8 (upd H8 t2 (.tup [V.str "right", .int 2])) := new_same n2
        have h_t2 : (upd H8 t2 (.tup [V.str "right", .int 2])) t2 = some (.tup [V.str "right", .int 2]) := upd_same
        generalize upd H8 t2 (.tup [V.str "right", .int 2]) = H9 at e_H9 h_t2 ⊢
        replace h_t1 := e_H9 _ _ h_t1
        refine ⟨(by show 2 ≤ sizeLine; decide), fun l1 nl1 => ?_⟩
        have e_H10 : Same H9 (upd H9 l1 (.lst [V.ref t1, .ref t2])) := new_same nl1
        have h_l1 : (upd H9 l1 (.lst [V.ref t1, .ref t2])) l1 = some (.lst [V.ref t1, .ref t2]) := upd_same
        generalize upd H9 l1 (.lst [V.ref t1, .ref t2]) = H10 at e_H10 h_l1 ⊢
        replace h_t1 := e_H10 _ _ h_t1
        replace h_t2 := e_H10 _ _ h_t2
        obtain ⟨w1, w2, w3, w4, w5, w6, w7⟩ := two_ok
        have hc10 : CmdsOf K H10 [V.ref t1, .ref t2] twoC := .cons ⟨t1, rfl, SqT.of h_t1⟩ (.cons ⟨t2, rfl, SqT.of h_t2⟩ .nil)
        refine fun y dy ny ndy nye => ?_
        have e11 : Same H10 (upd (upd H10 dy (.own y)) y (.ins CB dy [])) := same_freeU (new_same ndy) ny
        have hy11 : (upd (upd H10 dy (.own y)) y (.ins CB dy [])) y = some (.ins CB dy []) := upd_same
        generalize upd (upd H10 dy (.own y)) y (.ins CB dy []) = H11 at e11 hy11 ⊢
        refine ⟨y, dy, l1, _, twoC.map rawOf, rfl, hy11, SqL.of (e11 _ _ h_l1), (raws_of hc10).same e11, fun i hi => absurd hi (by rw [cs_good18 w1]; exact fun z => nomatch z), fun _ H12 l2 kp12 nl12 by12 hl12 => ⟨rfl, ?_⟩⟩
        obtain ⟨e12, nl2⟩ := box_same18 e11 ny kp12 nl12
        have hh12 : Hides K CB H12 y dy l2 [V.ref t1, .ref t2] twoC 0 := ⟨by12, hl12, hc10.same e12, w1, by decide⟩
        refine ⟨y, dy, l2, _, twoC, 0, 0, 2, rfl, hh12, by decide, by decide, w4, by rw [w3]; decide, by decide, by decide, fun H13 p4 r4 q4 is4 m4 kp13 hh13 np4 hp4 hr4 F4 il4 mb4 => ?_⟩
        have E13 : DueAt H12 H13 p4 r4 q4 is4 twoC := ⟨hp4, hr4, F4⟩
        refine ⟨(by show 3 ≤ sizeLine; decide), fun d0 nd0 => ?_⟩
        have e_H14 : Same H13 (upd H13 d0 (.tup [V.int 0, .int 0, .int 0])) := new_same nd0
        have h_d0 : (upd H13 d0 (.tup [V.int 0, .int 0, .int 0])) d0 = some (.tup [V.int 0, .int 0, .int 0]) := upd_same
        generalize upd H13 d0 (.tup [V.int 0, .int 0, .int 0]) = H14 at e_H14 h_d0 ⊢
        refine ⟨(by show 2 ≤ sizeLine; decide), fun d1 nd1 => ?_⟩
        have e_H15 : Same H14 (upd H14 d1 (.tup [V.int 0, .int 0])) := new_same nd1
        have h_d1 : (upd H14 d1 (.tup [V.int 0, .int 0])) d1 = some (.tup [V.int 0, .int 0]) := upd_same
        generalize upd H14 d1 (.tup [V.int 0, .int 0]) = H15 at e_H15 h_d1 ⊢
        replace h_d0 := e_H15 _ _ h_d0
        refine ⟨(by show 1 ≤ sizeLine; decide), fun d2 nd2 => ?_⟩
        have e_H16 : Same H15 (upd H15 d2 (.lst [V.ref d1])) := new_same nd2
        have h_d2 : (upd H15 d2 (.lst [V.ref d1])) d2 = some (.lst [V.ref d1]) := upd_same
        generalize upd H15 d2 (.lst [V.ref d1]) = H16 at e_H16 h_d2 ⊢
        replace h_d0 := e_H16 _ _ h_d0
        replace h_d1 := e_H16 _ _ h_d1
        refine ⟨(by show 3 ≤ sizeLine; decide), fun d3 nd3 => ?_⟩
        have e_H17 : Same H16 (upd H16 d3 (.tup [V.int 1, .non, .ref d2])) := new_same nd3
        have h_d3 : (upd H16 d3 (.tup [V.int 1, .non, .ref d2])) d3 = some (.tup [V.int 1, .non, .ref d2]) := upd_same
        generalize upd H16 d3 (.tup [V.int 1, .non, .ref d2]) = H17 at e_H17 h_d3 ⊢
        replace h_d0 := e_H17 _ _ h_d0
        replace h_d1 := e_H17 _ _ h_d1
        replace h_d2 := e_H17 _ _ h_d2
        refine ⟨(by show 3 ≤ sizeLine; decide), fun d4 nd4 => ?_⟩
        have e_H18 : Same H17 (upd H17 d4 (.tup [V.int 3, .non, .non])) := new_same nd4
        have h_d4 : (upd H17 d4 (.tup [V.int 3, .non, .non])) d4 = some (.tup [V.int 3, .non, .non]) := upd_same
        generalize upd H17 d4 (.tup [V.int 3, .non, .non]) = H18 at e_H18 h_d4 ⊢
        replace h_d0 := e_H18 _ _ h_d0
        replace h_d1 := e_H18 _ _ h_d1
        replace h_d2 := e_H18 _ _ h_d2
        replace h_d3 := e_H18 _ _ h_d3
        refine ⟨(by show 2 ≤ sizeLine; decide), fun d5 nd5 => ?_⟩
        have e_H19 : Same H18 (upd H18 d5 (.lst [V.ref d3, .ref d4])) := new_same nd5
        have h_d5 : (upd H18 d5 (.lst [V.ref d3, .ref d4])) d5 = some (.lst [V.ref d3, .ref d4]) := upd_same
        generalize upd H18 d5 (.lst [V.ref d3, .ref d4]) = H19 at e_H19 h_d5 ⊢
        replace h_d0 := e_H19 _ _ h_d0
        replace h_d1 := e_H19 _ _ h_d1
        replace h_d2 := e_H19 _ _ h_d2
        replace h_d3 := e_H19 _ _ h_d3
        replace h_d4 := e_H19 _ _ h_d4
        refine ⟨(by show 2 ≤ sizeLine; decide), fun d6 nd6 => ?_⟩
        have e_H20 : Same H19 (upd H19 d6 (.tup [V.ref d0, .ref d5])) := new_same nd6
        have h_d6 : (upd H19 d6 (.tup [V.ref d0, .ref d5])) d6 = some (.tup [V.ref d0, .ref d5]) := upd_same
        generalize upd H19 d6 (.tup [V.ref d0, .ref d5]) = H20 at e_H20 h_d6 ⊢
        replace h_d0 := e_H20 _ _ h_d0
        replace h_d1 := e_H20 _ _ h_d1
        replace h_d2 := e_H20 _ _ h_d2
        replace h_d3 := e_H20 _ _ h_d3
        replace h_d4 := e_H20 _ _ h_d4
        replace h_d5 := e_H20 _ _ h_d5
        have eE : Same H13 H20 := e_H14.trans (e_H15.trans (e_H16.trans (e_H17.trans (e_H18.trans (e_H19.trans e_H20)))))
        have d1 : Dp K H20 (.ref p4) twoD := by
          rw [← two_data]
          exact (E13.same eE).dp
        have d2 : Dp K H20 (.ref d6) twoD := .tup (SqT.of h_d6) (.cons (.tup (SqT.of h_d0) (.cons (.int 0) (.cons (.int 0) (.cons (.int 0) .nil)))) (.cons (.lst (SqL.of h_d5) (.cons (.tup (SqT.of h_d3) (.cons (.int 1) (.cons .non (.cons (.lst (SqL.of h_d2) (.cons (.tup (SqT.of h_d1) (.cons (.int 0) (.cons (.int 0) .nil))) .nil)) .nil)))) (.cons (.tup (SqT.of h_d4) (.cons (.int 3) (.cons .non (.cons .non .nil)))) .nil))) .nil))
        refine ⟨twoD, twoD, d1, d2, rfl, rfl, ?_⟩
        rw [SeqAt.eqv_refl _ rfl]
        exact k _
end
end Gc

/-! the __init__ of the errors -/
namespace Gc
open PySem L2
theorem kit_own {K : PySem.W.Frag} {C D : Addr} {b : Bool} (h1 : PySem.W.isClsIn K D = true) (h2 : PySem.W.typeIn K (.ref D) = some (.type "type"))
    (h3 : PySem.W.subIn K (.ref C) (.ref D) = some b) (hr : PySem.W.subIn K (.ref C) (.ref C) = some true) : PySem.W.kitOne K (.ref C) (.ref D) = some b := by
  unfold PySem.W.kitOne
  split
  · rename_i e
    have z : C = D := Value.ref.inj (beq_iff_eq.mp e)
    subst z
    exact hr.symm.trans h3
  · show (if ((PySem.W.clsIn K D).isSome && PySem.W.typeIn K (.ref D) == some (.type "type")) = true then PySem.W.subIn K (.ref C) (.ref D) else none) = some b
    have h1' : (PySem.W.clsIn K D).isSome = true := h1
    rw [h1', h2]
    exact h3
theorem kit_bl {K : PySem.W.Frag} {C : Addr} {T : String} {b : Bool} (hm : PySem.W.kitMeta T = true) (h : PySem.W.subIn K (.ref C) (.type T) = some b) : PySem.W.kitOne K (.ref C) (.type T) = some b := by
  unfold PySem.W.kitOne
  rw [if_neg (by intro e; cases beq_iff_eq.mp e)]
  show (if PySem.W.kitMeta T = true then PySem.W.subIn K (.ref C) (.type T) else none) = some b
  rw [if_pos hm]
  exact h
section
variable {P : Program} {w : World} {K : PySem.W.Frag} {mg : Str → Option Value} {base : Heap}
abbrev sI0 : Stmt := inClass (top 2) 0
theorem sc_I0 : FnScope ["self", "value"] ["self", "value"] (defScope sI0) := ⟨rfl, rfl, rfl, by decide +kernel, rfl, by decide +kernel, by decide +kernel⟩
theorem errc_I0 {fI C : Addr} {fd : FuncData} (F : Fun K "__init__" "InvalidText.__init__" sI0 fI fd) (T : OexC K C) (g : mg "InvalidText" = some (.ref C)) (no : PySem.W.findIn K (.ref C) "value" = some none)
    (iC : PySem.W.findIn K (.ref C) "__init__" = some (some (.ref fI))) (tI : PySem.W.typeIn K (.ref fI) = some (.type "function")) : ErrC P w K mg base "InvalidText" C := by
  have ok : FnOk P w K mg base CX0 1 fI fd ["self", "value"] (spKeep C) := by
    refine F.ok sc_I0 (fun vs H Q E h => ?_) (fun cdv A outer s H vs Q E hr h => ?_)
    · obtain ⟨a, v, rfl, _⟩ := h
      rfl
    · obtain ⟨a, v, rfl, ha, k⟩ := h
      refine ⟨_, pss_one (ps_ost (pv 0) (pv 1)), ?_⟩
      exact ⟨_, rfl, _, rfl, a, C, rfl, T, no, .inl ⟨ha, fun dx hd ne => k dx hd ne⟩⟩
  exact ⟨T, g, no, fI, fd, iC, tI, ok, F.binds (ps := ["self", "value"]) fun _ _ _ _ _ _ us hl => match us, hl with | [_, _], _ => rfl⟩
abbrev sI1 : Stmt := inClass (top 3) 0
theorem sc_I1 : FnScope ["self", "value"] ["self", "value"] (defScope sI1) := ⟨rfl, rfl, rfl, by decide +kernel, rfl, by decide +kernel, by decide +kernel⟩
theorem errc_I1 {fI C : Addr} {fd : FuncData} (F : Fun K "__init__" "InvalidCursor.__init__" sI1 fI fd) (T : OexC K C) (g : mg "InvalidCursor" = some (.ref C)) (no : PySem.W.findIn K (.ref C) "value" = some none)
    (iC : PySem.W.findIn K (.ref C) "__init__" = some (some (.ref fI))) (tI : PySem.W.typeIn K (.ref fI) = some (.type "function")) : ErrC P w K mg base "InvalidCursor" C := by
  have ok : FnOk P w K mg base CX0 1 fI fd ["self", "value"] (spKeep C) := by
    refine F.ok sc_I1 (fun vs H Q E h => ?_) (fun cdv A outer s H vs Q E hr h => ?_)
    · obtain ⟨a, v, rfl, _⟩ := h
      rfl
    · obtain ⟨a, v, rfl, ha, k⟩ := h
      refine ⟨_, pss_one (ps_ost (pv 0) (pv 1)), ?_⟩
      exact ⟨_, rfl, _, rfl, a, C, rfl, T, no, .inl ⟨ha, fun dx hd ne => k dx hd ne⟩⟩
  exact ⟨T, g, no, fI, fd, iC, tI, ok, F.binds (ps := ["self", "value"]) fun _ _ _ _ _ _ us hl => match us, hl with | [_, _], _ => rfl⟩
abbrev sI2 : Stmt := inClass (top 4) 0
theorem sc_I2 : FnScope ["self", "value"] ["self", "value"] (defScope sI2) := ⟨rfl, rfl, rfl, by decide +kernel, rfl, by decide +kernel, by decide +kernel⟩
theorem errc_I2 {fI C : Addr} {fd : FuncData} (F : Fun K "__init__" "InvalidCommand.__init__" sI2 fI fd) (T : OexC K C) (g : mg "InvalidCommand" = some (.ref C)) (no : PySem.W.findIn K (.ref C) "value" = some none)
    (iC : PySem.W.findIn K (.ref C) "__init__" = some (some (.ref fI))) (tI : PySem.W.typeIn K (.ref fI) = some (.type "function")) : ErrC P w K mg base "InvalidCommand" C := by
  have ok : FnOk P w K mg base CX0 1 fI fd ["self", "value"] (spKeep C) := by
    refine F.ok sc_I2 (fun vs H Q E h => ?_) (fun cdv A outer s H vs Q E hr h => ?_)
    · obtain ⟨a, v, rfl, _⟩ := h
      rfl
    · obtain ⟨a, v, rfl, ha, k⟩ := h
      refine ⟨_, pss_one (ps_ost (pv 0) (pv 1)), ?_⟩
      exact ⟨_, rfl, _, rfl, a, C, rfl, T, no, .inl ⟨ha, fun dx hd ne => k dx hd ne⟩⟩
  exact ⟨T, g, no, fI, fd, iC, tI, ok, F.binds (ps := ["self", "value"]) fun _ _ _ _ _ _ us hl => match us, hl with | [_, _], _ => rfl⟩
abbrev sI3 : Stmt := inClass (top 5) 0
theorem sc_I3 : FnScope ["self", "value"] ["self", "value"] (defScope sI3) := ⟨rfl, rfl, rfl, by decide +kernel, rfl, by decide +kernel, by decide +kernel⟩
theorem errc_I3 {fI C : Addr} {fd : FuncData} (F : Fun K "__init__" "Impossible.__init__" sI3 fI fd) (T : OexC K C) (g : mg "Impossible" = some (.ref C)) (no : PySem.W.findIn K (.ref C) "value" = some none)
    (iC : PySem.W.findIn K (.ref C) "__init__" = some (some (.ref fI))) (tI : PySem.W.typeIn K (.ref fI) = some (.type "function")) : ErrC P w K mg base "Impossible" C := by
  have ok : FnOk P w K mg base CX0 1 fI fd ["self", "value"] (spKeep C) := by
    refine F.ok sc_I3 (fun vs H Q E h => ?_) (fun cdv A outer s H vs Q E hr h => ?_)
    · obtain ⟨a, v, rfl, _⟩ := h
      rfl
    · obtain ⟨a, v, rfl, ha, k⟩ := h
      refine ⟨_, pss_one (ps_ost (pv 0) (pv 1)), ?_⟩
      exact ⟨_, rfl, _, rfl, a, C, rfl, T, no, .inl ⟨ha, fun dx hd ne => k dx hd ne⟩⟩
  exact ⟨T, g, no, fI, fd, iC, tI, ok, F.binds (ps := ["self", "value"]) fun _ _ _ _ _ _ us hl => match us, hl with | [_, _], _ => rfl⟩
end
end Gc

namespace Gc
open PySem L2
theorem all_mk {l : PySem.W.OpenLaw} {w : World} {K : PySem.W.Frag} {h : Heap} {mg : Str → Option Value} {fa : Addr} (X : K.In h) (G : h.Ns mainGlobals mg) (hfa : mg "law" = some (.ref fa))
    {wn wo : Addr} {odN odO : Option Addr} {nN nO : Nat} {slN slO : Array (Option Value)} {tn0 tn1 tn2 tn3 to0 to1 : Tok}
    {f_is_count : Addr} {oc_is_count kV_is_count dc_is_count pm_is_count cd_is_count ct_is_count : Value} {od_is_count an_is_count : Option Addr} {sl_is_count : Array (Option Value)}
    {f_is_command : Addr} {oc_is_command kV_is_command dc_is_command pm_is_command cd_is_command ct_is_command : Value} {od_is_command an_is_command : Option Addr} {sl_is_command : Array (Option Value)}
    {f_check_commands : Addr} {oc_check_commands kV_check_commands dc_check_commands pm_check_commands cd_check_commands ct_check_commands : Value} {od_check_commands an_check_commands : Option Addr} {sl_check_commands : Array (Option Value)}
    {f_row_change : Addr} {oc_row_change kV_row_change dc_row_change pm_row_change cd_row_change ct_row_change : Value} {od_row_change an_row_change : Option Addr} {sl_row_change : Array (Option Value)}
    {f_check_text : Addr} {oc_check_text kV_check_text dc_check_text pm_check_text cd_check_text ct_check_text : Value} {od_check_text an_check_text : Option Addr} {sl_check_text : Array (Option Value)}
    {f_check_cursor : Addr} {oc_check_cursor kV_check_cursor dc_check_cursor pm_check_cursor cd_check_cursor ct_check_cursor : Value} {od_check_cursor an_check_cursor : Option Addr} {sl_check_cursor : Array (Option Value)}
    {f_run : Addr} {oc_run kV_run dc_run pm_run cd_run ct_run : Value} {od_run an_run : Option Addr} {sl_run : Array (Option Value)}
    {f_shown_column : Addr} {oc_shown_column kV_shown_column dc_shown_column pm_shown_column cd_shown_column ct_shown_column : Value} {od_shown_column an_shown_column : Option Addr} {sl_shown_column : Array (Option Value)}
    {f_moved : Addr} {oc_moved kV_moved dc_moved pm_moved cd_moved ct_moved : Value} {od_moved an_moved : Option Addr} {sl_moved : Array (Option Value)}
    {f_new_goal : Addr} {oc_new_goal kV_new_goal dc_new_goal pm_new_goal cd_new_goal ct_new_goal : Value} {od_new_goal an_new_goal : Option Addr} {sl_new_goal : Array (Option Value)}
    {f_learn : Addr} {oc_learn kV_learn dc_learn pm_learn cd_learn ct_learn : Value} {od_learn an_learn : Option Addr} {sl_learn : Array (Option Value)}
    {f_learn_reach : Addr} {oc_learn_reach kV_learn_reach dc_learn_reach pm_learn_reach cd_learn_reach ct_learn_reach : Value} {od_learn_reach an_learn_reach : Option Addr} {sl_learn_reach : Array (Option Value)}
    {f_learn_pieces : Addr} {oc_learn_pieces kV_learn_pieces dc_learn_pieces pm_learn_pieces cd_learn_pieces ct_learn_pieces : Value} {od_learn_pieces an_learn_pieces : Option Addr} {sl_learn_pieces : Array (Option Value)}
    {f_learn_constants : Addr} {oc_learn_constants kV_learn_constants dc_learn_constants pm_learn_constants cd_learn_constants ct_learn_constants : Value} {od_learn_constants an_learn_constants : Option Addr} {sl_learn_constants : Array (Option Value)}
    {f_add_points : Addr} {oc_add_points kV_add_points dc_add_points pm_add_points cd_add_points ct_add_points : Value} {od_add_points an_add_points : Option Addr} {sl_add_points : Array (Option Value)}
    {f_is_straight : Addr} {oc_is_straight kV_is_straight dc_is_straight pm_is_straight cd_is_straight ct_is_straight : Value} {od_is_straight an_is_straight : Option Addr} {sl_is_straight : Array (Option Value)}
    {f_law_pool : Addr} {oc_law_pool kV_law_pool dc_law_pool pm_law_pool cd_law_pool ct_law_pool : Value} {od_law_pool an_law_pool : Option Addr} {sl_law_pool : Array (Option Value)}
    {f_law_draw : Addr} {oc_law_draw kV_law_draw dc_law_draw pm_law_draw cd_law_draw ct_law_draw : Value} {od_law_draw an_law_draw : Option Addr} {sl_law_draw : Array (Option Value)}
    {f_law_after : Addr} {oc_law_after kV_law_after dc_law_after pm_law_after cd_law_after ct_law_after : Value} {od_law_after an_law_after : Option Addr} {sl_law_after : Array (Option Value)}
    {f_law_ran : Addr} {oc_law_ran kV_law_ran dc_law_ran pm_law_ran cd_law_ran ct_law_ran : Value} {od_law_ran an_law_ran : Option Addr} {sl_law_ran : Array (Option Value)}
    {f_law_box : Addr} {oc_law_box kV_law_box dc_law_box pm_law_box cd_law_box ct_law_box : Value} {od_law_box an_law_box : Option Addr} {sl_law_box : Array (Option Value)}
    {f_law_reach : Addr} {oc_law_reach kV_law_reach dc_law_reach pm_law_reach cd_law_reach ct_law_reach : Value} {od_law_reach an_law_reach : Option Addr} {sl_law_reach : Array (Option Value)}
    {f_law_piece : Addr} {oc_law_piece kV_law_piece dc_law_piece pm_law_piece cd_law_piece ct_law_piece : Value} {od_law_piece an_law_piece : Option Addr} {sl_law_piece : Array (Option Value)}
    {f_law_form : Addr} {oc_law_form kV_law_form dc_law_form pm_law_form cd_law_form ct_law_form : Value} {od_law_form an_law_form : Option Addr} {sl_law_form : Array (Option Value)}
    {f_law_hidden : Addr} {oc_law_hidden kV_law_hidden dc_law_hidden pm_law_hidden cd_law_hidden ct_law_hidden : Value} {od_law_hidden an_law_hidden : Option Addr} {sl_law_hidden : Array (Option Value)}
    {f_law_answers_right : Addr} {oc_law_answers_right kV_law_answers_right dc_law_answers_right pm_law_answers_right cd_law_answers_right ct_law_answers_right : Value} {od_law_answers_right an_law_answers_right : Option Addr} {sl_law_answers_right : Array (Option Value)}
    {f_law_right : Addr} {oc_law_right kV_law_right dc_law_right pm_law_right cd_law_right ct_law_right : Value} {od_law_right an_law_right : Option Addr} {sl_law_right : Array (Option Value)}
    {f_law : Addr} {oc_law kV_law dc_law pm_law cd_law ct_law : Value} {od_law an_law : Option Addr} {sl_law : Array (Option Value)}
    {CE : Addr}
    {C0 : Addr}
    {f0 N0 : Addr} {nm0 q0 : Str} {bs0 : List Value} {sn0 : List Str} {sub0 : List Value} {ab0 : Bool} {col0 : Option Bool} {dd0 : Option Addr} {p0_0 p0_1 p0_2 p0_3 p0_5 : Option Value}
    {oc0 kV0 dc0 pm0 cd0 ct0 : Value} {od0 an0 : Option Addr} {sl0 : Array (Option Value)}
    {C1 : Addr}
    {f1 N1 : Addr} {nm1 q1 : Str} {bs1 : List Value} {sn1 : List Str} {sub1 : List Value} {ab1 : Bool} {col1 : Option Bool} {dd1 : Option Addr} {p1_0 p1_1 p1_2 p1_3 p1_5 : Option Value}
    {oc1 kV1 dc1 pm1 cd1 ct1 : Value} {od1 an1 : Option Addr} {sl1 : Array (Option Value)}
    {C2 : Addr}
    {f2 N2 : Addr} {nm2 q2 : Str} {bs2 : List Value} {sn2 : List Str} {sub2 : List Value} {ab2 : Bool} {col2 : Option Bool} {dd2 : Option Addr} {p2_0 p2_1 p2_2 p2_3 p2_5 : Option Value}
    {oc2 kV2 dc2 pm2 cd2 ct2 : Value} {od2 an2 : Option Addr} {sl2 : Array (Option Value)}
    {C3 : Addr}
    {f3 N3 : Addr} {nm3 q3 : Str} {bs3 : List Value} {sn3 : List Str} {sub3 : List Value} {ab3 : Bool} {col3 : Option Bool} {dd3 : Option Addr} {p3_0 p3_1 p3_2 p3_3 p3_5 : Option Value}
    {oc3 kV3 dc3 pm3 cd3 ct3 : Value} {od3 an3 : Option Addr} {sl3 : Array (Option Value)}
    {CB : Addr}
    {f_B_init : Addr} {oc_B_init kV_B_init dc_B_init pm_B_init cd_B_init ct_B_init : Value} {od_B_init an_B_init : Option Addr} {sl_B_init : Array (Option Value)}
    {f_B_answer : Addr} {oc_B_answer kV_B_answer dc_B_answer pm_B_answer cd_B_answer ct_B_answer : Value} {od_B_answer an_B_answer : Option Addr} {sl_B_answer : Array (Option Value)}
    {f_B_questions : Addr} {oc_B_questions kV_B_questions dc_B_questions pm_B_questions cd_B_questions ct_B_questions : Value} {od_B_questions an_B_questions : Option Addr} {sl_B_questions : Array (Option Value)}
    {p_B_questions : Addr} {r_B_questions : List Value}
    {CP : Addr}
    {f_P_init : Addr} {oc_P_init kV_P_init dc_P_init pm_P_init cd_P_init ct_P_init : Value} {od_P_init an_P_init : Option Addr} {sl_P_init : Array (Option Value)}
    {f_P_point : Addr} {oc_P_point kV_P_point dc_P_point pm_P_point cd_P_point ct_P_point : Value} {od_P_point an_P_point : Option Addr} {sl_P_point : Array (Option Value)}
    (aWN : PySem.W.nsIn K mainGlobals "WITH_NUMBER" = some (some (.ref wn)))
    (aWO : PySem.W.nsIn K mainGlobals "WITHOUT_NUMBER" = some (some (.ref wo)))
    (lWN : K.lookup wn = some ⟨.type "tuple", odN, .seq #[.str "down" tn0, .str "up" tn1, .str "right" tn2, .str "left" tn3] nN, slN⟩)
    (lWO : K.lookup wo = some ⟨.type "tuple", odO, .seq #[.str "home" to0, .str "end" to1] nO, slO⟩)
    (a_is_count : PySem.W.nsIn K mainGlobals "is_count" = some (some (.ref f_is_count)))
    (l_is_count : K.lookup f_is_count = some ⟨oc_is_count, od_is_count, .func (PySem.W.fnOf "is_count" "is_count" (defArgs s_is_count) (defBody s_is_count) (defScope s_is_count) .none kV_is_count dc_is_count pm_is_count an_is_count cd_is_count ct_is_count), sl_is_count⟩)
    (c_is_count : PySem.W.codeIn K cd_is_count "is_count" = true)
    (k_is_count : PySem.W.keepIn K (.ref f_is_count) = true)
    (a_is_command : PySem.W.nsIn K mainGlobals "is_command" = some (some (.ref f_is_command)))
    (l_is_command : K.lookup f_is_command = some ⟨oc_is_command, od_is_command, .func (PySem.W.fnOf "is_command" "is_command" (defArgs s_is_command) (defBody s_is_command) (defScope s_is_command) .none kV_is_command dc_is_command pm_is_command an_is_command cd_is_command ct_is_command), sl_is_command⟩)
    (c_is_command : PySem.W.codeIn K cd_is_command "is_command" = true)
    (k_is_command : PySem.W.keepIn K (.ref f_is_command) = true)
    (a_check_commands : PySem.W.nsIn K mainGlobals "check_commands" = some (some (.ref f_check_commands)))
    (l_check_commands : K.lookup f_check_commands = some ⟨oc_check_commands, od_check_commands, .func (PySem.W.fnOf "check_commands" "check_commands" (defArgs s_check_commands) (defBody s_check_commands) (defScope s_check_commands) .none kV_check_commands dc_check_commands pm_check_commands an_check_commands cd_check_commands ct_check_commands), sl_check_commands⟩)
    (c_check_commands : PySem.W.codeIn K cd_check_commands "check_commands" = true)
    (k_check_commands : PySem.W.keepIn K (.ref f_check_commands) = true)
    (a_row_change : PySem.W.nsIn K mainGlobals "row_change" = some (some (.ref f_row_change)))
    (l_row_change : K.lookup f_row_change = some ⟨oc_row_change, od_row_change, .func (PySem.W.fnOf "row_change" "row_change" (defArgs s_row_change) (defBody s_row_change) (defScope s_row_change) .none kV_row_change dc_row_change pm_row_change an_row_change cd_row_change ct_row_change), sl_row_change⟩)
    (c_row_change : PySem.W.codeIn K cd_row_change "row_change" = true)
    (k_row_change : PySem.W.keepIn K (.ref f_row_change) = true)
    (a_check_text : PySem.W.nsIn K mainGlobals "check_text" = some (some (.ref f_check_text)))
    (l_check_text : K.lookup f_check_text = some ⟨oc_check_text, od_check_text, .func (PySem.W.fnOf "check_text" "check_text" (defArgs s_check_text) (defBody s_check_text) (defScope s_check_text) .none kV_check_text dc_check_text pm_check_text an_check_text cd_check_text ct_check_text), sl_check_text⟩)
    (c_check_text : PySem.W.codeIn K cd_check_text "check_text" = true)
    (k_check_text : PySem.W.keepIn K (.ref f_check_text) = true)
    (a_check_cursor : PySem.W.nsIn K mainGlobals "check_cursor" = some (some (.ref f_check_cursor)))
    (l_check_cursor : K.lookup f_check_cursor = some ⟨oc_check_cursor, od_check_cursor, .func (PySem.W.fnOf "check_cursor" "check_cursor" (defArgs s_check_cursor) (defBody s_check_cursor) (defScope s_check_cursor) .none kV_check_cursor dc_check_cursor pm_check_cursor an_check_cursor cd_check_cursor ct_check_cursor), sl_check_cursor⟩)
    (c_check_cursor : PySem.W.codeIn K cd_check_cursor "check_cursor" = true)
    (k_check_cursor : PySem.W.keepIn K (.ref f_check_cursor) = true)
    (a_run : PySem.W.nsIn K mainGlobals "run" = some (some (.ref f_run)))
    (l_run : K.lookup f_run = some ⟨oc_run, od_run, .func (PySem.W.fnOf "run" "run" (defArgs s_run) (defBody s_run) (defScope s_run) .none kV_run dc_run pm_run an_run cd_run ct_run), sl_run⟩)
    (c_run : PySem.W.codeIn K cd_run "run" = true)
    (k_run : PySem.W.keepIn K (.ref f_run) = true)
    (a_shown_column : PySem.W.nsIn K mainGlobals "shown_column" = some (some (.ref f_shown_column)))
    (l_shown_column : K.lookup f_shown_column = some ⟨oc_shown_column, od_shown_column, .func (PySem.W.fnOf "shown_column" "shown_column" (defArgs s_shown_column) (defBody s_shown_column) (defScope s_shown_column) .none kV_shown_column dc_shown_column pm_shown_column an_shown_column cd_shown_column ct_shown_column), sl_shown_column⟩)
    (c_shown_column : PySem.W.codeIn K cd_shown_column "shown_column" = true)
    (k_shown_column : PySem.W.keepIn K (.ref f_shown_column) = true)
    (a_moved : PySem.W.nsIn K mainGlobals "moved" = some (some (.ref f_moved)))
    (l_moved : K.lookup f_moved = some ⟨oc_moved, od_moved, .func (PySem.W.fnOf "moved" "moved" (defArgs s_moved) (defBody s_moved) (defScope s_moved) .none kV_moved dc_moved pm_moved an_moved cd_moved ct_moved), sl_moved⟩)
    (c_moved : PySem.W.codeIn K cd_moved "moved" = true)
    (k_moved : PySem.W.keepIn K (.ref f_moved) = true)
    (a_new_goal : PySem.W.nsIn K mainGlobals "new_goal" = some (some (.ref f_new_goal)))
    (l_new_goal : K.lookup f_new_goal = some ⟨oc_new_goal, od_new_goal, .func (PySem.W.fnOf "new_goal" "new_goal" (defArgs s_new_goal) (defBody s_new_goal) (defScope s_new_goal) .none kV_new_goal dc_new_goal pm_new_goal an_new_goal cd_new_goal ct_new_goal), sl_new_goal⟩)
    (c_new_goal : PySem.W.codeIn K cd_new_goal "new_goal" = true)
    (k_new_goal : PySem.W.keepIn K (.ref f_new_goal) = true)
    (a_learn : PySem.W.nsIn K mainGlobals "learn" = some (some (.ref f_learn)))
    (l_learn : K.lookup f_learn = some ⟨oc_learn, od_learn, .func (PySem.W.fnOf "learn" "learn" (defArgs s_learn) (defBody s_learn) (defScope s_learn) .none kV_learn dc_learn pm_learn an_learn cd_learn ct_learn), sl_learn⟩)
    (c_learn : PySem.W.codeIn K cd_learn "learn" = true)
    (k_learn : PySem.W.keepIn K (.ref f_learn) = true)
    (a_learn_reach : PySem.W.nsIn K mainGlobals "learn_reach" = some (some (.ref f_learn_reach)))
    (l_learn_reach : K.lookup f_learn_reach = some ⟨oc_learn_reach, od_learn_reach, .func (PySem.W.fnOf "learn_reach" "learn_reach" (defArgs s_lreach18) (defBody s_lreach18) (defScope s_lreach18) .none kV_learn_reach dc_learn_reach pm_learn_reach an_learn_reach cd_learn_reach ct_learn_reach), sl_learn_reach⟩)
    (c_learn_reach : PySem.W.codeIn K cd_learn_reach "learn_reach" = true)
    (k_learn_reach : PySem.W.keepIn K (.ref f_learn_reach) = true)
    (a_learn_pieces : PySem.W.nsIn K mainGlobals "learn_pieces" = some (some (.ref f_learn_pieces)))
    (l_learn_pieces : K.lookup f_learn_pieces = some ⟨oc_learn_pieces, od_learn_pieces, .func (PySem.W.fnOf "learn_pieces" "learn_pieces" (defArgs s_pieces18) (defBody s_pieces18) (defScope s_pieces18) .none kV_learn_pieces dc_learn_pieces pm_learn_pieces an_learn_pieces cd_learn_pieces ct_learn_pieces), sl_learn_pieces⟩)
    (c_learn_pieces : PySem.W.codeIn K cd_learn_pieces "learn_pieces" = true)
    (k_learn_pieces : PySem.W.keepIn K (.ref f_learn_pieces) = true)
    (a_learn_constants : PySem.W.nsIn K mainGlobals "learn_constants" = some (some (.ref f_learn_constants)))
    (l_learn_constants : K.lookup f_learn_constants = some ⟨oc_learn_constants, od_learn_constants, .func (PySem.W.fnOf "learn_constants" "learn_constants" (defArgs s_consts) (defBody s_consts) (defScope s_consts) .none kV_learn_constants dc_learn_constants pm_learn_constants an_learn_constants cd_learn_constants ct_learn_constants), sl_learn_constants⟩)
    (c_learn_constants : PySem.W.codeIn K cd_learn_constants "learn_constants" = true)
    (k_learn_constants : PySem.W.keepIn K (.ref f_learn_constants) = true)
    (a_add_points : PySem.W.nsIn K mainGlobals "add_points" = some (some (.ref f_add_points)))
    (l_add_points : K.lookup f_add_points = some ⟨oc_add_points, od_add_points, .func (PySem.W.fnOf "add_points" "add_points" (defArgs s_addp) (defBody s_addp) (defScope s_addp) .none kV_add_points dc_add_points pm_add_points an_add_points cd_add_points ct_add_points), sl_add_points⟩)
    (c_add_points : PySem.W.codeIn K cd_add_points "add_points" = true)
    (k_add_points : PySem.W.keepIn K (.ref f_add_points) = true)
    (a_is_straight : PySem.W.nsIn K mainGlobals "is_straight" = some (some (.ref f_is_straight)))
    (l_is_straight : K.lookup f_is_straight = some ⟨oc_is_straight, od_is_straight, .func (PySem.W.fnOf "is_straight" "is_straight" (defArgs s_straight) (defBody s_straight) (defScope s_straight) .none kV_is_straight dc_is_straight pm_is_straight an_is_straight cd_is_straight ct_is_straight), sl_is_straight⟩)
    (c_is_straight : PySem.W.codeIn K cd_is_straight "is_straight" = true)
    (k_is_straight : PySem.W.keepIn K (.ref f_is_straight) = true)
    (a_law_pool : PySem.W.nsIn K mainGlobals "_law_pool" = some (some (.ref f_law_pool)))
    (l_law_pool : K.lookup f_law_pool = some ⟨oc_law_pool, od_law_pool, .func (PySem.W.fnOf "_law_pool" "_law_pool" (defArgs s_pool) (defBody s_pool) (defScope s_pool) .none kV_law_pool dc_law_pool pm_law_pool an_law_pool cd_law_pool ct_law_pool), sl_law_pool⟩)
    (c_law_pool : PySem.W.codeIn K cd_law_pool "_law_pool" = true)
    (k_law_pool : PySem.W.keepIn K (.ref f_law_pool) = true)
    (a_law_draw : PySem.W.nsIn K mainGlobals "_law_draw" = some (some (.ref f_law_draw)))
    (l_law_draw : K.lookup f_law_draw = some ⟨oc_law_draw, od_law_draw, .func (PySem.W.fnOf "_law_draw" "_law_draw" (defArgs s_draw) (defBody s_draw) (defScope s_draw) .none kV_law_draw dc_law_draw pm_law_draw an_law_draw cd_law_draw ct_law_draw), sl_law_draw⟩)
    (c_law_draw : PySem.W.codeIn K cd_law_draw "_law_draw" = true)
    (k_law_draw : PySem.W.keepIn K (.ref f_law_draw) = true)
    (a_law_after : PySem.W.nsIn K mainGlobals "_law_after" = some (some (.ref f_law_after)))
    (l_law_after : K.lookup f_law_after = some ⟨oc_law_after, od_law_after, .func (PySem.W.fnOf "_law_after" "_law_after" (defArgs s_after1) (defBody s_after1) (defScope s_after1) .none kV_law_after dc_law_after pm_law_after an_law_after cd_law_after ct_law_after), sl_law_after⟩)
    (c_law_after : PySem.W.codeIn K cd_law_after "_law_after" = true)
    (k_law_after : PySem.W.keepIn K (.ref f_law_after) = true)
    (a_law_ran : PySem.W.nsIn K mainGlobals "_law_ran" = some (some (.ref f_law_ran)))
    (l_law_ran : K.lookup f_law_ran = some ⟨oc_law_ran, od_law_ran, .func (PySem.W.fnOf "_law_ran" "_law_ran" (defArgs s_ran) (defBody s_ran) (defScope s_ran) .none kV_law_ran dc_law_ran pm_law_ran an_law_ran cd_law_ran ct_law_ran), sl_law_ran⟩)
    (c_law_ran : PySem.W.codeIn K cd_law_ran "_law_ran" = true)
    (k_law_ran : PySem.W.keepIn K (.ref f_law_ran) = true)
    (a_law_box : PySem.W.nsIn K mainGlobals "_law_box" = some (some (.ref f_law_box)))
    (l_law_box : K.lookup f_law_box = some ⟨oc_law_box, od_law_box, .func (PySem.W.fnOf "_law_box" "_law_box" (defArgs s_lbox) (defBody s_lbox) (defScope s_lbox) .none kV_law_box dc_law_box pm_law_box an_law_box cd_law_box ct_law_box), sl_law_box⟩)
    (c_law_box : PySem.W.codeIn K cd_law_box "_law_box" = true)
    (k_law_box : PySem.W.keepIn K (.ref f_law_box) = true)
    (a_law_reach : PySem.W.nsIn K mainGlobals "_law_reach" = some (some (.ref f_law_reach)))
    (l_law_reach : K.lookup f_law_reach = some ⟨oc_law_reach, od_law_reach, .func (PySem.W.fnOf "_law_reach" "_law_reach" (defArgs s_lrch) (defBody s_lrch) (defScope s_lrch) .none kV_law_reach dc_law_reach pm_law_reach an_law_reach cd_law_reach ct_law_reach), sl_law_reach⟩)
    (c_law_reach : PySem.W.codeIn K cd_law_reach "_law_reach" = true)
    (k_law_reach : PySem.W.keepIn K (.ref f_law_reach) = true)
    (a_law_piece : PySem.W.nsIn K mainGlobals "_law_piece" = some (some (.ref f_law_piece)))
    (l_law_piece : K.lookup f_law_piece = some ⟨oc_law_piece, od_law_piece, .func (PySem.W.fnOf "_law_piece" "_law_piece" (defArgs s_lpiece) (defBody s_lpiece) (defScope s_lpiece) .none kV_law_piece dc_law_piece pm_law_piece an_law_piece cd_law_piece ct_law_piece), sl_law_piece⟩)
    (c_law_piece : PySem.W.codeIn K cd_law_piece "_law_piece" = true)
    (k_law_piece : PySem.W.keepIn K (.ref f_law_piece) = true)
    (a_law_form : PySem.W.nsIn K mainGlobals "_law_form" = some (some (.ref f_law_form)))
    (l_law_form : K.lookup f_law_form = some ⟨oc_law_form, od_law_form, .func (PySem.W.fnOf "_law_form" "_law_form" (defArgs s_lform) (defBody s_lform) (defScope s_lform) .none kV_law_form dc_law_form pm_law_form an_law_form cd_law_form ct_law_form), sl_law_form⟩)
    (c_law_form : PySem.W.codeIn K cd_law_form "_law_form" = true)
    (k_law_form : PySem.W.keepIn K (.ref f_law_form) = true)
    (a_law_hidden : PySem.W.nsIn K mainGlobals "_law_hidden" = some (some (.ref f_law_hidden)))
    (l_law_hidden : K.lookup f_law_hidden = some ⟨oc_law_hidden, od_law_hidden, .func (PySem.W.fnOf "_law_hidden" "_law_hidden" (defArgs s_hidden) (defBody s_hidden) (defScope s_hidden) .none kV_law_hidden dc_law_hidden pm_law_hidden an_law_hidden cd_law_hidden ct_law_hidden), sl_law_hidden⟩)
    (c_law_hidden : PySem.W.codeIn K cd_law_hidden "_law_hidden" = true)
    (k_law_hidden : PySem.W.keepIn K (.ref f_law_hidden) = true)
    (a_law_answers_right : PySem.W.nsIn K mainGlobals "_law_answers_right" = some (some (.ref f_law_answers_right)))
    (l_law_answers_right : K.lookup f_law_answers_right = some ⟨oc_law_answers_right, od_law_answers_right, .func (PySem.W.fnOf "_law_answers_right" "_law_answers_right" (defArgs s_asks) (defBody s_asks) (defScope s_asks) .none kV_law_answers_right dc_law_answers_right pm_law_answers_right an_law_answers_right cd_law_answers_right ct_law_answers_right), sl_law_answers_right⟩)
    (c_law_answers_right : PySem.W.codeIn K cd_law_answers_right "_law_answers_right" = true)
    (k_law_answers_right : PySem.W.keepIn K (.ref f_law_answers_right) = true)
    (a_law_right : PySem.W.nsIn K mainGlobals "_law_right" = some (some (.ref f_law_right)))
    (l_law_right : K.lookup f_law_right = some ⟨oc_law_right, od_law_right, .func (PySem.W.fnOf "_law_right" "_law_right" (defArgs s_right) (defBody s_right) (defScope s_right) .none kV_law_right dc_law_right pm_law_right an_law_right cd_law_right ct_law_right), sl_law_right⟩)
    (c_law_right : PySem.W.codeIn K cd_law_right "_law_right" = true)
    (k_law_right : PySem.W.keepIn K (.ref f_law_right) = true)
    (a_law : PySem.W.nsIn K mainGlobals "law" = some (some (.ref f_law)))
    (l_law : K.lookup f_law = some ⟨oc_law, od_law, .func (PySem.W.fnOf "law" "law" (defArgs s_law) (defBody s_law) (defScope s_law) .none kV_law dc_law pm_law an_law cd_law ct_law), sl_law⟩)
    (c_law : PySem.W.codeIn K cd_law "law" = true)
    (k_law : PySem.W.keepIn K (.ref f_law) = true)
    (z_isinstance : PySem.W.nsIn K mainGlobals "isinstance" = some none)
    (z_int : PySem.W.nsIn K mainGlobals "int" = some none)
    (z_bool : PySem.W.nsIn K mainGlobals "bool" = some none)
    (z_len : PySem.W.nsIn K mainGlobals "len" = some none)
    (z_enumerate : PySem.W.nsIn K mainGlobals "enumerate" = some none)
    (z_reversed : PySem.W.nsIn K mainGlobals "reversed" = some none)
    (z_sorted : PySem.W.nsIn K mainGlobals "sorted" = some none)
    (z_max : PySem.W.nsIn K mainGlobals "max" = some none)
    (z_min : PySem.W.nsIn K mainGlobals "min" = some none)
    (z_abs : PySem.W.nsIn K mainGlobals "abs" = some none)
    (z_range : PySem.W.nsIn K mainGlobals "range" = some none)
    (z_list : PySem.W.nsIn K mainGlobals "list" = some none)
    (z_repr : PySem.W.nsIn K mainGlobals "repr" = some none)
    (z_sum : PySem.W.nsIn K mainGlobals "sum" = some none)
    (z_set : PySem.W.nsIn K mainGlobals "set" = some none)
    (z_zip : PySem.W.nsIn K mainGlobals "zip" = some none)
    (aE : PySem.W.nsIn K mainGlobals "CursorError" = some (some (.ref CE)))
    (yE : PySem.W.typeIn K (.ref CE) = some (.type "type"))
    (bE : PySem.W.subIn K (.ref CE) (.type "BaseException") = some true)
    (hE : PySem.W.hasDictIn K CE = true)
    (icE : PySem.W.isClsIn K CE = true)
    (gt : PySem.W.specialIn K (.builtin "object.__class__") "__get__" = some (some (.builtin "getset_descriptor.__get__")))
    (tk : PySem.W.takesIn K (.builtin "object.__class__") = some true)
    (a0 : PySem.W.nsIn K mainGlobals "InvalidText" = some (some (.ref C0)))
    (ty0 : PySem.W.typeIn K (.ref C0) = some (.type "type"))
    (ic0 : PySem.W.isClsIn K C0 = true)
    (x0 : K.lookup C0 = some (excClassObj nm0 q0 C0 N0 bs0 [.ref CE, .type "ValueError", .type "Exception", .type "BaseException", .type "object"] true sn0 sub0 ab0 col0 dd0 p0_0 p0_1 p0_2 p0_3 p0_5 "ValueError.__new__"))
    (sa0 : PySem.W.findIn K (.ref C0) "__setattr__" = some (some (.builtin "object.__setattr__")))
    (ga0 : PySem.W.findIn K (.ref C0) "__getattribute__" = some (some (.builtin "BaseException.__getattribute__")))
    (gg0 : PySem.W.findIn K (.ref C0) "__getattr__" = some none)
    (no0 : PySem.W.findIn K (.ref C0) "value" = some none)
    (cc0 : PySem.W.findIn K (.ref C0) "__class__" = some (some (.builtin "object.__class__")))
    (in0 : PySem.W.findIn K (.ref C0) "__init__" = some (some (.ref f0)))
    (ti0 : PySem.W.typeIn K (.ref f0) = some (.type "function"))
    (l0 : K.lookup f0 = some ⟨oc0, od0, .func (PySem.W.fnOf "__init__" "InvalidText.__init__" (defArgs sI0) (defBody sI0) (defScope sI0) .none kV0 dc0 pm0 an0 cd0 ct0), sl0⟩)
    (c0 : PySem.W.codeIn K cd0 "InvalidText.__init__" = true)
    (k0 : PySem.W.keepIn K (.ref f0) = true)
    (kc0 : PySem.W.keepIn K (.ref C0) = true)
    (be0 : PySem.W.subIn K (.ref C0) (.type "BaseException") = some true)
    (ve0 : PySem.W.subIn K (.ref C0) (.type "ValueError") = some true)
    (hd0 : PySem.W.hasDictIn K C0 = true)
    (mo0 : PySem.W.mroIn K C0 (.type "object") = some true)
    (se0 : PySem.W.subIn K (.ref C0) (.ref CE) = some true)
    (a1 : PySem.W.nsIn K mainGlobals "InvalidCursor" = some (some (.ref C1)))
    (ty1 : PySem.W.typeIn K (.ref C1) = some (.type "type"))
    (ic1 : PySem.W.isClsIn K C1 = true)
    (x1 : K.lookup C1 = some (excClassObj nm1 q1 C1 N1 bs1 [.ref CE, .type "ValueError", .type "Exception", .type "BaseException", .type "object"] true sn1 sub1 ab1 col1 dd1 p1_0 p1_1 p1_2 p1_3 p1_5 "ValueError.__new__"))
    (sa1 : PySem.W.findIn K (.ref C1) "__setattr__" = some (some (.builtin "object.__setattr__")))
    (ga1 : PySem.W.findIn K (.ref C1) "__getattribute__" = some (some (.builtin "BaseException.__getattribute__")))
    (gg1 : PySem.W.findIn K (.ref C1) "__getattr__" = some none)
    (no1 : PySem.W.findIn K (.ref C1) "value" = some none)
    (cc1 : PySem.W.findIn K (.ref C1) "__class__" = some (some (.builtin "object.__class__")))
    (in1 : PySem.W.findIn K (.ref C1) "__init__" = some (some (.ref f1)))
    (ti1 : PySem.W.typeIn K (.ref f1) = some (.type "function"))
    (l1 : K.lookup f1 = some ⟨oc1, od1, .func (PySem.W.fnOf "__init__" "InvalidCursor.__init__" (defArgs sI1) (defBody sI1) (defScope sI1) .none kV1 dc1 pm1 an1 cd1 ct1), sl1⟩)
    (c1 : PySem.W.codeIn K cd1 "InvalidCursor.__init__" = true)
    (k1 : PySem.W.keepIn K (.ref f1) = true)
    (kc1 : PySem.W.keepIn K (.ref C1) = true)
    (be1 : PySem.W.subIn K (.ref C1) (.type "BaseException") = some true)
    (ve1 : PySem.W.subIn K (.ref C1) (.type "ValueError") = some true)
    (hd1 : PySem.W.hasDictIn K C1 = true)
    (mo1 : PySem.W.mroIn K C1 (.type "object") = some true)
    (se1 : PySem.W.subIn K (.ref C1) (.ref CE) = some true)
    (a2 : PySem.W.nsIn K mainGlobals "InvalidCommand" = some (some (.ref C2)))
    (ty2 : PySem.W.typeIn K (.ref C2) = some (.type "type"))
    (ic2 : PySem.W.isClsIn K C2 = true)
    (x2 : K.lookup C2 = some (excClassObj nm2 q2 C2 N2 bs2 [.ref CE, .type "ValueError", .type "Exception", .type "BaseException", .type "object"] true sn2 sub2 ab2 col2 dd2 p2_0 p2_1 p2_2 p2_3 p2_5 "ValueError.__new__"))
    (sa2 : PySem.W.findIn K (.ref C2) "__setattr__" = some (some (.builtin "object.__setattr__")))
    (ga2 : PySem.W.findIn K (.ref C2) "__getattribute__" = some (some (.builtin "BaseException.__getattribute__")))
    (gg2 : PySem.W.findIn K (.ref C2) "__getattr__" = some none)
    (no2 : PySem.W.findIn K (.ref C2) "value" = some none)
    (cc2 : PySem.W.findIn K (.ref C2) "__class__" = some (some (.builtin "object.__class__")))
    (in2 : PySem.W.findIn K (.ref C2) "__init__" = some (some (.ref f2)))
    (ti2 : PySem.W.typeIn K (.ref f2) = some (.type "function"))
    (l2 : K.lookup f2 = some ⟨oc2, od2, .func (PySem.W.fnOf "__init__" "InvalidCommand.__init__" (defArgs sI2) (defBody sI2) (defScope sI2) .none kV2 dc2 pm2 an2 cd2 ct2), sl2⟩)
    (c2 : PySem.W.codeIn K cd2 "InvalidCommand.__init__" = true)
    (k2 : PySem.W.keepIn K (.ref f2) = true)
    (kc2 : PySem.W.keepIn K (.ref C2) = true)
    (be2 : PySem.W.subIn K (.ref C2) (.type "BaseException") = some true)
    (ve2 : PySem.W.subIn K (.ref C2) (.type "ValueError") = some true)
    (hd2 : PySem.W.hasDictIn K C2 = true)
    (mo2 : PySem.W.mroIn K C2 (.type "object") = some true)
    (se2 : PySem.W.subIn K (.ref C2) (.ref CE) = some true)
    (a3 : PySem.W.nsIn K mainGlobals "Impossible" = some (some (.ref C3)))
    (ty3 : PySem.W.typeIn K (.ref C3) = some (.type "type"))
    (ic3 : PySem.W.isClsIn K C3 = true)
    (x3 : K.lookup C3 = some (excClassObj nm3 q3 C3 N3 bs3 [.ref CE, .type "ValueError", .type "Exception", .type "BaseException", .type "object"] true sn3 sub3 ab3 col3 dd3 p3_0 p3_1 p3_2 p3_3 p3_5 "ValueError.__new__"))
    (sa3 : PySem.W.findIn K (.ref C3) "__setattr__" = some (some (.builtin "object.__setattr__")))
    (ga3 : PySem.W.findIn K (.ref C3) "__getattribute__" = some (some (.builtin "BaseException.__getattribute__")))
    (gg3 : PySem.W.findIn K (.ref C3) "__getattr__" = some none)
    (no3 : PySem.W.findIn K (.ref C3) "value" = some none)
    (cc3 : PySem.W.findIn K (.ref C3) "__class__" = some (some (.builtin "object.__class__")))
    (in3 : PySem.W.findIn K (.ref C3) "__init__" = some (some (.ref f3)))
    (ti3 : PySem.W.typeIn K (.ref f3) = some (.type "function"))
    (l3 : K.lookup f3 = some ⟨oc3, od3, .func (PySem.W.fnOf "__init__" "Impossible.__init__" (defArgs sI3) (defBody sI3) (defScope sI3) .none kV3 dc3 pm3 an3 cd3 ct3), sl3⟩)
    (c3 : PySem.W.codeIn K cd3 "Impossible.__init__" = true)
    (k3 : PySem.W.keepIn K (.ref f3) = true)
    (kc3 : PySem.W.keepIn K (.ref C3) = true)
    (be3 : PySem.W.subIn K (.ref C3) (.type "BaseException") = some true)
    (ve3 : PySem.W.subIn K (.ref C3) (.type "ValueError") = some true)
    (hd3 : PySem.W.hasDictIn K C3 = true)
    (mo3 : PySem.W.mroIn K C3 (.type "object") = some true)
    (se3 : PySem.W.subIn K (.ref C3) (.ref CE) = some true)
    (s0_0 : PySem.W.subIn K (.ref C0) (.ref C0) = some true)
    (s0_1 : PySem.W.subIn K (.ref C0) (.ref C1) = some false)
    (s0_2 : PySem.W.subIn K (.ref C0) (.ref C2) = some false)
    (s0_3 : PySem.W.subIn K (.ref C0) (.ref C3) = some false)
    (s1_0 : PySem.W.subIn K (.ref C1) (.ref C0) = some false)
    (s1_1 : PySem.W.subIn K (.ref C1) (.ref C1) = some true)
    (s1_2 : PySem.W.subIn K (.ref C1) (.ref C2) = some false)
    (s1_3 : PySem.W.subIn K (.ref C1) (.ref C3) = some false)
    (s2_0 : PySem.W.subIn K (.ref C2) (.ref C0) = some false)
    (s2_1 : PySem.W.subIn K (.ref C2) (.ref C1) = some false)
    (s2_2 : PySem.W.subIn K (.ref C2) (.ref C2) = some true)
    (s2_3 : PySem.W.subIn K (.ref C2) (.ref C3) = some false)
    (s3_0 : PySem.W.subIn K (.ref C3) (.ref C0) = some false)
    (s3_1 : PySem.W.subIn K (.ref C3) (.ref C1) = some false)
    (s3_2 : PySem.W.subIn K (.ref C3) (.ref C2) = some false)
    (s3_3 : PySem.W.subIn K (.ref C3) (.ref C3) = some true)
    (aB : PySem.W.nsIn K mainGlobals "Box" = some (some (.ref CB)))
    (pgB : PySem.W.plainGet K CB Str.empty = true)
    (hdB : PySem.W.hasDictIn K CB = true)
    (poB : PySem.W.plainOver K CB = true)
    (saB : PySem.W.findIn K (.ref CB) "__setattr__" = some (some (.builtin "object.__setattr__")))
    (mkB : PySem.W.makesIn K CB = true)
    (kcB : PySem.W.keepIn K (.ref CB) = true)
    (nB_commands : PySem.W.findIn K (.ref CB) "_commands" = some none)
    (nB_questions : PySem.W.findIn K (.ref CB) "_questions" = some none)
    (i_B_init : PySem.W.findIn K (.ref CB) "__init__" = some (some (.ref f_B_init)))
    (g_B_init : PySem.W.isFn K (.ref f_B_init) = true)
    (l_B_init : K.lookup f_B_init = some ⟨oc_B_init, od_B_init, .func (PySem.W.fnOf "__init__" "Box.__init__" (defArgs s_box_init) (defBody s_box_init) (defScope s_box_init) .none kV_B_init dc_B_init pm_B_init an_B_init cd_B_init ct_B_init), sl_B_init⟩)
    (c_B_init : PySem.W.codeIn K cd_B_init "Box.__init__" = true)
    (k_B_init : PySem.W.keepIn K (.ref f_B_init) = true)
    (i_B_answer : PySem.W.findIn K (.ref CB) "answer" = some (some (.ref f_B_answer)))
    (g_B_answer : PySem.W.isFn K (.ref f_B_answer) = true)
    (l_B_answer : K.lookup f_B_answer = some ⟨oc_B_answer, od_B_answer, .func (PySem.W.fnOf "answer" "Box.answer" (defArgs s_box_answer) (defBody s_box_answer) (defScope s_box_answer) .none kV_B_answer dc_B_answer pm_B_answer an_B_answer cd_B_answer ct_B_answer), sl_B_answer⟩)
    (c_B_answer : PySem.W.codeIn K cd_B_answer "Box.answer" = true)
    (k_B_answer : PySem.W.keepIn K (.ref f_B_answer) = true)
    (i_B_questions : PySem.W.findIn K (.ref CB) "questions" = some (some (.ref p_B_questions)))
    (q_B_questions : PySem.W.specialIn K (.ref p_B_questions) "__get__" = some (some (.builtin "property.__get__")))
    (t_B_questions : PySem.W.takesIn K (.ref p_B_questions) = some true)
    (r0_B_questions : PySem.W.recIn K p_B_questions "property" = some (.ref f_B_questions :: r_B_questions))
    (l_B_questions : K.lookup f_B_questions = some ⟨oc_B_questions, od_B_questions, .func (PySem.W.fnOf "questions" "Box.questions" (defArgs s_box_questions) (defBody s_box_questions) (defScope s_box_questions) .none kV_B_questions dc_B_questions pm_B_questions an_B_questions cd_B_questions ct_B_questions), sl_B_questions⟩)
    (c_B_questions : PySem.W.codeIn K cd_B_questions "Box.questions" = true)
    (k_B_questions : PySem.W.keepIn K (.ref f_B_questions) = true)
    (aP : PySem.W.nsIn K mainGlobals "Probe" = some (some (.ref CP)))
    (pgP : PySem.W.plainGet K CP Str.empty = true)
    (hdP : PySem.W.hasDictIn K CP = true)
    (poP : PySem.W.plainOver K CP = true)
    (saP : PySem.W.findIn K (.ref CP) "__setattr__" = some (some (.builtin "object.__setattr__")))
    (mkP : PySem.W.makesIn K CP = true)
    (kcP : PySem.W.keepIn K (.ref CP) = true)
    (nP_box : PySem.W.findIn K (.ref CP) "_box" = some none)
    (nP_row : PySem.W.findIn K (.ref CP) "_row" = some none)
    (nP_lengths : PySem.W.findIn K (.ref CP) "_lengths" = some none)
    (i_P_init : PySem.W.findIn K (.ref CP) "__init__" = some (some (.ref f_P_init)))
    (g_P_init : PySem.W.isFn K (.ref f_P_init) = true)
    (l_P_init : K.lookup f_P_init = some ⟨oc_P_init, od_P_init, .func (PySem.W.fnOf "__init__" "Probe.__init__" (defArgs s_probe_init) (defBody s_probe_init) (defScope s_probe_init) .none kV_P_init dc_P_init pm_P_init an_P_init cd_P_init ct_P_init), sl_P_init⟩)
    (c_P_init : PySem.W.codeIn K cd_P_init "Probe.__init__" = true)
    (k_P_init : PySem.W.keepIn K (.ref f_P_init) = true)
    (i_P_point : PySem.W.findIn K (.ref CP) "point" = some (some (.ref f_P_point)))
    (g_P_point : PySem.W.isFn K (.ref f_P_point) = true)
    (l_P_point : K.lookup f_P_point = some ⟨oc_P_point, od_P_point, .func (PySem.W.fnOf "point" "Probe.point" (defArgs s_probe_point) (defBody s_probe_point) (defScope s_probe_point) .none kV_P_point dc_P_point pm_P_point an_P_point cd_P_point ct_P_point), sl_P_point⟩)
    (c_P_point : PySem.W.codeIn K cd_P_point "Probe.point" = true)
    (k_P_point : PySem.W.keepIn K (.ref f_P_point) = true) :
    ∃ fd : FuncData, (∀ (s : Shared) (v : Value), BindsTo s fd ⟨[v], []⟩ [("script", v)]) ∧ ∀ base : Heap, K.In base → base.Ns mainGlobals mg → FnG l.prog w K mg base 33 fa fd ["script"] (spLaw K) := by
  have e := hfa.symm.trans (PySem.W.mg_of X G a_law)
  cases e
  have F_is_count := fun_mk (st := s_is_count) l_is_count c_is_count k_is_count
  have F_is_command := fun_mk (st := s_is_command) l_is_command c_is_command k_is_command
  have F_check_commands := fun_mk (st := s_check_commands) l_check_commands c_check_commands k_check_commands
  have F_row_change := fun_mk (st := s_row_change) l_row_change c_row_change k_row_change
  have F_check_text := fun_mk (st := s_check_text) l_check_text c_check_text k_check_text
  have F_check_cursor := fun_mk (st := s_check_cursor) l_check_cursor c_check_cursor k_check_cursor
  have F_run := fun_mk (st := s_run) l_run c_run k_run
  have F_shown_column := fun_mk (st := s_shown_column) l_shown_column c_shown_column k_shown_column
  have F_moved := fun_mk (st := s_moved) l_moved c_moved k_moved
  have F_new_goal := fun_mk (st := s_new_goal) l_new_goal c_new_goal k_new_goal
  have F_learn := fun_mk (st := s_learn) l_learn c_learn k_learn
  have F_learn_reach := fun_mk (st := s_lreach18) l_learn_reach c_learn_reach k_learn_reach
  have F_learn_pieces := fun_mk (st := s_pieces18) l_learn_pieces c_learn_pieces k_learn_pieces
  have F_learn_constants := fun_mk (st := s_consts) l_learn_constants c_learn_constants k_learn_constants
  have F_add_points := fun_mk (st := s_addp) l_add_points c_add_points k_add_points
  have F_is_straight := fun_mk (st := s_straight) l_is_straight c_is_straight k_is_straight
  have F_law_pool := fun_mk (st := s_pool) l_law_pool c_law_pool k_law_pool
  have F_law_draw := fun_mk (st := s_draw) l_law_draw c_law_draw k_law_draw
  have F_law_after := fun_mk (st := s_after1) l_law_after c_law_after k_law_after
  have F_law_ran := fun_mk (st := s_ran) l_law_ran c_law_ran k_law_ran
  have F_law_box := fun_mk (st := s_lbox) l_law_box c_law_box k_law_box
  have F_law_reach := fun_mk (st := s_lrch) l_law_reach c_law_reach k_law_reach
  have F_law_piece := fun_mk (st := s_lpiece) l_law_piece c_law_piece k_law_piece
  have F_law_form := fun_mk (st := s_lform) l_law_form c_law_form k_law_form
  have F_law_hidden := fun_mk (st := s_hidden) l_law_hidden c_law_hidden k_law_hidden
  have F_law_answers_right := fun_mk (st := s_asks) l_law_answers_right c_law_answers_right k_law_answers_right
  have F_law_right := fun_mk (st := s_right) l_law_right c_law_right k_law_right
  have F_law := fun_mk (st := s_law) l_law c_law k_law
  have b_is_count := F_is_count.binds (ps := ["number"]) fun _ _ _ _ _ _ us hl => match us, hl with | [_], _ => rfl
  have b_is_command := F_is_command.binds (ps := ["command"]) fun _ _ _ _ _ _ us hl => match us, hl with | [_], _ => rfl
  have b_check_commands := F_check_commands.binds (ps := ["commands"]) fun _ _ _ _ _ _ us hl => match us, hl with | [_], _ => rfl
  have b_row_change := F_row_change.binds (ps := ["command"]) fun _ _ _ _ _ _ us hl => match us, hl with | [_], _ => rfl
  have b_check_text := F_check_text.binds (ps := ["text"]) fun _ _ _ _ _ _ us hl => match us, hl with | [_], _ => rfl
  have b_check_cursor := F_check_cursor.binds (ps := ["lines", "cursor"]) fun _ _ _ _ _ _ us hl => match us, hl with | [_, _], _ => rfl
  have b_run := F_run.binds (ps := ["text", "cursor", "commands"]) fun _ _ _ _ _ _ us hl => match us, hl with | [_, _, _], _ => rfl
  have b_shown_column := F_shown_column.binds (ps := ["length", "goal"]) fun _ _ _ _ _ _ us hl => match us, hl with | [_, _], _ => rfl
  have b_moved := F_moved.binds (ps := ["text", "cursor", "command"]) fun _ _ _ _ _ _ us hl => match us, hl with | [_, _, _], _ => rfl
  have b_new_goal := F_new_goal.binds (ps := ["length", "goal", "command"]) fun _ _ _ _ _ _ us hl => match us, hl with | [_, _, _], _ => rfl
  have b_learn := F_learn.binds (ps := ["box", "rows", "size"]) fun _ _ _ _ _ _ us hl => match us, hl with | [_, _, _], _ => rfl
  have b_learn_reach := F_learn_reach.binds (ps := ["box", "rows"]) fun _ _ _ _ _ _ us hl => match us, hl with | [_, _], _ => rfl
  have b_learn_pieces := F_learn_pieces.binds (ps := ["probe", "spanned", "size", "last"]) fun _ _ _ _ _ _ us hl => match us, hl with | [_, _, _, _], _ => rfl
  have b_learn_constants := F_learn_constants.binds (ps := ["probe", "offset", "size", "last"]) fun _ _ _ _ _ _ us hl => match us, hl with | [_, _, _, _], _ => rfl
  have b_add_points := F_add_points.binds (ps := ["points", "high", "probe", "offset"]) fun _ _ _ _ _ _ us hl => match us, hl with | [_, _, _, _], _ => rfl
  have b_is_straight := F_is_straight.binds (ps := ["low", "high"]) fun _ _ _ _ _ _ us hl => match us, hl with | [_, _], _ => rfl
  have b_law_pool := F_law_pool.binds (ps := ["script", "at"]) fun _ _ _ _ _ _ us hl => match us, hl with | [_, _], _ => rfl
  have b_law_draw := F_law_draw.binds (ps := ["pool", "many"]) fun _ _ _ _ _ _ us hl => match us, hl with | [_, _], _ => rfl
  have b_law_after := F_law_after.binds (ps := ["lengths", "spot", "key"]) fun _ _ _ _ _ _ us hl => match us, hl with | [_, _, _], _ => rfl
  have b_law_ran := F_law_ran.binds (ps := ["lengths", "spot", "keys"]) fun _ _ _ _ _ _ us hl => match us, hl with | [_, _, _], _ => rfl
  have b_law_box := F_law_box.binds (ps := ["keys", "value"]) fun _ _ _ _ _ _ us hl => match us, hl with | [_, _], _ => rfl
  have b_law_reach := F_law_reach.binds (ps := ["keys"]) fun _ _ _ _ _ _ us hl => match us, hl with | [_], _ => rfl
  have b_law_piece := F_law_piece.binds (ps := ["keys", "value"]) fun _ _ _ _ _ _ us hl => match us, hl with | [_, _], _ => rfl
  have b_law_form := F_law_form.binds (ps := ["keys"]) fun _ _ _ _ _ _ us hl => match us, hl with | [_], _ => rfl
  have b_law_hidden := F_law_hidden.binds (ps := ["pool", "many", "far"]) fun _ _ _ _ _ _ us hl => match us, hl with | [_, _, _], _ => rfl
  have b_law_answers_right := F_law_answers_right.binds (ps := ["pool", "hidden", "keys"]) fun _ _ _ _ _ _ us hl => match us, hl with | [_, _, _], _ => rfl
  have b_law_right := F_law_right.binds (ps := ["pool"]) fun _ _ _ _ _ _ us hl => match us, hl with | [_], _ => rfl
  have kb_learn := bindsK (ps := ["box", "rows", "size"]) (ks := ["size", "rows", "box"]) F_learn fun _ _ _ _ _ _ us ws hl => by
    have hl2 : us.length + ws.length = 3 := by
      unfold gRev at hl
      rw [List.length_append, List.length_reverse] at hl
      exact hl
    match us, ws, hl2 with
    | [], [], h => simp only [List.length_cons, List.length_nil] at h; omega
    | [], [_], h => simp only [List.length_cons, List.length_nil] at h; omega
    | [], [_, _], h => simp only [List.length_cons, List.length_nil] at h; omega
    | [], [_, _, _], _ => rfl
    | [], _ :: _ :: _ :: _ :: _, h => simp only [List.length_cons, List.length_nil] at h; omega
    | [_], [], h => simp only [List.length_cons, List.length_nil] at h; omega
    | [_], [_], h => simp only [List.length_cons, List.length_nil] at h; omega
    | [_], [_, _], _ => rfl
    | [_], _ :: _ :: _ :: _, h => simp only [List.length_cons, List.length_nil] at h; omega
    | [_, _], [], h => simp only [List.length_cons, List.length_nil] at h; omega
    | [_, _], [_], _ => rfl
    | [_, _], _ :: _ :: _, h => simp only [List.length_cons, List.length_nil] at h; omega
    | [_, _, _], [], _ => rfl
    | [_, _, _], _ :: _, h => simp only [List.length_cons, List.length_nil] at h; omega
    | _ :: _ :: _ :: _ :: _, _, h => simp only [List.length_cons] at h; omega
  refine ⟨PySem.W.fnOf "law" "law" (defArgs s_law) (defBody s_law) (defScope s_law) .none kV_law dc_law pm_law an_law cd_law ct_law, fun s v => .of_eq rfl, fun base hb gb => ?_⟩
  have TB : TxtB K mg wo wn := {
    g_WITHOUT_NUMBER := PySem.W.mg_of X G aWO
    g_WITH_NUMBER := PySem.W.mg_of X G aWN
    tWO := fun H => .inr ⟨_, _, _, lWO, rfl, rfl, (by show 2 ≤ sizeLine; decide), .cons ⟨_, rfl⟩ (.cons ⟨_, rfl⟩ .nil)⟩
    tWN := fun H => .inr ⟨_, _, _, lWN, rfl, rfl, (by show 4 ≤ sizeLine; decide), .cons ⟨_, rfl⟩ (.cons ⟨_, rfl⟩ (.cons ⟨_, rfl⟩ (.cons ⟨_, rfl⟩ .nil)))⟩
    isinstance := PySem.W.mg_none_of X G z_isinstance
    int := PySem.W.mg_none_of X G z_int
    bool := PySem.W.mg_none_of X G z_bool
    len := PySem.W.mg_none_of X G z_len
    enumerate := PySem.W.mg_none_of X G z_enumerate
    reversed := PySem.W.mg_none_of X G z_reversed
    sorted := PySem.W.mg_none_of X G z_sorted
    max := PySem.W.mg_none_of X G z_max
    min := PySem.W.mg_none_of X G z_min }
  have TPl : TxtPl mg := { len := PySem.W.mg_none_of X G z_len, max := PySem.W.mg_none_of X G z_max, abs := PySem.W.mg_none_of X G z_abs }
  have TO : TxtO mg := { int := PySem.W.mg_none_of X G z_int, len := PySem.W.mg_none_of X G z_len, min := PySem.W.mg_none_of X G z_min, max := PySem.W.mg_none_of X G z_max }
  have TN : TxtN mg := { enumerate := PySem.W.mg_none_of X G z_enumerate }
  have TLr : TxtLr mg := { range := PySem.W.mg_none_of X G z_range, min := PySem.W.mg_none_of X G z_min }
  have TCo : TxtCo mg := { zip := PySem.W.mg_none_of X G z_zip }
  have TPi : TxtPi mg := { list := PySem.W.mg_none_of X G z_list, range := PySem.W.mg_none_of X G z_range, sorted := PySem.W.mg_none_of X G z_sorted }
  have TLb : TxtLb mg := { sum := PySem.W.mg_none_of X G z_sum, int := PySem.W.mg_none_of X G z_int, max := PySem.W.mg_none_of X G z_max, min := PySem.W.mg_none_of X G z_min }
  have TLf : TxtLf mg := { sorted := PySem.W.mg_none_of X G z_sorted, set := PySem.W.mg_none_of X G z_set, int := PySem.W.mg_none_of X G z_int }
  have THd : TxtHd mg := { range := PySem.W.mg_none_of X G z_range, int := PySem.W.mg_none_of X G z_int, abs := PySem.W.mg_none_of X G z_abs, min := PySem.W.mg_none_of X G z_min }
  have TAs : TxtAs mg := { range := PySem.W.mg_none_of X G z_range, len := PySem.W.mg_none_of X G z_len }
  have TRi : TxtRi mg := { repr := PySem.W.mg_none_of X G z_repr, min := PySem.W.mg_none_of X G z_min }
  have TLw : TxtL mg := { max := PySem.W.mg_none_of X G z_max, min := PySem.W.mg_none_of X G z_min, len := PySem.W.mg_none_of X G z_len, int := PySem.W.mg_none_of X G z_int, range := PySem.W.mg_none_of X G z_range }
  have C_is_count : Cal l.prog w K mg base 1 "is_count" spCount := ⟨_, _, _, ok_is_count F_is_count TB, PySem.W.mg_of X G a_is_count, k_is_count, b_is_count⟩
  have C_is_command : Cal l.prog w K mg base 2 "is_command" (spIsCmd K) := ⟨_, _, _, ok_is_command F_is_command TB C_is_count, PySem.W.mg_of X G a_is_command, k_is_command, b_is_command⟩
  have C_check_commands : Cal l.prog w K mg base 3 "check_commands" (spCheck K) := ⟨_, _, _, ok_check_commands F_check_commands TB C_is_command, PySem.W.mg_of X G a_check_commands, k_check_commands, b_check_commands⟩
  have C_row_change : Cal l.prog w K mg base 1 "row_change" (spRow K) := ⟨_, _, _, ok_row_change F_row_change, PySem.W.mg_of X G a_row_change, k_row_change, b_row_change⟩
  have C_check_text : Cal l.prog w K mg base 1 "check_text" (spText K) := ⟨_, _, _, ok_check_text F_check_text TB, PySem.W.mg_of X G a_check_text, k_check_text, b_check_text⟩
  have C_check_cursor : Cal l.prog w K mg base 1 "check_cursor" (spCursor K) := ⟨_, _, _, ok_check_cursor F_check_cursor, PySem.W.mg_of X G a_check_cursor, k_check_cursor, b_check_cursor⟩
  have C_shown_column : Cal l.prog w K mg base 1 "shown_column" spShown := ⟨_, _, _, ok_shown_column F_shown_column TB, PySem.W.mg_of X G a_shown_column, k_shown_column, b_shown_column⟩
  have C_new_goal : Cal l.prog w K mg base 2 "new_goal" (spGoal K) := ⟨_, _, _, ok_new_goal F_new_goal TB C_shown_column, PySem.W.mg_of X G a_new_goal, k_new_goal, b_new_goal⟩
  have C_moved : Cal l.prog w K mg base 3 "moved" (spMoved K) := ⟨_, _, _, ok_moved F_moved TB C_row_change C_new_goal, PySem.W.mg_of X G a_moved, k_moved, b_moved⟩
  have T0 : OexC K C0 := { cls := ⟨nm0, q0, N0, bs0, _, sn0, sub0, ab0, col0, dd0, p0_0, p0_1, p0_2, p0_3, p0_5, x0, by show PySem.HandSPX.refsVE [.type "ValueError", .type "Exception", .type "BaseException", .type "object"] = true; decide +kernel⟩, sa := sa0, exC := be0, tyC := ty0, kC := kc0 }
  have V0 : ErrI K C0 := { cl := ic0, ga := ga0, gg := gg0, be := be0, hd := hd0, cc := cc0, gt := gt, tk := tk, ob := mo0, no := no0 }
  have e_InvalidText : ErrC l.prog w K mg base "InvalidText" C0 := errc_I0 (fun_mk (st := sI0) l0 c0 k0) T0 (PySem.W.mg_of X G a0) no0 in0 ti0
  have T1 : OexC K C1 := { cls := ⟨nm1, q1, N1, bs1, _, sn1, sub1, ab1, col1, dd1, p1_0, p1_1, p1_2, p1_3, p1_5, x1, by show PySem.HandSPX.refsVE [.type "ValueError", .type "Exception", .type "BaseException", .type "object"] = true; decide +kernel⟩, sa := sa1, exC := be1, tyC := ty1, kC := kc1 }
  have V1 : ErrI K C1 := { cl := ic1, ga := ga1, gg := gg1, be := be1, hd := hd1, cc := cc1, gt := gt, tk := tk, ob := mo1, no := no1 }
  have e_InvalidCursor : ErrC l.prog w K mg base "InvalidCursor" C1 := errc_I1 (fun_mk (st := sI1) l1 c1 k1) T1 (PySem.W.mg_of X G a1) no1 in1 ti1
  have T2 : OexC K C2 := { cls := ⟨nm2, q2, N2, bs2, _, sn2, sub2, ab2, col2, dd2, p2_0, p2_1, p2_2, p2_3, p2_5, x2, by show PySem.HandSPX.refsVE [.type "ValueError", .type "Exception", .type "BaseException", .type "object"] = true; decide +kernel⟩, sa := sa2, exC := be2, tyC := ty2, kC := kc2 }
  have V2 : ErrI K C2 := { cl := ic2, ga := ga2, gg := gg2, be := be2, hd := hd2, cc := cc2, gt := gt, tk := tk, ob := mo2, no := no2 }
  have e_InvalidCommand : ErrC l.prog w K mg base "InvalidCommand" C2 := errc_I2 (fun_mk (st := sI2) l2 c2 k2) T2 (PySem.W.mg_of X G a2) no2 in2 ti2
  have T3 : OexC K C3 := { cls := ⟨nm3, q3, N3, bs3, _, sn3, sub3, ab3, col3, dd3, p3_0, p3_1, p3_2, p3_3, p3_5, x3, by show PySem.HandSPX.refsVE [.type "ValueError", .type "Exception", .type "BaseException", .type "object"] = true; decide +kernel⟩, sa := sa3, exC := be3, tyC := ty3, kC := kc3 }
  have V3 : ErrI K C3 := { cl := ic3, ga := ga3, gg := gg3, be := be3, hd := hd3, cc := cc3, gt := gt, tk := tk, ob := mo3, no := no3 }
  have e_Impossible : ErrC l.prog w K mg base "Impossible" C3 := errc_I3 (fun_mk (st := sI3) l3 c3 k3) T3 (PySem.W.mg_of X G a3) no3 in3 ti3
  let cs : Nat → Addr := fun i => match i with
    | 0 => C0
    | 1 => C1
    | 2 => C2
    | _ => C3
  have clB : Cls K CB := ⟨pgB, hdB, poB, saB⟩
  have F_B_init := fun_mk (st := s_box_init) l_B_init c_B_init k_B_init
  have b_B_init := F_B_init.binds (ps := ["self", "commands"]) fun _ _ _ _ _ _ us hl => match us, hl with | [_, _], _ => rfl
  have F_B_answer := fun_mk (st := s_box_answer) l_B_answer c_B_answer k_B_answer
  have b_B_answer := F_B_answer.binds (ps := ["self", "text", "cursor"]) fun _ _ _ _ _ _ us hl => match us, hl with | [_, _, _], _ => rfl
  have F_B_questions := fun_mk (st := s_box_questions) l_B_questions c_B_questions k_B_questions
  have b_B_questions := F_B_questions.binds (ps := ["self"]) fun _ _ _ _ _ _ us hl => match us, hl with | [_], _ => rfl
  have mksB : Mk K CB f_B_init := ⟨mkB, i_B_init, g_B_init, kcB⟩
  have me_B_answer : Meth K CB "answer" f_B_answer := ⟨i_B_answer, g_B_answer, k_B_answer⟩
  have pr_B_questions : PropOf K CB "questions" p_B_questions f_B_questions := ⟨i_B_questions, q_B_questions, t_B_questions, ⟨r_B_questions, r0_B_questions⟩⟩
  have clP : Cls K CP := ⟨pgP, hdP, poP, saP⟩
  have F_P_init := fun_mk (st := s_probe_init) l_P_init c_P_init k_P_init
  have b_P_init := F_P_init.binds (ps := ["self", "box", "spanned", "size"]) fun _ _ _ _ _ _ us hl => match us, hl with | [_, _, _, _], _ => rfl
  have F_P_point := fun_mk (st := s_probe_point) l_P_point c_P_point k_P_point
  have b_P_point := F_P_point.binds (ps := ["self", "offset", "bound"]) fun _ _ _ _ _ _ us hl => match us, hl with | [_, _, _], _ => rfl
  have mksP : Mk K CP f_P_init := ⟨mkP, i_P_init, g_P_init, kcP⟩
  have me_P_point : Meth K CP "point" f_P_point := ⟨i_P_point, g_P_point, k_P_point⟩
  have Y_is_count : Cal l.prog w K mg base 1 "is_count" spCountX := ⟨_, _, _, ok_is_countX F_is_count TB, PySem.W.mg_of X G a_is_count, k_is_count, b_is_count⟩
  have Y_is_command : Cal l.prog w K mg base 2 "is_command" (spIsRaw K) := ⟨_, _, _, ok_is_commandX F_is_command TB Y_is_count, PySem.W.mg_of X G a_is_command, k_is_command, b_is_command⟩
  have X_check_commands : CalX l.prog w K mg base 3 "check_commands" (spCheckX K (cs 2)) := ⟨_, _, _, ok_check_commandsX F_check_commands TB Y_is_command e_InvalidCommand, PySem.W.mg_of X G a_check_commands, k_check_commands, b_check_commands⟩
  have X_check_text : CalX l.prog w K mg base 3 "check_text" (spTextX K (cs 0)) := ⟨_, _, _, ok_check_textX F_check_text TB e_InvalidText, PySem.W.mg_of X G a_check_text, k_check_text, b_check_text⟩
  have X_check_cursor : CalX l.prog w K mg base 3 "check_cursor" (spCursorX K (cs 1)) := ⟨_, _, _, ok_check_cursorX F_check_cursor e_InvalidCursor, PySem.W.mg_of X G a_check_cursor, k_check_cursor, b_check_cursor⟩
  have X_run : CalX l.prog w K mg base 4 "run" (zRunU K cs) := by
    rw [zRunU_eq]
    exact ⟨_, _, _, fnok_or2 (ok_runB F_run TB X_check_text X_check_cursor X_check_commands C_moved e_Impossible) (ok_runI F_run TB C_check_text C_check_cursor C_check_commands C_moved e_Impossible), PySem.W.mg_of X G a_run, k_run, b_run⟩
  have TBx : TxtBx K mg CB := { list := PySem.W.mg_none_of X G z_list, cl := clB, n1 := nB_commands, n2 := nB_questions }
  have TPr : TxtPr K mg CP := { list := PySem.W.mg_none_of X G z_list, cl := clP, n1 := nP_box, n2 := nP_row, n3 := nP_lengths }
  have exI : ∀ i, i < 4 → PySem.W.exmOne K (.ref (cs i)) (.ref (cs 3)) = some (decide (i = 3)) := fun i hi => by
    match i, hi with
    | 0, _ => exact PySem.W.exm_ref be3 hd3 ty3 s0_3
    | 1, _ => exact PySem.W.exm_ref be3 hd3 ty3 s1_3
    | 2, _ => exact PySem.W.exm_ref be3 hd3 ty3 s2_3
    | 3, _ => exact PySem.W.exm_ref be3 hd3 ty3 s3_3
    | n + 4, z => exact absurd z (by omega)
  have m_Box : Mak l.prog w K mg base (L2.CX l.prog w) 4 "Box" CB (zBoxI18 K CB (cs 2)) := by
    rw [zBoxI18_eq]
    exact ⟨PySem.W.mg_of X G aB, f_B_init, _, _, mksB, ok_box_init F_B_init TBx X_check_commands, b_B_init⟩
  have m_answer : Mth l.prog w K mg base (L2.CX l.prog w) 5 CB "answer" (zAnswer K CB cs) := by
    rw [zAnswer_eq]
    exact ⟨clB, f_B_answer, _, _, me_B_answer, ok_box_answer F_B_answer TBx X_run e_Impossible exI, b_B_answer⟩
  have m_questions : Prp l.prog w K mg base 1 CB "questions" (spQuestions CB) := ⟨clB, p_B_questions, f_B_questions, _, _, pr_B_questions, ok_box_questions F_B_questions TBx, b_B_questions⟩
  have m_Probe : Mak l.prog w K mg base (L2.CX l.prog w) 1 "Probe" CP (zProbeInit K CP) := by
    rw [zProbeInit_eq]
    exact ⟨PySem.W.mg_of X G aP, f_P_init, _, _, mksP, fnok_0x18 (ok_probe_init F_P_init TPr), b_P_init⟩
  have m_point : Mth l.prog w K mg base (L2.CX l.prog w) 6 CP "point" (zPoint K CB CP) := by
    rw [zPoint_eq]
    exact ⟨clP, f_P_point, _, _, me_P_point, fnok_0x18 (ok_probe_point F_P_point TPr m_answer), b_P_point⟩
  have C_learn_reach : Cal l.prog w K mg base 6 "learn_reach" (spReach18 K CB) := ⟨_, _, _, ok_lreach18 F_learn_reach TLr m_answer, PySem.W.mg_of X G a_learn_reach, k_learn_reach, b_learn_reach⟩
  have C_is_straight : Cal l.prog w K mg base 1 "is_straight" (spStraight K) := ⟨_, _, _, ok_is_straight F_is_straight, PySem.W.mg_of X G a_is_straight, k_is_straight, b_is_straight⟩
  have C_add_points : Cal l.prog w K mg base 28 "add_points" (spAdd K CB CP 21) := add_all F_add_points (PySem.W.mg_of X G a_add_points) k_add_points b_add_points C_is_straight m_point 21
  have C_learn_constants : Cal l.prog w K mg base 29 "learn_constants" (spConsts K CB CP) := ⟨_, _, _, ok_consts F_learn_constants TCo m_point C_add_points, PySem.W.mg_of X G a_learn_constants, k_learn_constants, b_learn_constants⟩
  have C_learn_pieces : Cal l.prog w K mg base 30 "learn_pieces" (spPieces18 K CB CP) := ⟨_, _, _, ok_pieces18 F_learn_pieces TPi C_learn_constants, PySem.W.mg_of X G a_learn_pieces, k_learn_pieces, b_learn_pieces⟩
  have Z_learn : Cal l.prog w K mg base 31 "learn" (zLearn K CB) := by
    rw [zLearn_eq]
    exact ⟨_, _, _, ok_learn F_learn C_learn_reach m_Probe m_point C_learn_pieces, PySem.W.mg_of X G a_learn, k_learn, b_learn⟩
  have K_learn : CalK l.prog w K mg base 31 "learn" ["size", "rows", "box"] (zLearn K CB) := by
    rw [zLearn_eq]
    exact ⟨_, _, _, ok_learn F_learn C_learn_reach m_Probe m_point C_learn_pieces, PySem.W.mg_of X G a_learn, k_learn, kb_learn⟩
  have C_law_pool : Cal l.prog w K mg base 1 "_law_pool" (spPool K) := ⟨_, _, _, ok_pool F_law_pool TPl, PySem.W.mg_of X G a_law_pool, k_law_pool, b_law_pool⟩
  have C_law_draw : Cal l.prog w K mg base 1 "_law_draw" spDraw := ⟨_, _, _, ok_draw F_law_draw, PySem.W.mg_of X G a_law_draw, k_law_draw, b_law_draw⟩
  have C_law_after : Cal l.prog w K mg base 1 "_law_after" (spAfter1 K) := ⟨_, _, _, ok_after1 F_law_after TO, PySem.W.mg_of X G a_law_after, k_law_after, b_law_after⟩
  have C_law_ran : Cal l.prog w K mg base 2 "_law_ran" (spRan K) := ⟨_, _, _, ok_ran F_law_ran TN C_law_after, PySem.W.mg_of X G a_law_ran, k_law_ran, b_law_ran⟩
  have C_law_box : Cal l.prog w K mg base 1 "_law_box" (spLBox18 K) := ⟨_, _, _, ok_lbox F_law_box TLb, PySem.W.mg_of X G a_law_box, k_law_box, b_law_box⟩
  have C_law_reach : Cal l.prog w K mg base 1 "_law_reach" (spLRch18 K) := ⟨_, _, _, ok_lrch F_law_reach TLb, PySem.W.mg_of X G a_law_reach, k_law_reach, b_law_reach⟩
  have C_law_piece : Cal l.prog w K mg base 2 "_law_piece" (spLPiece18 K) := ⟨_, _, _, ok_lpiece F_law_piece TLf C_law_box, PySem.W.mg_of X G a_law_piece, k_law_piece, b_law_piece⟩
  have C_law_form : Cal l.prog w K mg base 3 "_law_form" (spLForm18 K) := ⟨_, _, _, ok_lform F_law_form TLf C_law_piece C_law_reach, PySem.W.mg_of X G a_law_form, k_law_form, b_law_form⟩
  have C_law_hidden : Cal l.prog w K mg base 2 "_law_hidden" (spHidden18 K) := ⟨_, _, _, ok_hidden F_law_hidden THd C_law_draw, PySem.W.mg_of X G a_law_hidden, k_law_hidden, b_law_hidden⟩
  have C_law_answers_right : Cal l.prog w K mg base 6 "_law_answers_right" (spAsks18 K CB) := ⟨_, _, _, ok_asks F_law_answers_right TAs C_law_draw C_law_ran m_answer m_questions, PySem.W.mg_of X G a_law_answers_right, k_law_answers_right, b_law_answers_right⟩
  have G_right : CalG l.prog w K mg base 32 "_law_right" (zRight18 K) := by
    rw [zRight18_eq]
    exact ⟨_, _, _, ok_right18 F_law_right TRi C_law_draw C_law_hidden m_Box C_law_form C_law_answers_right m_questions Z_learn K_learn, PySem.W.mg_of X G a_law_right, k_law_right, b_law_right⟩
  exact ok_law F_law TLw C_law_pool G_right m_Box C_law_form m_questions Z_learn
theorem walk {l : PySem.W.OpenLaw} {q : Program} {loose : List Str} {XP : (Str → Option Value) → Heap → Prop} {YP : World → Heap → Prop} {d : DefRec} {K : Params → PySem.W.Frag} (hn : l.most = some 63) (hdf : d.params.defaults = [])
    (hY : ∀ (w : World) (h : Heap), YP w h → (K w.params).In h)
    (F : ∀ (w : World) (mg : Str → Option Value) (fa : Addr) (h : Heap), (K w.params).In h → h.Ns mainGlobals mg → mg d.name = some (.ref fa) →
      ∃ fd : FuncData, (∀ (s : Shared) (u : Value), BindsTo s fd ⟨[u], []⟩ [("script", u)]) ∧ ∀ base : Heap, (K w.params).In base → base.Ns mainGlobals mg → FnG l.prog w (K w.params) mg base 33 fa fd ["script"] (spLaw (K w.params))) :
    PySem.W.WalkO q loose XP YP l.row.toRowW d [] (fun f vs => PySem.call f vs) :=
  walk_G (n := 63) (k := 33) (x := "script") (sp := fun w => spLaw (K w.params)) hn (by decide) hdf ⟨rfl, by decide, by decide⟩ hY F fun _ _ a ns hl _ hS => ⟨a, ns, rfl, hS, hl, fun _ => rfl⟩
end Gc

open PySem PySem.W PyProof.Rows in
set_option maxRecDepth 100000 in
set_option maxHeartbeats 0 in
theorem PySem.Challenge.cw_goalcolumn_k18_hidden_forms_learned_holds : PySem.Challenge.rw_goalcolumn_k18_hidden_forms_learned.Holds := by
  w_on; o_law; k_head; (case hw => w_witness2)
  k_fill
  refine Gc.walk (l := PySem.Challenge.rw_goalcolumn_k18_hidden_forms_learned) rfl rfl (fun w h Y => PySem.W.kIn_of Y) ?F
  case F =>
    intro w mg fa h KX G hmg
    refine' Gc.all_mk KX G hmg ?aWN ?aWO ?lWN ?lWO ?a_is_count ?l_is_count ?c_is_count ?k_is_count ?a_is_command ?l_is_command ?c_is_command ?k_is_command ?a_check_commands ?l_check_commands ?c_check_commands ?k_check_commands ?a_row_change ?l_row_change ?c_row_change ?k_row_change ?a_check_text ?l_check_text ?c_check_text ?k_check_text ?a_check_cursor ?l_check_cursor ?c_check_cursor ?k_check_cursor ?a_run ?l_run ?c_run ?k_run ?a_shown_column ?l_shown_column ?c_shown_column ?k_shown_column ?a_moved ?l_moved ?c_moved ?k_moved ?a_new_goal ?l_new_goal ?c_new_goal ?k_new_goal ?a_learn ?l_learn ?c_learn ?k_learn ?a_learn_reach ?l_learn_reach ?c_learn_reach ?k_learn_reach ?a_learn_pieces ?l_learn_pieces ?c_learn_pieces ?k_learn_pieces ?a_learn_constants ?l_learn_constants ?c_learn_constants ?k_learn_constants ?a_add_points ?l_add_points ?c_add_points ?k_add_points ?a_is_straight ?l_is_straight ?c_is_straight ?k_is_straight ?a_law_pool ?l_law_pool ?c_law_pool ?k_law_pool ?a_law_draw ?l_law_draw ?c_law_draw ?k_law_draw ?a_law_after ?l_law_after ?c_law_after ?k_law_after ?a_law_ran ?l_law_ran ?c_law_ran ?k_law_ran ?a_law_box ?l_law_box ?c_law_box ?k_law_box ?a_law_reach ?l_law_reach ?c_law_reach ?k_law_reach ?a_law_piece ?l_law_piece ?c_law_piece ?k_law_piece ?a_law_form ?l_law_form ?c_law_form ?k_law_form ?a_law_hidden ?l_law_hidden ?c_law_hidden ?k_law_hidden ?a_law_answers_right ?l_law_answers_right ?c_law_answers_right ?k_law_answers_right ?a_law_right ?l_law_right ?c_law_right ?k_law_right ?a_law ?l_law ?c_law ?k_law ?z_isinstance ?z_int ?z_bool ?z_len ?z_enumerate ?z_reversed ?z_sorted ?z_max ?z_min ?z_abs ?z_range ?z_list ?z_repr ?z_sum ?z_set ?z_zip ?aE ?yE ?bE ?hE ?icE ?gt ?tk ?a0 ?ty0 ?ic0 ?x0 ?sa0 ?ga0 ?gg0 ?no0 ?cc0 ?in0 ?ti0 ?l0 ?c0 ?k0 ?kc0 ?be0 ?ve0 ?hd0 ?mo0 ?se0 ?a1 ?ty1 ?ic1 ?x1 ?sa1 ?ga1 ?gg1 ?no1 ?cc1 ?in1 ?ti1 ?l1 ?c1 ?k1 ?kc1 ?be1 ?ve1 ?hd1 ?mo1 ?se1 ?a2 ?ty2 ?ic2 ?x2 ?sa2 ?ga2 ?gg2 ?no2 ?cc2 ?in2 ?ti2 ?l2 ?c2 ?k2 ?kc2 ?be2 ?ve2 ?hd2 ?mo2 ?se2 ?a3 ?ty3 ?ic3 ?x3 ?sa3 ?ga3 ?gg3 ?no3 ?cc3 ?in3 ?ti3 ?l3 ?c3 ?k3 ?kc3 ?be3 ?ve3 ?hd3 ?mo3 ?se3 ?s0_0 ?s0_1 ?s0_2 ?s0_3 ?s1_0 ?s1_1 ?s1_2 ?s1_3 ?s2_0 ?s2_1 ?s2_2 ?s2_3 ?s3_0 ?s3_1 ?s3_2 ?s3_3 ?aB ?pgB ?hdB ?poB ?saB ?mkB ?kcB ?nB_commands ?nB_questions ?i_B_init ?g_B_init ?l_B_init ?c_B_init ?k_B_init ?i_B_answer ?g_B_answer ?l_B_answer ?c_B_answer ?k_B_answer ?i_B_questions ?q_B_questions ?t_B_questions ?r0_B_questions ?l_B_questions ?c_B_questions ?k_B_questions ?aP ?pgP ?hdP ?poP ?saP ?mkP ?kcP ?nP_box ?nP_row ?nP_lengths ?i_P_init ?g_P_init ?l_P_init ?c_P_init ?k_P_init ?i_P_point ?g_P_point ?l_P_point ?c_P_point ?k_P_point
    (case aWN => k_is)
    (case aWO => k_is)
    (case lWN => k_is)
    (case lWO => k_is)
    (case a_is_count => k_is)
    (case l_is_count => k_is)
    (case c_is_count => k_is)
    (case k_is_count => k_is)
    (case a_is_command => k_is)
    (case l_is_command => k_is)
    (case c_is_command => k_is)
    (case k_is_command => k_is)
    (case a_check_commands => k_is)
    (case l_check_commands => k_is)
    (case c_check_commands => k_is)
    (case k_check_commands => k_is)
    (case a_row_change => k_is)
    (case l_row_change => k_is)
    (case c_row_change => k_is)
    (case k_row_change => k_is)
    (case a_check_text => k_is)
    (case l_check_text => k_is)
    (case c_check_text => k_is)
    (case k_check_text => k_is)
    (case a_check_cursor => k_is)
    (case l_check_cursor => k_is)
    (case c_check_cursor => k_is)
    (case k_check_cursor => k_is)
    (case a_run => k_is)
    (case l_run => k_is)
    (case c_run => k_is)
    (case k_run => k_is)
    (case a_shown_column => k_is)
    (case l_shown_column => k_is)
    (case c_shown_column => k_is)
    (case k_shown_column => k_is)
    (case a_moved => k_is)
    (case l_moved => k_is)
    (case c_moved => k_is)
    (case k_moved => k_is)
    (case a_new_goal => k_is)
    (case l_new_goal => k_is)
    (case c_new_goal => k_is)
    (case k_new_goal => k_is)
    (case a_learn => k_is)
    (case l_learn => k_is)
    (case c_learn => k_is)
    (case k_learn => k_is)
    (case a_learn_reach => k_is)
    (case l_learn_reach => k_is)
    (case c_learn_reach => k_is)
    (case k_learn_reach => k_is)
    (case a_learn_pieces => k_is)
    (case l_learn_pieces => k_is)
    (case c_learn_pieces => k_is)
    (case k_learn_pieces => k_is)
    (case a_learn_constants => k_is)
    (case l_learn_constants => k_is)
    (case c_learn_constants => k_is)
    (case k_learn_constants => k_is)
    (case a_add_points => k_is)
    (case l_add_points => k_is)
    (case c_add_points => k_is)
    (case k_add_points => k_is)
    (case a_is_straight => k_is)
    (case l_is_straight => k_is)
    (case c_is_straight => k_is)
    (case k_is_straight => k_is)
    (case a_law_pool => k_is)
    (case l_law_pool => k_is)
    (case c_law_pool => k_is)
    (case k_law_pool => k_is)
    (case a_law_draw => k_is)
    (case l_law_draw => k_is)
    (case c_law_draw => k_is)
    (case k_law_draw => k_is)
    (case a_law_after => k_is)
    (case l_law_after => k_is)
    (case c_law_after => k_is)
    (case k_law_after => k_is)
    (case a_law_ran => k_is)
    (case l_law_ran => k_is)
    (case c_law_ran => k_is)
    (case k_law_ran => k_is)
    (case a_law_box => k_is)
    (case l_law_box => k_is)
    (case c_law_box => k_is)
    (case k_law_box => k_is)
    (case a_law_reach => k_is)
    (case l_law_reach => k_is)
    (case c_law_reach => k_is)
    (case k_law_reach => k_is)
    (case a_law_piece => k_is)
    (case l_law_piece => k_is)
    (case c_law_piece => k_is)
    (case k_law_piece => k_is)
    (case a_law_form => k_is)
    (case l_law_form => k_is)
    (case c_law_form => k_is)
    (case k_law_form => k_is)
    (case a_law_hidden => k_is)
    (case l_law_hidden => k_is)
    (case c_law_hidden => k_is)
    (case k_law_hidden => k_is)
    (case a_law_answers_right => k_is)
    (case l_law_answers_right => k_is)
    (case c_law_answers_right => k_is)
    (case k_law_answers_right => k_is)
    (case a_law_right => k_is)
    (case l_law_right => k_is)
    (case c_law_right => k_is)
    (case k_law_right => k_is)
    (case a_law => k_is)
    (case l_law => k_is)
    (case c_law => k_is)
    (case k_law => k_is)
    (case z_isinstance => k_is)
    (case z_int => k_is)
    (case z_bool => k_is)
    (case z_len => k_is)
    (case z_enumerate => k_is)
    (case z_reversed => k_is)
    (case z_sorted => k_is)
    (case z_max => k_is)
    (case z_min => k_is)
    (case z_abs => k_is)
    (case z_range => k_is)
    (case z_list => k_is)
    (case z_repr => k_is)
    (case z_sum => k_is)
    (case z_set => k_is)
    (case z_zip => k_is)
    (case aE => k_is)
    (case yE => k_is)
    (case bE => k_is)
    (case hE => k_is)
    (case icE => k_is)
    (case gt => k_is)
    (case tk => k_is)
    (case a0 => k_is)
    (case ty0 => k_is)
    (case ic0 => k_is)
    (case x0 => k_is)
    (case sa0 => k_is)
    (case ga0 => k_is)
    (case gg0 => k_is)
    (case no0 => k_is)
    (case cc0 => k_is)
    (case in0 => k_is)
    (case ti0 => k_is)
    (case l0 => k_is)
    (case c0 => k_is)
    (case k0 => k_is)
    (case kc0 => k_is)
    (case be0 => k_is)
    (case ve0 => k_is)
    (case hd0 => k_is)
    (case mo0 => k_is)
    (case se0 => k_is)
    (case a1 => k_is)
    (case ty1 => k_is)
    (case ic1 => k_is)
    (case x1 => k_is)
    (case sa1 => k_is)
    (case ga1 => k_is)
    (case gg1 => k_is)
    (case no1 => k_is)
    (case cc1 => k_is)
    (case in1 => k_is)
    (case ti1 => k_is)
    (case l1 => k_is)
    (case c1 => k_is)
    (case k1 => k_is)
    (case kc1 => k_is)
    (case be1 => k_is)
    (case ve1 => k_is)
    (case hd1 => k_is)
    (case mo1 => k_is)
    (case se1 => k_is)
    (case a2 => k_is)
    (case ty2 => k_is)
    (case ic2 => k_is)
    (case x2 => k_is)
    (case sa2 => k_is)
    (case ga2 => k_is)
    (case gg2 => k_is)
    (case no2 => k_is)
    (case cc2 => k_is)
    (case in2 => k_is)
    (case ti2 => k_is)
    (case l2 => k_is)
    (case c2 => k_is)
    (case k2 => k_is)
    (case kc2 => k_is)
    (case be2 => k_is)
    (case ve2 => k_is)
    (case hd2 => k_is)
    (case mo2 => k_is)
    (case se2 => k_is)
    (case a3 => k_is)
    (case ty3 => k_is)
    (case ic3 => k_is)
    (case x3 => k_is)
    (case sa3 => k_is)
    (case ga3 => k_is)
    (case gg3 => k_is)
    (case no3 => k_is)
    (case cc3 => k_is)
    (case in3 => k_is)
    (case ti3 => k_is)
    (case l3 => k_is)
    (case c3 => k_is)
    (case k3 => k_is)
    (case kc3 => k_is)
    (case be3 => k_is)
    (case ve3 => k_is)
    (case hd3 => k_is)
    (case mo3 => k_is)
    (case se3 => k_is)
    (case s0_0 => k_is)
    (case s0_1 => k_is)
    (case s0_2 => k_is)
    (case s0_3 => k_is)
    (case s1_0 => k_is)
    (case s1_1 => k_is)
    (case s1_2 => k_is)
    (case s1_3 => k_is)
    (case s2_0 => k_is)
    (case s2_1 => k_is)
    (case s2_2 => k_is)
    (case s2_3 => k_is)
    (case s3_0 => k_is)
    (case s3_1 => k_is)
    (case s3_2 => k_is)
    (case s3_3 => k_is)
    (case aB => k_is)
    (case pgB => k_is)
    (case hdB => k_is)
    (case poB => k_is)
    (case saB => k_is)
    (case mkB => k_is)
    (case kcB => k_is)
    (case nB_commands => k_is)
    (case nB_questions => k_is)
    (case i_B_init => k_is)
    (case g_B_init => k_is)
    (case l_B_init => k_is)
    (case c_B_init => k_is)
    (case k_B_init => k_is)
    (case i_B_answer => k_is)
    (case g_B_answer => k_is)
    (case l_B_answer => k_is)
    (case c_B_answer => k_is)
    (case k_B_answer => k_is)
    (case i_B_questions => k_is)
    (case q_B_questions => k_is)
    (case t_B_questions => k_is)
    (case r0_B_questions => k_is)
    (case l_B_questions => k_is)
    (case c_B_questions => k_is)
    (case k_B_questions => k_is)
    (case aP => k_is)
    (case pgP => k_is)
    (case hdP => k_is)
    (case poP => k_is)
    (case saP => k_is)
    (case mkP => k_is)
    (case kcP => k_is)
    (case nP_box => k_is)
    (case nP_row => k_is)
    (case nP_lengths => k_is)
    (case i_P_init => k_is)
    (case g_P_init => k_is)
    (case l_P_init => k_is)
    (case c_P_init => k_is)
    (case k_P_init => k_is)
    (case i_P_point => k_is)
    (case g_P_point => k_is)
    (case l_P_point => k_is)
    (case c_P_point => k_is)
    (case k_P_point => k_is)
