import PyProof.Rows.All
import Wide.All
import OpenK.AllK
import Wide.FinOn
import HandS.Comp
import HandS.Iter
import HandS.Dict
import HandS.Flow
import HandS.Rev
import HandS.Walk
import HandS.WordsList
import HandS.WordsDict
import HandS.IsInst
import HandS.Wide
import HandS.Codes
import HandS.Style
import KE.SortData
import HandS.Base
import HandS.Call
import HandS.List
import HandS.Words
import HandS.DictTup
import PyProof.RulesMatch
import HandS.Text
import HandS.StrMore
import HandS.Exc
import HandS.ExcOwn
import HandS.ExcInit
import HandS.ExcField
import HandS.WordsExc
import HandS.HotCalls
import KE.KIsAll
import KE.KExcIs
import HandS.SetFor
import HandS.More
import HandS.Deep
import HandS.Property
import HandS.Defaults
import HandS.TryOnly
import HandS.Steps
import HandS.ExcIs
import PySem.Challenge.RW_goalcolumn_k19_boxes_answer
set_option Elab.async false
set_option linter.all false
set_option maxRecDepth 100000
set_option maxHeartbeats 4000000
namespace Gc
open PySem PyProof.Rows L2
/-! ### heaps: all that stood but at two places -/
def Keep (a d : Addr) (H H' : Hp) : Prop := ∀ b o, b ≠ a → b ≠ d → H b = some o → H' b = some o
theorem Keep.refl {a d : Addr} (H : Hp) : Keep a d H H := fun _ _ _ _ h => h
theorem Keep.trans {a d : Addr} {H H1 H2 : Hp} (x : Keep a d H H1) (y : Keep a d H1 H2) : Keep a d H H2 := fun b o h1 h2 h => y b o h1 h2 (x b o h1 h2 h)
theorem Keep.of {a d : Addr} {H H' : Hp} (e : Same H H') : Keep a d H H' := fun b o _ _ h => e b o h
theorem same_upd {H H' : Hp} {p : Addr} {o : HO} (e : Same H H') (h : H' p = none) : Same H (upd H' p o) := fun b u hb => by
  rw [upd_ne (ne_of_none (e b u hb) h)]
  exact e b u hb
theorem Keep.upd1 {a d : Addr} {H H' : Hp} {o : HO} (e : Keep a d H H') : Keep a d H (upd H' a o) := fun b u h1 h2 h => by
  rw [upd_ne h1]
  exact e b u h1 h2 h
theorem Keep.upd2 {a d : Addr} {H H' : Hp} {o : HO} (e : Keep a d H H') : Keep a d H (upd H' d o) := fun b u h1 h2 h => by
  rw [upd_ne h2]
  exact e b u h1 h2 h
theorem Keep.new {a d p : Addr} {H H' : Hp} {o : HO} (e : Keep a d H H') (h : H' p = none) : Keep a d H (upd H' p o) := fun b u h1 h2 hb => by
  rw [upd_ne (ne_of_none (e b u h1 h2 hb) h)]
  exact e b u h1 h2 hb

theorem cpow {i j : Int} (h : (decide (0 ≤ j) && (decide (j ≤ 1000000) && decide (i.natAbs < 2 ^ 64))) = true) : CPow i j := by
  rw [Bool.and_eq_true, Bool.and_eq_true] at h
  exact ⟨of_decide_eq_true h.1, of_decide_eq_true h.2.1, of_decide_eq_true h.2.2⟩
theorem pow_small {x : Int} {a k b : Nat} (h : x.natAbs < 2 ^ a) (hb : a * k < b) : (x ^ k).natAbs < 2 ^ b := by
  rw [Int.natAbs_pow]
  have h1 : x.natAbs ^ k ≤ (2 ^ a) ^ k := Nat.pow_le_pow_left (Nat.le_of_lt h) k
  rw [← Nat.pow_mul] at h1
  exact Nat.lt_of_le_of_lt h1 (Nat.pow_lt_pow_right (by decide) hb)
theorem int_at {ns : List Int} {i : Nat} {y : V} (h : (ns.map V.int)[i]? = some y) : ∃ u, y = V.int u := by
  rw [List.getElem?_map] at h
  cases e : ns[i]? with
  | none =>
    rw [e] at h
    cases h
  | some u =>
    rw [e] at h
    exact ⟨u, (Option.some.inj h).symm⟩
theorem dp_ints {K : PySem.W.Frag} {H : Hp} : ∀ ns : List Int, DpAll K H (ns.map V.int) (ns.map PyData.int)
  | [] => .nil
  | x :: r => .cons (.int x) (dp_ints r)
/-- a def that is called by its name and lets nothing out -/
structure Cal (P : Program) (w : World) (K : PySem.W.Frag) (mg : Str → Option Value) (base : Heap) (k : Nat) (x : Str) (sp : Sp) : Prop where
  ex : ∃ (f : Addr) (fd : FuncData) (ps : List Str), FnOk P w K mg base CX0 k f fd ps sp ∧
    mg x = some (.ref f) ∧ PySem.W.keepIn K (.ref f) = true ∧ Binds K fd ps []
theorem pe_cal {X : Cx} {k j : Nat} {x : Str} {sp : Sp} {p pos : Pos} {e : Expr} {es : List Expr} {t : TA}
    (c : Cal X.prog X.w X.K X.mg X.base k x sp) (hr : Room j X.A) (hk : k ≤ j) (hg : Gl X x) (ha : PA X (e :: es) t)
    (hdb : (x == ("__debug__" : Str)) = false := by decide)
    (he : starEach (e :: es) X.env = (false, eval e X.env) :: starEach es X.env := by rfl)
    (hpl : (backTo pos (starEach es X.env)).any (·.1) = false := by rfl) :
    PE X (.Call (.Name x p) (e :: es) [] pos) (tCall sp [] E0 t) := by
  obtain ⟨f, fd, ps, F, hm, kp, b⟩ := c.ex
  exact pe_call F (hr.mono hk) hg hm kp b .nil pass0 ha hdb he hpl

/-! ### data carried along -/
theorem seq_t {K : PySem.W.Frag} {H H' : Hp} {a : Addr} {xs : List V} (e : Same H H') (h : SqT K H a xs) : SqT K H' a xs := by
  rcases h with (h | ⟨o, h⟩) | h
  · exact .inl (.inl (e _ _ h))
  · exact .inl (.inr ⟨o, e _ _ h⟩)
  · exact .inr h
mutual
theorem dp_same {K : PySem.W.Frag} {H H' : Hp} (e : Same H H') : ∀ (d : PyData) (v : V), Dp K H v d → Dp K H' v d
  | .none, _, h => by cases h; exact .non
  | .bool b, _, h => by cases h; exact .bl b
  | .int i, _, h => by cases h; exact .int i
  | .str x, _, h => by cases h; exact .str x
  | .list ds, _, h => by
    cases h with
    | lst q r => exact .lst (e.seq q) (dps_same e ds _ r)
  | .tuple ds, _, h => by
    cases h with
    | tup q r => exact .tup (seq_t e q) (dps_same e ds _ r)
  | .dict _, _, h => by cases h
theorem dps_same {K : PySem.W.Frag} {H H' : Hp} (e : Same H H') : ∀ (ds : List PyData) (vs : List V), DpAll K H vs ds → DpAll K H' vs ds
  | [], _, h => by cases h; exact .nil
  | d :: ds, _, h => by
    cases h with
    | cons a b => exact .cons (dp_same e d _ a) (dps_same e ds _ b)
end
theorem dps_len {K : PySem.W.Frag} {H : Hp} : ∀ {vs : List V} {ds : List PyData}, DpAll K H vs ds → vs.length = ds.length
  | [], _, h => by cases h; rfl
  | _ :: vs, _, h => by
    cases h with
    | cons a b => rw [List.length_cons, List.length_cons, dps_len b]
theorem dps_at {K : PySem.W.Frag} {H : Hp} : ∀ {vs : List V} {ds : List PyData} {i : Nat}, DpAll K H vs ds → i < ds.length → ∃ v d, vs[i]? = some v ∧ ds[i]? = some d ∧ Dp K H v d
  | _, _, 0, h, l => by
    cases h with
    | nil => exact absurd l (by decide)
    | cons a b => exact ⟨_, _, rfl, rfl, a⟩
  | _, _, i + 1, h, l => by
    cases h with
    | nil => exact absurd l (Nat.not_lt_zero _)
    | cons a b => exact dps_at (i := i) b (Nat.lt_of_succ_lt_succ l)
theorem depth_at : ∀ {ds : List PyData} {i : Nat} {d : PyData}, ds[i]? = some d → d.depth ≤ PyData.depthAll ds
  | [], i, d, h => by simp at h
  | x :: r, 0, d, h => by
    have e : x = d := Option.some.inj h
    subst e
    simp only [PyData.depthAll]
    exact Nat.le_max_left _ _
  | x :: r, i + 1, d, h => by
    have ih := depth_at (ds := r) (i := i) (d := d) h
    simp only [PyData.depthAll]
    exact Nat.le_trans ih (Nat.le_max_right _ _)
theorem ty_l {K : PySem.W.Frag} {H : Hp} {a : Addr} {xs : List V} (h : SqL K H a xs) : TyX K H (.ref a) (.type "list") := by
  rcases h with (h | ⟨o, h⟩) | h
  · exact .base (.lst h)
  · exact .base (.frz h)
  · obtain ⟨o, its, n, e, c, _⟩ := h
    exact .kList e c
theorem ty_t {K : PySem.W.Frag} {H : Hp} {a : Addr} {xs : List V} (h : SqT K H a xs) : TyX K H (.ref a) (.type "tuple") := by
  rcases h with (h | ⟨o, h⟩) | h
  · exact .base (.tup h)
  · exact .fTuple h
  · obtain ⟨o, its, n, e, c, _⟩ := h
    exact .kTuple e c
theorem isi_q {K : PySem.W.Frag} {H : Hp} {x : V} {t n : String} {b : Bool} {Q : VK} (ty : TyX K H x (.type t)) (k : kitB t n = some b) (q : Q (.bl b) H) : rIsi K [x, .ty n] H Q :=
  ⟨x, .ty n, .type t, .type n, b, rfl, .ty n, ty, kit_ty k, q⟩
theorem log9 {x : Int} {a : Nat} (h : x.natAbs < 2 ^ a) (ha : a < 9000) : x.natAbs.log2 < 9000 :=
  Nat.lt_of_le_of_lt (Nat.le_of_lt_succ (PySem.Flt.log2_lt_of (k := a + 1) (Nat.succ_pos _) (Nat.lt_trans h (Nat.pow_lt_pow_right (by decide) (Nat.lt_succ_self a))))) ha
/-- a power of any whole number, its size told -/
def CPowW (i j : Int) : Prop := 0 ≤ j ∧ j ≤ 64 ∧ i.natAbs.log2 < 100000
theorem op_powW {X : Cx} : OpR X (binaryOp .Pow) (rI CPowW fun i j => .int (i ^ j.toNat)) := opI fun i j _ _ _ _ _ hc q => by
  refine pow_int hc.1 ?_ q
  have h1 : Builtin.Int.intBits i ≤ i.natAbs.log2 + 1 := by
    unfold Builtin.Int.intBits
    split <;> omega
  have h2 := hc.2.1
  have h3 := hc.2.2
  have h4 : (Builtin.Int.intBits i : Int) ≤ 100000 := by omega
  calc (Builtin.Int.intBits i : Int) * j ≤ 100000 * 64 := Int.mul_le_mul h4 h2 hc.1 (by decide)
    _ ≤ 2 ^ 27 := by decide
theorem cpowW {i j : Int} {a : Nat} (hj : 0 ≤ j) (hj2 : j ≤ 64) (h : i.natAbs < 2 ^ a) (ha : a < 100000) : CPowW i j :=
  ⟨hj, hj2, Nat.lt_of_le_of_lt (Nat.le_of_lt_succ (PySem.Flt.log2_lt_of (k := a + 1) (Nat.succ_pos _) (Nat.lt_trans h (Nat.pow_lt_pow_right (by decide) (Nat.lt_succ_self a))))) ha⟩
def rLenQ (K : PySem.W.Frag) : List V → Hp → VK → Prop := fun xs H Q => ∃ p ys, xs = [.ref p] ∧ (SqL K H p ys ∨ SqT K H p ys) ∧ Q (.int ys.length) H
end Gc

/-! boxes of lists of commands: what the program reckons, over plain lists; and the laws of it -/
namespace Gc
inductive Cmd where
  | down (n : Int) | up (n : Int) | right (n : Int) | left (n : Int) | home | stop
  deriving DecidableEq
def Cmd.dv : Cmd → Int
  | .down n => n
  | .up n => -n
  | _ => 0
def Cmd.ok : Cmd → Prop
  | .down n => 1 ≤ n
  | .up n => 1 ≤ n
  | .right n => 1 ≤ n
  | .left n => 1 ≤ n
  | _ => True
def last (cs : List Cmd) : Int := (cs.map Cmd.dv).sum
abbrev Ps := List (Int × Int)
def leK (p q : Int × Int) : Bool := decide (p.1 < q.1 ∨ (p.1 = q.1 ∧ p.2 ≤ q.2))
def look (b : Ps) (k : Int) : Option Int := (b.find? fun q => q.1 = k).map (·.2)
def put (b : Ps) (k v : Int) : Ps := if b.any (fun q => q.1 = k) then b.map (fun q => if q.1 = k then (q.1, v) else q) else b ++ [(k, v)]
def mx (i j : Int) : Int := if j > i then j else i
def req (b : Ps) (o v : Int) : Ps := put b o (mx v ((look b o).getD v))
def go : List Cmd → Int → Int → Ps → Option (Option Int × Ps)
  | [], _, need, b => some (some need, b)
  | .home :: _, _, _, _ => none
  | .stop :: _, _, _, b => some (none, b)
  | .right n :: r, off, need, b => if need > n then go r off (need - n) (req b off need) else some (none, req b off need)
  | .left n :: r, off, need, b => go r off (need + n) (req b off (need + n))
  | .down n :: r, off, need, b => go r (off - n) need b
  | .up n :: r, off, need, b => go r (off + n) need b
def srt (x : Option Int × Ps) : Option Int × Ps := (x.1, x.2.mergeSort leK)
def boxM (cs : List Cmd) (goal : Int) : Option (Option Int × Ps) := (go cs.reverse (last cs) goal []).map srt

/-! ### association lists as functions -/
def val (b : Ps) (k : Int) : Int := (look b k).getD 0
def keys (b : Ps) : List Int := b.map (·.1)
structure Good (b : Ps) : Prop where
  nd : (keys b).Nodup
  pos : ∀ q ∈ b, 1 ≤ q.2
theorem good_nil : Good [] := ⟨List.nodup_nil, fun _ h => nomatch h⟩
theorem look_nil (k : Int) : look [] k = none := rfl
theorem look_cons (q : Int × Int) (b : Ps) (k : Int) : look (q :: b) k = if q.1 = k then some q.2 else look b k := by
  unfold look
  rw [List.find?_cons]
  by_cases h : q.1 = k
  · simp [h]
  · simp [h]
theorem look_none {b : Ps} {k : Int} : look b k = none ↔ k ∉ keys b := by
  induction b with
  | nil => simp [look, keys]
  | cons q b ih =>
    rw [look_cons]
    by_cases h : q.1 = k
    · rw [if_pos h]
      simp [keys, h]
    · rw [if_neg h, ih]
      simp only [keys, List.map_cons, List.mem_cons, not_or]
      exact ⟨fun x => ⟨fun e => h e.symm, x⟩, fun x => x.2⟩
theorem look_mem {b : Ps} {k v : Int} (h : look b k = some v) : (k, v) ∈ b := by
  induction b with
  | nil => cases h
  | cons q b ih =>
    rw [look_cons] at h
    by_cases e : q.1 = k
    · rw [if_pos e] at h
      have e2 := Option.some.inj h
      rw [← e, ← e2]
      exact List.mem_cons_self
    · rw [if_neg e] at h
      exact List.mem_cons_of_mem _ (ih h)
theorem mem_look {b : Ps} {q : Int × Int} (n : (keys b).Nodup) (h : q ∈ b) : look b q.1 = some q.2 := by
  induction b with
  | nil => cases h
  | cons p b ih =>
    have n' : p.1 ∉ keys b ∧ (keys b).Nodup := List.nodup_cons.mp n
    rw [look_cons]
    rcases List.mem_cons.mp h with e | h
    · rw [e, if_pos rfl]
    · have ne : p.1 ≠ q.1 := fun e => n'.1 (by rw [e]; exact List.mem_map.mpr ⟨q, h, rfl⟩)
      rw [if_neg ne]
      exact ih n'.2 h
theorem any_key (b : Ps) (k : Int) : b.any (fun q => q.1 = k) = true ↔ k ∈ keys b := by
  simp [keys, List.any_eq_true]
theorem look_put (b : Ps) (k v j : Int) : look (put b k v) j = if k = j then some v else look b j := by
  unfold put
  by_cases h : b.any (fun q => q.1 = k) = true
  · rw [if_pos h]
    induction b with
    | nil => simp at h
    | cons q b ih =>
      rw [List.map_cons, look_cons, look_cons]
      by_cases e : q.1 = k
      · rw [if_pos e]
        by_cases e2 : k = j
        · simp [e, e2]
        · simp only [e, e2, if_false]
          by_cases hb : b.any (fun q => q.1 = k) = true
          · rw [ih hb, if_neg e2]
          · have nm : ∀ p ∈ b, ¬ p.1 = k := fun p hp z => hb (List.any_eq_true.mpr ⟨p, hp, by simpa using z⟩)
            have em : b.map (fun q => if q.1 = k then (q.1, v) else q) = b := by
              conv => rhs; rw [← List.map_id b]
              exact List.map_congr_left fun p hp => by simp [nm p hp]
            rw [em]
      · rw [if_neg e]
        have hb : b.any (fun q => q.1 = k) = true := by
          rw [List.any_cons] at h
          simpa [e] using h
        by_cases e2 : q.1 = j
        · have e3 : ¬ k = j := fun z => e (e2.trans z.symm)
          simp [e2, e3]
        · simp only [e2, if_false]
          exact ih hb
  · rw [if_neg h]
    have nk : k ∉ keys b := fun z => h ((any_key b k).mpr z)
    clear h
    induction b with
    | nil =>
      show look [(k, v)] j = _
      rw [look_cons]
    | cons q b ih =>
      have n1 : ¬ q.1 = k := fun z => nk (by simp [keys, z])
      have n2 : k ∉ keys b := fun z => nk (List.mem_cons_of_mem _ z)
      rw [List.cons_append, look_cons, look_cons]
      by_cases e2 : q.1 = j
      · have e3 : ¬ k = j := fun z => n1 (e2.trans z.symm)
        simp [e2, e3]
      · simp only [e2, if_false]
        exact ih n2
theorem keys_put (b : Ps) (k v : Int) : keys (put b k v) = if k ∈ keys b then keys b else keys b ++ [k] := by
  unfold put
  by_cases h : b.any (fun q => q.1 = k) = true
  · rw [if_pos h, if_pos ((any_key b k).mp h)]
    unfold keys
    rw [List.map_map]
    refine List.map_congr_left fun p _ => ?_
    show (if p.1 = k then (p.1, v) else p).1 = p.1
    split <;> rfl
  · rw [if_neg h, if_neg fun z => h ((any_key b k).mpr z)]
    simp [keys]
theorem good_put {b : Ps} {k v : Int} (g : Good b) (hv : 1 ≤ v) : Good (put b k v) := by
  have nd : (keys (put b k v)).Nodup := by
    rw [keys_put]
    split
    · exact g.nd
    · rename_i h
      rw [List.nodup_append]
      exact ⟨g.nd, by simp, fun a ha c hc => by
        rw [List.mem_singleton.mp hc]
        intro z
        exact h (z ▸ ha)⟩
  refine ⟨nd, fun q hq => ?_⟩
  have e := mem_look nd hq
  rw [look_put] at e
  split at e
  · rw [← Option.some.inj e]
    exact hv
  · exact g.pos (q.1, q.2) (look_mem e)
theorem val_nonneg {b : Ps} (g : Good b) (k : Int) : 0 ≤ val b k := by
  unfold val
  cases e : look b k with
  | none => exact Int.le_refl 0
  | some v =>
    have := g.pos _ (look_mem e)
    show 0 ≤ v
    have h : 1 ≤ v := this
    omega
theorem val_put (b : Ps) (k v j : Int) : val (put b k v) j = if k = j then v else val b j := by
  unfold val
  rw [look_put]
  split <;> rfl
/-- require, on functions -/
def reqF (f : Int → Int) (o v : Int) : Int → Int := fun k => if o = k then max v (f k) else f k
theorem val_req {b : Ps} (g : Good b) {o v : Int} (hv : 1 ≤ v) : val (req b o v) = reqF (val b) o v := by
  funext k
  unfold req reqF
  rw [val_put]
  by_cases h : o = k
  · subst h
    rw [if_pos rfl, if_pos rfl]
    unfold val mx
    cases e : look b o with
    | none =>
      show (if v > v then v else v) = max v 0
      rw [if_neg (by omega)]
      omega
    | some x =>
      show (if x > v then x else v) = max v x
      split <;> omega
  · rw [if_neg h, if_neg h]
theorem good_req {b : Ps} (g : Good b) {o v : Int} (hv : 1 ≤ v) : Good (req b o v) := by
  refine good_put g ?_
  unfold mx
  split <;> omega

/-! ### the walk, on functions -/
def goF : List Cmd → Int → Int → (Int → Int) → Option (Option Int × (Int → Int))
  | [], _, need, f => some (some need, f)
  | .home :: _, _, _, _ => none
  | .stop :: _, _, _, f => some (none, f)
  | .right n :: r, off, need, f => if need > n then goF r off (need - n) (reqF f off need) else some (none, reqF f off need)
  | .left n :: r, off, need, f => goF r off (need + n) (reqF f off (need + n))
  | .down n :: r, off, need, f => goF r (off - n) need f
  | .up n :: r, off, need, f => goF r (off + n) need f
def AllOk (cs : List Cmd) : Prop := ∀ c ∈ cs, c.ok
theorem go_goF : ∀ {r : List Cmd} {off need : Int} {b : Ps}, AllOk r → Good b → 1 ≤ need →
    (go r off need b = none ∧ goF r off need (val b) = none) ∨ ∃ st b', go r off need b = some (st, b') ∧ Good b' ∧ goF r off need (val b) = some (st, val b') ∧ ∀ n, st = some n → 1 ≤ n
  | [], off, need, b, _, g, hn => .inr ⟨_, _, rfl, g, rfl, fun n e => by rw [← Option.some.inj e]; exact hn⟩
  | .home :: r, off, need, b, _, g, hn => .inl ⟨rfl, rfl⟩
  | .stop :: r, off, need, b, _, g, hn => .inr ⟨_, _, rfl, g, rfl, fun n e => nomatch e⟩
  | .right n :: r, off, need, b, hk, g, hn => by
    have hk' : AllOk r := fun c hc => hk c (List.mem_cons_of_mem _ hc)
    simp only [go, goF]
    by_cases h : need > n
    · rw [if_pos h, if_pos h, ← val_req g hn]
      exact go_goF hk' (good_req g hn) (by omega)
    · rw [if_neg h, if_neg h, ← val_req g hn]
      exact .inr ⟨_, _, rfl, good_req g hn, rfl, fun n e => nomatch e⟩
  | .left n :: r, off, need, b, hk, g, hn => by
    have hk' : AllOk r := fun c hc => hk c (List.mem_cons_of_mem _ hc)
    have h1 : 1 ≤ n := hk _ List.mem_cons_self
    simp only [go, goF]
    rw [← val_req g (by omega)]
    exact go_goF hk' (good_req g (by omega)) (by omega)
  | .down n :: r, off, need, b, hk, g, hn => go_goF (r := r) (fun c hc => hk c (List.mem_cons_of_mem _ hc)) g hn
  | .up n :: r, off, need, b, hk, g, hn => go_goF (r := r) (fun c hc => hk c (List.mem_cons_of_mem _ hc)) g hn

/-! ### ascending lists are told by their functions -/
def Asc (b : Ps) : Prop := b.Pairwise fun p q => p.1 < q.1
theorem asc_nd {b : Ps} (h : Asc b) : (keys b).Nodup := by
  unfold keys
  rw [List.nodup_iff_pairwise_ne, List.pairwise_map]
  exact h.imp fun h => Int.ne_of_lt h
theorem leK_trans (a b c : Int × Int) (h1 : leK a b = true) (h2 : leK b c = true) : leK a c = true := by
  unfold leK at *
  have a1 := of_decide_eq_true h1
  have a2 := of_decide_eq_true h2
  exact decide_eq_true (by omega)
theorem leK_total (a b : Int × Int) : (leK a b || leK b a) = true := by
  unfold leK
  by_cases h : a.1 < b.1 ∨ (a.1 = b.1 ∧ a.2 ≤ b.2)
  · rw [decide_eq_true h]
    rfl
  · rw [decide_eq_true (show b.1 < a.1 ∨ (b.1 = a.1 ∧ b.2 ≤ a.2) by omega), Bool.or_true]
theorem asc_sort {b : Ps} (g : Good b) : Asc (b.mergeSort leK) := by
  have p := List.pairwise_mergeSort (le := leK) leK_trans leK_total b
  have pm := List.mergeSort_perm b leK
  have nd : (keys (b.mergeSort leK)).Nodup := (pm.map (fun q : Int × Int => q.1)).nodup_iff.mpr g.nd
  unfold keys at nd
  rw [List.nodup_iff_pairwise_ne, List.pairwise_map] at nd
  refine (p.and nd).imp fun h => ?_
  have a := of_decide_eq_true h.1
  have c := h.2
  omega
theorem good_perm {b c : Ps} (g : Good b) (p : c.Perm b) : Good c := ⟨(p.map (fun q : Int × Int => q.1)).nodup_iff.mpr g.nd, fun q hq => g.pos q (p.mem_iff.mp hq)⟩
theorem look_perm {b c : Ps} (g : Good b) (p : c.Perm b) (k : Int) : look c k = look b k := by
  have g' := good_perm g p
  cases e : look b k with
  | none =>
    rw [look_none] at e ⊢
    exact fun z => e ((p.map (fun q : Int × Int => q.1)).mem_iff.mp z)
  | some v => exact mem_look g'.nd (p.mem_iff.mpr (look_mem e))
theorem val_perm {b c : Ps} (g : Good b) (p : c.Perm b) : val c = val b := by
  funext k
  unfold val
  rw [look_perm g p]
theorem look_val {b c : Ps} (gb : Good b) (gc : Good c) (h : val b = val c) (k : Int) : look b k = look c k := by
  have e := congrFun h k
  unfold val at e
  cases e1 : look b k with
  | none =>
    cases e2 : look c k with
    | none => rfl
    | some v =>
      rw [e1, e2] at e
      have : 1 ≤ v := gc.pos _ (look_mem e2)
      have e' : (0 : Int) = v := e
      omega
  | some u =>
    cases e2 : look c k with
    | none =>
      rw [e1, e2] at e
      have : 1 ≤ u := gb.pos _ (look_mem e1)
      have e' : u = (0 : Int) := e
      omega
    | some v =>
      rw [e1, e2] at e
      have e' : u = v := e
      rw [e']
theorem asc_ext : ∀ {b c : Ps}, Asc b → Asc c → (∀ k, look b k = look c k) → b = c
  | [], [], _, _, _ => rfl
  | [], q :: c, _, _, h => by
    have e := h q.1
    rw [look_cons, if_pos rfl] at e
    cases e
  | q :: b, [], _, _, h => by
    have e := h q.1
    rw [look_cons, if_pos rfl] at e
    cases e
  | p :: b, q :: c, hb, hc, h => by
    have hb' := List.pairwise_cons.mp hb
    have hc' := List.pairwise_cons.mp hc
    have e1 := h p.1
    rw [look_cons, if_pos rfl, look_cons] at e1
    have e2 := h q.1
    rw [look_cons, look_cons, if_pos rfl] at e2
    have key : p.1 = q.1 := by
      by_cases x : q.1 = p.1
      · exact x.symm
      · rw [if_neg x] at e1
        rw [if_neg fun z => x z.symm] at e2
        have m1 := hc'.1 _ (look_mem e1.symm)
        have m2 := hb'.1 _ (look_mem e2)
        have m1' : q.1 < p.1 := m1
        have m2' : p.1 < q.1 := m2
        omega
    rw [if_pos key.symm] at e1
    have hpq : p = q := Prod.ext key (Option.some.inj e1)
    subst hpq
    rw [asc_ext hb'.2 hc'.2 fun k => ?_]
    have e := h k
    rw [look_cons, look_cons] at e
    by_cases x : p.1 = k
    · have n1 : look b k = none := look_none.mpr fun z => by
        obtain ⟨r, hr, er⟩ := List.mem_map.mp z
        have := hb'.1 r hr
        omega
      have n2 : look c k = none := look_none.mpr fun z => by
        obtain ⟨r, hr, er⟩ := List.mem_map.mp z
        have := hc'.1 r hr
        omega
      rw [n1, n2]
    · rw [if_neg x, if_neg x] at e
      exact e
theorem sort_ext {b c : Ps} (gb : Good b) (gc : Good c) (h : val b = val c) : b.mergeSort leK = c.mergeSort leK :=
  asc_ext (asc_sort gb) (asc_sort gc) fun k => by
    rw [look_perm gb (List.mergeSort_perm b leK), look_perm gc (List.mergeSort_perm c leK)]
    exact look_val gb gc h k
end Gc

/-! laws of boxes: joined lists, greater goals, multiplied moves -/
namespace Gc
abbrev BF := Option (Option Int × (Int → Int))
def boxF (cs : List Cmd) (goal : Int) : BF := goF cs.reverse (last cs) goal fun _ => 0
theorem val_nil : val [] = fun _ => 0 := rfl
theorem allOk_rev {cs : List Cmd} (h : AllOk cs) : AllOk cs.reverse := fun c hc => h c (List.mem_reverse.mp hc)
theorem box_spec {cs : List Cmd} {goal : Int} (h : AllOk cs) (hg : 1 ≤ goal) :
    (boxM cs goal = none ∧ boxF cs goal = none) ∨ ∃ st b, boxM cs goal = some (st, b.mergeSort leK) ∧ Good b ∧ boxF cs goal = some (st, val b) ∧ ∀ n, st = some n → 1 ≤ n := by
  unfold boxM boxF
  rw [← val_nil]
  rcases go_goF (off := last cs) (allOk_rev h) good_nil hg with ⟨e1, e2⟩ | ⟨st, b, e1, g, e2, p⟩
  · exact .inl ⟨by rw [e1]; rfl, e2⟩
  · exact .inr ⟨st, b, by rw [e1]; rfl, g, e2, p⟩
def thenF (x : BF) (k : Int → (Int → Int) → BF) : BF := match x with
  | none => none
  | some (none, g) => some (none, g)
  | some (some n, g) => k n g
theorem goF_app : ∀ (a b : List Cmd) (off need : Int) (f : Int → Int), goF (a ++ b) off need f = thenF (goF a off need f) fun n g => goF b (off - (a.map Cmd.dv).sum) n g
  | [], b, off, need, f => by
    show goF b off need f = goF b (off - 0) need f
    rw [Int.sub_zero]
  | .home :: a, b, off, need, f => rfl
  | .stop :: a, b, off, need, f => rfl
  | .right n :: a, b, off, need, f => by
    have e : off - (((Cmd.right n :: a).map Cmd.dv).sum) = off - (a.map Cmd.dv).sum := by
      rw [List.map_cons, List.sum_cons]
      show off - (0 + _) = _
      omega
    rw [e, List.cons_append]
    simp only [goF]
    by_cases h : need > n
    · rw [if_pos h, if_pos h]
      exact goF_app a b off (need - n) _
    · rw [if_neg h, if_neg h]
      rfl
  | .left n :: a, b, off, need, f => by
    have e : off - (((Cmd.left n :: a).map Cmd.dv).sum) = off - (a.map Cmd.dv).sum := by
      rw [List.map_cons, List.sum_cons]
      show off - (0 + _) = _
      omega
    rw [e, List.cons_append]
    exact goF_app a b off (need + n) _
  | .down n :: a, b, off, need, f => by
    have e : off - (((Cmd.down n :: a).map Cmd.dv).sum) = off - n - (a.map Cmd.dv).sum := by
      rw [List.map_cons, List.sum_cons]
      show off - (n + _) = _
      omega
    rw [e, List.cons_append]
    exact goF_app a b (off - n) need f
  | .up n :: a, b, off, need, f => by
    have e : off - (((Cmd.up n :: a).map Cmd.dv).sum) = off + n - (a.map Cmd.dv).sum := by
      rw [List.map_cons, List.sum_cons]
      show off - (-n + _) = _
      omega
    rw [e, List.cons_append]
    exact goF_app a b (off + n) need f
theorem goF_shift (d : Int) : ∀ (r : List Cmd) (off need : Int) (f : Int → Int), goF r (off + d) need (fun k => f (k - d)) = (goF r off need f).map fun x => (x.1, fun k => x.2 (k - d))
  | [], off, need, f => rfl
  | .home :: r, off, need, f => rfl
  | .stop :: r, off, need, f => rfl
  | .right n :: r, off, need, f => by
    have e : reqF (fun k => f (k - d)) (off + d) need = fun k => reqF f off need (k - d) := by
      funext k
      unfold reqF
      by_cases h : off + d = k
      · rw [if_pos h, if_pos (by omega)]
      · rw [if_neg h, if_neg (by omega)]
    simp only [goF]
    rw [e]
    by_cases h : need > n
    · rw [if_pos h, if_pos h]
      exact goF_shift d r off (need - n) _
    · rw [if_neg h, if_neg h]
      rfl
  | .left n :: r, off, need, f => by
    have e : reqF (fun k => f (k - d)) (off + d) (need + n) = fun k => reqF f off (need + n) (k - d) := by
      funext k
      unfold reqF
      by_cases h : off + d = k
      · rw [if_pos h, if_pos (by omega)]
      · rw [if_neg h, if_neg (by omega)]
    simp only [goF]
    rw [e]
    exact goF_shift d r off (need + n) _
  | .down n :: r, off, need, f => by
    simp only [goF]
    rw [show off + d - n = off - n + d by omega]
    exact goF_shift d r (off - n) need f
  | .up n :: r, off, need, f => by
    simp only [goF]
    rw [show off + d + n = off + n + d by omega]
    exact goF_shift d r (off + n) need f
theorem goF_max (h : Int → Int) : ∀ (r : List Cmd) (off need : Int) (f : Int → Int), goF r off need (fun k => max (f k) (h k)) = (goF r off need f).map fun x => (x.1, fun k => max (x.2 k) (h k))
  | [], off, need, f => rfl
  | .home :: r, off, need, f => rfl
  | .stop :: r, off, need, f => rfl
  | .right n :: r, off, need, f => by
    have e : reqF (fun k => max (f k) (h k)) off need = fun k => max (reqF f off need k) (h k) := by
      funext k
      unfold reqF
      show (if _ then _ else _) = _
      by_cases q : off = k
      · simp only [q, if_true]
        rw [Int.max_assoc]
      · simp only [q, if_false]
    simp only [goF]
    rw [e]
    by_cases c : need > n
    · rw [if_pos c, if_pos c]
      exact goF_max h r off (need - n) _
    · rw [if_neg c, if_neg c]
      rfl
  | .left n :: r, off, need, f => by
    have e : reqF (fun k => max (f k) (h k)) off (need + n) = fun k => max (reqF f off (need + n) k) (h k) := by
      funext k
      unfold reqF
      show (if _ then _ else _) = _
      by_cases q : off = k
      · simp only [q, if_true]
        rw [Int.max_assoc]
      · simp only [q, if_false]
    simp only [goF]
    rw [e]
    exact goF_max h r off (need + n) _
  | .down n :: r, off, need, f => goF_max h r (off - n) need f
  | .up n :: r, off, need, f => goF_max h r (off + n) need f
theorem last_app (a b : List Cmd) : last (a ++ b) = last a + last b := by
  unfold last
  rw [List.map_append, List.sum_append]
theorem sum_rev (l : List Int) : l.reverse.sum = l.sum := by
  induction l with
  | nil => rfl
  | cons a l ih =>
    rw [List.reverse_cons, List.sum_append, ih, List.sum_cons]
    simp
    omega
theorem boxF_app (early late : List Cmd) (aim : Int) (pos : ∀ st g, boxF late aim = some (st, g) → ∀ k, 0 ≤ g k) :
    boxF (early ++ late) aim = match boxF late aim with
      | none => none
      | some (none, g) => some (none, fun k => g (k - last early))
      | some (some n, g) => (boxF early n).map fun x => (x.1, fun k => max (x.2 k) (g (k - last early))) := by
  unfold boxF
  rw [List.reverse_append, goF_app, last_app, Int.add_comm (last early)]
  have sh : goF late.reverse (last late + last early) aim (fun _ => 0) = (goF late.reverse (last late) aim fun _ => 0).map fun x => (x.1, fun k => x.2 (k - last early)) :=
    goF_shift (last early) late.reverse (last late) aim fun _ => 0
  rw [sh]
  have pos' := pos
  unfold boxF at pos'
  cases e : goF late.reverse (last late) aim (fun _ => 0) with
  | none => rfl
  | some x =>
    obtain ⟨st, g⟩ := x
    cases st with
    | none => rfl
    | some n =>
      show goF early.reverse (last late + last early - (late.reverse.map Cmd.dv).sum) n (fun k => g (k - last early)) = _
      have es : (late.reverse.map Cmd.dv).sum = last late := by
        rw [List.map_reverse, sum_rev]
        rfl
      rw [es, show last late + last early - last late = last early by omega]
      have em : (fun k => g (k - last early)) = fun k => max ((fun _ => 0 : Int → Int) k) (g (k - last early)) := by
        funext k
        have := pos' _ _ e (k - last early)
        show g (k - last early) = max 0 (g (k - last early))
        omega
      rw [em, goF_max]

/-! ### the law's own joining -/
def shiftK (d : Int) (b : Ps) : Ps := b.map fun q => (q.1 + d, q.2)
def addAll (b : Ps) (l : Ps) : Ps := l.foldl (fun b q => put b q.1 (mx q.2 ((look b q.1).getD 0))) b
def joinedM (early late : List Cmd) (gone aim : Int) : Option (Option Int × Ps) := match boxM late aim with
  | none => none
  | some (none, l) => some (none, (shiftK gone l).mergeSort leK)
  | some (some n, l) => match boxM early n with
    | none => none
    | some (st, m) => some (st, (addAll (shiftK gone l) m).mergeSort leK)
theorem look_shift (d : Int) : ∀ (b : Ps) (k : Int), look (shiftK d b) k = look b (k - d)
  | [], _ => rfl
  | q :: b, k => by
    show look ((q.1 + d, q.2) :: shiftK d b) k = _
    rw [look_cons, look_cons, look_shift d b]
    by_cases h : q.1 + d = k
    · rw [if_pos h, if_pos (by omega)]
    · rw [if_neg h, if_neg (by omega)]
theorem good_shift (d : Int) {b : Ps} (g : Good b) : Good (shiftK d b) := by
  refine ⟨?_, fun q hq => ?_⟩
  · have e : keys (shiftK d b) = (keys b).map (· + d) := by
      unfold keys shiftK
      rw [List.map_map, List.map_map]
      rfl
    rw [e, List.nodup_iff_pairwise_ne, List.pairwise_map]
    exact (List.nodup_iff_pairwise_ne.mp g.nd).imp fun h => by omega
  · obtain ⟨p, hp, rfl⟩ := List.mem_map.mp hq
    exact g.pos p hp
theorem val_shift (d : Int) (b : Ps) : val (shiftK d b) = fun k => val b (k - d) := by
  funext k
  unfold val
  rw [look_shift]
theorem val_cons (q : Int × Int) (b : Ps) (k : Int) : val (q :: b) k = if q.1 = k then q.2 else val b k := by
  unfold val
  rw [look_cons]
  split <;> rfl
theorem val_out {b : Ps} {k : Int} (h : k ∉ keys b) : val b k = 0 := by
  unfold val
  rw [look_none.mpr h]
  rfl
theorem addAll_good : ∀ {l b : Ps}, Good b → Good l → Good (addAll b l) ∧ ∀ k, val (addAll b l) k = max (val l k) (val b k)
  | [], b, gb, _ => ⟨gb, fun k => by
      have := val_nonneg gb k
      show val b k = max 0 (val b k)
      omega⟩
  | q :: l, b, gb, gl => by
    have nq : q.1 ∉ keys l ∧ (keys l).Nodup := List.nodup_cons.mp gl.nd
    have p1 : 1 ≤ q.2 := gl.pos q List.mem_cons_self
    have gl' : Good l := ⟨nq.2, fun p hp => gl.pos p (List.mem_cons_of_mem _ hp)⟩
    have hv : 1 ≤ mx q.2 ((look b q.1).getD 0) := by
      unfold mx
      split <;> omega
    obtain ⟨g, v⟩ := addAll_good (b := put b q.1 (mx q.2 ((look b q.1).getD 0))) (good_put gb hv) gl'
    refine ⟨g, fun k => ?_⟩
    show val (addAll (put b q.1 (mx q.2 ((look b q.1).getD 0))) l) k = _
    rw [v k, val_put, val_cons]
    by_cases h : q.1 = k
    · subst h
      rw [if_pos rfl, if_pos rfl, val_out nq.1]
      have : mx q.2 ((look b q.1).getD 0) = max q.2 (val b q.1) := by
        unfold mx val
        split <;> omega
      rw [this]
      omega
    · rw [if_neg h, if_neg h]
theorem joined (early late : List Cmd) {aim : Int} (he : AllOk early) (hl : AllOk late) (ha : 1 ≤ aim) : boxM (early ++ late) aim = joinedM early late (last early) aim := by
  have hw : AllOk (early ++ late) := fun c hc => (List.mem_append.mp hc).elim (he c) (hl c)
  have srtd : ∀ {b c : Ps}, Good b → Good c → val b = val c → b.mergeSort leK = c.mergeSort leK := fun gb gc h => sort_ext gb gc h
  rcases box_spec hl ha with ⟨e1, e2⟩ | ⟨st, b, e1, gb, e2, pb⟩
  · have f := boxF_app early late aim fun st g h => by rw [e2] at h; cases h
    rw [e2] at f
    rcases box_spec hw ha with ⟨w1, _⟩ | ⟨_, _, _, _, w2, _⟩
    · rw [w1]
      unfold joinedM
      rw [e1]
    · rw [w2] at f
      cases f
  · have f := boxF_app early late aim fun st g h => by
      rw [e2] at h
      cases h
      exact val_nonneg gb
    rw [e2] at f
    have gs : Good (b.mergeSort leK) := good_perm gb (List.mergeSort_perm b leK)
    have vs : val (b.mergeSort leK) = val b := val_perm gb (List.mergeSort_perm b leK)
    cases st with
    | none =>
      rcases box_spec hw ha with ⟨_, w2⟩ | ⟨st', c, w1, gc, w2, _⟩
      · rw [w2] at f
        cases f
      · rw [w2] at f
        have f' := Option.some.inj f
        have f1 : st' = none := congrArg Prod.fst f'
        have f2 : val c = fun k => val b (k - last early) := congrArg Prod.snd f'
        rw [w1, f1]
        unfold joinedM
        rw [e1]
        show some ((none : Option Int), c.mergeSort leK) = some (none, (shiftK (last early) (b.mergeSort leK)).mergeSort leK)
        rw [srtd gc (good_shift _ gs) (by rw [f2, val_shift, vs])]
    | some n =>
      have hn := pb n rfl
      rcases box_spec he hn with ⟨x1, x2⟩ | ⟨st2, m, x1, gm, x2, _⟩
      · have f' : boxF (early ++ late) aim = (boxF early n).map fun x => (x.1, fun k => max (x.2 k) (val b (k - last early))) := f
        rw [x2] at f'
        rcases box_spec hw ha with ⟨w1, _⟩ | ⟨_, _, _, _, w2, _⟩
        · rw [w1]
          unfold joinedM
          rw [e1]
          show none = match boxM early n with | none => none | some (st, m) => _
          rw [x1]
        · rw [w2] at f'
          cases f'
      · have f' : boxF (early ++ late) aim = (boxF early n).map fun x => (x.1, fun k => max (x.2 k) (val b (k - last early))) := f
        rw [x2] at f'
        rcases box_spec hw ha with ⟨_, w2⟩ | ⟨st', c, w1, gc, w2, _⟩
        · rw [w2] at f'
          cases f'
        · rw [w2] at f'
          have f3 := Option.some.inj f'
          have f1 : st' = st2 := congrArg Prod.fst f3
          have f2 : val c = fun k => max (val m k) (val b (k - last early)) := congrArg Prod.snd f3
          rw [w1, f1]
          unfold joinedM
          rw [e1]
          show some (st2, c.mergeSort leK) = match boxM early n with | none => none | some (st, m) => _
          rw [x1]
          show some (st2, c.mergeSort leK) = some (st2, (addAll (shiftK (last early) (b.mergeSort leK)) (m.mergeSort leK)).mergeSort leK)
          have gms : Good (m.mergeSort leK) := good_perm gm (List.mergeSort_perm m leK)
          obtain ⟨ga, va⟩ := addAll_good (good_shift (last early) gs) gms
          rw [srtd gc ga (by
            funext k
            rw [f2, va k, val_perm gm (List.mergeSort_perm m leK), val_shift, vs])]

/-! ### a greater goal -/
theorem reqF_mono {f g : Int → Int} {o v u : Int} (h : ∀ k, f k ≤ g k) (hv : v ≤ u) (k : Int) : reqF f o v k ≤ reqF g o u k := by
  have := h k
  unfold reqF
  split <;> omega
theorem reqF_ge (f : Int → Int) (o v k : Int) : f k ≤ reqF f o v k := by
  unfold reqF
  split <;> omega
theorem goF_ge : ∀ {r : List Cmd} {off need : Int} {f : Int → Int} {st : Option Int} {g : Int → Int}, goF r off need f = some (st, g) → ∀ k, f k ≤ g k
  | [], off, need, f, st, g, h, k => by cases h; exact Int.le_refl _
  | .home :: r, off, need, f, st, g, h, k => by cases h
  | .stop :: r, off, need, f, st, g, h, k => by cases h; exact Int.le_refl _
  | .right n :: r, off, need, f, st, g, h, k => by
    simp only [goF] at h
    by_cases c : need > n
    · rw [if_pos c] at h
      exact Int.le_trans (reqF_ge f off need k) (goF_ge h k)
    · rw [if_neg c] at h
      cases h
      exact reqF_ge f off need k
  | .left n :: r, off, need, f, st, g, h, k => Int.le_trans (reqF_ge f off (need + n) k) (goF_ge (r := r) h k)
  | .down n :: r, off, need, f, st, g, h, k => goF_ge (r := r) h k
  | .up n :: r, off, need, f, st, g, h, k => goF_ge (r := r) h k
def Less (x y : BF) : Prop := y = none ∨ ∃ st g st' g', x = some (st, g) ∧ y = some (st', g') ∧ (∀ n, st = some n → ∃ n', st' = some n' ∧ n ≤ n') ∧ ∀ k, g k ≤ g' k
theorem goF_mono : ∀ {r : List Cmd} {off need need' : Int} {f f' : Int → Int}, need ≤ need' → (∀ k, f k ≤ f' k) → Less (goF r off need f) (goF r off need' f')
  | [], off, need, need', f, f', h, hf => .inr ⟨_, _, _, _, rfl, rfl, fun n e => ⟨need', rfl, by rw [← Option.some.inj e]; exact h⟩, hf⟩
  | .home :: r, off, need, need', f, f', h, hf => .inl rfl
  | .stop :: r, off, need, need', f, f', h, hf => .inr ⟨_, _, _, _, rfl, rfl, (fun n e => nomatch e), hf⟩
  | .right n :: r, off, need, need', f, f', h, hf => by
    simp only [goF]
    have m := reqF_mono (o := off) hf h
    by_cases c : need > n
    · rw [if_pos c, if_pos (by omega)]
      exact goF_mono (by omega) m
    · rw [if_neg c]
      by_cases c' : need' > n
      · rw [if_pos c']
        cases e : goF r off (need' - n) (reqF f' off need') with
        | none => exact .inl rfl
        | some x => exact .inr ⟨_, _, x.1, x.2, rfl, rfl, (fun n e => nomatch e), fun k => Int.le_trans (m k) (goF_ge e k)⟩
      · rw [if_neg c']
        exact .inr ⟨_, _, _, _, rfl, rfl, (fun n e => nomatch e), m⟩
  | .left n :: r, off, need, need', f, f', h, hf => goF_mono (r := r) (by omega) (reqF_mono (o := off) hf (by omega))
  | .down n :: r, off, need, need', f, f', h, hf => goF_mono (r := r) h hf
  | .up n :: r, off, need, need', f, f', h, hf => goF_mono (r := r) h hf
theorem box_mono {cs : List Cmd} {aim more : Int} (h : AllOk cs) (ha : 1 ≤ aim) (hm : aim ≤ more) :
    boxM cs more = none ∨ ∃ st l st' l', boxM cs aim = some (st, l) ∧ boxM cs more = some (st', l') ∧ (∀ n, st = some n → ∃ n', st' = some n' ∧ n ≤ n') ∧ ∀ q ∈ l, q.2 ≤ val l' q.1 := by
  have m : Less (boxF cs aim) (boxF cs more) := goF_mono hm fun _ => Int.le_refl _
  rcases box_spec h (show 1 ≤ more by omega) with ⟨e1, _⟩ | ⟨st', b', e1, g', e2, _⟩
  · exact .inl e1
  · rcases m with m | ⟨st, g, st2, g2, m1, m2, m3, m4⟩
    · rw [e2] at m
      cases m
    · rw [e2] at m2
      cases m2
      rcases box_spec h ha with ⟨_, x2⟩ | ⟨st3, b, x1, gb, x2, _⟩
      · rw [x2] at m1
        cases m1
      · rw [x2] at m1
        cases m1
        refine .inr ⟨st, _, st', _, x1, e1, m3, fun q hq => ?_⟩
        have gs : Good (b.mergeSort leK) := good_perm gb (List.mergeSort_perm b leK)
        have v : val (b.mergeSort leK) q.1 = q.2 := by
          unfold val
          rw [mem_look gs.nd hq]
          rfl
        rw [val_perm gb (List.mergeSort_perm b leK)] at v
        rw [val_perm g' (List.mergeSort_perm b' leK), ← v]
        exact m4 q.1

/-! ### moves multiplied -/
def Cmd.mul (F : Int) : Cmd → Cmd
  | .down n => .down (n * F)
  | .up n => .up (n * F)
  | c => c
def mulK (F : Int) (b : Ps) : Ps := b.map fun q => (q.1 * F, q.2)
theorem mul_inj {F a b : Int} (hF : 1 ≤ F) : a * F = b * F ↔ a = b := ⟨fun h => Int.eq_of_mul_eq_mul_right (by omega) h, fun h => by rw [h]⟩
theorem look_mul {F : Int} (hF : 1 ≤ F) : ∀ (b : Ps) (k : Int), look (mulK F b) (k * F) = look b k
  | [], _ => rfl
  | q :: b, k => by
    show look ((q.1 * F, q.2) :: mulK F b) (k * F) = _
    rw [look_cons, look_cons, look_mul hF b]
    by_cases h : q.1 = k
    · rw [if_pos h, if_pos (by rw [h])]
    · rw [if_neg h, if_neg fun z => h ((mul_inj hF).mp z)]
theorem put_mul {F : Int} (hF : 1 ≤ F) (b : Ps) (k v : Int) : put (mulK F b) (k * F) v = mulK F (put b k v) := by
  unfold put
  have ea : (mulK F b).any (fun q => decide (q.1 = k * F)) = b.any (fun q => decide (q.1 = k)) := by
    unfold mulK
    rw [List.any_map]
    congr 1
    funext q
    show decide (q.1 * F = k * F) = decide (q.1 = k)
    exact decide_eq_decide.mpr (mul_inj hF)
  rw [ea]
  by_cases h : b.any (fun q => decide (q.1 = k)) = true
  · rw [if_pos h, if_pos h]
    unfold mulK
    rw [List.map_map, List.map_map]
    refine List.map_congr_left fun q _ => ?_
    show (if q.1 * F = k * F then (q.1 * F, v) else (q.1 * F, q.2)) = ((if q.1 = k then (q.1, v) else q).1 * F, (if q.1 = k then (q.1, v) else q).2)
    by_cases e : q.1 = k
    · rw [if_pos e, if_pos (by rw [e])]
    · rw [if_neg e, if_neg fun z => e ((mul_inj hF).mp z)]
  · rw [if_neg h, if_neg h]
    unfold mulK
    rw [List.map_append]
    rfl
theorem req_mul {F : Int} (hF : 1 ≤ F) (b : Ps) (o v : Int) : req (mulK F b) (o * F) v = mulK F (req b o v) := by
  unfold req
  rw [look_mul hF, put_mul hF]
theorem go_mul {F : Int} (hF : 1 ≤ F) : ∀ (r : List Cmd) (off need : Int) (b : Ps), go (r.map (Cmd.mul F)) (off * F) need (mulK F b) = (go r off need b).map fun x => (x.1, mulK F x.2)
  | [], off, need, b => rfl
  | .home :: r, off, need, b => rfl
  | .stop :: r, off, need, b => rfl
  | .right n :: r, off, need, b => by
    show (if need > n then go (r.map (Cmd.mul F)) (off * F) (need - n) (req (mulK F b) (off * F) need) else some (none, req (mulK F b) (off * F) need)) = (if need > n then go r off (need - n) (req b off need) else some (none, req b off need)).map _
    rw [req_mul hF]
    by_cases c : need > n
    · rw [if_pos c, if_pos c]
      exact go_mul hF r off (need - n) _
    · rw [if_neg c, if_neg c]
      rfl
  | .left n :: r, off, need, b => by
    show go (r.map (Cmd.mul F)) (off * F) (need + n) (req (mulK F b) (off * F) (need + n)) = _
    rw [req_mul hF]
    exact go_mul hF r off (need + n) _
  | .down n :: r, off, need, b => by
    show go (r.map (Cmd.mul F)) (off * F - n * F) need (mulK F b) = _
    rw [← Int.sub_mul]
    exact go_mul hF r (off - n) need b
  | .up n :: r, off, need, b => by
    show go (r.map (Cmd.mul F)) (off * F + n * F) need (mulK F b) = _
    rw [← Int.add_mul]
    exact go_mul hF r (off + n) need b
theorem last_mul (F : Int) : ∀ cs : List Cmd, last (cs.map (Cmd.mul F)) = last cs * F
  | [] => by show (0 : Int) = 0 * F; omega
  | c :: cs => by
    have e : ∀ (c : Cmd) (cs : List Cmd), last (c :: cs) = c.dv + last cs := fun _ _ => rfl
    have d : (c.mul F).dv = c.dv * F := by
      cases c with
      | up n =>
        show -(n * F) = -n * F
        rw [Int.neg_mul]
      | down n => rfl
      | right n => show (0 : Int) = 0 * F; omega
      | left n => show (0 : Int) = 0 * F; omega
      | home => show (0 : Int) = 0 * F; omega
      | stop => show (0 : Int) = 0 * F; omega
    rw [List.map_cons, e, e, last_mul F cs, d, Int.add_mul]
theorem good_mul {F : Int} (hF : 1 ≤ F) {b : Ps} (g : Good b) : Good (mulK F b) := by
  refine ⟨?_, fun q hq => ?_⟩
  · have e : keys (mulK F b) = (keys b).map (· * F) := by
      unfold keys mulK
      rw [List.map_map, List.map_map]
      rfl
    rw [e, List.nodup_iff_pairwise_ne, List.pairwise_map]
    exact (List.nodup_iff_pairwise_ne.mp g.nd).imp fun h z => h ((mul_inj hF).mp z)
  · obtain ⟨p, hp, rfl⟩ := List.mem_map.mp hq
    exact g.pos p hp
theorem asc_mul {F : Int} (hF : 1 ≤ F) {b : Ps} (h : Asc b) : Asc (mulK F b) := by
  unfold Asc mulK
  rw [List.pairwise_map]
  exact h.imp fun h => Int.mul_lt_mul_of_pos_right h (by omega)
theorem box_mul {F : Int} (hF : 1 ≤ F) {cs : List Cmd} {goal : Int} (h : AllOk cs) (hg : 1 ≤ goal) :
    boxM (cs.map (Cmd.mul F)) goal = (boxM cs goal).map fun x => (x.1, mulK F x.2) := by
  unfold boxM
  rw [last_mul, ← List.map_reverse]
  have e := go_mul hF cs.reverse (last cs) goal []
  have e' : go (cs.reverse.map (Cmd.mul F)) (last cs * F) goal [] = (go cs.reverse (last cs) goal []).map fun x => (x.1, mulK F x.2) := e
  rw [e']
  rcases go_goF (off := last cs) (allOk_rev h) good_nil hg with ⟨e1, _⟩ | ⟨st, b, e1, g, _, _⟩
  · rw [e1]
    rfl
  · rw [e1]
    show some (st, (mulK F b).mergeSort leK) = some (st, mulK F (b.mergeSort leK))
    have gm := good_mul hF g
    have key : (mulK F b).mergeSort leK = mulK F (b.mergeSort leK) := by
      have p : (mulK F (b.mergeSort leK)).Perm (mulK F b) := (List.mergeSort_perm b leK).map _
      refine asc_ext (asc_sort gm) (asc_mul hF (asc_sort g)) fun k => ?_
      rw [look_perm gm (List.mergeSort_perm _ leK), look_perm gm p]
    rw [key]
def Cmd.vert : Cmd → Bool
  | .down _ => true
  | .up _ => true
  | _ => false
theorem go_plain : ∀ (r : List Cmd) (off need : Int) (b : Ps), (∀ c ∈ r, c.vert = true) → go r off need b = some (some need, b)
  | [], _, _, _, _ => rfl
  | .down n :: r, off, need, b, h => go_plain r (off - n) need b fun c hc => h c (List.mem_cons_of_mem _ hc)
  | .up n :: r, off, need, b, h => go_plain r (off + n) need b fun c hc => h c (List.mem_cons_of_mem _ hc)
  | .right n :: r, _, _, _, h => nomatch h _ List.mem_cons_self
  | .left n :: r, _, _, _, h => nomatch h _ List.mem_cons_self
  | .home :: r, _, _, _, h => nomatch h _ List.mem_cons_self
  | .stop :: r, _, _, _, h => nomatch h _ List.mem_cons_self
theorem box_plain (cs : List Cmd) (goal : Int) (h : ∀ c ∈ cs, c.vert = true) : boxM cs goal = some (some goal, []) := by
  unfold boxM
  rw [go_plain cs.reverse (last cs) goal [] fun c hc => h c (List.mem_reverse.mp hc)]
  show some (some goal, ([] : Ps).mergeSort leK) = _
  rw [List.mergeSort_nil]
end Gc

/-! sorted(d.items()), d a dict of ints by ints -/
namespace Gc
open PySem PySem.Spec PyProof.Rows L2
/-- what such a dict holds -/
def dkI (ps : List (Int × Int)) : List (L2.Key × V) := ps.map fun q => (Sum.inl q.1, V.int q.2)
def encP (q : Int × Int) : PyData := .tuple [.int q.1, .int q.2]
def leP (p q : Int × Int) : Bool := decide (p.1 < q.1 ∨ (p.1 = q.1 ∧ p.2 ≤ q.2))
theorem dkI_at {ps : List (Int × Int)} {j : Nat} {kv : L2.Key × V} (h : (dkI ps)[j]? = some kv) : ∃ q, ps[j]? = some q ∧ kv = (Sum.inl q.1, V.int q.2) := by
  unfold dkI at h
  rw [List.getElem?_map] at h
  cases e : ps[j]? with
  | none =>
    rw [e] at h
    cases h
  | some q =>
    rw [e] at h
    exact ⟨q, rfl, (Option.some.inj h).symm⟩
theorem pairs_at {P : Program} {w : World} : ∀ {es : List DictEntry} {vs : List (L2.Key × Value)} {j : Nat} {e : DictEntry}, Pairs (mixKind P w) es vs → es[j]? = some e →
    ∃ kv, vs[j]? = some kv ∧ keyIs kv.1 e.key = true ∧ e.val = kv.2
  | _, _, 0, e, .cons h1 h2 _, h => by
    obtain rfl := Option.some.inj h
    exact ⟨_, rfl, h1, h2⟩
  | _, _, j + 1, e, .cons _ _ t, h => pairs_at (j := j) t h
theorem pairs_len {P : Program} {w : World} : ∀ {es : List DictEntry} {vs : List (L2.Key × Value)}, Pairs (mixKind P w) es vs → es.length = vs.length
  | _, _, .nil => rfl
  | _, _, .cons _ _ t => by
    rw [List.length_cons, List.length_cons, pairs_len t]
def rSortItI : V → Hp → VK → Prop := fun x H Q => ∃ (d : Addr) (ps : List (Int × Int)), x = .ref d ∧ H d = some (.dK (dkI ps)) ∧
  ∀ (H' : Hp) (l : Addr) (ts : List Addr), Same H H' → H l = none → H' l = some (.lst (ts.map V.ref)) →
    Paired (fun (t : Addr) (q : Int × Int) => H' t = some (.tup [.int q.1, .int q.2])) ts (ps.mergeSort leP) → Q (.ref l) H'
theorem each_paired {R : Value → Int × Int → Prop} {F : Addr → Int × Int → Prop} (hR : ∀ v q, R v q → ∃ t, v = .ref t ∧ F t q) : ∀ {vs : List Value} {qs : List (Int × Int)}, PySem.W.EachIs R vs qs →
    ∃ ts : List Addr, vs = ts.map Value.ref ∧ Paired F ts qs
  | _, _, .nil => ⟨[], rfl, .nil⟩
  | _, _, .cons h t => by
    obtain ⟨t0, e0, f0⟩ := hR _ _ h
    obtain ⟨ts, e1, f1⟩ := each_paired hR t
    exact ⟨t0 :: ts, by rw [e0, e1]; rfl, .cons f0 f1⟩
theorem vals_refs : ∀ as : List Addr, Vals (as.map V.ref) (as.map Value.ref)
  | [] => .nil
  | _ :: as => .cons rfl (vals_refs as)
section
variable {X : Cx}
theorem sort_items_run {pins : List (Addr × Obj)} {σ : L2.St} {H : Hp} {s : Shared} {Q : VK} {p d : Addr} {ps : List (Int × Int)} (I : Inv X pins σ H s) (hh : X.A.handled = none)
    (hu : X.A.units + 64 < cLine) (hd : H d = some (.dK (dkI ps))) (view : s.heap.IsItemsView p d)
    (q : ∀ (H' : Hp) (l : Addr) (ts : List Addr), Same H H' → H l = none → H' l = some (.lst (ts.map V.ref)) →
      Paired (fun (t : Addr) (q : Int × Int) => H' t = some (.tup [.int q.1, .int q.2])) ts (ps.mergeSort leP) → Q (.ref l) H') :
    wpAny (model X.prog X.w) X.A (call (.builtin "sorted") [.ref p]) (EP X pins σ Q) X.xe s := by
  obtain ⟨hz, hs0, vs, kv, o, es, ep, ho, hx, hdat, hko, hpr, hnd⟩ := (show ObjOk X.prog X.w H s.heap d (.dK (dkI ps)) from I.hok d _ hd)
  have l1 : (dkI ps).length = vs.length := Paired.length kv
  have l2 : es.toList.length = vs.length := pairs_len hpr
  have l3 : (dkI ps).length = ps.length := List.length_map ..
  have l4 : es.toList.length = es.size := by simp
  have ent : ∀ (j : Nat) (e : DictEntry), es[j]? = some e → ∃ (q : Int × Int) (t1 t2 : Tok), ps[j]? = some q ∧ e.key = .int q.1 t1 ∧ e.val = .int q.2 t2 := by
    intro j e he
    obtain ⟨kv', e1, e2, e3⟩ := pairs_at hpr (show es.toList[j]? = some e by simpa using he)
    obtain ⟨y, f1, f2, f3⟩ := L2.DX.pget kv e1
    obtain ⟨q, g1, rfl⟩ := dkI_at f1
    have f2' : Sum.inl q.1 = kv'.1 := f2
    rw [← f2'] at e2
    obtain ⟨t1, k1⟩ := Value.isInt_shape (k := q.1) (v := e.key) e2
    obtain ⟨t2, k2⟩ : ∃ t, kv'.2 = Value.int q.2 t := f3
    exact ⟨q, t1, t2, g1, k1, e3.trans k2⟩
  refine DT.sortedI (es := es) (ep := ep) hh view ⟨o, ho, hx, hdat⟩ (by omega) fun h' tk as hk hlt hl hG => ?_
  have nd : as.Nodup := List.Pairwise.imp (fun h => Nat.ne_of_lt h) hG.rise
  have lap : as.length = ps.length := by omega
  have pr : ∀ (j : Nat) (b : Addr), as[j]? = some b → ∃ (q : Int × Int) (t1 t2 : Tok), ps[j]? = some q ∧
      h'.get? b = some { cls := .type "tuple", data := .seq #[Value.int q.1 t1, Value.int q.2 t2] } := by
    intro j b hj
    obtain ⟨e, he, hg⟩ := hG.pairs j b hj
    obtain ⟨q, t1, t2, e1, e2, e3⟩ := ent j e he
    rw [e2, e3] at hg
    exact ⟨q, t1, t2, e1, hg⟩
  have hob : (h'.push { cls := .type "list", data := .seq (as.map Value.ref).toArray }).get? h'.objs.size = some (seqObj "list" (as.map Value.ref).toArray 0) := Heap.get?_push_size _ rfl
  have ne0 : ∀ b o, h'.get? b = some o → b ≠ h'.objs.size := fun b o e => Nat.ne_of_lt (Heap.lt_size e)
  have ka : ∀ b o, h'.get? b = some o → (h'.push { cls := .type "list", data := .seq (as.map Value.ref).toArray }).get? b = some o := fun b o e => Heap.get?_push_of_some _ e
  generalize hh2 : h'.push { cls := .type "list", data := .seq (as.map Value.ref).toArray } = h2 at hob ka ⊢
  have kb : ∀ b o, s.heap.get? b = some o → h2.get? b = some o := fun b o e => ka b o (hk b o e)
  have zipR : ∀ z, z ∈ (as.map Value.ref).zip ps → ∃ (j : Nat) (t : Addr), z.1 = Value.ref t ∧ as[j]? = some t ∧ ps[j]? = some z.2 := by
    intro z hz'
    obtain ⟨j, hj⟩ := List.mem_iff_getElem?.mp hz'
    obtain ⟨j1, j2⟩ := List.getElem?_zip_eq_some.mp hj
    rw [List.getElem?_map] at j1
    cases e : as[j]? with
    | none =>
      rw [e] at j1
      cases j1
    | some t =>
      rw [e] at j1
      exact ⟨j, t, (Option.some.inj j1).symm, e, j2⟩
  have eR : PySem.W.EachIs (fun v (q : Int × Int) => ∃ (j : Nat) (t : Addr), v = Value.ref t ∧ as[j]? = some t ∧ ps[j]? = some q) (as.map Value.ref) ps :=
    PySem.W.EachIs.of_zip (by rw [List.length_map]; exact lap) zipR
  have er : PySem.W.EachIs (fun v (q : Int × Int) => ∃ bs, Reads h2 v (encP q) bs ∧ h'.objs.size ∉ bs) (as.map Value.ref) ps := by
    refine eR.mono fun v q h => ?_
    obtain ⟨j, t, rfl, e1, e2⟩ := h
    obtain ⟨q', t1, t2, g1, g2⟩ := pr j t e1
    obtain rfl : q' = q := Option.some.inj (g1.symm.trans e2)
    exact ⟨_, .tuple (ka _ _ g2) rfl rfl (.cons (.int _ _) (.cons (.int _ _) .nil)), by simp⟩
  refine PySem.W.list_sort_data (s := { s with heap := h2, toks := tk }) (A := X.A.in1) (enc := encP) (bs := ps) (vs := as.map Value.ref) hob eR er
    (PySem.W.AllAlike.of fun b b' => by simp [encP, PySem.W.alike, PySem.W.alikeAll]) (PySem.W.Sortable.tuples fun b => ⟨_, _, rfl⟩) (by omega)
    (fun b _ => by show X.A.units + 1 + 1 + 1 < cLine; omega) fun out ol oe => ?_
  have le_eq : PySem.W.dataLe false encP = leP := PySem.W.dataLe_ii (fun q : Int × Int => q.1) (fun q => q.2)
  rw [le_eq] at oe
  show EP X pins σ Q (.ref h'.objs.size) { s with heap := sortedHeap h2 h'.objs.size (as.map Value.ref) out.toArray, toks := tk }
  obtain ⟨ts, rfl, tp⟩ := each_paired (F := fun t q => ∃ j : Nat, as[j]? = some t ∧ ps[j]? = some q) (fun v q h => by
    obtain ⟨j, t, e1, e2, e3⟩ := h
    exact ⟨t, e1, j, e2, e3⟩) oe
  have kF : ∀ b o, b ≠ h'.objs.size → h2.get? b = some o → (sortedHeap h2 h'.objs.size (as.map Value.ref) (ts.map Value.ref).toArray).get? b = some o :=
    fun b o hb e => (PyProof.Rows.sortedHeap_old hb (Heap.lt_size e)).trans e
  have kS : ∀ b o, s.heap.get? b = some o → (sortedHeap h2 h'.objs.size (as.map Value.ref) (ts.map Value.ref).toArray).get? b = some o :=
    fun b o e => kF b o (ne0 _ _ (hk b o e)) (kb b o e)
  obtain ⟨eF, heF⟩ := PyProof.Rows.sortedHeap_at (vs := as.map Value.ref) (out := (ts.map Value.ref).toArray) hob
  generalize sortedHeap h2 h'.objs.size (as.map Value.ref) (ts.map Value.ref).toArray = hF at kF kS heF ⊢
  have I1 : Inv X pins σ H { s with heap := hF, toks := tk } := I.kept (t' := tk) kS
  have hn0 : H h'.objs.size = none := I.hok.fresh (Nat.le_of_lt hlt)
  have tl : ts.length = ps.length := by
    rw [← ol, List.length_map]
  have I2 : Inv X pins σ (upd H h'.objs.size (.lst (ts.map V.ref))) { s with heap := hF, toks := tk } :=
    I1.take (h' := hF) (t' := tk) (fun b ob _ e => e) (I.fpOk (Nat.le_of_lt hlt) hn0) ⟨by rw [List.length_map]; omega, ts.map Value.ref, eF, vals_refs ts, heF⟩
  obtain ⟨H2, I3, g, qt⟩ := L2.DX.takeT (P := fun b vs => ∃ (j : Nat) (q : Int × Int), as[j]? = some b ∧ ps[j]? = some q ∧ vs = [.int q.1, .int q.2]) I as _ I2 nd fun b hb => by
    obtain ⟨j, hj⟩ := List.mem_iff_getElem?.mp hb
    obtain ⟨q, t1, t2, e1, e2⟩ := pr j b hj
    have old : s.heap.objs.size ≤ b := Nat.le_of_lt (hG.above b hb)
    refine ⟨old, ?_, [.int q.1, .int q.2], ⟨j, q, hj, e1, rfl⟩, fun H3 => ⟨by show 2 ≤ sizeLine; decide, [Value.int q.1 t1, Value.int q.2 t2], .cons ⟨_, rfl⟩ (.cons ⟨_, rfl⟩ .nil), ⟨_, kF _ _ (ne0 _ _ e2) (ka _ _ e2), rfl, 0, rfl⟩⟩⟩
    rw [upd_ne (ne0 _ _ e2)]
    exact I.hok.fresh old
  refine ⟨.ref h'.objs.size, H2, I3, rfl, q H2 h'.objs.size ts (fun b o e => g b o (by rw [upd_ne (ne_of_none e hn0)]; exact e)) hn0 (g _ _ upd_same) ?_⟩
  refine Paired.mapP tp fun t q h => ?_
  obtain ⟨j, j1, j2⟩ := h
  obtain ⟨vs', ⟨i, q', i1, i2, ev⟩, hH⟩ := qt t (List.mem_of_getElem? j1)
  have eij : i = j := (List.getElem?_inj (List.getElem?_eq_some_iff.mp i1).1 nd).mp (i1.trans j1.symm)
  subst eij
  obtain rfl : q' = q := Option.some.inj (i2.symm.trans j2)
  rw [ev] at hH
  exact hH
def tSortItems (te : TE) : TE := fun σ H Q => te σ H fun x H1 => rSortItI x H1 Q
variable {e : Expr} {te : TE} {p apos cpos pos : Pos}
theorem pe_sortItems (hc : X.calm = true) (hu : X.A.units + 64 < cLine) (he : PE X e te) (hg : Gl X "sorted") (hm : X.mg "sorted" = none)
    (hv : bootBuiltins "sorted" = some (.builtin "sorted"))
    (hbase : attributeBase e "items" X.env (eval e X.env) = eval e X.env := by rfl) (hline : (apos.endLine == cpos.line) = true := by rfl)
    (hs : starEach [.Call (.Attribute e "items" apos) [] [] cpos] X.env = (false, eval (.Call (.Attribute e "items" apos) [] [] cpos) X.env) :: starEach [] X.env := by rfl) :
    PE X (.Call (.Name "sorted" p) [.Call (.Attribute e "items" apos) [] [] cpos] [] pos) (tSortItems te) := by
  refine ⟨fun pins s σ H Q I hq => ?_⟩
  refine wpAny_Call_Name_kw (ld_blt I hg hm hv ?_)
  refine PyProof.Rows.callWith_builtin1 ?_ hs rfl
  rw [hs]
  show wpAny _ _ (spliced ((false, eval (.Call (.Attribute e "items" apos) [] [] cpos) X.env) :: backTo pos (starEach [] X.env))) _ _ s
  refine Calls.spliced_cons ?_
  refine wpAny_Call_method (T := "dict") (id := "dict.items") hbase rfl hline F.plainAttrs_dict F.slot_dict_items F.type_dict_items
    (thn (he.run pins s σ H _ I hq) fun u s1 ⟨x, H1, I1, rx, d, ps, ex, hd, q⟩ => ?_)
  subst ex
  obtain rfl : u = Value.ref d := rx
  obtain ⟨hz, hs0, vs, kv, hdo⟩ := I1.hok d _ hd
  have I2 : Inv X pins σ H1 { s1 with heap := s1.heap.push { cls := .type "dict_items", data := .fields #[.ref d] } } :=
    I1.kept (t' := s1.toks) fun b ob z => Heap.get?_push_of_some _ z
  refine ⟨hdo.typeIs, hdo.mapOf.noDict, ?_⟩
  show wpAny _ _ (callWith cpos (.builtin "dict.items") [.ref d] [] []) _ X.xe s1
  refine method_meetsIn F.slot_dict_items F.entry_dict_items rfl (PySem.evalArgs_none ⟨rfl, hdo.typeIs, F.args_dict_items_1 _, _, meets_dict_items (mixKind X.prog X.w) d hs0, ⟨vs, hdo⟩, ?_⟩)
  refine Calls.spliced_nil ?_
  exact sort_items_run I2 (I1.ok.hd hc) hu hd ⟨_, Heap.get?_push_size _ rfl, rfl, rfl⟩ q
end
end Gc

/-! match over written texts, with a last case for the rest -/
namespace Gc
open PySem L2
/-- what is wanted of the cases, by the subject's value -/
abbrev TM := V → TS
structure MC (X : Cx) (cs : List MatchCase) (t : TM) : Prop where
  run : ∀ (first : Bool) (pins : List (Addr × Obj)) (s : Shared) (σ : L2.St) (H : Hp) (D : Ends) (x : V) (v : Value),
    Inv X pins σ H s → RelV x v → t x D σ H →
    wpAny (model X.prog X.w) X.A (matchCases cs X.env v first) (fun f s' => SP X pins D f s') X.xe s
def mNil : TM := fun _ D σ H => D.nx σ H
/-- case 'z': .. -/
def mStr (z : Str) (tb : TS) (r : TM) : TM := fun x D σ H => ∃ y, x = .str y ∧ if decide (y = z) = true then tb D σ H else r x D σ H
/-- case _: .. -/
def mAny (tb : TS) : TM := fun _ D σ H => tb D σ H
section
variable {X : Cx} {rest : List MatchCase} {body : List Stmt} {tb : TS} {r : TM} {z : Str} {k : Nat} {p1 p2 pos : Pos} {e : Expr} {te : TE}
theorem mc_nil : MC X [] mNil := ⟨fun _ pins s σ H D x v I _ h => wpAny_matchCases_nil ⟨σ, H, I, h⟩⟩
theorem mc_str (hb : PSs X body tb) (hr : MC X rest r) :
    MC X (⟨.MatchValue (.Constant (.str z) k p1) p2, none, body⟩ :: rest) (mStr z tb r) := by
  refine ⟨fun first pins s σ H D x v I rx h => ?_⟩
  obtain ⟨y, rfl, h⟩ := h
  refine wpAny_matchCases_cons (wpAny_matchPattern_Value ?_)
  have hq : PE X (.Constant (.str z) k p1) (tC (.str z)) := pe_str
  refine wpAny_mono (hq.run pins s σ H (fun w H' => w = .str z ∧ H' = H) I ⟨rfl, rfl⟩) (fun u s1 hu => ?_) fun _ _ q => q
  obtain ⟨w, H1, I1, rw1, rfl, rfl⟩ := hu
  refine wpAny_mono ((op_eq (X := X)) pins s1 σ _ (.str y) (.str z) v u (fun w H' => w = .bl (decide (y = z)) ∧ H' = _) I1 rx rw1 ⟨rfl, ?_, rfl⟩) (fun c s2 hc => ?_) fun _ _ q => q
  · by_cases q : y = z
    · subst q
      rw [decide_eq_true (Eq.refl _), decide_eq_true (Eq.refl _)]
    · rw [decide_eq_false q, decide_eq_false fun e => q (V.str.inj e)]
  · obtain ⟨w, H2, I2, rw2, rfl, rfl⟩ := hc
    obtain rfl : c = Value.bool (decide (y = z)) := rw2
    refine wpAny_pure ?_
    by_cases q : y = z
    · rw [decide_eq_true q] at h ⊢
      show wpAny _ _ (assignInOrder [] []) _ _ _
      refine wpAny_assignInOrder_none ?_
      exact hb.run pins s2 σ _ D I2 h
    · rw [decide_eq_false q] at h ⊢
      exact hr.run false pins s2 σ _ D (.str y) v I2 rx h
theorem mc_any (hb : PSs X body tb) : MC X (⟨.MatchAs none none p2, none, body⟩ :: rest) (mAny tb) := by
  refine ⟨fun first pins s σ H D x v I rx h => ?_⟩
  refine wpAny_matchCases_cons (wpAny_matchPattern_Capture ?_)
  show wpAny _ _ (assignInOrder [] []) _ _ _
  exact wpAny_assignInOrder_none (hb.run pins s σ H D I h)
def tMatch (te : TE) (t : TM) : TS := fun D σ H => te σ H fun x H1 => t x D σ H1
theorem ps_match {cs : List MatchCase} {t : TM} (he : PE X e te) (hc : MC X cs t) : PS X (.Match e cs pos) (tMatch te t) := by
  refine ⟨fun pins s σ H D I h => ?_⟩
  refine wpAny_Match (wpAny_mono (he.run pins s σ H _ I h) (fun v s1 hv => ?_) fun _ _ q => q)
  obtain ⟨x, H1, I1, rx, q⟩ := hv
  exact hc.run true pins s1 σ H1 D x v I1 rx q
end
end Gc

namespace Gc
open PySem PyProof.Rows L2
/-! ### commands as tuples -/
def encC : Cmd → List V
  | .down n => [.str "down", .int n]
  | .up n => [.str "up", .int n]
  | .right n => [.str "right", .int n]
  | .left n => [.str "left", .int n]
  | .home => [.str "home"]
  | .stop => [.str "end"]
def CmdAt (K : PySem.W.Frag) (H : Hp) (v : V) (c : Cmd) : Prop := ∃ a, v = .ref a ∧ SqT K H a (encC c)
def CmdsOf (K : PySem.W.Frag) (H : Hp) (xs : List V) (cs : List Cmd) : Prop := Paired (CmdAt K H) xs cs
theorem CmdAt.same {K : PySem.W.Frag} {H H' : Hp} {v : V} {c : Cmd} (e : Same H H') (h : CmdAt K H v c) : CmdAt K H' v c := by
  obtain ⟨a, e1, h1⟩ := h
  exact ⟨a, e1, seq_t e h1⟩
theorem CmdsOf.same {K : PySem.W.Frag} {H H' : Hp} {xs : List V} {cs : List Cmd} (e : Same H H') (h : CmdsOf K H xs cs) : CmdsOf K H' xs cs := Paired.mapP h fun _ _ q => q.same e
theorem CmdsOf.len {K : PySem.W.Frag} {H : Hp} {xs : List V} {cs : List Cmd} (h : CmdsOf K H xs cs) : xs.length = cs.length := Paired.length h
theorem paired_at {α β : Type} {F : α → β → Prop} : ∀ {xs : List α} {ys : List β} {i : Nat} {x : α}, Paired F xs ys → xs[i]? = some x → ∃ y, ys[i]? = some y ∧ F x y
  | _, _, _, _, .nil, h => by simp at h
  | _, _, 0, x, .cons f _, h => by
    obtain rfl := Option.some.inj h
    exact ⟨_, rfl, f⟩
  | _, _, i + 1, x, .cons _ t, h => paired_at (i := i) t h
/-! ### dicts of ints by ints -/
theorem valV_dkI : ∀ (b : Ps) (k : Int), valV (dkI b) (Sum.inl k : L2.Key) = (look b k).map V.int
  | [], k => rfl
  | q :: b, k => by
    show valV (((Sum.inl q.1 : L2.Key), V.int q.2) :: dkI b) (Sum.inl k : L2.Key) = _
    rw [look_cons]
    by_cases h : q.1 = k
    · rw [if_pos h, valV_pos (by show (Sum.inl q.1 : L2.Key) = Sum.inl k; rw [h])]
      rfl
    · rw [if_neg h, valV_neg (by intro z; exact h (Sum.inl.inj z))]
      exact valV_dkI b k
theorem putK_dkI (b : Ps) (k v : Int) : putK (dkI b) (Sum.inl k : L2.Key) (V.int v) = dkI (put b k v) := by
  have ea : ((dkI b).any fun kv => decide (kv.1 = (Sum.inl k : L2.Key))) = b.any fun q => decide (q.1 = k) := by
    unfold dkI
    rw [List.any_map]
    congr 1
    funext q
    show decide ((Sum.inl q.1 : L2.Key) = Sum.inl k) = decide (q.1 = k)
    exact decide_eq_decide.mpr ⟨Sum.inl.inj, fun h => by rw [h]⟩
  unfold putK put
  rw [ea]
  by_cases h : (b.any fun q => decide (q.1 = k)) = true
  · rw [if_pos h, if_pos h]
    unfold dkI
    rw [List.map_map, List.map_map]
    refine List.map_congr_left fun q _ => ?_
    show (if (Sum.inl q.1 : L2.Key) = Sum.inl k then ((Sum.inl q.1 : L2.Key), V.int v) else (Sum.inl q.1, V.int q.2)) = (Sum.inl (if q.1 = k then (q.1, v) else q).1, V.int (if q.1 = k then (q.1, v) else q).2)
    by_cases e : q.1 = k
    · rw [if_pos e, if_pos (by rw [e])]
    · rw [if_neg e, if_neg fun z => e (Sum.inl.inj z)]
  · rw [if_neg h, if_neg h]
    unfold dkI
    rw [List.map_append]
    rfl
theorem put_len (b : Ps) (k v : Int) : (put b k v).length ≤ b.length + 1 := by
  unfold put
  split
  · rw [List.length_map]
    exact Nat.le_succ _
  · rw [List.length_append]
    exact Nat.le_refl _
theorem req_len (b : Ps) (o v : Int) : (req b o v).length ≤ b.length + 1 := put_len b o _
end Gc

namespace Gc
open PySem L2
def top (i : Nat) : Stmt := PySem.Challenge.pw_goalcolumn_k19_boxes_answer.main.body.getD i (.Pass ⟨0, 0, 0, 0⟩)
abbrev s_is_count : Stmt := top 16
abbrev s_is_command : Stmt := top 15
abbrev s_check_commands : Stmt := top 14
abbrev s_row_change : Stmt := top 20
structure TxtB (K : PySem.W.Frag) (mg : Str → Option Value) (wo wn : Addr) : Prop where
  g_WITHOUT_NUMBER : mg "WITHOUT_NUMBER" = some (.ref wo)
  g_WITH_NUMBER : mg "WITH_NUMBER" = some (.ref wn)
  tWO : ∀ H, SqT K H wo [.str "home", .str "end"]
  tWN : ∀ H, SqT K H wn [.str "down", .str "up", .str "right", .str "left"]
  isinstance : mg "isinstance" = none
  int : mg "int" = none
  bool : mg "bool" = none
  len : mg "len" = none
  enumerate : mg "enumerate" = none
  reversed : mg "reversed" = none
  sorted : mg "sorted" = none
  max : mg "max" = none
  min : mg "min" = none
def spCount : Sp := fun vs H Q _ => ∃ n : Int, vs = [.int n] ∧ 1 ≤ n ∧ Q (.bl true) H
def spIsCmd (K : PySem.W.Frag) : Sp := fun vs H Q _ => ∃ (v : V) (c : Cmd), vs = [v] ∧ CmdAt K H v c ∧ c.ok ∧ ∀ H', Same H H' → Q (.bl true) H'
def spCheck (K : PySem.W.Frag) : Sp := fun vs H Q _ => ∃ (l : Addr) (xs : List V) (cs : List Cmd), vs = [.ref l] ∧ SqL K H l xs ∧ CmdsOf K H xs cs ∧ AllOk cs ∧ cs.length ≤ 10000 ∧ ∀ H', Same H H' → Q .non H'
def spRow (K : PySem.W.Frag) : Sp := fun vs H Q _ => ∃ (v : V) (c : Cmd), vs = [v] ∧ CmdAt K H v c ∧ Q (.int c.dv) H
theorem q_in {H : Hp} {Q : VK} {x : V} {xs : List V} (h : inV x xs = true) (k : Q (.bl true) H) : Q (.bl (if (false : Bool) = true then !inV x xs else inV x xs)) H := by
  rw [if_neg Bool.false_ne_true, h]
  exact k
theorem take_snoc {α : Type} : ∀ {l : List α} {i : Nat} {x : α}, l[i]? = some x → l.take (i + 1) = l.take i ++ [x]
  | [], i, x, h => by simp at h
  | a :: l, 0, x, h => by
    obtain rfl := Option.some.inj h
    rfl
  | a :: l, i + 1, x, h => by
    have ih := take_snoc (l := l) (i := i) (x := x) h
    show a :: l.take (i + 1) = a :: l.take i ++ [x]
    rw [ih]
    rfl
def optV : Option Int → V
  | none => .non
  | some n => .int n
theorem m_no {y z : Str} {tb : TS} {r : TM} {D : Ends} {σ : L2.St} {H : Hp} (h : decide (y = z) = false) (q : r (.str y) D σ H) : mStr z tb r (.str y) D σ H := ⟨y, rfl, by rw [h]; exact iteF q⟩
theorem m_yes {y z : Str} {tb : TS} {r : TM} {D : Ends} {σ : L2.St} {H : Hp} (h : decide (y = z) = true) (q : tb D σ H) : mStr z tb r (.str y) D σ H := ⟨y, rfl, by rw [h]; exact iteT q⟩
section
variable {P : Program} {w : World} {K : PySem.W.Frag} {mg : Str → Option Value} {base : Heap} {wo wn : Addr}
theorem sc_is_count : FnScope ["number"] ["number"] (defScope s_is_count) := ⟨rfl, rfl, rfl, by decide +kernel, rfl, by decide +kernel, by decide +kernel⟩
theorem ok_is_count {f : Addr} {fd : FuncData} (F : Fun K "is_count" "is_count" s_is_count f fd) (T : TxtB K mg wo wn) : FnOk P w K mg base CX0 1 f fd ["number"] spCount := by
  refine F.ok sc_is_count (fun vs H Q E h => ?_) (fun cdv A outer s H vs Q E hr h => ?_)
  · obtain ⟨n, rfl, _⟩ := h
    rfl
  · obtain ⟨n, rfl, hn, k⟩ := h
    refine ⟨_, (pss_one (ps_ret (pe_and (pe_callB call_isi (by rfl) T.isinstance (by decide +kernel) (pa_cons (pv 0) (pa_cons (pe_bltn (v := .ty "int") (u := .type "int") (by rfl) T.int (by decide +kernel) rfl) pa_nil))) (pe_and (pe_not (pe_callB call_isi (by rfl) T.isinstance (by decide +kernel) (pa_cons (pv 0) (pa_cons (pe_bltn (v := .ty "bool") (u := .type "bool") (by rfl) T.bool (by decide +kernel) rfl) pa_nil)))) (pe_one (pe_cmpR op_ge (pv 0) pe_int (nomark _))))))), ?_⟩
    refine ⟨_, rfl, _, _, _, _, _, rfl, .ty "int", .base (.int n), kit_ty (show kitB "int" "int" = some true by decide +kernel), _, rfl, iteT ?_⟩
    refine ⟨_, rfl, _, _, _, _, _, rfl, .ty "bool", .base (.int n), kit_ty (show kitB "int" "bool" = some false by decide +kernel), _, rfl, _, rfl, iteT ?_⟩
    refine ⟨_, rfl, _, _, rfl, rfl, ?_⟩
    show Q (.bl (decide (1 ≤ n))) H
    rw [decide_eq_true hn]
    exact k
theorem sc_is_command : FnScope ["command"] ["command"] (defScope s_is_command) := ⟨rfl, rfl, rfl, by decide +kernel, rfl, by decide +kernel, by decide +kernel⟩
theorem ok_is_command {f : Addr} {fd : FuncData} (F : Fun K "is_command" "is_command" s_is_command f fd) (T : TxtB K mg wo wn) (c_is_count : Cal P w K mg base 1 "is_count" spCount) : FnOk P w K mg base CX0 2 f fd ["command"] (spIsCmd K) := by
  refine F.ok sc_is_command (fun vs H Q E h => ?_) (fun cdv A outer s H vs Q E hr h => ?_)
  · obtain ⟨v, c, rfl, _⟩ := h
    rfl
  · obtain ⟨v, c, rfl, ⟨a, rfl, ha⟩, hc, k⟩ := h
    refine ⟨_, (pss_cons (ps_if (pt_cmpR op_eq (pe_callB call_len_seq (by rfl) T.len (by decide +kernel) (pa_cons (pv 0) pa_nil)) pe_int (nomark _)) (pss_one (ps_ret (pe_cmpR op_in_seq (pe_ix ix_tup (pv 0) pe_int (fun _ _ => rfl)) (pe_glob (v := .ref wo) (by rfl) T.g_WITHOUT_NUMBER rfl) (by rfl)))) pss_nil)
      (pss_one (ps_ret (pe_and (pe_cmpR op_eq (pe_callB call_len_seq (by rfl) T.len (by decide +kernel) (pa_cons (pv 0) pa_nil)) pe_int (nomark _)) (pe_and (pe_cmpR op_in_seq (pe_ix ix_tup (pv 0) pe_int (fun _ _ => rfl)) (pe_glob (v := .ref wn) (by rfl) T.g_WITH_NUMBER rfl) (by rfl)) (pe_one (pe_cal c_is_count hr (by decide) (by rfl) (pa_cons (pe_ix ix_tup (pv 0) pe_int (fun _ _ => rfl)) pa_nil)))))))), ?_⟩
    have k0 := k H (Same.refl H)
    cases c with
    | down n =>
      refine ⟨_, rfl, a, _, rfl, .inr ha, rfl, _, rfl, iteF ?_⟩
      refine ⟨_, rfl, a, _, rfl, .inr ha, rfl, _, rfl, iteT ?_⟩
      refine ⟨_, rfl, a, _, 0, _, rfl, rfl, ha, rfl, wn, _, rfl, .inr (T.tWN _), rfl, rfl, true, by decide +kernel, iteT ?_⟩
      exact ⟨_, rfl, a, _, 1, _, rfl, rfl, ha, rfl, n, rfl, hc, k0⟩
    | up n =>
      refine ⟨_, rfl, a, _, rfl, .inr ha, rfl, _, rfl, iteF ?_⟩
      refine ⟨_, rfl, a, _, rfl, .inr ha, rfl, _, rfl, iteT ?_⟩
      refine ⟨_, rfl, a, _, 0, _, rfl, rfl, ha, rfl, wn, _, rfl, .inr (T.tWN _), rfl, rfl, true, by decide +kernel, iteT ?_⟩
      exact ⟨_, rfl, a, _, 1, _, rfl, rfl, ha, rfl, n, rfl, hc, k0⟩
    | right n =>
      refine ⟨_, rfl, a, _, rfl, .inr ha, rfl, _, rfl, iteF ?_⟩
      refine ⟨_, rfl, a, _, rfl, .inr ha, rfl, _, rfl, iteT ?_⟩
      refine ⟨_, rfl, a, _, 0, _, rfl, rfl, ha, rfl, wn, _, rfl, .inr (T.tWN _), rfl, rfl, true, by decide +kernel, iteT ?_⟩
      exact ⟨_, rfl, a, _, 1, _, rfl, rfl, ha, rfl, n, rfl, hc, k0⟩
    | left n =>
      refine ⟨_, rfl, a, _, rfl, .inr ha, rfl, _, rfl, iteF ?_⟩
      refine ⟨_, rfl, a, _, rfl, .inr ha, rfl, _, rfl, iteT ?_⟩
      refine ⟨_, rfl, a, _, 0, _, rfl, rfl, ha, rfl, wn, _, rfl, .inr (T.tWN _), rfl, rfl, true, by decide +kernel, iteT ?_⟩
      exact ⟨_, rfl, a, _, 1, _, rfl, rfl, ha, rfl, n, rfl, hc, k0⟩
    | home =>
      refine ⟨_, rfl, a, _, rfl, .inr ha, rfl, _, rfl, iteT ?_⟩
      refine ⟨_, rfl, a, _, 0, _, rfl, rfl, ha, rfl, wo, _, rfl, .inr (T.tWO _), rfl, rfl, ?_⟩
      exact q_in (by decide +kernel) k0
    | stop =>
      refine ⟨_, rfl, a, _, rfl, .inr ha, rfl, _, rfl, iteT ?_⟩
      refine ⟨_, rfl, a, _, 0, _, rfl, rfl, ha, rfl, wo, _, rfl, .inr (T.tWO _), rfl, rfl, ?_⟩
      exact q_in (by decide +kernel) k0
theorem sc_row_change : FnScope ["command"] ["command"] (defScope s_row_change) := ⟨rfl, rfl, rfl, by decide +kernel, rfl, by decide +kernel, by decide +kernel⟩
theorem ok_row_change {f : Addr} {fd : FuncData} (F : Fun K "row_change" "row_change" s_row_change f fd) : FnOk P w K mg base CX0 1 f fd ["command"] (spRow K) := by
  refine F.ok sc_row_change (fun vs H Q E h => ?_) (fun cdv A outer s H vs Q E hr h => ?_)
  · obtain ⟨v, c, rfl, _⟩ := h
    rfl
  · obtain ⟨v, c, rfl, ⟨a, rfl, ha⟩, k⟩ := h
    refine ⟨_, (pss_cons (ps_if (pt_cmpR op_eq (pe_ix ix_tup (pv 0) pe_int (fun _ _ => rfl)) pe_str (nomark _)) (pss_one (ps_ret (pe_ix ix_tup (pv 0) pe_int (fun _ _ => rfl)))) pss_nil)
      (pss_cons (ps_if (pt_cmpR op_eq (pe_ix ix_tup (pv 0) pe_int (fun _ _ => rfl)) pe_str (nomark _)) (pss_one (ps_ret (pe_un un_neg (pe_ix ix_tup (pv 0) pe_int (fun _ _ => rfl))))) pss_nil)
      (pss_one (ps_ret pe_int)))), ?_⟩
    cases c with
    | down n =>
      refine ⟨_, rfl, a, _, 0, _, rfl, rfl, ha, rfl, rfl, true, by decide +kernel, iteT ?_⟩
      exact ⟨_, rfl, a, _, 1, _, rfl, rfl, ha, rfl, k⟩
    | up n =>
      refine ⟨_, rfl, a, _, 0, _, rfl, rfl, ha, rfl, rfl, false, by decide +kernel, iteF ?_⟩
      refine ⟨_, rfl, a, _, 0, _, rfl, rfl, ha, rfl, rfl, true, by decide +kernel, iteT ?_⟩
      exact ⟨_, rfl, a, _, 1, _, rfl, rfl, ha, rfl, n, rfl, k⟩
    | right n =>
      refine ⟨_, rfl, a, _, 0, _, rfl, rfl, ha, rfl, rfl, false, by decide +kernel, iteF ?_⟩
      refine ⟨_, rfl, a, _, 0, _, rfl, rfl, ha, rfl, rfl, false, by decide +kernel, iteF ?_⟩
      exact k
    | left n =>
      refine ⟨_, rfl, a, _, 0, _, rfl, rfl, ha, rfl, rfl, false, by decide +kernel, iteF ?_⟩
      refine ⟨_, rfl, a, _, 0, _, rfl, rfl, ha, rfl, rfl, false, by decide +kernel, iteF ?_⟩
      exact k
    | home =>
      refine ⟨_, rfl, a, _, 0, _, rfl, rfl, ha, rfl, rfl, false, by decide +kernel, iteF ?_⟩
      refine ⟨_, rfl, a, _, 0, _, rfl, rfl, ha, rfl, rfl, false, by decide +kernel, iteF ?_⟩
      exact k
    | stop =>
      refine ⟨_, rfl, a, _, 0, _, rfl, rfl, ha, rfl, rfl, false, by decide +kernel, iteF ?_⟩
      refine ⟨_, rfl, a, _, 0, _, rfl, rfl, ha, rfl, rfl, false, by decide +kernel, iteF ?_⟩
      exact k
theorem sc_check_commands : FnScope ["commands", "index", "command"] ["commands"] (defScope s_check_commands) := ⟨rfl, rfl, rfl, by decide +kernel, rfl, by decide +kernel, by decide +kernel⟩
theorem ok_check_commands {f : Addr} {fd : FuncData} (F : Fun K "check_commands" "check_commands" s_check_commands f fd) (T : TxtB K mg wo wn) (c_is_command : Cal P w K mg base 2 "is_command" (spIsCmd K)) : FnOk P w K mg base CX0 3 f fd ["commands"] (spCheck K) := by
  refine F.ok sc_check_commands (fun vs H Q E h => ?_) (fun cdv A outer s H vs Q E hr h => ?_)
  · obtain ⟨l, xs, cs, rfl, _⟩ := h
    rfl
  · obtain ⟨l, xs, cs, rfl, hl, hcs, hk, hn, k⟩ := h
    refine ⟨_, (pss_one (ps_for PassesOwn.never rfl (pi_enum (by rfl) T.enumerate (pa_cons (pv 0) pa_nil)) (pg_tup rfl (pgs_cons (pg_name (i := 1) sc_check_commands.nd rfl (Or.inl rfl)) (pgs_cons (pg_name (i := 2) sc_check_commands.nd rfl (Or.inl rfl)) pgs_nil))) (pss_one (ps_if (pt_not (pt_val (pe_cal c_is_command hr (by decide) (by rfl) (pa_cons (pv 2) pa_nil)))) (pss_one ps_never) pss_nil)))), ?_⟩
    refine ⟨_, rfl, l, xs, rfl, hl, for_it (walk_enum (K := K) (a := l) (xs := xs)) (fun i σ H' => ∃ v1 v2 : Option V, σ = [some (.ref l), v1, v2] ∧ Same H H')
      ⟨none, none, rfl, Same.refl H⟩ (fun i σ H' _ ⟨_, _, _, e⟩ => e.seq hl) (fun i x σ H1 H2 hi h y => ?_) (fun σ H1 h => ?_)⟩
    · obtain ⟨v1, v2, rfl, e⟩ := h
      obtain ⟨T1, x1, y1, rfl, nT, rfl, e1, e2⟩ := y
      obtain ⟨c, hc, hca⟩ := paired_at hcs e2
      have eT : Same H (upd H1 T1 (.tup [x1, y1])) := same_upd e nT
      refine ⟨T1, _, rfl, SqT.of upd_same, rfl, _, _, rfl, _, _, rfl, rfl, ?_⟩
      refine ⟨_, rfl, y1, c, rfl, hca.same eT, hk c (List.mem_of_getElem? hc), fun H3 e3 => ⟨_, rfl, iteF ?_⟩⟩
      exact ⟨_, _, rfl, eT.trans e3⟩
    · obtain ⟨v1, v2, rfl, e⟩ := h
      exact k _ e
end
end Gc

/-! heaps, lengths of boxes, dicts out of pairs -/
namespace Gc
open PySem L2
theorem same_freeU {H H' : Hp} {d : Addr} {o : HO} (e : Same H H') (h : H d = none) : Same H (upd H' d o) := fun b u hb => by
  rw [upd_ne (ne_of_none hb h)]
  exact e b u hb
theorem go_len : ∀ {r : List Cmd} {off need : Int} {b : Ps} {st : Option Int} {b' : Ps}, go r off need b = some (st, b') → b'.length ≤ b.length + r.length
  | [], _, _, b, _, _, h => by cases h; exact Nat.le_refl _
  | .home :: r, _, _, b, _, _, h => by cases h
  | .stop :: r, _, _, b, _, _, h => by cases h; exact Nat.le_add_right _ _
  | .right n :: r, off, need, b, st, b', h => by
    have q := req_len b off need
    rw [List.length_cons]
    simp only [go] at h
    split at h
    · have := go_len h
      omega
    · cases h
      omega
  | .left n :: r, off, need, b, st, b', h => by
    have q := req_len b off (need + n)
    rw [List.length_cons]
    simp only [go] at h
    have := go_len h
    omega
  | .down n :: r, off, need, b, st, b', h => by
    rw [List.length_cons]
    simp only [go] at h
    have := go_len h
    omega
  | .up n :: r, off, need, b, st, b', h => by
    rw [List.length_cons]
    simp only [go] at h
    have := go_len h
    omega
theorem box_len {cs : List Cmd} {goal : Int} {st : Option Int} {L : Ps} (h : boxM cs goal = some (st, L)) : L.length ≤ cs.length := by
  unfold boxM at h
  cases e : go cs.reverse (last cs) goal [] with
  | none =>
    rw [e] at h
    cases h
  | some x =>
    rw [e] at h
    obtain ⟨st', b'⟩ := x
    have q := go_len e
    have h' : (st', b'.mergeSort leK) = (st, L) := Option.some.inj h
    cases h'
    rw [List.length_mergeSort]
    rw [List.length_reverse, List.length_nil] at q
    omega
theorem merge_dkI : ∀ (b acc : Ps), (keys acc ++ keys b).Nodup → mergeK (dkI acc) (dkI b) = dkI (acc ++ b)
  | [], acc, _ => by rw [List.append_nil]; rfl
  | q :: b, acc, h => by
    have nq : q.1 ∉ keys acc := fun z => by
      have := (List.nodup_append.mp h).2.2 q.1 z q.1 List.mem_cons_self
      exact this rfl
    show mergeK (putK (dkI acc) (Sum.inl q.1 : L2.Key) (.int q.2)) (dkI b) = _
    rw [putK_dkI]
    have e : put acc q.1 q.2 = acc ++ [q] := by
      unfold put
      rw [if_neg fun z => nq ((any_key acc q.1).mp z)]
    rw [e, merge_dkI b (acc ++ [q]) (by
      have e2 : keys (acc ++ [q]) ++ keys b = keys acc ++ keys (q :: b) := by
        unfold keys
        simp
      rw [e2]
      exact h), List.append_assoc]
    rfl
theorem paired_dkI {K : PySem.W.Frag} {H : Hp} : ∀ {ps : List Addr} {qs : Ps}, Paired (fun (p : Addr) (q : Int × Int) => H p = some (.tup [.int q.1, .int q.2])) ps qs → Paired (fun (p : Addr) (kv : L2.Key × V) => SqT K H p [kV kv.1, kv.2]) ps (dkI qs)
  | _, _, .nil => .nil
  | _, _, .cons h t => .cons (SqT.of h) (paired_dkI t)
theorem ref_at {ts : List Addr} {i : Nat} {x : V} (h : (ts.map V.ref)[i]? = some x) : ∃ t, ts[i]? = some t ∧ x = .ref t := by
  rw [List.getElem?_map] at h
  cases e : ts[i]? with
  | none =>
    rw [e] at h
    cases h
  | some t =>
    rw [e] at h
    exact ⟨t, rfl, (Option.some.inj h).symm⟩
theorem dki_len (b : Ps) : (dkI b).length = b.length := List.length_map ..
end Gc

/-! what repr wants of the data that the laws show -/
namespace Gc
open PySem PySem.Spec PyProof.Rows L2
def Sml (x : Int) : Prop := x.natAbs < 2 ^ 120
theorem sml_log {x : Int} (h : Sml x) : x.natAbs.log2 < 121 := Nat.lt_of_lt_of_le (PySem.Flt.log2_lt_of (k := 121) (by decide) (Nat.lt_trans h (by decide))) (Nat.le_refl _)
theorem sml_show {x : Int} (h : Sml x) : (PyData.int x).showable = true := by
  have := sml_log h
  simp only [PyData.showable, decide_eq_true_eq]
  omega
theorem sml_short {x : Int} (h : Sml x) : (PyData.int x).leavesShort 130 = true := by
  have e := int_text_length_le (k := 121) (by decide) (sml_log h)
  have e' : (PyData.shown (.int x)).length ≤ 130 := by
    have e2 : (PyData.shown (.int x)).length = (toString x).length := by
      show (Str.ofString (toString x)).length = _
      rw [PySem.ofString_length]
    omega
  simpa only [PyData.leavesShort, decide_eq_true_eq] using e'
theorem sml_weight {x : Int} (h : Sml x) : (PyData.int x).weight ≤ 122 := by
  have := sml_log h
  simp only [PyData.weight]
  split <;> omega
def Ok0 (d : PyData) : Prop := d.showable = true ∧ d.hasDict = false ∧ d.leavesShort 130 = true
def Ok0s (ds : List PyData) : Prop := PyData.showableAll ds = true ∧ PyData.hasDictAll ds = false ∧ PyData.leavesShortAll 130 ds = true
theorem ok0_int {x : Int} (h : Sml x) : Ok0 (.int x) := ⟨sml_show h, by simp only [PyData.hasDict], sml_short h⟩
theorem ok0_nil : Ok0s [] := ⟨by simp only [PyData.showableAll], by simp only [PyData.hasDictAll], by simp only [PyData.leavesShortAll]⟩
theorem ok0_cons {d : PyData} {ds : List PyData} (h : Ok0 d) (t : Ok0s ds) : Ok0s (d :: ds) := by
  obtain ⟨a1, a2, a3⟩ := h
  obtain ⟨b1, b2, b3⟩ := t
  refine ⟨?_, ?_, ?_⟩
  · simp only [PyData.showableAll, a1, b1, Bool.and_self]
  · simp only [PyData.hasDictAll, a2, b2, Bool.or_self]
  · simp only [PyData.leavesShortAll, a3, b3, Bool.and_self]
theorem ok0_list {ds : List PyData} (h : Ok0s ds) : Ok0 (.list ds) := by
  obtain ⟨b1, b2, b3⟩ := h
  refine ⟨?_, ?_, ?_⟩
  · simpa only [PyData.showable] using b1
  · simpa only [PyData.hasDict] using b2
  · simpa only [PyData.leavesShort] using b3
theorem ok0_tup {ds : List PyData} (h : Ok0s ds) : Ok0 (.tuple ds) := by
  obtain ⟨b1, b2, b3⟩ := h
  refine ⟨?_, ?_, ?_⟩
  · simpa only [PyData.showable] using b1
  · simpa only [PyData.hasDict] using b2
  · simpa only [PyData.leavesShort] using b3
theorem ok0_len {d : PyData} (h : Ok0 d) (w : d.weight ≤ 100000) : d.shown.length ≤ sizeLine := by
  have e := PyData.shown_le 130 (by decide) d h.2.2
  rw [sizeLine_eq]
  have : (130 + 2) * d.weight ≤ (130 + 2) * 100000 := Nat.mul_le_mul_left _ w
  omega
theorem ok0_ints : ∀ {T : List Int}, (∀ x ∈ T, Sml x) → Ok0s (T.map PyData.int)
  | [], _ => ok0_nil
  | x :: T, h => ok0_cons (ok0_int (h x List.mem_cons_self)) (ok0_ints fun y hy => h y (List.mem_cons_of_mem _ hy))
theorem weight_ints : ∀ {T : List Int}, (∀ x ∈ T, Sml x) → PyData.weightAll (T.map PyData.int) ≤ 123 * T.length
  | [], _ => by simp [PyData.weightAll]
  | x :: T, h => by
    have a := sml_weight (h x List.mem_cons_self)
    have b := weight_ints (T := T) fun y hy => h y (List.mem_cons_of_mem _ hy)
    simp only [List.map_cons, PyData.weightAll, List.length_cons]
    omega
theorem deep_ints : ∀ T : List Int, PyData.depthAll (T.map PyData.int) = 0
  | [] => by simp [PyData.depthAll]
  | x :: T => by simp [PyData.depthAll, PyData.depth, deep_ints T]
/-- a text and a cursor -/
def textD (T : List Int) (r a : Int) : PyData := .tuple [.list (T.map PyData.int), .tuple [.int r, .int a]]
theorem textD_ok {T : List Int} {r a : Int} (hT : ∀ x ∈ T, Sml x) (hr : Sml r) (ha : Sml a) (l : T.length ≤ 500) : (textD T r a).showable = true ∧ (textD T r a).hasDict = false ∧ (textD T r a).depth ≤ 60 ∧ (textD T r a).shown.length ≤ sizeLine := by
  have o : Ok0 (textD T r a) := ok0_tup (ok0_cons (ok0_list (ok0_ints hT)) (ok0_cons (ok0_tup (ok0_cons (ok0_int hr) (ok0_cons (ok0_int ha) ok0_nil))) ok0_nil))
  refine ⟨o.1, o.2.1, ?_, ok0_len o ?_⟩
  · simp only [textD, PyData.depth, PyData.depthAll, deep_ints]
    omega
  · have a1 := weight_ints hT
    have a2 := sml_weight hr
    have a3 := sml_weight ha
    simp only [PyData.weight] at a2 a3
    simp only [textD, PyData.weight, PyData.weightAll]
    omega
/-! ### commands as data -/
def cmdD : Cmd → PyData
  | .down n => .tuple [.str "down", .int n]
  | .up n => .tuple [.str "up", .int n]
  | .right n => .tuple [.str "right", .int n]
  | .left n => .tuple [.str "left", .int n]
  | .home => .tuple [.str "home"]
  | .stop => .tuple [.str "end"]
theorem CmdAt.dp {K : PySem.W.Frag} {H : Hp} {v : V} {c : Cmd} (h : CmdAt K H v c) : Dp K H v (cmdD c) := by
  obtain ⟨a, rfl, h⟩ := h
  cases c with
  | down n => exact .tup h (.cons (.str _) (.cons (.int n) .nil))
  | up n => exact .tup h (.cons (.str _) (.cons (.int n) .nil))
  | right n => exact .tup h (.cons (.str _) (.cons (.int n) .nil))
  | left n => exact .tup h (.cons (.str _) (.cons (.int n) .nil))
  | home => exact .tup h (.cons (.str _) .nil)
  | stop => exact .tup h (.cons (.str _) .nil)
theorem CmdsOf.dp {K : PySem.W.Frag} {H : Hp} : ∀ {xs : List V} {cs : List Cmd}, CmdsOf K H xs cs → DpAll K H xs (cs.map cmdD)
  | _, _, .nil => .nil
  | _, _, .cons h t => .cons h.dp (CmdsOf.dp t)
def CSml : Cmd → Prop
  | .down n => Sml n
  | .up n => Sml n
  | .right n => Sml n
  | .left n => Sml n
  | _ => True
theorem ok0_str {x : Str} (h : (PyData.str x).leavesShort 130 = true) : Ok0 (.str x) := ⟨by simp only [PyData.showable], by simp only [PyData.hasDict], h⟩
theorem cmdD_ok {c : Cmd} (h : CSml c) : Ok0 (cmdD c) ∧ (cmdD c).weight ≤ 200 ∧ (cmdD c).depth ≤ 5 := by
  cases c with
  | down n =>
    have w := sml_weight h
    refine ⟨ok0_tup (ok0_cons (ok0_str (by decide +kernel)) (ok0_cons (ok0_int h) ok0_nil)), ?_, by simp [cmdD, PyData.depth, PyData.depthAll]⟩
    have e : (PyData.str "down").weight = 4 := by decide +kernel
    simp only [cmdD, PyData.weight, PyData.weightAll] at w e ⊢
    omega
  | up n =>
    have w := sml_weight h
    refine ⟨ok0_tup (ok0_cons (ok0_str (by decide +kernel)) (ok0_cons (ok0_int h) ok0_nil)), ?_, by simp [cmdD, PyData.depth, PyData.depthAll]⟩
    have e : (PyData.str "up").weight = 2 := by decide +kernel
    simp only [cmdD, PyData.weight, PyData.weightAll] at w e ⊢
    omega
  | right n =>
    have w := sml_weight h
    refine ⟨ok0_tup (ok0_cons (ok0_str (by decide +kernel)) (ok0_cons (ok0_int h) ok0_nil)), ?_, by simp [cmdD, PyData.depth, PyData.depthAll]⟩
    have e : (PyData.str "right").weight = 5 := by decide +kernel
    simp only [cmdD, PyData.weight, PyData.weightAll] at w e ⊢
    omega
  | left n =>
    have w := sml_weight h
    refine ⟨ok0_tup (ok0_cons (ok0_str (by decide +kernel)) (ok0_cons (ok0_int h) ok0_nil)), ?_, by simp [cmdD, PyData.depth, PyData.depthAll]⟩
    have e : (PyData.str "left").weight = 4 := by decide +kernel
    simp only [cmdD, PyData.weight, PyData.weightAll] at w e ⊢
    omega
  | home => exact ⟨ok0_tup (ok0_cons (ok0_str (by decide +kernel)) ok0_nil), by decide +kernel, by simp [cmdD, PyData.depth, PyData.depthAll]⟩
  | stop => exact ⟨ok0_tup (ok0_cons (ok0_str (by decide +kernel)) ok0_nil), by decide +kernel, by simp [cmdD, PyData.depth, PyData.depthAll]⟩
theorem cmds_ok0 : ∀ {cs : List Cmd}, (∀ c ∈ cs, CSml c) → Ok0s (cs.map cmdD) ∧ PyData.weightAll (cs.map cmdD) ≤ 201 * cs.length ∧ PyData.depthAll (cs.map cmdD) ≤ 5
  | [], _ => ⟨ok0_nil, by simp [PyData.weightAll], by simp [PyData.depthAll]⟩
  | c :: cs, h => by
    obtain ⟨a1, a2, a3⟩ := cmdD_ok (h c List.mem_cons_self)
    obtain ⟨b1, b2, b3⟩ := cmds_ok0 (cs := cs) fun d hd => h d (List.mem_cons_of_mem _ hd)
    refine ⟨ok0_cons a1 b1, ?_, ?_⟩
    · simp only [List.map_cons, PyData.weightAll, List.length_cons]
      omega
    · simp only [List.map_cons, PyData.depthAll]
      omega
theorem cmds_ok {cs : List Cmd} (h : ∀ c ∈ cs, CSml c) (l : cs.length ≤ 300) : (PyData.list (cs.map cmdD)).showable = true ∧ (PyData.list (cs.map cmdD)).hasDict = false ∧ (PyData.list (cs.map cmdD)).depth ≤ 60 ∧ (PyData.list (cs.map cmdD)).shown.length ≤ sizeLine := by
  obtain ⟨a1, a2, a3⟩ := cmds_ok0 h
  have o := ok0_list a1
  refine ⟨o.1, o.2.1, ?_, ok0_len o ?_⟩
  · simp only [PyData.depth]
    omega
  · simp only [PyData.weight]
    omega
/-! ### boxes as data -/
def optD : Option Int → PyData
  | none => .none
  | some n => .int n
def pairD (q : Int × Int) : PyData := .tuple [.int q.1, .int q.2]
def boxD : Option (Option Int × Ps) → PyData
  | none => .none
  | some x => .tuple [optD x.1, .list (x.2.map pairD)]
def BSml : Option (Option Int × Ps) → Prop
  | none => True
  | some x => (∀ n, x.1 = some n → Sml n) ∧ ∀ q ∈ x.2, Sml q.1 ∧ Sml q.2
theorem ok0_none : Ok0 .none := ⟨by simp only [PyData.showable], by simp only [PyData.hasDict], by simp only [PyData.leavesShort]⟩
theorem pairs_ok0 : ∀ {L : Ps}, (∀ q ∈ L, Sml q.1 ∧ Sml q.2) → Ok0s (L.map pairD) ∧ PyData.weightAll (L.map pairD) ≤ 247 * L.length ∧ PyData.depthAll (L.map pairD) ≤ 5
  | [], _ => ⟨ok0_nil, by simp [PyData.weightAll], by simp [PyData.depthAll]⟩
  | q :: L, h => by
    obtain ⟨a, b⟩ := h q List.mem_cons_self
    obtain ⟨c1, c2, c3⟩ := pairs_ok0 (L := L) fun p hp => h p (List.mem_cons_of_mem _ hp)
    have wa := sml_weight a
    have wb := sml_weight b
    refine ⟨ok0_cons (ok0_tup (ok0_cons (ok0_int a) (ok0_cons (ok0_int b) ok0_nil))) c1, ?_, ?_⟩
    · simp only [PyData.weight] at wa wb
      simp only [List.map_cons, pairD, PyData.weight, PyData.weightAll, List.length_cons] at c2 ⊢
      omega
    · simp only [List.map_cons, pairD, PyData.depth, PyData.depthAll] at c3 ⊢
      omega
theorem boxD_ok0 {o : Option (Option Int × Ps)} {n : Nat} (h : BSml o) (l : ∀ x, o = some x → x.2.length ≤ n) : Ok0 (boxD o) ∧ (boxD o).weight ≤ 247 * n + 200 ∧ (boxD o).depth ≤ 10 := by
  cases o with
  | none => exact ⟨ok0_none, by simp [boxD, PyData.weight], by simp [boxD, PyData.depth]⟩
  | some x =>
    obtain ⟨st, L⟩ := x
    obtain ⟨h1, h2⟩ := h
    have h2' : ∀ q ∈ L, Sml q.1 ∧ Sml q.2 := h2
    obtain ⟨c1, c2, c3⟩ := pairs_ok0 h2'
    have ln : L.length ≤ n := l _ rfl
    have o1 : Ok0 (optD st) ∧ (optD st).weight ≤ 122 ∧ (optD st).depth = 0 := by
      cases st with
      | none => exact ⟨ok0_none, by simp [optD, PyData.weight], by simp [optD, PyData.depth]⟩
      | some n => exact ⟨ok0_int (h1 n rfl), sml_weight (h1 n rfl), by simp [optD, PyData.depth]⟩
    obtain ⟨d1, d2, d3⟩ := o1
    refine ⟨ok0_tup (ok0_cons d1 (ok0_cons (ok0_list c1) ok0_nil)), ?_, ?_⟩
    · have m : 247 * L.length ≤ 247 * n := Nat.mul_le_mul_left _ ln
      simp only [boxD, PyData.weight, PyData.weightAll]
      omega
    · simp only [boxD, PyData.depth, PyData.depthAll]
      omega
theorem boxes_ok0 {n : Nat} : ∀ {os : List (Option (Option Int × Ps))}, (∀ o ∈ os, BSml o ∧ ∀ x, o = some x → x.2.length ≤ n) → Ok0s (os.map boxD) ∧ PyData.weightAll (os.map boxD) ≤ (247 * n + 201) * os.length ∧ PyData.depthAll (os.map boxD) ≤ 10
  | [], _ => ⟨ok0_nil, by simp [PyData.weightAll], by simp [PyData.depthAll]⟩
  | o :: os, h => by
    obtain ⟨a, b⟩ := h o List.mem_cons_self
    obtain ⟨c1, c2, c3⟩ := boxD_ok0 a b
    obtain ⟨d1, d2, d3⟩ := boxes_ok0 (os := os) fun p hp => h p (List.mem_cons_of_mem _ hp)
    refine ⟨ok0_cons c1 d1, ?_, ?_⟩
    · rw [List.map_cons, List.length_cons, Nat.mul_succ]
      simp only [PyData.weightAll]
      omega
    · simp only [List.map_cons, PyData.depthAll]
      omega
/-- a list of at most ten boxes of at most thirty lines each -/
theorem boxes_ok {os : List (Option (Option Int × Ps))} (h : ∀ o ∈ os, BSml o ∧ ∀ x, o = some x → x.2.length ≤ 30) (l : os.length ≤ 10) :
    (PyData.list (os.map boxD)).showable = true ∧ (PyData.list (os.map boxD)).hasDict = false ∧ (PyData.list (os.map boxD)).depth ≤ 60 ∧ (PyData.list (os.map boxD)).shown.length ≤ sizeLine := by
  obtain ⟨a1, a2, a3⟩ := boxes_ok0 h
  have o := ok0_list a1
  refine ⟨o.1, o.2.1, ?_, ok0_len o ?_⟩
  · simp only [PyData.depth]
    omega
  · have m : (247 * 30 + 201) * os.length ≤ (247 * 30 + 201) * 10 := Nat.mul_le_mul_left _ l
    simp only [PyData.weight]
    omega
end Gc

/-! small pieces that many laws use -/
namespace Gc
open PySem L2
theorem lt_line {n : Nat} (h : n ≤ 100000) : n < sizeLine := by
  rw [sizeLine_eq]
  omega
theorem tru_seq {K : PySem.W.Frag} {H : Hp} {l : Addr} {xs : List V} (h : SqL K H l xs) : TruV K (.ref l) H (!xs.isEmpty) := .inl ⟨xs, h, rfl⟩
theorem takeS {α : Type} : ∀ {l : List α} {i : Nat} {x : α}, l[i]? = some x → l.take (i + 1) = l.take i ++ [x]
  | [], i, x, h => by simp at h
  | a :: l, 0, x, h => by
    obtain rfl := Option.some.inj h
    rfl
  | a :: l, i + 1, x, h => by
    have ih := takeS (l := l) (i := i) (x := x) h
    show a :: l.take (i + 1) = a :: l.take i ++ [x]
    rw [ih]
    rfl
theorem pairS {α β : Type} {F : α → β → Prop} : ∀ {xs : List α} {ys : List β} {x : α} {y : β}, Paired F xs ys → F x y → Paired F (xs ++ [x]) (ys ++ [y])
  | _, _, _, _, .nil, h => .cons h .nil
  | _, _, _, _, .cons f t, h => .cons f (pairS t h)
/-- a new object, told apart -/
theorem new_same {H : Hp} {p : Addr} {o : HO} (h : H p = none) : Same H (upd H p o) := fun b u hb => by
  rw [upd_ne (ne_of_none hb h)]
  exact hb
/-- a list is written; commands stand -/
theorem CmdsOf.atL {K : PySem.W.Frag} {H : Hp} {l : Addr} {ys zs : List V} {xs : List V} {cs : List Cmd} (hl : H l = some (.lst ys)) (h : CmdsOf K H xs cs) : CmdsOf K (upd H l (.lst zs)) xs cs := Paired.mapP h fun _ _ q => by
  obtain ⟨a, e1, h1⟩ := q
  refine ⟨a, e1, ?_⟩
  rcases h1 with (z | ⟨o, z⟩) | z
  · exact .inl (.inl (by rw [upd_ne (ne_of z hl (by intro q; cases q))]; exact z))
  · exact .inl (.inr ⟨o, by rw [upd_ne (ne_of z hl (by intro q; cases q))]; exact z⟩)
  · exact .inr z
end Gc
namespace Gc
open PySem L2
def nameC : Cmd → Str
  | .down _ => "down"
  | .up _ => "up"
  | .right _ => "right"
  | .left _ => "left"
  | .home => "home"
  | .stop => "end"
theorem enc_at (c : Cmd) : atI (encC c) 0 = some (.str (nameC c)) := by cases c <;> rfl
theorem getK {H : Hp} {p : Addr} {kvs : List (L2.Key × V)} {k : Str} {v : V} (h : H p = some (.dK kvs)) (e : valV kvs (.inr k : L2.Key) = some v) : DGet H p (.str k) (some v) := e ▸ DGet.k (k := .inr k) h
end Gc
namespace Gc
open PySem L2
/-! slices by places -/
theorem cutHi {xs : List V} {n : Nat} {z : Int} (e : z = (n : Int)) (h : n ≤ xs.length) : cutV xs none (some z) = xs.take n := by
  subst e
  unfold cutV
  rw [HT.sIx_none, HT.sIx_nat, List.drop_zero, Nat.sub_zero]
  congr 1
  omega
theorem cutLo {xs : List V} {n : Nat} {z : Int} (e : z = (n : Int)) : cutV xs (some z) none = xs.drop n := by
  subst e
  unfold cutV
  rw [HT.sIx_none, HT.sIx_nat]
  by_cases h : n ≤ xs.length
  · rw [Nat.min_eq_left h]
    exact List.take_of_length_le (by rw [List.length_drop]; exact Nat.le_refl _)
  · rw [Nat.min_eq_right (by omega), List.drop_eq_nil_of_le (Nat.le_refl _), List.take_nil, List.drop_eq_nil_of_le (by omega)]
theorem cutOne {xs : List V} {n m : Nat} {z y : Int} (e : z = (n : Int)) (e2 : y = (m : Int)) (hn : n ≤ xs.length) (hm : n ≤ m) : cutV xs (some z) (some y) = (xs.drop n).take (m - n) := by
  subst e e2
  unfold cutV
  rw [HT.sIx_nat, HT.sIx_nat, Nat.min_eq_left hn]
  by_cases h : m ≤ xs.length
  · rw [Nat.min_eq_left h]
  · rw [Nat.min_eq_right (by omega)]
    rw [List.take_of_length_le (l := xs.drop n) (by rw [List.length_drop]; exact Nat.le_refl _), List.take_of_length_le (by rw [List.length_drop]; omega)]
theorem paired_take {α β : Type} {F : α → β → Prop} : ∀ (n : Nat) {xs : List α} {ys : List β}, Paired F xs ys → Paired F (xs.take n) (ys.take n)
  | 0, _, _, _ => .nil
  | n + 1, _, _, .nil => .nil
  | n + 1, _, _, .cons h t => .cons h (paired_take n t)
theorem paired_drop {α β : Type} {F : α → β → Prop} : ∀ (n : Nat) {xs : List α} {ys : List β}, Paired F xs ys → Paired F (xs.drop n) (ys.drop n)
  | 0, _, _, h => h
  | n + 1, _, _, .nil => .nil
  | n + 1, _, _, .cons _ t => paired_drop n t
theorem paired_app {α β : Type} {F : α → β → Prop} : ∀ {xs xs' : List α} {ys ys' : List β}, Paired F xs ys → Paired F xs' ys' → Paired F (xs ++ xs') (ys ++ ys')
  | _, _, _, _, .nil, h => h
  | _, _, _, _, .cons h t, g => .cons h (paired_app t g)
end Gc

/-! the P family's source of numbers (laws k15 to k24) -/
namespace Gc
open PySem L2
abbrev s_pool : Stmt := top 33
abbrev s_draw : Stmt := top 34
/-- the source: what is left of the script's number, a mix, a count -/
def Rng (H : Hp) (a : Addr) (n : Nat) : Prop := ∃ g s c : Int, H a = some (.lst [.int g, .int s, .int c]) ∧ 0 ≤ s ∧ s < 2 ^ 62 ∧ 0 ≤ c ∧ c ≤ n
theorem Rng.same {H H' : Hp} {a : Addr} {n : Nat} (e : Same H H') (h : Rng H a n) : Rng H' a n := by
  obtain ⟨g, s, c, h1, h2⟩ := h
  exact ⟨g, s, c, e _ _ h1, h2⟩
theorem Rng.more {H : Hp} {a : Addr} {n m : Nat} (h : Rng H a n) (l : n ≤ m) : Rng H a m := by
  obtain ⟨g, s, c, h1, h2, h3, h4, h5⟩ := h
  exact ⟨g, s, c, h1, h2, h3, h4, by omega⟩
theorem Rng.off {H : Hp} {r p : Addr} {n : Nat} (B : Rng H r n) (h : H p = none) : p ≠ r := by
  obtain ⟨_, _, _, z, _⟩ := B
  exact (ne_of_none z h).symm
theorem Rng.tupK {H H' : Hp} {r : Addr} {n : Nat} (rg : Rng H r n) (kp : Keep r r H H') : ∀ t xs, H t = some (.tup xs) → H' t = some (.tup xs) := fun t xs q => by
  obtain ⟨_, _, _, z, _⟩ := rg
  exact kp _ _ (ne_of q z (by intro y; cases y)) (ne_of q z (by intro y; cases y)) q
theorem Rng.tup {K : PySem.W.Frag} {H H' : Hp} {r p : Addr} {n : Nat} {ys : List V} (B : Rng H r n) (k : Keep r r H H') (h : SqT K H p ys) : SqT K H' p ys := by
  obtain ⟨_, _, _, z, _⟩ := B
  rcases h with (q | ⟨o, q⟩) | q
  · exact .inl (.inl (k _ _ (ne_of q z (by intro y; cases y)) (ne_of q z (by intro y; cases y)) q))
  · exact .inl (.inr ⟨o, k _ _ (ne_of q z (by intro y; cases y)) (ne_of q z (by intro y; cases y)) q⟩)
  · exact .inr q
theorem Rng.cmds {K : PySem.W.Frag} {H H' : Hp} {r : Addr} {n : Nat} {xs : List V} {cs : List Cmd} (B : Rng H r n) (k : Keep r r H H') (h : CmdsOf K H xs cs) : CmdsOf K H' xs cs := Paired.mapP h fun _ _ q => by
  obtain ⟨b, e, z⟩ := q
  exact ⟨b, e, B.tup k z⟩
theorem Keep.freeU {a l : Addr} {H H' : Hp} {o : HO} (e : Keep a a H H') (h : H l = none) : Keep a a H (upd H' l o) := fun b u h1 h2 hb => by
  rw [upd_ne (ne_of_none hb h)]
  exact e b u h1 h2 hb
theorem Keep.freeK {a l : Addr} {H H' : Hp} (e : Keep a a H H') (n : l ≠ a) (h : H' l = none) : H l = none := by
  cases q : H l with
  | none => rfl
  | some o =>
    rw [e _ _ n n q] at h
    cases h
theorem rng_upd {H : Hp} {r D : Addr} {n : Nat} {o : HO} (h : Rng H r n) (d : D ≠ r) : Rng (upd H D o) r n := by
  obtain ⟨g, s, c, h1, h2⟩ := h
  exact ⟨g, s, c, by rw [upd_ne (Ne.symm d)]; exact h1, h2⟩
theorem Keep.same1 {r : Addr} {H H1 H2 : Hp} (k : Keep r r H H1) (e : Same H1 H2) : Keep r r H H2 := k.trans (Keep.of e)
structure TxtPl (mg : Str → Option Value) : Prop where
  len : mg "len" = none
  max : mg "max" = none
  abs : mg "abs" = none
def spPool (K : PySem.W.Frag) : Sp := fun vs H Q _ => ∃ (a : Addr) (ns : List Int) (i : Nat), vs = [.ref a, .int (i : Nat)] ∧ SqL K H a (ns.map V.int) ∧ ns.length ≤ 63 ∧ i ≤ 63 ∧ ∀ (H' : Hp) (p : Addr), Same H H' → H p = none → Rng H' p 0 → Q (.ref p) H'
def spDraw : Sp := fun vs H Q _ => ∃ (a : Addr) (n : Nat) (many : Int), vs = [.ref a, .int many] ∧ Rng H a n ∧ n < 2 ^ 40 ∧ 0 < many ∧ many.natAbs.log2 < 9000 ∧
  ∀ (H' : Hp) (r : Int), Keep a a H H' → Rng H' a (n + 1) → 0 ≤ r → r < many → Q (.int r) H'
section
variable {P : Program} {w : World} {K : PySem.W.Frag} {mg : Str → Option Value} {base : Heap}
theorem sc_law_pool : FnScope ["script", "at", "cell"] ["script", "at"] (defScope s_pool) := ⟨rfl, rfl, rfl, by decide +kernel, rfl, by decide +kernel, by decide +kernel⟩
theorem ok_pool {f : Addr} {fd : FuncData} (F : Fun K "_law_pool" "_law_pool" s_pool f fd) (T : TxtPl mg) : FnOk P w K mg base CX0 1 f fd ["script", "at"] (spPool K) := by
  refine F.ok sc_law_pool (fun vs H Q E h => ?_) (fun cdv A outer s H vs Q E hr h => ?_)
  · obtain ⟨a, ns, i, rfl, _⟩ := h
    rfl
  · obtain ⟨a, ns, i, rfl, hS, hn, hi, k⟩ := h
    refine ⟨_, (pss_cons (ps_set (i := 2) sc_law_pool.nd rfl (Or.inl rfl) pe_int)
      (C8.pss_cut (ps_if (pt_cmpR op_lt (pv 1) (pe_callB call_len_seq (by rfl) T.len (by decide +kernel) (pa_cons (pv 0) pa_nil)) (nomark _)) (pss_one (ps_set (i := 2) sc_law_pool.nd rfl (Or.inl rfl) (pe_ix ix_list (pv 0) (pv 1) (fun _ _ => rfl)))) pss_nil)
      (pss_one (ps_ret (pe_lst (pa_cons (pe_callB (call_max2 rfl) (by rfl) T.max (by decide +kernel) (pa_cons pe_int (pa_cons (pe_op op_sub (pe_callB call_abs (by rfl) T.abs (by decide +kernel) (pa_cons (pv 2) pa_nil)) (pe_op op_pow pe_int pe_int)) pa_nil))) (pa_cons (pe_op op_add (pe_op op_mod (pv 2) pe_int) (pe_op op_mulW pe_int (pe_op op_add (pv 1) pe_int))) (pa_cons pe_int pa_nil)))))))), ?_⟩
    refine ⟨fun σ H' => ∃ cell : Int, σ = [some (.ref a), some (.int (i : Nat)), some (.int cell)] ∧ H' = H, ?_, ?_⟩
    · refine ⟨_, rfl, _, rfl, a, _, rfl, .inl hS, _, _, rfl, rfl, _, rfl, ite2 (fun c => ?_) (fun c => ?_)⟩
      · have c' : (i : Int) < ((ns.map V.int).length : Int) := of_decide_eq_true c
        rw [List.length_map] at c'
        have hi' : i < ns.length := by omega
        exact ⟨_, rfl, _, rfl, a, _, _, .int ns[i], rfl, rfl, hS, at_of (j := i) rfl (by rw [List.getElem?_map, List.getElem?_eq_getElem hi']; rfl), _, rfl, rfl⟩
      · exact ⟨0, rfl, rfl⟩
    · rintro σ H' ⟨cell, rfl, rfl⟩
      have m1 := Int.emod_nonneg cell (show (2305843009213693951 : Int) ≠ 0 by decide)
      have m2 := Int.emod_lt_of_pos cell (show (0 : Int) < 2305843009213693951 by decide)
      refine ⟨_, rfl, _, rfl, _, _, rfl, rfl, cpow (by decide), _, _, rfl, rfl, _, _, rfl, ?_⟩
      refine ⟨_, rfl, _, _, rfl, rfl, (show (0 : Int) < 2305843009213693951 by decide), _, rfl, _, _, rfl, rfl, _, _, rfl, rfl, wide_mul (a := 61) (b := 61) (by decide) (by omega) (by decide) (by decide) (by decide), _, _, rfl, rfl, (by show 3 ≤ sizeLine; decide), fun p np => ?_⟩
      exact k _ p (new_same np) np ⟨_, _, 0, upd_same, by show 0 ≤ cell % 2305843009213693951 + 1500450271 * ((i : Int) + 1); omega, by show cell % 2305843009213693951 + 1500450271 * ((i : Int) + 1) < 2 ^ 62; omega, by decide, by decide⟩
theorem sc_law_draw : FnScope ["pool", "many", "drawn", "mixed"] ["pool", "many"] (defScope s_draw) := ⟨rfl, rfl, rfl, by decide +kernel, rfl, by decide +kernel, by decide +kernel⟩
theorem ok_draw {f : Addr} {fd : FuncData} (F : Fun K "_law_draw" "_law_draw" s_draw f fd) : FnOk P w K mg base CX0 1 f fd ["pool", "many"] spDraw := by
  refine F.ok sc_law_draw (fun vs H Q E h => ?_) (fun cdv A outer s H vs Q E hr h => ?_)
  · obtain ⟨a, n, many, rfl, _⟩ := h
    rfl
  · obtain ⟨a, n, many, rfl, hs, hn, m0, mb, k⟩ := h
    obtain ⟨g, sd, c, hA, s0, s1, c0, c1⟩ := hs
    refine ⟨_, (pss_cons (ps_if (pt_cmpR op_gt (pe_ix ix_list (pv 0) pe_int (fun _ _ => rfl)) pe_int (nomark _)) (pss_cons (ps_set (i := 2) sc_law_draw.nd rfl (Or.inl rfl) (pe_op op_mod (pe_ix ix_list (pv 0) pe_int (fun _ _ => rfl)) (pv 1)))
      (pss_cons (ps_asg (pe_op op_fdivW (pe_ix ix_list (pv 0) pe_int (fun _ _ => rfl)) (pv 1)) (pg_sub (pv 0) pe_int set_list))
      (pss_one (ps_ret (pv 2))))) pss_nil)
      (pss_cons (ps_asg (pe_op op_add (pe_ix ix_list (pv 0) pe_int (fun _ _ => rfl)) pe_int) (pg_sub (pv 0) pe_int set_list))
      (pss_cons (ps_set (i := 3) sc_law_draw.nd rfl (Or.inl rfl) (pe_op op_mod (pe_op op_powW (pe_op op_add (pe_ix ix_list (pv 0) pe_int (fun _ _ => rfl)) (pe_op op_mulW pe_int (pe_ix ix_list (pv 0) pe_int (fun _ _ => rfl)))) pe_int) pe_int))
      (pss_cons (ps_set (i := 3) sc_law_draw.nd rfl (Or.inl rfl) (pe_op op_mod (pe_op op_powW (pe_op op_add (pv 3) (pe_op op_mulW pe_int (pe_ix ix_list (pv 0) pe_int (fun _ _ => rfl)))) pe_int) pe_int))
      (pss_one (ps_ret (pe_op op_mod (pe_op op_fdivW (pv 3) pe_int) (pv 1)))))))), ?_⟩
    refine ⟨_, rfl, a, _, 0, _, rfl, rfl, SqL.of hA, rfl, _, _, rfl, rfl, _, rfl, ?_⟩
    refine ite2 (fun z => ?_) (fun z => ?_)
    · refine ⟨_, rfl, a, _, 0, _, rfl, rfl, SqL.of hA, rfl, _, rfl, _, _, rfl, rfl, m0, ?_⟩
      refine ⟨_, rfl, a, _, 0, _, rfl, rfl, SqL.of hA, rfl, _, rfl, _, _, rfl, rfl, ⟨m0, mb⟩, ?_⟩
      refine ⟨_, rfl, a, _, 0, 0, rfl, rfl, hA, rfl, ?_⟩
      exact ⟨_, rfl, k _ _ (Keep.refl H).upd1 ⟨_, sd, c, upd_same, s0, s1, c0, by omega⟩ (Int.emod_nonneg _ (by omega)) (Int.emod_lt_of_pos _ m0)⟩
    · refine ⟨_, rfl, a, _, 2, _, rfl, rfl, SqL.of hA, rfl, _, _, rfl, rfl, ?_⟩
      refine ⟨_, rfl, a, _, 2, 2, rfl, rfl, hA, rfl, ?_⟩
      have c2 : c + 1 < 2 ^ 41 := by omega
      generalize hH1 : upd H a (.lst ([V.int g, .int sd, .int c].set 2 (.int (c + 1)))) = H1
      have hA1 : H1 a = some (.lst [.int g, .int sd, .int (c + 1)]) := by rw [← hH1]; exact upd_same
      have kp : Keep a a H H1 := by rw [← hH1]; exact (Keep.refl H).upd1
      have mul1 : CMulW 15488981 (c + 1) := wide_mul (a := 61) (b := 61) (by decide) (by omega) (by decide) (by decide) (by decide)
      refine ⟨_, rfl, a, _, 1, _, rfl, rfl, SqL.of hA1, rfl, _, rfl, a, _, 2, _, rfl, rfl, SqL.of hA1, rfl, _, _, rfl, rfl, mul1, _, _, rfl, rfl, _, _, rfl, rfl, cpowW (a := 80) (by decide) (by decide) (by omega) (by decide), _, _, rfl, rfl, (show (0 : Int) < 162259276829213363391578010288127 by decide), ?_⟩
      have n1 := Int.emod_nonneg ((sd + 15488981 * (c + 1)) ^ (3 : Int).toNat) (show (162259276829213363391578010288127 : Int) ≠ 0 by decide)
      have n2 := Int.emod_lt_of_pos ((sd + 15488981 * (c + 1)) ^ (3 : Int).toNat) (show (0 : Int) < 162259276829213363391578010288127 by decide)
      generalize (sd + 15488981 * (c + 1)) ^ (3 : Int).toNat % 162259276829213363391578010288127 = mx1 at n1 n2 ⊢
      have mul2 : CMulW 32453119 (c + 1) := wide_mul (a := 61) (b := 61) (by decide) (by omega) (by decide) (by decide) (by decide)
      refine ⟨_, rfl, _, rfl, a, _, 2, _, rfl, rfl, SqL.of hA1, rfl, _, _, rfl, rfl, mul2, _, _, rfl, rfl, _, _, rfl, rfl, cpowW (a := 120) (by decide) (by decide) (by omega) (by decide), _, _, rfl, rfl, (show (0 : Int) < 170141183460469231731687303715884105727 by decide), ?_⟩
      generalize (mx1 + 32453119 * (c + 1)) ^ (5 : Int).toNat % 170141183460469231731687303715884105727 = mx2
      refine ⟨_, rfl, _, _, rfl, rfl, ⟨by decide, by decide⟩, _, rfl, _, _, rfl, rfl, m0, ?_⟩
      exact k _ _ kp ⟨g, sd, c + 1, hA1, s0, s1, by omega, by omega⟩ (Int.emod_nonneg _ (by omega)) (Int.emod_lt_of_pos _ m0)
end
end Gc

/-! commands as texts: what is written, and that it can be read back -/
namespace Gc
open PySem PyProof.Rows L2 TL
def mkS (l : List Nat) : Str := ⟨l.toArray⟩
theorem tl_mkS (l : List Nat) : tl (mkS l) = l := rfl
theorem mkS_app (l m : List Nat) : mkS l ++ mkS m = mkS (l ++ m) := ext_tl (by rw [tl_append]; rfl)
theorem mkS_len (l : List Nat) : (mkS l).length = l.length := by rw [len_tl]; rfl
theorem mkS_inj {l m : List Nat} (h : mkS l = mkS m) : l = m := by
  have e := congrArg tl h
  exact e
/-- the number of a command -/
def numC : Cmd → Int
  | .down n => n
  | .up n => n
  | .right n => n
  | .left n => n
  | _ => 0
def letC : Cmd → Nat
  | .down _ => 68
  | .up _ => 85
  | .right _ => 82
  | .left _ => 76
  | .home => 72
  | .stop => 69
/-- the digits that stand ahead of the letter -/
def digC : Cmd → List Nat
  | .down n => numL n.toNat
  | .up n => numL n.toNat
  | .right n => numL n.toNat
  | .left n => numL n.toNat
  | _ => []
def cw (c : Cmd) : List Nat := digC c ++ [letC c]
def noneL : List Nat := [110, 111, 110, 101]
def shownL (cs : List Cmd) : List Nat := if cs = [] then noneL else joinL [32] (cs.map cw)
def shownS (cs : List Cmd) : Str := mkS (shownL cs)
theorem digC_digits (c : Cmd) : NumText.AllDigits (digC c) := by
  cases c with
  | down n => exact numL_digits _
  | up n => exact numL_digits _
  | right n => exact numL_digits _
  | left n => exact numL_digits _
  | home => exact fun _ h => nomatch h
  | stop => exact fun _ h => nomatch h
theorem letC_ge (c : Cmd) : 65 ≤ letC c ∧ letC c ≤ 90 := by cases c <;> simp [letC]
theorem cw_free (c : Cmd) : 32 ∉ cw c := fun h => by
  rcases List.mem_append.mp h with h | h
  · have := digC_digits c 32 h
    omega
  · have e := List.mem_singleton.mp h
    have := letC_ge c
    omega
theorem cw_ne (c : Cmd) : cw c ≠ [] := by simp [cw]
theorem cw_inj {c d : Cmd} (hc : c.ok) (hd : d.ok) (h : cw c = cw d) : c = d := by
  have e1 := congrArg List.getLast? h
  have e2 := congrArg List.dropLast h
  unfold cw at e1 e2
  rw [List.getLast?_concat, List.getLast?_concat] at e1
  rw [List.dropLast_concat, List.dropLast_concat] at e2
  have e3 := Option.some.inj e1
  have key : ∀ {n m : Int}, 1 ≤ n → 1 ≤ m → numL n.toNat = numL m.toNat → n = m := fun h1 h2 z => by
    have := numL_inj z
    omega
  cases c <;> cases d <;> simp only [letC] at e3 <;> first
    | rfl
    | exact absurd e3 (by decide)
    | rw [key hc hd e2]
theorem cws_inj : ∀ {cs ds : List Cmd}, AllOk cs → AllOk ds → cs.map cw = ds.map cw → cs = ds
  | [], [], _, _, _ => rfl
  | [], _ :: _, _, _, h => by cases h
  | _ :: _, [], _, _, h => by cases h
  | c :: cs, d :: ds, h1, h2, h => by
    rw [List.map_cons, List.map_cons] at h
    injection h with e1 e2
    rw [cw_inj (h1 c List.mem_cons_self) (h2 d List.mem_cons_self) e1, cws_inj (fun x hx => h1 x (List.mem_cons_of_mem _ hx)) (fun x hx => h2 x (List.mem_cons_of_mem _ hx)) e2]
theorem join_words {cs : List Cmd} (h : cs ≠ []) : spl [32] 0 [] (joinL [32] (cs.map cw)) = cs.map cw :=
  spl_join (fun e => h (List.map_eq_nil_iff.mp e)) fun p hp => by
    obtain ⟨c, _, rfl⟩ := List.mem_map.mp hp
    exact cw_free c
theorem none_words : spl [32] 0 [] noneL = [noneL] := by decide +kernel
theorem none_no {cs : List Cmd} (h : cs ≠ []) : joinL [32] (cs.map cw) ≠ noneL := fun e => by
  have z := join_words h
  rw [e, none_words] at z
  cases cs with
  | nil => exact h rfl
  | cons c cs =>
    rw [List.map_cons] at z
    injection z with z1 z2
    have z3 := congrArg List.getLast? z1
    unfold cw at z3
    rw [List.getLast?_concat] at z3
    have z4 : (101 : Nat) = letC c := Option.some.inj z3
    have := letC_ge c
    omega
theorem shownL_inj {cs ds : List Cmd} (h1 : AllOk cs) (h2 : AllOk ds) (h : shownL cs = shownL ds) : cs = ds := by
  unfold shownL at h
  by_cases c : cs = []
  · by_cases d : ds = []
    · rw [c, d]
    · rw [if_pos c, if_neg d] at h
      exact absurd h.symm (none_no d)
  · by_cases d : ds = []
    · rw [if_neg c, if_pos d] at h
      exact absurd h (none_no c)
    · rw [if_neg c, if_neg d] at h
      have z1 := join_words c
      rw [h, join_words d] at z1
      exact (cws_inj h2 h1 z1).symm
theorem shownS_inj {cs ds : List Cmd} (h1 : AllOk cs) (h2 : AllOk ds) (h : shownS cs = shownS ds) : cs = ds := shownL_inj h1 h2 (mkS_inj h)
/-! lengths -/
theorem digC_len {c : Cmd} (h : numC c < 10 ^ 40) : (digC c).length ≤ 40 := by
  have key : ∀ n : Int, n < 10 ^ 40 → (numL n.toNat).length ≤ 40 := fun n hn => numL_len (k := 40) (by decide) (by omega)
  cases c with
  | down n => exact key n h
  | up n => exact key n h
  | right n => exact key n h
  | left n => exact key n h
  | home => exact Nat.zero_le _
  | stop => exact Nat.zero_le _
theorem cw_len {c : Cmd} (h : numC c < 10 ^ 40) : (cw c).length ≤ 41 := by
  unfold cw
  rw [List.length_append, List.length_singleton]
  have := digC_len h
  omega
theorem joinL_len {k : Nat} : ∀ {ps : List (List Nat)}, (∀ p ∈ ps, p.length ≤ k) → (joinL [32] ps).length ≤ (k + 1) * ps.length
  | [], _ => Nat.zero_le _
  | [p], h => by
    have := h p (List.mem_singleton.mpr rfl)
    show p.length ≤ (k + 1) * 1
    omega
  | p :: q :: r, h => by
    have h1 := h p List.mem_cons_self
    have h2 := joinL_len (ps := q :: r) fun x hx => h x (List.mem_cons_of_mem _ hx)
    show (p ++ ([32] ++ joinL [32] (q :: r))).length ≤ _
    rw [List.length_append, List.length_append, List.length_singleton, List.length_cons (a := p), Nat.mul_succ]
    omega
theorem shownL_len {cs : List Cmd} (h : ∀ c ∈ cs, numC c < 10 ^ 40) : (shownL cs).length ≤ 42 * cs.length + 4 := by
  unfold shownL
  by_cases c : cs = []
  · rw [if_pos c]
    exact Nat.le_add_left _ _
  · rw [if_neg c]
    have := joinL_len (k := 41) (ps := cs.map cw) fun p hp => by
      obtain ⟨d, hd, rfl⟩ := List.mem_map.mp hp
      exact cw_len (h d hd)
    rw [List.length_map] at this
    omega
/-- one more word behind -/
theorem joinL_snoc : ∀ {ps : List (List Nat)} {p : List Nat}, ps ≠ [] → joinL [32] (ps ++ [p]) = joinL [32] ps ++ ([32] ++ p)
  | [], _, h => absurd rfl h
  | [q], p, _ => rfl
  | q :: r :: s, p, _ => by
    show q ++ ([32] ++ joinL [32] ((r :: s) ++ [p])) = (q ++ ([32] ++ joinL [32] (r :: s))) ++ ([32] ++ p)
    rw [joinL_snoc (by simp)]
    simp [List.append_assoc]
theorem joinL_nil_iff : ∀ {ps : List (List Nat)}, (∀ p ∈ ps, p ≠ []) → (joinL [32] ps = [] ↔ ps = [])
  | [], _ => ⟨fun _ => rfl, fun _ => rfl⟩
  | [p], h => ⟨fun e => absurd e (h p (List.mem_singleton.mpr rfl)), fun e => nomatch e⟩
  | p :: q :: r, h => ⟨fun e => by
      have e2 : p ++ ([32] ++ joinL [32] (q :: r)) = [] := e
      simp at e2, fun e => nomatch e⟩
/-! equal lists of commands, as data -/
theorem eqv_cmd (c d : Cmd) : PyData.eqv (cmdD c) (cmdD d) = decide (c = d) := by
  cases c <;> cases d <;> simp [cmdD, PyData.eqv, PyData.eqvAll]
  all_goals first
    | decide +kernel
    | rw [Bool.eq_iff_iff, beq_iff_eq, decide_eq_true_eq]
    | (intro h; exact absurd h (by decide +kernel))
theorem eqvAll_cmds : ∀ cs ds : List Cmd, PyData.eqvAll (cs.map cmdD) (ds.map cmdD) = decide (cs = ds)
  | [], [] => by simp [PyData.eqvAll]
  | [], _ :: _ => by simp [PyData.eqvAll]
  | _ :: _, [] => by simp [PyData.eqvAll]
  | c :: cs, d :: ds => by
    rw [List.map_cons, List.map_cons, PyData.eqvAll, eqv_cmd, eqvAll_cmds cs ds]
    simp
theorem eqv_cmds (cs ds : List Cmd) : PyData.eqv (.list (cs.map cmdD)) (.list (ds.map cmdD)) = decide (cs = ds) := by
  rw [PyData.eqv]
  exact eqvAll_cmds cs ds
end Gc
namespace Gc
open PySem PyProof.Rows L2 TL
theorem depth_cmds : ∀ cs : List Cmd, PyData.depthAll (cs.map cmdD) ≤ 1
  | [] => by simp [PyData.depthAll]
  | c :: cs => by
    have := depth_cmds cs
    cases c <;> simp [PyData.depthAll, PyData.depth, cmdD, this]
theorem lay_cmds : ∀ cs : List Cmd, PyData.canLayAll0 (cs.map cmdD) = true
  | [] => by simp [PyData.canLayAll0]
  | c :: cs => by
    have h1 : PyData.strOk "down" = true := by decide +kernel
    have h2 : PyData.strOk "up" = true := by decide +kernel
    have h3 : PyData.strOk "right" = true := by decide +kernel
    have h4 : PyData.strOk "left" = true := by decide +kernel
    have h5 : PyData.strOk "home" = true := by decide +kernel
    have h6 : PyData.strOk "end" = true := by decide +kernel
    cases c <;> simp [PyData.canLayAll0, PyData.canLay0, cmdD, lay_cmds cs, h1, h2, h3, h4, h5, h6]
theorem shaped_cmds (cs : List Cmd) : SeqAt.shaped (.list (cs.map cmdD)) = true := by
  have h2 := depth_cmds cs
  have hd : (PyData.list (cs.map cmdD)).depth ≤ 64 := by
    simp only [PyData.depth]
    omega
  unfold SeqAt.shaped
  rw [decide_eq_true hd]
  simp [PyData.canLay0, lay_cmds cs]
/-- one more word of what is written -/
theorem shown_step (cs : List Cmd) (i : Nat) (c : Cmd) (h : cs[i]? = some c) :
    joinL [32] ((cs.take (i + 1)).map cw) = joinL [32] ((cs.take i).map cw) ++ (if i = 0 then [] else [32]) ++ digC c ++ [letC c] := by
  have e : cs.take (i + 1) = cs.take i ++ [c] := by
    rw [List.take_add_one, h]
    rfl
  rw [e, List.map_append, List.map_singleton]
  by_cases z : i = 0
  · subst z
    simp [joinL, cw]
  · have ne : (cs.take i).map cw ≠ [] := by
      intro q
      have q2 := congrArg List.length q
      have li := (List.getElem?_eq_some_iff.mp h).1
      rw [List.length_map, List.length_take, List.length_nil] at q2
      omega
    rw [joinL_snoc ne, if_neg z]
    simp [cw, List.append_assoc]
theorem shown_nil (cs : List Cmd) (i : Nat) (c : Cmd) (h : cs[i]? = some c) : joinL [32] ((cs.take i).map cw) = [] ↔ i = 0 := by
  rw [joinL_nil_iff (fun p hp => by
    obtain ⟨c, _, rfl⟩ := List.mem_map.mp hp
    exact cw_ne c)]
  have li := (List.getElem?_eq_some_iff.mp h).1
  constructor
  · intro q
    have q2 := congrArg List.length q
    rw [List.length_map, List.length_take, List.length_nil] at q2
    omega
  · intro q
    subst q
    rfl
end Gc

/-! the P family's keys, lines and cursors -/
namespace Gc
open PySem L2
abbrev s_number : Stmt := top 35
abbrev s_key : Stmt := top 36
abbrev s_keys : Stmt := top 37
abbrev s_lines : Stmt := top 38
abbrev s_spot : Stmt := top 39
structure TxtK (mg : Str → Option Value) : Prop where
  range : mg "range" = none
  len : mg "len" = none
def far2 (far : Int) : Int := max 60 far
def KeyB (B : Int) (c : Cmd) : Prop := c.ok ∧ numC c ≤ B ∧ c.dv.natAbs ≤ 3
def spNumber (K : PySem.W.Frag) : Sp := fun vs H Q _ => ∃ (a : Addr) (n : Nat) (far : Int), vs = [.ref a, .int far] ∧ Rng H a n ∧ n < 2 ^ 39 ∧ 1 ≤ far ∧ far ≤ 10 ^ 31 ∧ ∀ (H' : Hp) (v : Int), Keep a a H H' → Rng H' a (n + 2) → 1 ≤ v → v ≤ far2 far → Q (.int v) H'
def spKey (K : PySem.W.Frag) : Sp := fun vs H Q _ => ∃ (a : Addr) (n : Nat) (far : Int), vs = [.ref a, .int far] ∧ Rng H a n ∧ n < 2 ^ 38 ∧ 1 ≤ far ∧ far ≤ 10 ^ 31 ∧ ∀ (H' : Hp) (p : Addr) (c : Cmd), Keep a a H H' → Rng H' a (n + 3) → H' p = some (.tup (encC c)) → KeyB (far2 far) c → Q (.ref p) H'
def spKeys (K : PySem.W.Frag) : Sp := fun vs H Q _ => ∃ (a : Addr) (n : Nat) (most far : Int), vs = [.ref a, .int most, .int far] ∧ Rng H a n ∧ n < 2 ^ 37 ∧ 0 ≤ most ∧ most ≤ 60 ∧ 1 ≤ far ∧ far ≤ 10 ^ 31 ∧
  ∀ (H' : Hp) (p : Addr) (xs : List V) (cs : List Cmd), Keep a a H H' → Rng H' a (n + 200) → p ≠ a → H p = none → H' p = some (.lst xs) → CmdsOf K H' xs cs → (∀ c ∈ cs, KeyB (far2 far) c) → (cs.length : Int) ≤ most → Q (.ref p) H'
def spLines (K : PySem.W.Frag) : Sp := fun vs H Q _ => ∃ (a : Addr) (n : Nat) (most far : Int), vs = [.ref a, .int most, .int far] ∧ Rng H a n ∧ n < 2 ^ 37 ∧ 1 ≤ most ∧ most ≤ 60 ∧ 1 ≤ far ∧ far ≤ 10 ^ 31 ∧
  ∀ (H' : Hp) (p : Addr) (T : List Int), Keep a a H H' → Rng H' a (n + 200) → p ≠ a → H p = none → H' p = some (.lst (T.map V.int)) → (∀ x ∈ T, 0 ≤ x ∧ x < max 40 far) → 1 ≤ T.length → (T.length : Int) ≤ most → Q (.ref p) H'
def spSpot (K : PySem.W.Frag) : Sp := fun vs H Q _ => ∃ (a l : Addr) (n : Nat) (T : List Int) (far : Int), vs = [.ref a, .ref l, .int far] ∧ Rng H a n ∧ n < 2 ^ 37 ∧ H l = some (.lst (T.map V.int)) ∧ l ≠ a ∧ 1 ≤ T.length ∧ T.length ≤ 100 ∧ 1 ≤ far ∧ far ≤ 10 ^ 31 ∧
  ∀ (H' : Hp) (p : Addr) (r : Int) (g : Option Int), Keep a a H H' → Rng H' a (n + 10) → H' p = some (.tup [.int r, optV g]) → 0 ≤ r → r < T.length → (∀ x, g = some x → 0 ≤ x ∧ x < max 50 far) → Q (.ref p) H'
section
variable {P : Program} {w : World} {K : PySem.W.Frag} {mg : Str → Option Value} {base : Heap}
theorem sc_law_number : FnScope ["pool", "far"] ["pool", "far"] (defScope s_number) := ⟨rfl, rfl, rfl, by decide +kernel, rfl, by decide +kernel, by decide +kernel⟩
theorem ok_number {f : Addr} {fd : FuncData} (F : Fun K "_law_number" "_law_number" s_number f fd) (c_law_draw : Cal P w K mg base 1 "_law_draw" spDraw) : FnOk P w K mg base CX0 2 f fd ["pool", "far"] (spNumber K) := by
  refine F.ok sc_law_number (fun vs H Q E h => ?_) (fun cdv A outer s H vs Q E hr h => ?_)
  · obtain ⟨a, n, far, rfl, _⟩ := h
    rfl
  · obtain ⟨a, n, far, rfl, rg, hn, f1, f2, k⟩ := h
    refine ⟨_, (pss_one (ps_ret (pe_op op_add pe_int (pe_cal c_law_draw hr (by decide) (by rfl) (pa_cons (pv 0) (pa_cons (pe_ix ix_list (pe_lst (pa_cons pe_int (pa_cons pe_int (pa_cons pe_int (pa_cons (pv 1) pa_nil))))) (pe_cal c_law_draw hr (by decide) (by rfl) (pa_cons (pv 0) (pa_cons pe_int pa_nil))) (fun _ _ => rfl)) pa_nil)))))), ?_⟩
    refine ⟨_, rfl, _, rfl, (by show 4 ≤ sizeLine; decide), fun q nq => ?_⟩
    have qr := rg.off nq
    have e_H1 : Same H (upd H q (.lst [V.int 3, .int 9, .int 60, .int far])) := new_same nq
    have h_q : (upd H q (.lst [V.int 3, .int 9, .int 60, .int far])) q = some (.lst [V.int 3, .int 9, .int 60, .int far]) := upd_same
    generalize upd H q (.lst [V.int 3, .int 9, .int 60, .int far]) = H1 at e_H1 h_q ⊢
    replace rg := rg.same e_H1
    refine ⟨_, rfl, a, _, 4, rfl, rg, by omega, by decide, by decide, fun H2 d kp2 rg2 d0 d1 => ?_⟩
    replace h_q := kp2 _ _ qr qr h_q
    obtain ⟨v, hv, v0, v1⟩ : ∃ v : Int, atI [V.int 3, .int 9, .int 60, .int far] d = some (.int v) ∧ 1 ≤ v ∧ v ≤ far2 far := by
      unfold far2
      rcases (show d = 0 ∨ d = 1 ∨ d = 2 ∨ d = 3 by omega) with rfl | rfl | rfl | rfl
      · exact ⟨_, rfl, by decide, by omega⟩
      · exact ⟨_, rfl, by decide, by omega⟩
      · exact ⟨_, rfl, by decide, by omega⟩
      · exact ⟨_, rfl, f1, by omega⟩
    have fb : far2 far ≤ 10 ^ 31 := by unfold far2; omega
    refine ⟨q, _, _, _, rfl, rfl, SqL.of h_q, hv, a, _, v, rfl, rg2, by omega, by omega, log9 (a := 110) (by omega) (by decide), fun H3 d2 kp3 rg3 d20 d21 => ⟨_, _, rfl, rfl, ?_⟩⟩
    exact k _ _ ((Keep.of e_H1).trans (kp2.trans kp3)) rg3 (by omega) (by omega)
theorem sc_law_key : FnScope ["pool", "far", "way"] ["pool", "far"] (defScope s_key) := ⟨rfl, rfl, rfl, by decide +kernel, rfl, by decide +kernel, by decide +kernel⟩
theorem ok_key {f : Addr} {fd : FuncData} (F : Fun K "_law_key" "_law_key" s_key f fd) (c_law_draw : Cal P w K mg base 1 "_law_draw" spDraw) (c_law_number : Cal P w K mg base 2 "_law_number" (spNumber K)) : FnOk P w K mg base CX0 3 f fd ["pool", "far"] (spKey K) := by
  refine F.ok sc_law_key (fun vs H Q E h => ?_) (fun cdv A outer s H vs Q E hr h => ?_)
  · obtain ⟨a, n, far, rfl, _⟩ := h
    rfl
  · obtain ⟨a, n, far, rfl, rg, hn, f1, f2, k⟩ := h
    refine ⟨_, (pss_cons (ps_set (i := 2) sc_law_key.nd rfl (Or.inl rfl) (pe_cal c_law_draw hr (by decide) (by rfl) (pa_cons (pv 0) (pa_cons pe_int pa_nil))))
      (pss_cons (ps_if (pt_cmpR op_lt (pv 2) pe_int (nomark _)) (pss_one (ps_ret (pe_ix ix_list (pe_lst (pa_cons (pe_tup (pa_cons pe_str pa_nil)) (pa_cons (pe_tup (pa_cons pe_str pa_nil)) pa_nil))) (pv 2) (fun _ _ => rfl)))) pss_nil)
      (pss_cons (ps_if (pt_cmpR op_lt (pv 2) pe_int (nomark _)) (pss_one (ps_ret (pe_tup (pa_cons (pe_ix ix_list (pe_lst (pa_cons pe_str (pa_cons pe_str pa_nil))) (pe_op op_mod (pv 2) pe_int) (fun _ _ => rfl)) (pa_cons (pe_op op_add pe_int (pe_cal c_law_draw hr (by decide) (by rfl) (pa_cons (pv 0) (pa_cons pe_int pa_nil)))) pa_nil))))) pss_nil)
      (pss_one (ps_ret (pe_tup (pa_cons (pe_ix ix_list (pe_lst (pa_cons pe_str (pa_cons pe_str pa_nil))) (pe_op op_mod (pv 2) pe_int) (fun _ _ => rfl)) (pa_cons (pe_cal c_law_number hr (by decide) (by rfl) (pa_cons (pv 0) (pa_cons (pv 1) pa_nil))) pa_nil)))))))), ?_⟩
    have fb : 60 ≤ far2 far := by unfold far2; omega
    refine ⟨_, rfl, a, _, 12, rfl, rg, by omega, by decide, by decide, fun H1 d kp1 rg1 d0 d1 => ?_⟩
    refine ⟨_, rfl, _, _, rfl, rfl, _, rfl, ite2 (fun c => ?_) (fun c => ?_)⟩
    · have c' : d < 2 := of_decide_eq_true c
      refine ⟨(by show 1 ≤ sizeLine; decide), fun t1 n1 => ?_⟩
      have e_H2 : Same H1 (upd H1 t1 (.tup [.str "home"])) := new_same n1
      have h_t1 : (upd H1 t1 (.tup [.str "home"])) t1 = some (.tup [.str "home"]) := upd_same
      generalize upd H1 t1 (.tup [.str "home"]) = H2 at e_H2 h_t1 ⊢
      replace rg1 := rg1.same e_H2
      refine ⟨(by show 1 ≤ sizeLine; decide), fun t2 n2 => ?_⟩
      have e_H3 : Same H2 (upd H2 t2 (.tup [.str "end"])) := new_same n2
      have h_t2 : (upd H2 t2 (.tup [.str "end"])) t2 = some (.tup [.str "end"]) := upd_same
      generalize upd H2 t2 (.tup [.str "end"]) = H3 at e_H3 h_t2 ⊢
      replace rg1 := rg1.same e_H3
      replace h_t1 := e_H3 _ _ h_t1
      refine ⟨(by show 2 ≤ sizeLine; decide), fun t3 n3 => ?_⟩
      have e_H4 : Same H3 (upd H3 t3 (.lst [.ref t1, .ref t2])) := new_same n3
      have h_t3 : (upd H3 t3 (.lst [.ref t1, .ref t2])) t3 = some (.lst [.ref t1, .ref t2]) := upd_same
      generalize upd H3 t3 (.lst [.ref t1, .ref t2]) = H4 at e_H4 h_t3 ⊢
      replace rg1 := rg1.same e_H4
      replace h_t1 := e_H4 _ _ h_t1
      replace h_t2 := e_H4 _ _ h_t2
      have kp4 := kp1.trans (Keep.of (e_H2.trans (e_H3.trans e_H4)))
      rcases (show d = 0 ∨ d = 1 by omega) with rfl | rfl
      · exact ⟨_, rfl, t3, _, _, _, rfl, rfl, SqL.of h_t3, rfl, k _ t1 .home kp4 (rg1.more (by omega)) h_t1 ⟨trivial, by show (0 : Int) ≤ _; omega, by decide⟩⟩
      · exact ⟨_, rfl, t3, _, _, _, rfl, rfl, SqL.of h_t3, rfl, k _ t2 .stop kp4 (rg1.more (by omega)) h_t2 ⟨trivial, by show (0 : Int) ≤ _; omega, by decide⟩⟩
    · have c' : ¬ d < 2 := fun z => c (decide_eq_true z)
      refine ⟨_, rfl, _, _, rfl, rfl, _, rfl, ite2 (fun e => ?_) (fun e => ?_)⟩
      · have e' : d < 7 := of_decide_eq_true e
        refine ⟨(by show 2 ≤ sizeLine; decide), fun q nq => ?_⟩
        have qr := rg1.off nq
        have e_H2 : Same H1 (upd H1 q (.lst [V.str "up", .str "down"])) := new_same nq
        have h_q : (upd H1 q (.lst [V.str "up", .str "down"])) q = some (.lst [V.str "up", .str "down"]) := upd_same
        generalize upd H1 q (.lst [V.str "up", .str "down"]) = H2 at e_H2 h_q ⊢
        replace rg1 := rg1.same e_H2
        have k2 := kp1.trans (Keep.of e_H2)
        rcases (show d % 2 = 0 ∨ d % 2 = 1 by omega) with hd | hd
        · refine ⟨_, rfl, _, _, rfl, rfl, (by decide : (0 : Int) < 2), q, _, _, .str "up", rfl, rfl, SqL.of h_q, (by rw [hd]; rfl), ?_⟩
          refine ⟨_, rfl, a, _, 3, rfl, rg1, by omega, by decide, by decide, fun H3 d3 kp3 rg3 d30 d31 => ⟨_, _, rfl, rfl, (by show 2 ≤ sizeLine; decide), fun p np => ?_⟩⟩
          exact k _ p (.up (1 + d3)) ((k2.trans kp3).trans (Keep.of (new_same np))) ((rg3.same (new_same np)).more (by omega)) upd_same ⟨by show 1 ≤ 1 + d3; omega, by show 1 + d3 ≤ _; omega, by show (-(1 + d3)).natAbs ≤ 3; omega⟩
        · refine ⟨_, rfl, _, _, rfl, rfl, (by decide : (0 : Int) < 2), q, _, _, .str "down", rfl, rfl, SqL.of h_q, (by rw [hd]; rfl), ?_⟩
          refine ⟨_, rfl, a, _, 3, rfl, rg1, by omega, by decide, by decide, fun H3 d3 kp3 rg3 d30 d31 => ⟨_, _, rfl, rfl, (by show 2 ≤ sizeLine; decide), fun p np => ?_⟩⟩
          exact k _ p (.down (1 + d3)) ((k2.trans kp3).trans (Keep.of (new_same np))) ((rg3.same (new_same np)).more (by omega)) upd_same ⟨by show 1 ≤ 1 + d3; omega, by show 1 + d3 ≤ _; omega, by show (1 + d3).natAbs ≤ 3; omega⟩
      · have e' : ¬ d < 7 := fun z => e (decide_eq_true z)
        refine ⟨(by show 2 ≤ sizeLine; decide), fun q nq => ?_⟩
        have qr := rg1.off nq
        have e_H2 : Same H1 (upd H1 q (.lst [V.str "right", .str "left"])) := new_same nq
        have h_q : (upd H1 q (.lst [V.str "right", .str "left"])) q = some (.lst [V.str "right", .str "left"]) := upd_same
        generalize upd H1 q (.lst [V.str "right", .str "left"]) = H2 at e_H2 h_q ⊢
        replace rg1 := rg1.same e_H2
        have k2 := kp1.trans (Keep.of e_H2)
        rcases (show d % 2 = 0 ∨ d % 2 = 1 by omega) with hd | hd
        · refine ⟨_, rfl, _, _, rfl, rfl, (by decide : (0 : Int) < 2), q, _, _, .str "right", rfl, rfl, SqL.of h_q, (by rw [hd]; rfl), ?_⟩
          refine ⟨_, rfl, _, rfl, a, _, far, rfl, rg1, by omega, f1, f2, fun H3 v kp3 rg3 v0 v1 => ⟨(by show 2 ≤ sizeLine; decide), fun p np => ?_⟩⟩
          exact k _ p (.right v) ((k2.trans kp3).trans (Keep.of (new_same np))) ((rg3.same (new_same np)).more (by omega)) upd_same ⟨v0, v1, by show (0 : Int).natAbs ≤ 3; decide⟩
        · refine ⟨_, rfl, _, _, rfl, rfl, (by decide : (0 : Int) < 2), q, _, _, .str "left", rfl, rfl, SqL.of h_q, (by rw [hd]; rfl), ?_⟩
          refine ⟨_, rfl, _, rfl, a, _, far, rfl, rg1, by omega, f1, f2, fun H3 v kp3 rg3 v0 v1 => ⟨(by show 2 ≤ sizeLine; decide), fun p np => ?_⟩⟩
          exact k _ p (.left v) ((k2.trans kp3).trans (Keep.of (new_same np))) ((rg3.same (new_same np)).more (by omega)) upd_same ⟨v0, v1, by show (0 : Int).natAbs ≤ 3; decide⟩
theorem sc_law_keys : FnScope ["pool", "most", "far", "turn"] ["pool", "most", "far"] (defScope s_keys) := ⟨rfl, rfl, rfl, by decide +kernel, rfl, by decide +kernel, by decide +kernel⟩
theorem ok_keys {f : Addr} {fd : FuncData} (F : Fun K "_law_keys" "_law_keys" s_keys f fd) (T : TxtK mg) (c_law_draw : Cal P w K mg base 1 "_law_draw" spDraw) (c_law_key : Cal P w K mg base 3 "_law_key" (spKey K)) : FnOk P w K mg base CX0 4 f fd ["pool", "most", "far"] (spKeys K) := by
  refine F.ok sc_law_keys (fun vs H Q E h => ?_) (fun cdv A outer s H vs Q E hr h => ?_)
  · obtain ⟨a, n, most, far, rfl, _⟩ := h
    rfl
  · obtain ⟨a, n, most, far, rfl, rg, hn, m0, m1, f1, f2, k⟩ := h
    refine ⟨_, (pss_one (ps_ret (pe_lc (own := [("turn", 3)]) rfl sc_law_keys.nd (pi_range1 rfl T.range (pa_cons (pe_cal c_law_draw hr (by decide) (by rfl) (pa_cons (pv 0) (pa_cons (pe_op op_add (pv 1) pe_int) pa_nil))) pa_nil)) (blkOk_by (N := ["pool", "most", "far", "turn"]) (sc := defScope s_keys) (by decide +kernel)) (fun _ _ _ _ _ => (pg_name (i := 3) sc_law_keys.nd rfl (Or.inl rfl))) (fun _ _ _ _ _ => pts_nil) (fun _ _ _ _ _ => (pe_cal c_law_key hr (by decide) (by rfl) (pa_cons (pv 0) (pa_cons (pv 2) pa_nil))))))), ?_⟩
    refine ⟨_, rfl, _, rfl, _, _, rfl, rfl, a, _, _, rfl, rg, by omega, by omega, log9 (a := 10) (by omega) (by decide), fun H1 d kp1 rg1 d0 d1 => ?_⟩
    refine ⟨_, rfl, by omega, by omega, fun D hD => ?_⟩
    have Da := rg1.off hD
    have D0 : H D = none := by
      cases z : H D with
      | none => rfl
      | some o =>
        have q := kp1 _ _ Da Da z
        rw [hD] at q
        cases q
    refine lc_range (lo := 0) (fun i H' => ∃ (xs : List V) (cs : List Cmd), Keep a a H1 H' ∧ Rng H' a (n + 1 + 3 * i) ∧ H' D = some (.lst xs) ∧ CmdsOf K H' xs cs ∧ (∀ c ∈ cs, KeyB (far2 far) c) ∧ cs.length = i)
      ⟨[], [], Keep.of (new_same hD), rg1.same (new_same hD), upd_same, .nil, fun _ z => (nomatch z), rfl⟩ (fun i H2 hi h => ?_) (fun H2 h => ?_)
    · obtain ⟨xs, cs, kp, rg2, hd, hc, kb, cl⟩ := h
      have hi' : i < 61 := by omega
      refine ⟨rfl, _, rfl, _, rfl, a, _, far, rfl, rg2, by omega, f1, f2, fun H3 p c kp3 rg3 hp hk => ?_⟩
      replace hc := rg2.cmds kp3 hc
      replace hd := kp3 _ _ Da Da hd
      replace kp := kp.trans kp3
      have xl := hc.len
      refine ⟨_, hd, lt_line (by omega), xs ++ [.ref p], cs ++ [c], kp.freeU hD, (rng_upd rg3 Da).more (by omega), upd_same, ?_, fun x hx => ?_, by rw [List.length_append, cl]; rfl⟩
      · exact paired_app (CmdsOf.atL hd hc) (CmdsOf.atL hd (xs := [.ref p]) (cs := [c]) (.cons ⟨p, rfl, SqT.of hp⟩ .nil))
      · rcases List.mem_append.mp hx with z | z
        · exact kb x z
        · rw [List.mem_singleton.mp z]
          exact hk
    · obtain ⟨xs, cs, kp, rg2, hd, hc, kb, cl⟩ := h
      exact k _ D xs cs (kp1.trans kp) (rg2.more (by omega)) Da D0 hd hc kb (by omega)
theorem sc_law_lines : FnScope ["pool", "most", "far", "many", "turn"] ["pool", "most", "far"] (defScope s_lines) := ⟨rfl, rfl, rfl, by decide +kernel, rfl, by decide +kernel, by decide +kernel⟩
theorem ok_lines {f : Addr} {fd : FuncData} (F : Fun K "_law_lines" "_law_lines" s_lines f fd) (T : TxtK mg) (c_law_draw : Cal P w K mg base 1 "_law_draw" spDraw) : FnOk P w K mg base CX0 2 f fd ["pool", "most", "far"] (spLines K) := by
  refine F.ok sc_law_lines (fun vs H Q E h => ?_) (fun cdv A outer s H vs Q E hr h => ?_)
  · obtain ⟨a, n, most, far, rfl, _⟩ := h
    rfl
  · obtain ⟨a, n, most, far, rfl, rg, hn, m0, m1, f1, f2, k⟩ := h
    refine ⟨_, (pss_cons (ps_set (i := 3) sc_law_lines.nd rfl (Or.inl rfl) (pe_op op_add pe_int (pe_cal c_law_draw hr (by decide) (by rfl) (pa_cons (pv 0) (pa_cons (pv 1) pa_nil)))))
      (pss_one (ps_ret (pe_lc (own := [("turn", 4)]) rfl sc_law_lines.nd (pi_range1 rfl T.range (pa_cons (pv 3) pa_nil)) (blkOk_by (N := ["pool", "most", "far", "many", "turn"]) (sc := defScope s_lines) (by decide +kernel)) (fun _ _ _ _ _ => (pg_name (i := 4) sc_law_lines.nd rfl (Or.inl rfl))) (fun _ _ _ _ _ => pts_nil) (fun _ _ _ _ _ => (pe_cal c_law_draw hr (by decide) (by rfl) (pa_cons (pv 0) (pa_cons (pe_ix (show IxR _ (rIxL K) from ix_list) (pe_lst (pa_cons pe_int (pa_cons pe_int (pa_cons pe_int (pa_cons (pv 2) pa_nil))))) (pe_cal c_law_draw hr (by decide) (by rfl) (pa_cons (pv 0) (pa_cons pe_int pa_nil))) (fun _ _ => rfl)) pa_nil)))))))), ?_⟩
    refine ⟨_, rfl, _, rfl, a, _, most, rfl, rg, by omega, by omega, log9 (a := 10) (by omega) (by decide), fun H1 d kp1 rg1 d0 d1 => ⟨_, _, rfl, rfl, ?_⟩⟩
    refine ⟨_, rfl, _, rfl, by omega, by omega, fun D hD => ?_⟩
    have Da := rg1.off hD
    have D0 : H D = none := by
      cases z : H D with
      | none => rfl
      | some o =>
        have q := kp1 _ _ Da Da z
        rw [hD] at q
        cases q
    refine lc_range (lo := 0) (fun i H' => ∃ tx : List Int, Keep a a H1 H' ∧ Rng H' a (n + 1 + 2 * i) ∧ H' D = some (.lst (tx.map V.int)) ∧ (∀ x ∈ tx, 0 ≤ x ∧ x < max 40 far) ∧ tx.length = i)
      ⟨[], Keep.of (new_same hD), rg1.same (new_same hD), upd_same, fun _ z => (nomatch z), rfl⟩ (fun i H2 hi h => ?_) (fun H2 h => ?_)
    · obtain ⟨tx, kp, rg2, hd, it, tl⟩ := h
      have hi' : i < 61 := by omega
      refine ⟨rfl, _, rfl, _, rfl, (by show 4 ≤ sizeLine; decide), fun q nq => ?_⟩
      have qr := rg2.off nq
      have e_H3 : Same H2 (upd H2 q (.lst [V.int 2, .int 8, .int 40, .int far])) := new_same nq
      have h_q : (upd H2 q (.lst [V.int 2, .int 8, .int 40, .int far])) q = some (.lst [V.int 2, .int 8, .int 40, .int far]) := upd_same
      generalize upd H2 q (.lst [V.int 2, .int 8, .int 40, .int far]) = H3 at e_H3 h_q ⊢
      replace rg2 := rg2.same e_H3
      replace hd := e_H3 _ _ hd
      replace kp := kp.same1 e_H3
      refine ⟨_, rfl, a, _, 4, rfl, rg2, by omega, by decide, by decide, fun H4 d2 kp4 rg4 d20 d21 => ?_⟩
      replace h_q := kp4 _ _ qr qr h_q
      replace hd := kp4 _ _ Da Da hd
      replace kp := kp.trans kp4
      obtain ⟨v, hv, v0, v1⟩ : ∃ v : Int, atI [V.int 2, .int 8, .int 40, .int far] d2 = some (.int v) ∧ 1 ≤ v ∧ v ≤ max 40 far := by
        rcases (show d2 = 0 ∨ d2 = 1 ∨ d2 = 2 ∨ d2 = 3 by omega) with rfl | rfl | rfl | rfl
        · exact ⟨_, rfl, by decide, by omega⟩
        · exact ⟨_, rfl, by decide, by omega⟩
        · exact ⟨_, rfl, by decide, by omega⟩
        · exact ⟨_, rfl, f1, by omega⟩
      refine ⟨q, _, _, _, rfl, rfl, SqL.of h_q, hv, a, _, v, rfl, rg4, by omega, by omega, log9 (a := 110) (by omega) (by decide), fun H5 x5 kp5 rg5 x50 x51 => ?_⟩
      replace hd := kp5 _ _ Da Da hd
      replace kp := kp.trans kp5
      refine ⟨_, hd, lt_line (by rw [List.length_map]; omega), tx ++ [x5], kp.freeU hD, (rng_upd rg5 Da).more (by omega), by rw [upd_same, List.map_append]; rfl, fun x hx => ?_, by rw [List.length_append, tl]; rfl⟩
      rcases List.mem_append.mp hx with z | z
      · exact it x z
      · rw [List.mem_singleton.mp z]
        omega
    · obtain ⟨tx, kp, rg2, hd, it, tl⟩ := h
      exact k _ D tx (kp1.trans kp) (rg2.more (by omega)) Da D0 hd it (by omega) (by omega)
end
end Gc

/-! running commands over plain texts: the goal is reached exactly if the box is fulfilled -/
namespace Gc
def seen (t : Int) : Option Int → Int
  | none => t
  | some a => min a t
/-- the goal of the cursor after one command in a row of length t -/
def aim1 (t : Int) (a : Option Int) : Cmd → Option Int
  | .down _ => a
  | .up _ => a
  | .right n => some (min (seen t a + n) t)
  | .left n => some (max 0 (seen t a - n))
  | .home => some 0
  | .stop => none
def aimF (T : Int → Int) : Int → Option Int → List Cmd → Option Int
  | _, a, [] => a
  | r, a, c :: cs => aimF T (r + c.dv) (aim1 (T r) a c) cs
theorem aimF_app (T : Int → Int) : ∀ (xs ys : List Cmd) (r : Int) (a : Option Int), aimF T r a (xs ++ ys) = aimF T (r + last xs) (aimF T r a xs) ys
  | [], ys, r, a => by
    show aimF T r a ys = aimF T (r + 0) a ys
    rw [Int.add_zero]
  | c :: xs, ys, r, a => by
    show aimF T (r + c.dv) (aim1 (T r) a c) (xs ++ ys) = aimF T (r + (c.dv + last xs)) _ ys
    rw [aimF_app T xs ys, Int.add_assoc]
    rfl
theorem aimF_snoc (T : Int → Int) (cs : List Cmd) (c : Cmd) (r : Int) (a : Option Int) : aimF T r a (cs ++ [c]) = aim1 (T (r + last cs)) (aimF T r a cs) c := aimF_app T cs [c] r a
def ge (a : Option Int) (n : Int) : Prop := ∀ x, a = some x → n ≤ x
theorem ge_none (n : Int) : ge none n := fun _ h => nomatch h
theorem ge_some {x n : Int} : ge (some x) n ↔ n ≤ x := ⟨fun h => h x rfl, fun h y e => by rw [← Option.some.inj e]; exact h⟩
theorem seen_ge {t n : Int} {a : Option Int} : n ≤ seen t a ↔ n ≤ t ∧ ge a n := by
  cases a with
  | none => exact ⟨fun h => ⟨h, ge_none n⟩, fun h => h.1⟩
  | some x =>
    rw [ge_some]
    show n ≤ min x t ↔ _
    omega
theorem aim1_nn {t : Int} {a : Option Int} {c : Cmd} (ht : 0 ≤ t) (ha : ge a 0) (ok : c.ok) : ge (aim1 t a c) 0 := by
  have hs : 0 ≤ seen t a := seen_ge.mpr ⟨ht, ha⟩
  cases c with
  | down n => exact ha
  | up n => exact ha
  | right n =>
    have o : 1 ≤ n := ok
    refine ge_some.mpr ?_
    omega
  | left n =>
    refine ge_some.mpr ?_
    omega
  | home => exact ge_some.mpr (Int.le_refl 0)
  | stop => exact ge_none 0
theorem aimF_nn {T : Int → Int} (hT : ∀ k, 0 ≤ T k) : ∀ {cs : List Cmd} {r : Int} {a : Option Int}, AllOk cs → ge a 0 → ge (aimF T r a cs) 0
  | [], _, _, _, h => h
  | c :: cs, r, a, ok, h => aimF_nn hT (cs := cs) (fun d hd => ok d (List.mem_cons_of_mem _ hd)) (aim1_nn (hT r) h (ok c List.mem_cons_self))
theorem last_snoc (cs : List Cmd) (c : Cmd) : last (cs ++ [c]) = last cs + c.dv := by
  rw [last_app]
  show _ + (c.dv + 0) = _
  omega
theorem reqF_le {f : Int → Int} {o v : Int} {T : Int → Int} {r : Int} : (∀ k, reqF f o v k ≤ T (r + k)) ↔ (∀ k, f k ≤ T (r + k)) ∧ v ≤ T (r + o) := by
  constructor
  · intro h
    refine ⟨fun k => Int.le_trans (reqF_ge f o v k) (h k), ?_⟩
    have := h o
    unfold reqF at this
    rw [if_pos rfl] at this
    omega
  · rintro ⟨h1, h2⟩ k
    unfold reqF
    have := h1 k
    split
    · rename_i e
      subst e
      omega
    · exact this
/-- the box's walk, and the run -/
theorem go_char {T : Int → Int} (hT : ∀ k, 0 ≤ T k) {r : Int} {a : Option Int} (ha : ge a 0) : ∀ (rs : List Cmd) (need : Int) (f : Int → Int), AllOk rs → 1 ≤ need →
    ((∃ st g, goF rs (last rs.reverse) need f = some (st, g) ∧ (∀ n, st = some n → ge a n) ∧ ∀ k, g k ≤ T (r + k)) ↔ (∀ k, f k ≤ T (r + k)) ∧ ge (aimF T r a rs.reverse) need)
  | [], need, f, _, _ => by
    constructor
    · rintro ⟨st, g, e, h1, h2⟩
      cases e
      exact ⟨h2, h1 need rfl⟩
    · rintro ⟨h1, h2⟩
      exact ⟨_, _, rfl, fun n e => by rw [← Option.some.inj e]; exact h2, h1⟩
  | .home :: rs, need, f, ok, hn => by
    rw [List.reverse_cons, aimF_snoc]
    constructor
    · rintro ⟨st, g, e, _⟩
      cases e
    · rintro ⟨_, h2⟩
      have : need ≤ 0 := ge_some.mp h2
      omega
  | .stop :: rs, need, f, ok, hn => by
    rw [List.reverse_cons, aimF_snoc]
    constructor
    · rintro ⟨st, g, e, _, h2⟩
      cases e
      exact ⟨h2, ge_none _⟩
    · rintro ⟨h1, _⟩
      exact ⟨_, _, rfl, (fun n e => nomatch e), h1⟩
  | .down n :: rs, need, f, ok, hn => by
    rw [List.reverse_cons, aimF_snoc, last_snoc]
    have ih := go_char hT (r := r) ha rs need f (fun d hd => ok d (List.mem_cons_of_mem _ hd)) hn
    have e : last rs.reverse + (Cmd.down n).dv - n = last rs.reverse := by
      show last rs.reverse + n - n = _
      omega
    simp only [goF]
    rw [e]
    exact ih
  | .up n :: rs, need, f, ok, hn => by
    rw [List.reverse_cons, aimF_snoc, last_snoc]
    have ih := go_char hT (r := r) ha rs need f (fun d hd => ok d (List.mem_cons_of_mem _ hd)) hn
    have e : last rs.reverse + (Cmd.up n).dv + n = last rs.reverse := by
      show last rs.reverse + -n + n = _
      omega
    simp only [goF]
    rw [e]
    exact ih
  | .left n :: rs, need, f, ok, hn => by
    have o : 1 ≤ n := ok _ List.mem_cons_self
    rw [List.reverse_cons, aimF_snoc, last_snoc]
    have ih := go_char hT (r := r) ha rs (need + n) (reqF f (last rs.reverse) (need + n)) (fun d hd => ok d (List.mem_cons_of_mem _ hd)) (by omega)
    have e : last rs.reverse + (Cmd.left n).dv = last rs.reverse := Int.add_zero _
    simp only [goF]
    rw [e, ih, reqF_le]
    have s : ge (aim1 (T (r + last rs.reverse)) (aimF T r a rs.reverse) (.left n)) need ↔ need + n ≤ T (r + last rs.reverse) ∧ ge (aimF T r a rs.reverse) (need + n) := by
      rw [← seen_ge]
      show ge (some _) need ↔ _
      rw [ge_some]
      omega
    rw [s]
    exact ⟨fun h => ⟨h.1.1, h.1.2, h.2⟩, fun h => ⟨⟨h.1, h.2.1⟩, h.2.2⟩⟩
  | .right n :: rs, need, f, ok, hn => by
    have o : 1 ≤ n := ok _ List.mem_cons_self
    have okr : AllOk rs := fun d hd => ok d (List.mem_cons_of_mem _ hd)
    rw [List.reverse_cons, aimF_snoc, last_snoc]
    have e : last rs.reverse + (Cmd.right n).dv = last rs.reverse := Int.add_zero _
    have nn : 0 ≤ seen (T (r + last rs.reverse)) (aimF T r a rs.reverse) := seen_ge.mpr ⟨hT _, aimF_nn hT (fun d hd => okr d (List.mem_reverse.mp hd)) ha⟩
    simp only [goF]
    rw [e]
    have s : ge (aim1 (T (r + last rs.reverse)) (aimF T r a rs.reverse) (.right n)) need ↔ need ≤ T (r + last rs.reverse) ∧ need - n ≤ seen (T (r + last rs.reverse)) (aimF T r a rs.reverse) := by
      show ge (some _) need ↔ _
      rw [ge_some]
      omega
    rw [s]
    by_cases c : need > n
    · rw [if_pos c]
      have ih := go_char hT (r := r) ha rs (need - n) (reqF f (last rs.reverse) need) okr (by omega)
      rw [ih, reqF_le, seen_ge]
      exact ⟨fun h => ⟨h.1.1, h.1.2, by omega, h.2⟩, fun h => ⟨⟨h.1, h.2.1⟩, h.2.2.2⟩⟩
    · rw [if_neg c]
      constructor
      · rintro ⟨st, g, e, _, h2⟩
        cases e
        have h3 := reqF_le.mp h2
        exact ⟨h3.1, h3.2, by omega⟩
      · rintro ⟨h1, h2, _⟩
        exact ⟨_, _, rfl, (fun n e => nomatch e), reqF_le.mpr ⟨h1, h2⟩⟩
/-- the goal is reached exactly if the start fulfils the box -/
theorem box_char {T : Int → Int} (hT : ∀ k, 0 ≤ T k) {r : Int} {a : Option Int} (ha : ge a 0) {cs : List Cmd} {goal : Int} (ok : AllOk cs) (hg : 1 ≤ goal) :
    ge (aimF T r a cs) goal ↔ ∃ st L, boxM cs goal = some (st, L) ∧ (∀ n, st = some n → ge a n) ∧ ∀ k, val L k ≤ T (r + k) := by
  have h := go_char hT (r := r) ha cs.reverse goal (fun _ => 0) (allOk_rev ok) hg
  rw [List.reverse_reverse] at h
  have h0 : (∀ k : Int, (fun _ : Int => (0 : Int)) k ≤ T (r + k)) := fun k => hT _
  have h' : (∃ st g, boxF cs goal = some (st, g) ∧ (∀ n, st = some n → ge a n) ∧ ∀ k, g k ≤ T (r + k)) ↔ ge (aimF T r a cs) goal := h.trans ⟨fun x => x.2, fun x => ⟨h0, x⟩⟩
  rw [← h']
  rcases box_spec ok hg with ⟨e1, e2⟩ | ⟨st, b, e1, gb, e2, _⟩
  · rw [e1, e2]
    constructor
    · rintro ⟨_, _, z, _⟩
      cases z
    · rintro ⟨_, _, z, _⟩
      cases z
  · rw [e1, e2]
    have vp := val_perm gb (List.mergeSort_perm b leK)
    constructor
    · rintro ⟨st', g, z, h1, h2⟩
      cases z
      exact ⟨_, _, rfl, h1, fun k => by rw [vp]; exact h2 k⟩
    · rintro ⟨st', L, z, h1, h2⟩
      cases z
      exact ⟨_, _, rfl, h1, fun k => by rw [← vp]; exact h2 k⟩
end Gc

/-! rows that are visited; the least text -/
namespace Gc
def Within (cs : List Cmd) (lo hi : Int) : Prop := ∀ i, lo ≤ last (cs.take i) ∧ last (cs.take i) ≤ hi
theorem Within.tail {c : Cmd} {cs : List Cmd} {lo hi : Int} (h : Within (c :: cs) lo hi) : Within cs (lo - c.dv) (hi - c.dv) := fun i => by
  have q := h (i + 1)
  have e : last ((c :: cs).take (i + 1)) = c.dv + last (cs.take i) := rfl
  rw [e] at q
  omega
theorem Within.init {cs : List Cmd} {c : Cmd} {lo hi : Int} (h : Within (cs ++ [c]) lo hi) : Within cs lo hi := fun i => by
  by_cases l : i ≤ cs.length
  · have q := h i
    rw [List.take_append_of_le_length l] at q
    exact q
  · have q := h cs.length
    rw [List.take_append_of_le_length (Nat.le_refl _)] at q
    rw [List.take_of_length_le (by omega)]
    rw [List.take_length] at q
    exact q
theorem Within.whole {cs : List Cmd} {lo hi : Int} (h : Within cs lo hi) : lo ≤ last cs ∧ last cs ≤ hi := by
  have q := h cs.length
  rw [List.take_length] at q
  exact q
theorem Within.zero {cs : List Cmd} {lo hi : Int} (h : Within cs lo hi) : lo ≤ 0 ∧ 0 ≤ hi := h 0
theorem keys_req' {b : Ps} {o v k : Int} (h : k ∈ keys (req b o v)) : k = o ∨ k ∈ keys b := by
  unfold req at h
  rw [keys_put] at h
  split at h
  · exact .inr h
  · rcases List.mem_append.mp h with q | q
    · exact .inr q
    · exact .inl (List.mem_singleton.mp q)
/-- the offsets of a box are rows that are visited -/
theorem go_within {lo hi : Int} : ∀ {rs : List Cmd} {need : Int} {b : Ps} {st : Option Int} {b' : Ps}, go rs (last rs.reverse) need b = some (st, b') → Within rs.reverse lo hi → (∀ k ∈ keys b, lo ≤ k ∧ k ≤ hi) → ∀ k ∈ keys b', lo ≤ k ∧ k ≤ hi
  | [], need, b, st, b', h, _, hb => by cases h; exact hb
  | .home :: rs, need, b, st, b', h, _, _ => by cases h
  | .stop :: rs, need, b, st, b', h, _, hb => by cases h; exact hb
  | .down n :: rs, need, b, st, b', h, w, hb => by
    rw [List.reverse_cons] at h w
    rw [last_snoc] at h
    have e : last rs.reverse + (Cmd.down n).dv - n = last rs.reverse := by
      show last rs.reverse + n - n = _
      omega
    simp only [go] at h
    rw [e] at h
    exact go_within h w.init hb
  | .up n :: rs, need, b, st, b', h, w, hb => by
    rw [List.reverse_cons] at h w
    rw [last_snoc] at h
    have e : last rs.reverse + (Cmd.up n).dv + n = last rs.reverse := by
      show last rs.reverse + -n + n = _
      omega
    simp only [go] at h
    rw [e] at h
    exact go_within h w.init hb
  | .left n :: rs, need, b, st, b', h, w, hb => by
    rw [List.reverse_cons] at h w
    rw [last_snoc, show last rs.reverse + (Cmd.left n).dv = last rs.reverse from Int.add_zero _] at h
    simp only [go] at h
    refine go_within h w.init fun k hk => ?_
    rcases keys_req' hk with q | q
    · rw [q]
      exact w.init.whole
    · exact hb k q
  | .right n :: rs, need, b, st, b', h, w, hb => by
    rw [List.reverse_cons] at h w
    rw [last_snoc, show last rs.reverse + (Cmd.right n).dv = last rs.reverse from Int.add_zero _] at h
    have hr : ∀ k ∈ keys (req b (last rs.reverse) need), lo ≤ k ∧ k ≤ hi := fun k hk => by
      rcases keys_req' hk with q | q
      · rw [q]
        exact w.init.whole
      · exact hb k q
    simp only [go] at h
    split at h
    · exact go_within h w.init hr
    · cases h
      exact hr
theorem box_within {lo hi : Int} {cs : List Cmd} {goal : Int} {st : Option Int} {L : Ps} (h : boxM cs goal = some (st, L)) (w : Within cs lo hi) : ∀ q ∈ L, lo ≤ q.1 ∧ q.1 ≤ hi := by
  unfold boxM at h
  cases e : go cs.reverse (last cs) goal [] with
  | none =>
    rw [e] at h
    cases h
  | some x =>
    rw [e] at h
    obtain ⟨st', b'⟩ := x
    have h' : (st', b'.mergeSort leK) = (st, L) := Option.some.inj h
    cases h'
    have k := go_within (rs := cs.reverse) (lo := lo) (hi := hi) (by rw [List.reverse_reverse]; exact e) (by rw [List.reverse_reverse]; exact w) (fun k hk => by cases hk)
    intro q hq
    exact k q.1 (List.mem_map.mpr ⟨q, (List.mergeSort_perm b' leK).mem_iff.mp hq, rfl⟩)
/-! ### a text from a box -/
def setAll (lo : Int) (T : List Int) (L : Ps) : List Int := L.foldl (fun T q => T.set (q.1 - lo).toNat q.2) T
theorem setAll_len (lo : Int) : ∀ (L : Ps) (T : List Int), (setAll lo T L).length = T.length
  | [], _ => rfl
  | q :: L, T => by
    show (setAll lo (T.set (q.1 - lo).toNat q.2) L).length = _
    rw [setAll_len lo L, List.length_set]
theorem setAll_get {lo : Int} : ∀ {L : Ps} {T : List Int} {k : Int}, (keys L).Nodup → (∀ q ∈ L, lo ≤ q.1 ∧ q.1 - lo < T.length) → lo ≤ k → k - lo < T.length →
    (setAll lo T L).getD (k - lo).toNat 0 = match look L k with | some v => v | none => T.getD (k - lo).toNat 0
  | [], T, k, _, _, _, _ => rfl
  | q :: L, T, k, nd, hq, h0, h1 => by
    have nd' : q.1 ∉ keys L ∧ (keys L).Nodup := List.nodup_cons.mp nd
    have q0 := hq q List.mem_cons_self
    show (setAll lo (T.set (q.1 - lo).toNat q.2) L).getD (k - lo).toNat 0 = _
    rw [setAll_get (L := L) nd'.2 (fun p hp => by rw [List.length_set]; exact hq p (List.mem_cons_of_mem _ hp)) h0 (by rw [List.length_set]; exact h1), look_cons]
    by_cases e : q.1 = k
    · subst e
      rw [if_pos rfl, look_none.mpr nd'.1]
      show (T.set (q.1 - lo).toNat q.2).getD (q.1 - lo).toNat 0 = q.2
      rw [List.getD_eq_getElem?_getD, List.getElem?_set_self (by omega)]
      rfl
    · rw [if_neg e]
      cases look L k with
      | some v => rfl
      | none =>
        show (T.set (q.1 - lo).toNat q.2).getD (k - lo).toNat 0 = T.getD (k - lo).toNat 0
        rw [List.getD_eq_getElem?_getD, List.getD_eq_getElem?_getD, List.getElem?_set_ne (by omega)]
/-! ### the run over a list of lengths -/
def lenAt (T : List Int) (r : Int) : Int := T.getD r.toNat 0
/-- the run over a text: the row must stand -/
def afterL (T : List Int) : Int → Option Int → List Cmd → Option (Int × Option Int)
  | r, a, [] => some (r, a)
  | r, a, c :: cs => if c.vert = true then (if 0 ≤ r + c.dv ∧ r + c.dv < T.length then afterL T (r + c.dv) a cs else none) else afterL T r (aim1 (lenAt T r) a c) cs
theorem Within.le {cs : List Cmd} {lo hi lo' hi' : Int} (h : Within cs lo hi) (h1 : lo' ≤ lo) (h2 : hi ≤ hi') : Within cs lo' hi' := fun i => by
  have := h i
  omega
theorem afterL_in {T : List Int} : ∀ {cs : List Cmd} {r : Int} {a : Option Int}, Within cs (-r) (T.length - 1 - r) → afterL T r a cs = some (r + last cs, aimF (lenAt T) r a cs)
  | [], r, a, _ => by
    show some (r, a) = some (r + 0, a)
    rw [Int.add_zero]
  | c :: cs, r, a, w => by
    have w1 := w 1
    have e1 : last ((c :: cs).take 1) = c.dv + 0 := rfl
    rw [e1] at w1
    have wt : Within cs (-(r + c.dv)) (T.length - 1 - (r + c.dv)) := w.tail.le (by omega) (by omega)
    have ih := afterL_in (a := aim1 (lenAt T r) a c) wt
    have el : last (c :: cs) = c.dv + last cs := rfl
    have ea : aimF (lenAt T) r a (c :: cs) = aimF (lenAt T) (r + c.dv) (aim1 (lenAt T r) a c) cs := rfl
    rw [ea, el, ← Int.add_assoc]
    by_cases v : c.vert = true
    · have ia : aim1 (lenAt T r) a c = a := by
        cases c with
        | down n => rfl
        | up n => rfl
        | right n => cases v
        | left n => cases v
        | home => cases v
        | stop => cases v
      rw [ia] at ih ⊢
      simp only [afterL]
      rw [if_pos v, if_pos ⟨by omega, by omega⟩, ih]
    · have d0 : c.dv = 0 := by
        cases c with
        | down n => exact absurd rfl v
        | up n => exact absurd rfl v
        | right n => rfl
        | left n => rfl
        | home => rfl
        | stop => rfl
      simp only [afterL]
      rw [if_neg v]
      rw [d0, Int.add_zero] at ih ⊢
      exact ih
theorem lenAt_nn {T : List Int} (h : ∀ x ∈ T, 0 ≤ x) (r : Int) : 0 ≤ lenAt T r := by
  unfold lenAt
  rw [List.getD_eq_getElem?_getD]
  cases e : T[r.toNat]? with
  | none => exact Int.le_refl 0
  | some x => exact h x (List.mem_of_getElem? e)
/-- over a text whose rows are all there: the goal is reached exactly if the box is fulfilled -/
theorem after_char {T : List Int} (hT : ∀ x ∈ T, 0 ≤ x) {r : Int} {a : Option Int} (ha : ge a 0) {cs : List Cmd} {goal : Int} (ok : AllOk cs) (hg : 1 ≤ goal) (w : Within cs (-r) (T.length - 1 - r)) :
    ∃ a', afterL T r a cs = some (r + last cs, a') ∧ ge a' 0 ∧ (ge a' goal ↔ ∃ st L, boxM cs goal = some (st, L) ∧ (∀ n, st = some n → ge a n) ∧ ∀ k, val L k ≤ lenAt T (r + k)) :=
  ⟨_, afterL_in w, aimF_nn (lenAt_nn hT) ok ha, box_char (lenAt_nn hT) ha ok hg⟩
/-! ### the least text -/
def textM (lo hi : Int) (L : Ps) : List Int := setAll lo (List.replicate (hi - lo + 1).toNat 0) L
theorem textM_len {lo hi : Int} (h : lo ≤ hi) (L : Ps) : ((textM lo hi L).length : Int) = hi - lo + 1 := by
  unfold textM
  rw [setAll_len, List.length_replicate]
  omega
theorem textM_at {lo hi : Int} {L : Ps} (g : Good L) (hL : ∀ q ∈ L, lo ≤ q.1 ∧ q.1 ≤ hi) {k : Int} (h0 : lo ≤ k) (h1 : k ≤ hi) : lenAt (textM lo hi L) (k - lo) = val L k := by
  unfold lenAt textM
  have hr : ((List.replicate (hi - lo + 1).toNat (0 : Int)).length : Int) = hi - lo + 1 := by
    rw [List.length_replicate]
    omega
  rw [setAll_get g.nd (fun q hq => by have := hL q hq; omega) h0 (by omega)]
  unfold val
  cases look L k with
  | some v => rfl
  | none =>
    show (List.replicate _ (0 : Int)).getD _ 0 = 0
    rw [List.getD_eq_getElem?_getD, List.getElem?_replicate]
    split <;> rfl
theorem val_off {lo hi : Int} {L : Ps} (hL : ∀ q ∈ L, lo ≤ q.1 ∧ q.1 ≤ hi) {k : Int} (h : ¬ (lo ≤ k ∧ k ≤ hi)) : val L k = 0 := by
  refine val_out fun z => ?_
  obtain ⟨q, hq, e⟩ := List.mem_map.mp z
  rw [← e] at h
  exact h (hL q hq)
theorem textM_nn {lo hi : Int} {L : Ps} (g : Good L) (hL : ∀ q ∈ L, lo ≤ q.1 ∧ q.1 ≤ hi) : ∀ x ∈ textM lo hi L, 0 ≤ x := by
  intro x hx
  obtain ⟨i, hi'⟩ := List.mem_iff_getElem?.mp hx
  have l := (List.getElem?_eq_some_iff.mp hi').1
  have l2 : (textM lo hi L).length = (hi - lo + 1).toNat := by
    unfold textM
    rw [setAll_len, List.length_replicate]
  have e := textM_at g hL (k := i + lo) (by omega) (by omega)
  unfold lenAt at e
  rw [show ((i : Int) + lo - lo).toNat = i by omega, List.getD_eq_getElem?_getD, hi'] at e
  have e' : x = val L (i + lo) := e
  rw [e']
  exact val_nonneg g _
section
variable {cs : List Cmd} {goal lo hi : Int} {st : Option Int} {L : Ps}
/-- from it, and just its goal, the goal is reached -/
theorem least_gets (g : Good L) (w : Within cs lo hi) (ok : AllOk cs) (hg : 1 ≤ goal) (e : boxM cs goal = some (st, L)) (pos : ∀ n, st = some n → 1 ≤ n) :
    ∃ a', afterL (textM lo hi L) (-lo) (some (st.getD 0)) cs = some (-lo + last cs, a') ∧ ge a' goal := by
  have hL := box_within e w
  have z := w.zero
  have tl := textM_len (lo := lo) (hi := hi) (by omega) L
  have a0 : ge (some (st.getD 0)) 0 := ge_some.mpr (by
    cases st with
    | none => exact Int.le_refl 0
    | some n =>
      have := pos n rfl
      show 0 ≤ n
      omega)
  obtain ⟨a', h1, _, h2⟩ := after_char (textM_nn g hL) a0 ok hg (w.le (show -(-lo) ≤ lo by omega) (show hi ≤ (textM lo hi L).length - 1 - (-lo) by omega))
  refine ⟨a', h1, h2.mpr ⟨st, L, e, fun n en => ge_some.mpr (by rw [en]; exact Int.le_refl n), fun k => ?_⟩⟩
  by_cases h : lo ≤ k ∧ k ≤ hi
  · rw [show -lo + k = k - lo by omega, textM_at g hL h.1 h.2]
    exact Int.le_refl _
  · rw [val_off hL h]
    exact lenAt_nn (textM_nn g hL) _
/-- with a goal less by one it is not -/
theorem least_goal (g : Good L) (w : Within cs lo hi) (ok : AllOk cs) (hg : 1 ≤ goal) (e : boxM cs goal = some (st, L)) {n : Int} (es : st = some n) (hn : 1 ≤ n) :
    ∃ a', afterL (textM lo hi L) (-lo) (some (n - 1)) cs = some (-lo + last cs, a') ∧ ¬ ge a' goal := by
  have hL := box_within e w
  have z := w.zero
  have tl := textM_len (lo := lo) (hi := hi) (by omega) L
  obtain ⟨a', h1, _, h2⟩ := after_char (textM_nn g hL) (ge_some.mpr (show 0 ≤ n - 1 by omega)) ok hg (w.le (show -(-lo) ≤ lo by omega) (show hi ≤ (textM lo hi L).length - 1 - (-lo) by omega))
  refine ⟨a', h1, fun x => ?_⟩
  obtain ⟨st', L', e', h3, _⟩ := h2.mp x
  rw [e] at e'
  cases e'
  have := ge_some.mp (h3 n es)
  omega
/-- with a length less by one it is not -/
theorem least_row (g : Good L) (w : Within cs lo hi) (ok : AllOk cs) (hg : 1 ≤ goal) (e : boxM cs goal = some (st, L)) (pos : ∀ n, st = some n → 1 ≤ n) {i : Nat} (li : i < (textM lo hi L).length) (h : 0 < lenAt (textM lo hi L) i) :
    ∃ a', afterL ((textM lo hi L).set i (lenAt (textM lo hi L) i - 1)) (-lo) (some (st.getD 0)) cs = some (-lo + last cs, a') ∧ ¬ ge a' goal := by
  have hL := box_within e w
  have z := w.zero
  have tl := textM_len (lo := lo) (hi := hi) (by omega) L
  have a0 : ge (some (st.getD 0)) 0 := ge_some.mpr (by
    cases st with
    | none => exact Int.le_refl 0
    | some n =>
      have := pos n rfl
      show 0 ≤ n
      omega)
  have nn : ∀ x ∈ (textM lo hi L).set i (lenAt (textM lo hi L) i - 1), 0 ≤ x := fun x hx => by
    rcases List.mem_or_eq_of_mem_set hx with q | q
    · exact textM_nn g hL x q
    · omega
  obtain ⟨a', h1, _, h2⟩ := after_char (r := -lo) nn a0 ok hg (w.le (show -(-lo) ≤ lo by omega) (by rw [List.length_set]; omega))
  refine ⟨a', h1, fun x => ?_⟩
  obtain ⟨st', L', e', _, h4⟩ := h2.mp x
  rw [e] at e'
  cases e'
  have q := h4 (i + lo)
  rw [show -lo + (i + lo) = (i : Int) by omega] at q
  have ev := textM_at g hL (k := i + lo) (by omega) (by omega)
  rw [show (i : Int) + lo - lo = i by omega] at ev
  rw [← ev] at q
  have es : lenAt ((textM lo hi L).set i (lenAt (textM lo hi L) i - 1)) i = lenAt (textM lo hi L) i - 1 := by
    conv => lhs; unfold lenAt
    rw [Int.toNat_natCast, List.getD_eq_getElem?_getD, List.getElem?_set_self li]
    rfl
  rw [es] at q
  omega
end
end Gc

/-! what a list of commands does to all goals on one text: a number added, kept between two bounds -/
namespace Gc
/-- the goal None is the greatest -/
def chg1 : Cmd → Int
  | .right n => n
  | .left n => -n
  | _ => 0
def chg : List Cmd → Int
  | [] => 0
  | c :: cs => chg1 c + chg cs
theorem chg_snoc (cs : List Cmd) (c : Cmd) : chg (cs ++ [c]) = chg cs + chg1 c := by
  induction cs with
  | nil => show chg1 c + 0 = 0 + chg1 c; omega
  | cons d cs ih => show chg1 d + chg (cs ++ [c]) = chg1 d + chg cs + chg1 c; rw [ih]; omega
/-- where the goal x goes, if 0 goes to lo, None to hi, and d is added -/
def Clamp (lo hi : Option Int) (d x : Int) (g : Option Int) : Prop := match lo, hi, g with
  | none, none, none => True
  | some l, none, some y => y = max l (x + d)
  | some l, some h, some y => l ≤ h ∧ y = max l (min h (x + d))
  | _, _, _ => False
theorem clamp1 {t : Int} (ht : 0 ≤ t) {lo hi : Option Int} {d x : Int} {g : Option Int} (h : Clamp lo hi d x g) (c : Cmd) (ok : c.ok) : Clamp (aim1 t lo c) (aim1 t hi c) (d + chg1 c) x (aim1 t g c) := by
  unfold Clamp at h
  cases c with
  | down n =>
    show Clamp lo hi (d + 0) x g
    rw [Int.add_zero]
    exact h
  | up n =>
    show Clamp lo hi (d + 0) x g
    rw [Int.add_zero]
    exact h
  | home => exact ⟨Int.le_refl 0, by omega⟩
  | stop => trivial
  | right n =>
    have o : 1 ≤ n := ok
    match lo, hi, g, h with
    | none, none, none, _ =>
      show min (t + n) t ≤ min (t + n) t ∧ min (t + n) t = max (min (t + n) t) (min (min (t + n) t) (x + (d + n)))
      omega
    | some l, none, some y, h =>
      have h' : y = max l (x + d) := h
      show min (min l t + n) t ≤ min (t + n) t ∧ min (min y t + n) t = max (min (min l t + n) t) (min (min (t + n) t) (x + (d + n)))
      omega
    | some l, some e, some y, h =>
      obtain ⟨h1, h2⟩ : l ≤ e ∧ y = max l (min e (x + d)) := h
      show min (min l t + n) t ≤ min (min e t + n) t ∧ min (min y t + n) t = max (min (min l t + n) t) (min (min (min e t + n) t) (x + (d + n)))
      omega
  | left n =>
    have o : 1 ≤ n := ok
    match lo, hi, g, h with
    | none, none, none, _ =>
      show max 0 (t - n) ≤ max 0 (t - n) ∧ max 0 (t - n) = max (max 0 (t - n)) (min (max 0 (t - n)) (x + (d + -n)))
      omega
    | some l, none, some y, h =>
      have h' : y = max l (x + d) := h
      show max 0 (min l t - n) ≤ max 0 (t - n) ∧ max 0 (min y t - n) = max (max 0 (min l t - n)) (min (max 0 (t - n)) (x + (d + -n)))
      omega
    | some l, some e, some y, h =>
      obtain ⟨h1, h2⟩ : l ≤ e ∧ y = max l (min e (x + d)) := h
      show max 0 (min l t - n) ≤ max 0 (min e t - n) ∧ max 0 (min y t - n) = max (max 0 (min l t - n)) (min (max 0 (min e t - n)) (x + (d + -n)))
      omega
theorem clampF {T : Int → Int} (hT : ∀ k, 0 ≤ T k) {x : Int} (x0 : 0 ≤ x) : ∀ {cs : List Cmd} {r : Int} {lo hi : Option Int} {d : Int} {g : Option Int}, AllOk cs → Clamp lo hi d x g → Clamp (aimF T r lo cs) (aimF T r hi cs) (d + chg cs) x (aimF T r g cs)
  | [], r, lo, hi, d, g, _, h => by
    show Clamp lo hi (d + 0) x g
    rw [Int.add_zero]
    exact h
  | c :: cs, r, lo, hi, d, g, ok, h => by
    have q := clampF hT x0 (cs := cs) (r := r + c.dv) (fun e he => ok e (List.mem_cons_of_mem _ he)) (clamp1 (hT r) h c (ok c List.mem_cons_self))
    rw [show d + chg (c :: cs) = d + chg1 c + chg cs from by show d + (chg1 c + chg cs) = _; omega]
    exact q
theorem clamp_all {T : Int → Int} (hT : ∀ k, 0 ≤ T k) {cs : List Cmd} (ok : AllOk cs) (r : Int) {x : Int} (x0 : 0 ≤ x) : Clamp (aimF T r (some 0) cs) (aimF T r none cs) (chg cs) x (aimF T r (some x) cs) := by
  have q := clampF hT x0 (cs := cs) (r := r) (lo := some 0) (hi := none) (d := 0) (g := some x) ok (by show x = max 0 (x + 0); omega)
  rw [Int.zero_add] at q
  exact q
/-- from a goal of at least all lines on, it is as from None, if that leads to a column -/
theorem aimF_far {T : Int → Int} {B : Int} (hB : ∀ k, T k ≤ B) {x : Int} (hx : B ≤ x) : ∀ {cs : List Cmd} {r : Int}, (aimF T r (some x) cs = aimF T r none cs) ∨ (aimF T r (some x) cs = some x ∧ aimF T r none cs = none ∧ chg cs = 0)
  | [], r => .inr ⟨rfl, rfl, rfl⟩
  | c :: cs, r => by
    have same : ∀ a : Option Int, aim1 (T r) (some x) c = a → aim1 (T r) none c = a → (aimF T r (some x) (c :: cs) = aimF T r none (c :: cs)) := fun a e1 e2 => by
      show aimF T (r + c.dv) (aim1 (T r) (some x) c) cs = aimF T (r + c.dv) (aim1 (T r) none c) cs
      rw [e1, e2]
    have sx : seen (T r) (some x) = seen (T r) none := by
      have := hB r
      show min x (T r) = T r
      omega
    cases c with
    | right n => exact .inl (same _ rfl (by show some (min (seen (T r) none + n) (T r)) = some (min (seen (T r) (some x) + n) (T r)); rw [sx]))
    | left n => exact .inl (same _ rfl (by show some (max 0 (seen (T r) none - n)) = some (max 0 (seen (T r) (some x) - n)); rw [sx]))
    | home => exact .inl (same _ rfl rfl)
    | stop => exact .inl (same _ rfl rfl)
    | down n =>
      rcases aimF_far hB hx (cs := cs) (r := r + n) with e | ⟨e1, e2, e3⟩
      · exact .inl e
      · exact .inr ⟨e1, e2, by show 0 + chg cs = 0; omega⟩
    | up n =>
      rcases aimF_far hB hx (cs := cs) (r := r + -n) with e | ⟨e1, e2, e3⟩
      · exact .inl e
      · exact .inr ⟨e1, e2, by show 0 + chg cs = 0; omega⟩
end Gc

/-! commands repeated in a row: one run, the bounds and the change tell them all -/
namespace Gc
def iterA (f : Option Int → Option Int) : Nat → Option Int → Option Int
  | 0, g => g
  | k + 1, g => iterA f k (f g)
/-- the goal behind m further runs, told by the first one's goal -/
def tellM (lo hi : Option Int) (d : Int) (m : Nat) : Option Int → Option Int
  | none => none
  | some y => match hi with
    | none => some (max (y + m * d) (lo.getD 0))
    | some h => some (min (max (y + m * d) (lo.getD 0)) h)
/-- a goal that a run may leave -/
def Img (lo hi : Option Int) : Option Int → Prop
  | none => hi = none
  | some y => ∃ l, lo = some l ∧ l ≤ y ∧ ∀ h, hi = some h → y ≤ h ∧ l ≤ h
theorem clamp_img {lo hi : Option Int} {d x : Int} {g : Option Int} (h : Clamp lo hi d x g) : Img lo hi g := by
  unfold Clamp at h
  split at h
  · rfl
  · exact ⟨_, rfl, by omega, fun _ z => nomatch z⟩
  · obtain ⟨h1, h2⟩ := h
    exact ⟨_, rfl, by omega, fun _ z => by cases z; omega⟩
  · exact h.elim
theorem tell_iter {f : Option Int → Option Int} {d : Int} {lo hi : Option Int} (fn : f none = hi) (hc : ∀ x, 0 ≤ x → Clamp lo hi d x (f (some x))) (l0 : ∀ l, lo = some l → 0 ≤ l) : ∀ (m : Nat) (g : Option Int), Img lo hi g → iterA f m g = tellM lo hi d m g
  | 0, g, hg => by
    show g = tellM lo hi d 0 g
    cases g with
    | none => rfl
    | some y =>
      obtain ⟨l, rfl, ly, hh⟩ := hg
      cases hi with
      | none =>
        show some y = some (max (y + ((0 : Nat) : Int) * d) l)
        rw [show ((0 : Nat) : Int) * d = 0 by simp]
        congr 1
        omega
      | some h =>
        have := hh h rfl
        show some y = some (min (max (y + ((0 : Nat) : Int) * d) l) h)
        rw [show ((0 : Nat) : Int) * d = 0 by simp]
        congr 1
        omega
  | m + 1, g, hg => by
    show iterA f m (f g) = tellM lo hi d (m + 1) g
    cases g with
    | none =>
      have hn : hi = none := hg
      rw [fn, hn, tell_iter (by rw [fn]; exact hn.symm ▸ rfl) (hn ▸ hc) l0 m none rfl]
      rfl
    | some y =>
      obtain ⟨l, rfl, ly, hh⟩ := hg
      have y0 : 0 ≤ y := Int.le_trans (l0 l rfl) ly
      have c := hc y y0
      rw [tell_iter fn hc l0 m _ (clamp_img c)]
      have md : ((m + 1 : Nat) : Int) * d = m * d + d := by rw [Int.natCast_add, Int.add_mul]; simp
      have up : 0 ≤ d → 0 ≤ (m : Int) * d := fun q => Int.mul_nonneg (Int.natCast_nonneg m) q
      have dn : d ≤ 0 → (m : Int) * d ≤ 0 := fun q => Int.mul_nonpos_of_nonneg_of_nonpos (Int.natCast_nonneg m) q
      cases e : f (some y) with
      | none =>
        rw [e] at c
        unfold Clamp at c
        cases hi <;> exact c.elim
      | some y' =>
        rw [e] at c
        cases hi with
        | none =>
          have c' : y' = max l (y + d) := c
          show some (max (y' + (m : Int) * d) l) = some (max (y + ((m + 1 : Nat) : Int) * d) l)
          rw [md]
          generalize (m : Int) * d = t at up dn ⊢
          congr 1
          omega
        | some h =>
          obtain ⟨c1, c2⟩ : l ≤ h ∧ y' = max l (min h (y + d)) := c
          have yh := (hh h rfl).1
          show some (min (max (y' + (m : Int) * d) l) h) = some (min (max (y + ((m + 1 : Nat) : Int) * d) l) h)
          rw [md]
          generalize (m : Int) * d = t at up dn ⊢
          congr 1
          omega
end Gc

/-! running key by key, where it fails, and again and again -/
namespace Gc
/-- one key -/
def stepP (T : List Int) (r : Int) (g : Option Int) (c : Cmd) : Option (Int × Option Int) := if c.vert = true then (if 0 ≤ r + c.dv ∧ r + c.dv < T.length then some (r + c.dv, g) else none) else some (r, aim1 (lenAt T r) g c)
theorem afterL_step (T : List Int) (r : Int) (g : Option Int) (c : Cmd) (cs : List Cmd) : afterL T r g (c :: cs) = (stepP T r g c).bind fun x => afterL T x.1 x.2 cs := by
  unfold stepP
  simp only [afterL]
  by_cases cv : c.vert = true
  · rw [if_pos cv, if_pos cv]
    split <;> rfl
  · rw [if_neg cv, if_neg cv]
    rfl
/-- the index of the first key that leaves the text -/
def failAt (T : List Int) : Int → Option Int → List Cmd → Option Nat
  | _, _, [] => none
  | r, g, c :: cs => match stepP T r g c with
    | none => some 0
    | some x => (failAt T x.1 x.2 cs).map (· + 1)
theorem fail_step (T : List Int) (r : Int) (g : Option Int) (c : Cmd) (cs : List Cmd) : failAt T r g (c :: cs) = match stepP T r g c with
    | none => some 0
    | some x => (failAt T x.1 x.2 cs).map (· + 1) := rfl
theorem step_row {T : List Int} {r : Int} {g : Option Int} {c : Cmd} {x : Int × Option Int} (r0 : 0 ≤ r) (r1 : r < T.length) (h : stepP T r g c = some x) : 0 ≤ x.1 ∧ x.1 < T.length := by
  unfold stepP at h
  split at h
  · split at h
    · rename_i q
      cases h
      exact q
    · cases h
  · cases h
    exact ⟨r0, r1⟩
theorem fail_none {T : List Int} : ∀ {cs : List Cmd} {r : Int} {g : Option Int}, failAt T r g cs = none ↔ afterL T r g cs ≠ none
  | [], r, g => ⟨fun _ z => (nomatch z), fun _ => rfl⟩
  | c :: cs, r, g => by
    rw [afterL_step]
    unfold failAt
    cases stepP T r g c with
    | none => simp
    | some x =>
      have ih := fail_none (T := T) (cs := cs) (r := x.1) (g := x.2)
      show (failAt T x.1 x.2 cs).map (· + 1) = none ↔ afterL T x.1 x.2 cs ≠ none
      rw [Option.map_eq_none_iff]
      exact ih
def repP (T : List Int) (cs : List Cmd) : Nat → Int → Option Int → Nat ⊕ (Int × Option Int)
  | 0, r, g => .inr (r, g)
  | k + 1, r, g => match failAt T r g cs with
    | some n => .inl n
    | none => match afterL T r g cs with
      | some x => repP T cs k x.1 x.2
      | none => .inl 0
theorem repP_step (T : List Int) (cs : List Cmd) (k : Nat) (r : Int) (g : Option Int) : repP T cs (k + 1) r g = match failAt T r g cs with
    | some n => .inl n
    | none => match afterL T r g cs with
      | some x => repP T cs k x.1 x.2
      | none => .inl 0 := rfl
theorem after_row {T : List Int} : ∀ {cs : List Cmd} {r : Int} {g : Option Int} {x : Int × Option Int}, 0 ≤ r → r < T.length → afterL T r g cs = some x → 0 ≤ x.1 ∧ x.1 < T.length
  | [], r, g, x, h0, h1, h => by
    cases h
    exact ⟨h0, h1⟩
  | c :: cs, r, g, x, h0, h1, h => by
    rw [afterL_step] at h
    cases e : stepP T r g c with
    | none =>
      rw [e] at h
      cases h
    | some y =>
      rw [e] at h
      obtain ⟨a, b⟩ := step_row h0 h1 e
      exact after_row a b h
theorem after_nn {T : List Int} (hT : ∀ x ∈ T, 0 ≤ x) : ∀ {cs : List Cmd} {r : Int} {g : Option Int} {x : Int × Option Int}, AllOk cs → ge g 0 → afterL T r g cs = some x → ge x.2 0
  | [], r, g, x, _, hg, h => by
    cases h
    exact hg
  | c :: cs, r, g, x, ok, hg, h => by
    rw [afterL_step] at h
    cases e : stepP T r g c with
    | none =>
      rw [e] at h
      cases h
    | some y =>
      rw [e] at h
      refine after_nn hT (fun d hd => ok d (List.mem_cons_of_mem _ hd)) ?_ h
      unfold stepP at e
      split at e
      · split at e
        · cases e
          exact hg
        · cases e
      · cases e
        have q := aimF_nn (T := lenAt T) (lenAt_nn hT) (cs := [c]) (r := r) (a := g) (fun d hd => by rw [List.mem_singleton.mp hd]; exact ok c List.mem_cons_self) hg
        exact q
/-- possible exactly within -/
theorem after_within {T : List Int} : ∀ {cs : List Cmd} {r : Int} {g : Option Int}, 0 ≤ r → r < T.length → afterL T r g cs ≠ none → Within cs (-r) (T.length - 1 - r)
  | [], r, g, h0, h1, _, i => by
    rw [List.take_nil]
    show -r ≤ 0 ∧ 0 ≤ _
    omega
  | c :: cs, r, g, h0, h1, h, i => by
    rw [afterL_step] at h
    cases e : stepP T r g c with
    | none =>
      rw [e] at h
      exact absurd rfl h
    | some y =>
      rw [e] at h
      obtain ⟨a, b⟩ := step_row h0 h1 e
      have ih := after_within (T := T) (cs := cs) (r := y.1) (g := y.2) a b h
      have ey : y.1 = r + c.dv := by
        unfold stepP at e
        split at e
        · split at e
          · cases e
            rfl
          · cases e
        · rename_i cv
          cases e
          show r = r + c.dv
          have : c.dv = 0 := by cases c <;> first | rfl | exact absurd rfl cv
          omega
      cases i with
      | zero =>
        show -r ≤ 0 ∧ 0 ≤ _
        omega
      | succ i =>
        have q := ih i
        have e2 : last ((c :: cs).take (i + 1)) = c.dv + last (cs.take i) := rfl
        rw [e2]
        omega
theorem fail_in {T : List Int} {cs : List Cmd} {r : Int} {g : Option Int} (h0 : 0 ≤ r) (h1 : r < T.length) (h : failAt T r g cs = none) : Within cs (-r) (T.length - 1 - r) := after_within h0 h1 (fail_none.mp h)
/-- commands that come back to their row -/
theorem repP_row {T : List Int} {cs : List Cmd} {r : Int} (w : Within cs (-r) (T.length - 1 - r)) (l0 : last cs = 0) : ∀ (m : Nat) (g : Option Int), repP T cs m r g = .inr (r, iterA (fun g => aimF (lenAt T) r g cs) m g)
  | 0, g => rfl
  | m + 1, g => by
    have e := afterL_in (a := g) w
    rw [repP_step, fail_none.mpr (by rw [e]; exact fun z => nomatch z), e, l0, Int.add_zero]
    exact repP_row w l0 m _
end Gc

/-! the P family's own running, one key at a time -/
namespace Gc
open PySem L2
abbrev s_after1 : Stmt := top 40
structure TxtO (mg : Str → Option Value) : Prop where
  int : mg "int" = none
  len : mg "len" = none
  min : mg "min" = none
  max : mg "max" = none
theorem at_tP {u v : V} {b : Bool} (h : b = true) : atI [u, v] (if b = true then (1 : Int) else 0) = some v := by
  subst h
  rfl
theorem at_fP {u v : V} {b : Bool} (h : b = false) : atI [u, v] (if b = true then (1 : Int) else 0) = some u := by
  subst h
  rfl
theorem at_lenP {T : List Int} {r : Int} (h0 : 0 ≤ r) (h1 : r < T.length) : atI (T.map V.int) r = some (.int (lenAt T r)) := by
  have e : r = (r.toNat : Int) := by omega
  refine at_of (j := r.toNat) e ?_
  have l : r.toNat < T.length := by omega
  unfold lenAt
  rw [List.getElem?_map, List.getD_eq_getElem?_getD, List.getElem?_eq_getElem l]
  rfl
def spAfter1 (K : PySem.W.Frag) : Sp := fun vs H Q _ => ∃ (t b : Addr) (v : V) (T : List Int) (r : Int) (g : Option Int) (c : Cmd), vs = [.ref t, .ref b, v] ∧ SqL K H t (T.map V.int) ∧ SqT K H b [.int r, optV g] ∧ CmdAt K H v c ∧ 0 ≤ r ∧ r < T.length ∧ c.ok ∧ numC c < 10 ^ 40 ∧
  (stepP T r g c = none → ∀ H', Same H H' → Q .non H') ∧ ∀ r' g', stepP T r g c = some (r', g') → ∀ (H' : Hp) (p : Addr), Same H H' → H p = none → H' p = some (.tup [.int r', optV g']) → Q (.ref p) H'
section
variable {P : Program} {w : World} {K : PySem.W.Frag} {mg : Str → Option Value} {base : Heap}
theorem sc_law_after : FnScope ["lengths", "spot", "key", "row", "goal", "seen"] ["lengths", "spot", "key"] (defScope s_after1) := ⟨rfl, rfl, rfl, by decide +kernel, rfl, by decide +kernel, by decide +kernel⟩
theorem ok_after1 {f : Addr} {fd : FuncData} (F : Fun K "_law_after" "_law_after" s_after1 f fd) (T : TxtO mg) : FnOk P w K mg base CX0 1 f fd ["lengths", "spot", "key"] (spAfter1 K) := by
  refine F.ok sc_law_after (fun vs H Q E h => ?_) (fun cdv A outer s H vs Q E hr h => ?_)
  · obtain ⟨t, b, v, tx, r, g, c, rfl, _⟩ := h
    rfl
  · obtain ⟨t, b, v, tx, r, g, c, rfl, ht, hb, ⟨ka, rfl, hk⟩, r0, r1, hcok, nb, kn, ks⟩ := h
    refine ⟨_, (pss_cons (ps_asg (pv 1) (pg_tup rfl (pgs_cons (pg_name (i := 3) sc_law_after.nd rfl (Or.inl rfl)) (pgs_cons (pg_name (i := 4) sc_law_after.nd rfl (Or.inl rfl)) pgs_nil))))
      (pss_cons (ps_if (pt_cmpR op_eq (pe_ix ix_tup (pv 2) pe_int (fun _ _ => rfl)) pe_str (nomark _)) (pss_one (ps_ret (pe_tup (pa_cons (pv 3) (pa_cons pe_int pa_nil))))) pss_nil)
      (pss_cons (ps_if (pt_cmpR op_eq (pe_ix ix_tup (pv 2) pe_int (fun _ _ => rfl)) pe_str (nomark _)) (pss_one (ps_ret (pe_tup (pa_cons (pv 3) (pa_cons pe_non pa_nil))))) pss_nil)
      (pss_cons (ps_if (pt_cmpR op_in_seq (pe_ix ix_tup (pv 2) pe_int (fun _ _ => rfl)) (pe_lst (pa_cons pe_str (pa_cons pe_str pa_nil))) (by rfl)) (pss_cons (ps_set (i := 3) sc_law_after.nd rfl (Or.inl rfl) (pe_op op_add (pv 3) (pe_op op_mulW (pe_ix ix_tup (pv 2) pe_int (fun _ _ => rfl)) (pe_ix ix_list (pe_lst (pa_cons pe_int (pa_cons (pe_un un_neg pe_int) pa_nil))) (pe_callTy call_int1 (by rfl) T.int (by decide +kernel) (pa_cons (pe_cmpR op_eq (pe_ix ix_tup (pv 2) pe_int (fun _ _ => rfl)) pe_str (nomark _)) pa_nil)) (fun _ _ => rfl)))))
      (pss_one (ps_ret (pe_ifExp (pt_chain op_le op_lt pe_int (pv 3) (pe_callB call_len_seq (by rfl) T.len (by decide +kernel) (pa_cons (pv 0) pa_nil))) (pe_tup (pa_cons (pv 3) (pa_cons (pv 4) pa_nil))) pe_non)))) pss_nil)
      (pss_cons (ps_set (i := 5) sc_law_after.nd rfl (Or.inl rfl) (pe_ifExp (pt_cmpR op_isN (pv 4) pe_non (nomark _)) (pe_ix ix_list (pv 0) (pv 3) (fun _ _ => rfl)) (pe_callB (call_min2 rfl) (by rfl) T.min (by decide +kernel) (pa_cons (pv 4) (pa_cons (pe_ix ix_list (pv 0) (pv 3) (fun _ _ => rfl)) pa_nil)))))
      (pss_one (ps_ret (pe_tup (pa_cons (pv 3) (pa_cons (pe_ifExp (pt_cmpR op_eq (pe_ix ix_tup (pv 2) pe_int (fun _ _ => rfl)) pe_str (nomark _)) (pe_callB (call_min2 rfl) (by rfl) T.min (by decide +kernel) (pa_cons (pe_op op_add (pv 5) (pe_ix ix_tup (pv 2) pe_int (fun _ _ => rfl))) (pa_cons (pe_ix ix_list (pv 0) (pv 3) (fun _ _ => rfl)) pa_nil))) (pe_callB (call_max2 rfl) (by rfl) T.max (by decide +kernel) (pa_cons pe_int (pa_cons (pe_op op_sub (pv 5) (pe_ix ix_tup (pv 2) pe_int (fun _ _ => rfl))) pa_nil)))) pa_nil)))))))))), ?_⟩
    refine ⟨_, rfl, b, _, rfl, hb, rfl, _, _, rfl, _, _, rfl, rfl, ?_⟩
    cases c with
    | home =>
      refine ⟨_, rfl, ka, _, 0, _, rfl, rfl, hk, rfl, rfl, true, by decide +kernel, iteT ?_⟩
      exact ⟨_, rfl, (by show 2 ≤ sizeLine; decide), fun p np => ks r (some 0) rfl _ p (new_same np) np upd_same⟩
    | stop =>
      refine ⟨_, rfl, ka, _, 0, _, rfl, rfl, hk, rfl, rfl, false, by decide +kernel, iteF ?_⟩
      refine ⟨_, rfl, ka, _, 0, _, rfl, rfl, hk, rfl, rfl, true, by decide +kernel, iteT ?_⟩
      exact ⟨_, rfl, (by show 2 ≤ sizeLine; decide), fun p np => ks r none rfl _ p (new_same np) np upd_same⟩
    | down n =>
      have nb' : n < 10 ^ 40 := nb
      refine ⟨_, rfl, ka, _, 0, _, rfl, rfl, hk, rfl, rfl, false, by decide +kernel, iteF ?_⟩
      refine ⟨_, rfl, ka, _, 0, _, rfl, rfl, hk, rfl, rfl, false, by decide +kernel, iteF ?_⟩
      refine ⟨_, rfl, ka, _, 0, _, rfl, rfl, hk, rfl, (by show 2 ≤ sizeLine; decide), fun p1 np1 => ?_⟩
      have e_H1 : Same H (upd H p1 (.lst [V.str "down", .str "up"])) := new_same np1
      have h_p1 : (upd H p1 (.lst [V.str "down", .str "up"])) p1 = some (.lst [V.str "down", .str "up"]) := upd_same
      generalize upd H p1 (.lst [V.str "down", .str "up"]) = H1 at e_H1 h_p1 ⊢
      replace hk := seq_t e_H1 hk
      replace ht := e_H1.seq ht
      refine ⟨p1, _, rfl, .inl (SqL.of h_p1), rfl, rfl, true, by decide +kernel, iteT ?_⟩
      refine ⟨_, rfl, _, rfl, ka, _, 1, _, rfl, rfl, hk, rfl, _, rfl, (by show 2 ≤ sizeLine; decide), fun p2 np2 => ?_⟩
      have e_H2 : Same H1 (upd H1 p2 (.lst [V.int 1, .int (-1)])) := new_same np2
      have h_p2 : (upd H1 p2 (.lst [V.int 1, .int (-1)])) p2 = some (.lst [V.int 1, .int (-1)]) := upd_same
      generalize upd H1 p2 (.lst [V.int 1, .int (-1)]) = H2 at e_H2 h_p2 ⊢
      replace hk := seq_t e_H2 hk
      replace ht := e_H2.seq ht
      refine ⟨_, rfl, ka, _, 0, _, rfl, rfl, hk, rfl, rfl, .inr ⟨_, rfl, p2, _, _, _, rfl, rfl, SqL.of h_p2, at_fP (by decide +kernel), _, _, rfl, rfl, ?_⟩⟩
      have e12 := e_H1.trans e_H2
      have okc := hcok
      have n1 : 1 ≤ n := okc
      refine ⟨wide_mul (a := 134) (b := 2) (by omega) (by decide) (by decide) (by decide) (by decide), _, _, rfl, rfl, ?_⟩
      obtain ⟨r2, hr2, hd⟩ : ∃ r2, r + n * (if false = true then -1 else 1) = r2 ∧ r2 = r + (Cmd.down n).dv := ⟨_, rfl, by show r + n * (if false = true then -1 else 1) = r + n; simp⟩
      have hin : 0 ≤ r2 → r2 < tx.length → stepP tx r g (.down n) = some (r2, g) := fun h1 h2 => by
        unfold stepP
        rw [if_pos (show (Cmd.down n).vert = true from rfl), ← hd, if_pos ⟨h1, h2⟩]
      have hout : ¬ (0 ≤ r2 ∧ r2 < tx.length) → stepP tx r g (.down n) = none := fun h1 => by
        unfold stepP
        rw [if_pos (show (Cmd.down n).vert = true from rfl), ← hd, if_neg h1]
      show gName 3 (V.int (r + n * (if false = true then -1 else 1))) _ H2 _
      rw [hr2]
      refine ⟨_, rfl, _, _, rfl, rfl, _, rfl, ite2 (fun c0 => ?_) (fun c0 => ?_)⟩
      · have c0' : 0 ≤ r2 := of_decide_eq_true c0
        refine ⟨_, rfl, t, _, rfl, .inl ht, _, _, rfl, rfl, _, rfl, ite2 (fun c1 => ?_) (fun c1 => ?_)⟩
        · have c1' : r2 < ((tx.map V.int).length : Int) := of_decide_eq_true c1
          rw [List.length_map] at c1'
          exact ⟨_, rfl, _, rfl, (by show 2 ≤ sizeLine; decide), fun p np => ks r2 g (hin c0' c1') _ p (e12.trans (new_same np)) (e12.free np) upd_same⟩
        · have c1' : ¬ r2 < ((tx.map V.int).length : Int) := fun z => c1 (decide_eq_true z)
          rw [List.length_map] at c1'
          exact kn (hout fun z => c1' z.2) _ e12
      · have c0' : ¬ 0 ≤ r2 := fun z => c0 (decide_eq_true z)
        exact ⟨_, rfl, iteF (kn (hout fun z => c0' z.1) _ e12)⟩
    | up n =>
      have nb' : n < 10 ^ 40 := nb
      refine ⟨_, rfl, ka, _, 0, _, rfl, rfl, hk, rfl, rfl, false, by decide +kernel, iteF ?_⟩
      refine ⟨_, rfl, ka, _, 0, _, rfl, rfl, hk, rfl, rfl, false, by decide +kernel, iteF ?_⟩
      refine ⟨_, rfl, ka, _, 0, _, rfl, rfl, hk, rfl, (by show 2 ≤ sizeLine; decide), fun p1 np1 => ?_⟩
      have e_H1 : Same H (upd H p1 (.lst [V.str "down", .str "up"])) := new_same np1
      have h_p1 : (upd H p1 (.lst [V.str "down", .str "up"])) p1 = some (.lst [V.str "down", .str "up"]) := upd_same
      generalize upd H p1 (.lst [V.str "down", .str "up"]) = H1 at e_H1 h_p1 ⊢
      replace hk := seq_t e_H1 hk
      replace ht := e_H1.seq ht
      refine ⟨p1, _, rfl, .inl (SqL.of h_p1), rfl, rfl, true, by decide +kernel, iteT ?_⟩
      refine ⟨_, rfl, _, rfl, ka, _, 1, _, rfl, rfl, hk, rfl, _, rfl, (by show 2 ≤ sizeLine; decide), fun p2 np2 => ?_⟩
      have e_H2 : Same H1 (upd H1 p2 (.lst [V.int 1, .int (-1)])) := new_same np2
      have h_p2 : (upd H1 p2 (.lst [V.int 1, .int (-1)])) p2 = some (.lst [V.int 1, .int (-1)]) := upd_same
      generalize upd H1 p2 (.lst [V.int 1, .int (-1)]) = H2 at e_H2 h_p2 ⊢
      replace hk := seq_t e_H2 hk
      replace ht := e_H2.seq ht
      refine ⟨_, rfl, ka, _, 0, _, rfl, rfl, hk, rfl, rfl, .inr ⟨_, rfl, p2, _, _, _, rfl, rfl, SqL.of h_p2, at_tP (by decide +kernel), _, _, rfl, rfl, ?_⟩⟩
      have e12 := e_H1.trans e_H2
      have okc := hcok
      have n1 : 1 ≤ n := okc
      refine ⟨wide_mul (a := 134) (b := 2) (by omega) (by decide) (by decide) (by decide) (by decide), _, _, rfl, rfl, ?_⟩
      obtain ⟨r2, hr2, hd⟩ : ∃ r2, r + n * (if true = true then -1 else 1) = r2 ∧ r2 = r + (Cmd.up n).dv := ⟨_, rfl, by show r + n * (if true = true then -1 else 1) = r + -n; simp⟩
      have hin : 0 ≤ r2 → r2 < tx.length → stepP tx r g (.up n) = some (r2, g) := fun h1 h2 => by
        unfold stepP
        rw [if_pos (show (Cmd.up n).vert = true from rfl), ← hd, if_pos ⟨h1, h2⟩]
      have hout : ¬ (0 ≤ r2 ∧ r2 < tx.length) → stepP tx r g (.up n) = none := fun h1 => by
        unfold stepP
        rw [if_pos (show (Cmd.up n).vert = true from rfl), ← hd, if_neg h1]
      show gName 3 (V.int (r + n * (if true = true then -1 else 1))) _ H2 _
      rw [hr2]
      refine ⟨_, rfl, _, _, rfl, rfl, _, rfl, ite2 (fun c0 => ?_) (fun c0 => ?_)⟩
      · have c0' : 0 ≤ r2 := of_decide_eq_true c0
        refine ⟨_, rfl, t, _, rfl, .inl ht, _, _, rfl, rfl, _, rfl, ite2 (fun c1 => ?_) (fun c1 => ?_)⟩
        · have c1' : r2 < ((tx.map V.int).length : Int) := of_decide_eq_true c1
          rw [List.length_map] at c1'
          exact ⟨_, rfl, _, rfl, (by show 2 ≤ sizeLine; decide), fun p np => ks r2 g (hin c0' c1') _ p (e12.trans (new_same np)) (e12.free np) upd_same⟩
        · have c1' : ¬ r2 < ((tx.map V.int).length : Int) := fun z => c1 (decide_eq_true z)
          rw [List.length_map] at c1'
          exact kn (hout fun z => c1' z.2) _ e12
      · have c0' : ¬ 0 ≤ r2 := fun z => c0 (decide_eq_true z)
        exact ⟨_, rfl, iteF (kn (hout fun z => c0' z.1) _ e12)⟩
    | right n =>
      have nb' : n < 10 ^ 40 := nb
      have st : stepP tx r g (.right n) = some (r, aim1 (lenAt tx r) g (.right n)) := rfl
      have al := at_lenP r0 r1
      refine ⟨_, rfl, ka, _, 0, _, rfl, rfl, hk, rfl, rfl, false, by decide +kernel, iteF ?_⟩
      refine ⟨_, rfl, ka, _, 0, _, rfl, rfl, hk, rfl, rfl, false, by decide +kernel, iteF ?_⟩
      refine ⟨_, rfl, ka, _, 0, _, rfl, rfl, hk, rfl, (by show 2 ≤ sizeLine; decide), fun p1 np1 => ?_⟩
      have e_H1 : Same H (upd H p1 (.lst [V.str "down", .str "up"])) := new_same np1
      have h_p1 : (upd H p1 (.lst [V.str "down", .str "up"])) p1 = some (.lst [V.str "down", .str "up"]) := upd_same
      generalize upd H p1 (.lst [V.str "down", .str "up"]) = H1 at e_H1 h_p1 ⊢
      replace hk := seq_t e_H1 hk
      replace ht := e_H1.seq ht
      refine ⟨p1, _, rfl, .inl (SqL.of h_p1), rfl, rfl, false, by decide +kernel, iteF ?_⟩
      cases g with
      | none =>
        refine ⟨_, rfl, rfl, true, by rfl, iteT ⟨_, rfl, _, rfl, t, _, _, _, rfl, rfl, ht, al, ?_⟩⟩
        refine ⟨_, rfl, ?_⟩
        refine ⟨_, rfl, ka, _, 0, _, rfl, rfl, hk, rfl, rfl, true, by decide +kernel, iteT ?_⟩
        refine ⟨_, rfl, _, rfl, ka, _, 1, _, rfl, rfl, hk, rfl, _, _, rfl, rfl, _, rfl, _, rfl, t, _, _, _, rfl, rfl, ht, al, _, _, rfl, (by show 2 ≤ sizeLine; decide), fun p np => ?_⟩
        have e : (if lenAt tx r < lenAt tx r + n then lenAt tx r else lenAt tx r + n) = min (seen (lenAt tx r) none + n) (lenAt tx r) := by
          show _ = min (lenAt tx r + n) (lenAt tx r)
          split <;> omega
        exact ks r _ st _ p (e_H1.trans (new_same np)) (e_H1.free np) (upd_same.trans (by rw [e]; rfl))
      | some x =>
        refine ⟨_, rfl, rfl, false, by rfl, iteF ⟨_, rfl, _, rfl, _, rfl, t, _, _, _, rfl, rfl, ht, al, _, _, rfl, ?_⟩⟩
        refine ⟨_, rfl, ?_⟩
        refine ⟨_, rfl, ka, _, 0, _, rfl, rfl, hk, rfl, rfl, true, by decide +kernel, iteT ?_⟩
        refine ⟨_, rfl, _, rfl, ka, _, 1, _, rfl, rfl, hk, rfl, _, _, rfl, rfl, _, rfl, _, rfl, t, _, _, _, rfl, rfl, ht, al, _, _, rfl, (by show 2 ≤ sizeLine; decide), fun p np => ?_⟩
        have e : (if lenAt tx r < (if lenAt tx r < x then lenAt tx r else x) + n then lenAt tx r else (if lenAt tx r < x then lenAt tx r else x) + n) = min (seen (lenAt tx r) (some x) + n) (lenAt tx r) := by
          show _ = min (min x (lenAt tx r) + n) (lenAt tx r)
          split <;> (split <;> omega)
        exact ks r _ st _ p (e_H1.trans (new_same np)) (e_H1.free np) (upd_same.trans (by rw [e]; rfl))
    | left n =>
      have nb' : n < 10 ^ 40 := nb
      have st : stepP tx r g (.left n) = some (r, aim1 (lenAt tx r) g (.left n)) := rfl
      have al := at_lenP r0 r1
      refine ⟨_, rfl, ka, _, 0, _, rfl, rfl, hk, rfl, rfl, false, by decide +kernel, iteF ?_⟩
      refine ⟨_, rfl, ka, _, 0, _, rfl, rfl, hk, rfl, rfl, false, by decide +kernel, iteF ?_⟩
      refine ⟨_, rfl, ka, _, 0, _, rfl, rfl, hk, rfl, (by show 2 ≤ sizeLine; decide), fun p1 np1 => ?_⟩
      have e_H1 : Same H (upd H p1 (.lst [V.str "down", .str "up"])) := new_same np1
      have h_p1 : (upd H p1 (.lst [V.str "down", .str "up"])) p1 = some (.lst [V.str "down", .str "up"]) := upd_same
      generalize upd H p1 (.lst [V.str "down", .str "up"]) = H1 at e_H1 h_p1 ⊢
      replace hk := seq_t e_H1 hk
      replace ht := e_H1.seq ht
      refine ⟨p1, _, rfl, .inl (SqL.of h_p1), rfl, rfl, false, by decide +kernel, iteF ?_⟩
      cases g with
      | none =>
        refine ⟨_, rfl, rfl, true, by rfl, iteT ⟨_, rfl, _, rfl, t, _, _, _, rfl, rfl, ht, al, ?_⟩⟩
        refine ⟨_, rfl, ?_⟩
        refine ⟨_, rfl, ka, _, 0, _, rfl, rfl, hk, rfl, rfl, false, by decide +kernel, iteF ?_⟩
        refine ⟨_, rfl, _, rfl, ka, _, 1, _, rfl, rfl, hk, rfl, _, _, rfl, rfl, _, _, rfl, (by show 2 ≤ sizeLine; decide), fun p np => ?_⟩
        have e : (if lenAt tx r - n > 0 then lenAt tx r - n else 0) = max 0 (seen (lenAt tx r) none - n) := by
          show _ = max 0 (lenAt tx r - n)
          split <;> omega
        exact ks r _ st _ p (e_H1.trans (new_same np)) (e_H1.free np) (upd_same.trans (by rw [e]; rfl))
      | some x =>
        refine ⟨_, rfl, rfl, false, by rfl, iteF ⟨_, rfl, _, rfl, _, rfl, t, _, _, _, rfl, rfl, ht, al, _, _, rfl, ?_⟩⟩
        refine ⟨_, rfl, ?_⟩
        refine ⟨_, rfl, ka, _, 0, _, rfl, rfl, hk, rfl, rfl, false, by decide +kernel, iteF ?_⟩
        refine ⟨_, rfl, _, rfl, ka, _, 1, _, rfl, rfl, hk, rfl, _, _, rfl, rfl, _, _, rfl, (by show 2 ≤ sizeLine; decide), fun p np => ?_⟩
        have e : (if (if lenAt tx r < x then lenAt tx r else x) - n > 0 then (if lenAt tx r < x then lenAt tx r else x) - n else 0) = max 0 (seen (lenAt tx r) (some x) - n) := by
          show _ = max 0 (min x (lenAt tx r) - n)
          split <;> (split <;> omega)
        exact ks r _ st _ p (e_H1.trans (new_same np)) (e_H1.free np) (upd_same.trans (by rw [e]; rfl))
end
end Gc

/-! the P family's own running, and its cursors -/
namespace Gc
open PySem L2
abbrev s_ran : Stmt := top 41
structure TxtN (mg : Str → Option Value) : Prop where
  enumerate : mg "enumerate" = none
def spRan (K : PySem.W.Frag) : Sp := fun vs H Q _ => ∃ (t b l : Addr) (T : List Int) (r : Int) (g : Option Int) (xs : List V) (cs : List Cmd), vs = [.ref t, .ref b, .ref l] ∧ SqL K H t (T.map V.int) ∧ SqT K H b [.int r, optV g] ∧ SqL K H l xs ∧ CmdsOf K H xs cs ∧ 0 ≤ r ∧ r < T.length ∧ AllOk cs ∧ (∀ c ∈ cs, numC c < 10 ^ 40) ∧
  (∀ n, failAt T r g cs = some n → ∀ (H' : Hp) (p : Addr), Same H H' → H p = none → H' p = some (.lst [.non, .int (n : Nat)]) → Q (.ref p) H') ∧
  ∀ r' g', afterL T r g cs = some (r', g') → ∀ (H' : Hp) (p q : Addr), Same H H' → H p = none → H' p = some (.lst [.ref q, .non]) → SqT K H' q [.int r', optV g'] → Q (.ref p) H'
section
variable {P : Program} {w : World} {K : PySem.W.Frag} {mg : Str → Option Value} {base : Heap}
theorem sc_law_ran : FnScope ["lengths", "spot", "keys", "at", "key", "later"] ["lengths", "spot", "keys"] (defScope s_ran) := ⟨rfl, rfl, rfl, by decide +kernel, rfl, by decide +kernel, by decide +kernel⟩
theorem ok_ran {f : Addr} {fd : FuncData} (F : Fun K "_law_ran" "_law_ran" s_ran f fd) (T : TxtN mg) (c_law_after : Cal P w K mg base 1 "_law_after" (spAfter1 K)) : FnOk P w K mg base CX0 2 f fd ["lengths", "spot", "keys"] (spRan K) := by
  refine F.ok sc_law_ran (fun vs H Q E h => ?_) (fun cdv A outer s H vs Q E hr h => ?_)
  · obtain ⟨t, b, l, tx, r, g, xs, cs, rfl, _⟩ := h
    rfl
  · obtain ⟨t, b, l, tx, r, g, xs, cs, rfl, ht, hb, hl, hc, r0, r1, ok, nb, kf, ks⟩ := h
    refine ⟨_, (pss_cons (ps_for PassesOwn.never rfl (pi_enum (by rfl) T.enumerate (pa_cons (pv 2) pa_nil)) (pg_tup rfl (pgs_cons (pg_name (i := 3) sc_law_ran.nd rfl (Or.inl rfl)) (pgs_cons (pg_name (i := 4) sc_law_ran.nd rfl (Or.inl rfl)) pgs_nil))) (pss_cons (ps_set (i := 5) sc_law_ran.nd rfl (Or.inl rfl) (pe_cal c_law_after hr (by decide) (by rfl) (pa_cons (pv 0) (pa_cons (pv 1) (pa_cons (pv 4) pa_nil)))))
      (pss_cons (ps_if (pt_cmpR op_isN (pv 5) pe_non (nomark _)) (pss_one (ps_ret (pe_lst (pa_cons pe_non (pa_cons (pv 3) pa_nil))))) pss_nil)
      (pss_one (ps_set (i := 1) sc_law_ran.nd rfl (Or.inl rfl) (pv 5))))))
      (pss_one (ps_ret (pe_lst (pa_cons (pv 1) (pa_cons pe_non pa_nil)))))), ?_⟩
    refine ⟨_, rfl, l, xs, rfl, hl, for_it (walk_enum (K := K) (a := l) (xs := xs)) (fun i σ H' => ∃ (b' : Addr) (r' : Int) (g' : Option Int) (v3 v4 v5 : Option V), σ = [some (.ref t), some (.ref b'), some (.ref l), v3, v4, v5] ∧ Same H H' ∧ SqT K H' b' [.int r', optV g'] ∧ 0 ≤ r' ∧ r' < tx.length ∧
        afterL tx r g cs = afterL tx r' g' (cs.drop i) ∧ failAt tx r g cs = (failAt tx r' g' (cs.drop i)).map (· + i))
      ⟨b, r, g, none, none, none, rfl, Same.refl H, hb, r0, r1, rfl, by rw [List.drop_zero]; simp⟩ (fun i σ H' _ ⟨_, _, _, _, _, _, _, e, _⟩ => e.seq hl) (fun i x σ H1 H2 hi h y => ?_) (fun σ H1 h => ?_)⟩
    · obtain ⟨b', r', g', v3, v4, v5, rfl, e, hb', p0, p1, ha, hf⟩ := h
      obtain ⟨T1, x1, y1, rfl, nT, rfl, e1, e2⟩ := y
      obtain rfl := Option.some.inj e1
      obtain ⟨c, hci, hca⟩ := paired_at hc e2
      have eT := new_same (o := HO.tup [.int (i : Nat), y1]) nT
      have e12 := e.trans eT
      have dr : cs.drop i = c :: cs.drop (i + 1) := by
        obtain ⟨q1, q2⟩ := List.getElem?_eq_some_iff.mp hci
        rw [List.drop_eq_getElem_cons q1, q2]
      rw [dr] at ha hf
      rw [afterL_step] at ha
      rw [fail_step] at hf
      refine ⟨T1, _, rfl, SqT.of upd_same, rfl, _, _, rfl, _, _, rfl, rfl, ?_⟩
      refine ⟨_, rfl, _, rfl, _, rfl, t, b', y1, tx, r', g', c, rfl, e12.seq ht, seq_t eT hb', hca.same e12, p0, p1, ok c (List.mem_of_getElem? hci), nb c (List.mem_of_getElem? hci), fun z H3 e3 => ?_, fun r2 g2 z H3 p e3 np hp => ?_⟩
      · rw [z] at hf
        refine ⟨_, rfl, rfl, true, by rfl, iteT ?_⟩
        refine ⟨_, rfl, (by show 2 ≤ sizeLine; decide), fun p np => ?_⟩
        exact kf i (by rw [hf]; simp) _ p ((e12.trans e3).trans (new_same np)) ((e12.trans e3).free np) upd_same
      · rw [z] at ha hf
        obtain ⟨q0, q1⟩ := step_row p0 p1 z
        refine ⟨_, rfl, rfl, false, by simp, iteF ?_⟩
        refine ⟨_, rfl, p, r2, g2, _, _, _, rfl, e12.trans e3, SqT.of hp, q0, q1, ha, ?_⟩
        rw [hf]
        show ((failAt tx r2 g2 (cs.drop (i + 1))).map (· + 1)).map (· + i) = _
        rw [Option.map_map]
        congr 1
        funext k
        show k + 1 + i = k + (i + 1)
        omega
    · obtain ⟨b', r', g', v3, v4, v5, rfl, e, hb', p0, p1, ha, hf⟩ := h
      rw [hc.len, List.drop_length] at ha
      refine ⟨_, rfl, (by show 2 ≤ sizeLine; decide), fun p np => ?_⟩
      exact ks r' g' ha _ p b' (e.trans (new_same np)) (e.free np) upd_same (seq_t (new_same np) hb')
theorem sc_law_spot : FnScope ["pool", "lengths", "far", "goals"] ["pool", "lengths", "far"] (defScope s_spot) := ⟨rfl, rfl, rfl, by decide +kernel, rfl, by decide +kernel, by decide +kernel⟩
theorem ok_spot {f : Addr} {fd : FuncData} (F : Fun K "_law_spot" "_law_spot" s_spot f fd) (T : TxtK mg) (c_law_draw : Cal P w K mg base 1 "_law_draw" spDraw) : FnOk P w K mg base CX0 2 f fd ["pool", "lengths", "far"] (spSpot K) := by
  refine F.ok sc_law_spot (fun vs H Q E h => ?_) (fun cdv A outer s H vs Q E hr h => ?_)
  · obtain ⟨a, l, n, tx, far, rfl, _⟩ := h
    rfl
  · obtain ⟨a, l, n, tx, far, rfl, rg, hn, hl, la, t1, t2, f1, f2, k⟩ := h
    refine ⟨_, (pss_cons (ps_set (i := 3) sc_law_spot.nd rfl (Or.inl rfl) (pe_lst (pa_cons (pe_cal c_law_draw hr (by decide) (by rfl) (pa_cons (pv 0) (pa_cons pe_int pa_nil))) (pa_cons (pe_cal c_law_draw hr (by decide) (by rfl) (pa_cons (pv 0) (pa_cons pe_int pa_nil))) (pa_cons (pe_cal c_law_draw hr (by decide) (by rfl) (pa_cons (pv 0) (pa_cons (pv 2) pa_nil))) (pa_cons pe_non pa_nil))))))
      (pss_one (ps_ret (pe_tup (pa_cons (pe_cal c_law_draw hr (by decide) (by rfl) (pa_cons (pv 0) (pa_cons (pe_callB call_len_seq (by rfl) T.len (by decide +kernel) (pa_cons (pv 1) pa_nil)) pa_nil))) (pa_cons (pe_ix ix_list (pv 3) (pe_cal c_law_draw hr (by decide) (by rfl) (pa_cons (pv 0) (pa_cons pe_int pa_nil))) (fun _ _ => rfl)) pa_nil)))))), ?_⟩
    have k0 : Keep a a H H := Keep.refl H
    refine ⟨_, rfl, a, _, 6, rfl, rg, by omega, by decide, by decide, fun H1 d1 kp1 rg1 d10 d11 => ?_⟩
    replace hl := kp1 _ _ la la hl
    replace k0 := k0.trans kp1
    refine ⟨_, rfl, a, _, 50, rfl, rg1, by omega, by decide, by decide, fun H2 d2 kp2 rg2 d20 d21 => ?_⟩
    replace hl := kp2 _ _ la la hl
    replace k0 := k0.trans kp2
    refine ⟨_, rfl, _, rfl, a, _, far, rfl, rg2, by omega, by omega, log9 (a := 110) (by omega) (by decide), fun H3 d3 kp3 rg3 d30 d31 => ?_⟩
    replace hl := kp3 _ _ la la hl
    replace k0 := k0.trans kp3
    refine ⟨(by show 4 ≤ sizeLine; decide), fun q nq => ?_⟩
    have qa := rg3.off nq
    have e_H4 : Same H3 (upd H3 q (.lst [V.int d1, .int d2, .int d3, .non])) := new_same nq
    have h_q : (upd H3 q (.lst [V.int d1, .int d2, .int d3, .non])) q = some (.lst [V.int d1, .int d2, .int d3, .non]) := upd_same
    generalize upd H3 q (.lst [V.int d1, .int d2, .int d3, .non]) = H4 at e_H4 h_q ⊢
    replace rg3 := rg3.same e_H4
    replace hl := e_H4 _ _ hl
    replace k0 := k0.same1 e_H4
    refine ⟨_, rfl, _, rfl, l, _, rfl, .inl (SqL.of hl), a, _, _, rfl, rg3, by omega, by rw [List.length_map]; omega, ?_, fun H5 d5 kp5 rg5 d50 d51 => ?_⟩
    · rw [List.length_map]
      exact log9 (a := 10) (by omega) (by decide)
    rw [List.length_map] at d51
    replace h_q := kp5 _ _ qa qa h_q
    replace k0 := k0.trans kp5
    refine ⟨_, rfl, _, rfl, a, _, 4, rfl, rg5, by omega, by decide, by decide, fun H6 d6 kp6 rg6 d60 d61 => ?_⟩
    replace h_q := kp6 _ _ qa qa h_q
    replace k0 := k0.trans kp6
    obtain ⟨g, hg, g1⟩ : ∃ g : Option Int, atI [V.int d1, .int d2, .int d3, .non] d6 = some (optV g) ∧ ∀ x, g = some x → 0 ≤ x ∧ x < max 50 far := by
      rcases (show d6 = 0 ∨ d6 = 1 ∨ d6 = 2 ∨ d6 = 3 by omega) with rfl | rfl | rfl | rfl
      · exact ⟨some d1, rfl, fun x z => by cases z; omega⟩
      · exact ⟨some d2, rfl, fun x z => by cases z; omega⟩
      · exact ⟨some d3, rfl, fun x z => by cases z; omega⟩
      · exact ⟨none, rfl, fun x z => nomatch z⟩
    refine ⟨q, _, _, _, rfl, rfl, SqL.of h_q, hg, (by show 2 ≤ sizeLine; decide), fun p np => ?_⟩
    exact k _ p d5 g (k0.trans (Keep.of (new_same np))) ((rg6.same (new_same np)).more (by omega)) upd_same d50 d51 g1
end
end Gc

/-! running, where nothing is raised -/
namespace Gc
open PySem L2
abbrev s_check_text : Stmt := top 12
abbrev s_check_cursor : Stmt := top 13
abbrev s_run : Stmt := top 18
abbrev s_shown_column : Stmt := top 19
abbrev s_moved : Stmt := top 21
abbrev s_new_goal : Stmt := top 22
theorem at_len' {T : List Int} {r : Int} (h0 : 0 ≤ r) (h1 : r < T.length) : atI (T.map V.int) r = some (.int (lenAt T r)) := by
  have e : r = (r.toNat : Int) := by omega
  refine at_of (j := r.toNat) e ?_
  have l : r.toNat < T.length := by omega
  unfold lenAt
  rw [List.getElem?_map, List.getD_eq_getElem?_getD, List.getElem?_eq_getElem l]
  rfl
theorem minI (i j : Int) : (if j < i then j else i) = min i j := by split <;> omega
theorem maxI (i j : Int) : (if j > i then j else i) = max i j := by split <;> omega
theorem iteN1 {c A B : Prop} [Decidable c] (hc : c) (h : B) : if (!decide c) = true then A else B := by
  rw [decide_eq_true hc]
  exact iteF h
theorem iteN0 {c A B : Prop} [Decidable c] (hc : ¬ c) (h : A) : if (!decide c) = true then A else B := by
  rw [decide_eq_false hc]
  exact iteT h
def spText (K : PySem.W.Frag) : Sp := fun vs H Q _ => ∃ (t : Addr) (T : List Int), vs = [.ref t] ∧ SqL K H t (T.map V.int) ∧ T ≠ [] ∧ (∀ x ∈ T, 0 ≤ x) ∧ ∀ H', Same H H' → Q .non H'
def spCursor (K : PySem.W.Frag) : Sp := fun vs H Q _ => ∃ (n r : Int) (g : Option Int) (c : Addr), vs = [.int n, .ref c] ∧ SqT K H c [.int r, optV g] ∧ 0 ≤ r ∧ r < n ∧ ge g 0 ∧ Q .non H
def spShown : Sp := fun vs H Q _ => ∃ (t : Int) (g : Option Int), vs = [.int t, optV g] ∧ Q (.int (seen t g)) H
def spGoal (K : PySem.W.Frag) : Sp := fun vs H Q _ => ∃ (t : Int) (g : Option Int) (v : V) (c : Cmd), vs = [.int t, optV g, v] ∧ CmdAt K H v c ∧ Q (optV (aim1 t g c)) H
/-- one command: None, or the new cursor -/
def step1 (T : List Int) (r : Int) (g : Option Int) (c : Cmd) : Option (Int × Option Int) := if 0 ≤ r + c.dv ∧ r + c.dv < T.length then some (r + c.dv, aim1 (lenAt T (r + c.dv)) g c) else none
def spMoved (K : PySem.W.Frag) : Sp := fun vs H Q _ => ∃ (t b : Addr) (T : List Int) (r : Int) (g : Option Int) (v : V) (c : Cmd), vs = [.ref t, .ref b, v] ∧ SqL K H t (T.map V.int) ∧ SqT K H b [.int r, optV g] ∧ CmdAt K H v c ∧
  (step1 T r g c = none → Q .non H) ∧ ∀ r' g', step1 T r g c = some (r', g') → ∀ p, H p = none → Q (.ref p) (upd H p (.tup [.int r', optV g']))
def spRun (K : PySem.W.Frag) : Sp := fun vs H Q _ => ∃ (t b l : Addr) (T : List Int) (r : Int) (g : Option Int) (xs : List V) (cs : List Cmd) (r' : Int) (g' : Option Int), vs = [.ref t, .ref b, .ref l] ∧ SqL K H t (T.map V.int) ∧ SqT K H b [.int r, optV g] ∧ SqL K H l xs ∧ CmdsOf K H xs cs ∧
  (∀ x ∈ T, 0 ≤ x) ∧ 0 ≤ r ∧ r < T.length ∧ ge g 0 ∧ AllOk cs ∧ cs.length ≤ 10000 ∧ afterL T r g cs = some (r', g') ∧ ∀ (H' : Hp) (p : Addr), Same H H' → SqT K H' p [.int r', optV g'] → Q (.ref p) H'
theorem aim1_vert {t t' : Int} {g : Option Int} {c : Cmd} (h : c.vert = true) : aim1 t g c = g := by cases c <;> first | rfl | cases h
theorem dv_flat {c : Cmd} (h : ¬ c.vert = true) : c.dv = 0 := by cases c <;> first | rfl | exact absurd rfl h
theorem afterL_cons {T : List Int} {r : Int} {g : Option Int} {c : Cmd} {cs : List Cmd} (h0 : 0 ≤ r) (h1 : r < T.length) : afterL T r g (c :: cs) = (step1 T r g c).bind fun q => afterL T q.1 q.2 cs := by
  unfold step1
  simp only [afterL]
  by_cases v : c.vert = true
  · rw [if_pos v]
    by_cases i : 0 ≤ r + c.dv ∧ r + c.dv < T.length
    · rw [if_pos i, if_pos i, aim1_vert (t' := 0) v]
      rfl
    · rw [if_neg i, if_neg i]
      rfl
  · rw [if_neg v, dv_flat v, Int.add_zero, if_pos ⟨h0, h1⟩]
    rfl
theorem step1_in {T : List Int} {r r' : Int} {g g' : Option Int} {c : Cmd} (h : step1 T r g c = some (r', g')) : 0 ≤ r' ∧ r' < T.length := by
  unfold step1 at h
  split at h
  · rename_i i
    cases h
    exact i
  · cases h
section
variable {P : Program} {w : World} {K : PySem.W.Frag} {mg : Str → Option Value} {base : Heap} {wo wn : Addr}
theorem sc_check_text : FnScope ["text", "index", "length"] ["text"] (defScope s_check_text) := ⟨rfl, rfl, rfl, by decide +kernel, rfl, by decide +kernel, by decide +kernel⟩
theorem ok_check_text {f : Addr} {fd : FuncData} (F : Fun K "check_text" "check_text" s_check_text f fd) (T : TxtB K mg wo wn) : FnOk P w K mg base CX0 1 f fd ["text"] (spText K) := by
  refine F.ok sc_check_text (fun vs H Q E h => ?_) (fun cdv A outer s H vs Q E hr h => ?_)
  · obtain ⟨t, T, rfl, _⟩ := h
    rfl
  · obtain ⟨t, tx, rfl, ht, ne, nn, k⟩ := h
    refine ⟨_, (pss_cons (ps_if (pt_not (pt_truth (pv 0) (fun _ => rfl))) (pss_one ps_never) pss_nil)
      (pss_one (ps_for PassesOwn.never rfl (pi_enum (by rfl) T.enumerate (pa_cons (pv 0) pa_nil)) (pg_tup rfl (pgs_cons (pg_name (i := 1) sc_check_text.nd rfl (Or.inl rfl)) (pgs_cons (pg_name (i := 2) sc_check_text.nd rfl (Or.inl rfl)) pgs_nil))) (pss_one (ps_if (pt_cmpR op_lt (pv 2) pe_int (nomark _)) (pss_one ps_never) pss_nil))))), ?_⟩
    refine ⟨_, rfl, true, .inl ⟨_, ht, ?_⟩, iteF ?_⟩
    · cases tx with
      | nil => exact absurd rfl ne
      | cons x r => rfl
    refine ⟨_, rfl, t, _, rfl, ht, for_it (walk_enum (K := K) (a := t) (xs := tx.map V.int)) (fun i σ H' => ∃ v1 v2 : Option V, σ = [some (.ref t), v1, v2] ∧ Same H H')
      ⟨none, none, rfl, Same.refl H⟩ (fun i σ H' _ ⟨_, _, _, e⟩ => e.seq ht) (fun i x σ H1 H2 hi h y => ?_) (fun σ H1 h => ?_)⟩
    · obtain ⟨v1, v2, rfl, e⟩ := h
      obtain ⟨T1, x1, y1, rfl, nT, rfl, e1, e2⟩ := y
      obtain ⟨z, hz, rfl⟩ : ∃ z, tx[i]? = some z ∧ y1 = .int z := by
        have e3 : (tx.map V.int)[i]? = some y1 := e2
        rw [List.getElem?_map] at e3
        cases q : tx[i]? with
        | none =>
          rw [q] at e3
          cases e3
        | some z =>
          rw [q] at e3
          exact ⟨z, rfl, (Option.some.inj e3).symm⟩
      have z0 := nn z (List.mem_of_getElem? hz)
      refine ⟨T1, _, rfl, SqT.of upd_same, rfl, _, _, rfl, _, _, rfl, rfl, ?_⟩
      refine ⟨_, rfl, _, _, rfl, rfl, _, rfl, ite2 (fun c => absurd (of_decide_eq_true c) (by omega)) (fun _ => ?_)⟩
      exact ⟨_, _, rfl, same_upd e nT⟩
    · obtain ⟨v1, v2, rfl, e⟩ := h
      exact k _ e
theorem sc_check_cursor : FnScope ["lines", "cursor", "row", "goal"] ["lines", "cursor"] (defScope s_check_cursor) := ⟨rfl, rfl, rfl, by decide +kernel, rfl, by decide +kernel, by decide +kernel⟩
theorem ok_check_cursor {f : Addr} {fd : FuncData} (F : Fun K "check_cursor" "check_cursor" s_check_cursor f fd) : FnOk P w K mg base CX0 1 f fd ["lines", "cursor"] (spCursor K) := by
  refine F.ok sc_check_cursor (fun vs H Q E h => ?_) (fun cdv A outer s H vs Q E hr h => ?_)
  · obtain ⟨n, r, g, c, rfl, _⟩ := h
    rfl
  · obtain ⟨n, r, g, c, rfl, hc, r0, r1, g0, k⟩ := h
    refine ⟨_, (pss_cons (ps_asg (pv 1) (pg_tup rfl (pgs_cons (pg_name (i := 2) sc_check_cursor.nd rfl (Or.inl rfl)) (pgs_cons (pg_name (i := 3) sc_check_cursor.nd rfl (Or.inl rfl)) pgs_nil))))
      (pss_one (ps_if (PW.pt (pw_or (pt_not (pt_chain op_le op_lt pe_int (pv 2) (pv 0))) (pw_or1 (PW.pt (pw_and (pt_cmpR op_notN (pv 3) pe_non (nomark _)) (pw_and1 (pt_cmpR op_lt (pv 3) pe_int (nomark _)))))))) (pss_one ps_never) pss_nil))), ?_⟩
    refine ⟨_, rfl, c, _, rfl, hc, rfl, _, _, rfl, _, _, rfl, rfl, ?_⟩
    refine ⟨_, rfl, _, _, rfl, rfl, _, rfl, ite2 (fun _ => ?_) (fun c => absurd (decide_eq_true r0) c)⟩
    refine ⟨_, rfl, _, _, rfl, rfl, _, rfl, ?_⟩
    refine iteN1 r1 ?_
    cases g with
    | none => exact ⟨_, rfl, rfl, _, rfl, iteF (iteF k)⟩
    | some y =>
      have y0 := ge_some.mp g0
      refine ⟨_, rfl, rfl, _, rfl, iteT ?_⟩
      refine ⟨_, rfl, _, _, rfl, rfl, _, rfl, ite2 (fun c => absurd (of_decide_eq_true c) (by omega)) (fun _ => k)⟩
theorem sc_shown_column : FnScope ["length", "goal"] ["length", "goal"] (defScope s_shown_column) := ⟨rfl, rfl, rfl, by decide +kernel, rfl, by decide +kernel, by decide +kernel⟩
theorem ok_shown_column {f : Addr} {fd : FuncData} (F : Fun K "shown_column" "shown_column" s_shown_column f fd) (T : TxtB K mg wo wn) : FnOk P w K mg base CX0 1 f fd ["length", "goal"] spShown := by
  refine F.ok sc_shown_column (fun vs H Q E h => ?_) (fun cdv A outer s H vs Q E hr h => ?_)
  · obtain ⟨t, g, rfl, _⟩ := h
    rfl
  · obtain ⟨t, g, rfl, k⟩ := h
    refine ⟨_, (pss_one (ps_ret (pe_ifExp (pt_cmpR op_isN (pv 1) pe_non (nomark _)) (pv 0) (pe_callB (call_min2 rfl) (by rfl) T.min (by decide +kernel) (pa_cons (pv 1) (pa_cons (pv 0) pa_nil)))))), ?_⟩
    cases g with
    | none => exact ⟨_, rfl, rfl, _, rfl, iteT ⟨_, rfl, k⟩⟩
    | some y =>
      refine ⟨_, rfl, rfl, _, rfl, iteF ?_⟩
      refine ⟨_, rfl, _, rfl, _, _, rfl, ?_⟩
      show Q (.int (if t < y then t else y)) H
      rw [minI]
      exact k
theorem sc_new_goal : FnScope ["length", "goal", "command"] ["length", "goal", "command"] (defScope s_new_goal) := ⟨rfl, rfl, rfl, by decide +kernel, rfl, by decide +kernel, by decide +kernel⟩
theorem ok_new_goal {f : Addr} {fd : FuncData} (F : Fun K "new_goal" "new_goal" s_new_goal f fd) (T : TxtB K mg wo wn) (c_shown_column : Cal P w K mg base 1 "shown_column" spShown) : FnOk P w K mg base CX0 2 f fd ["length", "goal", "command"] (spGoal K) := by
  refine F.ok sc_new_goal (fun vs H Q E h => ?_) (fun cdv A outer s H vs Q E hr h => ?_)
  · obtain ⟨t, g, v, c, rfl, _⟩ := h
    rfl
  · obtain ⟨t, g, v, c, rfl, ⟨a, rfl, hc⟩, k⟩ := h
    refine ⟨_, (pss_one (ps_match (pe_ix ix_tup (pv 2) pe_int (fun _ _ => rfl)) (mc_str (pss_one (ps_ret pe_int)) (mc_str (pss_one (ps_ret pe_non)) (mc_str (pss_one (ps_ret (pe_callB (call_min2 rfl) (by rfl) T.min (by decide +kernel) (pa_cons (pe_op op_add (pe_cal c_shown_column hr (by decide) (by rfl) (pa_cons (pv 0) (pa_cons (pv 1) pa_nil))) (pe_ix ix_tup (pv 2) pe_int (fun _ _ => rfl))) (pa_cons (pv 0) pa_nil))))) (mc_str (pss_one (ps_ret (pe_callB (call_max2 rfl) (by rfl) T.max (by decide +kernel) (pa_cons (pe_op op_sub (pe_cal c_shown_column hr (by decide) (by rfl) (pa_cons (pv 0) (pa_cons (pv 1) pa_nil))) (pe_ix ix_tup (pv 2) pe_int (fun _ _ => rfl))) (pa_cons pe_int pa_nil))))) (mc_any (pss_one (ps_ret (pv 1)))))))))), ?_⟩
    cases c with
    | home => exact ⟨_, rfl, a, _, 0, _, rfl, rfl, hc, rfl, m_yes (by decide +kernel) k⟩
    | stop => exact ⟨_, rfl, a, _, 0, _, rfl, rfl, hc, rfl, m_no (by decide +kernel) (m_yes (by decide +kernel) k)⟩
    | right n =>
      refine ⟨_, rfl, a, _, 0, _, rfl, rfl, hc, rfl, m_no (by decide +kernel) (m_no (by decide +kernel) (m_yes (by decide +kernel) ?_))⟩
      refine ⟨_, rfl, _, rfl, t, g, rfl, _, rfl, a, _, 1, _, rfl, rfl, hc, rfl, _, _, rfl, rfl, _, rfl, _, _, rfl, ?_⟩
      show Q (.int (if t < seen t g + n then t else seen t g + n)) H
      rw [minI]
      exact k
    | left n =>
      refine ⟨_, rfl, a, _, 0, _, rfl, rfl, hc, rfl, m_no (by decide +kernel) (m_no (by decide +kernel) (m_no (by decide +kernel) (m_yes (by decide +kernel) ?_)))⟩
      refine ⟨_, rfl, _, rfl, t, g, rfl, _, rfl, a, _, 1, _, rfl, rfl, hc, rfl, _, _, rfl, rfl, _, _, rfl, ?_⟩
      show Q (.int (if 0 > seen t g - n then 0 else seen t g - n)) H
      rw [maxI, Int.max_comm]
      exact k
    | down n => exact ⟨_, rfl, a, _, 0, _, rfl, rfl, hc, rfl, m_no (by decide +kernel) (m_no (by decide +kernel) (m_no (by decide +kernel) (m_no (by decide +kernel) ⟨_, rfl, k⟩)))⟩
    | up n => exact ⟨_, rfl, a, _, 0, _, rfl, rfl, hc, rfl, m_no (by decide +kernel) (m_no (by decide +kernel) (m_no (by decide +kernel) (m_no (by decide +kernel) ⟨_, rfl, k⟩)))⟩
theorem sc_moved : FnScope ["text", "cursor", "command", "row"] ["text", "cursor", "command"] (defScope s_moved) := ⟨rfl, rfl, rfl, by decide +kernel, rfl, by decide +kernel, by decide +kernel⟩
theorem ok_moved {f : Addr} {fd : FuncData} (F : Fun K "moved" "moved" s_moved f fd) (T : TxtB K mg wo wn) (c_row_change : Cal P w K mg base 1 "row_change" (spRow K)) (c_new_goal : Cal P w K mg base 2 "new_goal" (spGoal K)) : FnOk P w K mg base CX0 3 f fd ["text", "cursor", "command"] (spMoved K) := by
  refine F.ok sc_moved (fun vs H Q E h => ?_) (fun cdv A outer s H vs Q E hr h => ?_)
  · obtain ⟨t, b, tx, r, g, v, c, rfl, _⟩ := h
    rfl
  · obtain ⟨t, b, tx, r, g, v, c, rfl, ht, hb, hv, kn, ks⟩ := h
    refine ⟨_, (pss_cons (ps_set (i := 3) sc_moved.nd rfl (Or.inl rfl) (pe_op op_add (pe_ix ix_tup (pv 1) pe_int (fun _ _ => rfl)) (pe_cal c_row_change hr (by decide) (by rfl) (pa_cons (pv 2) pa_nil))))
      (pss_cons (ps_if (pt_not (pt_chain op_le op_lt pe_int (pv 3) (pe_callB call_len_seq (by rfl) T.len (by decide +kernel) (pa_cons (pv 0) pa_nil)))) (pss_one (ps_ret pe_non)) pss_nil)
      (pss_one (ps_ret (pe_tup (pa_cons (pv 3) (pa_cons (pe_cal c_new_goal hr (by decide) (by rfl) (pa_cons (pe_ix ix_list (pv 0) (pv 3) (fun _ _ => rfl)) (pa_cons (pe_ix ix_tup (pv 1) pe_int (fun _ _ => rfl)) (pa_cons (pv 2) pa_nil)))) pa_nil))))))), ?_⟩
    refine ⟨_, rfl, b, _, 0, _, rfl, rfl, hb, rfl, _, rfl, v, c, rfl, hv, _, _, rfl, rfl, ?_⟩
    have out : ¬ (0 ≤ r + c.dv ∧ r + c.dv < tx.length) → Q .non H := fun z => kn (by unfold step1; rw [if_neg z])
    refine ⟨_, rfl, _, _, rfl, rfl, _, rfl, ite2 (fun c0 => ?_) (fun c0 => ?_)⟩
    · have c0' : 0 ≤ r + c.dv := of_decide_eq_true c0
      refine ⟨_, rfl, t, _, rfl, .inl ht, _, _, rfl, rfl, _, rfl, ?_⟩
      by_cases c1 : r + c.dv < tx.length
      · refine iteN1 (by rw [List.length_map]; exact c1) ?_
        refine ⟨_, rfl, _, rfl, _, rfl, t, _, _, _, rfl, rfl, ht, at_len' c0' c1, _, rfl, b, _, 1, _, rfl, rfl, hb, rfl, _, rfl, lenAt tx (r + c.dv), g, v, c, rfl, hv, (by show 2 ≤ sizeLine; decide), fun p hp => ?_⟩
        exact ks _ _ (by unfold step1; rw [if_pos ⟨c0', c1⟩]) p hp
      · refine iteN0 (by rw [List.length_map]; exact c1) ?_
        exact out fun z => c1 z.2
    · refine ⟨_, rfl, ?_⟩
      refine iteT (B := _) ?_
      exact out fun z => c0 (decide_eq_true z.1)
theorem sc_run : FnScope ["text", "cursor", "commands", "place", "index", "command"] ["text", "cursor", "commands"] (defScope s_run) := ⟨rfl, rfl, rfl, by decide +kernel, rfl, by decide +kernel, by decide +kernel⟩
theorem ok_run {f : Addr} {fd : FuncData} (F : Fun K "run" "run" s_run f fd) (T : TxtB K mg wo wn) (c_check_text : Cal P w K mg base 1 "check_text" (spText K)) (c_check_cursor : Cal P w K mg base 1 "check_cursor" (spCursor K))
    (c_check_commands : Cal P w K mg base 3 "check_commands" (spCheck K)) (c_moved : Cal P w K mg base 3 "moved" (spMoved K)) : FnOk P w K mg base CX0 4 f fd ["text", "cursor", "commands"] (spRun K) := by
  refine F.ok sc_run (fun vs H Q E h => ?_) (fun cdv A outer s H vs Q E hr h => ?_)
  · obtain ⟨t, b, l, tx, r, g, xs, cs, r', g', rfl, _⟩ := h
    rfl
  · obtain ⟨t, b, l, tx, r, g, xs, cs, r', g', rfl, ht, hb, hl, hcs, nn, r0, r1, g0, ok, ln, hrun, k⟩ := h
    refine ⟨_, (pss_cons (ps_expr (pe_cal c_check_text hr (by decide) (by rfl) (pa_cons (pv 0) pa_nil)))
      (pss_cons (ps_expr (pe_cal c_check_cursor hr (by decide) (by rfl) (pa_cons (pe_callB call_len_seq (by rfl) T.len (by decide +kernel) (pa_cons (pv 0) pa_nil)) (pa_cons (pv 1) pa_nil))))
      (pss_cons (ps_expr (pe_cal c_check_commands hr (by decide) (by rfl) (pa_cons (pv 2) pa_nil)))
      (pss_cons (ps_set (i := 3) sc_run.nd rfl (Or.inl rfl) (pv 1))
      (pss_cons (ps_for PassesOwn.never rfl (pi_enum (by rfl) T.enumerate (pa_cons (pv 2) pa_nil)) (pg_tup rfl (pgs_cons (pg_name (i := 4) sc_run.nd rfl (Or.inl rfl)) (pgs_cons (pg_name (i := 5) sc_run.nd rfl (Or.inl rfl)) pgs_nil))) (pss_cons (ps_set (i := 3) sc_run.nd rfl (Or.inl rfl) (pe_cal c_moved hr (by decide) (by rfl) (pa_cons (pv 0) (pa_cons (pv 3) (pa_cons (pv 5) pa_nil)))))
      (pss_one (ps_if (pt_cmpR op_isN (pv 3) pe_non (nomark _)) (pss_one ps_never) pss_nil))))
      (pss_one (ps_ret (pv 3)))))))), ?_⟩
    refine ⟨_, rfl, t, tx, rfl, ht, (by intro z; subst z; simp at r1; omega), nn, fun H1 e1 => ?_⟩
    refine ⟨_, rfl, t, _, rfl, .inl (e1.seq ht), _, rfl, (tx.map V.int).length, r, g, b, rfl, seq_t e1 hb, r0, by rw [List.length_map]; exact r1, g0, ?_⟩
    refine ⟨_, rfl, l, xs, cs, rfl, e1.seq hl, hcs.same e1, ok, ln, fun H2 e2 => ?_⟩
    have e12 := e1.trans e2
    refine ⟨_, rfl, ?_⟩
    refine ⟨_, rfl, l, _, rfl, e12.seq hl, for_it (walk_enum (K := K) (a := l) (xs := xs)) (fun i σ H' => ∃ (p : Addr) (rr : Int) (gg : Option Int) (v1 v2 : Option V), σ = [some (.ref t), some (.ref b), some (.ref l), some (.ref p), v1, v2] ∧ Same H H' ∧ SqT K H' p [.int rr, optV gg] ∧ 0 ≤ rr ∧ rr < tx.length ∧ afterL tx rr gg (cs.drop i) = some (r', g'))
      ⟨b, r, g, none, none, rfl, e12, seq_t e12 hb, r0, r1, hrun⟩ (fun i σ H' _ ⟨_, _, _, _, _, _, e, _⟩ => e.seq hl) (fun i x σ H3 H4 hi h y => ?_) (fun σ H3 h => ?_)⟩
    · obtain ⟨p, rr, gg, v1, v2, rfl, e3, hp, q0, q1, hgo⟩ := h
      obtain ⟨T1, x1, y1, rfl, nT, rfl, ex1, ex2⟩ := y
      obtain ⟨c, hc, hca⟩ := paired_at hcs ex2
      have hdrop : cs.drop i = c :: cs.drop (i + 1) := by
        obtain ⟨h1, h2⟩ := List.getElem?_eq_some_iff.mp hc
        rw [List.drop_eq_getElem_cons h1, h2]
      rw [hdrop, afterL_cons q0 q1] at hgo
      have eT : Same H3 (upd H3 T1 (.tup [x1, y1])) := same_upd (Same.refl _) nT
      have eHT := e3.trans eT
      obtain ⟨⟨r2, g2⟩, hst, hrest⟩ := Option.bind_eq_some_iff.mp hgo
      have hin := step1_in hst
      refine ⟨T1, _, rfl, SqT.of upd_same, rfl, _, _, rfl, _, _, rfl, rfl, ?_⟩
      refine ⟨_, rfl, _, rfl, _, rfl, t, p, tx, rr, gg, y1, c, rfl, eHT.seq ht, seq_t eT hp, hca.same eHT, (fun z => by rw [hst] at z; cases z), fun r3 g3 z p3 np3 => ?_⟩
      rw [hst] at z
      cases z
      have e4 : Same (upd H3 T1 (.tup [x1, y1])) (upd (upd H3 T1 (.tup [x1, y1])) p3 (.tup [.int r2, optV g2])) := same_upd (Same.refl _) np3
      refine ⟨_, rfl, rfl, _, rfl, iteF ?_⟩
      exact ⟨p3, r2, g2, _, _, rfl, eHT.trans e4, SqT.of upd_same, hin.1, hin.2, hrest⟩
    · obtain ⟨p, rr, gg, v1, v2, rfl, e3, hp, q0, q1, hgo⟩ := h
      rw [hcs.len, List.drop_length] at hgo
      have z : (rr, gg) = (r', g') := Option.some.inj hgo
      cases z
      exact ⟨_, rfl, k _ p e3 hp⟩
end
end Gc

/-! raising the program's own errors: classes whose __init__ keeps one value; calls of defs that may raise -/
namespace L2
open PySem PySem.Spec PyProof.Rows
/-- def __init__(self, value): self.value = value, on a new exception of the class at C -/
def spKeep (C : Addr) : Sp := fun vs H Q _ => ∃ (a : Addr) (v : V), vs = [.ref a, v] ∧ H a = some (exo a C none) ∧
  ∀ dx, H dx = none → dx ≠ a → Q .non (upd (upd H dx (exd dx [("value", v)])) a (exo a C (some dx)))
/-- the error class x of the program, at C -/
structure ErrC (P : Program) (w : World) (K : PySem.W.Frag) (mg : Str → Option Value) (base : Heap) (x : Str) (C : Addr) : Prop where
  T : OexC K C
  g : mg x = some (.ref C)
  no : PySem.W.findIn K (.ref C) "value" = some none
  ex : ∃ (fI : Addr) (fd : FuncData), PySem.W.findIn K (.ref C) "__init__" = some (some (.ref fI)) ∧ PySem.W.typeIn K (.ref fI) = some (.type "function") ∧
    FnOk P w K mg base CX0 1 fI fd ["self", "value"] (spKeep C) ∧ Binds K fd ["self", "value"] []
/-- x(e) in a raise: the new error's class, its dict, the heap with that dict -/
def rRaise (C : Addr) (Q : XK) (v : V) (H1 : Hp) : Prop := [v].length ≤ 1000 ∧ ∀ a, H1 a = none → spKeep C (.ref a :: ([v] ++ [])) (upd H1 a (exo a C none))
  (fun u H2 => u = .non ∧ ∃ (d : Addr) (fs : List (Str × V)), H2 a = some (exo a C (some d)) ∧ H2 d = some (exd d fs) ∧ H1 d = none ∧ Q (.ref C) (some d) (upd (del H2 a) d (.xd fs))) (fun _ _ _ => False)
theorem ask_raise {C : Addr} {Q : XK} {v : V} {H : Hp} (h : ∀ d, H d = none → Q (.ref C) (some d) (upd H d (.xd [("value", v)]))) : rRaise C Q v H := by
  refine ⟨(by show 1 ≤ 1000; decide), fun a ha => ⟨a, v, rfl, upd_same, fun dx hd ne => ⟨rfl, dx, [("value", v)], upd_same, ?_, ?_, ?_⟩⟩⟩
  · rw [upd_ne ne, upd_same]
  · rw [upd_ne ne] at hd
    exact hd
  · have hd' : H dx = none := by
      rw [upd_ne ne] at hd
      exact hd
    have e : upd (del (upd (upd (upd H a (exo a C none)) dx (exd dx [("value", v)])) a (exo a C (some dx))) a) dx (.xd [("value", v)]) = upd H dx (.xd [("value", v)]) := by
      funext b
      by_cases hb : b = dx
      · rw [hb, upd_same, upd_same]
      · rw [upd_ne hb, upd_ne hb]
        by_cases ha' : b = a
        · rw [ha', del_same, ha]
        · rw [del_ne ha', upd_ne ha', upd_ne hb, upd_ne ha']
    rw [e]
    exact h dx hd'
section
variable {X : Cx} {k j : Nat} {x : Str} {sp : Sp} {p pos pos2 : Pos} {e : Expr} {es : List Expr} {t : TA} {te : TE} {W : WX} {C : Addr}
def tRaiseE (C : Addr) (W : WX) (te : TE) : TS := fun _ σ H => te σ H fun v H1 => rRaise C (fun cls d H' => W cls d σ H') v H1
theorem ps_raiseE (hc : X.calm = true) (c : ErrC X.prog X.w X.K X.mg X.base x C) (hr : Room j X.A) (hj : 2 ≤ j) (tk : Takes X W) (he : PE X e te) (hg : Gl X x)
    (hdb : (x == ("__debug__" : Str)) = false := by decide)
    (hs : starEach (e :: []) X.env = (false, eval e X.env) :: starEach [] X.env := by rfl) (hpl : (backTo pos (starEach [] X.env)).any (·.1) = false := by rfl) :
    PS X (.Raise (some (.Call (.Name x p) [e] [] pos)) none pos2) (tRaiseE C W te) := by
  obtain ⟨T, g, no, fI, fd, iC, tI, F, b⟩ := c
  exact ps_raise hc tk (pmk_oex (dvs := []) T iC tI F (hr.mono hj) b .nil pass0 hg g (pa_cons he pa_nil hs) hdb hs hpl)
/-- a def that is called by its name and may let an error out -/
structure CalX (P : Program) (w : World) (K : PySem.W.Frag) (mg : Str → Option Value) (base : Heap) (k : Nat) (x : Str) (sp : Sp) : Prop where
  ex : ∃ (f : Addr) (fd : FuncData) (ps : List Str), FnOk P w K mg base (L2.CX P w) k f fd ps sp ∧
    mg x = some (.ref f) ∧ PySem.W.keepIn K (.ref f) = true ∧ Binds K fd ps []
theorem pe_calX (tk : Takes X W) (c : CalX X.prog X.w X.K X.mg X.base k x sp) (hr : Room j X.A) (hk : k ≤ j) (hg : Gl X x) (ha : PA X (e :: es) t)
    (hdb : (x == ("__debug__" : Str)) = false := by decide)
    (he : starEach (e :: es) X.env = (false, eval e X.env) :: starEach es X.env := by rfl)
    (hpl : (backTo pos (starEach es X.env)).any (·.1) = false := by rfl) :
    PE X (.Call (.Name x p) (e :: es) [] pos) (tCallS sp (WE W) t) := by
  obtain ⟨f, fd, ps, F, hm, kp, b⟩ := c.ex
  exact pe_callS F (hr.mono hk) hg hm kp b (fun σ => passAt tk σ) ha hdb he hpl
end
end L2

/-! an error that is let out -/
namespace Gc
open PySem L2
/-- an error of the class at C that carries v is let out: its dict is new, all else is as it was -/
def Err (E : XK) (C : Addr) (v : V) (H : Hp) : Prop := ∀ (H' : Hp) (d : Addr), Same H H' → H' d = none → E (.ref C) (some d) (upd H' d (.xd [("value", v)]))
theorem Err.same {E : XK} {C : Addr} {v : V} {H H' : Hp} (e : Same H H') (h : Err E C v H) : Err E C v H' := fun H2 d s n => h H2 d (e.trans s) n
theorem Err.ask {E : XK} {C : Addr} {v : V} {H H' : Hp} (e : Same H H') (h : Err E C v H) : rRaise C E v H' := ask_raise fun d hd => h H' d e hd
end Gc

/-! run of valid arguments: where it fails, Impossible -/
namespace Gc
open PySem L2
theorem step_eq {T : List Int} {r : Int} {g : Option Int} {c : Cmd} (h0 : 0 ≤ r) (h1 : r < T.length) : step1 T r g c = stepP T r g c := by
  unfold step1 stepP
  by_cases cv : c.vert = true
  · rw [if_pos cv, aim1_vert (t' := 0) cv]
  · rw [if_neg cv, dv_flat cv, Int.add_zero, if_pos ⟨h0, h1⟩]
def spRunI (K : PySem.W.Frag) (CO : Addr) : Sp := fun vs H Q E => ∃ (t b l : Addr) (T : List Int) (r : Int) (g : Option Int) (xs : List V) (cs : List Cmd), vs = [.ref t, .ref b, .ref l] ∧ SqL K H t (T.map V.int) ∧ SqT K H b [.int r, optV g] ∧ SqL K H l xs ∧ CmdsOf K H xs cs ∧
  (∀ x ∈ T, 0 ≤ x) ∧ 0 ≤ r ∧ r < T.length ∧ ge g 0 ∧ AllOk cs ∧ cs.length ≤ 10000 ∧ (∀ n, failAt T r g cs = some n → Err E CO (.int (n : Nat)) H) ∧
  ∀ r' g', afterL T r g cs = some (r', g') → ∀ (H' : Hp) (p : Addr), Same H H' → SqT K H' p [.int r', optV g'] → Q (.ref p) H'
@[irreducible] def zRunI (K : PySem.W.Frag) (CO : Addr) : Sp := spRunI K CO
theorem zRunI_eq (K : PySem.W.Frag) (CO : Addr) : zRunI K CO = spRunI K CO := by unfold zRunI; rfl
theorem ask_runI {K : PySem.W.Frag} {CO : Addr} {H : Hp} {Q : VK} {E : XK} {t b l : Addr} {T : List Int} {r : Int} {g : Option Int} {xs : List V} {cs : List Cmd} (ht : SqL K H t (T.map V.int)) (hb : SqT K H b [.int r, optV g]) (hl : SqL K H l xs) (hc : CmdsOf K H xs cs)
    (nn : ∀ x ∈ T, 0 ≤ x) (r0 : 0 ≤ r) (r1 : r < T.length) (g0 : ge g 0) (ok : AllOk cs) (ln : cs.length ≤ 10000) (kf : ∀ n, failAt T r g cs = some n → Err E CO (.int (n : Nat)) H)
    (k : ∀ r' g', afterL T r g cs = some (r', g') → ∀ (H' : Hp) (p : Addr), Same H H' → SqT K H' p [.int r', optV g'] → Q (.ref p) H') : zRunI K CO [.ref t, .ref b, .ref l] H Q E := by
  rw [zRunI_eq]
  exact ⟨t, b, l, T, r, g, xs, cs, rfl, ht, hb, hl, hc, nn, r0, r1, g0, ok, ln, kf, k⟩
section
variable {P : Program} {w : World} {K : PySem.W.Frag} {mg : Str → Option Value} {base : Heap} {wo wn CO : Addr}
theorem ok_runI {f : Addr} {fd : FuncData} (F : Fun K "run" "run" s_run f fd) (T : TxtB K mg wo wn) (c_check_text : Cal P w K mg base 1 "check_text" (spText K)) (c_check_cursor : Cal P w K mg base 1 "check_cursor" (spCursor K))
    (c_check_commands : Cal P w K mg base 3 "check_commands" (spCheck K)) (c_moved : Cal P w K mg base 3 "moved" (spMoved K)) (e_Impossible : ErrC P w K mg base "Impossible" CO) : FnOk P w K mg base (L2.CX P w) 4 f fd ["text", "cursor", "commands"] (spRunI K CO) := by
  refine F.okX sc_run (fun vs H Q E h => ?_) (fun cdv A outer s H vs Q E hr h => ?_)
  · obtain ⟨t, b, l, tx, r, g, xs, cs, rfl, _⟩ := h
    rfl
  · obtain ⟨t, b, l, tx, r, g, xs, cs, rfl, ht, hb, hl, hcs, nn, r0, r1, g0, ok, ln, kf, k⟩ := h
    refine ⟨_, (pss_cons (ps_expr (pe_cal c_check_text hr (by decide) (by rfl) (pa_cons (pv 0) pa_nil)))
      (pss_cons (ps_expr (pe_cal c_check_cursor hr (by decide) (by rfl) (pa_cons (pe_callB call_len_seq (by rfl) T.len (by decide +kernel) (pa_cons (pv 0) pa_nil)) (pa_cons (pv 1) pa_nil))))
      (pss_cons (ps_expr (pe_cal c_check_commands hr (by decide) (by rfl) (pa_cons (pv 2) pa_nil)))
      (pss_cons (ps_set (i := 3) sc_run.nd rfl (Or.inl rfl) (pv 1))
      (pss_cons (ps_for (passes_of rfl) rfl (pi_enum (by rfl) T.enumerate (pa_cons (pv 2) pa_nil)) (pg_tup rfl (pgs_cons (pg_name (i := 4) sc_run.nd rfl (Or.inl rfl)) (pgs_cons (pg_name (i := 5) sc_run.nd rfl (Or.inl rfl)) pgs_nil))) (pss_cons (ps_set (i := 3) sc_run.nd rfl (Or.inl rfl) (pe_cal c_moved hr (by decide) (by rfl) (pa_cons (pv 0) (pa_cons (pv 3) (pa_cons (pv 5) pa_nil)))))
      (pss_one (ps_if (pt_cmpR op_isN (pv 3) pe_non (nomark _)) (pss_one (ps_raiseE rfl e_Impossible hr (by decide) (takes_of rfl rfl rfl rfl) (pv 4) (by rfl))) pss_nil))))
      (pss_one (ps_ret (pv 3)))))))), ?_⟩
    refine ⟨_, rfl, t, tx, rfl, ht, (by intro z; subst z; simp at r1; omega), nn, fun H1 e1 => ?_⟩
    refine ⟨_, rfl, t, _, rfl, .inl (e1.seq ht), _, rfl, (tx.map V.int).length, r, g, b, rfl, seq_t e1 hb, r0, by rw [List.length_map]; exact r1, g0, ?_⟩
    refine ⟨_, rfl, l, xs, cs, rfl, e1.seq hl, hcs.same e1, ok, ln, fun H2 e2 => ?_⟩
    have e12 := e1.trans e2
    refine ⟨_, rfl, ?_⟩
    refine ⟨_, rfl, l, _, rfl, e12.seq hl, for_it (walk_enum (K := K) (a := l) (xs := xs)) (fun i σ H' => ∃ (p : Addr) (rr : Int) (gg : Option Int) (v1 v2 : Option V), σ = [some (.ref t), some (.ref b), some (.ref l), some (.ref p), v1, v2] ∧ Same H H' ∧ SqT K H' p [.int rr, optV gg] ∧ 0 ≤ rr ∧ rr < tx.length ∧
        afterL tx r g cs = afterL tx rr gg (cs.drop i) ∧ failAt tx r g cs = (failAt tx rr gg (cs.drop i)).map (· + i))
      ⟨b, r, g, none, none, rfl, e12, seq_t e12 hb, r0, r1, rfl, by rw [List.drop_zero]; simp⟩ (fun i σ H' _ ⟨_, _, _, _, _, _, e, _⟩ => e.seq hl) (fun i x σ H3 H4 hi h y => ?_) (fun σ H3 h => ?_)⟩
    · obtain ⟨p, rr, gg, v1, v2, rfl, e3, hp, q0, q1, ha, hf⟩ := h
      obtain ⟨T1, x1, y1, rfl, nT, rfl, ex1, ex2⟩ := y
      obtain rfl : V.int (i : Nat) = x1 := Option.some.inj ex1
      obtain ⟨c, hc, hca⟩ := paired_at hcs ex2
      have hdrop : cs.drop i = c :: cs.drop (i + 1) := by
        obtain ⟨h1, h2⟩ := List.getElem?_eq_some_iff.mp hc
        rw [List.drop_eq_getElem_cons h1, h2]
      rw [hdrop] at ha hf
      rw [afterL_step] at ha
      rw [fail_step] at hf
      have eT : Same H3 (upd H3 T1 (.tup [.int (i : Nat), y1])) := same_upd (Same.refl _) nT
      have eHT := e3.trans eT
      refine ⟨T1, _, rfl, SqT.of upd_same, rfl, _, _, rfl, _, _, rfl, rfl, ?_⟩
      refine ⟨_, rfl, _, rfl, _, rfl, t, p, tx, rr, gg, y1, c, rfl, eHT.seq ht, seq_t eT hp, hca.same eHT, (fun z => ?_), fun r3 g3 z p3 np3 => ?_⟩
      · rw [step_eq q0 q1] at z
        rw [z] at hf
        refine ⟨_, rfl, rfl, _, rfl, iteT ⟨_, rfl, ?_⟩⟩
        refine Err.ask eHT (kf i ?_)
        rw [hf]
        simp
      · rw [step_eq q0 q1] at z
        rw [z] at ha hf
        have e4 : Same (upd H3 T1 (.tup [.int (i : Nat), y1])) (upd (upd H3 T1 (.tup [.int (i : Nat), y1])) p3 (.tup [.int r3, optV g3])) := same_upd (Same.refl _) np3
        obtain ⟨a0, a1⟩ := step_row q0 q1 z
        refine ⟨_, rfl, rfl, _, rfl, iteF ?_⟩
        refine ⟨p3, r3, g3, _, _, rfl, eHT.trans e4, SqT.of upd_same, a0, a1, ha, ?_⟩
        rw [hf, Option.map_map]
        show (failAt tx r3 g3 (cs.drop (i + 1))).map _ = _
        congr 1
        funext n
        show n + 1 + i = n + (i + 1)
        omega
    · obtain ⟨p, rr, gg, v1, v2, rfl, e3, hp, q0, q1, ha, hf⟩ := h
      rw [hcs.len, List.drop_length] at ha
      exact ⟨_, rfl, k rr gg ha _ p e3 hp⟩
end
end Gc

/-! the program's checks, where they may raise -/
namespace Gc
open PySem L2
/-- a tuple that may be no command -/
inductive Raw where
  | nil
  | one (n : Str)
  | two (n : Str) (k : Int)
  | three (n : Str) (k j : Int)
def encR : Raw → List V
  | .nil => []
  | .one n => [.str n]
  | .two n k => [.str n, .int k]
  | .three n k j => [.str n, .int k, .int j]
def withN : List V := [.str "down", .str "up", .str "right", .str "left"]
def withoutN : List V := [.str "home", .str "end"]
def Raw.good : Raw → Bool
  | .one n => inV (.str n) withoutN
  | .two n k => inV (.str n) withN && decide (1 ≤ k)
  | _ => false
def Raw.cmd : Raw → Cmd
  | .one n => if n = "home" then .home else .stop
  | .two n k => if n = "down" then .down k else if n = "up" then .up k else if n = "right" then .right k else .left k
  | _ => .home
theorem in_two {n : Str} (h : inV (.str n) withoutN = true) : n = "home" ∨ n = "end" := by
  simp only [inV, withoutN, List.any_cons, List.any_nil, eqV, Bool.or_false, Bool.or_eq_true, beq_iff_eq] at h
  rcases h with h | h
  · exact .inl h.symm
  · exact .inr h.symm
theorem in_four {n : Str} (h : inV (.str n) withN = true) : n = "down" ∨ n = "up" ∨ n = "right" ∨ n = "left" := by
  simp only [inV, withN, List.any_cons, List.any_nil, eqV, Bool.or_false, Bool.or_eq_true, beq_iff_eq] at h
  rcases h with h | h | h | h
  · exact .inl h.symm
  · exact .inr (.inl h.symm)
  · exact .inr (.inr (.inl h.symm))
  · exact .inr (.inr (.inr h.symm))
theorem Raw.enc {r : Raw} (h : r.good = true) : encR r = encC r.cmd ∧ r.cmd.ok := by
  cases r with
  | nil => cases h
  | one n =>
    rcases in_two h with e | e <;> subst e
    · exact ⟨rfl, trivial⟩
    · exact ⟨rfl, trivial⟩
  | two n k =>
    obtain ⟨h1, h2⟩ := Bool.and_eq_true_iff.mp h
    have hk := of_decide_eq_true h2
    rcases in_four h1 with e | e | e | e <;> subst e
    · exact ⟨rfl, hk⟩
    · exact ⟨rfl, hk⟩
    · exact ⟨rfl, hk⟩
    · exact ⟨rfl, hk⟩
  | three n k j => cases h
def RawAt (K : PySem.W.Frag) (H : Hp) (v : V) (r : Raw) : Prop := ∃ a, v = .ref a ∧ SqT K H a (encR r)
def RawsOf (K : PySem.W.Frag) (H : Hp) (xs : List V) (rs : List Raw) : Prop := Paired (RawAt K H) xs rs
theorem RawAt.same {K : PySem.W.Frag} {H H' : Hp} {v : V} {r : Raw} (e : Same H H') (h : RawAt K H v r) : RawAt K H' v r := by
  obtain ⟨a, rfl, h⟩ := h
  exact ⟨a, rfl, seq_t e h⟩
theorem RawsOf.same {K : PySem.W.Frag} {H H' : Hp} {xs : List V} {rs : List Raw} (e : Same H H') (h : RawsOf K H xs rs) : RawsOf K H' xs rs := Paired.mapP h fun _ _ q => q.same e
/-- the index of the first tuple that is no command -/
def badAt (rs : List Raw) : Option Nat := rs.findIdx? fun r => !r.good
theorem bad_at {rs : List Raw} {i : Nat} {r : Raw} (h : rs[i]? = some r) (g : r.good = false) (b : ∀ j r, j < i → rs[j]? = some r → r.good = true) : badAt rs = some i := by
  unfold badAt
  rw [List.findIdx?_eq_some_iff_getElem]
  obtain ⟨hi, e⟩ := List.getElem?_eq_some_iff.mp h
  refine ⟨hi, by rw [e, g]; rfl, fun j hj => ?_⟩
  have := b j rs[j] hj (List.getElem?_eq_getElem (by omega))
  rw [this]
  decide
theorem bad_none {rs : List Raw} (b : ∀ j r, j < rs.length → rs[j]? = some r → r.good = true) : badAt rs = none := by
  unfold badAt
  rw [List.findIdx?_eq_none_iff]
  intro r hr
  obtain ⟨j, hj, e⟩ := List.mem_iff_getElem.mp hr
  rw [b j r hj (by rw [List.getElem?_eq_getElem hj, e])]
  rfl
theorem bad_good {rs : List Raw} (h : badAt rs = none) : ∀ r ∈ rs, r.good = true := by
  unfold badAt at h
  rw [List.findIdx?_eq_none_iff] at h
  intro r hr
  have := h r hr
  cases e : r.good with
  | true => rfl
  | false =>
    rw [e] at this
    cases this
theorem raws_cmds {K : PySem.W.Frag} {H : Hp} : ∀ {xs : List V} {rs : List Raw}, RawsOf K H xs rs → (∀ r ∈ rs, r.good = true) → CmdsOf K H xs (rs.map Raw.cmd) ∧ AllOk (rs.map Raw.cmd)
  | [], [], _, _ => ⟨.nil, fun _ h => nomatch h⟩
  | _ :: _, r :: rs, .cons ⟨a, e, h⟩ q, g => by
    obtain ⟨h1, h2⟩ := raws_cmds q fun r hr => g r (List.mem_cons_of_mem _ hr)
    obtain ⟨e1, e2⟩ := Raw.enc (g r List.mem_cons_self)
    refine ⟨.cons ⟨a, e, e1 ▸ h⟩ h1, fun c hc => ?_⟩
    rcases List.mem_cons.mp hc with z | z
    · rw [z]
      exact e2
    · exact h2 c z
def negAt (T : List Int) : Option Nat := T.findIdx? fun x => decide (x < 0)
theorem neg_at {T : List Int} {i : Nat} {x : Int} (h : T[i]? = some x) (g : x < 0) (b : ∀ j x, j < i → T[j]? = some x → 0 ≤ x) : negAt T = some i := by
  unfold negAt
  rw [List.findIdx?_eq_some_iff_getElem]
  obtain ⟨hi, e⟩ := List.getElem?_eq_some_iff.mp h
  refine ⟨hi, by rw [e]; exact decide_eq_true g, fun j hj => ?_⟩
  have := b j T[j] hj (List.getElem?_eq_getElem (by omega))
  simp only [decide_eq_true_eq]
  omega
theorem neg_none {T : List Int} (b : ∀ j x, j < T.length → T[j]? = some x → 0 ≤ x) : negAt T = none := by
  unfold negAt
  rw [List.findIdx?_eq_none_iff]
  intro x hx
  obtain ⟨j, hj, e⟩ := List.mem_iff_getElem.mp hx
  have := b j x hj (by rw [List.getElem?_eq_getElem hj, e])
  exact decide_eq_false (by omega)
theorem neg_nn {T : List Int} (h : negAt T = none) : ∀ x ∈ T, 0 ≤ x := by
  unfold negAt at h
  rw [List.findIdx?_eq_none_iff] at h
  intro x hx
  have := of_decide_eq_false (h x hx)
  omega
def spCountX : Sp := fun vs H Q _ => ∃ n : Int, vs = [.int n] ∧ Q (.bl (decide (1 ≤ n))) H
def spIsRaw (K : PySem.W.Frag) : Sp := fun vs H Q _ => ∃ (v : V) (r : Raw), vs = [v] ∧ RawAt K H v r ∧ Q (.bl r.good) H
def spCheckX (K : PySem.W.Frag) (CM : Addr) : Sp := fun vs H Q E => ∃ (l : Addr) (xs : List V) (rs : List Raw), vs = [.ref l] ∧ SqL K H l xs ∧ RawsOf K H xs rs ∧
  (∀ i, badAt rs = some i → Err E CM (.int i) H) ∧ (badAt rs = none → ∀ H', Same H H' → Q .non H')
def spTextX (K : PySem.W.Frag) (CT : Addr) : Sp := fun vs H Q E => ∃ (t : Addr) (T : List Int), vs = [.ref t] ∧ SqL K H t (T.map V.int) ∧ (T = [] → Err E CT .non H) ∧ (T ≠ [] → ∀ i, negAt T = some i → Err E CT (.int i) H) ∧
  (T ≠ [] → negAt T = none → ∀ H', Same H H' → Q .non H')
def CurOk (n r : Int) (g : Option Int) : Prop := 0 ≤ r ∧ r < n ∧ ge g 0
def spCursorX (K : PySem.W.Frag) (CC : Addr) : Sp := fun vs H Q E => ∃ (n r : Int) (g : Option Int) (c : Addr), vs = [.int n, .ref c] ∧ SqT K H c [.int r, optV g] ∧ (¬ CurOk n r g → Err E CC (.ref c) H) ∧ (CurOk n r g → Q .non H)
def spNumX (CN : Addr) : Sp := fun vs H Q E => ∃ n k : Int, vs = [.int n, .int k] ∧ (n < k → Err E CN (.int n) H) ∧ (k ≤ n → Q .non H)
section
variable {P : Program} {w : World} {K : PySem.W.Frag} {mg : Str → Option Value} {base : Heap} {wo wn CT CC CM CN : Addr}
theorem ok_is_countX {f : Addr} {fd : FuncData} (F : Fun K "is_count" "is_count" s_is_count f fd) (T : TxtB K mg wo wn) : FnOk P w K mg base CX0 1 f fd ["number"] spCountX := by
  refine F.ok sc_is_count (fun vs H Q E h => ?_) (fun cdv A outer s H vs Q E hr h => ?_)
  · obtain ⟨n, rfl, _⟩ := h
    rfl
  · obtain ⟨n, rfl, k⟩ := h
    refine ⟨_, (pss_one (ps_ret (pe_and (pe_callB call_isi (by rfl) T.isinstance (by decide +kernel) (pa_cons (pv 0) (pa_cons (pe_bltn (v := .ty "int") (u := .type "int") (by rfl) T.int (by decide +kernel) rfl) pa_nil))) (pe_and (pe_not (pe_callB call_isi (by rfl) T.isinstance (by decide +kernel) (pa_cons (pv 0) (pa_cons (pe_bltn (v := .ty "bool") (u := .type "bool") (by rfl) T.bool (by decide +kernel) rfl) pa_nil)))) (pe_one (pe_cmpR op_ge (pv 0) pe_int (nomark _))))))), ?_⟩
    refine ⟨_, rfl, _, _, _, _, _, rfl, .ty "int", .base (.int n), kit_ty (show kitB "int" "int" = some true by decide +kernel), _, rfl, iteT ?_⟩
    refine ⟨_, rfl, _, _, _, _, _, rfl, .ty "bool", .base (.int n), kit_ty (show kitB "int" "bool" = some false by decide +kernel), _, rfl, _, rfl, iteT ?_⟩
    exact ⟨_, rfl, _, _, rfl, rfl, k⟩
theorem ok_is_commandX {f : Addr} {fd : FuncData} (F : Fun K "is_command" "is_command" s_is_command f fd) (T : TxtB K mg wo wn) (c_is_count : Cal P w K mg base 1 "is_count" spCountX) : FnOk P w K mg base CX0 2 f fd ["command"] (spIsRaw K) := by
  refine F.ok sc_is_command (fun vs H Q E h => ?_) (fun cdv A outer s H vs Q E hr h => ?_)
  · obtain ⟨v, c, rfl, _⟩ := h
    rfl
  · obtain ⟨v, r, rfl, ⟨a, rfl, ha⟩, k⟩ := h
    refine ⟨_, (pss_cons (ps_if (pt_cmpR op_eq (pe_callB call_len_seq (by rfl) T.len (by decide +kernel) (pa_cons (pv 0) pa_nil)) pe_int (nomark _)) (pss_one (ps_ret (pe_cmpR op_in_seq (pe_ix ix_tup (pv 0) pe_int (fun _ _ => rfl)) (pe_glob (v := .ref wo) (by rfl) T.g_WITHOUT_NUMBER rfl) (by rfl)))) pss_nil)
      (pss_one (ps_ret (pe_and (pe_cmpR op_eq (pe_callB call_len_seq (by rfl) T.len (by decide +kernel) (pa_cons (pv 0) pa_nil)) pe_int (nomark _)) (pe_and (pe_cmpR op_in_seq (pe_ix ix_tup (pv 0) pe_int (fun _ _ => rfl)) (pe_glob (v := .ref wn) (by rfl) T.g_WITH_NUMBER rfl) (by rfl)) (pe_one (pe_cal c_is_count hr (by decide) (by rfl) (pa_cons (pe_ix ix_tup (pv 0) pe_int (fun _ _ => rfl)) pa_nil)))))))), ?_⟩
    cases r with
    | nil =>
      refine ⟨_, rfl, a, _, rfl, .inr ha, rfl, _, rfl, iteF ?_⟩
      exact ⟨_, rfl, a, _, rfl, .inr ha, rfl, _, rfl, iteF k⟩
    | one n =>
      refine ⟨_, rfl, a, _, rfl, .inr ha, rfl, _, rfl, iteT ?_⟩
      refine ⟨_, rfl, a, _, 0, _, rfl, rfl, ha, rfl, wo, _, rfl, .inr (T.tWO _), rfl, rfl, ?_⟩
      rw [if_neg Bool.false_ne_true]
      exact k
    | two n j =>
      refine ⟨_, rfl, a, _, rfl, .inr ha, rfl, _, rfl, iteF ?_⟩
      refine ⟨_, rfl, a, _, rfl, .inr ha, rfl, _, rfl, iteT ?_⟩
      refine ⟨_, rfl, a, _, 0, _, rfl, rfl, ha, rfl, wn, _, rfl, .inr (T.tWN _), rfl, rfl, inV (.str n) withN, rfl, ?_⟩
      cases hb : inV (.str n) withN with
      | true =>
        refine iteT ⟨_, rfl, a, _, 1, _, rfl, rfl, ha, rfl, j, rfl, ?_⟩
        have e : Raw.good (.two n j) = decide (1 ≤ j) := by
          show (inV (.str n) withN && decide (1 ≤ j)) = _
          rw [hb, Bool.true_and]
        rw [e] at k
        exact k
      | false =>
        refine iteF ?_
        have e : Raw.good (.two n j) = false := by
          show (inV (.str n) withN && decide (1 ≤ j)) = _
          rw [hb, Bool.false_and]
        rw [e] at k
        exact k
    | three n j i =>
      refine ⟨_, rfl, a, _, rfl, .inr ha, rfl, _, rfl, iteF ?_⟩
      exact ⟨_, rfl, a, _, rfl, .inr ha, rfl, _, rfl, iteF k⟩
theorem ok_check_commandsX {f : Addr} {fd : FuncData} (F : Fun K "check_commands" "check_commands" s_check_commands f fd) (T : TxtB K mg wo wn) (c_is_command : Cal P w K mg base 2 "is_command" (spIsRaw K))
    (e_InvalidCommand : ErrC P w K mg base "InvalidCommand" CM) : FnOk P w K mg base (L2.CX P w) 3 f fd ["commands"] (spCheckX K CM) := by
  refine F.okX sc_check_commands (fun vs H Q E h => ?_) (fun cdv A outer s H vs Q E hr h => ?_)
  · obtain ⟨l, xs, rs, rfl, _⟩ := h
    rfl
  · obtain ⟨l, xs, rs, rfl, hl, hrs, kb, kg⟩ := h
    refine ⟨_, (pss_one (ps_for (passes_of rfl) rfl (pi_enum (by rfl) T.enumerate (pa_cons (pv 0) pa_nil)) (pg_tup rfl (pgs_cons (pg_name (i := 1) sc_check_commands.nd rfl (Or.inl rfl)) (pgs_cons (pg_name (i := 2) sc_check_commands.nd rfl (Or.inl rfl)) pgs_nil))) (pss_one (ps_if (pt_not (pt_val (pe_cal c_is_command hr (by decide) (by rfl) (pa_cons (pv 2) pa_nil)))) (pss_one (ps_raiseE rfl e_InvalidCommand hr (by decide) (takes_of rfl rfl rfl rfl) (pv 1) (by rfl))) pss_nil)))), ?_⟩
    refine ⟨_, rfl, l, xs, rfl, hl, for_it (walk_enum (K := K) (a := l) (xs := xs)) (fun i σ H' => ∃ v1 v2 : Option V, σ = [some (.ref l), v1, v2] ∧ Same H H' ∧ ∀ j r, j < i → rs[j]? = some r → r.good = true)
      ⟨none, none, rfl, Same.refl H, fun j r h => absurd h (Nat.not_lt_zero _)⟩ (fun i σ H' _ ⟨_, _, _, e, _⟩ => e.seq hl) (fun i x σ H1 H2 hi h y => ?_) (fun σ H1 h => ?_)⟩
    · obtain ⟨v1, v2, rfl, e, gd⟩ := h
      obtain ⟨T1, x1, y1, rfl, nT, rfl, e1, e2⟩ := y
      obtain rfl : V.int (i : Nat) = x1 := Option.some.inj e1
      obtain ⟨r, hr1, hra⟩ := paired_at hrs e2
      have eT : Same H (upd H1 T1 (.tup [.int (i : Nat), y1])) := same_upd e nT
      refine ⟨T1, _, rfl, SqT.of upd_same, rfl, _, _, rfl, _, _, rfl, rfl, ?_⟩
      refine ⟨_, rfl, y1, r, rfl, hra.same eT, _, rfl, ?_⟩
      cases hg : r.good with
      | true =>
        refine iteF ⟨_, _, rfl, eT, fun j r' hj hr' => ?_⟩
        by_cases z : j = i
        · rw [z, hr1] at hr'
          cases hr'
          exact hg
        · exact gd j r' (by omega) hr'
      | false =>
        refine iteT ⟨_, rfl, Err.ask eT ?_⟩
        have := kb i (bad_at hr1 hg gd)
        exact this
    · obtain ⟨v1, v2, rfl, e, gd⟩ := h
      refine kg (bad_none fun j r hj hr' => gd j r ?_ hr') _ e
      rw [Paired.length hrs]
      exact hj
theorem ok_check_textX {f : Addr} {fd : FuncData} (F : Fun K "check_text" "check_text" s_check_text f fd) (T : TxtB K mg wo wn) (e_InvalidText : ErrC P w K mg base "InvalidText" CT) : FnOk P w K mg base (L2.CX P w) 3 f fd ["text"] (spTextX K CT) := by
  refine F.okX sc_check_text (fun vs H Q E h => ?_) (fun cdv A outer s H vs Q E hr h => ?_)
  · obtain ⟨t, T, rfl, _⟩ := h
    rfl
  · obtain ⟨t, tx, rfl, ht, k0, kn, kg⟩ := h
    refine ⟨_, (pss_cons (ps_if (pt_not (pt_truth (pv 0) (fun _ => rfl))) (pss_one (ps_raiseE rfl e_InvalidText hr (by decide) (takes_of rfl rfl rfl rfl) pe_non (by rfl))) pss_nil)
      (pss_one (ps_for (passes_of rfl) rfl (pi_enum (by rfl) T.enumerate (pa_cons (pv 0) pa_nil)) (pg_tup rfl (pgs_cons (pg_name (i := 1) sc_check_text.nd rfl (Or.inl rfl)) (pgs_cons (pg_name (i := 2) sc_check_text.nd rfl (Or.inl rfl)) pgs_nil))) (pss_one (ps_if (pt_cmpR op_lt (pv 2) pe_int (nomark _)) (pss_one (ps_raiseE rfl e_InvalidText hr (by decide) (takes_of rfl rfl rfl rfl) (pv 1) (by rfl))) pss_nil))))), ?_⟩
    cases tx with
    | nil =>
      refine ⟨_, rfl, false, .inl ⟨_, ht, rfl⟩, iteT ?_⟩
      exact Err.ask (Same.refl H) (k0 rfl)
    | cons z0 zs =>
      have kn' := kn (by simp)
      have kg' := kg (by simp)
      generalize hT : z0 :: zs = tx at *
      refine ⟨_, rfl, true, .inl ⟨_, ht, by rw [← hT]; rfl⟩, iteF ?_⟩
      refine ⟨_, rfl, t, _, rfl, ht, for_it (walk_enum (K := K) (a := t) (xs := tx.map V.int)) (fun i σ H' => ∃ v1 v2 : Option V, σ = [some (.ref t), v1, v2] ∧ Same H H' ∧ ∀ j x, j < i → tx[j]? = some x → 0 ≤ x)
        ⟨none, none, rfl, Same.refl H, fun j r h => absurd h (Nat.not_lt_zero _)⟩ (fun i σ H' _ ⟨_, _, _, e, _⟩ => e.seq ht) (fun i x σ H1 H2 hi h y => ?_) (fun σ H1 h => ?_)⟩
      · obtain ⟨v1, v2, rfl, e, gd⟩ := h
        obtain ⟨T1, x1, y1, rfl, nT, rfl, e1, e2⟩ := y
        obtain rfl : V.int (i : Nat) = x1 := Option.some.inj e1
        obtain ⟨z, hz, rfl⟩ : ∃ z, tx[i]? = some z ∧ y1 = .int z := by
          have e3 : (tx.map V.int)[i]? = some y1 := e2
          rw [List.getElem?_map] at e3
          cases q : tx[i]? with
          | none =>
            rw [q] at e3
            cases e3
          | some z =>
            rw [q] at e3
            exact ⟨z, rfl, (Option.some.inj e3).symm⟩
        have eT : Same H (upd H1 T1 (.tup [.int i, .int z])) := same_upd e nT
        refine ⟨T1, _, rfl, SqT.of upd_same, rfl, _, _, rfl, _, _, rfl, rfl, ?_⟩
        refine ⟨_, rfl, _, _, rfl, rfl, _, rfl, ite2 (fun c => ?_) (fun c => ?_)⟩
        · exact ⟨_, rfl, Err.ask eT (kn' i (neg_at hz (of_decide_eq_true c) gd))⟩
        · refine ⟨_, _, rfl, eT, fun j x hj hx => ?_⟩
          by_cases q : j = i
          · rw [q, hz] at hx
            cases hx
            have : ¬ z < 0 := fun l => c (decide_eq_true l)
            omega
          · exact gd j x (by omega) hx
      · obtain ⟨v1, v2, rfl, e, gd⟩ := h
        refine kg' (neg_none fun j x hj hx => gd j x ?_ hx) _ e
        rw [List.length_map]
        exact hj
theorem ok_check_cursorX {f : Addr} {fd : FuncData} (F : Fun K "check_cursor" "check_cursor" s_check_cursor f fd) (e_InvalidCursor : ErrC P w K mg base "InvalidCursor" CC) : FnOk P w K mg base (L2.CX P w) 3 f fd ["lines", "cursor"] (spCursorX K CC) := by
  refine F.okX sc_check_cursor (fun vs H Q E h => ?_) (fun cdv A outer s H vs Q E hr h => ?_)
  · obtain ⟨n, r, g, c, rfl, _⟩ := h
    rfl
  · obtain ⟨n, r, g, c, rfl, hc, kb, kg⟩ := h
    refine ⟨_, (pss_cons (ps_asg (pv 1) (pg_tup rfl (pgs_cons (pg_name (i := 2) sc_check_cursor.nd rfl (Or.inl rfl)) (pgs_cons (pg_name (i := 3) sc_check_cursor.nd rfl (Or.inl rfl)) pgs_nil))))
      (pss_one (ps_if (PW.pt (pw_or (pt_not (pt_chain op_le op_lt pe_int (pv 2) (pv 0))) (pw_or1 (PW.pt (pw_and (pt_cmpR op_notN (pv 3) pe_non (nomark _)) (pw_and1 (pt_cmpR op_lt (pv 3) pe_int (nomark _)))))))) (pss_one (ps_raiseE rfl e_InvalidCursor hr (by decide) (takes_of rfl rfl rfl rfl) (pv 1) (by rfl))) pss_nil))), ?_⟩
    have bad : ¬ CurOk n r g → rRaise CC E (.ref c) H := fun z => Err.ask (Same.refl H) (kb z)
    refine ⟨_, rfl, c, _, rfl, hc, rfl, _, _, rfl, _, _, rfl, rfl, ?_⟩
    refine ⟨_, rfl, _, _, rfl, rfl, _, rfl, ite2 (fun c0 => ?_) (fun c0 => ?_)⟩
    · refine ⟨_, rfl, _, _, rfl, rfl, _, rfl, ?_⟩
      by_cases c1 : r < n
      · refine iteN1 c1 ?_
        cases g with
        | none => exact ⟨_, rfl, rfl, _, rfl, iteF (iteF (kg ⟨of_decide_eq_true c0, c1, ge_none 0⟩))⟩
        | some y =>
          refine ⟨_, rfl, rfl, _, rfl, iteT ?_⟩
          refine ⟨_, rfl, _, _, rfl, rfl, _, rfl, ite2 (fun c2 => ?_) (fun c2 => ?_)⟩
          · refine ⟨_, rfl, bad fun z => ?_⟩
            have := ge_some.mp z.2.2
            have := of_decide_eq_true c2
            omega
          · have c2' : ¬ y < 0 := fun l => c2 (decide_eq_true l)
            exact kg ⟨of_decide_eq_true c0, c1, ge_some.mpr (by omega)⟩
      · refine iteN0 c1 ?_
        exact ⟨_, rfl, bad fun z => c1 z.2.1⟩
    · refine ⟨_, rfl, ?_⟩
      refine iteT (B := _) ?_
      exact ⟨_, rfl, bad fun z => c0 (decide_eq_true z.1)⟩
end
end Gc

/-! run of invalid arguments -/
namespace Gc
open PySem L2
/-- the class and the value of the error of invalid arguments of run -/
inductive BadRun (b : Addr) (T : List Int) (r : Int) (g : Option Int) (rs : List Raw) : Nat → V → Prop where
  | text0 : T = [] → BadRun b T r g rs 0 .non
  | text (i : Nat) : T ≠ [] → negAt T = some i → BadRun b T r g rs 0 (.int i)
  | cursor : T ≠ [] → negAt T = none → ¬ CurOk T.length r g → BadRun b T r g rs 1 (.ref b)
  | command (i : Nat) : T ≠ [] → negAt T = none → CurOk T.length r g → badAt rs = some i → BadRun b T r g rs 2 (.int i)
def spRunB (K : PySem.W.Frag) (cs : Nat → Addr) : Sp := fun vs H Q E => ∃ (t b l : Addr) (T : List Int) (r : Int) (g : Option Int) (xs : List V) (rs : List Raw) (i : Nat) (v : V), vs = [.ref t, .ref b, .ref l] ∧ SqL K H t (T.map V.int) ∧ SqT K H b [.int r, optV g] ∧ SqL K H l xs ∧ RawsOf K H xs rs ∧ BadRun b T r g rs i v ∧ Err E (cs i) v H
def spRunU (K : PySem.W.Frag) (cs : Nat → Addr) : Sp := fun vs H Q E => spRunB K cs vs H Q E ∨ spRunI K (cs 3) vs H Q E
theorem fnok_or2 {P : Program} {w : World} {K : PySem.W.Frag} {mg : Str → Option Value} {base : Heap} {C : CXT} {k : Nat} {f : Addr} {fd : FuncData} {ps : List Str} {s1 s2 : Sp} (F1 : FnOk P w K mg base C k f fd ps s1) (F2 : FnOk P w K mg base C k f fd ps s2) : FnOk P w K mg base C k f fd ps (fun vs H Q E => s1 vs H Q E ∨ s2 vs H Q E) :=
  ⟨fun vs H Q E h => h.elim (F1.len vs H Q E) (F2.len vs H Q E), fun A outer s H args us vs Q E hr he hb hv hs => hs.elim (F1.run A outer s H args us vs Q E hr he hb hv) (F2.run A outer s H args us vs Q E hr he hb hv)⟩
section
variable {P : Program} {w : World} {K : PySem.W.Frag} {mg : Str → Option Value} {base : Heap} {wo wn : Addr} {cs : Nat → Addr}
theorem ok_runB {f : Addr} {fd : FuncData} (F : Fun K "run" "run" s_run f fd) (T : TxtB K mg wo wn) (c_check_text : CalX P w K mg base 3 "check_text" (spTextX K (cs 0))) (c_check_cursor : CalX P w K mg base 3 "check_cursor" (spCursorX K (cs 1)))
    (c_check_commands : CalX P w K mg base 3 "check_commands" (spCheckX K (cs 2))) (c_moved : Cal P w K mg base 3 "moved" (spMoved K)) (e_Impossible : ErrC P w K mg base "Impossible" (cs 3)) : FnOk P w K mg base (L2.CX P w) 4 f fd ["text", "cursor", "commands"] (spRunB K cs) := by
  refine F.okX sc_run (fun vs H Q E h => ?_) (fun cdv A outer s H vs Q E hr h => ?_)
  · obtain ⟨t, b, l, tx, r, g, xs, rs, i, v, rfl, _⟩ := h
    rfl
  · obtain ⟨t, b, l, tx, r, g, xs, rs, i, v, rfl, ht, hb, hl, hrs, bad, ke⟩ := h
    refine ⟨_, (pss_cons (ps_expr (pe_calX (takes_of rfl rfl rfl rfl) c_check_text hr (by decide) (by rfl) (pa_cons (pv 0) pa_nil)))
      (pss_cons (ps_expr (pe_calX (takes_of rfl rfl rfl rfl) c_check_cursor hr (by decide) (by rfl) (pa_cons (pe_callB call_len_seq (by rfl) T.len (by decide +kernel) (pa_cons (pv 0) pa_nil)) (pa_cons (pv 1) pa_nil))))
      (pss_cons (ps_expr (pe_calX (takes_of rfl rfl rfl rfl) c_check_commands hr (by decide) (by rfl) (pa_cons (pv 2) pa_nil)))
      (pss_cons (ps_set (i := 3) sc_run.nd rfl (Or.inl rfl) (pv 1))
      (pss_cons (ps_for (passes_of rfl) rfl (pi_enum (by rfl) T.enumerate (pa_cons (pv 2) pa_nil)) (pg_tup rfl (pgs_cons (pg_name (i := 4) sc_run.nd rfl (Or.inl rfl)) (pgs_cons (pg_name (i := 5) sc_run.nd rfl (Or.inl rfl)) pgs_nil))) (pss_cons (ps_set (i := 3) sc_run.nd rfl (Or.inl rfl) (pe_cal c_moved hr (by decide) (by rfl) (pa_cons (pv 0) (pa_cons (pv 3) (pa_cons (pv 5) pa_nil)))))
      (pss_one (ps_if (pt_cmpR op_isN (pv 3) pe_non (nomark _)) (pss_one (ps_raiseE rfl e_Impossible hr (by decide) (takes_of rfl rfl rfl rfl) (pv 4) (by rfl))) pss_nil))))
      (pss_one (ps_ret (pv 3)))))))), ?_⟩
    refine ⟨_, rfl, t, tx, rfl, ht, fun z => ?_, fun z j hj => ?_, fun ne hn H1 e1 => ?_⟩
    · cases bad with
      | text0 _ => exact ke
      | text j y _ => exact absurd z y
      | cursor y _ _ => exact absurd z y
      | command j y _ _ _ => exact absurd z y
    · cases bad with
      | text0 y => exact absurd y z
      | text j' _ q =>
        rw [hj] at q
        cases q
        exact ke
      | cursor _ q _ => rw [hj] at q; cases q
      | command j' _ q _ _ => rw [hj] at q; cases q
    refine ⟨_, rfl, t, _, rfl, .inl (e1.seq ht), _, rfl, (tx.map V.int).length, r, g, b, rfl, seq_t e1 hb, ?_, ?_⟩
    · rw [List.length_map]
      intro z
      cases bad with
      | text0 y => exact absurd y ne
      | text j' _ q => rw [hn] at q; cases q
      | cursor _ _ _ => exact Err.same e1 ke
      | command j' _ _ q _ => exact absurd q z
    rw [List.length_map]
    intro hc
    refine ⟨_, rfl, l, xs, rs, rfl, e1.seq hl, hrs.same e1, fun j hj => ?_, fun hg H2 e2 => ?_⟩
    · cases bad with
      | text0 y => exact absurd y ne
      | text j' _ q => rw [hn] at q; cases q
      | cursor _ _ q => exact absurd hc q
      | command j' _ _ _ q =>
        rw [hj] at q
        cases q
        exact Err.same e1 ke
    · cases bad with
      | text0 y => exact absurd y ne
      | text j' _ q => rw [hn] at q; cases q
      | cursor _ _ q => exact absurd hc q
      | command j' _ _ _ q => rw [hg] at q; cases q
end
end Gc

/-! calls by names alone, the names in the other order: f(b=.., a=..) of def f(a, b) -/
namespace Gc
open PySem PySem.Spec PyProof.Rows L2
def gRev {α : Type} (us ws : List α) : List α := us ++ ws.reverse
theorem vals_rev : ∀ {vs : List V} {us : List Value}, Vals vs us → Vals vs.reverse us.reverse
  | _, _, .nil => .nil
  | v :: vs, u :: us, .cons h t => by
    rw [List.reverse_cons, List.reverse_cons]
    exact (vals_rev t).append (.cons h .nil)
structure CalK (P : Program) (w : World) (K : PySem.W.Frag) (mg : Str → Option Value) (base : Heap) (k : Nat) (x : Str) (ks : List Str) (sp : Sp) : Prop where
  ex : ∃ (f : Addr) (fd : FuncData) (ps : List Str), FnOk P w K mg base CX0 k f fd ps sp ∧ mg x = some (.ref f) ∧ PySem.W.keepIn K (.ref f) = true ∧ KBinds K fd ps ks gRev gRev
/-- how it binds: h is «fun _ _ _ _ _ _ us ws hl => match us, ws, hl with | [], [_, _], _ => rfl | [_], [_], _ => rfl | [_, _], [], _ => rfl» -/
theorem bindsK {K : PySem.W.Frag} {x qual : Str} {st : Stmt} {f : Addr} {fd : FuncData} {ps ks : List Str} (F : Fun K x qual st f fd)
    (h : ∀ (kV doc pm : Value) (an : Option Addr) (cdv ct : Value) (us ws : List Value), (gRev us ws).length = ps.length → bindArgs (PySem.W.fnOf x qual (defArgs st) (defBody st) (defScope st) .none kV doc pm an cdv ct) ⟨us, ks.zip ws⟩ = pure (ps.zip (gRev us ws))) : KBinds K fd ps ks gRev gRev := by
  obtain ⟨oc, od, kV, doc, pm, an, cdv, ct, osl, rfl, lk, hcd⟩ := F.ex
  exact ⟨fun s us ws _ hl => .of_eq (h kV doc pm an cdv ct us ws hl), fun a b => a.append (vals_rev b)⟩
theorem pe_calK {X : Cx} {k j : Nat} {x : Str} {ks : List Str} {sp : Sp} {p pos : Pos} {kws : List Keyword} {tk : TA} (c : CalK X.prog X.w X.K X.mg X.base k x ks sp) (hr : Room j X.A) (hk : k ≤ j) (hg : Gl X x) (hkw : PK X kws tk)
    (hdb : (x == ("__debug__" : Str)) = false := by decide) (hall : (backToKw pos (keywordEach kws X.env)).all (·.1.isSome) = true := by rfl) (hks : (backToKw pos (keywordEach kws X.env)).filterMap (·.1) = ks := by rfl)
    (hpn : ((backTo pos (starEach [] X.env)).any (·.1) || (backToKw pos (keywordEach kws X.env)).any (·.1.isNone)) = false := by rfl) :
    PE X (.Call (.Name x p) [] kws pos) (tCallK sp gRev E0 tNil tk) := by
  obtain ⟨f, fd, ps, F, hm, kp, b⟩ := c.ex
  refine ⟨fun pins s σ H Q I h => ?_⟩
  refine wpAny_Call_Name_kw (ld_glob I hg hm ?_ hdb)
  refine PySem.W.callWith_KW0 (h₀ := X.base) I.ok.mod.kin kp hall ?_ hpn
  refine thn (hkw.run pos pins s σ H _ I h) fun ws s1 ⟨zs, H1, I1, rz, q⟩ => ⟨I1.kIn, ?_⟩
  rw [hks]
  exact run_fnk (us := []) (vs := []) F (hr.mono hk) b pass0 I1 .nil rz q
end Gc

/-! a caught error that is looked at: handed to a def within the except suite, its classes, its field -/
namespace L2
open PySem PySem.Spec PyProof.Rows
/-- what a def promises that is handed the error of the suite: at a, of the class at C, with the dict d -/
structure FnE (P : Program) (w : World) (K : PySem.W.Frag) (mg : Str → Option Value) (base : Heap) (k : Nat) (f : Addr) (fd : FuncData) (ps : List Str) (sp : Addr → Addr → Addr → Sp) : Prop where
  many : ∀ a C d vs H Q E, sp a C d vs H Q E → vs.length = ps.length
  go : ∀ (A : Around) (below : List Env) (s : Shared) (H : Hp) (given : Args) (us : List Value) (vs : List V) (Q : VK) (E : XK) (q : Addr × Obj) (C d : Addr), L2H.RoomH k A → L2H.PinOk below H s q → Zc (.ref C) (some d) q.2 → (∃ ws, q.2.data = .fields ws) →
    Env0 P w K mg base A below s H → BindsTo s fd given (ps.zip us) → Vals vs us → sp q.1 C d vs H Q E → codeAny (model P w) A (.call (.ref f) given) (CR CX0 below P w H s Q E) s
/-- the context that such a def's body runs in -/
abbrev cxE (P : Program) (w : World) (K : PySem.W.Frag) (mg : Str → Option Value) (base : Heap) (N : List Str) (qual : Str) (sc : Scope) (f : Addr) (cd : Value) (A : Around) (below : List Env) (s : Shared) (H : Hp) (E : XK) (q : Addr × Obj) : Cx :=
  L2H.cxH CX0 P w K mg base N qual sc f cd A below s H E q
theorem Fun.okE {P : Program} {w : World} {K : PySem.W.Frag} {mg : Str → Option Value} {base : Heap} {x qual : Str} {st : Stmt} {f : Addr} {fd : FuncData} {N ps : List Str} {k : Nat} {sp : Addr → Addr → Addr → Sp} (F : Fun K x qual st f fd) (S : FnScope N ps (defScope st))
    (many : ∀ a C d vs H Q E, sp a C d vs H Q E → vs.length = ps.length)
    (body : ∀ (cdv : Value) (A : Around) (below : List Env) (s : Shared) (H : Hp) (vs : List V) (Q : VK) (E : XK) (q : Addr × Obj) (C d : Addr), L2H.RoomH k (A.deeper (envOfC qual (defScope st) s.heap.objs.size f cdv)) → Zc (.ref C) (some d) q.2 → (∃ ws, q.2.data = .fields ws) → sp q.1 C d vs H Q E →
      ∃ t, PSs (cxE P w K mg base N qual (defScope st) f cdv A below s H E q) (defBody st) t ∧ t { nx := fun _ H' => Q .non H', rt := Q } (start N vs) H) : FnE P w K mg base (k + 1) f fd ps sp := by
  obtain ⟨oc, od, kV, doc, pm, an, cdv, ct, osl, rfl, lk, code⟩ := F.ex
  refine ⟨many, fun A below s H given us vs Q E q C d room pin hz hf env bnd rel want => ?_⟩
  have size := many _ _ _ _ _ _ _ want
  have inK : K.In s.heap := env.mod.kin.keeps fun b o z => (env.bs b o z).1
  have free : s.heap.NoLimit := env.mod.nolimit.keeps fun b o z => (env.bs b o z).1
  refine codeAny_call_function room.depth (inK _ _ lk) rfl S.co S.gen rfl (PySem.W.codeRec_of inK code) (bnd _ _ _ _ ?_)
  refine wpAny_newFunctionEnv_cells S.kind (fun ⟨n, v⟩ there => (S.par n (List.of_mem_zip there).1).elim .inl fun z => .inr ⟨z, PySem.W.cellsFrom_some _ _ _ (.inl z)⟩) fun env2 same s1 call => ?_
  subst same
  refine ⟨free.keeps call.toInCall.keep, codeAny_func ?_⟩
  obtain ⟨t, holds, ask⟩ := body cdv A below s H vs Q E q C d (room.deeper _) hz hf want
  refine wpAny_mono (holds.run [] s1 (start N vs) H _ (L2H.inv_startH S pin env size rel call) ask) (fun how s2 end_ => ?_) fun e s2 end_ => end_
  cases how with
  | ret u =>
    obtain ⟨v, τ, G, J, rv, z⟩ := end_
    exact ⟨v, G, J.os, J.bare, J.base, J.hok, rv, z⟩
  | next =>
    obtain ⟨τ, G, J, z⟩ := end_
    exact ⟨V.non, G, J.os, J.bare, J.base, J.hok, rfl, z⟩
  | brk => exact end_.elim fun _ z => z.elim fun _ y => y.2.elim
  | cont => exact end_.elim fun _ z => z.elim fun _ y => y.2.elim
/-- such a def, called by its name -/
structure CalE (P : Program) (w : World) (K : PySem.W.Frag) (mg : Str → Option Value) (base : Heap) (k : Nat) (x : Str) (sp : Addr → Addr → Addr → Sp) : Prop where
  ex : ∃ (f : Addr) (fd : FuncData) (ps : List Str), FnE P w K mg base k f fd ps sp ∧ mg x = some (.ref f) ∧ PySem.W.keepIn K (.ref f) = true ∧ Binds K fd ps []
def tCallE (a : Addr) (cls : Value) (d : Option Addr) (sp : Addr → Addr → Addr → Sp) (t : TA) : TE := fun σ H Q => t σ H fun vs H1 => ∃ C dd : Addr, cls = .ref C ∧ d = some dd ∧ sp a C dd vs H1 Q E0
section
variable {X : Cx} {k j : Nat} {x : Str} {sp : Addr → Addr → Addr → Sp} {p pos : Pos} {e : Expr} {es : List Expr} {t : TA} {te : TE} {a : Addr} {oe : Obj} {cls : Value} {d : Option Addr} {pn : List (Addr × Obj)}
theorem pe_callE (c : CalE X.prog X.w X.K X.mg X.base k x sp) (hr : Room j X.A) (hk : k ≤ j) (hz : Zc cls d oe) (hf : ∃ vs, oe.data = .fields vs) (hg : Gl (X.suite a ((a, oe) :: pn)) x) (ha : PA (X.suite a ((a, oe) :: pn)) (e :: es) t)
    (hdb : (x == ("__debug__" : Str)) = false := by decide)
    (he : starEach (e :: es) X.env = (false, eval e X.env) :: starEach es X.env := by rfl)
    (hpl : (backTo pos (starEach es X.env)).any (·.1) = false := by rfl) :
    PE (X.suite a ((a, oe) :: pn)) (.Call (.Name x p) (e :: es) [] pos) (tCallE a cls d sp t) := by
  obtain ⟨f, fd, ps, F, hm, kp, b⟩ := c.ex
  refine ⟨fun pins s σ H Q I h => ?_⟩
  refine wpAny_Call_Name_kw (ld_glob I hg hm ?_ hdb)
  refine PySem.W.callWith_K (h₀ := X.base) I.ok.mod.kin kp (thn (ha.run pos pins s σ H _ I h) fun us s1 ⟨vs, H1, I1, r, C, dd, ec, ed, q⟩ => ⟨I1.kIn, ?_⟩) he hpl
  subst ec
  subst ed
  have size : us.length = ps.length := by rw [← r.length]; exact F.many _ _ _ _ _ _ _ q
  have bnd := b s1 us I1.kIn (by rw [List.append_nil]; exact size)
  rw [List.append_nil] at bnd
  obtain ⟨p1, p2, p3, p4, p5⟩ := I1.pin (a, oe) (List.mem_append_left _ List.mem_cons_self)
  have pin : L2H.PinOk (X.suite a ((a, oe) :: pn)).stack H1 s1 (a, oe) := ⟨p1, p2, fun z => (List.mem_cons.mp (I1.stkSub a z)).elim p3 p4, p5⟩
  refine wpAny_call (codeAny_mono (F.go _ _ s1 H1 ⟨us, []⟩ us vs Q E0 (a, oe) C dd ((⟨hr.dp, hr.un⟩ : L2H.RoomH j (X.suite a ((a, oe) :: pn)).A).mono hk) pin hz hf I1.env0 bnd r q) fun how s2 end_ => ?_)
  cases how with
  | error u => exact False.elim end_
  | ok fl =>
    cases fl with
    | ret u => exact I1.after end_
    | next => exact False.elim end_
    | brk => exact False.elim end_
    | cont => exact False.elim end_
/-- what an error class must say, so that its instances can be looked at -/
structure ErrI (K : PySem.W.Frag) (C : Addr) : Prop where
  cl : (PySem.W.clsIn K C).isSome = true
  ga : PySem.W.findIn K (.ref C) "__getattribute__" = some (some (.builtin "BaseException.__getattribute__"))
  gg : PySem.W.findIn K (.ref C) "__getattr__" = some none
  be : PySem.W.subIn K (.ref C) (.type "BaseException") = some true
  hd : PySem.W.hasDictIn K C = true
  cc : PySem.W.findIn K (.ref C) "__class__" = some (some (.builtin "object.__class__"))
  gt : PySem.W.specialIn K (.builtin "object.__class__") "__get__" = some (some (.builtin "getset_descriptor.__get__"))
  tk : PySem.W.takesIn K (.builtin "object.__class__") = some true
  ob : PySem.W.mroIn K C (.type "object") = some true
  no : PySem.W.findIn K (.ref C) "value" = some none
theorem pin_inst {pins : List (Addr × Obj)} {s : Shared} {σ : St} {H : Hp} {C dd : Addr} {fs : List (Str × V)} (I : Inv X pins σ H s) (hp : (a, oe) ∈ X.pn) (hz : Zc (.ref C) (some dd) oe) (hf : ∃ vs, oe.data = .fields vs) (ed : H dd = some (.xd fs)) :
    ∃ (od : Obj) (mA : Str → Option Value), PySem.W.InstAt s.heap a oe C (some od) ∧ (∀ f, PySem.W.lookIn f od = some (mA f)) ∧ ∀ f, RelO (fs.lookup f) (mA f) := by
  obtain ⟨p1, _⟩ := I.pin (a, oe) (List.mem_append_left _ hp)
  obtain ⟨vs, hd⟩ := hf
  obtain ⟨mA, hns, rel⟩ := (show ObjOk X.prog X.w H s.heap dd (.xd fs) from I.hok dd _ ed)
  obtain ⟨od, ho, hl⟩ := lookIn_ns hns
  exact ⟨od, mA, ⟨p1, hz.1, by unfold PySem.W.notCls; rw [hd] <;> rfl, by rw [hz.2]; exact ho⟩, hl, rel⟩
/-- isinstance(e, c), e the error -/
def rIsX (K : PySem.W.Frag) (a C dd : Addr) : List V → Hp → VK → Prop := fun xs H Q => ∃ (fs : List (Str × V)) (c : V) (cv : Value) (b : Bool), xs = [.ref a, c] ∧ H dd = some (.xd fs) ∧ ErrI K C ∧ ClsV c cv ∧ PySem.W.kitOne K (.ref C) cv = some b ∧ Q (.bl b) H
theorem call_isX {C dd : Addr} (hp : (a, oe) ∈ X.pn) (hz : Zc (.ref C) (some dd) oe) (hf : ∃ vs, oe.data = .fields vs) : CallR X (.builtin "isinstance") (rIsX X.K a C dd) := by
  intro pins s σ H xs us Q I r h
  obtain ⟨fs, c, cv, b, rfl, ed, T, k, e, q⟩ := h
  obtain ⟨u1, u2, rfl, r1, r2⟩ := vals2 r
  have e2 := k.eq r2
  subst e2
  obtain rfl : u1 = Value.ref a := r1
  obtain ⟨od, mA, J, _, _⟩ := pin_inst I hp hz hf ed
  exact PySem.W.kia_one (PySem.W.kitx_exc T.cl T.ga T.gg T.be T.cc T.gt T.tk T.ob) I.kIn J e (fun z => nomatch z) fun tk => ⟨.bl b, H, I.tok tk, rfl, q⟩
/-- isinstance(e, (c1, c2, ..)) -/
def rIsXT (K : PySem.W.Frag) (a C dd : Addr) : List V → Hp → VK → Prop := fun xs H Q => ∃ (fs : List (Str × V)) (tp : Addr) (cs : List V) (us : List Value) (b : Bool), xs = [.ref a, .ref tp] ∧ H dd = some (.xd fs) ∧ ErrI K C ∧ H tp = some (.tup cs) ∧ Paired ClsV cs us ∧
  PySem.W.kitAny K (.ref C) us = some b ∧ Q (.bl b) H
theorem call_isXT {C dd : Addr} (hp : (a, oe) ∈ X.pn) (hz : Zc (.ref C) (some dd) oe) (hf : ∃ vs, oe.data = .fields vs) : CallR X (.builtin "isinstance") (rIsXT X.K a C dd) := by
  intro pins s σ H xs us Q I r h
  obtain ⟨fs, tp, cs, ws, b, rfl, ed, T, hT, k, e, q⟩ := h
  obtain ⟨u1, u2, rfl, r1, r2⟩ := vals2 r
  obtain rfl : u1 = Value.ref a := r1
  obtain rfl : u2 = Value.ref tp := r2
  obtain ⟨od, mA, J, _, _⟩ := pin_inst I hp hz hf ed
  obtain ⟨_, its, rv, o, g1, g2, n, g3⟩ := (show ObjOk X.prog X.w H s.heap tp (.tup cs) from I.hok tp _ hT)
  have e3 := ClsV.all k rv
  subst e3
  obtain ⟨oc, o2, dt, sl⟩ := o
  simp only at g2 g3
  subst g2 g3
  exact PySem.W.kia_tup (PySem.W.kitx_exc T.cl T.ga T.gg T.be T.cc T.gt T.tk T.ob) I.kIn J g1 e (fun z => nomatch z) fun tk => ⟨.bl b, H, I.tok tk, rfl, q⟩
/-- e.value -/
def tXfA (K : PySem.W.Frag) (a : Addr) (cls : Value) (d : Option Addr) (te : TE) : TE := fun σ H Q => te σ H fun x H1 => x = .ref a ∧ ∃ (C dd : Addr) (v : V), cls = .ref C ∧ d = some dd ∧ ErrI K C ∧ H1 dd = some (.xd [("value", v)]) ∧ Q v H1
theorem pe_xfA (hz : Zc cls d oe) (hf : ∃ vs, oe.data = .fields vs) (he : PE (X.suite a ((a, oe) :: pn)) e te) (hb : attributeBase e "value" X.env (eval e X.env) = eval e X.env := by rfl) :
    PE (X.suite a ((a, oe) :: pn)) (.Attribute e "value" pos) (tXfA X.K a cls d te) := by
  refine ⟨fun pins s σ H Q I h => ?_⟩
  refine attr_of hb (thn (he.run pins s σ H _ I h) fun u s1 hh => ?_)
  obtain ⟨x, H1, I1, rx, ex, C, dd, v, ec, ed, T, hd, q⟩ := hh
  subst ex
  obtain rfl : u = Value.ref a := rx
  subst ec
  subst ed
  obtain ⟨od, mA, J, hl, rel⟩ := pin_inst I1 List.mem_cons_self hz hf hd
  obtain ⟨u, hu, ru⟩ := RelO.some_of (v := v) (o := mA "value") (by
    have z := rel "value"
    rw [show List.lookup ("value" : Str) [(("value" : Str), v)] = some v by simp [List.lookup]] at z
    exact z)
  exact HandSPX.exc_get I1.kIn J T.ga T.gg T.be (PySem.W.findObj_own T.hd T.no rfl (by rw [hl, hu])) (handed_of ru) ⟨v, H1, I1.tok _, ru, q⟩
end
end L2
namespace Gc
open PySem PySem.Spec PyProof.Rows L2
/-- a def that may let an error out, called by names alone -/
structure CalKX (P : Program) (w : World) (K : PySem.W.Frag) (mg : Str → Option Value) (base : Heap) (k : Nat) (x : Str) (ks : List Str) (sp : Sp) : Prop where
  ex : ∃ (f : Addr) (fd : FuncData) (ps : List Str), FnOk P w K mg base (L2.CX P w) k f fd ps sp ∧ mg x = some (.ref f) ∧ PySem.W.keepIn K (.ref f) = true ∧ KBinds K fd ps ks gRev gRev
def tCallKX (sp : Sp) (W : WX) (tk : TA) : TE := fun σ H Q => tk σ H fun zs H2 => sp (gRev [] zs) H2 Q (WE W σ)
theorem pe_calKX {X : Cx} {W : WX} {k j : Nat} {x : Str} {ks : List Str} {sp : Sp} {p pos : Pos} {kws : List Keyword} {t : TA} (tk : Takes X W) (c : CalKX X.prog X.w X.K X.mg X.base k x ks sp) (hr : Room j X.A) (hk : k ≤ j) (hg : Gl X x) (hkw : PK X kws t)
    (hdb : (x == ("__debug__" : Str)) = false := by decide) (hall : (backToKw pos (keywordEach kws X.env)).all (·.1.isSome) = true := by rfl) (hks : (backToKw pos (keywordEach kws X.env)).filterMap (·.1) = ks := by rfl)
    (hpn : ((backTo pos (starEach [] X.env)).any (·.1) || (backToKw pos (keywordEach kws X.env)).any (·.1.isNone)) = false := by rfl) :
    PE X (.Call (.Name x p) [] kws pos) (tCallKX sp W t) := by
  obtain ⟨f, fd, ps, F, hm, kp, b⟩ := c.ex
  refine ⟨fun pins s σ H Q I h => ?_⟩
  refine wpAny_Call_Name_kw (ld_glob I hg hm ?_ hdb)
  refine PySem.W.callWith_KW0 (h₀ := X.base) I.ok.mod.kin kp hall ?_ hpn
  refine thn (hkw.run pos pins s σ H _ I h) fun ws s1 ⟨zs, H1, I1, rz, q⟩ => ⟨I1.kIn, ?_⟩
  rw [hks]
  have r2 := b.rel (us := []) (vs := []) .nil rz
  have size : (gRev [] ws).length = ps.length := by rw [← r2.length]; exact F.len _ _ _ _ q
  refine wpAny_call (codeAny_mono (F.run X.A X.stack s1 H1 ⟨[], ks.zip ws⟩ (gRev [] ws) (gRev [] zs) Q (WE W σ) (hr.mono hk) I1.env0 (b.to s1 [] ws I1.kIn size) r2 q) fun how s2 end_ => ?_)
  cases how with
  | error u => exact passAt tk σ pins H1 s1 u s2 I1 end_
  | ok fl =>
    cases fl with
    | ret u => exact I1.after end_
    | next => exact False.elim end_
    | brk => exact False.elim end_
    | cont => exact False.elim end_
end Gc
namespace L2
open PySem PySem.Spec PyProof.Rows
theorem takesNone {X : Cx} : Takes X (fun _ _ _ _ => False) := fun _ _ x => by
  obtain ⟨_, _, _, _, _, _, _, _, _, _, _, _, _, _, _, _, z⟩ := x
  exact z.elim
end L2

/-! what is known of the error classes; R: which of them may be raised -/
namespace L2
open PySem PySem.Spec PyProof.Rows
/-- e.value in a def that was handed the caught error -/
theorem pe_xfE {X : Cx} {e : Expr} {te : TE} {a : Addr} {oe : Obj} {C dd : Addr} {pos : Pos} (hp : (a, oe) ∈ X.pn) (hz : Zc (.ref C) (some dd) oe) (hf : ∃ vs, oe.data = .fields vs) (he : PE X e te) (hb : attributeBase e "value" X.env (eval e X.env) = eval e X.env := by rfl) :
    PE X (.Attribute e "value" pos) (tXfA X.K a (.ref C) (some dd) te) := by
  refine ⟨fun pins s σ H Q I h => ?_⟩
  refine attr_of hb (thn (he.run pins s σ H _ I h) fun u s1 hh => ?_)
  obtain ⟨x, H1, I1, rx, ex, C', dd', v, ec, ed, T, hd, q⟩ := hh
  subst ex
  obtain rfl : u = Value.ref a := rx
  cases ec
  cases ed
  obtain ⟨od, mA, J, hl, rel⟩ := pin_inst I1 hp hz hf hd
  obtain ⟨u, hu, ru⟩ := RelO.some_of (v := v) (o := mA "value") (by
    have z := rel "value"
    rw [show List.lookup ("value" : Str) [(("value" : Str), v)] = some v by simp [List.lookup]] at z
    exact z)
  exact HandSPX.exc_get I1.kIn J T.ga T.gg T.be (PySem.W.findObj_own T.hd T.no rfl (by rw [hl, hu])) (handed_of ru) ⟨v, H1, I1.tok _, ru, q⟩
end L2
namespace Gc
open PySem L2
structure TxtE (K : PySem.W.Frag) (mg : Str → Option Value) (cs : Nat → Addr) (CE : Addr) (R : Nat → Prop) : Prop where
  g0 : mg "InvalidText" = some (.ref (cs 0))
  g1 : mg "InvalidCursor" = some (.ref (cs 1))
  g2 : mg "InvalidCommand" = some (.ref (cs 2))
  g3 : mg "Impossible" = some (.ref (cs 3))
  g4 : mg "InvalidNumber" = some (.ref (cs 4))
  g5 : mg "NothingToUndo" = some (.ref (cs 5))
  g6 : mg "Unreadable" = some (.ref (cs 6))
  gE : mg "CursorError" = some (.ref CE)
  lt : ∀ i, R i → i < 7
  kit : ∀ i j, R i → j < 7 → PySem.W.kitOne K (.ref (cs i)) (.ref (cs j)) = some (decide (i = j))
  kve : ∀ i, R i → PySem.W.kitOne K (.ref (cs i)) (.type "ValueError") = some true
  kce : ∀ i, R i → PySem.W.kitOne K (.ref (cs i)) (.ref CE) = some true
  ex : ∀ i, R i → PySem.W.exmOne K (.ref (cs i)) (.ref CE) = some true
  ei : ∀ i, R i → ErrI K (cs i)
  isinstance : mg "isinstance" = none
  ValueError : mg "ValueError" = none
def nmE : Nat → Str
  | 0 => "InvalidText"
  | 1 => "InvalidCursor"
  | 2 => "InvalidCommand"
  | 3 => "Impossible"
  | 4 => "InvalidNumber"
  | 5 => "NothingToUndo"
  | _ => "Unreadable"
end Gc

/-! a caught error that is kept behind its except suite: try: .. except X as e: kept = e -/
namespace Gc
open PySem PySem.Spec PyProof.Rows L2
def ExK (cls : Value) (d : Option Addr) (a : Addr) : HO := .ext fun h => ∃ (oe : Obj) (fl : Array Value), h.get? a = some oe ∧ Zc cls d oe ∧ oe.data = .fields fl
theorem exK_ok {P : Program} {w : World} {H : Hp} {h : Heap} {a : Addr} {cls : Value} {d : Option Addr} {oe : Obj} {fl : Array Value} (e : h.get? a = some oe) (z : Zc cls d oe) (f : oe.data = .fields fl) : ObjOk P w H h a (ExK cls d a) :=
  ⟨⟨oe, fl, e, z, f⟩, ⟨oe, e⟩, fun _ _ ⟨o, v, q, r⟩ k => ⟨o, v, k o q, r⟩⟩
theorem exK_at {P : Program} {w : World} {H : Hp} {h : Heap} {a : Addr} {cls : Value} {d : Option Addr} (ok : HOk P w H h) (e : H a = some (ExK cls d a)) : ∃ (oe : Obj) (fl : Array Value), h.get? a = some oe ∧ Zc cls d oe ∧ oe.data = .fields fl := by
  have z : ObjOk P w H h a (.ext fun h => ∃ (oe : Obj) (fl : Array Value), h.get? a = some oe ∧ Zc cls d oe ∧ oe.data = .fields fl) := ok a _ e
  exact z.1
section
variable {X : Cx} {pins : List (Addr × Obj)} {σ : L2.St} {H : Hp} {s : Shared} {a : Addr} {oe : Obj} {fl : Array Value} {cls : Value} {d : Option Addr}
/-- what was pinned is tracked from here on -/
theorem keepEx (I : Inv X ((a, oe) :: pins) σ H s) (z : Zc cls d oe) (f : oe.data = .fields fl) (n0 : X.s_0.heap.get? a = none) (np : ∀ p ∈ X.pn ++ pins, p.1 ≠ a) : Inv X pins σ (upd H a (ExK cls d a)) s := by
  obtain ⟨p1, p2, p3, p4, p5⟩ := I.pin (a, oe) (List.mem_append_right _ List.mem_cons_self)
  have off : ∀ {b : Addr} {o : Obj}, X.s_0.heap.get? b = some o → b ≠ a := fun {b o} q e => by
    rw [e, n0] at q
    cases q
  refine ⟨I.ok, I.os, I.bare, ⟨I.base.keep, I.base.slot, fun b o q n hx => ?_, I.base.there, fun b xs q => ?_, fun b o u q => ?_, fun b ps q => ?_⟩, I.loc, I.cell, ?_, fun x c q => ?_, fun p hp => ?_, fun b u q => ?_, I.len⟩
  · rw [upd_ne (off q)]
    exact I.base.free b o q n hx
  · have t := I.base.tups b xs q
    rw [upd_ne (ne_of_none t p2)]
    exact t
  · have t := I.base.frzs b o u q
    rw [upd_ne (ne_of_none t p2)]
    exact t
  · obtain ⟨more, t⟩ := I.base.tbls b ps q
    exact ⟨more, by rw [upd_ne (ne_of_none t p2)]; exact t⟩
  · rw [upd_ne (Ne.symm p3)]
    exact I.free
  · have ca : c ≠ a := fun e => by
      obtain ⟨v, o, ho, hd⟩ := I.cell x c q
      rw [e, p1] at ho
      cases ho
      exact p5 v hd
    rw [upd_ne ca]
    exact I.freeC x c q
  · obtain ⟨q1, q2, q3⟩ := I.pin p ((List.mem_append.mp hp).elim (fun y => List.mem_append_left _ y) fun y => List.mem_append_right _ (List.mem_cons_of_mem _ y))
    exact ⟨q1, by rw [upd_ne (np p hp)]; exact q2, q3⟩
  · by_cases hb : b = a
    · subst hb
      rw [upd_same] at q
      cases q
      exact exK_ok p1 z f
    · rw [upd_ne hb] at q
      refine (I.hok b u q).stay (fun c v _ y => y) (fun c y => ?_) fun c xs y => ?_
      · rw [upd_ne (ne_of_none y p2)]
        exact y
      · rw [upd_ne (ne_of_none y p2)]
        exact y
end
/-- what is wanted where the error is kept -/
def wKeep (K : PySem.W.Frag) (c : Value) (i : Nat) (ts : Addr → Value → Option Addr → TS) (Wo : WX) (D : Ends) : WX := fun cls d σ H =>
  ∃ b, PySem.W.exmOne K cls c = some b ∧ (b = true → ∀ a, H a = none → ts a cls d { nx := fun τ G => D.nx (τ.set i none) (upd G a (ExK cls d a)), rt := D.rt, bk := fun τ G => D.bk (τ.set i none) G, ct := fun τ G => D.ct (τ.set i none) G } (σ.set i (some (.ref a))) H) ∧
    (b = false → Wo cls d σ H)
section
variable {X : Cx} {x n : Str} {c : Value} {i : Nat} {body suite : List Stmt} {b0 : Stmt} {np pos pos' : Pos} {tb : WX → TS} {ts : Addr → Value → Option Addr → TS} {Wo : WX}
theorem ps_try_keep (hx : X.ex = []) (hs : X.stack = X.env :: X.outer) (hf : X.env.frame = some X.env.locals) (hN : X.N.Nodup) (hi : X.N[i]? = some n) (hln : X.env.kindOf n = some .local) (hc : Names X x c) (tk : Takes X Wo)
    (hb : ∀ (W : WX) (pn : List (Addr × Obj)) (xe : Value → Shared → Prop), Takes (X.tr pn xe) W → PassesOwn (model X.prog X.w) X.A X.env xe → PSs (X.tr pn xe) body (tb W))
    (hsu : ∀ (a : Addr) (oe : Obj) (cls : Value) (d : Option Addr) (pn : List (Addr × Obj)), Zc cls d oe → (∃ fl, oe.data = .fields fl) → PSs (X.suite a ((a, oe) :: pn)) (b0 :: suite) (ts a cls d)) :
    PS X (.Try body [.ExceptHandler (some (.Name x np)) (some n) (b0 :: suite) pos'] [] [] pos) (fun D σ H => tb (wKeep X.K c i ts Wo D) D σ H) := by
  refine ⟨fun pins s σ H D I want => ?_⟩
  have good := I.ok
  have fr : X.A.frames = some (X.env :: X.outer) := by rw [good.frames, hs]
  have nloc : Loc X.env.scope n := .inl hln
  refine wpAny_Try_except ?_
  refine wpAny_mono ((hb (wKeep X.K c i ts Wo D) (X.pn ++ pins) (fun er t => wpAny (model X.prog X.w) X.A (noteFrame er X.env) (fun _ t2 => wpAny (model X.prog X.w) X.A (setFlight er none) (fun _ t3 => wpAny (model X.prog X.w) X.A (handleBy er X.env [.ExceptHandler (some (.Name x np)) (some n) (b0 :: suite) pos']) (SP X pins D) X.xe t3) X.xe t2) X.xe t)
    (fun er t air => ?_) PassesOwn.looking).run [] s σ H D (I.toTry _) want) (fun how t end_ => ?_) (fun _ _ z => z)
  · obtain ⟨a, B, sI, pins2, τ, G, cls, d, rfl, K0, nb, up, sky, na, os, ag, b, told, yes, no⟩ := air
    have K1 : Inv X pins τ G sI := K0.ofTry good
    rw [show (X.tr (X.pn ++ pins) _).stack = X.env :: X.outer from hs] at sky
    show wpAny (model X.prog X.w) X.A (noteFrame (.ref a) X.env) _ _ _
    refine Sky.land Zc.steady fr hf sky fun h3 fl3 up3 => ?_
    have K3 : Inv X pins τ G { t with heap := h3 } := K1.landed nb fl3.1 (up.trans up3) os ag
    obtain ⟨o3, v3, e3, z3, d3⟩ := fl3.there
    have out : a ∉ frs (X.env :: X.outer) := fun hm => by
      obtain ⟨_, o', q, nf⟩ := fl3.2.2.1.mem hm
      rw [e3] at q
      cases q
      exact nf _ d3
    have offL : a ≠ X.env.locals := fun q => out (List.mem_filterMap.mpr ⟨X.env, List.mem_cons_self, by rw [hf, q]⟩)
    have offF : a ∉ X.fs := fun hm => by
      obtain ⟨e, he, q⟩ := List.mem_filterMap.mp hm
      exact out (List.mem_filterMap.mpr ⟨e, List.mem_cons_of_mem _ he, q⟩)
    -- the error is newer than all that stood
    have noB : B.get? a = none := fl3.2.1
    have n0 : X.s_0.heap.get? a = none := by
      cases q : X.s_0.heap.get? a with
      | none => rfl
      | some o =>
        obtain ⟨o', q'⟩ := K1.base.there a o q (by rw [hx]; exact fun y => nomatch y)
        have y := nb a o' q' (by rw [show (X.tr (X.pn ++ pins) _).stack = X.env :: X.outer from hs]; exact out)
        rw [noB] at y
        cases y
    have npin : ∀ p ∈ X.pn ++ pins, p.1 ≠ a := fun p hp q => by
      obtain ⟨q1, _, q3, q4, _⟩ := K1.pin p hp
      have y := nb p.1 p.2 q1 fun hm => (List.mem_cons.mp (K1.stkSub p.1 hm)).elim q3 q4
      rw [q, noB] at y
      cases y
    have S3 := K3.suite e3 d3 na offL offF
    refine wpAny_handleBy_cons (codeAny_handlers_test ?_) (by intro q; cases q)
    have LT : PySem.W.Looks (model X.prog X.w) h3 (typeOf (.ref a)) cls := fun A Q E s k q => wpAny_typeOf_ref (k _ _ e3) (by rw [z3.1]; exact q)
    have LM := PySem.W.exm_one (M := model X.prog X.w) (K3.kIn) LT told
    have test : ∀ {Q : Value → Shared → Prop} {E : Value → Shared → Prop}, Q c { t with heap := h3 } → wpAny (model X.prog X.w) (X.A.mark (some (.ref a))) (eval (.Name x np) X.env) Q E { t with heap := h3 } := fun {Q E} q => by
      obtain ⟨hg, hdb, hm | ⟨hm, hv, hnn⟩⟩ := hc
      · exact ld_glob (X := X.suite a ((a, o3) :: (X.pn ++ pins))) S3 hg hm q hdb
      · exact ld_blt (X := X.suite a ((a, o3) :: (X.pn ++ pins))) S3 hg hm hv q hnn hdb
    refine test (LM.here ?_)
    cases b with
    | true =>
      refine codeAny_handlers_suite_as ?_
      refine HandSPX.lands_againZ fl3 fun h4 fl4 up4 => ?_
      have K4 : Inv X pins τ G { t with heap := h4 } := K1.landed nb fl4.1 ((up.trans up3).trans up4) os ag
      obtain ⟨o4, v4, e4, z4, d4⟩ := fl4.there
      have S4 := K4.suite e4 d4 na offL offF
      refine store_ok (X := X.suite a ((a, o4) :: (X.pn ++ pins))) (v := .ref a) S4 hN hi nloc rfl (fun s5 S5 => ?_) (.inr hln)
      refine wpAny_mono ((hsu a o4 cls d (X.pn ++ pins) z4 ⟨_, d4⟩).run [] s5 _ G _ S5 (yes rfl a na)) (fun how s6 z6 => ?_) (fun _ _ z => False.elim z)
      have pass : ∀ {τ6 : L2.St} {G6 : Hp} {Q : Shared → Prop}, Inv (X.suite a ((a, o4) :: (X.pn ++ pins))) [] τ6 G6 s6 → (∀ s7, Inv X pins (τ6.set i none) G6 s7 → Q s7) →
          wpAny (model X.prog X.w) X.A (do bindName X.env n .none; unbindBehindTheSuite X.env n pos') (fun _ s7 => Q s7) X.xe s6 := fun {τ6 G6 Q} S6 hq => gone_ok (S6.unsuite good) hN hi hln hq
      cases how with
      | next =>
        obtain ⟨τ6, G6, S6, q6⟩ := z6
        have K6 : Inv X ((a, o4) :: pins) τ6 G6 s6 := ⟨good, S6.os, S6.bare, S6.base, S6.loc, S6.cell, S6.free, S6.freeC, fun p hp => S6.pin p (List.mem_append_left _ (by
          rcases List.mem_append.mp hp with y | y
          · exact List.mem_cons_of_mem _ (List.mem_append_left _ y)
          · rcases List.mem_cons.mp y with y | y
            · rw [y]
              exact List.mem_cons_self
            · exact List.mem_cons_of_mem _ (List.mem_append_right _ y))), S6.hok, S6.len⟩
        exact gone_ok K6 hN hi hln fun s7 K7 => ⟨_, _, keepEx K7 z4 d4 n0 npin, q6⟩
      | brk =>
        obtain ⟨τ6, G6, S6, q6⟩ := z6
        exact pass S6 fun s7 K7 => ⟨_, _, K7, q6⟩
      | cont =>
        obtain ⟨τ6, G6, S6, q6⟩ := z6
        exact pass S6 fun s7 K7 => ⟨_, _, K7, q6⟩
      | ret u =>
        obtain ⟨v6, τ6, G6, S6, r6, q6⟩ := z6
        exact pass S6 fun s7 K7 => ⟨_, _, _, K7, r6, q6⟩
    | false =>
      show wpAny _ X.A (handleBy (.ref a) X.env []) _ _ _
      refine wpAny_handleBy_nil ?_
      obtain ⟨k1, k2, k3, oe, vs, T0, oT, tsl, he, hz, hd, h1, hr⟩ := id fl3
      unfold PySem.passOn
      refine wpAny_bind (wpAny_field he hd h1 ?_)
      rw [if_neg (show ¬ ((Value.ref T0 == Value.none) = true) from by simp)]
      have last : wpAny (model X.prog X.w) X.A (setFlight (.ref a) X.env.frame) (fun _ s4 => wpAny (model X.prog X.w) X.A (throw (.ref a) : Sem Flow) (SP X pins D) X.xe s4) X.xe { t with heap := h3 } := by
        rw [hf]
        refine HandSPX.setFlight_upZ fl3 fun h4 held up4 => wpAny_throw (tk _ _ ?_)
        exact ⟨a, B, sI, pins, τ, G, cls, d, rfl, K1, nb, (up.trans up3).trans up4, .inr (.inr (by rw [hs]; exact held)), na, os, ag, no rfl⟩
      first
        | exact wpAny_bind (wpAny_pure (wpAny_bind last))
        | exact wpAny_bind last
  · cases how with
    | next =>
      obtain ⟨τ, G, K0, q⟩ := end_
      exact wpAny_execs_nil ⟨τ, G, K0.ofTry good, q⟩
    | brk =>
      obtain ⟨τ, G, K0, q⟩ := end_
      exact ⟨τ, G, K0.ofTry good, q⟩
    | cont =>
      obtain ⟨τ, G, K0, q⟩ := end_
      exact ⟨τ, G, K0.ofTry good, q⟩
    | ret u =>
      obtain ⟨v, τ, G, K0, r, q⟩ := end_
      exact ⟨v, τ, G, K0.ofTry good, r, q⟩
end
/-! ### the kept error, looked at -/
section
variable {X : Cx} {e : Expr} {te : TE} {pos : Pos}
/-- the error at a, of the class at C, its value v -/
def Held (H : Hp) (a C : Addr) (v : V) : Prop := ∃ dd : Addr, H a = some (ExK (.ref C) (some dd) a) ∧ H dd = some (.xd [("value", v)])
theorem Held.same {H H' : Hp} {a C : Addr} {v : V} (e : Same H H') (h : Held H a C v) : Held H' a C v := by
  obtain ⟨dd, h1, h2⟩ := h
  exact ⟨dd, e _ _ h1, e _ _ h2⟩
theorem held_inst {pins : List (Addr × Obj)} {s : Shared} {σ : L2.St} {H : Hp} {a C : Addr} {v : V} (I : Inv X pins σ H s) (h : Held H a C v) :
    ∃ (oe od : Obj) (mA : Str → Option Value), PySem.W.InstAt s.heap a oe C (some od) ∧ (∀ f, PySem.W.lookIn f od = some (mA f)) ∧ ∀ f, RelO (List.lookup f [(("value" : Str), v)]) (mA f) := by
  obtain ⟨dd, h1, h2⟩ := h
  obtain ⟨oe, fl, p1, hz, hd⟩ := exK_at I.hok h1
  obtain ⟨mA, hns, rel⟩ := (show ObjOk X.prog X.w H s.heap dd (.xd [("value", v)]) from I.hok dd _ h2)
  obtain ⟨od, ho, hl⟩ := lookIn_ns hns
  exact ⟨oe, od, mA, ⟨p1, hz.1, by unfold PySem.W.notCls; rw [hd] <;> rfl, by rw [hz.2]; exact ho⟩, hl, rel⟩
/-- isinstance(kept, c) -/
def rIsK (K : PySem.W.Frag) : List V → Hp → VK → Prop := fun xs H Q => ∃ (a C : Addr) (v c : V) (cv : Value) (b : Bool), xs = [.ref a, c] ∧ Held H a C v ∧ ErrI K C ∧ ClsV c cv ∧ PySem.W.kitOne K (.ref C) cv = some b ∧ Q (.bl b) H
theorem call_isK : CallR X (.builtin "isinstance") (rIsK X.K) := by
  intro pins s σ H xs us Q I r h
  obtain ⟨a, C, v, c, cv, b, rfl, hh, T, k, e, q⟩ := h
  obtain ⟨u1, u2, rfl, r1, r2⟩ := vals2 r
  have e2 := k.eq r2
  subst e2
  obtain rfl : u1 = Value.ref a := r1
  obtain ⟨oe, od, mA, J, _, _⟩ := held_inst I hh
  exact PySem.W.kia_one (PySem.W.kitx_exc T.cl T.ga T.gg T.be T.cc T.gt T.tk T.ob) I.kIn J e (fun z => nomatch z) fun tk => ⟨.bl b, H, I.tok tk, rfl, q⟩
/-- isinstance(kept, (c1, c2, ..)) -/
def rIsKT (K : PySem.W.Frag) : List V → Hp → VK → Prop := fun xs H Q => ∃ (a C : Addr) (v : V) (tp : Addr) (cs : List V) (us : List Value) (b : Bool), xs = [.ref a, .ref tp] ∧ Held H a C v ∧ ErrI K C ∧ H tp = some (.tup cs) ∧ Paired ClsV cs us ∧
  PySem.W.kitAny K (.ref C) us = some b ∧ Q (.bl b) H
theorem call_isKT : CallR X (.builtin "isinstance") (rIsKT X.K) := by
  intro pins s σ H xs us Q I r h
  obtain ⟨a, C, v, tp, cs, ws, b, rfl, hh, T, hT, k, e, q⟩ := h
  obtain ⟨u1, u2, rfl, r1, r2⟩ := vals2 r
  obtain rfl : u1 = Value.ref a := r1
  obtain rfl : u2 = Value.ref tp := r2
  obtain ⟨oe, od, mA, J, _, _⟩ := held_inst I hh
  obtain ⟨_, its, rv, o, g1, g2, n, g3⟩ := (show ObjOk X.prog X.w H s.heap tp (.tup cs) from I.hok tp _ hT)
  have e3 := ClsV.all k rv
  subst e3
  obtain ⟨oc, o2, dt, sl⟩ := o
  simp only at g2 g3
  subst g2 g3
  exact PySem.W.kia_tup (PySem.W.kitx_exc T.cl T.ga T.gg T.be T.cc T.gt T.tk T.ob) I.kIn J g1 e (fun z => nomatch z) fun tk => ⟨.bl b, H, I.tok tk, rfl, q⟩
/-- kept.value -/
def tXk (K : PySem.W.Frag) (te : TE) : TE := fun σ H Q => te σ H fun x H1 => ∃ (a C : Addr) (v : V), x = .ref a ∧ ErrI K C ∧ Held H1 a C v ∧ Q v H1
theorem pe_xk (he : PE X e te) (hb : attributeBase e "value" X.env (eval e X.env) = eval e X.env := by rfl) : PE X (.Attribute e "value" pos) (tXk X.K te) := by
  refine ⟨fun pins s σ H Q I h => ?_⟩
  refine attr_of hb (thn (he.run pins s σ H _ I h) fun u s1 hh => ?_)
  obtain ⟨x, H1, I1, rx, a, C, v, rfl, T, hd, q⟩ := hh
  obtain rfl : u = Value.ref a := rx
  obtain ⟨oe, od, mA, J, hl, rel⟩ := held_inst I1 hd
  obtain ⟨u, hu, ru⟩ := RelO.some_of (v := v) (o := mA "value") (by
    have z := rel "value"
    rw [show List.lookup ("value" : Str) [(("value" : Str), v)] = some v by simp [List.lookup]] at z
    exact z)
  exact HandSPX.exc_get I1.kIn J T.ga T.gg T.be (PySem.W.findObj_own T.hd T.no rfl (by rw [hl, hu])) (handed_of ru) ⟨v, H1, I1.tok _, ru, q⟩
end
end Gc

/-! list.count of plain values -/
namespace L2
open PySem PySem.Spec PyProof.Rows
section
variable {X : Cx}
def rCntF (K : PySem.W.Frag) : V → List V → Hp → VK → Prop := fun x xs H Q => ∃ (p : Addr) (ys : List V) (y : V), x = .ref p ∧ xs = [y] ∧ SqL K H p ys ∧ flatV y = true ∧ ys.all flatV = true ∧ Q (.int (ys.countP (fun z => eqV z y) : Nat)) H
theorem count_valsF {y : V} : ∀ {ys : List V} {us : List Value}, ys.all flatV = true → Vals ys us → us.countP (eqU y) = ys.countP (fun z => eqV z y)
  | [], _, _, h => by
    cases h
    rfl
  | a :: ys, _, f, h => by
    rw [List.all_cons, Bool.and_eq_true] at f
    cases h with
    | cons r t => rw [List.countP_cons, List.countP_cons, count_valsF f.2 t, eqU_of r f.1]
theorem mt_countF : MtR X "list.count" (rCntF X.K) := by
  intro pins s σ H x xs v us Q I rx rxs h
  obtain ⟨p, ys, y, rfl, rfl, hs, fy, fys, q⟩ := h
  cases rx
  cases rxs with
  | cons ry rt =>
    rename_i uy ut
    cases rt
    obtain ⟨its, rv, ⟨⟨cls, dd, data, sl⟩, n, ho, hc, hdn, hd⟩, hlen⟩ := I.list hs
    simp only at hc hd
    subst hc hd
    refine call_meets PySem.F.slot_list_count ⟨_, ho, rfl⟩ PySem.F.entry_list_count (PySem.F.args_list_count_2 _ _)
      (SeqAt.list_countAt p its.toArray n dd sl uy (eqU y)) ⟨ho, fun u hu => mem_eqAt ry fy rv fys u (by simpa using hu), ?_⟩
    have ec : its.toArray.toList.countP (eqU y) = ys.countP (fun z => eqV z y) := count_valsF fys rv
    refine ⟨.int (ys.countP (fun z => eqV z y) : Nat), H, I.tok _, ⟨s.toks, ?_⟩, q⟩
    show Value.int ((its.toArray.toList.countP (eqU y) : Nat) : Int) s.toks = _
    rw [ec]
end
end L2

/-! the word of a held error -/
namespace Gc
open PySem L2
abbrev s_kind : Stmt := top 42
def kindW : Nat → Str
  | 0 => "text"
  | 1 => "cursor"
  | 2 => "command"
  | 3 => "impossible"
  | 4 => "number"
  | 5 => "undo"
  | _ => "read"
def spKindK (K : PySem.W.Frag) (cs : Nat → Addr) (R : Nat → Prop) : Sp := fun vs H Q _ => ∃ (a : Addr) (i : Nat) (v : V), vs = [.ref a] ∧ R i ∧ Held H a (cs i) v ∧ ∀ H', Same H H' → Q (.str (kindW i)) H'
def oneI (i : Nat) : List V := [.bl (decide (i = 0)), .bl (decide (i = 1)), .bl (decide (i = 2)), .bl (decide (i = 3)), .bl (decide (i = 4)), .bl (decide (i = 5)), .bl (decide (i = 6))]
theorem one_cnt {i : Nat} (h : i < 7) : (oneI i).countP (fun z => eqV z (.bl true)) = 1 := by
  match i, h with
  | 0, _ => rfl
  | 1, _ => rfl
  | 2, _ => rfl
  | 3, _ => rfl
  | 4, _ => rfl
  | 5, _ => rfl
  | 6, _ => rfl
theorem one_idx {i : Nat} (h : i < 7) : (oneI i)[i]? = some (.bl true) ∧ ∀ (m : Nat) (z : V), m < i → (oneI i)[m]? = some z → eqV z (.bl true) = false := by
  have key : ∀ i : Fin 7, (oneI i.val)[i.val]? = some (.bl true) ∧ ∀ m : Fin 7, m < i → ∃ z, (oneI i.val)[m.val]? = some z ∧ eqV z (.bl true) = false := by
    intro i
    match i with
    | 0 => exact ⟨rfl, fun m hm => absurd hm (by omega)⟩
    | 1 => exact ⟨rfl, fun m hm => by match m, hm with | 0, _ => exact ⟨_, rfl, rfl⟩⟩
    | 2 => exact ⟨rfl, fun m hm => by match m, hm with | 0, _ => exact ⟨_, rfl, rfl⟩ | 1, _ => exact ⟨_, rfl, rfl⟩⟩
    | 3 => exact ⟨rfl, fun m hm => by match m, hm with | 0, _ => exact ⟨_, rfl, rfl⟩ | 1, _ => exact ⟨_, rfl, rfl⟩ | 2, _ => exact ⟨_, rfl, rfl⟩⟩
    | 4 => exact ⟨rfl, fun m hm => by match m, hm with | 0, _ => exact ⟨_, rfl, rfl⟩ | 1, _ => exact ⟨_, rfl, rfl⟩ | 2, _ => exact ⟨_, rfl, rfl⟩ | 3, _ => exact ⟨_, rfl, rfl⟩⟩
    | 5 => exact ⟨rfl, fun m hm => by match m, hm with | 0, _ => exact ⟨_, rfl, rfl⟩ | 1, _ => exact ⟨_, rfl, rfl⟩ | 2, _ => exact ⟨_, rfl, rfl⟩ | 3, _ => exact ⟨_, rfl, rfl⟩ | 4, _ => exact ⟨_, rfl, rfl⟩⟩
    | 6 => exact ⟨rfl, fun m hm => by match m, hm with | 0, _ => exact ⟨_, rfl, rfl⟩ | 1, _ => exact ⟨_, rfl, rfl⟩ | 2, _ => exact ⟨_, rfl, rfl⟩ | 3, _ => exact ⟨_, rfl, rfl⟩ | 4, _ => exact ⟨_, rfl, rfl⟩ | 5, _ => exact ⟨_, rfl, rfl⟩⟩
  obtain ⟨k1, k2⟩ := key ⟨i, h⟩
  refine ⟨k1, fun m z hm hz => ?_⟩
  obtain ⟨z', h1, h2⟩ := k2 ⟨m, by omega⟩ hm
  have : some z = some z' := hz.symm.trans h1
  rw [Option.some.inj this]
  exact h2
section
variable {P : Program} {w : World} {K : PySem.W.Frag} {mg : Str → Option Value} {base : Heap} {cs : Nat → Addr} {CE : Addr} {R : Nat → Prop}
theorem sc_law_kind : FnScope ["caught", "some"] ["caught"] (defScope s_kind) := ⟨rfl, rfl, rfl, by decide +kernel, rfl, by decide +kernel, by decide +kernel⟩
theorem ok_kindK {f : Addr} {fd : FuncData} (F : Fun K "_law_kind" "_law_kind" s_kind f fd) (T : TxtE K mg cs CE R) : FnOk P w K mg base CX0 1 f fd ["caught"] (spKindK K cs R) := by
  refine F.ok sc_law_kind (fun vs H Q E h => ?_) (fun cdv A outer s H vs Q E hr h => ?_)
  · obtain ⟨a, i, v, rfl, _⟩ := h
    rfl
  · obtain ⟨a, i, v, rfl, hi, hd, k⟩ := h
    refine ⟨_, (pss_cons (ps_set (i := 1) sc_law_kind.nd rfl (Or.inl rfl) (pe_lst (pa_cons (pe_callB call_isK (by rfl) T.isinstance (by decide +kernel) (pa_cons (pv 0) (pa_cons (pe_glob (v := .ref (cs 0)) (by rfl) T.g0 rfl) pa_nil))) (pa_cons (pe_callB call_isK (by rfl) T.isinstance (by decide +kernel) (pa_cons (pv 0) (pa_cons (pe_glob (v := .ref (cs 1)) (by rfl) T.g1 rfl) pa_nil))) (pa_cons (pe_callB call_isK (by rfl) T.isinstance (by decide +kernel) (pa_cons (pv 0) (pa_cons (pe_glob (v := .ref (cs 2)) (by rfl) T.g2 rfl) pa_nil))) pa_nil)))))
      (pss_cons (ps_set (i := 1) sc_law_kind.nd rfl (Or.inl rfl) (pe_op op_cat (pv 1) (pe_lst (pa_cons (pe_callB call_isK (by rfl) T.isinstance (by decide +kernel) (pa_cons (pv 0) (pa_cons (pe_glob (v := .ref (cs 3)) (by rfl) T.g3 rfl) pa_nil))) (pa_cons (pe_callB call_isK (by rfl) T.isinstance (by decide +kernel) (pa_cons (pv 0) (pa_cons (pe_glob (v := .ref (cs 4)) (by rfl) T.g4 rfl) pa_nil))) pa_nil)))))
      (pss_cons (ps_set (i := 1) sc_law_kind.nd rfl (Or.inl rfl) (pe_op op_cat (pv 1) (pe_lst (pa_cons (pe_callB call_isK (by rfl) T.isinstance (by decide +kernel) (pa_cons (pv 0) (pa_cons (pe_glob (v := .ref (cs 5)) (by rfl) T.g5 rfl) pa_nil))) (pa_cons (pe_callB call_isK (by rfl) T.isinstance (by decide +kernel) (pa_cons (pv 0) (pa_cons (pe_glob (v := .ref (cs 6)) (by rfl) T.g6 rfl) pa_nil))) pa_nil)))))
      (pss_cons (ps_if (PW.pt (pw_or (pt_not (pt_val (pe_callB call_isK (by rfl) T.isinstance (by decide +kernel) (pa_cons (pv 0) (pa_cons (pe_glob (v := .ref CE) (by rfl) T.gE rfl) pa_nil))))) (pw_or (pt_not (pt_val (pe_callB call_isK (by rfl) T.isinstance (by decide +kernel) (pa_cons (pv 0) (pa_cons (pe_bltn (v := .ty "ValueError") (u := .type "ValueError") (by rfl) T.ValueError (by decide +kernel) rfl) pa_nil))))) (pw_or1 (pt_cmpR op_ne (pe_bm PySem.F.plainAttrs_list PySem.F.slot_list_count PySem.F.type_list_count mt_countF (pv 1) (pa_cons pe_bl pa_nil)) pe_int (nomark _)))))) (pss_one (ps_ret pe_str)) pss_nil)
      (pss_one (ps_ret (pe_ix ix_list (pe_lst (pa_cons pe_str (pa_cons pe_str (pa_cons pe_str (pa_cons pe_str (pa_cons pe_str (pa_cons pe_str (pa_cons pe_str pa_nil)))))))) (pe_bm PySem.F.plainAttrs_list PySem.F.slot_list_index PySem.F.type_list_index mt_index (pv 1) (pa_cons pe_bl pa_nil)) (fun _ _ => rfl)))))))), ?_⟩
    have ei := T.ei i hi
    have i7 := T.lt i hi
    refine ⟨_, rfl, a, cs i, v, _, _, _, rfl, hd, ei, .own _, T.kit i 0 hi (by decide), ?_⟩
    refine ⟨_, rfl, a, cs i, v, _, _, _, rfl, hd, ei, .own _, T.kit i 1 hi (by decide), ?_⟩
    refine ⟨_, rfl, a, cs i, v, _, _, _, rfl, hd, ei, .own _, T.kit i 2 hi (by decide), ?_⟩
    refine ⟨(by show 3 ≤ sizeLine; decide), fun p1 n1 => ?_⟩
    have e_H1 : Same H (upd H p1 (.lst [V.bl (decide (i = 0)), .bl (decide (i = 1)), .bl (decide (i = 2))])) := new_same n1
    have h_p1 : (upd H p1 (.lst [V.bl (decide (i = 0)), .bl (decide (i = 1)), .bl (decide (i = 2))])) p1 = some (.lst [V.bl (decide (i = 0)), .bl (decide (i = 1)), .bl (decide (i = 2))]) := upd_same
    generalize upd H p1 (.lst [V.bl (decide (i = 0)), .bl (decide (i = 1)), .bl (decide (i = 2))]) = H1 at e_H1 h_p1 ⊢
    replace hd := hd.same e_H1
    refine ⟨_, rfl, _, rfl, a, cs i, v, _, _, _, rfl, hd, ei, .own _, T.kit i 3 hi (by decide), ?_⟩
    refine ⟨_, rfl, a, cs i, v, _, _, _, rfl, hd, ei, .own _, T.kit i 4 hi (by decide), ?_⟩
    refine ⟨(by show 2 ≤ sizeLine; decide), fun p2 n2 => ?_⟩
    have e_H2 : Same H1 (upd H1 p2 (.lst [V.bl (decide (i = 3)), .bl (decide (i = 4))])) := new_same n2
    have h_p2 : (upd H1 p2 (.lst [V.bl (decide (i = 3)), .bl (decide (i = 4))])) p2 = some (.lst [V.bl (decide (i = 3)), .bl (decide (i = 4))]) := upd_same
    generalize upd H1 p2 (.lst [V.bl (decide (i = 3)), .bl (decide (i = 4))]) = H2 at e_H2 h_p2 ⊢
    replace h_p1 := e_H2 _ _ h_p1
    replace hd := hd.same e_H2
    refine ⟨p1, p2, _, _, rfl, rfl, h_p1, h_p2, by show 3 + 2 ≤ sizeLine; decide, fun p3 n3 => ?_⟩
    have e_H3 : Same H2 (upd H2 p3 (.lst ([V.bl (decide (i = 0)), .bl (decide (i = 1)), .bl (decide (i = 2))] ++ [V.bl (decide (i = 3)), .bl (decide (i = 4))]))) := new_same n3
    have h_p3 : (upd H2 p3 (.lst ([V.bl (decide (i = 0)), .bl (decide (i = 1)), .bl (decide (i = 2))] ++ [V.bl (decide (i = 3)), .bl (decide (i = 4))]))) p3 = some (.lst ([V.bl (decide (i = 0)), .bl (decide (i = 1)), .bl (decide (i = 2))] ++ [V.bl (decide (i = 3)), .bl (decide (i = 4))])) := upd_same
    generalize upd H2 p3 (.lst ([V.bl (decide (i = 0)), .bl (decide (i = 1)), .bl (decide (i = 2))] ++ [V.bl (decide (i = 3)), .bl (decide (i = 4))])) = H3 at e_H3 h_p3 ⊢
    replace hd := hd.same e_H3
    refine ⟨_, rfl, _, rfl, a, cs i, v, _, _, _, rfl, hd, ei, .own _, T.kit i 5 hi (by decide), ?_⟩
    refine ⟨_, rfl, a, cs i, v, _, _, _, rfl, hd, ei, .own _, T.kit i 6 hi (by decide), ?_⟩
    refine ⟨(by show 2 ≤ sizeLine; decide), fun p4 n4 => ?_⟩
    have e_H4 : Same H3 (upd H3 p4 (.lst [V.bl (decide (i = 5)), .bl (decide (i = 6))])) := new_same n4
    have h_p4 : (upd H3 p4 (.lst [V.bl (decide (i = 5)), .bl (decide (i = 6))])) p4 = some (.lst [V.bl (decide (i = 5)), .bl (decide (i = 6))]) := upd_same
    generalize upd H3 p4 (.lst [V.bl (decide (i = 5)), .bl (decide (i = 6))]) = H4 at e_H4 h_p4 ⊢
    replace h_p3 := e_H4 _ _ h_p3
    replace hd := hd.same e_H4
    refine ⟨p3, p4, _, _, rfl, rfl, h_p3, h_p4, by show 5 + 2 ≤ sizeLine; decide, fun p5 n5 => ?_⟩
    have e_H5 : Same H4 (upd H4 p5 (.lst ([V.bl (decide (i = 0)), .bl (decide (i = 1)), .bl (decide (i = 2))] ++ [V.bl (decide (i = 3)), .bl (decide (i = 4))] ++ [V.bl (decide (i = 5)), .bl (decide (i = 6))]))) := new_same n5
    have h_p5 : (upd H4 p5 (.lst ([V.bl (decide (i = 0)), .bl (decide (i = 1)), .bl (decide (i = 2))] ++ [V.bl (decide (i = 3)), .bl (decide (i = 4))] ++ [V.bl (decide (i = 5)), .bl (decide (i = 6))]))) p5 = some (.lst ([V.bl (decide (i = 0)), .bl (decide (i = 1)), .bl (decide (i = 2))] ++ [V.bl (decide (i = 3)), .bl (decide (i = 4))] ++ [V.bl (decide (i = 5)), .bl (decide (i = 6))])) := upd_same
    generalize upd H4 p5 (.lst ([V.bl (decide (i = 0)), .bl (decide (i = 1)), .bl (decide (i = 2))] ++ [V.bl (decide (i = 3)), .bl (decide (i = 4))] ++ [V.bl (decide (i = 5)), .bl (decide (i = 6))])) = H5 at e_H5 h_p5 ⊢
    replace hd := hd.same e_H5
    have h5 : H5 p5 = some (.lst (oneI i)) := h_p5
    -- of CursorError, a ValueError, of one class alone
    refine ⟨_, rfl, a, cs i, v, _, _, _, rfl, hd, ei, .own _, T.kce i hi, ?_⟩
    refine ⟨_, rfl, iteF ?_⟩
    refine ⟨_, rfl, a, cs i, v, _, _, _, rfl, hd, ei, .ty _, T.kve i hi, ?_⟩
    refine ⟨_, rfl, iteF ?_⟩
    refine ⟨_, rfl, .inl ⟨rfl, _, SqL.of h5⟩, p5, oneI i, .bl true, rfl, rfl, SqL.of h5, rfl, rfl, ?_⟩
    rw [one_cnt i7]
    refine ⟨rfl, _, rfl, iteF ?_⟩
    refine ⟨(by show 7 ≤ sizeLine; decide), fun p6 n6 => ?_⟩
    have e6 := new_same (o := HO.lst [V.str "text", .str "cursor", .str "command", .str "impossible", .str "number", .str "undo", .str "read"]) n6
    refine ⟨_, rfl, .inl ⟨rfl, _, SqL.of (e6 _ _ h5)⟩, p5, oneI i, .bl true, i, .bl true, rfl, rfl, SqL.of (e6 _ _ h5), rfl, rfl, (one_idx i7).1, rfl, (one_idx i7).2, ?_⟩
    have key : [V.str "text", .str "cursor", .str "command", .str "impossible", .str "number", .str "undo", .str "read"][i]? = some (.str (kindW i)) := by
      match i, i7 with
      | 0, _ => rfl
      | 1, _ => rfl
      | 2, _ => rfl
      | 3, _ => rfl
      | 4, _ => rfl
      | 5, _ => rfl
      | 6, _ => rfl
    exact ⟨p6, _, _, .str (kindW i), rfl, rfl, SqL.of upd_same, at_of rfl key, k _ (((((e_H1.trans e_H2).trans e_H3).trans e_H4).trans e_H5).trans e6)⟩
end
end Gc

/-! the P family's wrong texts -/
namespace Gc
open PySem L2
abbrev s_bad_lines : Stmt := top 44
structure TxtBL (mg : Str → Option Value) : Prop where
  range : mg "range" = none
  len : mg "len" = none
  list : mg "list" = none
  enumerate : mg "enumerate" = none
/-- a wrong text with the value of its error -/
def BadT (T : List Int) (v : V) : Prop := T = [] ∧ v = .non ∨ T ≠ [] ∧ ∃ i : Nat, negAt T = some i ∧ v = .int i
def spBadL (K : PySem.W.Frag) : Sp := fun vs H Q _ => ∃ (a l : Addr) (n : Nat) (T : List Int), vs = [.ref a, .ref l] ∧ Rng H a n ∧ n < 2 ^ 37 ∧ H l = some (.lst (T.map V.int)) ∧ l ≠ a ∧ 1 ≤ T.length ∧ T.length ≤ 60 ∧ (∀ x ∈ T, x.natAbs ≤ 10 ^ 30) ∧
  ∀ (H' : Hp) (p q : Addr) (T' : List Int) (v : V), Keep a a H H' → Rng H' a (n + 20) → H' p = some (.lst [.ref q, v]) → q ≠ a → H q = none → H' q = some (.lst (T'.map V.int)) → (∀ x ∈ T', x.natAbs ≤ 10 ^ 30) → T'.length ≤ 60 → BadT T' v → Q (.ref p) H'
section
variable {P : Program} {w : World} {K : PySem.W.Frag} {mg : Str → Option Value} {base : Heap}
theorem sc_law_bad_lines : FnScope ["pool", "lengths", "found", "turn", "at", "one"] ["pool", "lengths"] (defScope s_bad_lines) := ⟨rfl, rfl, rfl, by decide +kernel, rfl, by decide +kernel, by decide +kernel⟩
theorem ok_badL {f : Addr} {fd : FuncData} (F : Fun K "_law_bad_lines" "_law_bad_lines" s_bad_lines f fd) (T : TxtBL mg) (c_law_draw : Cal P w K mg base 1 "_law_draw" spDraw) : FnOk P w K mg base CX0 2 f fd ["pool", "lengths"] (spBadL K) := by
  refine F.ok sc_law_bad_lines (fun vs H Q E h => ?_) (fun cdv A outer s H vs Q E hr h => ?_)
  · obtain ⟨a, l, n, tx, rfl, _⟩ := h
    rfl
  · obtain ⟨a, l, n, tx, rfl, rg, hn, hl, la, t1, t2, tb, k⟩ := h
    refine ⟨_, (pss_cons (ps_if (pt_cmpR op_eq (pe_cal c_law_draw hr (by decide) (by rfl) (pa_cons (pv 0) (pa_cons pe_int pa_nil))) pe_int (nomark _)) (pss_one (ps_ret (pe_lst (pa_cons (pe_lst pa_nil) (pa_cons pe_non pa_nil))))) pss_nil)
      (pss_cons (ps_set (i := 2) sc_law_bad_lines.nd rfl (Or.inl rfl) (pe_callTy call_list_of (by rfl) T.list (by decide +kernel) (pa_cons (pv 1) pa_nil)))
      (pss_cons (ps_for PassesOwn.never rfl (pi_range1 rfl T.range (pa_cons (pe_op op_add pe_int (pe_cal c_law_draw hr (by decide) (by rfl) (pa_cons (pv 0) (pa_cons pe_int pa_nil)))) pa_nil)) (pg_name (i := 3) sc_law_bad_lines.nd rfl (Or.inl rfl)) (pss_one (ps_asg (pe_op op_sub (pe_un un_neg pe_int) (pe_ix ix_list (pe_lst (pa_cons pe_int (pa_cons (pe_cal c_law_draw hr (by decide) (by rfl) (pa_cons (pv 0) (pa_cons (pe_op op_pow pe_int pe_int) pa_nil))) pa_nil))) (pe_cal c_law_draw hr (by decide) (by rfl) (pa_cons (pv 0) (pa_cons pe_int pa_nil))) (fun _ _ => rfl))) (pg_sub (pv 2) (pe_cal c_law_draw hr (by decide) (by rfl) (pa_cons (pv 0) (pa_cons (pe_callB call_len_seq (by rfl) T.len (by decide +kernel) (pa_cons (pv 2) pa_nil)) pa_nil))) set_list))))
      (pss_one (ps_ret (pe_lst (pa_cons (pv 2) (pa_cons (pe_ix ix_list (pe_lc (own := [("at", 4), ("one", 5)]) rfl sc_law_bad_lines.nd (pi_enum (by rfl) T.enumerate (pa_cons (pv 2) pa_nil)) (blkOk_by (N := ["pool", "lengths", "found", "turn", "at", "one"]) (sc := defScope s_bad_lines) (by decide +kernel)) (fun _ _ _ _ _ => (show PG _ _ (gTup K 2 _) from pg_tup rfl (pgs_cons (pg_name (i := 4) sc_law_bad_lines.nd rfl (Or.inl rfl)) (pgs_cons (pg_name (i := 5) sc_law_bad_lines.nd rfl (Or.inl rfl)) pgs_nil)))) (fun _ _ _ _ _ => (pts_one (pt_cmpR op_lt (pv 5) pe_int (nomark _)))) (fun _ _ _ _ _ => (pv 4))) pe_int (fun _ _ => rfl)) pa_nil)))))))), ?_⟩
    have k0 : Keep a a H H := Keep.refl H
    refine ⟨_, rfl, a, _, 4, rfl, rg, by omega, by decide, by decide, fun H1 d1 kp1 rg1 d10 d11 => ?_⟩
    replace hl := kp1 _ _ la la hl
    replace k0 := k0.trans kp1
    refine ⟨rfl, _, rfl, ite2 (fun c => ?_) (fun c => ?_)⟩
    · refine ⟨(by show 0 ≤ sizeLine; decide), fun q nq => ?_⟩
      have qa := rg1.off nq
      have e_H2 : Same H1 (upd H1 q (.lst [])) := new_same nq
      have h_q : (upd H1 q (.lst [])) q = some (.lst []) := upd_same
      generalize upd H1 q (.lst []) = H2 at e_H2 h_q ⊢
      replace rg1 := rg1.same e_H2
      replace k0 := k0.same1 e_H2
      refine ⟨(by show 2 ≤ sizeLine; decide), fun p np => ?_⟩
      exact k _ p q [] .non (k0.same1 (new_same np)) ((rg1.same (new_same np)).more (by omega)) upd_same qa (kp1.freeK qa nq) (new_same np _ _ h_q) (fun x hx => nomatch hx) (by decide) (.inl ⟨rfl, rfl⟩)
    · refine ⟨_, rfl, l, _, rfl, .inl (SqL.of hl), fun q nq => ?_⟩
      have qa := rg1.off nq
      have k1 : Keep a a H1 H1 := Keep.refl H1
      have e_H2 : Same H1 (upd H1 q (.lst (tx.map V.int))) := new_same nq
      have h_q : (upd H1 q (.lst (tx.map V.int))) q = some (.lst (tx.map V.int)) := upd_same
      generalize upd H1 q (.lst (tx.map V.int)) = H2 at e_H2 h_q ⊢
      replace rg1 := rg1.same e_H2
      replace k1 := k1.same1 e_H2
      refine ⟨_, rfl, a, _, 2, rfl, rg1, by omega, by decide, by decide, fun H3 d kp3 rg3 d0 d1 => ⟨_, _, rfl, rfl, _, rfl, by omega, by omega, for_range (lo := 0) (n := (1 + d).toNat) (fun i σ H' => ∃ (v3 : Option V) (ty : List Int), σ = [some (.ref a), some (.ref l), some (.ref q), v3, none, none] ∧ Keep a a H1 H' ∧ Rng H' a (n + 2 + 3 * i) ∧ H' q = some (.lst (ty.map V.int)) ∧ ty.length = tx.length ∧ (∀ x ∈ ty, x.natAbs ≤ 10 ^ 30) ∧ (1 ≤ i → ∃ x ∈ ty, x < 0)) ?_ (fun i σ H4 hi h => ?_) (fun σ H4 h => ?_)⟩⟩
      · exact ⟨none, tx, rfl, k1.trans kp3, rg3, kp3 _ _ qa qa h_q, rfl, tb, fun z => absurd z (by decide)⟩
      · obtain ⟨v3, ty, rfl, kk, rg4, hq, ly, by', ng⟩ := h
        refine ⟨_, rfl, ?_⟩
        refine ⟨_, rfl, _, _, rfl, rfl, cpow (by decide), a, _, _, rfl, rg4, by omega, by decide, by decide, fun H5 d5 kp5 rg5 d50 d51 => ?_⟩
        replace hq := kp5 _ _ qa qa hq
        replace kk := kk.trans kp5
        refine ⟨(by show 2 ≤ sizeLine; decide), fun t nt => ?_⟩
        have ta := rg5.off nt
        have e_H6 : Same H5 (upd H5 t (.lst [V.int 0, .int d5])) := new_same nt
        have h_t : (upd H5 t (.lst [V.int 0, .int d5])) t = some (.lst [V.int 0, .int d5]) := upd_same
        generalize upd H5 t (.lst [V.int 0, .int d5]) = H6 at e_H6 h_t ⊢
        replace rg5 := rg5.same e_H6
        replace hq := e_H6 _ _ hq
        replace kk := kk.same1 e_H6
        refine ⟨_, rfl, a, _, 2, rfl, rg5, by omega, by decide, by decide, fun H7 d7 kp7 rg7 d70 d71 => ?_⟩
        replace hq := kp7 _ _ qa qa hq
        replace h_t := kp7 _ _ ta ta h_t
        replace kk := kk.trans kp7
        obtain ⟨z, hz, z0, z1⟩ : ∃ z : Int, atI [V.int 0, .int d5] d7 = some (.int z) ∧ 0 ≤ z ∧ z < 10 ^ 29 := by
          rcases (show d7 = 0 ∨ d7 = 1 by omega) with rfl | rfl
          · exact ⟨_, rfl, by decide, by decide⟩
          · exact ⟨_, rfl, d50, d51⟩
        refine ⟨t, _, _, _, rfl, rfl, SqL.of h_t, hz, _, _, rfl, rfl, ?_⟩
        refine ⟨_, rfl, _, rfl, _, rfl, q, _, rfl, .inl (SqL.of hq), a, _, _, rfl, rg7, by omega, by rw [List.length_map]; omega, log9 (a := 10) (by rw [List.length_map]; omega) (by decide), fun H8 d8 kp8 rg8 d80 d81 => ?_⟩
        rw [List.length_map] at d81
        replace hq := kp8 _ _ qa qa hq
        replace kk := kk.trans kp8
        have ix : ixN (ty.map V.int).length d8 = some d8.toNat := by
          unfold ixN
          rw [if_pos d80, List.length_map, if_pos (by omega)]
        refine ⟨q, _, _, _, rfl, rfl, hq, ix, ?_⟩
        refine ⟨_, ty.set d8.toNat (-1 - z), rfl, kk.freeU nq, (rng_upd rg8 qa).more (by omega), by rw [upd_same, List.map_set], by rw [List.length_set]; exact ly, fun x hx => ?_, fun _ => ⟨-1 - z, ?_, by omega⟩⟩
        · rcases List.mem_or_eq_of_mem_set hx with y | y
          · exact by' x y
          · rw [y]
            omega
        · exact List.mem_of_getElem? (i := d8.toNat) (by rw [List.getElem?_set_self (by omega)])
      · obtain ⟨v3, ty, rfl, kk, rg4, hq, ly, by', ng⟩ := h
        obtain ⟨x0, hx0, x0n⟩ := ng (by omega)
        have tyne : ty ≠ [] := fun z => by rw [z] at hx0; exact nomatch hx0
        refine ⟨_, rfl, _, rfl, q, _, rfl, SqL.of hq, fun D hD => ?_⟩
        have Dq := ne_of_none hq hD
        refine lc_it (walk_enum (K := K) (a := q) (xs := ty.map V.int)) (fun i H' => ∃ ws : List V, Same H4 H' ∧ H' D = some (.lst ws) ∧ ws.length ≤ i ∧ (ws = [] ∧ (∀ j x, j < i → ty[j]? = some x → 0 ≤ x) ∨ ∃ (j : Nat) (rest : List V), ws = .int j :: rest ∧ negAt ty = some j)) ⟨[], new_same hD, upd_same, by decide, .inl ⟨rfl, fun j x z => absurd z (Nat.not_lt_zero _)⟩⟩ (fun i H' _ h => by obtain ⟨_, e, _⟩ := h; exact SqL.of (e _ _ hq)) (fun i x H5 H6 hi h y => ?_) (fun H5 h => ?_)
        · obtain ⟨ws, e5, eD, lw, hw⟩ := h
          obtain ⟨T1, x1, y1, rfl, nT, rfl, e1, e2⟩ := y
          obtain rfl := Option.some.inj e1
          obtain ⟨z, hz, rfl⟩ : ∃ z, ty[i]? = some z ∧ y1 = .int z := by
            have e3 : (ty.map V.int)[i]? = some y1 := e2
            rw [List.getElem?_map] at e3
            cases q : ty[i]? with
            | none =>
              rw [q] at e3
              cases e3
            | some z =>
              rw [q] at e3
              exact ⟨z, rfl, (Option.some.inj e3).symm⟩
          have eT := new_same (o := HO.tup [.int (i : Nat), .int z]) nT
          have e56 := e5.trans eT
          have eD6 := eT _ _ eD
          refine ⟨T1, _, rfl, SqT.of upd_same, rfl, _, _, rfl, _, _, rfl, rfl, rfl, ?_⟩
          refine ⟨_, rfl, _, _, rfl, rfl, _, rfl, ?_⟩
          by_cases c : z < 0
          · rw [decide_eq_true c]
            refine iteT ⟨_, rfl, ws, eD6, lt_line (by rw [List.length_map] at hi; omega), ws ++ [.int (i : Nat)], same_freeU e56 hD, upd_same, by rw [List.length_append]; simp; omega, .inr ?_⟩
            rcases hw with ⟨rfl, g⟩ | ⟨j, rest, rfl, hn2⟩
            · exact ⟨i, [], rfl, neg_at hz c g⟩
            · exact ⟨j, rest ++ [.int (i : Nat)], rfl, hn2⟩
          · rw [decide_eq_false c]
            refine iteF ⟨ws, e56, eD6, by omega, ?_⟩
            rcases hw with ⟨rfl, g⟩ | ⟨j, rest, rfl, hn2⟩
            · refine .inl ⟨rfl, fun j x hj hx => ?_⟩
              by_cases ji : j = i
              · rw [ji, hz] at hx
                cases hx
                omega
              · exact g j x (by omega) hx
            · exact .inr ⟨j, rest, rfl, hn2⟩
        · obtain ⟨ws, e5, eD, lw, hw⟩ := h
          rcases hw with ⟨rfl, g⟩ | ⟨j, rest, rfl, hn2⟩
          · obtain ⟨j0, hj0, e0⟩ := List.mem_iff_getElem.mp hx0
            have := g j0 x0 (by rw [List.length_map]; exact hj0) (by rw [List.getElem?_eq_getElem hj0, e0])
            omega
          · refine ⟨D, _, 0, .int j, rfl, rfl, SqL.of eD, at_of (j := 0) rfl rfl, (by show 2 ≤ sizeLine; decide), fun p np => ?_⟩
            have e5p := e5.trans (new_same (o := HO.lst [.ref q, .int (j : Nat)]) np)
            exact k _ p q ty (.int j) ((kp1.trans kk).same1 e5p) ((rg4.same e5p).more (by omega)) upd_same qa (kp1.freeK qa nq) (e5p _ _ hq) by' (by omega) (.inr ⟨tyne, j, hn2, rfl⟩)
end
end Gc

/-! the P family's wrong cursors -/
namespace Gc
open PySem L2
abbrev s_bad_spot : Stmt := top 45
structure TxtBS (mg : Str → Option Value) : Prop where
  len : mg "len" = none
  max : mg "max" = none
def spBadS (K : PySem.W.Frag) : Sp := fun vs H Q _ => ∃ (a l : Addr) (n : Nat) (T : List Int), vs = [.ref a, .ref l] ∧ Rng H a n ∧ n < 2 ^ 37 ∧ H l = some (.lst (T.map V.int)) ∧ l ≠ a ∧ T.length ≤ 60 ∧
  ∀ (H' : Hp) (p : Addr) (r : Int) (g : Option Int), Keep a a H H' → Rng H' a (n + 20) → H' p = some (.tup [.int r, optV g]) → r.natAbs ≤ 10 ^ 30 → (∀ x, g = some x → x.natAbs ≤ 10 ^ 30) → ¬ CurOk T.length r g → Q (.ref p) H'
section
variable {P : Program} {w : World} {K : PySem.W.Frag} {mg : Str → Option Value} {base : Heap}
theorem sc_law_bad_spot : FnScope ["pool", "lengths", "goals", "rows", "way"] ["pool", "lengths"] (defScope s_bad_spot) := ⟨rfl, rfl, rfl, by decide +kernel, rfl, by decide +kernel, by decide +kernel⟩
theorem ok_badS {f : Addr} {fd : FuncData} (F : Fun K "_law_bad_spot" "_law_bad_spot" s_bad_spot f fd) (T : TxtBS mg) (c_law_draw : Cal P w K mg base 1 "_law_draw" spDraw) : FnOk P w K mg base CX0 2 f fd ["pool", "lengths"] (spBadS K) := by
  refine F.ok sc_law_bad_spot (fun vs H Q E h => ?_) (fun cdv A outer s H vs Q E hr h => ?_)
  · obtain ⟨a, l, n, tx, rfl, _⟩ := h
    rfl
  · obtain ⟨a, l, n, tx, rfl, rg, hn, hl, la, t2, k⟩ := h
    refine ⟨_, (pss_cons (ps_set (i := 2) sc_law_bad_spot.nd rfl (Or.inl rfl) (pe_lst (pa_cons (pe_un un_neg pe_int) (pa_cons (pe_op op_sub (pe_un un_neg pe_int) (pe_cal c_law_draw hr (by decide) (by rfl) (pa_cons (pv 0) (pa_cons (pe_op op_pow pe_int pe_int) pa_nil)))) (pa_cons pe_int (pa_cons pe_non pa_nil))))))
      (pss_cons (ps_set (i := 3) sc_law_bad_spot.nd rfl (Or.inl rfl) (pe_lst (pa_cons (pe_callB call_len_seq (by rfl) T.len (by decide +kernel) (pa_cons (pv 1) pa_nil)) (pa_cons (pe_op op_add (pe_callB call_len_seq (by rfl) T.len (by decide +kernel) (pa_cons (pv 1) pa_nil)) (pe_cal c_law_draw hr (by decide) (by rfl) (pa_cons (pv 0) (pa_cons (pe_op op_pow pe_int pe_int) pa_nil)))) (pa_cons (pe_un un_neg pe_int) (pa_cons (pe_op op_sub (pe_un un_neg pe_int) (pe_cal c_law_draw hr (by decide) (by rfl) (pa_cons (pv 0) (pa_cons pe_int pa_nil)))) pa_nil))))))
      (pss_cons (ps_set (i := 4) sc_law_bad_spot.nd rfl (Or.inl rfl) (pe_cal c_law_draw hr (by decide) (by rfl) (pa_cons (pv 0) (pa_cons pe_int pa_nil))))
      (pss_cons (ps_if (pt_cmpR op_eq (pv 4) pe_int (nomark _)) (pss_one (ps_ret (pe_tup (pa_cons (pe_cal c_law_draw hr (by decide) (by rfl) (pa_cons (pv 0) (pa_cons (pe_callB (call_max2 rfl) (by rfl) T.max (by decide +kernel) (pa_cons pe_int (pa_cons (pe_callB call_len_seq (by rfl) T.len (by decide +kernel) (pa_cons (pv 1) pa_nil)) pa_nil))) pa_nil))) (pa_cons (pe_ix ix_list (pv 2) (pe_cal c_law_draw hr (by decide) (by rfl) (pa_cons (pv 0) (pa_cons pe_int pa_nil))) (fun _ _ => rfl)) pa_nil))))) pss_nil)
      (pss_one (ps_ret (pe_tup (pa_cons (pe_ix ix_list (pv 3) (pe_cal c_law_draw hr (by decide) (by rfl) (pa_cons (pv 0) (pa_cons pe_int pa_nil))) (fun _ _ => rfl)) (pa_cons (pe_ix ix_list (pv 2) (pe_cal c_law_draw hr (by decide) (by rfl) (pa_cons (pv 0) (pa_cons pe_int pa_nil))) (fun _ _ => rfl)) pa_nil))))))))), ?_⟩
    have k0 : Keep a a H H := Keep.refl H
    refine ⟨_, rfl, _, rfl, _, rfl, _, _, rfl, rfl, cpow (by decide), a, _, _, rfl, rg, by omega, by decide, by decide, fun H1 d1 kp1 rg1 d10 d11 => ?_⟩
    replace hl := kp1 _ _ la la hl
    replace k0 := k0.trans kp1
    refine ⟨_, _, rfl, rfl, (by show 4 ≤ sizeLine; decide), fun q1 nq1 => ?_⟩
    have qa1 := rg1.off nq1
    have e_H2 : Same H1 (upd H1 q1 (.lst [V.int (-1), .int (-1 - d1), .int 3, .non])) := new_same nq1
    have h_q1 : (upd H1 q1 (.lst [V.int (-1), .int (-1 - d1), .int 3, .non])) q1 = some (.lst [V.int (-1), .int (-1 - d1), .int 3, .non]) := upd_same
    generalize upd H1 q1 (.lst [V.int (-1), .int (-1 - d1), .int 3, .non]) = H2 at e_H2 h_q1 ⊢
    replace rg1 := rg1.same e_H2
    replace hl := e_H2 _ _ hl
    replace k0 := k0.same1 e_H2
    refine ⟨_, rfl, l, _, rfl, .inl (SqL.of hl), _, rfl, l, _, rfl, .inl (SqL.of hl), _, rfl, _, _, rfl, rfl, cpow (by decide), a, _, _, rfl, rg1, by omega, by decide, by decide, fun H3 d3 kp3 rg3 d30 d31 => ?_⟩
    replace hl := kp3 _ _ la la hl
    replace h_q1 := kp3 _ _ qa1 qa1 h_q1
    replace k0 := k0.trans kp3
    refine ⟨_, _, rfl, rfl, _, rfl, _, rfl, _, rfl, a, _, 9, rfl, rg3, by omega, by decide, by decide, fun H4 d4 kp4 rg4 d40 d41 => ?_⟩
    replace hl := kp4 _ _ la la hl
    replace h_q1 := kp4 _ _ qa1 qa1 h_q1
    replace k0 := k0.trans kp4
    refine ⟨_, _, rfl, rfl, (by show 4 ≤ sizeLine; decide), fun q2 nq2 => ?_⟩
    have qa2 := rg4.off nq2
    have lm : (tx.map V.int).length = tx.length := List.length_map ..
    have t60 : (tx.length : Int) ≤ 60 := by omega
    have e_H5 : Same H4 (upd H4 q2 (.lst [V.int ((tx.map V.int).length : Nat), .int (((tx.map V.int).length : Nat) + d3), .int (-1), .int (-1 - d4)])) := new_same nq2
    have h_q2 : (upd H4 q2 (.lst [V.int ((tx.map V.int).length : Nat), .int (((tx.map V.int).length : Nat) + d3), .int (-1), .int (-1 - d4)])) q2 = some (.lst [V.int ((tx.map V.int).length : Nat), .int (((tx.map V.int).length : Nat) + d3), .int (-1), .int (-1 - d4)]) := upd_same
    generalize upd H4 q2 (.lst [V.int ((tx.map V.int).length : Nat), .int (((tx.map V.int).length : Nat) + d3), .int (-1), .int (-1 - d4)]) = H5 at e_H5 h_q2 ⊢
    replace rg4 := rg4.same e_H5
    replace hl := e_H5 _ _ hl
    replace h_q1 := e_H5 _ _ h_q1
    replace k0 := k0.same1 e_H5
    rw [lm] at h_q2
    refine ⟨_, rfl, a, _, 3, rfl, rg4, by omega, by decide, by decide, fun H6 d6 kp6 rg6 d60 d61 => ?_⟩
    replace hl := kp6 _ _ la la hl
    replace h_q1 := kp6 _ _ qa1 qa1 h_q1
    replace h_q2 := kp6 _ _ qa2 qa2 h_q2
    replace k0 := k0.trans kp6
    replace d11 : d1 < 10 ^ 29 := d11
    replace d31 : d3 < 10 ^ 29 := d31
    have goal : ∀ d : Int, 0 ≤ d → d < 4 → ∃ g : Option Int, atI [V.int (-1), .int (-1 - d1), .int 3, .non] d = some (optV g) ∧ (∀ x, g = some x → x.natAbs ≤ 10 ^ 30) ∧ (d < 2 → ¬ ge g 0) := fun d l0 l1 => by
      rcases (show d = 0 ∨ d = 1 ∨ d = 2 ∨ d = 3 by omega) with rfl | rfl | rfl | rfl
      · exact ⟨some (-1), rfl, fun x z => by cases z; decide, fun _ z => absurd (ge_some.mp z) (by decide)⟩
      · exact ⟨some (-1 - d1), rfl, fun x z => by cases z; omega, fun _ z => by have := ge_some.mp z; omega⟩
      · exact ⟨some 3, rfl, fun x z => by cases z; decide, fun z => absurd z (by decide)⟩
      · exact ⟨none, rfl, (fun x z => nomatch z), fun z => absurd z (by decide)⟩
    refine ⟨_, rfl, rfl, _, rfl, ite2 (fun c => ?_) (fun c => ?_)⟩
    · refine ⟨_, rfl, _, rfl, l, _, rfl, .inl (SqL.of hl), _, _, rfl, ?_⟩
      have mx : 1 ≤ (if ((tx.map V.int).length : Int) > 1 then ((tx.map V.int).length : Int) else 1) ∧ (if ((tx.map V.int).length : Int) > 1 then ((tx.map V.int).length : Int) else 1) ≤ 61 := by
        rw [lm]
        split <;> omega
      generalize (if ((tx.map V.int).length : Int) > 1 then ((tx.map V.int).length : Int) else 1) = y at mx ⊢
      refine ⟨a, _, y, rfl, rg6, by omega, by omega, log9 (a := 10) (by omega) (by decide), fun H7 d7 kp7 rg7 d70 d71 => ?_⟩
      replace h_q1 := kp7 _ _ qa1 qa1 h_q1
      replace k0 := k0.trans kp7
      refine ⟨_, rfl, _, rfl, a, _, 2, rfl, rg7, by omega, by decide, by decide, fun H8 d8 kp8 rg8 d80 d81 => ?_⟩
      replace h_q1 := kp8 _ _ qa1 qa1 h_q1
      replace k0 := k0.trans kp8
      obtain ⟨g, hg, gb, gn⟩ := goal d8 d80 (by omega)
      refine ⟨q1, _, _, _, rfl, rfl, SqL.of h_q1, hg, (by show 2 ≤ sizeLine; decide), fun p np => ?_⟩
      exact k _ p d7 g (k0.same1 (new_same np)) ((rg8.same (new_same np)).more (by omega)) upd_same (by omega) gb fun z => gn d81 z.2.2
    · refine ⟨_, rfl, _, rfl, a, _, 4, rfl, rg6, by omega, by decide, by decide, fun H7 d7 kp7 rg7 d70 d71 => ?_⟩
      replace h_q1 := kp7 _ _ qa1 qa1 h_q1
      replace h_q2 := kp7 _ _ qa2 qa2 h_q2
      replace k0 := k0.trans kp7
      obtain ⟨r, hr2, r0, r1⟩ : ∃ r : Int, atI [V.int (tx.length : Nat), .int ((tx.length : Nat) + d3), .int (-1), .int (-1 - d4)] d7 = some (.int r) ∧ r.natAbs ≤ 10 ^ 30 ∧ ¬ (0 ≤ r ∧ r < tx.length) := by
        rcases (show d7 = 0 ∨ d7 = 1 ∨ d7 = 2 ∨ d7 = 3 by omega) with rfl | rfl | rfl | rfl
        · exact ⟨_, rfl, by omega, by omega⟩
        · exact ⟨_, rfl, by omega, by omega⟩
        · exact ⟨_, rfl, by decide, by omega⟩
        · exact ⟨_, rfl, by omega, by omega⟩
      refine ⟨q2, _, _, _, rfl, rfl, SqL.of h_q2, hr2, ?_⟩
      refine ⟨_, rfl, _, rfl, a, _, 4, rfl, rg7, by omega, by decide, by decide, fun H8 d8 kp8 rg8 d80 d81 => ?_⟩
      replace h_q1 := kp8 _ _ qa1 qa1 h_q1
      replace k0 := k0.trans kp8
      obtain ⟨g, hg, gb, _⟩ := goal d8 d80 d81
      refine ⟨q1, _, _, _, rfl, rfl, SqL.of h_q1, hg, (by show 2 ≤ sizeLine; decide), fun p np => ?_⟩
      exact k _ p r g (k0.same1 (new_same np)) ((rg8.same (new_same np)).more (by omega)) upd_same r0 gb fun z => r1 ⟨z.1, z.2.1⟩
end
end Gc

/-! a text with commands, as data; repetitions, as data -/
namespace Gc
open PySem L2
def bothD (T : List Int) (cs : List Cmd) : PyData := .list [.list (T.map PyData.int), .list (cs.map cmdD)]
theorem both_show {T : List Int} {cs : List Cmd} (hT : ∀ x ∈ T, Sml x) (hc : ∀ c ∈ cs, CSml c) (lT : T.length ≤ 200) (lc : cs.length ≤ 100) : (bothD T cs).showable = true ∧ (bothD T cs).hasDict = false ∧ (bothD T cs).depth ≤ 60 ∧ (bothD T cs).shown.length ≤ sizeLine := by
  obtain ⟨c1, c2, c3⟩ := cmds_ok0 hc
  have o : Ok0 (bothD T cs) := ok0_list (ok0_cons (ok0_list (ok0_ints hT)) (ok0_cons (ok0_list c1) ok0_nil))
  refine ⟨o.1, o.2.1, ?_, ok0_len o ?_⟩
  · simp only [bothD, PyData.depth, PyData.depthAll, deep_ints]
    omega
  · have w1 := weight_ints hT
    simp only [bothD, PyData.weight, PyData.weightAll]
    omega
theorem both_lay (T : List Int) (cs : List Cmd) : (bothD T cs).canLay0 = true := by
  have h1 : PyData.canLayAll0 (T.map PyData.int) = true := PySem.W.ke_canLayAll0 T
  simp [bothD, PyData.canLay0, PyData.canLayAll0, h1, lay_cmds cs]
theorem csml_of {c : Cmd} (ok : c.ok) (h : numC c < 10 ^ 32) : CSml c := by
  have key : ∀ n : Int, 1 ≤ n → n < 10 ^ 32 → n.natAbs < 2 ^ 120 := fun n h1 h => by omega
  cases c with
  | down n => exact key n ok h
  | up n => exact key n ok h
  | right n => exact key n ok h
  | left n => exact key n ok h
  | home => trivial
  | stop => trivial
theorem chg_le {B : Nat} : ∀ {cs : List Cmd}, (∀ c ∈ cs, c.ok ∧ numC c ≤ B) → (chg cs).natAbs ≤ B * cs.length
  | [], _ => Nat.le_refl _
  | c :: cs, h => by
    have ih := chg_le (B := B) (cs := cs) fun d hd => h d (List.mem_cons_of_mem _ hd)
    obtain ⟨ok, nb⟩ := h c List.mem_cons_self
    have h1 : (chg1 c).natAbs ≤ B := by
      cases c with
      | right n =>
        have o : 1 ≤ n := ok
        have q : n ≤ (B : Int) := nb
        show n.natAbs ≤ B
        omega
      | left n =>
        have o : 1 ≤ n := ok
        have q : n ≤ (B : Int) := nb
        show (-n).natAbs ≤ B
        omega
      | _ => exact Nat.zero_le _
    show (chg1 c + chg cs).natAbs ≤ B * (cs.length + 1)
    rw [Nat.mul_succ]
    omega
/-- a cursor, or the index of the impossible command in a list -/
def repD : Nat ⊕ (Int × Option Int) → PyData
  | .inl n => .list [.int n]
  | .inr x => .tuple [.int x.1, optD x.2]
theorem repD_lay (x : Nat ⊕ (Int × Option Int)) : (repD x).canLay0 = true := by
  rcases x with n | ⟨r, _ | g⟩ <;> rfl
theorem repD_shaped (x : Nat ⊕ (Int × Option Int)) : SeqAt.shaped (repD x) = true := by
  rcases x with n | ⟨r, _ | g⟩ <;> rfl
theorem repDs_shaped (x : Nat ⊕ (Int × Option Int)) : SeqAt.shaped (.list [repD x, repD x]) = true := by
  rcases x with n | ⟨r, _ | g⟩ <;> rfl
theorem repD_eqv (x : Nat ⊕ (Int × Option Int)) : PyData.eqv (repD x) (repD x) = true := SeqAt.eqv_refl _ (repD_lay x)
theorem repDs_eqv (x : Nat ⊕ (Int × Option Int)) : PyData.eqv (.list [repD x, repD x]) (.list [repD x, repD x]) = true := SeqAt.eqv_refl _ (by rcases x with n | ⟨r, _ | g⟩ <;> rfl)
theorem tup_atL {K : PySem.W.Frag} {H : Hp} {l a : Addr} {ys zs xs : List V} (hl : H l = some (.lst ys)) (h1 : SqT K H a xs) : SqT K (upd H l (.lst zs)) a xs := by
  rcases h1 with (z | ⟨o, z⟩) | z
  · exact .inl (.inl (by rw [upd_ne (ne_of z hl (by intro q; cases q))]; exact z))
  · exact .inl (.inr ⟨o, by rw [upd_ne (ne_of z hl (by intro q; cases q))]; exact z⟩)
  · exact .inr z
theorem paired_ins {α β : Type} {F : α → β → Prop} {xs : List α} {ys : List β} {x : α} {y : β} (h : Paired F xs ys) (h1 : F x y) (i : Nat) : Paired F (xs.take i ++ [x] ++ xs.drop i) (ys.take i ++ [y] ++ ys.drop i) :=
  paired_app (paired_app (paired_take i h) (.cons h1 .nil)) (paired_drop i h)
theorem mem_ins {α : Type} {ys : List α} {y z : α} {i : Nat} (h : z ∈ ys.take i ++ [y] ++ ys.drop i) : z = y ∨ z ∈ ys := by
  rcases List.mem_append.mp h with q | q
  · rcases List.mem_append.mp q with q | q
    · exact .inr (List.mem_of_mem_take q)
    · exact .inl (List.mem_singleton.mp q)
  · exact .inr (List.mem_of_mem_drop q)
theorem len_ins {α : Type} (ys : List α) (y : α) {i : Nat} (h : i ≤ ys.length) : (ys.take i ++ [y] ++ ys.drop i).length = ys.length + 1 := by
  rw [List.length_append, List.length_append, List.length_take, List.length_drop, List.length_singleton]
  omega
end Gc

/-! the P family's wrong commands -/
namespace Gc
open PySem L2
abbrev s_bad_keys : Stmt := top 43
structure TxtBK (mg : Str → Option Value) : Prop where
  range : mg "range" = none
  len : mg "len" = none
  list : mg "list" = none
  enumerate : mg "enumerate" = none
def rawOf : Cmd → Raw
  | .down n => .two "down" n
  | .up n => .two "up" n
  | .right n => .two "right" n
  | .left n => .two "left" n
  | .home => .one "home"
  | .stop => .one "end"
theorem rawOf_enc (c : Cmd) : encR (rawOf c) = encC c := by cases c <;> rfl
theorem raws_of {K : PySem.W.Frag} {H : Hp} : ∀ {xs : List V} {cs : List Cmd}, CmdsOf K H xs cs → RawsOf K H xs (cs.map rawOf)
  | [], [], _ => .nil
  | _ :: _, c :: cs, .cons ⟨a, e, h⟩ q => .cons ⟨a, e, by rw [rawOf_enc]; exact h⟩ (raws_of q)
theorem raws_snoc {K : PySem.W.Frag} {H : Hp} {xs : List V} {rs : List Raw} {p : Addr} {r : Raw} (h : RawsOf K H xs rs) (hp : H p = some (.tup (encR r))) : RawsOf K H (xs ++ [.ref p]) (rs ++ [r]) := paired_app h (.cons ⟨p, rfl, SqT.of hp⟩ .nil)
def rawD : Raw → PyData
  | .nil => .tuple []
  | .one n => .tuple [.str n]
  | .two n k => .tuple [.str n, .int k]
  | .three n k j => .tuple [.str n, .int k, .int j]
theorem RawAt.dp {K : PySem.W.Frag} {H : Hp} {v : V} {r : Raw} (h : RawAt K H v r) : Dp K H v (rawD r) := by
  obtain ⟨a, rfl, h⟩ := h
  cases r with
  | nil => exact .tup h .nil
  | one n => exact .tup h (.cons (.str n) .nil)
  | two n k => exact .tup h (.cons (.str n) (.cons (.int k) .nil))
  | three n k j => exact .tup h (.cons (.str n) (.cons (.int k) (.cons (.int j) .nil)))
/-- it can be shown -/
def RawOk (r : Raw) : Prop := SeqAt.shaped (rawD r) = true ∧ Ok0 (rawD r) ∧ (rawD r).weight ≤ 200 ∧ (rawD r).depth ≤ 5
theorem rawOf_D (c : Cmd) : rawD (rawOf c) = cmdD c := by cases c <;> rfl
theorem rawOf_ok {c : Cmd} (h : CSml c) : RawOk (rawOf c) := by
  unfold RawOk
  rw [rawOf_D]
  have q := cmdD_ok h
  refine ⟨?_, q⟩
  have z : PyData.canLayAll0 ([c].map cmdD) = true := lay_cmds [c]
  simp only [List.map_cons, List.map_nil, PyData.canLayAll0, Bool.and_true] at z
  unfold SeqAt.shaped
  rw [z, decide_eq_true (show (cmdD c).depth ≤ 64 by omega)]
  rfl
theorem rawOf_cmd (c : Cmd) : (rawOf c).cmd = c := by cases c <;> rfl
theorem rawOf_good {c : Cmd} (h : c.ok) : (rawOf c).good = true := by
  cases c with
  | home => rfl
  | stop => rfl
  | _ => exact decide_eq_true h
def badsR : List Raw := [.two "down" 0, .two "up" (-1), .two "right" 0, .two "left" (-5), .two "home" 1, .two "end" 0, .one "down", .one "left", .two "Right" 1, .two "lefts" 1, .two "" 1, .one "", .one "top", .three "right" 1 2, .three "end" 1 1, .nil]
def badB (r : Raw) : Bool := !r.good && (SeqAt.shaped (rawD r) && ((rawD r).showable && (!(rawD r).hasDict && ((rawD r).leavesShort 130 && (decide ((rawD r).weight ≤ 200) && decide ((rawD r).depth ≤ 5))))))
theorem bads_ok {r : Raw} (h : r ∈ badsR) : r.good = false ∧ RawOk r := by
  have q : badsR.all badB = true := by decide +kernel
  have z := List.all_eq_true.mp q r h
  unfold badB at z
  simp only [Bool.and_eq_true, Bool.not_eq_true', decide_eq_true_eq] at z
  exact ⟨z.1, z.2.1, ⟨z.2.2.1, z.2.2.2.1, z.2.2.2.2.1⟩, z.2.2.2.2.2.1, z.2.2.2.2.2.2⟩
theorem room65 {k : Nat} {A : Around} (r : Room k A) : A.units + 65 < cLine := by
  have := r.un
  omega
def spBadK (K : PySem.W.Frag) : Sp := fun vs H Q _ => ∃ (a l : Addr) (n : Nat) (xs : List V) (rs : List Raw), vs = [.ref a, .ref l] ∧ Rng H a n ∧ n < 2 ^ 37 ∧ H l = some (.lst xs) ∧ l ≠ a ∧ RawsOf K H xs rs ∧ rs.length ≤ 18 ∧ (∀ r ∈ rs, RawOk r) ∧
  ∀ (H' : Hp) (p q : Addr) (ys : List V) (ss : List Raw) (i : Nat), Keep a a H H' → Rng H' a (n + 20) → H' p = some (.lst [.ref q, .int i]) → q ≠ a → H q = none → H' q = some (.lst ys) → RawsOf K H' ys ss → (∀ r ∈ ss, RawOk r) → ss.length ≤ 20 → badAt ss = some i → Q (.ref p) H'
theorem Rng.raws {K : PySem.W.Frag} {H H' : Hp} {r : Addr} {n : Nat} {xs : List V} {rs : List Raw} (B : Rng H r n) (k : Keep r r H H') (h : RawsOf K H xs rs) : RawsOf K H' xs rs := Paired.mapP h fun _ _ q => by
  obtain ⟨b, e, z⟩ := q
  exact ⟨b, e, B.tup k z⟩
theorem RawsOf.atL {K : PySem.W.Frag} {H : Hp} {l : Addr} {ys zs xs : List V} {rs : List Raw} (hl : H l = some (.lst ys)) (h : RawsOf K H xs rs) : RawsOf K (upd H l (.lst zs)) xs rs := Paired.mapP h fun _ _ q => by
  obtain ⟨b, e, z⟩ := q
  exact ⟨b, e, tup_atL hl z⟩
theorem cutAll {xs : List V} (h : xs.length ≤ 20) : cutV xs none (some 20) = xs := by
  unfold cutV
  rw [HT.sIx_none, show (some (20 : Int)) = some ((20 : Nat) : Int) from rfl, HT.sIx_nat, List.drop_zero, Nat.sub_zero, Nat.min_eq_right h, List.take_length]
def loneD : List PyData := [.tuple [.str "home"], .tuple [.str "end"]]
theorem lone_shaped : SeqAt.shaped (.list loneD) = true := by decide +kernel
theorem lone_in (r : Raw) : loneD.any (fun z => PyData.eqv z (rawD r)) = match r with
    | .one n => inV (.str n) withoutN
    | _ => false := by
  cases r <;> simp [loneD, rawD, PyData.eqv, PyData.eqvAll, inV, withoutN, eqV]
section
variable {P : Program} {w : World} {K : PySem.W.Frag} {mg : Str → Option Value} {base : Heap}
theorem sc_law_bad_keys : FnScope ["pool", "keys", "found", "turn", "bad", "at", "key", "fits"] ["pool", "keys"] (defScope s_bad_keys) := ⟨rfl, rfl, rfl, by decide +kernel, rfl, by decide +kernel, by decide +kernel⟩
theorem ok_badK {f : Addr} {fd : FuncData} (F : Fun K "_law_bad_keys" "_law_bad_keys" s_bad_keys f fd) (T : TxtBK mg) (c_law_draw : Cal P w K mg base 1 "_law_draw" spDraw) : FnOk P w K mg base CX0 2 f fd ["pool", "keys"] (spBadK K) := by
  refine F.ok sc_law_bad_keys (fun vs H Q E h => ?_) (fun cdv A outer s H vs Q E hr h => ?_)
  · obtain ⟨a, l, n, xs, rs, rfl, _⟩ := h
    rfl
  · obtain ⟨a, l, n, xs, rs, rfl, rg, hn, hl, la, hrs, t18, hok, k⟩ := h
    refine ⟨_, (pss_cons (ps_set (i := 2) sc_law_bad_keys.nd rfl (Or.inl rfl) (pe_callTy call_list_of (by rfl) T.list (by decide +kernel) (pa_cons (pv 1) pa_nil)))
      (pss_cons (ps_for PassesOwn.never rfl (pi_range1 rfl T.range (pa_cons (pe_op op_add pe_int (pe_cal c_law_draw hr (by decide) (by rfl) (pa_cons (pv 0) (pa_cons pe_int pa_nil)))) pa_nil)) (pg_name (i := 3) sc_law_bad_keys.nd rfl (Or.inl rfl)) (pss_cons (ps_set (i := 4) sc_law_bad_keys.nd rfl (Or.inl rfl) (pe_lst (pa_cons (pe_tup (pa_cons pe_str (pa_cons pe_int pa_nil))) (pa_cons (pe_tup (pa_cons pe_str (pa_cons (pe_un un_neg pe_int) pa_nil))) (pa_cons (pe_tup (pa_cons pe_str (pa_cons pe_int pa_nil))) (pa_cons (pe_tup (pa_cons pe_str (pa_cons (pe_un un_neg pe_int) pa_nil))) (pa_cons (pe_tup (pa_cons pe_str (pa_cons pe_int pa_nil))) (pa_cons (pe_tup (pa_cons pe_str (pa_cons pe_int pa_nil))) (pa_cons (pe_tup (pa_cons pe_str pa_nil)) (pa_cons (pe_tup (pa_cons pe_str pa_nil)) pa_nil))))))))))
      (pss_cons (ps_set (i := 4) sc_law_bad_keys.nd rfl (Or.inl rfl) (pe_op op_cat (pv 4) (pe_lst (pa_cons (pe_tup (pa_cons pe_str (pa_cons pe_int pa_nil))) (pa_cons (pe_tup (pa_cons pe_str (pa_cons pe_int pa_nil))) (pa_cons (pe_tup (pa_cons pe_str (pa_cons pe_int pa_nil))) (pa_cons (pe_tup (pa_cons pe_str pa_nil)) (pa_cons (pe_tup (pa_cons pe_str pa_nil)) (pa_cons (pe_tup (pa_cons pe_str (pa_cons pe_int (pa_cons pe_int pa_nil)))) (pa_cons (pe_tup (pa_cons pe_str (pa_cons pe_int (pa_cons pe_int pa_nil)))) (pa_cons (pe_tup pa_nil) pa_nil)))))))))))
      (pss_one (ps_expr (pe_bm PySem.F.plainAttrs_list PySem.F.slot_list_insert PySem.F.type_list_insert mt_insert (pv 2) (pa_cons (pe_cal c_law_draw hr (by decide) (by rfl) (pa_cons (pv 0) (pa_cons (pe_op op_add (pe_callB call_len_seq (by rfl) T.len (by decide +kernel) (pa_cons (pv 2) pa_nil)) pe_int) pa_nil))) (pa_cons (pe_ix ix_list (pv 4) (pe_cal c_law_draw hr (by decide) (by rfl) (pa_cons (pv 0) (pa_cons pe_int pa_nil))) (fun _ _ => rfl)) pa_nil))))))))
      (pss_cons (ps_set (i := 2) sc_law_bad_keys.nd rfl (Or.inl rfl) (pe_slice sl_list (pv 2) po_none (po_some pe_int)))
      (pss_cons (ps_for PassesOwn.never rfl (pi_enum (by rfl) T.enumerate (pa_cons (pv 2) pa_nil)) (pg_tup rfl (pgs_cons (pg_name (i := 5) sc_law_bad_keys.nd rfl (Or.inl rfl)) (pgs_cons (pg_name (i := 6) sc_law_bad_keys.nd rfl (Or.inl rfl)) pgs_nil))) (pss_cons (ps_set (i := 7) sc_law_bad_keys.nd rfl (Or.inl rfl) (pe_cmpR (op_inD (room65 hr)) (pv 6) (pe_lst (pa_cons (pe_tup (pa_cons pe_str pa_nil)) (pa_cons (pe_tup (pa_cons pe_str pa_nil)) pa_nil))) (by rfl)))
      (C8.pss_cut (ps_if (PW.pt (pw_and (pt_cmpR op_eq (pe_callB call_len_seq (by rfl) T.len (by decide +kernel) (pa_cons (pv 6) pa_nil)) pe_int (nomark _)) (pw_and1 (pt_cmpR op_in_seq (pe_ix ix_tup (pv 6) pe_int (fun _ _ => rfl)) (pe_lst (pa_cons pe_str (pa_cons pe_str (pa_cons pe_str (pa_cons pe_str pa_nil))))) (by rfl))))) (pss_one (ps_set (i := 7) sc_law_bad_keys.nd rfl (Or.inl rfl) (pe_cmpR op_gt (pe_ix ix_tup (pv 6) pe_int (fun _ _ => rfl)) pe_int (nomark _)))) pss_nil)
      (pss_one (ps_if (pt_not (pt_val (pv 7))) (pss_one (ps_ret (pe_lst (pa_cons (pv 2) (pa_cons (pv 5) pa_nil))))) pss_nil)))))
      (pss_one (ps_ret (pe_lst (pa_cons (pv 2) (pa_cons pe_non pa_nil))))))))), ?_⟩
    have k0 : Keep a a H H := Keep.refl H
    refine ⟨_, rfl, l, _, rfl, .inl (SqL.of hl), fun q nq => ?_⟩
    have qa := rg.off nq
    have e_H1 : Same H (upd H q (.lst xs)) := new_same nq
    have h_q : (upd H q (.lst xs)) q = some (.lst xs) := upd_same
    generalize upd H q (.lst xs) = H1 at e_H1 h_q ⊢
    replace rg := rg.same e_H1
    replace hrs := hrs.same e_H1
    replace k0 := k0.same1 e_H1
    refine ⟨_, rfl, a, _, 2, rfl, rg, by omega, by decide, by decide, fun H2 d kp2 rg2 d0 d1 => ⟨_, _, rfl, rfl, _, rfl, by omega, by omega, for_range (lo := 0) (n := (1 + d).toNat) (fun i σ H' => ∃ (v3 v4 : Option V) (ys : List V) (ss : List Raw), σ = [some (.ref a), some (.ref l), some (.ref q), v3, v4, none, none, none] ∧ Keep a a H H' ∧ Rng H' a (n + 2 + 3 * i) ∧ H' q = some (.lst ys) ∧ RawsOf K H' ys ss ∧ ss.length = rs.length + i ∧ (∀ r ∈ ss, RawOk r) ∧ (1 ≤ i → ∃ r ∈ ss, r.good = false)) ?_ (fun i σ H4 hi h => ?_) (fun σ H4 h => ?_)⟩⟩
    · exact ⟨none, none, xs, rs, rfl, k0.trans kp2, rg2.more (by omega), kp2 _ _ qa qa h_q, rg.raws kp2 hrs, rfl, hok, fun z => absurd z (by decide)⟩
    · obtain ⟨v3, v4, ys, ss, rfl, kk, rg4, hq, hs, ls, ms, ng⟩ := h
      have hra : RawsOf K H4 [] [] := .nil
      have eS : Same H4 H4 := Same.refl H4
      refine ⟨(by show 2 ≤ sizeLine; decide), fun b1 nb1 => ?_⟩
      have e_G1 : Same H4 (upd H4 b1 (.tup [V.str "down", .int 0])) := new_same nb1
      have h_b1 : (upd H4 b1 (.tup [V.str "down", .int 0])) b1 = some (.tup [V.str "down", .int 0]) := upd_same
      generalize upd H4 b1 (.tup [V.str "down", .int 0]) = G1 at e_G1 h_b1 ⊢
      replace hra := hra.same e_G1
      replace eS := eS.trans e_G1
      replace hra := raws_snoc (r := .two "down" 0) hra h_b1
      refine ⟨_, rfl, (by show 2 ≤ sizeLine; decide), fun b2 nb2 => ?_⟩
      have e_G2 : Same G1 (upd G1 b2 (.tup [V.str "up", .int (-1)])) := new_same nb2
      have h_b2 : (upd G1 b2 (.tup [V.str "up", .int (-1)])) b2 = some (.tup [V.str "up", .int (-1)]) := upd_same
      generalize upd G1 b2 (.tup [V.str "up", .int (-1)]) = G2 at e_G2 h_b2 ⊢
      replace hra := hra.same e_G2
      replace eS := eS.trans e_G2
      replace hra := raws_snoc (r := .two "up" (-1)) hra h_b2
      refine ⟨(by show 2 ≤ sizeLine; decide), fun b3 nb3 => ?_⟩
      have e_G3 : Same G2 (upd G2 b3 (.tup [V.str "right", .int 0])) := new_same nb3
      have h_b3 : (upd G2 b3 (.tup [V.str "right", .int 0])) b3 = some (.tup [V.str "right", .int 0]) := upd_same
      generalize upd G2 b3 (.tup [V.str "right", .int 0]) = G3 at e_G3 h_b3 ⊢
      replace hra := hra.same e_G3
      replace eS := eS.trans e_G3
      replace hra := raws_snoc (r := .two "right" 0) hra h_b3
      refine ⟨_, rfl, (by show 2 ≤ sizeLine; decide), fun b4 nb4 => ?_⟩
      have e_G4 : Same G3 (upd G3 b4 (.tup [V.str "left", .int (-5)])) := new_same nb4
      have h_b4 : (upd G3 b4 (.tup [V.str "left", .int (-5)])) b4 = some (.tup [V.str "left", .int (-5)]) := upd_same
      generalize upd G3 b4 (.tup [V.str "left", .int (-5)]) = G4 at e_G4 h_b4 ⊢
      replace hra := hra.same e_G4
      replace eS := eS.trans e_G4
      replace hra := raws_snoc (r := .two "left" (-5)) hra h_b4
      refine ⟨(by show 2 ≤ sizeLine; decide), fun b5 nb5 => ?_⟩
      have e_G5 : Same G4 (upd G4 b5 (.tup [V.str "home", .int 1])) := new_same nb5
      have h_b5 : (upd G4 b5 (.tup [V.str "home", .int 1])) b5 = some (.tup [V.str "home", .int 1]) := upd_same
      generalize upd G4 b5 (.tup [V.str "home", .int 1]) = G5 at e_G5 h_b5 ⊢
      replace hra := hra.same e_G5
      replace eS := eS.trans e_G5
      replace hra := raws_snoc (r := .two "home" 1) hra h_b5
      refine ⟨(by show 2 ≤ sizeLine; decide), fun b6 nb6 => ?_⟩
      have e_G6 : Same G5 (upd G5 b6 (.tup [V.str "end", .int 0])) := new_same nb6
      have h_b6 : (upd G5 b6 (.tup [V.str "end", .int 0])) b6 = some (.tup [V.str "end", .int 0]) := upd_same
      generalize upd G5 b6 (.tup [V.str "end", .int 0]) = G6 at e_G6 h_b6 ⊢
      replace hra := hra.same e_G6
      replace eS := eS.trans e_G6
      replace hra := raws_snoc (r := .two "end" 0) hra h_b6
      refine ⟨(by show 1 ≤ sizeLine; decide), fun b7 nb7 => ?_⟩
      have e_G7 : Same G6 (upd G6 b7 (.tup [V.str "down"])) := new_same nb7
      have h_b7 : (upd G6 b7 (.tup [V.str "down"])) b7 = some (.tup [V.str "down"]) := upd_same
      generalize upd G6 b7 (.tup [V.str "down"]) = G7 at e_G7 h_b7 ⊢
      replace hra := hra.same e_G7
      replace eS := eS.trans e_G7
      replace hra := raws_snoc (r := .one "down") hra h_b7
      refine ⟨(by show 1 ≤ sizeLine; decide), fun b8 nb8 => ?_⟩
      have e_G8 : Same G7 (upd G7 b8 (.tup [V.str "left"])) := new_same nb8
      have h_b8 : (upd G7 b8 (.tup [V.str "left"])) b8 = some (.tup [V.str "left"]) := upd_same
      generalize upd G7 b8 (.tup [V.str "left"]) = G8 at e_G8 h_b8 ⊢
      replace hra := hra.same e_G8
      replace eS := eS.trans e_G8
      replace hra := raws_snoc (r := .one "left") hra h_b8
      refine ⟨(by show 8 ≤ sizeLine; decide), fun q1 nq1 => ?_⟩
      have e_Gb : Same G8 (upd G8 q1 (.lst [V.ref b1, V.ref b2, V.ref b3, V.ref b4, V.ref b5, V.ref b6, V.ref b7, V.ref b8])) := new_same nq1
      have h_q1 : (upd G8 q1 (.lst [V.ref b1, V.ref b2, V.ref b3, V.ref b4, V.ref b5, V.ref b6, V.ref b7, V.ref b8])) q1 = some (.lst [V.ref b1, V.ref b2, V.ref b3, V.ref b4, V.ref b5, V.ref b6, V.ref b7, V.ref b8]) := upd_same
      generalize upd G8 q1 (.lst [V.ref b1, V.ref b2, V.ref b3, V.ref b4, V.ref b5, V.ref b6, V.ref b7, V.ref b8]) = Gb at e_Gb h_q1 ⊢
      replace hra := hra.same e_Gb
      replace eS := eS.trans e_Gb
      refine ⟨_, rfl, ?_⟩
      have hrb := hra
      refine ⟨(by show 2 ≤ sizeLine; decide), fun b9 nb9 => ?_⟩
      have e_G9 : Same Gb (upd Gb b9 (.tup [V.str "Right", .int 1])) := new_same nb9
      have h_b9 : (upd Gb b9 (.tup [V.str "Right", .int 1])) b9 = some (.tup [V.str "Right", .int 1]) := upd_same
      generalize upd Gb b9 (.tup [V.str "Right", .int 1]) = G9 at e_G9 h_b9 ⊢
      replace hrb := hrb.same e_G9
      replace h_q1 := e_G9 _ _ h_q1
      replace eS := eS.trans e_G9
      replace hrb := raws_snoc (r := .two "Right" 1) hrb h_b9
      refine ⟨(by show 2 ≤ sizeLine; decide), fun b10 nb10 => ?_⟩
      have e_G10 : Same G9 (upd G9 b10 (.tup [V.str "lefts", .int 1])) := new_same nb10
      have h_b10 : (upd G9 b10 (.tup [V.str "lefts", .int 1])) b10 = some (.tup [V.str "lefts", .int 1]) := upd_same
      generalize upd G9 b10 (.tup [V.str "lefts", .int 1]) = G10 at e_G10 h_b10 ⊢
      replace hrb := hrb.same e_G10
      replace h_q1 := e_G10 _ _ h_q1
      replace eS := eS.trans e_G10
      replace hrb := raws_snoc (r := .two "lefts" 1) hrb h_b10
      refine ⟨(by show 2 ≤ sizeLine; decide), fun b11 nb11 => ?_⟩
      have e_G11 : Same G10 (upd G10 b11 (.tup [V.str "", .int 1])) := new_same nb11
      have h_b11 : (upd G10 b11 (.tup [V.str "", .int 1])) b11 = some (.tup [V.str "", .int 1]) := upd_same
      generalize upd G10 b11 (.tup [V.str "", .int 1]) = G11 at e_G11 h_b11 ⊢
      replace hrb := hrb.same e_G11
      replace h_q1 := e_G11 _ _ h_q1
      replace eS := eS.trans e_G11
      replace hrb := raws_snoc (r := .two "" 1) hrb h_b11
      refine ⟨(by show 1 ≤ sizeLine; decide), fun b12 nb12 => ?_⟩
      have e_G12 : Same G11 (upd G11 b12 (.tup [V.str ""])) := new_same nb12
      have h_b12 : (upd G11 b12 (.tup [V.str ""])) b12 = some (.tup [V.str ""]) := upd_same
      generalize upd G11 b12 (.tup [V.str ""]) = G12 at e_G12 h_b12 ⊢
      replace hrb := hrb.same e_G12
      replace h_q1 := e_G12 _ _ h_q1
      replace eS := eS.trans e_G12
      replace hrb := raws_snoc (r := .one "") hrb h_b12
      refine ⟨(by show 1 ≤ sizeLine; decide), fun b13 nb13 => ?_⟩
      have e_G13 : Same G12 (upd G12 b13 (.tup [V.str "top"])) := new_same nb13
      have h_b13 : (upd G12 b13 (.tup [V.str "top"])) b13 = some (.tup [V.str "top"]) := upd_same
      generalize upd G12 b13 (.tup [V.str "top"]) = G13 at e_G13 h_b13 ⊢
      replace hrb := hrb.same e_G13
      replace h_q1 := e_G13 _ _ h_q1
      replace eS := eS.trans e_G13
      replace hrb := raws_snoc (r := .one "top") hrb h_b13
      refine ⟨(by show 3 ≤ sizeLine; decide), fun b14 nb14 => ?_⟩
      have e_G14 : Same G13 (upd G13 b14 (.tup [V.str "right", .int 1, .int 2])) := new_same nb14
      have h_b14 : (upd G13 b14 (.tup [V.str "right", .int 1, .int 2])) b14 = some (.tup [V.str "right", .int 1, .int 2]) := upd_same
      generalize upd G13 b14 (.tup [V.str "right", .int 1, .int 2]) = G14 at e_G14 h_b14 ⊢
      replace hrb := hrb.same e_G14
      replace h_q1 := e_G14 _ _ h_q1
      replace eS := eS.trans e_G14
      replace hrb := raws_snoc (r := .three "right" 1 2) hrb h_b14
      refine ⟨(by show 3 ≤ sizeLine; decide), fun b15 nb15 => ?_⟩
      have e_G15 : Same G14 (upd G14 b15 (.tup [V.str "end", .int 1, .int 1])) := new_same nb15
      have h_b15 : (upd G14 b15 (.tup [V.str "end", .int 1, .int 1])) b15 = some (.tup [V.str "end", .int 1, .int 1]) := upd_same
      generalize upd G14 b15 (.tup [V.str "end", .int 1, .int 1]) = G15 at e_G15 h_b15 ⊢
      replace hrb := hrb.same e_G15
      replace h_q1 := e_G15 _ _ h_q1
      replace eS := eS.trans e_G15
      replace hrb := raws_snoc (r := .three "end" 1 1) hrb h_b15
      refine ⟨(by show 0 ≤ sizeLine; decide), fun b16 nb16 => ?_⟩
      have e_G16 : Same G15 (upd G15 b16 (.tup [])) := new_same nb16
      have h_b16 : (upd G15 b16 (.tup [])) b16 = some (.tup []) := upd_same
      generalize upd G15 b16 (.tup []) = G16 at e_G16 h_b16 ⊢
      replace hrb := hrb.same e_G16
      replace h_q1 := e_G16 _ _ h_q1
      replace eS := eS.trans e_G16
      replace hrb := raws_snoc (r := .nil) hrb h_b16
      refine ⟨(by show 8 ≤ sizeLine; decide), fun q2 nq2 => ?_⟩
      have e_Gc : Same G16 (upd G16 q2 (.lst [V.ref b9, V.ref b10, V.ref b11, V.ref b12, V.ref b13, V.ref b14, V.ref b15, V.ref b16])) := new_same nq2
      have h_q2 : (upd G16 q2 (.lst [V.ref b9, V.ref b10, V.ref b11, V.ref b12, V.ref b13, V.ref b14, V.ref b15, V.ref b16])) q2 = some (.lst [V.ref b9, V.ref b10, V.ref b11, V.ref b12, V.ref b13, V.ref b14, V.ref b15, V.ref b16]) := upd_same
      generalize upd G16 q2 (.lst [V.ref b9, V.ref b10, V.ref b11, V.ref b12, V.ref b13, V.ref b14, V.ref b15, V.ref b16]) = Gc at e_Gc h_q2 ⊢
      replace hrb := hrb.same e_Gc
      replace h_q1 := e_Gc _ _ h_q1
      replace eS := eS.trans e_Gc
      refine ⟨q1, q2, _, _, rfl, rfl, h_q1, h_q2, by show 8 + 8 ≤ sizeLine; decide, fun q3 nq3 => ?_⟩
      have q3a := (rg4.same eS).off nq3
      have e_Gd : Same Gc (upd Gc q3 (.lst ([V.ref b1, V.ref b2, V.ref b3, V.ref b4, V.ref b5, V.ref b6, V.ref b7, V.ref b8] ++ [V.ref b9, V.ref b10, V.ref b11, V.ref b12, V.ref b13, V.ref b14, V.ref b15, V.ref b16]))) := new_same nq3
      have h_q3 : (upd Gc q3 (.lst ([V.ref b1, V.ref b2, V.ref b3, V.ref b4, V.ref b5, V.ref b6, V.ref b7, V.ref b8] ++ [V.ref b9, V.ref b10, V.ref b11, V.ref b12, V.ref b13, V.ref b14, V.ref b15, V.ref b16]))) q3 = some (.lst ([V.ref b1, V.ref b2, V.ref b3, V.ref b4, V.ref b5, V.ref b6, V.ref b7, V.ref b8] ++ [V.ref b9, V.ref b10, V.ref b11, V.ref b12, V.ref b13, V.ref b14, V.ref b15, V.ref b16])) := upd_same
      generalize upd Gc q3 (.lst ([V.ref b1, V.ref b2, V.ref b3, V.ref b4, V.ref b5, V.ref b6, V.ref b7, V.ref b8] ++ [V.ref b9, V.ref b10, V.ref b11, V.ref b12, V.ref b13, V.ref b14, V.ref b15, V.ref b16])) = Gd at e_Gd h_q3 ⊢
      replace hrb := hrb.same e_Gd
      replace eS := eS.trans e_Gd
      have hrL : RawsOf K Gd ([V.ref b1, .ref b2, .ref b3, .ref b4, .ref b5, .ref b6, .ref b7, .ref b8] ++ [V.ref b9, .ref b10, .ref b11, .ref b12, .ref b13, .ref b14, .ref b15, .ref b16]) badsR := hrb
      have rgd := rg4.same eS
      have hqd := eS _ _ hq
      have hsd := hs.same eS
      generalize [V.ref b1, .ref b2, .ref b3, .ref b4, .ref b5, .ref b6, .ref b7, .ref b8] ++ [V.ref b9, .ref b10, .ref b11, .ref b12, .ref b13, .ref b14, .ref b15, .ref b16] = L16 at hrL h_q3
      have lL : L16.length = 16 := Paired.length hrL
      have kk4 := kk.same1 eS
      have ly := Paired.length hsd
      have t18' : ys.length ≤ 20 := by omega
      refine ⟨_, rfl, .inl ⟨rfl, _, SqL.of hqd⟩, ?_⟩
      refine ⟨_, rfl, _, rfl, q, _, rfl, .inl (SqL.of hqd), _, _, rfl, rfl, a, _, _, rfl, rgd, by omega, by omega, log9 (a := 20) (by omega) (by decide), fun H5 d5 kp5 rg5 d50 d51 => ?_⟩
      replace hqd := kp5 _ _ qa qa hqd
      replace h_q3 := kp5 _ _ q3a q3a h_q3
      replace hrL := rgd.raws kp5 hrL
      replace hsd := rgd.raws kp5 hsd
      refine ⟨_, rfl, _, rfl, a, _, 16, rfl, rg5, by omega, by decide, by decide, fun H6 d6 kp6 rg6 d60 d61 => ?_⟩
      replace hqd := kp6 _ _ qa qa hqd
      replace h_q3 := kp6 _ _ q3a q3a h_q3
      replace hrL := rg5.raws kp6 hrL
      replace hsd := rg5.raws kp6 hsd
      obtain ⟨y, hy⟩ : ∃ y, L16[d6.toNat]? = some y := ⟨_, List.getElem?_eq_getElem (by omega)⟩
      obtain ⟨r, hr1, hr2⟩ := paired_at hrL hy
      have rb := List.mem_of_getElem? hr1
      refine ⟨q3, _, _, _, rfl, rfl, SqL.of h_q3, at_of (j := d6.toNat) (by omega) hy, ?_⟩
      refine ⟨q, ys, d5, y, rfl, rfl, hqd, lt_line (by omega), d50, by omega, ?_⟩
      refine ⟨_, _, _, ss.take d5.toNat ++ [r] ++ ss.drop d5.toNat, rfl, ((kk4.trans kp5).trans kp6).freeU nq, (rng_upd rg6 qa).more (by omega), upd_same, RawsOf.atL hqd (paired_ins hsd hr2 d5.toNat), ?_, fun r' hr' => ?_, fun _ => ⟨r, ?_, (bads_ok rb).1⟩⟩
      · rw [len_ins _ _ (by omega)]
        omega
      · rcases mem_ins hr' with z | z
        · rw [z]
          exact (bads_ok rb).2
        · exact ms r' z
      · exact List.mem_append_left _ (List.mem_append_right _ (List.mem_singleton.mpr rfl))
    · obtain ⟨v3, v4, ys, ss, rfl, kk, rg4, hq, hs, ls, ms, ng⟩ := h
      have ly := Paired.length hs
      refine ⟨_, rfl, _, rfl, q, _, rfl, SqL.of hq, fun q4 nq4 => ?_⟩
      rw [cutAll (show ys.length ≤ 20 by omega)]
      have q4a := rg4.off nq4
      have kk0 := kk
      have e_H5 : Same H4 (upd H4 q4 (.lst ys)) := new_same nq4
      have h_q4 : (upd H4 q4 (.lst ys)) q4 = some (.lst ys) := upd_same
      generalize upd H4 q4 (.lst ys) = H5 at e_H5 h_q4 ⊢
      replace hs := hs.same e_H5
      replace rg4 := rg4.same e_H5
      replace kk := kk.same1 e_H5
      refine ⟨_, rfl, q4, ys, rfl, SqL.of h_q4, for_it (walk_enum (K := K) (a := q4) (xs := ys)) (fun i σ H' => ∃ v5 v6 v7 : Option V, σ = [some (.ref a), some (.ref l), some (.ref q4), v3, v4, v5, v6, v7] ∧ Same H5 H' ∧ ∀ j r, j < i → ss[j]? = some r → r.good = true)
        ⟨none, none, none, rfl, Same.refl H5, fun j r z => absurd z (Nat.not_lt_zero _)⟩ (fun i σ H' _ h => by obtain ⟨_, _, _, _, e, _⟩ := h; exact SqL.of (e _ _ h_q4)) (fun i x σ H6 H7 hi h y => ?_) (fun σ H6 h => ?_)⟩
      · obtain ⟨v5, v6, v7, rfl, e6, gd⟩ := h
        obtain ⟨T1, x1, y1, rfl, nT, rfl, e1, e2⟩ := y
        obtain rfl := Option.some.inj e1
        obtain ⟨r, hr1, hr2⟩ := paired_at hs e2
        have eT := new_same (o := HO.tup [.int (i : Nat), y1]) nT
        have e67 := e6.trans eT
        replace hr2 := hr2.same e67
        refine ⟨T1, _, rfl, SqT.of upd_same, rfl, _, _, rfl, _, _, rfl, rfl, ?_⟩
        generalize upd H6 T1 (.tup [.int (i : Nat), y1]) = H7 at e67 hr2 ⊢
        refine ⟨_, rfl, (by show 1 ≤ sizeLine; decide), fun c1 nc1 => ?_⟩
        have e_H8 : Same H7 (upd H7 c1 (.tup [V.str "home"])) := new_same nc1
        have h_c1 : (upd H7 c1 (.tup [V.str "home"])) c1 = some (.tup [V.str "home"]) := upd_same
        generalize upd H7 c1 (.tup [V.str "home"]) = H8 at e_H8 h_c1 ⊢
        replace hr2 := hr2.same e_H8
        replace e67 := e67.trans e_H8
        refine ⟨(by show 1 ≤ sizeLine; decide), fun c2 nc2 => ?_⟩
        have e_H9 : Same H8 (upd H8 c2 (.tup [V.str "end"])) := new_same nc2
        have h_c2 : (upd H8 c2 (.tup [V.str "end"])) c2 = some (.tup [V.str "end"]) := upd_same
        generalize upd H8 c2 (.tup [V.str "end"]) = H9 at e_H9 h_c2 ⊢
        replace hr2 := hr2.same e_H9
        replace e67 := e67.trans e_H9
        replace h_c1 := e_H9 _ _ h_c1
        refine ⟨(by show 2 ≤ sizeLine; decide), fun c3 nc3 => ?_⟩
        have e_H10 : Same H9 (upd H9 c3 (.lst [V.ref c1, .ref c2])) := new_same nc3
        have h_c3 : (upd H9 c3 (.lst [V.ref c1, .ref c2])) c3 = some (.lst [V.ref c1, .ref c2]) := upd_same
        generalize upd H9 c3 (.lst [V.ref c1, .ref c2]) = H10 at e_H10 h_c3 ⊢
        replace hr2 := hr2.same e_H10
        replace e67 := e67.trans e_H10
        replace h_c1 := e_H10 _ _ h_c1
        replace h_c2 := e_H10 _ _ h_c2
        refine ⟨rawD r, loneD, hr2.dp, .lst (SqL.of h_c3) (.cons (.tup (SqT.of h_c1) (.cons (.str "home") .nil)) (.cons (.tup (SqT.of h_c2) (.cons (.str "end") .nil)) .nil)), (ms r (List.mem_of_getElem? hr1)).1, lone_shaped, ?_⟩
        rw [lone_in]
        refine ⟨fun σ H' => σ = [some (.ref a), some (.ref l), some (.ref q4), v3, v4, some (.int (i : Nat)), some y1, some (.bl r.good)] ∧ Same H5 H', ?_, ?_⟩
        · obtain ⟨p, rfl, hp⟩ := hr2
          cases r with
          | nil => exact ⟨_, rfl, p, _, rfl, .inr hp, rfl, _, rfl, iteF ⟨rfl, e67⟩⟩
          | one n => exact ⟨_, rfl, p, _, rfl, .inr hp, rfl, _, rfl, iteF ⟨rfl, e67⟩⟩
          | three n j m => exact ⟨_, rfl, p, _, rfl, .inr hp, rfl, _, rfl, iteF ⟨rfl, e67⟩⟩
          | two n j =>
            refine ⟨_, rfl, p, _, rfl, .inr hp, rfl, _, rfl, iteT ?_⟩
            refine ⟨_, rfl, p, _, 0, _, rfl, rfl, hp, rfl, (by show 4 ≤ sizeLine; decide), fun c4 nc4 => ?_⟩
            have e4 := new_same (o := HO.lst [V.str "down", .str "up", .str "right", .str "left"]) nc4
            have gd2 : Raw.good (.two n j) = (inV (.str n) withN && decide (1 ≤ j)) := rfl
            refine ⟨c4, _, rfl, .inl (SqL.of upd_same), rfl, rfl, inV (.str n) withN, rfl, ?_⟩
            cases hb : inV (.str n) withN with
            | false =>
              rw [hb] at gd2
              exact iteF ⟨by rw [gd2]; rfl, e67.trans e4⟩
            | true =>
              rw [hb, Bool.true_and] at gd2
              refine iteT ⟨_, rfl, p, _, 1, _, rfl, rfl, seq_t e4 hp, rfl, _, _, rfl, rfl, ?_⟩
              exact ⟨by rw [gd2, show decide (1 ≤ j) = decide ((0 : Int) < j) from decide_eq_decide.mpr ⟨fun z => by omega, fun z => by omega⟩]; rfl, e67.trans e4⟩
        · rintro σ Hm ⟨rfl, em⟩
          cases hg : r.good with
          | true =>
            refine ⟨_, rfl, _, rfl, iteF ⟨_, _, _, rfl, em, fun j r' hj hr' => ?_⟩⟩
            by_cases ji : j = i
            · rw [ji, hr1] at hr'
              cases hr'
              exact hg
            · exact gd j r' (by omega) hr'
          | false =>
            refine ⟨_, rfl, _, rfl, iteT ⟨_, rfl, _, rfl, (by show 2 ≤ sizeLine; decide), fun p np => ?_⟩⟩
            have emp := em.trans (new_same (o := HO.lst [.ref q4, .int (i : Nat)]) np)
            exact k _ p q4 ys ss i (kk.same1 emp) ((rg4.same emp).more (by omega)) upd_same q4a (kk0.freeK q4a nq4) (emp _ _ h_q4) (hs.same emp) ms (by omega) (bad_at hr1 hg gd)
      · obtain ⟨v5, v6, v7, rfl, e6, gd⟩ := h
        obtain ⟨rb, hrb, gb⟩ := ng (by omega)
        obtain ⟨jb, hjb, eb⟩ := List.mem_iff_getElem.mp hrb
        rw [gd jb rb (by omega) (by rw [List.getElem?_eq_getElem hjb, eb])] at gb
        cases gb
end
end Gc

/-! own classes: instances made, methods, properties; all of them may raise -/
namespace L2
open PySem PySem.Spec PyProof.Rows
/-- a method of the class at C -/
structure Mth (P : Program) (w : World) (K : PySem.W.Frag) (mg : Str → Option Value) (base : Heap) (CX : CXT) (k : Nat) (C : Addr) (m : Str) (sp : Sp) : Prop where
  cls : Cls K C
  ex : ∃ (f : Addr) (fd : FuncData) (ps : List Str), Meth K C m f ∧ FnOk P w K mg base CX k f fd ps sp ∧ Binds K fd ps []
/-- .. called by names alone -/
structure MthK (P : Program) (w : World) (K : PySem.W.Frag) (mg : Str → Option Value) (base : Heap) (CX : CXT) (k : Nat) (C : Addr) (m : Str) (ks : List Str) (sp : Sp) : Prop where
  cls : Cls K C
  ex : ∃ (f : Addr) (fd : FuncData) (ps : List Str), Meth K C m f ∧ FnOk P w K mg base CX k f fd ps sp ∧ KBn K fd ps 1 ks Gc.gRev Gc.gRev
/-- the class x, with its __init__ -/
structure Mak (P : Program) (w : World) (K : PySem.W.Frag) (mg : Str → Option Value) (base : Heap) (CX : CXT) (k : Nat) (x : Str) (C : Addr) (sp : Sp) : Prop where
  g : mg x = some (.ref C)
  ex : ∃ (f : Addr) (fd : FuncData) (ps : List Str), Mk K C f ∧ FnOk P w K mg base CX k f fd ps sp ∧ Binds K fd ps []
structure MakK (P : Program) (w : World) (K : PySem.W.Frag) (mg : Str → Option Value) (base : Heap) (CX : CXT) (k : Nat) (x : Str) (C : Addr) (ks : List Str) (sp : Sp) : Prop where
  g : mg x = some (.ref C)
  ex : ∃ (f : Addr) (fd : FuncData) (ps : List Str), Mk K C f ∧ FnOk P w K mg base CX k f fd ps sp ∧ KBn K fd ps 1 ks Gc.gRev Gc.gRev
/-- a property -/
structure Prp (P : Program) (w : World) (K : PySem.W.Frag) (mg : Str → Option Value) (base : Heap) (k : Nat) (C : Addr) (m : Str) (sp : Sp) : Prop where
  cls : Cls K C
  ex : ∃ (p f : Addr) (fd : FuncData) (ps : List Str), PropOf K C m p f ∧ FnOk P w K mg base CX0 k f fd ps sp ∧ Binds K fd ps []
theorem bindsN {K : PySem.W.Frag} {x qual : Str} {st : Stmt} {f : Addr} {fd : FuncData} {ps ks : List Str} {n : Nat} (F : Fun K x qual st f fd)
    (h : ∀ (kV doc pm : Value) (an : Option Addr) (cdv ct : Value) (us ws : List Value), us.length = n → ws.length = ks.length → bindArgs (PySem.W.fnOf x qual (defArgs st) (defBody st) (defScope st) .none kV doc pm an cdv ct) ⟨us, ks.zip ws⟩ = pure (ps.zip (Gc.gRev us ws))) : KBn K fd ps n ks Gc.gRev Gc.gRev := by
  obtain ⟨oc, od, kV, doc, pm, an, cdv, ct, osl, rfl, lk, hcd⟩ := F.ex
  exact ⟨fun s us ws _ h1 h2 => .of_eq (h kV doc pm an cdv ct us ws h1 h2), fun a b => a.append (Gc.vals_rev b)⟩
section
variable {X : Cx} {k j : Nat} {f C : Addr} {fd : FuncData} {ps ks : List Str} {sp : Sp} {W : WX} {x m : Str} {p pos apos : Pos} {e o : Expr} {es : List Expr} {kws : List Keyword} {ta : TE} {t tk : TA} {pl : Sem Bool}
def tMX (C : Addr) (m : Str) (sp : Sp) (W : WX) (ta : TE) (t : TA) : TE := fun σ H Q => ta σ H fun x H1 => ∃ a dx fs, x = .ref a ∧ H1 a = some (.ins C dx fs) ∧ fs.lookup m = none ∧ t σ H1 fun vs H2 => sp (x :: vs) H2 Q (WE W σ)
def tMKX (C : Addr) (m : Str) (n : Nat) (sp : Sp) (W : WX) (ta : TE) (t : TA) : TE := fun σ H Q => ta σ H fun x H1 => ∃ a dx fs, x = .ref a ∧ H1 a = some (.ins C dx fs) ∧ fs.lookup m = none ∧ t σ H1 fun zs H2 => zs.length = n ∧ sp (Gc.gRev [x] zs) H2 Q (WE W σ)
/-- o.m(e, ..), m may raise -/
theorem pe_mthX (tk : Takes X W) (c : Mth X.prog X.w X.K X.mg X.base (L2.CX X.prog X.w) k C m sp) (hr : Room j X.A) (hk : k ≤ j) (he : PE X o ta) (ha : PA X (e :: es) t)
    (hst : starEach (e :: es) X.env = (false, eval e X.env) :: starEach es X.env := by rfl) (hpl : (backTo pos (starEach es X.env)).any (·.1) = false := by rfl)
    (ht : eval (.Call (.Attribute o m apos) (e :: es) [] pos) X.env = (do
      let ov ← eval o X.env
      standAt apos.atName
      let (f, first) ← holding [ov] (getMethod ov m pl)
      callWith pos f first (backTo pos (starEach (e :: es) X.env)) (backToKw pos (keywordEach [] X.env))) := by rfl) :
    PE X (.Call (.Attribute o m apos) (e :: es) [] pos) (tMX C m sp W ta t) := by
  obtain ⟨cl, f, fd, ps, hm, F, hb⟩ := c
  refine ⟨fun pins s σ H Q I h => ?_⟩
  refine PySem.W.methodCall_KW (pl := pl) (thn (he.run pins s σ H _ I h) fun u s1 ⟨x, H1, I1, rx, a, dx, fs, ex, ea, l, q⟩ => ?_) ht
  subst ex
  obtain rfl : u = Value.ref a := rx
  refine getmeth_ok I1 ea cl hm l ?_
  refine PySem.W.callWith_K (first := [.ref a]) (h₀ := X.base) I.ok.mod.kin hm.kp (thn (ha.run pos pins s1 σ H1 _ I1 q) fun us s2 ⟨vs, H2, I2, r, q2⟩ => ⟨I2.kIn, ?_⟩) hst hpl
  exact run_fnS (us := .ref a :: us) (vs := .ref a :: vs) F (hr.mono hk) hb (passAt tk σ) I2 (.cons rfl r) q2
/-- o.m(), m may raise -/
theorem pe_mthX0 (tk : Takes X W) (c : Mth X.prog X.w X.K X.mg X.base (L2.CX X.prog X.w) k C m sp) (hr : Room j X.A) (hk : k ≤ j) (he : PE X o ta)
    (ht : eval (.Call (.Attribute o m apos) [] [] pos) X.env = (do
      let ov ← eval o X.env
      standAt apos.atName
      let (f, first) ← holding [ov] (getMethod ov m pl)
      callWith pos f first (backTo pos (starEach [] X.env)) (backToKw pos (keywordEach [] X.env))) := by rfl) :
    PE X (.Call (.Attribute o m apos) [] [] pos) (tMX C m sp W ta tNil) := by
  obtain ⟨cl, f, fd, ps, hm, F, hb⟩ := c
  refine ⟨fun pins s σ H Q I h => ?_⟩
  refine PySem.W.methodCall_KW (pl := pl) (thn (he.run pins s σ H _ I h) fun u s1 ⟨x, H1, I1, rx, a, dx, fs, ex, ea, l, q⟩ => ?_) ht
  subst ex
  obtain rfl : u = Value.ref a := rx
  refine getmeth_ok I1 ea cl hm l ?_
  exact PySem.W.callWith_K0 (first := [.ref a]) I1.kIn hm.kp (run_fnS (us := [.ref a]) (vs := [.ref a]) F (hr.mono hk) hb (passAt tk σ) I1 (.cons rfl .nil) q)
/-- o.m(k = v, ..), m may raise -/
theorem pe_mthKX (tk : Takes X W) (c : MthK X.prog X.w X.K X.mg X.base (L2.CX X.prog X.w) k C m ks sp) (hr : Room j X.A) (hk : k ≤ j) (he : PE X o ta) (hkw : PK X kws t)
    (hall : (backToKw pos (keywordEach kws X.env)).all (·.1.isSome) = true := by rfl) (hks : (backToKw pos (keywordEach kws X.env)).filterMap (·.1) = ks := by rfl)
    (hpn : ((backTo pos (starEach [] X.env)).any (·.1) || (backToKw pos (keywordEach kws X.env)).any (·.1.isNone)) = false := by rfl)
    (ht : eval (.Call (.Attribute o m apos) [] kws pos) X.env = (do
      let ov ← eval o X.env
      standAt apos.atName
      let (f, first) ← holding [ov] (getMethod ov m pl)
      callWith pos f first (backTo pos (starEach [] X.env)) (backToKw pos (keywordEach kws X.env))) := by rfl) :
    PE X (.Call (.Attribute o m apos) [] kws pos) (tMKX C m ks.length sp W ta t) := by
  obtain ⟨cl, f, fd, ps, hm, F, b⟩ := c
  refine ⟨fun pins s σ H Q I h => ?_⟩
  refine PySem.W.methodCall_KW (pl := pl) (thn (he.run pins s σ H _ I h) fun u s1 ⟨x, H1, I1, rx, a, dx, fs, ex, ea, l, q⟩ => ?_) ht
  subst ex
  obtain rfl : u = Value.ref a := rx
  refine getmeth_ok I1 ea cl hm l ?_
  refine PySem.W.callWith_KW0 (first := [.ref a]) (h₀ := X.base) I.ok.mod.kin hm.kp hall ?_ hpn
  refine thn (hkw.run pos pins s1 σ H1 _ I1 q) fun ws s2 ⟨zs, H2, I2, rz, lz, q2⟩ => ⟨I2.kIn, ?_⟩
  rw [hks]
  have r1 : Vals [V.ref a] [Value.ref a] := .cons rfl .nil
  have r2 := b.rel r1 rz
  refine wpAny_call (codeAny_mono (F.run X.A X.stack s2 H2 ⟨[.ref a], ks.zip ws⟩ (Gc.gRev [.ref a] ws) (Gc.gRev [.ref a] zs) Q (WE W σ) (hr.mono hk) I2.env0 (b.to s2 [.ref a] ws I2.kIn rfl (rz.length.symm.trans lz)) r2 q2) fun how s3 end_ => ?_)
  cases how with
  | error u => exact passAt tk σ pins H2 s2 u s3 I2 end_
  | ok fl =>
    cases fl with
    | ret u => exact I2.after end_
    | next => exact False.elim end_
    | brk => exact False.elim end_
    | cont => exact False.elim end_
def tMakX (C : Addr) (sp : Sp) (W : WX) (t : TA) : TE := fun σ H Q => t σ H fun vs H1 => ∀ x dx, H1 x = none → H1 dx = none → dx ≠ x →
  sp (.ref x :: vs) (upd (upd H1 dx (.own x)) x (.ins C dx [])) (fun v H2 => v = .non ∧ Q (.ref x) H2) (WE W σ)
def tMakKX (C : Addr) (m : Nat) (sp : Sp) (W : WX) (t : TA) : TE := fun σ H Q => t σ H fun zs H1 => zs.length = m ∧ ∀ x dx, H1 x = none → H1 dx = none → dx ≠ x →
  sp (Gc.gRev [.ref x] zs) (upd (upd H1 dx (.own x)) x (.ins C dx [])) (fun v H2 => v = .non ∧ Q (.ref x) H2) (WE W σ)
theorem madePass {X : Cx} {pins : List (Addr × Obj)} {σ : St} {H : Hp} {s : Shared} (tk : Takes X W) (I : Inv X pins σ H s) {u : Value} {s2 : Shared} (c : L2.CX X.prog X.w X.stack H s (WE W σ) u s2) : X.xe u s2 := passAt tk σ pins H s u s2 I c
/-- C(e, ..), __init__ may raise -/
theorem pe_makX (tk : Takes X W) (c : Mak X.prog X.w X.K X.mg X.base (L2.CX X.prog X.w) k x C sp) (hr : Room j X.A) (hk : k + 1 ≤ j) (hg : Gl X x) (ha : PA X (e :: es) t)
    (hdb : (x == ("__debug__" : Str)) = false := by decide) (he : starEach (e :: es) X.env = (false, eval e X.env) :: starEach es X.env := by rfl) (hpl : (backTo pos (starEach es X.env)).any (·.1) = false := by rfl) :
    PE X (.Call (.Name x p) (e :: es) [] pos) (tMakX C sp W t) := by
  obtain ⟨hm, f, fd, ps, M, F, hb⟩ := c
  refine ⟨fun pins s0 σ H0 Q I0 h0 => ?_⟩
  refine wpAny_Call_Name_kw (ld_glob I0 hg hm ?_ hdb)
  refine PySem.W.callWith_K (h₀ := X.base) I0.ok.mod.kin M.kp (thn (ha.run pos pins s0 σ H0 _ I0 h0) fun us s ⟨vs, H, I, r, h⟩ => ⟨I.kIn, ?_⟩) he hpl
  have hq := h (s.heap.objs.size + 1) s.heap.objs.size (I.hok.fresh (Nat.le_succ _)) (I.hok.fresh (Nat.le_refl _)) (Nat.ne_of_lt (Nat.lt_succ_self _))
  have I2 := Inv.made (C := C) I
  have r2 : Vals (V.ref (s.heap.objs.size + 1) :: vs) (Value.ref (s.heap.objs.size + 1) :: us) := .cons rfl r
  have hl : (Value.ref (s.heap.objs.size + 1) :: us ++ []).length = ps.length := by
    rw [List.append_nil, ← r2.length]
    exact F.len _ _ _ _ hq
  have b := hb _ (Value.ref (s.heap.objs.size + 1) :: us) I2.kIn hl
  rw [List.append_nil] at b
  refine wpAny_call (make_map (f := f) I.kIn M.makes M.init (beq_iff_eq.mp M.fn) (codeAny_mono (F.run _ X.stack _ _ ⟨Value.ref (s.heap.objs.size + 1) :: us, []⟩ (Value.ref (s.heap.objs.size + 1) :: us) _ _ (WE W σ) ((hr.mono hk).make C us [])
    (I2.env0.make C us []) b r2 hq) fun r s' hq' => ?_))
  cases r with
  | error e => exact madePass tk I2 hq'
  | ok fl =>
    cases fl with
    | ret u =>
      obtain ⟨v, H', I3, rv, ev, q3⟩ := I2.after hq'
      subst ev
      exact ⟨rv, ⟨V.ref (s.heap.objs.size + 1), H', I3, rfl, q3⟩⟩
    | next => exact False.elim hq'
    | brk => exact False.elim hq'
    | cont => exact False.elim hq'
/-- C(k = v, ..), __init__ may raise -/
theorem pe_makKX (tk : Takes X W) (c : MakK X.prog X.w X.K X.mg X.base (L2.CX X.prog X.w) k x C ks sp) (hr : Room j X.A) (hk : k + 1 ≤ j) (hg : Gl X x) (hkw : PK X kws t)
    (hdb : (x == ("__debug__" : Str)) = false := by decide) (hall : (backToKw pos (keywordEach kws X.env)).all (·.1.isSome) = true := by rfl) (hks : (backToKw pos (keywordEach kws X.env)).filterMap (·.1) = ks := by rfl)
    (hpl : ((backTo pos (starEach [] X.env)).any (·.1) || (backToKw pos (keywordEach kws X.env)).any (·.1.isNone)) = false := by rfl) :
    PE X (.Call (.Name x p) [] kws pos) (tMakKX C ks.length sp W t) := by
  obtain ⟨hm, f, fd, ps, M, F, hb⟩ := c
  refine ⟨fun pins s0 σ H0 Q I0 h0 => ?_⟩
  refine wpAny_Call_Name_kw (ld_glob I0 hg hm ?_ hdb)
  refine PySem.W.callWith_KW0 (h₀ := X.base) I0.ok.mod.kin M.kp hall ?_ hpl
  refine thn (hkw.run pos pins s0 σ H0 _ I0 h0) fun ws s ⟨zs, H, I, rz, l2, h⟩ => ⟨I.kIn, ?_⟩
  rw [hks]
  have hq := h (s.heap.objs.size + 1) s.heap.objs.size (I.hok.fresh (Nat.le_succ _)) (I.hok.fresh (Nat.le_refl _)) (Nat.ne_of_lt (Nat.lt_succ_self _))
  have I2 := Inv.made (C := C) I
  have r1 : Vals [V.ref (s.heap.objs.size + 1)] [Value.ref (s.heap.objs.size + 1)] := .cons rfl .nil
  have r2 := hb.rel r1 rz
  refine wpAny_call (make_map (f := f) I.kIn M.makes M.init (beq_iff_eq.mp M.fn) (codeAny_mono (F.run _ X.stack _ _ ⟨[Value.ref (s.heap.objs.size + 1)], ks.zip ws⟩ (Gc.gRev [Value.ref (s.heap.objs.size + 1)] ws) _ _ (WE W σ) ((hr.mono hk).make C [] (ks.zip ws))
    (I2.env0.make C [] (ks.zip ws)) (hb.to _ [Value.ref (s.heap.objs.size + 1)] ws I2.kIn rfl (rz.length.symm.trans l2)) r2 hq) fun r s' hq' => ?_))
  cases r with
  | error e => exact madePass tk I2 hq'
  | ok fl =>
    cases fl with
    | ret u =>
      obtain ⟨v, H', I3, rv, ev, q3⟩ := I2.after hq'
      subst ev
      exact ⟨rv, ⟨V.ref (s.heap.objs.size + 1), H', I3, rfl, q3⟩⟩
    | next => exact False.elim hq'
    | brk => exact False.elim hq'
    | cont => exact False.elim hq'
/-- o.m, a property -/
theorem pe_prp (c : Prp X.prog X.w X.K X.mg X.base k C m sp) (hr : Room j X.A) (hk : k + 1 ≤ j) (he : PE X o ta) (hab : attributeBase o m X.env (eval o X.env) = eval o X.env) : PE X (.Attribute o m pos) (tProp C sp [] E0 ta) := by
  obtain ⟨cl, p, f, fd, ps, hp, F, hb⟩ := c
  exact pe_prop he cl hp F (hr.mono hk) hb .nil pass0 hab
end
end L2

/-! the class Box: made, asked, counted -/
namespace Gc
open PySem L2
abbrev s_box_init : Stmt := inClass (top 24) 0
abbrev s_box_questions : Stmt := inClass (top 24) 1
abbrev s_box_answer : Stmt := inClass (top 24) 2
structure TxtBx (K : PySem.W.Frag) (mg : Str → Option Value) (CB : Addr) : Prop where
  list : mg "list" = none
  cl : Cls K CB
  n1 : NoAttr K CB "_commands"
  n2 : NoAttr K CB "_questions"
/-- a box: the address of its commands, how often it was asked -/
def BoxAt (H : Hp) (x CB dx l : Addr) (n : Int) : Prop := H x = some (.ins CB dx [("_commands", .ref l), ("_questions", .int n)])
@[irreducible] def zRunU (K : PySem.W.Frag) (cs : Nat → Addr) : Sp := spRunU K cs
theorem zRunU_eq (K : PySem.W.Frag) (cs : Nat → Addr) : zRunU K cs = spRunU K cs := by unfold zRunU; rfl
def spBoxInit (K : PySem.W.Frag) (CB CM : Addr) : Sp := fun vs H Q E => ∃ (x dx l : Addr) (xs : List V) (rs : List Raw), vs = [.ref x, .ref l] ∧ H x = some (.ins CB dx []) ∧ SqL K H l xs ∧ RawsOf K H xs rs ∧ (∀ i, badAt rs = some i → Err E CM (.int (i : Nat)) H) ∧
  (badAt rs = none → ∀ (H' : Hp) (p : Addr), Keep x x H H' → H p = none → BoxAt H' x CB dx p 0 → H' p = some (.lst xs) → Q .non H')
def spQuestions (CB : Addr) : Sp := fun vs H Q _ => ∃ (x dx l : Addr) (n : Int), vs = [.ref x] ∧ BoxAt H x CB dx l n ∧ Q (.int n) H
def spAnswer (K : PySem.W.Frag) (CB : Addr) (cs : Nat → Addr) : Sp := fun vs H Q E => ∃ (x dx t b l : Addr) (n : Int), vs = [.ref x, .ref t, .ref b] ∧ BoxAt H x CB dx l n ∧
  ((∃ (T : List Int) (r : Int) (g : Option Int) (xs : List V) (rs : List Raw) (i : Nat) (v : V), SqL K H t (T.map V.int) ∧ SqT K H b [.int r, optV g] ∧ SqL K H l xs ∧ RawsOf K H xs rs ∧ BadRun b T r g rs i v ∧ Err E (cs i) v H) ∨
   ∃ (T : List Int) (r : Int) (g : Option Int) (xs : List V) (es : List Cmd), SqL K H t (T.map V.int) ∧ SqT K H b [.int r, optV g] ∧ SqL K H l xs ∧ CmdsOf K H xs es ∧ (∀ x ∈ T, 0 ≤ x) ∧ 0 ≤ r ∧ r < T.length ∧ ge g 0 ∧ AllOk es ∧ es.length ≤ 10000 ∧
    (∀ m, failAt T r g es = some m → ∀ H', Keep x x H H' → BoxAt H' x CB dx l (n + 1) → Q .non H') ∧
    ∀ r' g', afterL T r g es = some (r', g') → ∀ (H' : Hp) (p : Addr), Keep x x H H' → BoxAt H' x CB dx l (n + 1) → SqT K H' p [.int r', optV g'] → Q (.ref p) H')
theorem tup_ins {K : PySem.W.Frag} {H : Hp} {x C dx p : Addr} {fs : List (Str × V)} {o : HO} {xs : List V} (hx : H x = some (.ins C dx fs)) (h1 : SqT K H p xs) : SqT K (upd H x o) p xs := by
  rcases h1 with (z | ⟨o, z⟩) | z
  · exact .inl (.inl (by rw [upd_ne (ne_of z hx (by intro q; cases q))]; exact z))
  · exact .inl (.inr ⟨o, by rw [upd_ne (ne_of z hx (by intro q; cases q))]; exact z⟩)
  · exact .inr z
section
variable {P : Program} {w : World} {K : PySem.W.Frag} {mg : Str → Option Value} {base : Heap} {CB CM : Addr} {cs : Nat → Addr}
theorem sc_Box___init__ : FnScope ["self", "commands"] ["self", "commands"] (defScope s_box_init) := ⟨rfl, rfl, rfl, by decide +kernel, rfl, by decide +kernel, by decide +kernel⟩
theorem ok_box_init {f : Addr} {fd : FuncData} (F : Fun K "__init__" "Box.__init__" s_box_init f fd) (T : TxtBx K mg CB) (c_check_commands : CalX P w K mg base 3 "check_commands" (spCheckX K CM)) : FnOk P w K mg base (L2.CX P w) 4 f fd ["self", "commands"] (spBoxInit K CB CM) := by
  refine F.okX sc_Box___init__ (fun vs H Q E h => ?_) (fun cdv A outer s H vs Q E hr h => ?_)
  · obtain ⟨x, dx, l, xs, rs, rfl, _⟩ := h
    rfl
  · obtain ⟨x, dx, l, xs, rs, rfl, hx, hl, hrs, kb, kg⟩ := h
    refine ⟨_, (pss_cons (ps_expr (pe_calX (takes_of rfl rfl rfl rfl) c_check_commands hr (by decide) (by rfl) (pa_cons (pv 1) pa_nil)))
      (pss_cons (ps_fld (pv 0) (pe_callTy call_list_of (by rfl) T.list (by decide +kernel) (pa_cons (pv 1) pa_nil)) rfl)
      (pss_one (ps_fld (pv 0) pe_int rfl)))), ?_⟩
    refine ⟨_, rfl, l, xs, rs, rfl, hl, hrs, kb, fun hg H1 e1 => ?_⟩
    replace kg := kg hg
    refine ⟨_, rfl, l, xs, rfl, .inl (e1.seq hl), fun p np => ?_⟩
    have px : p ≠ x := fun z => by
      rw [z, e1 _ _ hx] at np
      cases np
    have k1 : Keep x x H (upd H1 p (.lst xs)) := Keep.of (e1.trans (new_same np))
    refine ⟨_, rfl, x, CB, dx, [], rfl, new_same np _ _ (e1 _ _ hx), T.cl, T.n1, by decide, ?_⟩
    refine ⟨_, rfl, x, CB, dx, _, rfl, upd_same, T.cl, T.n2, (by show 1 < 1000; decide), ?_⟩
    refine kg _ p (fun c o h1 h2 hc => ?_) ?_ upd_same ?_
    · rw [upd_ne h1, upd_ne h1]
      exact k1 c o h1 h2 hc
    · cases q : H p with
      | none => rfl
      | some o =>
        rw [e1 _ _ q] at np
        cases np
    · rw [upd_ne px, upd_ne px, upd_same]
theorem sc_Box_questions : FnScope ["self"] ["self"] (defScope s_box_questions) := ⟨rfl, rfl, rfl, by decide +kernel, rfl, by decide +kernel, by decide +kernel⟩
theorem ok_box_questions {f : Addr} {fd : FuncData} (F : Fun K "questions" "Box.questions" s_box_questions f fd) (T : TxtBx K mg CB) : FnOk P w K mg base CX0 1 f fd ["self"] (spQuestions CB) := by
  refine F.ok sc_Box_questions (fun vs H Q E h => ?_) (fun cdv A outer s H vs Q E hr h => ?_)
  · obtain ⟨x, dx, l, n, rfl, _⟩ := h
    rfl
  · obtain ⟨x, dx, l, n, rfl, hx, k⟩ := h
    refine ⟨_, (pss_one (ps_ret (pe_fld (pv 0) rfl))), ?_⟩
    exact ⟨_, rfl, x, CB, dx, _, _, rfl, hx, T.cl, T.n2, rfl, k⟩
theorem sc_Box_answer : FnScope ["self", "text", "cursor", "place"] ["self", "text", "cursor"] (defScope s_box_answer) := ⟨rfl, rfl, rfl, by decide +kernel, rfl, by decide +kernel, by decide +kernel⟩
theorem ok_box_answer {f : Addr} {fd : FuncData} (F : Fun K "answer" "Box.answer" s_box_answer f fd) (T : TxtBx K mg CB) (c_run : CalX P w K mg base 4 "run" (zRunU K cs)) (e_Impossible : ErrC P w K mg base "Impossible" (cs 3))
    (exI : ∀ i, i < 4 → PySem.W.exmOne K (.ref (cs i)) (.ref (cs 3)) = some (decide (i = 3))) : FnOk P w K mg base (L2.CX P w) 5 f fd ["self", "text", "cursor"] (spAnswer K CB cs) := by
  refine F.okX sc_Box_answer (fun vs H Q E h => ?_) (fun cdv A outer s H vs Q E hr h => ?_)
  · obtain ⟨x, dx, t, b, l, n, rfl, _⟩ := h
    rfl
  · obtain ⟨x, dx, t, b, l, n, rfl, hx, h⟩ := h
    refine ⟨_, (pss_cons (ps_try_only rfl rfl ⟨rfl, by decide, .inl e_Impossible.g⟩ (takes_of rfl rfl rfl rfl) (fun W pn xe tk _ => (pss_one (ps_set (i := 3) sc_Box_answer.nd rfl (Or.inl rfl) (pe_calX tk c_run hr (by decide) (by rfl) (pa_cons (pv 1) (pa_cons (pv 2) (pa_cons (show PE _ _ (tFld K (tVar 0) "_commands") from pe_fld (pv 0) rfl) pa_nil))))))) (fun a oe cls d pn _ _ => (pss_one (ps_set (i := 3) sc_Box_answer.nd rfl (Or.inl rfl) pe_non))))
      (pss_cons (ps_fldaug (pv 0) pe_int in_add)
      (pss_one (ps_ret (pv 3))))), ?_⟩
    have lk : SqL K H l [] ∨ True := .inr trivial
    refine ⟨_, rfl, _, rfl, _, rfl, x, CB, dx, _, _, rfl, hx, T.cl, T.n1, rfl, ?_⟩
    rcases h with ⟨T', r, g, xs, rs, i, v, ht, hb, hl, hrs, bad, ke⟩ | ⟨T', r, g, xs, es, ht, hb, hl, hc, nn, r0, r1, g0, ok, ln, kn, ks⟩
    · have i3 : i < 3 := by cases bad <;> omega
      show zRunU K cs [.ref t, .ref b, .ref l] H _ _
      rw [zRunU_eq]
      refine .inl ⟨t, b, l, T', r, g, xs, rs, i, v, rfl, ht, hb, hl, hrs, bad, fun H' d e nd => ?_⟩
      refine ⟨false, ?_, (fun z => nomatch z), fun _ => ke H' d e nd⟩
      have q := exI i (by omega)
      rw [decide_eq_false (by omega : ¬ i = 3)] at q
      exact q
    · show zRunU K cs [.ref t, .ref b, .ref l] H _ _
      rw [zRunU_eq]
      have fin : ∀ (H2 : Hp), Same H H2 → BoxAt (upd H2 x (.ins CB dx [("_commands", .ref l), ("_questions", .int (n + 1))])) x CB dx l (n + 1) ∧ Keep x x H (upd H2 x (.ins CB dx [("_commands", .ref l), ("_questions", .int (n + 1))])) := fun H2 e => ⟨upd_same, fun c o h1 _ hc => by rw [upd_ne h1]; exact e _ _ hc⟩
      refine .inr ⟨t, b, l, T', r, g, xs, es, rfl, ht, hb, hl, hc, nn, r0, r1, g0, ok, ln, fun m hm H' d e nd => ?_, fun r' g' ha H' p e hp => ?_⟩
      · refine ⟨true, ?_, fun _ a ha => ?_, fun z => nomatch z⟩
        · have q := exI 3 (by omega)
          exact q
        · have e2 := e.trans (new_same (o := HO.xd [("value", V.int (m : Nat))]) nd)
          refine ⟨_, rfl, x, CB, dx, _, _, rfl, e2 _ _ hx, T.cl, T.n2, rfl, _, _, rfl, rfl, _, _, e2 _ _ hx, (by show 2 < 1000; decide), ?_⟩
          exact ⟨_, rfl, kn m hm _ (fin _ e2).2 (fin _ e2).1⟩
      · refine ⟨_, rfl, x, CB, dx, _, _, rfl, e _ _ hx, T.cl, T.n2, rfl, _, _, rfl, rfl, _, _, e _ _ hx, (by show 2 < 1000; decide), ?_⟩
        refine ⟨_, rfl, ks r' g' ha _ p (fin _ e).2 (fin _ e).1 ?_⟩
        exact tup_ins (e _ _ hx) hp
end
end Gc

/-! boxes made and asked, the errors told -/
namespace Gc
open PySem L2
abbrev s_made : Stmt := top 46
abbrev s_answered : Stmt := top 47
@[irreducible] def zBoxInit (K : PySem.W.Frag) (CB CM : Addr) : Sp := spBoxInit K CB CM
theorem zBoxInit_eq (K : PySem.W.Frag) (CB CM : Addr) : zBoxInit K CB CM = spBoxInit K CB CM := by unfold zBoxInit; rfl
@[irreducible] def zAnswer (K : PySem.W.Frag) (CB : Addr) (cs : Nat → Addr) : Sp := spAnswer K CB cs
theorem zAnswer_eq (K : PySem.W.Frag) (CB : Addr) (cs : Nat → Addr) : zAnswer K CB cs = spAnswer K CB cs := by unfold zAnswer; rfl
def madeV : Option Nat → List V
  | none => [.str "none", .non]
  | some i => [.str "command", .int (i : Nat)]
def spMade (K : PySem.W.Frag) : Sp := fun vs H Q _ => ∃ (l : Addr) (xs : List V) (rs : List Raw), vs = [.ref l] ∧ SqL K H l xs ∧ RawsOf K H xs rs ∧ ∀ (H' : Hp) (p : Addr), Same H H' → H' p = some (.lst (madeV (badAt rs))) → Q (.ref p) H'
/-- what answer is asked, and what comes of it -/
def AskIn (K : PySem.W.Frag) (H : Hp) (x t b l : Addr) (bad : Nat → V → Prop) (good : Option (Int × Option Int) → Prop) : Prop :=
  (∃ (T : List Int) (r : Int) (g : Option Int) (xs : List V) (rs : List Raw) (i : Nat) (v : V), SqL K H t (T.map V.int) ∧ SqT K H b [.int r, optV g] ∧ SqL K H l xs ∧ RawsOf K H xs rs ∧ BadRun b T r g rs i v ∧ bad i v) ∨
   ∃ (T : List Int) (r : Int) (g : Option Int) (xs : List V) (es : List Cmd), SqL K H t (T.map V.int) ∧ SqT K H b [.int r, optV g] ∧ SqL K H l xs ∧ CmdsOf K H xs es ∧ (∀ x ∈ T, 0 ≤ x) ∧ 0 ≤ r ∧ r < T.length ∧ ge g 0 ∧ AllOk es ∧ es.length ≤ 10000 ∧ good (afterL T r g es)
def ansV (q : Addr) : Option (Int × Option Int) → V
  | none => .non
  | some _ => .ref q
def AnsT (K : PySem.W.Frag) (H : Hp) (q : Addr) : Option (Int × Option Int) → Prop
  | none => True
  | some x => SqT K H q [.int x.1, optV x.2]
theorem AnsT.same {K : PySem.W.Frag} {H H' : Hp} {q : Addr} {o : Option (Int × Option Int)} (h : AnsT K H q o) (e : Same H H') : AnsT K H' q o := by
  cases o with
  | none => trivial
  | some x => exact seq_t e h
theorem ask_answer {K : PySem.W.Frag} {CB : Addr} {cs : Nat → Addr} {H : Hp} {Q : VK} {E : XK} {x dx t b l : Addr} {n : Int} {bad : Nat → V → Prop} {good : Option (Int × Option Int) → Prop} (hx : BoxAt H x CB dx l n) (h : AskIn K H x t b l bad good)
    (kb : ∀ i v, i < 3 → bad i v → Err E (cs i) v H) (kg : ∀ o, good o → ∀ (H' : Hp) (q : Addr), Keep x x H H' → BoxAt H' x CB dx l (n + 1) → AnsT K H' q o → Q (ansV q o) H') : zAnswer K CB cs [.ref x, .ref t, .ref b] H Q E := by
  rw [zAnswer_eq]
  refine ⟨x, dx, t, b, l, n, rfl, hx, ?_⟩
  rcases h with ⟨T, r, g, xs, rs, i, v, h1, h2, h3, h4, h5, h6⟩ | ⟨T, r, g, xs, es, h1, h2, h3, h4, h5, h6, h7, h8, h9, h10, h11⟩
  · exact .inl ⟨T, r, g, xs, rs, i, v, h1, h2, h3, h4, h5, kb i v (by cases h5 <;> omega) h6⟩
  · refine .inr ⟨T, r, g, xs, es, h1, h2, h3, h4, h5, h6, h7, h8, h9, h10, fun m hm H' kp hx' => ?_, fun r' g' ha H' p kp hx' hp => ?_⟩
    · have e : afterL T r g es = none := by
        cases q : afterL T r g es with
        | none => rfl
        | some y =>
          have z := fail_none.mpr (show afterL T r g es ≠ none by rw [q]; simp)
          rw [z] at hm
          cases hm
      rw [e] at h11
      exact kg none h11 H' x kp hx' trivial
    · rw [ha] at h11
      exact kg _ h11 H' p kp hx' hp
def spAnswered (K : PySem.W.Frag) (CB : Addr) : Sp := fun vs H Q _ => ∃ (x dx t b l : Addr) (n : Int) (bn : Bool), vs = [.ref x, .ref t, .ref b, .bl bn] ∧ BoxAt H x CB dx l n ∧
  AskIn K H x t b l (fun i v => ∀ (H' : Hp) (p : Addr), Same H H' → H' p = some (.lst [.str (kindW i), v]) → Q (.ref p) H')
    (fun o => ∀ (H' : Hp) (p q : Addr), Keep x x H H' → BoxAt H' x CB dx l (n + 1) → AnsT K H' q o → H' p = some (.lst [ansV q o]) → Q (.ref p) H')
section
variable {P : Program} {w : World} {K : PySem.W.Frag} {mg : Str → Option Value} {base : Heap} {cs : Nat → Addr} {CE CB : Addr}
theorem sc_law_made : FnScope ["keys", "caught", "e"] ["keys"] (defScope s_made) := ⟨rfl, rfl, rfl, by decide +kernel, rfl, by decide +kernel, by decide +kernel⟩
theorem ok_made {f : Addr} {fd : FuncData} (F : Fun K "_law_made" "_law_made" s_made f fd) (T : TxtE K mg cs CE (fun i => i = 0 ∨ i = 1 ∨ i = 2 ∨ i = 3)) (c_law_kind : Cal P w K mg base 1 "_law_kind" (spKindK K cs (fun i => i = 0 ∨ i = 1 ∨ i = 2 ∨ i = 3))) (m_Box : Mak P w K mg base (L2.CX P w) 4 "Box" CB (zBoxInit K CB (cs 2))) :
    FnOk P w K mg base CX0 6 f fd ["keys"] (spMade K) := by
  refine F.ok sc_law_made (fun vs H Q E h => ?_) (fun cdv A outer s H vs Q E hr h => ?_)
  · obtain ⟨l, xs, rs, rfl, _⟩ := h
    rfl
  · obtain ⟨l, xs, rs, rfl, hl, hrs, k⟩ := h
    refine ⟨_, (pss_cons (ps_set (i := 1) sc_law_made.nd rfl (Or.inl rfl) pe_non)
      (pss_cons (ps_try_keep (i := 2) rfl rfl rfl sc_law_made.nd rfl rfl ⟨rfl, by decide, .inl T.gE⟩ takesNone (fun W pn xe tk _ => (pss_one (ps_expr (pe_makX tk m_Box hr (by decide) (by rfl) (pa_cons (pv 0) pa_nil))))) (fun a oe cls d pn hz hf => (pss_one (ps_set (i := 1) sc_law_made.nd rfl (Or.inl rfl) (pv 2)))))
      (pss_one (ps_ret (pe_ifExp (pt_cmpR op_isN (pv 1) pe_non (nomark _)) (pe_lst (pa_cons pe_str (pa_cons pe_non pa_nil))) (pe_lst (pa_cons (pe_cal c_law_kind hr (by decide) (by rfl) (pa_cons (pv 1) pa_nil)) (pa_cons (pe_xk (pv 1)) pa_nil)))))))), ?_⟩
    refine ⟨_, rfl, fun x dx nx ndx ne => ?_⟩
    have e0 : Same H (upd (upd H dx (.own x)) x (.ins CB dx [])) := same_freeU (new_same ndx) nx
    have hx0 : (upd (upd H dx (.own x)) x (.ins CB dx [])) x = some (.ins CB dx []) := upd_same
    generalize upd (upd H dx (.own x)) x (.ins CB dx []) = H1 at e0 hx0 ⊢
    show zBoxInit K CB (cs 2) [.ref x, .ref l] H1 _ _
    rw [zBoxInit_eq]
    refine ⟨x, dx, l, xs, rs, rfl, hx0, e0.seq hl, hrs.same e0, fun i hi => ?_, fun hn H2 p kp np bx hp => ⟨rfl, ?_⟩⟩
    · rw [hi] at k
      have R : (fun i => i = 0 ∨ i = 1 ∨ i = 2 ∨ i = 3) 2 := .inr (.inr (.inl rfl))
      intro H' d e nd
      refine ⟨true, T.ex 2 R, fun _ a ha => ?_, fun q => nomatch q⟩
      have e1 : Same H (upd H' d (.xd [("value", .int (i : Nat))])) := (e0.trans e).trans (new_same nd)
      have hd' : (upd H' d (.xd [("value", .int (i : Nat))])) d = some (.xd [("value", .int (i : Nat))]) := upd_same
      generalize upd H' d (.xd [("value", .int (i : Nat))]) = H2 at e1 hd' ha ⊢
      have e2 : Same H (upd H2 a (ExK (.ref (cs 2)) (some d) a)) := e1.trans (new_same ha)
      have hh : Held (upd H2 a (ExK (.ref (cs 2)) (some d) a)) a (cs 2) (.int (i : Nat)) := ⟨d, upd_same, new_same ha _ _ hd'⟩
      refine ⟨_, rfl, ?_⟩
      refine ⟨_, rfl, rfl, _, rfl, iteF ?_⟩
      refine ⟨_, rfl, a, 2, _, rfl, R, hh, fun H4 e4 => ?_⟩
      refine ⟨_, rfl, a, cs 2, _, rfl, T.ei 2 R, hh.same e4, (by show 2 ≤ sizeLine; decide), fun p np => k _ p ((e2.trans e4).trans (new_same np)) upd_same⟩
    · rw [hn] at k
      have e2 : Same H H2 := fun c o hc => by
        have hcx : c ≠ x := fun z => by rw [z, nx] at hc; cases hc
        exact kp c o hcx hcx (e0 _ _ hc)
      exact ⟨_, rfl, rfl, _, rfl, iteT ⟨(by show 2 ≤ sizeLine; decide), fun p np => k _ p (e2.trans (new_same np)) upd_same⟩⟩
theorem sc_law_answered : FnScope ["box_here", "lengths", "spot", "by_name", "caught", "e"] ["box_here", "lengths", "spot", "by_name"] (defScope s_answered) := ⟨rfl, rfl, rfl, by decide +kernel, rfl, by decide +kernel, by decide +kernel⟩
theorem ok_answered {f : Addr} {fd : FuncData} (F : Fun K "_law_answered" "_law_answered" s_answered f fd) (T : TxtE K mg cs CE (fun i => i = 0 ∨ i = 1 ∨ i = 2 ∨ i = 3)) (c_law_kind : Cal P w K mg base 1 "_law_kind" (spKindK K cs (fun i => i = 0 ∨ i = 1 ∨ i = 2 ∨ i = 3)))
    (c_answer : Mth P w K mg base (L2.CX P w) 5 CB "answer" (zAnswer K CB cs)) (k_answer : MthK P w K mg base (L2.CX P w) 5 CB "answer" ["cursor", "text"] (zAnswer K CB cs)) : FnOk P w K mg base CX0 6 f fd ["box_here", "lengths", "spot", "by_name"] (spAnswered K CB) := by
  refine F.ok sc_law_answered (fun vs H Q E h => ?_) (fun cdv A outer s H vs Q E hr h => ?_)
  · obtain ⟨x, dx, t, b, l, n, bn, rfl, _⟩ := h
    rfl
  · obtain ⟨x, dx, t, b, l, n, bn, rfl, hx, ha⟩ := h
    refine ⟨_, (pss_cons (ps_set (i := 4) sc_law_answered.nd rfl (Or.inl rfl) pe_non)
      (pss_cons (ps_try_keep (i := 5) rfl rfl rfl sc_law_answered.nd rfl rfl ⟨rfl, by decide, .inl T.gE⟩ takesNone (fun W pn xe tk _ => (pss_one (ps_ret (pe_lst (pa_cons (pe_ifExp (pt_val (pv 3)) (pe_mthKX tk k_answer hr (by decide) (pv 0) (pk_cons (pv 2) (pk_cons (pv 1) pk_nil))) (pe_mthX tk c_answer hr (by decide) (pv 0) (pa_cons (pv 1) (pa_cons (pv 2) pa_nil)))) pa_nil))))) (fun a oe cls d pn hz hf => (pss_one (ps_set (i := 4) sc_law_answered.nd rfl (Or.inl rfl) (pv 5)))))
      (pss_one (ps_ret (pe_lst (pa_cons (pe_cal c_law_kind hr (by decide) (by rfl) (pa_cons (pv 4) pa_nil)) (pa_cons (pe_xk (pv 4)) pa_nil))))))), ?_⟩
    refine ⟨_, rfl, _, rfl, ?_⟩
    cases bn with
    | true =>
      refine iteT ?_
      refine ⟨_, rfl, x, dx, _, rfl, hx, rfl, _, rfl, _, rfl, rfl, ?_⟩
      show zAnswer K CB cs [.ref x, .ref t, .ref b] H _ _
      refine ask_answer hx ha (fun i v i3 hb => ?_) (fun o hg H' q kp bx hq => ?_)
      · have R : (fun i => i = 0 ∨ i = 1 ∨ i = 2 ∨ i = 3) i := by
          show i = 0 ∨ i = 1 ∨ i = 2 ∨ i = 3
          omega
        intro H' d e nd
        refine ⟨true, T.ex i R, fun _ a ha => ?_, fun q => nomatch q⟩
        have e1 : Same H (upd H' d (.xd [("value", v)])) := e.trans (new_same nd)
        have hd' : (upd H' d (.xd [("value", v)])) d = some (.xd [("value", v)]) := upd_same
        generalize upd H' d (.xd [("value", v)]) = H2 at e1 hd' ha ⊢
        have e2 : Same H (upd H2 a (ExK (.ref (cs i)) (some d) a)) := e1.trans (new_same ha)
        have hh : Held (upd H2 a (ExK (.ref (cs i)) (some d) a)) a (cs i) v := ⟨d, upd_same, new_same ha _ _ hd'⟩
        refine ⟨_, rfl, ?_⟩
        refine ⟨_, rfl, a, i, _, rfl, R, hh, fun H4 e4 => ?_⟩
        refine ⟨_, rfl, a, cs i, _, rfl, T.ei i R, hh.same e4, (by show 2 ≤ sizeLine; decide), fun p np => hb _ p ((e2.trans e4).trans (new_same np)) upd_same⟩
      · refine ⟨(by show 1 ≤ sizeLine; decide), fun p np => ?_⟩
        exact hg _ p q (fun c o h1 h2 hc => new_same np _ _ (kp c o h1 h2 hc)) (new_same np _ _ bx) (hq.same (new_same np)) upd_same
    | false =>
      refine iteF ?_
      refine ⟨_, rfl, x, dx, _, rfl, hx, rfl, _, rfl, _, rfl, ?_⟩
      show zAnswer K CB cs [.ref x, .ref t, .ref b] H _ _
      refine ask_answer hx ha (fun i v i3 hb => ?_) (fun o hg H' q kp bx hq => ?_)
      · have R : (fun i => i = 0 ∨ i = 1 ∨ i = 2 ∨ i = 3) i := by
          show i = 0 ∨ i = 1 ∨ i = 2 ∨ i = 3
          omega
        intro H' d e nd
        refine ⟨true, T.ex i R, fun _ a ha => ?_, fun q => nomatch q⟩
        have e1 : Same H (upd H' d (.xd [("value", v)])) := e.trans (new_same nd)
        have hd' : (upd H' d (.xd [("value", v)])) d = some (.xd [("value", v)]) := upd_same
        generalize upd H' d (.xd [("value", v)]) = H2 at e1 hd' ha ⊢
        have e2 : Same H (upd H2 a (ExK (.ref (cs i)) (some d) a)) := e1.trans (new_same ha)
        have hh : Held (upd H2 a (ExK (.ref (cs i)) (some d) a)) a (cs i) v := ⟨d, upd_same, new_same ha _ _ hd'⟩
        refine ⟨_, rfl, ?_⟩
        refine ⟨_, rfl, a, i, _, rfl, R, hh, fun H4 e4 => ?_⟩
        refine ⟨_, rfl, a, cs i, _, rfl, T.ei i R, hh.same e4, (by show 2 ≤ sizeLine; decide), fun p np => hb _ p ((e2.trans e4).trans (new_same np)) upd_same⟩
      · refine ⟨(by show 1 ≤ sizeLine; decide), fun p np => ?_⟩
        exact hg _ p q (fun c o h1 h2 hc => new_same np _ _ (kp c o h1 h2 hc)) (new_same np _ _ bx) (hq.same (new_same np)) upd_same
end
end Gc

/-! defs that call repr: what is shown just now is told to be nothing. The law's own defs go so; all others as before -/
namespace Gc
open PySem PySem.Spec PyProof.Rows L2
structure FnG (P : Program) (w : World) (K : PySem.W.Frag) (mg : Str → Option Value) (base : Heap) (k : Nat) (f : Addr) (fd : FuncData) (ps : List Str) (sp : Sp) : Prop where
  len : ∀ vs H Q E, sp vs H Q E → vs.length = ps.length
  run : ∀ (A : Around) (outer : List Env) (s : Shared) (H : Hp) (args : Args) (us : List Value) (vs : List V) (Q : VK) (E : XK), A.guards = some [] → Room k A → Env0 P w K mg base A outer s H →
    BindsTo s fd args (ps.zip us) → Vals vs us → sp vs H Q E → codeAny (model P w) A (.call (.ref f) args) (CR CX0 outer P w H s Q E) s
theorem FnG.of {P : Program} {w : World} {K : PySem.W.Frag} {mg : Str → Option Value} {base : Heap} {k : Nat} {f : Addr} {fd : FuncData} {ps : List Str} {sp : Sp} (F : FnOk P w K mg base CX0 k f fd ps sp) : FnG P w K mg base k f fd ps sp :=
  ⟨F.len, fun A outer s H args us vs Q E _ hr e0 hb hv hs => F.run A outer s H args us vs Q E hr e0 hb hv hs⟩
section
variable {P : Program} {w : World} {K : PySem.W.Frag} {mg : Str → Option Value} {base : Heap}
theorem okG {x qual : Str} {st : Stmt} {f : Addr} {fd : FuncData} {N ps : List Str} {k : Nat} {sp : Sp} (F : Fun K x qual st f fd) (S : FnScope N ps (defScope st)) (len : ∀ vs H Q E, sp vs H Q E → vs.length = ps.length)
    (hbody : ∀ (cdv : Value) (A : Around) (outer : List Env) (s : Shared) (H : Hp) (vs : List V) (Q : VK) (E : XK), (A.deeper (envOfC qual (defScope st) s.heap.objs.size f cdv)).guards = some [] → Room k (A.deeper (envOfC qual (defScope st) s.heap.objs.size f cdv)) → sp vs H Q E →
      ∃ t, PSs (cxOf CX0 P w K mg base N qual (defScope st) f cdv A outer s H E).nox (defBody st) t ∧ t { nx := fun _ H' => Q .non H', rt := Q } (start N vs) H) : FnG P w K mg base (k + 1) f fd ps sp := by
  obtain ⟨oc, od, kV, doc, pm, an, cdv, ct, osl, rfl, lk, hcd⟩ := F.ex
  refine ⟨len, fun A outer s H args us vs Q E hg hr e0 hb r hsp => ?_⟩
  have n := len _ _ _ _ hsp
  have same : ∀ b o, base.get? b = some o → s.heap.get? b = some o := fun b o e => (e0.bs b o e).1
  have kin : K.In s.heap := e0.mod.kin.keeps same
  have kinds : ∀ y ∈ ps.zip us, (defScope st).names.lookup y.1 = some .local ∨ ((defScope st).names.lookup y.1 = some .cell ∧ ((cellsFrom (s.heap.objs.size + 1) (defScope st).names []).lookup y.1).isSome = true) := by
    rintro ⟨y, v⟩ hy
    exact (S.par y (List.of_mem_zip hy).1).imp id fun q => ⟨q, PySem.W.cellsFrom_some _ _ _ (.inl q)⟩
  refine codeAny_call_function hr.depth (kin _ _ lk) rfl S.co S.gen rfl (PySem.W.codeRec_of kin hcd) (hb _ _ _ _ (wpAny_newFunctionEnv_cells S.kind kinds fun env he s1 x => ?_))
  subst he
  refine ⟨(e0.mod.nolimit.keeps same).keeps x.toInCall.keep, codeAny_func ?_⟩
  obtain ⟨t, ht, hq⟩ := hbody cdv A outer s H vs Q E hg (hr.deeper _) hsp
  refine wpAny_mono (ht.nox.run [] s1 (start N vs) H _ (inv_start S hr.hd e0 n r x) hq) (fun fl s' hs => ?_) fun e s' hs => hs
  match fl, hs with
  | .ret u, ⟨v, σ', H', J, rv, q⟩ => exact ⟨v, H', J.os, J.bare, J.base, J.hok, rv, q⟩
  | .next, ⟨σ', H', J, q⟩ => exact ⟨V.non, H', J.os, J.bare, J.base, J.hok, rfl, q⟩
  | .brk, ⟨_, _, _, q⟩ => exact q.elim
  | .cont, ⟨_, _, _, q⟩ => exact q.elim
end
section
variable {X : Cx} {k : Nat} {f : Addr} {fd : FuncData} {ps : List Str} {sp : Sp} {x : Str} {p pos : Pos} {e : Expr} {es : List Expr} {t : TA}
/-- a call of such a def -/
theorem pe_callG (F : FnG X.prog X.w X.K X.mg X.base k f fd ps sp) (hg0 : X.A.guards = some []) (hr : Room k X.A) (hg : Gl X x) (hm : X.mg x = some (.ref f)) (hk : PySem.W.keepIn X.K (.ref f) = true) (hb : Binds X.K fd ps [])
    (ha : PA X (e :: es) t) (hdb : (x == ("__debug__" : Str)) = false := by decide) (he : starEach (e :: es) X.env = (false, eval e X.env) :: starEach es X.env := by rfl) (hpl : (backTo pos (starEach es X.env)).any (·.1) = false := by rfl) :
    PE X (.Call (.Name x p) (e :: es) [] pos) (tCall sp [] E0 t) := by
  refine ⟨fun pins s σ H Q I h => ?_⟩
  refine wpAny_Call_Name_kw (ld_glob I hg hm ?_ hdb)
  refine PySem.W.callWith_K (h₀ := X.base) I.ok.mod.kin hk (thn (ha.run pos pins s σ H _ I h) fun us s1 ⟨vs, H1, I1, r, q⟩ => ⟨I1.kIn, ?_⟩) he hpl
  have q' : sp vs H1 Q E0 := by
    have z : sp (vs ++ []) H1 Q E0 := q
    rwa [List.append_nil] at z
  have n := F.len _ _ _ _ q'
  have bd := hb s1 us I1.kIn (by rw [List.append_nil, ← r.length]; exact n)
  rw [List.append_nil] at bd
  refine wpAny_call (codeAny_mono (F.run X.A X.stack s1 H1 ⟨us, []⟩ us vs Q E0 hg0 hr I1.env0 bd r q') fun o s' hq => ?_)
  match o, hq with
  | .error _, z => exact z.elim
  | .ok (.ret _), z => exact I1.after z
  | .ok .next, z => exact z.elim
  | .ok .brk, z => exact z.elim
  | .ok .cont, z => exact z.elim
end
/-! ### repr -/
/-- repr(x), x a list or a tuple of data whose ints are not too wide: its text -/
def rRepr (K : PySem.W.Frag) : List V → Hp → VK → Prop := fun xs H Q => ∃ (a : Addr) (d : PyData), xs = [.ref a] ∧ Dp K H (.ref a) d ∧ d.showable = true ∧ d.hasDict = false ∧ d.depth ≤ 60 ∧ d.shown.length ≤ sizeLine ∧ Q (.str d.shown) H
theorem cr_repr {X : Cx} (hg : X.A.guards = some []) (hu : X.A.units + 64 < cLine) : CallR X (.builtin "repr") (rRepr X.K) := by
  intro pins s σ H xs us Q I r h
  obtain ⟨a, d, rfl, hd, hs, hn, hdp, hz, q⟩ := h
  obtain ⟨u, rfl, ru⟩ := vals1 r
  obtain ⟨as, rd⟩ := Dp.reads I d _ u hd ru
  obtain rfl : u = Value.ref a := ru
  refine PySem.repr_of_reads' rd hs (fun z => by rw [hn] at z; cases z) hg (by omega) (fun _ _ e => e) (fun h' v tk hk => ⟨.str d.shown, H, I.kept hk, ⟨_, rfl⟩, q⟩) hz
/-! ### the law is called from the top, where nothing is shown -/
theorem call_lawG {P : Program} {w : World} {K : PySem.W.Frag} {mg mb : Str → Option Value} {k : Nat} {fa a : Addr} {fd : FuncData} {x : Str} {sp : Sp} {s₁ : Shared} {vs : List Value} {ns : List Int}
    (KX : K.In s₁.heap) (hns : s₁.heap.Ns mainGlobals mg) (hb : s₁.heap.Ns builtinsNs mb) (hbb : ∀ x : Str, x ≠ "__name__" → mb x = bootBuiltins x) (hlim : s₁.heap.NoLimit) (hg : s₁.gens = #[])
    (ha : s₁.heap.get? a = some { cls := .type "list", data := .seq vs.toArray }) (hi : IntsAre vs ns) (hl : ns.length ≤ sizeLine) (hr : Room k callerA)
    (F : ∀ base : Heap, K.In base → base.Ns mainGlobals mg → FnG P w K mg base k fa fd [x] sp) (hbind : ∀ (s : Shared) (u : Value), BindsTo s fd ⟨[u], []⟩ [(x, u)])
    (hsp : ∀ H : Hp, Only H → SqL K H a (ns.map V.int) → sp [.ref a] H (fun v _ => v = .bl true) fun _ _ _ => False) :
    codeAny (model P w) callerA (.call (.ref fa) ⟨[.ref a], []⟩) (fun r s' => r = .ok (.ret (.bool true)) ∧ OldK s₁.heap s'.heap ∧ s'.os = s₁.os ∧ AllBare s'.gens) s₁ := by
  have rv := vals_ints hi
  have lv := hi.length
  -- once the heap that is seen is chosen: at most the script is in it
  have go : ∀ H : Hp, Only H → SqL K H a (ns.map V.int) → HOk P w H s₁.heap → (∀ b u, H b = some u → b = a ∧ K.lookup a = none) →
      codeAny (model P w) callerA (.call (.ref fa) ⟨[.ref a], []⟩) (fun r s' => r = .ok (.ret (.bool true)) ∧ OldK s₁.heap s'.heap ∧ s'.os = s₁.os ∧ AllBare s'.gens) s₁ := by
    intro H hO hS hok hA
    have out : ∀ {b : Addr} {o : Obj}, s₁.heap.get? b = some o → (∀ u, H b = some u → False) → (hidT s₁.heap H).get? b = some o := fun {b o} e n => hidT_get e (by
      cases q : H b with
      | none => rfl
      | some u => exact (n u q).elim)
    have isA : ∀ {b : Addr} {o : Obj} {u : HO}, s₁.heap.get? b = some o → H b = some u → o.data = .seq vs.toArray := fun {b o u} e q => by
      obtain ⟨rfl, _⟩ := hA b u q
      rw [ha] at e
      cases e
      rfl
    have nsOut : ∀ {b : Addr} {m : Str → Option Value}, s₁.heap.Ns b m → (hidT s₁.heap H).Ns b m := fun {b m} ⟨o, es, ep, e, d, r⟩ => ⟨o, es, ep, out e fun u q => (by have z := isA e q; rw [d] at z; cases z), d, r⟩
    have kin : K.In (hidT s₁.heap H) := fun b o e => out (KX b o e) fun u q => by
      obtain ⟨rfl, n⟩ := hA b u q
      rw [n] at e
      cases e
    have md : Mod K mg (hidT s₁.heap H) := ⟨kin, nsOut hns, ⟨mb, nsOut hb, hbb⟩, let ⟨mc, h1, h2⟩ := hlim; ⟨mc, nsOut h1, h2⟩⟩
    have none0 : ∀ b : Addr, b ∈ frs ([] : List Env) → False := fun b z => by
      have z' : b ∈ ([] : List Addr) := z
      cases z'
    have e0 : Env0 P w K mg (hidT s₁.heap H) callerA [] s₁ H := ⟨rfl, md, fun b o e => of_hidT e, Nat.le_of_eq (hidT_size _ _), trivial, fun b z => (none0 b z).elim, hok, .of_eq hg⟩
    refine codeAny_mono ((F _ kin (nsOut hns)).run callerA [] s₁ H ⟨[.ref a], []⟩ [.ref a] [.ref a] _ _ rfl hr e0 (hbind s₁ (.ref a)) (.cons rfl .nil) (hsp H hO hS)) fun r s' h => ?_
    match r, h with
    | .error _, z => exact z.elim
    | .ok .next, z => exact z.elim
    | .ok .brk, z => exact z.elim
    | .ok .cont, z => exact z.elim
    | .ok (.ret u), ⟨v, H', os, bare, un, hok', r', q⟩ =>
      obtain rfl : v = .bl true := q
      obtain rfl : u = Value.bool true := r'
      refine ⟨rfl, OldK.of_keep fun b o e => ?_, os, bare⟩
      cases q : H b with
      | none => exact un.keep b o e q (fun z => (none0 b z).elim) (by simp)
      | some u =>
        rcases hO b with z | ⟨ob, xs, z⟩
        · rw [q] at z
          cases z
        · obtain ⟨e1, _⟩ := hok b _ z
          obtain ⟨e2, _⟩ := hok' b _ (un.frzs b ob _ z)
          rw [e] at e1
          cases e1
          exact e2
  cases hk : K.lookup a with
  | some o =>
    have e := KX a o hk
    rw [ha] at e
    cases e
    exact go (fun _ => none) (fun _ => .inl rfl) (.inr ⟨_, vs.toArray, _, hk, rfl, rfl, rfl, by rw [List.size_toArray, lv]; exact hl, by simpa using rv⟩) (fun b u z => nomatch (show (none : Option HO) = some u from z)) fun b u z => nomatch (show (none : Option HO) = some u from z)
  | none =>
    have at' : ∀ {b : Addr} {u : HO}, (if b = a then some (HO.frz { cls := .type "list", data := .seq vs.toArray } (.lst (ns.map V.int))) else none) = some u → b = a ∧ u = .frz { cls := .type "list", data := .seq vs.toArray } (.lst (ns.map V.int)) := fun {b u} z => by
      by_cases h : b = a
      · rw [if_pos h] at z
        exact ⟨h, (Option.some.inj z).symm⟩
      · rw [if_neg h] at z
        cases z
    refine go (fun b => if b = a then some (.frz { cls := .type "list", data := .seq vs.toArray } (.lst (ns.map V.int))) else none) (fun b => ?_) (.inl (.inr ⟨{ cls := .type "list", data := .seq vs.toArray }, if_pos rfl⟩)) (fun b u z => ?_) fun b u z => ⟨(at' z).1, hk⟩
    · by_cases h : b = a
      · exact .inr ⟨_, _, if_pos h⟩
      · exact .inl (if_neg h)
    · obtain ⟨rfl, rfl⟩ := at' z
      exact ⟨ha, by rw [List.length_map]; exact hl, vs, _, rv, ha⟩
/-- the head's last goal, from such a law -/
theorem walk_G {l : PySem.W.OpenLaw} {n k : Nat} {q : Program} {loose : List Str} {XP : (Str → Option Value) → Heap → Prop} {YP : World → Heap → Prop} {d : DefRec} {K : Params → PySem.W.Frag} {sp : World → Sp} {x : Str}
    (hn : l.most = some n) (hn2 : n ≤ sizeLine) (hdf : d.params.defaults = []) (hr : Room k callerA) (hY : ∀ (w : World) (h : Heap), YP w h → (K w.params).In h)
    (F : ∀ (w : World) (mg : Str → Option Value) (fa : Addr) (h : Heap), (K w.params).In h → h.Ns mainGlobals mg → mg d.name = some (.ref fa) →
      ∃ fd : FuncData, (∀ (s : Shared) (u : Value), BindsTo s fd ⟨[u], []⟩ [(x, u)]) ∧ ∀ base : Heap, (K w.params).In base → base.Ns mainGlobals mg → FnG l.prog w (K w.params) mg base k fa fd [x] (sp w))
    (hsp : ∀ (w : World) (H : Hp) (a : Addr) (ns : List Int), ns.length ≤ n → Only H → SqL (K w.params) H a (ns.map V.int) → sp w [.ref a] H (fun v _ => v = .bl true) fun _ _ _ => False) :
    PySem.W.WalkO q loose XP YP l.row.toRowW d [] (fun f vs => PySem.call f vs) := by
  refine Att.attach_call hn hdf fun w s₀ s₁ mg mb fa o pm cd doc a vs ns G Y ho hd hcd hmg hobj hints hlen hg => ?_
  have KX := hY w _ Y
  obtain ⟨fd, hb, hF⟩ := F w mg fa _ KX G.T.g hmg
  exact call_lawG KX G.T.g G.T.b G.T.builtins G.T.nolimit hg hobj hints (Nat.le_trans hlen hn2) hr hF hb fun H hO hS => hsp w H a ns hlen hO hS
end Gc

/-! calls of defs that call repr -/
namespace Gc
open PySem L2
structure CalG (P : Program) (w : World) (K : PySem.W.Frag) (mg : Str → Option Value) (base : Heap) (k : Nat) (x : Str) (sp : Sp) : Prop where
  ex : ∃ (f : Addr) (fd : FuncData) (ps : List Str), FnG P w K mg base k f fd ps sp ∧ mg x = some (.ref f) ∧ PySem.W.keepIn K (.ref f) = true ∧ Binds K fd ps []
theorem FnG.mono {P : Program} {w : World} {K : PySem.W.Frag} {mg : Str → Option Value} {base : Heap} {j k : Nat} {f : Addr} {fd : FuncData} {ps : List Str} {sp : Sp} (F : FnG P w K mg base j f fd ps sp) (h : j ≤ k) : FnG P w K mg base k f fd ps sp :=
  ⟨F.len, fun A outer s H args us vs Q E hg hr => F.run A outer s H args us vs Q E hg (hr.mono h)⟩
theorem pe_calG {X : Cx} {k j : Nat} {x : Str} {sp : Sp} {p pos : Pos} {e : Expr} {es : List Expr} {t : TA} (c : CalG X.prog X.w X.K X.mg X.base k x sp) (hg0 : X.A.guards = some []) (hr : Room j X.A) (hk : k ≤ j) (hg : Gl X x) (ha : PA X (e :: es) t)
    (hdb : (x == ("__debug__" : Str)) = false := by decide) (he : starEach (e :: es) X.env = (false, eval e X.env) :: starEach es X.env := by rfl) (hpl : (backTo pos (starEach es X.env)).any (·.1) = false := by rfl) :
    PE X (.Call (.Name x p) (e :: es) [] pos) (tCall sp [] E0 t) := by
  obtain ⟨f, fd, ps, F, hm, kp, b⟩ := c.ex
  exact pe_callG F hg0 (hr.mono hk) hg hm kp b ha hdb he hpl
end Gc

/-! what is wrong, kept in a list -/
namespace Gc
open PySem L2
/-- an entry of the list: the word and the value of an error -/
def EntAt (H : Hp) (q a : Addr) (ob : Option Addr) (x : V) (e : Nat × V) : Prop := ∃ p, x = .ref p ∧ p ≠ q ∧ p ≠ a ∧ H p = some (.lst [.str (kindW e.1), e.2]) ∧ e.1 < 7 ∧ (e.2 = .non ∨ (∃ n, e.2 = .int n) ∨ ∃ b, ob = some b ∧ e.2 = .ref b)
def Ents (H : Hp) (q a : Addr) (ob : Option Addr) (ws : List V) (es : List (Nat × V)) : Prop := Paired (EntAt H q a ob) ws es
theorem Ents.same {H H' : Hp} {q a : Addr} {ob : Option Addr} {ws : List V} {es : List (Nat × V)} (h : Ents H q a ob ws es) (e : Same H H') : Ents H' q a ob ws es := Paired.mapP h fun _ _ z => by
  obtain ⟨p, h1, h2, h3, h4, h5⟩ := z
  exact ⟨p, h1, h2, h3, e _ _ h4, h5⟩
theorem Ents.keep {H H' : Hp} {q a : Addr} {ob : Option Addr} {ws : List V} {es : List (Nat × V)} (h : Ents H q a ob ws es) (e : Keep a a H H') : Ents H' q a ob ws es := Paired.mapP h fun _ _ z => by
  obtain ⟨p, h1, h2, h3, h4, h5⟩ := z
  exact ⟨p, h1, h2, h3, e _ _ h3 h3 h4, h5⟩
theorem Ents.upd {H : Hp} {q a : Addr} {ob : Option Addr} {ws : List V} {es : List (Nat × V)} (h : Ents H q a ob ws es) (o : HO) : Ents (L2.upd H q o) q a ob ws es := Paired.mapP h fun _ _ z => by
  obtain ⟨p, h1, h2, h3, h4, h5⟩ := z
  exact ⟨p, h1, h2, h3, by rw [upd_ne h2]; exact h4, h5⟩
theorem Ents.up {H : Hp} {q a : Addr} {ws : List V} {es : List (Nat × V)} (h : Ents H q a none ws es) (ob : Option Addr) : Ents H q a ob ws es := Paired.mapP h fun _ _ z => by
  obtain ⟨p, h1, h2, h3, h4, h5, h6⟩ := z
  refine ⟨p, h1, h2, h3, h4, h5, ?_⟩
  rcases h6 with h6 | h6 | ⟨b, h6, _⟩
  · exact .inl h6
  · exact .inr (.inl h6)
  · cases h6
def vD (r : Int) (g : Option Int) : V → PyData
  | .int n => .int n
  | .ref _ => .tuple [.int r, optD g]
  | _ => .none
def wrdD (r : Int) (g : Option Int) (e : Nat × V) : PyData := .list [.str (kindW e.1), vD r g e.2]
def outD (r : Int) (g : Option Int) : Option (Nat × V) → PyData
  | none => .list [.str "none", .none]
  | some e => wrdD r g e
theorem dp_optQ {K : PySem.W.Frag} {H : Hp} (o : Option Int) : Dp K H (optV o) (optD o) := by
  cases o with
  | none => exact .non
  | some n => exact .int n
theorem ent_dp {K : PySem.W.Frag} {H : Hp} {q a b : Addr} {r : Int} {g : Option Int} {x : V} {e : Nat × V} (hb : SqT K H b [.int r, optV g]) (h : EntAt H q a (some b) x e) : Dp K H x (wrdD r g e) := by
  obtain ⟨p, rfl, _, _, h4, _, h6⟩ := h
  obtain ⟨i, v⟩ := e
  refine .lst (SqL.of h4) (.cons (.str _) (.cons ?_ .nil))
  rcases h6 with h6 | ⟨n, h6⟩ | ⟨b', e1, h6⟩
  · have z : v = .non := h6
    subst z
    exact .non
  · have z : v = .int n := h6
    subst z
    exact .int n
  · cases e1
    have z : v = .ref b := h6
    subst z
    exact .tup hb (.cons (.int r) (.cons (dp_optQ g) .nil))
theorem ents_dp {K : PySem.W.Frag} {H : Hp} {q a b : Addr} {r : Int} {g : Option Int} (hb : SqT K H b [.int r, optV g]) : ∀ {ws : List V} {es : List (Nat × V)}, Ents H q a (some b) ws es → DpAll K H ws (es.map (wrdD r g))
  | [], [], _ => .nil
  | _ :: _, _ :: _, .cons h t => .cons (ent_dp hb h) (ents_dp hb t)
theorem ent_lay {r : Int} {g : Option Int} {e : Nat × V} (h : e.1 < 7) : (wrdD r g e).canLay0 = true ∧ (wrdD r g e).depth ≤ 3 := by
  obtain ⟨i, v⟩ := e
  have hs : PyData.strOk (kindW i) = true := by
    have h : i < 7 := h
    match i, h with
    | 0, _ => decide +kernel
    | 1, _ => decide +kernel
    | 2, _ => decide +kernel
    | 3, _ => decide +kernel
    | 4, _ => decide +kernel
    | 5, _ => decide +kernel
    | 6, _ => decide +kernel
  have hv : (vD r g v).canLay0 = true ∧ (vD r g v).depth ≤ 1 := by
    cases v <;> cases g <;> simp [vD, optD, PyData.canLay0, PyData.canLayAll0, PyData.depth, PyData.depthAll]
  refine ⟨by simp [wrdD, PyData.canLay0, PyData.canLayAll0, hs, hv.1], ?_⟩
  have := hv.2
  simp only [wrdD, PyData.depth, PyData.depthAll]
  omega
theorem ents_lay {r : Int} {g : Option Int} : ∀ {es : List (Nat × V)}, (∀ e ∈ es, e.1 < 7) → PyData.canLayAll0 (es.map (wrdD r g)) = true ∧ PyData.depthAll (es.map (wrdD r g)) ≤ 3
  | [], _ => by simp [PyData.canLayAll0, PyData.depthAll]
  | e :: es, h => by
    obtain ⟨h1, h2⟩ := ents_lay (r := r) (g := g) (es := es) fun x hx => h x (List.mem_cons_of_mem _ hx)
    obtain ⟨e1, e2⟩ := ent_lay (r := r) (g := g) (h e List.mem_cons_self)
    refine ⟨by simp only [List.map_cons, PyData.canLayAll0, e1, h1]; rfl, ?_⟩
    simp only [List.map_cons, PyData.depthAll]
    omega
theorem ents_shaped {r : Int} {g : Option Int} {es : List (Nat × V)} (h : ∀ e ∈ es, e.1 < 7) : SeqAt.shaped (.list (es.map (wrdD r g))) = true := by
  obtain ⟨h1, h2⟩ := ents_lay (r := r) (g := g) h
  unfold SeqAt.shaped
  have h3 : (PyData.list (es.map (wrdD r g))).depth ≤ 64 := by
    simp only [PyData.depth]
    omega
  rw [decide_eq_true h3, Bool.and_true]
  simp only [PyData.canLay0, h1]
theorem Ents.lt {H : Hp} {q a : Addr} {ob : Option Addr} : ∀ {ws : List V} {es : List (Nat × V)}, Ents H q a ob ws es → ∀ e ∈ es, e.1 < 7
  | [], [], _, _, h => nomatch h
  | _ :: _, _ :: _, .cons z t, e, h => by
    rcases List.mem_cons.mp h with y | y
    · subst y
      obtain ⟨p, _, _, _, _, h5, _⟩ := z
      exact h5
    · exact Ents.lt t e y
theorem out_lay {r : Int} {g : Option Int} {o : Option (Nat × V)} (h : ∀ i v, o = some (i, v) → i < 7) : (outD r g o).canLay0 = true ∧ SeqAt.shaped (outD r g o) = true := by
  cases o with
  | none => exact ⟨show (PyData.list [.str "none", .none]).canLay0 = true by decide +kernel, show SeqAt.shaped (PyData.list [.str "none", .none]) = true by decide +kernel⟩
  | some e =>
    obtain ⟨h1, h2⟩ := ent_lay (r := r) (g := g) (e := e) (h e.1 e.2 rfl)
    refine ⟨h1, ?_⟩
    unfold SeqAt.shaped
    rw [show (outD r g (some e)) = wrdD r g e from rfl, h1, decide_eq_true (show (wrdD r g e).depth ≤ 64 by omega)]
    rfl
theorem raws_dp {K : PySem.W.Frag} {H : Hp} : ∀ {xs : List V} {rs : List Raw}, RawsOf K H xs rs → DpAll K H xs (rs.map rawD)
  | [], [], _ => .nil
  | _ :: _, _ :: _, .cons h t => .cons h.dp (raws_dp t)
/-- a text, a cursor, commands, as data -/
def all3 (T : List Int) (r : Int) (g : Option Int) (rs : List Raw) : PyData := .list [.list (T.map PyData.int), .tuple [.int r, optD g], .list (rs.map rawD)]
theorem raws_ok0 : ∀ {rs : List Raw}, (∀ r ∈ rs, RawOk r) → Ok0s (rs.map rawD) ∧ PyData.weightAll (rs.map rawD) ≤ 210 * rs.length + 10 ∧ PyData.depthAll (rs.map rawD) ≤ 5
  | [], _ => ⟨ok0_nil, by simp [PyData.weightAll], by simp [PyData.depthAll]⟩
  | r :: rs, h => by
    obtain ⟨h1, h2, h3⟩ := raws_ok0 (rs := rs) fun x hx => h x (List.mem_cons_of_mem _ hx)
    obtain ⟨_, e1, e2, e3⟩ := h r List.mem_cons_self
    refine ⟨ok0_cons e1 h1, ?_, ?_⟩
    · simp only [List.map_cons, PyData.weightAll, List.length_cons]
      omega
    · simp only [List.map_cons, PyData.depthAll]
      omega
theorem all3_show {T : List Int} {r : Int} {g : Option Int} {rs : List Raw} (hT : ∀ x ∈ T, Sml x) (hr : Sml r) (hg : ∀ x, g = some x → Sml x) (hs : ∀ r ∈ rs, RawOk r) (lT : T.length ≤ 60) (lr : rs.length ≤ 20) :
    (all3 T r g rs).showable = true ∧ (all3 T r g rs).hasDict = false ∧ (all3 T r g rs).depth ≤ 60 ∧ (all3 T r g rs).shown.length ≤ sizeLine := by
  obtain ⟨r1, r2, r3⟩ := raws_ok0 hs
  have og : Ok0 (optD g) ∧ (optD g).weight ≤ 200 ∧ (optD g).depth = 0 := by
    cases g with
    | none => exact ⟨ok0_none, by simp [optD, PyData.weight], by simp [optD, PyData.depth]⟩
    | some x => exact ⟨ok0_int (hg x rfl), Nat.le_trans (sml_weight (hg x rfl)) (by decide), by simp [optD, PyData.depth]⟩
  have o : Ok0 (all3 T r g rs) := ok0_list (ok0_cons (ok0_list (ok0_ints hT)) (ok0_cons (ok0_tup (ok0_cons (ok0_int hr) (ok0_cons og.1 ok0_nil))) (ok0_cons (ok0_list r1) ok0_nil)))
  refine ⟨o.1, o.2.1, ?_, ok0_len o ?_⟩
  · have := og.2.2
    simp only [all3, PyData.depth, PyData.depthAll, deep_ints]
    omega
  · have w1 := weight_ints hT
    have w2 := sml_weight hr
    have := og.2.1
    simp only [all3, PyData.weight, PyData.weightAll] at *
    omega
end Gc

/-! two boxes, asked up to thirty times (k19) -/
namespace Gc
open PySem L2
abbrev s_right : Stmt := top 48
structure TxtRt (mg : Str → Option Value) : Prop where
  repr : mg "repr" = none
  list : mg "list" = none
  len : mg "len" = none
  int : mg "int" = none
  range : mg "range" = none
def rListK (K : PySem.W.Frag) : List V → Hp → VK → Prop := fun xs H Q => ∃ p ys, xs = [.ref p] ∧ (SqL K H p ys ∨ SqT K H p ys) ∧ ∀ l, H l = none → Q (.ref l) (upd H l (.lst ys))
def spRight19 (K : PySem.W.Frag) : Sp := fun vs H Q _ => ∃ (a : Addr) (n : Nat), vs = [.ref a] ∧ Rng H a n ∧ n < 2 ^ 36 ∧ ∀ H', Keep a a H H' → Rng H' a (n + 20000) → Q (.bl true) H'
def two {α : Type} (u v : α) : Bool → α
  | false => u
  | true => v
theorem two_all {α : Type} {p : α → Prop} {u v : α} (h0 : p u) (h1 : p v) : ∀ i, p (two u v i) := fun i => by cases i <;> assumption
/-- two boxes and the lists that they were made of -/
structure Bxs (K : PySem.W.Frag) (H0 H : Hp) (a : Addr) (N : Nat) (kt bt : Addr) (x dx l k : Bool → Addr) (CB : Addr) (xs : Bool → List V) (es : Bool → List Cmd) (n : Bool → Int) : Prop where
  kA : Keep a a H0 H
  R : Rng H a N
  ht : H kt = some (.lst [.ref (k false), .ref (k true)])
  hb : H bt = some (.lst [.ref (x false), .ref (x true)])
  hk : ∀ i, H (k i) = some (.lst (xs i))
  hl : ∀ i, H (l i) = some (.lst (xs i))
  hx : ∀ i, BoxAt H (x i) CB (dx i) (l i) (n i)
  hc : ∀ i, CmdsOf K H (xs i) (es i)
  ta : kt ≠ a
  ba : bt ≠ a
  ka : ∀ i, k i ≠ a
  la : ∀ i, l i ≠ a
  xx : x false ≠ x true
  n0 : ∀ i, H0 (x i) = none
/-- a list that is none of them -/
def Off (H0 : Hp) (a kt bt : Addr) (l k : Bool → Addr) (p : Addr) : Prop := p ≠ a ∧ p ≠ kt ∧ p ≠ bt ∧ (∀ i, p ≠ k i) ∧ (∀ i, p ≠ l i) ∧ H0 p = none
section
variable {K : PySem.W.Frag} {H0 H H' : Hp} {a kt bt CB : Addr} {N M : Nat} {x dx l k : Bool → Addr} {xs : Bool → List V} {es : Bool → List Cmd} {n : Bool → Int}
theorem Bxs.same (B : Bxs K H0 H a N kt bt x dx l k CB xs es n) (e : Same H H') : Bxs K H0 H' a N kt bt x dx l k CB xs es n :=
  ⟨B.kA.same1 e, B.R.same e, e _ _ B.ht, e _ _ B.hb, fun i => e _ _ (B.hk i), fun i => e _ _ (B.hl i), fun i => e _ _ (B.hx i), fun i => (B.hc i).same e, B.ta, B.ba, B.ka, B.la, B.xx, B.n0⟩
theorem Bxs.xa (B : Bxs K H0 H a N kt bt x dx l k CB xs es n) (i : Bool) : x i ≠ a := by
  obtain ⟨_, _, _, z, _⟩ := B.R
  exact ne_of (B.hx i) z (by intro q; cases q)
theorem Bxs.keep (B : Bxs K H0 H a N kt bt x dx l k CB xs es n) (e : Keep a a H H') (R : Rng H' a M) : Bxs K H0 H' a M kt bt x dx l k CB xs es n :=
  ⟨B.kA.trans e, R, e _ _ B.ta B.ta B.ht, e _ _ B.ba B.ba B.hb, fun i => e _ _ (B.ka i) (B.ka i) (B.hk i), fun i => e _ _ (B.la i) (B.la i) (B.hl i), fun i => e _ _ (B.xa i) (B.xa i) (B.hx i), fun i => B.R.cmds e (B.hc i), B.ta, B.ba, B.ka, B.la, B.xx, B.n0⟩
theorem Bxs.more (B : Bxs K H0 H a N kt bt x dx l k CB xs es n) (h : N ≤ M) : Bxs K H0 H a M kt bt x dx l k CB xs es n := { B with R := B.R.more h }
theorem Bxs.updL {p : Addr} {ys zs : List V} (B : Bxs K H0 H a N kt bt x dx l k CB xs es n) (hp : H p = some (.lst ys)) (o : Off H0 a kt bt l k p) : Bxs K H0 (upd H p (.lst zs)) a N kt bt x dx l k CB xs es n := by
  obtain ⟨o1, o2, o3, o4, o5, o6⟩ := o
  refine ⟨B.kA.freeU o6, rng_upd B.R o1, by rw [upd_ne (Ne.symm o2)]; exact B.ht, by rw [upd_ne (Ne.symm o3)]; exact B.hb, fun i => by rw [upd_ne (Ne.symm (o4 i))]; exact B.hk i, fun i => by rw [upd_ne (Ne.symm (o5 i))]; exact B.hl i, fun i => ?_, fun i => CmdsOf.atL hp (B.hc i), B.ta, B.ba, B.ka, B.la, B.xx, B.n0⟩
  have z := B.hx i
  unfold BoxAt at z ⊢
  rw [upd_ne (ne_of z hp (by intro q; cases q))]
  exact z
def bump (n : Bool → Int) (i : Bool) (v : Int) : Bool → Int := fun j => if j = i then v else n j
/-- one of the boxes was asked -/
theorem Bxs.asked {i : Bool} {v : Int} (B : Bxs K H0 H a N kt bt x dx l k CB xs es n) (kp : Keep (x i) (x i) H H') (bx : BoxAt H' (x i) CB (dx i) (l i) v) : Bxs K H0 H' a N kt bt x dx l k CB xs es (bump n i v) := by
  have off : ∀ {c : Addr} {ys : List V}, H c = some (.lst ys) → c ≠ x i := fun hc => (ne_of (B.hx i) hc (by intro q; cases q)).symm
  have offT : ∀ {c : Addr} {ys : List V}, SqT K H c ys → SqT K H' c ys := fun {c ys} hc => by
    rcases hc with (z | ⟨o, z⟩) | z
    · exact .inl (.inl (kp _ _ (ne_of (B.hx i) z (by intro q; cases q)).symm (ne_of (B.hx i) z (by intro q; cases q)).symm z))
    · exact .inl (.inr ⟨o, kp _ _ (ne_of (B.hx i) z (by intro q; cases q)).symm (ne_of (B.hx i) z (by intro q; cases q)).symm z⟩)
    · exact .inr z
  refine ⟨fun c o h1 h2 hc => ?_, ?_, kp _ _ (off B.ht) (off B.ht) B.ht, kp _ _ (off B.hb) (off B.hb) B.hb, fun j => kp _ _ (off (B.hk j)) (off (B.hk j)) (B.hk j), fun j => kp _ _ (off (B.hl j)) (off (B.hl j)) (B.hl j), fun j => ?_, fun j => ?_, B.ta, B.ba, B.ka, B.la, B.xx, B.n0⟩
  · have cx : c ≠ x i := fun z => by rw [z, B.n0 i] at hc; cases hc
    exact kp _ _ cx cx (B.kA _ _ h1 h2 hc)
  · obtain ⟨g, s, c, z, z2⟩ := B.R
    exact ⟨g, s, c, kp _ _ (off z) (off z) z, z2⟩
  · unfold bump
    by_cases ji : j = i
    · rw [if_pos ji, ji]
      exact bx
    · rw [if_neg ji]
      have jx : x j ≠ x i := by
        cases i <;> cases j
        · exact absurd rfl ji
        · exact Ne.symm B.xx
        · exact B.xx
        · exact absurd rfl ji
      exact kp _ _ jx jx (B.hx j)
  · exact Paired.mapP (B.hc j) fun _ _ q => by
      obtain ⟨b, e, z⟩ := q
      exact ⟨b, e, offT z⟩
end
theorem box_same {H H1 H2 : Hp} {x l : Addr} (e0 : Same H H1) (nx : H x = none) (kp : Keep x x H1 H2) (nl : H1 l = none) : Same H H2 ∧ H l = none := by
  refine ⟨fun c o hc => ?_, ?_⟩
  · have hcx : c ≠ x := fun z => by rw [z, nx] at hc; cases hc
    exact kp c o hcx hcx (e0 _ _ hc)
  · cases q : H l with
    | none => rfl
    | some o =>
      rw [e0 _ _ q] at nl
      cases nl
theorem cs_good {es : List Cmd} (h : ∀ c ∈ es, c.ok) : badAt (es.map rawOf) = none := bad_none fun j r' _ hr' => by
  obtain ⟨c, hc1, rfl⟩ := List.mem_map.mp (List.mem_of_getElem? hr')
  exact rawOf_good (h c hc1)
def ansD : Option (Int × Option Int) → PyData
  | none => .none
  | some x => .tuple [.int x.1, optD x.2]
/-- what is due: an answer, or an error's word and value -/
def Way (b : Addr) (T : List Int) (r : Int) (g : Option Int) (es : List Cmd) (cnt : Int) (DL : PyData) : Prop :=
  (cnt = 1 ∧ (∀ x ∈ T, 0 ≤ x) ∧ 0 ≤ r ∧ r < T.length ∧ ge g 0 ∧ DL = .list [ansD (afterL T r g es)]) ∨
  (cnt = 0 ∧ ∃ (i : Nat) (v : V), i < 3 ∧ (v = .non ∨ (∃ n, v = .int n) ∨ v = .ref b) ∧ (∀ rs, BadRun b T r g rs i v) ∧ DL = wrdD r g (i, v))
/-- .. in the heap -/
structure Sit (K : PySem.W.Frag) (H : Hp) (a ct lt b d : Addr) (T : List Int) (r : Int) (g : Option Int) (es : List Cmd) (cnt : Int) (DL : PyData) : Prop where
  hl : H lt = some (.lst (T.map V.int))
  hb : SqT K H b [.int r, optV g]
  way : Way b T r g es cnt DL
  due : (cnt = 1 ∧ ∃ q, H d = some (.lst [ansV q (afterL T r g es)]) ∧ AnsT K H q (afterL T r g es)) ∨ (cnt = 0 ∧ ∃ (i : Nat) (v : V), H d = some (.lst [.str (kindW i), v]) ∧ DL = wrdD r g (i, v) ∧ (v = .non ∨ (∃ n, v = .int n) ∨ v = .ref b))
  la : lt ≠ a
  lc : lt ≠ ct
  da : d ≠ a
  dc : d ≠ ct
  tl : T.length ≤ 60
  tb : ∀ x ∈ T, x.natAbs ≤ 10 ^ 30
section
variable {K : PySem.W.Frag} {H H' : Hp} {a ct lt b d : Addr} {T : List Int} {r : Int} {g : Option Int} {es : List Cmd} {cnt : Int} {DL : PyData}
theorem AnsT.map {q : Addr} {o : Option (Int × Option Int)} (h : AnsT K H q o) (f : ∀ p ys, SqT K H p ys → SqT K H' p ys) : AnsT K H' q o := by
  cases o with
  | none => trivial
  | some x => exact f _ _ h
theorem Sit.map (S : Sit K H a ct lt b d T r g es cnt DL) (f1 : ∀ ys, H lt = some (.lst ys) → H' lt = some (.lst ys)) (f2 : ∀ ys, H d = some (.lst ys) → H' d = some (.lst ys)) (f3 : ∀ p ys, SqT K H p ys → SqT K H' p ys) : Sit K H' a ct lt b d T r g es cnt DL := by
  have du : (cnt = 1 ∧ ∃ q, H' d = some (.lst [ansV q (afterL T r g es)]) ∧ AnsT K H' q (afterL T r g es)) ∨ (cnt = 0 ∧ ∃ (i : Nat) (v : V), H' d = some (.lst [.str (kindW i), v]) ∧ DL = wrdD r g (i, v) ∧ (v = .non ∨ (∃ n, v = .int n) ∨ v = .ref b)) := by
    rcases S.due with ⟨c, q, h1, h2⟩ | ⟨c, i, v, h1, h2, h3⟩
    · exact .inl ⟨c, q, f2 _ h1, h2.map f3⟩
    · exact .inr ⟨c, i, v, f2 _ h1, h2, h3⟩
  exact ⟨f1 _ S.hl, f3 _ _ S.hb, S.way, du, S.la, S.lc, S.da, S.dc, S.tl, S.tb⟩
theorem Sit.same (S : Sit K H a ct lt b d T r g es cnt DL) (e : Same H H') : Sit K H' a ct lt b d T r g es cnt DL := S.map (fun _ h => e _ _ h) (fun _ h => e _ _ h) fun _ _ h => seq_t e h
theorem Sit.keep {N : Nat} (S : Sit K H a ct lt b d T r g es cnt DL) (R : Rng H a N) (e : Keep a a H H') : Sit K H' a ct lt b d T r g es cnt DL := S.map (fun _ h => e _ _ S.la S.la h) (fun _ h => e _ _ S.da S.da h) fun _ _ h => R.tup e h
theorem Sit.updC {ys zs : List V} (S : Sit K H a ct lt b d T r g es cnt DL) (hc : H ct = some (.lst ys)) : Sit K (upd H ct (.lst zs)) a ct lt b d T r g es cnt DL := S.map (fun _ h => by rw [upd_ne S.lc]; exact h) (fun _ h => by rw [upd_ne S.dc]; exact h) fun _ _ h => tup_atL hc h
theorem Sit.dp (S : Sit K H a ct lt b d T r g es cnt DL) : Dp K H (.ref d) DL := by
  rcases S.due with ⟨c, q, h1, h2⟩ | ⟨c, i, v, h1, h2, h3⟩
  · rcases S.way with ⟨_, _, _, _, _, e⟩ | ⟨c0, _⟩
    · rw [e]
      refine .lst (SqL.of h1) (.cons ?_ .nil)
      generalize afterL T r g es = o at h2 ⊢
      cases o with
      | none => exact .non
      | some x => exact .tup h2 (.cons (.int _) (.cons (dp_optQ _) .nil))
    · omega
  · rw [h2]
    refine .lst (SqL.of h1) (.cons (.str _) (.cons ?_ .nil))
    rcases h3 with rfl | ⟨n, rfl⟩ | rfl
    · exact .non
    · exact .int n
    · exact .tup S.hb (.cons (.int r) (.cons (dp_optQ g) .nil))
theorem Sit.lay (S : Sit K H a ct lt b d T r g es cnt DL) : DL.canLay0 = true ∧ SeqAt.shaped DL = true := by
  rcases S.way with ⟨_, _, _, _, _, e⟩ | ⟨_, i, v, i3, _, _, e⟩
  · rw [e]
    generalize afterL T r g es = o
    rcases o with _ | ⟨r', _ | g'⟩ <;> exact ⟨rfl, rfl⟩
  · rw [e]
    obtain ⟨h1, h2⟩ := ent_lay (r := r) (g := g) (e := (i, v)) (show i < 7 by omega)
    refine ⟨h1, ?_⟩
    unfold SeqAt.shaped
    rw [h1, decide_eq_true (show (wrdD r g (i, v)).depth ≤ 64 by omega)]
    rfl
/-- the question that is asked -/
theorem Sit.ask {x l : Addr} {xs : List V} (S : Sit K H a ct lt b d T r g es cnt DL) (hl : SqL K H l xs) (hc : CmdsOf K H xs es) (ok : AllOk es) (ln : es.length ≤ 10000) :
    AskIn K H x lt b l (fun i v => cnt = 0 ∧ i < 3 ∧ (v = .non ∨ (∃ n, v = .int n) ∨ v = .ref b) ∧ DL = wrdD r g (i, v)) (fun o => cnt = 1 ∧ DL = .list [ansD o]) := by
  rcases S.way with ⟨c, h1, h2, h3, h4, e⟩ | ⟨c, i, v, i3, hv, hB, e⟩
  · exact .inr ⟨T, r, g, xs, es, SqL.of S.hl, S.hb, hl, hc, h1, h2, h3, h4, ok, ln, c, e⟩
  · exact .inl ⟨T, r, g, xs, _, i, v, SqL.of S.hl, S.hb, hl, raws_of hc, hB _, c, i3, hv, e⟩
theorem AskIn.imp {x t b l : Addr} {b1 b2 : Nat → V → Prop} {g1 g2 : Option (Int × Option Int) → Prop} (h : AskIn K H x t b l b1 g1) (f : ∀ i v, b1 i v → b2 i v) (f2 : ∀ o, g1 o → g2 o) : AskIn K H x t b l b2 g2 := by
  rcases h with ⟨T, r, g, xs, rs, i, v, h1, h2, h3, h4, h5, h6⟩ | ⟨T, r, g, xs, es, h1, h2, h3, h4, h5, h6, h7, h8, h9, h10, h11⟩
  · exact .inl ⟨T, r, g, xs, rs, i, v, h1, h2, h3, h4, h5, f _ _ h6⟩
  · exact .inr ⟨T, r, g, xs, es, h1, h2, h3, h4, h5, h6, h7, h8, h9, h10, f2 _ h11⟩
end
theorem ints_show {T : List Int} (hT : ∀ x ∈ T, Sml x) (lT : T.length ≤ 60) : (PyData.list (T.map PyData.int)).showable = true ∧ (PyData.list (T.map PyData.int)).hasDict = false ∧ (PyData.list (T.map PyData.int)).depth ≤ 60 ∧ (PyData.list (T.map PyData.int)).shown.length ≤ sizeLine := by
  have o := ok0_list (ok0_ints hT)
  refine ⟨o.1, o.2.1, ?_, ok0_len o ?_⟩
  · simp only [PyData.depth, deep_ints]
    omega
  · have w1 := weight_ints hT
    simp only [PyData.weight]
    omega
theorem ent_shaped {r : Int} {g : Option Int} {e : Nat × V} (h : e.1 < 7) : SeqAt.shaped (wrdD r g e) = true := by
  obtain ⟨h1, h2⟩ := ent_lay (r := r) (g := g) h
  unfold SeqAt.shaped
  rw [h1, decide_eq_true (show (wrdD r g e).depth ≤ 64 by omega)]
  rfl
def bI : Bool → Int
  | false => 0
  | true => 1
def bN : Bool → Nat
  | false => 0
  | true => 1
theorem bI_of {d : Int} (h0 : 0 ≤ d) (h1 : d < 2) : ∃ i, d = bI i := by
  rcases (show d = 0 ∨ d = 1 by omega) with rfl | rfl
  · exact ⟨false, rfl⟩
  · exact ⟨true, rfl⟩
theorem at_b (f : Bool → V) (i : Bool) : atI [f false, f true] (bI i) = some (f i) := by cases i <;> rfl
theorem ix_b (u v : V) (i : Bool) : ixN [u, v].length (bI i) = some (bN i) := by cases i <;> rfl
theorem set_b (m : Bool → Int) (i : Bool) (v : Int) : [V.int (m false), .int (m true)].set (bN i) (.int v) = [.int (bump m i v false), .int (bump m i v true)] := by cases i <;> rfl
section
variable {P : Program} {w : World} {K : PySem.W.Frag} {mg : Str → Option Value} {base : Heap} {cs : Nat → Addr} {CB : Addr}
theorem sc_law_right : FnScope ["pool", "far", "kept", "passed", "boxes", "counts", "turn", "which", "lengths", "spot", "due", "value", "before", "told", "keys", "wrong", "one"] ["pool"] (defScope s_right) := ⟨rfl, rfl, rfl, by decide +kernel, rfl, by decide +kernel, by decide +kernel⟩
theorem ok_right19 {f : Addr} {fd : FuncData} (F : Fun K "_law_right" "_law_right" s_right f fd) (T : TxtRt mg) (c_law_draw : Cal P w K mg base 1 "_law_draw" spDraw) (c_law_lines : Cal P w K mg base 2 "_law_lines" (spLines K)) (c_law_spot : Cal P w K mg base 2 "_law_spot" (spSpot K))
    (c_law_keys : Cal P w K mg base 4 "_law_keys" (spKeys K)) (c_law_bad_lines : Cal P w K mg base 2 "_law_bad_lines" (spBadL K)) (c_law_bad_spot : Cal P w K mg base 2 "_law_bad_spot" (spBadS K)) (c_law_bad_keys : Cal P w K mg base 2 "_law_bad_keys" (spBadK K))
    (c_law_ran : Cal P w K mg base 2 "_law_ran" (spRan K)) (c_law_made : Cal P w K mg base 6 "_law_made" (spMade K)) (c_law_answered : Cal P w K mg base 6 "_law_answered" (spAnswered K CB))
    (m_Box : Mak P w K mg base (L2.CX P w) 4 "Box" CB (zBoxInit K CB (cs 2))) (k_Box : MakK P w K mg base (L2.CX P w) 4 "Box" CB ["commands"] (zBoxInit K CB (cs 2))) (c_questions : Prp P w K mg base 1 CB "questions" (spQuestions CB)) : FnG P w K mg base 8 f fd ["pool"] (spRight19 K) := by
  refine okG F sc_law_right (fun vs H Q E h => ?_) (fun cdv A outer s H vs Q E hg hr h => ?_)
  · obtain ⟨a, n, rfl, _⟩ := h
    rfl
  · obtain ⟨a, n, rfl, R0, hn, k⟩ := h
    refine ⟨_, (pss_cons (ps_set (i := 1) sc_law_right.nd rfl (Or.inl rfl) (pe_ix ix_list (pe_lst (pa_cons pe_int (pa_cons (pe_op op_sub (pe_op op_pow pe_int pe_int) pe_int) pa_nil))) (pe_cal c_law_draw hr (by decide) (by rfl) (pa_cons (pv 0) (pa_cons pe_int pa_nil))) (fun _ _ => rfl)))
      (pss_cons (ps_set (i := 2) sc_law_right.nd rfl (Or.inl rfl) (pe_lst (pa_cons (pe_cal c_law_keys hr (by decide) (by rfl) (pa_cons (pv 0) (pa_cons pe_int (pa_cons (pv 1) pa_nil)))) (pa_cons (pe_cal c_law_keys hr (by decide) (by rfl) (pa_cons (pv 0) (pa_cons pe_int (pa_cons (pv 1) pa_nil)))) pa_nil))))
      (pss_cons (ps_setLc (i := 3) (own := [("one", 16)]) rfl sc_law_right.nd rfl rfl (sw_true rfl rfl rfl (by decide +kernel)) (pi_list (pv 2)) (blkOk_by (N := ["pool", "far", "kept", "passed", "boxes", "counts", "turn", "which", "lengths", "spot", "due", "value", "before", "told", "keys", "wrong", "one"]) (sc := defScope s_right) (by decide +kernel)) (fun _ _ _ _ _ => (pg_name (i := 16) sc_law_right.nd rfl (Or.inl rfl))) (fun _ _ _ _ _ => pts_nil) (fun _ _ _ _ _ => (pe_callTy (show CallR _ (.type "list") (rListK K) from call_list_of) (by rfl) T.list (by decide +kernel) (pa_cons (pv 16) pa_nil))))
      (pss_cons (ps_set (i := 4) sc_law_right.nd rfl (Or.inl rfl) (pe_lst (pa_cons (pe_makX takesNone m_Box hr (by decide) (by rfl) (pa_cons (pe_ix ix_list (pv 3) pe_int (fun _ _ => rfl)) pa_nil)) (pa_cons (pe_makKX takesNone k_Box hr (by decide) (by rfl) (pk_cons (pe_ix ix_list (pv 3) pe_int (fun _ _ => rfl)) pk_nil)) pa_nil))))
      (pss_cons (ps_expr (pe_bm0 PySem.F.plainAttrs_list PySem.F.slot_list_clear PySem.F.type_list_clear mt_clear (pe_ix ix_list (pv 3) pe_int (fun _ _ => rfl))))
      (pss_cons (ps_expr (pe_bm PySem.F.plainAttrs_list PySem.F.slot_list_append PySem.F.type_list_append mt_append (pe_ix ix_list (pv 3) pe_int (fun _ _ => rfl)) (pa_cons (pe_tup (pa_cons pe_str pa_nil)) pa_nil)))
      (pss_cons (ps_set (i := 5) sc_law_right.nd rfl (Or.inl rfl) (pe_lst (pa_cons pe_int (pa_cons pe_int pa_nil))))
      (pss_cons (ps_for PassesOwn.never rfl (pi_range1 rfl T.range (pa_cons (pe_cal c_law_draw hr (by decide) (by rfl) (pa_cons (pv 0) (pa_cons pe_int pa_nil))) pa_nil)) (pg_name (i := 6) sc_law_right.nd rfl (Or.inl rfl)) (pss_cons (ps_set (i := 7) sc_law_right.nd rfl (Or.inl rfl) (pe_cal c_law_draw hr (by decide) (by rfl) (pa_cons (pv 0) (pa_cons pe_int pa_nil))))
      (pss_cons (ps_set (i := 8) sc_law_right.nd rfl (Or.inl rfl) (pe_cal c_law_lines hr (by decide) (by rfl) (pa_cons (pv 0) (pa_cons (pe_ix ix_list (pe_lst (pa_cons pe_int (pa_cons pe_int pa_nil))) (pe_cal c_law_draw hr (by decide) (by rfl) (pa_cons (pv 0) (pa_cons pe_int pa_nil))) (fun _ _ => rfl)) (pa_cons (pe_op op_add (pv 1) pe_int) pa_nil)))))
      (pss_cons (ps_set (i := 9) sc_law_right.nd rfl (Or.inl rfl) (pe_cal c_law_spot hr (by decide) (by rfl) (pa_cons (pv 0) (pa_cons (pv 8) (pa_cons (pe_op op_add (pv 1) pe_int) pa_nil)))))
      (C8.pss_cut (ps_set (i := 10) sc_law_right.nd rfl (Or.inl rfl) (pe_lst (pa_cons (pe_ix ix_list (pe_cal c_law_ran hr (by decide) (by rfl) (pa_cons (pv 8) (pa_cons (pv 9) (pa_cons (pe_ix ix_list (pv 2) (pv 7) (fun _ _ => rfl)) pa_nil)))) pe_int (fun _ _ => rfl)) pa_nil)))
      (C8.pss_cut (ps_if (pt_cmpR op_eq (pe_cal c_law_draw hr (by decide) (by rfl) (pa_cons (pv 0) (pa_cons pe_int pa_nil))) pe_int (nomark _)) (pss_cons (ps_set (i := 9) sc_law_right.nd rfl (Or.inl rfl) (pe_cal c_law_bad_spot hr (by decide) (by rfl) (pa_cons (pv 0) (pa_cons (pv 8) pa_nil))))
      (pss_one (ps_set (i := 10) sc_law_right.nd rfl (Or.inl rfl) (pe_lst (pa_cons pe_str (pa_cons (pv 9) pa_nil)))))) pss_nil)
      (C8.pss_cut (ps_if (pt_cmpR op_eq (pe_cal c_law_draw hr (by decide) (by rfl) (pa_cons (pv 0) (pa_cons pe_int pa_nil))) pe_int (nomark _)) (pss_cons (ps_asg (pe_cal c_law_bad_lines hr (by decide) (by rfl) (pa_cons (pv 0) (pa_cons (pv 8) pa_nil))) (pg_lst rfl (pgs_cons (pg_name (i := 8) sc_law_right.nd rfl (Or.inl rfl)) (pgs_cons (pg_name (i := 11) sc_law_right.nd rfl (Or.inl rfl)) pgs_nil))))
      (pss_one (ps_set (i := 10) sc_law_right.nd rfl (Or.inl rfl) (pe_lst (pa_cons pe_str (pa_cons (pv 11) pa_nil)))))) pss_nil)
      (pss_cons (ps_asg (pe_op op_add (pe_ix ix_list (pv 5) (pv 7) (fun _ _ => rfl)) (pe_callTy call_int1 (by rfl) T.int (by decide +kernel) (pa_cons (pe_cmpR op_eq (pe_callB call_len_seq (by rfl) T.len (by decide +kernel) (pa_cons (pv 10) pa_nil)) pe_int (nomark _)) pa_nil))) (pg_sub (pv 5) (pv 7) set_list))
      (pss_cons (ps_set (i := 12) sc_law_right.nd rfl (Or.inl rfl) (pe_callB (cr_repr hg hr.units) (by rfl) T.repr (by decide +kernel) (pa_cons (pv 8) pa_nil)))
      (C8.pss_cut (ps_set (i := 13) sc_law_right.nd rfl (Or.inl rfl) (pe_cal c_law_answered hr (by decide) (by rfl) (pa_cons (pe_ix ix_list (pv 4) (pv 7) (fun _ _ => rfl)) (pa_cons (pv 8) (pa_cons (pv 9) (pa_cons (pe_cmpR op_eq (pe_cal c_law_draw hr (by decide) (by rfl) (pa_cons (pv 0) (pa_cons pe_int pa_nil))) pe_int (nomark _)) pa_nil))))))
      (pss_cons (ps_if (PW.pt (pw_or (pt_cmpR (op_neD hr.units) (pv 13) (pv 10) (nomark _)) (pw_or1 (pt_cmpR op_ne (pe_callB (cr_repr hg hr.units) (by rfl) T.repr (by decide +kernel) (pa_cons (pv 8) pa_nil)) (pv 12) (nomark _))))) (pss_one (ps_ret pe_bl)) pss_nil)
      (pss_one (ps_if (pt_cmpR (op_neD hr.units) (pe_lc (own := [("one", 16)]) rfl sc_law_right.nd (pi_list (pv 4)) (blkOk_by (N := ["pool", "far", "kept", "passed", "boxes", "counts", "turn", "which", "lengths", "spot", "due", "value", "before", "told", "keys", "wrong", "one"]) (sc := defScope s_right) (by decide +kernel)) (fun _ _ _ _ _ => (pg_name (i := 16) sc_law_right.nd rfl (Or.inl rfl))) (fun _ _ _ _ _ => pts_nil) (fun _ _ _ _ _ => (pe_prp c_questions hr (by decide) (pv 16) rfl))) (pv 5) (nomark _)) (pss_one (ps_ret pe_bl)) pss_nil)))))))))))))
      (pss_cons (ps_asg (pe_cal c_law_bad_keys hr (by decide) (by rfl) (pa_cons (pv 0) (pa_cons (pe_cal c_law_keys hr (by decide) (by rfl) (pa_cons (pv 0) (pa_cons pe_int (pa_cons (pv 1) pa_nil)))) pa_nil))) (pg_lst rfl (pgs_cons (pg_name (i := 14) sc_law_right.nd rfl (Or.inl rfl)) (pgs_cons (pg_name (i := 15) sc_law_right.nd rfl (Or.inl rfl)) pgs_nil))))
      (pss_one (ps_ret (pe_and (pe_cmpR (op_eqD hr.units) (pe_cal c_law_made hr (by decide) (by rfl) (pa_cons (pv 14) pa_nil)) (pe_lst (pa_cons pe_str (pa_cons (pv 15) pa_nil))) (nomark _)) (pe_one (pe_cmpR (op_eqD hr.units) (pe_cal c_law_made hr (by decide) (by rfl) (pa_cons (pe_ix ix_list (pv 2) pe_int (fun _ _ => rfl)) pa_nil)) (pe_lst (pa_cons pe_str (pa_cons pe_non pa_nil))) (nomark _))))))))))))))), ?_⟩
    refine ⟨_, _, rfl, rfl, cpow (by decide), _, _, rfl, rfl, (by show 2 ≤ sizeLine; decide), fun q1 nq1 => ?_⟩
    have q1a := R0.off nq1
    have kA : Keep a a H H := Keep.refl H
    have e_H1 : Same H (upd H q1 (.lst [V.int 12, .int (10 ^ (30 : Int).toNat - 1)])) := new_same nq1
    have h_q1 : (upd H q1 (.lst [V.int 12, .int (10 ^ (30 : Int).toNat - 1)])) q1 = some (.lst [V.int 12, .int (10 ^ (30 : Int).toNat - 1)]) := upd_same
    generalize upd H q1 (.lst [V.int 12, .int (10 ^ (30 : Int).toNat - 1)]) = H1 at e_H1 h_q1 ⊢
    replace R0 := R0.same e_H1
    replace kA := kA.same1 e_H1
    refine ⟨_, rfl, a, n, 2, rfl, R0, by omega, by decide, by decide, fun H2 d kp2 R2 d0 d1 => ?_⟩
    obtain ⟨far, hfar, f1, f2⟩ : ∃ z : Int, atI [V.int 12, .int (10 ^ (30 : Int).toNat - 1)] d = some (.int z) ∧ 12 ≤ z ∧ z < 10 ^ 30 := by
      rcases (show d = 0 ∨ d = 1 by omega) with rfl | rfl
      · exact ⟨_, rfl, by decide, by decide⟩
      · exact ⟨_, rfl, by decide, by decide⟩
    replace h_q1 := kp2 _ _ q1a q1a h_q1
    replace kA := kA.trans kp2
    refine ⟨q1, _, _, .int far, rfl, rfl, SqL.of h_q1, hfar, ?_⟩
    -- kept
    refine ⟨_, rfl, _, rfl, a, _, 20, far, rfl, R2, by omega, by decide, by decide, by omega, by omega, fun H3 k0 xs0 cs0 kp3 R3 k0a nk0 hk0 hc0 kb0 lc0 => ?_⟩
    replace kA := kA.trans kp3
    refine ⟨_, rfl, _, rfl, a, _, 5, far, rfl, R3, by omega, by decide, by decide, by omega, by omega, fun H4 k1 xs1 cs1 kp4 R4 k1a nk1 hk1 hc1 kb1 lc1 => ?_⟩
    replace hk0 := kp4 _ _ k0a k0a hk0
    replace hc0 := R3.cmds kp4 hc0
    replace kA := kA.trans kp4
    refine ⟨(by show 2 ≤ sizeLine; decide), fun kt nkt => ?_⟩
    have kta := R4.off nkt
    have e_H5 : Same H4 (upd H4 kt (.lst [V.ref k0, .ref k1])) := new_same nkt
    have h_kt : (upd H4 kt (.lst [V.ref k0, .ref k1])) kt = some (.lst [V.ref k0, .ref k1]) := upd_same
    generalize upd H4 kt (.lst [V.ref k0, .ref k1]) = H5 at e_H5 h_kt ⊢
    replace R4 := R4.same e_H5
    replace hk0 := e_H5 _ _ hk0
    replace hk1 := e_H5 _ _ hk1
    replace hc0 := hc0.same e_H5
    replace hc1 := hc1.same e_H5
    replace kA := kA.same1 e_H5
    -- passed
    refine ⟨_, rfl, kt, rfl, ⟨_, SqL.of h_kt⟩, fun D hD => ?_⟩
    have Da := R4.off hD
    refine lc_list (K := K) (a := kt) (xs := [V.ref k0, .ref k1]) (fun i H' => ∃ ps : List V, Same H5 H' ∧ H' D = some (.lst ps) ∧ ps.length = i ∧ ∀ j y, ps[j]? = some y → ∃ p, y = .ref p ∧ p ≠ D ∧ H5 p = none ∧ H' p = some (.lst (if j = 0 then xs0 else xs1)))
      ⟨[], same_upd (Same.refl H5) hD, upd_same, rfl, fun j y z => nomatch z⟩ (fun i H' _ h => by obtain ⟨_, e, _⟩ := h; exact SqL.of (e _ _ h_kt)) (fun i x H6 hx h => ?_) (fun H6 h => ?_)
    · obtain ⟨ps, e, hd, lp, hp⟩ := h
      obtain ⟨kk, rfl, hkk⟩ : ∃ kk, x = .ref kk ∧ H5 kk = some (.lst (if i = 0 then xs0 else xs1)) := by
        match i, hx with
        | 0, hx => exact ⟨k0, (Option.some.inj hx).symm, hk0⟩
        | 1, hx => exact ⟨k1, (Option.some.inj hx).symm, hk1⟩
      have i2 : i < 2 := (List.getElem?_eq_some_iff.mp hx).1
      refine ⟨rfl, _, rfl, kk, _, rfl, .inl (SqL.of (e _ _ hkk)), fun p np => ?_⟩
      have pD : p ≠ D := fun z => by rw [z, hd] at np; cases np
      have n5 : H5 p = none := by
        cases q : H5 p with
        | none => rfl
        | some o =>
          rw [e _ _ q] at np
          cases np
      refine ⟨ps, new_same np _ _ hd, lt_line (by omega), ps ++ [.ref p], same_freeU (e.trans (new_same np)) hD, upd_same, by rw [List.length_append, lp]; rfl, fun j y hy => ?_⟩
      by_cases jl : j < ps.length
      · rw [List.getElem?_append_left jl] at hy
        obtain ⟨p', h1, h2, h3, h4⟩ := hp j y hy
        exact ⟨p', h1, h2, h3, by rw [upd_ne h2]; exact new_same np _ _ h4⟩
      · rw [List.getElem?_append_right (by omega)] at hy
        have j0 : j - ps.length = 0 := by
          cases z : j - ps.length with
          | zero => rfl
          | succ m =>
            rw [z] at hy
            cases hy
        have ji : j = i := by omega
        rw [j0] at hy
        refine ⟨p, (Option.some.inj hy).symm, pD, n5, ?_⟩
        rw [upd_ne pD, upd_same, ji]
    obtain ⟨ps, e6, hD6, lp, hp⟩ := h
    obtain ⟨p0, p1, rfl⟩ : ∃ y0 y1, ps = [y0, y1] := by
      match ps, lp with
      | [y0, y1], _ => exact ⟨y0, y1, rfl⟩
    obtain ⟨p0, rfl, p0D, n0, hp0⟩ := hp 0 _ rfl
    obtain ⟨p1, rfl, p1D, n1, hp1⟩ := hp 1 _ rfl
    rw [if_pos rfl] at hp0
    rw [if_neg (by decide)] at hp1
    clear hp lp
    have p0a := R4.off n0
    have p1a := R4.off n1
    have pn0 : H p0 = none := kA.freeK p0a n0
    have pn1 : H p1 = none := kA.freeK p1a n1
    have R6 := R4.same e6
    have hk0' := e6 _ _ hk0
    have hk1' := e6 _ _ hk1
    have hkt' := e6 _ _ h_kt
    have hc0' := hc0.same e6
    have hc1' := hc1.same e6
    have kA6 := kA.same1 e6
    have gd0 := cs_good fun c hc => (kb0 c hc).1
    have gd1 := cs_good fun c hc => (kb1 c hc).1
    refine ⟨_, rfl, D, _, 0, _, rfl, rfl, SqL.of hD6, rfl, fun x0 dx0 nx0 ndx nne => ?_⟩
    have e0 : Same H6 (upd (upd H6 dx0 (.own x0)) x0 (.ins CB dx0 [])) := same_freeU (new_same ndx) nx0
    have hi0 : (upd (upd H6 dx0 (.own x0)) x0 (.ins CB dx0 [])) x0 = some (.ins CB dx0 []) := upd_same
    generalize upd (upd H6 dx0 (.own x0)) x0 (.ins CB dx0 []) = Hn at e0 hi0 ⊢
    show zBoxInit K CB (cs 2) [.ref x0, .ref p0] Hn _ _
    rw [zBoxInit_eq]
    refine ⟨x0, dx0, p0, _, _, rfl, hi0, SqL.of (e0 _ _ hp0), (raws_of hc0').same e0, (fun i hi => by rw [gd0] at hi; cases hi), fun _ H7 l0 kp nl' bx0 hl0 => ⟨rfl, ?_⟩⟩
    obtain ⟨e7, nl0⟩ := box_same e0 nx0 kp nl'
    clear kp nl' e0 hi0 ndx nne
    have x0a := R6.off nx0
    have l0a := R6.off nl0
    have l0p0 := ne_of_none hp0 nl0
    have l0p1 := ne_of_none hp1 nl0
    have hx0 : H x0 = none := kA6.freeK x0a nx0
    refine ⟨_, rfl, D, _, 1, _, rfl, rfl, SqL.of (e7 _ _ hD6), rfl, rfl, fun x1 dx1 nx1 ndx nne => ?_⟩
    have e0 : Same H7 (upd (upd H7 dx1 (.own x1)) x1 (.ins CB dx1 [])) := same_freeU (new_same ndx) nx1
    have hi0 : (upd (upd H7 dx1 (.own x1)) x1 (.ins CB dx1 [])) x1 = some (.ins CB dx1 []) := upd_same
    generalize upd (upd H7 dx1 (.own x1)) x1 (.ins CB dx1 []) = Hn at e0 hi0 ⊢
    refine ⟨x1, dx1, p1, _, _, rfl, hi0, SqL.of (e0 _ _ (e7 _ _ hp1)), (raws_of (hc1'.same e7)).same e0, (fun i hi => by rw [gd1] at hi; cases hi), fun _ H8 l1 kp nl' bx1 hl1 => ⟨rfl, ?_⟩⟩
    obtain ⟨e8, nl1⟩ := box_same e0 nx1 kp nl'
    clear kp nl' e0 hi0 ndx nne
    have x1a := (R6.same e7).off nx1
    have l1a := (R6.same e7).off nl1
    have l1p0 := ne_of_none (e7 _ _ hp0) nl1
    have l1p1 := ne_of_none (e7 _ _ hp1) nl1
    have x01 : x0 ≠ x1 := ne_of_none bx0 nx1
    have hx1 : H x1 = none := (kA6.same1 e7).freeK x1a nx1
    have e78 := e7.trans e8
    refine ⟨(by show 2 ≤ sizeLine; decide), fun bt nbt => ?_⟩
    have bta := (R6.same e78).off nbt
    have btp0 := ne_of_none (e78 _ _ hp0) nbt
    have btp1 := ne_of_none (e78 _ _ hp1) nbt
    have e9 := e78.trans (new_same (o := HO.lst [V.ref x0, .ref x1]) nbt)
    have e89 := e8.trans (new_same (o := HO.lst [V.ref x0, .ref x1]) nbt)
    have e19 := new_same (o := HO.lst [V.ref x0, .ref x1]) nbt
    have hbt : (upd H8 bt (.lst [V.ref x0, .ref x1])) bt = some (.lst [V.ref x0, .ref x1]) := upd_same
    generalize upd H8 bt (.lst [V.ref x0, .ref x1]) = H9 at e9 e89 e19 hbt ⊢
    have B0 : Bxs K H H9 a (n + 500) kt bt (two x0 x1) (two dx0 dx1) (two l0 l1) (two k0 k1) CB (two xs0 xs1) (two cs0 cs1) (two 0 0) :=
      ⟨kA6.same1 e9, (R6.same e9).more (by omega), e9 _ _ hkt', hbt, (by intro i; cases i; exact e9 _ _ hk0'; exact e9 _ _ hk1'), (by intro i; cases i; exact e89 _ _ hl0; exact e19 _ _ hl1), (by intro i; cases i; exact e89 _ _ bx0; exact e19 _ _ bx1), (by intro i; cases i; exact hc0'.same e9; exact hc1'.same e9), kta, bta, (by intro i; cases i; exact k0a; exact k1a), (by intro i; cases i; exact l0a; exact l1a), x01, (by intro i; cases i; exact hx0; exact hx1)⟩
    have off0 : Off H a kt bt (two l0 l1) (two k0 k1) p0 := ⟨p0a, (ne_of_none h_kt n0).symm, btp0, (by intro i; cases i; exact (ne_of_none hk0 n0).symm; exact (ne_of_none hk1 n0).symm), (by intro i; cases i; exact l0p0; exact l1p0), pn0⟩
    have off1 : Off H a kt bt (two l0 l1) (two k0 k1) p1 := ⟨p1a, (ne_of_none h_kt n1).symm, btp1, (by intro i; cases i; exact (ne_of_none hk0 n1).symm; exact (ne_of_none hk1 n1).symm), (by intro i; cases i; exact l0p1; exact l1p1), pn1⟩
    have hD9 := e9 _ _ hD6
    have hp09 := e9 _ _ hp0
    have hp19 := e9 _ _ hp1
    refine ⟨_, rfl, D, _, 0, _, rfl, rfl, SqL.of hD9, rfl, .inl ⟨rfl, _, SqL.of hp09⟩, p0, xs0, rfl, rfl, hp09, ?_⟩
    have B1 := B0.updL (zs := []) hp09 off0
    have hD10 : (upd H9 p0 (.lst [])) D = some (.lst [.ref p0, .ref p1]) := by rw [upd_ne (Ne.symm p0D)]; exact hD9
    obtain ⟨ys1, hy1, ly1⟩ : ∃ ys, (upd H9 p0 (.lst [])) p1 = some (.lst ys) ∧ ys.length ≤ 20 := by
      by_cases z : p1 = p0
      · exact ⟨[], by rw [z, upd_same], by decide⟩
      · refine ⟨xs1, by rw [upd_ne z]; exact hp19, ?_⟩
        have := hc1.len
        omega
    generalize upd H9 p0 (.lst []) = H10 at B1 hD10 hy1 ⊢
    refine ⟨_, rfl, D, _, 1, _, rfl, rfl, SqL.of hD10, rfl, .inl ⟨rfl, _, SqL.of hy1⟩, (by show 1 ≤ sizeLine; decide), fun tt ntt => ?_⟩
    have hy2 := new_same (o := HO.tup [V.str "end"]) ntt _ _ hy1
    refine ⟨p1, ys1, _, rfl, rfl, hy2, lt_line (by omega), ?_⟩
    have B2 := (B1.same (new_same (o := HO.tup [V.str "end"]) ntt)).updL (zs := ys1 ++ [.ref tt]) hy2 off1
    generalize upd (upd H10 tt (.tup [V.str "end"])) p1 (.lst (ys1 ++ [.ref tt])) = H11 at B2 ⊢
    refine ⟨(by show 2 ≤ sizeLine; decide), fun ct nct => ?_⟩
    have offc : Off H a kt bt (two l0 l1) (two k0 k1) ct := ⟨B2.R.off nct, (ne_of_none B2.ht nct).symm, (ne_of_none B2.hb nct).symm, fun i => (ne_of_none (B2.hk i) nct).symm, fun i => (ne_of_none (B2.hl i) nct).symm, B2.kA.freeK (B2.R.off nct) nct⟩
    have B3 := B2.same (new_same (o := HO.lst [V.int 0, .int 0]) nct)
    have hct : (upd H11 ct (.lst [V.int 0, .int 0])) ct = some (.lst [V.int 0, .int 0]) := upd_same
    generalize upd H11 ct (.lst [V.int 0, .int 0]) = H12 at B3 hct ⊢
    have okE : ∀ i, ∀ c ∈ two cs0 cs1 i, KeyB (far2 far) c := by intro i; cases i; exact kb0; exact kb1
    have lnE : ∀ i, (two cs0 cs1 i).length ≤ 20 := by intro i; cases i; (show cs0.length ≤ 20; omega); (show cs1.length ≤ 20; omega)
    generalize two x0 x1 = X2 at *
    generalize two dx0 dx1 = DX2 at *
    generalize two l0 l1 = L2' at *
    generalize hK2 : two k0 k1 = K2 at *
    generalize two xs0 xs1 = XS2 at *
    generalize two cs0 cs1 = ES2 at *
    generalize hM2 : two (0 : Int) 0 = M2 at *
    have hct' : H12 ct = some (.lst [.int (M2 false), .int (M2 true)]) := by rw [← hM2]; exact hct
    have cta := offc.1
    refine ⟨_, rfl, a, _, 31, rfl, B3.R, by omega, by decide, by decide, fun H13 dd kp13 R13 dd0 dd1 => ⟨_, rfl, by omega, by omega, for_range (lo := 0) (n := dd.toNat) (fun j σ H' => ∃ (m : Bool → Int) (v6 v7 v8 v9 v10 v11 v12 v13 : Option V), σ = [some (.ref a), some (.int far), some (.ref kt), some (.ref D), some (.ref bt), some (.ref ct), v6, v7, v8, v9, v10, v11, v12, v13, none, none, none] ∧
      Bxs K H H' a (n + 600 + 500 * j) kt bt X2 DX2 L2' K2 CB XS2 ES2 m ∧ H' ct = some (.lst [.int (m false), .int (m true)])) ?_ (fun j σ Hj hj h => ?_) (fun σ Hj h => ?_)⟩⟩
    · exact ⟨M2, none, none, none, none, none, none, none, none, rfl, (B3.keep kp13 R13).more (by omega), kp13 _ _ cta cta hct'⟩
    · obtain ⟨m, v6, v7, v8, v9, v10, v11, v12, v13, rfl, B, hc⟩ := h
      have dd31 : j < 31 := by omega
      refine ⟨_, rfl, a, _, 2, rfl, B.R, by omega, by decide, by decide, fun J1 d1 kq1 Q1 d10 d11 => ?_⟩
      obtain ⟨i, rfl⟩ := bI_of d10 d11
      have B1' := B.keep kq1 Q1
      replace hc := kq1 _ _ cta cta hc
      refine ⟨_, rfl, (by show 2 ≤ sizeLine; decide), fun s5 ns5 => ?_⟩
      have s5a := Q1.off ns5
      have B2' := B1'.same (new_same (o := HO.lst [V.int 5, .int 40]) ns5)
      replace hc := new_same (o := HO.lst [V.int 5, .int 40]) ns5 _ _ hc
      have hs5 : (upd J1 s5 (.lst [V.int 5, .int 40])) s5 = some (.lst [V.int 5, .int 40]) := upd_same
      generalize upd J1 s5 (.lst [V.int 5, .int 40]) = J2 at B2' hc hs5 ⊢
      refine ⟨_, rfl, a, _, 2, rfl, B2'.R, by omega, by decide, by decide, fun J3 d3 kq3 Q3 d30 d31 => ?_⟩
      have B3' := B2'.keep kq3 Q3
      replace hc := kq3 _ _ cta cta hc
      replace hs5 := kq3 _ _ s5a s5a hs5
      obtain ⟨most, hmost, m1, m2⟩ : ∃ z : Int, atI [V.int 5, .int 40] d3 = some (.int z) ∧ 5 ≤ z ∧ z ≤ 40 := by
        rcases (show d3 = 0 ∨ d3 = 1 by omega) with rfl | rfl
        · exact ⟨_, rfl, by decide, by decide⟩
        · exact ⟨_, rfl, by decide, by decide⟩
      refine ⟨s5, _, _, .int most, rfl, rfl, SqL.of hs5, hmost, ?_⟩
      refine ⟨_, rfl, _, _, rfl, rfl, a, _, most, far + 1, rfl, Q3, by omega, by omega, by omega, by omega, by omega, fun J4 lt tx kq4 Q4 lta nlt hlt hT t1 t2 => ?_⟩
      have lct : lt ≠ ct := (ne_of_none hc nlt).symm
      have B4' := B3'.keep kq4 Q4
      replace hc := kq4 _ _ cta cta hc
      -- the cursor
      refine ⟨_, rfl, _, rfl, _, rfl, _, _, rfl, rfl, a, lt, _, tx, far + 1, rfl, Q4, by omega, hlt, lta, t1, by omega, by omega, by omega, fun J5 b r g kq5 Q5 hb r0 r1 hg1 => ?_⟩
      have B5' := B4'.keep kq5 Q5
      replace hc := kq5 _ _ cta cta hc
      replace hlt := kq5 _ _ lta lta hlt
      have nnT : ∀ x ∈ tx, 0 ≤ x := fun x hx => (hT x hx).1
      have g0 : ge g 0 := by
        cases g with
        | none => exact ge_none 0
        | some x => exact ge_some.mpr (hg1 x rfl).1
      have okC : AllOk (ES2 i) := fun c hc' => (okE i c hc').1
      have nbC : ∀ c ∈ ES2 i, numC c < 10 ^ 40 := fun c hc' => by
        have := (okE i c hc').2.1
        unfold far2 at this
        omega
      -- what is due
      refine ⟨fun σ H' => ∃ d : Addr, σ = [some (.ref a), some (.int far), some (.ref kt), some (.ref D), some (.ref bt), some (.ref ct), some (.int (0 + (j : Int))), some (.int (bI i)), some (.ref lt), some (.ref b), some (.ref d), v11, v12, v13, none, none, none] ∧
        Bxs K H H' a (n + 600 + 500 * j + 230) kt bt X2 DX2 L2' K2 CB XS2 ES2 m ∧ H' ct = some (.lst [.int (m false), .int (m true)]) ∧ Sit K H' a ct lt b d tx r g (ES2 i) 1 (.list [ansD (afterL tx r g (ES2 i))]), ?_, ?_⟩
      · have kat : atI [V.ref (K2 false), .ref (K2 true)] (bI i) = some (.ref (K2 i)) := at_b (fun i => V.ref (K2 i)) i
        refine ⟨_, rfl, _, rfl, _, rfl, _, rfl, kt, _, _, _, rfl, rfl, SqL.of B5'.ht, kat, lt, b, K2 i, tx, r, g, XS2 i, ES2 i, rfl, SqL.of hlt, SqT.of hb, SqL.of (B5'.hk i), B5'.hc i, r0, r1, okC, nbC, fun mm hm J6 p e6 np hp => ?_, fun r' g' ha J6 p q e6 np hp hq => ?_⟩
        · have ea : afterL tx r g (ES2 i) = none := by
            cases qq : afterL tx r g (ES2 i) with
            | none => rfl
            | some y =>
              have z := fail_none.mpr (show afterL tx r g (ES2 i) ≠ none by rw [qq]; simp)
              rw [z] at hm
              cases hm
          refine ⟨p, _, 0, .non, rfl, rfl, SqL.of hp, rfl, (by show 1 ≤ sizeLine; decide), fun d nd => ?_⟩
          have e7 := e6.trans (new_same (o := HO.lst [V.non]) nd)
          have B7 := B5'.same e7
          exact ⟨d, rfl, B7.more (by omega), e7 _ _ hc, ⟨e7 _ _ hlt, SqT.of (e7 _ _ hb), .inl ⟨rfl, nnT, r0, r1, g0, rfl⟩, .inl ⟨rfl, d, by rw [ea]; exact upd_same, by rw [ea]; trivial⟩, lta, lct, (B5'.same e6).R.off nd, (ne_of_none (e6 _ _ hc) nd).symm, by omega, fun x hx => by have := hT x hx; omega⟩⟩
        · refine ⟨p, _, 0, .ref q, rfl, rfl, SqL.of hp, rfl, (by show 1 ≤ sizeLine; decide), fun d nd => ?_⟩
          have en := new_same (o := HO.lst [V.ref q]) nd
          have e7 := e6.trans en
          have B7 := B5'.same e7
          exact ⟨d, rfl, B7.more (by omega), e7 _ _ hc, ⟨e7 _ _ hlt, SqT.of (e7 _ _ hb), .inl ⟨rfl, nnT, r0, r1, g0, rfl⟩, .inl ⟨rfl, q, by rw [ha]; exact upd_same, by rw [ha]; exact seq_t en hq⟩, lta, lct, (B5'.same e6).R.off nd, (ne_of_none (e6 _ _ hc) nd).symm, by omega, fun x hx => by have := hT x hx; omega⟩⟩
      clear B B1' B2' B3' B4' B5' hb hlt hc hs5
      rintro σ J6 ⟨d, rfl, B, hc, S⟩
      have txne : tx ≠ [] := fun z => by rw [z] at t1; exact absurd t1 (by decide)
      have txng : negAt tx = none := neg_none fun j x _ hx => nnT x (List.mem_of_getElem? hx)
      -- a wrong cursor
      refine ⟨fun σ H' => ∃ (b d : Addr) (r : Int) (g : Option Int) (cnt : Int) (DL : PyData), σ = [some (.ref a), some (.int far), some (.ref kt), some (.ref D), some (.ref bt), some (.ref ct), some (.int (0 + (j : Int))), some (.int (bI i)), some (.ref lt), some (.ref b), some (.ref d), v11, v12, v13, none, none, none] ∧
        Bxs K H H' a (n + 600 + 500 * j + 260) kt bt X2 DX2 L2' K2 CB XS2 ES2 m ∧ H' ct = some (.lst [.int (m false), .int (m true)]) ∧ Sit K H' a ct lt b d tx r g (ES2 i) cnt DL, ?_, ?_⟩
      · refine ⟨_, rfl, a, _, 5, rfl, B.R, by omega, by decide, by decide, fun J7 d7 kq7 Q7 d70 d71 => ⟨rfl, _, rfl, ite2 (fun c => ?_) (fun c => ?_)⟩⟩
        · have B7 := B.keep kq7 Q7
          have S7 := S.keep B.R kq7
          refine ⟨_, rfl, _, rfl, a, lt, _, tx, rfl, Q7, by omega, S7.hl, lta, by omega, fun J8 b' r' g' kq8 Q8 hb' rb gb bad => ?_⟩
          have B8 := B7.keep kq8 Q8
          have hc8 := kq8 _ _ cta cta (kq7 _ _ cta cta hc)
          have hl8 := kq8 _ _ lta lta S7.hl
          refine ⟨_, rfl, (by show 2 ≤ sizeLine; decide), fun d' nd' => ?_⟩
          have en := new_same (o := HO.lst [V.str "cursor", .ref b']) nd'
          exact ⟨b', d', r', g', 0, _, rfl, (B8.same en).more (by omega), en _ _ hc8, ⟨en _ _ hl8, SqT.of (en _ _ hb'), .inr ⟨rfl, 1, .ref b', by decide, .inr (.inr rfl), fun rs => .cursor txne txng bad, rfl⟩, .inr ⟨rfl, 1, .ref b', upd_same, rfl, .inr (.inr rfl)⟩, lta, lct, Q8.off nd', (ne_of_none hc8 nd').symm, S.tl, S.tb⟩⟩
        · exact ⟨b, d, r, g, 1, _, rfl, (B.keep kq7 Q7).more (by omega), kq7 _ _ cta cta hc, S.keep B.R kq7⟩
      clear B hc S
      rintro σ J7 ⟨b, d, r, g, cnt, DL, rfl, B, hc, S⟩
      -- a wrong text
      refine ⟨fun σ H' => ∃ (lt b d : Addr) (T : List Int) (r : Int) (g : Option Int) (cnt : Int) (DL : PyData) (v11 : Option V), σ = [some (.ref a), some (.int far), some (.ref kt), some (.ref D), some (.ref bt), some (.ref ct), some (.int (0 + (j : Int))), some (.int (bI i)), some (.ref lt), some (.ref b), some (.ref d), v11, v12, v13, none, none, none] ∧
        Bxs K H H' a (n + 600 + 500 * j + 300) kt bt X2 DX2 L2' K2 CB XS2 ES2 m ∧ H' ct = some (.lst [.int (m false), .int (m true)]) ∧ Sit K H' a ct lt b d T r g (ES2 i) cnt DL, ?_, ?_⟩
      · refine ⟨_, rfl, a, _, 6, rfl, B.R, by omega, by decide, by decide, fun J8 d8 kq8 Q8 d80 d81 => ⟨rfl, _, rfl, ite2 (fun c => ?_) (fun c => ?_)⟩⟩
        · have B8 := B.keep kq8 Q8
          have S8 := S.keep B.R kq8
          refine ⟨_, rfl, _, rfl, a, lt, _, tx, rfl, Q8, by omega, S8.hl, lta, t1, S.tl, S.tb, fun J9 p lt' T' v kq9 Q9 hp lta' nlt' hlt' tb' tl' bad => ?_⟩
          have B9 := B8.keep kq9 Q9
          have S9 := S8.keep Q8 kq9
          have hc8 := kq8 _ _ cta cta hc
          have hc9 := kq9 _ _ cta cta hc8
          have lct' : lt' ≠ ct := (ne_of_none hc8 nlt').symm
          refine ⟨p, _, rfl, SqL.of hp, rfl, _, _, rfl, _, _, rfl, rfl, ?_⟩
          refine ⟨_, rfl, (by show 2 ≤ sizeLine; decide), fun d' nd' => ?_⟩
          have en := new_same (o := HO.lst [V.str "text", v]) nd'
          have bv : v = .non ∨ (∃ n, v = .int n) ∨ v = .ref b := by
            rcases bad with ⟨_, e⟩ | ⟨_, i, _, e⟩
            · exact .inl e
            · exact .inr (.inl ⟨_, e⟩)
          refine ⟨lt', b, d', T', r, g, 0, _, _, rfl, (B9.same en).more (by omega), en _ _ hc9, ⟨en _ _ hlt', seq_t en S9.hb, .inr ⟨rfl, 0, v, by decide, bv, fun rs => ?_, rfl⟩, .inr ⟨rfl, 0, v, upd_same, rfl, bv⟩, lta', lct', Q9.off nd', (ne_of_none hc9 nd').symm, tl', tb'⟩⟩
          rcases bad with ⟨e1, e2⟩ | ⟨e1, i, e2, e3⟩
          · rw [e2]
            exact .text0 e1
          · rw [e3]
            exact .text i e1 e2
        · exact ⟨lt, b, d, tx, r, g, cnt, DL, v11, rfl, (B.keep kq8 Q8).more (by omega), kq8 _ _ cta cta hc, S.keep B.R kq8⟩
      clear B hc S nnT g0 txne txng lta lct nlt hT t1 t2 r0 r1 hg1 tx lt
      rintro σ J8 ⟨lt, b, d, T', r, g, cnt, DL, v11, rfl, B, hc, S⟩
      have cta' := cta
      obtain ⟨L, hL, hlen⟩ : ∃ L : List V, J8 d = some (.lst L) ∧ (if decide (V.int (L.length : Nat) = V.int 1) = true then (1 : Int) else 0) = cnt := by
        rcases S.due with ⟨c, q, h1, _⟩ | ⟨c, i', v', h1, _, _⟩
        · refine ⟨_, h1, ?_⟩
          rw [c]
          show (if decide (V.int 1 = V.int 1) = true then (1 : Int) else 0) = 1
          rw [decide_eq_true rfl]
          rfl
        · refine ⟨_, h1, ?_⟩
          rw [c]
          show (if decide (V.int 2 = V.int 1) = true then (1 : Int) else 0) = 0
          rw [decide_eq_false (by intro z; cases z)]
          rfl
      refine ⟨_, rfl, _, rfl, ct, _, _, .int (m i), rfl, rfl, SqL.of hc, at_b (fun i => V.int (m i)) i, _, rfl, d, L, rfl, .inl (SqL.of hL), rfl, .inr ⟨_, rfl, _, _, rfl, rfl, _, rfl, _, rfl, ct, _, bI i, bN i, rfl, rfl, hc, ix_b _ _ i, ?_⟩⟩
      rw [hlen]
      have hc2 : (upd J8 ct (.lst ([V.int (m false), .int (m true)].set (bN i) (.int (m i + cnt))))) ct = some (.lst [.int (bump m i (m i + cnt) false), .int (bump m i (m i + cnt) true)]) := by rw [upd_same, set_b]
      have B9 := B.updL (zs := [V.int (m false), .int (m true)].set (bN i) (.int (m i + cnt))) hc offc
      have S9 := S.updC (zs := [V.int (m false), .int (m true)].set (bN i) (.int (m i + cnt))) hc
      generalize upd J8 ct (.lst ([V.int (m false), .int (m true)].set (bN i) (.int (m i + cnt)))) = Jc at hc2 B9 S9 ⊢
      have shT : ∀ x ∈ T', Sml x := fun x hx => by
        have := S.tb x hx
        unfold Sml
        omega
      obtain ⟨s1, s2, s3, s4⟩ := ints_show shT S.tl
      refine ⟨_, rfl, lt, _, rfl, .lst (SqL.of S9.hl) (dp_ints _), s1, s2, s3, s4, ?_⟩
      -- told
      refine ⟨fun σ H' => ∃ p : Addr, σ = [some (.ref a), some (.int far), some (.ref kt), some (.ref D), some (.ref bt), some (.ref ct), some (.int (0 + (j : Int))), some (.int (bI i)), some (.ref lt), some (.ref b), some (.ref d), v11, some (.str (PyData.shown (.list (T'.map PyData.int)))), some (.ref p), none, none, none] ∧
        Bxs K H H' a (n + 600 + 500 * j + 310) kt bt X2 DX2 L2' K2 CB XS2 ES2 (bump m i (m i + cnt)) ∧ H' ct = some (.lst [.int (bump m i (m i + cnt) false), .int (bump m i (m i + cnt) true)]) ∧ Sit K H' a ct lt b d T' r g (ES2 i) cnt DL ∧ Dp K H' (.ref p) DL, ?_, ?_⟩
      · refine ⟨_, rfl, _, rfl, bt, _, _, .ref (X2 i), rfl, rfl, SqL.of B9.hb, at_b (fun i => V.ref (X2 i)) i, _, rfl, _, rfl, _, rfl, a, _, 2, rfl, B9.R, by omega, by decide, by decide, fun Jd d9 kqd Qd d90 d91 => ⟨rfl, ?_⟩⟩
        have Bd := B9.keep kqd Qd
        have Sd := S9.keep B9.R kqd
        have hcd := kqd _ _ cta cta hc2
        refine ⟨X2 i, DX2 i, lt, b, L2' i, m i, _, rfl, Bd.hx i, (Sd.ask (SqL.of (Bd.hl i)) (Bd.hc i) okC (by have := lnE i; omega)).imp (fun iv v q H' p e hp => ?_) (fun o q H' p q2 kp bx hq hp => ?_)⟩
        · obtain ⟨c0, i3, hv, hD⟩ := q
          have eb : bump m i (m i + cnt) = m := by
            funext z
            unfold bump
            by_cases zi : z = i
            · rw [if_pos zi, zi, c0, Int.add_zero]
            · rw [if_neg zi]
          refine ⟨p, rfl, ?_, e _ _ hcd, Sd.same e, ?_⟩
          · rw [eb]
            exact (Bd.same e).more (by omega)
          · rw [hD]
            refine .lst (SqL.of hp) (.cons (.str _) (.cons ?_ .nil))
            rcases hv with rfl | ⟨nn, rfl⟩ | rfl
            · exact .non
            · exact .int nn
            · exact .tup (seq_t e Sd.hb) (.cons (.int r) (.cons (dp_optQ g) .nil))
        · obtain ⟨c1, hD⟩ := q
          have o1 : ∀ {c : Addr} {ys : List V}, Jd c = some (.lst ys) → H' c = some (.lst ys) := fun hq => kp _ _ (ne_of (Bd.hx i) hq (by intro q; cases q)).symm (ne_of (Bd.hx i) hq (by intro q; cases q)).symm hq
          have o2 : ∀ (c : Addr) (ys : List V), SqT K Jd c ys → SqT K H' c ys := fun c ys hq => by
            rcases hq with (z | ⟨o, z⟩) | z
            · exact .inl (.inl (kp _ _ (ne_of (Bd.hx i) z (by intro q; cases q)).symm (ne_of (Bd.hx i) z (by intro q; cases q)).symm z))
            · exact .inl (.inr ⟨o, kp _ _ (ne_of (Bd.hx i) z (by intro q; cases q)).symm (ne_of (Bd.hx i) z (by intro q; cases q)).symm z⟩)
            · exact .inr z
          refine ⟨p, rfl, ?_, o1 hcd, Sd.map (fun _ h => o1 h) (fun _ h => o1 h) o2, ?_⟩
          · rw [c1]
            exact (Bd.asked kp bx).more (by omega)
          · rw [hD]
            refine .lst (SqL.of hp) (.cons ?_ .nil)
            cases o with
            | none => exact .non
            | some y => exact .tup hq (.cons (.int _) (.cons (dp_optQ _) .nil))
      rintro σ Je ⟨p, rfl, B10, hc10, S10, Dt⟩
      obtain ⟨ly, sh⟩ := S10.lay
      refine ⟨_, rfl, _, rfl, DL, DL, Dt, S10.dp, sh, sh, _, rfl, ?_⟩
      rw [SeqAt.eqv_refl _ ly]
      refine iteF ⟨_, rfl, lt, _, rfl, .lst (SqL.of S10.hl) (dp_ints _), s1, s2, s3, s4, _, rfl, rfl, _, rfl, ?_⟩
      rw [decide_eq_true rfl]
      refine iteF ?_
      -- the counts
      generalize bump m i (m i + cnt) = m2 at B10 hc10
      refine ⟨_, rfl, bt, rfl, ⟨_, SqL.of B10.hb⟩, fun D2 hD2 => ?_⟩
      refine lc_list (K := K) (a := bt) (xs := [V.ref (X2 false), .ref (X2 true)]) (fun z H' => Same Je H' ∧ H' D2 = some (.lst ([V.int (m2 false), .int (m2 true)].take z))) ⟨new_same hD2, upd_same⟩ (fun z H' _ h => SqL.of (h.1 _ _ B10.hb)) (fun z x Jf hx h => ?_) (fun Jf h => ?_)
      · obtain ⟨e, hd⟩ := h
        obtain ⟨w, rfl, hw⟩ : ∃ w, x = .ref (X2 w) ∧ [V.int (m2 false), .int (m2 true)].take z ++ [.int (m2 w)] = [V.int (m2 false), .int (m2 true)].take (z + 1) := by
          match z, hx with
          | 0, hx => exact ⟨false, (Option.some.inj hx).symm, rfl⟩
          | 1, hx => exact ⟨true, (Option.some.inj hx).symm, rfl⟩
        have bx := e _ _ (B10.hx w)
        refine ⟨rfl, _, rfl, X2 w, DX2 w, _, rfl, bx, X2 w, DX2 w, L2' w, m2 w, rfl, bx, _, hd, lt_line (by rw [List.length_take]; exact Nat.le_trans (Nat.min_le_right z 2) (by decide)), same_freeU e hD2, ?_⟩
        rw [upd_same, hw]
      · obtain ⟨e, hd⟩ := h
        refine ⟨_, rfl, .list [.int (m2 false), .int (m2 true)], .list [.int (m2 false), .int (m2 true)], .lst (SqL.of hd) (.cons (.int _) (.cons (.int _) .nil)), .lst (SqL.of (e _ _ hc10)) (.cons (.int _) (.cons (.int _) .nil)), rfl, rfl, _, rfl, ?_⟩
        rw [SeqAt.eqv_refl _ rfl]
        refine iteF ?_
        exact ⟨m2, _, _, _, _, _, _, _, _, rfl, (B10.same e).more (by omega), e _ _ hc10⟩
    · obtain ⟨m, v6, v7, v8, v9, v10, v11, v12, v13, rfl, B, hc⟩ := h
      -- wrong commands, and no wrong ones
      refine ⟨_, rfl, _, rfl, _, rfl, a, _, 18, far, rfl, B.R, by omega, by decide, by decide, by omega, by omega, fun J1 kk xsk csk kq1 Q1 kka nkk hkk hck kbk lkk => ?_⟩
      have B1' := B.keep kq1 Q1
      refine ⟨a, kk, _, xsk, _, rfl, Q1, by omega, hkk, kka, raws_of hck, by rw [List.length_map]; omega, fun r hr => (by obtain ⟨c, hc1, rfl⟩ := List.mem_map.mp hr; exact rawOf_ok (csml_of (kbk c hc1).1 (by have := (kbk c hc1).2.1; unfold far2 at this; omega))), fun J2 p q ys ss i kq2 Q2 hp qa nq hq hrs rok rl bad => ?_⟩
      have B2' := B1'.keep kq2 Q2
      refine ⟨p, _, rfl, SqL.of hp, rfl, _, _, rfl, _, _, rfl, rfl, ?_⟩
      refine ⟨_, rfl, q, ys, ss, rfl, SqL.of hq, hrs, fun J3 p3 e3 hp3 => ?_⟩
      rw [bad] at hp3
      refine ⟨_, rfl, (by show 2 ≤ sizeLine; decide), fun p4 np4 => ?_⟩
      have e4 := new_same (o := HO.lst [V.str "command", .int (i : Nat)]) np4
      have hp4 := e4 _ _ hp3
      have i7 : (2, V.int (i : Nat)).1 < 7 := by show 2 < 7; decide
      refine ⟨wrdD 0 none (2, .int (i : Nat)), wrdD 0 none (2, .int (i : Nat)), .lst (SqL.of hp4) (.cons (.str _) (.cons (.int _) .nil)), .lst (SqL.of upd_same) (.cons (.str _) (.cons (.int _) .nil)), ent_shaped i7, ent_shaped i7, _, rfl, ?_⟩
      rw [SeqAt.eqv_refl _ (ent_lay i7).1]
      have B3' := (B2'.same e3).same e4
      generalize upd J3 p4 (.lst [V.str "command", .int (i : Nat)]) = J4 at B3' ⊢
      have gd3 : badAt ((ES2 false).map rawOf) = none := cs_good fun c hc => (okE false c hc).1
      refine iteT ⟨_, rfl, kt, _, 0, _, rfl, rfl, SqL.of B3'.ht, rfl, K2 false, XS2 false, (ES2 false).map rawOf, rfl, SqL.of (B3'.hk false), raws_of (B3'.hc false), fun J5 p5 e5 hp5 => ?_⟩
      rw [gd3] at hp5
      refine ⟨(by show 2 ≤ sizeLine; decide), fun p6 np6 => ?_⟩
      have e6' := new_same (o := HO.lst [V.str "none", V.non]) np6
      have hp6 := e6' _ _ hp5
      refine ⟨.list [.str "none", .none], .list [.str "none", .none], .lst (SqL.of hp6) (.cons (.str _) (.cons .non .nil)), .lst (SqL.of upd_same) (.cons (.str _) (.cons .non .nil)), by decide +kernel, by decide +kernel, ?_⟩
      rw [SeqAt.eqv_refl _ (by decide +kernel)]
      have B4' := (B3'.same e5).same e6'
      exact k _ B4'.kA (B4'.R.more (by omega))
end
end Gc

/-! words read back: slices, digits, dicts of the module -/
namespace Gc
open PySem PyProof.Rows L2 TL
theorem mk_size (l : List Nat) : (mkS l).length = l.length := mkS_len l
theorem cut_front (l : List Nat) (x : Nat) : cutS (mkS (l ++ [x])) none (some (-1)) = mkS l := by
  refine ext_tl ?_
  show ((l ++ [x]).drop (HT.sIx (mkS (l ++ [x])).length 0 none)).take (HT.sIx (mkS (l ++ [x])).length (mkS (l ++ [x])).length (some (-1)) - HT.sIx (mkS (l ++ [x])).length 0 none) = l
  rw [mkS_len, List.length_append]
  have h1 : HT.sIx (l.length + [x].length) 0 none = 0 := rfl
  have h2 : HT.sIx (l.length + [x].length) (l.length + [x].length) (some (-1)) = l.length := by
    unfold HT.sIx
    simp
    try omega
  rw [h1, h2]
  simp
theorem cut_back (l : List Nat) (x : Nat) : cutS (mkS (l ++ [x])) (some (-1)) none = mkS [x] := by
  refine ext_tl ?_
  show ((l ++ [x]).drop (HT.sIx (mkS (l ++ [x])).length 0 (some (-1)))).take (HT.sIx (mkS (l ++ [x])).length (mkS (l ++ [x])).length none - HT.sIx (mkS (l ++ [x])).length 0 (some (-1))) = [x]
  rw [mkS_len, List.length_append]
  have h1 : HT.sIx (l.length + [x].length) (l.length + [x].length) none = l.length + 1 := rfl
  have h2 : HT.sIx (l.length + [x].length) 0 (some (-1)) = l.length := by
    unfold HT.sIx
    simp
    try omega
  rw [h1, h2]
  simp
theorem int_mk (n : Nat) (h : (numL n).length ≤ 640) : intText? (mkS (numL n)) = some (n : Int) := by
  have e : mkS (numL n) = Str.ofString (toString ((n : Nat) : Int)) := ext_tl (tl_num n).symm
  rw [e]
  exact int_num (by omega)
theorem numL_head : ∀ {n : Nat}, 1 ≤ n → ∃ a l, numL n = a :: l ∧ 49 ≤ a ∧ a ≤ 57 := fun {n} hn => by
  induction n using Nat.strongRecOn with
  | ind n ih =>
    rcases Nat.lt_or_ge n 10 with h | h
    · exact ⟨48 + n, [], numL_lt h, by omega, by omega⟩
    · obtain ⟨a, l, e, h1, h2⟩ := ih (n / 10) (by omega) (by omega)
      refine ⟨a, l ++ [48 + n % 10], ?_, h1, h2⟩
      rw [numL_step h, e]
      rfl
theorem str_beq (a b : Str) : (a == b) = decide (a = b) := by
  by_cases h : a = b
  · subst h
    simp
  · rw [decide_eq_false h]
    exact beq_eq_false_iff_ne.mpr h
/-- what a written dict of the module says of a key -/
theorem ns_dict {K : PySem.W.Frag} {a : Addr} {c : Value} {od : Option Addr} {es : Array DictEntry} {n : Nat} {sl : Array (Option Value)} (l : K.lookup a = some ⟨c, od, .dict es n, sl⟩) (r : es.toList.any (·.refKey) = false) (x : Str) :
    PySem.W.nsIn K a x = some ((es.toList.find? (·.key.isStr x)).map (·.val)) := by
  unfold PySem.W.nsIn
  rw [l]
  dsimp only
  cases h : es.toList.find? (·.key.isStr x) with
  | some e => rfl
  | none =>
    dsimp only
    rw [r]
    rfl
theorem word_ne {l : List Nat} {a b : Nat} (h : a ≠ b) : mkS (l ++ [a]) ≠ mkS [b] := fun z => by
  have q := congrArg List.getLast? (mkS_inj z)
  rw [List.getLast?_concat] at q
  exact h (Option.some.inj q)
theorem one_no {a b : Nat} (h : a ≠ b) : V.bl (decide (V.str ⟨#[a]⟩ = V.str (mkS [b]))) = V.bl false := by
  rw [decide_eq_false fun z => h ?_]
  have q := mkS_inj (l := [a]) (m := [b]) (V.str.inj z)
  exact (List.cons.inj q).1
theorem mk_tl (x : Str) : mkS (tl x) = x := ext_tl rfl
theorem split_shown {cs : List Cmd} (h : cs ≠ []) (hk : ¬ Builtin.Str.strKind (shownS cs) < Builtin.Str.strKind " ") : Txt.split (shownS cs) " " = cs.map fun c => mkS (cw c) := by
  have e := split_spl (shownS cs) " " (by decide +kernel) hk
  have t1 : tl (" " : Str) = [32] := by decide +kernel
  have t2 : tl (shownS cs) = joinL [32] (cs.map cw) := by
    unfold shownS shownL
    rw [if_neg h]
    rfl
  rw [t1, t2, join_words h] at e
  have q := congrArg (List.map mkS) e
  rw [List.map_map, List.map_map] at q
  rw [← List.map_id (Txt.split (shownS cs) " ")]
  have i : (mkS ∘ tl) = id := funext mk_tl
  rw [i] at q
  exact q
/-- an entry of a written dict -/
def entD (P : Params) (kv : Str × Tok × Str × Tok) : DictEntry := ⟨PyData.keyHash P kv.1, .str kv.1 kv.2.1, .str kv.2.2.1 kv.2.2.2⟩
theorem find_ent (P : Params) (x : Str) : ∀ l : List (Str × Tok × Str × Tok), ((l.map (entD P)).find? (·.key.isStr x)).map (·.val) = (l.find? fun kv => decide (kv.1 = x)).map fun kv => .str kv.2.2.1 kv.2.2.2
  | [] => rfl
  | kv :: l => by
    rw [List.map_cons, List.find?_cons, List.find?_cons]
    have e : (entD P kv).key.isStr x = decide (kv.1 = x) := str_beq kv.1 x
    rw [e]
    by_cases h : kv.1 = x
    · rw [decide_eq_true h]
      rfl
    · rw [decide_eq_false h]
      exact find_ent P x l
theorem ent_lit (P : Params) : ∀ l : List (Str × Tok × Str × Tok), PySem.W.KeysLit P (l.map (entD P))
  | [] => trivial
  | kv :: l => ⟨⟨kv.1, kv.2.1, rfl, rfl⟩, ent_lit P l⟩
theorem ent_ref (P : Params) : ∀ l : List (Str × Tok × Str × Tok), (l.map (entD P)).any (·.refKey) = false
  | [] => rfl
  | kv :: l => by
    rw [List.map_cons, List.any_cons, ent_ref P l]
    rfl
theorem ns_ent {K : PySem.W.Frag} {P : Params} {a : Addr} {c : Value} {od : Option Addr} {l : List (Str × Tok × Str × Tok)} {n : Nat} {sl : Array (Option Value)} (h : K.lookup a = some ⟨c, od, .dict (l.map (entD P)).toArray n, sl⟩) (x : Str) :
    PySem.W.nsIn K a x = some ((l.find? fun kv => decide (kv.1 = x)).map fun kv => .str kv.2.2.1 kv.2.2.2) := by
  rw [ns_dict h (ent_ref P l) x]
  exact congrArg some (find_ent P x l)
theorem kd_ent {K : PySem.W.Frag} {w : World} {a : Addr} {l : List (Str × Tok × Str × Tok)} {n : Nat} (h : K.lookup a = some ⟨.type "dict", none, .dict (l.map (entD w.params)).toArray n, #[]⟩) (lo : (a == sysModules) = false) : KDict K w a (l.map (entD w.params)).toArray n :=
  ⟨h, ent_lit w.params l, lo⟩
end Gc

/-! texts read back, where they can be -/
namespace Gc
open PySem L2 TL
abbrev s_read_commands : Stmt := top 29
abbrev s_read_command : Stmt := top 30
abbrev s_is_number : Stmt := top 31
structure TxtRd (K : PySem.W.Frag) (w : World) (mg : Str → Option Value) (na nb : Addr) (eA eB : Array DictEntry) (nA nB : Nat) (tm : Tok) : Prop where
  g_NAMES_ALONE : mg "NAMES_ALONE" = some (.ref na)
  g_NAMES_BEHIND_NUMBER : mg "NAMES_BEHIND_NUMBER" = some (.ref nb)
  g_MOST_DIGITS : mg "MOST_DIGITS" = some (.int 40 tm)
  dA : KDict K w na eA nA
  dB : KDict K w nb eB nB
  aH : ∃ t, PySem.W.nsIn K na "H" = some (some (.str "home" t))
  aE : ∃ t, PySem.W.nsIn K na "E" = some (some (.str "end" t))
  aNo : ∀ x : Str, x ≠ "H" → x ≠ "E" → PySem.W.nsIn K na x = some none
  bD : ∃ t, PySem.W.nsIn K nb "D" = some (some (.str "down" t))
  bU : ∃ t, PySem.W.nsIn K nb "U" = some (some (.str "up" t))
  bR : ∃ t, PySem.W.nsIn K nb "R" = some (some (.str "right" t))
  bL : ∃ t, PySem.W.nsIn K nb "L" = some (some (.str "left" t))
  int : mg "int" = none
  len : mg "len" = none
  all : mg "all" = none
def aloneL (t1 t2 u1 u2 : Tok) : List (Str × Tok × Str × Tok) := [("H", t1, "home", u1), ("E", t2, "end", u2)]
def behindL (t1 t2 t3 t4 u1 u2 u3 u4 : Tok) : List (Str × Tok × Str × Tok) := [("D", t1, "down", u1), ("U", t2, "up", u2), ("R", t3, "right", u3), ("L", t4, "left", u4)]
theorem rd_mk {K : PySem.W.Frag} {w : World} {mg : Str → Option Value} {na nb : Addr} {nA nB : Nat} {tm t1 t2 u1 u2 s1 s2 s3 s4 r1 r2 r3 r4 : Tok} (g1 : mg "NAMES_ALONE" = some (.ref na)) (g2 : mg "NAMES_BEHIND_NUMBER" = some (.ref nb)) (g3 : mg "MOST_DIGITS" = some (.int 40 tm))
    (lA : K.lookup na = some ⟨.type "dict", none, .dict #[⟨PyData.keyHash w.params "H", .str "H" t1, .str "home" u1⟩, ⟨PyData.keyHash w.params "E", .str "E" t2, .str "end" u2⟩] nA, #[]⟩)
    (lB : K.lookup nb = some ⟨.type "dict", none, .dict #[⟨PyData.keyHash w.params "D", .str "D" s1, .str "down" r1⟩, ⟨PyData.keyHash w.params "U", .str "U" s2, .str "up" r2⟩, ⟨PyData.keyHash w.params "R", .str "R" s3, .str "right" r3⟩, ⟨PyData.keyHash w.params "L", .str "L" s4, .str "left" r4⟩] nB, #[]⟩)
    (oA : (na == sysModules) = false) (oB : (nb == sysModules) = false) (z1 : mg "int" = none) (z2 : mg "len" = none) (z3 : mg "all" = none) :
    TxtRd K w mg na nb ((aloneL t1 t2 u1 u2).map (entD w.params)).toArray ((behindL s1 s2 s3 s4 r1 r2 r3 r4).map (entD w.params)).toArray nA nB tm := by
  have hA : K.lookup na = some ⟨.type "dict", none, .dict ((aloneL t1 t2 u1 u2).map (entD w.params)).toArray nA, #[]⟩ := lA
  have hB : K.lookup nb = some ⟨.type "dict", none, .dict ((behindL s1 s2 s3 s4 r1 r2 r3 r4).map (entD w.params)).toArray nB, #[]⟩ := lB
  refine ⟨g1, g2, g3, kd_ent hA oA, kd_ent hB oB, ⟨u1, ?_⟩, ⟨u2, ?_⟩, fun x n1 n2 => ?_, ⟨r1, ?_⟩, ⟨r2, ?_⟩, ⟨r3, ?_⟩, ⟨r4, ?_⟩, z1, z2, z3⟩
  · rw [ns_ent hA]
    unfold aloneL
    rw [List.find?_cons, show decide (("H" : Str) = "H") = true by decide +kernel]
    rfl
  · rw [ns_ent hA]
    unfold aloneL
    rw [List.find?_cons, show decide (("H" : Str) = "E") = false by decide +kernel]
    dsimp only
    rw [List.find?_cons, show decide (("E" : Str) = "E") = true by decide +kernel]
    rfl
  · rw [ns_ent hA]
    unfold aloneL
    rw [List.find?_cons, show decide (("H" : Str) = x) = false from decide_eq_false (Ne.symm n1)]
    dsimp only
    rw [List.find?_cons, show decide (("E" : Str) = x) = false from decide_eq_false (Ne.symm n2)]
    rfl
  · rw [ns_ent hB]
    unfold behindL
    rw [List.find?_cons, show decide (("D" : Str) = "D") = true by decide +kernel]
    rfl
  · rw [ns_ent hB]
    unfold behindL
    rw [List.find?_cons, show decide (("D" : Str) = "U") = false by decide +kernel]
    dsimp only
    rw [List.find?_cons, show decide (("U" : Str) = "U") = true by decide +kernel]
    rfl
  · rw [ns_ent hB]
    unfold behindL
    rw [List.find?_cons, show decide (("D" : Str) = "R") = false by decide +kernel]
    dsimp only
    rw [List.find?_cons, show decide (("U" : Str) = "R") = false by decide +kernel]
    dsimp only
    rw [List.find?_cons, show decide (("R" : Str) = "R") = true by decide +kernel]
    rfl
  · rw [ns_ent hB]
    unfold behindL
    rw [List.find?_cons, show decide (("D" : Str) = "L") = false by decide +kernel]
    dsimp only
    rw [List.find?_cons, show decide (("U" : Str) = "L") = false by decide +kernel]
    dsimp only
    rw [List.find?_cons, show decide (("R" : Str) = "L") = false by decide +kernel]
    dsimp only
    rw [List.find?_cons, show decide (("L" : Str) = "L") = true by decide +kernel]
    rfl
def spIsNum (K : PySem.W.Frag) : Sp := fun vs H Q _ => ∃ n : Nat, vs = [.str (mkS (numL n))] ∧ 1 ≤ n ∧ n < 10 ^ 40 ∧ ∀ H', Same H H' → Q (.bl true) H'
def spRead1 (K : PySem.W.Frag) : Sp := fun vs H Q _ => ∃ c : Cmd, vs = [.str (mkS (cw c))] ∧ c.ok ∧ numC c < 10 ^ 40 ∧ ∀ (H' : Hp) (p : Addr), Same H H' → H p = none → H' p = some (.tup (encC c)) → Q (.ref p) H'
def spRead (K : PySem.W.Frag) : Sp := fun vs H Q _ => ∃ cs : List Cmd, vs = [.str (shownS cs)] ∧ AllOk cs ∧ (∀ c ∈ cs, numC c < 10 ^ 40) ∧ cs.length ≤ 1000 ∧
  ∀ (H' : Hp) (p : Addr) (xs : List V), Same H H' → H p = none → H' p = some (.lst xs) → CmdsOf K H' xs cs → Q (.ref p) H'
section
variable {P : Program} {w : World} {K : PySem.W.Frag} {mg : Str → Option Value} {base : Heap} {na nb : Addr} {eA eB : Array DictEntry} {nA nB : Nat} {tm : Tok}
theorem sc_is_number : FnScope ["digits", "digit"] ["digits"] (defScope s_is_number) := ⟨rfl, rfl, rfl, by decide +kernel, rfl, by decide +kernel, by decide +kernel⟩
theorem ok_is_number {f : Addr} {fd : FuncData} (F : Fun K "is_number" "is_number" s_is_number f fd) (T : TxtRd K w mg na nb eA eB nA nB tm) : FnOk P w K mg base CX0 1 f fd ["digits"] (spIsNum K) := by
  refine F.ok sc_is_number (fun vs H Q E h => ?_) (fun cdv A outer s H vs Q E hr h => ?_)
  · obtain ⟨n, rfl, _⟩ := h
    rfl
  · obtain ⟨n, rfl, n1, n2, k⟩ := h
    refine ⟨_, (pss_cons (ps_if (PW.pt (pw_or (pt_not (pt_chain op_le op_le pe_int (pe_callB call_len_str (by rfl) T.len (by decide +kernel) (pa_cons (pv 0) pa_nil)) (pe_glob (v := .int 40) (by rfl) T.g_MOST_DIGITS ⟨_, rfl⟩))) (pw_or1 (pt_cmpR op_eq (pe_ix ix_str (pv 0) pe_int (fun _ _ => rfl)) pe_str (nomark _))))) (pss_one (ps_ret pe_bl)) pss_nil)
      (pss_one (ps_ret (pe_callB (cr_all rfl) (by rfl) T.all (by decide +kernel) (pa_cons (pe_lc (own := [("digit", 1)]) rfl sc_is_number.nd (pi_str (pv 0)) (blkOk_by (N := ["digits", "digit"]) (sc := defScope s_is_number) (by decide +kernel)) (fun _ _ _ _ _ => (pg_name (i := 1) sc_is_number.nd rfl (Or.inl rfl))) (fun _ _ _ _ _ => pts_nil) (fun _ _ _ _ _ => (pe_cmpR op_in_sign (pv 1) pe_str (by rfl)))) pa_nil))))), ?_⟩
    obtain ⟨a, l, e, a1, a2⟩ := numL_head n1
    have dg := numL_digits n
    have ln := numL_len (n := n) (k := 40) (by decide) n2
    have ll : (mkS (numL n)).length ≤ sizeLine := by
      rw [mkS_len, sizeLine_eq]
      omega
    have l1 : 1 ≤ (numL n).length := by rw [e]; simp
    refine ⟨_, rfl, _, rfl, ll, _, _, rfl, rfl, _, rfl, ?_⟩
    rw [if_pos (decide_eq_true (show (1 : Int) ≤ ((mkS (numL n)).length : Int) by rw [mkS_len]; omega))]
    refine ⟨_, _, rfl, rfl, _, rfl, ?_⟩
    rw [decide_eq_true (show ((mkS (numL n)).length : Int) ≤ 40 by rw [mkS_len]; omega)]
    refine iteF ?_
    have at0 : atI (mkS (numL n)).cps.toList 0 = some a := by
      show atI (numL n) ((0 : Nat) : Int) = some a
      rw [e]
      exact atI_nat rfl
    refine ⟨_, rfl, _, _, a, rfl, rfl, ll, at0, rfl, false, ?_, iteF ?_⟩
    · rw [show ("0" : Str) = mkS [48] by decide +kernel]
      exact one_no (by omega)
    refine ⟨_, rfl, _, rfl, fun D hD => ?_⟩
    refine lc_it walk_str (fun i H' => Same H H' ∧ H' D = some (.lst ((List.replicate i true).map V.bl))) ⟨same_upd (Same.refl H) hD, upd_same⟩ (fun _ _ _ _ => trivial) (fun i x H2 H' hi p y => ?_) (fun H' h => ?_)
    · obtain ⟨rfl, c, hc, rfl⟩ := y
      obtain ⟨s1, eD⟩ := p
      have li : i < (numL n).length := hi
      have cd := dg c (List.mem_of_getElem? (show (numL n)[i]? = some c by rw [← hc]; exact (List.getElem?_toArray ..).symm))
      have cm : decide (c ∈ (("0123456789" : Str)).cps.toList) = true := by
        rw [show (("0123456789" : Str)).cps.toList = [48, 49, 50, 51, 52, 53, 54, 55, 56, 57] by decide +kernel]
        refine decide_eq_true ?_
        simp
        omega
      refine ⟨rfl, _, rfl, c, _, rfl, rfl, _, eD, ?_, same_freeU s1 hD, ?_⟩
      · refine lt_line ?_
        rw [List.length_map, List.length_replicate]
        omega
      · rw [upd_same, cm, List.replicate_succ', List.map_append]
        rfl
    · obtain ⟨s1, eD⟩ := h
      refine ⟨D, List.replicate _ true, rfl, SqL.of eD, ?_⟩
      rw [show ∀ m, (List.replicate m true).all id = true from fun m => by simp]
      exact k _ s1
theorem sc_read_command : FnScope ["word", "digits", "letter"] ["word"] (defScope s_read_command) := ⟨rfl, rfl, rfl, by decide +kernel, rfl, by decide +kernel, by decide +kernel⟩
theorem ok_read_command {f : Addr} {fd : FuncData} (F : Fun K "read_command" "read_command" s_read_command f fd) (T : TxtRd K w mg na nb eA eB nA nB tm) (c_is_number : Cal P w K mg base 1 "is_number" (spIsNum K)) : FnOk P w K mg base CX0 2 f fd ["word"] (spRead1 K) := by
  refine F.ok sc_read_command (fun vs H Q E h => ?_) (fun cdv A outer s H vs Q E hr h => ?_)
  · obtain ⟨n, rfl, _⟩ := h
    rfl
  · obtain ⟨c, rfl, ok, hn, k⟩ := h
    refine ⟨_, (pss_cons (ps_if (pt_cmpR (op_in_kd T.dA) (pv 0) (pe_glob (v := .ref na) (by rfl) T.g_NAMES_ALONE rfl) (by rfl)) (pss_one (ps_ret (pe_tup (pa_cons (pe_ix ix_kdict (pe_glob (v := .ref na) (by rfl) T.g_NAMES_ALONE rfl) (pv 0) (fun _ _ => rfl)) pa_nil)))) pss_nil)
      (pss_cons (ps_par (i := 1) (j := 2) rfl sc_read_command.nd rfl rfl (by decide) rfl rfl (pa_cons (pe_slice sl_str (pv 0) po_none (po_some (pe_un un_neg pe_int))) (pa_cons (pe_slice sl_str (pv 0) (po_some (pe_un un_neg pe_int)) po_none) pa_nil)) (by rfl))
      (pss_cons (ps_if (PW.pt (pw_and (pt_cmpR (op_in_kd T.dB) (pv 2) (pe_glob (v := .ref nb) (by rfl) T.g_NAMES_BEHIND_NUMBER rfl) (by rfl)) (pw_and1 (pt_val (pe_cal c_is_number hr (by decide) (by rfl) (pa_cons (pv 1) pa_nil)))))) (pss_one (ps_ret (pe_tup (pa_cons (pe_ix ix_kdict (pe_glob (v := .ref nb) (by rfl) T.g_NAMES_BEHIND_NUMBER rfl) (pv 2) (fun _ _ => rfl)) (pa_cons (pe_callTy call_int_str (by rfl) T.int (by decide +kernel) (pa_cons (pv 1) pa_nil)) pa_nil))))) pss_nil)
      (pss_one (ps_ret pe_non))))), ?_⟩
    have wl : (mkS (cw c)).length ≤ sizeLine := by
      have := cw_len hn
      rw [mkS_len, sizeLine_eq]
      omega
    have e72 : mkS [72] = ("H" : Str) := by decide +kernel
    have e69 : mkS [69] = ("E" : Str) := by decide +kernel
    cases c with
    | home =>
      obtain ⟨t, ht⟩ := T.aH
      have ew : mkS (cw .home) = ("H" : Str) := e72
      rw [ew]
      refine ⟨_, rfl, _, _, rfl, rfl, ht, _, rfl, iteT ?_⟩
      refine ⟨_, rfl, na, "H", .str "home", rfl, rfl, ⟨eA, nA, _, T.dA.at_, T.dA.lit, ht, ⟨t, rfl⟩⟩, (by show 1 ≤ sizeLine; decide), fun p np => k _ p (new_same np) np upd_same⟩
    | stop =>
      obtain ⟨t, ht⟩ := T.aE
      have ew : mkS (cw .stop) = ("E" : Str) := e69
      rw [ew]
      refine ⟨_, rfl, _, _, rfl, rfl, ht, _, rfl, iteT ?_⟩
      refine ⟨_, rfl, na, "E", .str "end", rfl, rfl, ⟨eA, nA, _, T.dA.at_, T.dA.lit, ht, ⟨t, rfl⟩⟩, (by show 1 ≤ sizeLine; decide), fun p np => k _ p (new_same np) np upd_same⟩
    | down n =>
      have n1 : 1 ≤ n := ok
      have n2 : n < 10 ^ 40 := hn
      obtain ⟨t, ht⟩ := T.bD
      have no := T.aNo (mkS (numL n.toNat ++ [68])) (by rw [← e72]; exact word_ne (by decide)) (by rw [← e69]; exact word_ne (by decide))
      refine ⟨_, rfl, _, _, rfl, rfl, no, _, rfl, iteF ?_⟩
      have el : mkS [68] = ("D" : Str) := by decide +kernel
      refine ⟨_, rfl, _, rfl, _, rfl, _, rfl, wl, ?_⟩
      rw [show mkS (cw (.down n)) = mkS (numL n.toNat ++ [68]) from rfl, cut_front]
      refine ⟨_, rfl, _, rfl, _, rfl, _, rfl, wl, ?_⟩
      rw [cut_back, el]
      refine ⟨_, _, rfl, ?_⟩
      refine ⟨_, rfl, _, _, rfl, rfl, ht, _, rfl, iteT ?_⟩
      refine ⟨_, rfl, n.toNat, rfl, by omega, by omega, fun H1 e1 => ⟨_, rfl, iteT ?_⟩⟩
      have l40 := numL_len (n := n.toNat) (k := 40) (by decide) (by omega)
      refine ⟨_, rfl, nb, "D", .str "down", rfl, rfl, ⟨eB, nB, _, T.dB.at_, T.dB.lit, ht, ⟨t, rfl⟩⟩, _, rfl, _, _, rfl, int_mk _ (by omega), (by rw [mkS_len]; omega), (by show 2 ≤ sizeLine; decide), fun p np => ?_⟩
      rw [show ((n.toNat : Nat) : Int) = n from Int.toNat_of_nonneg (by omega)]
      exact k _ p (e1.trans (new_same np)) (e1.free np) upd_same
    | up n =>
      have n1 : 1 ≤ n := ok
      have n2 : n < 10 ^ 40 := hn
      obtain ⟨t, ht⟩ := T.bU
      have no := T.aNo (mkS (numL n.toNat ++ [85])) (by rw [← e72]; exact word_ne (by decide)) (by rw [← e69]; exact word_ne (by decide))
      refine ⟨_, rfl, _, _, rfl, rfl, no, _, rfl, iteF ?_⟩
      have el : mkS [85] = ("U" : Str) := by decide +kernel
      refine ⟨_, rfl, _, rfl, _, rfl, _, rfl, wl, ?_⟩
      rw [show mkS (cw (.up n)) = mkS (numL n.toNat ++ [85]) from rfl, cut_front]
      refine ⟨_, rfl, _, rfl, _, rfl, _, rfl, wl, ?_⟩
      rw [cut_back, el]
      refine ⟨_, _, rfl, ?_⟩
      refine ⟨_, rfl, _, _, rfl, rfl, ht, _, rfl, iteT ?_⟩
      refine ⟨_, rfl, n.toNat, rfl, by omega, by omega, fun H1 e1 => ⟨_, rfl, iteT ?_⟩⟩
      have l40 := numL_len (n := n.toNat) (k := 40) (by decide) (by omega)
      refine ⟨_, rfl, nb, "U", .str "up", rfl, rfl, ⟨eB, nB, _, T.dB.at_, T.dB.lit, ht, ⟨t, rfl⟩⟩, _, rfl, _, _, rfl, int_mk _ (by omega), (by rw [mkS_len]; omega), (by show 2 ≤ sizeLine; decide), fun p np => ?_⟩
      rw [show ((n.toNat : Nat) : Int) = n from Int.toNat_of_nonneg (by omega)]
      exact k _ p (e1.trans (new_same np)) (e1.free np) upd_same
    | right n =>
      have n1 : 1 ≤ n := ok
      have n2 : n < 10 ^ 40 := hn
      obtain ⟨t, ht⟩ := T.bR
      have no := T.aNo (mkS (numL n.toNat ++ [82])) (by rw [← e72]; exact word_ne (by decide)) (by rw [← e69]; exact word_ne (by decide))
      refine ⟨_, rfl, _, _, rfl, rfl, no, _, rfl, iteF ?_⟩
      have el : mkS [82] = ("R" : Str) := by decide +kernel
      refine ⟨_, rfl, _, rfl, _, rfl, _, rfl, wl, ?_⟩
      rw [show mkS (cw (.right n)) = mkS (numL n.toNat ++ [82]) from rfl, cut_front]
      refine ⟨_, rfl, _, rfl, _, rfl, _, rfl, wl, ?_⟩
      rw [cut_back, el]
      refine ⟨_, _, rfl, ?_⟩
      refine ⟨_, rfl, _, _, rfl, rfl, ht, _, rfl, iteT ?_⟩
      refine ⟨_, rfl, n.toNat, rfl, by omega, by omega, fun H1 e1 => ⟨_, rfl, iteT ?_⟩⟩
      have l40 := numL_len (n := n.toNat) (k := 40) (by decide) (by omega)
      refine ⟨_, rfl, nb, "R", .str "right", rfl, rfl, ⟨eB, nB, _, T.dB.at_, T.dB.lit, ht, ⟨t, rfl⟩⟩, _, rfl, _, _, rfl, int_mk _ (by omega), (by rw [mkS_len]; omega), (by show 2 ≤ sizeLine; decide), fun p np => ?_⟩
      rw [show ((n.toNat : Nat) : Int) = n from Int.toNat_of_nonneg (by omega)]
      exact k _ p (e1.trans (new_same np)) (e1.free np) upd_same
    | left n =>
      have n1 : 1 ≤ n := ok
      have n2 : n < 10 ^ 40 := hn
      obtain ⟨t, ht⟩ := T.bL
      have no := T.aNo (mkS (numL n.toNat ++ [76])) (by rw [← e72]; exact word_ne (by decide)) (by rw [← e69]; exact word_ne (by decide))
      refine ⟨_, rfl, _, _, rfl, rfl, no, _, rfl, iteF ?_⟩
      have el : mkS [76] = ("L" : Str) := by decide +kernel
      refine ⟨_, rfl, _, rfl, _, rfl, _, rfl, wl, ?_⟩
      rw [show mkS (cw (.left n)) = mkS (numL n.toNat ++ [76]) from rfl, cut_front]
      refine ⟨_, rfl, _, rfl, _, rfl, _, rfl, wl, ?_⟩
      rw [cut_back, el]
      refine ⟨_, _, rfl, ?_⟩
      refine ⟨_, rfl, _, _, rfl, rfl, ht, _, rfl, iteT ?_⟩
      refine ⟨_, rfl, n.toNat, rfl, by omega, by omega, fun H1 e1 => ⟨_, rfl, iteT ?_⟩⟩
      have l40 := numL_len (n := n.toNat) (k := 40) (by decide) (by omega)
      refine ⟨_, rfl, nb, "L", .str "left", rfl, rfl, ⟨eB, nB, _, T.dB.at_, T.dB.lit, ht, ⟨t, rfl⟩⟩, _, rfl, _, _, rfl, int_mk _ (by omega), (by rw [mkS_len]; omega), (by show 2 ≤ sizeLine; decide), fun p np => ?_⟩
      rw [show ((n.toNat : Nat) : Int) = n from Int.toNat_of_nonneg (by omega)]
      exact k _ p (e1.trans (new_same np)) (e1.free np) upd_same
theorem sc_read_commands : FnScope ["text", "commands", "word", "command"] ["text"] (defScope s_read_commands) := ⟨rfl, rfl, rfl, by decide +kernel, rfl, by decide +kernel, by decide +kernel⟩
theorem ok_read_commands {f : Addr} {fd : FuncData} (F : Fun K "read_commands" "read_commands" s_read_commands f fd) (c_read_command : Cal P w K mg base 2 "read_command" (spRead1 K)) : FnOk P w K mg base CX0 3 f fd ["text"] (spRead K) := by
  refine F.ok sc_read_commands (fun vs H Q E h => ?_) (fun cdv A outer s H vs Q E hr h => ?_)
  · obtain ⟨n, rfl, _⟩ := h
    rfl
  · obtain ⟨cs, rfl, ok, hn, ln, k⟩ := h
    refine ⟨_, (pss_cons (ps_if (pt_cmpR op_eq (pv 0) pe_str (nomark _)) (pss_one (ps_ret (pe_lst pa_nil))) pss_nil)
      (pss_cons (ps_set (i := 1) sc_read_commands.nd rfl (Or.inl rfl) (pe_lst pa_nil))
      (pss_cons (ps_for PassesOwn.never rfl (pi_list (pe_bm PySem.F.plainAttrs_str PySem.F.slot_str_split PySem.F.type_str_split mt_split (pv 0) (pa_cons pe_str pa_nil))) (pg_name (i := 2) sc_read_commands.nd rfl (Or.inl rfl)) (pss_cons (ps_set (i := 3) sc_read_commands.nd rfl (Or.inl rfl) (pe_cal c_read_command hr (by decide) (by rfl) (pa_cons (pv 2) pa_nil)))
      (pss_cons (ps_if (pt_cmpR op_isN (pv 3) pe_non (nomark _)) (pss_one ps_never) pss_nil)
      (pss_one (ps_expr (pe_bm PySem.F.plainAttrs_list PySem.F.slot_list_append PySem.F.type_list_append mt_append (pv 1) (pa_cons (pv 3) pa_nil)))))))
      (pss_one (ps_ret (pv 1)))))), ?_⟩
    have wl : (shownS cs).length + 2 ≤ sizeLine := by
      have := shownL_len hn
      unfold shownS
      rw [mkS_len, sizeLine_eq]
      omega
    have hk : ¬ Builtin.Str.strKind (shownS cs) < Builtin.Str.strKind " " := by
      rw [show Builtin.Str.strKind " " = 1 by decide +kernel]
      unfold Builtin.Str.strKind
      split
      · omega
      · split <;> omega
    by_cases ce : cs = []
    · subst ce
      refine ⟨_, rfl, rfl, true, ?_, iteT ?_⟩
      · rw [show shownS [] = ("none" : Str) by decide +kernel]
        simp
      · exact ⟨Nat.zero_le _, fun l nl => k _ l [] (new_same nl) nl upd_same .nil⟩
    · have no : shownS cs ≠ ("none" : Str) := by
        rw [show ("none" : Str) = mkS noneL by decide +kernel]
        intro z
        have q := mkS_inj z
        unfold shownL at q
        rw [if_neg ce] at q
        exact none_no ce q
      refine ⟨_, rfl, rfl, false, by simp [no], iteF ?_⟩
      refine ⟨Nat.zero_le _, fun l nl => ?_⟩
      have e1 : Same H (upd H l (.lst [])) := new_same nl
      refine ⟨_, rfl, rfl, _, _, rfl, rfl, by decide +kernel, wl, fun p np => ?_⟩
      rw [split_shown ce hk]
      have pl : p ≠ l := fun z => by rw [z, upd_same] at np; cases np
      have e2 : Same H (upd (upd H l (.lst [])) p (.lst ((cs.map fun c => mkS (cw c)).map V.str))) := e1.trans (new_same np)
      refine ⟨p, rfl, ⟨_, SqL.of upd_same⟩, for_list (K := K) (a := p) (xs := (cs.map fun c => mkS (cw c)).map V.str) (fun i σ H' => ∃ (v2 v3 : Option V) (ys : List V), σ = [some (.str (shownS cs)), some (.ref l), v2, v3] ∧ Same H H' ∧ H' p = some (.lst ((cs.map fun c => mkS (cw c)).map V.str)) ∧ H' l = some (.lst ys) ∧ CmdsOf K H' ys (cs.take i))
        ⟨none, none, [], rfl, e2, upd_same, new_same np _ _ upd_same, .nil⟩ (fun i σ H' hi h => ?_) (fun i x σ H' hx h => ?_) (fun σ H' h => ?_)⟩
      · obtain ⟨_, _, _, _, _, q, _⟩ := h
        exact SqL.of q
      · obtain ⟨v2, v3, ys, rfl, s1, hp, hl, hys⟩ := h
        rw [List.getElem?_map, List.getElem?_map] at hx
        cases hc : cs[i]? with
        | none =>
          rw [hc] at hx
          cases hx
        | some c =>
          rw [hc] at hx
          obtain rfl := Option.some.inj hx
          have cm := List.mem_of_getElem? hc
          have li := (List.getElem?_eq_some_iff.mp hc).1
          have yl := hys.len
          rw [List.length_take] at yl
          refine ⟨_, rfl, c, rfl, ok c cm, hn c cm, fun H2 t e3 nt ht => ?_⟩
          refine ⟨_, rfl, rfl, false, by simp, iteF ?_⟩
          refine ⟨_, rfl, .inl ⟨rfl, _, SqL.of (e3 _ _ hl)⟩, _, rfl, l, ys, .ref t, rfl, rfl, e3 _ _ hl, lt_line (by omega), ?_⟩
          refine ⟨_, _, _, rfl, same_freeU (s1.trans e3) nl, ?_, upd_same, ?_⟩
          · rw [upd_ne pl]
            exact e3 _ _ hp
          · rw [takeS hc]
            exact paired_app (CmdsOf.atL (e3 _ _ hl) (hys.same e3)) (CmdsOf.atL (e3 _ _ hl) (xs := [.ref t]) (cs := [c]) (.cons ⟨t, rfl, SqT.of ht⟩ .nil))
      · obtain ⟨v2, v3, ys, rfl, s1, hp, hl, hys⟩ := h
        rw [List.length_map, List.length_map, List.take_length] at hys
        exact ⟨_, rfl, k H' l ys s1 nl hl hys⟩
end
end Gc

namespace Gc
open PySem L2
abbrev s_law : Stmt := top 49
structure TxtL (mg : Str → Option Value) : Prop where
  max : mg "max" = none
  min : mg "min" = none
  len : mg "len" = none
  range : mg "range" = none
def spLaw (K : PySem.W.Frag) : Sp := fun vs H Q _ => ∃ (a : Addr) (ns : List Int), vs = [.ref a] ∧ SqL K H a (ns.map V.int) ∧ ns.length ≤ 63 ∧ ∀ H', Q (.bl true) H'
@[irreducible] def zRight19 (K : PySem.W.Frag) : Sp := spRight19 K
theorem zRight19_eq (K : PySem.W.Frag) : zRight19 K = spRight19 K := by unfold zRight19; rfl
theorem ask_right19 {K : PySem.W.Frag} {H : Hp} {Q : VK} {E : XK} {a : Addr} {n : Nat} (R : Rng H a n) (hn : n < 2 ^ 36) (k : ∀ H', Keep a a H H' → Rng H' a (n + 20000) → Q (.bl true) H') : zRight19 K [.ref a] H Q E := by
  rw [zRight19_eq]
  exact ⟨a, n, rfl, R, hn, k⟩
theorem sq_keep {K : PySem.W.Frag} {H H1 H2 : Hp} {s p : Addr} {xs : List V} (h : SqL K H s xs) (hp : H p = none) (e : Same H H1) (kp : Keep p p H1 H2) : SqL K H2 s xs := by
  rcases h with (z | ⟨o, z⟩) | z
  · exact .inl (.inl (kp _ _ (ne_of_none z hp) (ne_of_none z hp) (e _ _ z)))
  · exact .inl (.inr ⟨o, kp _ _ (ne_of_none z hp) (ne_of_none z hp) (e _ _ z)⟩)
  · exact .inr z
def four : List Cmd := [.right 2, .down 1, .left 1, .up 1]
def many : List Cmd := (List.replicate 60 four).flatten
theorem many_in {c : Cmd} (h : c ∈ many) : c ∈ four := by
  obtain ⟨l, hl, hc⟩ := List.mem_flatten.mp h
  rw [(List.mem_replicate.mp hl).2] at hc
  exact hc
theorem four_ok {c : Cmd} (h : c ∈ four) : c.ok ∧ numC c < 10 ^ 40 := by
  simp only [four, List.mem_cons, List.not_mem_nil, or_false] at h
  rcases h with rfl | rfl | rfl | rfl <;> exact ⟨by show (1 : Int) ≤ _; decide, by decide⟩
def words60 : List Str := (List.replicate 60 (["2R", "1D", "1L", "1U"] : List Str)).flatten
theorem four_words : (four.map fun c => mkS (cw c)) = (["2R", "1D", "1L", "1U"] : List Str) := by decide +kernel
theorem words_eq : words60 = many.map fun c => mkS (cw c) := by
  unfold words60 many
  rw [List.map_flatten, List.map_replicate, four_words]
theorem many_ne : many ≠ [] := by
  intro z
  have : many.length = 240 := by decide +kernel
  rw [z] at this
  cases this
open TL in
theorem many_text : Txt.join " " words60 = shownS many := by
  rw [words_eq]
  have ne := many_ne
  generalize many = cs at ne ⊢
  refine ext_tl ?_
  rw [join_eq, tl_join, List.map_map]
  unfold shownS shownL
  rw [if_neg ne]
  rfl
theorem words_len : (words60.map (·.length)).sum = 480 ∧ words60.length = 240 := by decide +kernel
theorem many_len : many.length = 240 := by decide +kernel
theorem spot_lay (r : Int) (g : Option Int) : (PyData.tuple [.int r, optD g]).canLay0 = true := by cases g <;> rfl
theorem spot_shaped (r : Int) (g : Option Int) : SeqAt.shaped (.tuple [.int r, optD g]) = true := by cases g <;> rfl
section
variable {P : Program} {w : World} {K : PySem.W.Frag} {mg : Str → Option Value} {base : Heap} {cs : Nat → Addr} {CB : Addr}
theorem sc_law : FnScope ["script", "at", "pool", "turn", "keys"] ["script"] (defScope s_law) := ⟨rfl, rfl, rfl, by decide +kernel, rfl, by decide +kernel, by decide +kernel⟩
theorem ok_law {f : Addr} {fd : FuncData} (F : Fun K "law" "law" s_law f fd) (T : TxtL mg) (c_law_pool : Cal P w K mg base 1 "_law_pool" (spPool K)) (c_law_right : CalG P w K mg base 8 "_law_right" (zRight19 K)) (c_read_commands : Cal P w K mg base 3 "read_commands" (spRead K))
    (c_law_ran : Cal P w K mg base 2 "_law_ran" (spRan K)) (m_Box : Mak P w K mg base (L2.CX P w) 4 "Box" CB (zBoxInit K CB (cs 2))) (c_answer : Mth P w K mg base (L2.CX P w) 5 CB "answer" (zAnswer K CB cs)) : FnG P w K mg base 9 f fd ["script"] (spLaw K) := by
  refine okG F sc_law (fun vs H Q E h => ?_) (fun cdv A outer s H vs Q E hg hr h => ?_)
  · obtain ⟨a, ns, rfl, _⟩ := h
    rfl
  · obtain ⟨a, ns, rfl, hS, hlen, k⟩ := h
    refine ⟨_, (pss_cons (ps_for PassesOwn.never rfl (pi_range1 rfl T.range (pa_cons (pe_callB (call_max2 rfl) (by rfl) T.max (by decide +kernel) (pa_cons pe_int (pa_cons (pe_callB (call_min2 rfl) (by rfl) T.min (by decide +kernel) (pa_cons pe_int (pa_cons (pe_callB call_len_seq (by rfl) T.len (by decide +kernel) (pa_cons (pv 0) pa_nil)) pa_nil))) pa_nil))) pa_nil)) (pg_name (i := 1) sc_law.nd rfl (Or.inl rfl)) (pss_cons (ps_set (i := 2) sc_law.nd rfl (Or.inl rfl) (pe_cal c_law_pool hr (by decide) (by rfl) (pa_cons (pv 0) (pa_cons (pv 1) pa_nil))))
      (pss_one (ps_for PassesOwn.never rfl (pi_range1 rfl T.range (pa_cons pe_int pa_nil)) (pg_name (i := 3) sc_law.nd rfl (Or.inl rfl)) (pss_one (ps_if (pt_not (pt_val (pe_calG c_law_right hg hr (by decide) (by rfl) (pa_cons (pv 2) pa_nil)))) (pss_one (ps_ret pe_bl)) pss_nil))))))
      (pss_cons (ps_set (i := 4) sc_law.nd rfl (Or.inl rfl) (pe_cal c_read_commands hr (by decide) (by rfl) (pa_cons (pe_join pe_str (pe_op op_rep (pe_lst (pa_cons pe_str (pa_cons pe_str (pa_cons pe_str (pa_cons pe_str pa_nil))))) pe_int)) pa_nil)))
      (pss_cons (ps_if (pt_cmpR (op_neD hr.units) (pe_mthX takesNone c_answer hr (by decide) (pe_makX takesNone m_Box hr (by decide) (by rfl) (pa_cons (pv 4) pa_nil)) (pa_cons (pe_lst (pa_cons pe_int (pa_cons pe_int pa_nil))) (pa_cons (pe_tup (pa_cons pe_int (pa_cons pe_int pa_nil))) pa_nil))) (pe_ix ix_list (pe_cal c_law_ran hr (by decide) (by rfl) (pa_cons (pe_lst (pa_cons pe_int (pa_cons pe_int pa_nil))) (pa_cons (pe_tup (pa_cons pe_int (pa_cons pe_int pa_nil))) (pa_cons (pv 4) pa_nil)))) pe_int (fun _ _ => rfl)) (nomark _)) (pss_one (ps_ret pe_bl)) pss_nil)
      (pss_one (ps_ret (pe_cmpR (op_eqD hr.units) (pe_mthX takesNone c_answer hr (by decide) (pe_makX takesNone m_Box hr (by decide) (by rfl) (pa_cons (pe_lst pa_nil) pa_nil)) (pa_cons (pe_lst (pa_cons pe_int pa_nil)) (pa_cons (pe_tup (pa_cons pe_int (pa_cons pe_non pa_nil))) pa_nil))) (pe_tup (pa_cons pe_int (pa_cons pe_non pa_nil))) (nomark _))))))), ?_⟩
    refine ⟨_, rfl, a, _, rfl, .inl hS, _, _, rfl, _, _, rfl, _, rfl, ?_⟩
    have h8 : (0 : Int) ≤ (if ((ns.map V.int).length : Int) < 8 then ((ns.map V.int).length : Int) else 8) ∧ (if ((ns.map V.int).length : Int) < 8 then ((ns.map V.int).length : Int) else 8) ≤ 8 := by split <;> omega
    generalize (if ((ns.map V.int).length : Int) < 8 then ((ns.map V.int).length : Int) else 8) = z at h8 ⊢
    have h9 : 1 ≤ (if z > 1 then z else 1) ∧ (if z > 1 then z else 1) ≤ 8 := by split <;> omega
    generalize (if z > 1 then z else 1) = y at h9 ⊢
    refine ⟨by omega, by omega, for_range (lo := 0) (fun i σ H' => ∃ v1 v2 v3 : Option V, σ = [some (.ref a), v1, v2, v3, none] ∧ SqL K H' a (ns.map V.int)) ⟨none, none, none, rfl, hS⟩ (fun i σ H1 hi h => ?_) (fun σ H1 h => ?_)⟩
    · obtain ⟨v1, v2, v3, rfl, hS1⟩ := h
      refine ⟨_, rfl, _, rfl, a, ns, i, (by rw [Int.zero_add]; rfl), hS1, hlen, by omega, fun H2 p e2 np R2 => ?_⟩
      refine ⟨2, rfl, by decide, by decide, for_range (lo := 0) (n := 2) (fun j σ H' => ∃ v3 : Option V, σ = [some (.ref a), some (.int (0 + (i : Int))), some (.ref p), v3, none] ∧ SqL K H' a (ns.map V.int) ∧ Keep p p H2 H' ∧ Rng H' p (20000 * j)) ⟨v3, rfl, e2.seq hS1, Keep.refl _, R2⟩ (fun j σ H3 hj h => ?_) (fun σ H3 h => ?_)⟩
      · obtain ⟨w3, rfl, hS3, kp3, R3⟩ := h
        refine ⟨_, rfl, ask_right19 R3 (by omega) fun H4 kp4 R4 => ⟨_, rfl, iteF ?_⟩⟩
        exact ⟨_, rfl, sq_keep hS1 np e2 (kp3.trans kp4), kp3.trans kp4, R4.more (by omega)⟩
      · obtain ⟨w3, rfl, hS3, _⟩ := h
        exact ⟨_, _, _, rfl, hS3⟩
    · obtain ⟨v1, v2, v3, rfl, hS1⟩ := h
      refine ⟨⟨_, rfl⟩, (by show 4 ≤ sizeLine; decide), fun t nt => ?_⟩
      have e_H2 : Same H1 (upd H1 t (.lst [V.str "2R", .str "1D", .str "1L", .str "1U"])) := new_same nt
      have h_t : (upd H1 t (.lst [V.str "2R", .str "1D", .str "1L", .str "1U"])) t = some (.lst [V.str "2R", .str "1D", .str "1L", .str "1U"]) := upd_same
      generalize upd H1 t (.lst [V.str "2R", .str "1D", .str "1L", .str "1U"]) = H2 at e_H2 h_t ⊢
      refine ⟨t, 60, _, rfl, rfl, h_t, by decide, by decide, by show 4 * 60 ≤ sizeLine; decide, fun u nu => ?_⟩
      have e_H3 : Same H2 (upd H2 u (.lst (List.replicate (60 : Int).toNat [V.str "2R", .str "1D", .str "1L", .str "1U"]).flatten)) := new_same nu
      have h_u : (upd H2 u (.lst (List.replicate (60 : Int).toNat [V.str "2R", .str "1D", .str "1L", .str "1U"]).flatten)) u = some (.lst (List.replicate (60 : Int).toNat [V.str "2R", .str "1D", .str "1L", .str "1U"]).flatten) := upd_same
      generalize upd H2 u (.lst (List.replicate (60 : Int).toNat [V.str "2R", .str "1D", .str "1L", .str "1U"]).flatten) = H3 at e_H3 h_u ⊢
      replace h_u : H3 u = some (.lst (words60.map V.str)) := by
        rw [h_u]
        unfold words60
        rw [List.map_flatten, List.map_replicate]
        rfl
      refine ⟨_, u, words60, rfl, rfl, .inl (SqL.of h_u), ?_, ?_⟩
      · rw [words_len.1, words_len.2]
        show 480 + 240 * 1 ≤ _
        decide
      rw [show (Str.ofString " ") = (" " : Str) from rfl, many_text]
      refine ⟨many, rfl, fun c hc => (four_ok (many_in hc)).1, fun c hc => (four_ok (many_in hc)).2, by rw [many_len]; decide, fun H4 ks xs e4 nks hks hck => ?_⟩
      have gdm : badAt (many.map rawOf) = none := cs_good fun c hc => (four_ok (many_in hc)).1
      refine ⟨_, rfl, fun x0 dx0 nx0 ndx nne => ?_⟩
      have e0 : Same H4 (upd (upd H4 dx0 (.own x0)) x0 (.ins CB dx0 [])) := same_freeU (new_same ndx) nx0
      have hi0 : (upd (upd H4 dx0 (.own x0)) x0 (.ins CB dx0 [])) x0 = some (.ins CB dx0 []) := upd_same
      generalize upd (upd H4 dx0 (.own x0)) x0 (.ins CB dx0 []) = Hn at e0 hi0 ⊢
      show zBoxInit K CB (cs 2) [.ref x0, .ref ks] Hn _ _
      rw [zBoxInit_eq]
      refine ⟨x0, dx0, ks, _, _, rfl, hi0, SqL.of (e0 _ _ hks), (raws_of hck).same e0, (fun i hi => by rw [gdm] at hi; cases hi), fun _ H5 l0 kp nl' bx0 hl0 => ⟨rfl, ?_⟩⟩
      obtain ⟨e5, nl0⟩ := box_same e0 nx0 kp nl'
      clear kp nl' e0 hi0 ndx nne
      have hks5 := e5 _ _ hks
      have hck5 := hck.same e5
      refine ⟨x0, dx0, _, rfl, bx0, rfl, (by show 2 ≤ sizeLine; decide), fun t2 nt2 => ?_⟩
      have e_H6 : Same H5 (upd H5 t2 (.lst [V.int 90, .int 50])) := new_same nt2
      have h_t2 : (upd H5 t2 (.lst [V.int 90, .int 50])) t2 = some (.lst [V.int 90, .int 50]) := upd_same
      generalize upd H5 t2 (.lst [V.int 90, .int 50]) = H6 at e_H6 h_t2 ⊢
      replace hks5 := e_H6 _ _ hks5
      replace hck5 := hck5.same e_H6
      replace bx0 := e_H6 _ _ bx0
      replace hl0 := e_H6 _ _ hl0
      refine ⟨(by show 2 ≤ sizeLine; decide), fun b2 nb2 => ?_⟩
      have e_H7 : Same H6 (upd H6 b2 (.tup [V.int 0, .int 0])) := new_same nb2
      have h_b2 : (upd H6 b2 (.tup [V.int 0, .int 0])) b2 = some (.tup [V.int 0, .int 0]) := upd_same
      generalize upd H6 b2 (.tup [V.int 0, .int 0]) = H7 at e_H7 h_b2 ⊢
      replace hks5 := e_H7 _ _ hks5
      replace hck5 := hck5.same e_H7
      replace bx0 := e_H7 _ _ bx0
      replace hl0 := e_H7 _ _ hl0
      replace h_t2 := e_H7 _ _ h_t2
      have okm : AllOk many := fun c hc => (four_ok (many_in hc)).1
      have lnm : many.length ≤ 10000 := by rw [many_len]; decide
      have nn2 : ∀ x ∈ ([90, 50] : List Int), 0 ≤ x := fun x hx => by
        simp only [List.mem_cons, List.not_mem_nil, or_false] at hx
        rcases hx with rfl | rfl <;> decide
      refine ask_answer (bad := fun _ _ => False) (good := fun o => o = afterL [90, 50] 0 (some 0) many) bx0 (.inr ⟨[90, 50], 0, some 0, _, many, SqL.of h_t2, SqT.of h_b2, SqL.of hl0, hck5, nn2, by decide, by decide, ge_some.mpr (by decide), okm, lnm, rfl⟩) (fun _ _ _ h => h.elim) (fun o ho H8 q kp bx hq => ?_)
      have o1 : ∀ {c : Addr} {ys : List V}, H7 c = some (.lst ys) → H8 c = some (.lst ys) := fun hq => kp _ _ (ne_of bx0 hq (by intro q; cases q)).symm (ne_of bx0 hq (by intro q; cases q)).symm hq
      have o2 : ∀ (c : Addr) (ys : List V), SqT K H7 c ys → SqT K H8 c ys := fun c ys hq => by
        rcases hq with (z | ⟨o, z⟩) | z
        · exact .inl (.inl (kp _ _ (ne_of bx0 z (by intro q; cases q)).symm (ne_of bx0 z (by intro q; cases q)).symm z))
        · exact .inl (.inr ⟨o, kp _ _ (ne_of bx0 z (by intro q; cases q)).symm (ne_of bx0 z (by intro q; cases q)).symm z⟩)
        · exact .inr z
      have hks8 := o1 hks5
      have hck8 : CmdsOf K H8 xs many := Paired.mapP hck5 fun _ _ q => by
        obtain ⟨b, e, z⟩ := q
        exact ⟨b, e, o2 _ _ z⟩
      refine ⟨(by show 2 ≤ sizeLine; decide), fun t3 nt3 => ?_⟩
      have e9 := new_same (o := HO.lst [V.int 90, .int 50]) nt3
      have ht3 : (upd H8 t3 (.lst [V.int 90, .int 50])) t3 = some (.lst [V.int 90, .int 50]) := upd_same
      generalize upd H8 t3 (.lst [V.int 90, .int 50]) = H9 at e9 ht3 ⊢
      refine ⟨(by show 2 ≤ sizeLine; decide), fun b3 nb3 => ?_⟩
      have e10 := new_same (o := HO.tup [V.int 0, .int 0]) nb3
      have hb3 : (upd H9 b3 (.tup [V.int 0, .int 0])) b3 = some (.tup [V.int 0, .int 0]) := upd_same
      replace ht3 := e10 _ _ ht3
      have e810 := e9.trans e10
      generalize upd H9 b3 (.tup [V.int 0, .int 0]) = H10 at e810 ht3 hb3 ⊢
      have nbm : ∀ c ∈ many, numC c < 10 ^ 40 := fun c hc => (four_ok (many_in hc)).2
      have last : ∀ (Hx : Hp), SqL K Hx a (ns.map V.int) ∨ True := fun _ => .inr trivial
      refine ⟨_, rfl, t3, b3, ks, [90, 50], 0, some 0, xs, many, rfl, SqL.of ht3, SqT.of hb3, SqL.of (e810 _ _ hks8), hck8.same e810, by decide, by decide, okm, nbm, fun mm hm H11 p e11 np hp => ?_, fun r' g' ha H11 p q2 e11 np hp hq2 => ?_⟩
      · have hqq : o = none := by
          rw [ho]
          cases qq : afterL [90, 50] 0 (some 0) many with
          | none => rfl
          | some y =>
            have z := fail_none.mpr (show afterL [90, 50] 0 (some 0) many ≠ none by rw [qq]; simp)
            rw [z] at hm
            cases hm
        subst hqq
        have hq' := (hq.same e810).same e11
        refine ⟨p, _, 0, .non, rfl, rfl, SqL.of hp, rfl, .none, .none, .non, .non, rfl, rfl, _, rfl, ?_⟩
        rw [SeqAt.eqv_refl _ rfl]
        refine iteF ?_
        refine ⟨(by show 0 ≤ sizeLine; decide), fun t4 nt4 => ?_⟩
        have e_H12 : Same H11 (upd H11 t4 (.lst [])) := new_same nt4
        have h_t4 : (upd H11 t4 (.lst [])) t4 = some (.lst []) := upd_same
        generalize upd H11 t4 (.lst []) = H12 at e_H12 h_t4 ⊢
        intro x1 dx1 nx1 ndx nne
        have e0 : Same H12 (upd (upd H12 dx1 (.own x1)) x1 (.ins CB dx1 [])) := same_freeU (new_same ndx) nx1
        have hi0 : (upd (upd H12 dx1 (.own x1)) x1 (.ins CB dx1 [])) x1 = some (.ins CB dx1 []) := upd_same
        generalize upd (upd H12 dx1 (.own x1)) x1 (.ins CB dx1 []) = Hn at e0 hi0 ⊢
        have gdn : badAt (([] : List Cmd).map rawOf) = none := rfl
        refine ⟨x1, dx1, t4, [], [], rfl, hi0, SqL.of (e0 _ _ h_t4), .nil, (fun i hi => by cases hi), fun _ H13 l1 kp1 nl1 bx1 hl1 => ⟨rfl, ?_⟩⟩
        refine ⟨x1, dx1, _, rfl, bx1, rfl, (by show 1 ≤ sizeLine; decide), fun t5 nt5 => ?_⟩
        have e_H14 : Same H13 (upd H13 t5 (.lst [V.int 0])) := new_same nt5
        have h_t5 : (upd H13 t5 (.lst [V.int 0])) t5 = some (.lst [V.int 0]) := upd_same
        generalize upd H13 t5 (.lst [V.int 0]) = H14 at e_H14 h_t5 ⊢
        replace bx1 := e_H14 _ _ bx1
        replace hl1 := e_H14 _ _ hl1
        refine ⟨(by show 2 ≤ sizeLine; decide), fun b5 nb5 => ?_⟩
        have e_H15 : Same H14 (upd H14 b5 (.tup [V.int 0, .non])) := new_same nb5
        have h_b5 : (upd H14 b5 (.tup [V.int 0, .non])) b5 = some (.tup [V.int 0, .non]) := upd_same
        generalize upd H14 b5 (.tup [V.int 0, .non]) = H15 at e_H15 h_b5 ⊢
        replace bx1 := e_H15 _ _ bx1
        replace hl1 := e_H15 _ _ hl1
        replace h_t5 := e_H15 _ _ h_t5
        refine ask_answer (bad := fun _ _ => False) (good := fun o => o = some (0, none)) bx1 (.inr ⟨[0], 0, none, [], [], SqL.of h_t5, SqT.of h_b5, SqL.of hl1, .nil, (fun x hx => by rw [List.mem_singleton.mp hx]; decide), by decide, by decide, ge_none 0, (fun c hc => nomatch hc), by decide, rfl⟩) (fun _ _ _ h => h.elim) (fun o2 ho2 H16 q3 kp3 bx3 hq3 => ?_)
        subst ho2
        refine ⟨(by show 2 ≤ sizeLine; decide), fun b6 nb6 => ?_⟩
        have hq4 : SqT K (upd H16 b6 (.tup [V.int 0, .non])) q3 [.int 0, .non] := seq_t (new_same nb6) hq3
        refine ⟨.tuple [.int 0, .none], .tuple [.int 0, .none], .tup hq4 (.cons (.int 0) (.cons .non .nil)), .tup (SqT.of upd_same) (.cons (.int 0) (.cons .non .nil)), rfl, rfl, ?_⟩
        rw [SeqAt.eqv_refl _ rfl]
        exact k _
      · have hqq : o = some (r', g') := by
          rw [ho]
          exact ha
        subst hqq
        have hq' := (hq.same e810).same e11
        refine ⟨p, _, 0, .ref q2, rfl, rfl, SqL.of hp, rfl, (.tuple [.int r', optD g']), (.tuple [.int r', optD g']), (.tup hq' (.cons (.int _) (.cons (dp_optQ _) .nil))), (.tup hq2 (.cons (.int _) (.cons (dp_optQ _) .nil))), (spot_shaped r' g'), (spot_shaped r' g'), _, rfl, ?_⟩
        rw [SeqAt.eqv_refl _ (spot_lay r' g')]
        refine iteF ?_
        refine ⟨(by show 0 ≤ sizeLine; decide), fun t4 nt4 => ?_⟩
        have e_H12 : Same H11 (upd H11 t4 (.lst [])) := new_same nt4
        have h_t4 : (upd H11 t4 (.lst [])) t4 = some (.lst []) := upd_same
        generalize upd H11 t4 (.lst []) = H12 at e_H12 h_t4 ⊢
        intro x1 dx1 nx1 ndx nne
        have e0 : Same H12 (upd (upd H12 dx1 (.own x1)) x1 (.ins CB dx1 [])) := same_freeU (new_same ndx) nx1
        have hi0 : (upd (upd H12 dx1 (.own x1)) x1 (.ins CB dx1 [])) x1 = some (.ins CB dx1 []) := upd_same
        generalize upd (upd H12 dx1 (.own x1)) x1 (.ins CB dx1 []) = Hn at e0 hi0 ⊢
        have gdn : badAt (([] : List Cmd).map rawOf) = none := rfl
        refine ⟨x1, dx1, t4, [], [], rfl, hi0, SqL.of (e0 _ _ h_t4), .nil, (fun i hi => by cases hi), fun _ H13 l1 kp1 nl1 bx1 hl1 => ⟨rfl, ?_⟩⟩
        refine ⟨x1, dx1, _, rfl, bx1, rfl, (by show 1 ≤ sizeLine; decide), fun t5 nt5 => ?_⟩
        have e_H14 : Same H13 (upd H13 t5 (.lst [V.int 0])) := new_same nt5
        have h_t5 : (upd H13 t5 (.lst [V.int 0])) t5 = some (.lst [V.int 0]) := upd_same
        generalize upd H13 t5 (.lst [V.int 0]) = H14 at e_H14 h_t5 ⊢
        replace bx1 := e_H14 _ _ bx1
        replace hl1 := e_H14 _ _ hl1
        refine ⟨(by show 2 ≤ sizeLine; decide), fun b5 nb5 => ?_⟩
        have e_H15 : Same H14 (upd H14 b5 (.tup [V.int 0, .non])) := new_same nb5
        have h_b5 : (upd H14 b5 (.tup [V.int 0, .non])) b5 = some (.tup [V.int 0, .non]) := upd_same
        generalize upd H14 b5 (.tup [V.int 0, .non]) = H15 at e_H15 h_b5 ⊢
        replace bx1 := e_H15 _ _ bx1
        replace hl1 := e_H15 _ _ hl1
        replace h_t5 := e_H15 _ _ h_t5
        refine ask_answer (bad := fun _ _ => False) (good := fun o => o = some (0, none)) bx1 (.inr ⟨[0], 0, none, [], [], SqL.of h_t5, SqT.of h_b5, SqL.of hl1, .nil, (fun x hx => by rw [List.mem_singleton.mp hx]; decide), by decide, by decide, ge_none 0, (fun c hc => nomatch hc), by decide, rfl⟩) (fun _ _ _ h => h.elim) (fun o2 ho2 H16 q3 kp3 bx3 hq3 => ?_)
        subst ho2
        refine ⟨(by show 2 ≤ sizeLine; decide), fun b6 nb6 => ?_⟩
        have hq4 : SqT K (upd H16 b6 (.tup [V.int 0, .non])) q3 [.int 0, .non] := seq_t (new_same nb6) hq3
        refine ⟨.tuple [.int 0, .none], .tuple [.int 0, .none], .tup hq4 (.cons (.int 0) (.cons .non .nil)), .tup (SqT.of upd_same) (.cons (.int 0) (.cons .non .nil)), rfl, rfl, ?_⟩
        rw [SeqAt.eqv_refl _ rfl]
        exact k _
end
end Gc

/-! the __init__ of the errors -/
namespace Gc
open PySem L2
theorem kit_own {K : PySem.W.Frag} {C D : Addr} {b : Bool} (h1 : PySem.W.isClsIn K D = true) (h2 : PySem.W.typeIn K (.ref D) = some (.type "type"))
    (h3 : PySem.W.subIn K (.ref C) (.ref D) = some b) (hr : PySem.W.subIn K (.ref C) (.ref C) = some true) : PySem.W.kitOne K (.ref C) (.ref D) = some b := by
  unfold PySem.W.kitOne
  split
  · rename_i e
    have z : C = D := Value.ref.inj (beq_iff_eq.mp e)
    subst z
    exact hr.symm.trans h3
  · show (if ((PySem.W.clsIn K D).isSome && PySem.W.typeIn K (.ref D) == some (.type "type")) = true then PySem.W.subIn K (.ref C) (.ref D) else none) = some b
    have h1' : (PySem.W.clsIn K D).isSome = true := h1
    rw [h1', h2]
    exact h3
theorem kit_bl {K : PySem.W.Frag} {C : Addr} {T : String} {b : Bool} (hm : PySem.W.kitMeta T = true) (h : PySem.W.subIn K (.ref C) (.type T) = some b) : PySem.W.kitOne K (.ref C) (.type T) = some b := by
  unfold PySem.W.kitOne
  rw [if_neg (by intro e; cases beq_iff_eq.mp e)]
  show (if PySem.W.kitMeta T = true then PySem.W.subIn K (.ref C) (.type T) else none) = some b
  rw [if_pos hm]
  exact h
section
variable {P : Program} {w : World} {K : PySem.W.Frag} {mg : Str → Option Value} {base : Heap}
abbrev sI0 : Stmt := inClass (top 2) 0
theorem sc_I0 : FnScope ["self", "value"] ["self", "value"] (defScope sI0) := ⟨rfl, rfl, rfl, by decide +kernel, rfl, by decide +kernel, by decide +kernel⟩
theorem errc_I0 {fI C : Addr} {fd : FuncData} (F : Fun K "__init__" "InvalidText.__init__" sI0 fI fd) (T : OexC K C) (g : mg "InvalidText" = some (.ref C)) (no : PySem.W.findIn K (.ref C) "value" = some none)
    (iC : PySem.W.findIn K (.ref C) "__init__" = some (some (.ref fI))) (tI : PySem.W.typeIn K (.ref fI) = some (.type "function")) : ErrC P w K mg base "InvalidText" C := by
  have ok : FnOk P w K mg base CX0 1 fI fd ["self", "value"] (spKeep C) := by
    refine F.ok sc_I0 (fun vs H Q E h => ?_) (fun cdv A outer s H vs Q E hr h => ?_)
    · obtain ⟨a, v, rfl, _⟩ := h
      rfl
    · obtain ⟨a, v, rfl, ha, k⟩ := h
      refine ⟨_, pss_one (ps_ost (pv 0) (pv 1)), ?_⟩
      exact ⟨_, rfl, _, rfl, a, C, rfl, T, no, .inl ⟨ha, fun dx hd ne => k dx hd ne⟩⟩
  exact ⟨T, g, no, fI, fd, iC, tI, ok, F.binds (ps := ["self", "value"]) fun _ _ _ _ _ _ us hl => match us, hl with | [_, _], _ => rfl⟩
abbrev sI1 : Stmt := inClass (top 3) 0
theorem sc_I1 : FnScope ["self", "value"] ["self", "value"] (defScope sI1) := ⟨rfl, rfl, rfl, by decide +kernel, rfl, by decide +kernel, by decide +kernel⟩
theorem errc_I1 {fI C : Addr} {fd : FuncData} (F : Fun K "__init__" "InvalidCursor.__init__" sI1 fI fd) (T : OexC K C) (g : mg "InvalidCursor" = some (.ref C)) (no : PySem.W.findIn K (.ref C) "value" = some none)
    (iC : PySem.W.findIn K (.ref C) "__init__" = some (some (.ref fI))) (tI : PySem.W.typeIn K (.ref fI) = some (.type "function")) : ErrC P w K mg base "InvalidCursor" C := by
  have ok : FnOk P w K mg base CX0 1 fI fd ["self", "value"] (spKeep C) := by
    refine F.ok sc_I1 (fun vs H Q E h => ?_) (fun cdv A outer s H vs Q E hr h => ?_)
    · obtain ⟨a, v, rfl, _⟩ := h
      rfl
    · obtain ⟨a, v, rfl, ha, k⟩ := h
      refine ⟨_, pss_one (ps_ost (pv 0) (pv 1)), ?_⟩
      exact ⟨_, rfl, _, rfl, a, C, rfl, T, no, .inl ⟨ha, fun dx hd ne => k dx hd ne⟩⟩
  exact ⟨T, g, no, fI, fd, iC, tI, ok, F.binds (ps := ["self", "value"]) fun _ _ _ _ _ _ us hl => match us, hl with | [_, _], _ => rfl⟩
abbrev sI2 : Stmt := inClass (top 4) 0
theorem sc_I2 : FnScope ["self", "value"] ["self", "value"] (defScope sI2) := ⟨rfl, rfl, rfl, by decide +kernel, rfl, by decide +kernel, by decide +kernel⟩
theorem errc_I2 {fI C : Addr} {fd : FuncData} (F : Fun K "__init__" "InvalidCommand.__init__" sI2 fI fd) (T : OexC K C) (g : mg "InvalidCommand" = some (.ref C)) (no : PySem.W.findIn K (.ref C) "value" = some none)
    (iC : PySem.W.findIn K (.ref C) "__init__" = some (some (.ref fI))) (tI : PySem.W.typeIn K (.ref fI) = some (.type "function")) : ErrC P w K mg base "InvalidCommand" C := by
  have ok : FnOk P w K mg base CX0 1 fI fd ["self", "value"] (spKeep C) := by
    refine F.ok sc_I2 (fun vs H Q E h => ?_) (fun cdv A outer s H vs Q E hr h => ?_)
    · obtain ⟨a, v, rfl, _⟩ := h
      rfl
    · obtain ⟨a, v, rfl, ha, k⟩ := h
      refine ⟨_, pss_one (ps_ost (pv 0) (pv 1)), ?_⟩
      exact ⟨_, rfl, _, rfl, a, C, rfl, T, no, .inl ⟨ha, fun dx hd ne => k dx hd ne⟩⟩
  exact ⟨T, g, no, fI, fd, iC, tI, ok, F.binds (ps := ["self", "value"]) fun _ _ _ _ _ _ us hl => match us, hl with | [_, _], _ => rfl⟩
abbrev sI3 : Stmt := inClass (top 5) 0
theorem sc_I3 : FnScope ["self", "value"] ["self", "value"] (defScope sI3) := ⟨rfl, rfl, rfl, by decide +kernel, rfl, by decide +kernel, by decide +kernel⟩
theorem errc_I3 {fI C : Addr} {fd : FuncData} (F : Fun K "__init__" "Impossible.__init__" sI3 fI fd) (T : OexC K C) (g : mg "Impossible" = some (.ref C)) (no : PySem.W.findIn K (.ref C) "value" = some none)
    (iC : PySem.W.findIn K (.ref C) "__init__" = some (some (.ref fI))) (tI : PySem.W.typeIn K (.ref fI) = some (.type "function")) : ErrC P w K mg base "Impossible" C := by
  have ok : FnOk P w K mg base CX0 1 fI fd ["self", "value"] (spKeep C) := by
    refine F.ok sc_I3 (fun vs H Q E h => ?_) (fun cdv A outer s H vs Q E hr h => ?_)
    · obtain ⟨a, v, rfl, _⟩ := h
      rfl
    · obtain ⟨a, v, rfl, ha, k⟩ := h
      refine ⟨_, pss_one (ps_ost (pv 0) (pv 1)), ?_⟩
      exact ⟨_, rfl, _, rfl, a, C, rfl, T, no, .inl ⟨ha, fun dx hd ne => k dx hd ne⟩⟩
  exact ⟨T, g, no, fI, fd, iC, tI, ok, F.binds (ps := ["self", "value"]) fun _ _ _ _ _ _ us hl => match us, hl with | [_, _], _ => rfl⟩
abbrev sI4 : Stmt := inClass (top 6) 0
theorem sc_I4 : FnScope ["self", "value"] ["self", "value"] (defScope sI4) := ⟨rfl, rfl, rfl, by decide +kernel, rfl, by decide +kernel, by decide +kernel⟩
theorem errc_I4 {fI C : Addr} {fd : FuncData} (F : Fun K "__init__" "InvalidNumber.__init__" sI4 fI fd) (T : OexC K C) (g : mg "InvalidNumber" = some (.ref C)) (no : PySem.W.findIn K (.ref C) "value" = some none)
    (iC : PySem.W.findIn K (.ref C) "__init__" = some (some (.ref fI))) (tI : PySem.W.typeIn K (.ref fI) = some (.type "function")) : ErrC P w K mg base "InvalidNumber" C := by
  have ok : FnOk P w K mg base CX0 1 fI fd ["self", "value"] (spKeep C) := by
    refine F.ok sc_I4 (fun vs H Q E h => ?_) (fun cdv A outer s H vs Q E hr h => ?_)
    · obtain ⟨a, v, rfl, _⟩ := h
      rfl
    · obtain ⟨a, v, rfl, ha, k⟩ := h
      refine ⟨_, pss_one (ps_ost (pv 0) (pv 1)), ?_⟩
      exact ⟨_, rfl, _, rfl, a, C, rfl, T, no, .inl ⟨ha, fun dx hd ne => k dx hd ne⟩⟩
  exact ⟨T, g, no, fI, fd, iC, tI, ok, F.binds (ps := ["self", "value"]) fun _ _ _ _ _ _ us hl => match us, hl with | [_, _], _ => rfl⟩
abbrev sI5 : Stmt := inClass (top 7) 0
theorem sc_I5 : FnScope ["self", "value"] ["self", "value"] (defScope sI5) := ⟨rfl, rfl, rfl, by decide +kernel, rfl, by decide +kernel, by decide +kernel⟩
theorem errc_I5 {fI C : Addr} {fd : FuncData} (F : Fun K "__init__" "NothingToUndo.__init__" sI5 fI fd) (T : OexC K C) (g : mg "NothingToUndo" = some (.ref C)) (no : PySem.W.findIn K (.ref C) "value" = some none)
    (iC : PySem.W.findIn K (.ref C) "__init__" = some (some (.ref fI))) (tI : PySem.W.typeIn K (.ref fI) = some (.type "function")) : ErrC P w K mg base "NothingToUndo" C := by
  have ok : FnOk P w K mg base CX0 1 fI fd ["self", "value"] (spKeep C) := by
    refine F.ok sc_I5 (fun vs H Q E h => ?_) (fun cdv A outer s H vs Q E hr h => ?_)
    · obtain ⟨a, v, rfl, _⟩ := h
      rfl
    · obtain ⟨a, v, rfl, ha, k⟩ := h
      refine ⟨_, pss_one (ps_ost (pv 0) (pv 1)), ?_⟩
      exact ⟨_, rfl, _, rfl, a, C, rfl, T, no, .inl ⟨ha, fun dx hd ne => k dx hd ne⟩⟩
  exact ⟨T, g, no, fI, fd, iC, tI, ok, F.binds (ps := ["self", "value"]) fun _ _ _ _ _ _ us hl => match us, hl with | [_, _], _ => rfl⟩
abbrev sI6 : Stmt := inClass (top 8) 0
theorem sc_I6 : FnScope ["self", "value"] ["self", "value"] (defScope sI6) := ⟨rfl, rfl, rfl, by decide +kernel, rfl, by decide +kernel, by decide +kernel⟩
theorem errc_I6 {fI C : Addr} {fd : FuncData} (F : Fun K "__init__" "Unreadable.__init__" sI6 fI fd) (T : OexC K C) (g : mg "Unreadable" = some (.ref C)) (no : PySem.W.findIn K (.ref C) "value" = some none)
    (iC : PySem.W.findIn K (.ref C) "__init__" = some (some (.ref fI))) (tI : PySem.W.typeIn K (.ref fI) = some (.type "function")) : ErrC P w K mg base "Unreadable" C := by
  have ok : FnOk P w K mg base CX0 1 fI fd ["self", "value"] (spKeep C) := by
    refine F.ok sc_I6 (fun vs H Q E h => ?_) (fun cdv A outer s H vs Q E hr h => ?_)
    · obtain ⟨a, v, rfl, _⟩ := h
      rfl
    · obtain ⟨a, v, rfl, ha, k⟩ := h
      refine ⟨_, pss_one (ps_ost (pv 0) (pv 1)), ?_⟩
      exact ⟨_, rfl, _, rfl, a, C, rfl, T, no, .inl ⟨ha, fun dx hd ne => k dx hd ne⟩⟩
  exact ⟨T, g, no, fI, fd, iC, tI, ok, F.binds (ps := ["self", "value"]) fun _ _ _ _ _ _ us hl => match us, hl with | [_, _], _ => rfl⟩
end
end Gc

namespace Gc
open PySem L2
theorem all_mk {l : PySem.W.OpenLaw} {w : World} {K : PySem.W.Frag} {h : Heap} {mg : Str → Option Value} {fa : Addr} (X : K.In h) (G : h.Ns mainGlobals mg) (hfa : mg "law" = some (.ref fa))
    {wn wo : Addr} {odN odO : Option Addr} {nN nO : Nat} {slN slO : Array (Option Value)} {tn0 tn1 tn2 tn3 to0 to1 : Tok}
    {f_is_count : Addr} {oc_is_count kV_is_count dc_is_count pm_is_count cd_is_count ct_is_count : Value} {od_is_count an_is_count : Option Addr} {sl_is_count : Array (Option Value)}
    {f_is_command : Addr} {oc_is_command kV_is_command dc_is_command pm_is_command cd_is_command ct_is_command : Value} {od_is_command an_is_command : Option Addr} {sl_is_command : Array (Option Value)}
    {f_check_commands : Addr} {oc_check_commands kV_check_commands dc_check_commands pm_check_commands cd_check_commands ct_check_commands : Value} {od_check_commands an_check_commands : Option Addr} {sl_check_commands : Array (Option Value)}
    {f_row_change : Addr} {oc_row_change kV_row_change dc_row_change pm_row_change cd_row_change ct_row_change : Value} {od_row_change an_row_change : Option Addr} {sl_row_change : Array (Option Value)}
    {f_check_text : Addr} {oc_check_text kV_check_text dc_check_text pm_check_text cd_check_text ct_check_text : Value} {od_check_text an_check_text : Option Addr} {sl_check_text : Array (Option Value)}
    {f_check_cursor : Addr} {oc_check_cursor kV_check_cursor dc_check_cursor pm_check_cursor cd_check_cursor ct_check_cursor : Value} {od_check_cursor an_check_cursor : Option Addr} {sl_check_cursor : Array (Option Value)}
    {f_run : Addr} {oc_run kV_run dc_run pm_run cd_run ct_run : Value} {od_run an_run : Option Addr} {sl_run : Array (Option Value)}
    {f_shown_column : Addr} {oc_shown_column kV_shown_column dc_shown_column pm_shown_column cd_shown_column ct_shown_column : Value} {od_shown_column an_shown_column : Option Addr} {sl_shown_column : Array (Option Value)}
    {f_moved : Addr} {oc_moved kV_moved dc_moved pm_moved cd_moved ct_moved : Value} {od_moved an_moved : Option Addr} {sl_moved : Array (Option Value)}
    {f_new_goal : Addr} {oc_new_goal kV_new_goal dc_new_goal pm_new_goal cd_new_goal ct_new_goal : Value} {od_new_goal an_new_goal : Option Addr} {sl_new_goal : Array (Option Value)}
    {f_is_number : Addr} {oc_is_number kV_is_number dc_is_number pm_is_number cd_is_number ct_is_number : Value} {od_is_number an_is_number : Option Addr} {sl_is_number : Array (Option Value)}
    {f_read_command : Addr} {oc_read_command kV_read_command dc_read_command pm_read_command cd_read_command ct_read_command : Value} {od_read_command an_read_command : Option Addr} {sl_read_command : Array (Option Value)}
    {f_read_commands : Addr} {oc_read_commands kV_read_commands dc_read_commands pm_read_commands cd_read_commands ct_read_commands : Value} {od_read_commands an_read_commands : Option Addr} {sl_read_commands : Array (Option Value)}
    {f_law_pool : Addr} {oc_law_pool kV_law_pool dc_law_pool pm_law_pool cd_law_pool ct_law_pool : Value} {od_law_pool an_law_pool : Option Addr} {sl_law_pool : Array (Option Value)}
    {f_law_draw : Addr} {oc_law_draw kV_law_draw dc_law_draw pm_law_draw cd_law_draw ct_law_draw : Value} {od_law_draw an_law_draw : Option Addr} {sl_law_draw : Array (Option Value)}
    {f_law_number : Addr} {oc_law_number kV_law_number dc_law_number pm_law_number cd_law_number ct_law_number : Value} {od_law_number an_law_number : Option Addr} {sl_law_number : Array (Option Value)}
    {f_law_key : Addr} {oc_law_key kV_law_key dc_law_key pm_law_key cd_law_key ct_law_key : Value} {od_law_key an_law_key : Option Addr} {sl_law_key : Array (Option Value)}
    {f_law_keys : Addr} {oc_law_keys kV_law_keys dc_law_keys pm_law_keys cd_law_keys ct_law_keys : Value} {od_law_keys an_law_keys : Option Addr} {sl_law_keys : Array (Option Value)}
    {f_law_lines : Addr} {oc_law_lines kV_law_lines dc_law_lines pm_law_lines cd_law_lines ct_law_lines : Value} {od_law_lines an_law_lines : Option Addr} {sl_law_lines : Array (Option Value)}
    {f_law_spot : Addr} {oc_law_spot kV_law_spot dc_law_spot pm_law_spot cd_law_spot ct_law_spot : Value} {od_law_spot an_law_spot : Option Addr} {sl_law_spot : Array (Option Value)}
    {f_law_after : Addr} {oc_law_after kV_law_after dc_law_after pm_law_after cd_law_after ct_law_after : Value} {od_law_after an_law_after : Option Addr} {sl_law_after : Array (Option Value)}
    {f_law_ran : Addr} {oc_law_ran kV_law_ran dc_law_ran pm_law_ran cd_law_ran ct_law_ran : Value} {od_law_ran an_law_ran : Option Addr} {sl_law_ran : Array (Option Value)}
    {f_law_kind : Addr} {oc_law_kind kV_law_kind dc_law_kind pm_law_kind cd_law_kind ct_law_kind : Value} {od_law_kind an_law_kind : Option Addr} {sl_law_kind : Array (Option Value)}
    {f_law_bad_keys : Addr} {oc_law_bad_keys kV_law_bad_keys dc_law_bad_keys pm_law_bad_keys cd_law_bad_keys ct_law_bad_keys : Value} {od_law_bad_keys an_law_bad_keys : Option Addr} {sl_law_bad_keys : Array (Option Value)}
    {f_law_bad_lines : Addr} {oc_law_bad_lines kV_law_bad_lines dc_law_bad_lines pm_law_bad_lines cd_law_bad_lines ct_law_bad_lines : Value} {od_law_bad_lines an_law_bad_lines : Option Addr} {sl_law_bad_lines : Array (Option Value)}
    {f_law_bad_spot : Addr} {oc_law_bad_spot kV_law_bad_spot dc_law_bad_spot pm_law_bad_spot cd_law_bad_spot ct_law_bad_spot : Value} {od_law_bad_spot an_law_bad_spot : Option Addr} {sl_law_bad_spot : Array (Option Value)}
    {f_law_made : Addr} {oc_law_made kV_law_made dc_law_made pm_law_made cd_law_made ct_law_made : Value} {od_law_made an_law_made : Option Addr} {sl_law_made : Array (Option Value)}
    {f_law_answered : Addr} {oc_law_answered kV_law_answered dc_law_answered pm_law_answered cd_law_answered ct_law_answered : Value} {od_law_answered an_law_answered : Option Addr} {sl_law_answered : Array (Option Value)}
    {f_law_right : Addr} {oc_law_right kV_law_right dc_law_right pm_law_right cd_law_right ct_law_right : Value} {od_law_right an_law_right : Option Addr} {sl_law_right : Array (Option Value)}
    {f_law : Addr} {oc_law kV_law dc_law pm_law cd_law ct_law : Value} {od_law an_law : Option Addr} {sl_law : Array (Option Value)}
    {CE : Addr}
    {C0 : Addr}
    {f0 N0 : Addr} {nm0 q0 : Str} {bs0 : List Value} {sn0 : List Str} {sub0 : List Value} {ab0 : Bool} {col0 : Option Bool} {dd0 : Option Addr} {p0_0 p0_1 p0_2 p0_3 p0_5 : Option Value}
    {oc0 kV0 dc0 pm0 cd0 ct0 : Value} {od0 an0 : Option Addr} {sl0 : Array (Option Value)}
    {C1 : Addr}
    {f1 N1 : Addr} {nm1 q1 : Str} {bs1 : List Value} {sn1 : List Str} {sub1 : List Value} {ab1 : Bool} {col1 : Option Bool} {dd1 : Option Addr} {p1_0 p1_1 p1_2 p1_3 p1_5 : Option Value}
    {oc1 kV1 dc1 pm1 cd1 ct1 : Value} {od1 an1 : Option Addr} {sl1 : Array (Option Value)}
    {C2 : Addr}
    {f2 N2 : Addr} {nm2 q2 : Str} {bs2 : List Value} {sn2 : List Str} {sub2 : List Value} {ab2 : Bool} {col2 : Option Bool} {dd2 : Option Addr} {p2_0 p2_1 p2_2 p2_3 p2_5 : Option Value}
    {oc2 kV2 dc2 pm2 cd2 ct2 : Value} {od2 an2 : Option Addr} {sl2 : Array (Option Value)}
    {C3 : Addr}
    {f3 N3 : Addr} {nm3 q3 : Str} {bs3 : List Value} {sn3 : List Str} {sub3 : List Value} {ab3 : Bool} {col3 : Option Bool} {dd3 : Option Addr} {p3_0 p3_1 p3_2 p3_3 p3_5 : Option Value}
    {oc3 kV3 dc3 pm3 cd3 ct3 : Value} {od3 an3 : Option Addr} {sl3 : Array (Option Value)}
    {C4 : Addr}
    {C5 : Addr}
    {C6 : Addr}
    {CB : Addr}
    {f_B_init : Addr} {oc_B_init kV_B_init dc_B_init pm_B_init cd_B_init ct_B_init : Value} {od_B_init an_B_init : Option Addr} {sl_B_init : Array (Option Value)}
    {f_B_answer : Addr} {oc_B_answer kV_B_answer dc_B_answer pm_B_answer cd_B_answer ct_B_answer : Value} {od_B_answer an_B_answer : Option Addr} {sl_B_answer : Array (Option Value)}
    {f_B_questions : Addr} {oc_B_questions kV_B_questions dc_B_questions pm_B_questions cd_B_questions ct_B_questions : Value} {od_B_questions an_B_questions : Option Addr} {sl_B_questions : Array (Option Value)}
    {p_B_questions : Addr} {r_B_questions : List Value}
    {na nb : Addr} {nA nB : Nat} {tm t1 t2 u1 u2 s1 s2 s3 s4 r1 r2 r3 r4 : Tok}
    (aWN : PySem.W.nsIn K mainGlobals "WITH_NUMBER" = some (some (.ref wn)))
    (aWO : PySem.W.nsIn K mainGlobals "WITHOUT_NUMBER" = some (some (.ref wo)))
    (lWN : K.lookup wn = some ⟨.type "tuple", odN, .seq #[.str "down" tn0, .str "up" tn1, .str "right" tn2, .str "left" tn3] nN, slN⟩)
    (lWO : K.lookup wo = some ⟨.type "tuple", odO, .seq #[.str "home" to0, .str "end" to1] nO, slO⟩)
    (a_is_count : PySem.W.nsIn K mainGlobals "is_count" = some (some (.ref f_is_count)))
    (l_is_count : K.lookup f_is_count = some ⟨oc_is_count, od_is_count, .func (PySem.W.fnOf "is_count" "is_count" (defArgs s_is_count) (defBody s_is_count) (defScope s_is_count) .none kV_is_count dc_is_count pm_is_count an_is_count cd_is_count ct_is_count), sl_is_count⟩)
    (c_is_count : PySem.W.codeIn K cd_is_count "is_count" = true)
    (k_is_count : PySem.W.keepIn K (.ref f_is_count) = true)
    (a_is_command : PySem.W.nsIn K mainGlobals "is_command" = some (some (.ref f_is_command)))
    (l_is_command : K.lookup f_is_command = some ⟨oc_is_command, od_is_command, .func (PySem.W.fnOf "is_command" "is_command" (defArgs s_is_command) (defBody s_is_command) (defScope s_is_command) .none kV_is_command dc_is_command pm_is_command an_is_command cd_is_command ct_is_command), sl_is_command⟩)
    (c_is_command : PySem.W.codeIn K cd_is_command "is_command" = true)
    (k_is_command : PySem.W.keepIn K (.ref f_is_command) = true)
    (a_check_commands : PySem.W.nsIn K mainGlobals "check_commands" = some (some (.ref f_check_commands)))
    (l_check_commands : K.lookup f_check_commands = some ⟨oc_check_commands, od_check_commands, .func (PySem.W.fnOf "check_commands" "check_commands" (defArgs s_check_commands) (defBody s_check_commands) (defScope s_check_commands) .none kV_check_commands dc_check_commands pm_check_commands an_check_commands cd_check_commands ct_check_commands), sl_check_commands⟩)
    (c_check_commands : PySem.W.codeIn K cd_check_commands "check_commands" = true)
    (k_check_commands : PySem.W.keepIn K (.ref f_check_commands) = true)
    (a_row_change : PySem.W.nsIn K mainGlobals "row_change" = some (some (.ref f_row_change)))
    (l_row_change : K.lookup f_row_change = some ⟨oc_row_change, od_row_change, .func (PySem.W.fnOf "row_change" "row_change" (defArgs s_row_change) (defBody s_row_change) (defScope s_row_change) .none kV_row_change dc_row_change pm_row_change an_row_change cd_row_change ct_row_change), sl_row_change⟩)
    (c_row_change : PySem.W.codeIn K cd_row_change "row_change" = true)
    (k_row_change : PySem.W.keepIn K (.ref f_row_change) = true)
    (a_check_text : PySem.W.nsIn K mainGlobals "check_text" = some (some (.ref f_check_text)))
    (l_check_text : K.lookup f_check_text = some ⟨oc_check_text, od_check_text, .func (PySem.W.fnOf "check_text" "check_text" (defArgs s_check_text) (defBody s_check_text) (defScope s_check_text) .none kV_check_text dc_check_text pm_check_text an_check_text cd_check_text ct_check_text), sl_check_text⟩)
    (c_check_text : PySem.W.codeIn K cd_check_text "check_text" = true)
    (k_check_text : PySem.W.keepIn K (.ref f_check_text) = true)
    (a_check_cursor : PySem.W.nsIn K mainGlobals "check_cursor" = some (some (.ref f_check_cursor)))
    (l_check_cursor : K.lookup f_check_cursor = some ⟨oc_check_cursor, od_check_cursor, .func (PySem.W.fnOf "check_cursor" "check_cursor" (defArgs s_check_cursor) (defBody s_check_cursor) (defScope s_check_cursor) .none kV_check_cursor dc_check_cursor pm_check_cursor an_check_cursor cd_check_cursor ct_check_cursor), sl_check_cursor⟩)
    (c_check_cursor : PySem.W.codeIn K cd_check_cursor "check_cursor" = true)
    (k_check_cursor : PySem.W.keepIn K (.ref f_check_cursor) = true)
    (a_run : PySem.W.nsIn K mainGlobals "run" = some (some (.ref f_run)))
    (l_run : K.lookup f_run = some ⟨oc_run, od_run, .func (PySem.W.fnOf "run" "run" (defArgs s_run) (defBody s_run) (defScope s_run) .none kV_run dc_run pm_run an_run cd_run ct_run), sl_run⟩)
    (c_run : PySem.W.codeIn K cd_run "run" = true)
    (k_run : PySem.W.keepIn K (.ref f_run) = true)
    (a_shown_column : PySem.W.nsIn K mainGlobals "shown_column" = some (some (.ref f_shown_column)))
    (l_shown_column : K.lookup f_shown_column = some ⟨oc_shown_column, od_shown_column, .func (PySem.W.fnOf "shown_column" "shown_column" (defArgs s_shown_column) (defBody s_shown_column) (defScope s_shown_column) .none kV_shown_column dc_shown_column pm_shown_column an_shown_column cd_shown_column ct_shown_column), sl_shown_column⟩)
    (c_shown_column : PySem.W.codeIn K cd_shown_column "shown_column" = true)
    (k_shown_column : PySem.W.keepIn K (.ref f_shown_column) = true)
    (a_moved : PySem.W.nsIn K mainGlobals "moved" = some (some (.ref f_moved)))
    (l_moved : K.lookup f_moved = some ⟨oc_moved, od_moved, .func (PySem.W.fnOf "moved" "moved" (defArgs s_moved) (defBody s_moved) (defScope s_moved) .none kV_moved dc_moved pm_moved an_moved cd_moved ct_moved), sl_moved⟩)
    (c_moved : PySem.W.codeIn K cd_moved "moved" = true)
    (k_moved : PySem.W.keepIn K (.ref f_moved) = true)
    (a_new_goal : PySem.W.nsIn K mainGlobals "new_goal" = some (some (.ref f_new_goal)))
    (l_new_goal : K.lookup f_new_goal = some ⟨oc_new_goal, od_new_goal, .func (PySem.W.fnOf "new_goal" "new_goal" (defArgs s_new_goal) (defBody s_new_goal) (defScope s_new_goal) .none kV_new_goal dc_new_goal pm_new_goal an_new_goal cd_new_goal ct_new_goal), sl_new_goal⟩)
    (c_new_goal : PySem.W.codeIn K cd_new_goal "new_goal" = true)
    (k_new_goal : PySem.W.keepIn K (.ref f_new_goal) = true)
    (a_is_number : PySem.W.nsIn K mainGlobals "is_number" = some (some (.ref f_is_number)))
    (l_is_number : K.lookup f_is_number = some ⟨oc_is_number, od_is_number, .func (PySem.W.fnOf "is_number" "is_number" (defArgs s_is_number) (defBody s_is_number) (defScope s_is_number) .none kV_is_number dc_is_number pm_is_number an_is_number cd_is_number ct_is_number), sl_is_number⟩)
    (c_is_number : PySem.W.codeIn K cd_is_number "is_number" = true)
    (k_is_number : PySem.W.keepIn K (.ref f_is_number) = true)
    (a_read_command : PySem.W.nsIn K mainGlobals "read_command" = some (some (.ref f_read_command)))
    (l_read_command : K.lookup f_read_command = some ⟨oc_read_command, od_read_command, .func (PySem.W.fnOf "read_command" "read_command" (defArgs s_read_command) (defBody s_read_command) (defScope s_read_command) .none kV_read_command dc_read_command pm_read_command an_read_command cd_read_command ct_read_command), sl_read_command⟩)
    (c_read_command : PySem.W.codeIn K cd_read_command "read_command" = true)
    (k_read_command : PySem.W.keepIn K (.ref f_read_command) = true)
    (a_read_commands : PySem.W.nsIn K mainGlobals "read_commands" = some (some (.ref f_read_commands)))
    (l_read_commands : K.lookup f_read_commands = some ⟨oc_read_commands, od_read_commands, .func (PySem.W.fnOf "read_commands" "read_commands" (defArgs s_read_commands) (defBody s_read_commands) (defScope s_read_commands) .none kV_read_commands dc_read_commands pm_read_commands an_read_commands cd_read_commands ct_read_commands), sl_read_commands⟩)
    (c_read_commands : PySem.W.codeIn K cd_read_commands "read_commands" = true)
    (k_read_commands : PySem.W.keepIn K (.ref f_read_commands) = true)
    (a_law_pool : PySem.W.nsIn K mainGlobals "_law_pool" = some (some (.ref f_law_pool)))
    (l_law_pool : K.lookup f_law_pool = some ⟨oc_law_pool, od_law_pool, .func (PySem.W.fnOf "_law_pool" "_law_pool" (defArgs s_pool) (defBody s_pool) (defScope s_pool) .none kV_law_pool dc_law_pool pm_law_pool an_law_pool cd_law_pool ct_law_pool), sl_law_pool⟩)
    (c_law_pool : PySem.W.codeIn K cd_law_pool "_law_pool" = true)
    (k_law_pool : PySem.W.keepIn K (.ref f_law_pool) = true)
    (a_law_draw : PySem.W.nsIn K mainGlobals "_law_draw" = some (some (.ref f_law_draw)))
    (l_law_draw : K.lookup f_law_draw = some ⟨oc_law_draw, od_law_draw, .func (PySem.W.fnOf "_law_draw" "_law_draw" (defArgs s_draw) (defBody s_draw) (defScope s_draw) .none kV_law_draw dc_law_draw pm_law_draw an_law_draw cd_law_draw ct_law_draw), sl_law_draw⟩)
    (c_law_draw : PySem.W.codeIn K cd_law_draw "_law_draw" = true)
    (k_law_draw : PySem.W.keepIn K (.ref f_law_draw) = true)
    (a_law_number : PySem.W.nsIn K mainGlobals "_law_number" = some (some (.ref f_law_number)))
    (l_law_number : K.lookup f_law_number = some ⟨oc_law_number, od_law_number, .func (PySem.W.fnOf "_law_number" "_law_number" (defArgs s_number) (defBody s_number) (defScope s_number) .none kV_law_number dc_law_number pm_law_number an_law_number cd_law_number ct_law_number), sl_law_number⟩)
    (c_law_number : PySem.W.codeIn K cd_law_number "_law_number" = true)
    (k_law_number : PySem.W.keepIn K (.ref f_law_number) = true)
    (a_law_key : PySem.W.nsIn K mainGlobals "_law_key" = some (some (.ref f_law_key)))
    (l_law_key : K.lookup f_law_key = some ⟨oc_law_key, od_law_key, .func (PySem.W.fnOf "_law_key" "_law_key" (defArgs s_key) (defBody s_key) (defScope s_key) .none kV_law_key dc_law_key pm_law_key an_law_key cd_law_key ct_law_key), sl_law_key⟩)
    (c_law_key : PySem.W.codeIn K cd_law_key "_law_key" = true)
    (k_law_key : PySem.W.keepIn K (.ref f_law_key) = true)
    (a_law_keys : PySem.W.nsIn K mainGlobals "_law_keys" = some (some (.ref f_law_keys)))
    (l_law_keys : K.lookup f_law_keys = some ⟨oc_law_keys, od_law_keys, .func (PySem.W.fnOf "_law_keys" "_law_keys" (defArgs s_keys) (defBody s_keys) (defScope s_keys) .none kV_law_keys dc_law_keys pm_law_keys an_law_keys cd_law_keys ct_law_keys), sl_law_keys⟩)
    (c_law_keys : PySem.W.codeIn K cd_law_keys "_law_keys" = true)
    (k_law_keys : PySem.W.keepIn K (.ref f_law_keys) = true)
    (a_law_lines : PySem.W.nsIn K mainGlobals "_law_lines" = some (some (.ref f_law_lines)))
    (l_law_lines : K.lookup f_law_lines = some ⟨oc_law_lines, od_law_lines, .func (PySem.W.fnOf "_law_lines" "_law_lines" (defArgs s_lines) (defBody s_lines) (defScope s_lines) .none kV_law_lines dc_law_lines pm_law_lines an_law_lines cd_law_lines ct_law_lines), sl_law_lines⟩)
    (c_law_lines : PySem.W.codeIn K cd_law_lines "_law_lines" = true)
    (k_law_lines : PySem.W.keepIn K (.ref f_law_lines) = true)
    (a_law_spot : PySem.W.nsIn K mainGlobals "_law_spot" = some (some (.ref f_law_spot)))
    (l_law_spot : K.lookup f_law_spot = some ⟨oc_law_spot, od_law_spot, .func (PySem.W.fnOf "_law_spot" "_law_spot" (defArgs s_spot) (defBody s_spot) (defScope s_spot) .none kV_law_spot dc_law_spot pm_law_spot an_law_spot cd_law_spot ct_law_spot), sl_law_spot⟩)
    (c_law_spot : PySem.W.codeIn K cd_law_spot "_law_spot" = true)
    (k_law_spot : PySem.W.keepIn K (.ref f_law_spot) = true)
    (a_law_after : PySem.W.nsIn K mainGlobals "_law_after" = some (some (.ref f_law_after)))
    (l_law_after : K.lookup f_law_after = some ⟨oc_law_after, od_law_after, .func (PySem.W.fnOf "_law_after" "_law_after" (defArgs s_after1) (defBody s_after1) (defScope s_after1) .none kV_law_after dc_law_after pm_law_after an_law_after cd_law_after ct_law_after), sl_law_after⟩)
    (c_law_after : PySem.W.codeIn K cd_law_after "_law_after" = true)
    (k_law_after : PySem.W.keepIn K (.ref f_law_after) = true)
    (a_law_ran : PySem.W.nsIn K mainGlobals "_law_ran" = some (some (.ref f_law_ran)))
    (l_law_ran : K.lookup f_law_ran = some ⟨oc_law_ran, od_law_ran, .func (PySem.W.fnOf "_law_ran" "_law_ran" (defArgs s_ran) (defBody s_ran) (defScope s_ran) .none kV_law_ran dc_law_ran pm_law_ran an_law_ran cd_law_ran ct_law_ran), sl_law_ran⟩)
    (c_law_ran : PySem.W.codeIn K cd_law_ran "_law_ran" = true)
    (k_law_ran : PySem.W.keepIn K (.ref f_law_ran) = true)
    (a_law_kind : PySem.W.nsIn K mainGlobals "_law_kind" = some (some (.ref f_law_kind)))
    (l_law_kind : K.lookup f_law_kind = some ⟨oc_law_kind, od_law_kind, .func (PySem.W.fnOf "_law_kind" "_law_kind" (defArgs s_kind) (defBody s_kind) (defScope s_kind) .none kV_law_kind dc_law_kind pm_law_kind an_law_kind cd_law_kind ct_law_kind), sl_law_kind⟩)
    (c_law_kind : PySem.W.codeIn K cd_law_kind "_law_kind" = true)
    (k_law_kind : PySem.W.keepIn K (.ref f_law_kind) = true)
    (a_law_bad_keys : PySem.W.nsIn K mainGlobals "_law_bad_keys" = some (some (.ref f_law_bad_keys)))
    (l_law_bad_keys : K.lookup f_law_bad_keys = some ⟨oc_law_bad_keys, od_law_bad_keys, .func (PySem.W.fnOf "_law_bad_keys" "_law_bad_keys" (defArgs s_bad_keys) (defBody s_bad_keys) (defScope s_bad_keys) .none kV_law_bad_keys dc_law_bad_keys pm_law_bad_keys an_law_bad_keys cd_law_bad_keys ct_law_bad_keys), sl_law_bad_keys⟩)
    (c_law_bad_keys : PySem.W.codeIn K cd_law_bad_keys "_law_bad_keys" = true)
    (k_law_bad_keys : PySem.W.keepIn K (.ref f_law_bad_keys) = true)
    (a_law_bad_lines : PySem.W.nsIn K mainGlobals "_law_bad_lines" = some (some (.ref f_law_bad_lines)))
    (l_law_bad_lines : K.lookup f_law_bad_lines = some ⟨oc_law_bad_lines, od_law_bad_lines, .func (PySem.W.fnOf "_law_bad_lines" "_law_bad_lines" (defArgs s_bad_lines) (defBody s_bad_lines) (defScope s_bad_lines) .none kV_law_bad_lines dc_law_bad_lines pm_law_bad_lines an_law_bad_lines cd_law_bad_lines ct_law_bad_lines), sl_law_bad_lines⟩)
    (c_law_bad_lines : PySem.W.codeIn K cd_law_bad_lines "_law_bad_lines" = true)
    (k_law_bad_lines : PySem.W.keepIn K (.ref f_law_bad_lines) = true)
    (a_law_bad_spot : PySem.W.nsIn K mainGlobals "_law_bad_spot" = some (some (.ref f_law_bad_spot)))
    (l_law_bad_spot : K.lookup f_law_bad_spot = some ⟨oc_law_bad_spot, od_law_bad_spot, .func (PySem.W.fnOf "_law_bad_spot" "_law_bad_spot" (defArgs s_bad_spot) (defBody s_bad_spot) (defScope s_bad_spot) .none kV_law_bad_spot dc_law_bad_spot pm_law_bad_spot an_law_bad_spot cd_law_bad_spot ct_law_bad_spot), sl_law_bad_spot⟩)
    (c_law_bad_spot : PySem.W.codeIn K cd_law_bad_spot "_law_bad_spot" = true)
    (k_law_bad_spot : PySem.W.keepIn K (.ref f_law_bad_spot) = true)
    (a_law_made : PySem.W.nsIn K mainGlobals "_law_made" = some (some (.ref f_law_made)))
    (l_law_made : K.lookup f_law_made = some ⟨oc_law_made, od_law_made, .func (PySem.W.fnOf "_law_made" "_law_made" (defArgs s_made) (defBody s_made) (defScope s_made) .none kV_law_made dc_law_made pm_law_made an_law_made cd_law_made ct_law_made), sl_law_made⟩)
    (c_law_made : PySem.W.codeIn K cd_law_made "_law_made" = true)
    (k_law_made : PySem.W.keepIn K (.ref f_law_made) = true)
    (a_law_answered : PySem.W.nsIn K mainGlobals "_law_answered" = some (some (.ref f_law_answered)))
    (l_law_answered : K.lookup f_law_answered = some ⟨oc_law_answered, od_law_answered, .func (PySem.W.fnOf "_law_answered" "_law_answered" (defArgs s_answered) (defBody s_answered) (defScope s_answered) .none kV_law_answered dc_law_answered pm_law_answered an_law_answered cd_law_answered ct_law_answered), sl_law_answered⟩)
    (c_law_answered : PySem.W.codeIn K cd_law_answered "_law_answered" = true)
    (k_law_answered : PySem.W.keepIn K (.ref f_law_answered) = true)
    (a_law_right : PySem.W.nsIn K mainGlobals "_law_right" = some (some (.ref f_law_right)))
    (l_law_right : K.lookup f_law_right = some ⟨oc_law_right, od_law_right, .func (PySem.W.fnOf "_law_right" "_law_right" (defArgs s_right) (defBody s_right) (defScope s_right) .none kV_law_right dc_law_right pm_law_right an_law_right cd_law_right ct_law_right), sl_law_right⟩)
    (c_law_right : PySem.W.codeIn K cd_law_right "_law_right" = true)
    (k_law_right : PySem.W.keepIn K (.ref f_law_right) = true)
    (a_law : PySem.W.nsIn K mainGlobals "law" = some (some (.ref f_law)))
    (l_law : K.lookup f_law = some ⟨oc_law, od_law, .func (PySem.W.fnOf "law" "law" (defArgs s_law) (defBody s_law) (defScope s_law) .none kV_law dc_law pm_law an_law cd_law ct_law), sl_law⟩)
    (c_law : PySem.W.codeIn K cd_law "law" = true)
    (k_law : PySem.W.keepIn K (.ref f_law) = true)
    (z_isinstance : PySem.W.nsIn K mainGlobals "isinstance" = some none)
    (z_int : PySem.W.nsIn K mainGlobals "int" = some none)
    (z_bool : PySem.W.nsIn K mainGlobals "bool" = some none)
    (z_len : PySem.W.nsIn K mainGlobals "len" = some none)
    (z_enumerate : PySem.W.nsIn K mainGlobals "enumerate" = some none)
    (z_reversed : PySem.W.nsIn K mainGlobals "reversed" = some none)
    (z_sorted : PySem.W.nsIn K mainGlobals "sorted" = some none)
    (z_max : PySem.W.nsIn K mainGlobals "max" = some none)
    (z_min : PySem.W.nsIn K mainGlobals "min" = some none)
    (z_abs : PySem.W.nsIn K mainGlobals "abs" = some none)
    (z_range : PySem.W.nsIn K mainGlobals "range" = some none)
    (z_list : PySem.W.nsIn K mainGlobals "list" = some none)
    (z_repr : PySem.W.nsIn K mainGlobals "repr" = some none)
    (z_all : PySem.W.nsIn K mainGlobals "all" = some none)
    (z_ValueError : PySem.W.nsIn K mainGlobals "ValueError" = some none)
    (aE : PySem.W.nsIn K mainGlobals "CursorError" = some (some (.ref CE)))
    (yE : PySem.W.typeIn K (.ref CE) = some (.type "type"))
    (bE : PySem.W.subIn K (.ref CE) (.type "BaseException") = some true)
    (hE : PySem.W.hasDictIn K CE = true)
    (icE : PySem.W.isClsIn K CE = true)
    (gt : PySem.W.specialIn K (.builtin "object.__class__") "__get__" = some (some (.builtin "getset_descriptor.__get__")))
    (tk : PySem.W.takesIn K (.builtin "object.__class__") = some true)
    (a0 : PySem.W.nsIn K mainGlobals "InvalidText" = some (some (.ref C0)))
    (ty0 : PySem.W.typeIn K (.ref C0) = some (.type "type"))
    (ic0 : PySem.W.isClsIn K C0 = true)
    (x0 : K.lookup C0 = some (excClassObj nm0 q0 C0 N0 bs0 [.ref CE, .type "ValueError", .type "Exception", .type "BaseException", .type "object"] true sn0 sub0 ab0 col0 dd0 p0_0 p0_1 p0_2 p0_3 p0_5 "ValueError.__new__"))
    (sa0 : PySem.W.findIn K (.ref C0) "__setattr__" = some (some (.builtin "object.__setattr__")))
    (ga0 : PySem.W.findIn K (.ref C0) "__getattribute__" = some (some (.builtin "BaseException.__getattribute__")))
    (gg0 : PySem.W.findIn K (.ref C0) "__getattr__" = some none)
    (no0 : PySem.W.findIn K (.ref C0) "value" = some none)
    (cc0 : PySem.W.findIn K (.ref C0) "__class__" = some (some (.builtin "object.__class__")))
    (in0 : PySem.W.findIn K (.ref C0) "__init__" = some (some (.ref f0)))
    (ti0 : PySem.W.typeIn K (.ref f0) = some (.type "function"))
    (l0 : K.lookup f0 = some ⟨oc0, od0, .func (PySem.W.fnOf "__init__" "InvalidText.__init__" (defArgs sI0) (defBody sI0) (defScope sI0) .none kV0 dc0 pm0 an0 cd0 ct0), sl0⟩)
    (c0 : PySem.W.codeIn K cd0 "InvalidText.__init__" = true)
    (k0 : PySem.W.keepIn K (.ref f0) = true)
    (kc0 : PySem.W.keepIn K (.ref C0) = true)
    (be0 : PySem.W.subIn K (.ref C0) (.type "BaseException") = some true)
    (ve0 : PySem.W.subIn K (.ref C0) (.type "ValueError") = some true)
    (hd0 : PySem.W.hasDictIn K C0 = true)
    (mo0 : PySem.W.mroIn K C0 (.type "object") = some true)
    (se0 : PySem.W.subIn K (.ref C0) (.ref CE) = some true)
    (a1 : PySem.W.nsIn K mainGlobals "InvalidCursor" = some (some (.ref C1)))
    (ty1 : PySem.W.typeIn K (.ref C1) = some (.type "type"))
    (ic1 : PySem.W.isClsIn K C1 = true)
    (x1 : K.lookup C1 = some (excClassObj nm1 q1 C1 N1 bs1 [.ref CE, .type "ValueError", .type "Exception", .type "BaseException", .type "object"] true sn1 sub1 ab1 col1 dd1 p1_0 p1_1 p1_2 p1_3 p1_5 "ValueError.__new__"))
    (sa1 : PySem.W.findIn K (.ref C1) "__setattr__" = some (some (.builtin "object.__setattr__")))
    (ga1 : PySem.W.findIn K (.ref C1) "__getattribute__" = some (some (.builtin "BaseException.__getattribute__")))
    (gg1 : PySem.W.findIn K (.ref C1) "__getattr__" = some none)
    (no1 : PySem.W.findIn K (.ref C1) "value" = some none)
    (cc1 : PySem.W.findIn K (.ref C1) "__class__" = some (some (.builtin "object.__class__")))
    (in1 : PySem.W.findIn K (.ref C1) "__init__" = some (some (.ref f1)))
    (ti1 : PySem.W.typeIn K (.ref f1) = some (.type "function"))
    (l1 : K.lookup f1 = some ⟨oc1, od1, .func (PySem.W.fnOf "__init__" "InvalidCursor.__init__" (defArgs sI1) (defBody sI1) (defScope sI1) .none kV1 dc1 pm1 an1 cd1 ct1), sl1⟩)
    (c1 : PySem.W.codeIn K cd1 "InvalidCursor.__init__" = true)
    (k1 : PySem.W.keepIn K (.ref f1) = true)
    (kc1 : PySem.W.keepIn K (.ref C1) = true)
    (be1 : PySem.W.subIn K (.ref C1) (.type "BaseException") = some true)
    (ve1 : PySem.W.subIn K (.ref C1) (.type "ValueError") = some true)
    (hd1 : PySem.W.hasDictIn K C1 = true)
    (mo1 : PySem.W.mroIn K C1 (.type "object") = some true)
    (se1 : PySem.W.subIn K (.ref C1) (.ref CE) = some true)
    (a2 : PySem.W.nsIn K mainGlobals "InvalidCommand" = some (some (.ref C2)))
    (ty2 : PySem.W.typeIn K (.ref C2) = some (.type "type"))
    (ic2 : PySem.W.isClsIn K C2 = true)
    (x2 : K.lookup C2 = some (excClassObj nm2 q2 C2 N2 bs2 [.ref CE, .type "ValueError", .type "Exception", .type "BaseException", .type "object"] true sn2 sub2 ab2 col2 dd2 p2_0 p2_1 p2_2 p2_3 p2_5 "ValueError.__new__"))
    (sa2 : PySem.W.findIn K (.ref C2) "__setattr__" = some (some (.builtin "object.__setattr__")))
    (ga2 : PySem.W.findIn K (.ref C2) "__getattribute__" = some (some (.builtin "BaseException.__getattribute__")))
    (gg2 : PySem.W.findIn K (.ref C2) "__getattr__" = some none)
    (no2 : PySem.W.findIn K (.ref C2) "value" = some none)
    (cc2 : PySem.W.findIn K (.ref C2) "__class__" = some (some (.builtin "object.__class__")))
    (in2 : PySem.W.findIn K (.ref C2) "__init__" = some (some (.ref f2)))
    (ti2 : PySem.W.typeIn K (.ref f2) = some (.type "function"))
    (l2 : K.lookup f2 = some ⟨oc2, od2, .func (PySem.W.fnOf "__init__" "InvalidCommand.__init__" (defArgs sI2) (defBody sI2) (defScope sI2) .none kV2 dc2 pm2 an2 cd2 ct2), sl2⟩)
    (c2 : PySem.W.codeIn K cd2 "InvalidCommand.__init__" = true)
    (k2 : PySem.W.keepIn K (.ref f2) = true)
    (kc2 : PySem.W.keepIn K (.ref C2) = true)
    (be2 : PySem.W.subIn K (.ref C2) (.type "BaseException") = some true)
    (ve2 : PySem.W.subIn K (.ref C2) (.type "ValueError") = some true)
    (hd2 : PySem.W.hasDictIn K C2 = true)
    (mo2 : PySem.W.mroIn K C2 (.type "object") = some true)
    (se2 : PySem.W.subIn K (.ref C2) (.ref CE) = some true)
    (a3 : PySem.W.nsIn K mainGlobals "Impossible" = some (some (.ref C3)))
    (ty3 : PySem.W.typeIn K (.ref C3) = some (.type "type"))
    (ic3 : PySem.W.isClsIn K C3 = true)
    (x3 : K.lookup C3 = some (excClassObj nm3 q3 C3 N3 bs3 [.ref CE, .type "ValueError", .type "Exception", .type "BaseException", .type "object"] true sn3 sub3 ab3 col3 dd3 p3_0 p3_1 p3_2 p3_3 p3_5 "ValueError.__new__"))
    (sa3 : PySem.W.findIn K (.ref C3) "__setattr__" = some (some (.builtin "object.__setattr__")))
    (ga3 : PySem.W.findIn K (.ref C3) "__getattribute__" = some (some (.builtin "BaseException.__getattribute__")))
    (gg3 : PySem.W.findIn K (.ref C3) "__getattr__" = some none)
    (no3 : PySem.W.findIn K (.ref C3) "value" = some none)
    (cc3 : PySem.W.findIn K (.ref C3) "__class__" = some (some (.builtin "object.__class__")))
    (in3 : PySem.W.findIn K (.ref C3) "__init__" = some (some (.ref f3)))
    (ti3 : PySem.W.typeIn K (.ref f3) = some (.type "function"))
    (l3 : K.lookup f3 = some ⟨oc3, od3, .func (PySem.W.fnOf "__init__" "Impossible.__init__" (defArgs sI3) (defBody sI3) (defScope sI3) .none kV3 dc3 pm3 an3 cd3 ct3), sl3⟩)
    (c3 : PySem.W.codeIn K cd3 "Impossible.__init__" = true)
    (k3 : PySem.W.keepIn K (.ref f3) = true)
    (kc3 : PySem.W.keepIn K (.ref C3) = true)
    (be3 : PySem.W.subIn K (.ref C3) (.type "BaseException") = some true)
    (ve3 : PySem.W.subIn K (.ref C3) (.type "ValueError") = some true)
    (hd3 : PySem.W.hasDictIn K C3 = true)
    (mo3 : PySem.W.mroIn K C3 (.type "object") = some true)
    (se3 : PySem.W.subIn K (.ref C3) (.ref CE) = some true)
    (a4 : PySem.W.nsIn K mainGlobals "InvalidNumber" = some (some (.ref C4)))
    (ty4 : PySem.W.typeIn K (.ref C4) = some (.type "type"))
    (ic4 : PySem.W.isClsIn K C4 = true)
    (a5 : PySem.W.nsIn K mainGlobals "NothingToUndo" = some (some (.ref C5)))
    (ty5 : PySem.W.typeIn K (.ref C5) = some (.type "type"))
    (ic5 : PySem.W.isClsIn K C5 = true)
    (a6 : PySem.W.nsIn K mainGlobals "Unreadable" = some (some (.ref C6)))
    (ty6 : PySem.W.typeIn K (.ref C6) = some (.type "type"))
    (ic6 : PySem.W.isClsIn K C6 = true)
    (s0_0 : PySem.W.subIn K (.ref C0) (.ref C0) = some true)
    (s0_1 : PySem.W.subIn K (.ref C0) (.ref C1) = some false)
    (s0_2 : PySem.W.subIn K (.ref C0) (.ref C2) = some false)
    (s0_3 : PySem.W.subIn K (.ref C0) (.ref C3) = some false)
    (s0_4 : PySem.W.subIn K (.ref C0) (.ref C4) = some false)
    (s0_5 : PySem.W.subIn K (.ref C0) (.ref C5) = some false)
    (s0_6 : PySem.W.subIn K (.ref C0) (.ref C6) = some false)
    (s1_0 : PySem.W.subIn K (.ref C1) (.ref C0) = some false)
    (s1_1 : PySem.W.subIn K (.ref C1) (.ref C1) = some true)
    (s1_2 : PySem.W.subIn K (.ref C1) (.ref C2) = some false)
    (s1_3 : PySem.W.subIn K (.ref C1) (.ref C3) = some false)
    (s1_4 : PySem.W.subIn K (.ref C1) (.ref C4) = some false)
    (s1_5 : PySem.W.subIn K (.ref C1) (.ref C5) = some false)
    (s1_6 : PySem.W.subIn K (.ref C1) (.ref C6) = some false)
    (s2_0 : PySem.W.subIn K (.ref C2) (.ref C0) = some false)
    (s2_1 : PySem.W.subIn K (.ref C2) (.ref C1) = some false)
    (s2_2 : PySem.W.subIn K (.ref C2) (.ref C2) = some true)
    (s2_3 : PySem.W.subIn K (.ref C2) (.ref C3) = some false)
    (s2_4 : PySem.W.subIn K (.ref C2) (.ref C4) = some false)
    (s2_5 : PySem.W.subIn K (.ref C2) (.ref C5) = some false)
    (s2_6 : PySem.W.subIn K (.ref C2) (.ref C6) = some false)
    (s3_0 : PySem.W.subIn K (.ref C3) (.ref C0) = some false)
    (s3_1 : PySem.W.subIn K (.ref C3) (.ref C1) = some false)
    (s3_2 : PySem.W.subIn K (.ref C3) (.ref C2) = some false)
    (s3_3 : PySem.W.subIn K (.ref C3) (.ref C3) = some true)
    (s3_4 : PySem.W.subIn K (.ref C3) (.ref C4) = some false)
    (s3_5 : PySem.W.subIn K (.ref C3) (.ref C5) = some false)
    (s3_6 : PySem.W.subIn K (.ref C3) (.ref C6) = some false)
    (aB : PySem.W.nsIn K mainGlobals "Box" = some (some (.ref CB)))
    (pgB : PySem.W.plainGet K CB Str.empty = true)
    (hdB : PySem.W.hasDictIn K CB = true)
    (poB : PySem.W.plainOver K CB = true)
    (saB : PySem.W.findIn K (.ref CB) "__setattr__" = some (some (.builtin "object.__setattr__")))
    (mkB : PySem.W.makesIn K CB = true)
    (kcB : PySem.W.keepIn K (.ref CB) = true)
    (nB_commands : PySem.W.findIn K (.ref CB) "_commands" = some none)
    (nB_questions : PySem.W.findIn K (.ref CB) "_questions" = some none)
    (i_B_init : PySem.W.findIn K (.ref CB) "__init__" = some (some (.ref f_B_init)))
    (g_B_init : PySem.W.isFn K (.ref f_B_init) = true)
    (l_B_init : K.lookup f_B_init = some ⟨oc_B_init, od_B_init, .func (PySem.W.fnOf "__init__" "Box.__init__" (defArgs s_box_init) (defBody s_box_init) (defScope s_box_init) .none kV_B_init dc_B_init pm_B_init an_B_init cd_B_init ct_B_init), sl_B_init⟩)
    (c_B_init : PySem.W.codeIn K cd_B_init "Box.__init__" = true)
    (k_B_init : PySem.W.keepIn K (.ref f_B_init) = true)
    (i_B_answer : PySem.W.findIn K (.ref CB) "answer" = some (some (.ref f_B_answer)))
    (g_B_answer : PySem.W.isFn K (.ref f_B_answer) = true)
    (l_B_answer : K.lookup f_B_answer = some ⟨oc_B_answer, od_B_answer, .func (PySem.W.fnOf "answer" "Box.answer" (defArgs s_box_answer) (defBody s_box_answer) (defScope s_box_answer) .none kV_B_answer dc_B_answer pm_B_answer an_B_answer cd_B_answer ct_B_answer), sl_B_answer⟩)
    (c_B_answer : PySem.W.codeIn K cd_B_answer "Box.answer" = true)
    (k_B_answer : PySem.W.keepIn K (.ref f_B_answer) = true)
    (i_B_questions : PySem.W.findIn K (.ref CB) "questions" = some (some (.ref p_B_questions)))
    (q_B_questions : PySem.W.specialIn K (.ref p_B_questions) "__get__" = some (some (.builtin "property.__get__")))
    (t_B_questions : PySem.W.takesIn K (.ref p_B_questions) = some true)
    (r0_B_questions : PySem.W.recIn K p_B_questions "property" = some (.ref f_B_questions :: r_B_questions))
    (l_B_questions : K.lookup f_B_questions = some ⟨oc_B_questions, od_B_questions, .func (PySem.W.fnOf "questions" "Box.questions" (defArgs s_box_questions) (defBody s_box_questions) (defScope s_box_questions) .none kV_B_questions dc_B_questions pm_B_questions an_B_questions cd_B_questions ct_B_questions), sl_B_questions⟩)
    (c_B_questions : PySem.W.codeIn K cd_B_questions "Box.questions" = true)
    (k_B_questions : PySem.W.keepIn K (.ref f_B_questions) = true)
    (aNA : PySem.W.nsIn K mainGlobals "NAMES_ALONE" = some (some (.ref na)))
    (aNB : PySem.W.nsIn K mainGlobals "NAMES_BEHIND_NUMBER" = some (some (.ref nb)))
    (aMD : PySem.W.nsIn K mainGlobals "MOST_DIGITS" = some (some (.int 40 tm)))
    (lNA : K.lookup na = some ⟨.type "dict", none, .dict #[⟨PyData.keyHash w.params "H", .str "H" t1, .str "home" u1⟩, ⟨PyData.keyHash w.params "E", .str "E" t2, .str "end" u2⟩] nA, #[]⟩)
    (lNB : K.lookup nb = some ⟨.type "dict", none, .dict #[⟨PyData.keyHash w.params "D", .str "D" s1, .str "down" r1⟩, ⟨PyData.keyHash w.params "U", .str "U" s2, .str "up" r2⟩, ⟨PyData.keyHash w.params "R", .str "R" s3, .str "right" r3⟩, ⟨PyData.keyHash w.params "L", .str "L" s4, .str "left" r4⟩] nB, #[]⟩)
    (oNA : (na == sysModules) = false)
    (oNB : (nb == sysModules) = false) :
    ∃ fd : FuncData, (∀ (s : Shared) (v : Value), BindsTo s fd ⟨[v], []⟩ [("script", v)]) ∧ ∀ base : Heap, K.In base → base.Ns mainGlobals mg → FnG l.prog w K mg base 9 fa fd ["script"] (spLaw K) := by
  have e := hfa.symm.trans (PySem.W.mg_of X G a_law)
  cases e
  have F_is_count := fun_mk (st := s_is_count) l_is_count c_is_count k_is_count
  have F_is_command := fun_mk (st := s_is_command) l_is_command c_is_command k_is_command
  have F_check_commands := fun_mk (st := s_check_commands) l_check_commands c_check_commands k_check_commands
  have F_row_change := fun_mk (st := s_row_change) l_row_change c_row_change k_row_change
  have F_check_text := fun_mk (st := s_check_text) l_check_text c_check_text k_check_text
  have F_check_cursor := fun_mk (st := s_check_cursor) l_check_cursor c_check_cursor k_check_cursor
  have F_run := fun_mk (st := s_run) l_run c_run k_run
  have F_shown_column := fun_mk (st := s_shown_column) l_shown_column c_shown_column k_shown_column
  have F_moved := fun_mk (st := s_moved) l_moved c_moved k_moved
  have F_new_goal := fun_mk (st := s_new_goal) l_new_goal c_new_goal k_new_goal
  have F_is_number := fun_mk (st := s_is_number) l_is_number c_is_number k_is_number
  have F_read_command := fun_mk (st := s_read_command) l_read_command c_read_command k_read_command
  have F_read_commands := fun_mk (st := s_read_commands) l_read_commands c_read_commands k_read_commands
  have F_law_pool := fun_mk (st := s_pool) l_law_pool c_law_pool k_law_pool
  have F_law_draw := fun_mk (st := s_draw) l_law_draw c_law_draw k_law_draw
  have F_law_number := fun_mk (st := s_number) l_law_number c_law_number k_law_number
  have F_law_key := fun_mk (st := s_key) l_law_key c_law_key k_law_key
  have F_law_keys := fun_mk (st := s_keys) l_law_keys c_law_keys k_law_keys
  have F_law_lines := fun_mk (st := s_lines) l_law_lines c_law_lines k_law_lines
  have F_law_spot := fun_mk (st := s_spot) l_law_spot c_law_spot k_law_spot
  have F_law_after := fun_mk (st := s_after1) l_law_after c_law_after k_law_after
  have F_law_ran := fun_mk (st := s_ran) l_law_ran c_law_ran k_law_ran
  have F_law_kind := fun_mk (st := s_kind) l_law_kind c_law_kind k_law_kind
  have F_law_bad_keys := fun_mk (st := s_bad_keys) l_law_bad_keys c_law_bad_keys k_law_bad_keys
  have F_law_bad_lines := fun_mk (st := s_bad_lines) l_law_bad_lines c_law_bad_lines k_law_bad_lines
  have F_law_bad_spot := fun_mk (st := s_bad_spot) l_law_bad_spot c_law_bad_spot k_law_bad_spot
  have F_law_made := fun_mk (st := s_made) l_law_made c_law_made k_law_made
  have F_law_answered := fun_mk (st := s_answered) l_law_answered c_law_answered k_law_answered
  have F_law_right := fun_mk (st := s_right) l_law_right c_law_right k_law_right
  have F_law := fun_mk (st := s_law) l_law c_law k_law
  have b_is_count := F_is_count.binds (ps := ["number"]) fun _ _ _ _ _ _ us hl => match us, hl with | [_], _ => rfl
  have b_is_command := F_is_command.binds (ps := ["command"]) fun _ _ _ _ _ _ us hl => match us, hl with | [_], _ => rfl
  have b_check_commands := F_check_commands.binds (ps := ["commands"]) fun _ _ _ _ _ _ us hl => match us, hl with | [_], _ => rfl
  have b_row_change := F_row_change.binds (ps := ["command"]) fun _ _ _ _ _ _ us hl => match us, hl with | [_], _ => rfl
  have b_check_text := F_check_text.binds (ps := ["text"]) fun _ _ _ _ _ _ us hl => match us, hl with | [_], _ => rfl
  have b_check_cursor := F_check_cursor.binds (ps := ["lines", "cursor"]) fun _ _ _ _ _ _ us hl => match us, hl with | [_, _], _ => rfl
  have b_run := F_run.binds (ps := ["text", "cursor", "commands"]) fun _ _ _ _ _ _ us hl => match us, hl with | [_, _, _], _ => rfl
  have b_shown_column := F_shown_column.binds (ps := ["length", "goal"]) fun _ _ _ _ _ _ us hl => match us, hl with | [_, _], _ => rfl
  have b_moved := F_moved.binds (ps := ["text", "cursor", "command"]) fun _ _ _ _ _ _ us hl => match us, hl with | [_, _, _], _ => rfl
  have b_new_goal := F_new_goal.binds (ps := ["length", "goal", "command"]) fun _ _ _ _ _ _ us hl => match us, hl with | [_, _, _], _ => rfl
  have b_is_number := F_is_number.binds (ps := ["digits"]) fun _ _ _ _ _ _ us hl => match us, hl with | [_], _ => rfl
  have b_read_command := F_read_command.binds (ps := ["word"]) fun _ _ _ _ _ _ us hl => match us, hl with | [_], _ => rfl
  have b_read_commands := F_read_commands.binds (ps := ["text"]) fun _ _ _ _ _ _ us hl => match us, hl with | [_], _ => rfl
  have b_law_pool := F_law_pool.binds (ps := ["script", "at"]) fun _ _ _ _ _ _ us hl => match us, hl with | [_, _], _ => rfl
  have b_law_draw := F_law_draw.binds (ps := ["pool", "many"]) fun _ _ _ _ _ _ us hl => match us, hl with | [_, _], _ => rfl
  have b_law_number := F_law_number.binds (ps := ["pool", "far"]) fun _ _ _ _ _ _ us hl => match us, hl with | [_, _], _ => rfl
  have b_law_key := F_law_key.binds (ps := ["pool", "far"]) fun _ _ _ _ _ _ us hl => match us, hl with | [_, _], _ => rfl
  have b_law_keys := F_law_keys.binds (ps := ["pool", "most", "far"]) fun _ _ _ _ _ _ us hl => match us, hl with | [_, _, _], _ => rfl
  have b_law_lines := F_law_lines.binds (ps := ["pool", "most", "far"]) fun _ _ _ _ _ _ us hl => match us, hl with | [_, _, _], _ => rfl
  have b_law_spot := F_law_spot.binds (ps := ["pool", "lengths", "far"]) fun _ _ _ _ _ _ us hl => match us, hl with | [_, _, _], _ => rfl
  have b_law_after := F_law_after.binds (ps := ["lengths", "spot", "key"]) fun _ _ _ _ _ _ us hl => match us, hl with | [_, _, _], _ => rfl
  have b_law_ran := F_law_ran.binds (ps := ["lengths", "spot", "keys"]) fun _ _ _ _ _ _ us hl => match us, hl with | [_, _, _], _ => rfl
  have b_law_kind := F_law_kind.binds (ps := ["caught"]) fun _ _ _ _ _ _ us hl => match us, hl with | [_], _ => rfl
  have b_law_bad_keys := F_law_bad_keys.binds (ps := ["pool", "keys"]) fun _ _ _ _ _ _ us hl => match us, hl with | [_, _], _ => rfl
  have b_law_bad_lines := F_law_bad_lines.binds (ps := ["pool", "lengths"]) fun _ _ _ _ _ _ us hl => match us, hl with | [_, _], _ => rfl
  have b_law_bad_spot := F_law_bad_spot.binds (ps := ["pool", "lengths"]) fun _ _ _ _ _ _ us hl => match us, hl with | [_, _], _ => rfl
  have b_law_made := F_law_made.binds (ps := ["keys"]) fun _ _ _ _ _ _ us hl => match us, hl with | [_], _ => rfl
  have b_law_answered := F_law_answered.binds (ps := ["box_here", "lengths", "spot", "by_name"]) fun _ _ _ _ _ _ us hl => match us, hl with | [_, _, _, _], _ => rfl
  have b_law_right := F_law_right.binds (ps := ["pool"]) fun _ _ _ _ _ _ us hl => match us, hl with | [_], _ => rfl
  refine ⟨PySem.W.fnOf "law" "law" (defArgs s_law) (defBody s_law) (defScope s_law) .none kV_law dc_law pm_law an_law cd_law ct_law, fun s v => .of_eq rfl, fun base hb gb => ?_⟩
  have TB : TxtB K mg wo wn := {
    g_WITHOUT_NUMBER := PySem.W.mg_of X G aWO
    g_WITH_NUMBER := PySem.W.mg_of X G aWN
    tWO := fun H => .inr ⟨_, _, _, lWO, rfl, rfl, (by show 2 ≤ sizeLine; decide), .cons ⟨_, rfl⟩ (.cons ⟨_, rfl⟩ .nil)⟩
    tWN := fun H => .inr ⟨_, _, _, lWN, rfl, rfl, (by show 4 ≤ sizeLine; decide), .cons ⟨_, rfl⟩ (.cons ⟨_, rfl⟩ (.cons ⟨_, rfl⟩ (.cons ⟨_, rfl⟩ .nil)))⟩
    isinstance := PySem.W.mg_none_of X G z_isinstance
    int := PySem.W.mg_none_of X G z_int
    bool := PySem.W.mg_none_of X G z_bool
    len := PySem.W.mg_none_of X G z_len
    enumerate := PySem.W.mg_none_of X G z_enumerate
    reversed := PySem.W.mg_none_of X G z_reversed
    sorted := PySem.W.mg_none_of X G z_sorted
    max := PySem.W.mg_none_of X G z_max
    min := PySem.W.mg_none_of X G z_min }
  have TPl : TxtPl mg := { len := PySem.W.mg_none_of X G z_len, max := PySem.W.mg_none_of X G z_max, abs := PySem.W.mg_none_of X G z_abs }
  have TKy : TxtK mg := { range := PySem.W.mg_none_of X G z_range, len := PySem.W.mg_none_of X G z_len }
  have TO : TxtO mg := { int := PySem.W.mg_none_of X G z_int, len := PySem.W.mg_none_of X G z_len, min := PySem.W.mg_none_of X G z_min, max := PySem.W.mg_none_of X G z_max }
  have TN : TxtN mg := { enumerate := PySem.W.mg_none_of X G z_enumerate }
  have TBL : TxtBL mg := { range := PySem.W.mg_none_of X G z_range, len := PySem.W.mg_none_of X G z_len, list := PySem.W.mg_none_of X G z_list, enumerate := PySem.W.mg_none_of X G z_enumerate }
  have TBS : TxtBS mg := { len := PySem.W.mg_none_of X G z_len, max := PySem.W.mg_none_of X G z_max }
  have TBK : TxtBK mg := { range := PySem.W.mg_none_of X G z_range, len := PySem.W.mg_none_of X G z_len, list := PySem.W.mg_none_of X G z_list, enumerate := PySem.W.mg_none_of X G z_enumerate }
  have TRt : TxtRt mg := { repr := PySem.W.mg_none_of X G z_repr, list := PySem.W.mg_none_of X G z_list, len := PySem.W.mg_none_of X G z_len, int := PySem.W.mg_none_of X G z_int, range := PySem.W.mg_none_of X G z_range }
  have TLw : TxtL mg := { max := PySem.W.mg_none_of X G z_max, min := PySem.W.mg_none_of X G z_min, len := PySem.W.mg_none_of X G z_len, range := PySem.W.mg_none_of X G z_range }
  have C_is_count : Cal l.prog w K mg base 1 "is_count" spCount := ⟨_, _, _, ok_is_count F_is_count TB, PySem.W.mg_of X G a_is_count, k_is_count, b_is_count⟩
  have C_is_command : Cal l.prog w K mg base 2 "is_command" (spIsCmd K) := ⟨_, _, _, ok_is_command F_is_command TB C_is_count, PySem.W.mg_of X G a_is_command, k_is_command, b_is_command⟩
  have C_check_commands : Cal l.prog w K mg base 3 "check_commands" (spCheck K) := ⟨_, _, _, ok_check_commands F_check_commands TB C_is_command, PySem.W.mg_of X G a_check_commands, k_check_commands, b_check_commands⟩
  have C_row_change : Cal l.prog w K mg base 1 "row_change" (spRow K) := ⟨_, _, _, ok_row_change F_row_change, PySem.W.mg_of X G a_row_change, k_row_change, b_row_change⟩
  have C_check_text : Cal l.prog w K mg base 1 "check_text" (spText K) := ⟨_, _, _, ok_check_text F_check_text TB, PySem.W.mg_of X G a_check_text, k_check_text, b_check_text⟩
  have C_check_cursor : Cal l.prog w K mg base 1 "check_cursor" (spCursor K) := ⟨_, _, _, ok_check_cursor F_check_cursor, PySem.W.mg_of X G a_check_cursor, k_check_cursor, b_check_cursor⟩
  have C_shown_column : Cal l.prog w K mg base 1 "shown_column" spShown := ⟨_, _, _, ok_shown_column F_shown_column TB, PySem.W.mg_of X G a_shown_column, k_shown_column, b_shown_column⟩
  have C_new_goal : Cal l.prog w K mg base 2 "new_goal" (spGoal K) := ⟨_, _, _, ok_new_goal F_new_goal TB C_shown_column, PySem.W.mg_of X G a_new_goal, k_new_goal, b_new_goal⟩
  have C_moved : Cal l.prog w K mg base 3 "moved" (spMoved K) := ⟨_, _, _, ok_moved F_moved TB C_row_change C_new_goal, PySem.W.mg_of X G a_moved, k_moved, b_moved⟩
  have T0 : OexC K C0 := { cls := ⟨nm0, q0, N0, bs0, _, sn0, sub0, ab0, col0, dd0, p0_0, p0_1, p0_2, p0_3, p0_5, x0, by show PySem.HandSPX.refsVE [.type "ValueError", .type "Exception", .type "BaseException", .type "object"] = true; decide +kernel⟩, sa := sa0, exC := be0, tyC := ty0, kC := kc0 }
  have V0 : ErrI K C0 := { cl := ic0, ga := ga0, gg := gg0, be := be0, hd := hd0, cc := cc0, gt := gt, tk := tk, ob := mo0, no := no0 }
  have e_InvalidText : ErrC l.prog w K mg base "InvalidText" C0 := errc_I0 (fun_mk (st := sI0) l0 c0 k0) T0 (PySem.W.mg_of X G a0) no0 in0 ti0
  have T1 : OexC K C1 := { cls := ⟨nm1, q1, N1, bs1, _, sn1, sub1, ab1, col1, dd1, p1_0, p1_1, p1_2, p1_3, p1_5, x1, by show PySem.HandSPX.refsVE [.type "ValueError", .type "Exception", .type "BaseException", .type "object"] = true; decide +kernel⟩, sa := sa1, exC := be1, tyC := ty1, kC := kc1 }
  have V1 : ErrI K C1 := { cl := ic1, ga := ga1, gg := gg1, be := be1, hd := hd1, cc := cc1, gt := gt, tk := tk, ob := mo1, no := no1 }
  have e_InvalidCursor : ErrC l.prog w K mg base "InvalidCursor" C1 := errc_I1 (fun_mk (st := sI1) l1 c1 k1) T1 (PySem.W.mg_of X G a1) no1 in1 ti1
  have T2 : OexC K C2 := { cls := ⟨nm2, q2, N2, bs2, _, sn2, sub2, ab2, col2, dd2, p2_0, p2_1, p2_2, p2_3, p2_5, x2, by show PySem.HandSPX.refsVE [.type "ValueError", .type "Exception", .type "BaseException", .type "object"] = true; decide +kernel⟩, sa := sa2, exC := be2, tyC := ty2, kC := kc2 }
  have V2 : ErrI K C2 := { cl := ic2, ga := ga2, gg := gg2, be := be2, hd := hd2, cc := cc2, gt := gt, tk := tk, ob := mo2, no := no2 }
  have e_InvalidCommand : ErrC l.prog w K mg base "InvalidCommand" C2 := errc_I2 (fun_mk (st := sI2) l2 c2 k2) T2 (PySem.W.mg_of X G a2) no2 in2 ti2
  have T3 : OexC K C3 := { cls := ⟨nm3, q3, N3, bs3, _, sn3, sub3, ab3, col3, dd3, p3_0, p3_1, p3_2, p3_3, p3_5, x3, by show PySem.HandSPX.refsVE [.type "ValueError", .type "Exception", .type "BaseException", .type "object"] = true; decide +kernel⟩, sa := sa3, exC := be3, tyC := ty3, kC := kc3 }
  have V3 : ErrI K C3 := { cl := ic3, ga := ga3, gg := gg3, be := be3, hd := hd3, cc := cc3, gt := gt, tk := tk, ob := mo3, no := no3 }
  have e_Impossible : ErrC l.prog w K mg base "Impossible" C3 := errc_I3 (fun_mk (st := sI3) l3 c3 k3) T3 (PySem.W.mg_of X G a3) no3 in3 ti3
  let cs : Nat → Addr := fun i => match i with
    | 0 => C0
    | 1 => C1
    | 2 => C2
    | 3 => C3
    | 4 => C4
    | 5 => C5
    | _ => C6
  have TE : TxtE K mg cs CE (fun i => i = 0 ∨ i = 1 ∨ i = 2 ∨ i = 3) := {
    g0 := PySem.W.mg_of X G a0
    g1 := PySem.W.mg_of X G a1
    g2 := PySem.W.mg_of X G a2
    g3 := PySem.W.mg_of X G a3
    g4 := PySem.W.mg_of X G a4
    g5 := PySem.W.mg_of X G a5
    g6 := PySem.W.mg_of X G a6
    gE := PySem.W.mg_of X G aE
    lt := fun i (hi : i = 0 ∨ i = 1 ∨ i = 2 ∨ i = 3) => by omega
    kit := fun i j (hi : i = 0 ∨ i = 1 ∨ i = 2 ∨ i = 3) hj => by
      rcases hi with rfl | rfl | rfl | rfl
      · match j, hj with
        | 0, _ => exact kit_own ic0 ty0 s0_0 s0_0
        | 1, _ => exact kit_own ic1 ty1 s0_1 s0_0
        | 2, _ => exact kit_own ic2 ty2 s0_2 s0_0
        | 3, _ => exact kit_own ic3 ty3 s0_3 s0_0
        | 4, _ => exact kit_own ic4 ty4 s0_4 s0_0
        | 5, _ => exact kit_own ic5 ty5 s0_5 s0_0
        | 6, _ => exact kit_own ic6 ty6 s0_6 s0_0
        | n + 7, z => exact absurd z (by omega)
      · match j, hj with
        | 0, _ => exact kit_own ic0 ty0 s1_0 s1_1
        | 1, _ => exact kit_own ic1 ty1 s1_1 s1_1
        | 2, _ => exact kit_own ic2 ty2 s1_2 s1_1
        | 3, _ => exact kit_own ic3 ty3 s1_3 s1_1
        | 4, _ => exact kit_own ic4 ty4 s1_4 s1_1
        | 5, _ => exact kit_own ic5 ty5 s1_5 s1_1
        | 6, _ => exact kit_own ic6 ty6 s1_6 s1_1
        | n + 7, z => exact absurd z (by omega)
      · match j, hj with
        | 0, _ => exact kit_own ic0 ty0 s2_0 s2_2
        | 1, _ => exact kit_own ic1 ty1 s2_1 s2_2
        | 2, _ => exact kit_own ic2 ty2 s2_2 s2_2
        | 3, _ => exact kit_own ic3 ty3 s2_3 s2_2
        | 4, _ => exact kit_own ic4 ty4 s2_4 s2_2
        | 5, _ => exact kit_own ic5 ty5 s2_5 s2_2
        | 6, _ => exact kit_own ic6 ty6 s2_6 s2_2
        | n + 7, z => exact absurd z (by omega)
      · match j, hj with
        | 0, _ => exact kit_own ic0 ty0 s3_0 s3_3
        | 1, _ => exact kit_own ic1 ty1 s3_1 s3_3
        | 2, _ => exact kit_own ic2 ty2 s3_2 s3_3
        | 3, _ => exact kit_own ic3 ty3 s3_3 s3_3
        | 4, _ => exact kit_own ic4 ty4 s3_4 s3_3
        | 5, _ => exact kit_own ic5 ty5 s3_5 s3_3
        | 6, _ => exact kit_own ic6 ty6 s3_6 s3_3
        | n + 7, z => exact absurd z (by omega)
    kve := fun i (hi : i = 0 ∨ i = 1 ∨ i = 2 ∨ i = 3) => by
      rcases hi with rfl | rfl | rfl | rfl
      · exact kit_bl (by decide +kernel) ve0
      · exact kit_bl (by decide +kernel) ve1
      · exact kit_bl (by decide +kernel) ve2
      · exact kit_bl (by decide +kernel) ve3
    kce := fun i (hi : i = 0 ∨ i = 1 ∨ i = 2 ∨ i = 3) => by
      rcases hi with rfl | rfl | rfl | rfl
      · exact kit_own icE yE se0 s0_0
      · exact kit_own icE yE se1 s1_1
      · exact kit_own icE yE se2 s2_2
      · exact kit_own icE yE se3 s3_3
    ex := fun i (hi : i = 0 ∨ i = 1 ∨ i = 2 ∨ i = 3) => by
      rcases hi with rfl | rfl | rfl | rfl
      · exact PySem.W.exm_ref bE hE yE se0
      · exact PySem.W.exm_ref bE hE yE se1
      · exact PySem.W.exm_ref bE hE yE se2
      · exact PySem.W.exm_ref bE hE yE se3
    ei := fun i (hi : i = 0 ∨ i = 1 ∨ i = 2 ∨ i = 3) => by
      rcases hi with rfl | rfl | rfl | rfl
      · exact V0
      · exact V1
      · exact V2
      · exact V3
    isinstance := PySem.W.mg_none_of X G z_isinstance
    ValueError := PySem.W.mg_none_of X G z_ValueError }
  have clB : Cls K CB := ⟨pgB, hdB, poB, saB⟩
  have F_B_init := fun_mk (st := s_box_init) l_B_init c_B_init k_B_init
  have b_B_init := F_B_init.binds (ps := ["self", "commands"]) fun _ _ _ _ _ _ us hl => match us, hl with | [_, _], _ => rfl
  have F_B_answer := fun_mk (st := s_box_answer) l_B_answer c_B_answer k_B_answer
  have b_B_answer := F_B_answer.binds (ps := ["self", "text", "cursor"]) fun _ _ _ _ _ _ us hl => match us, hl with | [_, _, _], _ => rfl
  have F_B_questions := fun_mk (st := s_box_questions) l_B_questions c_B_questions k_B_questions
  have b_B_questions := F_B_questions.binds (ps := ["self"]) fun _ _ _ _ _ _ us hl => match us, hl with | [_], _ => rfl
  have mksB : Mk K CB f_B_init := ⟨mkB, i_B_init, g_B_init, kcB⟩
  have me_B_answer : Meth K CB "answer" f_B_answer := ⟨i_B_answer, g_B_answer, k_B_answer⟩
  have pr_B_questions : PropOf K CB "questions" p_B_questions f_B_questions := ⟨i_B_questions, q_B_questions, t_B_questions, ⟨r_B_questions, r0_B_questions⟩⟩
  have Y_is_count : Cal l.prog w K mg base 1 "is_count" spCountX := ⟨_, _, _, ok_is_countX F_is_count TB, PySem.W.mg_of X G a_is_count, k_is_count, b_is_count⟩
  have Y_is_command : Cal l.prog w K mg base 2 "is_command" (spIsRaw K) := ⟨_, _, _, ok_is_commandX F_is_command TB Y_is_count, PySem.W.mg_of X G a_is_command, k_is_command, b_is_command⟩
  have X_check_commands : CalX l.prog w K mg base 3 "check_commands" (spCheckX K (cs 2)) := ⟨_, _, _, ok_check_commandsX F_check_commands TB Y_is_command e_InvalidCommand, PySem.W.mg_of X G a_check_commands, k_check_commands, b_check_commands⟩
  have X_check_text : CalX l.prog w K mg base 3 "check_text" (spTextX K (cs 0)) := ⟨_, _, _, ok_check_textX F_check_text TB e_InvalidText, PySem.W.mg_of X G a_check_text, k_check_text, b_check_text⟩
  have X_check_cursor : CalX l.prog w K mg base 3 "check_cursor" (spCursorX K (cs 1)) := ⟨_, _, _, ok_check_cursorX F_check_cursor e_InvalidCursor, PySem.W.mg_of X G a_check_cursor, k_check_cursor, b_check_cursor⟩
  have X_run : CalX l.prog w K mg base 4 "run" (zRunU K cs) := by
    rw [zRunU_eq]
    exact ⟨_, _, _, fnok_or2 (ok_runB F_run TB X_check_text X_check_cursor X_check_commands C_moved e_Impossible) (ok_runI F_run TB C_check_text C_check_cursor C_check_commands C_moved e_Impossible), PySem.W.mg_of X G a_run, k_run, b_run⟩
  have TBx : TxtBx K mg CB := { list := PySem.W.mg_none_of X G z_list, cl := clB, n1 := nB_commands, n2 := nB_questions }
  have exI : ∀ i, i < 4 → PySem.W.exmOne K (.ref (cs i)) (.ref (cs 3)) = some (decide (i = 3)) := fun i hi => by
    match i, hi with
    | 0, _ => exact PySem.W.exm_ref be3 hd3 ty3 s0_3
    | 1, _ => exact PySem.W.exm_ref be3 hd3 ty3 s1_3
    | 2, _ => exact PySem.W.exm_ref be3 hd3 ty3 s2_3
    | 3, _ => exact PySem.W.exm_ref be3 hd3 ty3 s3_3
    | n + 4, z => exact absurd z (by omega)
  have m_Box : Mak l.prog w K mg base (L2.CX l.prog w) 4 "Box" CB (zBoxInit K CB (cs 2)) := by
    rw [zBoxInit_eq]
    exact ⟨PySem.W.mg_of X G aB, f_B_init, _, _, mksB, ok_box_init F_B_init TBx X_check_commands, b_B_init⟩
  have k_Box : MakK l.prog w K mg base (L2.CX l.prog w) 4 "Box" CB ["commands"] (zBoxInit K CB (cs 2)) := by
    rw [zBoxInit_eq]
    exact ⟨PySem.W.mg_of X G aB, f_B_init, _, _, mksB, ok_box_init F_B_init TBx X_check_commands, bindsN F_B_init fun _ _ _ _ _ _ us ws h1 h2 => match us, ws, h1, h2 with | [_], [_], _, _ => rfl⟩
  have m_answer : Mth l.prog w K mg base (L2.CX l.prog w) 5 CB "answer" (zAnswer K CB cs) := by
    rw [zAnswer_eq]
    exact ⟨clB, f_B_answer, _, _, me_B_answer, ok_box_answer F_B_answer TBx X_run e_Impossible exI, b_B_answer⟩
  have k_answer : MthK l.prog w K mg base (L2.CX l.prog w) 5 CB "answer" ["cursor", "text"] (zAnswer K CB cs) := by
    rw [zAnswer_eq]
    exact ⟨clB, f_B_answer, _, _, me_B_answer, ok_box_answer F_B_answer TBx X_run e_Impossible exI, bindsN F_B_answer fun _ _ _ _ _ _ us ws h1 h2 => match us, ws, h1, h2 with | [_], [_, _], _, _ => rfl⟩
  have m_questions : Prp l.prog w K mg base 1 CB "questions" (spQuestions CB) := ⟨clB, p_B_questions, f_B_questions, _, _, pr_B_questions, ok_box_questions F_B_questions TBx, b_B_questions⟩
  have TR := rd_mk (PySem.W.mg_of X G aNA) (PySem.W.mg_of X G aNB) (PySem.W.mg_of X G aMD) lNA lNB oNA oNB (PySem.W.mg_none_of X G z_int) (PySem.W.mg_none_of X G z_len) (PySem.W.mg_none_of X G z_all)
  have C_is_number : Cal l.prog w K mg base 1 "is_number" (spIsNum K) := ⟨_, _, _, ok_is_number F_is_number TR, PySem.W.mg_of X G a_is_number, k_is_number, b_is_number⟩
  have C_read_command : Cal l.prog w K mg base 2 "read_command" (spRead1 K) := ⟨_, _, _, ok_read_command F_read_command TR C_is_number, PySem.W.mg_of X G a_read_command, k_read_command, b_read_command⟩
  have C_read_commands : Cal l.prog w K mg base 3 "read_commands" (spRead K) := ⟨_, _, _, ok_read_commands F_read_commands C_read_command, PySem.W.mg_of X G a_read_commands, k_read_commands, b_read_commands⟩
  have C_law_pool : Cal l.prog w K mg base 1 "_law_pool" (spPool K) := ⟨_, _, _, ok_pool F_law_pool TPl, PySem.W.mg_of X G a_law_pool, k_law_pool, b_law_pool⟩
  have C_law_draw : Cal l.prog w K mg base 1 "_law_draw" spDraw := ⟨_, _, _, ok_draw F_law_draw, PySem.W.mg_of X G a_law_draw, k_law_draw, b_law_draw⟩
  have C_law_number : Cal l.prog w K mg base 2 "_law_number" (spNumber K) := ⟨_, _, _, ok_number F_law_number C_law_draw, PySem.W.mg_of X G a_law_number, k_law_number, b_law_number⟩
  have C_law_key : Cal l.prog w K mg base 3 "_law_key" (spKey K) := ⟨_, _, _, ok_key F_law_key C_law_draw C_law_number, PySem.W.mg_of X G a_law_key, k_law_key, b_law_key⟩
  have C_law_keys : Cal l.prog w K mg base 4 "_law_keys" (spKeys K) := ⟨_, _, _, ok_keys F_law_keys TKy C_law_draw C_law_key, PySem.W.mg_of X G a_law_keys, k_law_keys, b_law_keys⟩
  have C_law_lines : Cal l.prog w K mg base 2 "_law_lines" (spLines K) := ⟨_, _, _, ok_lines F_law_lines TKy C_law_draw, PySem.W.mg_of X G a_law_lines, k_law_lines, b_law_lines⟩
  have C_law_spot : Cal l.prog w K mg base 2 "_law_spot" (spSpot K) := ⟨_, _, _, ok_spot F_law_spot TKy C_law_draw, PySem.W.mg_of X G a_law_spot, k_law_spot, b_law_spot⟩
  have C_law_after : Cal l.prog w K mg base 1 "_law_after" (spAfter1 K) := ⟨_, _, _, ok_after1 F_law_after TO, PySem.W.mg_of X G a_law_after, k_law_after, b_law_after⟩
  have C_law_ran : Cal l.prog w K mg base 2 "_law_ran" (spRan K) := ⟨_, _, _, ok_ran F_law_ran TN C_law_after, PySem.W.mg_of X G a_law_ran, k_law_ran, b_law_ran⟩
  have C_law_kind : Cal l.prog w K mg base 1 "_law_kind" (spKindK K cs (fun i => i = 0 ∨ i = 1 ∨ i = 2 ∨ i = 3)) := ⟨_, _, _, ok_kindK F_law_kind TE, PySem.W.mg_of X G a_law_kind, k_law_kind, b_law_kind⟩
  have C_law_bad_lines : Cal l.prog w K mg base 2 "_law_bad_lines" (spBadL K) := ⟨_, _, _, ok_badL F_law_bad_lines TBL C_law_draw, PySem.W.mg_of X G a_law_bad_lines, k_law_bad_lines, b_law_bad_lines⟩
  have C_law_bad_spot : Cal l.prog w K mg base 2 "_law_bad_spot" (spBadS K) := ⟨_, _, _, ok_badS F_law_bad_spot TBS C_law_draw, PySem.W.mg_of X G a_law_bad_spot, k_law_bad_spot, b_law_bad_spot⟩
  have C_law_bad_keys : Cal l.prog w K mg base 2 "_law_bad_keys" (spBadK K) := ⟨_, _, _, ok_badK F_law_bad_keys TBK C_law_draw, PySem.W.mg_of X G a_law_bad_keys, k_law_bad_keys, b_law_bad_keys⟩
  have C_law_made : Cal l.prog w K mg base 6 "_law_made" (spMade K) := ⟨_, _, _, ok_made F_law_made TE C_law_kind m_Box, PySem.W.mg_of X G a_law_made, k_law_made, b_law_made⟩
  have C_law_answered : Cal l.prog w K mg base 6 "_law_answered" (spAnswered K CB) := ⟨_, _, _, ok_answered F_law_answered TE C_law_kind m_answer k_answer, PySem.W.mg_of X G a_law_answered, k_law_answered, b_law_answered⟩
  have G_right : CalG l.prog w K mg base 8 "_law_right" (zRight19 K) := by
    rw [zRight19_eq]
    exact ⟨_, _, _, ok_right19 F_law_right TRt C_law_draw C_law_lines C_law_spot C_law_keys C_law_bad_lines C_law_bad_spot C_law_bad_keys C_law_ran C_law_made C_law_answered m_Box k_Box m_questions, PySem.W.mg_of X G a_law_right, k_law_right, b_law_right⟩
  exact ok_law F_law TLw C_law_pool G_right C_read_commands C_law_ran m_Box m_answer
theorem walk {l : PySem.W.OpenLaw} {q : Program} {loose : List Str} {XP : (Str → Option Value) → Heap → Prop} {YP : World → Heap → Prop} {d : DefRec} {K : Params → PySem.W.Frag} (hn : l.most = some 63) (hdf : d.params.defaults = [])
    (hY : ∀ (w : World) (h : Heap), YP w h → (K w.params).In h)
    (F : ∀ (w : World) (mg : Str → Option Value) (fa : Addr) (h : Heap), (K w.params).In h → h.Ns mainGlobals mg → mg d.name = some (.ref fa) →
      ∃ fd : FuncData, (∀ (s : Shared) (u : Value), BindsTo s fd ⟨[u], []⟩ [("script", u)]) ∧ ∀ base : Heap, (K w.params).In base → base.Ns mainGlobals mg → FnG l.prog w (K w.params) mg base 9 fa fd ["script"] (spLaw (K w.params))) :
    PySem.W.WalkO q loose XP YP l.row.toRowW d [] (fun f vs => PySem.call f vs) :=
  walk_G (n := 63) (k := 9) (x := "script") (sp := fun w => spLaw (K w.params)) hn (by decide) hdf ⟨rfl, by decide, by decide⟩ hY F fun _ _ a ns hl _ hS => ⟨a, ns, rfl, hS, hl, fun _ => rfl⟩
end Gc

open PySem PySem.W PyProof.Rows in
set_option maxRecDepth 100000 in
set_option maxHeartbeats 0 in
theorem PySem.Challenge.cw_goalcolumn_k19_boxes_answer_holds : PySem.Challenge.rw_goalcolumn_k19_boxes_answer.Holds := by
  w_on; o_law; k_head; (case hw => w_witness2)
  k_fill
  refine Gc.walk (l := PySem.Challenge.rw_goalcolumn_k19_boxes_answer) rfl rfl (fun w h Y => PySem.W.kIn_of Y) ?F
  case F =>
    intro w mg fa h KX G hmg
    refine' Gc.all_mk KX G hmg ?aWN ?aWO ?lWN ?lWO ?a_is_count ?l_is_count ?c_is_count ?k_is_count ?a_is_command ?l_is_command ?c_is_command ?k_is_command ?a_check_commands ?l_check_commands ?c_check_commands ?k_check_commands ?a_row_change ?l_row_change ?c_row_change ?k_row_change ?a_check_text ?l_check_text ?c_check_text ?k_check_text ?a_check_cursor ?l_check_cursor ?c_check_cursor ?k_check_cursor ?a_run ?l_run ?c_run ?k_run ?a_shown_column ?l_shown_column ?c_shown_column ?k_shown_column ?a_moved ?l_moved ?c_moved ?k_moved ?a_new_goal ?l_new_goal ?c_new_goal ?k_new_goal ?a_is_number ?l_is_number ?c_is_number ?k_is_number ?a_read_command ?l_read_command ?c_read_command ?k_read_command ?a_read_commands ?l_read_commands ?c_read_commands ?k_read_commands ?a_law_pool ?l_law_pool ?c_law_pool ?k_law_pool ?a_law_draw ?l_law_draw ?c_law_draw ?k_law_draw ?a_law_number ?l_law_number ?c_law_number ?k_law_number ?a_law_key ?l_law_key ?c_law_key ?k_law_key ?a_law_keys ?l_law_keys ?c_law_keys ?k_law_keys ?a_law_lines ?l_law_lines ?c_law_lines ?k_law_lines ?a_law_spot ?l_law_spot ?c_law_spot ?k_law_spot ?a_law_after ?l_law_after ?c_law_after ?k_law_after ?a_law_ran ?l_law_ran ?c_law_ran ?k_law_ran ?a_law_kind ?l_law_kind ?c_law_kind ?k_law_kind ?a_law_bad_keys ?l_law_bad_keys ?c_law_bad_keys ?k_law_bad_keys ?a_law_bad_lines ?l_law_bad_lines ?c_law_bad_lines ?k_law_bad_lines ?a_law_bad_spot ?l_law_bad_spot ?c_law_bad_spot ?k_law_bad_spot ?a_law_made ?l_law_made ?c_law_made ?k_law_made ?a_law_answered ?l_law_answered ?c_law_answered ?k_law_answered ?a_law_right ?l_law_right ?c_law_right ?k_law_right ?a_law ?l_law ?c_law ?k_law ?z_isinstance ?z_int ?z_bool ?z_len ?z_enumerate ?z_reversed ?z_sorted ?z_max ?z_min ?z_abs ?z_range ?z_list ?z_repr ?z_all ?z_ValueError ?aE ?yE ?bE ?hE ?icE ?gt ?tk ?a0 ?ty0 ?ic0 ?x0 ?sa0 ?ga0 ?gg0 ?no0 ?cc0 ?in0 ?ti0 ?l0 ?c0 ?k0 ?kc0 ?be0 ?ve0 ?hd0 ?mo0 ?se0 ?a1 ?ty1 ?ic1 ?x1 ?sa1 ?ga1 ?gg1 ?no1 ?cc1 ?in1 ?ti1 ?l1 ?c1 ?k1 ?kc1 ?be1 ?ve1 ?hd1 ?mo1 ?se1 ?a2 ?ty2 ?ic2 ?x2 ?sa2 ?ga2 ?gg2 ?no2 ?cc2 ?in2 ?ti2 ?l2 ?c2 ?k2 ?kc2 ?be2 ?ve2 ?hd2 ?mo2 ?se2 ?a3 ?ty3 ?ic3 ?x3 ?sa3 ?ga3 ?gg3 ?no3 ?cc3 ?in3 ?ti3 ?l3 ?c3 ?k3 ?kc3 ?be3 ?ve3 ?hd3 ?mo3 ?se3 ?a4 ?ty4 ?ic4 ?a5 ?ty5 ?ic5 ?a6 ?ty6 ?ic6 ?s0_0 ?s0_1 ?s0_2 ?s0_3 ?s0_4 ?s0_5 ?s0_6 ?s1_0 ?s1_1 ?s1_2 ?s1_3 ?s1_4 ?s1_5 ?s1_6 ?s2_0 ?s2_1 ?s2_2 ?s2_3 ?s2_4 ?s2_5 ?s2_6 ?s3_0 ?s3_1 ?s3_2 ?s3_3 ?s3_4 ?s3_5 ?s3_6 ?aB ?pgB ?hdB ?poB ?saB ?mkB ?kcB ?nB_commands ?nB_questions ?i_B_init ?g_B_init ?l_B_init ?c_B_init ?k_B_init ?i_B_answer ?g_B_answer ?l_B_answer ?c_B_answer ?k_B_answer ?i_B_questions ?q_B_questions ?t_B_questions ?r0_B_questions ?l_B_questions ?c_B_questions ?k_B_questions ?aNA ?aNB ?aMD ?lNA ?lNB ?oNA ?oNB
    (case aWN => k_is)
    (case aWO => k_is)
    (case lWN => k_is)
    (case lWO => k_is)
    (case a_is_count => k_is)
    (case l_is_count => k_is)
    (case c_is_count => k_is)
    (case k_is_count => k_is)
    (case a_is_command => k_is)
    (case l_is_command => k_is)
    (case c_is_command => k_is)
    (case k_is_command => k_is)
    (case a_check_commands => k_is)
    (case l_check_commands => k_is)
    (case c_check_commands => k_is)
    (case k_check_commands => k_is)
    (case a_row_change => k_is)
    (case l_row_change => k_is)
    (case c_row_change => k_is)
    (case k_row_change => k_is)
    (case a_check_text => k_is)
    (case l_check_text => k_is)
    (case c_check_text => k_is)
    (case k_check_text => k_is)
    (case a_check_cursor => k_is)
    (case l_check_cursor => k_is)
    (case c_check_cursor => k_is)
    (case k_check_cursor => k_is)
    (case a_run => k_is)
    (case l_run => k_is)
    (case c_run => k_is)
    (case k_run => k_is)
    (case a_shown_column => k_is)
    (case l_shown_column => k_is)
    (case c_shown_column => k_is)
    (case k_shown_column => k_is)
    (case a_moved => k_is)
    (case l_moved => k_is)
    (case c_moved => k_is)
    (case k_moved => k_is)
    (case a_new_goal => k_is)
    (case l_new_goal => k_is)
    (case c_new_goal => k_is)
    (case k_new_goal => k_is)
    (case a_is_number => k_is)
    (case l_is_number => k_is)
    (case c_is_number => k_is)
    (case k_is_number => k_is)
    (case a_read_command => k_is)
    (case l_read_command => k_is)
    (case c_read_command => k_is)
    (case k_read_command => k_is)
    (case a_read_commands => k_is)
    (case l_read_commands => k_is)
    (case c_read_commands => k_is)
    (case k_read_commands => k_is)
    (case a_law_pool => k_is)
    (case l_law_pool => k_is)
    (case c_law_pool => k_is)
    (case k_law_pool => k_is)
    (case a_law_draw => k_is)
    (case l_law_draw => k_is)
    (case c_law_draw => k_is)
    (case k_law_draw => k_is)
    (case a_law_number => k_is)
    (case l_law_number => k_is)
    (case c_law_number => k_is)
    (case k_law_number => k_is)
    (case a_law_key => k_is)
    (case l_law_key => k_is)
    (case c_law_key => k_is)
    (case k_law_key => k_is)
    (case a_law_keys => k_is)
    (case l_law_keys => k_is)
    (case c_law_keys => k_is)
    (case k_law_keys => k_is)
    (case a_law_lines => k_is)
    (case l_law_lines => k_is)
    (case c_law_lines => k_is)
    (case k_law_lines => k_is)
    (case a_law_spot => k_is)
    (case l_law_spot => k_is)
    (case c_law_spot => k_is)
    (case k_law_spot => k_is)
    (case a_law_after => k_is)
    (case l_law_after => k_is)
    (case c_law_after => k_is)
    (case k_law_after => k_is)
    (case a_law_ran => k_is)
    (case l_law_ran => k_is)
    (case c_law_ran => k_is)
    (case k_law_ran => k_is)
    (case a_law_kind => k_is)
    (case l_law_kind => k_is)
    (case c_law_kind => k_is)
    (case k_law_kind => k_is)
    (case a_law_bad_keys => k_is)
    (case l_law_bad_keys => k_is)
    (case c_law_bad_keys => k_is)
    (case k_law_bad_keys => k_is)
    (case a_law_bad_lines => k_is)
    (case l_law_bad_lines => k_is)
    (case c_law_bad_lines => k_is)
    (case k_law_bad_lines => k_is)
    (case a_law_bad_spot => k_is)
    (case l_law_bad_spot => k_is)
    (case c_law_bad_spot => k_is)
    (case k_law_bad_spot => k_is)
    (case a_law_made => k_is)
    (case l_law_made => k_is)
    (case c_law_made => k_is)
    (case k_law_made => k_is)
    (case a_law_answered => k_is)
    (case l_law_answered => k_is)
    (case c_law_answered => k_is)
    (case k_law_answered => k_is)
    (case a_law_right => k_is)
    (case l_law_right => k_is)
    (case c_law_right => k_is)
    (case k_law_right => k_is)
    (case a_law => k_is)
    (case l_law => k_is)
    (case c_law => k_is)
    (case k_law => k_is)
    (case z_isinstance => k_is)
    (case z_int => k_is)
    (case z_bool => k_is)
    (case z_len => k_is)
    (case z_enumerate => k_is)
    (case z_reversed => k_is)
    (case z_sorted => k_is)
    (case z_max => k_is)
    (case z_min => k_is)
    (case z_abs => k_is)
    (case z_range => k_is)
    (case z_list => k_is)
    (case z_repr => k_is)
    (case z_all => k_is)
    (case z_ValueError => k_is)
    (case aE => k_is)
    (case yE => k_is)
    (case bE => k_is)
    (case hE => k_is)
    (case icE => k_is)
    (case gt => k_is)
    (case tk => k_is)
    (case a0 => k_is)
    (case ty0 => k_is)
    (case ic0 => k_is)
    (case x0 => k_is)
    (case sa0 => k_is)
    (case ga0 => k_is)
    (case gg0 => k_is)
    (case no0 => k_is)
    (case cc0 => k_is)
    (case in0 => k_is)
    (case ti0 => k_is)
    (case l0 => k_is)
    (case c0 => k_is)
    (case k0 => k_is)
    (case kc0 => k_is)
    (case be0 => k_is)
    (case ve0 => k_is)
    (case hd0 => k_is)
    (case mo0 => k_is)
    (case se0 => k_is)
    (case a1 => k_is)
    (case ty1 => k_is)
    (case ic1 => k_is)
    (case x1 => k_is)
    (case sa1 => k_is)
    (case ga1 => k_is)
    (case gg1 => k_is)
    (case no1 => k_is)
    (case cc1 => k_is)
    (case in1 => k_is)
    (case ti1 => k_is)
    (case l1 => k_is)
    (case c1 => k_is)
    (case k1 => k_is)
    (case kc1 => k_is)
    (case be1 => k_is)
    (case ve1 => k_is)
    (case hd1 => k_is)
    (case mo1 => k_is)
    (case se1 => k_is)
    (case a2 => k_is)
    (case ty2 => k_is)
    (case ic2 => k_is)
    (case x2 => k_is)
    (case sa2 => k_is)
    (case ga2 => k_is)
    (case gg2 => k_is)
    (case no2 => k_is)
    (case cc2 => k_is)
    (case in2 => k_is)
    (case ti2 => k_is)
    (case l2 => k_is)
    (case c2 => k_is)
    (case k2 => k_is)
    (case kc2 => k_is)
    (case be2 => k_is)
    (case ve2 => k_is)
    (case hd2 => k_is)
    (case mo2 => k_is)
    (case se2 => k_is)
    (case a3 => k_is)
    (case ty3 => k_is)
    (case ic3 => k_is)
    (case x3 => k_is)
    (case sa3 => k_is)
    (case ga3 => k_is)
    (case gg3 => k_is)
    (case no3 => k_is)
    (case cc3 => k_is)
    (case in3 => k_is)
    (case ti3 => k_is)
    (case l3 => k_is)
    (case c3 => k_is)
    (case k3 => k_is)
    (case kc3 => k_is)
    (case be3 => k_is)
    (case ve3 => k_is)
    (case hd3 => k_is)
    (case mo3 => k_is)
    (case se3 => k_is)
    (case a4 => k_is)
    (case ty4 => k_is)
    (case ic4 => k_is)
    (case a5 => k_is)
    (case ty5 => k_is)
    (case ic5 => k_is)
    (case a6 => k_is)
    (case ty6 => k_is)
    (case ic6 => k_is)
    (case s0_0 => k_is)
    (case s0_1 => k_is)
    (case s0_2 => k_is)
    (case s0_3 => k_is)
    (case s0_4 => k_is)
    (case s0_5 => k_is)
    (case s0_6 => k_is)
    (case s1_0 => k_is)
    (case s1_1 => k_is)
    (case s1_2 => k_is)
    (case s1_3 => k_is)
    (case s1_4 => k_is)
    (case s1_5 => k_is)
    (case s1_6 => k_is)
    (case s2_0 => k_is)
    (case s2_1 => k_is)
    (case s2_2 => k_is)
    (case s2_3 => k_is)
    (case s2_4 => k_is)
    (case s2_5 => k_is)
    (case s2_6 => k_is)
    (case s3_0 => k_is)
    (case s3_1 => k_is)
    (case s3_2 => k_is)
    (case s3_3 => k_is)
    (case s3_4 => k_is)
    (case s3_5 => k_is)
    (case s3_6 => k_is)
    (case aB => k_is)
    (case pgB => k_is)
    (case hdB => k_is)
    (case poB => k_is)
    (case saB => k_is)
    (case mkB => k_is)
    (case kcB => k_is)
    (case nB_commands => k_is)
    (case nB_questions => k_is)
    (case i_B_init => k_is)
    (case g_B_init => k_is)
    (case l_B_init => k_is)
    (case c_B_init => k_is)
    (case k_B_init => k_is)
    (case i_B_answer => k_is)
    (case g_B_answer => k_is)
    (case l_B_answer => k_is)
    (case c_B_answer => k_is)
    (case k_B_answer => k_is)
    (case i_B_questions => k_is)
    (case q_B_questions => k_is)
    (case t_B_questions => k_is)
    (case r0_B_questions => k_is)
    (case l_B_questions => k_is)
    (case c_B_questions => k_is)
    (case k_B_questions => k_is)
    (case aNA => k_is)
    (case aNB => k_is)
    (case aMD => k_is)
    (case lNA => k_is)
    (case lNB => k_is)
    (case oNA => rfl)
    (case oNB => rfl)
