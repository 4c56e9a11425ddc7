import PyProof.Rows.All
import Wide.All
import OpenK.AllK
import Wide.FinOn
import KE.SortData
import HandS.Base
import HandS.Call
import HandS.List
import HandS.Dict
import HandS.Words
import HandS.DictTup
import PyProof.RulesMatch
import HandS.Comp
import HandS.Iter
import HandS.Flow
import HandS.Rev
import HandS.Walk
import HandS.WordsList
import HandS.WordsDict
import HandS.IsInst
import HandS.Wide
import HandS.Codes
import HandS.Style
import HandS.Exc
import HandS.ExcOwn
import HandS.ExcInit
import HandS.ExcField
import HandS.WordsExc
import HandS.HotCalls
import KE.KIsAll
import KE.KExcIs
import HandS.Property
import HandS.Defaults
import HandS.GenBody
import HandS.GenYield
import HandS.GenCall
import HandS.GenList
import HandS.ForMost
import PyProof.EnumIter
import HandS.Star
import HandS.ClsMeth
import HandS.OwnEq
import HandS.SortKw
import PyProof.MinMaxWalk
import HandS.FltList
import HandS.Text
import HandS.StrMore
import HandS.More
import HandS.TryOnly
import PySem.Challenge.RW_goalcolumn_k11_lists_that_differ
set_option Elab.async false
set_option linter.all false
set_option maxRecDepth 100000
set_option maxHeartbeats 4000000
/-! boxes of lists of commands: what the program reckons, over plain lists; and the laws of it -/
namespace Gc
inductive Cmd where
  | down (n : Int) | up (n : Int) | right (n : Int) | left (n : Int) | home | stop
  deriving DecidableEq
def Cmd.dv : Cmd → Int
  | .down n => n
  | .up n => -n
  | _ => 0
def Cmd.ok : Cmd → Prop
  | .down n => 1 ≤ n
  | .up n => 1 ≤ n
  | .right n => 1 ≤ n
  | .left n => 1 ≤ n
  | _ => True
def last (cs : List Cmd) : Int := (cs.map Cmd.dv).sum
abbrev Ps := List (Int × Int)
def leK (p q : Int × Int) : Bool := decide (p.1 < q.1 ∨ (p.1 = q.1 ∧ p.2 ≤ q.2))
def look (b : Ps) (k : Int) : Option Int := (b.find? fun q => q.1 = k).map (·.2)
def put (b : Ps) (k v : Int) : Ps := if b.any (fun q => q.1 = k) then b.map (fun q => if q.1 = k then (q.1, v) else q) else b ++ [(k, v)]
def mx (i j : Int) : Int := if j > i then j else i
def req (b : Ps) (o v : Int) : Ps := put b o (mx v ((look b o).getD v))
def go : List Cmd → Int → Int → Ps → Option (Option Int × Ps)
  | [], _, need, b => some (some need, b)
  | .home :: _, _, _, _ => none
  | .stop :: _, _, _, b => some (none, b)
  | .right n :: r, off, need, b => if need > n then go r off (need - n) (req b off need) else some (none, req b off need)
  | .left n :: r, off, need, b => go r off (need + n) (req b off (need + n))
  | .down n :: r, off, need, b => go r (off - n) need b
  | .up n :: r, off, need, b => go r (off + n) need b
def srt (x : Option Int × Ps) : Option Int × Ps := (x.1, x.2.mergeSort leK)
def boxM (cs : List Cmd) (goal : Int) : Option (Option Int × Ps) := (go cs.reverse (last cs) goal []).map srt

/-! ### association lists as functions -/
def val (b : Ps) (k : Int) : Int := (look b k).getD 0
def keys (b : Ps) : List Int := b.map (·.1)
structure Good (b : Ps) : Prop where
  nd : (keys b).Nodup
  pos : ∀ q ∈ b, 1 ≤ q.2
theorem good_nil : Good [] := ⟨List.nodup_nil, fun _ h => nomatch h⟩
theorem look_nil (k : Int) : look [] k = none := rfl
theorem look_cons (q : Int × Int) (b : Ps) (k : Int) : look (q :: b) k = if q.1 = k then some q.2 else look b k := by
  unfold look
  rw [List.find?_cons]
  by_cases h : q.1 = k
  · simp [h]
  · simp [h]
theorem look_none {b : Ps} {k : Int} : look b k = none ↔ k ∉ keys b := by
  induction b with
  | nil => simp [look, keys]
  | cons q b ih =>
    rw [look_cons]
    by_cases h : q.1 = k
    · rw [if_pos h]
      simp [keys, h]
    · rw [if_neg h, ih]
      simp only [keys, List.map_cons, List.mem_cons, not_or]
      exact ⟨fun x => ⟨fun e => h e.symm, x⟩, fun x => x.2⟩
theorem look_mem {b : Ps} {k v : Int} (h : look b k = some v) : (k, v) ∈ b := by
  induction b with
  | nil => cases h
  | cons q b ih =>
    rw [look_cons] at h
    by_cases e : q.1 = k
    · rw [if_pos e] at h
      have e2 := Option.some.inj h
      rw [← e, ← e2]
      exact List.mem_cons_self
    · rw [if_neg e] at h
      exact List.mem_cons_of_mem _ (ih h)
theorem mem_look {b : Ps} {q : Int × Int} (n : (keys b).Nodup) (h : q ∈ b) : look b q.1 = some q.2 := by
  induction b with
  | nil => cases h
  | cons p b ih =>
    have n' : p.1 ∉ keys b ∧ (keys b).Nodup := List.nodup_cons.mp n
    rw [look_cons]
    rcases List.mem_cons.mp h with e | h
    · rw [e, if_pos rfl]
    · have ne : p.1 ≠ q.1 := fun e => n'.1 (by rw [e]; exact List.mem_map.mpr ⟨q, h, rfl⟩)
      rw [if_neg ne]
      exact ih n'.2 h
theorem any_key (b : Ps) (k : Int) : b.any (fun q => q.1 = k) = true ↔ k ∈ keys b := by
  simp [keys, List.any_eq_true]
theorem look_put (b : Ps) (k v j : Int) : look (put b k v) j = if k = j then some v else look b j := by
  unfold put
  by_cases h : b.any (fun q => q.1 = k) = true
  · rw [if_pos h]
    induction b with
    | nil => simp at h
    | cons q b ih =>
      rw [List.map_cons, look_cons, look_cons]
      by_cases e : q.1 = k
      · rw [if_pos e]
        by_cases e2 : k = j
        · simp [e, e2]
        · simp only [e, e2, if_false]
          by_cases hb : b.any (fun q => q.1 = k) = true
          · rw [ih hb, if_neg e2]
          · have nm : ∀ p ∈ b, ¬ p.1 = k := fun p hp z => hb (List.any_eq_true.mpr ⟨p, hp, by simpa using z⟩)
            have em : b.map (fun q => if q.1 = k then (q.1, v) else q) = b := by
              conv => rhs; rw [← List.map_id b]
              exact List.map_congr_left fun p hp => by simp [nm p hp]
            rw [em]
      · rw [if_neg e]
        have hb : b.any (fun q => q.1 = k) = true := by
          rw [List.any_cons] at h
          simpa [e] using h
        by_cases e2 : q.1 = j
        · have e3 : ¬ k = j := fun z => e (e2.trans z.symm)
          simp [e2, e3]
        · simp only [e2, if_false]
          exact ih hb
  · rw [if_neg h]
    have nk : k ∉ keys b := fun z => h ((any_key b k).mpr z)
    clear h
    induction b with
    | nil =>
      show look [(k, v)] j = _
      rw [look_cons]
    | cons q b ih =>
      have n1 : ¬ q.1 = k := fun z => nk (by simp [keys, z])
      have n2 : k ∉ keys b := fun z => nk (List.mem_cons_of_mem _ z)
      rw [List.cons_append, look_cons, look_cons]
      by_cases e2 : q.1 = j
      · have e3 : ¬ k = j := fun z => n1 (e2.trans z.symm)
        simp [e2, e3]
      · simp only [e2, if_false]
        exact ih n2
theorem keys_put (b : Ps) (k v : Int) : keys (put b k v) = if k ∈ keys b then keys b else keys b ++ [k] := by
  unfold put
  by_cases h : b.any (fun q => q.1 = k) = true
  · rw [if_pos h, if_pos ((any_key b k).mp h)]
    unfold keys
    rw [List.map_map]
    refine List.map_congr_left fun p _ => ?_
    show (if p.1 = k then (p.1, v) else p).1 = p.1
    split <;> rfl
  · rw [if_neg h, if_neg fun z => h ((any_key b k).mpr z)]
    simp [keys]
theorem good_put {b : Ps} {k v : Int} (g : Good b) (hv : 1 ≤ v) : Good (put b k v) := by
  have nd : (keys (put b k v)).Nodup := by
    rw [keys_put]
    split
    · exact g.nd
    · rename_i h
      rw [List.nodup_append]
      exact ⟨g.nd, by simp, fun a ha c hc => by
        rw [List.mem_singleton.mp hc]
        intro z
        exact h (z ▸ ha)⟩
  refine ⟨nd, fun q hq => ?_⟩
  have e := mem_look nd hq
  rw [look_put] at e
  split at e
  · rw [← Option.some.inj e]
    exact hv
  · exact g.pos (q.1, q.2) (look_mem e)
theorem val_nonneg {b : Ps} (g : Good b) (k : Int) : 0 ≤ val b k := by
  unfold val
  cases e : look b k with
  | none => exact Int.le_refl 0
  | some v =>
    have := g.pos _ (look_mem e)
    show 0 ≤ v
    have h : 1 ≤ v := this
    omega
theorem val_put (b : Ps) (k v j : Int) : val (put b k v) j = if k = j then v else val b j := by
  unfold val
  rw [look_put]
  split <;> rfl
/-- require, on functions -/
def reqF (f : Int → Int) (o v : Int) : Int → Int := fun k => if o = k then max v (f k) else f k
theorem val_req {b : Ps} (g : Good b) {o v : Int} (hv : 1 ≤ v) : val (req b o v) = reqF (val b) o v := by
  funext k
  unfold req reqF
  rw [val_put]
  by_cases h : o = k
  · subst h
    rw [if_pos rfl, if_pos rfl]
    unfold val mx
    cases e : look b o with
    | none =>
      show (if v > v then v else v) = max v 0
      rw [if_neg (by omega)]
      omega
    | some x =>
      show (if x > v then x else v) = max v x
      split <;> omega
  · rw [if_neg h, if_neg h]
theorem good_req {b : Ps} (g : Good b) {o v : Int} (hv : 1 ≤ v) : Good (req b o v) := by
  refine good_put g ?_
  unfold mx
  split <;> omega

/-! ### the walk, on functions -/
def goF : List Cmd → Int → Int → (Int → Int) → Option (Option Int × (Int → Int))
  | [], _, need, f => some (some need, f)
  | .home :: _, _, _, _ => none
  | .stop :: _, _, _, f => some (none, f)
  | .right n :: r, off, need, f => if need > n then goF r off (need - n) (reqF f off need) else some (none, reqF f off need)
  | .left n :: r, off, need, f => goF r off (need + n) (reqF f off (need + n))
  | .down n :: r, off, need, f => goF r (off - n) need f
  | .up n :: r, off, need, f => goF r (off + n) need f
def AllOk (cs : List Cmd) : Prop := ∀ c ∈ cs, c.ok
theorem go_goF : ∀ {r : List Cmd} {off need : Int} {b : Ps}, AllOk r → Good b → 1 ≤ need →
    (go r off need b = none ∧ goF r off need (val b) = none) ∨ ∃ st b', go r off need b = some (st, b') ∧ Good b' ∧ goF r off need (val b) = some (st, val b') ∧ ∀ n, st = some n → 1 ≤ n
  | [], off, need, b, _, g, hn => .inr ⟨_, _, rfl, g, rfl, fun n e => by rw [← Option.some.inj e]; exact hn⟩
  | .home :: r, off, need, b, _, g, hn => .inl ⟨rfl, rfl⟩
  | .stop :: r, off, need, b, _, g, hn => .inr ⟨_, _, rfl, g, rfl, fun n e => nomatch e⟩
  | .right n :: r, off, need, b, hk, g, hn => by
    have hk' : AllOk r := fun c hc => hk c (List.mem_cons_of_mem _ hc)
    simp only [go, goF]
    by_cases h : need > n
    · rw [if_pos h, if_pos h, ← val_req g hn]
      exact go_goF hk' (good_req g hn) (by omega)
    · rw [if_neg h, if_neg h, ← val_req g hn]
      exact .inr ⟨_, _, rfl, good_req g hn, rfl, fun n e => nomatch e⟩
  | .left n :: r, off, need, b, hk, g, hn => by
    have hk' : AllOk r := fun c hc => hk c (List.mem_cons_of_mem _ hc)
    have h1 : 1 ≤ n := hk _ List.mem_cons_self
    simp only [go, goF]
    rw [← val_req g (by omega)]
    exact go_goF hk' (good_req g (by omega)) (by omega)
  | .down n :: r, off, need, b, hk, g, hn => go_goF (r := r) (fun c hc => hk c (List.mem_cons_of_mem _ hc)) g hn
  | .up n :: r, off, need, b, hk, g, hn => go_goF (r := r) (fun c hc => hk c (List.mem_cons_of_mem _ hc)) g hn

/-! ### ascending lists are told by their functions -/
def Asc (b : Ps) : Prop := b.Pairwise fun p q => p.1 < q.1
theorem asc_nd {b : Ps} (h : Asc b) : (keys b).Nodup := by
  unfold keys
  rw [List.nodup_iff_pairwise_ne, List.pairwise_map]
  exact h.imp fun h => Int.ne_of_lt h
theorem leK_trans (a b c : Int × Int) (h1 : leK a b = true) (h2 : leK b c = true) : leK a c = true := by
  unfold leK at *
  have a1 := of_decide_eq_true h1
  have a2 := of_decide_eq_true h2
  exact decide_eq_true (by omega)
theorem leK_total (a b : Int × Int) : (leK a b || leK b a) = true := by
  unfold leK
  by_cases h : a.1 < b.1 ∨ (a.1 = b.1 ∧ a.2 ≤ b.2)
  · rw [decide_eq_true h]
    rfl
  · rw [decide_eq_true (show b.1 < a.1 ∨ (b.1 = a.1 ∧ b.2 ≤ a.2) by omega), Bool.or_true]
theorem asc_sort {b : Ps} (g : Good b) : Asc (b.mergeSort leK) := by
  have p := List.pairwise_mergeSort (le := leK) leK_trans leK_total b
  have pm := List.mergeSort_perm b leK
  have nd : (keys (b.mergeSort leK)).Nodup := (pm.map (fun q : Int × Int => q.1)).nodup_iff.mpr g.nd
  unfold keys at nd
  rw [List.nodup_iff_pairwise_ne, List.pairwise_map] at nd
  refine (p.and nd).imp fun h => ?_
  have a := of_decide_eq_true h.1
  have c := h.2
  omega
theorem good_perm {b c : Ps} (g : Good b) (p : c.Perm b) : Good c := ⟨(p.map (fun q : Int × Int => q.1)).nodup_iff.mpr g.nd, fun q hq => g.pos q (p.mem_iff.mp hq)⟩
theorem look_perm {b c : Ps} (g : Good b) (p : c.Perm b) (k : Int) : look c k = look b k := by
  have g' := good_perm g p
  cases e : look b k with
  | none =>
    rw [look_none] at e ⊢
    exact fun z => e ((p.map (fun q : Int × Int => q.1)).mem_iff.mp z)
  | some v => exact mem_look g'.nd (p.mem_iff.mpr (look_mem e))
theorem val_perm {b c : Ps} (g : Good b) (p : c.Perm b) : val c = val b := by
  funext k
  unfold val
  rw [look_perm g p]
theorem look_val {b c : Ps} (gb : Good b) (gc : Good c) (h : val b = val c) (k : Int) : look b k = look c k := by
  have e := congrFun h k
  unfold val at e
  cases e1 : look b k with
  | none =>
    cases e2 : look c k with
    | none => rfl
    | some v =>
      rw [e1, e2] at e
      have : 1 ≤ v := gc.pos _ (look_mem e2)
      have e' : (0 : Int) = v := e
      omega
  | some u =>
    cases e2 : look c k with
    | none =>
      rw [e1, e2] at e
      have : 1 ≤ u := gb.pos _ (look_mem e1)
      have e' : u = (0 : Int) := e
      omega
    | some v =>
      rw [e1, e2] at e
      have e' : u = v := e
      rw [e']
theorem asc_ext : ∀ {b c : Ps}, Asc b → Asc c → (∀ k, look b k = look c k) → b = c
  | [], [], _, _, _ => rfl
  | [], q :: c, _, _, h => by
    have e := h q.1
    rw [look_cons, if_pos rfl] at e
    cases e
  | q :: b, [], _, _, h => by
    have e := h q.1
    rw [look_cons, if_pos rfl] at e
    cases e
  | p :: b, q :: c, hb, hc, h => by
    have hb' := List.pairwise_cons.mp hb
    have hc' := List.pairwise_cons.mp hc
    have e1 := h p.1
    rw [look_cons, if_pos rfl, look_cons] at e1
    have e2 := h q.1
    rw [look_cons, look_cons, if_pos rfl] at e2
    have key : p.1 = q.1 := by
      by_cases x : q.1 = p.1
      · exact x.symm
      · rw [if_neg x] at e1
        rw [if_neg fun z => x z.symm] at e2
        have m1 := hc'.1 _ (look_mem e1.symm)
        have m2 := hb'.1 _ (look_mem e2)
        have m1' : q.1 < p.1 := m1
        have m2' : p.1 < q.1 := m2
        omega
    rw [if_pos key.symm] at e1
    have hpq : p = q := Prod.ext key (Option.some.inj e1)
    subst hpq
    rw [asc_ext hb'.2 hc'.2 fun k => ?_]
    have e := h k
    rw [look_cons, look_cons] at e
    by_cases x : p.1 = k
    · have n1 : look b k = none := look_none.mpr fun z => by
        obtain ⟨r, hr, er⟩ := List.mem_map.mp z
        have := hb'.1 r hr
        omega
      have n2 : look c k = none := look_none.mpr fun z => by
        obtain ⟨r, hr, er⟩ := List.mem_map.mp z
        have := hc'.1 r hr
        omega
      rw [n1, n2]
    · rw [if_neg x, if_neg x] at e
      exact e
theorem sort_ext {b c : Ps} (gb : Good b) (gc : Good c) (h : val b = val c) : b.mergeSort leK = c.mergeSort leK :=
  asc_ext (asc_sort gb) (asc_sort gc) fun k => by
    rw [look_perm gb (List.mergeSort_perm b leK), look_perm gc (List.mergeSort_perm c leK)]
    exact look_val gb gc h k
end Gc

/-! laws of boxes: joined lists, greater goals, multiplied moves -/
namespace Gc
abbrev BF := Option (Option Int × (Int → Int))
def boxF (cs : List Cmd) (goal : Int) : BF := goF cs.reverse (last cs) goal fun _ => 0
theorem val_nil : val [] = fun _ => 0 := rfl
theorem allOk_rev {cs : List Cmd} (h : AllOk cs) : AllOk cs.reverse := fun c hc => h c (List.mem_reverse.mp hc)
theorem box_spec {cs : List Cmd} {goal : Int} (h : AllOk cs) (hg : 1 ≤ goal) :
    (boxM cs goal = none ∧ boxF cs goal = none) ∨ ∃ st b, boxM cs goal = some (st, b.mergeSort leK) ∧ Good b ∧ boxF cs goal = some (st, val b) ∧ ∀ n, st = some n → 1 ≤ n := by
  unfold boxM boxF
  rw [← val_nil]
  rcases go_goF (off := last cs) (allOk_rev h) good_nil hg with ⟨e1, e2⟩ | ⟨st, b, e1, g, e2, p⟩
  · exact .inl ⟨by rw [e1]; rfl, e2⟩
  · exact .inr ⟨st, b, by rw [e1]; rfl, g, e2, p⟩
def thenF (x : BF) (k : Int → (Int → Int) → BF) : BF := match x with
  | none => none
  | some (none, g) => some (none, g)
  | some (some n, g) => k n g
theorem goF_app : ∀ (a b : List Cmd) (off need : Int) (f : Int → Int), goF (a ++ b) off need f = thenF (goF a off need f) fun n g => goF b (off - (a.map Cmd.dv).sum) n g
  | [], b, off, need, f => by
    show goF b off need f = goF b (off - 0) need f
    rw [Int.sub_zero]
  | .home :: a, b, off, need, f => rfl
  | .stop :: a, b, off, need, f => rfl
  | .right n :: a, b, off, need, f => by
    have e : off - (((Cmd.right n :: a).map Cmd.dv).sum) = off - (a.map Cmd.dv).sum := by
      rw [List.map_cons, List.sum_cons]
      show off - (0 + _) = _
      omega
    rw [e, List.cons_append]
    simp only [goF]
    by_cases h : need > n
    · rw [if_pos h, if_pos h]
      exact goF_app a b off (need - n) _
    · rw [if_neg h, if_neg h]
      rfl
  | .left n :: a, b, off, need, f => by
    have e : off - (((Cmd.left n :: a).map Cmd.dv).sum) = off - (a.map Cmd.dv).sum := by
      rw [List.map_cons, List.sum_cons]
      show off - (0 + _) = _
      omega
    rw [e, List.cons_append]
    exact goF_app a b off (need + n) _
  | .down n :: a, b, off, need, f => by
    have e : off - (((Cmd.down n :: a).map Cmd.dv).sum) = off - n - (a.map Cmd.dv).sum := by
      rw [List.map_cons, List.sum_cons]
      show off - (n + _) = _
      omega
    rw [e, List.cons_append]
    exact goF_app a b (off - n) need f
  | .up n :: a, b, off, need, f => by
    have e : off - (((Cmd.up n :: a).map Cmd.dv).sum) = off + n - (a.map Cmd.dv).sum := by
      rw [List.map_cons, List.sum_cons]
      show off - (-n + _) = _
      omega
    rw [e, List.cons_append]
    exact goF_app a b (off + n) need f
theorem goF_shift (d : Int) : ∀ (r : List Cmd) (off need : Int) (f : Int → Int), goF r (off + d) need (fun k => f (k - d)) = (goF r off need f).map fun x => (x.1, fun k => x.2 (k - d))
  | [], off, need, f => rfl
  | .home :: r, off, need, f => rfl
  | .stop :: r, off, need, f => rfl
  | .right n :: r, off, need, f => by
    have e : reqF (fun k => f (k - d)) (off + d) need = fun k => reqF f off need (k - d) := by
      funext k
      unfold reqF
      by_cases h : off + d = k
      · rw [if_pos h, if_pos (by omega)]
      · rw [if_neg h, if_neg (by omega)]
    simp only [goF]
    rw [e]
    by_cases h : need > n
    · rw [if_pos h, if_pos h]
      exact goF_shift d r off (need - n) _
    · rw [if_neg h, if_neg h]
      rfl
  | .left n :: r, off, need, f => by
    have e : reqF (fun k => f (k - d)) (off + d) (need + n) = fun k => reqF f off (need + n) (k - d) := by
      funext k
      unfold reqF
      by_cases h : off + d = k
      · rw [if_pos h, if_pos (by omega)]
      · rw [if_neg h, if_neg (by omega)]
    simp only [goF]
    rw [e]
    exact goF_shift d r off (need + n) _
  | .down n :: r, off, need, f => by
    simp only [goF]
    rw [show off + d - n = off - n + d by omega]
    exact goF_shift d r (off - n) need f
  | .up n :: r, off, need, f => by
    simp only [goF]
    rw [show off + d + n = off + n + d by omega]
    exact goF_shift d r (off + n) need f
theorem goF_max (h : Int → Int) : ∀ (r : List Cmd) (off need : Int) (f : Int → Int), goF r off need (fun k => max (f k) (h k)) = (goF r off need f).map fun x => (x.1, fun k => max (x.2 k) (h k))
  | [], off, need, f => rfl
  | .home :: r, off, need, f => rfl
  | .stop :: r, off, need, f => rfl
  | .right n :: r, off, need, f => by
    have e : reqF (fun k => max (f k) (h k)) off need = fun k => max (reqF f off need k) (h k) := by
      funext k
      unfold reqF
      show (if _ then _ else _) = _
      by_cases q : off = k
      · simp only [q, if_true]
        rw [Int.max_assoc]
      · simp only [q, if_false]
    simp only [goF]
    rw [e]
    by_cases c : need > n
    · rw [if_pos c, if_pos c]
      exact goF_max h r off (need - n) _
    · rw [if_neg c, if_neg c]
      rfl
  | .left n :: r, off, need, f => by
    have e : reqF (fun k => max (f k) (h k)) off (need + n) = fun k => max (reqF f off (need + n) k) (h k) := by
      funext k
      unfold reqF
      show (if _ then _ else _) = _
      by_cases q : off = k
      · simp only [q, if_true]
        rw [Int.max_assoc]
      · simp only [q, if_false]
    simp only [goF]
    rw [e]
    exact goF_max h r off (need + n) _
  | .down n :: r, off, need, f => goF_max h r (off - n) need f
  | .up n :: r, off, need, f => goF_max h r (off + n) need f
theorem last_app (a b : List Cmd) : last (a ++ b) = last a + last b := by
  unfold last
  rw [List.map_append, List.sum_append]
theorem sum_rev (l : List Int) : l.reverse.sum = l.sum := by
  induction l with
  | nil => rfl
  | cons a l ih =>
    rw [List.reverse_cons, List.sum_append, ih, List.sum_cons]
    simp
    omega
theorem boxF_app (early late : List Cmd) (aim : Int) (pos : ∀ st g, boxF late aim = some (st, g) → ∀ k, 0 ≤ g k) :
    boxF (early ++ late) aim = match boxF late aim with
      | none => none
      | some (none, g) => some (none, fun k => g (k - last early))
      | some (some n, g) => (boxF early n).map fun x => (x.1, fun k => max (x.2 k) (g (k - last early))) := by
  unfold boxF
  rw [List.reverse_append, goF_app, last_app, Int.add_comm (last early)]
  have sh : goF late.reverse (last late + last early) aim (fun _ => 0) = (goF late.reverse (last late) aim fun _ => 0).map fun x => (x.1, fun k => x.2 (k - last early)) :=
    goF_shift (last early) late.reverse (last late) aim fun _ => 0
  rw [sh]
  have pos' := pos
  unfold boxF at pos'
  cases e : goF late.reverse (last late) aim (fun _ => 0) with
  | none => rfl
  | some x =>
    obtain ⟨st, g⟩ := x
    cases st with
    | none => rfl
    | some n =>
      show goF early.reverse (last late + last early - (late.reverse.map Cmd.dv).sum) n (fun k => g (k - last early)) = _
      have es : (late.reverse.map Cmd.dv).sum = last late := by
        rw [List.map_reverse, sum_rev]
        rfl
      rw [es, show last late + last early - last late = last early by omega]
      have em : (fun k => g (k - last early)) = fun k => max ((fun _ => 0 : Int → Int) k) (g (k - last early)) := by
        funext k
        have := pos' _ _ e (k - last early)
        show g (k - last early) = max 0 (g (k - last early))
        omega
      rw [em, goF_max]

/-! ### the law's own joining -/
def shiftK (d : Int) (b : Ps) : Ps := b.map fun q => (q.1 + d, q.2)
def addAll (b : Ps) (l : Ps) : Ps := l.foldl (fun b q => put b q.1 (mx q.2 ((look b q.1).getD 0))) b
def joinedM (early late : List Cmd) (gone aim : Int) : Option (Option Int × Ps) := match boxM late aim with
  | none => none
  | some (none, l) => some (none, (shiftK gone l).mergeSort leK)
  | some (some n, l) => match boxM early n with
    | none => none
    | some (st, m) => some (st, (addAll (shiftK gone l) m).mergeSort leK)
theorem look_shift (d : Int) : ∀ (b : Ps) (k : Int), look (shiftK d b) k = look b (k - d)
  | [], _ => rfl
  | q :: b, k => by
    show look ((q.1 + d, q.2) :: shiftK d b) k = _
    rw [look_cons, look_cons, look_shift d b]
    by_cases h : q.1 + d = k
    · rw [if_pos h, if_pos (by omega)]
    · rw [if_neg h, if_neg (by omega)]
theorem good_shift (d : Int) {b : Ps} (g : Good b) : Good (shiftK d b) := by
  refine ⟨?_, fun q hq => ?_⟩
  · have e : keys (shiftK d b) = (keys b).map (· + d) := by
      unfold keys shiftK
      rw [List.map_map, List.map_map]
      rfl
    rw [e, List.nodup_iff_pairwise_ne, List.pairwise_map]
    exact (List.nodup_iff_pairwise_ne.mp g.nd).imp fun h => by omega
  · obtain ⟨p, hp, rfl⟩ := List.mem_map.mp hq
    exact g.pos p hp
theorem val_shift (d : Int) (b : Ps) : val (shiftK d b) = fun k => val b (k - d) := by
  funext k
  unfold val
  rw [look_shift]
theorem val_cons (q : Int × Int) (b : Ps) (k : Int) : val (q :: b) k = if q.1 = k then q.2 else val b k := by
  unfold val
  rw [look_cons]
  split <;> rfl
theorem val_out {b : Ps} {k : Int} (h : k ∉ keys b) : val b k = 0 := by
  unfold val
  rw [look_none.mpr h]
  rfl
theorem addAll_good : ∀ {l b : Ps}, Good b → Good l → Good (addAll b l) ∧ ∀ k, val (addAll b l) k = max (val l k) (val b k)
  | [], b, gb, _ => ⟨gb, fun k => by
      have := val_nonneg gb k
      show val b k = max 0 (val b k)
      omega⟩
  | q :: l, b, gb, gl => by
    have nq : q.1 ∉ keys l ∧ (keys l).Nodup := List.nodup_cons.mp gl.nd
    have p1 : 1 ≤ q.2 := gl.pos q List.mem_cons_self
    have gl' : Good l := ⟨nq.2, fun p hp => gl.pos p (List.mem_cons_of_mem _ hp)⟩
    have hv : 1 ≤ mx q.2 ((look b q.1).getD 0) := by
      unfold mx
      split <;> omega
    obtain ⟨g, v⟩ := addAll_good (b := put b q.1 (mx q.2 ((look b q.1).getD 0))) (good_put gb hv) gl'
    refine ⟨g, fun k => ?_⟩
    show val (addAll (put b q.1 (mx q.2 ((look b q.1).getD 0))) l) k = _
    rw [v k, val_put, val_cons]
    by_cases h : q.1 = k
    · subst h
      rw [if_pos rfl, if_pos rfl, val_out nq.1]
      have : mx q.2 ((look b q.1).getD 0) = max q.2 (val b q.1) := by
        unfold mx val
        split <;> omega
      rw [this]
      omega
    · rw [if_neg h, if_neg h]
theorem joined (early late : List Cmd) {aim : Int} (he : AllOk early) (hl : AllOk late) (ha : 1 ≤ aim) : boxM (early ++ late) aim = joinedM early late (last early) aim := by
  have hw : AllOk (early ++ late) := fun c hc => (List.mem_append.mp hc).elim (he c) (hl c)
  have srtd : ∀ {b c : Ps}, Good b → Good c → val b = val c → b.mergeSort leK = c.mergeSort leK := fun gb gc h => sort_ext gb gc h
  rcases box_spec hl ha with ⟨e1, e2⟩ | ⟨st, b, e1, gb, e2, pb⟩
  · have f := boxF_app early late aim fun st g h => by rw [e2] at h; cases h
    rw [e2] at f
    rcases box_spec hw ha with ⟨w1, _⟩ | ⟨_, _, _, _, w2, _⟩
    · rw [w1]
      unfold joinedM
      rw [e1]
    · rw [w2] at f
      cases f
  · have f := boxF_app early late aim fun st g h => by
      rw [e2] at h
      cases h
      exact val_nonneg gb
    rw [e2] at f
    have gs : Good (b.mergeSort leK) := good_perm gb (List.mergeSort_perm b leK)
    have vs : val (b.mergeSort leK) = val b := val_perm gb (List.mergeSort_perm b leK)
    cases st with
    | none =>
      rcases box_spec hw ha with ⟨_, w2⟩ | ⟨st', c, w1, gc, w2, _⟩
      · rw [w2] at f
        cases f
      · rw [w2] at f
        have f' := Option.some.inj f
        have f1 : st' = none := congrArg Prod.fst f'
        have f2 : val c = fun k => val b (k - last early) := congrArg Prod.snd f'
        rw [w1, f1]
        unfold joinedM
        rw [e1]
        show some ((none : Option Int), c.mergeSort leK) = some (none, (shiftK (last early) (b.mergeSort leK)).mergeSort leK)
        rw [srtd gc (good_shift _ gs) (by rw [f2, val_shift, vs])]
    | some n =>
      have hn := pb n rfl
      rcases box_spec he hn with ⟨x1, x2⟩ | ⟨st2, m, x1, gm, x2, _⟩
      · have f' : boxF (early ++ late) aim = (boxF early n).map fun x => (x.1, fun k => max (x.2 k) (val b (k - last early))) := f
        rw [x2] at f'
        rcases box_spec hw ha with ⟨w1, _⟩ | ⟨_, _, _, _, w2, _⟩
        · rw [w1]
          unfold joinedM
          rw [e1]
          show none = match boxM early n with | none => none | some (st, m) => _
          rw [x1]
        · rw [w2] at f'
          cases f'
      · have f' : boxF (early ++ late) aim = (boxF early n).map fun x => (x.1, fun k => max (x.2 k) (val b (k - last early))) := f
        rw [x2] at f'
        rcases box_spec hw ha with ⟨_, w2⟩ | ⟨st', c, w1, gc, w2, _⟩
        · rw [w2] at f'
          cases f'
        · rw [w2] at f'
          have f3 := Option.some.inj f'
          have f1 : st' = st2 := congrArg Prod.fst f3
          have f2 : val c = fun k => max (val m k) (val b (k - last early)) := congrArg Prod.snd f3
          rw [w1, f1]
          unfold joinedM
          rw [e1]
          show some (st2, c.mergeSort leK) = match boxM early n with | none => none | some (st, m) => _
          rw [x1]
          show some (st2, c.mergeSort leK) = some (st2, (addAll (shiftK (last early) (b.mergeSort leK)) (m.mergeSort leK)).mergeSort leK)
          have gms : Good (m.mergeSort leK) := good_perm gm (List.mergeSort_perm m leK)
          obtain ⟨ga, va⟩ := addAll_good (good_shift (last early) gs) gms
          rw [srtd gc ga (by
            funext k
            rw [f2, va k, val_perm gm (List.mergeSort_perm m leK), val_shift, vs])]

/-! ### a greater goal -/
theorem reqF_mono {f g : Int → Int} {o v u : Int} (h : ∀ k, f k ≤ g k) (hv : v ≤ u) (k : Int) : reqF f o v k ≤ reqF g o u k := by
  have := h k
  unfold reqF
  split <;> omega
theorem reqF_ge (f : Int → Int) (o v k : Int) : f k ≤ reqF f o v k := by
  unfold reqF
  split <;> omega
theorem goF_ge : ∀ {r : List Cmd} {off need : Int} {f : Int → Int} {st : Option Int} {g : Int → Int}, goF r off need f = some (st, g) → ∀ k, f k ≤ g k
  | [], off, need, f, st, g, h, k => by cases h; exact Int.le_refl _
  | .home :: r, off, need, f, st, g, h, k => by cases h
  | .stop :: r, off, need, f, st, g, h, k => by cases h; exact Int.le_refl _
  | .right n :: r, off, need, f, st, g, h, k => by
    simp only [goF] at h
    by_cases c : need > n
    · rw [if_pos c] at h
      exact Int.le_trans (reqF_ge f off need k) (goF_ge h k)
    · rw [if_neg c] at h
      cases h
      exact reqF_ge f off need k
  | .left n :: r, off, need, f, st, g, h, k => Int.le_trans (reqF_ge f off (need + n) k) (goF_ge (r := r) h k)
  | .down n :: r, off, need, f, st, g, h, k => goF_ge (r := r) h k
  | .up n :: r, off, need, f, st, g, h, k => goF_ge (r := r) h k
def Less (x y : BF) : Prop := y = none ∨ ∃ st g st' g', x = some (st, g) ∧ y = some (st', g') ∧ (∀ n, st = some n → ∃ n', st' = some n' ∧ n ≤ n') ∧ ∀ k, g k ≤ g' k
theorem goF_mono : ∀ {r : List Cmd} {off need need' : Int} {f f' : Int → Int}, need ≤ need' → (∀ k, f k ≤ f' k) → Less (goF r off need f) (goF r off need' f')
  | [], off, need, need', f, f', h, hf => .inr ⟨_, _, _, _, rfl, rfl, fun n e => ⟨need', rfl, by rw [← Option.some.inj e]; exact h⟩, hf⟩
  | .home :: r, off, need, need', f, f', h, hf => .inl rfl
  | .stop :: r, off, need, need', f, f', h, hf => .inr ⟨_, _, _, _, rfl, rfl, (fun n e => nomatch e), hf⟩
  | .right n :: r, off, need, need', f, f', h, hf => by
    simp only [goF]
    have m := reqF_mono (o := off) hf h
    by_cases c : need > n
    · rw [if_pos c, if_pos (by omega)]
      exact goF_mono (by omega) m
    · rw [if_neg c]
      by_cases c' : need' > n
      · rw [if_pos c']
        cases e : goF r off (need' - n) (reqF f' off need') with
        | none => exact .inl rfl
        | some x => exact .inr ⟨_, _, x.1, x.2, rfl, rfl, (fun n e => nomatch e), fun k => Int.le_trans (m k) (goF_ge e k)⟩
      · rw [if_neg c']
        exact .inr ⟨_, _, _, _, rfl, rfl, (fun n e => nomatch e), m⟩
  | .left n :: r, off, need, need', f, f', h, hf => goF_mono (r := r) (by omega) (reqF_mono (o := off) hf (by omega))
  | .down n :: r, off, need, need', f, f', h, hf => goF_mono (r := r) h hf
  | .up n :: r, off, need, need', f, f', h, hf => goF_mono (r := r) h hf
theorem box_mono {cs : List Cmd} {aim more : Int} (h : AllOk cs) (ha : 1 ≤ aim) (hm : aim ≤ more) :
    boxM cs more = none ∨ ∃ st l st' l', boxM cs aim = some (st, l) ∧ boxM cs more = some (st', l') ∧ (∀ n, st = some n → ∃ n', st' = some n' ∧ n ≤ n') ∧ ∀ q ∈ l, q.2 ≤ val l' q.1 := by
  have m : Less (boxF cs aim) (boxF cs more) := goF_mono hm fun _ => Int.le_refl _
  rcases box_spec h (show 1 ≤ more by omega) with ⟨e1, _⟩ | ⟨st', b', e1, g', e2, _⟩
  · exact .inl e1
  · rcases m with m | ⟨st, g, st2, g2, m1, m2, m3, m4⟩
    · rw [e2] at m
      cases m
    · rw [e2] at m2
      cases m2
      rcases box_spec h ha with ⟨_, x2⟩ | ⟨st3, b, x1, gb, x2, _⟩
      · rw [x2] at m1
        cases m1
      · rw [x2] at m1
        cases m1
        refine .inr ⟨st, _, st', _, x1, e1, m3, fun q hq => ?_⟩
        have gs : Good (b.mergeSort leK) := good_perm gb (List.mergeSort_perm b leK)
        have v : val (b.mergeSort leK) q.1 = q.2 := by
          unfold val
          rw [mem_look gs.nd hq]
          rfl
        rw [val_perm gb (List.mergeSort_perm b leK)] at v
        rw [val_perm g' (List.mergeSort_perm b' leK), ← v]
        exact m4 q.1

/-! ### moves multiplied -/
def Cmd.mul (F : Int) : Cmd → Cmd
  | .down n => .down (n * F)
  | .up n => .up (n * F)
  | c => c
def mulK (F : Int) (b : Ps) : Ps := b.map fun q => (q.1 * F, q.2)
theorem mul_inj {F a b : Int} (hF : 1 ≤ F) : a * F = b * F ↔ a = b := ⟨fun h => Int.eq_of_mul_eq_mul_right (by omega) h, fun h => by rw [h]⟩
theorem look_mul {F : Int} (hF : 1 ≤ F) : ∀ (b : Ps) (k : Int), look (mulK F b) (k * F) = look b k
  | [], _ => rfl
  | q :: b, k => by
    show look ((q.1 * F, q.2) :: mulK F b) (k * F) = _
    rw [look_cons, look_cons, look_mul hF b]
    by_cases h : q.1 = k
    · rw [if_pos h, if_pos (by rw [h])]
    · rw [if_neg h, if_neg fun z => h ((mul_inj hF).mp z)]
theorem put_mul {F : Int} (hF : 1 ≤ F) (b : Ps) (k v : Int) : put (mulK F b) (k * F) v = mulK F (put b k v) := by
  unfold put
  have ea : (mulK F b).any (fun q => decide (q.1 = k * F)) = b.any (fun q => decide (q.1 = k)) := by
    unfold mulK
    rw [List.any_map]
    congr 1
    funext q
    show decide (q.1 * F = k * F) = decide (q.1 = k)
    exact decide_eq_decide.mpr (mul_inj hF)
  rw [ea]
  by_cases h : b.any (fun q => decide (q.1 = k)) = true
  · rw [if_pos h, if_pos h]
    unfold mulK
    rw [List.map_map, List.map_map]
    refine List.map_congr_left fun q _ => ?_
    show (if q.1 * F = k * F then (q.1 * F, v) else (q.1 * F, q.2)) = ((if q.1 = k then (q.1, v) else q).1 * F, (if q.1 = k then (q.1, v) else q).2)
    by_cases e : q.1 = k
    · rw [if_pos e, if_pos (by rw [e])]
    · rw [if_neg e, if_neg fun z => e ((mul_inj hF).mp z)]
  · rw [if_neg h, if_neg h]
    unfold mulK
    rw [List.map_append]
    rfl
theorem req_mul {F : Int} (hF : 1 ≤ F) (b : Ps) (o v : Int) : req (mulK F b) (o * F) v = mulK F (req b o v) := by
  unfold req
  rw [look_mul hF, put_mul hF]
theorem go_mul {F : Int} (hF : 1 ≤ F) : ∀ (r : List Cmd) (off need : Int) (b : Ps), go (r.map (Cmd.mul F)) (off * F) need (mulK F b) = (go r off need b).map fun x => (x.1, mulK F x.2)
  | [], off, need, b => rfl
  | .home :: r, off, need, b => rfl
  | .stop :: r, off, need, b => rfl
  | .right n :: r, off, need, b => by
    show (if need > n then go (r.map (Cmd.mul F)) (off * F) (need - n) (req (mulK F b) (off * F) need) else some (none, req (mulK F b) (off * F) need)) = (if need > n then go r off (need - n) (req b off need) else some (none, req b off need)).map _
    rw [req_mul hF]
    by_cases c : need > n
    · rw [if_pos c, if_pos c]
      exact go_mul hF r off (need - n) _
    · rw [if_neg c, if_neg c]
      rfl
  | .left n :: r, off, need, b => by
    show go (r.map (Cmd.mul F)) (off * F) (need + n) (req (mulK F b) (off * F) (need + n)) = _
    rw [req_mul hF]
    exact go_mul hF r off (need + n) _
  | .down n :: r, off, need, b => by
    show go (r.map (Cmd.mul F)) (off * F - n * F) need (mulK F b) = _
    rw [← Int.sub_mul]
    exact go_mul hF r (off - n) need b
  | .up n :: r, off, need, b => by
    show go (r.map (Cmd.mul F)) (off * F + n * F) need (mulK F b) = _
    rw [← Int.add_mul]
    exact go_mul hF r (off + n) need b
theorem last_mul (F : Int) : ∀ cs : List Cmd, last (cs.map (Cmd.mul F)) = last cs * F
  | [] => by show (0 : Int) = 0 * F; omega
  | c :: cs => by
    have e : ∀ (c : Cmd) (cs : List Cmd), last (c :: cs) = c.dv + last cs := fun _ _ => rfl
    have d : (c.mul F).dv = c.dv * F := by
      cases c with
      | up n =>
        show -(n * F) = -n * F
        rw [Int.neg_mul]
      | down n => rfl
      | right n => show (0 : Int) = 0 * F; omega
      | left n => show (0 : Int) = 0 * F; omega
      | home => show (0 : Int) = 0 * F; omega
      | stop => show (0 : Int) = 0 * F; omega
    rw [List.map_cons, e, e, last_mul F cs, d, Int.add_mul]
theorem good_mul {F : Int} (hF : 1 ≤ F) {b : Ps} (g : Good b) : Good (mulK F b) := by
  refine ⟨?_, fun q hq => ?_⟩
  · have e : keys (mulK F b) = (keys b).map (· * F) := by
      unfold keys mulK
      rw [List.map_map, List.map_map]
      rfl
    rw [e, List.nodup_iff_pairwise_ne, List.pairwise_map]
    exact (List.nodup_iff_pairwise_ne.mp g.nd).imp fun h z => h ((mul_inj hF).mp z)
  · obtain ⟨p, hp, rfl⟩ := List.mem_map.mp hq
    exact g.pos p hp
theorem asc_mul {F : Int} (hF : 1 ≤ F) {b : Ps} (h : Asc b) : Asc (mulK F b) := by
  unfold Asc mulK
  rw [List.pairwise_map]
  exact h.imp fun h => Int.mul_lt_mul_of_pos_right h (by omega)
theorem box_mul {F : Int} (hF : 1 ≤ F) {cs : List Cmd} {goal : Int} (h : AllOk cs) (hg : 1 ≤ goal) :
    boxM (cs.map (Cmd.mul F)) goal = (boxM cs goal).map fun x => (x.1, mulK F x.2) := by
  unfold boxM
  rw [last_mul, ← List.map_reverse]
  have e := go_mul hF cs.reverse (last cs) goal []
  have e' : go (cs.reverse.map (Cmd.mul F)) (last cs * F) goal [] = (go cs.reverse (last cs) goal []).map fun x => (x.1, mulK F x.2) := e
  rw [e']
  rcases go_goF (off := last cs) (allOk_rev h) good_nil hg with ⟨e1, _⟩ | ⟨st, b, e1, g, _, _⟩
  · rw [e1]
    rfl
  · rw [e1]
    show some (st, (mulK F b).mergeSort leK) = some (st, mulK F (b.mergeSort leK))
    have gm := good_mul hF g
    have key : (mulK F b).mergeSort leK = mulK F (b.mergeSort leK) := by
      have p : (mulK F (b.mergeSort leK)).Perm (mulK F b) := (List.mergeSort_perm b leK).map _
      refine asc_ext (asc_sort gm) (asc_mul hF (asc_sort g)) fun k => ?_
      rw [look_perm gm (List.mergeSort_perm _ leK), look_perm gm p]
    rw [key]
def Cmd.vert : Cmd → Bool
  | .down _ => true
  | .up _ => true
  | _ => false
theorem go_plain : ∀ (r : List Cmd) (off need : Int) (b : Ps), (∀ c ∈ r, c.vert = true) → go r off need b = some (some need, b)
  | [], _, _, _, _ => rfl
  | .down n :: r, off, need, b, h => go_plain r (off - n) need b fun c hc => h c (List.mem_cons_of_mem _ hc)
  | .up n :: r, off, need, b, h => go_plain r (off + n) need b fun c hc => h c (List.mem_cons_of_mem _ hc)
  | .right n :: r, _, _, _, h => nomatch h _ List.mem_cons_self
  | .left n :: r, _, _, _, h => nomatch h _ List.mem_cons_self
  | .home :: r, _, _, _, h => nomatch h _ List.mem_cons_self
  | .stop :: r, _, _, _, h => nomatch h _ List.mem_cons_self
theorem box_plain (cs : List Cmd) (goal : Int) (h : ∀ c ∈ cs, c.vert = true) : boxM cs goal = some (some goal, []) := by
  unfold boxM
  rw [go_plain cs.reverse (last cs) goal [] fun c hc => h c (List.mem_reverse.mp hc)]
  show some (some goal, ([] : Ps).mergeSort leK) = _
  rw [List.mergeSort_nil]
end Gc

/-! sorted(d.items()), d a dict of ints by ints -/
namespace Gc
open PySem PySem.Spec PyProof.Rows L2
/-- what such a dict holds -/
def dkI (ps : List (Int × Int)) : List (L2.Key × V) := ps.map fun q => (Sum.inl q.1, V.int q.2)
def encP (q : Int × Int) : PyData := .tuple [.int q.1, .int q.2]
def leP (p q : Int × Int) : Bool := decide (p.1 < q.1 ∨ (p.1 = q.1 ∧ p.2 ≤ q.2))
theorem dkI_at {ps : List (Int × Int)} {j : Nat} {kv : L2.Key × V} (h : (dkI ps)[j]? = some kv) : ∃ q, ps[j]? = some q ∧ kv = (Sum.inl q.1, V.int q.2) := by
  unfold dkI at h
  rw [List.getElem?_map] at h
  cases e : ps[j]? with
  | none =>
    rw [e] at h
    cases h
  | some q =>
    rw [e] at h
    exact ⟨q, rfl, (Option.some.inj h).symm⟩
theorem pairs_at {P : Program} {w : World} : ∀ {es : List DictEntry} {vs : List (L2.Key × Value)} {j : Nat} {e : DictEntry}, Pairs (mixKind P w) es vs → es[j]? = some e →
    ∃ kv, vs[j]? = some kv ∧ keyIs kv.1 e.key = true ∧ e.val = kv.2
  | _, _, 0, e, .cons h1 h2 _, h => by
    obtain rfl := Option.some.inj h
    exact ⟨_, rfl, h1, h2⟩
  | _, _, j + 1, e, .cons _ _ t, h => pairs_at (j := j) t h
theorem pairs_len {P : Program} {w : World} : ∀ {es : List DictEntry} {vs : List (L2.Key × Value)}, Pairs (mixKind P w) es vs → es.length = vs.length
  | _, _, .nil => rfl
  | _, _, .cons _ _ t => by
    rw [List.length_cons, List.length_cons, pairs_len t]
def rSortItI : V → Hp → VK → Prop := fun x H Q => ∃ (d : Addr) (ps : List (Int × Int)), x = .ref d ∧ H d = some (.dK (dkI ps)) ∧
  ∀ (H' : Hp) (l : Addr) (ts : List Addr), Same H H' → H l = none → H' l = some (.lst (ts.map V.ref)) →
    Paired (fun (t : Addr) (q : Int × Int) => H' t = some (.tup [.int q.1, .int q.2])) ts (ps.mergeSort leP) → Q (.ref l) H'
theorem each_paired {R : Value → Int × Int → Prop} {F : Addr → Int × Int → Prop} (hR : ∀ v q, R v q → ∃ t, v = .ref t ∧ F t q) : ∀ {vs : List Value} {qs : List (Int × Int)}, PySem.W.EachIs R vs qs →
    ∃ ts : List Addr, vs = ts.map Value.ref ∧ Paired F ts qs
  | _, _, .nil => ⟨[], rfl, .nil⟩
  | _, _, .cons h t => by
    obtain ⟨t0, e0, f0⟩ := hR _ _ h
    obtain ⟨ts, e1, f1⟩ := each_paired hR t
    exact ⟨t0 :: ts, by rw [e0, e1]; rfl, .cons f0 f1⟩
theorem vals_refs : ∀ as : List Addr, Vals (as.map V.ref) (as.map Value.ref)
  | [] => .nil
  | _ :: as => .cons rfl (vals_refs as)
section
variable {X : Cx}
theorem sort_items_run {pins : List (Addr × Obj)} {σ : L2.St} {H : Hp} {s : Shared} {Q : VK} {p d : Addr} {ps : List (Int × Int)} (I : Inv X pins σ H s) (hh : X.A.handled = none)
    (hu : X.A.units + 64 < cLine) (hd : H d = some (.dK (dkI ps))) (view : s.heap.IsItemsView p d)
    (q : ∀ (H' : Hp) (l : Addr) (ts : List Addr), Same H H' → H l = none → H' l = some (.lst (ts.map V.ref)) →
      Paired (fun (t : Addr) (q : Int × Int) => H' t = some (.tup [.int q.1, .int q.2])) ts (ps.mergeSort leP) → Q (.ref l) H') :
    wpAny (model X.prog X.w) X.A (call (.builtin "sorted") [.ref p]) (EP X pins σ Q) X.xe s := by
  obtain ⟨hz, hs0, vs, kv, o, es, ep, ho, hx, hdat, hko, hpr, hnd⟩ := (show ObjOk X.prog X.w H s.heap d (.dK (dkI ps)) from I.hok d _ hd)
  have l1 : (dkI ps).length = vs.length := Paired.length kv
  have l2 : es.toList.length = vs.length := pairs_len hpr
  have l3 : (dkI ps).length = ps.length := List.length_map ..
  have l4 : es.toList.length = es.size := by simp
  have ent : ∀ (j : Nat) (e : DictEntry), es[j]? = some e → ∃ (q : Int × Int) (t1 t2 : Tok), ps[j]? = some q ∧ e.key = .int q.1 t1 ∧ e.val = .int q.2 t2 := by
    intro j e he
    obtain ⟨kv', e1, e2, e3⟩ := pairs_at hpr (show es.toList[j]? = some e by simpa using he)
    obtain ⟨y, f1, f2, f3⟩ := L2.DX.pget kv e1
    obtain ⟨q, g1, rfl⟩ := dkI_at f1
    have f2' : Sum.inl q.1 = kv'.1 := f2
    rw [← f2'] at e2
    obtain ⟨t1, k1⟩ := Value.isInt_shape (k := q.1) (v := e.key) e2
    obtain ⟨t2, k2⟩ : ∃ t, kv'.2 = Value.int q.2 t := f3
    exact ⟨q, t1, t2, g1, k1, e3.trans k2⟩
  refine DT.sortedI (es := es) (ep := ep) hh view ⟨o, ho, hx, hdat⟩ (by omega) fun h' tk as hk hlt hl hG => ?_
  have nd : as.Nodup := List.Pairwise.imp (fun h => Nat.ne_of_lt h) hG.rise
  have lap : as.length = ps.length := by omega
  have pr : ∀ (j : Nat) (b : Addr), as[j]? = some b → ∃ (q : Int × Int) (t1 t2 : Tok), ps[j]? = some q ∧
      h'.get? b = some { cls := .type "tuple", data := .seq #[Value.int q.1 t1, Value.int q.2 t2] } := by
    intro j b hj
    obtain ⟨e, he, hg⟩ := hG.pairs j b hj
    obtain ⟨q, t1, t2, e1, e2, e3⟩ := ent j e he
    rw [e2, e3] at hg
    exact ⟨q, t1, t2, e1, hg⟩
  have hob : (h'.push { cls := .type "list", data := .seq (as.map Value.ref).toArray }).get? h'.objs.size = some (seqObj "list" (as.map Value.ref).toArray 0) := Heap.get?_push_size _ rfl
  have ne0 : ∀ b o, h'.get? b = some o → b ≠ h'.objs.size := fun b o e => Nat.ne_of_lt (Heap.lt_size e)
  have ka : ∀ b o, h'.get? b = some o → (h'.push { cls := .type "list", data := .seq (as.map Value.ref).toArray }).get? b = some o := fun b o e => Heap.get?_push_of_some _ e
  generalize hh2 : h'.push { cls := .type "list", data := .seq (as.map Value.ref).toArray } = h2 at hob ka ⊢
  have kb : ∀ b o, s.heap.get? b = some o → h2.get? b = some o := fun b o e => ka b o (hk b o e)
  have zipR : ∀ z, z ∈ (as.map Value.ref).zip ps → ∃ (j : Nat) (t : Addr), z.1 = Value.ref t ∧ as[j]? = some t ∧ ps[j]? = some z.2 := by
    intro z hz'
    obtain ⟨j, hj⟩ := List.mem_iff_getElem?.mp hz'
    obtain ⟨j1, j2⟩ := List.getElem?_zip_eq_some.mp hj
    rw [List.getElem?_map] at j1
    cases e : as[j]? with
    | none =>
      rw [e] at j1
      cases j1
    | some t =>
      rw [e] at j1
      exact ⟨j, t, (Option.some.inj j1).symm, e, j2⟩
  have eR : PySem.W.EachIs (fun v (q : Int × Int) => ∃ (j : Nat) (t : Addr), v = Value.ref t ∧ as[j]? = some t ∧ ps[j]? = some q) (as.map Value.ref) ps :=
    PySem.W.EachIs.of_zip (by rw [List.length_map]; exact lap) zipR
  have er : PySem.W.EachIs (fun v (q : Int × Int) => ∃ bs, Reads h2 v (encP q) bs ∧ h'.objs.size ∉ bs) (as.map Value.ref) ps := by
    refine eR.mono fun v q h => ?_
    obtain ⟨j, t, rfl, e1, e2⟩ := h
    obtain ⟨q', t1, t2, g1, g2⟩ := pr j t e1
    obtain rfl : q' = q := Option.some.inj (g1.symm.trans e2)
    exact ⟨_, .tuple (ka _ _ g2) rfl rfl (.cons (.int _ _) (.cons (.int _ _) .nil)), by simp⟩
  refine PySem.W.list_sort_data (s := { s with heap := h2, toks := tk }) (A := X.A.in1) (enc := encP) (bs := ps) (vs := as.map Value.ref) hob eR er
    (PySem.W.AllAlike.of fun b b' => by simp [encP, PySem.W.alike, PySem.W.alikeAll]) (PySem.W.Sortable.tuples fun b => ⟨_, _, rfl⟩) (by omega)
    (fun b _ => by show X.A.units + 1 + 1 + 1 < cLine; omega) fun out ol oe => ?_
  have le_eq : PySem.W.dataLe false encP = leP := PySem.W.dataLe_ii (fun q : Int × Int => q.1) (fun q => q.2)
  rw [le_eq] at oe
  show EP X pins σ Q (.ref h'.objs.size) { s with heap := sortedHeap h2 h'.objs.size (as.map Value.ref) out.toArray, toks := tk }
  obtain ⟨ts, rfl, tp⟩ := each_paired (F := fun t q => ∃ j : Nat, as[j]? = some t ∧ ps[j]? = some q) (fun v q h => by
    obtain ⟨j, t, e1, e2, e3⟩ := h
    exact ⟨t, e1, j, e2, e3⟩) oe
  have kF : ∀ b o, b ≠ h'.objs.size → h2.get? b = some o → (sortedHeap h2 h'.objs.size (as.map Value.ref) (ts.map Value.ref).toArray).get? b = some o :=
    fun b o hb e => (PyProof.Rows.sortedHeap_old hb (Heap.lt_size e)).trans e
  have kS : ∀ b o, s.heap.get? b = some o → (sortedHeap h2 h'.objs.size (as.map Value.ref) (ts.map Value.ref).toArray).get? b = some o :=
    fun b o e => kF b o (ne0 _ _ (hk b o e)) (kb b o e)
  obtain ⟨eF, heF⟩ := PyProof.Rows.sortedHeap_at (vs := as.map Value.ref) (out := (ts.map Value.ref).toArray) hob
  generalize sortedHeap h2 h'.objs.size (as.map Value.ref) (ts.map Value.ref).toArray = hF at kF kS heF ⊢
  have I1 : Inv X pins σ H { s with heap := hF, toks := tk } := I.kept (t' := tk) kS
  have hn0 : H h'.objs.size = none := I.hok.fresh (Nat.le_of_lt hlt)
  have tl : ts.length = ps.length := by
    rw [← ol, List.length_map]
  have I2 : Inv X pins σ (upd H h'.objs.size (.lst (ts.map V.ref))) { s with heap := hF, toks := tk } :=
    I1.take (h' := hF) (t' := tk) (fun b ob _ e => e) (I.fpOk (Nat.le_of_lt hlt) hn0) ⟨by rw [List.length_map]; omega, ts.map Value.ref, eF, vals_refs ts, heF⟩
  obtain ⟨H2, I3, g, qt⟩ := L2.DX.takeT (P := fun b vs => ∃ (j : Nat) (q : Int × Int), as[j]? = some b ∧ ps[j]? = some q ∧ vs = [.int q.1, .int q.2]) I as _ I2 nd fun b hb => by
    obtain ⟨j, hj⟩ := List.mem_iff_getElem?.mp hb
    obtain ⟨q, t1, t2, e1, e2⟩ := pr j b hj
    have old : s.heap.objs.size ≤ b := Nat.le_of_lt (hG.above b hb)
    refine ⟨old, ?_, [.int q.1, .int q.2], ⟨j, q, hj, e1, rfl⟩, fun H3 => ⟨by show 2 ≤ sizeLine; decide, [Value.int q.1 t1, Value.int q.2 t2], .cons ⟨_, rfl⟩ (.cons ⟨_, rfl⟩ .nil), ⟨_, kF _ _ (ne0 _ _ e2) (ka _ _ e2), rfl, 0, rfl⟩⟩⟩
    rw [upd_ne (ne0 _ _ e2)]
    exact I.hok.fresh old
  refine ⟨.ref h'.objs.size, H2, I3, rfl, q H2 h'.objs.size ts (fun b o e => g b o (by rw [upd_ne (ne_of_none e hn0)]; exact e)) hn0 (g _ _ upd_same) ?_⟩
  refine Paired.mapP tp fun t q h => ?_
  obtain ⟨j, j1, j2⟩ := h
  obtain ⟨vs', ⟨i, q', i1, i2, ev⟩, hH⟩ := qt t (List.mem_of_getElem? j1)
  have eij : i = j := (List.getElem?_inj (List.getElem?_eq_some_iff.mp i1).1 nd).mp (i1.trans j1.symm)
  subst eij
  obtain rfl : q' = q := Option.some.inj (i2.symm.trans j2)
  rw [ev] at hH
  exact hH
def tSortItems (te : TE) : TE := fun σ H Q => te σ H fun x H1 => rSortItI x H1 Q
variable {e : Expr} {te : TE} {p apos cpos pos : Pos}
theorem pe_sortItems (hc : X.calm = true) (hu : X.A.units + 64 < cLine) (he : PE X e te) (hg : Gl X "sorted") (hm : X.mg "sorted" = none)
    (hv : bootBuiltins "sorted" = some (.builtin "sorted"))
    (hbase : attributeBase e "items" X.env (eval e X.env) = eval e X.env := by rfl) (hline : (apos.endLine == cpos.line) = true := by rfl)
    (hs : starEach [.Call (.Attribute e "items" apos) [] [] cpos] X.env = (false, eval (.Call (.Attribute e "items" apos) [] [] cpos) X.env) :: starEach [] X.env := by rfl) :
    PE X (.Call (.Name "sorted" p) [.Call (.Attribute e "items" apos) [] [] cpos] [] pos) (tSortItems te) := by
  refine ⟨fun pins s σ H Q I hq => ?_⟩
  refine wpAny_Call_Name_kw (ld_blt I hg hm hv ?_)
  refine PyProof.Rows.callWith_builtin1 ?_ hs rfl
  rw [hs]
  show wpAny _ _ (spliced ((false, eval (.Call (.Attribute e "items" apos) [] [] cpos) X.env) :: backTo pos (starEach [] X.env))) _ _ s
  refine Calls.spliced_cons ?_
  refine wpAny_Call_method (T := "dict") (id := "dict.items") hbase rfl hline F.plainAttrs_dict F.slot_dict_items F.type_dict_items
    (thn (he.run pins s σ H _ I hq) fun u s1 ⟨x, H1, I1, rx, d, ps, ex, hd, q⟩ => ?_)
  subst ex
  obtain rfl : u = Value.ref d := rx
  obtain ⟨hz, hs0, vs, kv, hdo⟩ := I1.hok d _ hd
  have I2 : Inv X pins σ H1 { s1 with heap := s1.heap.push { cls := .type "dict_items", data := .fields #[.ref d] } } :=
    I1.kept (t' := s1.toks) fun b ob z => Heap.get?_push_of_some _ z
  refine ⟨hdo.typeIs, hdo.mapOf.noDict, ?_⟩
  show wpAny _ _ (callWith cpos (.builtin "dict.items") [.ref d] [] []) _ X.xe s1
  refine method_meetsIn F.slot_dict_items F.entry_dict_items rfl (PySem.evalArgs_none ⟨rfl, hdo.typeIs, F.args_dict_items_1 _, _, meets_dict_items (mixKind X.prog X.w) d hs0, ⟨vs, hdo⟩, ?_⟩)
  refine Calls.spliced_nil ?_
  exact sort_items_run I2 (I1.ok.hd hc) hu hd ⟨_, Heap.get?_push_size _ rfl, rfl, rfl⟩ q
end
end Gc

/-! match over written texts, with a last case for the rest -/
namespace Gc
open PySem L2
/-- what is wanted of the cases, by the subject's value -/
abbrev TM := V → TS
structure MC (X : Cx) (cs : List MatchCase) (t : TM) : Prop where
  run : ∀ (first : Bool) (pins : List (Addr × Obj)) (s : Shared) (σ : L2.St) (H : Hp) (D : Ends) (x : V) (v : Value),
    Inv X pins σ H s → RelV x v → t x D σ H →
    wpAny (model X.prog X.w) X.A (matchCases cs X.env v first) (fun f s' => SP X pins D f s') X.xe s
def mNil : TM := fun _ D σ H => D.nx σ H
/-- case 'z': .. -/
def mStr (z : Str) (tb : TS) (r : TM) : TM := fun x D σ H => ∃ y, x = .str y ∧ if decide (y = z) = true then tb D σ H else r x D σ H
/-- case _: .. -/
def mAny (tb : TS) : TM := fun _ D σ H => tb D σ H
section
variable {X : Cx} {rest : List MatchCase} {body : List Stmt} {tb : TS} {r : TM} {z : Str} {k : Nat} {p1 p2 pos : Pos} {e : Expr} {te : TE}
theorem mc_nil : MC X [] mNil := ⟨fun _ pins s σ H D x v I _ h => wpAny_matchCases_nil ⟨σ, H, I, h⟩⟩
theorem mc_str (hb : PSs X body tb) (hr : MC X rest r) :
    MC X (⟨.MatchValue (.Constant (.str z) k p1) p2, none, body⟩ :: rest) (mStr z tb r) := by
  refine ⟨fun first pins s σ H D x v I rx h => ?_⟩
  obtain ⟨y, rfl, h⟩ := h
  refine wpAny_matchCases_cons (wpAny_matchPattern_Value ?_)
  have hq : PE X (.Constant (.str z) k p1) (tC (.str z)) := pe_str
  refine wpAny_mono (hq.run pins s σ H (fun w H' => w = .str z ∧ H' = H) I ⟨rfl, rfl⟩) (fun u s1 hu => ?_) fun _ _ q => q
  obtain ⟨w, H1, I1, rw1, rfl, rfl⟩ := hu
  refine wpAny_mono ((op_eq (X := X)) pins s1 σ _ (.str y) (.str z) v u (fun w H' => w = .bl (decide (y = z)) ∧ H' = _) I1 rx rw1 ⟨rfl, ?_, rfl⟩) (fun c s2 hc => ?_) fun _ _ q => q
  · by_cases q : y = z
    · subst q
      rw [decide_eq_true (Eq.refl _), decide_eq_true (Eq.refl _)]
    · rw [decide_eq_false q, decide_eq_false fun e => q (V.str.inj e)]
  · obtain ⟨w, H2, I2, rw2, rfl, rfl⟩ := hc
    obtain rfl : c = Value.bool (decide (y = z)) := rw2
    refine wpAny_pure ?_
    by_cases q : y = z
    · rw [decide_eq_true q] at h ⊢
      show wpAny _ _ (assignInOrder [] []) _ _ _
      refine wpAny_assignInOrder_none ?_
      exact hb.run pins s2 σ _ D I2 h
    · rw [decide_eq_false q] at h ⊢
      exact hr.run false pins s2 σ _ D (.str y) v I2 rx h
theorem mc_any (hb : PSs X body tb) : MC X (⟨.MatchAs none none p2, none, body⟩ :: rest) (mAny tb) := by
  refine ⟨fun first pins s σ H D x v I rx h => ?_⟩
  refine wpAny_matchCases_cons (wpAny_matchPattern_Capture ?_)
  show wpAny _ _ (assignInOrder [] []) _ _ _
  exact wpAny_assignInOrder_none (hb.run pins s σ H D I h)
def tMatch (te : TE) (t : TM) : TS := fun D σ H => te σ H fun x H1 => t x D σ H1
theorem ps_match {cs : List MatchCase} {t : TM} (he : PE X e te) (hc : MC X cs t) : PS X (.Match e cs pos) (tMatch te t) := by
  refine ⟨fun pins s σ H D I h => ?_⟩
  refine wpAny_Match (wpAny_mono (he.run pins s σ H _ I h) (fun v s1 hv => ?_) fun _ _ q => q)
  obtain ⟨x, H1, I1, rx, q⟩ := hv
  exact hc.run true pins s1 σ H1 D x v I1 rx q
end
end Gc

namespace Gc
open PySem PyProof.Rows L2
/-! ### heaps: all that stood but at two places -/
def Keep (a d : Addr) (H H' : Hp) : Prop := ∀ b o, b ≠ a → b ≠ d → H b = some o → H' b = some o
theorem Keep.refl {a d : Addr} (H : Hp) : Keep a d H H := fun _ _ _ _ h => h
theorem Keep.trans {a d : Addr} {H H1 H2 : Hp} (x : Keep a d H H1) (y : Keep a d H1 H2) : Keep a d H H2 := fun b o h1 h2 h => y b o h1 h2 (x b o h1 h2 h)
theorem Keep.of {a d : Addr} {H H' : Hp} (e : Same H H') : Keep a d H H' := fun b o _ _ h => e b o h
theorem same_upd {H H' : Hp} {p : Addr} {o : HO} (e : Same H H') (h : H' p = none) : Same H (upd H' p o) := fun b u hb => by
  rw [upd_ne (ne_of_none (e b u hb) h)]
  exact e b u hb
theorem Keep.upd1 {a d : Addr} {H H' : Hp} {o : HO} (e : Keep a d H H') : Keep a d H (upd H' a o) := fun b u h1 h2 h => by
  rw [upd_ne h1]
  exact e b u h1 h2 h
theorem Keep.upd2 {a d : Addr} {H H' : Hp} {o : HO} (e : Keep a d H H') : Keep a d H (upd H' d o) := fun b u h1 h2 h => by
  rw [upd_ne h2]
  exact e b u h1 h2 h
theorem Keep.new {a d p : Addr} {H H' : Hp} {o : HO} (e : Keep a d H H') (h : H' p = none) : Keep a d H (upd H' p o) := fun b u h1 h2 hb => by
  rw [upd_ne (ne_of_none (e b u h1 h2 hb) h)]
  exact e b u h1 h2 hb

theorem cpow {i j : Int} (h : (decide (0 ≤ j) && (decide (j ≤ 1000000) && decide (i.natAbs < 2 ^ 64))) = true) : CPow i j := by
  rw [Bool.and_eq_true, Bool.and_eq_true] at h
  exact ⟨of_decide_eq_true h.1, of_decide_eq_true h.2.1, of_decide_eq_true h.2.2⟩
theorem pow_small {x : Int} {a k b : Nat} (h : x.natAbs < 2 ^ a) (hb : a * k < b) : (x ^ k).natAbs < 2 ^ b := by
  rw [Int.natAbs_pow]
  have h1 : x.natAbs ^ k ≤ (2 ^ a) ^ k := Nat.pow_le_pow_left (Nat.le_of_lt h) k
  rw [← Nat.pow_mul] at h1
  exact Nat.lt_of_le_of_lt h1 (Nat.pow_lt_pow_right (by decide) hb)
theorem int_at {ns : List Int} {i : Nat} {y : V} (h : (ns.map V.int)[i]? = some y) : ∃ u, y = V.int u := by
  rw [List.getElem?_map] at h
  cases e : ns[i]? with
  | none =>
    rw [e] at h
    cases h
  | some u =>
    rw [e] at h
    exact ⟨u, (Option.some.inj h).symm⟩
theorem dp_ints {K : PySem.W.Frag} {H : Hp} : ∀ ns : List Int, DpAll K H (ns.map V.int) (ns.map PyData.int)
  | [] => .nil
  | x :: r => .cons (.int x) (dp_ints r)
/-- a def that is called by its name and lets nothing out -/
structure Cal (P : Program) (w : World) (K : PySem.W.Frag) (mg : Str → Option Value) (base : Heap) (k : Nat) (x : Str) (sp : Sp) : Prop where
  ex : ∃ (f : Addr) (fd : FuncData) (ps : List Str), FnOk P w K mg base CX0 k f fd ps sp ∧
    mg x = some (.ref f) ∧ PySem.W.keepIn K (.ref f) = true ∧ Binds K fd ps []
theorem pe_cal {X : Cx} {k j : Nat} {x : Str} {sp : Sp} {p pos : Pos} {e : Expr} {es : List Expr} {t : TA}
    (c : Cal X.prog X.w X.K X.mg X.base k x sp) (hr : Room j X.A) (hk : k ≤ j) (hg : Gl X x) (ha : PA X (e :: es) t)
    (hdb : (x == ("__debug__" : Str)) = false := by decide)
    (he : starEach (e :: es) X.env = (false, eval e X.env) :: starEach es X.env := by rfl)
    (hpl : (backTo pos (starEach es X.env)).any (·.1) = false := by rfl) :
    PE X (.Call (.Name x p) (e :: es) [] pos) (tCall sp [] E0 t) := by
  obtain ⟨f, fd, ps, F, hm, kp, b⟩ := c.ex
  exact pe_call F (hr.mono hk) hg hm kp b .nil pass0 ha hdb he hpl

/-! ### data carried along -/
theorem seq_t {K : PySem.W.Frag} {H H' : Hp} {a : Addr} {xs : List V} (e : Same H H') (h : SqT K H a xs) : SqT K H' a xs := by
  rcases h with (h | ⟨o, h⟩) | h
  · exact .inl (.inl (e _ _ h))
  · exact .inl (.inr ⟨o, e _ _ h⟩)
  · exact .inr h
mutual
theorem dp_same {K : PySem.W.Frag} {H H' : Hp} (e : Same H H') : ∀ (d : PyData) (v : V), Dp K H v d → Dp K H' v d
  | .none, _, h => by cases h; exact .non
  | .bool b, _, h => by cases h; exact .bl b
  | .int i, _, h => by cases h; exact .int i
  | .str x, _, h => by cases h; exact .str x
  | .list ds, _, h => by
    cases h with
    | lst q r => exact .lst (e.seq q) (dps_same e ds _ r)
  | .tuple ds, _, h => by
    cases h with
    | tup q r => exact .tup (seq_t e q) (dps_same e ds _ r)
  | .dict _, _, h => by cases h
theorem dps_same {K : PySem.W.Frag} {H H' : Hp} (e : Same H H') : ∀ (ds : List PyData) (vs : List V), DpAll K H vs ds → DpAll K H' vs ds
  | [], _, h => by cases h; exact .nil
  | d :: ds, _, h => by
    cases h with
    | cons a b => exact .cons (dp_same e d _ a) (dps_same e ds _ b)
end
theorem dps_len {K : PySem.W.Frag} {H : Hp} : ∀ {vs : List V} {ds : List PyData}, DpAll K H vs ds → vs.length = ds.length
  | [], _, h => by cases h; rfl
  | _ :: vs, _, h => by
    cases h with
    | cons a b => rw [List.length_cons, List.length_cons, dps_len b]
theorem dps_at {K : PySem.W.Frag} {H : Hp} : ∀ {vs : List V} {ds : List PyData} {i : Nat}, DpAll K H vs ds → i < ds.length → ∃ v d, vs[i]? = some v ∧ ds[i]? = some d ∧ Dp K H v d
  | _, _, 0, h, l => by
    cases h with
    | nil => exact absurd l (by decide)
    | cons a b => exact ⟨_, _, rfl, rfl, a⟩
  | _, _, i + 1, h, l => by
    cases h with
    | nil => exact absurd l (Nat.not_lt_zero _)
    | cons a b => exact dps_at (i := i) b (Nat.lt_of_succ_lt_succ l)
theorem depth_at : ∀ {ds : List PyData} {i : Nat} {d : PyData}, ds[i]? = some d → d.depth ≤ PyData.depthAll ds
  | [], i, d, h => by simp at h
  | x :: r, 0, d, h => by
    have e : x = d := Option.some.inj h
    subst e
    simp only [PyData.depthAll]
    exact Nat.le_max_left _ _
  | x :: r, i + 1, d, h => by
    have ih := depth_at (ds := r) (i := i) (d := d) h
    simp only [PyData.depthAll]
    exact Nat.le_trans ih (Nat.le_max_right _ _)
theorem ty_l {K : PySem.W.Frag} {H : Hp} {a : Addr} {xs : List V} (h : SqL K H a xs) : TyX K H (.ref a) (.type "list") := by
  rcases h with (h | ⟨o, h⟩) | h
  · exact .base (.lst h)
  · exact .base (.frz h)
  · obtain ⟨o, its, n, e, c, _⟩ := h
    exact .kList e c
theorem ty_t {K : PySem.W.Frag} {H : Hp} {a : Addr} {xs : List V} (h : SqT K H a xs) : TyX K H (.ref a) (.type "tuple") := by
  rcases h with (h | ⟨o, h⟩) | h
  · exact .base (.tup h)
  · exact .fTuple h
  · obtain ⟨o, its, n, e, c, _⟩ := h
    exact .kTuple e c
theorem isi_q {K : PySem.W.Frag} {H : Hp} {x : V} {t n : String} {b : Bool} {Q : VK} (ty : TyX K H x (.type t)) (k : kitB t n = some b) (q : Q (.bl b) H) : rIsi K [x, .ty n] H Q :=
  ⟨x, .ty n, .type t, .type n, b, rfl, .ty n, ty, kit_ty k, q⟩
theorem log9 {x : Int} {a : Nat} (h : x.natAbs < 2 ^ a) (ha : a < 9000) : x.natAbs.log2 < 9000 :=
  Nat.lt_of_le_of_lt (Nat.le_of_lt_succ (PySem.Flt.log2_lt_of (k := a + 1) (Nat.succ_pos _) (Nat.lt_trans h (Nat.pow_lt_pow_right (by decide) (Nat.lt_succ_self a))))) ha
/-- a power of any whole number, its size told -/
def CPowW (i j : Int) : Prop := 0 ≤ j ∧ j ≤ 64 ∧ i.natAbs.log2 < 100000
theorem op_powW {X : Cx} : OpR X (binaryOp .Pow) (rI CPowW fun i j => .int (i ^ j.toNat)) := opI fun i j _ _ _ _ _ hc q => by
  refine pow_int hc.1 ?_ q
  have h1 : Builtin.Int.intBits i ≤ i.natAbs.log2 + 1 := by
    unfold Builtin.Int.intBits
    split <;> omega
  have h2 := hc.2.1
  have h3 := hc.2.2
  have h4 : (Builtin.Int.intBits i : Int) ≤ 100000 := by omega
  calc (Builtin.Int.intBits i : Int) * j ≤ 100000 * 64 := Int.mul_le_mul h4 h2 hc.1 (by decide)
    _ ≤ 2 ^ 27 := by decide
theorem cpowW {i j : Int} {a : Nat} (hj : 0 ≤ j) (hj2 : j ≤ 64) (h : i.natAbs < 2 ^ a) (ha : a < 100000) : CPowW i j :=
  ⟨hj, hj2, Nat.lt_of_le_of_lt (Nat.le_of_lt_succ (PySem.Flt.log2_lt_of (k := a + 1) (Nat.succ_pos _) (Nat.lt_trans h (Nat.pow_lt_pow_right (by decide) (Nat.lt_succ_self a))))) ha⟩
def rLenQ (K : PySem.W.Frag) : List V → Hp → VK → Prop := fun xs H Q => ∃ p ys, xs = [.ref p] ∧ (SqL K H p ys ∨ SqT K H p ys) ∧ Q (.int ys.length) H
end Gc

/-! calls by names alone, the names in the other order: f(b=.., a=..) of def f(a, b) -/
namespace Gc
open PySem PySem.Spec PyProof.Rows L2
def gRev {α : Type} (us ws : List α) : List α := us ++ ws.reverse
theorem vals_rev : ∀ {vs : List V} {us : List Value}, Vals vs us → Vals vs.reverse us.reverse
  | _, _, .nil => .nil
  | v :: vs, u :: us, .cons h t => by
    rw [List.reverse_cons, List.reverse_cons]
    exact (vals_rev t).append (.cons h .nil)
structure CalK (P : Program) (w : World) (K : PySem.W.Frag) (mg : Str → Option Value) (base : Heap) (k : Nat) (x : Str) (ks : List Str) (sp : Sp) : Prop where
  ex : ∃ (f : Addr) (fd : FuncData) (ps : List Str), FnOk P w K mg base CX0 k f fd ps sp ∧ mg x = some (.ref f) ∧ PySem.W.keepIn K (.ref f) = true ∧ KBinds K fd ps ks gRev gRev
/-- how it binds: h is «fun _ _ _ _ _ _ us ws hl => match us, ws, hl with | [], [_, _], _ => rfl | [_], [_], _ => rfl | [_, _], [], _ => rfl» -/
theorem bindsK {K : PySem.W.Frag} {x qual : Str} {st : Stmt} {f : Addr} {fd : FuncData} {ps ks : List Str} (F : Fun K x qual st f fd)
    (h : ∀ (kV doc pm : Value) (an : Option Addr) (cdv ct : Value) (us ws : List Value), (gRev us ws).length = ps.length → bindArgs (PySem.W.fnOf x qual (defArgs st) (defBody st) (defScope st) .none kV doc pm an cdv ct) ⟨us, ks.zip ws⟩ = pure (ps.zip (gRev us ws))) : KBinds K fd ps ks gRev gRev := by
  obtain ⟨oc, od, kV, doc, pm, an, cdv, ct, osl, rfl, lk, hcd⟩ := F.ex
  exact ⟨fun s us ws _ hl => .of_eq (h kV doc pm an cdv ct us ws hl), fun a b => a.append (vals_rev b)⟩
theorem pe_calK {X : Cx} {k j : Nat} {x : Str} {ks : List Str} {sp : Sp} {p pos : Pos} {kws : List Keyword} {tk : TA} (c : CalK X.prog X.w X.K X.mg X.base k x ks sp) (hr : Room j X.A) (hk : k ≤ j) (hg : Gl X x) (hkw : PK X kws tk)
    (hdb : (x == ("__debug__" : Str)) = false := by decide) (hall : (backToKw pos (keywordEach kws X.env)).all (·.1.isSome) = true := by rfl) (hks : (backToKw pos (keywordEach kws X.env)).filterMap (·.1) = ks := by rfl)
    (hpn : ((backTo pos (starEach [] X.env)).any (·.1) || (backToKw pos (keywordEach kws X.env)).any (·.1.isNone)) = false := by rfl) :
    PE X (.Call (.Name x p) [] kws pos) (tCallK sp gRev E0 tNil tk) := by
  obtain ⟨f, fd, ps, F, hm, kp, b⟩ := c.ex
  refine ⟨fun pins s σ H Q I h => ?_⟩
  refine wpAny_Call_Name_kw (ld_glob I hg hm ?_ hdb)
  refine PySem.W.callWith_KW0 (h₀ := X.base) I.ok.mod.kin kp hall ?_ hpn
  refine thn (hkw.run pos pins s σ H _ I h) fun ws s1 ⟨zs, H1, I1, rz, q⟩ => ⟨I1.kIn, ?_⟩
  rw [hks]
  exact run_fnk (us := []) (vs := []) F (hr.mono hk) b pass0 I1 .nil rz q
end Gc

/-! raising the program's own errors: classes whose __init__ keeps one value; calls of defs that may raise -/
namespace L2
open PySem PySem.Spec PyProof.Rows
/-- def __init__(self, value): self.value = value, on a new exception of the class at C -/
def spKeep (C : Addr) : Sp := fun vs H Q _ => ∃ (a : Addr) (v : V), vs = [.ref a, v] ∧ H a = some (exo a C none) ∧
  ∀ dx, H dx = none → dx ≠ a → Q .non (upd (upd H dx (exd dx [("value", v)])) a (exo a C (some dx)))
/-- the error class x of the program, at C -/
structure ErrC (P : Program) (w : World) (K : PySem.W.Frag) (mg : Str → Option Value) (base : Heap) (x : Str) (C : Addr) : Prop where
  T : OexC K C
  g : mg x = some (.ref C)
  no : PySem.W.findIn K (.ref C) "value" = some none
  ex : ∃ (fI : Addr) (fd : FuncData), PySem.W.findIn K (.ref C) "__init__" = some (some (.ref fI)) ∧ PySem.W.typeIn K (.ref fI) = some (.type "function") ∧
    FnOk P w K mg base CX0 1 fI fd ["self", "value"] (spKeep C) ∧ Binds K fd ["self", "value"] []
/-- x(e) in a raise: the new error's class, its dict, the heap with that dict -/
def rRaise (C : Addr) (Q : XK) (v : V) (H1 : Hp) : Prop := [v].length ≤ 1000 ∧ ∀ a, H1 a = none → spKeep C (.ref a :: ([v] ++ [])) (upd H1 a (exo a C none))
  (fun u H2 => u = .non ∧ ∃ (d : Addr) (fs : List (Str × V)), H2 a = some (exo a C (some d)) ∧ H2 d = some (exd d fs) ∧ H1 d = none ∧ Q (.ref C) (some d) (upd (del H2 a) d (.xd fs))) (fun _ _ _ => False)
theorem ask_raise {C : Addr} {Q : XK} {v : V} {H : Hp} (h : ∀ d, H d = none → Q (.ref C) (some d) (upd H d (.xd [("value", v)]))) : rRaise C Q v H := by
  refine ⟨(by show 1 ≤ 1000; decide), fun a ha => ⟨a, v, rfl, upd_same, fun dx hd ne => ⟨rfl, dx, [("value", v)], upd_same, ?_, ?_, ?_⟩⟩⟩
  · rw [upd_ne ne, upd_same]
  · rw [upd_ne ne] at hd
    exact hd
  · have hd' : H dx = none := by
      rw [upd_ne ne] at hd
      exact hd
    have e : upd (del (upd (upd (upd H a (exo a C none)) dx (exd dx [("value", v)])) a (exo a C (some dx))) a) dx (.xd [("value", v)]) = upd H dx (.xd [("value", v)]) := by
      funext b
      by_cases hb : b = dx
      · rw [hb, upd_same, upd_same]
      · rw [upd_ne hb, upd_ne hb]
        by_cases ha' : b = a
        · rw [ha', del_same, ha]
        · rw [del_ne ha', upd_ne ha', upd_ne hb, upd_ne ha']
    rw [e]
    exact h dx hd'
section
variable {X : Cx} {k j : Nat} {x : Str} {sp : Sp} {p pos pos2 : Pos} {e : Expr} {es : List Expr} {t : TA} {te : TE} {W : WX} {C : Addr}
def tRaiseE (C : Addr) (W : WX) (te : TE) : TS := fun _ σ H => te σ H fun v H1 => rRaise C (fun cls d H' => W cls d σ H') v H1
theorem ps_raiseE (hc : X.calm = true) (c : ErrC X.prog X.w X.K X.mg X.base x C) (hr : Room j X.A) (hj : 2 ≤ j) (tk : Takes X W) (he : PE X e te) (hg : Gl X x)
    (hdb : (x == ("__debug__" : Str)) = false := by decide)
    (hs : starEach (e :: []) X.env = (false, eval e X.env) :: starEach [] X.env := by rfl) (hpl : (backTo pos (starEach [] X.env)).any (·.1) = false := by rfl) :
    PS X (.Raise (some (.Call (.Name x p) [e] [] pos)) none pos2) (tRaiseE C W te) := by
  obtain ⟨T, g, no, fI, fd, iC, tI, F, b⟩ := c
  exact ps_raise hc tk (pmk_oex (dvs := []) T iC tI F (hr.mono hj) b .nil pass0 hg g (pa_cons he pa_nil hs) hdb hs hpl)
/-- a def that is called by its name and may let an error out -/
structure CalX (P : Program) (w : World) (K : PySem.W.Frag) (mg : Str → Option Value) (base : Heap) (k : Nat) (x : Str) (sp : Sp) : Prop where
  ex : ∃ (f : Addr) (fd : FuncData) (ps : List Str), FnOk P w K mg base (L2.CX P w) k f fd ps sp ∧
    mg x = some (.ref f) ∧ PySem.W.keepIn K (.ref f) = true ∧ Binds K fd ps []
theorem pe_calX (tk : Takes X W) (c : CalX X.prog X.w X.K X.mg X.base k x sp) (hr : Room j X.A) (hk : k ≤ j) (hg : Gl X x) (ha : PA X (e :: es) t)
    (hdb : (x == ("__debug__" : Str)) = false := by decide)
    (he : starEach (e :: es) X.env = (false, eval e X.env) :: starEach es X.env := by rfl)
    (hpl : (backTo pos (starEach es X.env)).any (·.1) = false := by rfl) :
    PE X (.Call (.Name x p) (e :: es) [] pos) (tCallS sp (WE W) t) := by
  obtain ⟨f, fd, ps, F, hm, kp, b⟩ := c.ex
  exact pe_callS F (hr.mono hk) hg hm kp b (fun σ => passAt tk σ) ha hdb he hpl
end
end L2

/-! a caught error that is looked at: handed to a def within the except suite, its classes, its field -/
namespace L2
open PySem PySem.Spec PyProof.Rows
/-- what a def promises that is handed the error of the suite: at a, of the class at C, with the dict d -/
structure FnE (P : Program) (w : World) (K : PySem.W.Frag) (mg : Str → Option Value) (base : Heap) (k : Nat) (f : Addr) (fd : FuncData) (ps : List Str) (sp : Addr → Addr → Addr → Sp) : Prop where
  many : ∀ a C d vs H Q E, sp a C d vs H Q E → vs.length = ps.length
  go : ∀ (A : Around) (below : List Env) (s : Shared) (H : Hp) (given : Args) (us : List Value) (vs : List V) (Q : VK) (E : XK) (q : Addr × Obj) (C d : Addr), L2H.RoomH k A → L2H.PinOk below H s q → Zc (.ref C) (some d) q.2 → (∃ ws, q.2.data = .fields ws) →
    Env0 P w K mg base A below s H → BindsTo s fd given (ps.zip us) → Vals vs us → sp q.1 C d vs H Q E → codeAny (model P w) A (.call (.ref f) given) (CR CX0 below P w H s Q E) s
/-- the context that such a def's body runs in -/
abbrev cxE (P : Program) (w : World) (K : PySem.W.Frag) (mg : Str → Option Value) (base : Heap) (N : List Str) (qual : Str) (sc : Scope) (f : Addr) (cd : Value) (A : Around) (below : List Env) (s : Shared) (H : Hp) (E : XK) (q : Addr × Obj) : Cx :=
  L2H.cxH CX0 P w K mg base N qual sc f cd A below s H E q
theorem Fun.okE {P : Program} {w : World} {K : PySem.W.Frag} {mg : Str → Option Value} {base : Heap} {x qual : Str} {st : Stmt} {f : Addr} {fd : FuncData} {N ps : List Str} {k : Nat} {sp : Addr → Addr → Addr → Sp} (F : Fun K x qual st f fd) (S : FnScope N ps (defScope st))
    (many : ∀ a C d vs H Q E, sp a C d vs H Q E → vs.length = ps.length)
    (body : ∀ (cdv : Value) (A : Around) (below : List Env) (s : Shared) (H : Hp) (vs : List V) (Q : VK) (E : XK) (q : Addr × Obj) (C d : Addr), L2H.RoomH k (A.deeper (envOfC qual (defScope st) s.heap.objs.size f cdv)) → Zc (.ref C) (some d) q.2 → (∃ ws, q.2.data = .fields ws) → sp q.1 C d vs H Q E →
      ∃ t, PSs (cxE P w K mg base N qual (defScope st) f cdv A below s H E q) (defBody st) t ∧ t { nx := fun _ H' => Q .non H', rt := Q } (start N vs) H) : FnE P w K mg base (k + 1) f fd ps sp := by
  obtain ⟨oc, od, kV, doc, pm, an, cdv, ct, osl, rfl, lk, code⟩ := F.ex
  refine ⟨many, fun A below s H given us vs Q E q C d room pin hz hf env bnd rel want => ?_⟩
  have size := many _ _ _ _ _ _ _ want
  have inK : K.In s.heap := env.mod.kin.keeps fun b o z => (env.bs b o z).1
  have free : s.heap.NoLimit := env.mod.nolimit.keeps fun b o z => (env.bs b o z).1
  refine codeAny_call_function room.depth (inK _ _ lk) rfl S.co S.gen rfl (PySem.W.codeRec_of inK code) (bnd _ _ _ _ ?_)
  refine wpAny_newFunctionEnv_cells S.kind (fun ⟨n, v⟩ there => (S.par n (List.of_mem_zip there).1).elim .inl fun z => .inr ⟨z, PySem.W.cellsFrom_some _ _ _ (.inl z)⟩) fun env2 same s1 call => ?_
  subst same
  refine ⟨free.keeps call.toInCall.keep, codeAny_func ?_⟩
  obtain ⟨t, holds, ask⟩ := body cdv A below s H vs Q E q C d (room.deeper _) hz hf want
  refine wpAny_mono (holds.run [] s1 (start N vs) H _ (L2H.inv_startH S pin env size rel call) ask) (fun how s2 end_ => ?_) fun e s2 end_ => end_
  cases how with
  | ret u =>
    obtain ⟨v, τ, G, J, rv, z⟩ := end_
    exact ⟨v, G, J.os, J.bare, J.base, J.hok, rv, z⟩
  | next =>
    obtain ⟨τ, G, J, z⟩ := end_
    exact ⟨V.non, G, J.os, J.bare, J.base, J.hok, rfl, z⟩
  | brk => exact end_.elim fun _ z => z.elim fun _ y => y.2.elim
  | cont => exact end_.elim fun _ z => z.elim fun _ y => y.2.elim
/-- such a def, called by its name -/
structure CalE (P : Program) (w : World) (K : PySem.W.Frag) (mg : Str → Option Value) (base : Heap) (k : Nat) (x : Str) (sp : Addr → Addr → Addr → Sp) : Prop where
  ex : ∃ (f : Addr) (fd : FuncData) (ps : List Str), FnE P w K mg base k f fd ps sp ∧ mg x = some (.ref f) ∧ PySem.W.keepIn K (.ref f) = true ∧ Binds K fd ps []
def tCallE (a : Addr) (cls : Value) (d : Option Addr) (sp : Addr → Addr → Addr → Sp) (t : TA) : TE := fun σ H Q => t σ H fun vs H1 => ∃ C dd : Addr, cls = .ref C ∧ d = some dd ∧ sp a C dd vs H1 Q E0
section
variable {X : Cx} {k j : Nat} {x : Str} {sp : Addr → Addr → Addr → Sp} {p pos : Pos} {e : Expr} {es : List Expr} {t : TA} {te : TE} {a : Addr} {oe : Obj} {cls : Value} {d : Option Addr} {pn : List (Addr × Obj)}
theorem pe_callE (c : CalE X.prog X.w X.K X.mg X.base k x sp) (hr : Room j X.A) (hk : k ≤ j) (hz : Zc cls d oe) (hf : ∃ vs, oe.data = .fields vs) (hg : Gl (X.suite a ((a, oe) :: pn)) x) (ha : PA (X.suite a ((a, oe) :: pn)) (e :: es) t)
    (hdb : (x == ("__debug__" : Str)) = false := by decide)
    (he : starEach (e :: es) X.env = (false, eval e X.env) :: starEach es X.env := by rfl)
    (hpl : (backTo pos (starEach es X.env)).any (·.1) = false := by rfl) :
    PE (X.suite a ((a, oe) :: pn)) (.Call (.Name x p) (e :: es) [] pos) (tCallE a cls d sp t) := by
  obtain ⟨f, fd, ps, F, hm, kp, b⟩ := c.ex
  refine ⟨fun pins s σ H Q I h => ?_⟩
  refine wpAny_Call_Name_kw (ld_glob I hg hm ?_ hdb)
  refine PySem.W.callWith_K (h₀ := X.base) I.ok.mod.kin kp (thn (ha.run pos pins s σ H _ I h) fun us s1 ⟨vs, H1, I1, r, C, dd, ec, ed, q⟩ => ⟨I1.kIn, ?_⟩) he hpl
  subst ec
  subst ed
  have size : us.length = ps.length := by rw [← r.length]; exact F.many _ _ _ _ _ _ _ q
  have bnd := b s1 us I1.kIn (by rw [List.append_nil]; exact size)
  rw [List.append_nil] at bnd
  obtain ⟨p1, p2, p3, p4, p5⟩ := I1.pin (a, oe) (List.mem_append_left _ List.mem_cons_self)
  have pin : L2H.PinOk (X.suite a ((a, oe) :: pn)).stack H1 s1 (a, oe) := ⟨p1, p2, fun z => (List.mem_cons.mp (I1.stkSub a z)).elim p3 p4, p5⟩
  refine wpAny_call (codeAny_mono (F.go _ _ s1 H1 ⟨us, []⟩ us vs Q E0 (a, oe) C dd ((⟨hr.dp, hr.un⟩ : L2H.RoomH j (X.suite a ((a, oe) :: pn)).A).mono hk) pin hz hf I1.env0 bnd r q) fun how s2 end_ => ?_)
  cases how with
  | error u => exact False.elim end_
  | ok fl =>
    cases fl with
    | ret u => exact I1.after end_
    | next => exact False.elim end_
    | brk => exact False.elim end_
    | cont => exact False.elim end_
/-- what an error class must say, so that its instances can be looked at -/
structure ErrI (K : PySem.W.Frag) (C : Addr) : Prop where
  cl : (PySem.W.clsIn K C).isSome = true
  ga : PySem.W.findIn K (.ref C) "__getattribute__" = some (some (.builtin "BaseException.__getattribute__"))
  gg : PySem.W.findIn K (.ref C) "__getattr__" = some none
  be : PySem.W.subIn K (.ref C) (.type "BaseException") = some true
  hd : PySem.W.hasDictIn K C = true
  cc : PySem.W.findIn K (.ref C) "__class__" = some (some (.builtin "object.__class__"))
  gt : PySem.W.specialIn K (.builtin "object.__class__") "__get__" = some (some (.builtin "getset_descriptor.__get__"))
  tk : PySem.W.takesIn K (.builtin "object.__class__") = some true
  ob : PySem.W.mroIn K C (.type "object") = some true
  no : PySem.W.findIn K (.ref C) "value" = some none
theorem pin_inst {pins : List (Addr × Obj)} {s : Shared} {σ : St} {H : Hp} {C dd : Addr} {fs : List (Str × V)} (I : Inv X pins σ H s) (hp : (a, oe) ∈ X.pn) (hz : Zc (.ref C) (some dd) oe) (hf : ∃ vs, oe.data = .fields vs) (ed : H dd = some (.xd fs)) :
    ∃ (od : Obj) (mA : Str → Option Value), PySem.W.InstAt s.heap a oe C (some od) ∧ (∀ f, PySem.W.lookIn f od = some (mA f)) ∧ ∀ f, RelO (fs.lookup f) (mA f) := by
  obtain ⟨p1, _⟩ := I.pin (a, oe) (List.mem_append_left _ hp)
  obtain ⟨vs, hd⟩ := hf
  obtain ⟨mA, hns, rel⟩ := (show ObjOk X.prog X.w H s.heap dd (.xd fs) from I.hok dd _ ed)
  obtain ⟨od, ho, hl⟩ := lookIn_ns hns
  exact ⟨od, mA, ⟨p1, hz.1, by unfold PySem.W.notCls; rw [hd] <;> rfl, by rw [hz.2]; exact ho⟩, hl, rel⟩
/-- isinstance(e, c), e the error -/
def rIsX (K : PySem.W.Frag) (a C dd : Addr) : List V → Hp → VK → Prop := fun xs H Q => ∃ (fs : List (Str × V)) (c : V) (cv : Value) (b : Bool), xs = [.ref a, c] ∧ H dd = some (.xd fs) ∧ ErrI K C ∧ ClsV c cv ∧ PySem.W.kitOne K (.ref C) cv = some b ∧ Q (.bl b) H
theorem call_isX {C dd : Addr} (hp : (a, oe) ∈ X.pn) (hz : Zc (.ref C) (some dd) oe) (hf : ∃ vs, oe.data = .fields vs) : CallR X (.builtin "isinstance") (rIsX X.K a C dd) := by
  intro pins s σ H xs us Q I r h
  obtain ⟨fs, c, cv, b, rfl, ed, T, k, e, q⟩ := h
  obtain ⟨u1, u2, rfl, r1, r2⟩ := vals2 r
  have e2 := k.eq r2
  subst e2
  obtain rfl : u1 = Value.ref a := r1
  obtain ⟨od, mA, J, _, _⟩ := pin_inst I hp hz hf ed
  exact PySem.W.kia_one (PySem.W.kitx_exc T.cl T.ga T.gg T.be T.cc T.gt T.tk T.ob) I.kIn J e (fun z => nomatch z) fun tk => ⟨.bl b, H, I.tok tk, rfl, q⟩
/-- isinstance(e, (c1, c2, ..)) -/
def rIsXT (K : PySem.W.Frag) (a C dd : Addr) : List V → Hp → VK → Prop := fun xs H Q => ∃ (fs : List (Str × V)) (tp : Addr) (cs : List V) (us : List Value) (b : Bool), xs = [.ref a, .ref tp] ∧ H dd = some (.xd fs) ∧ ErrI K C ∧ H tp = some (.tup cs) ∧ Paired ClsV cs us ∧
  PySem.W.kitAny K (.ref C) us = some b ∧ Q (.bl b) H
theorem call_isXT {C dd : Addr} (hp : (a, oe) ∈ X.pn) (hz : Zc (.ref C) (some dd) oe) (hf : ∃ vs, oe.data = .fields vs) : CallR X (.builtin "isinstance") (rIsXT X.K a C dd) := by
  intro pins s σ H xs us Q I r h
  obtain ⟨fs, tp, cs, ws, b, rfl, ed, T, hT, k, e, q⟩ := h
  obtain ⟨u1, u2, rfl, r1, r2⟩ := vals2 r
  obtain rfl : u1 = Value.ref a := r1
  obtain rfl : u2 = Value.ref tp := r2
  obtain ⟨od, mA, J, _, _⟩ := pin_inst I hp hz hf ed
  obtain ⟨_, its, rv, o, g1, g2, n, g3⟩ := (show ObjOk X.prog X.w H s.heap tp (.tup cs) from I.hok tp _ hT)
  have e3 := ClsV.all k rv
  subst e3
  obtain ⟨oc, o2, dt, sl⟩ := o
  simp only at g2 g3
  subst g2 g3
  exact PySem.W.kia_tup (PySem.W.kitx_exc T.cl T.ga T.gg T.be T.cc T.gt T.tk T.ob) I.kIn J g1 e (fun z => nomatch z) fun tk => ⟨.bl b, H, I.tok tk, rfl, q⟩
/-- e.value -/
def tXfA (K : PySem.W.Frag) (a : Addr) (cls : Value) (d : Option Addr) (te : TE) : TE := fun σ H Q => te σ H fun x H1 => x = .ref a ∧ ∃ (C dd : Addr) (v : V), cls = .ref C ∧ d = some dd ∧ ErrI K C ∧ H1 dd = some (.xd [("value", v)]) ∧ Q v H1
theorem pe_xfA (hz : Zc cls d oe) (hf : ∃ vs, oe.data = .fields vs) (he : PE (X.suite a ((a, oe) :: pn)) e te) (hb : attributeBase e "value" X.env (eval e X.env) = eval e X.env := by rfl) :
    PE (X.suite a ((a, oe) :: pn)) (.Attribute e "value" pos) (tXfA X.K a cls d te) := by
  refine ⟨fun pins s σ H Q I h => ?_⟩
  refine attr_of hb (thn (he.run pins s σ H _ I h) fun u s1 hh => ?_)
  obtain ⟨x, H1, I1, rx, ex, C, dd, v, ec, ed, T, hd, q⟩ := hh
  subst ex
  obtain rfl : u = Value.ref a := rx
  subst ec
  subst ed
  obtain ⟨od, mA, J, hl, rel⟩ := pin_inst I1 List.mem_cons_self hz hf hd
  obtain ⟨u, hu, ru⟩ := RelO.some_of (v := v) (o := mA "value") (by
    have z := rel "value"
    rw [show List.lookup ("value" : Str) [(("value" : Str), v)] = some v by simp [List.lookup]] at z
    exact z)
  exact HandSPX.exc_get I1.kIn J T.ga T.gg T.be (PySem.W.findObj_own T.hd T.no rfl (by rw [hl, hu])) (handed_of ru) ⟨v, H1, I1.tok _, ru, q⟩
end
end L2
namespace Gc
open PySem PySem.Spec PyProof.Rows L2
/-- a def that may let an error out, called by names alone -/
structure CalKX (P : Program) (w : World) (K : PySem.W.Frag) (mg : Str → Option Value) (base : Heap) (k : Nat) (x : Str) (ks : List Str) (sp : Sp) : Prop where
  ex : ∃ (f : Addr) (fd : FuncData) (ps : List Str), FnOk P w K mg base (L2.CX P w) k f fd ps sp ∧ mg x = some (.ref f) ∧ PySem.W.keepIn K (.ref f) = true ∧ KBinds K fd ps ks gRev gRev
def tCallKX (sp : Sp) (W : WX) (tk : TA) : TE := fun σ H Q => tk σ H fun zs H2 => sp (gRev [] zs) H2 Q (WE W σ)
theorem pe_calKX {X : Cx} {W : WX} {k j : Nat} {x : Str} {ks : List Str} {sp : Sp} {p pos : Pos} {kws : List Keyword} {t : TA} (tk : Takes X W) (c : CalKX X.prog X.w X.K X.mg X.base k x ks sp) (hr : Room j X.A) (hk : k ≤ j) (hg : Gl X x) (hkw : PK X kws t)
    (hdb : (x == ("__debug__" : Str)) = false := by decide) (hall : (backToKw pos (keywordEach kws X.env)).all (·.1.isSome) = true := by rfl) (hks : (backToKw pos (keywordEach kws X.env)).filterMap (·.1) = ks := by rfl)
    (hpn : ((backTo pos (starEach [] X.env)).any (·.1) || (backToKw pos (keywordEach kws X.env)).any (·.1.isNone)) = false := by rfl) :
    PE X (.Call (.Name x p) [] kws pos) (tCallKX sp W t) := by
  obtain ⟨f, fd, ps, F, hm, kp, b⟩ := c.ex
  refine ⟨fun pins s σ H Q I h => ?_⟩
  refine wpAny_Call_Name_kw (ld_glob I hg hm ?_ hdb)
  refine PySem.W.callWith_KW0 (h₀ := X.base) I.ok.mod.kin kp hall ?_ hpn
  refine thn (hkw.run pos pins s σ H _ I h) fun ws s1 ⟨zs, H1, I1, rz, q⟩ => ⟨I1.kIn, ?_⟩
  rw [hks]
  have r2 := b.rel (us := []) (vs := []) .nil rz
  have size : (gRev [] ws).length = ps.length := by rw [← r2.length]; exact F.len _ _ _ _ q
  refine wpAny_call (codeAny_mono (F.run X.A X.stack s1 H1 ⟨[], ks.zip ws⟩ (gRev [] ws) (gRev [] zs) Q (WE W σ) (hr.mono hk) I1.env0 (b.to s1 [] ws I1.kIn size) r2 q) fun how s2 end_ => ?_)
  cases how with
  | error u => exact passAt tk σ pins H1 s1 u s2 I1 end_
  | ok fl =>
    cases fl with
    | ret u => exact I1.after end_
    | next => exact False.elim end_
    | brk => exact False.elim end_
    | cont => exact False.elim end_
end Gc
namespace L2
open PySem PySem.Spec PyProof.Rows
theorem takesNone {X : Cx} : Takes X (fun _ _ _ _ => False) := fun _ _ x => by
  obtain ⟨_, _, _, _, _, _, _, _, _, _, _, _, _, _, _, _, z⟩ := x
  exact z.elim
end L2

/-! own classes: instances made, methods, properties; all of them may raise -/
namespace L2
open PySem PySem.Spec PyProof.Rows
/-- a method of the class at C -/
structure Mth (P : Program) (w : World) (K : PySem.W.Frag) (mg : Str → Option Value) (base : Heap) (CX : CXT) (k : Nat) (C : Addr) (m : Str) (sp : Sp) : Prop where
  cls : Cls K C
  ex : ∃ (f : Addr) (fd : FuncData) (ps : List Str), Meth K C m f ∧ FnOk P w K mg base CX k f fd ps sp ∧ Binds K fd ps []
/-- .. called by names alone -/
structure MthK (P : Program) (w : World) (K : PySem.W.Frag) (mg : Str → Option Value) (base : Heap) (CX : CXT) (k : Nat) (C : Addr) (m : Str) (ks : List Str) (sp : Sp) : Prop where
  cls : Cls K C
  ex : ∃ (f : Addr) (fd : FuncData) (ps : List Str), Meth K C m f ∧ FnOk P w K mg base CX k f fd ps sp ∧ KBn K fd ps 1 ks Gc.gRev Gc.gRev
/-- the class x, with its __init__ -/
structure Mak (P : Program) (w : World) (K : PySem.W.Frag) (mg : Str → Option Value) (base : Heap) (CX : CXT) (k : Nat) (x : Str) (C : Addr) (sp : Sp) : Prop where
  g : mg x = some (.ref C)
  ex : ∃ (f : Addr) (fd : FuncData) (ps : List Str), Mk K C f ∧ FnOk P w K mg base CX k f fd ps sp ∧ Binds K fd ps []
structure MakK (P : Program) (w : World) (K : PySem.W.Frag) (mg : Str → Option Value) (base : Heap) (CX : CXT) (k : Nat) (x : Str) (C : Addr) (ks : List Str) (sp : Sp) : Prop where
  g : mg x = some (.ref C)
  ex : ∃ (f : Addr) (fd : FuncData) (ps : List Str), Mk K C f ∧ FnOk P w K mg base CX k f fd ps sp ∧ KBn K fd ps 1 ks Gc.gRev Gc.gRev
/-- a property -/
structure Prp (P : Program) (w : World) (K : PySem.W.Frag) (mg : Str → Option Value) (base : Heap) (k : Nat) (C : Addr) (m : Str) (sp : Sp) : Prop where
  cls : Cls K C
  ex : ∃ (p f : Addr) (fd : FuncData) (ps : List Str), PropOf K C m p f ∧ FnOk P w K mg base CX0 k f fd ps sp ∧ Binds K fd ps []
theorem bindsN {K : PySem.W.Frag} {x qual : Str} {st : Stmt} {f : Addr} {fd : FuncData} {ps ks : List Str} {n : Nat} (F : Fun K x qual st f fd)
    (h : ∀ (kV doc pm : Value) (an : Option Addr) (cdv ct : Value) (us ws : List Value), us.length = n → ws.length = ks.length → bindArgs (PySem.W.fnOf x qual (defArgs st) (defBody st) (defScope st) .none kV doc pm an cdv ct) ⟨us, ks.zip ws⟩ = pure (ps.zip (Gc.gRev us ws))) : KBn K fd ps n ks Gc.gRev Gc.gRev := by
  obtain ⟨oc, od, kV, doc, pm, an, cdv, ct, osl, rfl, lk, hcd⟩ := F.ex
  exact ⟨fun s us ws _ h1 h2 => .of_eq (h kV doc pm an cdv ct us ws h1 h2), fun a b => a.append (Gc.vals_rev b)⟩
section
variable {X : Cx} {k j : Nat} {f C : Addr} {fd : FuncData} {ps ks : List Str} {sp : Sp} {W : WX} {x m : Str} {p pos apos : Pos} {e o : Expr} {es : List Expr} {kws : List Keyword} {ta : TE} {t tk : TA} {pl : Sem Bool}
def tMX (C : Addr) (m : Str) (sp : Sp) (W : WX) (ta : TE) (t : TA) : TE := fun σ H Q => ta σ H fun x H1 => ∃ a dx fs, x = .ref a ∧ H1 a = some (.ins C dx fs) ∧ fs.lookup m = none ∧ t σ H1 fun vs H2 => sp (x :: vs) H2 Q (WE W σ)
def tMKX (C : Addr) (m : Str) (n : Nat) (sp : Sp) (W : WX) (ta : TE) (t : TA) : TE := fun σ H Q => ta σ H fun x H1 => ∃ a dx fs, x = .ref a ∧ H1 a = some (.ins C dx fs) ∧ fs.lookup m = none ∧ t σ H1 fun zs H2 => zs.length = n ∧ sp (Gc.gRev [x] zs) H2 Q (WE W σ)
/-- o.m(e, ..), m may raise -/
theorem pe_mthX (tk : Takes X W) (c : Mth X.prog X.w X.K X.mg X.base (L2.CX X.prog X.w) k C m sp) (hr : Room j X.A) (hk : k ≤ j) (he : PE X o ta) (ha : PA X (e :: es) t)
    (hst : starEach (e :: es) X.env = (false, eval e X.env) :: starEach es X.env := by rfl) (hpl : (backTo pos (starEach es X.env)).any (·.1) = false := by rfl)
    (ht : eval (.Call (.Attribute o m apos) (e :: es) [] pos) X.env = (do
      let ov ← eval o X.env
      standAt apos.atName
      let (f, first) ← holding [ov] (getMethod ov m pl)
      callWith pos f first (backTo pos (starEach (e :: es) X.env)) (backToKw pos (keywordEach [] X.env))) := by rfl) :
    PE X (.Call (.Attribute o m apos) (e :: es) [] pos) (tMX C m sp W ta t) := by
  obtain ⟨cl, f, fd, ps, hm, F, hb⟩ := c
  refine ⟨fun pins s σ H Q I h => ?_⟩
  refine PySem.W.methodCall_KW (pl := pl) (thn (he.run pins s σ H _ I h) fun u s1 ⟨x, H1, I1, rx, a, dx, fs, ex, ea, l, q⟩ => ?_) ht
  subst ex
  obtain rfl : u = Value.ref a := rx
  refine getmeth_ok I1 ea cl hm l ?_
  refine PySem.W.callWith_K (first := [.ref a]) (h₀ := X.base) I.ok.mod.kin hm.kp (thn (ha.run pos pins s1 σ H1 _ I1 q) fun us s2 ⟨vs, H2, I2, r, q2⟩ => ⟨I2.kIn, ?_⟩) hst hpl
  exact run_fnS (us := .ref a :: us) (vs := .ref a :: vs) F (hr.mono hk) hb (passAt tk σ) I2 (.cons rfl r) q2
/-- o.m(), m may raise -/
theorem pe_mthX0 (tk : Takes X W) (c : Mth X.prog X.w X.K X.mg X.base (L2.CX X.prog X.w) k C m sp) (hr : Room j X.A) (hk : k ≤ j) (he : PE X o ta)
    (ht : eval (.Call (.Attribute o m apos) [] [] pos) X.env = (do
      let ov ← eval o X.env
      standAt apos.atName
      let (f, first) ← holding [ov] (getMethod ov m pl)
      callWith pos f first (backTo pos (starEach [] X.env)) (backToKw pos (keywordEach [] X.env))) := by rfl) :
    PE X (.Call (.Attribute o m apos) [] [] pos) (tMX C m sp W ta tNil) := by
  obtain ⟨cl, f, fd, ps, hm, F, hb⟩ := c
  refine ⟨fun pins s σ H Q I h => ?_⟩
  refine PySem.W.methodCall_KW (pl := pl) (thn (he.run pins s σ H _ I h) fun u s1 ⟨x, H1, I1, rx, a, dx, fs, ex, ea, l, q⟩ => ?_) ht
  subst ex
  obtain rfl : u = Value.ref a := rx
  refine getmeth_ok I1 ea cl hm l ?_
  exact PySem.W.callWith_K0 (first := [.ref a]) I1.kIn hm.kp (run_fnS (us := [.ref a]) (vs := [.ref a]) F (hr.mono hk) hb (passAt tk σ) I1 (.cons rfl .nil) q)
/-- o.m(k = v, ..), m may raise -/
theorem pe_mthKX (tk : Takes X W) (c : MthK X.prog X.w X.K X.mg X.base (L2.CX X.prog X.w) k C m ks sp) (hr : Room j X.A) (hk : k ≤ j) (he : PE X o ta) (hkw : PK X kws t)
    (hall : (backToKw pos (keywordEach kws X.env)).all (·.1.isSome) = true := by rfl) (hks : (backToKw pos (keywordEach kws X.env)).filterMap (·.1) = ks := by rfl)
    (hpn : ((backTo pos (starEach [] X.env)).any (·.1) || (backToKw pos (keywordEach kws X.env)).any (·.1.isNone)) = false := by rfl)
    (ht : eval (.Call (.Attribute o m apos) [] kws pos) X.env = (do
      let ov ← eval o X.env
      standAt apos.atName
      let (f, first) ← holding [ov] (getMethod ov m pl)
      callWith pos f first (backTo pos (starEach [] X.env)) (backToKw pos (keywordEach kws X.env))) := by rfl) :
    PE X (.Call (.Attribute o m apos) [] kws pos) (tMKX C m ks.length sp W ta t) := by
  obtain ⟨cl, f, fd, ps, hm, F, b⟩ := c
  refine ⟨fun pins s σ H Q I h => ?_⟩
  refine PySem.W.methodCall_KW (pl := pl) (thn (he.run pins s σ H _ I h) fun u s1 ⟨x, H1, I1, rx, a, dx, fs, ex, ea, l, q⟩ => ?_) ht
  subst ex
  obtain rfl : u = Value.ref a := rx
  refine getmeth_ok I1 ea cl hm l ?_
  refine PySem.W.callWith_KW0 (first := [.ref a]) (h₀ := X.base) I.ok.mod.kin hm.kp hall ?_ hpn
  refine thn (hkw.run pos pins s1 σ H1 _ I1 q) fun ws s2 ⟨zs, H2, I2, rz, lz, q2⟩ => ⟨I2.kIn, ?_⟩
  rw [hks]
  have r1 : Vals [V.ref a] [Value.ref a] := .cons rfl .nil
  have r2 := b.rel r1 rz
  refine wpAny_call (codeAny_mono (F.run X.A X.stack s2 H2 ⟨[.ref a], ks.zip ws⟩ (Gc.gRev [.ref a] ws) (Gc.gRev [.ref a] zs) Q (WE W σ) (hr.mono hk) I2.env0 (b.to s2 [.ref a] ws I2.kIn rfl (rz.length.symm.trans lz)) r2 q2) fun how s3 end_ => ?_)
  cases how with
  | error u => exact passAt tk σ pins H2 s2 u s3 I2 end_
  | ok fl =>
    cases fl with
    | ret u => exact I2.after end_
    | next => exact False.elim end_
    | brk => exact False.elim end_
    | cont => exact False.elim end_
def tMakX (C : Addr) (sp : Sp) (W : WX) (t : TA) : TE := fun σ H Q => t σ H fun vs H1 => ∀ x dx, H1 x = none → H1 dx = none → dx ≠ x →
  sp (.ref x :: vs) (upd (upd H1 dx (.own x)) x (.ins C dx [])) (fun v H2 => v = .non ∧ Q (.ref x) H2) (WE W σ)
def tMakKX (C : Addr) (m : Nat) (sp : Sp) (W : WX) (t : TA) : TE := fun σ H Q => t σ H fun zs H1 => zs.length = m ∧ ∀ x dx, H1 x = none → H1 dx = none → dx ≠ x →
  sp (Gc.gRev [.ref x] zs) (upd (upd H1 dx (.own x)) x (.ins C dx [])) (fun v H2 => v = .non ∧ Q (.ref x) H2) (WE W σ)
theorem madePass {X : Cx} {pins : List (Addr × Obj)} {σ : St} {H : Hp} {s : Shared} (tk : Takes X W) (I : Inv X pins σ H s) {u : Value} {s2 : Shared} (c : L2.CX X.prog X.w X.stack H s (WE W σ) u s2) : X.xe u s2 := passAt tk σ pins H s u s2 I c
/-- C(e, ..), __init__ may raise -/
theorem pe_makX (tk : Takes X W) (c : Mak X.prog X.w X.K X.mg X.base (L2.CX X.prog X.w) k x C sp) (hr : Room j X.A) (hk : k + 1 ≤ j) (hg : Gl X x) (ha : PA X (e :: es) t)
    (hdb : (x == ("__debug__" : Str)) = false := by decide) (he : starEach (e :: es) X.env = (false, eval e X.env) :: starEach es X.env := by rfl) (hpl : (backTo pos (starEach es X.env)).any (·.1) = false := by rfl) :
    PE X (.Call (.Name x p) (e :: es) [] pos) (tMakX C sp W t) := by
  obtain ⟨hm, f, fd, ps, M, F, hb⟩ := c
  refine ⟨fun pins s0 σ H0 Q I0 h0 => ?_⟩
  refine wpAny_Call_Name_kw (ld_glob I0 hg hm ?_ hdb)
  refine PySem.W.callWith_K (h₀ := X.base) I0.ok.mod.kin M.kp (thn (ha.run pos pins s0 σ H0 _ I0 h0) fun us s ⟨vs, H, I, r, h⟩ => ⟨I.kIn, ?_⟩) he hpl
  have hq := h (s.heap.objs.size + 1) s.heap.objs.size (I.hok.fresh (Nat.le_succ _)) (I.hok.fresh (Nat.le_refl _)) (Nat.ne_of_lt (Nat.lt_succ_self _))
  have I2 := Inv.made (C := C) I
  have r2 : Vals (V.ref (s.heap.objs.size + 1) :: vs) (Value.ref (s.heap.objs.size + 1) :: us) := .cons rfl r
  have hl : (Value.ref (s.heap.objs.size + 1) :: us ++ []).length = ps.length := by
    rw [List.append_nil, ← r2.length]
    exact F.len _ _ _ _ hq
  have b := hb _ (Value.ref (s.heap.objs.size + 1) :: us) I2.kIn hl
  rw [List.append_nil] at b
  refine wpAny_call (make_map (f := f) I.kIn M.makes M.init (beq_iff_eq.mp M.fn) (codeAny_mono (F.run _ X.stack _ _ ⟨Value.ref (s.heap.objs.size + 1) :: us, []⟩ (Value.ref (s.heap.objs.size + 1) :: us) _ _ (WE W σ) ((hr.mono hk).make C us [])
    (I2.env0.make C us []) b r2 hq) fun r s' hq' => ?_))
  cases r with
  | error e => exact madePass tk I2 hq'
  | ok fl =>
    cases fl with
    | ret u =>
      obtain ⟨v, H', I3, rv, ev, q3⟩ := I2.after hq'
      subst ev
      exact ⟨rv, ⟨V.ref (s.heap.objs.size + 1), H', I3, rfl, q3⟩⟩
    | next => exact False.elim hq'
    | brk => exact False.elim hq'
    | cont => exact False.elim hq'
/-- C(k = v, ..), __init__ may raise -/
theorem pe_makKX (tk : Takes X W) (c : MakK X.prog X.w X.K X.mg X.base (L2.CX X.prog X.w) k x C ks sp) (hr : Room j X.A) (hk : k + 1 ≤ j) (hg : Gl X x) (hkw : PK X kws t)
    (hdb : (x == ("__debug__" : Str)) = false := by decide) (hall : (backToKw pos (keywordEach kws X.env)).all (·.1.isSome) = true := by rfl) (hks : (backToKw pos (keywordEach kws X.env)).filterMap (·.1) = ks := by rfl)
    (hpl : ((backTo pos (starEach [] X.env)).any (·.1) || (backToKw pos (keywordEach kws X.env)).any (·.1.isNone)) = false := by rfl) :
    PE X (.Call (.Name x p) [] kws pos) (tMakKX C ks.length sp W t) := by
  obtain ⟨hm, f, fd, ps, M, F, hb⟩ := c
  refine ⟨fun pins s0 σ H0 Q I0 h0 => ?_⟩
  refine wpAny_Call_Name_kw (ld_glob I0 hg hm ?_ hdb)
  refine PySem.W.callWith_KW0 (h₀ := X.base) I0.ok.mod.kin M.kp hall ?_ hpl
  refine thn (hkw.run pos pins s0 σ H0 _ I0 h0) fun ws s ⟨zs, H, I, rz, l2, h⟩ => ⟨I.kIn, ?_⟩
  rw [hks]
  have hq := h (s.heap.objs.size + 1) s.heap.objs.size (I.hok.fresh (Nat.le_succ _)) (I.hok.fresh (Nat.le_refl _)) (Nat.ne_of_lt (Nat.lt_succ_self _))
  have I2 := Inv.made (C := C) I
  have r1 : Vals [V.ref (s.heap.objs.size + 1)] [Value.ref (s.heap.objs.size + 1)] := .cons rfl .nil
  have r2 := hb.rel r1 rz
  refine wpAny_call (make_map (f := f) I.kIn M.makes M.init (beq_iff_eq.mp M.fn) (codeAny_mono (F.run _ X.stack _ _ ⟨[Value.ref (s.heap.objs.size + 1)], ks.zip ws⟩ (Gc.gRev [Value.ref (s.heap.objs.size + 1)] ws) _ _ (WE W σ) ((hr.mono hk).make C [] (ks.zip ws))
    (I2.env0.make C [] (ks.zip ws)) (hb.to _ [Value.ref (s.heap.objs.size + 1)] ws I2.kIn rfl (rz.length.symm.trans l2)) r2 hq) fun r s' hq' => ?_))
  cases r with
  | error e => exact madePass tk I2 hq'
  | ok fl =>
    cases fl with
    | ret u =>
      obtain ⟨v, H', I3, rv, ev, q3⟩ := I2.after hq'
      subst ev
      exact ⟨rv, ⟨V.ref (s.heap.objs.size + 1), H', I3, rfl, q3⟩⟩
    | next => exact False.elim hq'
    | brk => exact False.elim hq'
    | cont => exact False.elim hq'
/-- o.m, a property -/
theorem pe_prp (c : Prp X.prog X.w X.K X.mg X.base k C m sp) (hr : Room j X.A) (hk : k + 1 ≤ j) (he : PE X o ta) (hab : attributeBase o m X.env (eval o X.env) = eval o X.env) : PE X (.Attribute o m pos) (tProp C sp [] E0 ta) := by
  obtain ⟨cl, p, f, fd, ps, hp, F, hb⟩ := c
  exact pe_prop he cl hp F (hr.mono hk) hb .nil pass0 hab
end
end L2

/-! a generator's for loop -/
namespace Gc
open PySem PySem.Spec PyProof.Rows GenW L2
section
variable {X : Cx}
/-- as tFor; the list: what is out so far -/
def tGFor (wi : TI) (g : TG) (tb : TGn) : TGn := fun D ys σ H => wi σ H fun J H1 => ∃ W : Nat → Nat → List V → L2.St → Hp → Prop, (∃ m, W 0 m ys σ H1) ∧ ∀ i m ys σ H, W i m ys σ H →
  (J.stop i H ∧ D.nx ys σ H) ∨ (J.go i H ∧ ∃ N : List V → L2.St → Hp → Prop, (∀ ys' σ' H', N ys' σ' H' → ∃ m', m' < m ∧ W (i + 1) m' ys' σ' H') ∧ ∀ x H', J.yld i H x H' → g x σ H' fun σ2 H2 => tb { D with nx := N, ct := N, bk := D.nx } ys σ2 H2)
theorem gs_for {iter tg : Expr} {body : List Stmt} {wi : TI} {g : TG} {tb : TGn} {pos : Pos} (hp : PassesOwn (model X.prog X.w) X.A X.env X.xe) (hc : X.calm = true) (hi : PI X tg iter wi) (hg : PG X tg g) (hb : GSs X body tb)
    (hs : ∀ x, foldedSetIterable iter X.env x = pure x := by intro _; rfl) : GS X (.For tg iter body [] pos) (tGFor wi g tb) := by
  refine ⟨fun A S ip R n ys s₀ c fs K J gd lv s σ H D gc hn k hI ht => ?_⟩
  rw [exec_For]
  refine seg_bind_wrap (wpAny_standAt ?_)
  obtain ⟨acc, cc, r, I⟩ := hI
  refine seg_bind_wrap ?_
  rw [gc.over]
  refine wpAny_mono (hi.run _ s σ H _ I ht) (fun v s1 h1 => ?_) fun x s' hx => k.exc n s₀ x s' hx
  refine seg_bind_wrap ?_
  rw [gc.over]
  refine wpAny_of_eq (hs v) ?_
  refine seg_bind_wrap (wpAny_standAt ?_)
  refine seg_bind_wrap ?_
  rw [gc.over]
  refine wpAny_holding (wpAny_mono h1 (fun itv s2 h2 => ?_) fun x s' hx => k.exc n s₀ x s' hx)
  obtain ⟨it, fp, tn, It0, H2, e, I2, T, st2, f2, W, ⟨m0, w0⟩, turn⟩ := h2
  subst e
  refine seg_call fun p => ?_
  have gl := fun (kk : Result → Sem PySem.Fin) => gc_loop (k := kk) (c' := .forLoop tg (.ref it) body [] X.env) (l := lv []) (kp := []) (p := p) gc rfl rfl
  have gl2 := fun (kk : Result → Sem PySem.Fin) => gc_loop (k := kk) (c' := .block [] X.env) (l := lv []) (kp := []) (p := p) gc rfl rfl
  have stat : ∀ {acc' : Array Value} {c' : Nat} {H' : Hp}, (∀ b ∈ fp, H' b = none) → ∀ b ∈ fp, FpOk X ((S, lstObj acc' c') :: ip) H' b := fun hn b hb => by
    obtain ⟨f0, f1, f2', f3, f4, f5⟩ := f2 b hb
    refine ⟨hn b hb, f1, f2', f3, f4, fun p hp => ?_⟩
    rcases List.mem_append.mp hp with q | q
    · exact f5 p (List.mem_append_left _ q)
    · rcases List.mem_cons.mp q with q | q
      · rw [q]
        exact f5 (S, lstObj acc cc) (List.mem_append_right _ List.mem_cons_self)
      · exact f5 p (List.mem_append_right _ (List.mem_cons_of_mem _ q))
  have fS : ∀ b ∈ fp, b ≠ S := fun b hb z => (f2 b hb).2.2.2.2.2 (S, lstObj acc cc) (List.mem_append_right _ List.mem_cons_self) z.symm
  have loop : ∀ (m i n : Nat) (ys : List V) (s₀ s : Shared) (σ : L2.St) (H : Hp), n + ys.length = sizeLine → W i m ys σ H → GI X S ip ys σ H s → tn i s.heap → (∀ b ∈ fp, H b = none) →
      Seg (model X.prog X.w) A R (GY X S) n s₀ (.forLoop tg (.ref it) body [] X.env) ((model X.prog X.w).den (.forLoop tg (.ref it) body [] X.env))
        (.ret (fun r => ((match r with | .ok f => (.pure f : Sem Flow) | .error e => .raise e).onRaise (cameBack X.env)).wrap K J gd lv) none (gd false) (lv []) c p [] :: fs) s := by
    intro m
    induction m using Nat.strongRecOn with
    | ind m ih =>
      intro i n ys s₀ s σ H hn w hI hst hfr
      have ee : ∀ (n : Nat) (s₀ : Shared) (x : Value) (s' : Shared), X.xe x s' → Seg (model X.prog X.w) A R (GY X S) n s₀ (.forLoop tg (.ref it) body [] X.env)
          ((do noteFrame x X.env; theTreesLotGoes x : Sem Unit).bind fun _ => .raise x)
          (.ret (fun r => ((match r with | .ok f => (.pure f : Sem Flow) | .error e => .raise e).onRaise (cameBack X.env)).wrap K J gd lv) none (gd false) (lv []) c p [] :: fs) s' := fun n s₀ x s' hx => by
        rw [Sem.bind_eq_wrap]
        refine seg_wrap ?_
        rw [(gl _).over]
        refine wpAny_bind (wpAny_mono (hp x s' hx) (fun _ s'' hcb => wpAny_theTreesLotGoes ?_) fun y s'' hcb => ?_)
        · exact seg_leaf (.error x) (seg_cameBack gc k hcb)
        · exact seg_leaf (.error y) (seg_cameBack gc k hcb)
      show Seg _ _ _ _ _ _ _ ((forTurn tg (.ref it) body [] X.env).onRaise (fun x => do noteFrame x X.env; theTreesLotGoes x)) _ _
      rw [Sem.onRaise_eq_wrap]
      simp only [forTurn]
      refine seg_bind_wrap (wpAny_standAt ?_)
      refine seg_bind_wrap ?_
      rw [(gl _).over]
      obtain ⟨acc, cc, r, I⟩ := hI
      rcases turn i m ys σ H w with ⟨stop, qn⟩ | ⟨go, N, hN, step⟩
      · refine wpAny_onRaise (wpAny_mono (T.done X rfl rfl rfl hc i _ s σ H X.xe I (stat hfr) hst stop) (fun a s4 ⟨ha, I4⟩ => ?_) fun x s4 hx => wpAny_standAt (ee n s₀ x s4 hx))
        subst ha
        refine seg_again rfl ?_
        show Seg _ _ _ _ _ _ _ (((execs [] X.env).onRaise (fun x => do noteFrame x X.env; theTreesLotGoes x)).bind fun f => .pure (.done f)) _ _
        exact seg_leaf (.ok .next) (k.ok n ys s₀ s4 .next hn ⟨σ, H, ⟨acc, cc, r, I4⟩, qn⟩)
      · refine wpAny_onRaise (wpAny_mono (T.item X rfl rfl rfl hc i _ s σ H X.xe I (stat hfr) hst go) (fun a s4 ⟨u, ha, h4⟩ => ?_) fun x s4 hx => wpAny_standAt (ee n s₀ x s4 hx))
        subst ha
        refine seg_bind_wrap ?_
        rw [(gl _).over]
        refine wpAny_mono h4 (fun _ s5 ⟨x, H5, I5, r5, y5, st5, fr5⟩ => ?_) fun x s' hx => ee n s₀ x s' hx
        have I5' := I5.pinned (stat fr5) (T.obj _ _ st5)
        refine seg_bind_wrap ?_
        rw [(gl _).over]
        refine wpAny_mono (hg.run _ s5 σ H5 x u _ I5' r5 (step x H5 y5)) (fun _ s6 ⟨σ6, H6, I6, q6⟩ => ?_) fun x s' hx => ee n s₀ x s' hx
        rw [Sem.bind_eq_wrap', Sem.wrap_wrap]
        have g6 := gl fun (r : Result) => ((match r with | .ok f => (.pure f : Sem Flow) | .error e => .raise e).onRaise (cameBack X.env)).wrap K J gd lv
        have G6 : GI X S (ip ++ pinsAt fp s5.heap) ys σ6 H6 s6 := ⟨acc, cc, r, I6⟩
        have gc6 : GC X S (ip ++ pinsAt fp s5.heap) A (.forLoop tg (.ref it) body [] X.env) _ id := { g6 with ip := fun p hp => (List.mem_append.mp hp).elim (gc.ip p) fun z => fS _ (of_pinsAt z).1 }
        have again : ∀ {n' : Nat} {ys7 : List V} {s₀7 s7 : Shared} {σ7 : L2.St} {H7 : Hp}, n' + ys7.length = sizeLine → GI X S (ip ++ pinsAt fp s5.heap) ys7 σ7 H7 s7 → N ys7 σ7 H7 →
            Seg (model X.prog X.w) A R (GY X S) n' s₀7 (.forLoop tg (.ref it) body [] X.env) (.pure (.again (.forLoop tg (.ref it) body [] X.env)))
              (.ret (fun r => ((match r with | .ok f => (.pure f : Sem Flow) | .error e => .raise e).onRaise (cameBack X.env)).wrap K J gd lv) none (gd false) (lv []) c p [] :: fs) s7 := fun {n' ys7 s₀7 s7 σ7 H7} hn7 G7 n7 => by
          obtain ⟨m', hm, w7⟩ := hN _ _ _ n7
          obtain ⟨acc7, cc7, r7, I7⟩ := G7
          have pin7 : ∀ b ∈ fp, ∀ o, s5.heap.get? b = some o → s7.heap.get? b = some o ∧ H7 b = none := fun b hb o e => by
            obtain ⟨z1, z2, _⟩ := I7.pin (b, o) (List.mem_append_right _ (List.mem_cons_of_mem _ (List.mem_append_right _ (mem_pinsAt hb e))))
            exact ⟨z1, z2⟩
          refine seg_again rfl (ih m' hm (i + 1) n' ys7 s₀7 s7 σ7 H7 hn7 w7 ⟨acc7, cc7, r7, I7.pins_of fun p hp => I7.pin p ?_⟩ (T.keep _ _ _ st5 fun b hb o e => (pin7 b hb o e).1) fun b hb => ?_)
          · rcases List.mem_append.mp (show p ∈ X.pn ++ ((S, lstObj acc7 cc7) :: ip) by first | exact List.mem_append_right _ hp | exact hp) with q | q
            · exact List.mem_append_left _ q
            · rcases List.mem_cons.mp q with q | q
              · exact List.mem_append_right _ (q ▸ List.mem_cons_self)
              · exact List.mem_append_right _ (List.mem_cons_of_mem _ (List.mem_append_left _ q))
          · obtain ⟨o, e, d⟩ := T.obj _ _ st5 b hb
            exact (pin7 b hb o e).2
        refine hb.run A S _ R n ys s₀ _ _ _ _ id id s6 σ6 H6 { D with nx := N, ct := N, bk := D.nx } gc6 hn ⟨fun n' ys' s₀' s3 f hn' hs => ?_, fun n' s₀' x s3 hx => ee n' s₀' x s3 hx⟩ G6 q6
        have un : ∀ {ys' : List V} {σ3 : L2.St} {H3 : Hp}, GI X S (ip ++ pinsAt fp s5.heap) ys' σ3 H3 s3 → GI X S ip ys' σ3 H3 s3 := fun {ys' σ3 H3} G3 => by
          obtain ⟨acc7, cc7, r7, I7⟩ := G3
          refine ⟨acc7, cc7, r7, I7.pins_of fun p hp => I7.pin p ?_⟩
          rcases List.mem_append.mp (show p ∈ X.pn ++ ((S, lstObj acc7 cc7) :: ip) by first | exact List.mem_append_right _ hp | exact hp) with q | q
          · exact List.mem_append_left _ q
          · rcases List.mem_cons.mp q with q | q
            · exact List.mem_append_right _ (q ▸ List.mem_cons_self)
            · exact List.mem_append_right _ (List.mem_cons_of_mem _ (List.mem_append_left _ q))
        cases f with
        | next =>
          obtain ⟨σ3, H3, I3, n3⟩ := hs
          exact again hn' I3 n3
        | cont =>
          obtain ⟨σ3, H3, I3, n3⟩ := hs
          exact again hn' I3 n3
        | brk =>
          obtain ⟨σ3, H3, I3, n3⟩ := hs
          exact seg_leaf (.ok .next) (k.ok n' ys' s₀' s3 .next hn' ⟨σ3, H3, un I3, n3⟩)
        | ret v =>
          obtain ⟨x, σ3, H3, I3, r3, n3⟩ := hs
          exact seg_leaf (.ok (.ret v)) (k.ok n' ys' s₀' s3 (.ret v) hn' ⟨x, σ3, H3, un I3, r3, n3⟩)
  exact loop m0 0 n ys s₀ s2 σ H2 hn w0 ⟨acc, cc, r, I2⟩ st2 fun b hb => (f2 b hb).1
end
/-- the turns of a generator's for over a walk -/
theorem gfor_it {J : It} {n : Nat} {G : Hp → Prop} {Y : Nat → Hp → V → Hp → Prop} (w : Walk J n G Y) {g : TG} {tb : TGn} {D : GEnds} {ys : List V} {σ : L2.St} {H : Hp} (Pv : Nat → List V → L2.St → Hp → Prop) (h0 : Pv 0 ys σ H) (hG : ∀ i ys σ H, i ≤ n → Pv i ys σ H → G H)
    (hs : ∀ i x ys σ H H', i < n → Pv i ys σ H → Y i H x H' → g x σ H' fun σ2 H2 => tb { D with nx := Pv (i + 1), ct := Pv (i + 1), bk := D.nx } ys σ2 H2) (hd : ∀ ys σ H, Pv n ys σ H → D.nx ys σ H) :
    ∃ W : Nat → Nat → List V → L2.St → Hp → Prop, (∃ m, W 0 m ys σ H) ∧ ∀ i m ys σ H, W i m ys σ H →
      (J.stop i H ∧ D.nx ys σ H) ∨ (J.go i H ∧ ∃ N : List V → L2.St → Hp → Prop, (∀ ys' σ' H', N ys' σ' H' → ∃ m', m' < m ∧ W (i + 1) m' ys' σ' H') ∧ ∀ x H', J.yld i H x H' → g x σ H' fun σ2 H2 => tb { D with nx := N, ct := N, bk := D.nx } ys σ2 H2) := by
  refine ⟨fun i m ys σ H => m = n - i ∧ i ≤ n ∧ Pv i ys σ H, ⟨n, by simp, Nat.zero_le _, h0⟩, ?_⟩
  rintro i m ys σ H ⟨rfl, hi, p⟩
  have q := hG i ys σ H hi p
  by_cases hlt : i < n
  · exact .inr ⟨w.goes i H hlt q, Pv (i + 1), fun ys' σ' H' p' => ⟨n - (i + 1), by omega, rfl, hlt, p'⟩, fun x H' y => hs i x ys σ H H' hlt p (w.yields i H x H' hlt q y)⟩
  · have e : i = n := by omega
    subst e
    exact .inl ⟨w.stops H q, hd ys σ H p⟩
end Gc

/-! generator defs: their rule, list(g(..)) -/
namespace Gc
open PySem PySem.Spec PyProof.Rows GenW L2
/-- a generator def, by its body -/
theorem gen_ok {P : Program} {w : World} {K : PySem.W.Frag} {mg : Str → Option Value} {base : Heap} {x qual : Str} {st : Stmt} {f : Addr} {fd : FuncData} {N ps : List Str} {k : Nat} {sp : SpG} (F : L2.Fun K x qual st f fd) (S : GScope N ps (defScope st)) (len : ∀ vs H Q E, sp vs H Q E → vs.length = ps.length)
    (hbody : ∀ (cdv : Value) (A : Around) (outer : List Env) (s : Shared) (H : Hp) (vs : List V) (Q : List V → Hp → Prop) (E : XK) (pn : List (Addr × Obj)), Room k (A.deeper (envOfC qual (defScope st) s.heap.objs.size f cdv)) → sp vs H Q E →
      ∃ t, GSs (gcxOf P w K mg base N qual (defScope st) f cdv A outer s H E pn) (defBody st) t ∧ t { nx := fun ys _ H' => Q ys H', rt := fun ys v H' => v = .non ∧ Q ys H' } [] (start N vs) H) : GFn P w K mg base (k + 1) f fd ps sp := by
  obtain ⟨oc, od, kV, doc, pm, an, cdv, ct, osl, rfl, lk, hcd⟩ := F.ex
  exact gfn_of lk hcd S len fun A outer s H vs Q E pn hr hsp => hbody cdv A outer s H vs Q E pn hr hsp
structure GCal (P : Program) (w : World) (K : PySem.W.Frag) (mg : Str → Option Value) (base : Heap) (k : Nat) (x : Str) (sp : SpG) : Prop where
  ex : ∃ (f : Addr) (fd : FuncData) (ps : List Str), GFn P w K mg base k f fd ps sp ∧ mg x = some (.ref f) ∧ PySem.W.keepIn K (.ref f) = true ∧ Binds K fd ps []
theorem gfn_mono {P : Program} {w : World} {K : PySem.W.Frag} {mg : Str → Option Value} {base : Heap} {j k : Nat} {f : Addr} {fd : FuncData} {ps : List Str} {sp : SpG} (F : GFn P w K mg base k f fd ps sp) : GFn P w K mg base k f fd ps sp := F
theorem noStop0 {K : PySem.W.Frag} : NoStop K E0 := fun _ _ _ h => h.elim
theorem passE0 {X : Cx} : Passes (CX X.prog X.w) X E0 := fun _ _ _ _ _ _ _ ⟨_, _, _, _, _, _, _, _, _, _, _, _, h⟩ => h.elim
section
variable {X : Cx} {k : Nat} {x : Str} {sp : SpG} {p p0 pos pos' : Pos} {e : Expr} {es : List Expr} {t : TA}
/-- list(g(..)), where nothing is raised -/
theorem pe_listGC (c : GCal X.prog X.w X.K X.mg X.base k x sp) (hr : Room (k + 3) X.A) (hg : Gl X x) (ha : PA X (e :: es) t) (hgl : Gl X "list") (hml : X.mg "list" = none)
    (hdb : (x == ("__debug__" : Str)) = false := by decide) (he : starEach (e :: es) X.env = (false, eval e X.env) :: starEach es X.env := by rfl) (hpl : (backTo pos' (starEach es X.env)).any (·.1) = false := by rfl)
    (he2 : starEach [.Call (.Name x p) (e :: es) [] pos'] X.env = (false, eval (.Call (.Name x p) (e :: es) [] pos') X.env) :: starEach [] X.env := by rfl) :
    PE X (.Call (.Name "list" p0) [.Call (.Name x p) (e :: es) [] pos'] [] pos) (tListG (tCallG sp [] E0 t)) := by
  obtain ⟨f, fd, ps, F, hm, kp, b⟩ := c.ex
  exact pe_listG (pgen_call F (hr.mono (by omega)) hg hm kp b .nil ha hdb he hpl) passE0 noStop0 hr hgl hml (by decide +kernel) (by decide) (by decide) he2
end
structure GCalK (P : Program) (w : World) (K : PySem.W.Frag) (mg : Str → Option Value) (base : Heap) (k : Nat) (x : Str) (ks : List Str) (sp : SpG) : Prop where
  ex : ∃ (f : Addr) (fd : FuncData) (ps : List Str), GFn P w K mg base k f fd ps sp ∧ mg x = some (.ref f) ∧ PySem.W.keepIn K (.ref f) = true ∧ KBinds K fd ps ks gRev gRev
def tCallGK (sp : SpG) (E : XK) (tk : TA) : TGen := fun σ H cont => tk σ H fun zs H2 => sp (gRev [] zs) H2 cont E
section
variable {X : Cx} {k : Nat} {x : Str} {ks : List Str} {sp : SpG} {p p0 pos pos' : Pos} {kws : List Keyword} {tk : TA}
theorem pgen_callK {E : XK} (c : GCalK X.prog X.w X.K X.mg X.base k x ks sp) (hr : Room k X.A) (hg : Gl X x) (hkw : PK X kws tk)
    (hdb : (x == ("__debug__" : Str)) = false := by decide) (hall : (backToKw pos (keywordEach kws X.env)).all (·.1.isSome) = true := by rfl) (hks : (backToKw pos (keywordEach kws X.env)).filterMap (·.1) = ks := by rfl)
    (hpn : ((backTo pos (starEach [] X.env)).any (·.1) || (backToKw pos (keywordEach kws X.env)).any (·.1.isNone)) = false := by rfl) :
    PGen X k (.Call (.Name x p) [] kws pos) (tCallGK sp E tk) E := by
  obtain ⟨f, fd, ps, F, hm, kp, b⟩ := c.ex
  refine ⟨fun pins s σ H cont I h => ?_⟩
  refine wpAny_Call_Name_kw (ld_glob I hg hm ?_ hdb)
  refine PySem.W.callWith_KW0 (h₀ := X.base) I.ok.mod.kin kp hall ?_ hpn
  refine thn (hkw.run pos pins s σ H _ I h) fun ws s1 ⟨zs, H1, I1, rz, q⟩ => ⟨I1.kIn, ?_⟩
  rw [hks]
  have r2 := b.rel (us := []) (vs := []) .nil rz
  have hl : (gRev [] ws).length = ps.length := by rw [← r2.length]; exact F.len _ _ _ _ q
  refine wpAny_call (codeAny_mono (F.run X.A X.stack s1 H1 ⟨[], ks.zip ws⟩ (gRev [] ws) (gRev [] zs) cont E hr I1.env0 (b.to s1 [] ws I1.kIn hl) r2 q) fun r s' hq => ?_)
  cases r with
  | error e => exact False.elim hq
  | ok fl =>
    cases fl with
    | ret u => exact ⟨H1, s1, [], I1, .nil, hq⟩
    | next => exact False.elim hq
    | brk => exact False.elim hq
    | cont => exact False.elim hq
theorem pe_listGK (c : GCalK X.prog X.w X.K X.mg X.base k x ks sp) (hr : Room (k + 3) X.A) (hg : Gl X x) (hkw : PK X kws tk) (hgl : Gl X "list") (hml : X.mg "list" = none)
    (hdb : (x == ("__debug__" : Str)) = false := by decide) (hall : (backToKw pos' (keywordEach kws X.env)).all (·.1.isSome) = true := by rfl) (hks : (backToKw pos' (keywordEach kws X.env)).filterMap (·.1) = ks := by rfl)
    (hpn : ((backTo pos' (starEach [] X.env)).any (·.1) || (backToKw pos' (keywordEach kws X.env)).any (·.1.isNone)) = false := by rfl)
    (he2 : starEach [.Call (.Name x p) [] kws pos'] X.env = (false, eval (.Call (.Name x p) [] kws pos') X.env) :: starEach [] X.env := by rfl) :
    PE X (.Call (.Name "list" p0) [.Call (.Name x p) [] kws pos'] [] pos) (tListG (tCallGK sp E0 tk)) :=
  pe_listG (pgen_callK c (hr.mono (by omega)) hg hkw hdb hall hks hpn) passE0 noStop0 hr hgl hml (by decide +kernel) (by decide) (by decide) he2
end
end Gc

/-! yield from a list -/
namespace L2
open PySem PySem.Spec PyProof.Rows
section
variable {prog : Program} {w : World} {A : Around} {E : Value → Shared → Prop} {s : Shared}
theorem special_list_item {it t : Addr} {i : Nat} {items : Array Value} {x : Value} {Q : Option Value → Shared → Prop} (hit : s.heap.IsListIter it t i) (ht : s.heap.IsList t items) (hx : items[i]? = some x)
    (hQ : ∀ h', h'.IsListIter it t (i + 1) → Heap.SameBut it s.heap h' → Q (some x) { s with heap := h' }) : wpAny (model prog w) A (callSpecial? (.ref it) "__next__") Q E s := by
  obtain ⟨o, ho, hc, hd⟩ := id hit
  obtain ⟨ol, hol, _, nl, hdl⟩ := ht
  refine wpAny_callSpecial?_slot (name := Str.ofString "__next__") hit.typeIs slot_listiter_next (wpAny_call_entry slot_listiter_next hit.typeIs entry_listiter_next ?_ (args_listiter_next _))
  show wpAny _ _ (field (.ref it) 0 >>= _) _ _ s
  refine wpAny_bind (wpAny_field ho hd (x := .ref t) rfl ?_)
  show wpAny _ _ (if (Value.ref t == Value.none) = true then _ else _) _ _ s
  rw [if_neg (show ¬ ((Value.ref t == Value.none) = true) from Bool.false_ne_true)]
  show wpAny _ _ (field (.ref it) 1 >>= _) _ _ s
  refine wpAny_bind (wpAny_field ho hd (x := .int i 0) rfl ?_)
  show wpAny _ _ (seqItems? (.ref t) >>= _) _ _ s
  refine wpAny_bind (wpAny_seqItems hol hdl ?_)
  simp only [Int.toNat_natCast, hx]
  refine wpAny_bind (wpAny_setField ho hd (by simp) (wpAny_pure ⟨x, rfl, hQ _ ?_ (Heap.SameBut.update ..)⟩))
  exact ⟨_, Heap.get?_update_self _ ho (Obj.isFreed_of_fields (Obj.data_mapFields hd _)), (Obj.cls_mapFields ..).trans hc, by
    rw [Obj.data_mapFields hd]; simp [rawInt]⟩
theorem special_list_end {it t : Addr} {i : Nat} {items : Array Value} {Q : Option Value → Shared → Prop} (hh : A.handled = none) (hit : s.heap.IsListIter it t i) (ht : s.heap.IsList t items) (hx : items[i]? = none)
    (hE : ∀ e h', StopX e h' → Heap.ExtBut it s.heap h' → E e { s with heap := h' }) : wpAny (model prog w) A (callSpecial? (.ref it) "__next__") Q E s := by
  obtain ⟨o, ho, hc, hd⟩ := id hit
  obtain ⟨ol, hol, _, nl, hdl⟩ := ht
  refine wpAny_callSpecial?_slot (name := Str.ofString "__next__") hit.typeIs slot_listiter_next (wpAny_call_entry slot_listiter_next hit.typeIs entry_listiter_next ?_ (args_listiter_next _))
  show wpAny _ _ (field (.ref it) 0 >>= _) _ _ s
  refine wpAny_bind (wpAny_field ho hd (x := .ref t) rfl ?_)
  show wpAny _ _ (if (Value.ref t == Value.none) = true then _ else _) _ _ s
  rw [if_neg (show ¬ ((Value.ref t == Value.none) = true) from Bool.false_ne_true)]
  show wpAny _ _ (field (.ref it) 1 >>= _) _ _ s
  refine wpAny_bind (wpAny_field ho hd (x := .int i 0) rfl ?_)
  show wpAny _ _ (seqItems? (.ref t) >>= _) _ _ s
  refine wpAny_bind (wpAny_seqItems hol hdl ?_)
  simp only [Int.toNat_natCast, hx]
  refine wpAny_bind (wpAny_rule (wpAny_bind (wpAny_setField ho hd (by simp) ?_)))
  show wpAny _ _ (newExc (.type "StopIteration") [] >>= _) _ _ _
  refine wpAny_bind ?_
  simp only [newExc, newTuple]
  refine wpAny_bind (wpAny_newObj_type ?_ (by size_fits))
  refine wpAny_bind (m := firstArgMember _ _) (wpAny_of_eq (a := Value.none) (by first | rfl | (simp only [firstArgMember]; rfl)) ?_)
  refine wpAny_newObj_type ?_ (by size_fits)
  simp only [raiseNew]
  refine wpAny_bind (wpAny_handled ?_)
  first | rw [show A.in1.handled = none from hh] | rw [hh]
  refine wpAny_bind (wpAny_pure (wpAny_throw ?_))
  refine hE _ _ ⟨_, _, _, rfl, Heap.get?_push_size _ rfl, rfl, rfl, ?_⟩ (((Heap.SameBut.update ..).extBut.push _).push _)
  first
    | rfl
    | (rw [Array.getElem?_append_left (by decide)]; rfl)
    | kernel_rfl
end
theorem close_list : typeLookup (.type "list_iterator") "close" = pure none := by rw [typeLookup_type, builtinLookup_eq_fast]; kernel_rfl
def tYfLst (K : PySem.W.Frag) (te : TE) : TYf := fun σ H Q => te σ H fun x H1 => ∃ a xs, x = .ref a ∧ H1 a = some (.lst xs) ∧ Q xs H1
section
variable {X : Cx} {e : Expr} {te : TE}
theorem yf_list (he : PE X e te) : YfE X e (tYfLst X.K te) := by
  refine ⟨fun pins s σ H Q I h => ?_⟩
  refine thn (he.run pins s σ H _ I h) fun v s1 ⟨x, H1, I1, r1, a, xs, ex, ha, hq⟩ => ?_
  subst ex
  obtain rfl : v = Value.ref a := r1
  obtain ⟨its, rits, ht', hz⟩ := I1.list (SqL.of ha)
  have ht : s1.heap.IsList a its.toArray := ht'.isList
  refine ⟨"list", ht.typeIs, by decide, wpAny_pyIter_list ht ?_⟩
  have ksz : ∀ b o, s1.heap.get? b = some o → b ≠ s1.heap.objs.size := fun b o e => Nat.ne_of_lt (Heap.lt_size e)
  have kp : ∀ b o, s1.heap.get? b = some o → (s1.heap.push { cls := .type "list_iterator", data := .fields #[.ref a, .int 0 0] }).get? b = some o := fun b o e => Heap.get?_push_of_some _ e
  have hat : ∀ {h h' : Heap}, h.IsList a its.toArray → (∀ o, h.get? a = some o → h'.get? a = some o) → h'.IsList a its.toArray := fun q k => q.at k
  refine ⟨s1.heap.objs.size, H1, xs, fun j h => h.IsListIter s1.heap.objs.size a j ∧ h.IsList a its.toArray, rfl, I1.kept (t' := s1.toks) kp, .inr I1.sz, Nat.ne_of_gt I1.lt, fun y c hy => ?_, I1.hok.fresh (Nat.le_refl _), fun p hp => ?_,
    ⟨⟨_, Heap.get?_push_size _ rfl, rfl, rfl⟩, hat ht fun o e => kp _ _ e⟩, ⟨⟨"list_iterator", fun j h q => ?_, close_list, by decide⟩, fun j h h' q hk => ?_, fun A' j x s2 Q' E' hA hx q hQ => ?_, fun A' s2 Q' E' hA q hE => ?_⟩, hq⟩
  · obtain ⟨v, o, ho, _⟩ := I1.cell y c hy
    exact ksz c o ho
  · exact ksz p.1 _ (I1.pin p hp).1
  · obtain ⟨⟨o, ho, hc, _⟩, _⟩ := q
    exact ⟨o, ho, hc⟩
  · obtain ⟨⟨o, ho, r⟩, o2, ho2, r2⟩ := q
    exact ⟨⟨o, hk _ o (.inl rfl) ho, r⟩, o2, hk _ o2 (.inr (by rw [ha]; exact fun z => by cases z)) ho2, r2⟩
  · obtain ⟨q1, q2⟩ := q
    obtain ⟨u, hu, ru⟩ := rits.get hx
    have hne : a ≠ s1.heap.objs.size := by
      obtain ⟨o, ho, _⟩ := ht
      exact ksz a o ho
    exact special_list_item q1 q2 (x := u) (by simpa using hu) fun h' q1' hs => hQ u h' s2.toks ru ⟨q1', hat q2 fun o e => hs.extBut _ _ hne e⟩ fun b o hb eb => hs.extBut b o hb eb
  · obtain ⟨q1, q2⟩ := q
    have hnone : its.toArray[xs.length]? = none := by
      have e := rits.length
      have e2 : its[xs.length]? = none := List.getElem?_eq_none_iff.mpr (by omega)
      simpa using e2
    exact special_list_end hA q1 q2 hnone fun e h' hS hk => hE e h' s2.toks hS fun b o hb eb => hk b o hb eb
end
end L2

/-! own classes: methods with *args, methods that are generators -/
namespace L2
open PySem PySem.Spec PyProof.Rows GenW
/-- a method that takes any number of arguments -/
structure MthR (P : Program) (w : World) (K : PySem.W.Frag) (mg : Str → Option Value) (base : Heap) (CX : CXT) (k : Nat) (C : Addr) (m : Str) (sp : Sp) : Prop where
  cls : Cls K C
  ex : ∃ f : Addr, Meth K C m f ∧ FnR P w K mg base CX k f sp
/-- a method that is a generator -/
structure GMth (P : Program) (w : World) (K : PySem.W.Frag) (mg : Str → Option Value) (base : Heap) (k : Nat) (C : Addr) (m : Str) (sp : SpG) : Prop where
  cls : Cls K C
  ex : ∃ (f : Addr) (fd : FuncData) (ps : List Str), Meth K C m f ∧ GFn P w K mg base k f fd ps sp ∧ Binds K fd ps []
section
variable {X : Cx} {k j : Nat} {f C : Addr} {sp : Sp} {W : WX} {m : Str} {pos apos : Pos} {e o : Expr} {es : List Expr} {ta : TE} {t : TA} {pl : Sem Bool}
theorem run_fnRX {pins : List (Addr × Obj)} {σ : L2.St} {H : Hp} {s : Shared} {Q : VK} {us : List Value} {vs : List V} (tk : Takes X W) (F : FnR X.prog X.w X.K X.mg X.base (L2.CX X.prog X.w) k f sp) (hr : Room k X.A) (I : Inv X pins σ H s) (r : Vals vs us)
    (h : sp vs H Q (WE W σ)) : wpAny (model X.prog X.w) X.A (call (.ref f) us) (EP X pins σ Q) X.xe s := by
  apply wpAny_call
  refine codeAny_mono (F X.A X.stack s H us vs Q (WE W σ) hr I.env0 r h) ?_
  rintro (u | fl) s1 z
  · exact passAt tk σ pins H s u s1 I z
  · cases fl with
    | ret u => exact I.after z
    | next => exact False.elim z
    | brk => exact False.elim z
    | cont => exact False.elim z
/-- o.m(e, ..) -/
theorem pe_mthR (tk : Takes X W) (c : MthR X.prog X.w X.K X.mg X.base (L2.CX X.prog X.w) k C m sp) (hr : Room j X.A) (hk : k ≤ j) (he : PE X o ta) (ha : PA X (e :: es) t)
    (hst : starEach (e :: es) X.env = (false, eval e X.env) :: starEach es X.env := by rfl) (hpl : (backTo pos (starEach es X.env)).any (·.1) = false := by rfl)
    (ht : eval (.Call (.Attribute o m apos) (e :: es) [] pos) X.env = (do
      let ov ← eval o X.env
      standAt apos.atName
      let (f, first) ← holding [ov] (getMethod ov m pl)
      callWith pos f first (backTo pos (starEach (e :: es) X.env)) (backToKw pos (keywordEach [] X.env))) := by rfl) :
    PE X (.Call (.Attribute o m apos) (e :: es) [] pos) (tMX C m sp W ta t) := by
  obtain ⟨cl, f, hm, F⟩ := c
  constructor
  intro pins s σ H Q I h
  refine PySem.W.methodCall_KW (pl := pl) (thn (he.run pins s σ H _ I h) ?_) ht
  rintro u s1 ⟨x, H1, I1, rx, a, dx, fs, rfl, ea, l, q⟩
  obtain rfl : u = Value.ref a := rx
  refine getmeth_ok I1 ea cl hm l ?_
  refine PySem.W.callWith_K (first := [.ref a]) (h₀ := X.base) I.ok.mod.kin hm.kp (thn (ha.run pos pins s1 σ H1 _ I1 q) ?_) hst hpl
  rintro us s2 ⟨vs, H2, I2, r, q2⟩
  exact ⟨I2.kIn, run_fnRX (us := .ref a :: us) (vs := .ref a :: vs) tk F (hr.mono hk) I2 (.cons rfl r) q2⟩
/-- o.m() -/
theorem pe_mthR0 (tk : Takes X W) (c : MthR X.prog X.w X.K X.mg X.base (L2.CX X.prog X.w) k C m sp) (hr : Room j X.A) (hk : k ≤ j) (he : PE X o ta)
    (ht : eval (.Call (.Attribute o m apos) [] [] pos) X.env = (do
      let ov ← eval o X.env
      standAt apos.atName
      let (f, first) ← holding [ov] (getMethod ov m pl)
      callWith pos f first (backTo pos (starEach [] X.env)) (backToKw pos (keywordEach [] X.env))) := by rfl) :
    PE X (.Call (.Attribute o m apos) [] [] pos) (tMX C m sp W ta tNil) := by
  obtain ⟨cl, f, hm, F⟩ := c
  constructor
  intro pins s σ H Q I h
  refine PySem.W.methodCall_KW (pl := pl) (thn (he.run pins s σ H _ I h) ?_) ht
  rintro u s1 ⟨x, H1, I1, rx, a, dx, fs, rfl, ea, l, q⟩
  obtain rfl : u = Value.ref a := rx
  refine getmeth_ok I1 ea cl hm l ?_
  exact PySem.W.callWith_K0 (first := [.ref a]) I1.kIn hm.kp (run_fnRX (us := [.ref a]) (vs := [.ref a]) tk F (hr.mono hk) I1 (.cons rfl .nil) q)
end
section
variable {X : Cx} {k j : Nat} {C : Addr} {m : Str} {sp : SpG} {p0 pos pos' apos : Pos} {o : Expr} {ta : TE} {pl : Sem Bool}
/-- list(o.m()), m a generator that raises nothing -/
theorem pe_listM (c : GMth X.prog X.w X.K X.mg X.base k C m sp) (hr : Room (k + 3) X.A) (he : PE X o ta) (hgl : Gl X "list") (hml : X.mg "list" = none)
    (ht : eval (.Call (.Attribute o m apos) [] [] pos') X.env = (do
      let ov ← eval o X.env
      standAt apos.atName
      let (f, first) ← holding [ov] (getMethod ov m pl)
      callWith pos' f first (backTo pos' (starEach [] X.env)) (backToKw pos' (keywordEach [] X.env))) := by rfl)
    (he2 : starEach [.Call (.Attribute o m apos) [] [] pos'] X.env = (false, eval (.Call (.Attribute o m apos) [] [] pos') X.env) :: starEach [] X.env := by rfl) :
    PE X (.Call (.Name "list" p0) [.Call (.Attribute o m apos) [] [] pos'] [] pos) (tListG (tMethG C m sp [] E0 ta tNil)) := by
  obtain ⟨cl, f, fd, ps, hm, F, b⟩ := c
  exact pe_listG (pgen_meth0 (pl := pl) he cl hm F (hr.mono (by omega)) b .nil ht) Gc.passE0 Gc.noStop0 hr hgl hml (by decide +kernel) (by decide) (by decide) he2
end
end L2

/-! own classes: classmethods called off the class; the class itself in a local name -/
namespace L2
open PySem PySem.Spec PyProof.Rows
/-- a classmethod of the class at C; its promise has the class first -/
structure CMth (P : Program) (w : World) (K : PySem.W.Frag) (mg : Str → Option Value) (base : Heap) (CX : CXT) (k : Nat) (C : Addr) (m : Str) (sp : Sp) : Prop where
  ex : ∃ (mc : Value) (p g : Addr), ClX.CRead K C mc ∧ ClX.CMet K C mc m p g ∧ FnR P w K mg base CX k g sp
theorem fnr_of {P : Program} {w : World} {K : PySem.W.Frag} {mg : Str → Option Value} {base : Heap} {CX : CXT} {k : Nat} {f : Addr} {fd : FuncData} {ps : List Str} {sp : Sp} (F : FnOk P w K mg base CX k f fd ps sp) (hb : Binds K fd ps []) : FnR P w K mg base CX k f sp := by
  intro A outer s H us vs Q E hr e0 r h
  have kin : K.In s.heap := e0.mod.kin.keeps fun b o e => (e0.bs b o e).1
  have hl : us.length = ps.length := by rw [← r.length]; exact F.len _ _ _ _ h
  have b := hb s us kin (by rw [List.append_nil]; exact hl)
  rw [List.append_nil] at b
  exact F.run A outer s H ⟨us, []⟩ us vs Q E hr e0 b r h
section
variable {X : Cx} {k j : Nat} {f C g : Addr} {sp : Sp} {W : WX} {m : Str} {pos apos : Pos} {e o fe : Expr} {es : List Expr} {ta tf : TE} {t : TA} {pl : Sem Bool}
theorem code_fnRX {pins : List (Addr × Obj)} {σ : L2.St} {H : Hp} {s : Shared} {Q : VK} {us : List Value} {vs : List V} (tk : Takes X W) (F : FnR X.prog X.w X.K X.mg X.base (L2.CX X.prog X.w) k f sp) (hr : Room k X.A) (I : Inv X pins σ H s) (r : Vals vs us)
    (h : sp vs H Q (WE W σ)) : codeAny (model X.prog X.w) X.A (.call (.ref f) ⟨us, []⟩) (fun r s' => match r with | .ok (.ret v) => EP X pins σ Q v s' | .ok _ => False | .error u => X.xe u s') s := by
  refine codeAny_mono (F X.A X.stack s H us vs Q (WE W σ) hr I.env0 r h) ?_
  rintro (u | fl) s1 z
  · exact passAt tk σ pins H s u s1 I z
  · cases fl with
    | ret u => exact I.after z
    | next => exact False.elim z
    | brk => exact False.elim z
    | cont => exact False.elim z
def tCMX (C : Addr) (sp : Sp) (W : WX) (ta : TE) (t : TA) : TE := fun σ H Q => ta σ H fun x H1 => x = .ref C ∧ t σ H1 fun vs H2 => sp (.ref C :: vs) H2 Q (WE W σ)
/-- e.m(..), e the class, m a classmethod that may raise -/
theorem pe_cmthX (tk : Takes X W) (c : CMth X.prog X.w X.K X.mg X.base (L2.CX X.prog X.w) k C m sp) (hr : Room j X.A) (hk : k ≤ j) (he : PE X o ta) (ha : PA X (e :: es) t)
    (hst : starEach (e :: es) X.env = (false, eval e X.env) :: starEach es X.env := by rfl) (hpl : (backTo pos (starEach es X.env)).any (·.1) = false := by rfl)
    (ht : eval (.Call (.Attribute o m apos) (e :: es) [] pos) X.env = (do
      let ov ← eval o X.env
      standAt apos.atName
      let (f, first) ← holding [ov] (getMethod ov m pl)
      callWith pos f first (backTo pos (starEach (e :: es) X.env)) (backToKw pos (keywordEach [] X.env))) := by rfl) :
    PE X (.Call (.Attribute o m apos) (e :: es) [] pos) (tCMX C sp W ta t) := by
  obtain ⟨mc, p, g, r, c, F⟩ := c
  constructor
  intro pins s σ H Q I h
  refine PySem.W.methodCall_KW (pl := pl) (thn (he.run pins s σ H _ I h) ?_) ht
  rintro u s1 ⟨x, H1, I1, rx, rfl, q⟩
  obtain rfl : u = Value.ref C := rx
  refine ClX.getmethcm_ok I1 r c fun s2 I2 => ?_
  refine ClX.callwith_cm I2 (ClX.base_none I1 (Nat.le_refl _)) c.fi (thn (ha.run pos _ s2 σ H1 _ I2 q) ?_) hst hpl
  rintro us s3 ⟨vs, H2, I3, rv, q2⟩
  refine ⟨⟨ClX.pin_at I3, I3.kIn⟩, ?_⟩
  refine thn (wpAny_call (PySem.W.method_call (ClX.pin_at I3) (code_fnRX (us := .ref C :: us) (vs := .ref C :: vs) tk F (hr.mono hk) I3 (.cons rfl rv) q2))) ?_
  intro _ _ y
  exact ClX.unpinE y
/-- the class at C called with these values -/
theorem run_makX {x : Str} {pins : List (Addr × Obj)} {σ : L2.St} {H : Hp} {s : Shared} {Q : VK} {us : List Value} {vs : List V} (tk : Takes X W) (c : Mak X.prog X.w X.K X.mg X.base (L2.CX X.prog X.w) k x C sp) (hr : Room j X.A) (hk : k + 1 ≤ j) (I : Inv X pins σ H s) (r : Vals vs us)
    (h : ∀ y dx, H y = none → H dx = none → dx ≠ y → sp (.ref y :: vs) (upd (upd H dx (.own y)) y (.ins C dx [])) (fun v H2 => v = .non ∧ Q (.ref y) H2) (WE W σ)) : wpAny (model X.prog X.w) X.A (call (.ref C) us) (EP X pins σ Q) X.xe s := by
  obtain ⟨hm, f, fd, ps, M, F, hb⟩ := c
  have hq := h (s.heap.objs.size + 1) s.heap.objs.size (I.hok.fresh (Nat.le_succ _)) (I.hok.fresh (Nat.le_refl _)) (Nat.ne_of_lt (Nat.lt_succ_self _))
  have I2 := Inv.made (C := C) I
  have r2 : Vals (V.ref (s.heap.objs.size + 1) :: vs) (Value.ref (s.heap.objs.size + 1) :: us) := .cons rfl r
  have hl : (Value.ref (s.heap.objs.size + 1) :: us ++ []).length = ps.length := by
    rw [List.append_nil, ← r2.length]
    exact F.len _ _ _ _ hq
  have b := hb _ (Value.ref (s.heap.objs.size + 1) :: us) I2.kIn hl
  rw [List.append_nil] at b
  have run := F.run _ X.stack _ _ ⟨Value.ref (s.heap.objs.size + 1) :: us, []⟩ (Value.ref (s.heap.objs.size + 1) :: us) _ _ (WE W σ) ((hr.mono hk).make C us []) (I2.env0.make C us []) b r2 hq
  refine wpAny_call (make_map (f := f) I.kIn M.makes M.init (beq_iff_eq.mp M.fn) (codeAny_mono run ?_))
  rintro (u | fl) s1 z
  · exact madePass tk I2 z
  · cases fl with
    | ret u =>
      obtain ⟨v, H', I3, rv, ev, q3⟩ := I2.after z
      subst ev
      exact ⟨rv, ⟨V.ref (s.heap.objs.size + 1), H', I3, rfl, q3⟩⟩
    | next => exact False.elim z
    | brk => exact False.elim z
    | cont => exact False.elim z
def tMakL (C : Addr) (sp : Sp) (W : WX) (tf : TE) (t : TA) : TE := fun σ H Q => tf σ H fun y H1 => y = .ref C ∧ tMakX C sp W t σ H1 Q
/-- y(e, ..), y the class at C -/
theorem pe_makL {x : Str} (tk : Takes X W) (c : Mak X.prog X.w X.K X.mg X.base (L2.CX X.prog X.w) k x C sp) (hr : Room j X.A) (hk : k + 1 ≤ j) (hf : PE X fe tf) (ha : PA X (e :: es) t)
    (ht : eval (.Call fe (e :: es) [] pos) X.env = (do callWith pos (← eval fe X.env) [] (backTo pos (starEach (e :: es) X.env)) (backToKw pos (keywordEach [] X.env))) := by rfl)
    (he : starEach (e :: es) X.env = (false, eval e X.env) :: starEach es X.env := by rfl) (hpl : (backTo pos (starEach es X.env)).any (·.1) = false := by rfl) :
    PE X (.Call fe (e :: es) [] pos) (tMakL C sp W tf t) := by
  constructor
  intro pins s σ H Q I h
  refine Call_ (thn (hf.run pins s σ H _ I h) ?_) ht
  rintro u s0 ⟨y, H0, I0, ry, rfl, h0⟩
  obtain rfl : u = Value.ref C := ry
  obtain ⟨_, _, _, _, M, _⟩ := id c
  refine PySem.W.callWith_K (h₀ := X.base) I0.ok.mod.kin M.kp (thn (ha.run pos pins s0 σ H0 _ I0 h0) ?_) he hpl
  rintro us s1 ⟨vs, H1, I1, r, q⟩
  exact ⟨I1.kIn, run_makX tk c hr hk I1 r q⟩
end
/-- a classmethod called by names alone -/
structure CMthK (P : Program) (w : World) (K : PySem.W.Frag) (mg : Str → Option Value) (base : Heap) (CX : CXT) (k : Nat) (C : Addr) (m : Str) (ks : List Str) (sp : Sp) : Prop where
  ex : ∃ (mc : Value) (p g : Addr) (fd : FuncData) (ps : List Str), ClX.CRead K C mc ∧ ClX.CMet K C mc m p g ∧ FnOk P w K mg base CX k g fd ps sp ∧ KBn K fd ps 1 ks Gc.gRev Gc.gRev
section
variable {X : Cx} {k j : Nat} {C : Addr} {sp : Sp} {W : WX} {m : Str} {ks : List Str} {pos apos : Pos} {o : Expr} {kws : List Keyword} {ta : TE} {t : TA} {pl : Sem Bool}
def tCMKX (C : Addr) (n : Nat) (sp : Sp) (W : WX) (ta : TE) (t : TA) : TE := fun σ H Q => ta σ H fun x H1 => x = .ref C ∧ t σ H1 fun zs H2 => zs.length = n ∧ sp (Gc.gRev [.ref C] zs) H2 Q (WE W σ)
theorem pe_cmthKX (tk : Takes X W) (c : CMthK X.prog X.w X.K X.mg X.base (L2.CX X.prog X.w) k C m ks sp) (hr : Room j X.A) (hk : k ≤ j) (he : PE X o ta) (hkw : PK X kws t)
    (hall : (backToKw pos (keywordEach kws X.env)).all (·.1.isSome) = true := by rfl) (hks : (backToKw pos (keywordEach kws X.env)).filterMap (·.1) = ks := by rfl)
    (hpl : ((backTo pos (starEach [] X.env)).any (·.1) || (backToKw pos (keywordEach kws X.env)).any (·.1.isNone)) = false := by rfl)
    (ht : eval (.Call (.Attribute o m apos) [] kws pos) X.env = (do
      let ov ← eval o X.env
      standAt apos.atName
      let (f, first) ← holding [ov] (getMethod ov m pl)
      callWith pos f first (backTo pos (starEach [] X.env)) (backToKw pos (keywordEach kws X.env))) := by rfl) :
    PE X (.Call (.Attribute o m apos) [] kws pos) (tCMKX C ks.length sp W ta t) := by
  obtain ⟨mc, p, g, fd, ps, r, c, F, b⟩ := c
  constructor
  intro pins s σ H Q I h
  refine PySem.W.methodCall_KW (pl := pl) (thn (he.run pins s σ H _ I h) ?_) ht
  rintro u s1 ⟨x, H1, I1, rx, rfl, q⟩
  obtain rfl : u = Value.ref C := rx
  refine ClX.getmethcm_ok I1 r c fun s2 I2 => ?_
  refine PySem.W.callWith_of hpl (PySem.W.keeps_M (K := X.K) (self := .ref C) c.fi) (evalArgs_kw2_nil hall (thn (hkw.run pos _ s2 σ H1 _ I2 q) ?_))
  rintro ws s3 ⟨zs, H2, I3, rz, lz, q2⟩
  refine ⟨⟨ClX.pin_at I3, I3.kIn⟩, ?_⟩
  rw [hks]
  have r1 : Vals [V.ref C] [Value.ref C] := .cons rfl .nil
  have r2 := b.rel r1 rz
  have run := F.run X.A X.stack s3 H2 ⟨[.ref C], ks.zip ws⟩ (Gc.gRev [.ref C] ws) (Gc.gRev [.ref C] zs) Q (WE W σ) (hr.mono hk) I3.env0 (b.to s3 [.ref C] ws I3.kIn rfl (rz.length.symm.trans lz)) r2 q2
  have run2 : codeAny (model X.prog X.w) X.A (.call (.ref g) ⟨[.ref C], ks.zip ws⟩) (fun r s' => match r with | .ok (.ret v) => EP X ((s1.heap.objs.size, PySem.W.methodObj (Value.ref g) (Value.ref C)) :: pins) σ Q v s' | .ok _ => False | .error u => X.xe u s') s3 := by
    refine codeAny_mono run ?_
    rintro (u | fl) s4 z
    · exact passAt tk σ _ H2 s3 u s4 I3 z
    · cases fl with
      | ret u => exact I3.after z
      | next => exact False.elim z
      | brk => exact False.elim z
      | cont => exact False.elim z
  refine thn (wpAny_call (PySem.W.method_call (ClX.pin_at I3) run2)) ?_
  intro _ _ y
  exact ClX.unpinE y
end
end L2

/-! min(x, y, key=f) for an own f that gives ints -/
namespace L2
open PySem PySem.Spec PyProof.Rows
section
variable {X : Cx} {n : Nat} {f : Addr} {sp : Sp} {A : Around} {pins : List (Addr × Obj)} {σ : St} {H : Hp} {s : Shared}
theorem key_call {EE : Value → Shared → Prop} {x : V} {u : Value} {m : Int} (sb : Sub X n A) (F : FnR X.prog X.w X.K X.mg X.base CX0 n f sp) (I : Inv X pins σ H s) (rv : RelV x u) (q : sp [x] H (fun v H2 => v = .int m ∧ Ext H H2) E0) :
    wpAny (model X.prog X.w) A (call (.ref f) [u]) (fun w s' => ∃ t H2, w = .int m t ∧ Inv X pins σ H2 s' ∧ Ext H H2) EE s := by
  have e0 : Env0 X.prog X.w X.K X.mg X.base A X.stack s H := by
    have e := I.env0
    exact ⟨by rw [sb.fr]; exact e.frames, e.mod, e.bs, e.bsz, e.funs, e.frf, e.hok, e.bare⟩
  refine wpAny_mono (wpAny_call (codeAny_mono (F A X.stack s H [u] [x] _ E0 sb.room e0 (.cons rv .nil) q) (R' := fun r s' => match r with | .ok (.ret w) => EP X pins σ (fun v H2 => v = .int m ∧ Ext H H2) w s' | .ok _ => False | .error e => EE e s') fun r s' hq => ?_)) (fun w s' z => ?_) fun _ _ x => x
  · cases r with
    | error e => exact hq.elim
    | ok fl =>
      cases fl with
      | ret w => exact I.after hq
      | next => exact False.elim hq
      | brk => exact False.elim hq
      | cont => exact False.elim hq
  · obtain ⟨z', H', I', rz, ez, ex⟩ := z
    subst ez
    obtain ⟨t, rfl⟩ := (show ∃ t, w = Value.int m t from rz)
    exact ⟨t, H', rfl, I', ex⟩
/-- the three own records of the walk -/
structure MinSt (X : Cx) (pins : List (Addr × Obj)) (σ : St) (H0 : Hp) (T It S : Addr) (its : Array Value) (i : Nat) (best : Array Value) (s : Shared) : Prop where
  inv : ∃ H', Inv X pins σ H' s ∧ Ext H0 H' ∧ ∀ b ∈ [T, It, S], FpOk X pins H' b
  it : s.heap.IsTupleIter It T i
  tup : s.heap.IsTuple T its
  lst : ∃ c, s.heap.get? S = some { cls := .type "list", dict := none, data := .seq best c, slots := #[] }
variable {T It S : Addr} {its best : Array Value} {i : Nat} {H0 : Hp}
theorem MinSt.key {EE : Value → Shared → Prop} {x : V} {u : Value} {m : Int} (M : MinSt X pins σ H0 T It S its i best s) (sb : Sub X n A) (F : FnR X.prog X.w X.K X.mg X.base CX0 n f sp) (rv : RelV x u) (q : ∀ H', Ext H0 H' → sp [x] H' (fun v H2 => v = .int m ∧ Ext H' H2) E0) :
    wpAny (model X.prog X.w) A (call (.ref f) [u]) (fun w s' => ∃ t, w = .int m t ∧ MinSt X pins σ H0 T It S its i best s') EE s := by
  obtain ⟨⟨H1, I1, e1, fp⟩, hi, ht, c, hl⟩ := M
  have ho : ∀ b ∈ [T, It, S], ∃ o, s.heap.get? b = some o ∧ ∀ v, o.data ≠ .cell v := fun b hb => by
    simp only [List.mem_cons, List.not_mem_nil, or_false] at hb
    rcases hb with rfl | rfl | rfl
    · obtain ⟨o, e, _, k, d⟩ := ht
      exact ⟨o, e, fun v z => by rw [d] at z; cases z⟩
    · obtain ⟨o, e, _, d⟩ := hi
      exact ⟨o, e, fun v z => by rw [d] at z; cases z⟩
    · exact ⟨_, hl, fun v z => by cases z⟩
  refine wpAny_mono (key_call sb F (I1.pinned fp ho) rv (q _ e1)) (fun w s' z => ?_) fun _ _ x => x
  obtain ⟨t, H2, rfl, I2, e2⟩ := z
  have pin : ∀ b ∈ [T, It, S], ∀ o, s.heap.get? b = some o → s'.heap.get? b = some o ∧ H2 b = none := fun b hb o e => by
    have p := I2.pin (b, o) (List.mem_append_right _ (List.mem_append_right _ (mem_pinsAt hb e)))
    exact ⟨p.1, p.2.1⟩
  refine ⟨t, rfl, ⟨H2, I2.unpinned, e1.trans e2, fun b hb => ?_⟩, ?_, ?_, c, (pin S (by simp) _ hl).1⟩
  · obtain ⟨o, e, _⟩ := ho b hb
    exact ⟨(pin b hb o e).2, (fp b hb).2⟩
  · obtain ⟨o, e, r⟩ := hi
    exact ⟨o, (pin It (by simp) o e).1, r⟩
  · obtain ⟨o, e, r⟩ := ht
    exact ⟨o, (pin T (by simp) o e).1, r⟩
theorem MinSt.next {EE : Value → Shared → Prop} {Q : Option Value → Shared → Prop} {u : Value} (M : MinSt X pins σ H0 T It S its i best s) (hh : A.handled = none) (d1 : T ≠ It) (d2 : S ≠ It) (hu : its[i]? = some u)
    (h : ∀ s', MinSt X pins σ H0 T It S its (i + 1) best s' → Q (some u) s') : wpAny (model X.prog X.w) A (pyNext (.ref It)) Q EE s := by
  obtain ⟨⟨H1, I1, e1, fp⟩, hi, ht, c, hl⟩ := M
  refine (Walks.tuple (prog := X.prog) (w := X.w) (A := A) hh It T d1 its).item i s Q EE (by
    by_cases z : i < its.size
    · exact z
    · rw [Array.getElem?_eq_none (Nat.le_of_not_lt z)] at hu; cases hu) ⟨hi, ht⟩ fun v h' tk hv st k => ?_
  have hv : its[i]? = some v := hv
  rw [hu] at hv
  cases hv
  refine h _ ⟨⟨H1, I1.turnedL (ch := [It]) k (fun b hb => fp b (by simp at hb; simp [hb])), e1, fp⟩, st.1, st.2, c, k S _ (by simpa using d2) hl⟩
theorem MinSt.done {EE : Value → Shared → Prop} {Q : Option Value → Shared → Prop} (M : MinSt X pins σ H0 T It S its its.size best s) (hh : A.handled = none) (d1 : T ≠ It) (d2 : S ≠ It)
    (h : ∀ s', (∃ H', Inv X pins σ H' s' ∧ Ext H0 H' ∧ FpOk X pins H' S) → (∃ c, s'.heap.get? S = some { cls := .type "list", dict := none, data := .seq best c, slots := #[] }) → Q none s') : wpAny (model X.prog X.w) A (pyNext (.ref It)) Q EE s := by
  obtain ⟨⟨H1, I1, e1, fp⟩, hi, ht, c, hl⟩ := M
  refine (Walks.tuple (prog := X.prog) (w := X.w) (A := A) hh It T d1 its).done s Q EE ⟨hi, ht⟩ fun h' tk k => ?_
  exact h _ ⟨H1, I1.turnedL (ch := [It]) k (fun b hb => fp b (by simp at hb; simp [hb])), e1, fp S (by simp)⟩ ⟨c, k S _ (by simpa using d2) hl⟩
theorem MinSt.put {b2 : Array Value} (M : MinSt X pins σ H0 T It S its i best s) (d1 : T ≠ S) (d2 : S ≠ It) :
    MinSt X pins σ H0 T It S its i b2 { s with heap := s.heap.update S (Obj.mapSeq fun _ => b2) } := by
  obtain ⟨⟨H1, I1, e1, fp⟩, hi, ht, c, hl⟩ := M
  have k : ∀ b o, b ∉ [S] → s.heap.get? b = some o → (s.heap.update S (Obj.mapSeq fun _ => b2)).get? b = some o := fun b o hb e => (Heap.get?_update_other _ _ (fun z => hb (by simp [z]))).trans e
  refine ⟨⟨H1, I1.turnedL (ch := [S]) (t' := s.toks) k (fun b hb => fp b (by simp at hb; simp [hb])), e1, fp⟩, ?_, ?_, _, Heap.get?_update_self _ hl rfl⟩
  · obtain ⟨o, e, r⟩ := hi
    exact ⟨o, k It o (by simpa using Ne.symm d2) e, r⟩
  · obtain ⟨o, e, r⟩ := ht
    exact ⟨o, k T o (by simpa using d1) e, r⟩
theorem mink_done {R : Result → Shared → Prop} {u b : Value} (M : MinSt X pins σ H0 T It S its its.size #[u, b] s) (hh : A.handled = none) (d1 : T ≠ It) (d2 : S ≠ It)
    (h : ∀ s', (∃ H', Inv X pins σ H' s' ∧ Ext H0 H') → R (.ok (.ret u)) s') : codeAny (model X.prog X.w) A (.builtin "min.loop" ⟨[.ref It, .ref f, .ref S], []⟩) R s := by
  obtain ⟨c, hl⟩ := M.lst
  refine codeAny_builtin PySem.F.entry_min_loop ?_
  rw [Around.under_plainId PySem.F.plain_min_loop _]
  show wpAny _ A.in1 (seqItems? (.ref S) >>= _) _ _ s
  refine wpAny_bind (wpAny_seqItems hl rfl ?_)
  show wpAny _ A.in1 (tryCatch (pyNext (.ref It)) _ >>= _) _ _ s
  refine wpAny_bind (wpAny_tryCatch (M.done (A := A.in1) hh d1 d2 fun s' ⟨H1, I1, e1, fp⟩ ⟨c, hl⟩ => ?_))
  show wpAny _ A.in1 (updateSeq S (fun _ => #[]) >>= _) _ _ _
  refine wpAny_bind ?_
  refine wpAny_updateSeq hl rfl (wpAny_bind (wpAny_letGo (wpAny_pure ?_)))
  have k : ∀ b o, b ∉ [S] → s'.heap.get? b = some o → (s'.heap.update S (Obj.mapSeq fun _ => #[])).get? b = some o := fun b o hb e => (Heap.get?_update_other _ _ (fun z => hb (by simp [z]))).trans e
  exact h _ ⟨H1, I1.turnedL (ch := [S]) (t' := s'.toks) k (fun b hb => by
    have : b = S := by simpa using hb
    rw [this]; exact fp), e1⟩
theorem mink_second {R : Result → Shared → Prop} {u0 u1 : Value} {y : V} {m k : Int} {t0 : Tok} (M : MinSt X pins σ H0 T It S #[u0, u1] 1 #[u0, .int m t0] s) (sb : Sub X (n + 1) A) (F : FnR X.prog X.w X.K X.mg X.base CX0 n f sp) (rv : RelV y u1)
    (q : ∀ H', Ext H0 H' → sp [y] H' (fun v H2 => v = .int k ∧ Ext H' H2) E0) (hh : A.handled = none) (d1 : T ≠ It) (d2 : S ≠ It) (d3 : T ≠ S)
    (h : ∀ s', (∃ H', Inv X pins σ H' s' ∧ Ext H0 H') → R (.ok (.ret (if k < m then u1 else u0))) s') : codeAny (model X.prog X.w) A (.builtin "min.loop" ⟨[.ref It, .ref f, .ref S], []⟩) R s := by
  have hname : (toString "min" ++ toString ".loop" : String) = "min.loop" := by decide
  obtain ⟨c, hl⟩ := M.lst
  refine codeAny_builtin PySem.F.entry_min_loop ?_
  rw [Around.under_plainId PySem.F.plain_min_loop _]
  show wpAny _ A.in1 (seqItems? (.ref S) >>= _) _ _ s
  refine wpAny_bind (wpAny_seqItems hl rfl ?_)
  show wpAny _ A.in1 (tryCatch (pyNext (.ref It)) _ >>= _) _ _ s
  refine wpAny_bind (wpAny_tryCatch (M.next (A := A.in1) (u := u1) hh d1 d2 rfl fun s1 M1 => ?_))
  show wpAny _ A.in1 (tryCatch (holding [u1] (call (.ref f) [u1])) _ >>= _) _ _ _
  refine wpAny_bind (wpAny_tryCatch (wpAny_holding (wpAny_mono (M1.key (A := A.in1) sb.in1 F rv q) (fun w s2 hw => ?_) fun _ _ x => x)))
  obtain ⟨t, rfl, M2⟩ := hw
  show wpAny _ A.in1 (tryCatch (holding [u1, .int k t] (richCompare .Lt (.int k t) (.int m t0) >>= _)) _ >>= _) _ _ _
  refine wpAny_bind (wpAny_tryCatch (wpAny_holding (wpAny_bind (CmpOf.ints_lt (P := fun i v => ∃ t, v = .int (if i = 0 then m else k) t) (fun i => if i = 0 then m else k) (fun _ _ h => h) 1 0 _ _ _ _ _ ⟨t, rfl⟩ ⟨t0, rfl⟩ ?_))))
  refine wpAny_bind (wpAny_holding (wpAny_truthy_bool ?_))
  refine wpAny_bind (wpAny_letGo (wpAny_pure ?_))
  obtain ⟨c2, hl2⟩ := M2.lst
  by_cases hb : k < m
  · have e : (decide ((if (1 : Nat) = 0 then m else k) < if (0 : Nat) = 0 then m else k)) = true := by simpa using hb
    rw [show (fun i j => decide ((if i = 0 then m else k) < if j = 0 then m else k)) (1 : Nat) (0 : Nat) = true from e]
    simp only [if_true]
    refine wpAny_bind ?_
    refine wpAny_updateSeq hl2 rfl (wpAny_bind (wpAny_letGo ?_))
    rw [hname]
    refine wpAny_pure ⟨plainId_quiet PySem.F.plain_min_loop _, mink_done (M2.put (b2 := #[u1, .int k t]) d3 d2) hh d1 d2 fun s' z => ?_⟩
    have := h s' z
    rw [if_pos hb] at this
    exact this
  · have e : (decide ((if (1 : Nat) = 0 then m else k) < if (0 : Nat) = 0 then m else k)) = false := by simpa using hb
    rw [show (fun i j => decide ((if i = 0 then m else k) < if j = 0 then m else k)) (1 : Nat) (0 : Nat) = false from e]
    simp only [Bool.false_eq_true, if_false]
    refine wpAny_bind (wpAny_letGo ?_)
    rw [hname]
    refine wpAny_pure ⟨plainId_quiet PySem.F.plain_min_loop _, mink_done M2 hh d1 d2 fun s' z => ?_⟩
    have := h s' z
    rw [if_neg hb] at this
    exact this
theorem mink_first {R : Result → Shared → Prop} {u0 u1 : Value} {x y : V} {m k : Int} (M : MinSt X pins σ H0 T It S #[u0, u1] 0 #[] s) (sb : Sub X (n + 1) A) (F : FnR X.prog X.w X.K X.mg X.base CX0 n f sp) (ru : RelV x u0) (rv : RelV y u1)
    (p : ∀ H', Ext H0 H' → sp [x] H' (fun v H2 => v = .int m ∧ Ext H' H2) E0) (q : ∀ H', Ext H0 H' → sp [y] H' (fun v H2 => v = .int k ∧ Ext H' H2) E0) (hh : A.handled = none) (d1 : T ≠ It) (d2 : S ≠ It) (d3 : T ≠ S)
    (h : ∀ s', (∃ H', Inv X pins σ H' s' ∧ Ext H0 H') → R (.ok (.ret (if k < m then u1 else u0))) s') : codeAny (model X.prog X.w) A (.builtin "min.loop" ⟨[.ref It, .ref f, .ref S], []⟩) R s := by
  have hname : (toString "min" ++ toString ".loop" : String) = "min.loop" := by decide
  obtain ⟨c, hl⟩ := M.lst
  refine codeAny_builtin PySem.F.entry_min_loop ?_
  rw [Around.under_plainId PySem.F.plain_min_loop _]
  show wpAny _ A.in1 (seqItems? (.ref S) >>= _) _ _ s
  refine wpAny_bind (wpAny_seqItems hl rfl ?_)
  show wpAny _ A.in1 (tryCatch (pyNext (.ref It)) _ >>= _) _ _ s
  refine wpAny_bind (wpAny_tryCatch (M.next (A := A.in1) (u := u0) hh d1 d2 rfl fun s1 M1 => ?_))
  show wpAny _ A.in1 (tryCatch (holding [u0] (call (.ref f) [u0])) _ >>= _) _ _ _
  refine wpAny_bind (wpAny_tryCatch (wpAny_holding (wpAny_mono (M1.key (A := A.in1) sb.in1 F ru p) (fun w s2 hw => ?_) fun _ _ x => x)))
  obtain ⟨t, rfl, M2⟩ := hw
  obtain ⟨c2, hl2⟩ := M2.lst
  show wpAny _ A.in1 (updateSeq S (fun _ => #[u0, .int m t]) >>= _) _ _ _
  refine wpAny_bind ?_
  refine wpAny_updateSeq hl2 rfl ?_
  rw [hname]
  exact wpAny_pure ⟨plainId_quiet PySem.F.plain_min_loop _, mink_second (M2.put (b2 := #[u0, .int m t]) d3 d2) sb F rv q hh d1 d2 d3 h⟩
end
section
variable {X : Cx} {n : Nat} {f : Addr} {sp : Sp}
theorem call_tree_kw {prog : Program} {w : World} {A : Around} {E : Value → Shared → Prop} {s : Shared} {id : String} {b : Builtin} {args : List Value} {kw : List (Str × Value)} {Q : Value → Shared → Prop} (hk : builtinKind id = none) (hp : plainId id = true)
    (hb : entryFor table id = some b) (ha : argsOk id ⟨args, kw⟩)
    (hc : wpAny (model prog w) A.in1 (b ⟨args, kw⟩) (fun fin s' => match fin with
      | .done f => (match (Except.ok f : Result) with | .ok (.ret v) => Q v s' | .ok _ => False | .error e => E e s')
      | .again c' => c'.quiet = true ∧ codeAny (model prog w) A c' (fun r s' => match r with | .ok (.ret v) => Q v s' | .ok _ => False | .error e => E e s') s') E s) :
    wpAny (model prog w) A (call (.builtin id) args kw) Q E s := by
  refine wpAny_call (codeAny_call_builtin hp hb ?_)
  simp only [checkBuiltinCall, hk]
  cases hsig : Manifest.signature? id with
  | none => exact wpAny_pure hc
  | some sig =>
    simp only [argsOk, hsig] at ha
    have h2 : Bind.checkArgs id sig ⟨args, kw⟩ = pure () := ha
    simp only [h2]
    exact wpAny_pure hc
theorem args_minK (a b g : Value) : argsOk "min" ⟨[a, b], [(Str.ofString "key", g)]⟩ := by unfold argsOk; kernel_rfl
/-- min(x, y, key=f), f of x is m, of y is k -/
def rMinKey (f : Addr) (sp : Sp) : List V → List V → Hp → VK → Prop := fun xs zs H Q => ∃ (x y : V) (m k : Int), xs = [x, y] ∧ zs = [.ref f] ∧ (∀ H', Ext H H' → sp [x] H' (fun v H2 => v = .int m ∧ Ext H' H2) E0) ∧
  (∀ H', Ext H H' → sp [y] H' (fun v H2 => v = .int k ∧ Ext H' H2) E0) ∧ ∀ H', Ext H H' → Q (if k < m then y else x) H'
theorem cr_minKey (F : FnR X.prog X.w X.K X.mg X.base CX0 n f sp) (hr : Room (n + 1) X.A) (hc : X.calm = true) : CallRK X (.builtin "min") [Str.ofString "key"] (rMinKey f sp) := by
  intro pins s σ H vs zs us ws Q I r rz h
  obtain ⟨x, y, m, k, rfl, rfl, p, q, fin⟩ := h
  obtain ⟨u0, u1, rfl, r0, r1⟩ := vals2 r
  obtain ⟨w1, rfl, e1⟩ := vals1 rz
  obtain rfl : w1 = Value.ref f := e1
  have hh : X.A.handled = none := I.ok.hd hc
  have hname : (toString "min" ++ toString ".loop" : String) = "min.loop" := by decide
  refine call_tree_kw PySem.F.kind_min PySem.F.plain_min PySem.F.entry_min (args_minK _ _ _) ?_
  show wpAny _ X.A.in1 (Builtin.Builtins.bindParams "min" ["key", "default"] 0 ⟨[], [(Str.ofString "key", .ref f)]⟩ >>= _) _ _ s
  refine wpAny_bind (wpAny_of_eq (show Builtin.Builtins.bindParams "min" ["key", "default"] 0 ⟨[], [(Str.ofString "key", .ref f)]⟩ = pure [some (.ref f), none] from by first | rfl | kernel_rfl) ?_)
  show wpAny _ X.A.in1 (newTuple [u0, u1] >>= _) _ _ s
  refine wpAny_bind (wpAny_newObj_type ?_)
  have hT : (s.heap.push { cls := .type "tuple", data := .seq #[u0, u1] }).IsTuple s.heap.objs.size #[u0, u1] := ⟨_, Heap.get?_push_size _ rfl, rfl, 0, rfl⟩
  refine wpAny_bind (wpAny_pyIter_tuple hT ?_)
  have hsz : (s.heap.push { cls := .type "tuple", data := .seq #[u0, u1] }).objs.size = s.heap.objs.size + 1 := Heap.size_push ..
  refine wpAny_bind (wpAny_newObj_type ?_)
  rw [hname]
  have hsz2 : ((s.heap.push { cls := .type "tuple", data := .seq #[u0, u1] }).push { cls := .type "tuple_iterator", data := .fields #[.ref s.heap.objs.size, .int 0 0] }).objs.size = s.heap.objs.size + 2 := by
    rw [Heap.size_push, hsz]
  have I2 := I.turnedL (ch := []) (t' := s.toks) (h' := ((s.heap.push { cls := .type "tuple", data := .seq #[u0, u1] }).push { cls := .type "tuple_iterator", data := .fields #[.ref s.heap.objs.size, .int 0 0] }).push { cls := .type "list", data := .seq #[] }) (fun b o _ e => Heap.get?_push_of_some _ (Heap.get?_push_of_some _ (Heap.get?_push_of_some _ e))) (fun b z => nomatch z)
  refine wpAny_pure ⟨plainId_quiet PySem.F.plain_min_loop _, mink_first (H0 := H) (T := s.heap.objs.size) ⟨⟨H, I2, Ext.rfl', fun b hb => ?_⟩, ?_, ?_, ?_⟩ ⟨hr, rfl⟩ F r0 r1 p q hh ?_ ?_ ?_ fun s' z => ?_⟩
  · have hb' : s.heap.objs.size ≤ b := by
      simp only [List.mem_cons, List.not_mem_nil, or_false] at hb
      rcases hb with rfl | rfl | rfl
      · exact Nat.le_refl _
      · show s.heap.objs.size ≤ (s.heap.push { cls := .type "tuple", data := .seq #[u0, u1] }).objs.size
        omega
      · show s.heap.objs.size ≤ ((s.heap.push { cls := .type "tuple", data := .seq #[u0, u1] }).push { cls := .type "tuple_iterator", data := .fields #[.ref s.heap.objs.size, .int 0 0] }).objs.size
        omega
    exact I.fpOk hb' (I.hok.fresh hb')
  · exact ⟨_, Heap.get?_push_of_some _ (Heap.get?_push_size _ rfl), rfl, rfl⟩
  · exact (hT.push _).push _
  · exact ⟨0, Heap.get?_push_size _ rfl⟩
  · intro z
    have z' : s.heap.objs.size = (s.heap.push { cls := .type "tuple", data := .seq #[u0, u1] }).objs.size := z
    omega
  · intro z
    have z' : ((s.heap.push { cls := .type "tuple", data := .seq #[u0, u1] }).push { cls := .type "tuple_iterator", data := .fields #[.ref s.heap.objs.size, .int 0 0] }).objs.size = (s.heap.push { cls := .type "tuple", data := .seq #[u0, u1] }).objs.size := z
    omega
  · intro z
    have z' : s.heap.objs.size = ((s.heap.push { cls := .type "tuple", data := .seq #[u0, u1] }).push { cls := .type "tuple_iterator", data := .fields #[.ref s.heap.objs.size, .int 0 0] }).objs.size := z
    omega
  · obtain ⟨H', I', e'⟩ := z
    refine ⟨if k < m then y else x, H', I', ?_, fin H' e'⟩
    by_cases hb : k < m
    · rw [if_pos hb, if_pos hb]; exact r1
    · rw [if_neg hb, if_neg hb]; exact r0
end
end L2

/-! min of a list of ints that is not empty -/
namespace L2
open PySem PySem.Spec PyProof.Rows
theorem argBest_le {bt : Nat → Nat → Bool} : ∀ k, argBest bt k ≤ k
  | 0 => Nat.le_refl 0
  | k + 1 => by
    simp only [argBest]
    split
    · exact Nat.le_refl _
    · exact Nat.le_succ_of_le (argBest_le k)
theorem argBest_min {f : Nat → Int} : ∀ k i, i ≤ k → f (argBest (fun i j => decide (f i < f j)) k) ≤ f i
  | 0, i, h => by
    obtain rfl : i = 0 := by omega
    exact Int.le_refl _
  | k + 1, i, h => by
    have ih := argBest_min (f := f) k
    simp only [argBest]
    by_cases c : f (k + 1) < f (argBest (fun i j => decide (f i < f j)) k)
    · rw [if_pos (decide_eq_true c)]
      by_cases e : i = k + 1
      · rw [e]; exact Int.le_refl _
      · exact Int.le_of_lt (Int.lt_of_lt_of_le c (ih i (by omega)))
    · rw [if_neg (fun z => c (of_decide_eq_true z))]
      by_cases e : i = k + 1
      · rw [e]; omega
      · exact ih i (by omega)
section
variable {X : Cx}
/-- min(xs), xs a list of ints -/
def rMinI (K : PySem.W.Frag) : List V → Hp → VK → Prop := fun vs H Q => ∃ (p : Addr) (ns : List Int), vs = [.ref p] ∧ SqL K H p (ns.map V.int) ∧ ns ≠ [] ∧ ∀ m, m ∈ ns → (∀ n ∈ ns, m ≤ n) → Q (.int m) H
theorem call_minI (hc : X.calm = true) : CallR X (.builtin "min") (rMinI X.K) := by
  intro pins s σ H vs us Q I r h
  obtain ⟨p, ns, rfl, hs, ne, q⟩ := h
  obtain ⟨its, rv, hl, _⟩ := I.list hs
  rw [Vals.ref1 r]
  have len : its.length = ns.length := by
    rw [← rv.length, List.length_map]
  have at' : ∀ (i : Nat) (v : Value), its.toArray[i]? = some v → ∃ t, v = .int (ns.getD i 0) t := fun i v e => by
    have e' : its[i]? = some v := by simpa using e
    have hi : i < ns.length := by
      obtain ⟨h, _⟩ := List.getElem?_eq_some_iff.mp e'
      omega
    obtain ⟨u, hu, ru⟩ := rv.get (i := i) (x := .int ns[i]) (by rw [List.getElem?_map, List.getElem?_eq_getElem hi]; rfl)
    rw [e'] at hu
    cases hu
    obtain ⟨t, rfl⟩ := (show ∃ t, v = Value.int ns[i] t from ru)
    exact ⟨t, by rw [List.getD_eq_getElem?_getD, List.getElem?_eq_getElem hi]; rfl⟩
  have pos : 0 < ns.length := List.length_pos_iff.mpr ne
  refine call_min_walk (iter_anyList hl.isList fun s₂ e st hfp hlI => ?_)
  subst e
  refine ⟨_, _, _, _, _, _, _, rfl, Walks.list (A := X.A.in1) (I.ok.hd hc) _ p hlI its.toArray, st, hfp, by rw [List.size_toArray, len]; exact pos, CmpOf.ints_lt (fun i => ns.getD i 0) at', fun v h' tk hP hk => ?_⟩
  obtain ⟨t, rfl⟩ := at' _ _ hP
  have sz : its.toArray.size - 1 = ns.length - 1 := by rw [List.size_toArray, len]
  rw [sz] at hP ⊢
  have li : argBest (fun i j => decide (ns.getD i 0 < ns.getD j 0)) (ns.length - 1) < ns.length := by
    have := argBest_le (bt := fun i j => decide (ns.getD i 0 < ns.getD j 0)) (ns.length - 1)
    omega
  refine ⟨.int (ns.getD (argBest (fun i j => decide (ns.getD i 0 < ns.getD j 0)) (ns.length - 1)) 0), H, I.kept (PySem.old_kept hk), ⟨t, rfl⟩, q _ ?_ fun n hn => ?_⟩
  · rw [List.getD_eq_getElem?_getD, List.getElem?_eq_getElem li]
    exact List.getElem_mem li
  · obtain ⟨j, hj, e⟩ := List.mem_iff_getElem.mp hn
    have := argBest_min (f := fun i => ns.getD i 0) (ns.length - 1) j (by omega)
    have ej : ns.getD j 0 = n := by rw [List.getD_eq_getElem?_getD, List.getElem?_eq_getElem hj]; exact e
    rw [← ej]
    exact this
end
end L2

namespace Gc
open PySem PyProof.Rows L2
/-! ### commands as tuples -/
def encC : Cmd → List V
  | .down n => [.str "down", .int n]
  | .up n => [.str "up", .int n]
  | .right n => [.str "right", .int n]
  | .left n => [.str "left", .int n]
  | .home => [.str "home"]
  | .stop => [.str "end"]
def CmdAt (K : PySem.W.Frag) (H : Hp) (v : V) (c : Cmd) : Prop := ∃ a, v = .ref a ∧ SqT K H a (encC c)
def CmdsOf (K : PySem.W.Frag) (H : Hp) (xs : List V) (cs : List Cmd) : Prop := Paired (CmdAt K H) xs cs
theorem CmdAt.same {K : PySem.W.Frag} {H H' : Hp} {v : V} {c : Cmd} (e : Same H H') (h : CmdAt K H v c) : CmdAt K H' v c := by
  obtain ⟨a, e1, h1⟩ := h
  exact ⟨a, e1, seq_t e h1⟩
theorem CmdsOf.same {K : PySem.W.Frag} {H H' : Hp} {xs : List V} {cs : List Cmd} (e : Same H H') (h : CmdsOf K H xs cs) : CmdsOf K H' xs cs := Paired.mapP h fun _ _ q => q.same e
theorem CmdsOf.len {K : PySem.W.Frag} {H : Hp} {xs : List V} {cs : List Cmd} (h : CmdsOf K H xs cs) : xs.length = cs.length := Paired.length h
theorem paired_at {α β : Type} {F : α → β → Prop} : ∀ {xs : List α} {ys : List β} {i : Nat} {x : α}, Paired F xs ys → xs[i]? = some x → ∃ y, ys[i]? = some y ∧ F x y
  | _, _, _, _, .nil, h => by simp at h
  | _, _, 0, x, .cons f _, h => by
    obtain rfl := Option.some.inj h
    exact ⟨_, rfl, f⟩
  | _, _, i + 1, x, .cons _ t, h => paired_at (i := i) t h
/-! ### dicts of ints by ints -/
theorem valV_dkI : ∀ (b : Ps) (k : Int), valV (dkI b) (Sum.inl k : L2.Key) = (look b k).map V.int
  | [], k => rfl
  | q :: b, k => by
    show valV (((Sum.inl q.1 : L2.Key), V.int q.2) :: dkI b) (Sum.inl k : L2.Key) = _
    rw [look_cons]
    by_cases h : q.1 = k
    · rw [if_pos h, valV_pos (by show (Sum.inl q.1 : L2.Key) = Sum.inl k; rw [h])]
      rfl
    · rw [if_neg h, valV_neg (by intro z; exact h (Sum.inl.inj z))]
      exact valV_dkI b k
theorem putK_dkI (b : Ps) (k v : Int) : putK (dkI b) (Sum.inl k : L2.Key) (V.int v) = dkI (put b k v) := by
  have ea : ((dkI b).any fun kv => decide (kv.1 = (Sum.inl k : L2.Key))) = b.any fun q => decide (q.1 = k) := by
    unfold dkI
    rw [List.any_map]
    congr 1
    funext q
    show decide ((Sum.inl q.1 : L2.Key) = Sum.inl k) = decide (q.1 = k)
    exact decide_eq_decide.mpr ⟨Sum.inl.inj, fun h => by rw [h]⟩
  unfold putK put
  rw [ea]
  by_cases h : (b.any fun q => decide (q.1 = k)) = true
  · rw [if_pos h, if_pos h]
    unfold dkI
    rw [List.map_map, List.map_map]
    refine List.map_congr_left fun q _ => ?_
    show (if (Sum.inl q.1 : L2.Key) = Sum.inl k then ((Sum.inl q.1 : L2.Key), V.int v) else (Sum.inl q.1, V.int q.2)) = (Sum.inl (if q.1 = k then (q.1, v) else q).1, V.int (if q.1 = k then (q.1, v) else q).2)
    by_cases e : q.1 = k
    · rw [if_pos e, if_pos (by rw [e])]
    · rw [if_neg e, if_neg fun z => e (Sum.inl.inj z)]
  · rw [if_neg h, if_neg h]
    unfold dkI
    rw [List.map_append]
    rfl
theorem put_len (b : Ps) (k v : Int) : (put b k v).length ≤ b.length + 1 := by
  unfold put
  split
  · rw [List.length_map]
    exact Nat.le_succ _
  · rw [List.length_append]
    exact Nat.le_refl _
theorem req_len (b : Ps) (o v : Int) : (req b o v).length ≤ b.length + 1 := put_len b o _
end Gc

/-! heaps, lengths of boxes, dicts out of pairs -/
namespace Gc
open PySem L2
theorem same_freeU {H H' : Hp} {d : Addr} {o : HO} (e : Same H H') (h : H d = none) : Same H (upd H' d o) := fun b u hb => by
  rw [upd_ne (ne_of_none hb h)]
  exact e b u hb
theorem go_len : ∀ {r : List Cmd} {off need : Int} {b : Ps} {st : Option Int} {b' : Ps}, go r off need b = some (st, b') → b'.length ≤ b.length + r.length
  | [], _, _, b, _, _, h => by cases h; exact Nat.le_refl _
  | .home :: r, _, _, b, _, _, h => by cases h
  | .stop :: r, _, _, b, _, _, h => by cases h; exact Nat.le_add_right _ _
  | .right n :: r, off, need, b, st, b', h => by
    have q := req_len b off need
    rw [List.length_cons]
    simp only [go] at h
    split at h
    · have := go_len h
      omega
    · cases h
      omega
  | .left n :: r, off, need, b, st, b', h => by
    have q := req_len b off (need + n)
    rw [List.length_cons]
    simp only [go] at h
    have := go_len h
    omega
  | .down n :: r, off, need, b, st, b', h => by
    rw [List.length_cons]
    simp only [go] at h
    have := go_len h
    omega
  | .up n :: r, off, need, b, st, b', h => by
    rw [List.length_cons]
    simp only [go] at h
    have := go_len h
    omega
theorem box_len {cs : List Cmd} {goal : Int} {st : Option Int} {L : Ps} (h : boxM cs goal = some (st, L)) : L.length ≤ cs.length := by
  unfold boxM at h
  cases e : go cs.reverse (last cs) goal [] with
  | none =>
    rw [e] at h
    cases h
  | some x =>
    rw [e] at h
    obtain ⟨st', b'⟩ := x
    have q := go_len e
    have h' : (st', b'.mergeSort leK) = (st, L) := Option.some.inj h
    cases h'
    rw [List.length_mergeSort]
    rw [List.length_reverse, List.length_nil] at q
    omega
theorem merge_dkI : ∀ (b acc : Ps), (keys acc ++ keys b).Nodup → mergeK (dkI acc) (dkI b) = dkI (acc ++ b)
  | [], acc, _ => by rw [List.append_nil]; rfl
  | q :: b, acc, h => by
    have nq : q.1 ∉ keys acc := fun z => by
      have := (List.nodup_append.mp h).2.2 q.1 z q.1 List.mem_cons_self
      exact this rfl
    show mergeK (putK (dkI acc) (Sum.inl q.1 : L2.Key) (.int q.2)) (dkI b) = _
    rw [putK_dkI]
    have e : put acc q.1 q.2 = acc ++ [q] := by
      unfold put
      rw [if_neg fun z => nq ((any_key acc q.1).mp z)]
    rw [e, merge_dkI b (acc ++ [q]) (by
      have e2 : keys (acc ++ [q]) ++ keys b = keys acc ++ keys (q :: b) := by
        unfold keys
        simp
      rw [e2]
      exact h), List.append_assoc]
    rfl
theorem paired_dkI {K : PySem.W.Frag} {H : Hp} : ∀ {ps : List Addr} {qs : Ps}, Paired (fun (p : Addr) (q : Int × Int) => H p = some (.tup [.int q.1, .int q.2])) ps qs → Paired (fun (p : Addr) (kv : L2.Key × V) => SqT K H p [kV kv.1, kv.2]) ps (dkI qs)
  | _, _, .nil => .nil
  | _, _, .cons h t => .cons (SqT.of h) (paired_dkI t)
theorem ref_at {ts : List Addr} {i : Nat} {x : V} (h : (ts.map V.ref)[i]? = some x) : ∃ t, ts[i]? = some t ∧ x = .ref t := by
  rw [List.getElem?_map] at h
  cases e : ts[i]? with
  | none =>
    rw [e] at h
    cases h
  | some t =>
    rw [e] at h
    exact ⟨t, rfl, (Option.some.inj h).symm⟩
theorem dki_len (b : Ps) : (dkI b).length = b.length := List.length_map ..
end Gc

/-! what repr wants of the data that the laws show -/
namespace Gc
open PySem PySem.Spec PyProof.Rows L2
def Sml (x : Int) : Prop := x.natAbs < 2 ^ 120
theorem sml_log {x : Int} (h : Sml x) : x.natAbs.log2 < 121 := Nat.lt_of_lt_of_le (PySem.Flt.log2_lt_of (k := 121) (by decide) (Nat.lt_trans h (by decide))) (Nat.le_refl _)
theorem sml_show {x : Int} (h : Sml x) : (PyData.int x).showable = true := by
  have := sml_log h
  simp only [PyData.showable, decide_eq_true_eq]
  omega
theorem sml_short {x : Int} (h : Sml x) : (PyData.int x).leavesShort 130 = true := by
  have e := int_text_length_le (k := 121) (by decide) (sml_log h)
  have e' : (PyData.shown (.int x)).length ≤ 130 := by
    have e2 : (PyData.shown (.int x)).length = (toString x).length := by
      show (Str.ofString (toString x)).length = _
      rw [PySem.ofString_length]
    omega
  simpa only [PyData.leavesShort, decide_eq_true_eq] using e'
theorem sml_weight {x : Int} (h : Sml x) : (PyData.int x).weight ≤ 122 := by
  have := sml_log h
  simp only [PyData.weight]
  split <;> omega
def Ok0 (d : PyData) : Prop := d.showable = true ∧ d.hasDict = false ∧ d.leavesShort 130 = true
def Ok0s (ds : List PyData) : Prop := PyData.showableAll ds = true ∧ PyData.hasDictAll ds = false ∧ PyData.leavesShortAll 130 ds = true
theorem ok0_int {x : Int} (h : Sml x) : Ok0 (.int x) := ⟨sml_show h, by simp only [PyData.hasDict], sml_short h⟩
theorem ok0_nil : Ok0s [] := ⟨by simp only [PyData.showableAll], by simp only [PyData.hasDictAll], by simp only [PyData.leavesShortAll]⟩
theorem ok0_cons {d : PyData} {ds : List PyData} (h : Ok0 d) (t : Ok0s ds) : Ok0s (d :: ds) := by
  obtain ⟨a1, a2, a3⟩ := h
  obtain ⟨b1, b2, b3⟩ := t
  refine ⟨?_, ?_, ?_⟩
  · simp only [PyData.showableAll, a1, b1, Bool.and_self]
  · simp only [PyData.hasDictAll, a2, b2, Bool.or_self]
  · simp only [PyData.leavesShortAll, a3, b3, Bool.and_self]
theorem ok0_list {ds : List PyData} (h : Ok0s ds) : Ok0 (.list ds) := by
  obtain ⟨b1, b2, b3⟩ := h
  refine ⟨?_, ?_, ?_⟩
  · simpa only [PyData.showable] using b1
  · simpa only [PyData.hasDict] using b2
  · simpa only [PyData.leavesShort] using b3
theorem ok0_tup {ds : List PyData} (h : Ok0s ds) : Ok0 (.tuple ds) := by
  obtain ⟨b1, b2, b3⟩ := h
  refine ⟨?_, ?_, ?_⟩
  · simpa only [PyData.showable] using b1
  · simpa only [PyData.hasDict] using b2
  · simpa only [PyData.leavesShort] using b3
theorem ok0_len {d : PyData} (h : Ok0 d) (w : d.weight ≤ 100000) : d.shown.length ≤ sizeLine := by
  have e := PyData.shown_le 130 (by decide) d h.2.2
  rw [sizeLine_eq]
  have : (130 + 2) * d.weight ≤ (130 + 2) * 100000 := Nat.mul_le_mul_left _ w
  omega
theorem ok0_ints : ∀ {T : List Int}, (∀ x ∈ T, Sml x) → Ok0s (T.map PyData.int)
  | [], _ => ok0_nil
  | x :: T, h => ok0_cons (ok0_int (h x List.mem_cons_self)) (ok0_ints fun y hy => h y (List.mem_cons_of_mem _ hy))
theorem weight_ints : ∀ {T : List Int}, (∀ x ∈ T, Sml x) → PyData.weightAll (T.map PyData.int) ≤ 123 * T.length
  | [], _ => by simp [PyData.weightAll]
  | x :: T, h => by
    have a := sml_weight (h x List.mem_cons_self)
    have b := weight_ints (T := T) fun y hy => h y (List.mem_cons_of_mem _ hy)
    simp only [List.map_cons, PyData.weightAll, List.length_cons]
    omega
theorem deep_ints : ∀ T : List Int, PyData.depthAll (T.map PyData.int) = 0
  | [] => by simp [PyData.depthAll]
  | x :: T => by simp [PyData.depthAll, PyData.depth, deep_ints T]
/-- a text and a cursor -/
def textD (T : List Int) (r a : Int) : PyData := .tuple [.list (T.map PyData.int), .tuple [.int r, .int a]]
theorem textD_ok {T : List Int} {r a : Int} (hT : ∀ x ∈ T, Sml x) (hr : Sml r) (ha : Sml a) (l : T.length ≤ 500) : (textD T r a).showable = true ∧ (textD T r a).hasDict = false ∧ (textD T r a).depth ≤ 60 ∧ (textD T r a).shown.length ≤ sizeLine := by
  have o : Ok0 (textD T r a) := ok0_tup (ok0_cons (ok0_list (ok0_ints hT)) (ok0_cons (ok0_tup (ok0_cons (ok0_int hr) (ok0_cons (ok0_int ha) ok0_nil))) ok0_nil))
  refine ⟨o.1, o.2.1, ?_, ok0_len o ?_⟩
  · simp only [textD, PyData.depth, PyData.depthAll, deep_ints]
    omega
  · have a1 := weight_ints hT
    have a2 := sml_weight hr
    have a3 := sml_weight ha
    simp only [PyData.weight] at a2 a3
    simp only [textD, PyData.weight, PyData.weightAll]
    omega
/-! ### commands as data -/
def cmdD : Cmd → PyData
  | .down n => .tuple [.str "down", .int n]
  | .up n => .tuple [.str "up", .int n]
  | .right n => .tuple [.str "right", .int n]
  | .left n => .tuple [.str "left", .int n]
  | .home => .tuple [.str "home"]
  | .stop => .tuple [.str "end"]
theorem CmdAt.dp {K : PySem.W.Frag} {H : Hp} {v : V} {c : Cmd} (h : CmdAt K H v c) : Dp K H v (cmdD c) := by
  obtain ⟨a, rfl, h⟩ := h
  cases c with
  | down n => exact .tup h (.cons (.str _) (.cons (.int n) .nil))
  | up n => exact .tup h (.cons (.str _) (.cons (.int n) .nil))
  | right n => exact .tup h (.cons (.str _) (.cons (.int n) .nil))
  | left n => exact .tup h (.cons (.str _) (.cons (.int n) .nil))
  | home => exact .tup h (.cons (.str _) .nil)
  | stop => exact .tup h (.cons (.str _) .nil)
theorem CmdsOf.dp {K : PySem.W.Frag} {H : Hp} : ∀ {xs : List V} {cs : List Cmd}, CmdsOf K H xs cs → DpAll K H xs (cs.map cmdD)
  | _, _, .nil => .nil
  | _, _, .cons h t => .cons h.dp (CmdsOf.dp t)
def CSml : Cmd → Prop
  | .down n => Sml n
  | .up n => Sml n
  | .right n => Sml n
  | .left n => Sml n
  | _ => True
theorem ok0_str {x : Str} (h : (PyData.str x).leavesShort 130 = true) : Ok0 (.str x) := ⟨by simp only [PyData.showable], by simp only [PyData.hasDict], h⟩
theorem cmdD_ok {c : Cmd} (h : CSml c) : Ok0 (cmdD c) ∧ (cmdD c).weight ≤ 200 ∧ (cmdD c).depth ≤ 5 := by
  cases c with
  | down n =>
    have w := sml_weight h
    refine ⟨ok0_tup (ok0_cons (ok0_str (by decide +kernel)) (ok0_cons (ok0_int h) ok0_nil)), ?_, by simp [cmdD, PyData.depth, PyData.depthAll]⟩
    have e : (PyData.str "down").weight = 4 := by decide +kernel
    simp only [cmdD, PyData.weight, PyData.weightAll] at w e ⊢
    omega
  | up n =>
    have w := sml_weight h
    refine ⟨ok0_tup (ok0_cons (ok0_str (by decide +kernel)) (ok0_cons (ok0_int h) ok0_nil)), ?_, by simp [cmdD, PyData.depth, PyData.depthAll]⟩
    have e : (PyData.str "up").weight = 2 := by decide +kernel
    simp only [cmdD, PyData.weight, PyData.weightAll] at w e ⊢
    omega
  | right n =>
    have w := sml_weight h
    refine ⟨ok0_tup (ok0_cons (ok0_str (by decide +kernel)) (ok0_cons (ok0_int h) ok0_nil)), ?_, by simp [cmdD, PyData.depth, PyData.depthAll]⟩
    have e : (PyData.str "right").weight = 5 := by decide +kernel
    simp only [cmdD, PyData.weight, PyData.weightAll] at w e ⊢
    omega
  | left n =>
    have w := sml_weight h
    refine ⟨ok0_tup (ok0_cons (ok0_str (by decide +kernel)) (ok0_cons (ok0_int h) ok0_nil)), ?_, by simp [cmdD, PyData.depth, PyData.depthAll]⟩
    have e : (PyData.str "left").weight = 4 := by decide +kernel
    simp only [cmdD, PyData.weight, PyData.weightAll] at w e ⊢
    omega
  | home => exact ⟨ok0_tup (ok0_cons (ok0_str (by decide +kernel)) ok0_nil), by decide +kernel, by simp [cmdD, PyData.depth, PyData.depthAll]⟩
  | stop => exact ⟨ok0_tup (ok0_cons (ok0_str (by decide +kernel)) ok0_nil), by decide +kernel, by simp [cmdD, PyData.depth, PyData.depthAll]⟩
theorem cmds_ok0 : ∀ {cs : List Cmd}, (∀ c ∈ cs, CSml c) → Ok0s (cs.map cmdD) ∧ PyData.weightAll (cs.map cmdD) ≤ 201 * cs.length ∧ PyData.depthAll (cs.map cmdD) ≤ 5
  | [], _ => ⟨ok0_nil, by simp [PyData.weightAll], by simp [PyData.depthAll]⟩
  | c :: cs, h => by
    obtain ⟨a1, a2, a3⟩ := cmdD_ok (h c List.mem_cons_self)
    obtain ⟨b1, b2, b3⟩ := cmds_ok0 (cs := cs) fun d hd => h d (List.mem_cons_of_mem _ hd)
    refine ⟨ok0_cons a1 b1, ?_, ?_⟩
    · simp only [List.map_cons, PyData.weightAll, List.length_cons]
      omega
    · simp only [List.map_cons, PyData.depthAll]
      omega
theorem cmds_ok {cs : List Cmd} (h : ∀ c ∈ cs, CSml c) (l : cs.length ≤ 300) : (PyData.list (cs.map cmdD)).showable = true ∧ (PyData.list (cs.map cmdD)).hasDict = false ∧ (PyData.list (cs.map cmdD)).depth ≤ 60 ∧ (PyData.list (cs.map cmdD)).shown.length ≤ sizeLine := by
  obtain ⟨a1, a2, a3⟩ := cmds_ok0 h
  have o := ok0_list a1
  refine ⟨o.1, o.2.1, ?_, ok0_len o ?_⟩
  · simp only [PyData.depth]
    omega
  · simp only [PyData.weight]
    omega
/-! ### boxes as data -/
def optD : Option Int → PyData
  | none => .none
  | some n => .int n
def pairD (q : Int × Int) : PyData := .tuple [.int q.1, .int q.2]
def boxD : Option (Option Int × Ps) → PyData
  | none => .none
  | some x => .tuple [optD x.1, .list (x.2.map pairD)]
def BSml : Option (Option Int × Ps) → Prop
  | none => True
  | some x => (∀ n, x.1 = some n → Sml n) ∧ ∀ q ∈ x.2, Sml q.1 ∧ Sml q.2
theorem ok0_none : Ok0 .none := ⟨by simp only [PyData.showable], by simp only [PyData.hasDict], by simp only [PyData.leavesShort]⟩
theorem pairs_ok0 : ∀ {L : Ps}, (∀ q ∈ L, Sml q.1 ∧ Sml q.2) → Ok0s (L.map pairD) ∧ PyData.weightAll (L.map pairD) ≤ 247 * L.length ∧ PyData.depthAll (L.map pairD) ≤ 5
  | [], _ => ⟨ok0_nil, by simp [PyData.weightAll], by simp [PyData.depthAll]⟩
  | q :: L, h => by
    obtain ⟨a, b⟩ := h q List.mem_cons_self
    obtain ⟨c1, c2, c3⟩ := pairs_ok0 (L := L) fun p hp => h p (List.mem_cons_of_mem _ hp)
    have wa := sml_weight a
    have wb := sml_weight b
    refine ⟨ok0_cons (ok0_tup (ok0_cons (ok0_int a) (ok0_cons (ok0_int b) ok0_nil))) c1, ?_, ?_⟩
    · simp only [PyData.weight] at wa wb
      simp only [List.map_cons, pairD, PyData.weight, PyData.weightAll, List.length_cons] at c2 ⊢
      omega
    · simp only [List.map_cons, pairD, PyData.depth, PyData.depthAll] at c3 ⊢
      omega
theorem boxD_ok0 {o : Option (Option Int × Ps)} {n : Nat} (h : BSml o) (l : ∀ x, o = some x → x.2.length ≤ n) : Ok0 (boxD o) ∧ (boxD o).weight ≤ 247 * n + 200 ∧ (boxD o).depth ≤ 10 := by
  cases o with
  | none => exact ⟨ok0_none, by simp [boxD, PyData.weight], by simp [boxD, PyData.depth]⟩
  | some x =>
    obtain ⟨st, L⟩ := x
    obtain ⟨h1, h2⟩ := h
    have h2' : ∀ q ∈ L, Sml q.1 ∧ Sml q.2 := h2
    obtain ⟨c1, c2, c3⟩ := pairs_ok0 h2'
    have ln : L.length ≤ n := l _ rfl
    have o1 : Ok0 (optD st) ∧ (optD st).weight ≤ 122 ∧ (optD st).depth = 0 := by
      cases st with
      | none => exact ⟨ok0_none, by simp [optD, PyData.weight], by simp [optD, PyData.depth]⟩
      | some n => exact ⟨ok0_int (h1 n rfl), sml_weight (h1 n rfl), by simp [optD, PyData.depth]⟩
    obtain ⟨d1, d2, d3⟩ := o1
    refine ⟨ok0_tup (ok0_cons d1 (ok0_cons (ok0_list c1) ok0_nil)), ?_, ?_⟩
    · have m : 247 * L.length ≤ 247 * n := Nat.mul_le_mul_left _ ln
      simp only [boxD, PyData.weight, PyData.weightAll]
      omega
    · simp only [boxD, PyData.depth, PyData.depthAll]
      omega
theorem boxes_ok0 {n : Nat} : ∀ {os : List (Option (Option Int × Ps))}, (∀ o ∈ os, BSml o ∧ ∀ x, o = some x → x.2.length ≤ n) → Ok0s (os.map boxD) ∧ PyData.weightAll (os.map boxD) ≤ (247 * n + 201) * os.length ∧ PyData.depthAll (os.map boxD) ≤ 10
  | [], _ => ⟨ok0_nil, by simp [PyData.weightAll], by simp [PyData.depthAll]⟩
  | o :: os, h => by
    obtain ⟨a, b⟩ := h o List.mem_cons_self
    obtain ⟨c1, c2, c3⟩ := boxD_ok0 a b
    obtain ⟨d1, d2, d3⟩ := boxes_ok0 (os := os) fun p hp => h p (List.mem_cons_of_mem _ hp)
    refine ⟨ok0_cons c1 d1, ?_, ?_⟩
    · rw [List.map_cons, List.length_cons, Nat.mul_succ]
      simp only [PyData.weightAll]
      omega
    · simp only [List.map_cons, PyData.depthAll]
      omega
/-- a list of at most ten boxes of at most thirty lines each -/
theorem boxes_ok {os : List (Option (Option Int × Ps))} (h : ∀ o ∈ os, BSml o ∧ ∀ x, o = some x → x.2.length ≤ 30) (l : os.length ≤ 10) :
    (PyData.list (os.map boxD)).showable = true ∧ (PyData.list (os.map boxD)).hasDict = false ∧ (PyData.list (os.map boxD)).depth ≤ 60 ∧ (PyData.list (os.map boxD)).shown.length ≤ sizeLine := by
  obtain ⟨a1, a2, a3⟩ := boxes_ok0 h
  have o := ok0_list a1
  refine ⟨o.1, o.2.1, ?_, ok0_len o ?_⟩
  · simp only [PyData.depth]
    omega
  · have m : (247 * 30 + 201) * os.length ≤ (247 * 30 + 201) * 10 := Nat.mul_le_mul_left _ l
    simp only [PyData.weight]
    omega
end Gc

/-! small pieces that many laws use -/
namespace Gc
open PySem L2
theorem lt_line {n : Nat} (h : n ≤ 100000) : n < sizeLine := by
  rw [sizeLine_eq]
  omega
theorem tru_seq {K : PySem.W.Frag} {H : Hp} {l : Addr} {xs : List V} (h : SqL K H l xs) : TruV K (.ref l) H (!xs.isEmpty) := .inl ⟨xs, h, rfl⟩
theorem takeS {α : Type} : ∀ {l : List α} {i : Nat} {x : α}, l[i]? = some x → l.take (i + 1) = l.take i ++ [x]
  | [], i, x, h => by simp at h
  | a :: l, 0, x, h => by
    obtain rfl := Option.some.inj h
    rfl
  | a :: l, i + 1, x, h => by
    have ih := takeS (l := l) (i := i) (x := x) h
    show a :: l.take (i + 1) = a :: l.take i ++ [x]
    rw [ih]
    rfl
theorem pairS {α β : Type} {F : α → β → Prop} : ∀ {xs : List α} {ys : List β} {x : α} {y : β}, Paired F xs ys → F x y → Paired F (xs ++ [x]) (ys ++ [y])
  | _, _, _, _, .nil, h => .cons h .nil
  | _, _, _, _, .cons f t, h => .cons f (pairS t h)
/-- a new object, told apart -/
theorem new_same {H : Hp} {p : Addr} {o : HO} (h : H p = none) : Same H (upd H p o) := fun b u hb => by
  rw [upd_ne (ne_of_none hb h)]
  exact hb
/-- a list is written; commands stand -/
theorem CmdsOf.atL {K : PySem.W.Frag} {H : Hp} {l : Addr} {ys zs : List V} {xs : List V} {cs : List Cmd} (hl : H l = some (.lst ys)) (h : CmdsOf K H xs cs) : CmdsOf K (upd H l (.lst zs)) xs cs := Paired.mapP h fun _ _ q => by
  obtain ⟨a, e1, h1⟩ := q
  refine ⟨a, e1, ?_⟩
  rcases h1 with (z | ⟨o, z⟩) | z
  · exact .inl (.inl (by rw [upd_ne (ne_of z hl (by intro q; cases q))]; exact z))
  · exact .inl (.inr ⟨o, by rw [upd_ne (ne_of z hl (by intro q; cases q))]; exact z⟩)
  · exact .inr z
end Gc
namespace Gc
open PySem L2
def nameC : Cmd → Str
  | .down _ => "down"
  | .up _ => "up"
  | .right _ => "right"
  | .left _ => "left"
  | .home => "home"
  | .stop => "end"
theorem enc_at (c : Cmd) : atI (encC c) 0 = some (.str (nameC c)) := by cases c <;> rfl
theorem getK {H : Hp} {p : Addr} {kvs : List (L2.Key × V)} {k : Str} {v : V} (h : H p = some (.dK kvs)) (e : valV kvs (.inr k : L2.Key) = some v) : DGet H p (.str k) (some v) := e ▸ DGet.k (k := .inr k) h
end Gc
namespace Gc
open PySem L2
/-! slices by places -/
theorem cutHi {xs : List V} {n : Nat} {z : Int} (e : z = (n : Int)) (h : n ≤ xs.length) : cutV xs none (some z) = xs.take n := by
  subst e
  unfold cutV
  rw [HT.sIx_none, HT.sIx_nat, List.drop_zero, Nat.sub_zero]
  congr 1
  omega
theorem cutLo {xs : List V} {n : Nat} {z : Int} (e : z = (n : Int)) : cutV xs (some z) none = xs.drop n := by
  subst e
  unfold cutV
  rw [HT.sIx_none, HT.sIx_nat]
  by_cases h : n ≤ xs.length
  · rw [Nat.min_eq_left h]
    exact List.take_of_length_le (by rw [List.length_drop]; exact Nat.le_refl _)
  · rw [Nat.min_eq_right (by omega), List.drop_eq_nil_of_le (Nat.le_refl _), List.take_nil, List.drop_eq_nil_of_le (by omega)]
theorem cutOne {xs : List V} {n m : Nat} {z y : Int} (e : z = (n : Int)) (e2 : y = (m : Int)) (hn : n ≤ xs.length) (hm : n ≤ m) : cutV xs (some z) (some y) = (xs.drop n).take (m - n) := by
  subst e e2
  unfold cutV
  rw [HT.sIx_nat, HT.sIx_nat, Nat.min_eq_left hn]
  by_cases h : m ≤ xs.length
  · rw [Nat.min_eq_left h]
  · rw [Nat.min_eq_right (by omega)]
    rw [List.take_of_length_le (l := xs.drop n) (by rw [List.length_drop]; exact Nat.le_refl _), List.take_of_length_le (by rw [List.length_drop]; omega)]
theorem paired_take {α β : Type} {F : α → β → Prop} : ∀ (n : Nat) {xs : List α} {ys : List β}, Paired F xs ys → Paired F (xs.take n) (ys.take n)
  | 0, _, _, _ => .nil
  | n + 1, _, _, .nil => .nil
  | n + 1, _, _, .cons h t => .cons h (paired_take n t)
theorem paired_drop {α β : Type} {F : α → β → Prop} : ∀ (n : Nat) {xs : List α} {ys : List β}, Paired F xs ys → Paired F (xs.drop n) (ys.drop n)
  | 0, _, _, h => h
  | n + 1, _, _, .nil => .nil
  | n + 1, _, _, .cons _ t => paired_drop n t
theorem paired_app {α β : Type} {F : α → β → Prop} : ∀ {xs xs' : List α} {ys ys' : List β}, Paired F xs ys → Paired F xs' ys' → Paired F (xs ++ xs') (ys ++ ys')
  | _, _, _, _, .nil, h => h
  | _, _, _, _, .cons h t, g => .cons h (paired_app t g)
end Gc

/-! forms: what the program reckons, over plain lists; the pieces are the boxes, gathered by runs -/
namespace Gc
/-! ### a function on the whole numbers, gathered by runs -/
section
variable {δ : Type} [DecidableEq δ]
/-- from a up to b -/
def Seg (D : Int → δ) : Int → List (Int × δ) → Int → Prop
  | a, [], b => a = b
  | a, (f, d) :: r, b => f = a ∧ ∃ c, a < c ∧ (∀ v, a ≤ v → v < c → D v = d) ∧ (∀ e, r.head? = some e → e.2 ≠ d) ∧ Seg D c r b
/-- from a on -/
def Rle (D : Int → δ) : Int → List (Int × δ) → Prop
  | _, [] => False
  | a, [(f, d)] => f = a ∧ ∀ v, a ≤ v → D v = d
  | a, (f, d) :: (g, e) :: r => f = a ∧ a < g ∧ (∀ v, a ≤ v → v < g → D v = d) ∧ d ≠ e ∧ Rle D g ((g, e) :: r)
/-- one more run, unless it only goes on -/
def addP (ps : List (Int × δ)) (p : Int × δ) : List (Int × δ) := if (ps.getLast?.map (·.2)) = some p.2 then ps else ps ++ [p]
theorem addP_nil (p : Int × δ) : addP [] p = [p] := rfl
theorem addP_cons {x y : Int × δ} {r : List (Int × δ)} (p : Int × δ) : addP (x :: y :: r) p = x :: addP (y :: r) p := by
  unfold addP
  rw [List.getLast?_cons_cons]
  split <;> rfl
theorem addP_head {x : Int × δ} {r : List (Int × δ)} (p : Int × δ) : (addP (x :: r) p).head? = some x := by
  unfold addP
  split <;> rfl
theorem Seg.le {D : Int → δ} : ∀ {ps : List (Int × δ)} {a b : Int}, Seg D a ps b → a ≤ b
  | [], _, _, h => Int.le_of_eq h
  | (_, _) :: r, _, _, h => by
    obtain ⟨_, c, h1, _, _, h2⟩ := h
    have := h2.le
    omega
theorem Seg.add {D : Int → δ} {d : δ} {c : Int} : ∀ {ps : List (Int × δ)} {a b : Int}, Seg D a ps b → b < c → (∀ v, b ≤ v → v < c → D v = d) → Seg D a (addP ps (b, d)) c
  | [], a, b, h, hc, hd => by
    have e : a = b := h
    subst e
    exact ⟨rfl, c, hc, hd, (fun _ z => nomatch z), rfl⟩
  | [(f, x)], a, b, h, hc, hd => by
    obtain ⟨h1, c0, h2, h3, _, h4⟩ := h
    have e : c0 = b := h4
    subst e
    unfold addP
    by_cases z : x = d
    · rw [if_pos (by simp [z])]
      refine ⟨h1, c, by omega, fun v v0 v1 => ?_, (fun _ z => nomatch z), rfl⟩
      by_cases q : v < c0
      · exact h3 v v0 q
      · rw [z]
        exact hd v (by omega) v1
    · rw [if_neg (by simp [z])]
      exact ⟨h1, c0, h2, h3, fun e he => by obtain rfl := Option.some.inj he; exact Ne.symm z, rfl, c, hc, hd, (fun _ z => nomatch z), rfl⟩
  | (f, x) :: y :: r, a, b, h, hc, hd => by
    obtain ⟨h1, c0, h2, h3, h4, h5⟩ := h
    rw [addP_cons]
    refine ⟨h1, c0, h2, h3, fun e he => ?_, h5.add hc hd⟩
    rw [addP_head] at he
    exact h4 e he
theorem Seg.rle {D : Int → δ} {d : δ} : ∀ {ps : List (Int × δ)} {a b : Int}, Seg D a ps b → (∀ v, b ≤ v → D v = d) → Rle D a (addP ps (b, d))
  | [], a, b, h, hd => by
    have e : a = b := h
    subst e
    exact ⟨rfl, hd⟩
  | [(f, x)], a, b, h, hd => by
    obtain ⟨h1, c0, h2, h3, _, h4⟩ := h
    have e : c0 = b := h4
    subst e
    unfold addP
    by_cases z : x = d
    · rw [if_pos (by simp [z])]
      refine ⟨h1, fun v v0 => ?_⟩
      by_cases q : v < c0
      · exact h3 v v0 q
      · rw [z]
        exact hd v (by omega)
    · rw [if_neg (by simp [z])]
      exact ⟨h1, h2, h3, z, rfl, hd⟩
  | (f, x) :: (g, y) :: r, a, b, h, hd => by
    obtain ⟨h1, c0, h2, h3, h4, h5⟩ := h
    have ih := h5.rle hd
    have g0 : g = c0 := h5.1
    subst g0
    rw [addP_cons]
    have hh := addP_head (x := (g, y)) (r := r) (b, d)
    cases e : addP ((g, y) :: r) (b, d) with
    | nil =>
      rw [e] at hh
      cases hh
    | cons z zs =>
      rw [e] at hh ih
      obtain rfl := Option.some.inj hh
      exact ⟨h1, h2, h3, Ne.symm (h4 (g, y) rfl), ih⟩
theorem Rle.head {D : Int → δ} : ∀ {ps : List (Int × δ)} {a : Int}, Rle D a ps → ∃ r, ps = (a, D a) :: r
  | [(f, d)], a, h => by
    obtain ⟨rfl, h2⟩ := h
    exact ⟨[], by rw [h2 f (Int.le_refl _)]⟩
  | (f, d) :: (g, e) :: r, a, h => by
    obtain ⟨rfl, h1, h2, _⟩ := h
    exact ⟨(g, e) :: r, by rw [h2 f (Int.le_refl _) h1]⟩
theorem Rle.one {D : Int → δ} : ∀ {ps qs : List (Int × δ)} {a : Int}, Rle D a ps → Rle D a qs → ps = qs
  | [(f, d)], [(f', d')], a, h, h' => by
    obtain ⟨rfl, h2⟩ := h
    obtain ⟨rfl, h2'⟩ := h'
    rw [← h2 f' (Int.le_refl _), ← h2' f' (Int.le_refl _)]
  | [(f, d)], (f', d') :: (g, e) :: r, a, h, h' => by
    exfalso
    obtain ⟨rfl, h2⟩ := h
    obtain ⟨rfl, h3, h4, h5, h6⟩ := h'
    obtain ⟨_, q⟩ := h6.head
    injection q with q1 q2
    injection q1 with q3 q4
    refine h5 ?_
    rw [q4, h2 g (by omega), ← h4 f' (Int.le_refl _) h3, h2 f' (Int.le_refl _)]
  | (f', d') :: (g, e) :: r, [(f, d)], a, h', h => by
    exfalso
    obtain ⟨rfl, h2⟩ := h
    obtain ⟨rfl, h3, h4, h5, h6⟩ := h'
    obtain ⟨_, q⟩ := h6.head
    injection q with q1 q2
    injection q1 with q3 q4
    refine h5 ?_
    rw [q4, h2 g (by omega), ← h4 f' (Int.le_refl _) h3, h2 f' (Int.le_refl _)]
  | (f, d) :: (g, e) :: r, (f', d') :: (g', e') :: r', a, h, h' => by
    obtain ⟨rfl, h3, h4, h5, h6⟩ := h
    obtain ⟨rfl, h3', h4', h5', h6'⟩ := h'
    have ed : d = d' := by rw [← h4 f' (Int.le_refl _) h3, ← h4' f' (Int.le_refl _) h3']
    subst ed
    obtain ⟨_, q⟩ := h6.head
    injection q with q1 q2
    injection q1 with q3 q4
    obtain ⟨_, q'⟩ := h6'.head
    injection q' with q1' q2'
    injection q1' with q3' q4'
    have eg : g = g' := by
      rcases (show g < g' ∨ g = g' ∨ g' < g by omega) with z | z | z
      · exfalso
        refine h5 ?_
        rw [q4, h4' g (by omega) z]
      · exact z
      · exfalso
        refine h5' ?_
        rw [q4', h4 g' (by omega) z]
    subst eg
    rw [Rle.one h6 h6']
theorem Rle.ne {D : Int → δ} {ps : List (Int × δ)} {a : Int} (h : Rle D a ps) : ps ≠ [] := by
  obtain ⟨r, e⟩ := h.head
  rw [e]
  simp
/-- two functions with the same runs are the same -/
theorem Rle.same {D E : Int → δ} : ∀ {ps : List (Int × δ)} {a : Int}, Rle D a ps → Rle E a ps → ∀ v, a ≤ v → D v = E v
  | [(f, d)], a, h, h', v, hv => by rw [h.2 v hv, h'.2 v hv]
  | (f, d) :: (g, e) :: r, a, h, h', v, hv => by
    obtain ⟨rfl, h3, h4, h5, h6⟩ := h
    obtain ⟨_, _, h4', _, h6'⟩ := h'
    by_cases z : v < g
    · rw [h4 v hv z, h4' v hv z]
    · exact Rle.same h6 h6' v (by omega)
theorem Rle.of {D E : Int → δ} : ∀ {ps : List (Int × δ)} {a : Int}, Rle D a ps → (∀ v, a ≤ v → D v = E v) → Rle E a ps
  | [(f, d)], a, h, e => ⟨h.1, fun v hv => by rw [← e v hv]; exact h.2 v hv⟩
  | (f, d) :: (g, y) :: r, a, h, e => by
    obtain ⟨h1, h3, h4, h5, h6⟩ := h
    exact ⟨h1, h3, fun v v0 v1 => by rw [← e v v0]; exact h4 v v0 v1, h5, Rle.of h6 fun v hv => e v (by omega)⟩
end
/-! ### the pieces -/
abbrev PData := Option Int × Option Ps
abbrev Piece := Int × PData
def sortP (b : Ps) : Ps := b.mergeSort leK
def goP : List Cmd → Int → Int → Int → Ps → List Piece → List Piece
  | [], _, added, first, lines, found => addP found (first, some added, some (sortP lines))
  | .home :: _, _, _, first, _, found => addP found (first, none, none)
  | .stop :: _, _, _, first, lines, found => addP found (first, none, some (sortP lines))
  | .right n :: r, off, added, first, lines, found =>
    if first ≤ -(added - n) then goP r off (added - n) (1 - (added - n)) (req lines off added) (addP found (first, none, some (sortP (req lines off added))))
    else goP r off (added - n) first (req lines off added) found
  | .left n :: r, off, added, first, lines, found => goP r off (added + n) first (req lines off (added + n)) found
  | .down n :: r, off, added, first, lines, found => goP r (off - n) added first lines found
  | .up n :: r, off, added, first, lines, found => goP r (off + n) added first lines found
def formM (cs : List Cmd) : List Piece := goP cs.reverse (last cs) 0 1 [] []
/-- a box, less the goal -/
def dataOf (v : Int) : Option (Option Int × Ps) → PData
  | none => (none, none)
  | some (st, L) => (st.map (· - v), some (L.map fun q => (q.1, q.2 - v)))
def shiftV (v : Int) (b : Ps) : Ps := b.map fun q => (q.1, q.2 + v)
theorem look_shiftV (v k : Int) : ∀ b : Ps, look (shiftV v b) k = (look b k).map (· + v)
  | [] => rfl
  | q :: b => by
    show look ((q.1, q.2 + v) :: shiftV v b) k = _
    rw [look_cons, look_cons]
    by_cases h : q.1 = k
    · rw [if_pos h, if_pos h]
      rfl
    · rw [if_neg h, if_neg h]
      exact look_shiftV v k b
theorem put_shiftV (v k x : Int) (b : Ps) : put (shiftV v b) k (x + v) = shiftV v (put b k x) := by
  unfold put shiftV
  rw [List.any_map]
  have e : ((fun q : Int × Int => decide (q.1 = k)) ∘ fun q : Int × Int => (q.1, q.2 + v)) = fun q : Int × Int => decide (q.1 = k) := rfl
  rw [e]
  by_cases h : (b.any fun q => decide (q.1 = k)) = true
  · rw [if_pos h, if_pos h, List.map_map, List.map_map]
    refine List.map_congr_left fun q _ => ?_
    show (if q.1 = k then (q.1, x + v) else (q.1, q.2 + v)) = _
    by_cases z : q.1 = k
    · rw [if_pos z]
      show _ = ((if q.1 = k then (q.1, x) else q).1, (if q.1 = k then (q.1, x) else q).2 + v)
      rw [if_pos z]
    · rw [if_neg z]
      show _ = ((if q.1 = k then (q.1, x) else q).1, (if q.1 = k then (q.1, x) else q).2 + v)
      rw [if_neg z]
  · rw [if_neg h, if_neg h, List.map_append]
    rfl
theorem req_shiftV (v k x : Int) (b : Ps) : req (shiftV v b) k (x + v) = shiftV v (req b k x) := by
  unfold req
  rw [look_shiftV]
  have e : mx (x + v) (((look b k).map (· + v)).getD (x + v)) = mx x ((look b k).getD x) + v := by
    cases look b k with
    | none =>
      show mx (x + v) (x + v) = mx x x + v
      unfold mx
      split <;> split <;> omega
    | some y =>
      show mx (x + v) (y + v) = mx x y + v
      unfold mx
      split <;> split <;> omega
  rw [e, put_shiftV]
theorem sort_shiftV (v : Int) (b : Ps) : sortP (shiftV v b) = shiftV v (sortP b) := by
  unfold sortP shiftV
  refine (List.map_mergeSort fun p _ q _ => ?_).symm
  unfold leK
  exact decide_eq_decide.mpr (by simp only; omega)
theorem data_some (v : Int) (st : Option Int) (b : Ps) : dataOf v ((some (st, shiftV v b)).map srt) = (st.map (· - v), some (sortP b)) := by
  have e : (sortP (shiftV v b)).map (fun q => (q.1, q.2 - v)) = sortP b := by
    rw [sort_shiftV]
    unfold shiftV
    rw [List.map_map]
    conv => rhs; rw [← List.map_id (sortP b)]
    refine List.map_congr_left fun q _ => ?_
    show (q.1, q.2 + v - v) = q
    rw [show q.2 + v - v = q.2 by omega]
  show (st.map (· - v), some ((sortP (shiftV v b)).map fun q => (q.1, q.2 - v))) = _
  rw [e]
theorem goP_rle {D : Int → PData} : ∀ (r : List Cmd) (off added first : Int) (lines : Ps) (found : List Piece), Seg D 1 found first →
    (∀ v, first ≤ v → D v = dataOf v ((go r off (added + v) (shiftV v lines)).map srt)) → Rle D 1 (goP r off added first lines found)
  | [], off, added, first, lines, found, hs, hD => by
    refine hs.rle fun v hv => ?_
    rw [hD v hv]
    show dataOf v ((some (some (added + v), shiftV v lines)).map srt) = _
    rw [data_some]
    show (some (added + v - v), _) = _
    rw [show added + v - v = added by omega]
  | .home :: r, off, added, first, lines, found, hs, hD => hs.rle fun v hv => hD v hv
  | .stop :: r, off, added, first, lines, found, hs, hD => by
    refine hs.rle fun v hv => ?_
    rw [hD v hv]
    exact data_some v none lines
  | .right n :: r, off, added, first, lines, found, hs, hD => by
    have key : ∀ v, first ≤ v → D v = dataOf v ((if added + v > n then go r off (added + v - n) (shiftV v (req lines off added)) else some (none, shiftV v (req lines off added))).map srt) := fun v hv => by
      rw [hD v hv]
      simp only [go]
      rw [req_shiftV]
    simp only [goP]
    split
    · rename_i c
      refine goP_rle r off (added - n) (1 - (added - n)) _ _ (hs.add (by omega) fun v v0 v1 => ?_) fun v hv => ?_
      · rw [key v v0, if_neg (by omega)]
        exact data_some v none _
      · rw [key v (by omega), if_pos (by omega), show added + v - n = added - n + v by omega]
    · rename_i c
      refine goP_rle r off (added - n) first _ _ hs fun v hv => ?_
      rw [key v hv, if_pos (by omega), show added + v - n = added - n + v by omega]
  | .left n :: r, off, added, first, lines, found, hs, hD => by
    refine goP_rle r off (added + n) first _ _ hs fun v hv => ?_
    rw [hD v hv]
    simp only [go]
    rw [show added + v + n = added + n + v by omega, req_shiftV]
  | .down n :: r, off, added, first, lines, found, hs, hD => by
    refine goP_rle r (off - n) added first _ _ hs fun v hv => ?_
    rw [hD v hv]
    simp only [go]
  | .up n :: r, off, added, first, lines, found, hs, hD => by
    refine goP_rle r (off + n) added first _ _ hs fun v hv => ?_
    rw [hD v hv]
    simp only [go]
/-- THE FORM IS ITS BOXES: from each piece's first value on the boxes have its data -/
theorem form_rle (cs : List Cmd) : Rle (fun v => dataOf v (boxM cs v)) 1 (formM cs) := by
  refine goP_rle cs.reverse (last cs) 0 1 [] [] rfl fun v _ => ?_
  show _ = dataOf v ((go cs.reverse (last cs) (0 + v) []).map srt)
  rw [Int.zero_add]
  rfl
theorem dataOf_inj {v : Int} : ∀ {x y : Option (Option Int × Ps)}, dataOf v x = dataOf v y → x = y
  | none, none, _ => rfl
  | none, some (_, _), h => by cases (Prod.mk.inj h).2
  | some (_, _), none, h => by cases (Prod.mk.inj h).2
  | some (st, L), some (st', L'), h => by
    obtain ⟨h1, h2⟩ := Prod.mk.inj h
    have e1 : st = st' := by
      cases st <;> cases st'
      · rfl
      · cases h1
      · cases h1
      · rename_i a b
        have z : a - v = b - v := Option.some.inj h1
        rw [show a = b by omega]
    have e2 : L = L' := by
      have z := Option.some.inj h2
      have inj : ∀ {p q : Int × Int}, (p.1, p.2 - v) = (q.1, q.2 - v) → p = q := fun {p q} e => by
        obtain ⟨e1, e2⟩ := Prod.mk.inj e
        exact Prod.ext e1 (by omega)
      exact List.map_inj_right (fun p q e => inj e) |>.mp z
    rw [e1, e2]
theorem form_eq (cs ds : List Cmd) : formM cs = formM ds ↔ ∀ v, 1 ≤ v → boxM cs v = boxM ds v := by
  constructor
  · intro h v hv
    have a := form_rle cs
    rw [h] at a
    exact dataOf_inj (a.same (form_rle ds) v hv)
  · intro h
    refine (form_rle cs).one ?_
    exact (form_rle ds).of fun v hv => by
      show dataOf v (boxM ds v) = dataOf v (boxM cs v)
      rw [h v hv]
end Gc

/-! forms in the heap, and as data -/
namespace Gc
open PySem PyProof.Rows L2
def optW : Option Int → V
  | none => .non
  | some n => .int n
def optE : Option Int → PyData
  | none => .none
  | some n => .int n
def linesD : Option Ps → PyData
  | none => .none
  | some L => .list (L.map encP)
def pdataD (d : PData) : PyData := .tuple [optE d.1, linesD d.2]
def pieceD (p : Piece) : PyData := .tuple [.int p.1, optE p.2.1, linesD p.2.2]
def reachD (x : Int × Int × Int) : PyData := .tuple [.int x.1, .int x.2.1, .int x.2.2]
def formD (x : Int × Int × Int) (ps : List Piece) : PyData := .tuple [reachD x, .list (ps.map pieceD)]
theorem dp_opt {K : PySem.W.Frag} {H : Hp} (o : Option Int) : Dp K H (optW o) (optE o) := by
  cases o with
  | none => exact .non
  | some n => exact .int n
theorem eqv_opt (a b : Option Int) : PyData.eqv (optE a) (optE b) = decide (a = b) := by
  cases a <;> cases b <;> simp [optE, PyData.eqv]
  rw [Bool.eq_iff_iff, beq_iff_eq, decide_eq_true_eq]
theorem eqv_pairs : ∀ a b : Ps, PyData.eqvAll (a.map encP) (b.map encP) = decide (a = b)
  | [], [] => by simp [PyData.eqvAll]
  | [], _ :: _ => by simp [PyData.eqvAll]
  | _ :: _, [] => by simp [PyData.eqvAll]
  | (x, y) :: a, (u, v) :: b => by
    rw [List.map_cons, List.map_cons, PyData.eqvAll, eqv_pairs a b]
    simp only [encP, PyData.eqv, PyData.eqvAll, Bool.and_true]
    rw [Bool.eq_iff_iff]
    simp
theorem eqv_lines (a b : Option Ps) : PyData.eqv (linesD a) (linesD b) = decide (a = b) := by
  cases a <;> cases b <;> simp [linesD, PyData.eqv]
  exact eqv_pairs _ _
theorem eqv_pdata (a b : PData) : PyData.eqv (pdataD a) (pdataD b) = decide (a = b) := by
  obtain ⟨a1, a2⟩ := a
  obtain ⟨b1, b2⟩ := b
  simp only [pdataD, PyData.eqv, PyData.eqvAll, Bool.and_true]
  rw [eqv_opt, eqv_lines, Bool.eq_iff_iff]
  simp
theorem eqv_pieces : ∀ a b : List Piece, PyData.eqvAll (a.map pieceD) (b.map pieceD) = decide (a = b)
  | [], [] => by simp [PyData.eqvAll]
  | [], _ :: _ => by simp [PyData.eqvAll]
  | _ :: _, [] => by simp [PyData.eqvAll]
  | (x, s, l) :: a, (u, t, m) :: b => by
    rw [List.map_cons, List.map_cons, PyData.eqvAll, eqv_pieces a b]
    simp only [pieceD, PyData.eqv, PyData.eqvAll, Bool.and_true]
    rw [eqv_opt, eqv_lines, Bool.eq_iff_iff]
    simp
theorem eqv_reach (x y : Int × Int × Int) : PyData.eqv (reachD x) (reachD y) = decide (x = y) := by
  obtain ⟨a, b, c⟩ := x
  obtain ⟨d, e, f⟩ := y
  simp only [reachD, PyData.eqv, PyData.eqvAll, Bool.and_true]
  rw [Bool.eq_iff_iff]
  simp
theorem eqv_form (x y : Int × Int × Int) (ps qs : List Piece) : PyData.eqv (formD x ps) (formD y qs) = decide (x = y ∧ ps = qs) := by
  simp only [formD, PyData.eqv, PyData.eqvAll, Bool.and_true]
  rw [eqv_reach, eqv_pieces, Bool.eq_iff_iff]
  simp
theorem lay_pairs : ∀ a : Ps, PyData.canLayAll0 (a.map encP) = true ∧ PyData.depthAll (a.map encP) ≤ 1
  | [] => by simp [PyData.canLayAll0, PyData.depthAll]
  | q :: a => by
    obtain ⟨h1, h2⟩ := lay_pairs a
    simp [PyData.canLayAll0, PyData.canLay0, encP, PyData.depthAll, PyData.depth, h1, h2]
theorem lay_opt (o : Option Int) : PyData.canLay0 (optE o) = true ∧ (optE o).depth = 0 := by
  cases o <;> simp [optE, PyData.canLay0, PyData.depth]
theorem lay_lines (o : Option Ps) : PyData.canLay0 (linesD o) = true ∧ (linesD o).depth ≤ 2 := by
  cases o with
  | none => simp [linesD, PyData.canLay0, PyData.depth]
  | some L =>
    obtain ⟨h1, h2⟩ := lay_pairs L
    simp only [linesD, PyData.canLay0, PyData.depth, h1]
    exact ⟨trivial, by omega⟩
theorem shaped_pdata (d : PData) : SeqAt.shaped (pdataD d) = true := by
  obtain ⟨h1, h2⟩ := lay_opt d.1
  obtain ⟨h3, h4⟩ := lay_lines d.2
  unfold SeqAt.shaped
  rw [decide_eq_true]
  · simp [pdataD, PyData.canLay0, PyData.canLayAll0, h1, h3]
  · simp only [pdataD, PyData.depth, PyData.depthAll, h2]
    omega
theorem lay_pieces : ∀ a : List Piece, PyData.canLayAll0 (a.map pieceD) = true ∧ PyData.depthAll (a.map pieceD) ≤ 3
  | [] => by simp [PyData.canLayAll0, PyData.depthAll]
  | p :: a => by
    obtain ⟨h1, h2⟩ := lay_pieces a
    obtain ⟨h3, h4⟩ := lay_opt p.2.1
    obtain ⟨h5, h6⟩ := lay_lines p.2.2
    simp only [List.map_cons, PyData.canLayAll0, PyData.canLay0, pieceD, PyData.depthAll, PyData.depth, h1, h3, h4, h5]
    exact ⟨by simp, by omega⟩
theorem shaped_pieces (ps : List Piece) : SeqAt.shaped (.list (ps.map pieceD)) = true := by
  obtain ⟨h1, h2⟩ := lay_pieces ps
  unfold SeqAt.shaped
  rw [decide_eq_true]
  · simp [PyData.canLay0, h1]
  · simp only [PyData.depth]
    omega
theorem shaped_reach (x : Int × Int × Int) : SeqAt.shaped (reachD x) = true := by
  unfold SeqAt.shaped
  rw [decide_eq_true] <;> simp [reachD, PyData.canLay0, PyData.canLayAll0, PyData.depth, PyData.depthAll]
theorem shaped_form (x : Int × Int × Int) (ps : List Piece) : SeqAt.shaped (formD x ps) = true := by
  obtain ⟨h1, h2⟩ := lay_pieces ps
  unfold SeqAt.shaped
  rw [decide_eq_true]
  · simp [formD, reachD, PyData.canLay0, PyData.canLayAll0, h1]
  · simp only [formD, reachD, PyData.depth, PyData.depthAll]
    omega
/-! ### in the heap -/
def PairsAt (H : Hp) (ts : List Addr) (L : Ps) : Prop := Paired (fun (t : Addr) (q : Int × Int) => H t = some (.tup [.int q.1, .int q.2])) ts L
def refO : Option Addr → V
  | none => .non
  | some l => .ref l
def LinesAt (H : Hp) : Option Addr → Option Ps → Prop
  | none, none => True
  | some l, some L => ∃ ts : List Addr, H l = some (.lst (ts.map V.ref)) ∧ PairsAt H ts L
  | _, _ => False
/-- a piece, its tuple and its list -/
def PieceAt (H : Hp) (i : Addr × Option Addr) (p : Piece) : Prop := H i.1 = some (.tup [.int p.1, optW p.2.1, refO i.2]) ∧ LinesAt H i.2 p.2.2
theorem PairsAt.mono {H H' : Hp} {ts : List Addr} {L : Ps} (e : ∀ t xs, H t = some (.tup xs) → H' t = some (.tup xs)) (h : PairsAt H ts L) : PairsAt H' ts L := Paired.mapP h fun _ _ q => e _ _ q
theorem LinesAt.mono {H H' : Hp} {l : Option Addr} {o : Option Ps} (e : ∀ t xs, H t = some (.tup xs) → H' t = some (.tup xs)) (k : ∀ a xs, l = some a → H a = some (.lst xs) → H' a = some (.lst xs)) (h : LinesAt H l o) : LinesAt H' l o := by
  match l, o, h with
  | none, none, _ => trivial
  | some l, some L, h =>
    obtain ⟨ts, h1, h2⟩ := h
    exact ⟨ts, k l _ rfl h1, h2.mono e⟩
theorem PieceAt.mono {H H' : Hp} {i : Addr × Option Addr} {p : Piece} (e : ∀ t xs, H t = some (.tup xs) → H' t = some (.tup xs)) (k : ∀ a xs, i.2 = some a → H a = some (.lst xs) → H' a = some (.lst xs)) (h : PieceAt H i p) : PieceAt H' i p :=
  ⟨e _ _ h.1, h.2.mono e k⟩
theorem PieceAt.same {H H' : Hp} {i : Addr × Option Addr} {p : Piece} (e : Same H H') (h : PieceAt H i p) : PieceAt H' i p := h.mono (fun _ _ q => e _ _ q) fun _ _ _ q => e _ _ q
theorem PairsAt.dp {K : PySem.W.Frag} {H : Hp} : ∀ {ts : List Addr} {L : Ps}, PairsAt H ts L → DpAll K H (ts.map V.ref) (L.map encP)
  | _, _, .nil => .nil
  | _, _, .cons h t => .cons (.tup (SqT.of h) (.cons (.int _) (.cons (.int _) .nil))) (PairsAt.dp t)
theorem LinesAt.dp {K : PySem.W.Frag} {H : Hp} {l : Option Addr} {o : Option Ps} (h : LinesAt H l o) : Dp K H (refO l) (linesD o) := by
  match l, o, h with
  | none, none, _ => exact .non
  | some l, some L, h =>
    obtain ⟨ts, h1, h2⟩ := h
    exact .lst (SqL.of h1) h2.dp
theorem PieceAt.dp {K : PySem.W.Frag} {H : Hp} {i : Addr × Option Addr} {p : Piece} (h : PieceAt H i p) : Dp K H (.ref i.1) (pieceD p) := .tup (SqT.of h.1) (.cons (.int _) (.cons (dp_opt _) (.cons h.2.dp .nil)))
theorem pieces_dp {K : PySem.W.Frag} {H : Hp} : ∀ {is : List (Addr × Option Addr)} {ps : List Piece}, Paired (PieceAt H) is ps → DpAll K H (is.map fun i => V.ref i.1) (ps.map pieceD)
  | _, _, .nil => .nil
  | _, _, .cons h t => .cons h.dp (pieces_dp t)
/-- a list of pieces that grows at m; all of it is newer than H0, each list of lines its own -/
structure FoundAt (H0 H : Hp) (m : Addr) (is : List (Addr × Option Addr)) (ps : List Piece) : Prop where
  lst : H m = some (.lst (is.map fun i => V.ref i.1))
  its : Paired (PieceAt H) is ps
  nd : (is.filterMap (·.2)).Nodup
  new : ∀ l ∈ is.filterMap (·.2), H0 l = none ∧ l ≠ m ∧ ∃ xs, H l = some (.lst xs)
  m0 : H0 m = none
theorem FoundAt.same {H0 H H' : Hp} {m : Addr} {is : List (Addr × Option Addr)} {ps : List Piece} (e : Same H H') (h : FoundAt H0 H m is ps) : FoundAt H0 H' m is ps :=
  ⟨e _ _ h.lst, Paired.mapP h.its fun _ _ q => q.same e, h.nd, fun l hl => by
    obtain ⟨h1, h2, xs, h3⟩ := h.new l hl
    exact ⟨h1, h2, xs, e _ _ h3⟩, h.m0⟩
theorem addP_len {ps : List Piece} {p : Piece} : (addP ps p).length ≤ ps.length + 1 := by
  unfold addP
  split
  · exact Nat.le_succ _
  · rw [List.length_append]
    exact Nat.le_refl _
theorem paired_last {α β : Type} {F : α → β → Prop} {xs : List α} {ys : List β} (h : Paired F xs ys) : (xs = [] ∧ ys = []) ∨ ∃ x y xs' ys', xs = xs' ++ [x] ∧ ys = ys' ++ [y] ∧ F x y := by
  induction h with
  | nil => exact .inl ⟨rfl, rfl⟩
  | @cons a b as bs h t ih =>
    rcases ih with ⟨rfl, rfl⟩ | ⟨x, y, xs', ys', rfl, rfl, f⟩
    · exact .inr ⟨a, b, [], [], rfl, rfl, h⟩
    · exact .inr ⟨x, y, a :: xs', b :: ys', rfl, rfl, f⟩
end Gc

/-! running commands over plain texts: the goal is reached exactly if the box is fulfilled -/
namespace Gc
def seen (t : Int) : Option Int → Int
  | none => t
  | some a => min a t
/-- the goal of the cursor after one command in a row of length t -/
def aim1 (t : Int) (a : Option Int) : Cmd → Option Int
  | .down _ => a
  | .up _ => a
  | .right n => some (min (seen t a + n) t)
  | .left n => some (max 0 (seen t a - n))
  | .home => some 0
  | .stop => none
def aimF (T : Int → Int) : Int → Option Int → List Cmd → Option Int
  | _, a, [] => a
  | r, a, c :: cs => aimF T (r + c.dv) (aim1 (T r) a c) cs
theorem aimF_app (T : Int → Int) : ∀ (xs ys : List Cmd) (r : Int) (a : Option Int), aimF T r a (xs ++ ys) = aimF T (r + last xs) (aimF T r a xs) ys
  | [], ys, r, a => by
    show aimF T r a ys = aimF T (r + 0) a ys
    rw [Int.add_zero]
  | c :: xs, ys, r, a => by
    show aimF T (r + c.dv) (aim1 (T r) a c) (xs ++ ys) = aimF T (r + (c.dv + last xs)) _ ys
    rw [aimF_app T xs ys, Int.add_assoc]
    rfl
theorem aimF_snoc (T : Int → Int) (cs : List Cmd) (c : Cmd) (r : Int) (a : Option Int) : aimF T r a (cs ++ [c]) = aim1 (T (r + last cs)) (aimF T r a cs) c := aimF_app T cs [c] r a
def ge (a : Option Int) (n : Int) : Prop := ∀ x, a = some x → n ≤ x
theorem ge_none (n : Int) : ge none n := fun _ h => nomatch h
theorem ge_some {x n : Int} : ge (some x) n ↔ n ≤ x := ⟨fun h => h x rfl, fun h y e => by rw [← Option.some.inj e]; exact h⟩
theorem seen_ge {t n : Int} {a : Option Int} : n ≤ seen t a ↔ n ≤ t ∧ ge a n := by
  cases a with
  | none => exact ⟨fun h => ⟨h, ge_none n⟩, fun h => h.1⟩
  | some x =>
    rw [ge_some]
    show n ≤ min x t ↔ _
    omega
theorem aim1_nn {t : Int} {a : Option Int} {c : Cmd} (ht : 0 ≤ t) (ha : ge a 0) (ok : c.ok) : ge (aim1 t a c) 0 := by
  have hs : 0 ≤ seen t a := seen_ge.mpr ⟨ht, ha⟩
  cases c with
  | down n => exact ha
  | up n => exact ha
  | right n =>
    have o : 1 ≤ n := ok
    refine ge_some.mpr ?_
    omega
  | left n =>
    refine ge_some.mpr ?_
    omega
  | home => exact ge_some.mpr (Int.le_refl 0)
  | stop => exact ge_none 0
theorem aimF_nn {T : Int → Int} (hT : ∀ k, 0 ≤ T k) : ∀ {cs : List Cmd} {r : Int} {a : Option Int}, AllOk cs → ge a 0 → ge (aimF T r a cs) 0
  | [], _, _, _, h => h
  | c :: cs, r, a, ok, h => aimF_nn hT (cs := cs) (fun d hd => ok d (List.mem_cons_of_mem _ hd)) (aim1_nn (hT r) h (ok c List.mem_cons_self))
theorem last_snoc (cs : List Cmd) (c : Cmd) : last (cs ++ [c]) = last cs + c.dv := by
  rw [last_app]
  show _ + (c.dv + 0) = _
  omega
theorem reqF_le {f : Int → Int} {o v : Int} {T : Int → Int} {r : Int} : (∀ k, reqF f o v k ≤ T (r + k)) ↔ (∀ k, f k ≤ T (r + k)) ∧ v ≤ T (r + o) := by
  constructor
  · intro h
    refine ⟨fun k => Int.le_trans (reqF_ge f o v k) (h k), ?_⟩
    have := h o
    unfold reqF at this
    rw [if_pos rfl] at this
    omega
  · rintro ⟨h1, h2⟩ k
    unfold reqF
    have := h1 k
    split
    · rename_i e
      subst e
      omega
    · exact this
/-- the box's walk, and the run -/
theorem go_char {T : Int → Int} (hT : ∀ k, 0 ≤ T k) {r : Int} {a : Option Int} (ha : ge a 0) : ∀ (rs : List Cmd) (need : Int) (f : Int → Int), AllOk rs → 1 ≤ need →
    ((∃ st g, goF rs (last rs.reverse) need f = some (st, g) ∧ (∀ n, st = some n → ge a n) ∧ ∀ k, g k ≤ T (r + k)) ↔ (∀ k, f k ≤ T (r + k)) ∧ ge (aimF T r a rs.reverse) need)
  | [], need, f, _, _ => by
    constructor
    · rintro ⟨st, g, e, h1, h2⟩
      cases e
      exact ⟨h2, h1 need rfl⟩
    · rintro ⟨h1, h2⟩
      exact ⟨_, _, rfl, fun n e => by rw [← Option.some.inj e]; exact h2, h1⟩
  | .home :: rs, need, f, ok, hn => by
    rw [List.reverse_cons, aimF_snoc]
    constructor
    · rintro ⟨st, g, e, _⟩
      cases e
    · rintro ⟨_, h2⟩
      have : need ≤ 0 := ge_some.mp h2
      omega
  | .stop :: rs, need, f, ok, hn => by
    rw [List.reverse_cons, aimF_snoc]
    constructor
    · rintro ⟨st, g, e, _, h2⟩
      cases e
      exact ⟨h2, ge_none _⟩
    · rintro ⟨h1, _⟩
      exact ⟨_, _, rfl, (fun n e => nomatch e), h1⟩
  | .down n :: rs, need, f, ok, hn => by
    rw [List.reverse_cons, aimF_snoc, last_snoc]
    have ih := go_char hT (r := r) ha rs need f (fun d hd => ok d (List.mem_cons_of_mem _ hd)) hn
    have e : last rs.reverse + (Cmd.down n).dv - n = last rs.reverse := by
      show last rs.reverse + n - n = _
      omega
    simp only [goF]
    rw [e]
    exact ih
  | .up n :: rs, need, f, ok, hn => by
    rw [List.reverse_cons, aimF_snoc, last_snoc]
    have ih := go_char hT (r := r) ha rs need f (fun d hd => ok d (List.mem_cons_of_mem _ hd)) hn
    have e : last rs.reverse + (Cmd.up n).dv + n = last rs.reverse := by
      show last rs.reverse + -n + n = _
      omega
    simp only [goF]
    rw [e]
    exact ih
  | .left n :: rs, need, f, ok, hn => by
    have o : 1 ≤ n := ok _ List.mem_cons_self
    rw [List.reverse_cons, aimF_snoc, last_snoc]
    have ih := go_char hT (r := r) ha rs (need + n) (reqF f (last rs.reverse) (need + n)) (fun d hd => ok d (List.mem_cons_of_mem _ hd)) (by omega)
    have e : last rs.reverse + (Cmd.left n).dv = last rs.reverse := Int.add_zero _
    simp only [goF]
    rw [e, ih, reqF_le]
    have s : ge (aim1 (T (r + last rs.reverse)) (aimF T r a rs.reverse) (.left n)) need ↔ need + n ≤ T (r + last rs.reverse) ∧ ge (aimF T r a rs.reverse) (need + n) := by
      rw [← seen_ge]
      show ge (some _) need ↔ _
      rw [ge_some]
      omega
    rw [s]
    exact ⟨fun h => ⟨h.1.1, h.1.2, h.2⟩, fun h => ⟨⟨h.1, h.2.1⟩, h.2.2⟩⟩
  | .right n :: rs, need, f, ok, hn => by
    have o : 1 ≤ n := ok _ List.mem_cons_self
    have okr : AllOk rs := fun d hd => ok d (List.mem_cons_of_mem _ hd)
    rw [List.reverse_cons, aimF_snoc, last_snoc]
    have e : last rs.reverse + (Cmd.right n).dv = last rs.reverse := Int.add_zero _
    have nn : 0 ≤ seen (T (r + last rs.reverse)) (aimF T r a rs.reverse) := seen_ge.mpr ⟨hT _, aimF_nn hT (fun d hd => okr d (List.mem_reverse.mp hd)) ha⟩
    simp only [goF]
    rw [e]
    have s : ge (aim1 (T (r + last rs.reverse)) (aimF T r a rs.reverse) (.right n)) need ↔ need ≤ T (r + last rs.reverse) ∧ need - n ≤ seen (T (r + last rs.reverse)) (aimF T r a rs.reverse) := by
      show ge (some _) need ↔ _
      rw [ge_some]
      omega
    rw [s]
    by_cases c : need > n
    · rw [if_pos c]
      have ih := go_char hT (r := r) ha rs (need - n) (reqF f (last rs.reverse) need) okr (by omega)
      rw [ih, reqF_le, seen_ge]
      exact ⟨fun h => ⟨h.1.1, h.1.2, by omega, h.2⟩, fun h => ⟨⟨h.1, h.2.1⟩, h.2.2.2⟩⟩
    · rw [if_neg c]
      constructor
      · rintro ⟨st, g, e, _, h2⟩
        cases e
        have h3 := reqF_le.mp h2
        exact ⟨h3.1, h3.2, by omega⟩
      · rintro ⟨h1, h2, _⟩
        exact ⟨_, _, rfl, (fun n e => nomatch e), reqF_le.mpr ⟨h1, h2⟩⟩
/-- the goal is reached exactly if the start fulfils the box -/
theorem box_char {T : Int → Int} (hT : ∀ k, 0 ≤ T k) {r : Int} {a : Option Int} (ha : ge a 0) {cs : List Cmd} {goal : Int} (ok : AllOk cs) (hg : 1 ≤ goal) :
    ge (aimF T r a cs) goal ↔ ∃ st L, boxM cs goal = some (st, L) ∧ (∀ n, st = some n → ge a n) ∧ ∀ k, val L k ≤ T (r + k) := by
  have h := go_char hT (r := r) ha cs.reverse goal (fun _ => 0) (allOk_rev ok) hg
  rw [List.reverse_reverse] at h
  have h0 : (∀ k : Int, (fun _ : Int => (0 : Int)) k ≤ T (r + k)) := fun k => hT _
  have h' : (∃ st g, boxF cs goal = some (st, g) ∧ (∀ n, st = some n → ge a n) ∧ ∀ k, g k ≤ T (r + k)) ↔ ge (aimF T r a cs) goal := h.trans ⟨fun x => x.2, fun x => ⟨h0, x⟩⟩
  rw [← h']
  rcases box_spec ok hg with ⟨e1, e2⟩ | ⟨st, b, e1, gb, e2, _⟩
  · rw [e1, e2]
    constructor
    · rintro ⟨_, _, z, _⟩
      cases z
    · rintro ⟨_, _, z, _⟩
      cases z
  · rw [e1, e2]
    have vp := val_perm gb (List.mergeSort_perm b leK)
    constructor
    · rintro ⟨st', g, z, h1, h2⟩
      cases z
      exact ⟨_, _, rfl, h1, fun k => by rw [vp]; exact h2 k⟩
    · rintro ⟨st', L, z, h1, h2⟩
      cases z
      exact ⟨_, _, rfl, h1, fun k => by rw [← vp]; exact h2 k⟩
end Gc

/-! rows that are visited; the least text -/
namespace Gc
def Within (cs : List Cmd) (lo hi : Int) : Prop := ∀ i, lo ≤ last (cs.take i) ∧ last (cs.take i) ≤ hi
theorem Within.tail {c : Cmd} {cs : List Cmd} {lo hi : Int} (h : Within (c :: cs) lo hi) : Within cs (lo - c.dv) (hi - c.dv) := fun i => by
  have q := h (i + 1)
  have e : last ((c :: cs).take (i + 1)) = c.dv + last (cs.take i) := rfl
  rw [e] at q
  omega
theorem Within.init {cs : List Cmd} {c : Cmd} {lo hi : Int} (h : Within (cs ++ [c]) lo hi) : Within cs lo hi := fun i => by
  by_cases l : i ≤ cs.length
  · have q := h i
    rw [List.take_append_of_le_length l] at q
    exact q
  · have q := h cs.length
    rw [List.take_append_of_le_length (Nat.le_refl _)] at q
    rw [List.take_of_length_le (by omega)]
    rw [List.take_length] at q
    exact q
theorem Within.whole {cs : List Cmd} {lo hi : Int} (h : Within cs lo hi) : lo ≤ last cs ∧ last cs ≤ hi := by
  have q := h cs.length
  rw [List.take_length] at q
  exact q
theorem Within.zero {cs : List Cmd} {lo hi : Int} (h : Within cs lo hi) : lo ≤ 0 ∧ 0 ≤ hi := h 0
theorem keys_req' {b : Ps} {o v k : Int} (h : k ∈ keys (req b o v)) : k = o ∨ k ∈ keys b := by
  unfold req at h
  rw [keys_put] at h
  split at h
  · exact .inr h
  · rcases List.mem_append.mp h with q | q
    · exact .inr q
    · exact .inl (List.mem_singleton.mp q)
/-- the offsets of a box are rows that are visited -/
theorem go_within {lo hi : Int} : ∀ {rs : List Cmd} {need : Int} {b : Ps} {st : Option Int} {b' : Ps}, go rs (last rs.reverse) need b = some (st, b') → Within rs.reverse lo hi → (∀ k ∈ keys b, lo ≤ k ∧ k ≤ hi) → ∀ k ∈ keys b', lo ≤ k ∧ k ≤ hi
  | [], need, b, st, b', h, _, hb => by cases h; exact hb
  | .home :: rs, need, b, st, b', h, _, _ => by cases h
  | .stop :: rs, need, b, st, b', h, _, hb => by cases h; exact hb
  | .down n :: rs, need, b, st, b', h, w, hb => by
    rw [List.reverse_cons] at h w
    rw [last_snoc] at h
    have e : last rs.reverse + (Cmd.down n).dv - n = last rs.reverse := by
      show last rs.reverse + n - n = _
      omega
    simp only [go] at h
    rw [e] at h
    exact go_within h w.init hb
  | .up n :: rs, need, b, st, b', h, w, hb => by
    rw [List.reverse_cons] at h w
    rw [last_snoc] at h
    have e : last rs.reverse + (Cmd.up n).dv + n = last rs.reverse := by
      show last rs.reverse + -n + n = _
      omega
    simp only [go] at h
    rw [e] at h
    exact go_within h w.init hb
  | .left n :: rs, need, b, st, b', h, w, hb => by
    rw [List.reverse_cons] at h w
    rw [last_snoc, show last rs.reverse + (Cmd.left n).dv = last rs.reverse from Int.add_zero _] at h
    simp only [go] at h
    refine go_within h w.init fun k hk => ?_
    rcases keys_req' hk with q | q
    · rw [q]
      exact w.init.whole
    · exact hb k q
  | .right n :: rs, need, b, st, b', h, w, hb => by
    rw [List.reverse_cons] at h w
    rw [last_snoc, show last rs.reverse + (Cmd.right n).dv = last rs.reverse from Int.add_zero _] at h
    have hr : ∀ k ∈ keys (req b (last rs.reverse) need), lo ≤ k ∧ k ≤ hi := fun k hk => by
      rcases keys_req' hk with q | q
      · rw [q]
        exact w.init.whole
      · exact hb k q
    simp only [go] at h
    split at h
    · exact go_within h w.init hr
    · cases h
      exact hr
theorem box_within {lo hi : Int} {cs : List Cmd} {goal : Int} {st : Option Int} {L : Ps} (h : boxM cs goal = some (st, L)) (w : Within cs lo hi) : ∀ q ∈ L, lo ≤ q.1 ∧ q.1 ≤ hi := by
  unfold boxM at h
  cases e : go cs.reverse (last cs) goal [] with
  | none =>
    rw [e] at h
    cases h
  | some x =>
    rw [e] at h
    obtain ⟨st', b'⟩ := x
    have h' : (st', b'.mergeSort leK) = (st, L) := Option.some.inj h
    cases h'
    have k := go_within (rs := cs.reverse) (lo := lo) (hi := hi) (by rw [List.reverse_reverse]; exact e) (by rw [List.reverse_reverse]; exact w) (fun k hk => by cases hk)
    intro q hq
    exact k q.1 (List.mem_map.mpr ⟨q, (List.mergeSort_perm b' leK).mem_iff.mp hq, rfl⟩)
/-! ### a text from a box -/
def setAll (lo : Int) (T : List Int) (L : Ps) : List Int := L.foldl (fun T q => T.set (q.1 - lo).toNat q.2) T
theorem setAll_len (lo : Int) : ∀ (L : Ps) (T : List Int), (setAll lo T L).length = T.length
  | [], _ => rfl
  | q :: L, T => by
    show (setAll lo (T.set (q.1 - lo).toNat q.2) L).length = _
    rw [setAll_len lo L, List.length_set]
theorem setAll_get {lo : Int} : ∀ {L : Ps} {T : List Int} {k : Int}, (keys L).Nodup → (∀ q ∈ L, lo ≤ q.1 ∧ q.1 - lo < T.length) → lo ≤ k → k - lo < T.length →
    (setAll lo T L).getD (k - lo).toNat 0 = match look L k with | some v => v | none => T.getD (k - lo).toNat 0
  | [], T, k, _, _, _, _ => rfl
  | q :: L, T, k, nd, hq, h0, h1 => by
    have nd' : q.1 ∉ keys L ∧ (keys L).Nodup := List.nodup_cons.mp nd
    have q0 := hq q List.mem_cons_self
    show (setAll lo (T.set (q.1 - lo).toNat q.2) L).getD (k - lo).toNat 0 = _
    rw [setAll_get (L := L) nd'.2 (fun p hp => by rw [List.length_set]; exact hq p (List.mem_cons_of_mem _ hp)) h0 (by rw [List.length_set]; exact h1), look_cons]
    by_cases e : q.1 = k
    · subst e
      rw [if_pos rfl, look_none.mpr nd'.1]
      show (T.set (q.1 - lo).toNat q.2).getD (q.1 - lo).toNat 0 = q.2
      rw [List.getD_eq_getElem?_getD, List.getElem?_set_self (by omega)]
      rfl
    · rw [if_neg e]
      cases look L k with
      | some v => rfl
      | none =>
        show (T.set (q.1 - lo).toNat q.2).getD (k - lo).toNat 0 = T.getD (k - lo).toNat 0
        rw [List.getD_eq_getElem?_getD, List.getD_eq_getElem?_getD, List.getElem?_set_ne (by omega)]
/-! ### the run over a list of lengths -/
def lenAt (T : List Int) (r : Int) : Int := T.getD r.toNat 0
/-- the run over a text: the row must stand -/
def afterL (T : List Int) : Int → Option Int → List Cmd → Option (Int × Option Int)
  | r, a, [] => some (r, a)
  | r, a, c :: cs => if c.vert = true then (if 0 ≤ r + c.dv ∧ r + c.dv < T.length then afterL T (r + c.dv) a cs else none) else afterL T r (aim1 (lenAt T r) a c) cs
theorem Within.le {cs : List Cmd} {lo hi lo' hi' : Int} (h : Within cs lo hi) (h1 : lo' ≤ lo) (h2 : hi ≤ hi') : Within cs lo' hi' := fun i => by
  have := h i
  omega
theorem afterL_in {T : List Int} : ∀ {cs : List Cmd} {r : Int} {a : Option Int}, Within cs (-r) (T.length - 1 - r) → afterL T r a cs = some (r + last cs, aimF (lenAt T) r a cs)
  | [], r, a, _ => by
    show some (r, a) = some (r + 0, a)
    rw [Int.add_zero]
  | c :: cs, r, a, w => by
    have w1 := w 1
    have e1 : last ((c :: cs).take 1) = c.dv + 0 := rfl
    rw [e1] at w1
    have wt : Within cs (-(r + c.dv)) (T.length - 1 - (r + c.dv)) := w.tail.le (by omega) (by omega)
    have ih := afterL_in (a := aim1 (lenAt T r) a c) wt
    have el : last (c :: cs) = c.dv + last cs := rfl
    have ea : aimF (lenAt T) r a (c :: cs) = aimF (lenAt T) (r + c.dv) (aim1 (lenAt T r) a c) cs := rfl
    rw [ea, el, ← Int.add_assoc]
    by_cases v : c.vert = true
    · have ia : aim1 (lenAt T r) a c = a := by
        cases c with
        | down n => rfl
        | up n => rfl
        | right n => cases v
        | left n => cases v
        | home => cases v
        | stop => cases v
      rw [ia] at ih ⊢
      simp only [afterL]
      rw [if_pos v, if_pos ⟨by omega, by omega⟩, ih]
    · have d0 : c.dv = 0 := by
        cases c with
        | down n => exact absurd rfl v
        | up n => exact absurd rfl v
        | right n => rfl
        | left n => rfl
        | home => rfl
        | stop => rfl
      simp only [afterL]
      rw [if_neg v]
      rw [d0, Int.add_zero] at ih ⊢
      exact ih
theorem lenAt_nn {T : List Int} (h : ∀ x ∈ T, 0 ≤ x) (r : Int) : 0 ≤ lenAt T r := by
  unfold lenAt
  rw [List.getD_eq_getElem?_getD]
  cases e : T[r.toNat]? with
  | none => exact Int.le_refl 0
  | some x => exact h x (List.mem_of_getElem? e)
/-- over a text whose rows are all there: the goal is reached exactly if the box is fulfilled -/
theorem after_char {T : List Int} (hT : ∀ x ∈ T, 0 ≤ x) {r : Int} {a : Option Int} (ha : ge a 0) {cs : List Cmd} {goal : Int} (ok : AllOk cs) (hg : 1 ≤ goal) (w : Within cs (-r) (T.length - 1 - r)) :
    ∃ a', afterL T r a cs = some (r + last cs, a') ∧ ge a' 0 ∧ (ge a' goal ↔ ∃ st L, boxM cs goal = some (st, L) ∧ (∀ n, st = some n → ge a n) ∧ ∀ k, val L k ≤ lenAt T (r + k)) :=
  ⟨_, afterL_in w, aimF_nn (lenAt_nn hT) ok ha, box_char (lenAt_nn hT) ha ok hg⟩
/-! ### the least text -/
def textM (lo hi : Int) (L : Ps) : List Int := setAll lo (List.replicate (hi - lo + 1).toNat 0) L
theorem textM_len {lo hi : Int} (h : lo ≤ hi) (L : Ps) : ((textM lo hi L).length : Int) = hi - lo + 1 := by
  unfold textM
  rw [setAll_len, List.length_replicate]
  omega
theorem textM_at {lo hi : Int} {L : Ps} (g : Good L) (hL : ∀ q ∈ L, lo ≤ q.1 ∧ q.1 ≤ hi) {k : Int} (h0 : lo ≤ k) (h1 : k ≤ hi) : lenAt (textM lo hi L) (k - lo) = val L k := by
  unfold lenAt textM
  have hr : ((List.replicate (hi - lo + 1).toNat (0 : Int)).length : Int) = hi - lo + 1 := by
    rw [List.length_replicate]
    omega
  rw [setAll_get g.nd (fun q hq => by have := hL q hq; omega) h0 (by omega)]
  unfold val
  cases look L k with
  | some v => rfl
  | none =>
    show (List.replicate _ (0 : Int)).getD _ 0 = 0
    rw [List.getD_eq_getElem?_getD, List.getElem?_replicate]
    split <;> rfl
theorem val_off {lo hi : Int} {L : Ps} (hL : ∀ q ∈ L, lo ≤ q.1 ∧ q.1 ≤ hi) {k : Int} (h : ¬ (lo ≤ k ∧ k ≤ hi)) : val L k = 0 := by
  refine val_out fun z => ?_
  obtain ⟨q, hq, e⟩ := List.mem_map.mp z
  rw [← e] at h
  exact h (hL q hq)
theorem textM_nn {lo hi : Int} {L : Ps} (g : Good L) (hL : ∀ q ∈ L, lo ≤ q.1 ∧ q.1 ≤ hi) : ∀ x ∈ textM lo hi L, 0 ≤ x := by
  intro x hx
  obtain ⟨i, hi'⟩ := List.mem_iff_getElem?.mp hx
  have l := (List.getElem?_eq_some_iff.mp hi').1
  have l2 : (textM lo hi L).length = (hi - lo + 1).toNat := by
    unfold textM
    rw [setAll_len, List.length_replicate]
  have e := textM_at g hL (k := i + lo) (by omega) (by omega)
  unfold lenAt at e
  rw [show ((i : Int) + lo - lo).toNat = i by omega, List.getD_eq_getElem?_getD, hi'] at e
  have e' : x = val L (i + lo) := e
  rw [e']
  exact val_nonneg g _
section
variable {cs : List Cmd} {goal lo hi : Int} {st : Option Int} {L : Ps}
/-- from it, and just its goal, the goal is reached -/
theorem least_gets (g : Good L) (w : Within cs lo hi) (ok : AllOk cs) (hg : 1 ≤ goal) (e : boxM cs goal = some (st, L)) (pos : ∀ n, st = some n → 1 ≤ n) :
    ∃ a', afterL (textM lo hi L) (-lo) (some (st.getD 0)) cs = some (-lo + last cs, a') ∧ ge a' goal := by
  have hL := box_within e w
  have z := w.zero
  have tl := textM_len (lo := lo) (hi := hi) (by omega) L
  have a0 : ge (some (st.getD 0)) 0 := ge_some.mpr (by
    cases st with
    | none => exact Int.le_refl 0
    | some n =>
      have := pos n rfl
      show 0 ≤ n
      omega)
  obtain ⟨a', h1, _, h2⟩ := after_char (textM_nn g hL) a0 ok hg (w.le (show -(-lo) ≤ lo by omega) (show hi ≤ (textM lo hi L).length - 1 - (-lo) by omega))
  refine ⟨a', h1, h2.mpr ⟨st, L, e, fun n en => ge_some.mpr (by rw [en]; exact Int.le_refl n), fun k => ?_⟩⟩
  by_cases h : lo ≤ k ∧ k ≤ hi
  · rw [show -lo + k = k - lo by omega, textM_at g hL h.1 h.2]
    exact Int.le_refl _
  · rw [val_off hL h]
    exact lenAt_nn (textM_nn g hL) _
/-- with a goal less by one it is not -/
theorem least_goal (g : Good L) (w : Within cs lo hi) (ok : AllOk cs) (hg : 1 ≤ goal) (e : boxM cs goal = some (st, L)) {n : Int} (es : st = some n) (hn : 1 ≤ n) :
    ∃ a', afterL (textM lo hi L) (-lo) (some (n - 1)) cs = some (-lo + last cs, a') ∧ ¬ ge a' goal := by
  have hL := box_within e w
  have z := w.zero
  have tl := textM_len (lo := lo) (hi := hi) (by omega) L
  obtain ⟨a', h1, _, h2⟩ := after_char (textM_nn g hL) (ge_some.mpr (show 0 ≤ n - 1 by omega)) ok hg (w.le (show -(-lo) ≤ lo by omega) (show hi ≤ (textM lo hi L).length - 1 - (-lo) by omega))
  refine ⟨a', h1, fun x => ?_⟩
  obtain ⟨st', L', e', h3, _⟩ := h2.mp x
  rw [e] at e'
  cases e'
  have := ge_some.mp (h3 n es)
  omega
/-- with a length less by one it is not -/
theorem least_row (g : Good L) (w : Within cs lo hi) (ok : AllOk cs) (hg : 1 ≤ goal) (e : boxM cs goal = some (st, L)) (pos : ∀ n, st = some n → 1 ≤ n) {i : Nat} (li : i < (textM lo hi L).length) (h : 0 < lenAt (textM lo hi L) i) :
    ∃ a', afterL ((textM lo hi L).set i (lenAt (textM lo hi L) i - 1)) (-lo) (some (st.getD 0)) cs = some (-lo + last cs, a') ∧ ¬ ge a' goal := by
  have hL := box_within e w
  have z := w.zero
  have tl := textM_len (lo := lo) (hi := hi) (by omega) L
  have a0 : ge (some (st.getD 0)) 0 := ge_some.mpr (by
    cases st with
    | none => exact Int.le_refl 0
    | some n =>
      have := pos n rfl
      show 0 ≤ n
      omega)
  have nn : ∀ x ∈ (textM lo hi L).set i (lenAt (textM lo hi L) i - 1), 0 ≤ x := fun x hx => by
    rcases List.mem_or_eq_of_mem_set hx with q | q
    · exact textM_nn g hL x q
    · omega
  obtain ⟨a', h1, _, h2⟩ := after_char (r := -lo) nn a0 ok hg (w.le (show -(-lo) ≤ lo by omega) (by rw [List.length_set]; omega))
  refine ⟨a', h1, fun x => ?_⟩
  obtain ⟨st', L', e', _, h4⟩ := h2.mp x
  rw [e] at e'
  cases e'
  have q := h4 (i + lo)
  rw [show -lo + (i + lo) = (i : Int) by omega] at q
  have ev := textM_at g hL (k := i + lo) (by omega) (by omega)
  rw [show (i : Int) + lo - lo = i by omega] at ev
  rw [← ev] at q
  have es : lenAt ((textM lo hi L).set i (lenAt (textM lo hi L) i - 1)) i = lenAt (textM lo hi L) i - 1 := by
    conv => lhs; unfold lenAt
    rw [Int.toNat_natCast, List.getD_eq_getElem?_getD, List.getElem?_set_self li]
    rfl
  rw [es] at q
  omega
end
end Gc

/-! how large the numbers of a box are -/
namespace Gc
def lft : Cmd → Int
  | .left n => n
  | _ => 0
def lsum (r : List Cmd) : Int := (r.map lft).sum
theorem lsum_cons (c : Cmd) (r : List Cmd) : lsum (c :: r) = lft c + lsum r := by
  unfold lsum
  rw [List.map_cons, List.sum_cons]
theorem lsum_nn : ∀ {r : List Cmd}, AllOk r → 0 ≤ lsum r
  | [], _ => Int.le_refl 0
  | c :: r, ok => by
    rw [lsum_cons]
    have h := lsum_nn (r := r) fun d hd => ok d (List.mem_cons_of_mem _ hd)
    have o := ok c List.mem_cons_self
    cases c with
    | left n =>
      have o' : 1 ≤ n := o
      show 0 ≤ n + _
      omega
    | down n => show 0 ≤ (0 : Int) + _; omega
    | up n => show 0 ≤ (0 : Int) + _; omega
    | right n => show 0 ≤ (0 : Int) + _; omega
    | home => show 0 ≤ (0 : Int) + _; omega
    | stop => show 0 ≤ (0 : Int) + _; omega
theorem put_mem {b : Ps} {k v : Int} {q : Int × Int} (h : q ∈ put b k v) : q.2 = v ∨ q ∈ b := by
  unfold put at h
  split at h
  · obtain ⟨p, hp, e⟩ := List.mem_map.mp h
    split at e
    · rw [← e]
      exact .inl rfl
    · rw [← e]
      exact .inr hp
  · rcases List.mem_append.mp h with z | z
    · exact .inr z
    · rw [List.mem_singleton.mp z]
      exact .inl rfl
theorem req_le {b : Ps} {o v B : Int} (hb : ∀ q ∈ b, q.2 ≤ B) (hv : v ≤ B) : ∀ q ∈ req b o v, q.2 ≤ B := by
  intro q hq
  rcases put_mem hq with e | e
  · rw [e]
    unfold mx
    cases l : look b o with
    | none =>
      show (if v > v then v else v) ≤ B
      rw [if_neg (by omega)]
      exact hv
    | some x =>
      have := hb _ (look_mem l)
      show (if x > v then x else v) ≤ B
      have h : x ≤ B := this
      split <;> omega
  · exact hb q e
theorem go_vals {B : Int} : ∀ {r : List Cmd} {off need : Int} {b : Ps} {st : Option Int} {b' : Ps}, go r off need b = some (st, b') → AllOk r → need + lsum r ≤ B → (∀ q ∈ b, q.2 ≤ B) → (∀ q ∈ b', q.2 ≤ B) ∧ ∀ n, st = some n → n ≤ B
  | [], _, need, b, _, _, h, _, l, hb => by
    cases h
    refine ⟨hb, fun n e => ?_⟩
    rw [← Option.some.inj e]
    have e0 : lsum ([] : List Cmd) = 0 := rfl
    omega
  | .home :: r, _, _, b, _, _, h, _, _, _ => by cases h
  | .stop :: r, _, _, b, _, _, h, _, _, hb => by
    cases h
    exact ⟨hb, fun n e => nomatch e⟩
  | .right n :: r, off, need, b, st, b', h, ok, l, hb => by
    have okr : AllOk r := fun d hd => ok d (List.mem_cons_of_mem _ hd)
    have o : 1 ≤ n := ok _ List.mem_cons_self
    have nn := lsum_nn okr
    rw [lsum_cons] at l
    have e0 : lft (.right n) = 0 := rfl
    simp only [go] at h
    split at h
    · exact go_vals h okr (by omega) (req_le hb (by omega))
    · cases h
      exact ⟨req_le hb (by omega), fun n e => nomatch e⟩
  | .left n :: r, off, need, b, st, b', h, ok, l, hb => by
    have okr : AllOk r := fun d hd => ok d (List.mem_cons_of_mem _ hd)
    have nn := lsum_nn okr
    rw [lsum_cons] at l
    have e0 : lft (.left n) = n := rfl
    simp only [go] at h
    exact go_vals h okr (by omega) (req_le hb (by omega))
  | .down n :: r, off, need, b, st, b', h, ok, l, hb => by
    rw [lsum_cons] at l
    have e0 : lft (.down n) = 0 := rfl
    simp only [go] at h
    exact go_vals h (fun d hd => ok d (List.mem_cons_of_mem _ hd)) (by omega) hb
  | .up n :: r, off, need, b, st, b', h, ok, l, hb => by
    rw [lsum_cons] at l
    have e0 : lft (.up n) = 0 := rfl
    simp only [go] at h
    exact go_vals h (fun d hd => ok d (List.mem_cons_of_mem _ hd)) (by omega) hb
theorem lsum_rev (r : List Cmd) : lsum r.reverse = lsum r := by
  unfold lsum
  rw [List.map_reverse, sum_rev]
theorem box_vals {B : Int} {cs : List Cmd} {goal : Int} {st : Option Int} {L : Ps} (h : boxM cs goal = some (st, L)) (ok : AllOk cs) (l : goal + lsum cs ≤ B) : (∀ q ∈ L, q.2 ≤ B) ∧ ∀ n, st = some n → n ≤ B := by
  unfold boxM at h
  cases e : go cs.reverse (last cs) goal [] with
  | none =>
    rw [e] at h
    cases h
  | some x =>
    rw [e] at h
    obtain ⟨st', b'⟩ := x
    have h' : (st', b'.mergeSort leK) = (st, L) := Option.some.inj h
    cases h'
    obtain ⟨a, b⟩ := go_vals (B := B) e (allOk_rev ok) (by rw [lsum_rev]; exact l) (fun q h => nomatch h)
    exact ⟨fun q hq => a q ((List.mergeSort_perm b' leK).mem_iff.mp hq), b⟩
theorem val_le {L : Ps} {B : Int} (h : ∀ q ∈ L, q.2 ≤ B) (h0 : 0 ≤ B) (k : Int) : val L k ≤ B := by
  unfold val
  cases e : look L k with
  | none => exact h0
  | some v => exact h _ (look_mem e)
theorem textM_le {lo hi B : Int} {L : Ps} (g : Good L) (hL : ∀ q ∈ L, lo ≤ q.1 ∧ q.1 ≤ hi) (h : ∀ q ∈ L, q.2 ≤ B) (h0 : 0 ≤ B) : ∀ x ∈ textM lo hi L, x ≤ B := by
  intro x hx
  obtain ⟨i, hi'⟩ := List.mem_iff_getElem?.mp hx
  have l := (List.getElem?_eq_some_iff.mp hi').1
  have l2 : (textM lo hi L).length = (hi - lo + 1).toNat := by
    unfold textM
    rw [setAll_len, List.length_replicate]
  have e := textM_at g hL (k := i + lo) (by omega) (by omega)
  unfold lenAt at e
  rw [show ((i : Int) + lo - lo).toNat = i by omega, List.getD_eq_getElem?_getD, hi'] at e
  have e' : x = val L (i + lo) := e
  rw [e']
  exact val_le h h0 _
/-- commands with numbers as the laws draw them -/
def Bnd (cs : List Cmd) : Prop := ∀ c ∈ cs, lft c ≤ 10 ^ 30 ∧ c.dv.natAbs ≤ 8
theorem lsum_le : ∀ {cs : List Cmd}, Bnd cs → lsum cs ≤ cs.length * 10 ^ 30
  | [], _ => by show (0 : Int) ≤ 0 * 10 ^ 30; decide
  | c :: cs, h => by
    have a := (h c List.mem_cons_self).1
    have b := lsum_le (cs := cs) fun d hd => h d (List.mem_cons_of_mem _ hd)
    rw [lsum_cons, List.length_cons]
    omega
theorem last_le : ∀ {cs : List Cmd}, Bnd cs → (last cs).natAbs ≤ 8 * cs.length
  | [], _ => Nat.le_refl _
  | c :: cs, h => by
    have a := (h c List.mem_cons_self).2
    have b := last_le (cs := cs) fun d hd => h d (List.mem_cons_of_mem _ hd)
    have e : last (c :: cs) = c.dv + last cs := rfl
    rw [e, List.length_cons]
    omega
end Gc

/-! how large the numbers of a form are, and that it can be shown -/
namespace Gc
open PySem PySem.Spec PyProof.Rows L2
def NB (M V : Int) : Cmd → Prop
  | .down n => -V ≤ n ∧ n ≤ V
  | .up n => -V ≤ n ∧ n ≤ V
  | .right n => 0 ≤ n ∧ n ≤ M
  | .left n => 0 ≤ n ∧ n ≤ M
  | _ => True
def LB (B W : Int) (L : Ps) : Prop := ∀ q ∈ L, -W ≤ q.1 ∧ q.1 ≤ W ∧ -B ≤ q.2 ∧ q.2 ≤ B
def PB (B W : Int) (n : Nat) (p : Piece) : Prop := 1 ≤ p.1 ∧ p.1 ≤ 1 + B ∧ (∀ s, p.2.1 = some s → -B ≤ s ∧ s ≤ B) ∧ ∀ L, p.2.2 = some L → L.length ≤ n ∧ LB B W L
theorem lb_req {B W : Int} {b : Ps} {o v : Int} (h : LB B W b) (o1 : -W ≤ o) (o2 : o ≤ W) (v1 : -B ≤ v) (v2 : v ≤ B) : LB B W (req b o v) := fun q hq => by
  have k1 : -W ≤ q.1 ∧ q.1 ≤ W := by
    rcases keys_req' (List.mem_map.mpr ⟨q, hq, rfl⟩) with e | e
    · rw [e]
      exact ⟨o1, o2⟩
    · obtain ⟨p, hp, e⟩ := List.mem_map.mp e
      rw [← e]
      exact ⟨(h p hp).1, (h p hp).2.1⟩
  have k2 : -B ≤ q.2 ∧ q.2 ≤ B := by
    rcases put_mem hq with e | e
    · rw [e]
      unfold mx
      cases l : look b o with
      | none =>
        show -B ≤ (if v > v then v else v) ∧ (if v > v then v else v) ≤ B
        split <;> exact ⟨v1, v2⟩
      | some x =>
        have z := (h _ (look_mem l)).2.2
        show -B ≤ (if x > v then x else v) ∧ (if x > v then x else v) ≤ B
        split
        · exact z
        · exact ⟨v1, v2⟩
    · exact (h q e).2.2
  exact ⟨k1.1, k1.2, k2.1, k2.2⟩
theorem lb_sort {B W : Int} {b : Ps} (h : LB B W b) : LB B W (sortP b) := fun q hq => h q ((List.mergeSort_perm b leK).mem_iff.mp hq)
theorem sort_len (b : Ps) : (sortP b).length = b.length := List.length_mergeSort b
theorem pb_add {B W : Int} {n : Nat} {ps : List Piece} {p : Piece} (h : ∀ q ∈ ps, PB B W n q) (hp : PB B W n p) : ∀ q ∈ addP ps p, PB B W n q := fun q hq => by
  unfold addP at hq
  split at hq
  · exact h q hq
  · rcases List.mem_append.mp hq with z | z
    · exact h q z
    · rw [List.mem_singleton.mp z]
      exact hp
theorem goP_bnd {M V B W : Int} {n : Nat} (M0 : 0 ≤ M) (V0 : 0 ≤ V) : ∀ (r : List Cmd) (off added first : Int) (lines : Ps) (found : List Piece), (∀ c ∈ r, NB M V c) → off = (r.map Cmd.dv).sum →
    -B ≤ added - r.length * M → added + r.length * M ≤ B → r.length * V ≤ W → LB B W lines → lines.length + r.length ≤ n → 1 ≤ first → first ≤ 1 + B → (∀ q ∈ found, PB B W n q) → found.length + r.length ≤ n →
    (∀ q ∈ goP r off added first lines found, PB B W n q) ∧ (goP r off added first lines found).length ≤ n + 1
  | [], off, added, first, lines, found, _, _, a1, a2, _, hl, ll, f1, f2, hf, fl => by
    simp only [List.length_nil] at a1 a2 ll fl
    refine ⟨pb_add hf ⟨f1, f2, fun s e => ?_, fun L e => ?_⟩, ?_⟩
    · obtain rfl := Option.some.inj e
      omega
    · obtain rfl := Option.some.inj e
      exact ⟨by rw [sort_len]; omega, lb_sort hl⟩
    · have := addP_len (ps := found) (p := (first, some added, some (sortP lines)))
      show (addP found (first, some added, some (sortP lines))).length ≤ n + 1
      omega
  | .home :: r, off, added, first, lines, found, _, _, a1, a2, _, hl, ll, f1, f2, hf, fl => by
    simp only [List.length_cons] at fl
    refine ⟨pb_add hf ⟨f1, f2, (fun s e => nomatch e), (fun L e => nomatch e)⟩, ?_⟩
    have := addP_len (ps := found) (p := (first, none, none))
    show (addP found (first, none, none)).length ≤ n + 1
    omega
  | .stop :: r, off, added, first, lines, found, _, _, a1, a2, _, hl, ll, f1, f2, hf, fl => by
    simp only [List.length_cons] at fl ll
    refine ⟨pb_add hf ⟨f1, f2, (fun s e => nomatch e), fun L e => ?_⟩, ?_⟩
    · obtain rfl := Option.some.inj e
      exact ⟨by rw [sort_len]; omega, lb_sort hl⟩
    · have := addP_len (ps := found) (p := (first, none, some (sortP lines)))
      show (addP found (first, none, some (sortP lines))).length ≤ n + 1
      omega
  | .right k :: r, off, added, first, lines, found, hc, ho, a1, a2, hw, hl, ll, f1, f2, hf, fl => by
    have c0 : 0 ≤ k ∧ k ≤ M := hc _ List.mem_cons_self
    have hc' := fun d hd => hc d (List.mem_cons_of_mem _ hd)
    have off1 : -W ≤ off ∧ off ≤ W := by
      have key : ∀ {r : List Cmd}, (∀ c ∈ r, NB M V c) → -(r.length * V) ≤ (r.map Cmd.dv).sum ∧ (r.map Cmd.dv).sum ≤ r.length * V := by
        intro r
        induction r with
        | nil => intro _; simp
        | cons c r ih =>
          intro h
          obtain ⟨i1, i2⟩ := ih fun d hd => h d (List.mem_cons_of_mem _ hd)
          have b := h c List.mem_cons_self
          have q : -V ≤ c.dv ∧ c.dv ≤ V := by
            cases c with
            | down n => exact b
            | up n =>
              have b' : -V ≤ n ∧ n ≤ V := b
              show -V ≤ -n ∧ -n ≤ V
              omega
            | right n => exact ⟨by show -V ≤ 0; omega, V0⟩
            | left n => exact ⟨by show -V ≤ 0; omega, V0⟩
            | home => exact ⟨by show -V ≤ 0; omega, V0⟩
            | stop => exact ⟨by show -V ≤ 0; omega, V0⟩
          rw [List.map_cons, List.sum_cons, List.length_cons, Int.natCast_add, Int.add_mul]
          omega
      have := key hc
      rw [← ho] at this
      omega
    rw [List.length_cons, Int.natCast_add, Int.add_mul] at a1 a2 hw
    simp only [List.length_cons] at ll fl
    have rm : 0 ≤ (r.length : Int) * M := Int.mul_nonneg (Int.natCast_nonneg _) M0
    have hl' : LB B W (req lines off added) := lb_req hl off1.1 off1.2 (by omega) (by omega)
    have ql := req_len lines off added
    simp only [goP]
    split
    · rename_i c
      refine goP_bnd M0 V0 r off (added - k) _ _ _ hc' (by rw [ho, List.map_cons, List.sum_cons]; exact Int.zero_add _) (by omega) (by omega) (by omega) hl' (by omega) (by omega) (by omega) (pb_add hf ⟨f1, f2, (fun s e => nomatch e), fun L e => ?_⟩) ?_
      · obtain rfl := Option.some.inj e
        exact ⟨by rw [sort_len]; omega, lb_sort hl'⟩
      · have := addP_len (ps := found) (p := (first, none, some (sortP (req lines off added))))
        omega
    · exact goP_bnd M0 V0 r off (added - k) first _ _ hc' (by rw [ho, List.map_cons, List.sum_cons]; exact Int.zero_add _) (by omega) (by omega) (by omega) hl' (by omega) f1 f2 hf (by omega)
  | .left k :: r, off, added, first, lines, found, hc, ho, a1, a2, hw, hl, ll, f1, f2, hf, fl => by
    have c0 : 0 ≤ k ∧ k ≤ M := hc _ List.mem_cons_self
    have hc' := fun d hd => hc d (List.mem_cons_of_mem _ hd)
    have off1 : -W ≤ off ∧ off ≤ W := by
      have key : ∀ {r : List Cmd}, (∀ c ∈ r, NB M V c) → -(r.length * V) ≤ (r.map Cmd.dv).sum ∧ (r.map Cmd.dv).sum ≤ r.length * V := by
        intro r
        induction r with
        | nil => intro _; simp
        | cons c r ih =>
          intro h
          obtain ⟨i1, i2⟩ := ih fun d hd => h d (List.mem_cons_of_mem _ hd)
          have b := h c List.mem_cons_self
          have q : -V ≤ c.dv ∧ c.dv ≤ V := by
            cases c with
            | down n => exact b
            | up n =>
              have b' : -V ≤ n ∧ n ≤ V := b
              show -V ≤ -n ∧ -n ≤ V
              omega
            | right n => exact ⟨by show -V ≤ 0; omega, V0⟩
            | left n => exact ⟨by show -V ≤ 0; omega, V0⟩
            | home => exact ⟨by show -V ≤ 0; omega, V0⟩
            | stop => exact ⟨by show -V ≤ 0; omega, V0⟩
          rw [List.map_cons, List.sum_cons, List.length_cons, Int.natCast_add, Int.add_mul]
          omega
      have := key hc
      rw [← ho] at this
      omega
    rw [List.length_cons, Int.natCast_add, Int.add_mul] at a1 a2 hw
    simp only [List.length_cons] at ll fl
    have rm : 0 ≤ (r.length : Int) * M := Int.mul_nonneg (Int.natCast_nonneg _) M0
    have hl' : LB B W (req lines off (added + k)) := lb_req hl off1.1 off1.2 (by omega) (by omega)
    have ql := req_len lines off (added + k)
    exact goP_bnd M0 V0 r off (added + k) first _ _ hc' (by rw [ho, List.map_cons, List.sum_cons]; exact Int.zero_add _) (by omega) (by omega) (by omega) hl' (by omega) f1 f2 hf (by omega)
  | .down k :: r, off, added, first, lines, found, hc, ho, a1, a2, hw, hl, ll, f1, f2, hf, fl => by
    have hc' := fun d hd => hc d (List.mem_cons_of_mem _ hd)
    rw [List.length_cons, Int.natCast_add, Int.add_mul] at a1 a2 hw
    simp only [List.length_cons] at ll fl
    have rv : 0 ≤ (r.length : Int) * V := Int.mul_nonneg (Int.natCast_nonneg _) V0
    exact goP_bnd M0 V0 r (off - k) added first _ _ hc' (by rw [ho]; show k + (r.map Cmd.dv).sum - k = _; omega) (by omega) (by omega) (by omega) hl (by omega) f1 f2 hf (by omega)
  | .up k :: r, off, added, first, lines, found, hc, ho, a1, a2, hw, hl, ll, f1, f2, hf, fl => by
    have hc' := fun d hd => hc d (List.mem_cons_of_mem _ hd)
    rw [List.length_cons, Int.natCast_add, Int.add_mul] at a1 a2 hw
    simp only [List.length_cons] at ll fl
    have rv : 0 ≤ (r.length : Int) * V := Int.mul_nonneg (Int.natCast_nonneg _) V0
    exact goP_bnd M0 V0 r (off + k) added first _ _ hc' (by rw [ho]; show -k + (r.map Cmd.dv).sum + k = _; omega) (by omega) (by omega) (by omega) hl (by omega) f1 f2 hf (by omega)
theorem form_bnd {M V : Int} {cs : List Cmd} (M0 : 0 ≤ M) (V0 : 0 ≤ V) (h : ∀ c ∈ cs, NB M V c) : (∀ q ∈ formM cs, PB (cs.length * M) (cs.length * V) cs.length q) ∧ (formM cs).length ≤ cs.length + 1 := by
  have z : 0 ≤ (cs.length : Int) * M := Int.mul_nonneg (Int.natCast_nonneg _) M0
  exact goP_bnd (B := cs.length * M) (W := cs.length * V) (n := cs.length) M0 V0 cs.reverse (last cs) 0 1 [] [] (fun c hc => h c (List.mem_reverse.mp hc)) (by
    unfold last
    rw [List.map_reverse, sum_rev]) (by rw [List.length_reverse]; omega) (by rw [List.length_reverse]; omega) (by rw [List.length_reverse]; omega) (fun _ q => nomatch q) (by simp) (by decide) (by omega) (fun _ q => nomatch q) (by simp)
/-! ### shown -/
theorem w_int {x : Int} {k : Nat} (hk : 0 < k) (h : x.natAbs < 2 ^ k) : (PyData.int x).weight ≤ k + 2 := by
  have := PySem.Flt.log2_lt_of (k := k) hk h
  simp only [PyData.weight]
  split <;> omega
theorem pairs_ok {B W : Int} {k : Nat} (hk : 0 < k) (kb : k ≤ 120) (hB : B < 2 ^ k) (hW : W < 2 ^ 10) : ∀ {L : Ps}, LB B W L → Ok0s (L.map encP) ∧ PyData.weightAll (L.map encP) ≤ (k + 20) * L.length ∧ PyData.depthAll (L.map encP) ≤ 1
  | [], _ => ⟨ok0_nil, by simp [PyData.weightAll], by simp [PyData.depthAll]⟩
  | q :: L, h => by
    have h1 := h q List.mem_cons_self
    obtain ⟨i1, i2, i3⟩ := pairs_ok hk kb hB hW (L := L) fun p hp => h p (List.mem_cons_of_mem _ hp)
    have p1 : (2 : Int) ^ 10 = 1024 := by decide
    have n1 : q.1.natAbs < 2 ^ 10 := by
      have : (2 : Nat) ^ 10 = 1024 := by decide
      omega
    have cast : ((2 ^ k : Nat) : Int) = 2 ^ k := by simp
    have n2 : q.2.natAbs < 2 ^ k := by omega
    have s1 : Sml q.1 := Nat.lt_of_lt_of_le n1 (by decide)
    have s2 : Sml q.2 := Nat.lt_of_lt_of_le n2 (Nat.pow_le_pow_right (by decide) kb)
    have w1 := w_int (k := 10) (by decide) n1
    have w2 := w_int hk n2
    refine ⟨ok0_cons (ok0_tup (ok0_cons (ok0_int s1) (ok0_cons (ok0_int s2) ok0_nil))) i1, ?_, ?_⟩
    · simp only [List.map_cons, PyData.weightAll, encP, PyData.weight, List.length_cons] at w1 w2 ⊢
      rw [Nat.mul_succ]
      omega
    · simp only [List.map_cons, PyData.depthAll, encP, PyData.depth]
      omega
theorem opt_ok {k : Nat} (hk : 0 < k) (kb : k ≤ 120) {o : Option Int} (h : ∀ s, o = some s → s.natAbs < 2 ^ k) : Ok0 (optE o) ∧ (optE o).weight ≤ k + 2 ∧ (optE o).depth = 0 := by
  cases o with
  | none => exact ⟨⟨by simp only [optE, PyData.showable], by simp only [optE, PyData.hasDict], by decide +kernel⟩, by simp [optE, PyData.weight], by simp [optE, PyData.depth]⟩
  | some s => exact ⟨ok0_int (Nat.lt_of_lt_of_le (h s rfl) (Nat.pow_le_pow_right (by decide) kb)), w_int hk (h s rfl), by simp [optE, PyData.depth]⟩
theorem lines_ok {B W : Int} {k n : Nat} (hk : 0 < k) (kb : k ≤ 120) (hB : B < 2 ^ k) (hW : W < 2 ^ 10) {o : Option Ps} (h : ∀ L, o = some L → L.length ≤ n ∧ LB B W L) : Ok0 (linesD o) ∧ (linesD o).weight ≤ (k + 20) * n + 4 ∧ (linesD o).depth ≤ 2 := by
  cases o with
  | none => exact ⟨⟨by simp only [linesD, PyData.showable], by simp only [linesD, PyData.hasDict], by decide +kernel⟩, by simp [linesD, PyData.weight], by simp [linesD, PyData.depth]⟩
  | some L =>
    obtain ⟨l, lb⟩ := h L rfl
    obtain ⟨a, b, c⟩ := pairs_ok hk kb hB hW lb
    refine ⟨ok0_list a, ?_, ?_⟩
    · have : (k + 20) * L.length ≤ (k + 20) * n := Nat.mul_le_mul_left _ l
      simp only [linesD, PyData.weight]
      omega
    · simp only [linesD, PyData.depth]
      omega
theorem pieces_ok {B W : Int} {k n : Nat} (hk : 0 < k) (kb : k ≤ 120) (hB : B + 1 < 2 ^ k) (hW : W < 2 ^ 10) : ∀ {ps : List Piece}, (∀ p ∈ ps, PB B W n p) → Ok0s (ps.map pieceD) ∧ PyData.weightAll (ps.map pieceD) ≤ ((k + 20) * n + 2 * k + 20) * ps.length ∧ PyData.depthAll (ps.map pieceD) ≤ 3
  | [], _ => ⟨ok0_nil, by simp [PyData.weightAll], by simp [PyData.depthAll]⟩
  | p :: ps, h => by
    obtain ⟨h1, h2, h3, h4⟩ := h p List.mem_cons_self
    obtain ⟨i1, i2, i3⟩ := pieces_ok hk kb hB hW (ps := ps) fun q hq => h q (List.mem_cons_of_mem _ hq)
    have cast : ((2 ^ k : Nat) : Int) = 2 ^ k := by simp
    have n1 : p.1.natAbs < 2 ^ k := by omega
    have s1 : Sml p.1 := Nat.lt_of_lt_of_le n1 (Nat.pow_le_pow_right (by decide) kb)
    obtain ⟨o1, o2, o3⟩ := opt_ok hk kb (o := p.2.1) fun s e => by
      have := h3 s e
      omega
    obtain ⟨l1, l2, l3⟩ := lines_ok hk kb (show B < 2 ^ k by omega) hW (o := p.2.2) (n := n) h4
    have w1 := w_int hk n1
    refine ⟨ok0_cons (ok0_tup (ok0_cons (ok0_int s1) (ok0_cons o1 (ok0_cons l1 ok0_nil)))) i1, ?_, ?_⟩
    · simp only [List.map_cons, PyData.weightAll, pieceD, PyData.weight, List.length_cons] at w1 ⊢
      rw [Nat.mul_succ]
      omega
    · simp only [List.map_cons, PyData.depthAll, pieceD, PyData.depth]
      omega
end Gc

/-! commands as texts: what is written, and that it can be read back -/
namespace Gc
open PySem PyProof.Rows L2 TL
def mkS (l : List Nat) : Str := ⟨l.toArray⟩
theorem tl_mkS (l : List Nat) : tl (mkS l) = l := rfl
theorem mkS_app (l m : List Nat) : mkS l ++ mkS m = mkS (l ++ m) := ext_tl (by rw [tl_append]; rfl)
theorem mkS_len (l : List Nat) : (mkS l).length = l.length := by rw [len_tl]; rfl
theorem mkS_inj {l m : List Nat} (h : mkS l = mkS m) : l = m := by
  have e := congrArg tl h
  exact e
/-- the number of a command -/
def numC : Cmd → Int
  | .down n => n
  | .up n => n
  | .right n => n
  | .left n => n
  | _ => 0
def letC : Cmd → Nat
  | .down _ => 68
  | .up _ => 85
  | .right _ => 82
  | .left _ => 76
  | .home => 72
  | .stop => 69
/-- the digits that stand ahead of the letter -/
def digC : Cmd → List Nat
  | .down n => numL n.toNat
  | .up n => numL n.toNat
  | .right n => numL n.toNat
  | .left n => numL n.toNat
  | _ => []
def cw (c : Cmd) : List Nat := digC c ++ [letC c]
def noneL : List Nat := [110, 111, 110, 101]
def shownL (cs : List Cmd) : List Nat := if cs = [] then noneL else joinL [32] (cs.map cw)
def shownS (cs : List Cmd) : Str := mkS (shownL cs)
theorem digC_digits (c : Cmd) : NumText.AllDigits (digC c) := by
  cases c with
  | down n => exact numL_digits _
  | up n => exact numL_digits _
  | right n => exact numL_digits _
  | left n => exact numL_digits _
  | home => exact fun _ h => nomatch h
  | stop => exact fun _ h => nomatch h
theorem letC_ge (c : Cmd) : 65 ≤ letC c ∧ letC c ≤ 90 := by cases c <;> simp [letC]
theorem cw_free (c : Cmd) : 32 ∉ cw c := fun h => by
  rcases List.mem_append.mp h with h | h
  · have := digC_digits c 32 h
    omega
  · have e := List.mem_singleton.mp h
    have := letC_ge c
    omega
theorem cw_ne (c : Cmd) : cw c ≠ [] := by simp [cw]
theorem cw_inj {c d : Cmd} (hc : c.ok) (hd : d.ok) (h : cw c = cw d) : c = d := by
  have e1 := congrArg List.getLast? h
  have e2 := congrArg List.dropLast h
  unfold cw at e1 e2
  rw [List.getLast?_concat, List.getLast?_concat] at e1
  rw [List.dropLast_concat, List.dropLast_concat] at e2
  have e3 := Option.some.inj e1
  have key : ∀ {n m : Int}, 1 ≤ n → 1 ≤ m → numL n.toNat = numL m.toNat → n = m := fun h1 h2 z => by
    have := numL_inj z
    omega
  cases c <;> cases d <;> simp only [letC] at e3 <;> first
    | rfl
    | exact absurd e3 (by decide)
    | rw [key hc hd e2]
theorem cws_inj : ∀ {cs ds : List Cmd}, AllOk cs → AllOk ds → cs.map cw = ds.map cw → cs = ds
  | [], [], _, _, _ => rfl
  | [], _ :: _, _, _, h => by cases h
  | _ :: _, [], _, _, h => by cases h
  | c :: cs, d :: ds, h1, h2, h => by
    rw [List.map_cons, List.map_cons] at h
    injection h with e1 e2
    rw [cw_inj (h1 c List.mem_cons_self) (h2 d List.mem_cons_self) e1, cws_inj (fun x hx => h1 x (List.mem_cons_of_mem _ hx)) (fun x hx => h2 x (List.mem_cons_of_mem _ hx)) e2]
theorem join_words {cs : List Cmd} (h : cs ≠ []) : spl [32] 0 [] (joinL [32] (cs.map cw)) = cs.map cw :=
  spl_join (fun e => h (List.map_eq_nil_iff.mp e)) fun p hp => by
    obtain ⟨c, _, rfl⟩ := List.mem_map.mp hp
    exact cw_free c
theorem none_words : spl [32] 0 [] noneL = [noneL] := by decide +kernel
theorem none_no {cs : List Cmd} (h : cs ≠ []) : joinL [32] (cs.map cw) ≠ noneL := fun e => by
  have z := join_words h
  rw [e, none_words] at z
  cases cs with
  | nil => exact h rfl
  | cons c cs =>
    rw [List.map_cons] at z
    injection z with z1 z2
    have z3 := congrArg List.getLast? z1
    unfold cw at z3
    rw [List.getLast?_concat] at z3
    have z4 : (101 : Nat) = letC c := Option.some.inj z3
    have := letC_ge c
    omega
theorem shownL_inj {cs ds : List Cmd} (h1 : AllOk cs) (h2 : AllOk ds) (h : shownL cs = shownL ds) : cs = ds := by
  unfold shownL at h
  by_cases c : cs = []
  · by_cases d : ds = []
    · rw [c, d]
    · rw [if_pos c, if_neg d] at h
      exact absurd h.symm (none_no d)
  · by_cases d : ds = []
    · rw [if_neg c, if_pos d] at h
      exact absurd h (none_no c)
    · rw [if_neg c, if_neg d] at h
      have z1 := join_words c
      rw [h, join_words d] at z1
      exact (cws_inj h2 h1 z1).symm
theorem shownS_inj {cs ds : List Cmd} (h1 : AllOk cs) (h2 : AllOk ds) (h : shownS cs = shownS ds) : cs = ds := shownL_inj h1 h2 (mkS_inj h)
/-! lengths -/
theorem digC_len {c : Cmd} (h : numC c < 10 ^ 40) : (digC c).length ≤ 40 := by
  have key : ∀ n : Int, n < 10 ^ 40 → (numL n.toNat).length ≤ 40 := fun n hn => numL_len (k := 40) (by decide) (by omega)
  cases c with
  | down n => exact key n h
  | up n => exact key n h
  | right n => exact key n h
  | left n => exact key n h
  | home => exact Nat.zero_le _
  | stop => exact Nat.zero_le _
theorem cw_len {c : Cmd} (h : numC c < 10 ^ 40) : (cw c).length ≤ 41 := by
  unfold cw
  rw [List.length_append, List.length_singleton]
  have := digC_len h
  omega
theorem joinL_len {k : Nat} : ∀ {ps : List (List Nat)}, (∀ p ∈ ps, p.length ≤ k) → (joinL [32] ps).length ≤ (k + 1) * ps.length
  | [], _ => Nat.zero_le _
  | [p], h => by
    have := h p (List.mem_singleton.mpr rfl)
    show p.length ≤ (k + 1) * 1
    omega
  | p :: q :: r, h => by
    have h1 := h p List.mem_cons_self
    have h2 := joinL_len (ps := q :: r) fun x hx => h x (List.mem_cons_of_mem _ hx)
    show (p ++ ([32] ++ joinL [32] (q :: r))).length ≤ _
    rw [List.length_append, List.length_append, List.length_singleton, List.length_cons (a := p), Nat.mul_succ]
    omega
theorem shownL_len {cs : List Cmd} (h : ∀ c ∈ cs, numC c < 10 ^ 40) : (shownL cs).length ≤ 42 * cs.length + 4 := by
  unfold shownL
  by_cases c : cs = []
  · rw [if_pos c]
    exact Nat.le_add_left _ _
  · rw [if_neg c]
    have := joinL_len (k := 41) (ps := cs.map cw) fun p hp => by
      obtain ⟨d, hd, rfl⟩ := List.mem_map.mp hp
      exact cw_len (h d hd)
    rw [List.length_map] at this
    omega
/-- one more word behind -/
theorem joinL_snoc : ∀ {ps : List (List Nat)} {p : List Nat}, ps ≠ [] → joinL [32] (ps ++ [p]) = joinL [32] ps ++ ([32] ++ p)
  | [], _, h => absurd rfl h
  | [q], p, _ => rfl
  | q :: r :: s, p, _ => by
    show q ++ ([32] ++ joinL [32] ((r :: s) ++ [p])) = (q ++ ([32] ++ joinL [32] (r :: s))) ++ ([32] ++ p)
    rw [joinL_snoc (by simp)]
    simp [List.append_assoc]
theorem joinL_nil_iff : ∀ {ps : List (List Nat)}, (∀ p ∈ ps, p ≠ []) → (joinL [32] ps = [] ↔ ps = [])
  | [], _ => ⟨fun _ => rfl, fun _ => rfl⟩
  | [p], h => ⟨fun e => absurd e (h p (List.mem_singleton.mpr rfl)), fun e => nomatch e⟩
  | p :: q :: r, h => ⟨fun e => by
      have e2 : p ++ ([32] ++ joinL [32] (q :: r)) = [] := e
      simp at e2, fun e => nomatch e⟩
/-! equal lists of commands, as data -/
theorem eqv_cmd (c d : Cmd) : PyData.eqv (cmdD c) (cmdD d) = decide (c = d) := by
  cases c <;> cases d <;> simp [cmdD, PyData.eqv, PyData.eqvAll]
  all_goals first
    | decide +kernel
    | rw [Bool.eq_iff_iff, beq_iff_eq, decide_eq_true_eq]
    | (intro h; exact absurd h (by decide +kernel))
theorem eqvAll_cmds : ∀ cs ds : List Cmd, PyData.eqvAll (cs.map cmdD) (ds.map cmdD) = decide (cs = ds)
  | [], [] => by simp [PyData.eqvAll]
  | [], _ :: _ => by simp [PyData.eqvAll]
  | _ :: _, [] => by simp [PyData.eqvAll]
  | c :: cs, d :: ds => by
    rw [List.map_cons, List.map_cons, PyData.eqvAll, eqv_cmd, eqvAll_cmds cs ds]
    simp
theorem eqv_cmds (cs ds : List Cmd) : PyData.eqv (.list (cs.map cmdD)) (.list (ds.map cmdD)) = decide (cs = ds) := by
  rw [PyData.eqv]
  exact eqvAll_cmds cs ds
end Gc
namespace Gc
open PySem PyProof.Rows L2 TL
theorem depth_cmds : ∀ cs : List Cmd, PyData.depthAll (cs.map cmdD) ≤ 1
  | [] => by simp [PyData.depthAll]
  | c :: cs => by
    have := depth_cmds cs
    cases c <;> simp [PyData.depthAll, PyData.depth, cmdD, this]
theorem lay_cmds : ∀ cs : List Cmd, PyData.canLayAll0 (cs.map cmdD) = true
  | [] => by simp [PyData.canLayAll0]
  | c :: cs => by
    have h1 : PyData.strOk "down" = true := by decide +kernel
    have h2 : PyData.strOk "up" = true := by decide +kernel
    have h3 : PyData.strOk "right" = true := by decide +kernel
    have h4 : PyData.strOk "left" = true := by decide +kernel
    have h5 : PyData.strOk "home" = true := by decide +kernel
    have h6 : PyData.strOk "end" = true := by decide +kernel
    cases c <;> simp [PyData.canLayAll0, PyData.canLay0, cmdD, lay_cmds cs, h1, h2, h3, h4, h5, h6]
theorem shaped_cmds (cs : List Cmd) : SeqAt.shaped (.list (cs.map cmdD)) = true := by
  have h2 := depth_cmds cs
  have hd : (PyData.list (cs.map cmdD)).depth ≤ 64 := by
    simp only [PyData.depth]
    omega
  unfold SeqAt.shaped
  rw [decide_eq_true hd]
  simp [PyData.canLay0, lay_cmds cs]
/-- one more word of what is written -/
theorem shown_step (cs : List Cmd) (i : Nat) (c : Cmd) (h : cs[i]? = some c) :
    joinL [32] ((cs.take (i + 1)).map cw) = joinL [32] ((cs.take i).map cw) ++ (if i = 0 then [] else [32]) ++ digC c ++ [letC c] := by
  have e : cs.take (i + 1) = cs.take i ++ [c] := by
    rw [List.take_add_one, h]
    rfl
  rw [e, List.map_append, List.map_singleton]
  by_cases z : i = 0
  · subst z
    simp [joinL, cw]
  · have ne : (cs.take i).map cw ≠ [] := by
      intro q
      have q2 := congrArg List.length q
      have li := (List.getElem?_eq_some_iff.mp h).1
      rw [List.length_map, List.length_take, List.length_nil] at q2
      omega
    rw [joinL_snoc ne, if_neg z]
    simp [cw, List.append_assoc]
theorem shown_nil (cs : List Cmd) (i : Nat) (c : Cmd) (h : cs[i]? = some c) : joinL [32] ((cs.take i).map cw) = [] ↔ i = 0 := by
  rw [joinL_nil_iff (fun p hp => by
    obtain ⟨c, _, rfl⟩ := List.mem_map.mp hp
    exact cw_ne c)]
  have li := (List.getElem?_eq_some_iff.mp h).1
  constructor
  · intro q
    have q2 := congrArg List.length q
    rw [List.length_map, List.length_take, List.length_nil] at q2
    omega
  · intro q
    subst q
    rfl
end Gc

/-! lists that lead every goal to the same goal have the same boxes, and so the same form -/
namespace Gc
/-- the same goals, on all lines -/
def Alike (cs ds : List Cmd) : Prop := last cs = last ds ∧ ∀ (T : Int → Int) (r : Int) (a : Option Int), (∀ k, 0 ≤ T k) → ge a 0 → aimF T r a cs = aimF T r a ds
theorem Alike.refl (cs : List Cmd) : Alike cs cs := ⟨rfl, fun _ _ _ _ _ => rfl⟩
theorem Alike.symm {cs ds : List Cmd} (h : Alike cs ds) : Alike ds cs := ⟨h.1.symm, fun T r a hT ha => (h.2 T r a hT ha).symm⟩
theorem Alike.trans {cs ds es : List Cmd} (h : Alike cs ds) (g : Alike ds es) : Alike cs es := ⟨h.1.trans g.1, fun T r a hT ha => (h.2 T r a hT ha).trans (g.2 T r a hT ha)⟩
theorem last_two (a b : List Cmd) : last (a ++ b) = last a + last b := last_app a b
theorem Alike.around {u v : List Cmd} (h : Alike u v) (xs ys : List Cmd) (ok : AllOk xs) : Alike (xs ++ u ++ ys) (xs ++ v ++ ys) := by
  refine ⟨by rw [last_two, last_two, last_two, last_two, h.1], fun T r a hT ha => ?_⟩
  rw [aimF_app, aimF_app, aimF_app, aimF_app, last_two, last_two, h.1, h.2 T _ _ hT (aimF_nn hT ok ha)]
/-- the start that a box asks for -/
def startOf (st : Option Int) : Option Int := some (st.getD 0)
theorem val_at {b : Ps} (g : Good b) : val (b.mergeSort leK) = val b := val_perm g (List.mergeSort_perm b leK)
/-- the least start of a box fulfils it -/
theorem box_self {cs : List Cmd} {v : Int} (ok : AllOk cs) (hv : 1 ≤ v) {st : Option Int} {b : Ps} (e : boxM cs v = some (st, b.mergeSort leK)) (g : Good b) (pos : ∀ n, st = some n → 1 ≤ n) : ge (aimF (val b) 0 (startOf st) cs) v := by
  have a0 : ge (startOf st) 0 := ge_some.mpr (by
    cases st with
    | none => exact Int.le_refl 0
    | some n =>
      have := pos n rfl
      show 0 ≤ n
      omega)
  refine (box_char (fun k => val_nonneg g k) a0 ok hv).mpr ⟨st, _, e, fun n en => ge_some.mpr (by rw [en]; exact Int.le_refl n), fun k => ?_⟩
  rw [val_at g, Int.zero_add]
  exact Int.le_refl _
/-- if the least start of cs fulfils the box of ds, then that box asks for no more -/
theorem box_less {ds : List Cmd} {v : Int} (ok : AllOk ds) (hv : 1 ≤ v) {st : Option Int} {b : Ps} (g : Good b) (pos : ∀ n, st = some n → 1 ≤ n) (h : ge (aimF (val b) 0 (startOf st) ds) v) :
    ∃ st' b', boxM ds v = some (st', b'.mergeSort leK) ∧ Good b' ∧ (∀ n, st' = some n → 1 ≤ n) ∧ (∀ n, st' = some n → ∃ m, st = some m ∧ n ≤ m) ∧ ∀ k, val b' k ≤ val b k := by
  have a0 : ge (startOf st) 0 := ge_some.mpr (by
    cases st with
    | none => exact Int.le_refl 0
    | some n =>
      have := pos n rfl
      show 0 ≤ n
      omega)
  obtain ⟨st', L, e, h1, h2⟩ := (box_char (fun k => val_nonneg g k) a0 ok hv).mp h
  rcases box_spec ok hv with ⟨z, _⟩ | ⟨st2, b', z, g', _, p⟩
  · rw [z] at e
    cases e
  · rw [z] at e
    cases e
    refine ⟨_, b', z, g', p, fun n en => ?_, fun k => ?_⟩
    · have q := ge_some.mp (h1 n en)
      have := p n en
      cases st with
      | none =>
        have q' : n ≤ 0 := q
        omega
      | some m => exact ⟨m, rfl, q⟩
    · have q := h2 k
      rw [val_at g', Int.zero_add] at q
      exact q
theorem box_two {st st' : Option Int} {b b' : Ps} (g : Good b) (g' : Good b') (s1 : ∀ n, st' = some n → ∃ m, st = some m ∧ n ≤ m) (s2 : ∀ n, st = some n → ∃ m, st' = some m ∧ n ≤ m) (l1 : ∀ k, val b' k ≤ val b k) (l2 : ∀ k, val b k ≤ val b' k) :
    (st, b.mergeSort leK) = (st', b'.mergeSort leK) := by
  have e1 : st = st' := by
    cases st with
    | none =>
      cases st' with
      | none => rfl
      | some n =>
        obtain ⟨m, z, _⟩ := s1 n rfl
        cases z
    | some n =>
      obtain ⟨m, z, h⟩ := s2 n rfl
      subst z
      obtain ⟨m', z', h'⟩ := s1 m rfl
      cases z'
      rw [show n = m by omega]
  rw [e1, sort_ext g g' (funext fun k => Int.le_antisymm (l2 k) (l1 k))]
theorem box_sem {cs ds : List Cmd} (okc : AllOk cs) (okd : AllOk ds) {v : Int} (hv : 1 ≤ v) (h : ∀ (T : Int → Int) (a : Option Int), (∀ k, 0 ≤ T k) → ge a 0 → (ge (aimF T 0 a cs) v ↔ ge (aimF T 0 a ds) v)) : boxM cs v = boxM ds v := by
  have nn : ∀ {st : Option Int}, (∀ n, st = some n → 1 ≤ n) → ge (startOf st) 0 := fun {st} pos => ge_some.mpr (by
    cases st with
    | none => exact Int.le_refl 0
    | some n =>
      have := pos n rfl
      show 0 ≤ n
      omega)
  rcases box_spec okc hv with ⟨e1, _⟩ | ⟨st, b, e1, g, _, pos⟩
  · rcases box_spec okd hv with ⟨e2, _⟩ | ⟨st', b', e2, g', _, pos'⟩
    · rw [e1, e2]
    · exfalso
      have q := (h _ _ (fun k => val_nonneg g' k) (nn pos')).mpr (box_self okd hv e2 g' pos')
      obtain ⟨_, _, z, _⟩ := box_less okc hv g' pos' q
      rw [e1] at z
      cases z
  · have q := (h _ _ (fun k => val_nonneg g k) (nn pos)).mp (box_self okc hv e1 g pos)
    obtain ⟨st', b', e2, g', pos', s1, l1⟩ := box_less okd hv g pos q
    have q2 := (h _ _ (fun k => val_nonneg g' k) (nn pos')).mpr (box_self okd hv e2 g' pos')
    obtain ⟨st2, b2, e3, g2, pos2, s2, l2⟩ := box_less okc hv g' pos' q2
    rw [e1] at e3
    have e4 : st = st2 ∧ b.mergeSort leK = b2.mergeSort leK := by
      have z := Option.some.inj e3
      exact ⟨(Prod.mk.inj z).1, (Prod.mk.inj z).2⟩
    have ev : val b = val b2 := by rw [← val_at g, ← val_at g2, e4.2]
    rw [e1, e2]
    refine congrArg some (box_two g g' s1 (fun n hn => ?_) l1 fun k => ?_)
    · rw [e4.1] at hn
      exact s2 n hn
    · rw [ev]
      exact l2 k
theorem Alike.box {cs ds : List Cmd} (h : Alike cs ds) (okc : AllOk cs) (okd : AllOk ds) {v : Int} (hv : 1 ≤ v) : boxM cs v = boxM ds v :=
  box_sem okc okd hv fun T a hT ha => by rw [h.2 T 0 a hT ha]
theorem Alike.form {cs ds : List Cmd} (h : Alike cs ds) (okc : AllOk cs) (okd : AllOk ds) : formM cs = formM ds := (form_eq cs ds).mpr fun v hv => h.box okc okd hv
/-! ### some lists that are alike -/
theorem alike_up (n : Int) : Alike [.down n, .up n] [] := ⟨by show n + (-n + 0) = 0; omega, fun _ _ _ _ _ => rfl⟩
theorem alike_down (n : Int) : Alike [.up n, .down n] [] := ⟨by show -n + (n + 0) = 0; omega, fun _ _ _ _ _ => rfl⟩
theorem alike_right (p n : Int) (hp : 0 ≤ p) (hn : p ≤ n) : Alike [.right p, .right (n - p)] [.right n] := by
  refine ⟨rfl, fun T r a hT ha => ?_⟩
  have t0 := hT (r + 0)
  have t1 := hT r
  simp only [aimF, aim1, Cmd.dv, Int.add_zero, seen] at *
  cases a with
  | none =>
    simp only [seen]
    refine congrArg some ?_
    omega
  | some x =>
    have := ha x rfl
    simp only [seen]
    refine congrArg some ?_
    omega
theorem alike_left (p n : Int) (hp : 0 ≤ p) (hn : p ≤ n) : Alike [.left p, .left (n - p)] [.left n] := by
  refine ⟨rfl, fun T r a hT ha => ?_⟩
  have t1 := hT r
  simp only [aimF, aim1, Cmd.dv, Int.add_zero, seen] at *
  cases a with
  | none =>
    simp only [seen]
    refine congrArg some ?_
    omega
  | some x =>
    have := ha x rfl
    simp only [seen]
    refine congrArg some ?_
    omega
theorem aimF_home (T : Int → Int) (r : Int) (a : Option Int) (xs : List Cmd) : aimF T r a (xs ++ [.home]) = some 0 := by
  rw [aimF_snoc]
  rfl
theorem aimF_stop (T : Int → Int) (r : Int) (a : Option Int) (xs : List Cmd) : aimF T r a (xs ++ [.stop]) = none := by
  rw [aimF_snoc]
  rfl
theorem last_flat : ∀ {xs : List Cmd}, (∀ c ∈ xs, c.dv = 0) → last xs = 0
  | [], _ => rfl
  | c :: xs, h => by
    show c.dv + last xs = 0
    rw [h c List.mem_cons_self, last_flat fun d hd => h d (List.mem_cons_of_mem _ hd)]
    rfl
theorem alike_home {xs : List Cmd} (h : ∀ c ∈ xs, c.dv = 0) : Alike (xs ++ [.home]) [.home] := by
  refine ⟨?_, fun T r a _ _ => by rw [aimF_home]; rfl⟩
  rw [last_two, last_flat h]
  exact Int.zero_add _
theorem alike_stop {xs : List Cmd} (h : ∀ c ∈ xs, c.dv = 0) : Alike (xs ++ [.stop]) [.stop] := by
  refine ⟨?_, fun T r a _ _ => by rw [aimF_stop]; rfl⟩
  rw [last_two, last_flat h]
  exact Int.zero_add _
theorem alike_home_left (n : Int) (hn : 1 ≤ n) : Alike [.home, .left n] [.home] := by
  refine ⟨rfl, fun T r a hT _ => ?_⟩
  have t1 := hT r
  simp only [aimF, aim1, Cmd.dv, Int.add_zero, seen] at *
  refine congrArg some ?_
  omega
end Gc

/-! defs that call repr: what is shown just now is told to be nothing. The law's own defs go so; all others as before -/
namespace Gc
open PySem PySem.Spec PyProof.Rows L2
structure FnG (P : Program) (w : World) (K : PySem.W.Frag) (mg : Str → Option Value) (base : Heap) (k : Nat) (f : Addr) (fd : FuncData) (ps : List Str) (sp : Sp) : Prop where
  len : ∀ vs H Q E, sp vs H Q E → vs.length = ps.length
  run : ∀ (A : Around) (outer : List Env) (s : Shared) (H : Hp) (args : Args) (us : List Value) (vs : List V) (Q : VK) (E : XK), A.guards = some [] → Room k A → Env0 P w K mg base A outer s H →
    BindsTo s fd args (ps.zip us) → Vals vs us → sp vs H Q E → codeAny (model P w) A (.call (.ref f) args) (CR CX0 outer P w H s Q E) s
theorem FnG.of {P : Program} {w : World} {K : PySem.W.Frag} {mg : Str → Option Value} {base : Heap} {k : Nat} {f : Addr} {fd : FuncData} {ps : List Str} {sp : Sp} (F : FnOk P w K mg base CX0 k f fd ps sp) : FnG P w K mg base k f fd ps sp :=
  ⟨F.len, fun A outer s H args us vs Q E _ hr e0 hb hv hs => F.run A outer s H args us vs Q E hr e0 hb hv hs⟩
section
variable {P : Program} {w : World} {K : PySem.W.Frag} {mg : Str → Option Value} {base : Heap}
theorem okG {x qual : Str} {st : Stmt} {f : Addr} {fd : FuncData} {N ps : List Str} {k : Nat} {sp : Sp} (F : Fun K x qual st f fd) (S : FnScope N ps (defScope st)) (len : ∀ vs H Q E, sp vs H Q E → vs.length = ps.length)
    (hbody : ∀ (cdv : Value) (A : Around) (outer : List Env) (s : Shared) (H : Hp) (vs : List V) (Q : VK) (E : XK), (A.deeper (envOfC qual (defScope st) s.heap.objs.size f cdv)).guards = some [] → Room k (A.deeper (envOfC qual (defScope st) s.heap.objs.size f cdv)) → sp vs H Q E →
      ∃ t, PSs (cxOf CX0 P w K mg base N qual (defScope st) f cdv A outer s H E).nox (defBody st) t ∧ t { nx := fun _ H' => Q .non H', rt := Q } (start N vs) H) : FnG P w K mg base (k + 1) f fd ps sp := by
  obtain ⟨oc, od, kV, doc, pm, an, cdv, ct, osl, rfl, lk, hcd⟩ := F.ex
  refine ⟨len, fun A outer s H args us vs Q E hg hr e0 hb r hsp => ?_⟩
  have n := len _ _ _ _ hsp
  have same : ∀ b o, base.get? b = some o → s.heap.get? b = some o := fun b o e => (e0.bs b o e).1
  have kin : K.In s.heap := e0.mod.kin.keeps same
  have kinds : ∀ y ∈ ps.zip us, (defScope st).names.lookup y.1 = some .local ∨ ((defScope st).names.lookup y.1 = some .cell ∧ ((cellsFrom (s.heap.objs.size + 1) (defScope st).names []).lookup y.1).isSome = true) := by
    rintro ⟨y, v⟩ hy
    exact (S.par y (List.of_mem_zip hy).1).imp id fun q => ⟨q, PySem.W.cellsFrom_some _ _ _ (.inl q)⟩
  refine codeAny_call_function hr.depth (kin _ _ lk) rfl S.co S.gen rfl (PySem.W.codeRec_of kin hcd) (hb _ _ _ _ (wpAny_newFunctionEnv_cells S.kind kinds fun env he s1 x => ?_))
  subst he
  refine ⟨(e0.mod.nolimit.keeps same).keeps x.toInCall.keep, codeAny_func ?_⟩
  obtain ⟨t, ht, hq⟩ := hbody cdv A outer s H vs Q E hg (hr.deeper _) hsp
  refine wpAny_mono (ht.nox.run [] s1 (start N vs) H _ (inv_start S hr.hd e0 n r x) hq) (fun fl s' hs => ?_) fun e s' hs => hs
  match fl, hs with
  | .ret u, ⟨v, σ', H', J, rv, q⟩ => exact ⟨v, H', J.os, J.bare, J.base, J.hok, rv, q⟩
  | .next, ⟨σ', H', J, q⟩ => exact ⟨V.non, H', J.os, J.bare, J.base, J.hok, rfl, q⟩
  | .brk, ⟨_, _, _, q⟩ => exact q.elim
  | .cont, ⟨_, _, _, q⟩ => exact q.elim
end
section
variable {X : Cx} {k : Nat} {f : Addr} {fd : FuncData} {ps : List Str} {sp : Sp} {x : Str} {p pos : Pos} {e : Expr} {es : List Expr} {t : TA}
/-- a call of such a def -/
theorem pe_callG (F : FnG X.prog X.w X.K X.mg X.base k f fd ps sp) (hg0 : X.A.guards = some []) (hr : Room k X.A) (hg : Gl X x) (hm : X.mg x = some (.ref f)) (hk : PySem.W.keepIn X.K (.ref f) = true) (hb : Binds X.K fd ps [])
    (ha : PA X (e :: es) t) (hdb : (x == ("__debug__" : Str)) = false := by decide) (he : starEach (e :: es) X.env = (false, eval e X.env) :: starEach es X.env := by rfl) (hpl : (backTo pos (starEach es X.env)).any (·.1) = false := by rfl) :
    PE X (.Call (.Name x p) (e :: es) [] pos) (tCall sp [] E0 t) := by
  refine ⟨fun pins s σ H Q I h => ?_⟩
  refine wpAny_Call_Name_kw (ld_glob I hg hm ?_ hdb)
  refine PySem.W.callWith_K (h₀ := X.base) I.ok.mod.kin hk (thn (ha.run pos pins s σ H _ I h) fun us s1 ⟨vs, H1, I1, r, q⟩ => ⟨I1.kIn, ?_⟩) he hpl
  have q' : sp vs H1 Q E0 := by
    have z : sp (vs ++ []) H1 Q E0 := q
    rwa [List.append_nil] at z
  have n := F.len _ _ _ _ q'
  have bd := hb s1 us I1.kIn (by rw [List.append_nil, ← r.length]; exact n)
  rw [List.append_nil] at bd
  refine wpAny_call (codeAny_mono (F.run X.A X.stack s1 H1 ⟨us, []⟩ us vs Q E0 hg0 hr I1.env0 bd r q') fun o s' hq => ?_)
  match o, hq with
  | .error _, z => exact z.elim
  | .ok (.ret _), z => exact I1.after z
  | .ok .next, z => exact z.elim
  | .ok .brk, z => exact z.elim
  | .ok .cont, z => exact z.elim
end
/-! ### repr -/
/-- repr(x), x a list or a tuple of data whose ints are not too wide: its text -/
def rRepr (K : PySem.W.Frag) : List V → Hp → VK → Prop := fun xs H Q => ∃ (a : Addr) (d : PyData), xs = [.ref a] ∧ Dp K H (.ref a) d ∧ d.showable = true ∧ d.hasDict = false ∧ d.depth ≤ 60 ∧ d.shown.length ≤ sizeLine ∧ Q (.str d.shown) H
theorem cr_repr {X : Cx} (hg : X.A.guards = some []) (hu : X.A.units + 64 < cLine) : CallR X (.builtin "repr") (rRepr X.K) := by
  intro pins s σ H xs us Q I r h
  obtain ⟨a, d, rfl, hd, hs, hn, hdp, hz, q⟩ := h
  obtain ⟨u, rfl, ru⟩ := vals1 r
  obtain ⟨as, rd⟩ := Dp.reads I d _ u hd ru
  obtain rfl : u = Value.ref a := ru
  refine PySem.repr_of_reads' rd hs (fun z => by rw [hn] at z; cases z) hg (by omega) (fun _ _ e => e) (fun h' v tk hk => ⟨.str d.shown, H, I.kept hk, ⟨_, rfl⟩, q⟩) hz
/-! ### the law is called from the top, where nothing is shown -/
theorem call_lawG {P : Program} {w : World} {K : PySem.W.Frag} {mg mb : Str → Option Value} {k : Nat} {fa a : Addr} {fd : FuncData} {x : Str} {sp : Sp} {s₁ : Shared} {vs : List Value} {ns : List Int}
    (KX : K.In s₁.heap) (hns : s₁.heap.Ns mainGlobals mg) (hb : s₁.heap.Ns builtinsNs mb) (hbb : ∀ x : Str, x ≠ "__name__" → mb x = bootBuiltins x) (hlim : s₁.heap.NoLimit) (hg : s₁.gens = #[])
    (ha : s₁.heap.get? a = some { cls := .type "list", data := .seq vs.toArray }) (hi : IntsAre vs ns) (hl : ns.length ≤ sizeLine) (hr : Room k callerA)
    (F : ∀ base : Heap, K.In base → base.Ns mainGlobals mg → FnG P w K mg base k fa fd [x] sp) (hbind : ∀ (s : Shared) (u : Value), BindsTo s fd ⟨[u], []⟩ [(x, u)])
    (hsp : ∀ H : Hp, Only H → SqL K H a (ns.map V.int) → sp [.ref a] H (fun v _ => v = .bl true) fun _ _ _ => False) :
    codeAny (model P w) callerA (.call (.ref fa) ⟨[.ref a], []⟩) (fun r s' => r = .ok (.ret (.bool true)) ∧ OldK s₁.heap s'.heap ∧ s'.os = s₁.os ∧ AllBare s'.gens) s₁ := by
  have rv := vals_ints hi
  have lv := hi.length
  -- once the heap that is seen is chosen: at most the script is in it
  have go : ∀ H : Hp, Only H → SqL K H a (ns.map V.int) → HOk P w H s₁.heap → (∀ b u, H b = some u → b = a ∧ K.lookup a = none) →
      codeAny (model P w) callerA (.call (.ref fa) ⟨[.ref a], []⟩) (fun r s' => r = .ok (.ret (.bool true)) ∧ OldK s₁.heap s'.heap ∧ s'.os = s₁.os ∧ AllBare s'.gens) s₁ := by
    intro H hO hS hok hA
    have out : ∀ {b : Addr} {o : Obj}, s₁.heap.get? b = some o → (∀ u, H b = some u → False) → (hidT s₁.heap H).get? b = some o := fun {b o} e n => hidT_get e (by
      cases q : H b with
      | none => rfl
      | some u => exact (n u q).elim)
    have isA : ∀ {b : Addr} {o : Obj} {u : HO}, s₁.heap.get? b = some o → H b = some u → o.data = .seq vs.toArray := fun {b o u} e q => by
      obtain ⟨rfl, _⟩ := hA b u q
      rw [ha] at e
      cases e
      rfl
    have nsOut : ∀ {b : Addr} {m : Str → Option Value}, s₁.heap.Ns b m → (hidT s₁.heap H).Ns b m := fun {b m} ⟨o, es, ep, e, d, r⟩ => ⟨o, es, ep, out e fun u q => (by have z := isA e q; rw [d] at z; cases z), d, r⟩
    have kin : K.In (hidT s₁.heap H) := fun b o e => out (KX b o e) fun u q => by
      obtain ⟨rfl, n⟩ := hA b u q
      rw [n] at e
      cases e
    have md : Mod K mg (hidT s₁.heap H) := ⟨kin, nsOut hns, ⟨mb, nsOut hb, hbb⟩, let ⟨mc, h1, h2⟩ := hlim; ⟨mc, nsOut h1, h2⟩⟩
    have none0 : ∀ b : Addr, b ∈ frs ([] : List Env) → False := fun b z => by
      have z' : b ∈ ([] : List Addr) := z
      cases z'
    have e0 : Env0 P w K mg (hidT s₁.heap H) callerA [] s₁ H := ⟨rfl, md, fun b o e => of_hidT e, Nat.le_of_eq (hidT_size _ _), trivial, fun b z => (none0 b z).elim, hok, .of_eq hg⟩
    refine codeAny_mono ((F _ kin (nsOut hns)).run callerA [] s₁ H ⟨[.ref a], []⟩ [.ref a] [.ref a] _ _ rfl hr e0 (hbind s₁ (.ref a)) (.cons rfl .nil) (hsp H hO hS)) fun r s' h => ?_
    match r, h with
    | .error _, z => exact z.elim
    | .ok .next, z => exact z.elim
    | .ok .brk, z => exact z.elim
    | .ok .cont, z => exact z.elim
    | .ok (.ret u), ⟨v, H', os, bare, un, hok', r', q⟩ =>
      obtain rfl : v = .bl true := q
      obtain rfl : u = Value.bool true := r'
      refine ⟨rfl, OldK.of_keep fun b o e => ?_, os, bare⟩
      cases q : H b with
      | none => exact un.keep b o e q (fun z => (none0 b z).elim) (by simp)
      | some u =>
        rcases hO b with z | ⟨ob, xs, z⟩
        · rw [q] at z
          cases z
        · obtain ⟨e1, _⟩ := hok b _ z
          obtain ⟨e2, _⟩ := hok' b _ (un.frzs b ob _ z)
          rw [e] at e1
          cases e1
          exact e2
  cases hk : K.lookup a with
  | some o =>
    have e := KX a o hk
    rw [ha] at e
    cases e
    exact go (fun _ => none) (fun _ => .inl rfl) (.inr ⟨_, vs.toArray, _, hk, rfl, rfl, rfl, by rw [List.size_toArray, lv]; exact hl, by simpa using rv⟩) (fun b u z => nomatch (show (none : Option HO) = some u from z)) fun b u z => nomatch (show (none : Option HO) = some u from z)
  | none =>
    have at' : ∀ {b : Addr} {u : HO}, (if b = a then some (HO.frz { cls := .type "list", data := .seq vs.toArray } (.lst (ns.map V.int))) else none) = some u → b = a ∧ u = .frz { cls := .type "list", data := .seq vs.toArray } (.lst (ns.map V.int)) := fun {b u} z => by
      by_cases h : b = a
      · rw [if_pos h] at z
        exact ⟨h, (Option.some.inj z).symm⟩
      · rw [if_neg h] at z
        cases z
    refine go (fun b => if b = a then some (.frz { cls := .type "list", data := .seq vs.toArray } (.lst (ns.map V.int))) else none) (fun b => ?_) (.inl (.inr ⟨{ cls := .type "list", data := .seq vs.toArray }, if_pos rfl⟩)) (fun b u z => ?_) fun b u z => ⟨(at' z).1, hk⟩
    · by_cases h : b = a
      · exact .inr ⟨_, _, if_pos h⟩
      · exact .inl (if_neg h)
    · obtain ⟨rfl, rfl⟩ := at' z
      exact ⟨ha, by rw [List.length_map]; exact hl, vs, _, rv, ha⟩
/-- the head's last goal, from such a law -/
theorem walk_G {l : PySem.W.OpenLaw} {n k : Nat} {q : Program} {loose : List Str} {XP : (Str → Option Value) → Heap → Prop} {YP : World → Heap → Prop} {d : DefRec} {K : Params → PySem.W.Frag} {sp : World → Sp} {x : Str}
    (hn : l.most = some n) (hn2 : n ≤ sizeLine) (hdf : d.params.defaults = []) (hr : Room k callerA) (hY : ∀ (w : World) (h : Heap), YP w h → (K w.params).In h)
    (F : ∀ (w : World) (mg : Str → Option Value) (fa : Addr) (h : Heap), (K w.params).In h → h.Ns mainGlobals mg → mg d.name = some (.ref fa) →
      ∃ fd : FuncData, (∀ (s : Shared) (u : Value), BindsTo s fd ⟨[u], []⟩ [(x, u)]) ∧ ∀ base : Heap, (K w.params).In base → base.Ns mainGlobals mg → FnG l.prog w (K w.params) mg base k fa fd [x] (sp w))
    (hsp : ∀ (w : World) (H : Hp) (a : Addr) (ns : List Int), ns.length ≤ n → Only H → SqL (K w.params) H a (ns.map V.int) → sp w [.ref a] H (fun v _ => v = .bl true) fun _ _ _ => False) :
    PySem.W.WalkO q loose XP YP l.row.toRowW d [] (fun f vs => PySem.call f vs) := by
  refine Att.attach_call hn hdf fun w s₀ s₁ mg mb fa o pm cd doc a vs ns G Y ho hd hcd hmg hobj hints hlen hg => ?_
  have KX := hY w _ Y
  obtain ⟨fd, hb, hF⟩ := F w mg fa _ KX G.T.g hmg
  exact call_lawG KX G.T.g G.T.b G.T.builtins G.T.nolimit hg hobj hints (Nat.le_trans hlen hn2) hr hF hb fun H hO hS => hsp w H a ns hlen hO hS
end Gc

namespace Gc
open PySem L2
def top (i : Nat) : Stmt := PySem.Challenge.pw_goalcolumn_k11_lists_that_differ.main.body.getD i (.Pass ⟨0, 0, 0, 0⟩)
abbrev s_is_count : Stmt := top 15
abbrev s_is_command : Stmt := top 14
abbrev s_check_commands : Stmt := top 13
abbrev s_row_change : Stmt := top 21
structure TxtB (K : PySem.W.Frag) (mg : Str → Option Value) (wo wn : Addr) : Prop where
  g_WITHOUT_NUMBER : mg "WITHOUT_NUMBER" = some (.ref wo)
  g_WITH_NUMBER : mg "WITH_NUMBER" = some (.ref wn)
  tWO : ∀ H, SqT K H wo [.str "home", .str "end"]
  tWN : ∀ H, SqT K H wn [.str "down", .str "up", .str "right", .str "left"]
  isinstance : mg "isinstance" = none
  int : mg "int" = none
  bool : mg "bool" = none
  len : mg "len" = none
  enumerate : mg "enumerate" = none
  reversed : mg "reversed" = none
  sorted : mg "sorted" = none
  max : mg "max" = none
  min : mg "min" = none
def spCount : Sp := fun vs H Q _ => ∃ n : Int, vs = [.int n] ∧ 1 ≤ n ∧ Q (.bl true) H
def spIsCmd (K : PySem.W.Frag) : Sp := fun vs H Q _ => ∃ (v : V) (c : Cmd), vs = [v] ∧ CmdAt K H v c ∧ c.ok ∧ ∀ H', Same H H' → Q (.bl true) H'
def spCheck (K : PySem.W.Frag) : Sp := fun vs H Q _ => ∃ (l : Addr) (xs : List V) (cs : List Cmd), vs = [.ref l] ∧ SqL K H l xs ∧ CmdsOf K H xs cs ∧ AllOk cs ∧ cs.length ≤ 10000 ∧ ∀ H', Same H H' → Q .non H'
def spRow (K : PySem.W.Frag) : Sp := fun vs H Q _ => ∃ (v : V) (c : Cmd), vs = [v] ∧ CmdAt K H v c ∧ Q (.int c.dv) H
theorem q_in {H : Hp} {Q : VK} {x : V} {xs : List V} (h : inV x xs = true) (k : Q (.bl true) H) : Q (.bl (if (false : Bool) = true then !inV x xs else inV x xs)) H := by
  rw [if_neg Bool.false_ne_true, h]
  exact k
theorem take_snoc {α : Type} : ∀ {l : List α} {i : Nat} {x : α}, l[i]? = some x → l.take (i + 1) = l.take i ++ [x]
  | [], i, x, h => by simp at h
  | a :: l, 0, x, h => by
    obtain rfl := Option.some.inj h
    rfl
  | a :: l, i + 1, x, h => by
    have ih := take_snoc (l := l) (i := i) (x := x) h
    show a :: l.take (i + 1) = a :: l.take i ++ [x]
    rw [ih]
    rfl
def optV : Option Int → V
  | none => .non
  | some n => .int n
theorem m_no {y z : Str} {tb : TS} {r : TM} {D : Ends} {σ : L2.St} {H : Hp} (h : decide (y = z) = false) (q : r (.str y) D σ H) : mStr z tb r (.str y) D σ H := ⟨y, rfl, by rw [h]; exact iteF q⟩
theorem m_yes {y z : Str} {tb : TS} {r : TM} {D : Ends} {σ : L2.St} {H : Hp} (h : decide (y = z) = true) (q : tb D σ H) : mStr z tb r (.str y) D σ H := ⟨y, rfl, by rw [h]; exact iteT q⟩
section
variable {P : Program} {w : World} {K : PySem.W.Frag} {mg : Str → Option Value} {base : Heap} {wo wn : Addr}
theorem sc_is_count : FnScope ["number"] ["number"] (defScope s_is_count) := ⟨rfl, rfl, rfl, by decide +kernel, rfl, by decide +kernel, by decide +kernel⟩
theorem ok_is_count {f : Addr} {fd : FuncData} (F : Fun K "is_count" "is_count" s_is_count f fd) (T : TxtB K mg wo wn) : FnOk P w K mg base CX0 1 f fd ["number"] spCount := by
  refine F.ok sc_is_count (fun vs H Q E h => ?_) (fun cdv A outer s H vs Q E hr h => ?_)
  · obtain ⟨n, rfl, _⟩ := h
    rfl
  · obtain ⟨n, rfl, hn, k⟩ := h
    refine ⟨_, (pss_one (ps_ret (pe_and (pe_callB call_isi (by rfl) T.isinstance (by decide +kernel) (pa_cons (pv 0) (pa_cons (pe_bltn (v := .ty "int") (u := .type "int") (by rfl) T.int (by decide +kernel) rfl) pa_nil))) (pe_and (pe_not (pe_callB call_isi (by rfl) T.isinstance (by decide +kernel) (pa_cons (pv 0) (pa_cons (pe_bltn (v := .ty "bool") (u := .type "bool") (by rfl) T.bool (by decide +kernel) rfl) pa_nil)))) (pe_one (pe_cmpR op_ge (pv 0) pe_int (nomark _))))))), ?_⟩
    refine ⟨_, rfl, _, _, _, _, _, rfl, .ty "int", .base (.int n), kit_ty (show kitB "int" "int" = some true by decide +kernel), _, rfl, iteT ?_⟩
    refine ⟨_, rfl, _, _, _, _, _, rfl, .ty "bool", .base (.int n), kit_ty (show kitB "int" "bool" = some false by decide +kernel), _, rfl, _, rfl, iteT ?_⟩
    refine ⟨_, rfl, _, _, rfl, rfl, ?_⟩
    show Q (.bl (decide (1 ≤ n))) H
    rw [decide_eq_true hn]
    exact k
theorem sc_is_command : FnScope ["command"] ["command"] (defScope s_is_command) := ⟨rfl, rfl, rfl, by decide +kernel, rfl, by decide +kernel, by decide +kernel⟩
theorem ok_is_command {f : Addr} {fd : FuncData} (F : Fun K "is_command" "is_command" s_is_command f fd) (T : TxtB K mg wo wn) (c_is_count : Cal P w K mg base 1 "is_count" spCount) : FnOk P w K mg base CX0 2 f fd ["command"] (spIsCmd K) := by
  refine F.ok sc_is_command (fun vs H Q E h => ?_) (fun cdv A outer s H vs Q E hr h => ?_)
  · obtain ⟨v, c, rfl, _⟩ := h
    rfl
  · obtain ⟨v, c, rfl, ⟨a, rfl, ha⟩, hc, k⟩ := h
    refine ⟨_, (pss_cons (ps_if (pt_cmpR op_eq (pe_callB call_len_seq (by rfl) T.len (by decide +kernel) (pa_cons (pv 0) pa_nil)) pe_int (nomark _)) (pss_one (ps_ret (pe_cmpR op_in_seq (pe_ix ix_tup (pv 0) pe_int (fun _ _ => rfl)) (pe_glob (v := .ref wo) (by rfl) T.g_WITHOUT_NUMBER rfl) (by rfl)))) pss_nil)
      (pss_one (ps_ret (pe_and (pe_cmpR op_eq (pe_callB call_len_seq (by rfl) T.len (by decide +kernel) (pa_cons (pv 0) pa_nil)) pe_int (nomark _)) (pe_and (pe_cmpR op_in_seq (pe_ix ix_tup (pv 0) pe_int (fun _ _ => rfl)) (pe_glob (v := .ref wn) (by rfl) T.g_WITH_NUMBER rfl) (by rfl)) (pe_one (pe_cal c_is_count hr (by decide) (by rfl) (pa_cons (pe_ix ix_tup (pv 0) pe_int (fun _ _ => rfl)) pa_nil)))))))), ?_⟩
    have k0 := k H (Same.refl H)
    cases c with
    | down n =>
      refine ⟨_, rfl, a, _, rfl, .inr ha, rfl, _, rfl, iteF ?_⟩
      refine ⟨_, rfl, a, _, rfl, .inr ha, rfl, _, rfl, iteT ?_⟩
      refine ⟨_, rfl, a, _, 0, _, rfl, rfl, ha, rfl, wn, _, rfl, .inr (T.tWN _), rfl, rfl, true, by decide +kernel, iteT ?_⟩
      exact ⟨_, rfl, a, _, 1, _, rfl, rfl, ha, rfl, n, rfl, hc, k0⟩
    | up n =>
      refine ⟨_, rfl, a, _, rfl, .inr ha, rfl, _, rfl, iteF ?_⟩
      refine ⟨_, rfl, a, _, rfl, .inr ha, rfl, _, rfl, iteT ?_⟩
      refine ⟨_, rfl, a, _, 0, _, rfl, rfl, ha, rfl, wn, _, rfl, .inr (T.tWN _), rfl, rfl, true, by decide +kernel, iteT ?_⟩
      exact ⟨_, rfl, a, _, 1, _, rfl, rfl, ha, rfl, n, rfl, hc, k0⟩
    | right n =>
      refine ⟨_, rfl, a, _, rfl, .inr ha, rfl, _, rfl, iteF ?_⟩
      refine ⟨_, rfl, a, _, rfl, .inr ha, rfl, _, rfl, iteT ?_⟩
      refine ⟨_, rfl, a, _, 0, _, rfl, rfl, ha, rfl, wn, _, rfl, .inr (T.tWN _), rfl, rfl, true, by decide +kernel, iteT ?_⟩
      exact ⟨_, rfl, a, _, 1, _, rfl, rfl, ha, rfl, n, rfl, hc, k0⟩
    | left n =>
      refine ⟨_, rfl, a, _, rfl, .inr ha, rfl, _, rfl, iteF ?_⟩
      refine ⟨_, rfl, a, _, rfl, .inr ha, rfl, _, rfl, iteT ?_⟩
      refine ⟨_, rfl, a, _, 0, _, rfl, rfl, ha, rfl, wn, _, rfl, .inr (T.tWN _), rfl, rfl, true, by decide +kernel, iteT ?_⟩
      exact ⟨_, rfl, a, _, 1, _, rfl, rfl, ha, rfl, n, rfl, hc, k0⟩
    | home =>
      refine ⟨_, rfl, a, _, rfl, .inr ha, rfl, _, rfl, iteT ?_⟩
      refine ⟨_, rfl, a, _, 0, _, rfl, rfl, ha, rfl, wo, _, rfl, .inr (T.tWO _), rfl, rfl, ?_⟩
      exact q_in (by decide +kernel) k0
    | stop =>
      refine ⟨_, rfl, a, _, rfl, .inr ha, rfl, _, rfl, iteT ?_⟩
      refine ⟨_, rfl, a, _, 0, _, rfl, rfl, ha, rfl, wo, _, rfl, .inr (T.tWO _), rfl, rfl, ?_⟩
      exact q_in (by decide +kernel) k0
theorem sc_row_change : FnScope ["command"] ["command"] (defScope s_row_change) := ⟨rfl, rfl, rfl, by decide +kernel, rfl, by decide +kernel, by decide +kernel⟩
theorem ok_row_change {f : Addr} {fd : FuncData} (F : Fun K "row_change" "row_change" s_row_change f fd) : FnOk P w K mg base CX0 1 f fd ["command"] (spRow K) := by
  refine F.ok sc_row_change (fun vs H Q E h => ?_) (fun cdv A outer s H vs Q E hr h => ?_)
  · obtain ⟨v, c, rfl, _⟩ := h
    rfl
  · obtain ⟨v, c, rfl, ⟨a, rfl, ha⟩, k⟩ := h
    refine ⟨_, (pss_cons (ps_if (pt_cmpR op_eq (pe_ix ix_tup (pv 0) pe_int (fun _ _ => rfl)) pe_str (nomark _)) (pss_one (ps_ret (pe_ix ix_tup (pv 0) pe_int (fun _ _ => rfl)))) pss_nil)
      (pss_cons (ps_if (pt_cmpR op_eq (pe_ix ix_tup (pv 0) pe_int (fun _ _ => rfl)) pe_str (nomark _)) (pss_one (ps_ret (pe_un un_neg (pe_ix ix_tup (pv 0) pe_int (fun _ _ => rfl))))) pss_nil)
      (pss_one (ps_ret pe_int)))), ?_⟩
    cases c with
    | down n =>
      refine ⟨_, rfl, a, _, 0, _, rfl, rfl, ha, rfl, rfl, true, by decide +kernel, iteT ?_⟩
      exact ⟨_, rfl, a, _, 1, _, rfl, rfl, ha, rfl, k⟩
    | up n =>
      refine ⟨_, rfl, a, _, 0, _, rfl, rfl, ha, rfl, rfl, false, by decide +kernel, iteF ?_⟩
      refine ⟨_, rfl, a, _, 0, _, rfl, rfl, ha, rfl, rfl, true, by decide +kernel, iteT ?_⟩
      exact ⟨_, rfl, a, _, 1, _, rfl, rfl, ha, rfl, n, rfl, k⟩
    | right n =>
      refine ⟨_, rfl, a, _, 0, _, rfl, rfl, ha, rfl, rfl, false, by decide +kernel, iteF ?_⟩
      refine ⟨_, rfl, a, _, 0, _, rfl, rfl, ha, rfl, rfl, false, by decide +kernel, iteF ?_⟩
      exact k
    | left n =>
      refine ⟨_, rfl, a, _, 0, _, rfl, rfl, ha, rfl, rfl, false, by decide +kernel, iteF ?_⟩
      refine ⟨_, rfl, a, _, 0, _, rfl, rfl, ha, rfl, rfl, false, by decide +kernel, iteF ?_⟩
      exact k
    | home =>
      refine ⟨_, rfl, a, _, 0, _, rfl, rfl, ha, rfl, rfl, false, by decide +kernel, iteF ?_⟩
      refine ⟨_, rfl, a, _, 0, _, rfl, rfl, ha, rfl, rfl, false, by decide +kernel, iteF ?_⟩
      exact k
    | stop =>
      refine ⟨_, rfl, a, _, 0, _, rfl, rfl, ha, rfl, rfl, false, by decide +kernel, iteF ?_⟩
      refine ⟨_, rfl, a, _, 0, _, rfl, rfl, ha, rfl, rfl, false, by decide +kernel, iteF ?_⟩
      exact k
theorem sc_check_commands : FnScope ["commands", "index", "command"] ["commands"] (defScope s_check_commands) := ⟨rfl, rfl, rfl, by decide +kernel, rfl, by decide +kernel, by decide +kernel⟩
theorem ok_check_commands {f : Addr} {fd : FuncData} (F : Fun K "check_commands" "check_commands" s_check_commands f fd) (T : TxtB K mg wo wn) (c_is_command : Cal P w K mg base 2 "is_command" (spIsCmd K)) : FnOk P w K mg base CX0 3 f fd ["commands"] (spCheck K) := by
  refine F.ok sc_check_commands (fun vs H Q E h => ?_) (fun cdv A outer s H vs Q E hr h => ?_)
  · obtain ⟨l, xs, cs, rfl, _⟩ := h
    rfl
  · obtain ⟨l, xs, cs, rfl, hl, hcs, hk, hn, k⟩ := h
    refine ⟨_, (pss_one (ps_for PassesOwn.never rfl (pi_enum (by rfl) T.enumerate (pa_cons (pv 0) pa_nil)) (pg_tup rfl (pgs_cons (pg_name (i := 1) sc_check_commands.nd rfl (Or.inl rfl)) (pgs_cons (pg_name (i := 2) sc_check_commands.nd rfl (Or.inl rfl)) pgs_nil))) (pss_one (ps_if (pt_not (pt_val (pe_cal c_is_command hr (by decide) (by rfl) (pa_cons (pv 2) pa_nil)))) (pss_one ps_never) pss_nil)))), ?_⟩
    refine ⟨_, rfl, l, xs, rfl, hl, for_it (walk_enum (K := K) (a := l) (xs := xs)) (fun i σ H' => ∃ v1 v2 : Option V, σ = [some (.ref l), v1, v2] ∧ Same H H')
      ⟨none, none, rfl, Same.refl H⟩ (fun i σ H' _ ⟨_, _, _, e⟩ => e.seq hl) (fun i x σ H1 H2 hi h y => ?_) (fun σ H1 h => ?_)⟩
    · obtain ⟨v1, v2, rfl, e⟩ := h
      obtain ⟨T1, x1, y1, rfl, nT, rfl, e1, e2⟩ := y
      obtain ⟨c, hc, hca⟩ := paired_at hcs e2
      have eT : Same H (upd H1 T1 (.tup [x1, y1])) := same_upd e nT
      refine ⟨T1, _, rfl, SqT.of upd_same, rfl, _, _, rfl, _, _, rfl, rfl, ?_⟩
      refine ⟨_, rfl, y1, c, rfl, hca.same eT, hk c (List.mem_of_getElem? hc), fun H3 e3 => ⟨_, rfl, iteF ?_⟩⟩
      exact ⟨_, _, rfl, eT.trans e3⟩
    · obtain ⟨v1, v2, rfl, e⟩ := h
      exact k _ e
end
end Gc

namespace Gc
open PySem L2
abbrev s_reach : Stmt := top 19
abbrev s_check_number : Stmt := top 16
abbrev s_require : Stmt := top 26
abbrev s_box : Stmt := top 25
def rstep (s : Int × Int × Int) (c : Cmd) : Int × Int × Int :=
  (if s.2.2 + c.dv < s.1 then s.2.2 + c.dv else s.1, if s.2.2 + c.dv > s.2.1 then s.2.2 + c.dv else s.2.1, s.2.2 + c.dv)
def rchM (cs : List Cmd) : Int × Int × Int := cs.foldl rstep (0, 0, 0)
theorem rch_more {cs : List Cmd} {i : Nat} {c : Cmd} (h : cs[i]? = some c) : rchM (cs.take (i + 1)) = rstep (rchM (cs.take i)) c := by
  unfold rchM
  rw [take_snoc h, List.foldl_append]
  rfl
theorem rch_last : ∀ (cs : List Cmd) (s : Int × Int × Int), (cs.foldl rstep s).2.2 = s.2.2 + last cs
  | [], s => by show s.2.2 = s.2.2 + 0; omega
  | c :: cs, s => by
    show (cs.foldl rstep (rstep s c)).2.2 = s.2.2 + (c.dv + last cs)
    rw [rch_last cs]
    show s.2.2 + c.dv + last cs = _
    omega
def spReach (K : PySem.W.Frag) : Sp := fun vs H Q _ => ∃ (l : Addr) (xs : List V) (cs : List Cmd), vs = [.ref l] ∧ SqL K H l xs ∧ CmdsOf K H xs cs ∧ AllOk cs ∧ cs.length ≤ 10000 ∧
  ∀ (H' : Hp) (p : Addr), Same H H' → H p = none → H' p = some (.tup [.int (rchM cs).1, .int (rchM cs).2.1, .int (last cs)]) → Q (.ref p) H'
def spNum : Sp := fun vs H Q _ => ∃ n k : Int, vs = [.int n, .int k] ∧ k ≤ n ∧ Q .non H
def spReq : Sp := fun vs H Q _ => ∃ (d : Addr) (b : Ps) (o v : Int), vs = [.ref d, .int o, .int v] ∧ H d = some (.dK (dkI b)) ∧ b.length ≤ 10000 ∧ Q .non (upd H d (.dK (dkI (req b o v))))
/-- the tuple of a box, its list and its pairs, all new -/
def BoxAt (H H' : Hp) (p : Addr) (st : Option Int) (L : Ps) : Prop := ∃ (m : Addr) (ts : List Addr), H p = none ∧ H m = none ∧ H' p = some (.tup [optV st, .ref m]) ∧ H' m = some (.lst (ts.map V.ref)) ∧
  Paired (fun (t : Addr) (q : Int × Int) => H' t = some (.tup [.int q.1, .int q.2])) ts L
def spBox (K : PySem.W.Frag) : Sp := fun vs H Q _ => ∃ (l : Addr) (xs : List V) (cs : List Cmd) (goal : Int), vs = [.ref l, .int goal] ∧ SqL K H l xs ∧ CmdsOf K H xs cs ∧ AllOk cs ∧ cs.length ≤ 10000 ∧ 1 ≤ goal ∧
  (boxM cs goal = none → ∀ H', Same H H' → Q .non H') ∧ ∀ st L, boxM cs goal = some (st, L) → ∀ H' p, Same H H' → BoxAt H H' p st L → Q (.ref p) H'
section
variable {P : Program} {w : World} {K : PySem.W.Frag} {mg : Str → Option Value} {base : Heap} {wo wn : Addr}
theorem sc_reach : FnScope ["commands", "least", "greatest", "last", "command"] ["commands"] (defScope s_reach) := ⟨rfl, rfl, rfl, by decide +kernel, rfl, by decide +kernel, by decide +kernel⟩
theorem ok_reach {f : Addr} {fd : FuncData} (F : Fun K "reach" "reach" s_reach f fd) (T : TxtB K mg wo wn) (c_check_commands : Cal P w K mg base 3 "check_commands" (spCheck K)) (c_row_change : Cal P w K mg base 1 "row_change" (spRow K)) :
    FnOk P w K mg base CX0 4 f fd ["commands"] (spReach K) := by
  refine F.ok sc_reach (fun vs H Q E h => ?_) (fun cdv A outer s H vs Q E hr h => ?_)
  · obtain ⟨l, xs, cs, rfl, _⟩ := h
    rfl
  · obtain ⟨l, xs, cs, rfl, hl, hcs, hk, hn, k⟩ := h
    refine ⟨_, (pss_cons (ps_expr (pe_cal c_check_commands hr (by decide) (by rfl) (pa_cons (pv 0) pa_nil)))
      (pss_cons (ps_asg3 pe_int (pg_name (i := 1) sc_reach.nd rfl (Or.inl rfl)) (pg_name (i := 2) sc_reach.nd rfl (Or.inl rfl)) (pg_name (i := 3) sc_reach.nd rfl (Or.inl rfl)))
      (pss_cons (ps_for PassesOwn.never rfl (pi_list (pv 0)) (pg_name (i := 4) sc_reach.nd rfl (Or.inl rfl)) (pss_cons (ps_aug (i := 3) sc_reach.nd rfl (Or.inl rfl) (pe_cal c_row_change hr (by decide) (by rfl) (pa_cons (pv 4) pa_nil)) ip_add)
      (pss_cons (ps_set (i := 1) sc_reach.nd rfl (Or.inl rfl) (pe_callB (call_min2 rfl) (by rfl) T.min (by decide +kernel) (pa_cons (pv 1) (pa_cons (pv 3) pa_nil))))
      (pss_one (ps_set (i := 2) sc_reach.nd rfl (Or.inl rfl) (pe_callB (call_max2 rfl) (by rfl) T.max (by decide +kernel) (pa_cons (pv 2) (pa_cons (pv 3) pa_nil))))))))
      (pss_one (ps_ret (pe_tup (pa_cons (pv 1) (pa_cons (pv 2) (pa_cons (pv 3) pa_nil))))))))), ?_⟩
    refine ⟨_, rfl, l, xs, cs, rfl, hl, hcs, hk, hn, fun H1 e1 => ?_⟩
    refine ⟨_, rfl, l, rfl, ⟨_, e1.seq hl⟩, for_list (K := K) (a := l) (xs := xs) (fun i σ H' => ∃ v : Option V, σ = [some (.ref l), some (.int (rchM (cs.take i)).1), some (.int (rchM (cs.take i)).2.1), some (.int (rchM (cs.take i)).2.2), v] ∧ Same H H')
      ⟨none, rfl, e1⟩ (fun i σ H' _ ⟨_, _, e⟩ => e.seq hl) (fun i x σ H2 hi h => ?_) (fun σ H2 h => ?_)⟩
    · obtain ⟨v, rfl, e⟩ := h
      obtain ⟨c, hc, hca⟩ := paired_at hcs hi
      refine ⟨_, rfl, _, rfl, x, c, rfl, hca.same e, _, _, rfl, rfl, ?_⟩
      refine ⟨_, rfl, _, rfl, _, _, rfl, ?_⟩
      refine ⟨_, rfl, _, rfl, _, _, rfl, ?_⟩
      refine ⟨some x, ?_, e⟩
      rw [rch_more hc]
      rfl
    · obtain ⟨v, rfl, e⟩ := h
      have el : (rchM (cs.take xs.length)).2.2 = last cs := by
        rw [hcs.len, List.take_length]
        unfold rchM
        rw [rch_last]
        show (0 : Int) + last cs = last cs
        omega
      rw [el, hcs.len, List.take_length]
      refine ⟨_, rfl, _, rfl, _, rfl, (by show 3 ≤ sizeLine; decide), fun p hp => ?_⟩
      exact k _ p (same_upd e hp) (e.free hp) upd_same
theorem sc_check_number : FnScope ["number", "least"] ["number", "least"] (defScope s_check_number) := ⟨rfl, rfl, rfl, by decide +kernel, rfl, by decide +kernel, by decide +kernel⟩
theorem ok_check_number {f : Addr} {fd : FuncData} (F : Fun K "check_number" "check_number" s_check_number f fd) : FnOk P w K mg base CX0 1 f fd ["number", "least"] spNum := by
  refine F.ok sc_check_number (fun vs H Q E h => ?_) (fun cdv A outer s H vs Q E hr h => ?_)
  · obtain ⟨n, k, rfl, _⟩ := h
    rfl
  · obtain ⟨n, k, rfl, hn, q⟩ := h
    refine ⟨_, (pss_one (ps_if (pt_cmpR op_lt (pv 0) (pv 1) (nomark _)) (pss_one ps_never) pss_nil)), ?_⟩
    exact ⟨_, rfl, _, rfl, _, _, rfl, rfl, _, rfl, ite2 (fun c => absurd (of_decide_eq_true c) (by omega)) (fun _ => q)⟩
theorem sc_require : FnScope ["bounds", "offset", "bound"] ["bounds", "offset", "bound"] (defScope s_require) := ⟨rfl, rfl, rfl, by decide +kernel, rfl, by decide +kernel, by decide +kernel⟩
theorem ok_require {f : Addr} {fd : FuncData} (F : Fun K "require" "require" s_require f fd) (T : TxtB K mg wo wn) : FnOk P w K mg base CX0 1 f fd ["bounds", "offset", "bound"] spReq := by
  refine F.ok sc_require (fun vs H Q E h => ?_) (fun cdv A outer s H vs Q E hr h => ?_)
  · obtain ⟨d, b, o, v, rfl, _⟩ := h
    rfl
  · obtain ⟨d, b, o, v, rfl, hd, hz, k⟩ := h
    refine ⟨_, (pss_one (ps_dput (hu_of hr) (pv 0) (pv 1) (pe_callB (call_max2 rfl) (by rfl) T.max (by decide +kernel) (pa_cons (pv 2) (pa_cons (pe_dget2 (hu_of hr) (pv 0) (pv 1) (pv 2) ⟨rfl, rfl, rfl, rfl⟩) pa_nil))) rfl)), ?_⟩
    have eg : (valV (dkI b) (Sum.inl o : L2.Key)).getD (.int v) = .int ((look b o).getD v) := by
      rw [valV_dkI]
      cases look b o <;> rfl
    refine ⟨_, rfl, _, rfl, d, rfl, .inl ⟨_, .inl hd⟩, _, rfl, _, rfl, _, DGet.k (k := Sum.inl o) hd, v, (look b o).getD v, (by rw [eg]), ?_⟩
    refine ⟨_, rfl, _, rfl, d, _, rfl, DPut.k (k := Sum.inl o) hd ?_, ?_⟩
    · unfold dkI
      rw [List.length_map]
      exact Nat.lt_of_le_of_lt hz (by decide)
    · show Q .non (upd H d (.dK (putK (dkI b) (Sum.inl o : L2.Key) (.int (mx v ((look b o).getD v))))))
      rw [putK_dkI]
      exact k
theorem sc_box : FnScope ["commands", "goal", "bounds", "needed", "offset", "command"] ["commands", "goal"] (defScope s_box) := ⟨rfl, rfl, rfl, by decide +kernel, rfl, by decide +kernel, by decide +kernel⟩
theorem ok_box {f : Addr} {fd : FuncData} (F : Fun K "box" "box" s_box f fd) (T : TxtB K mg wo wn) (c_check_commands : Cal P w K mg base 3 "check_commands" (spCheck K)) (c_row_change : Cal P w K mg base 1 "row_change" (spRow K))
    (c_reach : Cal P w K mg base 4 "reach" (spReach K)) (c_check_number : Cal P w K mg base 1 "check_number" spNum) (c_require : Cal P w K mg base 1 "require" spReq) : FnOk P w K mg base CX0 5 f fd ["commands", "goal"] (spBox K) := by
  refine F.ok sc_box (fun vs H Q E h => ?_) (fun cdv A outer s H vs Q E hr h => ?_)
  · obtain ⟨l, xs, cs, goal, rfl, _⟩ := h
    rfl
  · obtain ⟨l, xs, cs, goal, rfl, hl, hcs, hk, hn, hg, kN, kS⟩ := h
    refine ⟨_, (pss_cons (ps_expr (pe_cal c_check_commands hr (by decide) (by rfl) (pa_cons (pv 0) pa_nil)))
      (pss_cons (ps_expr (pe_cal c_check_number hr (by decide) (by rfl) (pa_cons (pv 1) (pa_cons pe_int pa_nil))))
      (pss_cons (ps_set (i := 2) sc_box.nd rfl (Or.inl rfl) pe_dnewK)
      (pss_cons (ps_set (i := 3) sc_box.nd rfl (Or.inl rfl) (pv 1))
      (pss_cons (ps_set (i := 4) sc_box.nd rfl (Or.inl rfl) (pe_ix ix_tup (pe_cal c_reach hr (by decide) (by rfl) (pa_cons (pv 0) pa_nil)) pe_int (fun _ _ => rfl)))
      (C8.pss_cut (ps_for PassesOwn.never rfl (pi_reversed (by rfl) T.reversed (pa_cons (pv 0) pa_nil)) (pg_name (i := 5) sc_box.nd rfl (Or.inl rfl)) (pss_cons (ps_match (pe_ix ix_tup (pv 5) pe_int (fun _ _ => rfl)) (mc_str (pss_one (ps_ret pe_non)) (mc_str (pss_one (ps_set (i := 3) sc_box.nd rfl (Or.inl rfl) pe_non)) (mc_str (pss_cons (ps_expr (pe_cal c_require hr (by decide) (by rfl) (pa_cons (pv 2) (pa_cons (pv 4) (pa_cons (pv 3) pa_nil)))))
      (pss_one (ps_set (i := 3) sc_box.nd rfl (Or.inl rfl) (pe_ifExp (pt_cmpR op_gt (pv 3) (pe_ix ix_tup (pv 5) pe_int (fun _ _ => rfl)) (nomark _)) (pe_op op_sub (pv 3) (pe_ix ix_tup (pv 5) pe_int (fun _ _ => rfl))) pe_non)))) (mc_str (pss_cons (ps_aug (i := 3) sc_box.nd rfl (Or.inl rfl) (pe_ix ix_tup (pv 5) pe_int (fun _ _ => rfl)) ip_add)
      (pss_one (ps_expr (pe_cal c_require hr (by decide) (by rfl) (pa_cons (pv 2) (pa_cons (pv 4) (pa_cons (pv 3) pa_nil))))))) (mc_any (pss_one (ps_aug (i := 4) sc_box.nd rfl (Or.inl rfl) (pe_cal c_row_change hr (by decide) (by rfl) (pa_cons (pv 5) pa_nil)) ip_sub))))))))
      (pss_one (ps_if (pt_cmpR op_isN (pv 3) pe_non (nomark _)) (pss_one ps_break) pss_nil))))
      (pss_one (ps_ret (pe_tup (pa_cons (pv 3) (pa_cons (pe_sortItems rfl hr.units (pv 2) (by rfl) T.sorted (by decide +kernel)) pa_nil))))))))))), ?_⟩
    refine ⟨_, rfl, l, xs, cs, rfl, hl, hcs, hk, hn, fun H1 e1 => ?_⟩
    refine ⟨_, rfl, _, _, rfl, hg, ?_⟩
    -- bounds = {}; needed = goal; offset = reach(commands)[2]
    refine fun d hd => ?_
    have hd0 : H d = none := e1.free hd
    refine ⟨_, rfl, _, rfl, l, xs, cs, rfl, (same_upd e1 hd).seq hl, hcs.same (same_upd e1 hd), hk, hn, fun H2 p e2 np h2 => ⟨p, _, 2, _, rfl, rfl, SqT.of h2, rfl, ?_⟩⟩
    have e02 : Same H H2 := (same_upd e1 hd).trans e2
    have hd2 : H2 d = some (.dK (dkI [])) := e2 _ _ upd_same
    -- for command in reversed(commands)
    refine ⟨fun σ H' => ∃ (st : Option Int) (b : Ps) (v4 v5 : Option V), σ = [some (.ref l), some (.int goal), some (.ref d), some (optV st), v4, v5] ∧ go cs.reverse (last cs) goal [] = some (st, b) ∧ Same H H' ∧ H' d = some (.dK (dkI b)) ∧ b.length ≤ 10000, ?_, ?_⟩
    · refine ⟨_, rfl, l, xs, rfl, e02.seq hl, RT.for_Itv (K := K) (a := l) (xs := xs) (fun i σ H' => ∃ (off need : Int) (b : Ps) (v5 : Option V), σ = [some (.ref l), some (.int goal), some (.ref d), some (.int need), some (.int off), v5] ∧
          go cs.reverse (last cs) goal [] = go (cs.reverse.drop i) off need b ∧ Same H H' ∧ H' d = some (.dK (dkI b)) ∧ b.length ≤ i ∧ i ≤ cs.length)
        ⟨last cs, goal, [], none, rfl, rfl, e02, hd2, Nat.le_refl _, Nat.zero_le _⟩ (fun i σ H' ⟨_, _, _, _, _, _, e, _⟩ => e.seq hl) (fun i x σ H3 hi hx h => ?_) (fun σ H3 h => ?_)⟩
      · obtain ⟨off, need, b, v5, rfl, hgo, e3, hd3, hb, hil⟩ := h
        obtain ⟨c, hc, hca⟩ := paired_at hcs hx
        have hcl := hcs.len
        have hrev : cs.reverse[i]? = some c := by
          rw [List.getElem?_reverse (by omega), ← hcl]
          exact hc
        have hdrop : cs.reverse.drop i = c :: cs.reverse.drop (i + 1) := by
          obtain ⟨h1, h2⟩ := List.getElem?_eq_some_iff.mp hrev
          rw [List.drop_eq_getElem_cons h1, h2]
        rw [hdrop] at hgo
        obtain ⟨a, rfl, hca0⟩ := hca.same e3
        have hi' : i < cs.length := by omega
        have hb' : b.length ≤ 10000 := by omega
        have goR : ∀ o v, (req b o v).length ≤ i + 1 := fun o v => Nat.le_trans (req_len b o v) (by omega)
        have sameU : ∀ z, Same H (upd H3 d z) := fun z b' o' q => by
          rw [upd_ne (ne_of_none q hd0)]
          exact e3 _ _ q
        cases c with
        | home =>
          refine ⟨_, rfl, a, _, 0, _, rfl, rfl, hca0, rfl, m_yes (by decide +kernel) ?_⟩
          refine kN ?_ _ e3
          unfold boxM
          rw [hgo]
          rfl
        | stop =>
          refine ⟨_, rfl, a, _, 0, _, rfl, rfl, hca0, rfl, m_no (by decide +kernel) (m_yes (by decide +kernel) ?_)⟩
          refine ⟨_, rfl, rfl, _, rfl, iteT ?_⟩
          exact ⟨none, b, _, _, rfl, hgo, e3, hd3, hb'⟩
        | right n =>
          refine ⟨_, rfl, a, _, 0, _, rfl, rfl, hca0, rfl, m_no (by decide +kernel) (m_no (by decide +kernel) (m_yes (by decide +kernel) ?_))⟩
          refine ⟨_, rfl, _, rfl, _, rfl, d, b, off, need, rfl, hd3, hb', ?_⟩
          have hca1 : SqT K (upd H3 d (.dK (dkI (req b off need)))) a (encC (.right n)) := by
            rcases hca0 with (z | ⟨o, z⟩) | z
            · exact .inl (.inl (by rw [upd_ne (ne_of z hd3 (by intro q; cases q))]; exact z))
            · exact .inl (.inr ⟨o, by rw [upd_ne (ne_of z hd3 (by intro q; cases q))]; exact z⟩)
            · exact .inr z
          refine ⟨_, rfl, _, rfl, a, _, 1, _, rfl, rfl, hca1, rfl, _, _, rfl, rfl, _, rfl, ite2 (fun c => ?_) (fun c => ?_)⟩
          · have c' : n < need := of_decide_eq_true c
            refine ⟨_, rfl, _, rfl, a, _, 1, _, rfl, rfl, hca1, rfl, _, _, rfl, rfl, ?_⟩
            refine ⟨_, rfl, rfl, _, rfl, iteF ?_⟩
            refine ⟨off, need - n, req b off need, _, rfl, ?_, sameU _, upd_same, goR _ _, hi'⟩
            rw [hgo]
            simp only [go]
            rw [if_pos c']
          · have c' : ¬ n < need := fun z => c (decide_eq_true z)
            refine ⟨_, rfl, rfl, _, rfl, iteT ?_⟩
            refine ⟨none, req b off need, _, _, rfl, ?_, sameU _, upd_same, Nat.le_trans (goR _ _) (by omega)⟩
            rw [hgo]
            simp only [go]
            rw [if_neg c']
        | left n =>
          refine ⟨_, rfl, a, _, 0, _, rfl, rfl, hca0, rfl, m_no (by decide +kernel) (m_no (by decide +kernel) (m_no (by decide +kernel) (m_yes (by decide +kernel) ?_)))⟩
          refine ⟨_, rfl, _, rfl, a, _, 1, _, rfl, rfl, hca0, rfl, _, _, rfl, rfl, ?_⟩
          refine ⟨_, rfl, _, rfl, _, rfl, d, b, off, need + n, rfl, hd3, hb', ?_⟩
          refine ⟨_, rfl, rfl, _, rfl, iteF ?_⟩
          exact ⟨off, need + n, req b off (need + n), _, rfl, hgo, sameU _, upd_same, goR _ _, hi'⟩
        | down n =>
          refine ⟨_, rfl, a, _, 0, _, rfl, rfl, hca0, rfl, m_no (by decide +kernel) (m_no (by decide +kernel) (m_no (by decide +kernel) (m_no (by decide +kernel) ?_)))⟩
          refine ⟨_, rfl, _, rfl, .ref a, .down n, rfl, ⟨a, rfl, hca0⟩, _, _, rfl, rfl, ?_⟩
          refine ⟨_, rfl, rfl, _, rfl, iteF ?_⟩
          exact ⟨off - n, need, b, _, rfl, hgo, e3, hd3, by omega, hi'⟩
        | up n =>
          refine ⟨_, rfl, a, _, 0, _, rfl, rfl, hca0, rfl, m_no (by decide +kernel) (m_no (by decide +kernel) (m_no (by decide +kernel) (m_no (by decide +kernel) ?_)))⟩
          refine ⟨_, rfl, _, rfl, .ref a, .up n, rfl, ⟨a, rfl, hca0⟩, _, _, rfl, rfl, ?_⟩
          refine ⟨_, rfl, rfl, _, rfl, iteF ?_⟩
          refine ⟨off - -n, need, b, _, rfl, ?_, e3, hd3, by omega, hi'⟩
          rw [hgo]
          simp only [go]
          rw [show off - -n = off + n by omega]
      · obtain ⟨off, need, b, v5, rfl, hgo, e3, hd3, hb, hil⟩ := h
        refine ⟨some need, b, _, _, rfl, ?_, e3, hd3, by omega⟩
        rw [hgo, hcs.len, ← List.length_reverse, List.drop_length]
        rfl
    · rintro σ H3 ⟨st, b, v4, v5, rfl, hgo, e3, hd3, hb⟩
      refine ⟨_, rfl, _, rfl, d, b, rfl, hd3, fun H4 m ts e4 nm hm hp => ⟨(by show 2 ≤ sizeLine; decide), fun p np => ?_⟩⟩
      have e5 : Same H4 (upd H4 p (.tup [optV st, .ref m])) := same_upd (Same.refl _) np
      refine kS st (b.mergeSort leK) ?_ _ p ((e3.trans e4).trans e5) ⟨m, ts, (e3.trans e4).free np, e3.free nm, upd_same, e5 _ _ hm, Paired.mapP hp fun _ _ q => e5 _ _ q⟩
      unfold boxM
      rw [hgo]
      rfl
end
end Gc

/-! forms -/
namespace Gc
open PySem L2
abbrev s_form : Stmt := top 29
abbrev s_pieces : Stmt := top 30
abbrev s_add_piece : Stmt := top 31
def spAddP (K : PySem.W.Frag) : Sp := fun vs H Q _ => ∃ (H0 : Hp) (m t : Addr) (lo : Option Addr) (is : List (Addr × Option Addr)) (ps : List Piece) (p : Piece), vs = [.ref m, .ref t] ∧ FoundAt H0 H m is ps ∧ PieceAt H (t, lo) p ∧
  (∀ l, lo = some l → H0 l = none ∧ l ≠ m ∧ l ∉ is.filterMap (·.2)) ∧ is.length ≤ 5000 ∧ ∀ (H' : Hp) (is' : List (Addr × Option Addr)), Keep m m H H' → FoundAt H0 H' m is' (addP ps p) → is'.length ≤ is.length + 1 → Q .non H'
def spPieces (K : PySem.W.Frag) : Sp := fun vs H Q _ => ∃ (l : Addr) (off : Int) (xs : List V) (cs : List Cmd), vs = [.ref l, .int off] ∧ SqL K H l xs ∧ CmdsOf K H xs cs ∧ AllOk cs ∧ cs.length ≤ 2000 ∧
  ∀ (H' : Hp) (m : Addr) (is : List (Addr × Option Addr)), Same H H' → FoundAt H H' m is (goP cs.reverse off 0 1 [] []) → Q (.ref m) H'
/-- the tuple of a form -/
def FormAt (H0 H : Hp) (p : Addr) (cs : List Cmd) : Prop := ∃ (r m : Addr) (is : List (Addr × Option Addr)), H p = some (.tup [.ref r, .ref m]) ∧ H r = some (.tup [.int (rchM cs).1, .int (rchM cs).2.1, .int (last cs)]) ∧ FoundAt H0 H m is (formM cs) ∧ H0 p = none ∧ H0 r = none
def spForm (K : PySem.W.Frag) : Sp := fun vs H Q _ => ∃ (l : Addr) (xs : List V) (cs : List Cmd), vs = [.ref l] ∧ SqL K H l xs ∧ CmdsOf K H xs cs ∧ AllOk cs ∧ cs.length ≤ 2000 ∧ ∀ (H' : Hp) (p : Addr), Same H H' → FormAt H H' p cs → Q (.ref p) H'
theorem keep_found {H0 H H' : Hp} {m x : Addr} {is : List (Addr × Option Addr)} {ps : List Piece} (kp : Keep x x H H') (h : FoundAt H0 H m is ps) (hm : m ≠ x) (hx : ∃ o, H x = some o ∧ (∀ xs, o ≠ .tup xs) ∧ ∀ xs, o ≠ .lst xs) : FoundAt H0 H' m is ps := by
  obtain ⟨o, ho, o1, o2⟩ := hx
  have nt : ∀ {t : Addr} {xs : List V}, H t = some (.tup xs) → t ≠ x := fun {t xs} q z => by
    rw [z, ho] at q
    exact o1 xs (Option.some.inj q)
  have nl : ∀ {t : Addr} {xs : List V}, H t = some (.lst xs) → t ≠ x := fun {t xs} q z => by
    rw [z, ho] at q
    exact o2 xs (Option.some.inj q)
  refine ⟨kp _ _ hm hm h.lst, Paired.mapP h.its fun _ _ q => q.mono (fun t xs q => kp _ _ (nt q) (nt q) q) fun a xs _ q => kp _ _ (nl q) (nl q) q, h.nd, fun l hl => ?_, h.m0⟩
  obtain ⟨h1, h2, xs, h3⟩ := h.new l hl
  exact ⟨h1, h2, xs, kp _ _ (nl h3) (nl h3) h3⟩
theorem form_rch (cs : List Cmd) : (rchM cs).2.2 = last cs := by
  unfold rchM
  rw [rch_last]
  show (0 : Int) + last cs = last cs
  omega
section
variable {P : Program} {w : World} {K : PySem.W.Frag} {mg : Str → Option Value} {base : Heap} {wo wn : Addr}
theorem sc_add_piece : FnScope ["found", "piece"] ["found", "piece"] (defScope s_add_piece) := ⟨rfl, rfl, rfl, by decide +kernel, rfl, by decide +kernel, by decide +kernel⟩
theorem ok_add_piece {f : Addr} {fd : FuncData} (F : Fun K "add_piece" "add_piece" s_add_piece f fd) : FnOk P w K mg base CX0 1 f fd ["found", "piece"] (spAddP K) := by
  refine F.ok sc_add_piece (fun vs H Q E h => ?_) (fun cdv A outer s H vs Q E hr h => ?_)
  · obtain ⟨H0, m, t, lo, is, ps, p, rfl, _⟩ := h
    rfl
  · obtain ⟨H0, m, t, lo, is, ps, p, rfl, hF, hP, hN, hl, k⟩ := h
    refine ⟨_, (pss_one (ps_if (PW.pt (pw_or (pt_not (pt_truth (pv 0) (fun _ => rfl))) (pw_or1 (pt_cmpR (op_neD hr.units) (pe_slice sl_tup (pe_ix ix_list (pv 0) (pe_un un_neg pe_int) (fun _ _ => rfl)) (po_some pe_int) po_none) (pe_slice sl_tup (pv 1) (po_some pe_int) po_none) (nomark _))))) (pss_one (ps_expr (pe_bm PySem.F.plainAttrs_list PySem.F.slot_list_append PySem.F.type_list_append mt_append (pv 0) (pa_cons (pv 1) pa_nil)))) pss_nil)), ?_⟩
    have done : ∀ H1 : Hp, Same H H1 → Q .non (upd H1 m (.lst ((is.map fun i => V.ref i.1) ++ [.ref t]))) ∨ addP ps p ≠ ps ++ [p] := fun H1 e => by
      by_cases z : addP ps p = ps ++ [p]
      · left
        have F1 := hF.same e
        have P1 := hP.same e
        refine k _ (is ++ [(t, lo)]) (fun b o n1 n2 hb => by rw [upd_ne n1]; exact e _ _ hb) ?_ (by rw [List.length_append]; exact Nat.le_refl _)
        rw [z]
        have tm : ∀ {b : Addr} {xs : List V}, H1 b = some (.tup xs) → b ≠ m := fun {b xs} q => ne_of q F1.lst (by intro y; cases y)
        have mono : ∀ {i : Addr × Option Addr} {q : Piece}, (∀ l, i.2 = some l → l ≠ m) → PieceAt H1 i q → PieceAt (upd H1 m (.lst ((is.map fun i => V.ref i.1) ++ [.ref t]))) i q := fun {i q} hi h => h.mono (fun b xs y => by rw [upd_ne (tm y)]; exact y) fun a xs ea y => by rw [upd_ne (hi a ea)]; exact y
        have fm : (is ++ [(t, lo)]).filterMap (·.2) = is.filterMap (·.2) ++ lo.toList := by
          rw [List.filterMap_append]
          cases lo <;> rfl
        refine ⟨?_, pairS ?_ (mono (fun l q => (hN l q).2.1) P1), ?_, fun l hl => ?_, F1.m0⟩
        · rw [upd_same, List.map_append]
          rfl
        · have all : ∀ {is' : List (Addr × Option Addr)} {ps' : List Piece}, (∀ i ∈ is', ∀ l, i.2 = some l → l ≠ m) → Paired (PieceAt H1) is' ps' → Paired (PieceAt (upd H1 m (.lst ((is.map fun i => V.ref i.1) ++ [.ref t])))) is' ps' := by
            intro is' ps' hi h
            induction h with
            | nil => exact .nil
            | cons a b ih => exact .cons (mono (hi _ List.mem_cons_self) a) (ih fun i h => hi i (List.mem_cons_of_mem _ h))
          exact all (fun i hi l el => (F1.new l (List.mem_filterMap.mpr ⟨i, hi, el⟩)).2.1) F1.its
        · rw [fm]
          cases lo with
          | none => simpa using F1.nd
          | some l =>
            rw [List.nodup_append]
            refine ⟨F1.nd, by simp, fun a ha b hb => ?_⟩
            have eb : b = l := by simpa using hb
            rw [eb]
            intro q
            rw [q] at ha
            exact (hN l rfl).2.2 ha
        · rw [fm] at hl
          rcases List.mem_append.mp hl with h | h
          · obtain ⟨h1, h2, xs, h3⟩ := F1.new l h
            exact ⟨h1, h2, xs, by rw [upd_ne h2]; exact h3⟩
          · cases lo with
            | none => simp at h
            | some l' =>
              have el : l = l' := by simpa using h
              subst el
              obtain ⟨h1, h2, h3⟩ := hN l rfl
              have q := P1.2
              cases e2 : p.2.2 with
              | none =>
                rw [e2] at q
                exact q.elim
              | some L =>
                rw [e2] at q
                obtain ⟨ts, q1, _⟩ := q
                exact ⟨h1, h2, _, by rw [upd_ne h2]; exact q1⟩
      · exact .inr z
    have full : (is.map fun i => V.ref i.1).length < sizeLine := by
      rw [List.length_map]
      exact lt_line (by omega)
    rcases paired_last hF.its with ⟨rfl, rfl⟩ | ⟨i, q, is', ps', rfl, rfl, hq⟩
    · refine ⟨_, rfl, _, tru_seq (SqL.of hF.lst), iteT ?_⟩
      refine ⟨_, rfl, .inl ⟨rfl, _, SqL.of hF.lst⟩, _, rfl, m, _, _, rfl, rfl, hF.lst, full, ?_⟩
      rcases done H (Same.refl H) with h | h
      · exact h
      · exact absurd rfl h
    · have tr : (!((is' ++ [i]).map fun i => V.ref i.1).isEmpty) = true := by simp
      refine ⟨_, rfl, _, tru_seq (SqL.of hF.lst), ?_⟩
      rw [tr]
      refine iteF ?_
      have lst1 : atI ((is' ++ [i]).map fun i => V.ref i.1) (-1) = some (.ref i.1) := by
        rw [List.map_append]
        exact atI_last _ _
      refine ⟨_, rfl, _, rfl, m, _, -1, _, rfl, rfl, SqL.of hF.lst, lst1, _, rfl, i.1, _, rfl, SqT.of hq.1, (by show ¬ (1 = 0 ∧ 3 = 3); decide), fun a ha => ?_⟩
      have e1 : Same H (upd H a (.tup (cutV [.int q.1, optW q.2.1, refO i.2] (some 1) none))) := new_same ha
      have h1 : upd H a (.tup (cutV [.int q.1, optW q.2.1, refO i.2] (some 1) none)) a = some (.tup [optW q.2.1, refO i.2]) := by
        rw [upd_same]
        rfl
      generalize upd H a (.tup (cutV [.int q.1, optW q.2.1, refO i.2] (some 1) none)) = H1 at e1 h1 ⊢
      refine ⟨_, rfl, _, rfl, t, _, rfl, SqT.of (hP.same e1).1, (by show ¬ (1 = 0 ∧ 3 = 3); decide), fun b hb => ?_⟩
      have e2 : Same H1 (upd H1 b (.tup (cutV [.int p.1, optW p.2.1, refO lo] (some 1) none))) := new_same hb
      have h2 : upd H1 b (.tup (cutV [.int p.1, optW p.2.1, refO lo] (some 1) none)) b = some (.tup [optW p.2.1, refO lo]) := by
        rw [upd_same]
        rfl
      generalize upd H1 b (.tup (cutV [.int p.1, optW p.2.1, refO lo] (some 1) none)) = H2 at e2 h2 ⊢
      have e3 := e1.trans e2
      refine ⟨pdataD q.2, pdataD p.2, .tup (SqT.of (e2 _ _ h1)) (.cons (dp_opt _) (.cons (hq.same e3).2.dp .nil)), .tup (SqT.of h2) (.cons (dp_opt _) (.cons (hP.same e3).2.dp .nil)), shaped_pdata _, shaped_pdata _, _, rfl, ?_⟩
      rw [eqv_pdata]
      have gl : (ps' ++ [q]).getLast? = some q := by simp
      by_cases z : q.2 = p.2
      · have ad : addP (ps' ++ [q]) p = ps' ++ [q] := by
          unfold addP
          rw [gl, if_pos (by simp [z])]
        rw [decide_eq_true z]
        refine iteF ?_
        refine k H2 _ (Keep.of e3) ?_ (Nat.le_succ _)
        rw [ad]
        exact hF.same e3
      · rw [decide_eq_false z]
        refine iteT ?_
        refine ⟨_, rfl, .inl ⟨rfl, _, SqL.of (e3 _ _ hF.lst)⟩, _, rfl, m, _, _, rfl, rfl, e3 _ _ hF.lst, full, ?_⟩
        have ad : addP (ps' ++ [q]) p = ps' ++ [q] ++ [p] := by
          unfold addP
          rw [gl, if_neg (by simp [z])]
        rcases done H2 e3 with h | h
        · exact h
        · exact absurd ad h
theorem sc_pieces : FnScope ["commands", "offset", "found", "lines", "first", "added", "command"] ["commands", "offset"] (defScope s_pieces) := ⟨rfl, rfl, rfl, by decide +kernel, rfl, by decide +kernel, by decide +kernel⟩
theorem ok_pieces {f : Addr} {fd : FuncData} (F : Fun K "pieces" "pieces" s_pieces f fd) (T : TxtB K mg wo wn) (c_row_change : Cal P w K mg base 1 "row_change" (spRow K)) (c_require : Cal P w K mg base 1 "require" spReq) (c_add_piece : Cal P w K mg base 1 "add_piece" (spAddP K)) :
    FnOk P w K mg base CX0 2 f fd ["commands", "offset"] (spPieces K) := by
  refine F.ok sc_pieces (fun vs H Q E h => ?_) (fun cdv A outer s H vs Q E hr h => ?_)
  · obtain ⟨l, off, xs, cs, rfl, _⟩ := h
    rfl
  · obtain ⟨l, off, xs, cs, rfl, hl, hcs, hk, hn, k⟩ := h
    refine ⟨_, (pss_cons (ps_set (i := 2) sc_pieces.nd rfl (Or.inl rfl) (pe_lst pa_nil))
      (pss_cons (ps_set (i := 3) sc_pieces.nd rfl (Or.inl rfl) pe_dnewK)
      (pss_cons (ps_set (i := 4) sc_pieces.nd rfl (Or.inl rfl) pe_int)
      (pss_cons (ps_set (i := 5) sc_pieces.nd rfl (Or.inl rfl) pe_int)
      (pss_cons (ps_for PassesOwn.never rfl (pi_reversed (by rfl) T.reversed (pa_cons (pv 0) pa_nil)) (pg_name (i := 6) sc_pieces.nd rfl (Or.inl rfl)) (pss_one (ps_match (pe_ix ix_tup (pv 6) pe_int (fun _ _ => rfl)) (mc_str (pss_cons (ps_expr (pe_cal c_add_piece hr (by decide) (by rfl) (pa_cons (pv 2) (pa_cons (pe_tup (pa_cons (pv 4) (pa_cons pe_non (pa_cons pe_non pa_nil)))) pa_nil))))
      (pss_one (ps_ret (pv 2)))) (mc_str (pss_cons (ps_expr (pe_cal c_add_piece hr (by decide) (by rfl) (pa_cons (pv 2) (pa_cons (pe_tup (pa_cons (pv 4) (pa_cons pe_non (pa_cons (pe_sortItems rfl hr.units (pv 3) (by rfl) T.sorted (by decide +kernel)) pa_nil)))) pa_nil))))
      (pss_one (ps_ret (pv 2)))) (mc_str (pss_cons (ps_expr (pe_cal c_require hr (by decide) (by rfl) (pa_cons (pv 3) (pa_cons (pv 1) (pa_cons (pv 5) pa_nil)))))
      (pss_cons (ps_aug (i := 5) sc_pieces.nd rfl (Or.inl rfl) (pe_ix ix_tup (pv 6) pe_int (fun _ _ => rfl)) ip_sub)
      (pss_one (ps_if (pt_cmpR op_le (pv 4) (pe_un un_neg (pv 5)) (nomark _)) (pss_cons (ps_expr (pe_cal c_add_piece hr (by decide) (by rfl) (pa_cons (pv 2) (pa_cons (pe_tup (pa_cons (pv 4) (pa_cons pe_non (pa_cons (pe_sortItems rfl hr.units (pv 3) (by rfl) T.sorted (by decide +kernel)) pa_nil)))) pa_nil))))
      (pss_one (ps_set (i := 4) sc_pieces.nd rfl (Or.inl rfl) (pe_op op_sub pe_int (pv 5))))) pss_nil)))) (mc_str (pss_cons (ps_aug (i := 5) sc_pieces.nd rfl (Or.inl rfl) (pe_ix ix_tup (pv 6) pe_int (fun _ _ => rfl)) ip_add)
      (pss_one (ps_expr (pe_cal c_require hr (by decide) (by rfl) (pa_cons (pv 3) (pa_cons (pv 1) (pa_cons (pv 5) pa_nil))))))) (mc_any (pss_one (ps_aug (i := 1) sc_pieces.nd rfl (Or.inl rfl) (pe_cal c_row_change hr (by decide) (by rfl) (pa_cons (pv 6) pa_nil)) ip_sub))))))))))
      (pss_cons (ps_expr (pe_cal c_add_piece hr (by decide) (by rfl) (pa_cons (pv 2) (pa_cons (pe_tup (pa_cons (pv 4) (pa_cons (pv 5) (pa_cons (pe_sortItems rfl hr.units (pv 3) (by rfl) T.sorted (by decide +kernel)) pa_nil)))) pa_nil))))
      (pss_one (ps_ret (pv 2))))))))), ?_⟩
    -- found = []; lines = {}; first = 1; added = 0
    refine ⟨Nat.zero_le _, fun m hm => fun d hd => ?_⟩
    have md : m ≠ d := fun z => by
      rw [z, upd_same] at hd
      cases hd
    have e2 : Same H (upd (upd H m (.lst [])) d (.dK [])) := (new_same hm).trans (new_same hd)
    have m2 : upd (upd H m (.lst [])) d (.dK []) m = some (.lst []) := by rw [upd_ne md, upd_same]
    have d2 : upd (upd H m (.lst [])) d (.dK []) d = some (.dK (dkI [])) := upd_same
    have d0 : H d = none := by
      rw [upd_ne md.symm] at hd
      exact hd
    generalize upd (upd H m (.lst [])) d (.dK []) = H2 at e2 m2 d2 ⊢
    refine ⟨_, rfl, l, xs, rfl, e2.seq hl, RT.for_Itv (K := K) (a := l) (xs := xs) (fun i σ H' => ∃ (off' first added : Int) (b : Ps) (is : List (Addr × Option Addr)) (ps : List Piece) (v6 : Option V), σ = [some (.ref l), some (.int off'), some (.ref m), some (.ref d), some (.int first), some (.int added), v6] ∧
        goP cs.reverse off 0 1 [] [] = goP (cs.reverse.drop i) off' added first b ps ∧ Same H H' ∧ FoundAt H H' m is ps ∧ H' d = some (.dK (dkI b)) ∧ b.length ≤ i ∧ is.length ≤ i ∧ i ≤ cs.length)
      ⟨off, 1, 0, [], [], [], none, rfl, rfl, e2, ⟨m2, .nil, List.nodup_nil, (fun _ h => nomatch h), hm⟩, d2, Nat.le_refl _, Nat.le_refl _, Nat.zero_le _⟩ (fun i σ H' ⟨_, _, _, _, _, _, _, _, _, e, _⟩ => e.seq hl) (fun i x σ H3 hi hx h => ?_) (fun σ H3 h => ?_)⟩
    · obtain ⟨off', first, added, b, is, ps, v6, rfl, hgo, e3, F3, hd3, hb, hil, hic⟩ := h
      obtain ⟨c, hc, hca⟩ := paired_at hcs hx
      have hcl := hcs.len
      have hrev : cs.reverse[i]? = some c := by
        rw [List.getElem?_reverse (by omega), ← hcl]
        exact hc
      have hdrop : cs.reverse.drop i = c :: cs.reverse.drop (i + 1) := by
        obtain ⟨h1, h2⟩ := List.getElem?_eq_some_iff.mp hrev
        rw [List.drop_eq_getElem_cons h1, h2]
      rw [hdrop] at hgo
      obtain ⟨a, rfl, hca0⟩ := hca.same e3
      have hi' : i < cs.length := by omega
      have goR : ∀ o v, (req b o v).length ≤ i + 1 := fun o v => Nat.le_trans (req_len b o v) (by omega)
      have sameD : ∀ z, Same H (upd H3 d z) := fun z b' o' q => by
        rw [upd_ne (ne_of_none q d0)]
        exact e3 _ _ q
      have keepD : ∀ z, Keep d d H3 (upd H3 d z) := fun z b' o' n1 _ q => by
        rw [upd_ne n1]
        exact q
      have foundD : ∀ z, FoundAt H (upd H3 d z) m is ps := fun z => keep_found (keepD z) F3 md ⟨_, hd3, (fun _ z => nomatch z), fun _ z => nomatch z⟩
      have tupD : ∀ z {ys : List V}, SqT K H3 a ys → SqT K (upd H3 d z) a ys := fun z {ys} q => by
        rcases q with (q | ⟨o, q⟩) | q
        · exact .inl (.inl (by rw [upd_ne (ne_of q hd3 (by intro y; cases y))]; exact q))
        · exact .inl (.inr ⟨o, by rw [upd_ne (ne_of q hd3 (by intro y; cases y))]; exact q⟩)
        · exact .inr q
      have sameM : ∀ {G G' : Hp}, Same H G → Keep m m G G' → Same H G' := fun {G G'} e kp b' o' q => kp _ _ (ne_of_none q hm) (ne_of_none q hm) (e _ _ q)
      cases c with
      | home =>
        refine ⟨_, rfl, a, _, 0, _, rfl, rfl, hca0, rfl, m_yes (by decide +kernel) ?_⟩
        refine ⟨_, rfl, _, rfl, (by show 3 ≤ sizeLine; decide), fun t nt => ?_⟩
        refine ⟨H, m, t, none, is, ps, (first, none, none), rfl, F3.same (new_same nt), ⟨upd_same, trivial⟩, (fun _ z => nomatch z), by omega, fun H5 is5 kp5 F5 _ => ?_⟩
        refine ⟨_, rfl, k H5 m is5 (sameM (e3.trans (new_same nt)) kp5) ?_⟩
        rw [hgo]
        exact F5
      | stop =>
        refine ⟨_, rfl, a, _, 0, _, rfl, rfl, hca0, rfl, m_no (by decide +kernel) (m_yes (by decide +kernel) ?_)⟩
        refine ⟨_, rfl, _, rfl, _, rfl, d, b, rfl, hd3, fun H4 lp ts e4 nl hlp hts => ⟨(by show 3 ≤ sizeLine; decide), fun t nt => ?_⟩⟩
        have F4 := F3.same e4
        have e5 : Same H4 (upd H4 t (.tup [.int first, .non, .ref lp])) := new_same nt
        refine ⟨H, m, t, some lp, is, ps, (first, none, some (sortP b)), rfl, F4.same e5, ⟨upd_same, ts, e5 _ _ hlp, Paired.mapP hts fun _ _ q => e5 _ _ q⟩, fun l' el => ?_, by omega, fun H5 is5 kp5 F5 _ => ?_⟩
        · obtain rfl := Option.some.inj el
          refine ⟨e3.free nl, (fun z => by rw [z, F3.lst] at nl; cases nl), fun hm' => ?_⟩
          obtain ⟨_, _, _, z⟩ := F3.new _ hm'
          rw [nl] at z
          cases z
        · refine ⟨_, rfl, k H5 m is5 (sameM ((e3.trans e4).trans e5) kp5) ?_⟩
          rw [hgo]
          exact F5
      | right n =>
        refine ⟨_, rfl, a, _, 0, _, rfl, rfl, hca0, rfl, m_no (by decide +kernel) (m_no (by decide +kernel) (m_yes (by decide +kernel) ?_))⟩
        refine ⟨_, rfl, _, rfl, _, rfl, d, b, off', added, rfl, hd3, by omega, ?_⟩
        have F6 := foundD (.dK (dkI (req b off' added)))
        have e6 := sameD (.dK (dkI (req b off' added)))
        have a6 := tupD (.dK (dkI (req b off' added))) hca0
        have d6 : upd H3 d (.dK (dkI (req b off' added))) d = some (.dK (dkI (req b off' added))) := upd_same
        generalize upd H3 d (.dK (dkI (req b off' added))) = H6 at F6 e6 a6 d6 ⊢
        refine ⟨_, rfl, _, rfl, a, _, 1, _, rfl, rfl, a6, rfl, _, _, rfl, rfl, ?_⟩
        refine ⟨_, rfl, _, rfl, _, rfl, _, _, rfl, rfl, _, rfl, ite2 (fun c => ?_) (fun c => ?_)⟩
        · have c' : first ≤ -(added - n) := of_decide_eq_true c
          refine ⟨_, rfl, _, rfl, _, rfl, d, req b off' added, rfl, d6, fun H4 lp ts e4 nl hlp hts => ⟨(by show 3 ≤ sizeLine; decide), fun t nt => ?_⟩⟩
          have F4 := F6.same e4
          have e5 : Same H4 (upd H4 t (.tup [.int first, .non, .ref lp])) := new_same nt
          refine ⟨H, m, t, some lp, is, ps, (first, none, some (sortP (req b off' added))), rfl, F4.same e5, ⟨upd_same, ts, e5 _ _ hlp, Paired.mapP hts fun _ _ q => e5 _ _ q⟩, fun l' el => ?_, by omega, fun H5 is5 kp5 F5 l5 => ?_⟩
          · obtain rfl := Option.some.inj el
            refine ⟨e6.free nl, (fun z => by rw [z, F6.lst] at nl; cases nl), fun hm' => ?_⟩
            obtain ⟨_, _, _, z⟩ := F6.new _ hm'
            rw [nl] at z
            cases z
          · refine ⟨_, rfl, _, _, rfl, rfl, ?_⟩
            refine ⟨off', 1 - (added - n), added - n, req b off' added, is5, _, _, rfl, ?_, sameM ((e6.trans e4).trans e5) kp5, F5, kp5 _ _ md.symm md.symm (e5 _ _ (e4 _ _ d6)), goR _ _, by omega, hi'⟩
            rw [hgo]
            simp only [goP]
            rw [if_pos c']
        · have c' : ¬ first ≤ -(added - n) := fun z => c (decide_eq_true z)
          refine ⟨off', first, added - n, req b off' added, is, ps, _, rfl, ?_, e6, F6, d6, goR _ _, by omega, hi'⟩
          rw [hgo]
          simp only [goP]
          rw [if_neg c']
      | left n =>
        refine ⟨_, rfl, a, _, 0, _, rfl, rfl, hca0, rfl, m_no (by decide +kernel) (m_no (by decide +kernel) (m_no (by decide +kernel) (m_yes (by decide +kernel) ?_)))⟩
        refine ⟨_, rfl, _, rfl, a, _, 1, _, rfl, rfl, hca0, rfl, _, _, rfl, rfl, ?_⟩
        refine ⟨_, rfl, _, rfl, _, rfl, d, b, off', added + n, rfl, hd3, by omega, ?_⟩
        exact ⟨off', first, added + n, req b off' (added + n), is, ps, _, rfl, hgo, sameD _, foundD _, upd_same, goR _ _, by omega, hi'⟩
      | down n =>
        refine ⟨_, rfl, a, _, 0, _, rfl, rfl, hca0, rfl, m_no (by decide +kernel) (m_no (by decide +kernel) (m_no (by decide +kernel) (m_no (by decide +kernel) ?_)))⟩
        refine ⟨_, rfl, _, rfl, .ref a, .down n, rfl, ⟨a, rfl, hca0⟩, _, _, rfl, rfl, ?_⟩
        exact ⟨off' - n, first, added, b, is, ps, _, rfl, hgo, e3, F3, hd3, by omega, by omega, hi'⟩
      | up n =>
        refine ⟨_, rfl, a, _, 0, _, rfl, rfl, hca0, rfl, m_no (by decide +kernel) (m_no (by decide +kernel) (m_no (by decide +kernel) (m_no (by decide +kernel) ?_)))⟩
        refine ⟨_, rfl, _, rfl, .ref a, .up n, rfl, ⟨a, rfl, hca0⟩, _, _, rfl, rfl, ?_⟩
        refine ⟨off' - -n, first, added, b, is, ps, _, rfl, ?_, e3, F3, hd3, by omega, by omega, hi'⟩
        rw [hgo]
        simp only [goP]
        rw [show off' - -n = off' + n by omega]
    · obtain ⟨off', first, added, b, is, ps, v6, rfl, hgo, e3, F3, hd3, hb, hil, hic⟩ := h
      have hgo2 : goP cs.reverse off 0 1 [] [] = addP ps (first, some added, some (sortP b)) := by
        rw [hgo, hcs.len, ← List.length_reverse, List.drop_length]
        rfl
      have sameM : ∀ {G G' : Hp}, Same H G → Keep m m G G' → Same H G' := fun {G G'} e kp b' o' q => kp _ _ (ne_of_none q hm) (ne_of_none q hm) (e _ _ q)
      refine ⟨_, rfl, _, rfl, _, rfl, _, rfl, d, b, rfl, hd3, fun H4 lp ts e4 nl hlp hts => ⟨(by show 3 ≤ sizeLine; decide), fun t nt => ?_⟩⟩
      have F4 := F3.same e4
      have e5 : Same H4 (upd H4 t (.tup [.int first, .int added, .ref lp])) := new_same nt
      refine ⟨H, m, t, some lp, is, ps, (first, some added, some (sortP b)), rfl, F4.same e5, ⟨upd_same, ts, e5 _ _ hlp, Paired.mapP hts fun _ _ q => e5 _ _ q⟩, fun l' el => ?_, by rw [hcs.len] at hil; omega, fun H5 is5 kp5 F5 _ => ?_⟩
      · obtain rfl := Option.some.inj el
        refine ⟨e3.free nl, (fun z => by rw [z, F3.lst] at nl; cases nl), fun hm' => ?_⟩
        obtain ⟨_, _, _, z⟩ := F3.new _ hm'
        rw [nl] at z
        cases z
      · refine ⟨_, rfl, k H5 m is5 (sameM ((e3.trans e4).trans e5) kp5) ?_⟩
        rw [hgo2]
        exact F5
theorem sc_form : FnScope ["commands", "spanned"] ["commands"] (defScope s_form) := ⟨rfl, rfl, rfl, by decide +kernel, rfl, by decide +kernel, by decide +kernel⟩
theorem ok_form {f : Addr} {fd : FuncData} (F : Fun K "form" "form" s_form f fd) (c_reach : Cal P w K mg base 4 "reach" (spReach K)) (c_pieces : Cal P w K mg base 2 "pieces" (spPieces K)) : FnOk P w K mg base CX0 5 f fd ["commands"] (spForm K) := by
  refine F.ok sc_form (fun vs H Q E h => ?_) (fun cdv A outer s H vs Q E hr h => ?_)
  · obtain ⟨l, xs, cs, rfl, _⟩ := h
    rfl
  · obtain ⟨l, xs, cs, rfl, hl, hcs, hk, hn, k⟩ := h
    refine ⟨_, (pss_cons (ps_set (i := 1) sc_form.nd rfl (Or.inl rfl) (pe_cal c_reach hr (by decide) (by rfl) (pa_cons (pv 0) pa_nil)))
      (pss_one (ps_ret (pe_tup (pa_cons (pv 1) (pa_cons (pe_cal c_pieces hr (by decide) (by rfl) (pa_cons (pv 0) (pa_cons (pe_ix ix_tup (pv 1) pe_int (fun _ _ => rfl)) pa_nil))) pa_nil)))))), ?_⟩
    refine ⟨_, rfl, l, xs, cs, rfl, hl, hcs, hk, by omega, fun H1 r e1 nr hr1 => ?_⟩
    refine ⟨_, rfl, _, rfl, _, rfl, r, _, 2, _, rfl, rfl, SqT.of hr1, rfl, ?_⟩
    refine ⟨l, last cs, xs, cs, rfl, e1.seq hl, hcs.same e1, hk, hn, fun H2 m is e2 F2 => ?_⟩
    refine ⟨(by show 2 ≤ sizeLine; decide), fun p hp => ?_⟩
    have e3 : Same H2 (upd H2 p (.tup [.ref r, .ref m])) := new_same hp
    refine k _ p ((e1.trans e2).trans e3) ⟨r, m, is, upd_same, e3 _ _ (e2 _ _ hr1), ?_, (e1.trans e2).free hp, nr⟩
    have F3 := F2.same e3
    exact ⟨F3.lst, F3.its, F3.nd, fun l' hl' => by
      obtain ⟨h1, h2⟩ := F3.new l' hl'
      exact ⟨e1.free h1, h2⟩, e1.free F3.m0⟩
end
end Gc

/-! same_effect -/
namespace Gc
open PySem L2
abbrev s_same_effect : Stmt := top 32
@[irreducible] def zForm (K : PySem.W.Frag) : Sp := spForm K
theorem zForm_eq (K : PySem.W.Frag) : zForm K = spForm K := by unfold zForm; rfl
theorem ask_form {K : PySem.W.Frag} {H : Hp} {Q : VK} {E : XK} {l : Addr} {xs : List V} {cs : List Cmd} (hl : SqL K H l xs) (hc : CmdsOf K H xs cs) (ok : AllOk cs) (len : cs.length ≤ 2000) (k : ∀ (H' : Hp) (p : Addr), Same H H' → FormAt H H' p cs → Q (.ref p) H') : zForm K [.ref l] H Q E := by
  rw [zForm_eq]
  exact ⟨l, xs, cs, rfl, hl, hc, ok, len, k⟩
def formOf (cs : List Cmd) : PyData := formD (rchM cs) (formM cs)
theorem FormAt.dp {K : PySem.W.Frag} {H0 H : Hp} {p : Addr} {cs : List Cmd} (h : FormAt H0 H p cs) : Dp K H (.ref p) (formOf cs) := by
  obtain ⟨r, m, is, h1, h2, F, _⟩ := h
  have e := form_rch cs
  refine .tup (SqT.of h1) (.cons (.tup (SqT.of h2) (.cons (.int _) (.cons (.int _) (.cons ?_ .nil)))) (.cons (.lst (SqL.of F.lst) (pieces_dp F.its)) .nil))
  rw [e]
  exact .int _
theorem FormAt.same {H0 H H' : Hp} {p : Addr} {cs : List Cmd} (e : Same H H') (h : FormAt H0 H p cs) : FormAt H0 H' p cs := by
  obtain ⟨r, m, is, h1, h2, F, h3⟩ := h
  exact ⟨r, m, is, e _ _ h1, e _ _ h2, F.same e, h3⟩
/-- the same reach, the same pieces -/
def SameForm (cs ds : List Cmd) : Prop := rchM cs = rchM ds ∧ formM cs = formM ds
instance (cs ds : List Cmd) : Decidable (SameForm cs ds) := inferInstanceAs (Decidable (_ ∧ _))
theorem eqv_forms (cs ds : List Cmd) : PyData.eqv (formOf cs) (formOf ds) = decide (SameForm cs ds) := eqv_form _ _ _ _
def spSameE (K : PySem.W.Frag) : Sp := fun vs H Q _ => ∃ (l1 l2 : Addr) (xs ys : List V) (cs ds : List Cmd), vs = [.ref l1, .ref l2] ∧ SqL K H l1 xs ∧ CmdsOf K H xs cs ∧ AllOk cs ∧ cs.length ≤ 2000 ∧ SqL K H l2 ys ∧ CmdsOf K H ys ds ∧ AllOk ds ∧ ds.length ≤ 2000 ∧
  ∀ H', Same H H' → Q (.bl (decide (SameForm cs ds))) H'
section
variable {P : Program} {w : World} {K : PySem.W.Frag} {mg : Str → Option Value} {base : Heap}
theorem sc_same_effect : FnScope ["first", "second"] ["first", "second"] (defScope s_same_effect) := ⟨rfl, rfl, rfl, by decide +kernel, rfl, by decide +kernel, by decide +kernel⟩
theorem ok_same_effect {f : Addr} {fd : FuncData} (F : Fun K "same_effect" "same_effect" s_same_effect f fd) (c_form : Cal P w K mg base 5 "form" (zForm K)) : FnOk P w K mg base CX0 6 f fd ["first", "second"] (spSameE K) := by
  refine F.ok sc_same_effect (fun vs H Q E h => ?_) (fun cdv A outer s H vs Q E hr h => ?_)
  · obtain ⟨l1, l2, xs, ys, cs, ds, rfl, _⟩ := h
    rfl
  · obtain ⟨l1, l2, xs, ys, cs, ds, rfl, h1, c1, o1, n1, h2, c2, o2, n2, k⟩ := h
    refine ⟨_, (pss_one (ps_ret (pe_cmpR (op_eqD hr.units) (pe_cal c_form hr (by decide) (by rfl) (pa_cons (pv 0) pa_nil)) (pe_cal c_form hr (by decide) (by rfl) (pa_cons (pv 1) pa_nil)) (nomark _)))), ?_⟩
    refine ⟨_, rfl, ask_form h1 c1 o1 n1 fun H1 p e1 F1 => ?_⟩
    refine ⟨_, rfl, ask_form (e1.seq h2) (c2.same e1) o2 n2 fun H2 q e2 F2 => ?_⟩
    refine ⟨formOf cs, formOf ds, (F1.same e2).dp, F2.dp, shaped_form _ _, shaped_form _ _, ?_⟩
    rw [eqv_forms]
    exact k H2 (e1.trans e2)
end
end Gc

namespace Gc
open PySem L2
abbrev s_rng : Stmt := top 46
abbrev s_draw : Stmt := top 47
abbrev s_list : Stmt := top 48
abbrev s_aim : Stmt := top 50
abbrev s_spread : Stmt := top 52
/-- the source of numbers; at most n draws were made -/
def Rng (H : Hp) (a : Addr) (n : Nat) : Prop := ∃ g s c : Int, H a = some (.lst [.int g, .int s, .int c]) ∧ 0 ≤ s ∧ s < 2 ^ 61 ∧ 0 ≤ c ∧ c ≤ n
theorem Rng.same {H H' : Hp} {a : Addr} {n : Nat} (e : Same H H') (h : Rng H a n) : Rng H' a n := by
  obtain ⟨g, s, c, h1, h2⟩ := h
  exact ⟨g, s, c, e _ _ h1, h2⟩
theorem Rng.more {H : Hp} {a : Addr} {n m : Nat} (h : Rng H a n) (l : n ≤ m) : Rng H a m := by
  obtain ⟨g, s, c, h1, h2, h3, h4, h5⟩ := h
  exact ⟨g, s, c, h1, h2, h3, h4, by omega⟩
def spRng (K : PySem.W.Frag) : Sp := fun vs H Q _ => ∃ (a : Addr) (ns : List Int), vs = [.ref a] ∧ SqL K H a (ns.map V.int) ∧ ns.length ≤ 63 ∧
  ∀ (H' : Hp) (p : Addr), Same H H' → H p = none → Rng H' p 0 → Q (.ref p) H'
def spDraw : Sp := fun vs H Q _ => ∃ (a : Addr) (n : Nat) (many : Int), vs = [.ref a, .int many] ∧ Rng H a n ∧ n < 2 ^ 40 ∧ 0 < many ∧ many.natAbs.log2 < 9000 ∧
  ∀ (H' : Hp) (r : Int), Keep a a H H' → Rng H' a (n + 1) → 0 ≤ r → r < many → Q (.int r) H'
structure TxtA (mg : Str → Option Value) : Prop where
  abs : mg "abs" = none
  range : mg "range" = none
  sum : mg "sum" = none
  len : mg "len" = none
  min : mg "min" = none
  max : mg "max" = none
  int : mg "int" = none
theorem cut_mem {xs : List V} {lo hi : Option Int} {i : Nat} {y : V} (h : (cutV xs lo hi)[i]? = some y) : ∃ j : Nat, xs[j]? = some y := by
  unfold cutV at h
  have m := List.mem_of_mem_drop (List.mem_of_mem_take (List.mem_of_getElem? h))
  exact List.mem_iff_getElem?.mp m
theorem dig_step {g c : Int} {i : Nat} (h0 : 0 ≤ g) (h1 : g < 2 ^ (200 * i)) (c0 : 0 ≤ c) (c1 : c < 10 ^ (60 : Int).toNat) : 0 ≤ g * 10 ^ (60 : Int).toNat + c ∧ g * 10 ^ (60 : Int).toNat + c < 2 ^ (200 * (i + 1)) := by
  have e : (2 : Int) ^ (200 * (i + 1)) = 2 ^ (200 * i) * 2 ^ 200 := by rw [← Int.pow_add, Nat.mul_succ]
  have t : (10 : Int) ^ (60 : Int).toNat ≤ 2 ^ 200 := by decide
  have t0 : (0 : Int) ≤ 10 ^ (60 : Int).toNat := by decide
  have m0 : 0 ≤ g * 10 ^ (60 : Int).toNat := Int.mul_nonneg h0 t0
  have m1 : (g + 1) * 10 ^ (60 : Int).toNat ≤ 2 ^ (200 * i) * 2 ^ 200 := Int.mul_le_mul (by omega) t t0 (by omega)
  rw [Int.add_mul] at m1
  rw [e]
  omega
theorem two_le {a b : Nat} (h : a ≤ b) : (2 : Int) ^ a ≤ 2 ^ b := by
  have e := Nat.pow_le_pow_right (n := 2) (by decide) h
  have e2 : ((2 ^ a : Nat) : Int) ≤ ((2 ^ b : Nat) : Int) := Int.ofNat_le.mpr e
  simpa using e2
theorem natAbs_lt2 {g : Int} {k : Nat} (h0 : 0 ≤ g) (h1 : g < 2 ^ k) : g.natAbs < 2 ^ k := by
  have e : ((2 ^ k : Nat) : Int) = 2 ^ k := by simp
  omega
section
variable {P : Program} {w : World} {K : PySem.W.Frag} {mg : Str → Option Value} {base : Heap}
theorem sc_law_rng : FnScope ["script", "digits", "seed", "cell", "size"] ["script"] (defScope s_rng) := ⟨rfl, rfl, rfl, by decide +kernel, rfl, by decide +kernel, by decide +kernel⟩
theorem ok_rng {f : Addr} {fd : FuncData} (F : Fun K "_law_rng" "_law_rng" s_rng f fd) (T : TxtA mg) : FnOk P w K mg base CX0 1 f fd ["script"] (spRng K) := by
  refine F.ok sc_law_rng (fun vs H Q E h => ?_) (fun cdv A outer s H vs Q E hr h => ?_)
  · obtain ⟨a, ns, rfl, _⟩ := h
    rfl
  · obtain ⟨a, ns, rfl, hS, hlen, k⟩ := h
    refine ⟨_, (pss_cons (ps_asg (pe_tup (pa_cons pe_int (pa_cons pe_int pa_nil))) (pg_tup rfl (pgs_cons (pg_name (i := 1) sc_law_rng.nd rfl (Or.inl rfl)) (pgs_cons (pg_name (i := 2) sc_law_rng.nd rfl (Or.inl rfl)) pgs_nil))))
      (pss_cons (ps_for PassesOwn.never rfl (pi_list (pe_slice sl_list (pv 0) po_none (po_some pe_int))) (pg_name (i := 3) sc_law_rng.nd rfl (Or.inl rfl)) (pss_cons (ps_set (i := 4) sc_law_rng.nd rfl (Or.inl rfl) (pe_callB call_abs (by rfl) T.abs (by decide +kernel) (pa_cons (pv 3) pa_nil)))
      (pss_cons (ps_if (pt_cmpR op_ge (pv 4) (pe_op op_pow pe_int pe_int) (nomark _)) (pss_one (ps_set (i := 1) sc_law_rng.nd rfl (Or.inl rfl) (pe_op op_add (pe_op op_mulW (pv 1) (pe_op op_pow pe_int pe_int)) (pe_op op_mod (pv 4) (pe_op op_pow pe_int pe_int))))) pss_nil)
      (pss_one (ps_set (i := 2) sc_law_rng.nd rfl (Or.inl rfl) (pe_op op_mod (pe_op op_add (pe_op op_add (pe_op op_mulW (pv 2) pe_int) (pe_op op_mod (pv 3) pe_int)) pe_int) pe_int))))))
      (pss_one (ps_ret (pe_lst (pa_cons (pv 1) (pa_cons (pv 2) (pa_cons pe_int pa_nil)))))))), ?_⟩
    refine ⟨(by show 2 ≤ sizeLine; decide), fun p0 hp0 => ?_⟩
    refine ⟨p0, _, rfl, SqT.of upd_same, rfl, _, _, rfl, _, _, rfl, rfl, ?_⟩
    generalize gH1 : upd H p0 (.tup [.int 0, .int 88675123]) = H1
    have e1 : Same H H1 := by rw [← gH1]; exact same_upd (Same.refl H) hp0
    refine ⟨_, rfl, _, rfl, a, _, rfl, e1.seq hS, fun b hb => ?_⟩
    generalize gxs : cutV (ns.map V.int) none (some 63) = xs
    have hxs : xs.length ≤ 63 := by
      rw [← gxs]
      exact Nat.le_trans (cutV_length _ _ _) (by rw [List.length_map]; exact hlen)
    have nums : ∀ {i : Nat} {y : V}, xs[i]? = some y → ∃ u, y = V.int u := fun h => by
      rw [← gxs] at h
      obtain ⟨j, hj⟩ := cut_mem h
      exact int_at hj
    generalize gH2 : upd H1 b (.lst xs) = H2
    have hb2 : H2 b = some (.lst xs) := by rw [← gH2]; exact upd_same
    have e2 : Same H H2 := by rw [← gH2]; exact same_upd e1 hb
    refine ⟨b, rfl, ⟨_, SqL.of hb2⟩, for_list (K := K) (a := b) (xs := xs) (fun i σ H' => ∃ (g sd : Int) (v1 v2 : Option V), σ = [some (.ref a), some (.int g), some (.int sd), v1, v2] ∧ Same H2 H' ∧ 0 ≤ g ∧ g < 2 ^ (200 * i) ∧ 0 ≤ sd ∧ sd < 2 ^ 61)
      ⟨0, 88675123, none, none, rfl, Same.refl H2, by decide, by decide, by decide, by decide⟩ (fun i σ H' _ ⟨_, _, _, _, _, e, _⟩ => SqL.of (e _ _ hb2)) ?_ ?_⟩
    · rintro i y σ H' hi ⟨g, sd, v1, v2, rfl, e, g0, g1, s0, s1⟩
      obtain ⟨u, rfl⟩ := nums hi
      have hi' : i < xs.length := (List.getElem?_eq_some_iff.mp hi).1
      refine ⟨_, rfl, _, rfl, ?_⟩
      generalize (if u < 0 then -u else u) = z
      refine ⟨_, rfl, _, _, rfl, rfl, cpow (by decide), _, _, rfl, rfl, _, rfl, ?_⟩
      have n1 := Int.emod_nonneg (sd * 1000003 + u % 2305843009213693921 + 7) (show (2305843009213693951 : Int) ≠ 0 by decide)
      have n2 := Int.emod_lt_of_pos (sd * 1000003 + u % 2305843009213693921 + 7) (show (0 : Int) < 2305843009213693951 by decide)
      have n3 : (2305843009213693951 : Int) < 2 ^ 61 := by decide
      refine ite2 (fun _ => ?_) (fun _ => ?_)
      · refine ⟨_, rfl, _, _, rfl, rfl, cpow (by decide), _, _, rfl, rfl, wide_mul (a := 200 * i + 1) (b := 201) ?_ ?_ (by omega) (by decide) (by omega), _, rfl, _, _, rfl, rfl, cpow (by decide), _, _, rfl, rfl, (show (0 : Int) < 10 ^ (60 : Int).toNat by decide), _, _, rfl, rfl, ?_⟩
        · exact Nat.lt_trans (natAbs_lt2 g0 g1) (Nat.pow_lt_pow_right (by decide) (Nat.lt_succ_self _))
        · decide
        · have d := dig_step g0 g1 (Int.emod_nonneg z (show (10 : Int) ^ (60 : Int).toNat ≠ 0 by decide)) (Int.emod_lt_of_pos z (show (0 : Int) < 10 ^ (60 : Int).toNat by decide))
          refine ⟨_, rfl, _, _, rfl, rfl, wide_mul (a := 61) (b := 61) (by omega) (by decide) (by decide) (by decide) (by decide), _, rfl, _, _, rfl, rfl, (show (0 : Int) < 2305843009213693921 by decide), _, _, rfl, rfl, _, _, rfl, rfl, _, _, rfl, rfl, (show (0 : Int) < 2305843009213693951 by decide), ?_⟩
          exact ⟨_, _, _, _, rfl, e, d.1, d.2, n1, by omega⟩
      · refine ⟨_, rfl, _, _, rfl, rfl, wide_mul (a := 61) (b := 61) (by omega) (by decide) (by decide) (by decide) (by decide), _, rfl, _, _, rfl, rfl, (show (0 : Int) < 2305843009213693921 by decide), _, _, rfl, rfl, _, _, rfl, rfl, _, _, rfl, rfl, (show (0 : Int) < 2305843009213693951 by decide), ?_⟩
        exact ⟨_, _, _, _, rfl, e, g0, Int.lt_of_lt_of_le g1 (two_le (by omega)), n1, by omega⟩
    · rintro σ H' ⟨g, sd, v1, v2, rfl, e, g0, g1, s0, s1⟩
      refine ⟨_, rfl, _, rfl, (by show 3 ≤ sizeLine; decide), fun p hp => ?_⟩
      exact k _ p (same_upd (e2.trans e) hp) ((e2.trans e).free hp) ⟨g, sd, 0, upd_same, s0, s1, by decide, by decide⟩
theorem sc_law_draw : FnScope ["rng", "limit", "found", "mixed"] ["rng", "limit"] (defScope s_draw) := ⟨rfl, rfl, rfl, by decide +kernel, rfl, by decide +kernel, by decide +kernel⟩
theorem ok_draw {f : Addr} {fd : FuncData} (F : Fun K "_law_draw" "_law_draw" s_draw f fd) : FnOk P w K mg base CX0 1 f fd ["rng", "limit"] spDraw := by
  refine F.ok sc_law_draw (fun vs H Q E h => ?_) (fun cdv A outer s H vs Q E hr h => ?_)
  · obtain ⟨a, n, many, rfl, _⟩ := h
    rfl
  · obtain ⟨a, n, many, rfl, hs, hn, m0, mb, k⟩ := h
    obtain ⟨g, sd, c, hA, s0, s1, c0, c1⟩ := hs
    refine ⟨_, (pss_cons (ps_if (pt_cmpR op_gt (pe_ix ix_list (pv 0) pe_int (fun _ _ => rfl)) pe_int (nomark _)) (pss_cons (ps_set (i := 2) sc_law_draw.nd rfl (Or.inl rfl) (pe_op op_mod (pe_ix ix_list (pv 0) pe_int (fun _ _ => rfl)) (pv 1)))
      (pss_cons (ps_asg (pe_op op_fdivW (pe_ix ix_list (pv 0) pe_int (fun _ _ => rfl)) (pv 1)) (pg_sub (pv 0) pe_int set_list))
      (pss_one (ps_ret (pv 2))))) pss_nil)
      (pss_cons (ps_asg (pe_op op_add (pe_ix ix_list (pv 0) pe_int (fun _ _ => rfl)) pe_int) (pg_sub (pv 0) pe_int set_list))
      (pss_cons (ps_set (i := 3) sc_law_draw.nd rfl (Or.inl rfl) (pe_op op_mod (pe_op op_powW (pe_op op_add (pe_ix ix_list (pv 0) pe_int (fun _ _ => rfl)) (pe_op op_mulW pe_int (pe_ix ix_list (pv 0) pe_int (fun _ _ => rfl)))) pe_int) pe_int))
      (pss_cons (ps_set (i := 3) sc_law_draw.nd rfl (Or.inl rfl) (pe_op op_mod (pe_op op_powW (pe_op op_add (pv 3) (pe_op op_mulW pe_int (pe_ix ix_list (pv 0) pe_int (fun _ _ => rfl)))) pe_int) pe_int))
      (pss_one (ps_ret (pe_op op_mod (pe_op op_fdivW (pv 3) pe_int) (pv 1)))))))), ?_⟩
    refine ⟨_, rfl, a, _, 0, _, rfl, rfl, SqL.of hA, rfl, _, _, rfl, rfl, _, rfl, ?_⟩
    refine ite2 (fun z => ?_) (fun z => ?_)
    · refine ⟨_, rfl, a, _, 0, _, rfl, rfl, SqL.of hA, rfl, _, rfl, _, _, rfl, rfl, m0, ?_⟩
      refine ⟨_, rfl, a, _, 0, _, rfl, rfl, SqL.of hA, rfl, _, rfl, _, _, rfl, rfl, ⟨m0, mb⟩, ?_⟩
      refine ⟨_, rfl, a, _, 0, 0, rfl, rfl, hA, rfl, ?_⟩
      exact ⟨_, rfl, k _ _ (Keep.refl H).upd1 ⟨_, sd, c, upd_same, s0, s1, c0, by omega⟩ (Int.emod_nonneg _ (by omega)) (Int.emod_lt_of_pos _ m0)⟩
    · refine ⟨_, rfl, a, _, 2, _, rfl, rfl, SqL.of hA, rfl, _, _, rfl, rfl, ?_⟩
      refine ⟨_, rfl, a, _, 2, 2, rfl, rfl, hA, rfl, ?_⟩
      have c2 : c + 1 < 2 ^ 41 := by omega
      generalize hH1 : upd H a (.lst ([V.int g, .int sd, .int c].set 2 (.int (c + 1)))) = H1
      have hA1 : H1 a = some (.lst [.int g, .int sd, .int (c + 1)]) := by rw [← hH1]; exact upd_same
      have kp : Keep a a H H1 := by rw [← hH1]; exact (Keep.refl H).upd1
      have mul1 : CMulW 998244353 (c + 1) := wide_mul (a := 61) (b := 61) (by decide) (by omega) (by decide) (by decide) (by decide)
      refine ⟨_, rfl, a, _, 1, _, rfl, rfl, SqL.of hA1, rfl, _, rfl, a, _, 2, _, rfl, rfl, SqL.of hA1, rfl, _, _, rfl, rfl, mul1, _, _, rfl, rfl, _, _, rfl, rfl, cpowW (a := 80) (by decide) (by decide) (by omega) (by decide), _, _, rfl, rfl, (show (0 : Int) < 162259276829213363391578010288127 by decide), ?_⟩
      have n1 := Int.emod_nonneg ((sd + 998244353 * (c + 1)) ^ (3 : Int).toNat) (show (162259276829213363391578010288127 : Int) ≠ 0 by decide)
      have n2 := Int.emod_lt_of_pos ((sd + 998244353 * (c + 1)) ^ (3 : Int).toNat) (show (0 : Int) < 162259276829213363391578010288127 by decide)
      generalize (sd + 998244353 * (c + 1)) ^ (3 : Int).toNat % 162259276829213363391578010288127 = mx1 at n1 n2 ⊢
      have mul2 : CMulW 32452843 (c + 1) := wide_mul (a := 61) (b := 61) (by decide) (by omega) (by decide) (by decide) (by decide)
      refine ⟨_, rfl, _, rfl, a, _, 2, _, rfl, rfl, SqL.of hA1, rfl, _, _, rfl, rfl, mul2, _, _, rfl, rfl, _, _, rfl, rfl, cpowW (a := 120) (by decide) (by decide) (by omega) (by decide), _, _, rfl, rfl, (show (0 : Int) < 170141183460469231731687303715884105727 by decide), ?_⟩
      generalize (mx1 + 32452843 * (c + 1)) ^ (3 : Int).toNat % 170141183460469231731687303715884105727 = mx2
      refine ⟨_, rfl, _, _, rfl, rfl, ⟨by decide, by decide⟩, _, rfl, _, _, rfl, rfl, m0, ?_⟩
      exact k _ _ kp ⟨g, sd, c + 1, hA1, s0, s1, by omega, by omega⟩ (Int.emod_nonneg _ (by omega)) (Int.emod_lt_of_pos _ m0)
end
end Gc

namespace Gc
open PySem L2
def Cmd.num : Cmd → Int
  | .down n => n
  | .up n => n
  | .right n => n
  | .left n => n
  | _ => 0
def AllSmall (cs : List Cmd) : Prop := ∀ c ∈ cs, c.num ≤ 10 ^ 30 ∧ c.dv.natAbs ≤ 2
theorem CmdAt.keep {K : PySem.W.Frag} {H H' : Hp} {v : V} {c : Cmd} {a : Addr} {ys : List V} (e : Keep a a H H') (ha : H a = some (.lst ys)) (h : CmdAt K H v c) : CmdAt K H' v c := by
  obtain ⟨b, e1, h1⟩ := h
  refine ⟨b, e1, ?_⟩
  rcases h1 with (z | ⟨o, z⟩) | z
  · have n := ne_of z ha (by intro q; cases q)
    exact .inl (.inl (e _ _ n n z))
  · have n := ne_of z ha (by intro q; cases q)
    exact .inl (.inr ⟨o, e _ _ n n z⟩)
  · exact .inr z
theorem CmdsOf.keep {K : PySem.W.Frag} {H H' : Hp} {xs : List V} {cs : List Cmd} {a : Addr} {ys : List V} (e : Keep a a H H') (ha : H a = some (.lst ys)) (h : CmdsOf K H xs cs) : CmdsOf K H' xs cs := Paired.mapP h fun _ _ q => q.keep e ha
theorem Paired.snoc {α β : Type} {F : α → β → Prop} : ∀ {xs : List α} {ys : List β} {x : α} {y : β}, Paired F xs ys → F x y → Paired F (xs ++ [x]) (ys ++ [y])
  | _, _, _, _, .nil, h => .cons h .nil
  | _, _, _, _, .cons f t, h => .cons f (Paired.snoc t h)
def spList (K : PySem.W.Frag) : Sp := fun vs H Q _ => ∃ (r : Addr) (n : Nat) (most size : Int), vs = [.ref r, .int most, .int size] ∧ Rng H r n ∧ n < 2 ^ 39 ∧ 0 ≤ most ∧ most ≤ 20 ∧ 1 ≤ size ∧ size ≤ 10 ^ 30 ∧
  ∀ (H' : Hp) (l : Addr) (xs : List V) (cs : List Cmd), Keep r r H H' → Rng H' r (n + 70) → H l = none → H' l = some (.lst xs) → CmdsOf K H' xs cs → AllOk cs → AllSmall cs → (cs.length : Int) ≤ most → Q (.ref l) H'
theorem Keep.free {a l : Addr} {H H' : Hp} {o : HO} (e : Keep a a H H') (h : H l = none) : Keep a a H (upd H' l o) := fun b u h1 h2 hb => by
  rw [upd_ne (ne_of_none hb h)]
  exact e b u h1 h2 hb
theorem Keep.seq {K : PySem.W.Frag} {H H' : Hp} {a l : Addr} {xs : List V} (e : Keep a a H H') (n : l ≠ a) (h : SqL K H l xs) : SqL K H' l xs := by
  rcases h with (h | ⟨o, h⟩) | h
  · exact .inl (.inl (e _ _ n n h))
  · exact .inl (.inr ⟨o, e _ _ n n h⟩)
  · exact .inr h
def LI (K : PySem.W.Frag) (H : Hp) (r l : Addr) (n i : Nat) (H' : Hp) (xs : List V) (cs : List Cmd) : Prop := Keep r r H H' ∧ Rng H' r (n + 1 + 3 * i) ∧ H' l = some (.lst xs) ∧ CmdsOf K H' xs cs ∧ AllOk cs ∧ AllSmall cs ∧ cs.length ≤ i
theorem li_step {K : PySem.W.Frag} {H H1 H6 : Hp} {r l t : Addr} {n i : Nat} {xs : List V} {cs : List Cmd} {c : Cmd} (lr : l ≠ r) (hl0 : H l = none) (h : LI K H r l n i H1 xs cs) (k : Keep r r H1 H6) (g : Rng H6 r (n + 1 + 3 * i + 3))
    (ht : H6 t = none) (ok : c.ok) (sm : c.num ≤ 10 ^ 30 ∧ c.dv.natAbs ≤ 2) : LI K H r l n (i + 1) (upd (upd H6 t (.tup (encC c))) l (.lst (xs ++ [.ref t]))) (xs ++ [.ref t]) (cs ++ [c]) := by
  obtain ⟨a1, ⟨_, _, _, a2, _⟩, a3, a4, a5, a6, a7⟩ := h
  obtain ⟨x, y, z, g1, g2⟩ := g
  have b3 := k _ _ lr lr a3
  have tl : t ≠ l := (ne_of_none b3 ht).symm
  have tr : t ≠ r := (ne_of_none g1 ht).symm
  have s1 : Same H6 (upd H6 t (.tup (encC c))) := same_upd (Same.refl H6) ht
  have b3' := s1 _ _ b3
  have kl : Keep l l (upd H6 t (.tup (encC c))) (upd (upd H6 t (.tup (encC c))) l (.lst (xs ++ [.ref t]))) := (Keep.refl _).upd1
  refine ⟨((a1.trans k).new ht).free hl0, ⟨x, y, z, ?_, ?_⟩, upd_same, Paired.snoc (((a4.keep k a2).same s1).keep kl b3') ⟨t, rfl, SqT.of ?_⟩, ?_, ?_, ?_⟩
  · rw [upd_ne lr.symm, upd_ne tr.symm]
    exact g1
  · obtain ⟨g3, g4, g5, g6⟩ := g2
    exact ⟨g3, g4, g5, by omega⟩
  · rw [upd_ne tl]
    exact upd_same
  · intro d hd
    rcases List.mem_append.mp hd with q | q
    · exact a5 d q
    · rw [List.mem_singleton.mp q]
      exact ok
  · intro d hd
    rcases List.mem_append.mp hd with q | q
    · exact a6 d q
    · rw [List.mem_singleton.mp q]
      exact sm
  · rw [List.length_append, List.length_singleton]
    omega
theorem small_len {n : Nat} (h : n ≤ 1000) : n < sizeLine := by rw [sizeLine_eq]; omega
section
variable {P : Program} {w : World} {K : PySem.W.Frag} {mg : Str → Option Value} {base : Heap}
theorem sc_law_list : FnScope ["rng", "most", "size", "found", "turn", "kind"] ["rng", "most", "size"] (defScope s_list) := ⟨rfl, rfl, rfl, by decide +kernel, rfl, by decide +kernel, by decide +kernel⟩
theorem ok_list {f : Addr} {fd : FuncData} (F : Fun K "_law_list" "_law_list" s_list f fd) (T : TxtA mg) (c_law_draw : Cal P w K mg base 1 "_law_draw" spDraw) : FnOk P w K mg base CX0 2 f fd ["rng", "most", "size"] (spList K) := by
  refine F.ok sc_law_list (fun vs H Q E h => ?_) (fun cdv A outer s H vs Q E hr h => ?_)
  · obtain ⟨r, n, most, size, rfl, _⟩ := h
    rfl
  · obtain ⟨r, n, most, size, rfl, hR, hn, m0, m1, z0, z1, k⟩ := h
    refine ⟨_, (pss_cons (ps_set (i := 3) sc_law_list.nd rfl (Or.inl rfl) (pe_lst pa_nil))
      (pss_cons (ps_for PassesOwn.never rfl (pi_range1 rfl T.range (pa_cons (pe_cal c_law_draw hr (by decide) (by rfl) (pa_cons (pv 0) (pa_cons (pe_op op_add (pv 1) pe_int) pa_nil))) pa_nil)) (pg_name (i := 4) sc_law_list.nd rfl (Or.inl rfl)) (pss_cons (ps_set (i := 5) sc_law_list.nd rfl (Or.inl rfl) (pe_cal c_law_draw hr (by decide) (by rfl) (pa_cons (pv 0) (pa_cons pe_int pa_nil))))
      (pss_one (ps_if (pt_cmpR op_lt (pv 5) pe_int (nomark _)) (pss_one (ps_expr (pe_bm PySem.F.plainAttrs_list PySem.F.slot_list_append PySem.F.type_list_append mt_append (pv 3) (pa_cons (pe_tup (pa_cons (pe_ix ix_list (pe_lst (pa_cons pe_str (pa_cons pe_str pa_nil))) (pv 5) (fun _ _ => rfl)) (pa_cons (pe_op op_add pe_int (pe_cal c_law_draw hr (by decide) (by rfl) (pa_cons (pv 0) (pa_cons pe_int pa_nil)))) pa_nil))) pa_nil)))) (pss_one (ps_if (pt_cmpR op_lt (pv 5) pe_int (nomark _)) (pss_one (ps_expr (pe_bm PySem.F.plainAttrs_list PySem.F.slot_list_append PySem.F.type_list_append mt_append (pv 3) (pa_cons (pe_tup (pa_cons (pe_ix ix_list (pe_lst (pa_cons pe_str (pa_cons pe_str pa_nil))) (pe_op op_mod (pv 5) pe_int) (fun _ _ => rfl)) (pa_cons (pe_op op_add pe_int (pe_cal c_law_draw hr (by decide) (by rfl) (pa_cons (pv 0) (pa_cons (pv 2) pa_nil)))) pa_nil))) pa_nil)))) (pss_one (ps_expr (pe_bm PySem.F.plainAttrs_list PySem.F.slot_list_append PySem.F.type_list_append mt_append (pv 3) (pa_cons (pe_tup (pa_cons (pe_ix ix_list (pe_lst (pa_cons pe_str (pa_cons pe_str pa_nil))) (pe_cal c_law_draw hr (by decide) (by rfl) (pa_cons (pv 0) (pa_cons pe_int pa_nil))) (fun _ _ => rfl)) pa_nil)) pa_nil))))))))))
      (pss_one (ps_ret (pv 3))))), ?_⟩
    -- found = []
    refine ⟨Nat.zero_le _, fun l hl => ?_⟩
    have hr0 : ∃ o, H r = some o := by
      obtain ⟨_, _, _, q, _⟩ := hR
      exact ⟨_, q⟩
    have lr : l ≠ r := by
      obtain ⟨o, q⟩ := hr0
      exact (ne_of_none q hl).symm
    have eA : Same H (upd H l (.lst [])) := same_upd (Same.refl H) hl
    refine ⟨_, rfl, _, rfl, _, _, rfl, rfl, r, n, _, rfl, hR.same eA, by omega, by omega, log9 (a := 10) (by omega) (by decide), fun H1 turns kp1 rg1 t0 t1 => ?_⟩
    have kH : Keep r r H H1 := (Keep.of eA).trans kp1
    have hl1 : H1 l = some (.lst []) := kp1 _ _ lr lr upd_same
    refine ⟨_, rfl, by omega, by omega, for_range (lo := 0) (fun i σ H' => ∃ (v4 v5 : Option V) (xs : List V) (cs : List Cmd), σ = [some (.ref r), some (.int most), some (.int size), some (.ref l), v4, v5] ∧ LI K H r l n i H' xs cs)
      ⟨none, none, [], [], rfl, kH, rg1, hl1, .nil, (fun _ h => nomatch h), (fun _ h => nomatch h), Nat.le_refl _⟩ (fun i σ H2 hi h => ?_) (fun σ H2 h => ?_)⟩
    · obtain ⟨v4, v5, xs, cs, rfl, h⟩ := h
      have hi' : i < 21 := by omega
      obtain ⟨a1, a2, a3, a4, a5, a6, a7⟩ := id h
      have xl : xs.length ≤ 1000 := by
        rw [a4.len]
        omega
      refine ⟨_, rfl, r, _, 9, rfl, a2, by omega, by decide, by decide, fun H3 kd kp3 rg3 k0 k1 => ?_⟩
      have l3 := kp3 _ _ lr lr a3
      refine ⟨_, rfl, _, _, rfl, rfl, _, rfl, ite2 (fun c => ?_) (fun c => ?_)⟩
      · have c' : kd < 2 := of_decide_eq_true c
        refine ⟨_, rfl, .inl ⟨rfl, _, SqL.of l3⟩, (by show 2 ≤ sizeLine; decide), fun q hq => ?_⟩
        have s4 : Same H3 (upd H3 q (.lst [.str "down", .str "up"])) := same_upd (Same.refl _) hq
        rcases (show kd = 0 ∨ kd = 1 by omega) with rfl | rfl
        · refine ⟨_, rfl, q, _, _, _, rfl, rfl, SqL.of upd_same, rfl, _, rfl, r, _, 2, rfl, rg3.same s4, by omega, by decide, by decide, fun H5 d kp5 rg5 d0 d1 => ?_⟩
          refine ⟨_, _, rfl, rfl, (by show 2 ≤ sizeLine; decide), fun t ht => ?_⟩
          have k16 : Keep r r H2 H5 := (kp3.trans (Keep.of s4)).trans kp5
          refine ⟨l, _, _, rfl, rfl, (same_upd (Same.refl H5) ht) _ _ (k16 _ _ lr lr a3), small_len xl, ?_⟩
          exact ⟨_, _, _, _, rfl, li_step (c := .down (1 + d)) lr hl h k16 (rg5.more (by omega)) ht (by show 1 ≤ 1 + d; omega) ⟨by show 1 + d ≤ 10 ^ 30; omega, by show (1 + d).natAbs ≤ 2; omega⟩⟩
        · refine ⟨_, rfl, q, _, _, _, rfl, rfl, SqL.of upd_same, rfl, _, rfl, r, _, 2, rfl, rg3.same s4, by omega, by decide, by decide, fun H5 d kp5 rg5 d0 d1 => ?_⟩
          refine ⟨_, _, rfl, rfl, (by show 2 ≤ sizeLine; decide), fun t ht => ?_⟩
          have k16 : Keep r r H2 H5 := (kp3.trans (Keep.of s4)).trans kp5
          refine ⟨l, _, _, rfl, rfl, (same_upd (Same.refl H5) ht) _ _ (k16 _ _ lr lr a3), small_len xl, ?_⟩
          exact ⟨_, _, _, _, rfl, li_step (c := .up (1 + d)) lr hl h k16 (rg5.more (by omega)) ht (by show 1 ≤ 1 + d; omega) ⟨by show 1 + d ≤ 10 ^ 30; omega, by show (-(1 + d)).natAbs ≤ 2; omega⟩⟩
      · refine ⟨_, rfl, _, _, rfl, rfl, _, rfl, ite2 (fun c2 => ?_) (fun c2 => ?_)⟩
        · refine ⟨_, rfl, .inl ⟨rfl, _, SqL.of l3⟩, (by show 2 ≤ sizeLine; decide), fun q hq => ?_⟩
          have s4 : Same H3 (upd H3 q (.lst [.str "left", .str "right"])) := same_upd (Same.refl _) hq
          refine ⟨_, rfl, _, _, rfl, rfl, (show (0 : Int) < 2 by decide), ?_⟩
          rcases (show kd % 2 = 0 ∨ kd % 2 = 1 by omega) with e0 | e0
          · refine ⟨q, _, _, _, rfl, rfl, SqL.of upd_same, (by rw [e0]; rfl), _, rfl, _, rfl, r, _, size, rfl, rg3.same s4, by omega, by omega, log9 (a := 100) (by omega) (by decide), fun H5 d kp5 rg5 d0 d1 => ?_⟩
            refine ⟨_, _, rfl, rfl, (by show 2 ≤ sizeLine; decide), fun t ht => ?_⟩
            have k16 : Keep r r H2 H5 := (kp3.trans (Keep.of s4)).trans kp5
            refine ⟨l, _, _, rfl, rfl, (same_upd (Same.refl H5) ht) _ _ (k16 _ _ lr lr a3), small_len xl, ?_⟩
            exact ⟨_, _, _, _, rfl, li_step (c := .left (1 + d)) lr hl h k16 (rg5.more (by omega)) ht (by show 1 ≤ 1 + d; omega) ⟨by show 1 + d ≤ 10 ^ 30; omega, Nat.zero_le _⟩⟩
          · refine ⟨q, _, _, _, rfl, rfl, SqL.of upd_same, (by rw [e0]; rfl), _, rfl, _, rfl, r, _, size, rfl, rg3.same s4, by omega, by omega, log9 (a := 100) (by omega) (by decide), fun H5 d kp5 rg5 d0 d1 => ?_⟩
            refine ⟨_, _, rfl, rfl, (by show 2 ≤ sizeLine; decide), fun t ht => ?_⟩
            have k16 : Keep r r H2 H5 := (kp3.trans (Keep.of s4)).trans kp5
            refine ⟨l, _, _, rfl, rfl, (same_upd (Same.refl H5) ht) _ _ (k16 _ _ lr lr a3), small_len xl, ?_⟩
            exact ⟨_, _, _, _, rfl, li_step (c := .right (1 + d)) lr hl h k16 (rg5.more (by omega)) ht (by show 1 ≤ 1 + d; omega) ⟨by show 1 + d ≤ 10 ^ 30; omega, Nat.zero_le _⟩⟩
        · refine ⟨_, rfl, .inl ⟨rfl, _, SqL.of l3⟩, (by show 2 ≤ sizeLine; decide), fun q hq => ?_⟩
          have s4 : Same H3 (upd H3 q (.lst [.str "home", .str "end"])) := same_upd (Same.refl _) hq
          have q4 : upd H3 q (.lst [.str "home", .str "end"]) q = some (.lst [.str "home", .str "end"]) := upd_same
          have qr : q ≠ r := by
            obtain ⟨_, _, _, z, _⟩ := rg3
            exact (ne_of_none z hq).symm
          refine ⟨_, rfl, r, _, 2, rfl, rg3.same s4, by omega, by decide, by decide, fun H5 d kp5 rg5 d0 d1 => ?_⟩
          have k16 : Keep r r H2 H5 := (kp3.trans (Keep.of s4)).trans kp5
          rcases (show d = 0 ∨ d = 1 by omega) with rfl | rfl
          · refine ⟨q, _, _, _, rfl, rfl, SqL.of (kp5 _ _ qr qr q4), rfl, (by show 1 ≤ sizeLine; decide), fun t ht => ?_⟩
            refine ⟨l, _, _, rfl, rfl, (same_upd (Same.refl H5) ht) _ _ (k16 _ _ lr lr a3), small_len xl, ?_⟩
            exact ⟨_, _, _, _, rfl, li_step (c := .home) lr hl h k16 (rg5.more (by omega)) ht trivial ⟨by show (0 : Int) ≤ 10 ^ 30; decide, Nat.zero_le _⟩⟩
          · refine ⟨q, _, _, _, rfl, rfl, SqL.of (kp5 _ _ qr qr q4), rfl, (by show 1 ≤ sizeLine; decide), fun t ht => ?_⟩
            refine ⟨l, _, _, rfl, rfl, (same_upd (Same.refl H5) ht) _ _ (k16 _ _ lr lr a3), small_len xl, ?_⟩
            exact ⟨_, _, _, _, rfl, li_step (c := .stop) lr hl h k16 (rg5.more (by omega)) ht trivial ⟨by show (0 : Int) ≤ 10 ^ 30; decide, Nat.zero_le _⟩⟩
    · obtain ⟨v4, v5, xs, cs, rfl, a1, a2, a3, a4, a5, a6, a7⟩ := h
      exact ⟨_, rfl, k _ l xs cs a1 (a2.more (by omega)) hl a3 a4 a5 a6 (by omega)⟩
end
end Gc

namespace Gc
open PySem L2
def spSpread (K : PySem.W.Frag) : Sp := fun vs H Q _ => ∃ (l : Addr) (xs : List V) (cs : List Cmd), vs = [.ref l] ∧ SqL K H l xs ∧ CmdsOf K H xs cs ∧
  ∀ (H' : Hp) (p : Addr), Same H H' → H' p = some (.tup [.int (rchM cs).1, .int (rchM cs).2.1, .int (last cs)]) → Q (.ref p) H'
def spAim (K : PySem.W.Frag) : Sp := fun vs H Q _ => ∃ (r l : Addr) (n : Nat) (xs : List V) (cs : List Cmd), vs = [.ref r, .ref l] ∧ Rng H r n ∧ n < 2 ^ 39 ∧ SqL K H l xs ∧ l ≠ r ∧ CmdsOf K H xs cs ∧ AllOk cs ∧ AllSmall cs ∧ cs.length ≤ 20 ∧
  ∀ (H' : Hp) (a : Int), Keep r r H H' → Rng H' r (n + 10) → 1 ≤ a → a ≤ 10 ^ 30 - 1 → Q (.int a) H'
theorem at_t {u v : V} {b : Bool} (h : b = true) : atI [u, v] (if b = true then (1 : Int) else 0) = some v := by
  subst h
  rfl
theorem at_f {u v : V} {b : Bool} (h : b = false) : atI [u, v] (if b = true then (1 : Int) else 0) = some u := by
  subst h
  rfl
theorem cut_ints (ns : List Int) (lo hi : Option Int) : ∃ ms : List Int, cutV (ns.map V.int) lo hi = ms.map V.int :=
  ⟨_, by unfold cutV; rw [← List.map_drop, ← List.map_take]⟩
theorem last_more {cs : List Cmd} {i : Nat} {c : Cmd} (h : cs[i]? = some c) : last (cs.take (i + 1)) = last (cs.take i) + c.dv := by
  rw [take_snoc h, last_app]
  show _ + (c.dv + 0) = _
  omega
theorem rch_within (cs : List Cmd) : Within cs (rchM cs).1 (rchM cs).2.1 ∧ (rchM cs).2.2 = last cs := by
  have key : ∀ n, n ≤ cs.length → (∀ i, i ≤ n → (rchM (cs.take n)).1 ≤ last (cs.take i) ∧ last (cs.take i) ≤ (rchM (cs.take n)).2.1) ∧ (rchM (cs.take n)).2.2 = last (cs.take n) := by
    intro n
    induction n with
    | zero =>
      intro _
      refine ⟨fun i hi => ?_, rfl⟩
      obtain rfl : i = 0 := by omega
      exact ⟨Int.le_refl 0, Int.le_refl 0⟩
    | succ n ih =>
      intro hn
      obtain ⟨h1, h2⟩ := ih (by omega)
      have hc : cs[n]? = some cs[n] := List.getElem?_eq_getElem (by omega)
      rw [rch_more hc]
      have lm := last_more hc
      unfold rstep
      refine ⟨fun i hi => ?_, by rw [h2, lm]⟩
      have top : (if (rchM (cs.take n)).2.2 + cs[n].dv < (rchM (cs.take n)).1 then (rchM (cs.take n)).2.2 + cs[n].dv else (rchM (cs.take n)).1) ≤ (rchM (cs.take n)).1 ∧ (if (rchM (cs.take n)).2.2 + cs[n].dv < (rchM (cs.take n)).1 then (rchM (cs.take n)).2.2 + cs[n].dv else (rchM (cs.take n)).1) ≤ (rchM (cs.take n)).2.2 + cs[n].dv := by
        split <;> omega
      have bot : (rchM (cs.take n)).2.1 ≤ (if (rchM (cs.take n)).2.2 + cs[n].dv > (rchM (cs.take n)).2.1 then (rchM (cs.take n)).2.2 + cs[n].dv else (rchM (cs.take n)).2.1) ∧ (rchM (cs.take n)).2.2 + cs[n].dv ≤ (if (rchM (cs.take n)).2.2 + cs[n].dv > (rchM (cs.take n)).2.1 then (rchM (cs.take n)).2.2 + cs[n].dv else (rchM (cs.take n)).2.1) := by
        split <;> omega
      by_cases e : i = n + 1
      · subst e
        rw [lm, ← h2]
        exact ⟨top.2, bot.2⟩
      · have q := h1 i (by omega)
        exact ⟨Int.le_trans top.1 q.1, Int.le_trans q.2 bot.1⟩
  have kl := key cs.length (Nat.le_refl _)
  rw [List.take_length] at kl
  refine ⟨fun i => ?_, kl.2⟩
  by_cases l : i ≤ cs.length
  · exact kl.1 i l
  · rw [List.take_of_length_le (by omega)]
    have := kl.1 cs.length (Nat.le_refl _)
    rw [List.take_length] at this
    exact this
theorem rch_flat {cs : List Cmd} {i : Nat} {c : Cmd} (h : cs[i]? = some c) (d : c.dv = 0) : rchM (cs.take (i + 1)) = rchM (cs.take i) := by
  rw [rch_more h]
  have w := (rch_within (cs.take i)).1.whole
  have e := (rch_within (cs.take i)).2
  unfold rstep
  rw [d, Int.add_zero, if_neg (by omega), if_neg (by omega)]
theorem rch_vert {cs : List Cmd} {i : Nat} {c : Cmd} (h : cs[i]? = some c) {d : Int} (hd : c.dv = d) : (rchM (cs.take (i + 1))).1 = (if last (cs.take i) + d < (rchM (cs.take i)).1 then last (cs.take i) + d else (rchM (cs.take i)).1) ∧
    (rchM (cs.take (i + 1))).2.1 = if last (cs.take i) + d > (rchM (cs.take i)).2.1 then last (cs.take i) + d else (rchM (cs.take i)).2.1 := by
  rw [rch_more h]
  have e := (rch_within (cs.take i)).2
  unfold rstep
  rw [hd, e]
  exact ⟨rfl, rfl⟩
section
variable {P : Program} {w : World} {K : PySem.W.Frag} {mg : Str → Option Value} {base : Heap}
theorem sc_law_spread : FnScope ["steps", "here", "least", "greatest", "step"] ["steps"] (defScope s_spread) := ⟨rfl, rfl, rfl, by decide +kernel, rfl, by decide +kernel, by decide +kernel⟩
theorem ok_spread {f : Addr} {fd : FuncData} (F : Fun K "_law_spread" "_law_spread" s_spread f fd) (T : TxtA mg) : FnOk P w K mg base CX0 1 f fd ["steps"] (spSpread K) := by
  refine F.ok sc_law_spread (fun vs H Q E h => ?_) (fun cdv A outer s H vs Q E hr h => ?_)
  · obtain ⟨l, xs, cs, rfl, _⟩ := h
    rfl
  · obtain ⟨l, xs, cs, rfl, hl, hcs, k⟩ := h
    refine ⟨_, (pss_cons (ps_asg (pe_tup (pa_cons pe_int (pa_cons pe_int (pa_cons pe_int pa_nil)))) (pg_tup rfl (pgs_cons (pg_name (i := 1) sc_law_spread.nd rfl (Or.inl rfl)) (pgs_cons (pg_name (i := 2) sc_law_spread.nd rfl (Or.inl rfl)) (pgs_cons (pg_name (i := 3) sc_law_spread.nd rfl (Or.inl rfl)) pgs_nil)))))
      (pss_cons (ps_for PassesOwn.never rfl (pi_list (pv 0)) (pg_name (i := 4) sc_law_spread.nd rfl (Or.inl rfl)) (pss_one (ps_if (pt_cmpR op_in_seq (pe_ix ix_tup (pv 4) pe_int (fun _ _ => rfl)) (pe_tup (pa_cons pe_str (pa_cons pe_str pa_nil))) (by rfl)) (pss_cons (ps_set (i := 1) sc_law_spread.nd rfl (Or.inl rfl) (pe_op op_add (pv 1) (pe_ix ix_list (pe_lst (pa_cons (pe_ix ix_tup (pv 4) pe_int (fun _ _ => rfl)) (pa_cons (pe_op op_sub pe_int (pe_ix ix_tup (pv 4) pe_int (fun _ _ => rfl))) pa_nil))) (pe_callTy call_int1 (by rfl) T.int (by decide +kernel) (pa_cons (pe_cmpR op_eq (pe_ix ix_tup (pv 4) pe_int (fun _ _ => rfl)) pe_str (nomark _)) pa_nil)) (fun _ _ => rfl))))
      (pss_one (ps_par (i := 2) (j := 3) rfl sc_law_spread.nd rfl rfl (by decide) rfl rfl (pa_cons (pe_callB (call_min2 rfl) (by rfl) T.min (by decide +kernel) (pa_cons (pv 2) (pa_cons (pv 1) pa_nil))) (pa_cons (pe_callB (call_max2 rfl) (by rfl) T.max (by decide +kernel) (pa_cons (pv 3) (pa_cons (pv 1) pa_nil))) pa_nil)) (by rfl)))) pss_nil)))
      (pss_one (ps_ret (pe_tup (pa_cons (pv 2) (pa_cons (pv 3) (pa_cons (pv 1) pa_nil)))))))), ?_⟩
    refine ⟨(by show 3 ≤ sizeLine; decide), fun p0 hp0 => ?_⟩
    refine ⟨p0, _, rfl, SqT.of upd_same, rfl, _, _, rfl, _, _, rfl, _, _, rfl, rfl, ?_⟩
    generalize gH1 : upd H p0 (.tup [.int 0, .int 0, .int 0]) = H1
    have e1 : Same H H1 := by rw [← gH1]; exact same_upd (Same.refl H) hp0
    refine ⟨_, rfl, l, rfl, ⟨_, e1.seq hl⟩, for_list (K := K) (a := l) (xs := xs) (fun i σ H' => ∃ (v4 : Option V), σ = [some (.ref l), some (.int (last (cs.take i))), some (.int (rchM (cs.take i)).1), some (.int (rchM (cs.take i)).2.1), v4] ∧ Same H H')
      ⟨none, rfl, e1⟩ (fun i σ H' _ ⟨_, _, e⟩ => e.seq hl) (fun i y σ H2 hi h => ?_) (fun σ H2 h => ?_)⟩
    · obtain ⟨v4, rfl, e2⟩ := h
      obtain ⟨c, hc, t, rfl, ht0⟩ := paired_at hcs hi
      have ht := seq_t e2 ht0
      have lm := last_more hc
      cases c with
      | down n =>
        refine ⟨_, rfl, t, _, 0, _, rfl, rfl, ht, rfl, (by show 2 ≤ sizeLine; decide), fun p1 hp1 => ?_⟩
        have s1 := same_upd (Same.refl H2) hp1 (o := .tup [.str "down", .str "up"])
        refine ⟨p1, _, rfl, .inr (SqT.of upd_same), rfl, rfl, true, by decide +kernel, iteT ?_⟩
        refine ⟨_, rfl, _, rfl, t, _, 1, _, rfl, rfl, seq_t s1 ht, rfl, _, rfl, t, _, 1, _, rfl, rfl, seq_t s1 ht, rfl, _, _, rfl, rfl, (by show 2 ≤ sizeLine; decide), fun q hq => ?_⟩
        have s2 := same_upd s1 hq (o := .lst [.int n, .int (0 - n)])
        refine ⟨_, rfl, t, _, 0, _, rfl, rfl, seq_t s2 ht, rfl, rfl, .inr ⟨_, rfl, q, _, _, _, rfl, rfl, SqL.of upd_same, at_f (by decide +kernel), _, _, rfl, rfl, ?_⟩⟩
        refine ⟨_, rfl, _, rfl, _, _, rfl, _, rfl, _, rfl, _, _, rfl, _, _, rfl, ?_⟩
        have e9 : last (cs.take (i + 1)) = last (cs.take i) + n := lm
        obtain ⟨v1, v2⟩ := rch_vert hc (show (Cmd.down n).dv = n from rfl)
        refine ⟨some (.ref t), ?_, e2.trans s2⟩
        rw [e9, v1, v2]
        rfl
      | up n =>
        refine ⟨_, rfl, t, _, 0, _, rfl, rfl, ht, rfl, (by show 2 ≤ sizeLine; decide), fun p1 hp1 => ?_⟩
        have s1 := same_upd (Same.refl H2) hp1 (o := .tup [.str "down", .str "up"])
        refine ⟨p1, _, rfl, .inr (SqT.of upd_same), rfl, rfl, true, by decide +kernel, iteT ?_⟩
        refine ⟨_, rfl, _, rfl, t, _, 1, _, rfl, rfl, seq_t s1 ht, rfl, _, rfl, t, _, 1, _, rfl, rfl, seq_t s1 ht, rfl, _, _, rfl, rfl, (by show 2 ≤ sizeLine; decide), fun q hq => ?_⟩
        have s2 := same_upd s1 hq (o := .lst [.int n, .int (0 - n)])
        refine ⟨_, rfl, t, _, 0, _, rfl, rfl, seq_t s2 ht, rfl, rfl, .inr ⟨_, rfl, q, _, _, _, rfl, rfl, SqL.of upd_same, at_t (by decide +kernel), _, _, rfl, rfl, ?_⟩⟩
        refine ⟨_, rfl, _, rfl, _, _, rfl, _, rfl, _, rfl, _, _, rfl, _, _, rfl, ?_⟩
        have e9 : last (cs.take (i + 1)) = last (cs.take i) + (0 - n) := by
          rw [lm]
          show _ + -n = _
          omega
        obtain ⟨v1, v2⟩ := rch_vert hc (show (Cmd.up n).dv = 0 - n by show -n = 0 - n; omega)
        refine ⟨some (.ref t), ?_, e2.trans s2⟩
        rw [e9, v1, v2]
        rfl
      | right n =>
        refine ⟨_, rfl, t, _, 0, _, rfl, rfl, ht, rfl, (by show 2 ≤ sizeLine; decide), fun p1 hp1 => ?_⟩
        have s1 := same_upd (Same.refl H2) hp1 (o := .tup [.str "down", .str "up"])
        refine ⟨p1, _, rfl, .inr (SqT.of upd_same), rfl, rfl, false, by decide +kernel, iteF ?_⟩
        have e9 : last (cs.take (i + 1)) = last (cs.take i) := lm.trans (Int.add_zero _)
        refine ⟨some (.ref t), ?_, e2.trans s1⟩
        rw [e9, rch_flat hc rfl]
        rfl
      | left n =>
        refine ⟨_, rfl, t, _, 0, _, rfl, rfl, ht, rfl, (by show 2 ≤ sizeLine; decide), fun p1 hp1 => ?_⟩
        have s1 := same_upd (Same.refl H2) hp1 (o := .tup [.str "down", .str "up"])
        refine ⟨p1, _, rfl, .inr (SqT.of upd_same), rfl, rfl, false, by decide +kernel, iteF ?_⟩
        have e9 : last (cs.take (i + 1)) = last (cs.take i) := lm.trans (Int.add_zero _)
        refine ⟨some (.ref t), ?_, e2.trans s1⟩
        rw [e9, rch_flat hc rfl]
        rfl
      | home =>
        refine ⟨_, rfl, t, _, 0, _, rfl, rfl, ht, rfl, (by show 2 ≤ sizeLine; decide), fun p1 hp1 => ?_⟩
        have s1 := same_upd (Same.refl H2) hp1 (o := .tup [.str "down", .str "up"])
        refine ⟨p1, _, rfl, .inr (SqT.of upd_same), rfl, rfl, false, by decide +kernel, iteF ?_⟩
        have e9 : last (cs.take (i + 1)) = last (cs.take i) := lm.trans (Int.add_zero _)
        refine ⟨some (.ref t), ?_, e2.trans s1⟩
        rw [e9, rch_flat hc rfl]
        rfl
      | stop =>
        refine ⟨_, rfl, t, _, 0, _, rfl, rfl, ht, rfl, (by show 2 ≤ sizeLine; decide), fun p1 hp1 => ?_⟩
        have s1 := same_upd (Same.refl H2) hp1 (o := .tup [.str "down", .str "up"])
        refine ⟨p1, _, rfl, .inr (SqT.of upd_same), rfl, rfl, false, by decide +kernel, iteF ?_⟩
        have e9 : last (cs.take (i + 1)) = last (cs.take i) := lm.trans (Int.add_zero _)
        refine ⟨some (.ref t), ?_, e2.trans s1⟩
        rw [e9, rch_flat hc rfl]
        rfl
    · obtain ⟨v4, rfl, e2⟩ := h
      refine ⟨_, rfl, _, rfl, _, rfl, (by show 3 ≤ sizeLine; decide), fun p hp => ?_⟩
      refine k _ p (same_upd e2 hp) ?_
      rw [upd_same, hcs.len, List.take_length]
theorem sc_law_aim : FnScope ["rng", "steps", "some", "lefts", "near", "found", "step"] ["rng", "steps"] (defScope s_aim) := ⟨rfl, rfl, rfl, by decide +kernel, rfl, by decide +kernel, by decide +kernel⟩
theorem ok_aim {f : Addr} {fd : FuncData} (F : Fun K "_law_aim" "_law_aim" s_aim f fd) (T : TxtA mg) (c_law_draw : Cal P w K mg base 1 "_law_draw" spDraw) : FnOk P w K mg base CX0 2 f fd ["rng", "steps"] (spAim K) := by
  refine F.ok sc_law_aim (fun vs H Q E h => ?_) (fun cdv A outer s H vs Q E hr h => ?_)
  · obtain ⟨r, l, n, xs, cs, rfl, _⟩ := h
    rfl
  · obtain ⟨r, l, n, xs, cs, rfl, hR, hn, hl, lr, hcs, ok, sm, ln, k⟩ := h
    refine ⟨_, (pss_cons (ps_setLc (i := 2) (own := [("step", 6)]) rfl sc_law_aim.nd rfl rfl (sw_true rfl rfl rfl (by decide +kernel)) (pi_list (pv 1)) (blkOk_by (N := ["rng", "steps", "some", "lefts", "near", "found", "step"]) (sc := defScope s_aim) (by decide +kernel)) (fun _ _ _ _ _ => (pg_name (i := 6) sc_law_aim.nd rfl (Or.inl rfl))) (fun _ _ _ _ _ => (pts_one (pt_cmpR op_eq (pe_ix (show IxR _ (rIxT K) from ix_tup) (pv 6) pe_int (fun _ _ => rfl)) pe_str (nomark _)))) (fun _ _ _ _ _ => (pe_ix (show IxR _ (rIxT K) from ix_tup) (pv 6) pe_int (fun _ _ => rfl))))
      (pss_cons (ps_set (i := 3) sc_law_aim.nd rfl (Or.inl rfl) (pe_callB (cr_sum rfl) (by rfl) T.sum (by decide +kernel) (pa_cons (pe_lc (own := [("step", 6)]) rfl sc_law_aim.nd (pi_list (pv 1)) (blkOk_by (N := ["rng", "steps", "some", "lefts", "near", "found", "step"]) (sc := defScope s_aim) (by decide +kernel)) (fun _ _ _ _ _ => (pg_name (i := 6) sc_law_aim.nd rfl (Or.inl rfl))) (fun _ _ _ _ _ => (pts_one (pt_cmpR op_eq (pe_ix (show IxR _ (rIxT K) from ix_tup) (pv 6) pe_int (fun _ _ => rfl)) pe_str (nomark _)))) (fun _ _ _ _ _ => (pe_ix (show IxR _ (rIxT K) from ix_tup) (pv 6) pe_int (fun _ _ => rfl)))) pa_nil)))
      (pss_cons (ps_set (i := 4) sc_law_aim.nd rfl (Or.inl rfl) (pe_op op_sub (pe_op op_add (pe_op op_sub (pe_callB (cr_sum rfl) (by rfl) T.sum (by decide +kernel) (pa_cons (pe_slice sl_list (pv 2) (po_some (pe_cal c_law_draw hr (by decide) (by rfl) (pa_cons (pv 0) (pa_cons (pe_op op_add (pe_callB call_len_seq (by rfl) T.len (by decide +kernel) (pa_cons (pv 2) pa_nil)) pe_int) pa_nil)))) po_none) pa_nil)) (pe_op op_mulW (pv 3) (pe_cal c_law_draw hr (by decide) (by rfl) (pa_cons (pv 0) (pa_cons pe_int pa_nil))))) (pe_cal c_law_draw hr (by decide) (by rfl) (pa_cons (pv 0) (pa_cons pe_int pa_nil)))) pe_int))
      (pss_cons (ps_set (i := 5) sc_law_aim.nd rfl (Or.inl rfl) (pe_ix ix_list (pe_lst (pa_cons (pe_op op_add pe_int (pe_cal c_law_draw hr (by decide) (by rfl) (pa_cons (pv 0) (pa_cons pe_int pa_nil)))) (pa_cons (pv 4) (pa_cons (pv 4) (pa_cons (pe_op op_add pe_int (pe_cal c_law_draw hr (by decide) (by rfl) (pa_cons (pv 0) (pa_cons (pe_op op_sub (pe_op op_pow pe_int pe_int) pe_int) pa_nil)))) pa_nil))))) (pe_cal c_law_draw hr (by decide) (by rfl) (pa_cons (pv 0) (pa_cons pe_int pa_nil))) (fun _ _ => rfl)))
      (pss_one (ps_ret (pe_callB (call_min2 rfl) (by rfl) T.min (by decide +kernel) (pa_cons (pe_callB (call_max2 rfl) (by rfl) T.max (by decide +kernel) (pa_cons pe_int (pa_cons (pv 5) pa_nil))) (pa_cons (pe_op op_sub (pe_op op_pow pe_int pe_int) pe_int) pa_nil))))))))), ?_⟩
    -- some = [step[1] for step in steps if step[0] == 'right']
    refine ⟨_, rfl, l, rfl, ⟨_, hl⟩, fun D hD => ?_⟩
    have hr0 : ∃ o, H r = some o := by
      obtain ⟨_, _, _, q, _⟩ := hR
      exact ⟨_, q⟩
    refine lc_list (K := K) (a := l) (xs := xs) (fun i H' => ∃ ns : List Int, Same H H' ∧ H' D = some (.lst (ns.map V.int)) ∧ ns.length ≤ i) ⟨[], same_upd (Same.refl H) hD, upd_same, Nat.le_refl _⟩ (fun i H' _ ⟨_, e, _⟩ => e.seq hl) (fun i x H' hi h => ?_) (fun H1 h => ?_)
    · obtain ⟨ns, e, hd, ln1⟩ := h
      obtain ⟨c, hc, t, rfl, ht0⟩ := paired_at hcs hi
      have ht := seq_t e ht0
      have li := (List.getElem?_eq_some_iff.mp hc).1
      cases c with
      | right n =>
        refine ⟨rfl, _, rfl, t, _, 0, _, rfl, rfl, ht, rfl, rfl, true, by decide +kernel, iteT ?_⟩
        refine ⟨_, rfl, t, _, 1, _, rfl, rfl, ht, rfl, _, hd, small_len (by rw [List.length_map]; omega), ns ++ [n], fun b o hb => ?_, ?_, ?_⟩
        · rw [upd_ne (ne_of_none hb hD)]
          exact e b o hb
        · rw [upd_same, List.map_append]
          rfl
        · rw [List.length_append, List.length_singleton]
          omega
      | left n => exact ⟨rfl, _, rfl, t, _, 0, _, rfl, rfl, ht, rfl, rfl, false, by decide +kernel, iteF ⟨ns, e, hd, Nat.le_succ_of_le ln1⟩⟩
      | down n => exact ⟨rfl, _, rfl, t, _, 0, _, rfl, rfl, ht, rfl, rfl, false, by decide +kernel, iteF ⟨ns, e, hd, Nat.le_succ_of_le ln1⟩⟩
      | up n => exact ⟨rfl, _, rfl, t, _, 0, _, rfl, rfl, ht, rfl, rfl, false, by decide +kernel, iteF ⟨ns, e, hd, Nat.le_succ_of_le ln1⟩⟩
      | home => exact ⟨rfl, _, rfl, t, _, 0, _, rfl, rfl, ht, rfl, rfl, false, by decide +kernel, iteF ⟨ns, e, hd, Nat.le_succ_of_le ln1⟩⟩
      | stop => exact ⟨rfl, _, rfl, t, _, 0, _, rfl, rfl, ht, rfl, rfl, false, by decide +kernel, iteF ⟨ns, e, hd, Nat.le_succ_of_le ln1⟩⟩
    obtain ⟨ns, e1, hd, ln1⟩ := h
    -- lefts = sum([...])
    refine ⟨_, rfl, l, rfl, ⟨_, e1.seq hl⟩, fun D2 hD2 => ?_⟩
    refine lc_list (K := K) (a := l) (xs := xs) (fun i H' => ∃ ms : List Int, Same H1 H' ∧ H' D2 = some (.lst (ms.map V.int)) ∧ ms.length ≤ i ∧ 0 ≤ ms.sum ∧ ms.sum ≤ i * 10 ^ 30) ⟨[], same_upd (Same.refl H1) hD2, upd_same, Nat.le_refl _, by decide, by decide⟩ (fun i H' _ ⟨_, e, _⟩ => (e1.trans e).seq hl) (fun i x H' hi h => ?_) (fun H2 h => ?_)
    · obtain ⟨ms, e, hd2, ln2, u0, u1⟩ := h
      obtain ⟨c, hc, t, rfl, ht0⟩ := paired_at hcs hi
      have ht := seq_t (e1.trans e) ht0
      have li := (List.getElem?_eq_some_iff.mp hc).1
      have okc := ok c (List.mem_of_getElem? hc)
      have smc := (sm c (List.mem_of_getElem? hc)).1
      cases c with
      | left n =>
        have ok1 : 1 ≤ n := okc
        have sm1 : n ≤ 10 ^ 30 := smc
        refine ⟨rfl, _, rfl, t, _, 0, _, rfl, rfl, ht, rfl, rfl, true, by decide +kernel, iteT ?_⟩
        refine ⟨_, rfl, t, _, 1, _, rfl, rfl, ht, rfl, _, hd2, small_len (by rw [List.length_map]; omega), ms ++ [n], fun b o hb => ?_, ?_, ?_, ?_, ?_⟩
        · rw [upd_ne (ne_of_none hb hD2)]
          exact e b o hb
        · rw [upd_same, List.map_append]
          rfl
        · rw [List.length_append, List.length_singleton]
          omega
        · rw [List.sum_append, List.sum_singleton]
          omega
        · rw [List.sum_append, List.sum_singleton]
          omega
      | right n => exact ⟨rfl, _, rfl, t, _, 0, _, rfl, rfl, ht, rfl, rfl, false, by decide +kernel, iteF ⟨ms, e, hd2, Nat.le_succ_of_le ln2, u0, by omega⟩⟩
      | down n => exact ⟨rfl, _, rfl, t, _, 0, _, rfl, rfl, ht, rfl, rfl, false, by decide +kernel, iteF ⟨ms, e, hd2, Nat.le_succ_of_le ln2, u0, by omega⟩⟩
      | up n => exact ⟨rfl, _, rfl, t, _, 0, _, rfl, rfl, ht, rfl, rfl, false, by decide +kernel, iteF ⟨ms, e, hd2, Nat.le_succ_of_le ln2, u0, by omega⟩⟩
      | home => exact ⟨rfl, _, rfl, t, _, 0, _, rfl, rfl, ht, rfl, rfl, false, by decide +kernel, iteF ⟨ms, e, hd2, Nat.le_succ_of_le ln2, u0, by omega⟩⟩
      | stop => exact ⟨rfl, _, rfl, t, _, 0, _, rfl, rfl, ht, rfl, rfl, false, by decide +kernel, iteF ⟨ms, e, hd2, Nat.le_succ_of_le ln2, u0, by omega⟩⟩
    obtain ⟨ms, e2, hd2, ln2, u0, u1⟩ := h
    have xl : xs.length ≤ 20 := by rw [hcs.len]; exact ln
    refine ⟨D2, ms, rfl, SqL.of hd2, ?_⟩
    have hR2 : Rng H2 r n := hR.same (e1.trans e2)
    have Dr : D ≠ r := by
      obtain ⟨o, q⟩ := hr0
      exact (ne_of_none q hD).symm
    -- near
    have hd' := e2 _ _ hd
    refine ⟨_, rfl, _, rfl, _, rfl, D, _, rfl, .inl (SqL.of hd'), _, _, rfl, rfl, r, n, _, rfl, hR2, by omega, by rw [List.length_map]; omega, log9 (a := 100) (by rw [List.length_map]; omega) (by decide), fun H3 d1 kp3 rg3 a0 a1 => ?_⟩
    obtain ⟨cn, hcn⟩ := cut_ints ns (some d1) none
    refine ⟨_, rfl, D, _, rfl, SqL.of (kp3 _ _ Dr Dr hd'), fun p hp => ?_⟩
    rw [hcn]
    have s3 : Same H3 (upd H3 p (.lst (cn.map V.int))) := same_upd (Same.refl _) hp
    refine ⟨p, cn, rfl, SqL.of upd_same, ?_⟩
    refine ⟨_, rfl, _, rfl, r, _, 2, rfl, rg3.same s3, by omega, by decide, by decide, fun H4 d2 kp4 rg4 b0 b1 => ?_⟩
    refine ⟨_, _, rfl, rfl, wide_mul (a := 120) (b := 10) (by omega) (by omega) (by decide) (by decide) (by decide), _, _, rfl, rfl, ?_⟩
    refine ⟨_, rfl, r, _, 5, rfl, rg4, by omega, by decide, by decide, fun H5 d3 kp5 rg5 _ _ => ?_⟩
    refine ⟨_, _, rfl, rfl, _, _, rfl, rfl, ?_⟩
    -- found
    refine ⟨_, rfl, r, _, 9, rfl, rg5, by omega, by decide, by decide, fun H6 d4 kp6 rg6 _ _ => ?_⟩
    refine ⟨_, _, rfl, rfl, _, rfl, _, rfl, _, rfl, _, _, rfl, rfl, cpow (by decide), _, _, rfl, rfl, r, _, _, rfl, rg6, by omega, (by decide), log9 (a := 110) (by decide) (by decide), fun H7 d5 kp7 rg7 _ _ => ?_⟩
    refine ⟨_, _, rfl, rfl, (by show 4 ≤ sizeLine; decide), fun q hq => ?_⟩
    have s7 : ∀ o, Same H7 (upd H7 q o) := fun o => same_upd (Same.refl H7) hq
    have qr : q ≠ r := by
      obtain ⟨_, _, _, z, _⟩ := rg7
      exact (ne_of_none z hq).symm
    refine ⟨_, rfl, r, _, 4, rfl, rg7.same (s7 _), by omega, by decide, by decide, fun H8 d6 kp8 rg8 g0 g1 => ?_⟩
    obtain ⟨v, hv⟩ : ∃ v : Int, atI [V.int (1 + d4), .int (cn.sum - ms.sum * d2 + d3 - 2), .int (cn.sum - ms.sum * d2 + d3 - 2), .int (1 + d5)] d6 = some (.int v) := by
      rcases (show d6 = 0 ∨ d6 = 1 ∨ d6 = 2 ∨ d6 = 3 by omega) with rfl | rfl | rfl | rfl
      · exact ⟨_, rfl⟩
      · exact ⟨_, rfl⟩
      · exact ⟨_, rfl⟩
      · exact ⟨_, rfl⟩
    refine ⟨q, _, _, _, rfl, rfl, SqL.of (kp8 _ _ qr qr upd_same), hv, ?_⟩
    refine ⟨_, rfl, _, _, rfl, _, _, rfl, rfl, cpow (by decide), _, _, rfl, rfl, _, _, rfl, ?_⟩
    have p30 : (10 : Int) ^ (30 : Int).toNat - 1 = 10 ^ 30 - 1 := rfl
    refine k _ _ ?_ (rg8.more (by omega)) ?_ ?_
    · exact (Keep.of (e1.trans e2)).trans (kp3.trans ((Keep.of s3).trans (kp4.trans (kp5.trans (kp6.trans (kp7.trans ((Keep.of (s7 _)).trans kp8)))))))
    · show 1 ≤ if (10 : Int) ^ 30 - 1 < (if v > 1 then v else 1) then (10 : Int) ^ 30 - 1 else (if v > 1 then v else 1)
      have hm : 1 ≤ (if v > 1 then v else 1) := by split <;> omega
      generalize (if v > 1 then v else 1) = m at hm ⊢
      split <;> omega
    · show (if (10 : Int) ^ 30 - 1 < (if v > 1 then v else 1) then (10 : Int) ^ 30 - 1 else (if v > 1 then v else 1)) ≤ 10 ^ 30 - 1
      generalize (if v > 1 then v else 1) = m
      split <;> omega
end
end Gc

/-! small helps: lists of commands, the drawn list at rng -/
namespace Gc
open PySem L2
theorem Keep.same1 {r : Addr} {H H1 H2 : Hp} (k : Keep r r H H1) (e : Same H1 H2) : Keep r r H H2 := k.trans (Keep.of e)
theorem Rng.cmds {K : PySem.W.Frag} {H H' : Hp} {r : Addr} {n : Nat} {xs : List V} {cs : List Cmd} (B : Rng H r n) (k : Keep r r H H') (h : CmdsOf K H xs cs) : CmdsOf K H' xs cs := by
  obtain ⟨_, _, _, z, _⟩ := B
  exact h.keep k z
theorem Rng.tup {K : PySem.W.Frag} {H H' : Hp} {r p : Addr} {n : Nat} {ys : List V} (B : Rng H r n) (k : Keep r r H H') (h : SqT K H p ys) : SqT K H' p ys := by
  obtain ⟨_, _, _, z, _⟩ := B
  rcases h with (q | ⟨o, q⟩) | q
  · exact .inl (.inl (k _ _ (ne_of q z (by intro y; cases y)) (ne_of q z (by intro y; cases y)) q))
  · exact .inl (.inr ⟨o, k _ _ (ne_of q z (by intro y; cases y)) (ne_of q z (by intro y; cases y)) q⟩)
  · exact .inr q
theorem Rng.off {H : Hp} {r p : Addr} {n : Nat} (B : Rng H r n) (h : H p = none) : p ≠ r := by
  obtain ⟨_, _, _, z, _⟩ := B
  exact (ne_of_none z h).symm
theorem small_app {xs ys : List Cmd} (h : AllSmall xs) (g : AllSmall ys) : AllSmall (xs ++ ys) := fun c hc => (List.mem_append.mp hc).elim (h c) (g c)
theorem ok_app {xs ys : List Cmd} (h : AllOk xs) (g : AllOk ys) : AllOk (xs ++ ys) := fun c hc => (List.mem_append.mp hc).elim (h c) (g c)
theorem small_take {xs : List Cmd} (h : AllSmall xs) (n : Nat) : AllSmall (xs.take n) := fun c hc => h c (List.mem_of_mem_take hc)
theorem small_drop {xs : List Cmd} (h : AllSmall xs) (n : Nat) : AllSmall (xs.drop n) := fun c hc => h c (List.mem_of_mem_drop hc)
theorem ok_take {xs : List Cmd} (h : AllOk xs) (n : Nat) : AllOk (xs.take n) := fun c hc => h c (List.mem_of_mem_take hc)
theorem ok_drop {xs : List Cmd} (h : AllOk xs) (n : Nat) : AllOk (xs.drop n) := fun c hc => h c (List.mem_of_mem_drop hc)
theorem CmdsOf.take {K : PySem.W.Frag} {H : Hp} {xs : List V} {cs : List Cmd} (h : CmdsOf K H xs cs) (n : Nat) : CmdsOf K H (xs.take n) (cs.take n) := paired_take n h
theorem CmdsOf.drop {K : PySem.W.Frag} {H : Hp} {xs : List V} {cs : List Cmd} (h : CmdsOf K H xs cs) (n : Nat) : CmdsOf K H (xs.drop n) (cs.drop n) := paired_drop n h
theorem CmdsOf.app {K : PySem.W.Frag} {H : Hp} {xs ys : List V} {cs ds : List Cmd} (h : CmdsOf K H xs cs) (g : CmdsOf K H ys ds) : CmdsOf K H (xs ++ ys) (cs ++ ds) := paired_app h g
theorem dv_flat' {c : Cmd} (h : c.vert = false) : c.dv = 0 := by cases c <;> first | rfl | cases h
theorem split_at {cs : List Cmd} {i : Nat} {c : Cmd} (h : cs[i]? = some c) : cs = cs.take i ++ [c] ++ cs.drop (i + 1) := by
  obtain ⟨hi, e⟩ := List.getElem?_eq_some_iff.mp h
  have d : cs.drop i = c :: cs.drop (i + 1) := by rw [List.drop_eq_getElem_cons hi, e]
  conv => lhs; rw [← List.take_append_drop i cs, d]
  simp
end Gc

namespace Gc
open PySem L2
theorem rch_bnd {V : Int} (V0 : 0 ≤ V) {cs : List Cmd} (h : ∀ c ∈ cs, -V ≤ c.dv ∧ c.dv ≤ V) : -(cs.length * V) ≤ (rchM cs).1 ∧ (rchM cs).1 ≤ 0 ∧ 0 ≤ (rchM cs).2.1 ∧ (rchM cs).2.1 ≤ cs.length * V ∧ -(cs.length * V) ≤ last cs ∧ last cs ≤ cs.length * V := by
  have key : ∀ n, n ≤ cs.length → -(n * V) ≤ (rchM (cs.take n)).1 ∧ (rchM (cs.take n)).1 ≤ 0 ∧ 0 ≤ (rchM (cs.take n)).2.1 ∧ (rchM (cs.take n)).2.1 ≤ n * V ∧ -(n * V) ≤ (rchM (cs.take n)).2.2 ∧ (rchM (cs.take n)).2.2 ≤ n * V := by
    intro n
    induction n with
    | zero => intro _; show -(((0 : Nat) : Int) * V) ≤ 0 ∧ (0 : Int) ≤ 0 ∧ (0 : Int) ≤ 0 ∧ (0 : Int) ≤ ((0 : Nat) : Int) * V ∧ -(((0 : Nat) : Int) * V) ≤ 0 ∧ (0 : Int) ≤ ((0 : Nat) : Int) * V; simp
    | succ n ih =>
      intro hn
      have q := ih (by omega)
      have hc : cs[n]? = some cs[n] := List.getElem?_eq_getElem (by omega)
      have b := h cs[n] (List.getElem_mem _)
      rw [rch_more hc]
      have m : ((n + 1 : Nat) : Int) * V = n * V + V := by rw [Int.natCast_add, Int.add_mul]; simp
      rw [m]
      generalize rchM (cs.take n) = s at q ⊢
      generalize (n : Int) * V = nv at q ⊢
      unfold rstep
      dsimp only
      refine ⟨?_, ?_, ?_, ?_, ?_, ?_⟩ <;> first | (split <;> omega) | omega
  have q := key cs.length (Nat.le_refl _)
  rw [List.take_length, (rch_within cs).2] at q
  exact q
end Gc

namespace Gc
open PySem L2
abbrev s_lots : Stmt := top 49
def spLots (K : PySem.W.Frag) : Sp := fun vs H Q _ => ∃ (r : Addr) (n : Nat), vs = [.ref r] ∧ Rng H r n ∧ n < 2 ^ 38 ∧
  ∀ (H' : Hp) (l : Addr) (xs : List V) (cs : List Cmd), Keep r r H H' → Rng H' r (n + 80) → H l = none → H' l = some (.lst xs) → CmdsOf K H' xs cs → AllOk cs → AllSmall cs → cs.length ≤ 20 → Q (.ref l) H'
section
variable {P : Program} {w : World} {K : PySem.W.Frag} {mg : Str → Option Value} {base : Heap}
theorem sc_law_lots : FnScope ["rng"] ["rng"] (defScope s_lots) := ⟨rfl, rfl, rfl, by decide +kernel, rfl, by decide +kernel, by decide +kernel⟩
theorem ok_lots {f : Addr} {fd : FuncData} (F : Fun K "_law_lots" "_law_lots" s_lots f fd) (c_law_draw : Cal P w K mg base 1 "_law_draw" spDraw) (c_law_list : Cal P w K mg base 2 "_law_list" (spList K)) : FnOk P w K mg base CX0 3 f fd ["rng"] (spLots K) := by
  refine F.ok sc_law_lots (fun vs H Q E h => ?_) (fun cdv A outer s H vs Q E hr h => ?_)
  · obtain ⟨r, n, rfl, _⟩ := h
    rfl
  · obtain ⟨r, n, rfl, rg, hn, k⟩ := h
    refine ⟨_, (pss_one (ps_ret (pe_cal c_law_list hr (by decide) (by rfl) (pa_cons (pv 0) (pa_cons (pe_ix ix_list (pe_lst (pa_cons pe_int (pa_cons pe_int (pa_cons pe_int pa_nil)))) (pe_cal c_law_draw hr (by decide) (by rfl) (pa_cons (pv 0) (pa_cons pe_int pa_nil))) (fun _ _ => rfl)) (pa_cons (pe_ix ix_list (pe_lst (pa_cons pe_int (pa_cons pe_int (pa_cons (pe_op op_pow pe_int pe_int) (pa_cons (pe_op op_sub (pe_op op_pow pe_int pe_int) pe_int) pa_nil))))) (pe_cal c_law_draw hr (by decide) (by rfl) (pa_cons (pv 0) (pa_cons pe_int pa_nil))) (fun _ _ => rfl)) pa_nil)))))), ?_⟩
    refine ⟨_, rfl, (by show 3 ≤ sizeLine; decide), fun q hq => ?_⟩
    have s1 : ∀ o, Same H (upd H q o) := fun o => same_upd (Same.refl H) hq
    have qr : q ≠ r := by
      obtain ⟨_, _, _, z, _⟩ := rg
      exact (ne_of_none z hq).symm
    refine ⟨_, rfl, r, _, 3, rfl, rg.same (s1 _), by omega, by decide, by decide, fun H2 d kp2 rg2 d0 d1 => ?_⟩
    obtain ⟨most, hv, z0, z1⟩ : ∃ v : Int, atI [V.int 5, .int 12, .int 20] d = some (.int v) ∧ 0 ≤ v ∧ v ≤ 20 := by
      rcases (show d = 0 ∨ d = 1 ∨ d = 2 by omega) with rfl | rfl | rfl
      · exact ⟨_, rfl, by decide, by decide⟩
      · exact ⟨_, rfl, by decide, by decide⟩
      · exact ⟨_, rfl, by decide, by decide⟩
    refine ⟨q, _, _, _, rfl, rfl, SqL.of (kp2 _ _ qr qr upd_same), hv, ?_⟩
    refine ⟨_, _, rfl, rfl, cpow (by decide), _, _, rfl, rfl, cpow (by decide), _, _, rfl, rfl, (by show 4 ≤ sizeLine; decide), fun q2 hq2 => ?_⟩
    have s2 : ∀ o, Same H2 (upd H2 q2 o) := fun o => same_upd (Same.refl H2) hq2
    have q2r : q2 ≠ r := by
      obtain ⟨_, _, _, z, _⟩ := rg2
      exact (ne_of_none z hq2).symm
    refine ⟨_, rfl, r, _, 4, rfl, rg2.same (s2 _), by omega, by decide, by decide, fun H3 d' kp3 rg3 d0' d1' => ?_⟩
    obtain ⟨size, hv2, y0, y1⟩ : ∃ v : Int, atI [V.int 3, .int 40, .int (10 ^ (12 : Int).toNat), .int (10 ^ (30 : Int).toNat - 1)] d' = some (.int v) ∧ 1 ≤ v ∧ v ≤ 10 ^ 30 := by
      rcases (show d' = 0 ∨ d' = 1 ∨ d' = 2 ∨ d' = 3 by omega) with rfl | rfl | rfl | rfl
      · exact ⟨_, rfl, by decide, by decide⟩
      · exact ⟨_, rfl, by decide, by decide⟩
      · exact ⟨_, rfl, by decide, by decide⟩
      · exact ⟨_, rfl, by decide, by decide⟩
    refine ⟨q2, _, _, _, rfl, rfl, SqL.of (kp3 _ _ q2r q2r upd_same), hv2, ?_⟩
    have k13 : Keep r r H H3 := (Keep.of (s1 _)).trans (kp2.trans ((Keep.of (s2 _)).trans kp3))
    refine ⟨r, _, most, size, rfl, rg3, by omega, z0, z1, y0, y1, fun H4 l xs cs kp4 rg4 nl hl hcs ok sm ln => ?_⟩
    have nl0 : H l = none := by
      cases e : H l with
      | none => rfl
      | some o =>
        have lr : l ≠ r := by
          obtain ⟨_, _, _, z, _⟩ := rg3
          exact (ne_of_none z nl).symm
        have z := k13 _ _ lr lr e
        rw [nl] at z
        cases z
    exact k H4 l xs cs (k13.trans kp4) (rg4.more (by omega)) nl0 hl hcs ok sm (by omega)
end
end Gc

namespace Gc
open PySem L2
abbrev s_after : Stmt := top 53
theorem at_len {T : List Int} {r : Int} (h0 : 0 ≤ r) (h1 : r < T.length) : atI (T.map V.int) r = some (.int (lenAt T r)) := by
  have e : r = (r.toNat : Int) := by omega
  refine at_of (j := r.toNat) e ?_
  have l : r.toNat < T.length := by omega
  unfold lenAt
  rw [List.getElem?_map, List.getD_eq_getElem?_getD, List.getElem?_eq_getElem l]
  rfl
theorem min_if (i j : Int) : (if j < i then j else i) = min i j := by split <;> omega
theorem max_if (i j : Int) : (if j > i then j else i) = max i j := by split <;> omega
theorem iteNF {c A B : Prop} [Decidable c] (hc : ¬ c) (h : A) : if (!decide c) = true then A else B := by
  rw [decide_eq_false hc]
  exact iteT h
def spAfter (K : PySem.W.Frag) : Sp := fun vs H Q _ => ∃ (t b l : Addr) (T : List Int) (r : Int) (a : Option Int) (xs : List V) (cs : List Cmd), vs = [.ref t, .ref b, .ref l] ∧ SqL K H t (T.map V.int) ∧ SqT K H b [.int r, optV a] ∧ SqL K H l xs ∧ CmdsOf K H xs cs ∧ 0 ≤ r ∧ r < T.length ∧
  (afterL T r a cs = none → ∀ H', Same H H' → Q .non H') ∧ ∀ r' a', afterL T r a cs = some (r', a') → ∀ (H' : Hp) (p : Addr), Same H H' → H p = none → H' p = some (.tup [.int r', optV a']) → Q (.ref p) H'
section
variable {P : Program} {w : World} {K : PySem.W.Frag} {mg : Str → Option Value} {base : Heap}
theorem sc_law_after : FnScope ["lengths", "begin", "steps", "row", "aim", "step", "seen"] ["lengths", "begin", "steps"] (defScope s_after) := ⟨rfl, rfl, rfl, by decide +kernel, rfl, by decide +kernel, by decide +kernel⟩
theorem ok_after {f : Addr} {fd : FuncData} (F : Fun K "_law_after" "_law_after" s_after f fd) (T : TxtA mg) : FnOk P w K mg base CX0 1 f fd ["lengths", "begin", "steps"] (spAfter K) := by
  refine F.ok sc_law_after (fun vs H Q E h => ?_) (fun cdv A outer s H vs Q E hr h => ?_)
  · obtain ⟨t, b, l, T, r, a, xs, cs, rfl, _⟩ := h
    rfl
  · obtain ⟨t, b, l, tx, r, a, xs, cs, rfl, ht, hb, hl, hcs, r0, r1, kn, ks⟩ := h
    refine ⟨_, (pss_cons (ps_asg (pv 1) (pg_tup rfl (pgs_cons (pg_name (i := 3) sc_law_after.nd rfl (Or.inl rfl)) (pgs_cons (pg_name (i := 4) sc_law_after.nd rfl (Or.inl rfl)) pgs_nil))))
      (pss_cons (ps_for PassesOwn.never rfl (pi_list (pv 2)) (pg_name (i := 5) sc_law_after.nd rfl (Or.inl rfl)) (pss_one (ps_if (pt_cmpR op_in_seq (pe_ix ix_tup (pv 5) pe_int (fun _ _ => rfl)) (pe_tup (pa_cons pe_str (pa_cons pe_str pa_nil))) (by rfl)) (pss_cons (ps_set (i := 3) sc_law_after.nd rfl (Or.inl rfl) (pe_op op_add (pv 3) (pe_ix ix_list (pe_lst (pa_cons (pe_ix ix_tup (pv 5) pe_int (fun _ _ => rfl)) (pa_cons (pe_op op_sub pe_int (pe_ix ix_tup (pv 5) pe_int (fun _ _ => rfl))) pa_nil))) (pe_callTy call_int1 (by rfl) T.int (by decide +kernel) (pa_cons (pe_cmpR op_eq (pe_ix ix_tup (pv 5) pe_int (fun _ _ => rfl)) pe_str (nomark _)) pa_nil)) (fun _ _ => rfl))))
      (pss_one (ps_if (pt_not (pt_chain op_le op_lt pe_int (pv 3) (pe_callB call_len_seq (by rfl) T.len (by decide +kernel) (pa_cons (pv 0) pa_nil)))) (pss_one (ps_ret pe_non)) pss_nil))) (pss_one (ps_if (pt_cmpR op_in_seq (pe_ix ix_tup (pv 5) pe_int (fun _ _ => rfl)) (pe_tup (pa_cons pe_str (pa_cons pe_str pa_nil))) (by rfl)) (pss_one (ps_set (i := 4) sc_law_after.nd rfl (Or.inl rfl) (pe_ifExp (pt_cmpR op_eq (pe_ix ix_tup (pv 5) pe_int (fun _ _ => rfl)) pe_str (nomark _)) pe_int pe_non))) (pss_cons (ps_set (i := 6) sc_law_after.nd rfl (Or.inl rfl) (pe_ifExp (pt_cmpR op_isN (pv 4) pe_non (nomark _)) (pe_ix ix_list (pv 0) (pv 3) (fun _ _ => rfl)) (pe_callB (call_min2 rfl) (by rfl) T.min (by decide +kernel) (pa_cons (pv 4) (pa_cons (pe_ix ix_list (pv 0) (pv 3) (fun _ _ => rfl)) pa_nil)))))
      (pss_one (ps_set (i := 4) sc_law_after.nd rfl (Or.inl rfl) (pe_ifExp (pt_cmpR op_eq (pe_ix ix_tup (pv 5) pe_int (fun _ _ => rfl)) pe_str (nomark _)) (pe_callB (call_max2 rfl) (by rfl) T.max (by decide +kernel) (pa_cons pe_int (pa_cons (pe_op op_sub (pv 6) (pe_ix ix_tup (pv 5) pe_int (fun _ _ => rfl))) pa_nil))) (pe_callB (call_min2 rfl) (by rfl) T.min (by decide +kernel) (pa_cons (pe_op op_add (pv 6) (pe_ix ix_tup (pv 5) pe_int (fun _ _ => rfl))) (pa_cons (pe_ix ix_list (pv 0) (pv 3) (fun _ _ => rfl)) pa_nil))))))))))))
      (pss_one (ps_ret (pe_tup (pa_cons (pv 3) (pa_cons (pv 4) pa_nil))))))), ?_⟩
    refine ⟨_, rfl, b, _, rfl, hb, rfl, _, _, rfl, _, _, rfl, rfl, ?_⟩
    refine ⟨_, rfl, l, rfl, ⟨_, hl⟩, for_list (K := K) (a := l) (xs := xs) (fun i σ H' => ∃ (r' : Int) (a' : Option Int) (v5 v6 : Option V), σ = [some (.ref t), some (.ref b), some (.ref l), some (.int r'), some (optV a'), v5, v6] ∧ Same H H' ∧
        0 ≤ r' ∧ r' < tx.length ∧ afterL tx r a cs = afterL tx r' a' (cs.drop i))
      ⟨r, a, none, none, rfl, Same.refl H, r0, r1, rfl⟩ (fun i σ H' _ ⟨_, _, _, _, _, e, _⟩ => e.seq hl) (fun i y σ H2 hi h => ?_) (fun σ H2 h => ?_)⟩
    · obtain ⟨r', a', v5, v6, rfl, e2, s0, s1, hgo⟩ := h
      obtain ⟨c, hc, q, rfl, hq0⟩ := paired_at hcs hi
      have hq := seq_t e2 hq0
      have htx := e2.seq ht
      have hdrop : cs.drop i = c :: cs.drop (i + 1) := by
        obtain ⟨h1, h2⟩ := List.getElem?_eq_some_iff.mp hc
        rw [List.drop_eq_getElem_cons h1, h2]
      rw [hdrop] at hgo
      have al := at_len s0 s1
      cases c with
      | down n =>
        have hin : 0 ≤ r' + n → r' + n < tx.length → afterL tx r a cs = afterL tx (r' + n) a' (cs.drop (i + 1)) := fun h1 h2 => by
          rw [hgo]
          simp only [afterL]
          rw [if_pos (show (Cmd.down n).vert = true from rfl), show (Cmd.down n).dv = n from rfl, if_pos ⟨h1, h2⟩]
        have hout : ¬ (0 ≤ r' + n ∧ r' + n < tx.length) → afterL tx r a cs = none := fun h1 => by
          rw [hgo]
          simp only [afterL]
          rw [if_pos (show (Cmd.down n).vert = true from rfl), show (Cmd.down n).dv = n from rfl, if_neg h1]
        refine ⟨_, rfl, q, _, 0, _, rfl, rfl, hq, rfl, (by show 2 ≤ sizeLine; decide), fun p1 hp1 => ?_⟩
        have m1 := same_upd (Same.refl H2) hp1 (o := .tup [.str "down", .str "up"])
        refine ⟨p1, _, rfl, .inr (SqT.of upd_same), rfl, rfl, true, by decide +kernel, iteT ?_⟩
        refine ⟨_, rfl, _, rfl, q, _, 1, _, rfl, rfl, seq_t m1 hq, rfl, _, rfl, q, _, 1, _, rfl, rfl, seq_t m1 hq, rfl, _, _, rfl, rfl, (by show 2 ≤ sizeLine; decide), fun q2 hq2 => ?_⟩
        have m2 := same_upd m1 hq2 (o := .lst [.int n, .int (0 - n)])
        refine ⟨_, rfl, q, _, 0, _, rfl, rfl, seq_t m2 hq, rfl, rfl, .inr ⟨_, rfl, q2, _, _, _, rfl, rfl, SqL.of upd_same, at_f (by decide +kernel), _, _, rfl, rfl, ?_⟩⟩
        refine ⟨_, rfl, _, _, rfl, rfl, _, rfl, ite2 (fun c0 => ?_) (fun c0 => ?_)⟩
        · have c0' : 0 ≤ r' + n := of_decide_eq_true c0
          refine ⟨_, rfl, t, _, rfl, .inl (m2.seq htx), _, _, rfl, rfl, _, rfl, ?_⟩
          by_cases c1 : r' + n < ((tx.map V.int).length : Int)
          · refine iteNS c1 ?_
            have c1' : r' + n < tx.length := by
              rw [List.length_map] at c1
              exact c1
            exact ⟨r' + n, a', _, _, rfl, e2.trans m2, c0', c1', hin c0' c1'⟩
          · refine iteNF c1 ?_
            exact kn (hout fun z => c1 (by rw [List.length_map]; exact z.2)) _ (e2.trans m2)
        · refine ⟨_, rfl, ?_⟩
          refine iteT (B := _) ?_
          exact kn (hout fun z => c0 (decide_eq_true z.1)) _ (e2.trans m2)
      | up n =>
        have hin : 0 ≤ r' + (0 - n) → r' + (0 - n) < tx.length → afterL tx r a cs = afterL tx (r' + (0 - n)) a' (cs.drop (i + 1)) := fun h1 h2 => by
          rw [hgo]
          simp only [afterL]
          rw [if_pos (show (Cmd.up n).vert = true from rfl), show (Cmd.up n).dv = (0 - n) from (by show -n = 0 - n; omega), if_pos ⟨h1, h2⟩]
        have hout : ¬ (0 ≤ r' + (0 - n) ∧ r' + (0 - n) < tx.length) → afterL tx r a cs = none := fun h1 => by
          rw [hgo]
          simp only [afterL]
          rw [if_pos (show (Cmd.up n).vert = true from rfl), show (Cmd.up n).dv = (0 - n) from (by show -n = 0 - n; omega), if_neg h1]
        refine ⟨_, rfl, q, _, 0, _, rfl, rfl, hq, rfl, (by show 2 ≤ sizeLine; decide), fun p1 hp1 => ?_⟩
        have m1 := same_upd (Same.refl H2) hp1 (o := .tup [.str "down", .str "up"])
        refine ⟨p1, _, rfl, .inr (SqT.of upd_same), rfl, rfl, true, by decide +kernel, iteT ?_⟩
        refine ⟨_, rfl, _, rfl, q, _, 1, _, rfl, rfl, seq_t m1 hq, rfl, _, rfl, q, _, 1, _, rfl, rfl, seq_t m1 hq, rfl, _, _, rfl, rfl, (by show 2 ≤ sizeLine; decide), fun q2 hq2 => ?_⟩
        have m2 := same_upd m1 hq2 (o := .lst [.int n, .int (0 - n)])
        refine ⟨_, rfl, q, _, 0, _, rfl, rfl, seq_t m2 hq, rfl, rfl, .inr ⟨_, rfl, q2, _, _, _, rfl, rfl, SqL.of upd_same, at_t (by decide +kernel), _, _, rfl, rfl, ?_⟩⟩
        refine ⟨_, rfl, _, _, rfl, rfl, _, rfl, ite2 (fun c0 => ?_) (fun c0 => ?_)⟩
        · have c0' : 0 ≤ r' + (0 - n) := of_decide_eq_true c0
          refine ⟨_, rfl, t, _, rfl, .inl (m2.seq htx), _, _, rfl, rfl, _, rfl, ?_⟩
          by_cases c1 : r' + (0 - n) < ((tx.map V.int).length : Int)
          · refine iteNS c1 ?_
            have c1' : r' + (0 - n) < tx.length := by
              rw [List.length_map] at c1
              exact c1
            exact ⟨r' + (0 - n), a', _, _, rfl, e2.trans m2, c0', c1', hin c0' c1'⟩
          · refine iteNF c1 ?_
            exact kn (hout fun z => c1 (by rw [List.length_map]; exact z.2)) _ (e2.trans m2)
        · refine ⟨_, rfl, ?_⟩
          refine iteT (B := _) ?_
          exact kn (hout fun z => c0 (decide_eq_true z.1)) _ (e2.trans m2)
      | home =>
        have hin : afterL tx r a cs = afterL tx r' (some 0) (cs.drop (i + 1)) := by
          rw [hgo]
          simp only [afterL]
          rw [if_neg (show ¬ (Cmd.home).vert = true from Bool.false_ne_true)]
          rfl
        refine ⟨_, rfl, q, _, 0, _, rfl, rfl, hq, rfl, (by show 2 ≤ sizeLine; decide), fun p1 hp1 => ?_⟩
        have m1 := same_upd (Same.refl H2) hp1 (o := .tup [.str "down", .str "up"])
        refine ⟨p1, _, rfl, .inr (SqT.of upd_same), rfl, rfl, false, by decide +kernel, iteF ?_⟩
        refine ⟨_, rfl, q, _, 0, _, rfl, rfl, seq_t m1 hq, rfl, (by show 2 ≤ sizeLine; decide), fun p2 hp2 => ?_⟩
        have m2 := same_upd m1 hp2 (o := .tup [.str "home", .str "end"])
        refine ⟨p2, _, rfl, .inr (SqT.of upd_same), rfl, rfl, true, by decide +kernel, iteT ?_⟩
        refine ⟨_, rfl, q, _, 0, _, rfl, rfl, seq_t m2 hq, rfl, rfl, true, by decide +kernel, iteT ?_⟩
        exact ⟨r', (some 0), _, _, rfl, e2.trans m2, s0, s1, hin⟩
      | stop =>
        have hin : afterL tx r a cs = afterL tx r' none (cs.drop (i + 1)) := by
          rw [hgo]
          simp only [afterL]
          rw [if_neg (show ¬ (Cmd.stop).vert = true from Bool.false_ne_true)]
          rfl
        refine ⟨_, rfl, q, _, 0, _, rfl, rfl, hq, rfl, (by show 2 ≤ sizeLine; decide), fun p1 hp1 => ?_⟩
        have m1 := same_upd (Same.refl H2) hp1 (o := .tup [.str "down", .str "up"])
        refine ⟨p1, _, rfl, .inr (SqT.of upd_same), rfl, rfl, false, by decide +kernel, iteF ?_⟩
        refine ⟨_, rfl, q, _, 0, _, rfl, rfl, seq_t m1 hq, rfl, (by show 2 ≤ sizeLine; decide), fun p2 hp2 => ?_⟩
        have m2 := same_upd m1 hp2 (o := .tup [.str "home", .str "end"])
        refine ⟨p2, _, rfl, .inr (SqT.of upd_same), rfl, rfl, true, by decide +kernel, iteT ?_⟩
        refine ⟨_, rfl, q, _, 0, _, rfl, rfl, seq_t m2 hq, rfl, rfl, false, by decide +kernel, iteF ?_⟩
        exact ⟨r', none, _, _, rfl, e2.trans m2, s0, s1, hin⟩
      | left n =>
        have hin : ∀ sv : Int, sv = seen (lenAt tx r') a' → afterL tx r a cs = afterL tx r' (some (if sv - n > 0 then sv - n else 0)) (cs.drop (i + 1)) := fun sv e => by
          rw [hgo, max_if, e]
          simp only [afterL]
          rw [if_neg (show ¬ (Cmd.left n).vert = true from Bool.false_ne_true)]
          rfl
        refine ⟨_, rfl, q, _, 0, _, rfl, rfl, hq, rfl, (by show 2 ≤ sizeLine; decide), fun p1 hp1 => ?_⟩
        have m1 := same_upd (Same.refl H2) hp1 (o := .tup [.str "down", .str "up"])
        refine ⟨p1, _, rfl, .inr (SqT.of upd_same), rfl, rfl, false, by decide +kernel, iteF ?_⟩
        refine ⟨_, rfl, q, _, 0, _, rfl, rfl, seq_t m1 hq, rfl, (by show 2 ≤ sizeLine; decide), fun p2 hp2 => ?_⟩
        have m2 := same_upd m1 hp2 (o := .tup [.str "home", .str "end"])
        refine ⟨p2, _, rfl, .inr (SqT.of upd_same), rfl, rfl, false, by decide +kernel, iteF ?_⟩
        have ht2 := m2.seq htx
        have hq2 := seq_t m2 hq
        cases a' with
        | none =>
          refine ⟨_, rfl, rfl, _, rfl, iteT ?_⟩
          refine ⟨_, rfl, _, rfl, t, _, _, _, rfl, rfl, ht2, al, ?_⟩
          refine ⟨_, rfl, q, _, 0, _, rfl, rfl, hq2, rfl, rfl, true, by decide +kernel, iteT ?_⟩
          refine ⟨_, rfl, _, rfl, q, _, 1, _, rfl, rfl, hq2, rfl, _, _, rfl, rfl, _, _, rfl, ?_⟩
          exact ⟨r', _, _, _, rfl, e2.trans m2, s0, s1, hin (lenAt tx r') rfl⟩
        | some x =>
          refine ⟨_, rfl, rfl, _, rfl, iteF ?_⟩
          refine ⟨_, rfl, _, rfl, _, rfl, t, _, _, _, rfl, rfl, ht2, al, _, _, rfl, ?_⟩
          refine ⟨_, rfl, q, _, 0, _, rfl, rfl, hq2, rfl, rfl, true, by decide +kernel, iteT ?_⟩
          refine ⟨_, rfl, _, rfl, q, _, 1, _, rfl, rfl, hq2, rfl, _, _, rfl, rfl, _, _, rfl, ?_⟩
          exact ⟨r', _, _, _, rfl, e2.trans m2, s0, s1, hin (if lenAt tx r' < x then lenAt tx r' else x) (min_if x (lenAt tx r'))⟩
      | right n =>
        have hin : ∀ sv : Int, sv = seen (lenAt tx r') a' → afterL tx r a cs = afterL tx r' (some (if lenAt tx r' < sv + n then lenAt tx r' else sv + n)) (cs.drop (i + 1)) := fun sv e => by
          rw [hgo, min_if, e]
          simp only [afterL]
          rw [if_neg (show ¬ (Cmd.right n).vert = true from Bool.false_ne_true)]
          rfl
        refine ⟨_, rfl, q, _, 0, _, rfl, rfl, hq, rfl, (by show 2 ≤ sizeLine; decide), fun p1 hp1 => ?_⟩
        have m1 := same_upd (Same.refl H2) hp1 (o := .tup [.str "down", .str "up"])
        refine ⟨p1, _, rfl, .inr (SqT.of upd_same), rfl, rfl, false, by decide +kernel, iteF ?_⟩
        refine ⟨_, rfl, q, _, 0, _, rfl, rfl, seq_t m1 hq, rfl, (by show 2 ≤ sizeLine; decide), fun p2 hp2 => ?_⟩
        have m2 := same_upd m1 hp2 (o := .tup [.str "home", .str "end"])
        refine ⟨p2, _, rfl, .inr (SqT.of upd_same), rfl, rfl, false, by decide +kernel, iteF ?_⟩
        have ht2 := m2.seq htx
        have hq2 := seq_t m2 hq
        cases a' with
        | none =>
          refine ⟨_, rfl, rfl, _, rfl, iteT ?_⟩
          refine ⟨_, rfl, _, rfl, t, _, _, _, rfl, rfl, ht2, al, ?_⟩
          refine ⟨_, rfl, q, _, 0, _, rfl, rfl, hq2, rfl, rfl, false, by decide +kernel, iteF ?_⟩
          refine ⟨_, rfl, _, rfl, q, _, 1, _, rfl, rfl, hq2, rfl, _, _, rfl, rfl, _, rfl, _, rfl, t, _, _, _, rfl, rfl, ht2, al, _, _, rfl, ?_⟩
          exact ⟨r', _, _, _, rfl, e2.trans m2, s0, s1, hin (lenAt tx r') rfl⟩
        | some x =>
          refine ⟨_, rfl, rfl, _, rfl, iteF ?_⟩
          refine ⟨_, rfl, _, rfl, _, rfl, t, _, _, _, rfl, rfl, ht2, al, _, _, rfl, ?_⟩
          refine ⟨_, rfl, q, _, 0, _, rfl, rfl, hq2, rfl, rfl, false, by decide +kernel, iteF ?_⟩
          refine ⟨_, rfl, _, rfl, q, _, 1, _, rfl, rfl, hq2, rfl, _, _, rfl, rfl, _, rfl, _, rfl, t, _, _, _, rfl, rfl, ht2, al, _, _, rfl, ?_⟩
          exact ⟨r', _, _, _, rfl, e2.trans m2, s0, s1, hin (if lenAt tx r' < x then lenAt tx r' else x) (min_if x (lenAt tx r'))⟩
    · obtain ⟨r', a', v5, v6, rfl, e2, s0, s1, hgo⟩ := h
      rw [hcs.len, List.drop_length] at hgo
      refine ⟨_, rfl, _, rfl, (by show 2 ≤ sizeLine; decide), fun p hp => ?_⟩
      exact ks r' a' hgo _ p (same_upd e2 hp) (e2.free hp) upd_same
end
end Gc

namespace Gc
open PySem L2
abbrev s_least : Stmt := top 27
theorem rep_ints : ∀ n : Nat, (List.replicate n [V.int 0]).flatten = (List.replicate n (0 : Int)).map V.int
  | 0 => rfl
  | n + 1 => by
    rw [List.replicate_succ, List.replicate_succ, List.flatten_cons, List.map_cons, rep_ints n]
    rfl
theorem ixN_int {n : Nat} {k : Int} (h0 : 0 ≤ k) (h1 : k.toNat < n) : ixN n k = some k.toNat := by
  unfold ixN
  rw [if_pos h0, if_pos (by omega)]
/-- what least_text tells -/
def leastM (cs : List Cmd) (goal : Int) : Option (List Int × Int × Int) := (boxM cs goal).map fun x => (textM (rchM cs).1 (rchM cs).2.1 x.2, -(rchM cs).1, x.1.getD 0)
def LeastAt (H H' : Hp) (p : Addr) (x : List Int × Int × Int) : Prop := ∃ t b, H p = none ∧ H t = none ∧ H b = none ∧ H' p = some (.tup [.ref t, .ref b]) ∧ H' t = some (.lst (x.1.map V.int)) ∧ H' b = some (.tup [.int x.2.1, .int x.2.2])
def spLeast (K : PySem.W.Frag) : Sp := fun vs H Q _ => ∃ (l : Addr) (xs : List V) (cs : List Cmd) (goal : Int), vs = [.ref l, .int goal] ∧ SqL K H l xs ∧ CmdsOf K H xs cs ∧ AllOk cs ∧ cs.length ≤ 10000 ∧ 1 ≤ goal ∧ (rchM cs).2.1 - (rchM cs).1 < 10000 ∧
  (leastM cs goal = none → ∀ H', Same H H' → Q .non H') ∧ ∀ x, leastM cs goal = some x → ∀ H' p, Same H H' → LeastAt H H' p x → Q (.ref p) H'
section
variable {P : Program} {w : World} {K : PySem.W.Frag} {mg : Str → Option Value} {base : Heap}
theorem sc_least_text : FnScope ["commands", "goal", "found", "start", "lines", "least", "greatest", "_", "text", "offset", "bound"] ["commands", "goal"] (defScope s_least) := ⟨rfl, rfl, rfl, by decide +kernel, rfl, by decide +kernel, by decide +kernel⟩
theorem ok_least_text {f : Addr} {fd : FuncData} (F : Fun K "least_text" "least_text" s_least f fd) (c_box : Cal P w K mg base 5 "box" (spBox K)) (c_reach : Cal P w K mg base 4 "reach" (spReach K)) : FnOk P w K mg base CX0 6 f fd ["commands", "goal"] (spLeast K) := by
  refine F.ok sc_least_text (fun vs H Q E h => ?_) (fun cdv A outer s H vs Q E hr h => ?_)
  · obtain ⟨l, xs, cs, goal, rfl, _⟩ := h
    rfl
  · obtain ⟨l, xs, cs, goal, rfl, hl, hcs, ok, ln, hg, hh, kn, ks⟩ := h
    refine ⟨_, (pss_cons (ps_set (i := 2) sc_least_text.nd rfl (Or.inl rfl) (pe_cal c_box hr (by decide) (by rfl) (pa_cons (pv 0) (pa_cons (pv 1) pa_nil))))
      (pss_cons (ps_if (pt_cmpR op_isN (pv 2) pe_non (nomark _)) (pss_one (ps_ret pe_non)) pss_nil)
      (pss_cons (ps_asg (pv 2) (pg_tup rfl (pgs_cons (pg_name (i := 3) sc_least_text.nd rfl (Or.inl rfl)) (pgs_cons (pg_name (i := 4) sc_least_text.nd rfl (Or.inl rfl)) pgs_nil))))
      (pss_cons (ps_asg (pe_cal c_reach hr (by decide) (by rfl) (pa_cons (pv 0) pa_nil)) (pg_tup rfl (pgs_cons (pg_name (i := 5) sc_least_text.nd rfl (Or.inl rfl)) (pgs_cons (pg_name (i := 6) sc_least_text.nd rfl (Or.inl rfl)) (pgs_cons (pg_name (i := 7) sc_least_text.nd rfl (Or.inl rfl)) pgs_nil)))))
      (pss_cons (ps_set (i := 8) sc_least_text.nd rfl (Or.inl rfl) (pe_op op_rep (pe_lst (pa_cons pe_int pa_nil)) (pe_op op_add (pe_op op_sub (pv 6) (pv 5)) pe_int)))
      (pss_cons (ps_for PassesOwn.never rfl (pi_list (pv 4)) (pg_tup rfl (pgs_cons (pg_name (i := 9) sc_least_text.nd rfl (Or.inl rfl)) (pgs_cons (pg_name (i := 10) sc_least_text.nd rfl (Or.inl rfl)) pgs_nil))) (pss_one (ps_asg (pv 10) (pg_sub (pv 8) (pe_op op_sub (pv 9) (pv 5)) set_list))))
      (pss_one (ps_ret (pe_tup (pa_cons (pv 8) (pa_cons (pe_tup (pa_cons (pe_un un_neg (pv 5)) (pa_cons (pe_ifExp (pt_cmpR op_isN (pv 3) pe_non (nomark _)) pe_int (pv 3)) pa_nil))) pa_nil))))))))))), ?_⟩
    have hw := rch_within cs
    rcases box_spec ok hg with ⟨b1, _⟩ | ⟨st, b, b1, gb, _, pb⟩
    · refine ⟨_, rfl, _, rfl, l, xs, cs, goal, rfl, hl, hcs, ok, ln, hg, fun _ H1 e1 => ?_, fun st L z => absurd (b1.symm.trans z) (by intro q; cases q)⟩
      refine ⟨_, rfl, rfl, _, rfl, iteT ?_⟩
      exact kn (by unfold leastM; rw [b1]; rfl) _ e1
    refine ⟨_, rfl, _, rfl, l, xs, cs, goal, rfl, hl, hcs, ok, ln, hg, fun z => absurd (b1.symm.trans z) (by intro q; cases q), fun st' L' z H1 np e1 bx => ?_⟩
    have z' : (st, b.mergeSort leK) = (st', L') := Option.some.inj (b1.symm.trans z)
    cases z'
    have gL := good_perm gb (List.mergeSort_perm b leK)
    have lL := box_len b1
    have wL := box_within b1 hw.1
    generalize hL : b.mergeSort leK = L at *
    obtain ⟨m, ts, n1, n2, h1, h2, hp⟩ := bx
    have tl : ts.length = L.length := Paired.length hp
    have zz := hw.1.zero
    refine ⟨_, rfl, rfl, _, rfl, iteF ?_⟩
    -- start, lines = found
    refine ⟨_, rfl, np, _, rfl, SqT.of h1, rfl, _, _, rfl, _, _, rfl, rfl, ?_⟩
    -- least, greatest, _ = reach(commands)
    refine ⟨_, rfl, l, xs, cs, rfl, e1.seq hl, hcs.same e1, ok, ln, fun H2 p2 e2 f2 h3 => ?_⟩
    refine ⟨p2, _, rfl, SqT.of h3, rfl, _, _, rfl, _, _, rfl, _, _, rfl, rfl, ?_⟩
    generalize hlo : (rchM cs).1 = lo at *
    generalize hhi : (rchM cs).2.1 = hi at *
    refine ⟨(by show 1 ≤ sizeLine; decide), fun q0 hq0 => ?_⟩
    have s2 := same_upd (Same.refl H2) hq0 (o := .lst [.int 0])
    refine ⟨_, rfl, _, rfl, _, _, rfl, rfl, _, _, rfl, rfl, q0, hi - lo + 1, [.int 0], rfl, rfl, upd_same, by omega, by omega, ?_, fun T0 hT0 => ?_⟩
    · show 1 * (hi - lo + 1).toNat ≤ sizeLine
      exact Nat.le_trans (show 1 * (hi - lo + 1).toNat ≤ 10001 by omega) (by decide)
    rw [show (List.replicate (hi - lo + 1).toNat [V.int 0]).flatten = (List.replicate (hi - lo + 1).toNat (0 : Int)).map V.int from rep_ints _]
    generalize gH3 : upd (upd H2 q0 (.lst [.int 0])) T0 (.lst ((List.replicate (hi - lo + 1).toNat (0 : Int)).map V.int)) = H3
    have e23 : Same H2 H3 := by rw [← gH3]; exact same_upd s2 hT0
    have hT3 : H3 T0 = some (.lst ((List.replicate (hi - lo + 1).toNat (0 : Int)).map V.int)) := by rw [← gH3]; exact upd_same
    have T2 : H2 T0 = none := s2.free hT0
    have e13 := e2.trans e23
    have e03 := e1.trans e13
    have nT : ∀ {x : Addr} {o : HO}, H2 x = some o → x ≠ T0 := fun h => ne_of_none h T2
    have hm3 := e13 _ _ h2
    have nm : m ≠ T0 := nT (e2 _ _ h2)
    refine ⟨_, rfl, m, rfl, ⟨_, SqL.of hm3⟩, for_list (K := K) (a := m) (xs := ts.map V.ref) (fun i σ H' => ∃ v9 v10 : Option V, σ = [some (.ref l), some (.int goal), some (.ref np), some (optV st), some (.ref m), some (.int lo), some (.int hi), some (.int (last cs)), some (.ref T0), v9, v10] ∧
        Keep T0 T0 H3 H' ∧ H' T0 = some (.lst ((setAll lo (List.replicate (hi - lo + 1).toNat 0) (L.take i)).map V.int)))
      ⟨none, none, rfl, Keep.refl H3, hT3⟩ (fun i σ H' _ ⟨_, _, _, e, _⟩ => SqL.of (e _ _ nm nm hm3)) (fun i x σ H5 hi' h => ?_) (fun σ H5 h => ?_)⟩
    · obtain ⟨v9, v10, rfl, kp, hd5⟩ := h
      obtain ⟨t, ht, rfl⟩ := ref_at hi'
      obtain ⟨q, hq, ht1⟩ := paired_at hp ht
      have nt : t ≠ T0 := nT (e2 _ _ ht1)
      have wq := wL q (List.mem_of_getElem? hq)
      refine ⟨t, _, rfl, SqT.of (kp _ _ nt nt (e13 _ _ ht1)), rfl, _, _, rfl, _, _, rfl, rfl, ?_⟩
      refine ⟨_, rfl, _, rfl, _, rfl, _, rfl, _, _, rfl, rfl, T0, _, q.1 - lo, (q.1 - lo).toNat, rfl, rfl, hd5, ?_, ?_⟩
      · refine ixN_int (by omega) ?_
        rw [List.length_map, setAll_len, List.length_replicate]
        omega
      · refine ⟨_, _, rfl, kp.upd1, ?_⟩
        rw [upd_same, take_snoc hq]
        unfold setAll
        rw [List.foldl_append, ← List.map_set]
        rfl
    · obtain ⟨v9, v10, rfl, kp, hd5⟩ := h
      rw [List.length_map, tl, List.take_length] at hd5
      have hdH : H T0 = none := e1.free (e2.free T2)
      have e05 : Same H H5 := fun b o hb => kp b o (ne_of_none hb hdH) (ne_of_none hb hdH) (e03 b o hb)
      have fin : ∀ x : Int, x = st.getD 0 → tTup (fun σ' H' Q' => Q' [V.int (-lo), V.int x] H') [] H5 (fun bv H6 => ([V.ref T0, bv]).length ≤ sizeLine ∧ ∀ p, H6 p = none → Q (.ref p) (upd H6 p (.tup [.ref T0, bv]))) := fun x ex => by
        refine ⟨(by show 2 ≤ sizeLine; decide), fun bp hbp => ⟨(by show 2 ≤ sizeLine; decide), fun p np6 => ?_⟩⟩
        have s5 := same_upd (Same.refl H5) hbp (o := .tup [.int (-lo), .int x])
        have s6 := same_upd s5 np6 (o := .tup [.ref T0, .ref bp])
        have s6' := same_upd (Same.refl _) np6 (o := .tup [.ref T0, .ref bp])
        refine ks (textM lo hi L, -lo, st.getD 0) (by unfold leastM; rw [b1, hlo, hhi]; rfl) _ p (e05.trans s6) ⟨T0, bp, (e05.trans s5).free np6, hdH, e05.free hbp, upd_same, s6 _ _ hd5, ?_⟩
        rw [← ex]
        exact s6' _ _ upd_same
      cases st with
      | none => exact ⟨_, rfl, _, rfl, _, rfl, _, rfl, rfl, _, rfl, iteT (fin 0 rfl)⟩
      | some n => exact ⟨_, rfl, _, rfl, _, rfl, _, rfl, rfl, _, rfl, iteF ⟨_, rfl, fin n rfl⟩⟩
end
end Gc

/-! running, where nothing is raised -/
namespace Gc
open PySem L2
abbrev s_check_text : Stmt := top 11
abbrev s_check_cursor : Stmt := top 12
abbrev s_run : Stmt := top 18
abbrev s_shown_column : Stmt := top 20
abbrev s_moved : Stmt := top 22
abbrev s_new_goal : Stmt := top 23
theorem at_len' {T : List Int} {r : Int} (h0 : 0 ≤ r) (h1 : r < T.length) : atI (T.map V.int) r = some (.int (lenAt T r)) := by
  have e : r = (r.toNat : Int) := by omega
  refine at_of (j := r.toNat) e ?_
  have l : r.toNat < T.length := by omega
  unfold lenAt
  rw [List.getElem?_map, List.getD_eq_getElem?_getD, List.getElem?_eq_getElem l]
  rfl
theorem minI (i j : Int) : (if j < i then j else i) = min i j := by split <;> omega
theorem maxI (i j : Int) : (if j > i then j else i) = max i j := by split <;> omega
theorem iteN1 {c A B : Prop} [Decidable c] (hc : c) (h : B) : if (!decide c) = true then A else B := by
  rw [decide_eq_true hc]
  exact iteF h
theorem iteN0 {c A B : Prop} [Decidable c] (hc : ¬ c) (h : A) : if (!decide c) = true then A else B := by
  rw [decide_eq_false hc]
  exact iteT h
def spText (K : PySem.W.Frag) : Sp := fun vs H Q _ => ∃ (t : Addr) (T : List Int), vs = [.ref t] ∧ SqL K H t (T.map V.int) ∧ T ≠ [] ∧ (∀ x ∈ T, 0 ≤ x) ∧ ∀ H', Same H H' → Q .non H'
def spCursor (K : PySem.W.Frag) : Sp := fun vs H Q _ => ∃ (n r : Int) (g : Option Int) (c : Addr), vs = [.int n, .ref c] ∧ SqT K H c [.int r, optV g] ∧ 0 ≤ r ∧ r < n ∧ ge g 0 ∧ Q .non H
def spShown : Sp := fun vs H Q _ => ∃ (t : Int) (g : Option Int), vs = [.int t, optV g] ∧ Q (.int (seen t g)) H
def spGoal (K : PySem.W.Frag) : Sp := fun vs H Q _ => ∃ (t : Int) (g : Option Int) (v : V) (c : Cmd), vs = [.int t, optV g, v] ∧ CmdAt K H v c ∧ Q (optV (aim1 t g c)) H
/-- one command: None, or the new cursor -/
def step1 (T : List Int) (r : Int) (g : Option Int) (c : Cmd) : Option (Int × Option Int) := if 0 ≤ r + c.dv ∧ r + c.dv < T.length then some (r + c.dv, aim1 (lenAt T (r + c.dv)) g c) else none
def spMoved (K : PySem.W.Frag) : Sp := fun vs H Q _ => ∃ (t b : Addr) (T : List Int) (r : Int) (g : Option Int) (v : V) (c : Cmd), vs = [.ref t, .ref b, v] ∧ SqL K H t (T.map V.int) ∧ SqT K H b [.int r, optV g] ∧ CmdAt K H v c ∧
  (step1 T r g c = none → Q .non H) ∧ ∀ r' g', step1 T r g c = some (r', g') → ∀ p, H p = none → Q (.ref p) (upd H p (.tup [.int r', optV g']))
def spRun (K : PySem.W.Frag) : Sp := fun vs H Q _ => ∃ (t b l : Addr) (T : List Int) (r : Int) (g : Option Int) (xs : List V) (cs : List Cmd) (r' : Int) (g' : Option Int), vs = [.ref t, .ref b, .ref l] ∧ SqL K H t (T.map V.int) ∧ SqT K H b [.int r, optV g] ∧ SqL K H l xs ∧ CmdsOf K H xs cs ∧
  (∀ x ∈ T, 0 ≤ x) ∧ 0 ≤ r ∧ r < T.length ∧ ge g 0 ∧ AllOk cs ∧ cs.length ≤ 10000 ∧ afterL T r g cs = some (r', g') ∧ ∀ (H' : Hp) (p : Addr), Same H H' → SqT K H' p [.int r', optV g'] → Q (.ref p) H'
theorem aim1_vert {t t' : Int} {g : Option Int} {c : Cmd} (h : c.vert = true) : aim1 t g c = g := by cases c <;> first | rfl | cases h
theorem dv_flat {c : Cmd} (h : ¬ c.vert = true) : c.dv = 0 := by cases c <;> first | rfl | exact absurd rfl h
theorem afterL_cons {T : List Int} {r : Int} {g : Option Int} {c : Cmd} {cs : List Cmd} (h0 : 0 ≤ r) (h1 : r < T.length) : afterL T r g (c :: cs) = (step1 T r g c).bind fun q => afterL T q.1 q.2 cs := by
  unfold step1
  simp only [afterL]
  by_cases v : c.vert = true
  · rw [if_pos v]
    by_cases i : 0 ≤ r + c.dv ∧ r + c.dv < T.length
    · rw [if_pos i, if_pos i, aim1_vert (t' := 0) v]
      rfl
    · rw [if_neg i, if_neg i]
      rfl
  · rw [if_neg v, dv_flat v, Int.add_zero, if_pos ⟨h0, h1⟩]
    rfl
theorem step1_in {T : List Int} {r r' : Int} {g g' : Option Int} {c : Cmd} (h : step1 T r g c = some (r', g')) : 0 ≤ r' ∧ r' < T.length := by
  unfold step1 at h
  split at h
  · rename_i i
    cases h
    exact i
  · cases h
section
variable {P : Program} {w : World} {K : PySem.W.Frag} {mg : Str → Option Value} {base : Heap} {wo wn : Addr}
theorem sc_check_text : FnScope ["text", "index", "length"] ["text"] (defScope s_check_text) := ⟨rfl, rfl, rfl, by decide +kernel, rfl, by decide +kernel, by decide +kernel⟩
theorem ok_check_text {f : Addr} {fd : FuncData} (F : Fun K "check_text" "check_text" s_check_text f fd) (T : TxtB K mg wo wn) : FnOk P w K mg base CX0 1 f fd ["text"] (spText K) := by
  refine F.ok sc_check_text (fun vs H Q E h => ?_) (fun cdv A outer s H vs Q E hr h => ?_)
  · obtain ⟨t, T, rfl, _⟩ := h
    rfl
  · obtain ⟨t, tx, rfl, ht, ne, nn, k⟩ := h
    refine ⟨_, (pss_cons (ps_if (pt_not (pt_truth (pv 0) (fun _ => rfl))) (pss_one ps_never) pss_nil)
      (pss_one (ps_for PassesOwn.never rfl (pi_enum (by rfl) T.enumerate (pa_cons (pv 0) pa_nil)) (pg_tup rfl (pgs_cons (pg_name (i := 1) sc_check_text.nd rfl (Or.inl rfl)) (pgs_cons (pg_name (i := 2) sc_check_text.nd rfl (Or.inl rfl)) pgs_nil))) (pss_one (ps_if (pt_cmpR op_lt (pv 2) pe_int (nomark _)) (pss_one ps_never) pss_nil))))), ?_⟩
    refine ⟨_, rfl, true, .inl ⟨_, ht, ?_⟩, iteF ?_⟩
    · cases tx with
      | nil => exact absurd rfl ne
      | cons x r => rfl
    refine ⟨_, rfl, t, _, rfl, ht, for_it (walk_enum (K := K) (a := t) (xs := tx.map V.int)) (fun i σ H' => ∃ v1 v2 : Option V, σ = [some (.ref t), v1, v2] ∧ Same H H')
      ⟨none, none, rfl, Same.refl H⟩ (fun i σ H' _ ⟨_, _, _, e⟩ => e.seq ht) (fun i x σ H1 H2 hi h y => ?_) (fun σ H1 h => ?_)⟩
    · obtain ⟨v1, v2, rfl, e⟩ := h
      obtain ⟨T1, x1, y1, rfl, nT, rfl, e1, e2⟩ := y
      obtain ⟨z, hz, rfl⟩ : ∃ z, tx[i]? = some z ∧ y1 = .int z := by
        have e3 : (tx.map V.int)[i]? = some y1 := e2
        rw [List.getElem?_map] at e3
        cases q : tx[i]? with
        | none =>
          rw [q] at e3
          cases e3
        | some z =>
          rw [q] at e3
          exact ⟨z, rfl, (Option.some.inj e3).symm⟩
      have z0 := nn z (List.mem_of_getElem? hz)
      refine ⟨T1, _, rfl, SqT.of upd_same, rfl, _, _, rfl, _, _, rfl, rfl, ?_⟩
      refine ⟨_, rfl, _, _, rfl, rfl, _, rfl, ite2 (fun c => absurd (of_decide_eq_true c) (by omega)) (fun _ => ?_)⟩
      exact ⟨_, _, rfl, same_upd e nT⟩
    · obtain ⟨v1, v2, rfl, e⟩ := h
      exact k _ e
theorem sc_check_cursor : FnScope ["lines", "cursor", "row", "goal"] ["lines", "cursor"] (defScope s_check_cursor) := ⟨rfl, rfl, rfl, by decide +kernel, rfl, by decide +kernel, by decide +kernel⟩
theorem ok_check_cursor {f : Addr} {fd : FuncData} (F : Fun K "check_cursor" "check_cursor" s_check_cursor f fd) : FnOk P w K mg base CX0 1 f fd ["lines", "cursor"] (spCursor K) := by
  refine F.ok sc_check_cursor (fun vs H Q E h => ?_) (fun cdv A outer s H vs Q E hr h => ?_)
  · obtain ⟨n, r, g, c, rfl, _⟩ := h
    rfl
  · obtain ⟨n, r, g, c, rfl, hc, r0, r1, g0, k⟩ := h
    refine ⟨_, (pss_cons (ps_asg (pv 1) (pg_tup rfl (pgs_cons (pg_name (i := 2) sc_check_cursor.nd rfl (Or.inl rfl)) (pgs_cons (pg_name (i := 3) sc_check_cursor.nd rfl (Or.inl rfl)) pgs_nil))))
      (pss_one (ps_if (PW.pt (pw_or (pt_not (pt_chain op_le op_lt pe_int (pv 2) (pv 0))) (pw_or1 (PW.pt (pw_and (pt_cmpR op_notN (pv 3) pe_non (nomark _)) (pw_and1 (pt_cmpR op_lt (pv 3) pe_int (nomark _)))))))) (pss_one ps_never) pss_nil))), ?_⟩
    refine ⟨_, rfl, c, _, rfl, hc, rfl, _, _, rfl, _, _, rfl, rfl, ?_⟩
    refine ⟨_, rfl, _, _, rfl, rfl, _, rfl, ite2 (fun _ => ?_) (fun c => absurd (decide_eq_true r0) c)⟩
    refine ⟨_, rfl, _, _, rfl, rfl, _, rfl, ?_⟩
    refine iteN1 r1 ?_
    cases g with
    | none => exact ⟨_, rfl, rfl, _, rfl, iteF (iteF k)⟩
    | some y =>
      have y0 := ge_some.mp g0
      refine ⟨_, rfl, rfl, _, rfl, iteT ?_⟩
      refine ⟨_, rfl, _, _, rfl, rfl, _, rfl, ite2 (fun c => absurd (of_decide_eq_true c) (by omega)) (fun _ => k)⟩
theorem sc_shown_column : FnScope ["length", "goal"] ["length", "goal"] (defScope s_shown_column) := ⟨rfl, rfl, rfl, by decide +kernel, rfl, by decide +kernel, by decide +kernel⟩
theorem ok_shown_column {f : Addr} {fd : FuncData} (F : Fun K "shown_column" "shown_column" s_shown_column f fd) (T : TxtB K mg wo wn) : FnOk P w K mg base CX0 1 f fd ["length", "goal"] spShown := by
  refine F.ok sc_shown_column (fun vs H Q E h => ?_) (fun cdv A outer s H vs Q E hr h => ?_)
  · obtain ⟨t, g, rfl, _⟩ := h
    rfl
  · obtain ⟨t, g, rfl, k⟩ := h
    refine ⟨_, (pss_one (ps_ret (pe_ifExp (pt_cmpR op_isN (pv 1) pe_non (nomark _)) (pv 0) (pe_callB (call_min2 rfl) (by rfl) T.min (by decide +kernel) (pa_cons (pv 1) (pa_cons (pv 0) pa_nil)))))), ?_⟩
    cases g with
    | none => exact ⟨_, rfl, rfl, _, rfl, iteT ⟨_, rfl, k⟩⟩
    | some y =>
      refine ⟨_, rfl, rfl, _, rfl, iteF ?_⟩
      refine ⟨_, rfl, _, rfl, _, _, rfl, ?_⟩
      show Q (.int (if t < y then t else y)) H
      rw [minI]
      exact k
theorem sc_new_goal : FnScope ["length", "goal", "command"] ["length", "goal", "command"] (defScope s_new_goal) := ⟨rfl, rfl, rfl, by decide +kernel, rfl, by decide +kernel, by decide +kernel⟩
theorem ok_new_goal {f : Addr} {fd : FuncData} (F : Fun K "new_goal" "new_goal" s_new_goal f fd) (T : TxtB K mg wo wn) (c_shown_column : Cal P w K mg base 1 "shown_column" spShown) : FnOk P w K mg base CX0 2 f fd ["length", "goal", "command"] (spGoal K) := by
  refine F.ok sc_new_goal (fun vs H Q E h => ?_) (fun cdv A outer s H vs Q E hr h => ?_)
  · obtain ⟨t, g, v, c, rfl, _⟩ := h
    rfl
  · obtain ⟨t, g, v, c, rfl, ⟨a, rfl, hc⟩, k⟩ := h
    refine ⟨_, (pss_one (ps_match (pe_ix ix_tup (pv 2) pe_int (fun _ _ => rfl)) (mc_str (pss_one (ps_ret pe_int)) (mc_str (pss_one (ps_ret pe_non)) (mc_str (pss_one (ps_ret (pe_callB (call_min2 rfl) (by rfl) T.min (by decide +kernel) (pa_cons (pe_op op_add (pe_cal c_shown_column hr (by decide) (by rfl) (pa_cons (pv 0) (pa_cons (pv 1) pa_nil))) (pe_ix ix_tup (pv 2) pe_int (fun _ _ => rfl))) (pa_cons (pv 0) pa_nil))))) (mc_str (pss_one (ps_ret (pe_callB (call_max2 rfl) (by rfl) T.max (by decide +kernel) (pa_cons (pe_op op_sub (pe_cal c_shown_column hr (by decide) (by rfl) (pa_cons (pv 0) (pa_cons (pv 1) pa_nil))) (pe_ix ix_tup (pv 2) pe_int (fun _ _ => rfl))) (pa_cons pe_int pa_nil))))) (mc_any (pss_one (ps_ret (pv 1)))))))))), ?_⟩
    cases c with
    | home => exact ⟨_, rfl, a, _, 0, _, rfl, rfl, hc, rfl, m_yes (by decide +kernel) k⟩
    | stop => exact ⟨_, rfl, a, _, 0, _, rfl, rfl, hc, rfl, m_no (by decide +kernel) (m_yes (by decide +kernel) k)⟩
    | right n =>
      refine ⟨_, rfl, a, _, 0, _, rfl, rfl, hc, rfl, m_no (by decide +kernel) (m_no (by decide +kernel) (m_yes (by decide +kernel) ?_))⟩
      refine ⟨_, rfl, _, rfl, t, g, rfl, _, rfl, a, _, 1, _, rfl, rfl, hc, rfl, _, _, rfl, rfl, _, rfl, _, _, rfl, ?_⟩
      show Q (.int (if t < seen t g + n then t else seen t g + n)) H
      rw [minI]
      exact k
    | left n =>
      refine ⟨_, rfl, a, _, 0, _, rfl, rfl, hc, rfl, m_no (by decide +kernel) (m_no (by decide +kernel) (m_no (by decide +kernel) (m_yes (by decide +kernel) ?_)))⟩
      refine ⟨_, rfl, _, rfl, t, g, rfl, _, rfl, a, _, 1, _, rfl, rfl, hc, rfl, _, _, rfl, rfl, _, _, rfl, ?_⟩
      show Q (.int (if 0 > seen t g - n then 0 else seen t g - n)) H
      rw [maxI, Int.max_comm]
      exact k
    | down n => exact ⟨_, rfl, a, _, 0, _, rfl, rfl, hc, rfl, m_no (by decide +kernel) (m_no (by decide +kernel) (m_no (by decide +kernel) (m_no (by decide +kernel) ⟨_, rfl, k⟩)))⟩
    | up n => exact ⟨_, rfl, a, _, 0, _, rfl, rfl, hc, rfl, m_no (by decide +kernel) (m_no (by decide +kernel) (m_no (by decide +kernel) (m_no (by decide +kernel) ⟨_, rfl, k⟩)))⟩
theorem sc_moved : FnScope ["text", "cursor", "command", "row"] ["text", "cursor", "command"] (defScope s_moved) := ⟨rfl, rfl, rfl, by decide +kernel, rfl, by decide +kernel, by decide +kernel⟩
theorem ok_moved {f : Addr} {fd : FuncData} (F : Fun K "moved" "moved" s_moved f fd) (T : TxtB K mg wo wn) (c_row_change : Cal P w K mg base 1 "row_change" (spRow K)) (c_new_goal : Cal P w K mg base 2 "new_goal" (spGoal K)) : FnOk P w K mg base CX0 3 f fd ["text", "cursor", "command"] (spMoved K) := by
  refine F.ok sc_moved (fun vs H Q E h => ?_) (fun cdv A outer s H vs Q E hr h => ?_)
  · obtain ⟨t, b, tx, r, g, v, c, rfl, _⟩ := h
    rfl
  · obtain ⟨t, b, tx, r, g, v, c, rfl, ht, hb, hv, kn, ks⟩ := h
    refine ⟨_, (pss_cons (ps_set (i := 3) sc_moved.nd rfl (Or.inl rfl) (pe_op op_add (pe_ix ix_tup (pv 1) pe_int (fun _ _ => rfl)) (pe_cal c_row_change hr (by decide) (by rfl) (pa_cons (pv 2) pa_nil))))
      (pss_cons (ps_if (pt_not (pt_chain op_le op_lt pe_int (pv 3) (pe_callB call_len_seq (by rfl) T.len (by decide +kernel) (pa_cons (pv 0) pa_nil)))) (pss_one (ps_ret pe_non)) pss_nil)
      (pss_one (ps_ret (pe_tup (pa_cons (pv 3) (pa_cons (pe_cal c_new_goal hr (by decide) (by rfl) (pa_cons (pe_ix ix_list (pv 0) (pv 3) (fun _ _ => rfl)) (pa_cons (pe_ix ix_tup (pv 1) pe_int (fun _ _ => rfl)) (pa_cons (pv 2) pa_nil)))) pa_nil))))))), ?_⟩
    refine ⟨_, rfl, b, _, 0, _, rfl, rfl, hb, rfl, _, rfl, v, c, rfl, hv, _, _, rfl, rfl, ?_⟩
    have out : ¬ (0 ≤ r + c.dv ∧ r + c.dv < tx.length) → Q .non H := fun z => kn (by unfold step1; rw [if_neg z])
    refine ⟨_, rfl, _, _, rfl, rfl, _, rfl, ite2 (fun c0 => ?_) (fun c0 => ?_)⟩
    · have c0' : 0 ≤ r + c.dv := of_decide_eq_true c0
      refine ⟨_, rfl, t, _, rfl, .inl ht, _, _, rfl, rfl, _, rfl, ?_⟩
      by_cases c1 : r + c.dv < tx.length
      · refine iteN1 (by rw [List.length_map]; exact c1) ?_
        refine ⟨_, rfl, _, rfl, _, rfl, t, _, _, _, rfl, rfl, ht, at_len' c0' c1, _, rfl, b, _, 1, _, rfl, rfl, hb, rfl, _, rfl, lenAt tx (r + c.dv), g, v, c, rfl, hv, (by show 2 ≤ sizeLine; decide), fun p hp => ?_⟩
        exact ks _ _ (by unfold step1; rw [if_pos ⟨c0', c1⟩]) p hp
      · refine iteN0 (by rw [List.length_map]; exact c1) ?_
        exact out fun z => c1 z.2
    · refine ⟨_, rfl, ?_⟩
      refine iteT (B := _) ?_
      exact out fun z => c0 (decide_eq_true z.1)
theorem sc_run : FnScope ["text", "cursor", "commands", "place", "index", "command"] ["text", "cursor", "commands"] (defScope s_run) := ⟨rfl, rfl, rfl, by decide +kernel, rfl, by decide +kernel, by decide +kernel⟩
theorem ok_run {f : Addr} {fd : FuncData} (F : Fun K "run" "run" s_run f fd) (T : TxtB K mg wo wn) (c_check_text : Cal P w K mg base 1 "check_text" (spText K)) (c_check_cursor : Cal P w K mg base 1 "check_cursor" (spCursor K))
    (c_check_commands : Cal P w K mg base 3 "check_commands" (spCheck K)) (c_moved : Cal P w K mg base 3 "moved" (spMoved K)) : FnOk P w K mg base CX0 4 f fd ["text", "cursor", "commands"] (spRun K) := by
  refine F.ok sc_run (fun vs H Q E h => ?_) (fun cdv A outer s H vs Q E hr h => ?_)
  · obtain ⟨t, b, l, tx, r, g, xs, cs, r', g', rfl, _⟩ := h
    rfl
  · obtain ⟨t, b, l, tx, r, g, xs, cs, r', g', rfl, ht, hb, hl, hcs, nn, r0, r1, g0, ok, ln, hrun, k⟩ := h
    refine ⟨_, (pss_cons (ps_expr (pe_cal c_check_text hr (by decide) (by rfl) (pa_cons (pv 0) pa_nil)))
      (pss_cons (ps_expr (pe_cal c_check_cursor hr (by decide) (by rfl) (pa_cons (pe_callB call_len_seq (by rfl) T.len (by decide +kernel) (pa_cons (pv 0) pa_nil)) (pa_cons (pv 1) pa_nil))))
      (pss_cons (ps_expr (pe_cal c_check_commands hr (by decide) (by rfl) (pa_cons (pv 2) pa_nil)))
      (pss_cons (ps_set (i := 3) sc_run.nd rfl (Or.inl rfl) (pv 1))
      (pss_cons (ps_for PassesOwn.never rfl (pi_enum (by rfl) T.enumerate (pa_cons (pv 2) pa_nil)) (pg_tup rfl (pgs_cons (pg_name (i := 4) sc_run.nd rfl (Or.inl rfl)) (pgs_cons (pg_name (i := 5) sc_run.nd rfl (Or.inl rfl)) pgs_nil))) (pss_cons (ps_set (i := 3) sc_run.nd rfl (Or.inl rfl) (pe_cal c_moved hr (by decide) (by rfl) (pa_cons (pv 0) (pa_cons (pv 3) (pa_cons (pv 5) pa_nil)))))
      (pss_one (ps_if (pt_cmpR op_isN (pv 3) pe_non (nomark _)) (pss_one ps_never) pss_nil))))
      (pss_one (ps_ret (pv 3)))))))), ?_⟩
    refine ⟨_, rfl, t, tx, rfl, ht, (by intro z; subst z; simp at r1; omega), nn, fun H1 e1 => ?_⟩
    refine ⟨_, rfl, t, _, rfl, .inl (e1.seq ht), _, rfl, (tx.map V.int).length, r, g, b, rfl, seq_t e1 hb, r0, by rw [List.length_map]; exact r1, g0, ?_⟩
    refine ⟨_, rfl, l, xs, cs, rfl, e1.seq hl, hcs.same e1, ok, ln, fun H2 e2 => ?_⟩
    have e12 := e1.trans e2
    refine ⟨_, rfl, ?_⟩
    refine ⟨_, rfl, l, _, rfl, e12.seq hl, for_it (walk_enum (K := K) (a := l) (xs := xs)) (fun i σ H' => ∃ (p : Addr) (rr : Int) (gg : Option Int) (v1 v2 : Option V), σ = [some (.ref t), some (.ref b), some (.ref l), some (.ref p), v1, v2] ∧ Same H H' ∧ SqT K H' p [.int rr, optV gg] ∧ 0 ≤ rr ∧ rr < tx.length ∧ afterL tx rr gg (cs.drop i) = some (r', g'))
      ⟨b, r, g, none, none, rfl, e12, seq_t e12 hb, r0, r1, hrun⟩ (fun i σ H' _ ⟨_, _, _, _, _, _, e, _⟩ => e.seq hl) (fun i x σ H3 H4 hi h y => ?_) (fun σ H3 h => ?_)⟩
    · obtain ⟨p, rr, gg, v1, v2, rfl, e3, hp, q0, q1, hgo⟩ := h
      obtain ⟨T1, x1, y1, rfl, nT, rfl, ex1, ex2⟩ := y
      obtain ⟨c, hc, hca⟩ := paired_at hcs ex2
      have hdrop : cs.drop i = c :: cs.drop (i + 1) := by
        obtain ⟨h1, h2⟩ := List.getElem?_eq_some_iff.mp hc
        rw [List.drop_eq_getElem_cons h1, h2]
      rw [hdrop, afterL_cons q0 q1] at hgo
      have eT : Same H3 (upd H3 T1 (.tup [x1, y1])) := same_upd (Same.refl _) nT
      have eHT := e3.trans eT
      obtain ⟨⟨r2, g2⟩, hst, hrest⟩ := Option.bind_eq_some_iff.mp hgo
      have hin := step1_in hst
      refine ⟨T1, _, rfl, SqT.of upd_same, rfl, _, _, rfl, _, _, rfl, rfl, ?_⟩
      refine ⟨_, rfl, _, rfl, _, rfl, t, p, tx, rr, gg, y1, c, rfl, eHT.seq ht, seq_t eT hp, hca.same eHT, (fun z => by rw [hst] at z; cases z), fun r3 g3 z p3 np3 => ?_⟩
      rw [hst] at z
      cases z
      have e4 : Same (upd H3 T1 (.tup [x1, y1])) (upd (upd H3 T1 (.tup [x1, y1])) p3 (.tup [.int r2, optV g2])) := same_upd (Same.refl _) np3
      refine ⟨_, rfl, rfl, _, rfl, iteF ?_⟩
      exact ⟨p3, r2, g2, _, _, rfl, eHT.trans e4, SqT.of upd_same, hin.1, hin.2, hrest⟩
    · obtain ⟨p, rr, gg, v1, v2, rfl, e3, hp, q0, q1, hgo⟩ := h
      rw [hcs.len, List.drop_length] at hgo
      have z : (rr, gg) = (r', g') := Option.some.inj hgo
      cases z
      exact ⟨_, rfl, k _ p e3 hp⟩
end
end Gc

/-! parting's parts -/
namespace Gc
open PySem L2
abbrev s_rows_between : Stmt := top 36
abbrev s_parting_of_reaches : Stmt := top 35
abbrev s_differ : Stmt := top 37
abbrev s_differing_goal : Stmt := top 34
structure TxtPt (mg : Str → Option Value) : Prop where
  min : mg "min" = none
def rchV (x : Int × Int × Int) : List V := [.int x.1, .int x.2.1, .int x.2.2]
def spRows (K : PySem.W.Frag) : Sp := fun vs H Q _ => ∃ (p : Addr) (x : Int × Int × Int), vs = [.ref p] ∧ SqT K H p (rchV x) ∧ Q (.int (x.2.1 - x.1)) H
def farM (x y : Int × Int × Int) : List Int × Int × Int := let z := if y.2.1 - y.1 < x.2.1 - x.1 then y else x; (List.replicate (z.2.1 - z.1 + 1).toNat 0, -z.1, 0)
def spFarR (K : PySem.W.Frag) : Sp := fun vs H Q _ => ∃ (p q : Addr) (x y : Int × Int × Int), vs = [.ref p, .ref q] ∧ SqT K H p (rchV x) ∧ SqT K H q (rchV y) ∧ x.1 ≤ 0 ∧ 0 ≤ x.2.1 ∧ y.1 ≤ 0 ∧ 0 ≤ y.2.1 ∧ x.2.1 - x.1 < 10000 ∧ y.2.1 - y.1 < 10000 ∧
  ∀ H' p', Same H H' → LeastAt H H' p' (farM x y) → Q (.ref p') H'
def spDiffer (K : PySem.W.Frag) : Sp := fun vs H Q _ => ∃ (p t b l1 l2 : Addr) (T : List Int) (r g : Int) (xs ys : List V) (cs ds : List Cmd) (r1 r2 : Int) (g1 g2 : Option Int), vs = [.ref p, .ref l1, .ref l2] ∧ SqT K H p [.ref t, .ref b] ∧ SqL K H t (T.map V.int) ∧ SqT K H b [.int r, .int g] ∧
  SqL K H l1 xs ∧ CmdsOf K H xs cs ∧ AllOk cs ∧ cs.length ≤ 10000 ∧ SqL K H l2 ys ∧ CmdsOf K H ys ds ∧ AllOk ds ∧ ds.length ≤ 10000 ∧ (∀ x ∈ T, 0 ≤ x) ∧ 0 ≤ r ∧ r < T.length ∧ 0 ≤ g ∧ afterL T r (some g) cs = some (r1, g1) ∧ afterL T r (some g) ds = some (r2, g2) ∧
  ∀ H', Same H H' → Q (.bl (decide ((r1, g1) ≠ (r2, g2)))) H'
/-- the least start of the pieces at the first place where two lists of pieces differ -/
def diffG : List Piece → List Piece → Option Int
  | [], [] => none
  | p :: _, [] => some p.1
  | [], q :: _ => some q.1
  | p :: ps, q :: qs => if p = q then diffG ps qs else some (if q.1 < p.1 then q.1 else p.1)
def spDiffG (K : PySem.W.Frag) : Sp := fun vs H Q _ => ∃ (H1 H2 : Hp) (m1 m2 : Addr) (is js : List (Addr × Option Addr)) (ps qs : List Piece), vs = [.ref m1, .ref m2] ∧ FoundAt H1 H m1 is ps ∧ FoundAt H2 H m2 js qs ∧ ps ≠ qs ∧
  ∀ g, diffG ps qs = some g → ∀ H', Same H H' → Q (.int g) H'
theorem optV_W : optV = optW := by
  funext o
  cases o <;> rfl
theorem cut_one {xs : List V} {i : Nat} : cutV xs (some (i : Int)) (some ((i : Int) + 1)) = (xs[i]?).toList := by
  unfold cutV
  rw [show ((i : Int) + 1) = ((i + 1 : Nat) : Int) by omega, HT.sIx_nat, HT.sIx_nat]
  by_cases h : i < xs.length
  · rw [Nat.min_eq_left (by omega), Nat.min_eq_left (by omega), show i + 1 - i = 1 by omega, List.getElem?_eq_getElem h, List.drop_eq_getElem_cons h]
    rfl
  · rw [Nat.min_eq_right (by omega), Nat.min_eq_right (by omega), List.getElem?_eq_none (by omega), Nat.sub_self]
    rfl
theorem paired_one {α β : Type} {F : α → β → Prop} : ∀ {xs : List α} {ys : List β} (i : Nat), Paired F xs ys → Paired F (xs[i]?).toList (ys[i]?).toList
  | _, _, _, .nil => by simpa using Paired.nil
  | _, _, 0, .cons f _ => .cons f .nil
  | _, _, i + 1, .cons _ t => by
    have := paired_one i t
    simpa using this
theorem map_one {α β : Type} {f : α → β} {xs : List α} {i : Nat} : ((xs.map f)[i]?).toList = ((xs[i]?).toList).map f := by
  rw [List.getElem?_map]
  cases xs[i]? <;> rfl
theorem diffG_at : ∀ {ps qs : List Piece} {i : Nat}, ps.take i = qs.take i → ps[i]? ≠ qs[i]? → ∀ m : Int, m ∈ ((ps[i]?).toList ++ (qs[i]?).toList).map (·.1) → (∀ n ∈ ((ps[i]?).toList ++ (qs[i]?).toList).map (·.1), m ≤ n) → diffG ps qs = some m
  | [], [], i, _, h, _, _, _ => absurd rfl h
  | p :: ps, [], 0, _, _, m, hm, _ => by
    have e : m = p.1 := by simpa using hm
    rw [e]; rfl
  | p :: ps, [], i + 1, t, _, _, _, _ => by simp at t
  | [], q :: qs, 0, _, _, m, hm, _ => by
    have e : m = q.1 := by simpa using hm
    rw [e]; rfl
  | [], q :: qs, i + 1, t, _, _, _, _ => by simp at t
  | p :: ps, q :: qs, 0, _, h, m, hm, hl => by
    have ne : p ≠ q := fun z => h (by rw [z]; rfl)
    have hm' : m = p.1 ∨ m = q.1 := by simpa using hm
    have l1 : m ≤ p.1 := hl p.1 (by simp)
    have l2 : m ≤ q.1 := hl q.1 (by simp)
    unfold diffG
    rw [if_neg ne]
    congr 1
    split <;> omega
  | p :: ps, q :: qs, i + 1, t, h, m, hm, hl => by
    have t' : p = q ∧ ps.take i = qs.take i := by simpa using t
    unfold diffG
    rw [if_pos t'.1]
    exact diffG_at t'.2 (by simpa using h) m (by simpa using hm) (by simpa using hl)
section
variable {P : Program} {w : World} {K : PySem.W.Frag} {mg : Str → Option Value} {base : Heap} {rb : Addr}
theorem sc_rows_between : FnScope ["spanned"] ["spanned"] (defScope s_rows_between) := ⟨rfl, rfl, rfl, by decide +kernel, rfl, by decide +kernel, by decide +kernel⟩
theorem ok_rows_between {f : Addr} {fd : FuncData} (F : Fun K "rows_between" "rows_between" s_rows_between f fd) : FnOk P w K mg base CX0 1 f fd ["spanned"] (spRows K) := by
  refine F.ok sc_rows_between (fun vs H Q E h => ?_) (fun cdv A outer s H vs Q E hr h => ?_)
  · obtain ⟨p, x, rfl, _⟩ := h
    rfl
  · obtain ⟨p, x, rfl, hp, k⟩ := h
    refine ⟨_, (pss_one (ps_ret (pe_op op_sub (pe_ix ix_tup (pv 0) pe_int (fun _ _ => rfl)) (pe_ix ix_tup (pv 0) pe_int (fun _ _ => rfl))))), ?_⟩
    exact ⟨_, rfl, p, _, 1, _, rfl, rfl, hp, rfl, _, rfl, p, _, 0, _, rfl, rfl, hp, rfl, _, _, rfl, rfl, k⟩
theorem sc_parting_of_reaches : FnScope ["first", "second", "least", "greatest", "_"] ["first", "second"] (defScope s_parting_of_reaches) := ⟨rfl, rfl, rfl, by decide +kernel, rfl, by decide +kernel, by decide +kernel⟩
theorem ok_parting_of_reaches {f : Addr} {fd : FuncData} (F : Fun K "parting_of_reaches" "parting_of_reaches" s_parting_of_reaches f fd) (T : TxtPt mg) (g_rb : mg "rows_between" = some (.ref rb)) (R_rb : FnR P w K mg base CX0 1 rb (spRows K)) :
    FnOk P w K mg base CX0 3 f fd ["first", "second"] (spFarR K) := by
  refine F.ok sc_parting_of_reaches (fun vs H Q E h => ?_) (fun cdv A outer s H vs Q E hr h => ?_)
  · obtain ⟨p, q, x, y, rfl, _⟩ := h
    rfl
  · obtain ⟨p, q, x, y, rfl, hp, hq, x0, x1, y0, y1, xl, yl, k⟩ := h
    refine ⟨_, (pss_cons (ps_asg (pe_callBK (cr_minKey R_rb (hr.mono (by decide)) rfl) (by rfl) T.min rfl (pa_cons (pv 0) (pa_cons (pv 1) pa_nil)) (pk_cons (pe_glob (v := .ref rb) (by rfl) g_rb rfl) pk_nil)) (pg_tup rfl (pgs_cons (pg_name (i := 2) sc_parting_of_reaches.nd rfl (Or.inl rfl)) (pgs_cons (pg_name (i := 3) sc_parting_of_reaches.nd rfl (Or.inl rfl)) (pgs_cons (pg_name (i := 4) sc_parting_of_reaches.nd rfl (Or.inl rfl)) pgs_nil)))))
      (pss_one (ps_ret (pe_tup (pa_cons (pe_op op_rep (pe_lst (pa_cons pe_int pa_nil)) (pe_op op_add (pe_op op_sub (pv 3) (pv 2)) pe_int)) (pa_cons (pe_tup (pa_cons (pe_un un_neg (pv 2)) (pa_cons pe_int pa_nil))) pa_nil)))))), ?_⟩
    refine ⟨_, rfl, _, rfl, _, _, _, _, rfl, rfl, fun H' ex => ⟨p, x, rfl, seq_t ex hp, rfl, Ext.rfl'⟩, fun H' ex => ⟨q, y, rfl, seq_t ex hq, rfl, Ext.rfl'⟩, fun H1 e1 => ?_⟩
    have hx := seq_t e1 hp
    have hy := seq_t e1 hq
    obtain ⟨z, u, ez, hz, u0, u1, ul, kk⟩ : ∃ (z : Addr) (u : Int × Int × Int), (if y.2.1 - y.1 < x.2.1 - x.1 then V.ref q else V.ref p) = V.ref z ∧ SqT K H1 z (rchV u) ∧ u.1 ≤ 0 ∧ 0 ≤ u.2.1 ∧ u.2.1 - u.1 < 10000 ∧ farM x y = (List.replicate (u.2.1 - u.1 + 1).toNat 0, -u.1, 0) := by
      unfold farM
      by_cases c : y.2.1 - y.1 < x.2.1 - x.1
      · rw [if_pos c, if_pos c]
        exact ⟨q, y, rfl, hy, y0, y1, yl, rfl⟩
      · rw [if_neg c, if_neg c]
        exact ⟨p, x, rfl, hx, x0, x1, xl, rfl⟩
    rw [kk] at k
    rw [ez]
    refine ⟨z, _, rfl, hz, rfl, _, _, rfl, _, _, rfl, _, _, rfl, rfl, ?_⟩
    refine ⟨(by show 1 ≤ sizeLine; decide), fun q0 hq0 => ?_⟩
    have s2 := new_same (o := HO.lst [.int 0]) hq0
    refine ⟨_, rfl, _, rfl, _, _, rfl, rfl, _, _, rfl, rfl, q0, u.2.1 - u.1 + 1, [.int 0], rfl, rfl, upd_same, by omega, by omega, ?_, fun T0 hT0 => ?_⟩
    · show 1 * (u.2.1 - u.1 + 1).toNat ≤ sizeLine
      exact Nat.le_trans (show 1 * (u.2.1 - u.1 + 1).toNat ≤ 10001 by omega) (by decide)
    rw [show (List.replicate (u.2.1 - u.1 + 1).toNat [V.int 0]).flatten = (List.replicate (u.2.1 - u.1 + 1).toNat (0 : Int)).map V.int from rep_ints _]
    have s3 := new_same (o := HO.lst ((List.replicate (u.2.1 - u.1 + 1).toNat (0 : Int)).map V.int)) hT0
    have e3 := (show Same H H1 from fun _ _ q => e1 _ _ q).trans (s2.trans s3)
    have t3 : upd (upd H1 q0 (.lst [.int 0])) T0 (.lst ((List.replicate (u.2.1 - u.1 + 1).toNat (0 : Int)).map V.int)) T0 = some (.lst ((List.replicate (u.2.1 - u.1 + 1).toNat (0 : Int)).map V.int)) := upd_same
    have t0 : H T0 = none := ((show Same H H1 from fun _ _ q => e1 _ _ q).trans s2).free hT0
    generalize upd (upd H1 q0 (.lst [.int 0])) T0 (.lst ((List.replicate (u.2.1 - u.1 + 1).toNat (0 : Int)).map V.int)) = H3 at e3 t3 ⊢
    refine ⟨_, rfl, _, rfl, (by show 2 ≤ sizeLine; decide), fun b hb => ?_⟩
    have e4 := new_same (o := HO.tup [.int (-u.1), .int 0]) hb
    refine ⟨(by show 2 ≤ sizeLine; decide), fun p' hp' => ?_⟩
    have e5 := new_same (o := HO.tup [.ref T0, .ref b]) hp'
    exact k _ p' (e3.trans (e4.trans e5)) ⟨T0, b, (e3.trans e4).free hp', t0, e3.free hb, upd_same, e5 _ _ (e4 _ _ t3), e5 _ _ upd_same⟩
theorem sc_differ : FnScope ["start", "first", "second", "text", "cursor"] ["start", "first", "second"] (defScope s_differ) := ⟨rfl, rfl, rfl, by decide +kernel, rfl, by decide +kernel, by decide +kernel⟩
theorem ok_differ {f : Addr} {fd : FuncData} (F : Fun K "differ" "differ" s_differ f fd) (c_run : Cal P w K mg base 4 "run" (spRun K)) : FnOk P w K mg base CX0 5 f fd ["start", "first", "second"] (spDiffer K) := by
  refine F.ok sc_differ (fun vs H Q E h => ?_) (fun cdv A outer s H vs Q E hr h => ?_)
  · obtain ⟨p, t, b, l1, l2, T, r, g, xs, ys, cs, ds, r1, r2, g1, g2, rfl, _⟩ := h
    rfl
  · obtain ⟨p, t, b, l1, l2, T, r, g, xs, ys, cs, ds, r1, r2, g1, g2, rfl, hp, ht, hb, h1, c1, o1, n1, h2, c2, o2, n2, nn, r0, rl, g0, a1, a2, k⟩ := h
    refine ⟨_, (pss_cons (ps_asg (pv 0) (pg_tup rfl (pgs_cons (pg_name (i := 3) sc_differ.nd rfl (Or.inl rfl)) (pgs_cons (pg_name (i := 4) sc_differ.nd rfl (Or.inl rfl)) pgs_nil))))
      (pss_one (ps_ret (pe_cmpR (op_neD hr.units) (pe_cal c_run hr (by decide) (by rfl) (pa_cons (pv 3) (pa_cons (pv 4) (pa_cons (pv 1) pa_nil)))) (pe_cal c_run hr (by decide) (by rfl) (pa_cons (pv 3) (pa_cons (pv 4) (pa_cons (pv 2) pa_nil)))) (nomark _))))), ?_⟩
    refine ⟨_, rfl, p, _, rfl, hp, rfl, _, _, rfl, _, _, rfl, rfl, ?_⟩
    refine ⟨_, rfl, _, rfl, _, rfl, t, b, l1, T, r, some g, xs, cs, r1, g1, rfl, ht, hb, h1, c1, nn, r0, rl, ge_some.mpr g0, o1, n1, a1, fun H1 p1 e1 hp1 => ?_⟩
    refine ⟨_, rfl, _, rfl, _, rfl, t, b, l2, T, r, some g, ys, ds, r2, g2, rfl, e1.seq ht, seq_t e1 hb, e1.seq h2, c2.same e1, nn, r0, rl, ge_some.mpr g0, o2, n2, a2, fun H2 p2 e2 hp2 => ?_⟩
    refine ⟨.tuple [.int r1, optE g1], .tuple [.int r2, optE g2], .tup (seq_t e2 hp1) (.cons (.int _) (.cons (by rw [optV_W]; exact dp_opt _) .nil)), .tup hp2 (.cons (.int _) (.cons (by rw [optV_W]; exact dp_opt _) .nil)), ?_, ?_, ?_⟩
    · have q := shaped_pdata (some r1, none)
      cases g1 <;> rfl
    · cases g2 <;> rfl
    · have e : (!(PyData.tuple [.int r1, optE g1]).eqv (.tuple [.int r2, optE g2])) = decide ((r1, g1) ≠ (r2, g2)) := by
        simp only [PyData.eqv, PyData.eqvAll, Bool.and_true]
        rw [eqv_opt, Bool.eq_iff_iff]
        simp
      rw [e]
      exact k _ (e1.trans e2)
theorem sc_differing_goal : FnScope ["first", "second", "same", "piece"] ["first", "second"] (defScope s_differing_goal) := ⟨rfl, rfl, rfl, by decide +kernel, rfl, by decide +kernel, by decide +kernel⟩
theorem ok_differing_goal {f : Addr} {fd : FuncData} (F : Fun K "differing_goal" "differing_goal" s_differing_goal f fd) (T : TxtPt mg) : FnOk P w K mg base CX0 1 f fd ["first", "second"] (spDiffG K) := by
  refine F.ok sc_differing_goal (fun vs H Q E h => ?_) (fun cdv A outer s H vs Q E hr h => ?_)
  · obtain ⟨H1, H2, m1, m2, is, js, ps, qs, rfl, _⟩ := h
    rfl
  · obtain ⟨H1, H2, m1, m2, is, js, ps, qs, rfl, F1, F2, ne, k⟩ := h
    refine ⟨_, (pss_cons (ps_set (i := 2) sc_differing_goal.nd rfl (Or.inl rfl) pe_int)
      (C8.pss_cut (ps_while PassesOwn.never (pt_cmpR (op_eqD hr.units) (pe_slice sl_list (pv 0) (po_some (pv 2)) (po_some (pe_op op_add (pv 2) pe_int))) (pe_slice sl_list (pv 1) (po_some (pv 2)) (po_some (pe_op op_add (pv 2) pe_int))) (nomark _)) (pss_one (ps_aug (i := 2) sc_differing_goal.nd rfl (Or.inl rfl) pe_int ip_add)))
      (pss_one (ps_ret (pe_callB (call_minI rfl) (by rfl) T.min (by decide +kernel) (pa_cons (pe_lc (own := [("piece", 3)]) rfl sc_differing_goal.nd (pi_list (pe_op op_cat (pe_slice sl_list (pv 0) (po_some (pv 2)) (po_some (pe_op op_add (pv 2) pe_int))) (pe_slice sl_list (pv 1) (po_some (pv 2)) (po_some (pe_op op_add (pv 2) pe_int))))) (blkOk_by (N := ["first", "second", "same", "piece"]) (sc := defScope s_differing_goal) (by decide +kernel)) (fun _ _ _ _ _ => (pg_name (i := 3) sc_differing_goal.nd rfl (Or.inl rfl))) (fun _ _ _ _ _ => pts_nil) (fun _ _ _ _ _ => (pe_ix (show IxR _ (rIxT K) from ix_tup) (pv 3) pe_int (fun _ _ => rfl)))) pa_nil)))))), ?_⟩
    refine ⟨fun σ H' => ∃ i : Nat, σ = [some (.ref m1), some (.ref m2), some (.int (i : Nat)), none] ∧ Same H H' ∧ ps.take i = qs.take i ∧ ps[i]? ≠ qs[i]?, ?_, ?_⟩
    · refine ⟨fun m σ H' => ∃ i : Nat, σ = [some (.ref m1), some (.ref m2), some (.int (i : Nat)), none] ∧ Same H H' ∧ ps.take i = qs.take i ∧ i ≤ max ps.length qs.length ∧ m = max ps.length qs.length - i, ⟨_, 0, rfl, Same.refl H, rfl, Nat.zero_le _, rfl⟩, ?_⟩
      rintro m σ G ⟨i, rfl, e, tk, le, rfl⟩
      have lt : i < max ps.length qs.length := by
        refine Nat.lt_of_le_of_ne le fun z => ne ?_
        rw [List.take_of_length_le (by omega), List.take_of_length_le (by omega)] at tk
        exact tk
      have G1 := F1.same e
      have G2 := F2.same e
      refine ⟨_, rfl, _, rfl, _, rfl, _, rfl, _, _, rfl, rfl, _, rfl, m1, _, rfl, SqL.of G1.lst, fun p1 np1 => ?_⟩
      rw [cut_one, map_one]
      have s1 := new_same (o := HO.lst (((is[i]?).toList).map fun i => V.ref i.1)) np1
      have h1 : upd G p1 (.lst (((is[i]?).toList).map fun i => V.ref i.1)) p1 = some (.lst (((is[i]?).toList).map fun i => V.ref i.1)) := upd_same
      generalize upd G p1 (.lst (((is[i]?).toList).map fun i => V.ref i.1)) = G3 at s1 h1 ⊢
      have G2' := G2.same s1
      refine ⟨_, rfl, _, rfl, _, rfl, _, rfl, _, _, rfl, rfl, _, rfl, m2, _, rfl, SqL.of G2'.lst, fun p2 np2 => ?_⟩
      rw [cut_one, map_one]
      have s2 := new_same (o := HO.lst (((js[i]?).toList).map fun i => V.ref i.1)) np2
      have h2 : upd G3 p2 (.lst (((js[i]?).toList).map fun i => V.ref i.1)) p2 = some (.lst (((js[i]?).toList).map fun i => V.ref i.1)) := upd_same
      generalize upd G3 p2 (.lst (((js[i]?).toList).map fun i => V.ref i.1)) = G4 at s2 h2 ⊢
      have s12 := s1.trans s2
      refine ⟨.list ((ps[i]?).toList.map pieceD), .list ((qs[i]?).toList.map pieceD), .lst (SqL.of (s2 _ _ h1)) (pieces_dp (paired_one i (G1.same s12).its)), .lst (SqL.of h2) (pieces_dp (paired_one i (G2.same s12).its)), shaped_pieces _, shaped_pieces _, _, rfl, ?_⟩
      have ev : (PyData.list ((ps[i]?).toList.map pieceD)).eqv (.list ((qs[i]?).toList.map pieceD)) = decide ((ps[i]?).toList = (qs[i]?).toList) := by
        rw [PyData.eqv, eqv_pieces]
      rw [ev]
      by_cases c : ps[i]? = qs[i]?
      · rw [decide_eq_true (by rw [c])]
        refine iteT ⟨fun σ H' => σ = [some (.ref m1), some (.ref m2), some (.int ((i + 1 : Nat) : Int)), none] ∧ Same H H', ?_, ?_⟩
        · rintro σ' H' ⟨rfl, e'⟩
          exact ⟨max ps.length qs.length - (i + 1), by omega, i + 1, rfl, e', by rw [List.take_succ, List.take_succ, tk, c], lt, rfl⟩
        · exact ⟨_, rfl, _, _, rfl, rfl, rfl, e.trans s12⟩
      · have c' : ¬ (ps[i]?).toList = (qs[i]?).toList := fun z => c (by
          cases h1 : ps[i]? <;> cases h2 : qs[i]? <;> rw [h1, h2] at z <;> simp_all)
        rw [decide_eq_false c']
        exact iteF ⟨i, rfl, e.trans s12, tk, c⟩
    · rintro σ G ⟨i, rfl, e, tk, nq⟩
      have G1 := F1.same e
      have G2 := F2.same e
      refine ⟨_, rfl, _, rfl, _, rfl, _, rfl, _, _, rfl, rfl, _, rfl, m1, _, rfl, SqL.of G1.lst, fun p1 np1 => ?_⟩
      rw [cut_one, map_one]
      have s1 := new_same (o := HO.lst (((is[i]?).toList).map fun i => V.ref i.1)) np1
      have h1 : upd G p1 (.lst (((is[i]?).toList).map fun i => V.ref i.1)) p1 = some (.lst (((is[i]?).toList).map fun i => V.ref i.1)) := upd_same
      generalize upd G p1 (.lst (((is[i]?).toList).map fun i => V.ref i.1)) = G3 at s1 h1 ⊢
      have G2' := G2.same s1
      refine ⟨_, rfl, _, rfl, _, rfl, _, rfl, _, _, rfl, rfl, _, rfl, m2, _, rfl, SqL.of G2'.lst, fun p2 np2 => ?_⟩
      rw [cut_one, map_one]
      have s2 := new_same (o := HO.lst (((js[i]?).toList).map fun i => V.ref i.1)) np2
      have h2 : upd G3 p2 (.lst (((js[i]?).toList).map fun i => V.ref i.1)) p2 = some (.lst (((js[i]?).toList).map fun i => V.ref i.1)) := upd_same
      generalize upd G3 p2 (.lst (((js[i]?).toList).map fun i => V.ref i.1)) = G4 at s2 h2 ⊢
      have s12 := s1.trans s2
      have l1 : (((is[i]?).toList).map fun i => V.ref i.1).length ≤ 1 := by
        cases is[i]? <;> simp
      have l2 : (((js[i]?).toList).map fun i => V.ref i.1).length ≤ 1 := by
        cases js[i]? <;> simp
      refine ⟨p1, p2, _, _, rfl, rfl, s2 _ _ h1, h2, Nat.le_trans (show _ ≤ 2 by omega) (by decide), fun p3 np3 => ?_⟩
      rw [← List.map_append]
      have s3 := new_same (o := HO.lst (((is[i]?).toList ++ (js[i]?).toList).map fun i => V.ref i.1)) np3
      have h3 : upd G4 p3 (.lst (((is[i]?).toList ++ (js[i]?).toList).map fun i => V.ref i.1)) p3 = some (.lst (((is[i]?).toList ++ (js[i]?).toList).map fun i => V.ref i.1)) := upd_same
      generalize upd G4 p3 (.lst (((is[i]?).toList ++ (js[i]?).toList).map fun i => V.ref i.1)) = G5 at s3 h3 ⊢
      have s13 := s12.trans s3
      have pr : Paired (PieceAt G5) ((is[i]?).toList ++ (js[i]?).toList) ((ps[i]?).toList ++ (qs[i]?).toList) := paired_app (paired_one i (G1.same s13).its) (paired_one i (G2.same s13).its)
      have ne' : ((ps[i]?).toList ++ (qs[i]?).toList).map (·.1) ≠ [] := fun z => nq (by
        cases h1 : ps[i]? <;> cases h2 : qs[i]? <;> rw [h1, h2] at z <;> simp_all)
      have l5 : ((ps[i]?).toList ++ (qs[i]?).toList).length ≤ 2 := by
        cases ps[i]? <;> cases qs[i]? <;> simp
      have dg := diffG_at tk nq
      generalize (is[i]?).toList ++ (js[i]?).toList = us at h3 pr ⊢
      generalize (ps[i]?).toList ++ (qs[i]?).toList = ws at pr ne' dg l5
      have lw := Paired.length pr
      refine ⟨p3, rfl, ⟨_, SqL.of h3⟩, fun D hD => ?_⟩
      refine lc_list (K := K) (a := p3) (xs := us.map fun i => V.ref i.1) (fun i H' => Same G5 H' ∧ H' D = some (.lst ((ws.take i).map fun q => V.int q.1)))
        ⟨new_same hD, upd_same⟩ (fun i H' _ ⟨e, _⟩ => e.seq (SqL.of h3)) (fun i x H' hi h => ?_) (fun H' h => ?_)
      · obtain ⟨e', hd⟩ := h
        obtain ⟨u, hu, rfl⟩ : ∃ u, us[i]? = some u ∧ x = V.ref u.1 := by
          rw [List.getElem?_map] at hi
          cases q : us[i]? with
          | none => rw [q] at hi; cases hi
          | some u =>
            rw [q] at hi
            exact ⟨u, rfl, (Option.some.inj hi).symm⟩
        obtain ⟨q, hq, hp⟩ := paired_at pr hu
        have li := (List.getElem?_eq_some_iff.mp hq).1
        refine ⟨rfl, ?_⟩
        refine ⟨_, rfl, u.1, _, 0, _, rfl, rfl, SqT.of (e' _ _ hp.1), rfl, _, hd, ?_, same_freeU e' hD, ?_⟩
        · rw [List.length_map, List.length_take]
          exact lt_line (by omega)
        · rw [upd_same, take_snoc hq, List.map_append]
          rfl
      · obtain ⟨e', hd⟩ := h
        rw [List.length_map, lw, List.take_length] at hd
        refine ⟨D, ws.map (·.1), rfl, ?_, ne', fun m hm hl => k m (dg m hm hl) _ (e.trans (s13.trans e'))⟩
        rw [List.map_map]
        exact SqL.of hd
end
end Gc

/-! parting of valid lists -/
namespace Gc
open PySem L2
abbrev s_parting : Stmt := top 33
/-- the text and the cursor that parting tells of two lists of different forms -/
def partM (cs ds : List Cmd) : Option (List Int × Int × Int) :=
  if rchM cs ≠ rchM ds then some (farM (rchM cs) (rchM ds)) else (diffG (formM cs) (formM ds)).bind fun g =>
    match leastM cs g with
    | some x => if afterL x.1 x.2.1 (some x.2.2) cs ≠ afterL x.1 x.2.1 (some x.2.2) ds then some x else leastM ds g
    | none => leastM ds g
def spPart (K : PySem.W.Frag) : Sp := fun vs H Q _ => ∃ (l1 l2 : Addr) (xs ys : List V) (cs ds : List Cmd), vs = [.ref l1, .ref l2] ∧ SqL K H l1 xs ∧ CmdsOf K H xs cs ∧ AllOk cs ∧ cs.length ≤ 2000 ∧ SqL K H l2 ys ∧ CmdsOf K H ys ds ∧ AllOk ds ∧ ds.length ≤ 2000 ∧
  (rchM cs).2.1 - (rchM cs).1 < 10000 ∧ (rchM ds).2.1 - (rchM ds).1 < 10000 ∧ (SameForm cs ds → ∀ H', Same H H' → Q .non H') ∧
  (¬ SameForm cs ds → (partM cs ds = none → ∀ H', Same H H' → Q .non H') ∧ ∀ x, partM cs ds = some x → ∀ H' p, Same H H' → LeastAt H H' p x → Q (.ref p) H')
theorem rle_pos {δ : Type} [DecidableEq δ] {D : Int → δ} : ∀ {ps : List (Int × δ)} {a : Int}, Rle D a ps → ∀ p ∈ ps, a ≤ p.1
  | [], _, h, _, _ => h.elim
  | [(f, d)], a, h, p, hp => by
    obtain rfl : p = (f, d) := by simpa using hp
    exact Int.le_of_eq h.1.symm
  | (f, d) :: (g, e) :: r, a, h, p, hp => by
    rcases List.mem_cons.mp hp with rfl | hp
    · exact Int.le_of_eq h.1.symm
    · exact Int.le_trans (Int.le_of_lt h.2.1) (rle_pos h.2.2.2.2 p hp)
theorem diffG_in : ∀ {ps qs : List Piece} {g : Int}, diffG ps qs = some g → ∃ p, (p ∈ ps ∨ p ∈ qs) ∧ p.1 = g
  | [], [], _, h => nomatch h
  | p :: _, [], _, h => ⟨p, .inl List.mem_cons_self, Option.some.inj h⟩
  | [], q :: _, _, h => ⟨q, .inr List.mem_cons_self, Option.some.inj h⟩
  | p :: ps, q :: qs, g, h => by
    unfold diffG at h
    by_cases c : p = q
    · rw [if_pos c] at h
      obtain ⟨r, hr, e⟩ := diffG_in h
      exact ⟨r, hr.imp (List.mem_cons_of_mem _) (List.mem_cons_of_mem _), e⟩
    · rw [if_neg c] at h
      have e := Option.some.inj h
      by_cases c2 : q.1 < p.1
      · rw [if_pos c2] at e
        exact ⟨q, .inr List.mem_cons_self, e⟩
      · rw [if_neg c2] at e
        exact ⟨p, .inl List.mem_cons_self, e⟩
theorem diffG_pos {cs ds : List Cmd} {g : Int} (h : diffG (formM cs) (formM ds) = some g) : 1 ≤ g := by
  obtain ⟨p, hp, e⟩ := diffG_in h
  rw [← e]
  exact hp.elim (rle_pos (form_rle cs) p) (rle_pos (form_rle ds) p)
/-- the least text of a list has room for all lists of its reach -/
theorem least_runs {cs : List Cmd} {g : Int} {x : List Int × Int × Int} (ok : AllOk cs) (hg : 1 ≤ g) (h : leastM cs g = some x) :
    (∀ y ∈ x.1, 0 ≤ y) ∧ 0 ≤ x.2.1 ∧ x.2.1 < x.1.length ∧ 0 ≤ x.2.2 ∧ ∀ ds, Within ds (rchM cs).1 (rchM cs).2.1 → ∃ r' a', afterL x.1 x.2.1 (some x.2.2) ds = some (r', a') := by
  unfold leastM at h
  have hw := (rch_within cs).1
  rcases box_spec ok hg with ⟨b1, _⟩ | ⟨st, b, b1, gb, _, pb⟩
  · rw [b1] at h
    cases h
  · have gL := good_perm gb (List.mergeSort_perm b leK)
    have wL := box_within b1 hw
    rw [b1] at h
    generalize b.mergeSort leK = L at *
    have z := hw.zero
    have tl := textM_len (lo := (rchM cs).1) (hi := (rchM cs).2.1) (by omega) L
    have nn := textM_nn gL wL
    have e := Option.some.inj h
    simp only at e
    subst e
    refine ⟨nn, by show 0 ≤ -(rchM cs).1; omega, by show -(rchM cs).1 < ((textM _ _ L).length : Int); omega, ?_, fun ds w => ⟨_, _, afterL_in (w.le (show -(-(rchM cs).1) ≤ (rchM cs).1 by omega) (show (rchM cs).2.1 ≤ (textM _ _ L).length - 1 - (-(rchM cs).1) by omega))⟩⟩
    show 0 ≤ st.getD 0
    cases st with
    | none => exact Int.le_refl 0
    | some n =>
      have := pb n rfl
      show 0 ≤ n
      omega
theorem LeastAt.back {H0 H H' H2 : Hp} {p : Addr} {x : List Int × Int × Int} (e : Same H0 H) (e' : Same H' H2) (h : LeastAt H H' p x) : LeastAt H0 H2 p x := by
  obtain ⟨t, b, h1, h2, h3, h4, h5, h6⟩ := h
  exact ⟨t, b, e.free h1, e.free h2, e.free h3, e' _ _ h4, e' _ _ h5, e' _ _ h6⟩
section
variable {P : Program} {w : World} {K : PySem.W.Frag} {mg : Str → Option Value} {base : Heap}
theorem sc_parting : FnScope ["first", "second", "first_form", "second_form", "goal", "found"] ["first", "second"] (defScope s_parting) := ⟨rfl, rfl, rfl, by decide +kernel, rfl, by decide +kernel, by decide +kernel⟩
theorem ok_partV {f : Addr} {fd : FuncData} (F : Fun K "parting" "parting" s_parting f fd) (c_form : Cal P w K mg base 5 "form" (zForm K)) (c_parting_of_reaches : Cal P w K mg base 3 "parting_of_reaches" (spFarR K)) (c_differing_goal : Cal P w K mg base 1 "differing_goal" (spDiffG K))
    (c_least_text : Cal P w K mg base 6 "least_text" (spLeast K)) (c_differ : Cal P w K mg base 5 "differ" (spDiffer K)) : FnOk P w K mg base CX0 7 f fd ["first", "second"] (spPart K) := by
  refine F.ok sc_parting (fun vs H Q E h => ?_) (fun cdv A outer s H vs Q E hr h => ?_)
  · obtain ⟨l1, l2, xs, ys, cs, ds, rfl, _⟩ := h
    rfl
  · obtain ⟨l1, l2, xs, ys, cs, ds, rfl, h1, c1, o1, n1, h2, c2, o2, n2, w1, w2, kS, kD⟩ := h
    refine ⟨_, (pss_cons (ps_par (i := 2) (j := 3) rfl sc_parting.nd rfl rfl (by decide) rfl rfl (pa_cons (pe_cal c_form hr (by decide) (by rfl) (pa_cons (pv 0) pa_nil)) (pa_cons (pe_cal c_form hr (by decide) (by rfl) (pa_cons (pv 1) pa_nil)) pa_nil)) (by rfl))
      (pss_cons (ps_if (pt_cmpR (op_eqD hr.units) (pv 2) (pv 3) (nomark _)) (pss_one (ps_ret pe_non)) pss_nil)
      (pss_cons (ps_if (pt_cmpR (op_neD hr.units) (pe_ix ix_tup (pv 2) pe_int (fun _ _ => rfl)) (pe_ix ix_tup (pv 3) pe_int (fun _ _ => rfl)) (nomark _)) (pss_one (ps_ret (pe_cal c_parting_of_reaches hr (by decide) (by rfl) (pa_cons (pe_ix ix_tup (pv 2) pe_int (fun _ _ => rfl)) (pa_cons (pe_ix ix_tup (pv 3) pe_int (fun _ _ => rfl)) pa_nil))))) pss_nil)
      (pss_cons (ps_set (i := 4) sc_parting.nd rfl (Or.inl rfl) (pe_cal c_differing_goal hr (by decide) (by rfl) (pa_cons (pe_ix ix_tup (pv 2) pe_int (fun _ _ => rfl)) (pa_cons (pe_ix ix_tup (pv 3) pe_int (fun _ _ => rfl)) pa_nil))))
      (pss_cons (ps_set (i := 5) sc_parting.nd rfl (Or.inl rfl) (pe_cal c_least_text hr (by decide) (by rfl) (pa_cons (pv 0) (pa_cons (pv 4) pa_nil))))
      (pss_cons (ps_if (PW.pt (pw_and (pt_cmpR op_notN (pv 5) pe_non (nomark _)) (pw_and1 (pt_val (pe_cal c_differ hr (by decide) (by rfl) (pa_cons (pv 5) (pa_cons (pv 0) (pa_cons (pv 1) pa_nil)))))))) (pss_one (ps_ret (pv 5))) pss_nil)
      (pss_one (ps_ret (pe_cal c_least_text hr (by decide) (by rfl) (pa_cons (pv 1) (pa_cons (pv 4) pa_nil))))))))))), ?_⟩
    refine ⟨_, rfl, ask_form h1 c1 o1 n1 fun H1 p e1 F1 => ?_⟩
    refine ⟨_, rfl, ask_form (e1.seq h2) (c2.same e1) o2 n2 fun H2 q e2 F2 => ?_⟩
    have e02 := e1.trans e2
    have F1 := F1.same e2
    refine ⟨_, _, rfl, _, rfl, _, rfl, formOf cs, formOf ds, F1.dp, F2.dp, shaped_form _ _, shaped_form _ _, _, rfl, ?_⟩
    rw [eqv_forms]
    by_cases same : SameForm cs ds
    · rw [decide_eq_true same]
      exact iteT (kS same H2 e02)
    rw [decide_eq_false same]
    refine iteF ?_
    obtain ⟨kN, kX⟩ := kD same
    obtain ⟨r1, m1, is, a1, b1, f1, _⟩ := F1
    obtain ⟨r2, m2, js, a2, b2, f2, _⟩ := F2
    have b1' : SqT K H2 r1 (rchV (rchM cs)) := by
      unfold rchV
      rw [form_rch]
      exact SqT.of b1
    have b2' : SqT K H2 r2 (rchV (rchM ds)) := by
      unfold rchV
      rw [form_rch]
      exact SqT.of b2
    have z1 := (rch_within cs).1
    have z2 := (rch_within ds).1
    refine ⟨_, rfl, p, _, 0, _, rfl, rfl, SqT.of a1, rfl, _, rfl, q, _, 0, _, rfl, rfl, SqT.of a2, rfl, ?_⟩
    refine ⟨reachD (rchM cs), reachD (rchM ds), .tup b1' (.cons (.int _) (.cons (.int _) (.cons (.int _) .nil))), .tup b2' (.cons (.int _) (.cons (.int _) (.cons (.int _) .nil))), shaped_reach _, shaped_reach _, _, rfl, ?_⟩
    rw [eqv_reach]
    by_cases er : rchM cs = rchM ds
    · rw [decide_eq_true er]
      refine iteF ?_
      have fne : formM cs ≠ formM ds := fun z => same ⟨er, z⟩
      refine ⟨_, rfl, p, _, 1, _, rfl, rfl, SqT.of a1, rfl, _, rfl, q, _, 1, _, rfl, rfl, SqT.of a2, rfl, ?_⟩
      refine ⟨_, _, m1, m2, is, js, formM cs, formM ds, rfl, f1, f2, fne, fun g hg H3 e3 => ?_⟩
      have g1 := diffG_pos hg
      have e03 := e02.trans e3
      have pm : partM cs ds = match leastM cs g with
          | some x => if afterL x.1 x.2.1 (some x.2.2) cs ≠ afterL x.1 x.2.1 (some x.2.2) ds then some x else leastM ds g
          | none => leastM ds g := by
        unfold partM
        rw [if_neg (fun z => z er), hg]
        rfl
      -- the least text of the second list
      have second : ∀ (H4 : Hp) (v : V), Same H H4 → partM cs ds = leastM ds g → tRet (tCall (spLeast K) [] E0 (tCons (tVar 1) (tCons (tVar 4) tNil))) { nx := fun x H' => Q V.non H', rt := Q } [some (.ref l1), some (.ref l2), some (.ref p), some (.ref q), some (.int g), some v] H4 := fun H4 v e4 pe => by
        refine ⟨_, rfl, _, rfl, l2, ys, ds, g, rfl, e4.seq h2, c2.same e4, o2, by omega, g1, w2, fun z H5 e5 => kN (pe.trans z) _ (e4.trans e5), fun x z H5 p5 e5 hp5 => kX x (pe.trans z) _ p5 (e4.trans e5) (hp5.back e4 (Same.refl _))⟩
      refine ⟨_, rfl, _, rfl, l1, xs, cs, g, rfl, e03.seq h1, c1.same e03, o1, by omega, g1, w1, fun z H4 e4 => ?_, fun x z H4 p4 e4 hp4 => ?_⟩
      · rw [z] at pm
        refine ⟨_, rfl, rfl, _, rfl, iteF (iteF ?_)⟩
        exact second H4 .non (e03.trans e4) pm
      · rw [z] at pm
        obtain ⟨nn, r0, rl, g0, run⟩ := least_runs o1 g1 z
        obtain ⟨ra, ga, ea⟩ := run cs z1
        obtain ⟨rb, gb, eb⟩ := run ds (by rw [er]; exact z2)
        have e04 := e03.trans e4
        obtain ⟨t, b, q1, q2, q3, q4, q5, q6⟩ := id hp4
        refine ⟨_, rfl, rfl, _, rfl, iteT ?_⟩
        refine ⟨_, rfl, _, rfl, _, rfl, p4, t, b, l1, l2, x.1, x.2.1, x.2.2, xs, ys, cs, ds, ra, rb, ga, gb, rfl, SqT.of q4, SqL.of q5, SqT.of q6, e04.seq h1, c1.same e04, o1, by omega, e04.seq h2, c2.same e04, o2, by omega, nn, r0, rl, g0, ea, eb, fun H5 e5 => ?_⟩
        have pm' : partM cs ds = if (ra, ga) ≠ (rb, gb) then some x else leastM ds g := by
          rw [pm]
          simp only [ea, eb]
          by_cases c : (ra, ga) = (rb, gb)
          · rw [if_neg (fun z => z (by rw [c])), if_neg (fun z => z c)]
          · rw [if_pos (fun z => c (Option.some.inj z)), if_pos c]
        by_cases c : (ra, ga) = (rb, gb)
        · rw [if_neg (fun z => z c)] at pm'
          refine ⟨_, rfl, ?_⟩
          rw [decide_eq_false (fun z => z c)]
          exact iteF (second H5 (.ref p4) (e04.trans e5) pm')
        · rw [if_pos c] at pm'
          refine ⟨_, rfl, ?_⟩
          rw [decide_eq_true c]
          refine iteT ?_
          exact ⟨_, rfl, kX x pm' _ p4 (e04.trans e5) (hp4.back e03 e5)⟩
    · rw [decide_eq_false er]
      refine iteT ?_
      have pm : partM cs ds = some (farM (rchM cs) (rchM ds)) := by
        unfold partM
        rw [if_pos er]
      refine ⟨_, rfl, p, _, 0, _, rfl, rfl, SqT.of a1, rfl, _, rfl, q, _, 0, _, rfl, rfl, SqT.of a2, rfl, ?_⟩
      exact ⟨r1, r2, _, _, rfl, b1', b2', z1.zero.1, z1.zero.2, z2.zero.1, z2.zero.2, w1, w2, fun H3 p3 e3 hp3 => kX _ pm _ p3 (e02.trans e3) (hp3.back e02 (Same.refl _))⟩
end
end Gc

/-! words read back: slices, digits, dicts of the module -/
namespace Gc
open PySem PyProof.Rows L2 TL
theorem mk_size (l : List Nat) : (mkS l).length = l.length := mkS_len l
theorem cut_front (l : List Nat) (x : Nat) : cutS (mkS (l ++ [x])) none (some (-1)) = mkS l := by
  refine ext_tl ?_
  show ((l ++ [x]).drop (HT.sIx (mkS (l ++ [x])).length 0 none)).take (HT.sIx (mkS (l ++ [x])).length (mkS (l ++ [x])).length (some (-1)) - HT.sIx (mkS (l ++ [x])).length 0 none) = l
  rw [mkS_len, List.length_append]
  have h1 : HT.sIx (l.length + [x].length) 0 none = 0 := rfl
  have h2 : HT.sIx (l.length + [x].length) (l.length + [x].length) (some (-1)) = l.length := by
    unfold HT.sIx
    simp
    try omega
  rw [h1, h2]
  simp
theorem cut_back (l : List Nat) (x : Nat) : cutS (mkS (l ++ [x])) (some (-1)) none = mkS [x] := by
  refine ext_tl ?_
  show ((l ++ [x]).drop (HT.sIx (mkS (l ++ [x])).length 0 (some (-1)))).take (HT.sIx (mkS (l ++ [x])).length (mkS (l ++ [x])).length none - HT.sIx (mkS (l ++ [x])).length 0 (some (-1))) = [x]
  rw [mkS_len, List.length_append]
  have h1 : HT.sIx (l.length + [x].length) (l.length + [x].length) none = l.length + 1 := rfl
  have h2 : HT.sIx (l.length + [x].length) 0 (some (-1)) = l.length := by
    unfold HT.sIx
    simp
    try omega
  rw [h1, h2]
  simp
theorem int_mk (n : Nat) (h : (numL n).length ≤ 640) : intText? (mkS (numL n)) = some (n : Int) := by
  have e : mkS (numL n) = Str.ofString (toString ((n : Nat) : Int)) := ext_tl (tl_num n).symm
  rw [e]
  exact int_num (by omega)
theorem numL_head : ∀ {n : Nat}, 1 ≤ n → ∃ a l, numL n = a :: l ∧ 49 ≤ a ∧ a ≤ 57 := fun {n} hn => by
  induction n using Nat.strongRecOn with
  | ind n ih =>
    rcases Nat.lt_or_ge n 10 with h | h
    · exact ⟨48 + n, [], numL_lt h, by omega, by omega⟩
    · obtain ⟨a, l, e, h1, h2⟩ := ih (n / 10) (by omega) (by omega)
      refine ⟨a, l ++ [48 + n % 10], ?_, h1, h2⟩
      rw [numL_step h, e]
      rfl
theorem str_beq (a b : Str) : (a == b) = decide (a = b) := by
  by_cases h : a = b
  · subst h
    simp
  · rw [decide_eq_false h]
    exact beq_eq_false_iff_ne.mpr h
/-- what a written dict of the module says of a key -/
theorem ns_dict {K : PySem.W.Frag} {a : Addr} {c : Value} {od : Option Addr} {es : Array DictEntry} {n : Nat} {sl : Array (Option Value)} (l : K.lookup a = some ⟨c, od, .dict es n, sl⟩) (r : es.toList.any (·.refKey) = false) (x : Str) :
    PySem.W.nsIn K a x = some ((es.toList.find? (·.key.isStr x)).map (·.val)) := by
  unfold PySem.W.nsIn
  rw [l]
  dsimp only
  cases h : es.toList.find? (·.key.isStr x) with
  | some e => rfl
  | none =>
    dsimp only
    rw [r]
    rfl
theorem word_ne {l : List Nat} {a b : Nat} (h : a ≠ b) : mkS (l ++ [a]) ≠ mkS [b] := fun z => by
  have q := congrArg List.getLast? (mkS_inj z)
  rw [List.getLast?_concat] at q
  exact h (Option.some.inj q)
theorem one_no {a b : Nat} (h : a ≠ b) : V.bl (decide (V.str ⟨#[a]⟩ = V.str (mkS [b]))) = V.bl false := by
  rw [decide_eq_false fun z => h ?_]
  have q := mkS_inj (l := [a]) (m := [b]) (V.str.inj z)
  exact (List.cons.inj q).1
theorem mk_tl (x : Str) : mkS (tl x) = x := ext_tl rfl
theorem split_shown {cs : List Cmd} (h : cs ≠ []) (hk : ¬ Builtin.Str.strKind (shownS cs) < Builtin.Str.strKind " ") : Txt.split (shownS cs) " " = cs.map fun c => mkS (cw c) := by
  have e := split_spl (shownS cs) " " (by decide +kernel) hk
  have t1 : tl (" " : Str) = [32] := by decide +kernel
  have t2 : tl (shownS cs) = joinL [32] (cs.map cw) := by
    unfold shownS shownL
    rw [if_neg h]
    rfl
  rw [t1, t2, join_words h] at e
  have q := congrArg (List.map mkS) e
  rw [List.map_map, List.map_map] at q
  rw [← List.map_id (Txt.split (shownS cs) " ")]
  have i : (mkS ∘ tl) = id := funext mk_tl
  rw [i] at q
  exact q
/-- an entry of a written dict -/
def entD (P : Params) (kv : Str × Tok × Str × Tok) : DictEntry := ⟨PyData.keyHash P kv.1, .str kv.1 kv.2.1, .str kv.2.2.1 kv.2.2.2⟩
theorem find_ent (P : Params) (x : Str) : ∀ l : List (Str × Tok × Str × Tok), ((l.map (entD P)).find? (·.key.isStr x)).map (·.val) = (l.find? fun kv => decide (kv.1 = x)).map fun kv => .str kv.2.2.1 kv.2.2.2
  | [] => rfl
  | kv :: l => by
    rw [List.map_cons, List.find?_cons, List.find?_cons]
    have e : (entD P kv).key.isStr x = decide (kv.1 = x) := str_beq kv.1 x
    rw [e]
    by_cases h : kv.1 = x
    · rw [decide_eq_true h]
      rfl
    · rw [decide_eq_false h]
      exact find_ent P x l
theorem ent_lit (P : Params) : ∀ l : List (Str × Tok × Str × Tok), PySem.W.KeysLit P (l.map (entD P))
  | [] => trivial
  | kv :: l => ⟨⟨kv.1, kv.2.1, rfl, rfl⟩, ent_lit P l⟩
theorem ent_ref (P : Params) : ∀ l : List (Str × Tok × Str × Tok), (l.map (entD P)).any (·.refKey) = false
  | [] => rfl
  | kv :: l => by
    rw [List.map_cons, List.any_cons, ent_ref P l]
    rfl
theorem ns_ent {K : PySem.W.Frag} {P : Params} {a : Addr} {c : Value} {od : Option Addr} {l : List (Str × Tok × Str × Tok)} {n : Nat} {sl : Array (Option Value)} (h : K.lookup a = some ⟨c, od, .dict (l.map (entD P)).toArray n, sl⟩) (x : Str) :
    PySem.W.nsIn K a x = some ((l.find? fun kv => decide (kv.1 = x)).map fun kv => .str kv.2.2.1 kv.2.2.2) := by
  rw [ns_dict h (ent_ref P l) x]
  exact congrArg some (find_ent P x l)
theorem kd_ent {K : PySem.W.Frag} {w : World} {a : Addr} {l : List (Str × Tok × Str × Tok)} {n : Nat} (h : K.lookup a = some ⟨.type "dict", none, .dict (l.map (entD w.params)).toArray n, #[]⟩) (lo : (a == sysModules) = false) : KDict K w a (l.map (entD w.params)).toArray n :=
  ⟨h, ent_lit w.params l, lo⟩
end Gc

/-! texts read back, where they can be -/
namespace Gc
open PySem L2 TL
abbrev s_read_commands : Stmt := top 42
abbrev s_read_command : Stmt := top 43
abbrev s_is_number : Stmt := top 44
structure TxtRd (K : PySem.W.Frag) (w : World) (mg : Str → Option Value) (na nb : Addr) (eA eB : Array DictEntry) (nA nB : Nat) (tm : Tok) : Prop where
  g_NAMES_ALONE : mg "NAMES_ALONE" = some (.ref na)
  g_NAMES_BEHIND_NUMBER : mg "NAMES_BEHIND_NUMBER" = some (.ref nb)
  g_MOST_DIGITS : mg "MOST_DIGITS" = some (.int 40 tm)
  dA : KDict K w na eA nA
  dB : KDict K w nb eB nB
  aH : ∃ t, PySem.W.nsIn K na "H" = some (some (.str "home" t))
  aE : ∃ t, PySem.W.nsIn K na "E" = some (some (.str "end" t))
  aNo : ∀ x : Str, x ≠ "H" → x ≠ "E" → PySem.W.nsIn K na x = some none
  bD : ∃ t, PySem.W.nsIn K nb "D" = some (some (.str "down" t))
  bU : ∃ t, PySem.W.nsIn K nb "U" = some (some (.str "up" t))
  bR : ∃ t, PySem.W.nsIn K nb "R" = some (some (.str "right" t))
  bL : ∃ t, PySem.W.nsIn K nb "L" = some (some (.str "left" t))
  int : mg "int" = none
  len : mg "len" = none
  all : mg "all" = none
def aloneL (t1 t2 u1 u2 : Tok) : List (Str × Tok × Str × Tok) := [("H", t1, "home", u1), ("E", t2, "end", u2)]
def behindL (t1 t2 t3 t4 u1 u2 u3 u4 : Tok) : List (Str × Tok × Str × Tok) := [("D", t1, "down", u1), ("U", t2, "up", u2), ("R", t3, "right", u3), ("L", t4, "left", u4)]
theorem rd_mk {K : PySem.W.Frag} {w : World} {mg : Str → Option Value} {na nb : Addr} {nA nB : Nat} {tm t1 t2 u1 u2 s1 s2 s3 s4 r1 r2 r3 r4 : Tok} (g1 : mg "NAMES_ALONE" = some (.ref na)) (g2 : mg "NAMES_BEHIND_NUMBER" = some (.ref nb)) (g3 : mg "MOST_DIGITS" = some (.int 40 tm))
    (lA : K.lookup na = some ⟨.type "dict", none, .dict #[⟨PyData.keyHash w.params "H", .str "H" t1, .str "home" u1⟩, ⟨PyData.keyHash w.params "E", .str "E" t2, .str "end" u2⟩] nA, #[]⟩)
    (lB : K.lookup nb = some ⟨.type "dict", none, .dict #[⟨PyData.keyHash w.params "D", .str "D" s1, .str "down" r1⟩, ⟨PyData.keyHash w.params "U", .str "U" s2, .str "up" r2⟩, ⟨PyData.keyHash w.params "R", .str "R" s3, .str "right" r3⟩, ⟨PyData.keyHash w.params "L", .str "L" s4, .str "left" r4⟩] nB, #[]⟩)
    (oA : (na == sysModules) = false) (oB : (nb == sysModules) = false) (z1 : mg "int" = none) (z2 : mg "len" = none) (z3 : mg "all" = none) :
    TxtRd K w mg na nb ((aloneL t1 t2 u1 u2).map (entD w.params)).toArray ((behindL s1 s2 s3 s4 r1 r2 r3 r4).map (entD w.params)).toArray nA nB tm := by
  have hA : K.lookup na = some ⟨.type "dict", none, .dict ((aloneL t1 t2 u1 u2).map (entD w.params)).toArray nA, #[]⟩ := lA
  have hB : K.lookup nb = some ⟨.type "dict", none, .dict ((behindL s1 s2 s3 s4 r1 r2 r3 r4).map (entD w.params)).toArray nB, #[]⟩ := lB
  refine ⟨g1, g2, g3, kd_ent hA oA, kd_ent hB oB, ⟨u1, ?_⟩, ⟨u2, ?_⟩, fun x n1 n2 => ?_, ⟨r1, ?_⟩, ⟨r2, ?_⟩, ⟨r3, ?_⟩, ⟨r4, ?_⟩, z1, z2, z3⟩
  · rw [ns_ent hA]
    unfold aloneL
    rw [List.find?_cons, show decide (("H" : Str) = "H") = true by decide +kernel]
    rfl
  · rw [ns_ent hA]
    unfold aloneL
    rw [List.find?_cons, show decide (("H" : Str) = "E") = false by decide +kernel]
    dsimp only
    rw [List.find?_cons, show decide (("E" : Str) = "E") = true by decide +kernel]
    rfl
  · rw [ns_ent hA]
    unfold aloneL
    rw [List.find?_cons, show decide (("H" : Str) = x) = false from decide_eq_false (Ne.symm n1)]
    dsimp only
    rw [List.find?_cons, show decide (("E" : Str) = x) = false from decide_eq_false (Ne.symm n2)]
    rfl
  · rw [ns_ent hB]
    unfold behindL
    rw [List.find?_cons, show decide (("D" : Str) = "D") = true by decide +kernel]
    rfl
  · rw [ns_ent hB]
    unfold behindL
    rw [List.find?_cons, show decide (("D" : Str) = "U") = false by decide +kernel]
    dsimp only
    rw [List.find?_cons, show decide (("U" : Str) = "U") = true by decide +kernel]
    rfl
  · rw [ns_ent hB]
    unfold behindL
    rw [List.find?_cons, show decide (("D" : Str) = "R") = false by decide +kernel]
    dsimp only
    rw [List.find?_cons, show decide (("U" : Str) = "R") = false by decide +kernel]
    dsimp only
    rw [List.find?_cons, show decide (("R" : Str) = "R") = true by decide +kernel]
    rfl
  · rw [ns_ent hB]
    unfold behindL
    rw [List.find?_cons, show decide (("D" : Str) = "L") = false by decide +kernel]
    dsimp only
    rw [List.find?_cons, show decide (("U" : Str) = "L") = false by decide +kernel]
    dsimp only
    rw [List.find?_cons, show decide (("R" : Str) = "L") = false by decide +kernel]
    dsimp only
    rw [List.find?_cons, show decide (("L" : Str) = "L") = true by decide +kernel]
    rfl
def spIsNum (K : PySem.W.Frag) : Sp := fun vs H Q _ => ∃ n : Nat, vs = [.str (mkS (numL n))] ∧ 1 ≤ n ∧ n < 10 ^ 40 ∧ ∀ H', Same H H' → Q (.bl true) H'
def spRead1 (K : PySem.W.Frag) : Sp := fun vs H Q _ => ∃ c : Cmd, vs = [.str (mkS (cw c))] ∧ c.ok ∧ numC c < 10 ^ 40 ∧ ∀ (H' : Hp) (p : Addr), Same H H' → H p = none → H' p = some (.tup (encC c)) → Q (.ref p) H'
def spRead (K : PySem.W.Frag) : Sp := fun vs H Q _ => ∃ cs : List Cmd, vs = [.str (shownS cs)] ∧ AllOk cs ∧ (∀ c ∈ cs, numC c < 10 ^ 40) ∧ cs.length ≤ 1000 ∧
  ∀ (H' : Hp) (p : Addr) (xs : List V), Same H H' → H p = none → H' p = some (.lst xs) → CmdsOf K H' xs cs → Q (.ref p) H'
section
variable {P : Program} {w : World} {K : PySem.W.Frag} {mg : Str → Option Value} {base : Heap} {na nb : Addr} {eA eB : Array DictEntry} {nA nB : Nat} {tm : Tok}
theorem sc_is_number : FnScope ["digits", "digit"] ["digits"] (defScope s_is_number) := ⟨rfl, rfl, rfl, by decide +kernel, rfl, by decide +kernel, by decide +kernel⟩
theorem ok_is_number {f : Addr} {fd : FuncData} (F : Fun K "is_number" "is_number" s_is_number f fd) (T : TxtRd K w mg na nb eA eB nA nB tm) : FnOk P w K mg base CX0 1 f fd ["digits"] (spIsNum K) := by
  refine F.ok sc_is_number (fun vs H Q E h => ?_) (fun cdv A outer s H vs Q E hr h => ?_)
  · obtain ⟨n, rfl, _⟩ := h
    rfl
  · obtain ⟨n, rfl, n1, n2, k⟩ := h
    refine ⟨_, (pss_cons (ps_if (PW.pt (pw_or (pt_not (pt_chain op_le op_le pe_int (pe_callB call_len_str (by rfl) T.len (by decide +kernel) (pa_cons (pv 0) pa_nil)) (pe_glob (v := .int 40) (by rfl) T.g_MOST_DIGITS ⟨_, rfl⟩))) (pw_or1 (pt_cmpR op_eq (pe_ix ix_str (pv 0) pe_int (fun _ _ => rfl)) pe_str (nomark _))))) (pss_one (ps_ret pe_bl)) pss_nil)
      (pss_one (ps_ret (pe_callB (cr_all rfl) (by rfl) T.all (by decide +kernel) (pa_cons (pe_lc (own := [("digit", 1)]) rfl sc_is_number.nd (pi_str (pv 0)) (blkOk_by (N := ["digits", "digit"]) (sc := defScope s_is_number) (by decide +kernel)) (fun _ _ _ _ _ => (pg_name (i := 1) sc_is_number.nd rfl (Or.inl rfl))) (fun _ _ _ _ _ => pts_nil) (fun _ _ _ _ _ => (pe_cmpR op_in_sign (pv 1) pe_str (by rfl)))) pa_nil))))), ?_⟩
    obtain ⟨a, l, e, a1, a2⟩ := numL_head n1
    have dg := numL_digits n
    have ln := numL_len (n := n) (k := 40) (by decide) n2
    have ll : (mkS (numL n)).length ≤ sizeLine := by
      rw [mkS_len, sizeLine_eq]
      omega
    have l1 : 1 ≤ (numL n).length := by rw [e]; simp
    refine ⟨_, rfl, _, rfl, ll, _, _, rfl, rfl, _, rfl, ?_⟩
    rw [if_pos (decide_eq_true (show (1 : Int) ≤ ((mkS (numL n)).length : Int) by rw [mkS_len]; omega))]
    refine ⟨_, _, rfl, rfl, _, rfl, ?_⟩
    rw [decide_eq_true (show ((mkS (numL n)).length : Int) ≤ 40 by rw [mkS_len]; omega)]
    refine iteF ?_
    have at0 : atI (mkS (numL n)).cps.toList 0 = some a := by
      show atI (numL n) ((0 : Nat) : Int) = some a
      rw [e]
      exact atI_nat rfl
    refine ⟨_, rfl, _, _, a, rfl, rfl, ll, at0, rfl, false, ?_, iteF ?_⟩
    · rw [show ("0" : Str) = mkS [48] by decide +kernel]
      exact one_no (by omega)
    refine ⟨_, rfl, _, rfl, fun D hD => ?_⟩
    refine lc_it walk_str (fun i H' => Same H H' ∧ H' D = some (.lst ((List.replicate i true).map V.bl))) ⟨same_upd (Same.refl H) hD, upd_same⟩ (fun _ _ _ _ => trivial) (fun i x H2 H' hi p y => ?_) (fun H' h => ?_)
    · obtain ⟨rfl, c, hc, rfl⟩ := y
      obtain ⟨s1, eD⟩ := p
      have li : i < (numL n).length := hi
      have cd := dg c (List.mem_of_getElem? (show (numL n)[i]? = some c by rw [← hc]; exact (List.getElem?_toArray ..).symm))
      have cm : decide (c ∈ (("0123456789" : Str)).cps.toList) = true := by
        rw [show (("0123456789" : Str)).cps.toList = [48, 49, 50, 51, 52, 53, 54, 55, 56, 57] by decide +kernel]
        refine decide_eq_true ?_
        simp
        omega
      refine ⟨rfl, _, rfl, c, _, rfl, rfl, _, eD, ?_, same_freeU s1 hD, ?_⟩
      · refine lt_line ?_
        rw [List.length_map, List.length_replicate]
        omega
      · rw [upd_same, cm, List.replicate_succ', List.map_append]
        rfl
    · obtain ⟨s1, eD⟩ := h
      refine ⟨D, List.replicate _ true, rfl, SqL.of eD, ?_⟩
      rw [show ∀ m, (List.replicate m true).all id = true from fun m => by simp]
      exact k _ s1
theorem sc_read_command : FnScope ["word", "digits", "letter"] ["word"] (defScope s_read_command) := ⟨rfl, rfl, rfl, by decide +kernel, rfl, by decide +kernel, by decide +kernel⟩
theorem ok_read_command {f : Addr} {fd : FuncData} (F : Fun K "read_command" "read_command" s_read_command f fd) (T : TxtRd K w mg na nb eA eB nA nB tm) (c_is_number : Cal P w K mg base 1 "is_number" (spIsNum K)) : FnOk P w K mg base CX0 2 f fd ["word"] (spRead1 K) := by
  refine F.ok sc_read_command (fun vs H Q E h => ?_) (fun cdv A outer s H vs Q E hr h => ?_)
  · obtain ⟨n, rfl, _⟩ := h
    rfl
  · obtain ⟨c, rfl, ok, hn, k⟩ := h
    refine ⟨_, (pss_cons (ps_if (pt_cmpR (op_in_kd T.dA) (pv 0) (pe_glob (v := .ref na) (by rfl) T.g_NAMES_ALONE rfl) (by rfl)) (pss_one (ps_ret (pe_tup (pa_cons (pe_ix ix_kdict (pe_glob (v := .ref na) (by rfl) T.g_NAMES_ALONE rfl) (pv 0) (fun _ _ => rfl)) pa_nil)))) pss_nil)
      (pss_cons (ps_par (i := 1) (j := 2) rfl sc_read_command.nd rfl rfl (by decide) rfl rfl (pa_cons (pe_slice sl_str (pv 0) po_none (po_some (pe_un un_neg pe_int))) (pa_cons (pe_slice sl_str (pv 0) (po_some (pe_un un_neg pe_int)) po_none) pa_nil)) (by rfl))
      (pss_cons (ps_if (PW.pt (pw_and (pt_cmpR (op_in_kd T.dB) (pv 2) (pe_glob (v := .ref nb) (by rfl) T.g_NAMES_BEHIND_NUMBER rfl) (by rfl)) (pw_and1 (pt_val (pe_cal c_is_number hr (by decide) (by rfl) (pa_cons (pv 1) pa_nil)))))) (pss_one (ps_ret (pe_tup (pa_cons (pe_ix ix_kdict (pe_glob (v := .ref nb) (by rfl) T.g_NAMES_BEHIND_NUMBER rfl) (pv 2) (fun _ _ => rfl)) (pa_cons (pe_callTy call_int_str (by rfl) T.int (by decide +kernel) (pa_cons (pv 1) pa_nil)) pa_nil))))) pss_nil)
      (pss_one (ps_ret pe_non))))), ?_⟩
    have wl : (mkS (cw c)).length ≤ sizeLine := by
      have := cw_len hn
      rw [mkS_len, sizeLine_eq]
      omega
    have e72 : mkS [72] = ("H" : Str) := by decide +kernel
    have e69 : mkS [69] = ("E" : Str) := by decide +kernel
    cases c with
    | home =>
      obtain ⟨t, ht⟩ := T.aH
      have ew : mkS (cw .home) = ("H" : Str) := e72
      rw [ew]
      refine ⟨_, rfl, _, _, rfl, rfl, ht, _, rfl, iteT ?_⟩
      refine ⟨_, rfl, na, "H", .str "home", rfl, rfl, ⟨eA, nA, _, T.dA.at_, T.dA.lit, ht, ⟨t, rfl⟩⟩, (by show 1 ≤ sizeLine; decide), fun p np => k _ p (new_same np) np upd_same⟩
    | stop =>
      obtain ⟨t, ht⟩ := T.aE
      have ew : mkS (cw .stop) = ("E" : Str) := e69
      rw [ew]
      refine ⟨_, rfl, _, _, rfl, rfl, ht, _, rfl, iteT ?_⟩
      refine ⟨_, rfl, na, "E", .str "end", rfl, rfl, ⟨eA, nA, _, T.dA.at_, T.dA.lit, ht, ⟨t, rfl⟩⟩, (by show 1 ≤ sizeLine; decide), fun p np => k _ p (new_same np) np upd_same⟩
    | down n =>
      have n1 : 1 ≤ n := ok
      have n2 : n < 10 ^ 40 := hn
      obtain ⟨t, ht⟩ := T.bD
      have no := T.aNo (mkS (numL n.toNat ++ [68])) (by rw [← e72]; exact word_ne (by decide)) (by rw [← e69]; exact word_ne (by decide))
      refine ⟨_, rfl, _, _, rfl, rfl, no, _, rfl, iteF ?_⟩
      have el : mkS [68] = ("D" : Str) := by decide +kernel
      refine ⟨_, rfl, _, rfl, _, rfl, _, rfl, wl, ?_⟩
      rw [show mkS (cw (.down n)) = mkS (numL n.toNat ++ [68]) from rfl, cut_front]
      refine ⟨_, rfl, _, rfl, _, rfl, _, rfl, wl, ?_⟩
      rw [cut_back, el]
      refine ⟨_, _, rfl, ?_⟩
      refine ⟨_, rfl, _, _, rfl, rfl, ht, _, rfl, iteT ?_⟩
      refine ⟨_, rfl, n.toNat, rfl, by omega, by omega, fun H1 e1 => ⟨_, rfl, iteT ?_⟩⟩
      have l40 := numL_len (n := n.toNat) (k := 40) (by decide) (by omega)
      refine ⟨_, rfl, nb, "D", .str "down", rfl, rfl, ⟨eB, nB, _, T.dB.at_, T.dB.lit, ht, ⟨t, rfl⟩⟩, _, rfl, _, _, rfl, int_mk _ (by omega), (by rw [mkS_len]; omega), (by show 2 ≤ sizeLine; decide), fun p np => ?_⟩
      rw [show ((n.toNat : Nat) : Int) = n from Int.toNat_of_nonneg (by omega)]
      exact k _ p (e1.trans (new_same np)) (e1.free np) upd_same
    | up n =>
      have n1 : 1 ≤ n := ok
      have n2 : n < 10 ^ 40 := hn
      obtain ⟨t, ht⟩ := T.bU
      have no := T.aNo (mkS (numL n.toNat ++ [85])) (by rw [← e72]; exact word_ne (by decide)) (by rw [← e69]; exact word_ne (by decide))
      refine ⟨_, rfl, _, _, rfl, rfl, no, _, rfl, iteF ?_⟩
      have el : mkS [85] = ("U" : Str) := by decide +kernel
      refine ⟨_, rfl, _, rfl, _, rfl, _, rfl, wl, ?_⟩
      rw [show mkS (cw (.up n)) = mkS (numL n.toNat ++ [85]) from rfl, cut_front]
      refine ⟨_, rfl, _, rfl, _, rfl, _, rfl, wl, ?_⟩
      rw [cut_back, el]
      refine ⟨_, _, rfl, ?_⟩
      refine ⟨_, rfl, _, _, rfl, rfl, ht, _, rfl, iteT ?_⟩
      refine ⟨_, rfl, n.toNat, rfl, by omega, by omega, fun H1 e1 => ⟨_, rfl, iteT ?_⟩⟩
      have l40 := numL_len (n := n.toNat) (k := 40) (by decide) (by omega)
      refine ⟨_, rfl, nb, "U", .str "up", rfl, rfl, ⟨eB, nB, _, T.dB.at_, T.dB.lit, ht, ⟨t, rfl⟩⟩, _, rfl, _, _, rfl, int_mk _ (by omega), (by rw [mkS_len]; omega), (by show 2 ≤ sizeLine; decide), fun p np => ?_⟩
      rw [show ((n.toNat : Nat) : Int) = n from Int.toNat_of_nonneg (by omega)]
      exact k _ p (e1.trans (new_same np)) (e1.free np) upd_same
    | right n =>
      have n1 : 1 ≤ n := ok
      have n2 : n < 10 ^ 40 := hn
      obtain ⟨t, ht⟩ := T.bR
      have no := T.aNo (mkS (numL n.toNat ++ [82])) (by rw [← e72]; exact word_ne (by decide)) (by rw [← e69]; exact word_ne (by decide))
      refine ⟨_, rfl, _, _, rfl, rfl, no, _, rfl, iteF ?_⟩
      have el : mkS [82] = ("R" : Str) := by decide +kernel
      refine ⟨_, rfl, _, rfl, _, rfl, _, rfl, wl, ?_⟩
      rw [show mkS (cw (.right n)) = mkS (numL n.toNat ++ [82]) from rfl, cut_front]
      refine ⟨_, rfl, _, rfl, _, rfl, _, rfl, wl, ?_⟩
      rw [cut_back, el]
      refine ⟨_, _, rfl, ?_⟩
      refine ⟨_, rfl, _, _, rfl, rfl, ht, _, rfl, iteT ?_⟩
      refine ⟨_, rfl, n.toNat, rfl, by omega, by omega, fun H1 e1 => ⟨_, rfl, iteT ?_⟩⟩
      have l40 := numL_len (n := n.toNat) (k := 40) (by decide) (by omega)
      refine ⟨_, rfl, nb, "R", .str "right", rfl, rfl, ⟨eB, nB, _, T.dB.at_, T.dB.lit, ht, ⟨t, rfl⟩⟩, _, rfl, _, _, rfl, int_mk _ (by omega), (by rw [mkS_len]; omega), (by show 2 ≤ sizeLine; decide), fun p np => ?_⟩
      rw [show ((n.toNat : Nat) : Int) = n from Int.toNat_of_nonneg (by omega)]
      exact k _ p (e1.trans (new_same np)) (e1.free np) upd_same
    | left n =>
      have n1 : 1 ≤ n := ok
      have n2 : n < 10 ^ 40 := hn
      obtain ⟨t, ht⟩ := T.bL
      have no := T.aNo (mkS (numL n.toNat ++ [76])) (by rw [← e72]; exact word_ne (by decide)) (by rw [← e69]; exact word_ne (by decide))
      refine ⟨_, rfl, _, _, rfl, rfl, no, _, rfl, iteF ?_⟩
      have el : mkS [76] = ("L" : Str) := by decide +kernel
      refine ⟨_, rfl, _, rfl, _, rfl, _, rfl, wl, ?_⟩
      rw [show mkS (cw (.left n)) = mkS (numL n.toNat ++ [76]) from rfl, cut_front]
      refine ⟨_, rfl, _, rfl, _, rfl, _, rfl, wl, ?_⟩
      rw [cut_back, el]
      refine ⟨_, _, rfl, ?_⟩
      refine ⟨_, rfl, _, _, rfl, rfl, ht, _, rfl, iteT ?_⟩
      refine ⟨_, rfl, n.toNat, rfl, by omega, by omega, fun H1 e1 => ⟨_, rfl, iteT ?_⟩⟩
      have l40 := numL_len (n := n.toNat) (k := 40) (by decide) (by omega)
      refine ⟨_, rfl, nb, "L", .str "left", rfl, rfl, ⟨eB, nB, _, T.dB.at_, T.dB.lit, ht, ⟨t, rfl⟩⟩, _, rfl, _, _, rfl, int_mk _ (by omega), (by rw [mkS_len]; omega), (by show 2 ≤ sizeLine; decide), fun p np => ?_⟩
      rw [show ((n.toNat : Nat) : Int) = n from Int.toNat_of_nonneg (by omega)]
      exact k _ p (e1.trans (new_same np)) (e1.free np) upd_same
theorem sc_read_commands : FnScope ["text", "commands", "word", "command"] ["text"] (defScope s_read_commands) := ⟨rfl, rfl, rfl, by decide +kernel, rfl, by decide +kernel, by decide +kernel⟩
theorem ok_read_commands {f : Addr} {fd : FuncData} (F : Fun K "read_commands" "read_commands" s_read_commands f fd) (c_read_command : Cal P w K mg base 2 "read_command" (spRead1 K)) : FnOk P w K mg base CX0 3 f fd ["text"] (spRead K) := by
  refine F.ok sc_read_commands (fun vs H Q E h => ?_) (fun cdv A outer s H vs Q E hr h => ?_)
  · obtain ⟨n, rfl, _⟩ := h
    rfl
  · obtain ⟨cs, rfl, ok, hn, ln, k⟩ := h
    refine ⟨_, (pss_cons (ps_if (pt_cmpR op_eq (pv 0) pe_str (nomark _)) (pss_one (ps_ret (pe_lst pa_nil))) pss_nil)
      (pss_cons (ps_set (i := 1) sc_read_commands.nd rfl (Or.inl rfl) (pe_lst pa_nil))
      (pss_cons (ps_for PassesOwn.never rfl (pi_list (pe_bm PySem.F.plainAttrs_str PySem.F.slot_str_split PySem.F.type_str_split mt_split (pv 0) (pa_cons pe_str pa_nil))) (pg_name (i := 2) sc_read_commands.nd rfl (Or.inl rfl)) (pss_cons (ps_set (i := 3) sc_read_commands.nd rfl (Or.inl rfl) (pe_cal c_read_command hr (by decide) (by rfl) (pa_cons (pv 2) pa_nil)))
      (pss_cons (ps_if (pt_cmpR op_isN (pv 3) pe_non (nomark _)) (pss_one ps_never) pss_nil)
      (pss_one (ps_expr (pe_bm PySem.F.plainAttrs_list PySem.F.slot_list_append PySem.F.type_list_append mt_append (pv 1) (pa_cons (pv 3) pa_nil)))))))
      (pss_one (ps_ret (pv 1)))))), ?_⟩
    have wl : (shownS cs).length + 2 ≤ sizeLine := by
      have := shownL_len hn
      unfold shownS
      rw [mkS_len, sizeLine_eq]
      omega
    have hk : ¬ Builtin.Str.strKind (shownS cs) < Builtin.Str.strKind " " := by
      rw [show Builtin.Str.strKind " " = 1 by decide +kernel]
      unfold Builtin.Str.strKind
      split
      · omega
      · split <;> omega
    by_cases ce : cs = []
    · subst ce
      refine ⟨_, rfl, rfl, true, ?_, iteT ?_⟩
      · rw [show shownS [] = ("none" : Str) by decide +kernel]
        simp
      · exact ⟨Nat.zero_le _, fun l nl => k _ l [] (new_same nl) nl upd_same .nil⟩
    · have no : shownS cs ≠ ("none" : Str) := by
        rw [show ("none" : Str) = mkS noneL by decide +kernel]
        intro z
        have q := mkS_inj z
        unfold shownL at q
        rw [if_neg ce] at q
        exact none_no ce q
      refine ⟨_, rfl, rfl, false, by simp [no], iteF ?_⟩
      refine ⟨Nat.zero_le _, fun l nl => ?_⟩
      have e1 : Same H (upd H l (.lst [])) := new_same nl
      refine ⟨_, rfl, rfl, _, _, rfl, rfl, by decide +kernel, wl, fun p np => ?_⟩
      rw [split_shown ce hk]
      have pl : p ≠ l := fun z => by rw [z, upd_same] at np; cases np
      have e2 : Same H (upd (upd H l (.lst [])) p (.lst ((cs.map fun c => mkS (cw c)).map V.str))) := e1.trans (new_same np)
      refine ⟨p, rfl, ⟨_, SqL.of upd_same⟩, for_list (K := K) (a := p) (xs := (cs.map fun c => mkS (cw c)).map V.str) (fun i σ H' => ∃ (v2 v3 : Option V) (ys : List V), σ = [some (.str (shownS cs)), some (.ref l), v2, v3] ∧ Same H H' ∧ H' p = some (.lst ((cs.map fun c => mkS (cw c)).map V.str)) ∧ H' l = some (.lst ys) ∧ CmdsOf K H' ys (cs.take i))
        ⟨none, none, [], rfl, e2, upd_same, new_same np _ _ upd_same, .nil⟩ (fun i σ H' hi h => ?_) (fun i x σ H' hx h => ?_) (fun σ H' h => ?_)⟩
      · obtain ⟨_, _, _, _, _, q, _⟩ := h
        exact SqL.of q
      · obtain ⟨v2, v3, ys, rfl, s1, hp, hl, hys⟩ := h
        rw [List.getElem?_map, List.getElem?_map] at hx
        cases hc : cs[i]? with
        | none =>
          rw [hc] at hx
          cases hx
        | some c =>
          rw [hc] at hx
          obtain rfl := Option.some.inj hx
          have cm := List.mem_of_getElem? hc
          have li := (List.getElem?_eq_some_iff.mp hc).1
          have yl := hys.len
          rw [List.length_take] at yl
          refine ⟨_, rfl, c, rfl, ok c cm, hn c cm, fun H2 t e3 nt ht => ?_⟩
          refine ⟨_, rfl, rfl, false, by simp, iteF ?_⟩
          refine ⟨_, rfl, .inl ⟨rfl, _, SqL.of (e3 _ _ hl)⟩, _, rfl, l, ys, .ref t, rfl, rfl, e3 _ _ hl, lt_line (by omega), ?_⟩
          refine ⟨_, _, _, rfl, same_freeU (s1.trans e3) nl, ?_, upd_same, ?_⟩
          · rw [upd_ne pl]
            exact e3 _ _ hp
          · rw [takeS hc]
            exact paired_app (CmdsOf.atL (e3 _ _ hl) (hys.same e3)) (CmdsOf.atL (e3 _ _ hl) (xs := [.ref t]) (cs := [c]) (.cons ⟨t, rfl, SqT.of ht⟩ .nil))
      · obtain ⟨v2, v3, ys, rfl, s1, hp, hl, hys⟩ := h
        rw [List.length_map, List.length_map, List.take_length] at hys
        exact ⟨_, rfl, k H' l ys s1 nl hl hys⟩
end
end Gc

/-! lists of commands written by the law and read by the program -/
namespace Gc
open PySem L2 TL
abbrev s_written : Stmt := top 56
abbrev s_lread : Stmt := top 57
structure TxtV (mg : Str → Option Value) : Prop where
  str : mg "str" = none
  len : mg "len" = none
  range : mg "range" = none
def spWritten (K : PySem.W.Frag) : Sp := fun vs H Q _ => ∃ (l : Addr) (xs : List V) (cs : List Cmd), vs = [.ref l] ∧ SqL K H l xs ∧ CmdsOf K H xs cs ∧ AllOk cs ∧ (∀ c ∈ cs, numC c < 10 ^ 40) ∧ cs.length ≤ 1000 ∧ ∀ H', Same H H' → Q (.str (shownS cs)) H'
def spLRead (K : PySem.W.Frag) : Sp := fun vs H Q _ => ∃ (r : Addr) (n many : Nat) (most size : Int), vs = [.ref r, .int many, .int most, .int size] ∧ Rng H r n ∧ n < 2 ^ 37 ∧ many ≤ 20 ∧ 0 ≤ most ∧ most ≤ 20 ∧ 1 ≤ size ∧ size ≤ 10 ^ 30 ∧
  ∀ (H' : Hp) (p : Addr) (xs : List V) (cs : List Cmd), Keep r r H H' → Rng H' r (n + 2000) → p ≠ r → H' p = some (.lst xs) → CmdsOf K H' xs cs → AllOk cs → AllSmall cs → (cs.length : Int) ≤ many * most → Q (.ref p) H'
theorem str_num {n : Int} (h : 0 ≤ n) : Str.ofString (toString n) = mkS (numL n.toNat) := by
  obtain ⟨m, rfl⟩ := Int.eq_ofNat_of_zero_le h
  exact ext_tl (tl_num m)
theorem log64 {n : Int} (h0 : 0 ≤ n) (h : n < 10 ^ 64) : n.natAbs.log2 < 1920 :=
  Nat.lt_of_lt_of_le (PySem.Flt.log2_lt_of (k := 214) (by decide) (by omega)) (by decide)
theorem small_num {cs : List Cmd} (h : AllSmall cs) : ∀ c ∈ cs, numC c < 10 ^ 40 := fun c hc => by
  have a := (h c hc).1
  cases c with
  | down n => exact Int.lt_of_le_of_lt (show n ≤ 10 ^ 30 from a) (by decide)
  | up n => exact Int.lt_of_le_of_lt (show n ≤ 10 ^ 30 from a) (by decide)
  | right n => exact Int.lt_of_le_of_lt (show n ≤ 10 ^ 30 from a) (by decide)
  | left n => exact Int.lt_of_le_of_lt (show n ≤ 10 ^ 30 from a) (by decide)
  | home => show (0 : Int) < 10 ^ 40; decide
  | stop => show (0 : Int) < 10 ^ 40; decide
theorem idx_no {ys : List V} {y : V} {j : Nat} (h : (ys.take j).all (fun z => !eqV z y) = true) : ∀ (m : Nat) (z' : V), m < j → ys[m]? = some z' → eqV z' y = false := fun m z' hm hz => by
  have q : (ys.take j)[m]? = some z' := by
    rw [List.getElem?_take, if_pos hm]
    exact hz
  have r := List.all_eq_true.mp h z' (List.mem_of_getElem? q)
  cases e : eqV z' y with
  | false => rfl
  | true =>
    rw [e] at r
    cases r
theorem strs_lay : ∀ {bs : List Str}, (∀ b ∈ bs, PyData.strOk b = true) → PyData.canLayAll0 (bs.map PyData.str) = true
  | [], _ => by simp [PyData.canLayAll0]
  | b :: bs, h => by
    have h1 := h b List.mem_cons_self
    have h2 := strs_lay fun x hx => h x (List.mem_cons_of_mem _ hx)
    simp only [List.map_cons, PyData.canLayAll0, PyData.canLay0, h1, h2, Bool.and_self]
theorem word_ok (c : Cmd) : PyData.strOk (mkS (cw c)) = true := by
  unfold PyData.strOk
  show (List.toArray (cw c)).all (· < 0x110000) = true
  rw [← Array.all_toList]
  refine List.all_eq_true.mpr fun x hx => decide_eq_true ?_
  rcases List.mem_append.mp hx with z | z
  · have := digC_digits c x z
    omega
  · have := letC_ge c
    rw [List.mem_singleton.mp z]
    omega
theorem strs_deep : ∀ bs : List Str, PyData.depthAll (bs.map PyData.str) = 0
  | [] => by simp [PyData.depthAll]
  | b :: bs => by simp [PyData.depthAll, PyData.depth, strs_deep bs]
theorem strs_shaped {bs : List Str} (h : ∀ b ∈ bs, PyData.strOk b = true) : SeqAt.shaped (.list (bs.map PyData.str)) = true := by
  unfold SeqAt.shaped
  simp [PyData.canLay0, PyData.depth, strs_lay h, strs_deep bs]
theorem dp_strs {K : PySem.W.Frag} {H : Hp} : ∀ bs : List Str, DpAll K H (bs.map V.str) (bs.map PyData.str)
  | [] => .nil
  | b :: bs => .cons (.str b) (dp_strs bs)
theorem words_sum : ∀ {cs : List Cmd}, (∀ c ∈ cs, numC c < 10 ^ 40) → ((cs.map fun c => mkS (cw c)).map (·.length)).sum ≤ 41 * cs.length
  | [], _ => Nat.le_refl _
  | c :: cs, hh => by
    rw [List.map_cons, List.map_cons, List.sum_cons, List.length_cons]
    have h1 := cw_len (hh c List.mem_cons_self)
    have h2 := words_sum fun x hx => hh x (List.mem_cons_of_mem _ hx)
    rw [mkS_len]
    omega
section
variable {P : Program} {w : World} {K : PySem.W.Frag} {mg : Str → Option Value} {base : Heap}
theorem sc_law_written : FnScope ["steps", "names", "words", "step"] ["steps"] (defScope s_written) := ⟨rfl, rfl, rfl, by decide +kernel, rfl, by decide +kernel, by decide +kernel⟩
theorem ok_written {f : Addr} {fd : FuncData} (F : Fun K "_law_written" "_law_written" s_written f fd) (T : TxtV mg) : FnOk P w K mg base CX0 1 f fd ["steps"] (spWritten K) := by
  refine F.ok sc_law_written (fun vs H Q E h => ?_) (fun cdv A outer s H vs Q E hr h => ?_)
  · obtain ⟨l, xs, cs, rfl, _⟩ := h
    rfl
  · obtain ⟨l, xs, cs, rfl, hl, hc, ok, num, len, k⟩ := h
    refine ⟨_, (pss_cons (ps_par (i := 1) (j := 2) rfl sc_law_written.nd rfl rfl (by decide) rfl rfl (pa_cons (pe_lst (pa_cons pe_str (pa_cons pe_str (pa_cons pe_str (pa_cons pe_str (pa_cons pe_str (pa_cons pe_str pa_nil))))))) (pa_cons (pe_lst pa_nil) pa_nil)) (by rfl))
      (pss_cons (ps_for PassesOwn.never rfl (pi_list (pv 0)) (pg_name (i := 3) sc_law_written.nd rfl (Or.inl rfl)) (pss_one (ps_expr (pe_bm PySem.F.plainAttrs_list PySem.F.slot_list_append PySem.F.type_list_append mt_append (pv 2) (pa_cons (pe_op op_add_str (pe_ifExp (pt_cmpR op_gt (pe_callB call_len_seq (by rfl) T.len (by decide +kernel) (pa_cons (pv 3) pa_nil)) pe_int (nomark _)) (pe_callTy call_str_int (by rfl) T.str (by decide +kernel) (pa_cons (pe_ix ix_tup (pv 3) pe_int (fun _ _ => rfl)) pa_nil)) pe_str) (pe_ix ix_str pe_str (pe_bm PySem.F.plainAttrs_list PySem.F.slot_list_index PySem.F.type_list_index mt_index (pv 1) (pa_cons (pe_ix ix_tup (pv 3) pe_int (fun _ _ => rfl)) pa_nil)) (fun _ _ => rfl))) pa_nil)))))
      (pss_one (ps_ret (pe_ifExp (pt_cmpR (op_neD hr.units) (pv 2) (pe_lst pa_nil) (nomark _)) (pe_join pe_str (pv 2)) pe_str))))), ?_⟩
    have xl := hc.len
    refine ⟨(by show 6 ≤ sizeLine; decide), fun nm hnm => ⟨Nat.zero_le _, fun wd hwd => ⟨_, _, rfl, ?_⟩⟩⟩
    have dif : wd ≠ nm := fun z => by rw [z, upd_same] at hwd; cases hwd
    have e0 : Same H (upd (upd H nm (.lst [.str "down", .str "up", .str "right", .str "left", .str "home", .str "end"])) wd (.lst [])) := (new_same hnm).trans (new_same hwd)
    have fwd : H wd = none := (new_same hnm).free hwd
    refine ⟨_, rfl, l, rfl, ⟨_, e0.seq hl⟩, for_list (K := K) (a := l) (xs := xs) (fun i σ H' => ∃ v3 : Option V, σ = [some (.ref l), some (.ref nm), some (.ref wd), v3] ∧ Same H H' ∧
        H' nm = some (.lst [.str "down", .str "up", .str "right", .str "left", .str "home", .str "end"]) ∧ H' wd = some (.lst (((cs.take i).map fun c => mkS (cw c)).map V.str)))
      ⟨none, rfl, e0, new_same hwd _ _ upd_same, upd_same⟩ (fun i σ H' _ ⟨_, _, e, _⟩ => e.seq hl) (fun i y σ H1 hi h => ?_) (fun σ H1 h => ?_)⟩
    · obtain ⟨v3, rfl, e, h1, h2⟩ := h
      obtain ⟨c, hci, t, rfl, ht0⟩ := paired_at hc hi
      have ht := seq_t e ht0
      have li := (List.getElem?_eq_some_iff.mp hci).1
      have nums : numC c < 10 ^ 40 := num c (List.mem_of_getElem? hci)
      have dl := digC_len nums
      have okc := ok c (List.mem_of_getElem? hci)
      have small : (((cs.take i).map fun c => mkS (cw c)).map V.str).length < sizeLine := by
        refine lt_line ?_
        rw [List.length_map, List.length_map, List.length_take]
        omega
      have fin : ∀ x : Str, x = mkS (cw c) → ∃ v3 : Option V, [some (V.ref l), some (.ref nm), some (.ref wd), some (.ref t)] = [some (.ref l), some (.ref nm), some (.ref wd), v3] ∧ Same H (upd H1 wd (.lst (((cs.take i).map fun c => mkS (cw c)).map V.str ++ [.str x]))) ∧
          (upd H1 wd (.lst (((cs.take i).map fun c => mkS (cw c)).map V.str ++ [.str x]))) nm = some (.lst [.str "down", .str "up", .str "right", .str "left", .str "home", .str "end"]) ∧
          (upd H1 wd (.lst (((cs.take i).map fun c => mkS (cw c)).map V.str ++ [.str x]))) wd = some (.lst (((cs.take (i + 1)).map fun c => mkS (cw c)).map V.str)) := fun x hx => by
        refine ⟨_, rfl, same_freeU e fwd, by rw [upd_ne (Ne.symm dif)]; exact h1, ?_⟩
        rw [upd_same, takeS hci, List.map_append, List.map_append, hx]
        rfl
      cases c with
      | down n =>
        have n1 : 1 ≤ n := okc
        have n2 : n < 10 ^ 40 := nums
        refine ⟨_, rfl, .inl ⟨rfl, _, SqL.of h2⟩, _, rfl, t, _, rfl, .inr ht, _, _, rfl, rfl, _, rfl, iteT ?_⟩
        refine ⟨_, rfl, t, _, 1, _, rfl, rfl, ht, rfl, n, rfl, log64 (by omega) (by omega), ?_⟩
        rw [str_num (by omega)]
        refine ⟨_, rfl, .inl ⟨rfl, _, SqL.of h1⟩, _, rfl, t, _, 0, _, rfl, rfl, ht, rfl, nm, _, .str "down", 0, .str "down", rfl, rfl, SqL.of h1, rfl, rfl, rfl, by decide +kernel, idx_no (by decide +kernel), ?_⟩
        refine ⟨_, _, 68, rfl, rfl, by decide +kernel, by decide +kernel, ?_⟩
        have dl' : (numL n.toNat).length ≤ 40 := dl
        refine ⟨_, _, rfl, rfl, by rw [mkS_len, show (⟨#[68]⟩ : Str).length = 1 from rfl, sizeLine_eq]; omega, ?_⟩
        refine ⟨wd, _, _, rfl, rfl, h2, small, fin _ ?_⟩
        rw [show (⟨#[68]⟩ : Str) = mkS [68] from rfl, mkS_app]
        rfl
      | up n =>
        have n1 : 1 ≤ n := okc
        have n2 : n < 10 ^ 40 := nums
        refine ⟨_, rfl, .inl ⟨rfl, _, SqL.of h2⟩, _, rfl, t, _, rfl, .inr ht, _, _, rfl, rfl, _, rfl, iteT ?_⟩
        refine ⟨_, rfl, t, _, 1, _, rfl, rfl, ht, rfl, n, rfl, log64 (by omega) (by omega), ?_⟩
        rw [str_num (by omega)]
        refine ⟨_, rfl, .inl ⟨rfl, _, SqL.of h1⟩, _, rfl, t, _, 0, _, rfl, rfl, ht, rfl, nm, _, .str "up", 1, .str "up", rfl, rfl, SqL.of h1, rfl, rfl, rfl, by decide +kernel, idx_no (by decide +kernel), ?_⟩
        refine ⟨_, _, 85, rfl, rfl, by decide +kernel, by decide +kernel, ?_⟩
        have dl' : (numL n.toNat).length ≤ 40 := dl
        refine ⟨_, _, rfl, rfl, by rw [mkS_len, show (⟨#[85]⟩ : Str).length = 1 from rfl, sizeLine_eq]; omega, ?_⟩
        refine ⟨wd, _, _, rfl, rfl, h2, small, fin _ ?_⟩
        rw [show (⟨#[85]⟩ : Str) = mkS [85] from rfl, mkS_app]
        rfl
      | right n =>
        have n1 : 1 ≤ n := okc
        have n2 : n < 10 ^ 40 := nums
        refine ⟨_, rfl, .inl ⟨rfl, _, SqL.of h2⟩, _, rfl, t, _, rfl, .inr ht, _, _, rfl, rfl, _, rfl, iteT ?_⟩
        refine ⟨_, rfl, t, _, 1, _, rfl, rfl, ht, rfl, n, rfl, log64 (by omega) (by omega), ?_⟩
        rw [str_num (by omega)]
        refine ⟨_, rfl, .inl ⟨rfl, _, SqL.of h1⟩, _, rfl, t, _, 0, _, rfl, rfl, ht, rfl, nm, _, .str "right", 2, .str "right", rfl, rfl, SqL.of h1, rfl, rfl, rfl, by decide +kernel, idx_no (by decide +kernel), ?_⟩
        refine ⟨_, _, 82, rfl, rfl, by decide +kernel, by decide +kernel, ?_⟩
        have dl' : (numL n.toNat).length ≤ 40 := dl
        refine ⟨_, _, rfl, rfl, by rw [mkS_len, show (⟨#[82]⟩ : Str).length = 1 from rfl, sizeLine_eq]; omega, ?_⟩
        refine ⟨wd, _, _, rfl, rfl, h2, small, fin _ ?_⟩
        rw [show (⟨#[82]⟩ : Str) = mkS [82] from rfl, mkS_app]
        rfl
      | left n =>
        have n1 : 1 ≤ n := okc
        have n2 : n < 10 ^ 40 := nums
        refine ⟨_, rfl, .inl ⟨rfl, _, SqL.of h2⟩, _, rfl, t, _, rfl, .inr ht, _, _, rfl, rfl, _, rfl, iteT ?_⟩
        refine ⟨_, rfl, t, _, 1, _, rfl, rfl, ht, rfl, n, rfl, log64 (by omega) (by omega), ?_⟩
        rw [str_num (by omega)]
        refine ⟨_, rfl, .inl ⟨rfl, _, SqL.of h1⟩, _, rfl, t, _, 0, _, rfl, rfl, ht, rfl, nm, _, .str "left", 3, .str "left", rfl, rfl, SqL.of h1, rfl, rfl, rfl, by decide +kernel, idx_no (by decide +kernel), ?_⟩
        refine ⟨_, _, 76, rfl, rfl, by decide +kernel, by decide +kernel, ?_⟩
        have dl' : (numL n.toNat).length ≤ 40 := dl
        refine ⟨_, _, rfl, rfl, by rw [mkS_len, show (⟨#[76]⟩ : Str).length = 1 from rfl, sizeLine_eq]; omega, ?_⟩
        refine ⟨wd, _, _, rfl, rfl, h2, small, fin _ ?_⟩
        rw [show (⟨#[76]⟩ : Str) = mkS [76] from rfl, mkS_app]
        rfl
      | home =>
        refine ⟨_, rfl, .inl ⟨rfl, _, SqL.of h2⟩, _, rfl, t, _, rfl, .inr ht, _, _, rfl, rfl, _, rfl, iteF ?_⟩
        refine ⟨_, rfl, .inl ⟨rfl, _, SqL.of h1⟩, _, rfl, t, _, 0, _, rfl, rfl, ht, rfl, nm, _, .str "home", 4, .str "home", rfl, rfl, SqL.of h1, rfl, rfl, rfl, by decide +kernel, idx_no (by decide +kernel), ?_⟩
        refine ⟨_, _, 72, rfl, rfl, by decide +kernel, by decide +kernel, ?_⟩
        refine ⟨_, _, rfl, rfl, by decide +kernel, ?_⟩
        refine ⟨wd, _, _, rfl, rfl, h2, small, fin _ ?_⟩
        decide +kernel
      | stop =>
        refine ⟨_, rfl, .inl ⟨rfl, _, SqL.of h2⟩, _, rfl, t, _, rfl, .inr ht, _, _, rfl, rfl, _, rfl, iteF ?_⟩
        refine ⟨_, rfl, .inl ⟨rfl, _, SqL.of h1⟩, _, rfl, t, _, 0, _, rfl, rfl, ht, rfl, nm, _, .str "end", 5, .str "end", rfl, rfl, SqL.of h1, rfl, rfl, rfl, by decide +kernel, idx_no (by decide +kernel), ?_⟩
        refine ⟨_, _, 69, rfl, rfl, by decide +kernel, by decide +kernel, ?_⟩
        refine ⟨_, _, rfl, rfl, by decide +kernel, ?_⟩
        refine ⟨wd, _, _, rfl, rfl, h2, small, fin _ ?_⟩
        decide +kernel
    · obtain ⟨v3, rfl, e, h1, h2⟩ := h
      rw [List.take_of_length_le (by rw [xl]; exact Nat.le_refl _)] at h2
      refine ⟨_, rfl, Nat.zero_le _, fun p hp => ?_⟩
      have e2 : Same H1 (upd H1 p (.lst [])) := new_same hp
      refine ⟨.list ((cs.map fun c => mkS (cw c)).map PyData.str), .list [], .lst (SqL.of (e2 _ _ h2)) (dp_strs _), .lst (SqL.of upd_same) .nil, strs_shaped (fun b hb => by obtain ⟨c, _, rfl⟩ := List.mem_map.mp hb; exact word_ok c), rfl, _, rfl, ?_⟩
      cases cs with
      | nil => exact iteF (k _ (e.trans e2))
      | cons c0 cr =>
        refine iteT ⟨⟨_, rfl⟩, _, rfl, _, wd, (c0 :: cr).map fun c => mkS (cw c), rfl, rfl, .inl (SqL.of (e2 _ _ h2)), ?_, ?_⟩
        · have h3 := words_sum num
          rw [List.length_map]
          have h4 : (Str.ofString " ").length = 1 := by decide +kernel
          rw [h4]
          omega
        · have e3 : Txt.join (Str.ofString " ") ((c0 :: cr).map fun c => mkS (cw c)) = shownS (c0 :: cr) := by
            refine ext_tl ?_
            rw [join_eq, tl_join, List.map_map]
            unfold shownS shownL
            rw [if_neg (by simp)]
            rfl
          rw [e3]
          exact k _ (e.trans e2)
theorem sc_law_read : FnScope ["rng", "many", "most", "size", "found", "turn"] ["rng", "many", "most", "size"] (defScope s_lread) := ⟨rfl, rfl, rfl, by decide +kernel, rfl, by decide +kernel, by decide +kernel⟩
theorem ok_lread {f : Addr} {fd : FuncData} (F : Fun K "_law_read" "_law_read" s_lread f fd) (T : TxtV mg) (c_law_list : Cal P w K mg base 2 "_law_list" (spList K)) (c_law_written : Cal P w K mg base 1 "_law_written" (spWritten K)) (c_read_commands : Cal P w K mg base 3 "read_commands" (spRead K)) :
    FnOk P w K mg base CX0 4 f fd ["rng", "many", "most", "size"] (spLRead K) := by
  refine F.ok sc_law_read (fun vs H Q E h => ?_) (fun cdv A outer s H vs Q E hr h => ?_)
  · obtain ⟨r, n, many, most, size, rfl, _⟩ := h
    rfl
  · obtain ⟨r, n, many, most, size, rfl, hR, hn, m0, a0, a1, z0, z1, k⟩ := h
    refine ⟨_, (pss_cons (ps_set (i := 4) sc_law_read.nd rfl (Or.inl rfl) (pe_lst pa_nil))
      (pss_cons (ps_for PassesOwn.never rfl (pi_range1 rfl T.range (pa_cons (pv 1) pa_nil)) (pg_name (i := 5) sc_law_read.nd rfl (Or.inl rfl)) (pss_one (ps_set (i := 4) sc_law_read.nd rfl (Or.inl rfl) (pe_op op_cat (pv 4) (pe_cal c_law_list hr (by decide) (by rfl) (pa_cons (pv 0) (pa_cons (pv 2) (pa_cons (pv 3) pa_nil))))))))
      (pss_one (ps_ret (pe_cal c_read_commands hr (by decide) (by rfl) (pa_cons (pe_cal c_law_written hr (by decide) (by rfl) (pa_cons (pv 4) pa_nil)) pa_nil)))))), ?_⟩
    refine ⟨Nat.zero_le _, fun f0 nf => ?_⟩
    have fr := hR.off nf
    have e_H1 : Same H (upd H f0 (.lst ([] : List V))) := new_same nf
    have h_f0 : (upd H f0 (.lst ([] : List V))) f0 = some (.lst ([] : List V)) := upd_same
    generalize upd H f0 (.lst ([] : List V)) = H1 at e_H1 h_f0 ⊢
    replace hR := hR.same e_H1
    refine ⟨_, rfl, _, rfl, by omega, by omega, for_range (lo := 0) (n := many) (fun i σ H' => ∃ (v5 : Option V) (q : Addr) (ys : List V) (ds : List Cmd), σ = [some (.ref r), some (.int many), some (.int most), some (.int size), some (.ref q), v5] ∧ Keep r r H H' ∧ Rng H' r (n + 70 * i) ∧ q ≠ r ∧ H' q = some (.lst ys) ∧
        CmdsOf K H' ys ds ∧ AllOk ds ∧ AllSmall ds ∧ (ds.length : Int) ≤ i * most) ⟨none, f0, [], [], rfl, Keep.of e_H1, hR.more (by omega), fr, h_f0, .nil, (fun _ h => nomatch h), (fun _ h => nomatch h), by simp⟩ (fun i σ H2 hi h => ?_) (fun σ H2 h => ?_)⟩
    · obtain ⟨v5, q, ys, ds, rfl, kp, rg, qr, hq, hy, okd, smd, lnd⟩ := h
      refine ⟨_, rfl, _, rfl, _, rfl, _, rfl, r, _, most, size, rfl, rg, by omega, a0, a1, z0, z1, fun H3 l zs es kp3 rg3 nl hl hz oke sme lne => ?_⟩
      have lr := rg.off nl
      have hq3 := kp3 _ _ qr qr hq
      have hy3 := rg.cmds kp3 hy
      have ly := hy3.len
      have lz := hz.len
      have im : (i : Int) * most ≤ 20 * 20 := Int.le_trans (Int.mul_le_mul (show (i : Int) ≤ 20 by omega) a1 a0 (by decide)) (Int.le_refl _)
      refine ⟨q, l, _, _, rfl, rfl, hq3, hl, Nat.le_of_lt (lt_line (by omega)), fun b nb => ?_⟩
      have br := rg3.off nb
      have e_H4 : Same H3 (upd H3 b (.lst (ys ++ zs))) := new_same nb
      have h_b : (upd H3 b (.lst (ys ++ zs))) b = some (.lst (ys ++ zs)) := upd_same
      generalize upd H3 b (.lst (ys ++ zs)) = H4 at e_H4 h_b ⊢
      replace hy3 := hy3.same e_H4
      replace hz := hz.same e_H4
      replace rg3 := rg3.same e_H4
      replace kp3 := kp3.same1 e_H4
      refine ⟨_, b, _, ds ++ es, rfl, kp.trans kp3, rg3.more (by omega), br, h_b, CmdsOf.app hy3 hz, ok_app okd oke, small_app smd sme, ?_⟩
      rw [List.length_append, Int.natCast_add, Int.natCast_add, Int.add_mul]
      omega
    · obtain ⟨v5, q, ys, ds, rfl, kp, rg, qr, hq, hy, okd, smd, lnd⟩ := h
      have im : (many : Int) * most ≤ 20 * 20 := Int.le_trans (Int.mul_le_mul (show (many : Int) ≤ 20 by omega) a1 a0 (by decide)) (Int.le_refl _)
      refine ⟨_, rfl, q, ys, ds, rfl, SqL.of hq, hy, okd, small_num smd, by omega, fun H3 e3 => ?_⟩
      refine ⟨ds, rfl, okd, small_num smd, by omega, fun H4 p xs e4 np hp hx => ?_⟩
      have rg4 := (rg.same e3).same e4
      exact k H4 p xs ds ((kp.same1 e3).same1 e4) (rg4.more (by omega)) ((rg.same e3).off np) hp hx okd smd lnd
end
end Gc

/-! what a form tells of a cursor -/
namespace Gc
open PySem L2
theorem afterL_within {T : List Int} : ∀ {cs : List Cmd} {r : Int} {a : Option Int} {x : Int × Option Int}, 0 ≤ r → r < T.length → afterL T r a cs = some x → Within cs (-r) (T.length - 1 - r)
  | [], r, a, x, h0, h1, _ => fun i => by
    rw [List.take_nil]
    show -r ≤ 0 ∧ (0 : Int) ≤ _
    omega
  | c :: cs, r, a, x, h0, h1, h => fun i => by
    cases i with
    | zero => show -r ≤ 0 ∧ (0 : Int) ≤ _; omega
    | succ i =>
      show -r ≤ c.dv + last (cs.take i) ∧ c.dv + last (cs.take i) ≤ _
      simp only [afterL] at h
      by_cases cv : c.vert = true
      · rw [if_pos cv] at h
        split at h
        · rename_i hin
          have q := afterL_within hin.1 hin.2 h i
          omega
        · cases h
      · rw [if_neg cv] at h
        have dz : c.dv = 0 := dv_flat' (by cases q : c.vert with | false => rfl | true => exact absurd q cv)
        have q := afterL_within h0 h1 h i
        omega
theorem rch_hits (cs : List Cmd) : (∃ i, last (cs.take i) = (rchM cs).1) ∧ ∃ j, last (cs.take j) = (rchM cs).2.1 := by
  have key : ∀ n, n ≤ cs.length → (∃ i, last (cs.take i) = (rchM (cs.take n)).1) ∧ ∃ j, last (cs.take j) = (rchM (cs.take n)).2.1 := by
    intro n
    induction n with
    | zero => intro _; exact ⟨⟨0, rfl⟩, ⟨0, rfl⟩⟩
    | succ n ih =>
      intro hn
      obtain ⟨⟨i, e1⟩, ⟨j, e2⟩⟩ := ih (by omega)
      have hc : cs[n]? = some cs[n] := List.getElem?_eq_getElem (by omega)
      have e3 : (rchM (cs.take n)).2.2 + cs[n].dv = last (cs.take (n + 1)) := by
        rw [(rch_within (cs.take n)).2, take_snoc hc, last_app]
        show _ = last (cs.take n) + (cs[n].dv + 0)
        omega
      rw [rch_more hc]
      unfold rstep
      dsimp only
      refine ⟨?_, ?_⟩
      · split
        · exact ⟨n + 1, e3.symm⟩
        · exact ⟨i, e1⟩
      · split
        · exact ⟨n + 1, e3.symm⟩
        · exact ⟨j, e2⟩
  have q := key cs.length (Nat.le_refl _)
  rw [List.take_length] at q
  exact q
theorem rch_le' {cs : List Cmd} {lo hi : Int} (w : Within cs lo hi) : lo ≤ (rchM cs).1 ∧ (rchM cs).2.1 ≤ hi := by
  obtain ⟨⟨i, hi1⟩, ⟨j, hj⟩⟩ := rch_hits cs
  have a := w i
  have b := w j
  omega
/-- all that a piece asks, as greatest goals -/
def topsM (T : List Int) (r : Int) (a : Option Int) (s : Option Int) (L : Ps) : List Int := L.map (fun q => lenAt T (r + q.1) - q.2) ++ (match s, a with | some s, some g => [g - s] | _, _ => [])
def CapOf (T : List Int) (r : Int) (a : Option Int) (d : PData) (c : Option Int) : Prop := match d.2 with
  | none => c = some 0
  | some L => (topsM T r a d.1 L = [] ∧ c = none) ∨ ∃ m ∈ topsM T r a d.1 L, (∀ y ∈ topsM T r a d.1 L, m ≤ y) ∧ c = some (max 0 m)
theorem val_allq {L : Ps} (nd : (keys L).Nodup) {f : Int → Int} (h0 : ∀ k, 0 ≤ f k) : (∀ q ∈ L, q.2 ≤ f q.1) ↔ ∀ k, val L k ≤ f k := by
  constructor
  · intro h k
    unfold val
    cases e : look L k with
    | none => exact h0 k
    | some v => exact h _ (look_mem e)
  · intro h q hq
    have := h q.1
    unfold val at this
    rw [mem_look nd hq] at this
    exact this
theorem cap_iff {T : List Int} (hT : ∀ x ∈ T, 0 ≤ x) {r : Int} {a : Option Int} (ha : ge a 0) {cs : List Cmd} (ok : AllOk cs) {v : Int} (hv : 1 ≤ v) {c : Option Int} (h : CapOf T r a (dataOf v (boxM cs v)) c) :
    ge (aimF (lenAt T) r a cs) v ↔ ∀ x, c = some x → v ≤ x := by
  rw [box_char (lenAt_nn hT) ha ok hv]
  have nn := lenAt_nn hT
  rcases box_spec ok hv with ⟨e, _⟩ | ⟨st, b, e, g, _, pos⟩
  · rw [e] at h
    obtain rfl : c = some 0 := h
    rw [e]
    constructor
    · rintro ⟨_, _, z, _⟩
      cases z
    · intro z
      have := z 0 rfl
      omega
  · rw [e] at h
    have nd : (keys (b.mergeSort leK)).Nodup := (good_perm g (List.mergeSort_perm b leK)).nd
    have mean : (∃ st' L, boxM cs v = some (st', L) ∧ (∀ n, st' = some n → ge a n) ∧ ∀ k, val L k ≤ lenAt T (r + k)) ↔ ((∀ n, st = some n → ge a n) ∧ ∀ q ∈ b.mergeSort leK, q.2 ≤ lenAt T (r + q.1)) := by
      rw [val_allq nd (f := fun k => lenAt T (r + k)) fun k => nn _]
      constructor
      · rintro ⟨st', L, z, h1, h2⟩
        rw [e] at z
        cases z
        exact ⟨h1, h2⟩
      · rintro ⟨h1, h2⟩
        exact ⟨_, _, e, h1, h2⟩
    rw [mean]
    have tops : ((∀ n, st = some n → ge a n) ∧ ∀ q ∈ b.mergeSort leK, q.2 ≤ lenAt T (r + q.1)) ↔ ∀ y ∈ topsM T r a (st.map (· - v)) ((b.mergeSort leK).map fun q => (q.1, q.2 - v)), v ≤ y := by
      unfold topsM
      constructor
      · rintro ⟨h1, h2⟩ y hy
        rcases List.mem_append.mp hy with hy | hy
        · obtain ⟨q, hq, rfl⟩ := List.mem_map.mp hy
          obtain ⟨p, hp, rfl⟩ := List.mem_map.mp hq
          have := h2 p hp
          show v ≤ lenAt T (r + p.1) - (p.2 - v)
          omega
        · cases st with
          | none => cases hy
          | some n =>
            cases a with
            | none => cases hy
            | some x =>
              have q := ge_some.mp (h1 n rfl)
              rw [List.mem_singleton.mp hy]
              show v ≤ x - (n - v)
              omega
      · intro h
        refine ⟨fun n en => ?_, fun q hq => ?_⟩
        · cases a with
          | none => exact ge_none _
          | some x =>
            subst en
            have z := h (x - (n - v)) (List.mem_append_right _ (List.mem_singleton.mpr rfl))
            exact ge_some.mpr (by omega)
        · have z := h (lenAt T (r + q.1) - (q.2 - v)) (List.mem_append_left _ (List.mem_map.mpr ⟨(q.1, q.2 - v), List.mem_map.mpr ⟨q, hq, rfl⟩, rfl⟩))
          omega
    rw [tops]
    have h' : (topsM T r a (st.map (· - v)) ((b.mergeSort leK).map fun q => (q.1, q.2 - v)) = [] ∧ c = none) ∨ ∃ m ∈ topsM T r a (st.map (· - v)) ((b.mergeSort leK).map fun q => (q.1, q.2 - v)), (∀ y ∈ topsM T r a (st.map (· - v)) ((b.mergeSort leK).map fun q => (q.1, q.2 - v)), m ≤ y) ∧ c = some (max 0 m) := h
    rcases h' with ⟨h1, rfl⟩ | ⟨m, hm, hl, rfl⟩
    · rw [h1]
      exact ⟨fun _ x z => (nomatch z), fun _ y hy => (nomatch hy)⟩
    · constructor
      · intro z x hx
        obtain rfl := Option.some.inj hx
        have := z m hm
        omega
      · intro z y hy
        have := z _ rfl
        have := hl y hy
        omega
theorem aim_is {a : Option Int} {x : Int} (h1 : ge a x) (h2 : ¬ ge a (x + 1)) : a = some x := by
  cases a with
  | none => exact absurd (ge_none _) h2
  | some y =>
    have q1 := ge_some.mp h1
    have q2 : ¬ x + 1 ≤ y := fun z => h2 (ge_some.mpr z)
    rw [show y = x by omega]
theorem aim_none {a : Option Int} {f : Int} (h : ∀ v, f ≤ v → ge a v) : a = none := by
  cases a with
  | none => rfl
  | some y =>
    have q := ge_some.mp (h (max f (y + 1)) (by omega))
    omega
end Gc

/-! what parting tells parts the lists; lists of the same form lead to the same -/
namespace Gc
open PySem L2
theorem ge_eq {a b : Option Int} (ha : ge a 0) (hb : ge b 0) (h : ∀ v, 1 ≤ v → (ge a v ↔ ge b v)) : a = b := by
  cases a with
  | none =>
    cases b with
    | none => rfl
    | some y =>
      have q := ge_some.mp hb
      have z := ge_some.mp ((h (y + 1) (by omega)).mp (ge_none _))
      omega
  | some x =>
    have p := ge_some.mp ha
    cases b with
    | none =>
      have z := ge_some.mp ((h (x + 1) (by omega)).mpr (ge_none _))
      omega
    | some y =>
      have q := ge_some.mp hb
      by_cases c : x = y
      · rw [c]
      · rcases Int.lt_or_gt_of_ne c with l | l
        · have z := ge_some.mp ((h y (by omega)).mpr (ge_some.mpr (Int.le_refl _)))
          omega
        · have z := ge_some.mp ((h x (by omega)).mp (ge_some.mpr (Int.le_refl _)))
          omega
/-- lists of the same form lead to the same -/
theorem same_after {cs ds : List Cmd} (oc : AllOk cs) (od : AllOk ds) (h : SameForm cs ds) {T : List Int} (hT : ∀ x ∈ T, 0 ≤ x) {r : Int} {a : Option Int} (r0 : 0 ≤ r) (r1 : r < T.length) (ha : ge a 0) : afterL T r a cs = afterL T r a ds := by
  have box := (form_eq cs ds).mp h.2
  have el : last cs = last ds := by rw [← form_rch cs, ← form_rch ds, h.1]
  by_cases w : -r ≤ (rchM cs).1 ∧ (rchM cs).2.1 ≤ T.length - 1 - r
  · have wc := (rch_within cs).1.le w.1 w.2
    have wd : Within ds (-r) (T.length - 1 - r) := (rch_within ds).1.le (by rw [← h.1]; exact w.1) (by rw [← h.1]; exact w.2)
    rw [afterL_in wc, afterL_in wd, el]
    have e := ge_eq (aimF_nn (r := r) (lenAt_nn hT) oc ha) (aimF_nn (r := r) (lenAt_nn hT) od ha) fun v hv => by
      rw [box_char (lenAt_nn hT) ha oc hv, box_char (lenAt_nn hT) ha od hv, box v hv]
    rw [e]
  · have nc : afterL T r a cs = none := by
      cases q : afterL T r a cs with
      | none => rfl
      | some x => exact absurd (rch_le' (afterL_within r0 r1 q)) w
    have nd : afterL T r a ds = none := by
      cases q : afterL T r a ds with
      | none => rfl
      | some x =>
        have z := rch_le' (afterL_within r0 r1 q)
        rw [← h.1] at z
        exact absurd z w
    rw [nc, nd]
theorem rle_head {D : Int → PData} {p : Piece} {ps : List Piece} {a : Int} (h : Rle D a (p :: ps)) : p = (a, D a) := by
  obtain ⟨r, e⟩ := h.head
  exact (List.cons.inj e).1
/-- at the first difference the boxes differ -/
theorem diffG_box {D E : Int → PData} : ∀ {ps qs : List Piece} {a : Int}, Rle D a ps → Rle E a qs → ps ≠ qs → ∃ g, diffG ps qs = some g ∧ D g ≠ E g
  | [], _, _, h, _, _ => h.elim
  | _ :: _, [], _, _, h, _ => h.elim
  | p :: ps, q :: qs, a, h1, h2, ne => by
    have e1 := rle_head h1
    have e2 := rle_head h2
    by_cases c : p = q
    · have dd : D a = E a := by
        rw [e1, e2] at c
        exact (Prod.mk.inj c).2
      have pa : p = (a, D a) := e1
      unfold diffG
      rw [if_pos c]
      match ps, qs, h1, h2, ne with
      | [], [], _, _, ne => exact absurd (by rw [c]) ne
      | [], (b, e) :: s, h1, h2, _ =>
        subst pa
        obtain rfl := c.symm
        refine ⟨b, rfl, fun z => ?_⟩
        have k1 := h1.2 b (Int.le_of_lt h2.2.1)
        have k2 := rle_head h2.2.2.2.2
        have k3 : e = E b := (Prod.mk.inj k2).2
        exact h2.2.2.2.1 (by rw [k3, ← z, k1])
      | (b, e) :: s, [], h1, h2, _ =>
        subst pa
        obtain rfl := c.symm
        refine ⟨b, rfl, fun z => ?_⟩
        have k1 := h2.2 b (Int.le_of_lt h1.2.1)
        have k2 := rle_head h1.2.2.2.2
        have k3 : e = D b := (Prod.mk.inj k2).2
        exact h1.2.2.2.1 (by rw [k3, z, k1])
      | (b, e) :: s, (b', e') :: s', h1, h2, ne =>
        subst pa
        obtain rfl := c.symm
        have k2 : e = D b := (Prod.mk.inj (rle_head h1.2.2.2.2)).2
        have k2' : e' = E b' := (Prod.mk.inj (rle_head h2.2.2.2.2)).2
        by_cases cb : b = b'
        · subst cb
          exact diffG_box h1.2.2.2.2 h2.2.2.2.2 fun z => ne (by rw [z])
        · have np : ((b, e) : Piece) ≠ (b', e') := fun z => cb (Prod.mk.inj z).1
          unfold diffG
          rw [if_neg np]
          rcases Int.lt_or_gt_of_ne cb with l | l
          · refine ⟨b, congrArg some (if_neg (by show ¬ b' < b; omega)), fun z => ?_⟩
            have k1 := h2.2.2.1 b (Int.le_of_lt h1.2.1) l
            exact h1.2.2.2.1 (by rw [k2, z, k1])
          · refine ⟨b', congrArg some (if_pos (by show b' < b; omega)), fun z => ?_⟩
            have k1 := h1.2.2.1 b' (Int.le_of_lt h2.2.1) l
            exact h2.2.2.2.1 (by rw [k2', ← z, k1])
    · unfold diffG
      rw [if_neg c]
      refine ⟨a, ?_, fun z => c (by rw [e1, e2, z])⟩
      rw [e1, e2]
      exact congrArg some (if_neg (Int.lt_irrefl a))
/-- the least start of cs, and where it leads ds to the goal, the box of ds is no stronger -/
theorem box_below {cs ds : List Cmd} {g : Int} (oc : AllOk cs) (od : AllOk ds) (hg : 1 ≤ g) {st : Option Int} {b : Ps} (gb : Good b) (pos : ∀ n, st = some n → 1 ≤ n) (eb : boxM cs g = some (st, b.mergeSort leK)) (er : rchM cs = rchM ds)
    {r' : Int} {a' : Option Int} (ha : afterL (textM (rchM cs).1 (rchM cs).2.1 (b.mergeSort leK)) (-(rchM cs).1) (some (st.getD 0)) ds = some (r', a')) (hge : ge a' g) :
    ∃ st' b', boxM ds g = some (st', b'.mergeSort leK) ∧ Good b' ∧ (∀ n, st' = some n → 1 ≤ n) ∧ (∀ n, st' = some n → ∃ m, st = some m ∧ n ≤ m) ∧ ∀ k, val b' k ≤ val b k := by
  have wc := (rch_within cs).1
  have wd : Within ds (rchM cs).1 (rchM cs).2.1 := by rw [er]; exact (rch_within ds).1
  have gL := good_perm gb (List.mergeSort_perm b leK)
  have wL := box_within eb wc
  have vL : val (b.mergeSort leK) = val b := val_at gb
  generalize hL : b.mergeSort leK = L at *
  have z := wc.zero
  have tl := textM_len (lo := (rchM cs).1) (hi := (rchM cs).2.1) (by omega) L
  have nn := textM_nn gL wL
  have a0 : ge (some (st.getD 0)) 0 := ge_some.mpr (by
    cases st with
    | none => exact Int.le_refl 0
    | some n =>
      have := pos n rfl
      show 0 ≤ n
      omega)
  obtain ⟨a2, h1, _, h2⟩ := after_char nn a0 od hg (wd.le (show -(-(rchM cs).1) ≤ (rchM cs).1 by omega) (show (rchM cs).2.1 ≤ (textM (rchM cs).1 (rchM cs).2.1 L).length - 1 - (-(rchM cs).1) by omega))
  rw [ha] at h1
  have ea : a' = a2 := (Prod.mk.inj (Option.some.inj h1)).2
  subst ea
  obtain ⟨st', L', e', s1, l1⟩ := h2.mp hge
  rcases box_spec od hg with ⟨y, _⟩ | ⟨st2, b', y, g', _, p⟩
  · rw [y] at e'
    cases e'
  · rw [y] at e'
    cases e'
    refine ⟨_, b', y, g', p, fun n en => ?_, fun k => ?_⟩
    · have q := ge_some.mp (s1 n en)
      have := p n en
      cases st with
      | none =>
        have q' : n ≤ 0 := q
        omega
      | some m => exact ⟨m, rfl, q⟩
    · have q := l1 k
      rw [val_at g'] at q
      by_cases h : (rchM cs).1 ≤ k ∧ k ≤ (rchM cs).2.1
      · rw [show -(rchM cs).1 + k = k - (rchM cs).1 by omega, textM_at gL wL h.1 h.2, vL] at q
        exact q
      · have w' := box_within y wd
        have v0 := val_off w' h
        rw [val_at g'] at v0
        rw [v0]
        exact val_nonneg gb k
/-- the least text of a list, and that it leads to the goal -/
theorem least_at {cs : List Cmd} {g : Int} (oc : AllOk cs) (hg : 1 ≤ g) {st : Option Int} {b : Ps} (gb : Good b) (pos : ∀ n, st = some n → 1 ≤ n) (eb : boxM cs g = some (st, b.mergeSort leK)) :
    leastM cs g = some (textM (rchM cs).1 (rchM cs).2.1 (b.mergeSort leK), -(rchM cs).1, st.getD 0) ∧ ∃ a', afterL (textM (rchM cs).1 (rchM cs).2.1 (b.mergeSort leK)) (-(rchM cs).1) (some (st.getD 0)) cs = some (-(rchM cs).1 + last cs, a') ∧ ge a' g := by
  refine ⟨by unfold leastM; rw [eb]; rfl, ?_⟩
  exact least_gets (good_perm gb (List.mergeSort_perm b leK)) (rch_within cs).1 oc hg eb pos
/-- what parting tells of lists of different forms -/
theorem parted {cs ds : List Cmd} (oc : AllOk cs) (od : AllOk ds) (h : ¬ SameForm cs ds) :
    ∃ x, partM cs ds = some x ∧ (∀ y ∈ x.1, 0 ≤ y) ∧ 0 ≤ x.2.1 ∧ x.2.1 < x.1.length ∧ 0 ≤ x.2.2 ∧ afterL x.1 x.2.1 (some x.2.2) cs ≠ afterL x.1 x.2.1 (some x.2.2) ds := by
  by_cases er : rchM cs = rchM ds
  · have fne : formM cs ≠ formM ds := fun z => h ⟨er, z⟩
    obtain ⟨g, hg, nd⟩ := diffG_box (form_rle cs) (form_rle ds) fne
    have g1 := diffG_pos hg
    have nb : boxM cs g ≠ boxM ds g := fun z => nd (by show dataOf g (boxM cs g) = dataOf g (boxM ds g); rw [z])
    have pm : partM cs ds = match leastM cs g with
        | some x => if afterL x.1 x.2.1 (some x.2.2) cs ≠ afterL x.1 x.2.1 (some x.2.2) ds then some x else leastM ds g
        | none => leastM ds g := by
      unfold partM
      rw [if_neg (fun z => z er), hg]
      rfl
    rcases box_spec oc g1 with ⟨bc, _⟩ | ⟨st, b, bc, gb, _, pb⟩
    · -- the first list never reaches the goal
      have lc : leastM cs g = none := by unfold leastM; rw [bc]; rfl
      rw [lc] at pm
      rcases box_spec od g1 with ⟨bd, _⟩ | ⟨st', b', bd, gb', _, pb'⟩
      · exact absurd (bc.trans bd.symm) nb
      · obtain ⟨ld, a', e', ge'⟩ := least_at od g1 gb' pb' bd
        obtain ⟨nn, r0, rl, g0, _⟩ := least_runs od g1 ld
        refine ⟨_, pm.trans ld, nn, r0, rl, g0, fun z => ?_⟩
        rw [e'] at z
        obtain ⟨st2, b2, y, _⟩ := box_below od oc g1 gb' pb' bd er.symm z ge'
        rw [bc] at y
        cases y
    · obtain ⟨lc, a', e', ge'⟩ := least_at oc g1 gb pb bc
      obtain ⟨nn, r0, rl, g0, _⟩ := least_runs oc g1 lc
      rw [lc] at pm
      simp only at pm
      by_cases c : afterL (textM (rchM cs).1 (rchM cs).2.1 (b.mergeSort leK)) (-(rchM cs).1) (some (st.getD 0)) cs = afterL (textM (rchM cs).1 (rchM cs).2.1 (b.mergeSort leK)) (-(rchM cs).1) (some (st.getD 0)) ds
      · rw [if_neg (fun z => z c)] at pm
        obtain ⟨st2, b2, bd, gb2, pb2, s1, l1⟩ := box_below oc od g1 gb pb bc er (c ▸ e') ge'
        obtain ⟨ld, a2, e2, ge2⟩ := least_at od g1 gb2 pb2 bd
        obtain ⟨nn2, r02, rl2, g02, _⟩ := least_runs od g1 ld
        refine ⟨_, pm.trans ld, nn2, r02, rl2, g02, fun z => ?_⟩
        rw [e2] at z
        obtain ⟨st3, b3, bc3, gb3, pb3, s2, l2⟩ := box_below od oc g1 gb2 pb2 bd er.symm z ge2
        have eq3 : (st3, b3.mergeSort leK) = (st, b.mergeSort leK) := Option.some.inj (bc3.symm.trans bc)
        have es : st3 = st := (Prod.mk.inj eq3).1
        have el : b3.mergeSort leK = b.mergeSort leK := (Prod.mk.inj eq3).2
        have ev : val b3 = val b := by rw [← val_at gb3, el, val_at gb]
        subst es
        rw [ev] at l2
        have fin := box_two gb gb2 s1 s2 l1 l2
        exact nb (by rw [bc, bd, fin])
      · rw [if_pos c] at pm
        exact ⟨_, pm, nn, r0, rl, g0, c⟩
  · have wc := (rch_within cs).1
    have wd := (rch_within ds).1
    have zc := wc.zero
    have zd := wd.zero
    have pm : partM cs ds = some (farM (rchM cs) (rchM ds)) := by
      unfold partM
      rw [if_pos er]
    have ec := form_rch cs
    have ed := form_rch ds
    -- on a text of zeros
    have gen : ∀ (lo hi : Int), lo ≤ 0 → 0 ≤ hi → (∀ y ∈ List.replicate (hi - lo + 1).toNat (0 : Int), 0 ≤ y) ∧ 0 ≤ -lo ∧ -lo < (List.replicate (hi - lo + 1).toNat (0 : Int)).length := fun lo hi h1 h2 => by
      refine ⟨fun y hy => ?_, by omega, ?_⟩
      · rw [(List.mem_replicate.mp hy).2]
        exact Int.le_refl 0
      · rw [List.length_replicate]
        omega
    have main : ∀ (es fs : List Cmd), rchM es ≠ rchM fs → (rchM es).2.1 - (rchM es).1 ≤ (rchM fs).2.1 - (rchM fs).1 → afterL (List.replicate ((rchM es).2.1 - (rchM es).1 + 1).toNat 0) (-(rchM es).1) (some 0) es ≠ afterL (List.replicate ((rchM es).2.1 - (rchM es).1 + 1).toNat 0) (-(rchM es).1) (some 0) fs := fun es fs ne wd z => by
      have we := (rch_within es).1
      have ze := we.zero
      obtain ⟨_, q1, q2⟩ := gen (rchM es).1 (rchM es).2.1 ze.1 ze.2
      have ll : ((List.replicate ((rchM es).2.1 - (rchM es).1 + 1).toNat (0 : Int)).length : Int) = (rchM es).2.1 - (rchM es).1 + 1 := by
        rw [List.length_replicate]
        omega
      have e1 := afterL_in (T := List.replicate ((rchM es).2.1 - (rchM es).1 + 1).toNat (0 : Int)) (a := some 0) (we.le (show -(-(rchM es).1) ≤ (rchM es).1 by omega) (show (rchM es).2.1 ≤ (List.replicate ((rchM es).2.1 - (rchM es).1 + 1).toNat (0 : Int)).length - 1 - (-(rchM es).1) by omega))
      have z2 := z.symm.trans e1
      have w2 := afterL_within q1 q2 z2
      have b2 := rch_le' w2
      have e2 := afterL_in (a := some 0) w2
      have er2 := (Prod.mk.inj (Option.some.inj (z2.symm.trans e2))).1
      have le := form_rch es
      have lf := form_rch fs
      have k1 : (rchM es).1 = (rchM fs).1 := by omega
      have k2 : (rchM es).2.1 = (rchM fs).2.1 := by omega
      have k3 : (rchM es).2.2 = (rchM fs).2.2 := by omega
      exact ne (Prod.ext k1 (Prod.ext k2 k3))
    refine ⟨_, pm, ?_⟩
    unfold farM
    by_cases c : (rchM ds).2.1 - (rchM ds).1 < (rchM cs).2.1 - (rchM cs).1
    · rw [if_pos c]
      obtain ⟨q0, q1, q2⟩ := gen (rchM ds).1 (rchM ds).2.1 zd.1 zd.2
      exact ⟨q0, q1, q2, Int.le_refl 0, fun z => main ds cs (Ne.symm er) (by omega) z.symm⟩
    · rw [if_neg c]
      obtain ⟨q0, q1, q2⟩ := gen (rchM cs).1 (rchM cs).2.1 zc.1 zc.2
      exact ⟨q0, q1, q2, Int.le_refl 0, main cs ds er (by omega)⟩
end Gc

/-! a list near another one (k11) -/
namespace Gc
open PySem L2
abbrev s_near : Stmt := top 51
structure TxtNr (mg : Str → Option Value) : Prop where
  list : mg "list" = none
  range : mg "range" = none
  len : mg "len" = none
  min : mg "min" = none
  max : mg "max" = none
/-- a command whose row changes by at most k -/
def NearC (k : Nat) (c : Cmd) : Prop := c.ok ∧ c.num ≤ 10 ^ 30 ∧ c.dv.natAbs ≤ k
def spNear (K : PySem.W.Frag) : Sp := fun vs H Q _ => ∃ (r l : Addr) (n : Nat) (size : Int) (xs : List V) (cs : List Cmd), vs = [.ref r, .ref l, .int size] ∧ Rng H r n ∧ n < 2 ^ 38 ∧ H l = some (.lst xs) ∧ l ≠ r ∧ CmdsOf K H xs cs ∧ (∀ c ∈ cs, NearC 2 c) ∧ cs.length ≤ 20 ∧ 1 ≤ size ∧ size ≤ 10 ^ 30 ∧
  ∀ (H' : Hp) (p : Addr) (ys : List V) (ds : List Cmd), Keep r r H H' → Rng H' r (n + 300) → p ≠ r → H p = none → H' p = some (.lst ys) → CmdsOf K H' ys ds → (∀ c ∈ ds, NearC 4 c) → ds.length ≤ 20 → Q (.ref p) H'
theorem cut_to {xs : List V} {j : Nat} : cutV xs none (some (j : Int)) = xs.take j := by
  unfold cutV
  rw [HT.sIx_none, HT.sIx_nat, List.drop_zero, Nat.sub_zero]
  by_cases h : j ≤ xs.length
  · rw [Nat.min_eq_left h]
  · rw [Nat.min_eq_right (by omega), List.take_length, List.take_of_length_le (by omega)]
theorem cut_from {xs : List V} {j : Nat} : cutV xs (some (j : Int)) none = xs.drop j := by
  unfold cutV
  rw [HT.sIx_none, HT.sIx_nat]
  by_cases h : j ≤ xs.length
  · rw [Nat.min_eq_left h]
    exact List.take_of_length_le (by rw [List.length_drop]; omega)
  · rw [Nat.min_eq_right (by omega), List.drop_length, List.drop_eq_nil_of_le (by omega), List.take_nil]
theorem cut_mid {xs : List V} {j k : Nat} (h : j ≤ xs.length) : cutV xs (some (j : Int)) (some ((j + k : Nat) : Int)) = (xs.drop j).take k := by
  unfold cutV
  rw [HT.sIx_nat, HT.sIx_nat, Nat.min_eq_left h]
  by_cases g : j + k ≤ xs.length
  · rw [Nat.min_eq_left g, show j + k - j = k by omega]
  · rw [Nat.min_eq_right (by omega), List.take_of_length_le (by rw [List.length_drop]; omega), List.take_of_length_le (by rw [List.length_drop]; omega)]
theorem paired_cat {α β : Type} {F : α → β → Prop} {us : List α} {vs : List β} : ∀ {xs : List α} {ys : List β}, Paired F xs ys → Paired F us vs → Paired F (xs ++ us) (ys ++ vs)
  | _, _, .nil, h => h
  | _, _, .cons f t, h => .cons f (paired_cat t h)
theorem paired_rev {α β : Type} {F : α → β → Prop} : ∀ {xs : List α} {ys : List β}, Paired F xs ys → Paired F xs.reverse ys.reverse
  | _, _, .nil => .nil
  | _, _, .cons f t => by
    rw [List.reverse_cons, List.reverse_cons]
    exact paired_cat (paired_rev t) (.cons f .nil)
theorem freeKN {a l : Addr} {H H' : Hp} (e : Keep a a H H') (n : l ≠ a) (h : H' l = none) : H l = none := by
  cases q : H l with
  | none => rfl
  | some o =>
    have z := e l o n n q
    rw [h] at z
    cases z
theorem one_len {α : Type} {xs : List α} {j : Nat} : (xs[j]?).toList.length ≤ 1 := by
  cases xs[j]? <;> simp
theorem one_mem {α : Type} {xs : List α} {j : Nat} {x : α} (h : x ∈ (xs[j]?).toList) : x ∈ xs := by
  cases q : xs[j]? with
  | none => rw [q] at h; simp at h
  | some y =>
    rw [q] at h
    have e : x = y := by simpa using h
    rw [e]
    exact List.mem_of_getElem? q
theorem rep_two {α : Type} (xs : List α) : (List.replicate (2 : Int).toNat xs).flatten = xs ++ xs := by
  show (List.replicate 2 xs).flatten = xs ++ xs
  simp [List.replicate]
/-- a number changed by 1 -/
def bentN (n v : Int) : Int := if (if n + v > 1 then n + v else 1) < 10 ^ 30 - 1 then (if n + v > 1 then n + v else 1) else 10 ^ 30 - 1
theorem bentN_in {n v : Int} (hv : v = -1 ∨ v = 1) (h : 1 ≤ n) (g : n ≤ 10 ^ 30) : 1 ≤ bentN n v ∧ bentN n v ≤ 10 ^ 30 ∧ bentN n v ≤ n + 1 := by
  unfold bentN
  rcases hv with rfl | rfl <;> (split <;> split <;> omega)
theorem NearC.up {k m : Nat} {c : Cmd} (h : NearC k c) (l : k ≤ m) : NearC m c := ⟨h.1, h.2.1, Nat.le_trans h.2.2 l⟩
/-- found and more, while a list near is made -/
structure NrSt (K : PySem.W.Frag) (H0 H : Hp) (r q m : Addr) (N k : Nat) (ys ms : List V) (ds es : List Cmd) : Prop where
  kA : Keep r r H0 H
  R : Rng H r N
  hq : H q = some (.lst ys)
  qr : q ≠ r
  hc : CmdsOf K H ys ds
  nc : ∀ c ∈ ds, NearC k c
  hm : H m = some (.lst ms)
  mc : CmdsOf K H ms es
  nm : ∀ c ∈ es, NearC 2 c
theorem NrSt.same {K : PySem.W.Frag} {H0 H H' : Hp} {r q m : Addr} {N k : Nat} {ys ms : List V} {ds es : List Cmd} (S : NrSt K H0 H r q m N k ys ms ds es) (e : Same H H') : NrSt K H0 H' r q m N k ys ms ds es :=
  ⟨S.kA.trans (Keep.of e), S.R.same e, e _ _ S.hq, S.qr, S.hc.same e, S.nc, e _ _ S.hm, S.mc.same e, S.nm⟩
theorem mem_drop' {α : Type} {x : α} {xs : List α} {j : Nat} (h : x ∈ xs.drop j) : x ∈ xs := List.mem_of_mem_drop h
theorem mem_take' {α : Type} {x : α} {xs : List α} {j : Nat} (h : x ∈ xs.take j) : x ∈ xs := List.mem_of_mem_take h
section
variable {P : Program} {w : World} {K : PySem.W.Frag} {mg : Str → Option Value} {base : Heap}
theorem sc_law_near : FnScope ["rng", "steps", "size", "found", "turn", "spot", "kind", "more", "here", "bent", "step"] ["rng", "steps", "size"] (defScope s_near) := ⟨rfl, rfl, rfl, by decide +kernel, rfl, by decide +kernel, by decide +kernel⟩
theorem ok_near {f : Addr} {fd : FuncData} (F : Fun K "_law_near" "_law_near" s_near f fd) (T : TxtNr mg) (c_law_draw : Cal P w K mg base 1 "_law_draw" spDraw) (c_law_list : Cal P w K mg base 2 "_law_list" (spList K)) : FnOk P w K mg base CX0 3 f fd ["rng", "steps", "size"] (spNear K) := by
  refine F.ok sc_law_near (fun vs H Q E h => ?_) (fun cdv A outer s H vs Q E hr h => ?_)
  · obtain ⟨r, l, n, size, xs, cs, rfl, _⟩ := h
    rfl
  · obtain ⟨r, l, n, size, xs, cs, rfl, R0, hn, hl, lr, hc, nc, ln, z0, z1, k⟩ := h
    refine ⟨_, (pss_cons (ps_set (i := 3) sc_law_near.nd rfl (Or.inl rfl) (pe_callTy call_list_of (by rfl) T.list (by decide +kernel) (pa_cons (pv 1) pa_nil)))
      (pss_cons (ps_for PassesOwn.never rfl (pi_range1 rfl T.range (pa_cons (pe_op op_add pe_int (pe_cal c_law_draw hr (by decide) (by rfl) (pa_cons (pv 0) (pa_cons pe_int pa_nil)))) pa_nil)) (pg_name (i := 4) sc_law_near.nd rfl (Or.inl rfl)) (pss_cons (ps_par (i := 5) (j := 6) rfl sc_law_near.nd rfl rfl (by decide) rfl rfl (pa_cons (pe_cal c_law_draw hr (by decide) (by rfl) (pa_cons (pv 0) (pa_cons (pe_op op_add (pe_callB call_len_seq (by rfl) T.len (by decide +kernel) (pa_cons (pv 3) pa_nil)) pe_int) pa_nil))) (pa_cons (pe_cal c_law_draw hr (by decide) (by rfl) (pa_cons (pv 0) (pa_cons pe_int pa_nil))) pa_nil)) (by rfl))
      (pss_cons (ps_set (i := 7) sc_law_near.nd rfl (Or.inr rfl) (pe_cal c_law_list hr (by decide) (by rfl) (pa_cons (pv 0) (pa_cons pe_int (pa_cons (pv 2) pa_nil)))))
      (pss_cons (ps_set (i := 8) sc_law_near.nd rfl (Or.inl rfl) (pe_slice sl_list (pv 3) (po_some (pv 5)) (po_some (pe_op op_add (pv 5) pe_int))))
      (pss_one (ps_if (pt_cmpR op_eq (pv 6) pe_int (nomark _)) (pss_one (ps_set (i := 3) sc_law_near.nd rfl (Or.inl rfl) (pe_op op_cat (pe_op op_cat (pe_slice sl_list (pv 3) po_none (po_some (pv 5))) (pv 7)) (pe_slice sl_list (pv 3) (po_some (pv 5)) po_none)))) (pss_one (ps_if (pt_cmpR op_eq (pv 6) pe_int (nomark _)) (pss_one (ps_set (i := 3) sc_law_near.nd rfl (Or.inl rfl) (pe_op op_cat (pe_slice sl_list (pv 3) po_none (po_some (pv 5))) (pe_slice sl_list (pv 3) (po_some (pe_op op_add (pv 5) pe_int)) po_none)))) (pss_one (ps_if (pt_cmpR op_eq (pv 6) pe_int (nomark _)) (pss_one (ps_set (i := 3) sc_law_near.nd rfl (Or.inl rfl) (pe_op op_cat (pe_op op_cat (pe_slice sl_list (pv 3) po_none (po_some (pv 5))) (pe_revL (pe_slice sl_list (pv 3) (po_some (pv 5)) (po_some (pe_op op_add (pv 5) pe_int))))) (pe_slice sl_list (pv 3) (po_some (pe_op op_add (pv 5) pe_int)) po_none)))) (pss_one (ps_if (pt_cmpR op_eq (pv 6) pe_int (nomark _)) (pss_one (ps_set (i := 3) sc_law_near.nd rfl (Or.inl rfl) (pe_op op_cat (pe_op op_cat (pe_slice sl_list (pv 3) po_none (po_some (pv 5))) (pe_op op_rep (pv 8) pe_int)) (pe_slice sl_list (pv 3) (po_some (pe_op op_add (pv 5) pe_int)) po_none)))) (pss_one (ps_if (pt_cmpR op_eq (pv 6) pe_int (nomark _)) (pss_cons (ps_set (i := 7) sc_law_near.nd rfl (Or.inr rfl) (pe_op op_sub (pe_op op_mulW pe_int (pe_cal c_law_draw hr (by decide) (by rfl) (pa_cons (pv 0) (pa_cons pe_int pa_nil)))) pe_int))
      (pss_cons (ps_setLc (i := 9) (own := [("step", 10)]) rfl sc_law_near.nd rfl rfl (sw_true rfl rfl rfl (by decide +kernel)) (pi_list (pv 8)) (blkOk_by (N := ["rng", "steps", "size", "found", "turn", "spot", "kind", "more", "here", "bent", "step"]) (sc := defScope s_near) (by decide +kernel)) (fun _ _ _ _ _ => (pg_name (i := 10) sc_law_near.nd rfl (Or.inl rfl))) (fun _ _ _ _ _ => (pts_one (pt_cmpR op_eq (pe_callB (show CallR _ _ (rLenQ K) from call_len_seq) (by rfl) T.len (by decide +kernel) (pa_cons (pv 10) pa_nil)) pe_int (nomark _)))) (fun _ _ _ _ _ => (pe_tup (pa_cons (pe_ix (show IxR _ (rIxT K) from ix_tup) (pv 10) pe_int (fun _ _ => rfl)) (pa_cons (pe_callB (call_min2 rfl) (by rfl) T.min (by decide +kernel) (pa_cons (pe_op op_sub (pe_op op_pow pe_int pe_int) pe_int) (pa_cons (pe_callB (call_max2 rfl) (by rfl) T.max (by decide +kernel) (pa_cons pe_int (pa_cons (pe_op op_add (pe_ix (show IxR _ (rIxT K) from ix_tup) (pv 10) pe_int (fun _ _ => rfl)) (pv 7)) pa_nil))) pa_nil))) pa_nil)))))
      (pss_one (ps_set (i := 3) sc_law_near.nd rfl (Or.inl rfl) (pe_op op_cat (pe_op op_cat (pe_slice sl_list (pv 3) po_none (po_some (pv 5))) (pv 9)) (pe_slice sl_list (pv 3) (po_some (pe_op op_add (pv 5) pe_int)) po_none)))))) (pss_one (ps_set (i := 3) sc_law_near.nd rfl (Or.inl rfl) (pe_op op_cat (pe_op op_cat (pe_slice sl_list (pv 3) po_none (po_some (pv 5))) (pv 7)) (pe_slice sl_list (pv 3) (po_some (pe_op op_add (pv 5) pe_int)) po_none))))))))))))))))))
      (pss_one (ps_ret (pe_slice sl_list (pv 3) po_none (po_some pe_int)))))), ?_⟩
    refine ⟨_, rfl, l, _, rfl, .inl (SqL.of hl), fun q nq => ?_⟩
    have qr := R0.off nq
    have kA : Keep r r H H := Keep.refl H
    have e_H1 : Same H (upd H q (.lst xs)) := new_same nq
    have h_q : (upd H q (.lst xs)) q = some (.lst xs) := upd_same
    generalize upd H q (.lst xs) = H1 at e_H1 h_q ⊢
    replace R0 := R0.same e_H1
    replace hc := hc.same e_H1
    replace kA := kA.same1 e_H1
    have R1 := R0
    refine ⟨_, rfl, r, _, 2, rfl, R1, by omega, by decide, by decide, fun H2 t kp2 R2 t0 t1 => ⟨_, _, rfl, rfl, ?_⟩⟩
    refine ⟨_, rfl, by omega, by omega, for_range (lo := 0) (n := (1 + t).toNat) (fun i σ H' => ∃ (q : Addr) (ys : List V) (ds : List Cmd) (v4 v5 v6 v7 v8 v9 v10 : Option V), σ = [some (.ref r), some (.ref l), some (.int size), some (.ref q), v4, v5, v6, v7, v8, v9, v10] ∧ Keep r r H H' ∧ Rng H' r (n + 10 + 100 * i) ∧ H' q = some (.lst ys) ∧ q ≠ r ∧ H q = none ∧ CmdsOf K H' ys ds ∧ (∀ c ∈ ds, NearC (2 + i) c) ∧ ds.length ≤ 20 + i)
      ⟨q, xs, cs, none, none, none, none, none, none, none, rfl, kA.trans kp2, R2.more (by omega), kp2 _ _ qr qr h_q, qr, nq, R1.cmds kp2 hc, nc, by omega⟩ (fun i σ H3 hi h => ?_) (fun σ H3 h => ?_)⟩
    · obtain ⟨q3, ys, ds, v4, v5, v6, v7, v8, v9, v10, rfl, kA3, R3, hq3, qr3, nq3, hc3, nc3, ln3⟩ := h
      have ly := hc3.len
      have hi2 : i < 2 := by omega
      refine ⟨_, rfl, _, rfl, q3, _, rfl, .inl (SqL.of hq3), _, _, rfl, rfl, r, _, _, rfl, R3, by omega, by omega, log9 (a := 25) (by omega) (by decide), fun H4 sp kp4 R4 s0 s1 => ?_⟩
      refine ⟨_, rfl, r, _, 6, rfl, R4, by omega, by decide, by decide, fun H5 kd kp5 R5 k0 k1 => ⟨_, _, rfl, ?_⟩⟩
      have hc5 := R4.cmds kp5 (R3.cmds kp4 hc3)
      have hq5 := kp5 _ _ qr3 qr3 (kp4 _ _ qr3 qr3 hq3)
      refine ⟨_, rfl, _, rfl, r, _, 1, size, rfl, R5, by omega, by decide, by decide, z0, z1, fun H6 m ms es kp6 R6 nm hm hmc okm smm lnm => ?_⟩
      have S6 : NrSt K H H6 r q3 m (n + 10 + 100 * i + 90) (2 + i) ys ms ds es := ⟨((kA3.trans kp4).trans kp5).trans kp6, R6.more (by omega), kp6 _ _ qr3 qr3 hq5, qr3, R5.cmds kp6 hc5, nc3, hm, hmc, fun c hc => ⟨okm c hc, smm c hc⟩⟩
      obtain ⟨j, rfl⟩ : ∃ j : Nat, sp = (j : Int) := ⟨sp.toNat, by omega⟩
      have jl : j ≤ ys.length := by omega
      have lm := hmc.len
      refine ⟨_, rfl, _, rfl, _, rfl, _, rfl, _, _, rfl, rfl, _, rfl, q3, _, rfl, SqL.of S6.hq, fun hp nhp => ?_⟩
      rw [cut_one]
      have S7 := S6.same (new_same (o := HO.lst (ys[j]?).toList) nhp)
      have hh : (upd H6 hp (.lst (ys[j]?).toList)) hp = some (.lst (ys[j]?).toList) := upd_same
      generalize upd H6 hp (.lst (ys[j]?).toList) = H7 at S7 hh ⊢
      have fin : ∀ {N' : Nat}, N' ≤ n + 10 + 100 * (i + 1) → ∀ (G : Hp) (p : Addr) (zs : List V) (fs : List Cmd) (v4 v5 v6 v7 v8 v9 v10 : Option V), NrSt K H G r q3 m N' (2 + i) ys ms ds es → G p = none → CmdsOf K G zs fs → (∀ c ∈ fs, NearC (2 + (i + 1)) c) → fs.length ≤ 20 + (i + 1) →
          ∃ (q : Addr) (ys : List V) (ds : List Cmd) (w4 w5 w6 w7 w8 w9 w10 : Option V), [some (.ref r), some (.ref l), some (.int size), some (.ref p), v4, v5, v6, v7, v8, v9, v10] = [some (.ref r), some (.ref l), some (.int size), some (.ref q), w4, w5, w6, w7, w8, w9, w10] ∧ Keep r r H (upd G p (.lst zs)) ∧ Rng (upd G p (.lst zs)) r (n + 10 + 100 * (i + 1)) ∧ upd G p (.lst zs) q = some (.lst ys) ∧ q ≠ r ∧ H q = none ∧ CmdsOf K (upd G p (.lst zs)) ys ds ∧ (∀ c ∈ ds, NearC (2 + (i + 1)) c) ∧ ds.length ≤ 20 + (i + 1) := fun {N'} hN G p zs fs v4 v5 v6 v7 v8 v9 v10 S np hz hn hlz => by
        have e := new_same (o := HO.lst zs) np
        have S' := S.same e
        exact ⟨p, zs, fs, v4, v5, v6, v7, v8, v9, v10, rfl, S'.kA, S'.R.more hN, upd_same, S.R.off np, freeKN S.kA (S.R.off np) np, hz.same e, hn, hlz⟩
      have up := fun (c : Cmd) (h : c ∈ ds) => (nc3 c h).up (show 2 + i ≤ 2 + (i + 1) by omega)
      have upm := fun (c : Cmd) (h : c ∈ es) => (S6.nm c h).up (show 2 ≤ 2 + (i + 1) by omega)
      rcases (show kd = 0 ∨ kd = 1 ∨ kd = 2 ∨ kd = 3 ∨ kd = 4 ∨ kd = 5 by omega) with rfl | rfl | rfl | rfl | rfl | rfl
      · refine ⟨_, rfl, rfl, _, rfl, iteT ?_⟩
        refine ⟨_, rfl, _, rfl, _, rfl, q3, _, rfl, SqL.of S7.hq, fun p2 n_p2 => ?_⟩
        rw [cut_to]
        have e8 := new_same (o := HO.lst (ys.take j)) n_p2
        have S8 := S7.same e8
        replace hh := e8 _ _ hh
        have h_p2 : (upd H7 p2 (.lst (ys.take j))) p2 = some (.lst (ys.take j)) := upd_same
        clear e8
        generalize upd H7 p2 (.lst (ys.take j)) = H8 at S8 hh h_p2 ⊢
        refine ⟨_, rfl, ?_⟩
        refine ⟨p2, m, _, _, rfl, rfl, h_p2, S8.hm, (Nat.le_trans (show _ ≤ 100 by simp only [List.length_append, List.length_take, List.length_drop, List.length_reverse]; omega) (by decide)), fun p3 n_p3 => ?_⟩
        have e9 := new_same (o := HO.lst (ys.take j ++ ms)) n_p3
        have S9 := S8.same e9
        replace hh := e9 _ _ hh
        replace h_p2 := e9 _ _ h_p2
        have h_p3 : (upd H8 p3 (.lst (ys.take j ++ ms))) p3 = some (.lst (ys.take j ++ ms)) := upd_same
        clear e9
        generalize upd H8 p3 (.lst (ys.take j ++ ms)) = H9 at S9 hh h_p2 h_p3 ⊢
        refine ⟨_, rfl, _, rfl, _, rfl, q3, _, rfl, SqL.of S9.hq, fun p4 n_p4 => ?_⟩
        rw [cut_from]
        have e10 := new_same (o := HO.lst (ys.drop j)) n_p4
        have S10 := S9.same e10
        replace hh := e10 _ _ hh
        replace h_p2 := e10 _ _ h_p2
        replace h_p3 := e10 _ _ h_p3
        have h_p4 : (upd H9 p4 (.lst (ys.drop j))) p4 = some (.lst (ys.drop j)) := upd_same
        clear e10
        generalize upd H9 p4 (.lst (ys.drop j)) = H10 at S10 hh h_p2 h_p3 h_p4 ⊢
        refine ⟨p3, p4, _, _, rfl, rfl, h_p3, h_p4, (Nat.le_trans (show _ ≤ 100 by simp only [List.length_append, List.length_take, List.length_drop, List.length_reverse]; omega) (by decide)), fun p5 n_p5 => ?_⟩
        refine fin (by omega) H10 p5 ((ys.take j ++ ms) ++ ys.drop j) (ds.take j ++ es ++ ds.drop j) _ _ _ _ _ _ _ S10 n_p5 (paired_cat (paired_cat (paired_take j S10.hc) S10.mc) (paired_drop j S10.hc)) (fun c hc => ?_) ?_
        · simp only [List.mem_append] at hc
          rcases hc with (h | h) | h
          · exact up c (mem_take' h)
          · exact upm c h
          · exact up c (mem_drop' h)
        · simp only [List.length_append, List.length_take, List.length_drop, List.length_reverse]
          omega
      · refine ⟨_, rfl, rfl, _, rfl, iteF ?_⟩
        refine ⟨_, rfl, rfl, _, rfl, iteT ?_⟩
        refine ⟨_, rfl, _, rfl, _, rfl, q3, _, rfl, SqL.of S7.hq, fun p2 n_p2 => ?_⟩
        rw [cut_to]
        have e8 := new_same (o := HO.lst (ys.take j)) n_p2
        have S8 := S7.same e8
        replace hh := e8 _ _ hh
        have h_p2 : (upd H7 p2 (.lst (ys.take j))) p2 = some (.lst (ys.take j)) := upd_same
        clear e8
        generalize upd H7 p2 (.lst (ys.take j)) = H8 at S8 hh h_p2 ⊢
        refine ⟨_, rfl, _, rfl, _, _, rfl, rfl, _, rfl, q3, _, rfl, SqL.of S8.hq, fun p4 n_p4 => ?_⟩
        rw [show ((j : Int) + 1) = ((j + 1 : Nat) : Int) by omega]
        rw [cut_from]
        have e9 := new_same (o := HO.lst (ys.drop (j + 1))) n_p4
        have S9 := S8.same e9
        replace hh := e9 _ _ hh
        replace h_p2 := e9 _ _ h_p2
        have h_p4 : (upd H8 p4 (.lst (ys.drop (j + 1)))) p4 = some (.lst (ys.drop (j + 1))) := upd_same
        clear e9
        generalize upd H8 p4 (.lst (ys.drop (j + 1))) = H9 at S9 hh h_p2 h_p4 ⊢
        refine ⟨p2, p4, _, _, rfl, rfl, h_p2, h_p4, (Nat.le_trans (show _ ≤ 100 by simp only [List.length_append, List.length_take, List.length_drop, List.length_reverse]; omega) (by decide)), fun p5 n_p5 => ?_⟩
        refine fin (by omega) H9 p5 (ys.take j ++ ys.drop (j + 1)) (ds.take j ++ ds.drop (j + 1)) _ _ _ _ _ _ _ S9 n_p5 (paired_cat (paired_take j S9.hc) (paired_drop (j + 1) S9.hc)) (fun c hc => ?_) ?_
        · simp only [List.mem_append] at hc
          rcases hc with h | h
          · exact up c (mem_take' h)
          · exact up c (mem_drop' h)
        · simp only [List.length_append, List.length_take, List.length_drop, List.length_reverse]
          omega
      · refine ⟨_, rfl, rfl, _, rfl, iteF ?_⟩
        refine ⟨_, rfl, rfl, _, rfl, iteF ?_⟩
        refine ⟨_, rfl, rfl, _, rfl, iteT ?_⟩
        refine ⟨_, rfl, _, rfl, _, rfl, q3, _, rfl, SqL.of S7.hq, fun p2 n_p2 => ?_⟩
        rw [cut_to]
        have e8 := new_same (o := HO.lst (ys.take j)) n_p2
        have S8 := S7.same e8
        replace hh := e8 _ _ hh
        have h_p2 : (upd H7 p2 (.lst (ys.take j))) p2 = some (.lst (ys.take j)) := upd_same
        clear e8
        generalize upd H7 p2 (.lst (ys.take j)) = H8 at S8 hh h_p2 ⊢
        refine ⟨_, rfl, _, rfl, _, rfl, _, rfl, _, _, rfl, rfl, _, rfl, q3, _, rfl, SqL.of S8.hq, fun p3 n_p3 => ?_⟩
        rw [show ((j : Int) + 2) = ((j + 2 : Nat) : Int) by omega]
        rw [cut_mid jl]
        have e9 := new_same (o := HO.lst ((ys.drop j).take 2)) n_p3
        have S9 := S8.same e9
        replace hh := e9 _ _ hh
        replace h_p2 := e9 _ _ h_p2
        have h_p3 : (upd H8 p3 (.lst ((ys.drop j).take 2))) p3 = some (.lst ((ys.drop j).take 2)) := upd_same
        clear e9
        generalize upd H8 p3 (.lst ((ys.drop j).take 2)) = H9 at S9 hh h_p2 h_p3 ⊢
        refine ⟨p3, _, rfl, SqL.of h_p3, fun p4 n_p4 => ?_⟩
        have e10 := new_same (o := HO.lst (((ys.drop j).take 2).reverse)) n_p4
        have S10 := S9.same e10
        replace hh := e10 _ _ hh
        replace h_p2 := e10 _ _ h_p2
        replace h_p3 := e10 _ _ h_p3
        have h_p4 : (upd H9 p4 (.lst (((ys.drop j).take 2).reverse))) p4 = some (.lst (((ys.drop j).take 2).reverse)) := upd_same
        clear e10
        generalize upd H9 p4 (.lst (((ys.drop j).take 2).reverse)) = H10 at S10 hh h_p2 h_p3 h_p4 ⊢
        refine ⟨p2, p4, _, _, rfl, rfl, h_p2, h_p4, (Nat.le_trans (show _ ≤ 100 by simp only [List.length_append, List.length_take, List.length_drop, List.length_reverse]; omega) (by decide)), fun p5 n_p5 => ?_⟩
        have e11 := new_same (o := HO.lst (ys.take j ++ ((ys.drop j).take 2).reverse)) n_p5
        have S11 := S10.same e11
        replace hh := e11 _ _ hh
        replace h_p2 := e11 _ _ h_p2
        replace h_p3 := e11 _ _ h_p3
        replace h_p4 := e11 _ _ h_p4
        have h_p5 : (upd H10 p5 (.lst (ys.take j ++ ((ys.drop j).take 2).reverse))) p5 = some (.lst (ys.take j ++ ((ys.drop j).take 2).reverse)) := upd_same
        clear e11
        generalize upd H10 p5 (.lst (ys.take j ++ ((ys.drop j).take 2).reverse)) = H11 at S11 hh h_p2 h_p3 h_p4 h_p5 ⊢
        refine ⟨_, rfl, _, rfl, _, _, rfl, rfl, _, rfl, q3, _, rfl, SqL.of S11.hq, fun p6 n_p6 => ?_⟩
        rw [show ((j : Int) + 2) = ((j + 2 : Nat) : Int) by omega]
        rw [cut_from]
        have e12 := new_same (o := HO.lst (ys.drop (j + 2))) n_p6
        have S12 := S11.same e12
        replace hh := e12 _ _ hh
        replace h_p2 := e12 _ _ h_p2
        replace h_p3 := e12 _ _ h_p3
        replace h_p4 := e12 _ _ h_p4
        replace h_p5 := e12 _ _ h_p5
        have h_p6 : (upd H11 p6 (.lst (ys.drop (j + 2)))) p6 = some (.lst (ys.drop (j + 2))) := upd_same
        clear e12
        generalize upd H11 p6 (.lst (ys.drop (j + 2))) = H12 at S12 hh h_p2 h_p3 h_p4 h_p5 h_p6 ⊢
        refine ⟨p5, p6, _, _, rfl, rfl, h_p5, h_p6, (Nat.le_trans (show _ ≤ 100 by simp only [List.length_append, List.length_take, List.length_drop, List.length_reverse]; omega) (by decide)), fun p7 n_p7 => ?_⟩
        refine fin (by omega) H12 p7 ((ys.take j ++ ((ys.drop j).take 2).reverse) ++ ys.drop (j + 2)) (ds.take j ++ ((ds.drop j).take 2).reverse ++ ds.drop (j + 2)) _ _ _ _ _ _ _ S12 n_p7 (paired_cat (paired_cat (paired_take j S12.hc) (paired_rev (paired_take 2 (paired_drop j S12.hc)))) (paired_drop (j + 2) S12.hc)) (fun c hc => ?_) ?_
        · simp only [List.mem_append] at hc
          rcases hc with (h | h) | h
          · exact up c (mem_take' h)
          · exact up c (mem_drop' (mem_take' (List.mem_reverse.mp h)))
          · exact up c (mem_drop' h)
        · simp only [List.length_append, List.length_take, List.length_drop, List.length_reverse]
          omega
      · refine ⟨_, rfl, rfl, _, rfl, iteF ?_⟩
        refine ⟨_, rfl, rfl, _, rfl, iteF ?_⟩
        refine ⟨_, rfl, rfl, _, rfl, iteF ?_⟩
        refine ⟨_, rfl, rfl, _, rfl, iteT ?_⟩
        refine ⟨_, rfl, _, rfl, _, rfl, q3, _, rfl, SqL.of S7.hq, fun p2 n_p2 => ?_⟩
        rw [cut_to]
        have e8 := new_same (o := HO.lst (ys.take j)) n_p2
        have S8 := S7.same e8
        replace hh := e8 _ _ hh
        have h_p2 : (upd H7 p2 (.lst (ys.take j))) p2 = some (.lst (ys.take j)) := upd_same
        clear e8
        generalize upd H7 p2 (.lst (ys.take j)) = H8 at S8 hh h_p2 ⊢
        refine ⟨_, rfl, hp, 2, (ys[j]?).toList, rfl, rfl, hh, by decide, by decide, (Nat.le_trans (Nat.mul_le_mul_right _ one_len) (show 1 * (2 : Int).toNat ≤ sizeLine by decide)), fun p3 n_p3 => ?_⟩
        rw [rep_two]
        have e9 := new_same (o := HO.lst ((ys[j]?).toList ++ (ys[j]?).toList)) n_p3
        have S9 := S8.same e9
        replace hh := e9 _ _ hh
        replace h_p2 := e9 _ _ h_p2
        have h_p3 : (upd H8 p3 (.lst ((ys[j]?).toList ++ (ys[j]?).toList))) p3 = some (.lst ((ys[j]?).toList ++ (ys[j]?).toList)) := upd_same
        clear e9
        generalize upd H8 p3 (.lst ((ys[j]?).toList ++ (ys[j]?).toList)) = H9 at S9 hh h_p2 h_p3 ⊢
        have o1 := one_len (xs := ys) (j := j)
        have o2 := one_len (xs := ds) (j := j)
        have o3 : ds.length ≤ j → (ds[j]?).toList.length = 0 := fun z => by rw [List.getElem?_eq_none z]; rfl
        refine ⟨p2, p3, _, _, rfl, rfl, h_p2, h_p3, (Nat.le_trans (show _ ≤ 100 by simp only [List.length_append, List.length_take, List.length_drop, List.length_reverse]; omega) (by decide)), fun p4 n_p4 => ?_⟩
        have e10 := new_same (o := HO.lst (ys.take j ++ ((ys[j]?).toList ++ (ys[j]?).toList))) n_p4
        have S10 := S9.same e10
        replace hh := e10 _ _ hh
        replace h_p2 := e10 _ _ h_p2
        replace h_p3 := e10 _ _ h_p3
        have h_p4 : (upd H9 p4 (.lst (ys.take j ++ ((ys[j]?).toList ++ (ys[j]?).toList)))) p4 = some (.lst (ys.take j ++ ((ys[j]?).toList ++ (ys[j]?).toList))) := upd_same
        clear e10
        generalize upd H9 p4 (.lst (ys.take j ++ ((ys[j]?).toList ++ (ys[j]?).toList))) = H10 at S10 hh h_p2 h_p3 h_p4 ⊢
        refine ⟨_, rfl, _, rfl, _, _, rfl, rfl, _, rfl, q3, _, rfl, SqL.of S10.hq, fun p6 n_p6 => ?_⟩
        rw [show ((j : Int) + 1) = ((j + 1 : Nat) : Int) by omega]
        rw [cut_from]
        have e11 := new_same (o := HO.lst (ys.drop (j + 1))) n_p6
        have S11 := S10.same e11
        replace hh := e11 _ _ hh
        replace h_p2 := e11 _ _ h_p2
        replace h_p3 := e11 _ _ h_p3
        replace h_p4 := e11 _ _ h_p4
        have h_p6 : (upd H10 p6 (.lst (ys.drop (j + 1)))) p6 = some (.lst (ys.drop (j + 1))) := upd_same
        clear e11
        generalize upd H10 p6 (.lst (ys.drop (j + 1))) = H11 at S11 hh h_p2 h_p3 h_p4 h_p6 ⊢
        refine ⟨p4, p6, _, _, rfl, rfl, h_p4, h_p6, (Nat.le_trans (show _ ≤ 100 by simp only [List.length_append, List.length_take, List.length_drop, List.length_reverse]; omega) (by decide)), fun p7 n_p7 => ?_⟩
        refine fin (by omega) H11 p7 ((ys.take j ++ ((ys[j]?).toList ++ (ys[j]?).toList)) ++ ys.drop (j + 1)) (ds.take j ++ ((ds[j]?).toList ++ (ds[j]?).toList) ++ ds.drop (j + 1)) _ _ _ _ _ _ _ S11 n_p7 (paired_cat (paired_cat (paired_take j S11.hc) (paired_cat (paired_one j S11.hc) (paired_one j S11.hc))) (paired_drop (j + 1) S11.hc)) (fun c hc => ?_) ?_
        · simp only [List.mem_append] at hc
          rcases hc with (h | h | h) | h
          · exact up c (mem_take' h)
          · exact up c (one_mem h)
          · exact up c (one_mem h)
          · exact up c (mem_drop' h)
        · simp only [List.length_append, List.length_take, List.length_drop, List.length_reverse]
          omega
      · refine ⟨_, rfl, rfl, _, rfl, iteF ?_⟩
        refine ⟨_, rfl, rfl, _, rfl, iteF ?_⟩
        refine ⟨_, rfl, rfl, _, rfl, iteF ?_⟩
        refine ⟨_, rfl, rfl, _, rfl, iteF ?_⟩
        refine ⟨_, rfl, rfl, _, rfl, iteT ?_⟩
        refine ⟨_, rfl, r, _, 2, rfl, S7.R, by omega, by decide, by decide, fun H8 d kp8 R8 d0 d1 => ?_⟩
        have mr : m ≠ r := R5.off nm
        have hpr : hp ≠ r := S6.R.off nhp
        have S8 : NrSt K H H8 r q3 m _ (2 + i) ys ms ds es := ⟨S7.kA.trans kp8, R8, kp8 _ _ qr3 qr3 S7.hq, qr3, S7.R.cmds kp8 S7.hc, nc3, kp8 _ _ mr mr S7.hm, S7.R.cmds kp8 S7.mc, S7.nm⟩
        replace hh := kp8 _ _ hpr hpr hh
        refine ⟨_, _, rfl, rfl, wide_mul (a := 3) (b := 3) (by decide) (by omega) (by decide) (by decide) (by decide), _, _, rfl, rfl, ?_⟩
        have hv : 2 * d - 1 = -1 ∨ 2 * d - 1 = 1 := by omega
        refine ⟨_, rfl, hp, rfl, ⟨_, SqL.of hh⟩, fun D hD => ?_⟩
        refine lc_list (K := K) (a := hp) (xs := (ys[j]?).toList) (fun i' H' => ∃ (ps : List V) (fs : List Cmd), Same H8 H' ∧ H' D = some (.lst ps) ∧ CmdsOf K H' ps fs ∧ (∀ c ∈ fs, NearC (2 + (i + 1)) c) ∧ fs.length ≤ i' ∧ ps.length ≤ i')
          ⟨[], [], new_same hD, upd_same, .nil, (fun _ h => nomatch h), Nat.le_refl _, Nat.le_refl _⟩ (fun i' H' _ ⟨_, _, e, _⟩ => e.seq (SqL.of hh)) (fun i' x H' hi' h => ?_) (fun H' h => ?_)
        · obtain ⟨ps, fs, e, hd, pc, pn, pl, pl2⟩ := h
          obtain ⟨c, hcc, tp, rfl, ht0⟩ := paired_at (paired_one j S8.hc) hi'
          have ht := seq_t e ht0
          have o1 := one_len (xs := ys) (j := j)
          have i0 : i' < 1 := by
            have := (List.getElem?_eq_some_iff.mp hi').1
            omega
          have ncc := nc3 c (one_mem (List.mem_of_getElem? hcc))
          refine ⟨rfl, ?_⟩
          have more : ∀ (p : Addr) (c' : Cmd), H' p = none → NearC (2 + (i + 1)) c' → ∃ acc, upd H' p (.tup (encC c')) D = some (.lst acc) ∧ acc.length < sizeLine ∧ ∃ (ps : List V) (fs : List Cmd), Same H8 (upd (upd H' p (.tup (encC c'))) D (.lst (acc ++ [.ref p]))) ∧ upd (upd H' p (.tup (encC c'))) D (.lst (acc ++ [.ref p])) D = some (.lst ps) ∧ CmdsOf K (upd (upd H' p (.tup (encC c'))) D (.lst (acc ++ [.ref p]))) ps fs ∧ (∀ c ∈ fs, NearC (2 + (i + 1)) c) ∧ fs.length ≤ i' + 1 ∧ ps.length ≤ i' + 1 := fun p c' np hn' => by
            have s1 := new_same (o := HO.tup (encC c')) np
            refine ⟨ps, s1 _ _ hd, small_len (by omega), ps ++ [.ref p], fs ++ [c'], same_freeU (e.trans s1) hD, upd_same, ?_, fun c hc => ?_, by rw [List.length_append]; simp; omega, by rw [List.length_append]; simp; omega⟩
            · refine Paired.snoc ((pc.same s1).keep (Keep.refl _).upd1 (s1 _ _ hd)) ?_
              exact CmdAt.keep (Keep.refl _).upd1 (s1 _ _ hd) ⟨p, rfl, SqT.of upd_same⟩
            · rcases List.mem_append.mp hc with h | h
              · exact pn c h
              · obtain rfl : c = c' := by simpa using h
                exact hn'
          cases c with
          | home => exact ⟨_, rfl, tp, _, rfl, .inr ht, rfl, _, rfl, iteF ⟨ps, fs, e, hd, pc, pn, by omega, by omega⟩⟩
          | stop => exact ⟨_, rfl, tp, _, rfl, .inr ht, rfl, _, rfl, iteF ⟨ps, fs, e, hd, pc, pn, by omega, by omega⟩⟩
          | down n =>
            have o1 : 1 ≤ n := ncc.1
            have o2 : n ≤ 10 ^ 30 := ncc.2.1
            have bb := bentN_in hv o1 o2
            refine ⟨_, rfl, tp, _, rfl, .inr ht, rfl, _, rfl, iteT ?_⟩
            refine ⟨_, rfl, tp, _, 0, _, rfl, rfl, ht, rfl, _, _, rfl, rfl, cpow (by decide), _, _, rfl, rfl, _, rfl, tp, _, 1, _, rfl, rfl, ht, rfl, _, rfl, _, _, rfl, rfl, _, _, rfl, _, _, rfl, (by show 2 ≤ sizeLine; decide), fun p np => ?_⟩
            exact more p (.down (bentN n (2 * d - 1))) np ⟨bb.1, bb.2.1, by show (bentN n (2 * d - 1)).natAbs ≤ 2 + (i + 1); have : n.natAbs ≤ 2 + i := ncc.2.2; omega⟩
          | up n =>
            have o1 : 1 ≤ n := ncc.1
            have o2 : n ≤ 10 ^ 30 := ncc.2.1
            have bb := bentN_in hv o1 o2
            refine ⟨_, rfl, tp, _, rfl, .inr ht, rfl, _, rfl, iteT ?_⟩
            refine ⟨_, rfl, tp, _, 0, _, rfl, rfl, ht, rfl, _, _, rfl, rfl, cpow (by decide), _, _, rfl, rfl, _, rfl, tp, _, 1, _, rfl, rfl, ht, rfl, _, rfl, _, _, rfl, rfl, _, _, rfl, _, _, rfl, (by show 2 ≤ sizeLine; decide), fun p np => ?_⟩
            exact more p (.up (bentN n (2 * d - 1))) np ⟨bb.1, bb.2.1, by show (-(bentN n (2 * d - 1))).natAbs ≤ 2 + (i + 1); have : (-n).natAbs ≤ 2 + i := ncc.2.2; omega⟩
          | right n =>
            have o1 : 1 ≤ n := ncc.1
            have o2 : n ≤ 10 ^ 30 := ncc.2.1
            have bb := bentN_in hv o1 o2
            refine ⟨_, rfl, tp, _, rfl, .inr ht, rfl, _, rfl, iteT ?_⟩
            refine ⟨_, rfl, tp, _, 0, _, rfl, rfl, ht, rfl, _, _, rfl, rfl, cpow (by decide), _, _, rfl, rfl, _, rfl, tp, _, 1, _, rfl, rfl, ht, rfl, _, rfl, _, _, rfl, rfl, _, _, rfl, _, _, rfl, (by show 2 ≤ sizeLine; decide), fun p np => ?_⟩
            exact more p (.right (bentN n (2 * d - 1))) np ⟨bb.1, bb.2.1, by exact Nat.zero_le _⟩
          | left n =>
            have o1 : 1 ≤ n := ncc.1
            have o2 : n ≤ 10 ^ 30 := ncc.2.1
            have bb := bentN_in hv o1 o2
            refine ⟨_, rfl, tp, _, rfl, .inr ht, rfl, _, rfl, iteT ?_⟩
            refine ⟨_, rfl, tp, _, 0, _, rfl, rfl, ht, rfl, _, _, rfl, rfl, cpow (by decide), _, _, rfl, rfl, _, rfl, tp, _, 1, _, rfl, rfl, ht, rfl, _, rfl, _, _, rfl, rfl, _, _, rfl, _, _, rfl, (by show 2 ≤ sizeLine; decide), fun p np => ?_⟩
            exact more p (.left (bentN n (2 * d - 1))) np ⟨bb.1, bb.2.1, by exact Nat.zero_le _⟩
        · obtain ⟨ps, fs, e, hd, pc, pn, pl, pl2⟩ := h
          have S9 := S8.same e
          have lp := Paired.length pc
          have o1 := one_len (xs := ys) (j := j)
          have o3 : ys.length ≤ j → (ys[j]?).toList.length = 0 := fun z => by rw [List.getElem?_eq_none z]; rfl
          refine ⟨_, rfl, _, rfl, _, rfl, q3, _, rfl, SqL.of S9.hq, fun p2 n_p2 => ?_⟩
          rw [cut_to]
          have e10 := new_same (o := HO.lst (ys.take j)) n_p2
          have S10 := S9.same e10
          replace hd := e10 _ _ hd
          replace pc := pc.same e10
          have h_p2 : (upd H' p2 (.lst (ys.take j))) p2 = some (.lst (ys.take j)) := upd_same
          clear e10
          generalize upd H' p2 (.lst (ys.take j)) = H10 at S10 hd pc h_p2 ⊢
          refine ⟨_, rfl, ?_⟩
          refine ⟨p2, D, _, _, rfl, rfl, h_p2, hd, (Nat.le_trans (show _ ≤ 100 by simp only [List.length_append, List.length_take, List.length_drop, List.length_reverse]; omega) (by decide)), fun p3 n_p3 => ?_⟩
          have e11 := new_same (o := HO.lst (ys.take j ++ ps)) n_p3
          have S11 := S10.same e11
          replace pc := pc.same e11
          have h_p3 : (upd H10 p3 (.lst (ys.take j ++ ps))) p3 = some (.lst (ys.take j ++ ps)) := upd_same
          clear e11
          generalize upd H10 p3 (.lst (ys.take j ++ ps)) = H11 at S11 pc h_p3 ⊢
          refine ⟨_, rfl, _, rfl, _, _, rfl, rfl, _, rfl, q3, _, rfl, SqL.of S11.hq, fun p4 n_p4 => ?_⟩
          rw [show ((j : Int) + 1) = ((j + 1 : Nat) : Int) by omega, cut_from]
          have e12 := new_same (o := HO.lst (ys.drop (j + 1))) n_p4
          have S12 := S11.same e12
          replace pc := pc.same e12
          replace h_p3 := e12 _ _ h_p3
          have h_p4 : (upd H11 p4 (.lst (ys.drop (j + 1)))) p4 = some (.lst (ys.drop (j + 1))) := upd_same
          clear e12
          generalize upd H11 p4 (.lst (ys.drop (j + 1))) = H12 at S12 pc h_p3 h_p4 ⊢
          refine ⟨p3, p4, _, _, rfl, rfl, h_p3, h_p4, (Nat.le_trans (show _ ≤ 100 by simp only [List.length_append, List.length_take, List.length_drop, List.length_reverse]; omega) (by decide)), fun p5 n_p5 => ?_⟩
          refine fin (by omega) H12 p5 (ys.take j ++ ps ++ ys.drop (j + 1)) (ds.take j ++ fs ++ ds.drop (j + 1)) _ _ _ _ _ _ _ S12 n_p5 (paired_cat (paired_cat (paired_take j S12.hc) pc) (paired_drop (j + 1) S12.hc)) (fun c hc => ?_) ?_
          · simp only [List.mem_append] at hc
            rcases hc with (h | h) | h
            · exact up c (mem_take' h)
            · exact pn c h
            · exact up c (mem_drop' h)
          · simp only [List.length_append, List.length_take, List.length_drop, List.length_reverse]
            omega
      · refine ⟨_, rfl, rfl, _, rfl, iteF ?_⟩
        refine ⟨_, rfl, rfl, _, rfl, iteF ?_⟩
        refine ⟨_, rfl, rfl, _, rfl, iteF ?_⟩
        refine ⟨_, rfl, rfl, _, rfl, iteF ?_⟩
        refine ⟨_, rfl, rfl, _, rfl, iteF ?_⟩
        refine ⟨_, rfl, _, rfl, _, rfl, q3, _, rfl, SqL.of S7.hq, fun p2 n_p2 => ?_⟩
        rw [cut_to]
        have e8 := new_same (o := HO.lst (ys.take j)) n_p2
        have S8 := S7.same e8
        replace hh := e8 _ _ hh
        have h_p2 : (upd H7 p2 (.lst (ys.take j))) p2 = some (.lst (ys.take j)) := upd_same
        clear e8
        generalize upd H7 p2 (.lst (ys.take j)) = H8 at S8 hh h_p2 ⊢
        refine ⟨_, rfl, ?_⟩
        refine ⟨p2, m, _, _, rfl, rfl, h_p2, S8.hm, (Nat.le_trans (show _ ≤ 100 by simp only [List.length_append, List.length_take, List.length_drop, List.length_reverse]; omega) (by decide)), fun p3 n_p3 => ?_⟩
        have e9 := new_same (o := HO.lst (ys.take j ++ ms)) n_p3
        have S9 := S8.same e9
        replace hh := e9 _ _ hh
        replace h_p2 := e9 _ _ h_p2
        have h_p3 : (upd H8 p3 (.lst (ys.take j ++ ms))) p3 = some (.lst (ys.take j ++ ms)) := upd_same
        clear e9
        generalize upd H8 p3 (.lst (ys.take j ++ ms)) = H9 at S9 hh h_p2 h_p3 ⊢
        refine ⟨_, rfl, _, rfl, _, _, rfl, rfl, _, rfl, q3, _, rfl, SqL.of S9.hq, fun p4 n_p4 => ?_⟩
        rw [show ((j : Int) + 1) = ((j + 1 : Nat) : Int) by omega]
        rw [cut_from]
        have e10 := new_same (o := HO.lst (ys.drop (j + 1))) n_p4
        have S10 := S9.same e10
        replace hh := e10 _ _ hh
        replace h_p2 := e10 _ _ h_p2
        replace h_p3 := e10 _ _ h_p3
        have h_p4 : (upd H9 p4 (.lst (ys.drop (j + 1)))) p4 = some (.lst (ys.drop (j + 1))) := upd_same
        clear e10
        generalize upd H9 p4 (.lst (ys.drop (j + 1))) = H10 at S10 hh h_p2 h_p3 h_p4 ⊢
        refine ⟨p3, p4, _, _, rfl, rfl, h_p3, h_p4, (Nat.le_trans (show _ ≤ 100 by simp only [List.length_append, List.length_take, List.length_drop, List.length_reverse]; omega) (by decide)), fun p5 n_p5 => ?_⟩
        refine fin (by omega) H10 p5 ((ys.take j ++ ms) ++ ys.drop (j + 1)) (ds.take j ++ es ++ ds.drop (j + 1)) _ _ _ _ _ _ _ S10 n_p5 (paired_cat (paired_cat (paired_take j S10.hc) S10.mc) (paired_drop (j + 1) S10.hc)) (fun c hc => ?_) ?_
        · simp only [List.mem_append] at hc
          rcases hc with (h | h) | h
          · exact up c (mem_take' h)
          · exact upm c h
          · exact up c (mem_drop' h)
        · simp only [List.length_append, List.length_take, List.length_drop, List.length_reverse]
          omega
    · obtain ⟨q3, ys, ds, v4, v5, v6, v7, v8, v9, v10, rfl, kA3, R3, hq3, qr3, nq3, hc3, nc3, ln3⟩ := h
      refine ⟨_, rfl, _, rfl, q3, _, rfl, SqL.of hq3, fun p np => ?_⟩
      rw [show cutV ys none (some 20) = ys.take 20 from cut_to (j := 20)]
      have e := new_same (o := HO.lst (ys.take 20)) np
      have t2 : (1 + t).toNat ≤ 2 := by omega
      exact k _ p (ys.take 20) (ds.take 20) (kA3.trans (Keep.of e)) ((R3.same e).more (by omega)) (R3.off np) (freeKN kA3 (R3.off np) np) upd_same (paired_take 20 (hc3.same e)) (fun c hc => (nc3 c (mem_take' hc)).up (by omega)) (by rw [List.length_take]; omega)
end
end Gc

/-! longer lists: aims, far rows (k11) -/
namespace Gc
open PySem L2
def AllNum (cs : List Cmd) : Prop := ∀ c ∈ cs, c.num ≤ 10 ^ 30
def spAimN (K : PySem.W.Frag) : Sp := fun vs H Q _ => ∃ (r l : Addr) (n : Nat) (xs : List V) (cs : List Cmd), vs = [.ref r, .ref l] ∧ Rng H r n ∧ n < 2 ^ 39 ∧ SqL K H l xs ∧ l ≠ r ∧ CmdsOf K H xs cs ∧ AllOk cs ∧ AllNum cs ∧ cs.length ≤ 200 ∧
  ∀ (H' : Hp) (a : Int), Keep r r H H' → Rng H' r (n + 10) → 1 ≤ a → a ≤ 10 ^ 30 - 1 → Q (.int a) H'
abbrev s_far : Stmt := top 58
def spFar (K : PySem.W.Frag) : Sp := fun vs H Q _ => ∃ (l : Addr) (f : Int) (xs : List V) (cs : List Cmd), vs = [.ref l, .int f] ∧ SqL K H l xs ∧ CmdsOf K H xs cs ∧ AllOk cs ∧ AllNum cs ∧ cs.length ≤ 200 ∧ 1 ≤ f ∧ f ≤ 10 ^ 29 ∧
  ∀ (H' : Hp) (p : Addr) (ys : List V), Same H H' → H p = none → H' p = some (.lst ys) → CmdsOf K H' ys (cs.map (Cmd.mul f)) → Q (.ref p) H'
section
variable {P : Program} {w : World} {K : PySem.W.Frag} {mg : Str → Option Value} {base : Heap}
theorem sc_law_far : FnScope ["steps", "factor", "step"] ["steps", "factor"] (defScope s_far) := ⟨rfl, rfl, rfl, by decide +kernel, rfl, by decide +kernel, by decide +kernel⟩
theorem ok_far {f : Addr} {fd : FuncData} (F : Fun K "_law_far" "_law_far" s_far f fd) : FnOk P w K mg base CX0 1 f fd ["steps", "factor"] (spFar K) := by
  refine F.ok sc_law_far (fun vs H Q E h => ?_) (fun cdv A outer s H vs Q E hr h => ?_)
  · obtain ⟨l, f, xs, cs, rfl, _⟩ := h
    rfl
  · obtain ⟨lw, fv, xs, cs, rfl, hl, hcs, ok, sm, ln, w0, w1, k⟩ := h
    refine ⟨_, (pss_one (ps_ret (pe_lc (own := [("step", 2)]) rfl sc_law_far.nd (pi_list (pv 0)) (blkOk_by (N := ["steps", "factor", "step"]) (sc := defScope s_far) (by decide +kernel)) (fun _ _ _ _ _ => (pg_name (i := 2) sc_law_far.nd rfl (Or.inl rfl))) (fun _ _ _ _ _ => pts_nil) (fun _ _ _ _ _ => (pe_ifExp (pt_cmpR (show OpR _ _ (rIn K false) from op_in_seq) (pe_ix (show IxR _ (rIxT K) from ix_tup) (pv 2) pe_int (fun _ _ => rfl)) (pe_tup (pa_cons pe_str (pa_cons pe_str pa_nil))) (by rfl)) (pe_tup (pa_cons (pe_ix (show IxR _ (rIxT K) from ix_tup) (pv 2) pe_int (fun _ _ => rfl)) (pa_cons (pe_op op_mulW (pe_ix (show IxR _ (rIxT K) from ix_tup) (pv 2) pe_int (fun _ _ => rfl)) (pv 1)) pa_nil))) (pv 2)))))), ?_⟩
    refine ⟨_, rfl, lw, rfl, ⟨_, hl⟩, fun D hD => ?_⟩
    refine lc_list (K := K) (a := lw) (xs := xs) (fun i H' => ∃ ps : List V, Same H H' ∧ H' D = some (.lst ps) ∧ CmdsOf K H' ps ((cs.take i).map (Cmd.mul fv)))
      ⟨[], same_upd (Same.refl H) hD, upd_same, .nil⟩ (fun i H' _ ⟨_, e, _⟩ => e.seq hl) (fun i x H' hi h => ?_) (fun H21 h => ?_)
    · obtain ⟨ps, e, hd, pp⟩ := h
      obtain ⟨c, hc, t, rfl, ht0⟩ := paired_at hcs hi
      have ht := seq_t e ht0
      have li := (List.getElem?_eq_some_iff.mp hc).1
      have smc := sm c (List.mem_of_getElem? hc)
      have okc := ok c (List.mem_of_getElem? hc)
      have pl : ps.length ≤ 1000 := by
        rw [pp.len, List.length_map, List.length_take]
        omega
      rw [take_snoc hc, List.map_append]
      refine ⟨rfl, ?_⟩
      have stay : ∀ (p1 : Addr) (hp1 : H' p1 = none), c.mul fv = c → ∃ acc, upd H' p1 (.tup [.str "down", .str "up"]) D = some (.lst acc) ∧ acc.length < sizeLine ∧ ∃ qs : List V, Same H (upd (upd H' p1 (.tup [.str "down", .str "up"])) D (.lst (acc ++ [.ref t]))) ∧
          upd (upd H' p1 (.tup [.str "down", .str "up"])) D (.lst (acc ++ [.ref t])) D = some (.lst qs) ∧ CmdsOf K (upd (upd H' p1 (.tup [.str "down", .str "up"])) D (.lst (acc ++ [.ref t]))) qs ((cs.take i).map (Cmd.mul fv) ++ [c].map (Cmd.mul fv)) := fun p1 hp1 ec => by
        have s1 := same_upd (Same.refl H') hp1 (o := .tup [.str "down", .str "up"])
        refine ⟨ps, s1 _ _ hd, small_len pl, ps ++ [.ref t], same_freeU (e.trans s1) hD, upd_same, ?_⟩
        refine Paired.snoc ((pp.same s1).keep (Keep.refl _).upd1 (s1 _ _ hd)) ?_
        rw [ec]
        exact CmdAt.keep (Keep.refl _).upd1 (s1 _ _ hd) ⟨t, rfl, seq_t s1 ht⟩
      have moved : ∀ (p1 p : Addr) (hp1 : H' p1 = none) (hp : upd H' p1 (.tup [.str "down", .str "up"]) p = none) (es : List V), es = encC (c.mul fv) → ∃ acc, upd (upd H' p1 (.tup [.str "down", .str "up"])) p (.tup es) D = some (.lst acc) ∧ acc.length < sizeLine ∧
          ∃ qs : List V, Same H (upd (upd (upd H' p1 (.tup [.str "down", .str "up"])) p (.tup es)) D (.lst (acc ++ [.ref p]))) ∧
          upd (upd (upd H' p1 (.tup [.str "down", .str "up"])) p (.tup es)) D (.lst (acc ++ [.ref p])) D = some (.lst qs) ∧ CmdsOf K (upd (upd (upd H' p1 (.tup [.str "down", .str "up"])) p (.tup es)) D (.lst (acc ++ [.ref p]))) qs ((cs.take i).map (Cmd.mul fv) ++ [c].map (Cmd.mul fv)) := fun p1 p hp1 hp es ee => by
        have s1 := same_upd (Same.refl H') hp1 (o := .tup [.str "down", .str "up"])
        have s2 := same_upd s1 hp (o := .tup es)
        refine ⟨ps, s2 _ _ hd, small_len pl, ps ++ [.ref p], same_freeU (e.trans s2) hD, upd_same, ?_⟩
        refine Paired.snoc ((pp.same s2).keep (Keep.refl _).upd1 (s2 _ _ hd)) ?_
        refine CmdAt.keep (Keep.refl _).upd1 (s2 _ _ hd) ⟨p, rfl, ?_⟩
        rw [← ee]
        exact SqT.of upd_same
      cases c with
      | down n =>
        have o1 : 1 ≤ n := okc
        have o2 : n ≤ 10 ^ 30 := smc
        refine ⟨_, rfl, t, _, 0, _, rfl, rfl, ht, rfl, (by show 2 ≤ sizeLine; decide), fun p1 hp1 => ?_⟩
        have s1 := same_upd (Same.refl H') hp1 (o := .tup [.str "down", .str "up"])
        refine ⟨p1, _, rfl, .inr (SqT.of upd_same), rfl, rfl, true, by decide +kernel, iteT ?_⟩
        refine ⟨_, rfl, t, _, 0, _, rfl, rfl, seq_t s1 ht, rfl, _, rfl, t, _, 1, _, rfl, rfl, seq_t s1 ht, rfl, _, rfl, _, _, rfl, rfl, wide_mul (a := 100) (b := 100) (by omega) (by omega) (by decide) (by decide) (by decide), (by show 2 ≤ sizeLine; decide), fun p hp => ?_⟩
        exact moved p1 p hp1 hp _ rfl
      | up n =>
        have o1 : 1 ≤ n := okc
        have o2 : n ≤ 10 ^ 30 := smc
        refine ⟨_, rfl, t, _, 0, _, rfl, rfl, ht, rfl, (by show 2 ≤ sizeLine; decide), fun p1 hp1 => ?_⟩
        have s1 := same_upd (Same.refl H') hp1 (o := .tup [.str "down", .str "up"])
        refine ⟨p1, _, rfl, .inr (SqT.of upd_same), rfl, rfl, true, by decide +kernel, iteT ?_⟩
        refine ⟨_, rfl, t, _, 0, _, rfl, rfl, seq_t s1 ht, rfl, _, rfl, t, _, 1, _, rfl, rfl, seq_t s1 ht, rfl, _, rfl, _, _, rfl, rfl, wide_mul (a := 100) (b := 100) (by omega) (by omega) (by decide) (by decide) (by decide), (by show 2 ≤ sizeLine; decide), fun p hp => ?_⟩
        exact moved p1 p hp1 hp _ rfl
      | right n =>
        refine ⟨_, rfl, t, _, 0, _, rfl, rfl, ht, rfl, (by show 2 ≤ sizeLine; decide), fun p1 hp1 => ?_⟩
        refine ⟨p1, _, rfl, .inr (SqT.of upd_same), rfl, rfl, false, by decide +kernel, iteF ?_⟩
        exact ⟨_, rfl, stay p1 hp1 rfl⟩
      | left n =>
        refine ⟨_, rfl, t, _, 0, _, rfl, rfl, ht, rfl, (by show 2 ≤ sizeLine; decide), fun p1 hp1 => ?_⟩
        refine ⟨p1, _, rfl, .inr (SqT.of upd_same), rfl, rfl, false, by decide +kernel, iteF ?_⟩
        exact ⟨_, rfl, stay p1 hp1 rfl⟩
      | home =>
        refine ⟨_, rfl, t, _, 0, _, rfl, rfl, ht, rfl, (by show 2 ≤ sizeLine; decide), fun p1 hp1 => ?_⟩
        refine ⟨p1, _, rfl, .inr (SqT.of upd_same), rfl, rfl, false, by decide +kernel, iteF ?_⟩
        exact ⟨_, rfl, stay p1 hp1 rfl⟩
      | stop =>
        refine ⟨_, rfl, t, _, 0, _, rfl, rfl, ht, rfl, (by show 2 ≤ sizeLine; decide), fun p1 hp1 => ?_⟩
        refine ⟨p1, _, rfl, .inr (SqT.of upd_same), rfl, rfl, false, by decide +kernel, iteF ?_⟩
        exact ⟨_, rfl, stay p1 hp1 rfl⟩
    obtain ⟨ps, e, hd, pp⟩ := h
    rw [hcs.len, List.take_length] at pp
    exact k H21 D ps e hD hd pp
end
section
variable {P : Program} {w : World} {K : PySem.W.Frag} {mg : Str → Option Value} {base : Heap}
theorem ok_aimN {f : Addr} {fd : FuncData} (F : Fun K "_law_aim" "_law_aim" s_aim f fd) (T : TxtA mg) (c_law_draw : Cal P w K mg base 1 "_law_draw" spDraw) : FnOk P w K mg base CX0 2 f fd ["rng", "steps"] (spAimN K) := by
  refine F.ok sc_law_aim (fun vs H Q E h => ?_) (fun cdv A outer s H vs Q E hr h => ?_)
  · obtain ⟨r, l, n, xs, cs, rfl, _⟩ := h
    rfl
  · obtain ⟨r, l, n, xs, cs, rfl, hR, hn, hl, lr, hcs, ok, sm, ln, k⟩ := h
    refine ⟨_, (pss_cons (ps_setLc (i := 2) (own := [("step", 6)]) rfl sc_law_aim.nd rfl rfl (sw_true rfl rfl rfl (by decide +kernel)) (pi_list (pv 1)) (blkOk_by (N := ["rng", "steps", "some", "lefts", "near", "found", "step"]) (sc := defScope s_aim) (by decide +kernel)) (fun _ _ _ _ _ => (pg_name (i := 6) sc_law_aim.nd rfl (Or.inl rfl))) (fun _ _ _ _ _ => (pts_one (pt_cmpR op_eq (pe_ix (show IxR _ (rIxT K) from ix_tup) (pv 6) pe_int (fun _ _ => rfl)) pe_str (nomark _)))) (fun _ _ _ _ _ => (pe_ix (show IxR _ (rIxT K) from ix_tup) (pv 6) pe_int (fun _ _ => rfl))))
      (pss_cons (ps_set (i := 3) sc_law_aim.nd rfl (Or.inl rfl) (pe_callB (cr_sum rfl) (by rfl) T.sum (by decide +kernel) (pa_cons (pe_lc (own := [("step", 6)]) rfl sc_law_aim.nd (pi_list (pv 1)) (blkOk_by (N := ["rng", "steps", "some", "lefts", "near", "found", "step"]) (sc := defScope s_aim) (by decide +kernel)) (fun _ _ _ _ _ => (pg_name (i := 6) sc_law_aim.nd rfl (Or.inl rfl))) (fun _ _ _ _ _ => (pts_one (pt_cmpR op_eq (pe_ix (show IxR _ (rIxT K) from ix_tup) (pv 6) pe_int (fun _ _ => rfl)) pe_str (nomark _)))) (fun _ _ _ _ _ => (pe_ix (show IxR _ (rIxT K) from ix_tup) (pv 6) pe_int (fun _ _ => rfl)))) pa_nil)))
      (pss_cons (ps_set (i := 4) sc_law_aim.nd rfl (Or.inl rfl) (pe_op op_sub (pe_op op_add (pe_op op_sub (pe_callB (cr_sum rfl) (by rfl) T.sum (by decide +kernel) (pa_cons (pe_slice sl_list (pv 2) (po_some (pe_cal c_law_draw hr (by decide) (by rfl) (pa_cons (pv 0) (pa_cons (pe_op op_add (pe_callB call_len_seq (by rfl) T.len (by decide +kernel) (pa_cons (pv 2) pa_nil)) pe_int) pa_nil)))) po_none) pa_nil)) (pe_op op_mulW (pv 3) (pe_cal c_law_draw hr (by decide) (by rfl) (pa_cons (pv 0) (pa_cons pe_int pa_nil))))) (pe_cal c_law_draw hr (by decide) (by rfl) (pa_cons (pv 0) (pa_cons pe_int pa_nil)))) pe_int))
      (pss_cons (ps_set (i := 5) sc_law_aim.nd rfl (Or.inl rfl) (pe_ix ix_list (pe_lst (pa_cons (pe_op op_add pe_int (pe_cal c_law_draw hr (by decide) (by rfl) (pa_cons (pv 0) (pa_cons pe_int pa_nil)))) (pa_cons (pv 4) (pa_cons (pv 4) (pa_cons (pe_op op_add pe_int (pe_cal c_law_draw hr (by decide) (by rfl) (pa_cons (pv 0) (pa_cons (pe_op op_sub (pe_op op_pow pe_int pe_int) pe_int) pa_nil)))) pa_nil))))) (pe_cal c_law_draw hr (by decide) (by rfl) (pa_cons (pv 0) (pa_cons pe_int pa_nil))) (fun _ _ => rfl)))
      (pss_one (ps_ret (pe_callB (call_min2 rfl) (by rfl) T.min (by decide +kernel) (pa_cons (pe_callB (call_max2 rfl) (by rfl) T.max (by decide +kernel) (pa_cons pe_int (pa_cons (pv 5) pa_nil))) (pa_cons (pe_op op_sub (pe_op op_pow pe_int pe_int) pe_int) pa_nil))))))))), ?_⟩
    -- some = [step[1] for step in steps if step[0] == 'right']
    refine ⟨_, rfl, l, rfl, ⟨_, hl⟩, fun D hD => ?_⟩
    have hr0 : ∃ o, H r = some o := by
      obtain ⟨_, _, _, q, _⟩ := hR
      exact ⟨_, q⟩
    refine lc_list (K := K) (a := l) (xs := xs) (fun i H' => ∃ ns : List Int, Same H H' ∧ H' D = some (.lst (ns.map V.int)) ∧ ns.length ≤ i) ⟨[], same_upd (Same.refl H) hD, upd_same, Nat.le_refl _⟩ (fun i H' _ ⟨_, e, _⟩ => e.seq hl) (fun i x H' hi h => ?_) (fun H1 h => ?_)
    · obtain ⟨ns, e, hd, ln1⟩ := h
      obtain ⟨c, hc, t, rfl, ht0⟩ := paired_at hcs hi
      have ht := seq_t e ht0
      have li := (List.getElem?_eq_some_iff.mp hc).1
      cases c with
      | right n =>
        refine ⟨rfl, _, rfl, t, _, 0, _, rfl, rfl, ht, rfl, rfl, true, by decide +kernel, iteT ?_⟩
        refine ⟨_, rfl, t, _, 1, _, rfl, rfl, ht, rfl, _, hd, small_len (by rw [List.length_map]; omega), ns ++ [n], fun b o hb => ?_, ?_, ?_⟩
        · rw [upd_ne (ne_of_none hb hD)]
          exact e b o hb
        · rw [upd_same, List.map_append]
          rfl
        · rw [List.length_append, List.length_singleton]
          omega
      | left n => exact ⟨rfl, _, rfl, t, _, 0, _, rfl, rfl, ht, rfl, rfl, false, by decide +kernel, iteF ⟨ns, e, hd, Nat.le_succ_of_le ln1⟩⟩
      | down n => exact ⟨rfl, _, rfl, t, _, 0, _, rfl, rfl, ht, rfl, rfl, false, by decide +kernel, iteF ⟨ns, e, hd, Nat.le_succ_of_le ln1⟩⟩
      | up n => exact ⟨rfl, _, rfl, t, _, 0, _, rfl, rfl, ht, rfl, rfl, false, by decide +kernel, iteF ⟨ns, e, hd, Nat.le_succ_of_le ln1⟩⟩
      | home => exact ⟨rfl, _, rfl, t, _, 0, _, rfl, rfl, ht, rfl, rfl, false, by decide +kernel, iteF ⟨ns, e, hd, Nat.le_succ_of_le ln1⟩⟩
      | stop => exact ⟨rfl, _, rfl, t, _, 0, _, rfl, rfl, ht, rfl, rfl, false, by decide +kernel, iteF ⟨ns, e, hd, Nat.le_succ_of_le ln1⟩⟩
    obtain ⟨ns, e1, hd, ln1⟩ := h
    -- lefts = sum([...])
    refine ⟨_, rfl, l, rfl, ⟨_, e1.seq hl⟩, fun D2 hD2 => ?_⟩
    refine lc_list (K := K) (a := l) (xs := xs) (fun i H' => ∃ ms : List Int, Same H1 H' ∧ H' D2 = some (.lst (ms.map V.int)) ∧ ms.length ≤ i ∧ 0 ≤ ms.sum ∧ ms.sum ≤ i * 10 ^ 30) ⟨[], same_upd (Same.refl H1) hD2, upd_same, Nat.le_refl _, by decide, by decide⟩ (fun i H' _ ⟨_, e, _⟩ => (e1.trans e).seq hl) (fun i x H' hi h => ?_) (fun H2 h => ?_)
    · obtain ⟨ms, e, hd2, ln2, u0, u1⟩ := h
      obtain ⟨c, hc, t, rfl, ht0⟩ := paired_at hcs hi
      have ht := seq_t (e1.trans e) ht0
      have li := (List.getElem?_eq_some_iff.mp hc).1
      have okc := ok c (List.mem_of_getElem? hc)
      have smc := sm c (List.mem_of_getElem? hc)
      cases c with
      | left n =>
        have ok1 : 1 ≤ n := okc
        have sm1 : n ≤ 10 ^ 30 := smc
        refine ⟨rfl, _, rfl, t, _, 0, _, rfl, rfl, ht, rfl, rfl, true, by decide +kernel, iteT ?_⟩
        refine ⟨_, rfl, t, _, 1, _, rfl, rfl, ht, rfl, _, hd2, small_len (by rw [List.length_map]; omega), ms ++ [n], fun b o hb => ?_, ?_, ?_, ?_, ?_⟩
        · rw [upd_ne (ne_of_none hb hD2)]
          exact e b o hb
        · rw [upd_same, List.map_append]
          rfl
        · rw [List.length_append, List.length_singleton]
          omega
        · rw [List.sum_append, List.sum_singleton]
          omega
        · rw [List.sum_append, List.sum_singleton]
          omega
      | right n => exact ⟨rfl, _, rfl, t, _, 0, _, rfl, rfl, ht, rfl, rfl, false, by decide +kernel, iteF ⟨ms, e, hd2, Nat.le_succ_of_le ln2, u0, by omega⟩⟩
      | down n => exact ⟨rfl, _, rfl, t, _, 0, _, rfl, rfl, ht, rfl, rfl, false, by decide +kernel, iteF ⟨ms, e, hd2, Nat.le_succ_of_le ln2, u0, by omega⟩⟩
      | up n => exact ⟨rfl, _, rfl, t, _, 0, _, rfl, rfl, ht, rfl, rfl, false, by decide +kernel, iteF ⟨ms, e, hd2, Nat.le_succ_of_le ln2, u0, by omega⟩⟩
      | home => exact ⟨rfl, _, rfl, t, _, 0, _, rfl, rfl, ht, rfl, rfl, false, by decide +kernel, iteF ⟨ms, e, hd2, Nat.le_succ_of_le ln2, u0, by omega⟩⟩
      | stop => exact ⟨rfl, _, rfl, t, _, 0, _, rfl, rfl, ht, rfl, rfl, false, by decide +kernel, iteF ⟨ms, e, hd2, Nat.le_succ_of_le ln2, u0, by omega⟩⟩
    obtain ⟨ms, e2, hd2, ln2, u0, u1⟩ := h
    have xl : xs.length ≤ 200 := by rw [hcs.len]; exact ln
    refine ⟨D2, ms, rfl, SqL.of hd2, ?_⟩
    have hR2 : Rng H2 r n := hR.same (e1.trans e2)
    have Dr : D ≠ r := by
      obtain ⟨o, q⟩ := hr0
      exact (ne_of_none q hD).symm
    -- near
    have hd' := e2 _ _ hd
    refine ⟨_, rfl, _, rfl, _, rfl, D, _, rfl, .inl (SqL.of hd'), _, _, rfl, rfl, r, n, _, rfl, hR2, by omega, by rw [List.length_map]; omega, log9 (a := 100) (by rw [List.length_map]; omega) (by decide), fun H3 d1 kp3 rg3 a0 a1 => ?_⟩
    obtain ⟨cn, hcn⟩ := cut_ints ns (some d1) none
    refine ⟨_, rfl, D, _, rfl, SqL.of (kp3 _ _ Dr Dr hd'), fun p hp => ?_⟩
    rw [hcn]
    have s3 : Same H3 (upd H3 p (.lst (cn.map V.int))) := same_upd (Same.refl _) hp
    refine ⟨p, cn, rfl, SqL.of upd_same, ?_⟩
    refine ⟨_, rfl, _, rfl, r, _, 2, rfl, rg3.same s3, by omega, by decide, by decide, fun H4 d2 kp4 rg4 b0 b1 => ?_⟩
    refine ⟨_, _, rfl, rfl, wide_mul (a := 120) (b := 10) (by omega) (by omega) (by decide) (by decide) (by decide), _, _, rfl, rfl, ?_⟩
    refine ⟨_, rfl, r, _, 5, rfl, rg4, by omega, by decide, by decide, fun H5 d3 kp5 rg5 _ _ => ?_⟩
    refine ⟨_, _, rfl, rfl, _, _, rfl, rfl, ?_⟩
    -- found
    refine ⟨_, rfl, r, _, 9, rfl, rg5, by omega, by decide, by decide, fun H6 d4 kp6 rg6 _ _ => ?_⟩
    refine ⟨_, _, rfl, rfl, _, rfl, _, rfl, _, rfl, _, _, rfl, rfl, cpow (by decide), _, _, rfl, rfl, r, _, _, rfl, rg6, by omega, (by decide), log9 (a := 110) (by decide) (by decide), fun H7 d5 kp7 rg7 _ _ => ?_⟩
    refine ⟨_, _, rfl, rfl, (by show 4 ≤ sizeLine; decide), fun q hq => ?_⟩
    have s7 : ∀ o, Same H7 (upd H7 q o) := fun o => same_upd (Same.refl H7) hq
    have qr : q ≠ r := by
      obtain ⟨_, _, _, z, _⟩ := rg7
      exact (ne_of_none z hq).symm
    refine ⟨_, rfl, r, _, 4, rfl, rg7.same (s7 _), by omega, by decide, by decide, fun H8 d6 kp8 rg8 g0 g1 => ?_⟩
    obtain ⟨v, hv⟩ : ∃ v : Int, atI [V.int (1 + d4), .int (cn.sum - ms.sum * d2 + d3 - 2), .int (cn.sum - ms.sum * d2 + d3 - 2), .int (1 + d5)] d6 = some (.int v) := by
      rcases (show d6 = 0 ∨ d6 = 1 ∨ d6 = 2 ∨ d6 = 3 by omega) with rfl | rfl | rfl | rfl
      · exact ⟨_, rfl⟩
      · exact ⟨_, rfl⟩
      · exact ⟨_, rfl⟩
      · exact ⟨_, rfl⟩
    refine ⟨q, _, _, _, rfl, rfl, SqL.of (kp8 _ _ qr qr upd_same), hv, ?_⟩
    refine ⟨_, rfl, _, _, rfl, _, _, rfl, rfl, cpow (by decide), _, _, rfl, rfl, _, _, rfl, ?_⟩
    have p30 : (10 : Int) ^ (30 : Int).toNat - 1 = 10 ^ 30 - 1 := rfl
    refine k _ _ ?_ (rg8.more (by omega)) ?_ ?_
    · exact (Keep.of (e1.trans e2)).trans (kp3.trans ((Keep.of s3).trans (kp4.trans (kp5.trans (kp6.trans (kp7.trans ((Keep.of (s7 _)).trans kp8)))))))
    · show 1 ≤ if (10 : Int) ^ 30 - 1 < (if v > 1 then v else 1) then (10 : Int) ^ 30 - 1 else (if v > 1 then v else 1)
      have hm : 1 ≤ (if v > 1 then v else 1) := by split <;> omega
      generalize (if v > 1 then v else 1) = m at hm ⊢
      split <;> omega
    · show (if (10 : Int) ^ 30 - 1 < (if v > 1 then v else 1) then (10 : Int) ^ 30 - 1 else (if v > 1 then v else 1)) ≤ 10 ^ 30 - 1
      generalize (if v > 1 then v else 1) = m
      split <;> omega
end
end Gc

/-! a text and a cursor near a box (k11) -/
namespace Gc
open PySem L2
abbrev s_text : Stmt := top 54
structure TxtTx (mg : Str → Option Value) : Prop where
  dict : mg "dict" = none
  range : mg "range" = none
  min : mg "min" = none
  max : mg "max" = none
def spText11 (K : PySem.W.Frag) : Sp := fun vs H Q _ => ∃ (r s l : Addr) (n : Nat) (lo hi e : Int) (xs : List V) (cs : List Cmd), vs = [.ref r, .ref s, .ref l] ∧ Rng H r n ∧ n < 2 ^ 37 ∧ SqT K H s [.int lo, .int hi, .int e] ∧ lo ≤ 0 ∧ 0 ≤ hi ∧ hi - lo < 500 ∧ H l = some (.lst xs) ∧ l ≠ r ∧ CmdsOf K H xs cs ∧ AllOk cs ∧ AllNum cs ∧ cs.length ≤ 200 ∧
  ∀ (H' : Hp) (p t b : Addr) (T : List Int) (row : Int) (g : Option Int), Keep r r H H' → Rng H' r (n + 2000) → H' p = some (.lst [.ref t, .ref b]) → H' t = some (.lst (T.map V.int)) → H' b = some (.tup [.int row, optV g]) → (∀ x ∈ T, 0 ≤ x) → 0 ≤ row → row < T.length → ge g 0 → Q (.ref p) H'
section
variable {P : Program} {w : World} {K : PySem.W.Frag} {mg : Str → Option Value} {base : Heap}
theorem sc_law_text : FnScope ["rng", "spread", "steps", "rows", "needed", "bounds", "lengths", "goal_here", "begin", "row"] ["rng", "spread", "steps"] (defScope s_text) := ⟨rfl, rfl, rfl, by decide +kernel, rfl, by decide +kernel, by decide +kernel⟩
theorem ok_text11 {f : Addr} {fd : FuncData} (F : Fun K "_law_text" "_law_text" s_text f fd) (T : TxtTx mg) (c_law_draw : Cal P w K mg base 1 "_law_draw" spDraw) (c_law_aim : Cal P w K mg base 2 "_law_aim" (spAimN K)) (c_box : Cal P w K mg base 5 "box" (spBox K)) : FnOk P w K mg base CX0 6 f fd ["rng", "spread", "steps"] (spText11 K) := by
  refine F.ok sc_law_text (fun vs H Q E h => ?_) (fun cdv A outer s H vs Q E hr h => ?_)
  · obtain ⟨r, s, l, n, lo, hi, e, xs, cs, rfl, _⟩ := h
    rfl
  · obtain ⟨r, s, l, n, lo, hi, e, xs, cs, rfl, R0, hn, hs, lo0, hi0, wd, hl, lr, hc, ok, sm, ln, k⟩ := h
    refine ⟨_, (pss_cons (ps_set (i := 3) sc_law_text.nd rfl (Or.inl rfl) (pe_op op_add (pe_op op_sub (pe_ix ix_tup (pv 1) pe_int (fun _ _ => rfl)) (pe_ix ix_tup (pv 1) pe_int (fun _ _ => rfl))) pe_int))
      (C8.pss_cut (ps_set (i := 4) sc_law_text.nd rfl (Or.inl rfl) (pe_cal c_box hr (by decide) (by rfl) (pa_cons (pv 2) (pa_cons (pe_cal c_law_aim hr (by decide) (by rfl) (pa_cons (pv 0) (pa_cons (pv 2) pa_nil))) pa_nil))))
      (C8.pss_cut (ps_if (pt_cmpR op_isN (pv 4) pe_non (nomark _)) (pss_one (ps_set (i := 4) sc_law_text.nd rfl (Or.inl rfl) (pe_tup (pa_cons pe_non (pa_cons (pe_lst pa_nil) pa_nil))))) pss_nil)
      (pss_cons (ps_set (i := 5) sc_law_text.nd rfl (Or.inr rfl) (pe_callTy (call_dictP rfl) (by rfl) T.dict (by decide +kernel) (pa_cons (pe_ix ix_tup (pv 4) pe_int (fun _ _ => rfl)) pa_nil)))
      (pss_cons (ps_setLc (i := 6) (own := [("row", 9)]) rfl sc_law_text.nd rfl rfl (sw_true rfl rfl rfl (by decide +kernel)) (pi_range1 rfl T.range (pa_cons (pv 3) pa_nil)) (blkOk_by (N := ["rng", "spread", "steps", "rows", "needed", "bounds", "lengths", "goal_here", "begin", "row"]) (sc := defScope s_text) (by decide +kernel)) (fun _ _ _ _ _ => (pg_name (i := 9) sc_law_text.nd rfl (Or.inl rfl))) (fun _ _ _ _ _ => pts_nil) (fun _ _ _ _ _ => (pe_callB (call_max2 rfl) (by rfl) T.max (by decide +kernel) (pa_cons pe_int (pa_cons (pe_op op_sub (pe_op op_add (pe_dget2 (hu_of hr) (pv 5) (pe_op op_add (pe_ix (show IxR _ (rIxT K) from ix_tup) (pv 1) pe_int (fun _ _ => rfl)) (pv 9)) pe_int ⟨rfl, rfl, rfl, rfl⟩) (pe_cal c_law_draw hr (by decide) (by rfl) (pa_cons (pv 0) (pa_cons pe_int pa_nil)))) pe_int) pa_nil)))))
      (C8.pss_cut (ps_if (pt_cmpR op_eq (pe_cal c_law_draw hr (by decide) (by rfl) (pa_cons (pv 0) (pa_cons pe_int pa_nil))) pe_int (nomark _)) (pss_one (ps_setLc (i := 6) (own := [("row", 9)]) rfl sc_law_text.nd rfl rfl (sw_true rfl rfl rfl (by decide +kernel)) (pi_range1 rfl T.range (pa_cons (pv 3) pa_nil)) (blkOk_by (N := ["rng", "spread", "steps", "rows", "needed", "bounds", "lengths", "goal_here", "begin", "row"]) (sc := defScope s_text) (by decide +kernel)) (fun _ _ _ _ _ => (pg_name (i := 9) sc_law_text.nd rfl (Or.inl rfl))) (fun _ _ _ _ _ => pts_nil) (fun _ _ _ _ _ => (pe_cal c_law_draw hr (by decide) (by rfl) (pa_cons (pv 0) (pa_cons (pe_op op_add pe_int (pe_ix (show IxR _ (rIxL K) from ix_list) (pe_lst (pa_cons pe_int (pa_cons pe_int (pa_cons (pe_op op_pow pe_int pe_int) pa_nil)))) (pe_cal c_law_draw hr (by decide) (by rfl) (pa_cons (pv 0) (pa_cons pe_int pa_nil))) (fun _ _ => rfl))) pa_nil)))))) pss_nil)
      (C8.pss_cut (ps_set (i := 7) sc_law_text.nd rfl (Or.inl rfl) (pe_callB (call_max2 rfl) (by rfl) T.max (by decide +kernel) (pa_cons pe_int (pa_cons (pe_op op_sub (pe_op op_add (pe_ifExp (pt_cmpR op_isN (pe_ix ix_tup (pv 4) pe_int (fun _ _ => rfl)) pe_non (nomark _)) pe_int (pe_ix ix_tup (pv 4) pe_int (fun _ _ => rfl))) (pe_cal c_law_draw hr (by decide) (by rfl) (pa_cons (pv 0) (pa_cons pe_int pa_nil)))) pe_int) pa_nil))))
      (pss_cons (ps_set (i := 8) sc_law_text.nd rfl (Or.inl rfl) (pe_tup (pa_cons (pe_op op_sub pe_int (pe_ix ix_tup (pv 1) pe_int (fun _ _ => rfl))) (pa_cons (pe_ix ix_list (pe_lst (pa_cons (pv 7) (pa_cons (pv 7) (pa_cons pe_non pa_nil)))) (pe_cal c_law_draw hr (by decide) (by rfl) (pa_cons (pv 0) (pa_cons pe_int pa_nil))) (fun _ _ => rfl)) pa_nil))))
      (pss_cons (ps_if (PW.pt (pw_and (pt_cmpR op_gt (pv 3) pe_int (nomark _)) (pw_and1 (pt_cmpR op_eq (pe_cal c_law_draw hr (by decide) (by rfl) (pa_cons (pv 0) (pa_cons pe_int pa_nil))) pe_int (nomark _))))) (pss_one (ps_ret (pe_lst (pa_cons (pe_slice sl_list (pv 6) po_none (po_some (pe_un un_neg pe_int))) (pa_cons (pe_tup (pa_cons (pe_callB (call_min2 rfl) (by rfl) T.min (by decide +kernel) (pa_cons (pe_ix ix_tup (pv 8) pe_int (fun _ _ => rfl)) (pa_cons (pe_op op_sub (pv 3) pe_int) pa_nil))) (pa_cons (pe_ix ix_tup (pv 8) pe_int (fun _ _ => rfl)) pa_nil))) pa_nil))))) pss_nil)
      (pss_one (ps_ret (pe_lst (pa_cons (pv 6) (pa_cons (pv 8) pa_nil)))))))))))))), ?_⟩
    refine ⟨_, rfl, s, _, 1, _, rfl, rfl, hs, rfl, _, rfl, s, _, 0, _, rfl, rfl, hs, rfl, _, _, rfl, rfl, _, _, rfl, rfl, ?_⟩
    refine ⟨fun σ G => ∃ v : V, σ = [some (.ref r), some (.ref s), some (.ref l), some (.int (hi - lo + 1)), some v, none, none, none, none, none] ∧ Keep r r H G ∧ Rng G r (n + 10) ∧ (v = .non ∨ ∃ (p m : Addr) (ts : List Addr) (st : Option Int) (L : Ps), v = .ref p ∧ G p = some (.tup [optV st, .ref m]) ∧ G m = some (.lst (ts.map V.ref)) ∧ Paired (fun (t : Addr) (q : Int × Int) => G t = some (.tup [.int q.1, .int q.2])) ts L ∧ (keys L).Nodup ∧ ∀ n, st = some n → 1 ≤ n), ?_, ?_⟩
    · refine ⟨_, rfl, _, rfl, _, rfl, r, l, n, xs, cs, rfl, R0, by omega, SqL.of hl, lr, hc, ok, sm, ln, fun H1 aim kp1 R1 a0 a1 => ?_⟩
      have hl1 := kp1 _ _ lr lr hl
      have hc1 := R0.cmds kp1 hc
      refine ⟨l, xs, cs, aim, rfl, SqL.of hl1, hc1, ok, by omega, a0, fun eb H2 e2 => ⟨_, rfl, kp1.trans (Keep.of e2), R1.same e2, .inl rfl⟩, fun st L eb H2 np e2 bx => ?_⟩
      obtain ⟨m, ts, q1, q2, q3, q4, q5⟩ := bx
      refine ⟨_, rfl, kp1.trans (Keep.of e2), R1.same e2, .inr ⟨np, m, ts, st, L, rfl, q3, q4, q5, ?_, ?_⟩⟩
      · rcases box_spec ok a0 with ⟨y, _⟩ | ⟨st2, b, y, g, _, pb⟩
        · rw [y] at eb; cases eb
        · rw [y] at eb
          cases eb
          exact (good_perm g (List.mergeSort_perm b leK)).nd
      · rcases box_spec ok a0 with ⟨y, _⟩ | ⟨st2, b, y, g, _, pb⟩
        · rw [y] at eb; cases eb
        · rw [y] at eb
          cases eb
          exact pb
    rintro σ H2 ⟨v, rfl, kA, R2, hv⟩
    generalize hrows : hi - lo + 1 = rows
    have rows0 : 1 ≤ rows ∧ rows ≤ 500 := by omega
    refine ⟨fun σ G => ∃ (p m : Addr) (ts : List Addr) (st : Option Int) (L : Ps), σ = [some (.ref r), some (.ref s), some (.ref l), some (.int rows), some (.ref p), none, none, none, none, none] ∧ Keep r r H G ∧ Rng G r (n + 10) ∧ G p = some (.tup [optV st, .ref m]) ∧ G m = some (.lst (ts.map V.ref)) ∧ Paired (fun (t : Addr) (q : Int × Int) => G t = some (.tup [.int q.1, .int q.2])) ts L ∧ (keys L).Nodup ∧ ∀ n, st = some n → 1 ≤ n, ?_, ?_⟩
    · rcases hv with rfl | ⟨p, m, ts, st, L, rfl, h1, h2, h3, h4, h5⟩
      · refine ⟨_, rfl, rfl, _, rfl, iteT ?_⟩
        refine ⟨(by show 0 ≤ sizeLine; decide), fun m nm => ⟨(by show 2 ≤ sizeLine; decide), fun p np => ?_⟩⟩
        have e3 := new_same (o := HO.lst []) nm
        have e4 := new_same (o := HO.tup [.non, .ref m]) np
        exact ⟨p, m, [], none, [], rfl, kA.trans (Keep.of (e3.trans e4)), R2.same (e3.trans e4), upd_same, e4 _ _ upd_same, .nil, List.nodup_nil, fun _ z => nomatch z⟩
      · exact ⟨_, rfl, rfl, _, rfl, iteF ⟨p, m, ts, st, L, rfl, kA, R2, h1, h2, h3, h4, h5⟩⟩
    rintro σ H3 ⟨p, m, ts, st, L, rfl, kA3, R3, h1, h2, h3, nd, pos⟩
    refine ⟨_, rfl, p, _, 1, _, rfl, rfl, SqT.of h1, rfl, m, ts, dkI L, rfl, SqL.of h2, paired_dkI h3, fun d hd => ?_⟩
    rw [show mergeK [] (dkI L) = dkI L from merge_dkI L [] nd]
    have e4 := new_same (o := HO.dK (dkI L)) hd
    have dr := R3.off hd
    have hd4 : (upd H3 d (.dK (dkI L))) d = some (.dK (dkI L)) := upd_same
    have R4 := R3.same e4
    have kA4 := kA3.trans (Keep.of e4)
    replace h1 := e4 _ _ h1
    have pr : p ≠ r := fun z => by
      obtain ⟨_, _, _, q, _⟩ := R4
      rw [z, q] at h1
      cases h1
    clear e4
    generalize upd H3 d (.dK (dkI L)) = H4 at hd4 R4 kA4 h1 ⊢
    have hs4 := R0.tup kA4 hs
    refine ⟨_, rfl, _, rfl, by omega, by omega, fun D hD => ?_⟩
    have Dr := R4.off hD
    have nh : ∀ {b : Addr} {o : HO}, H4 b = some o → b ≠ D := fun q => ne_of_none q hD
    refine lc_range (lo := 0) (fun j H' => ∃ T : List Int, Keep r r H4 H' ∧ Rng H' r (n + 10 + j) ∧ H' D = some (.lst (T.map V.int)) ∧ T.length = j ∧ ∀ x ∈ T, 0 ≤ x)
      ⟨[], Keep.of (new_same hD), R4.same (new_same hD), upd_same, rfl, fun _ z => nomatch z⟩ (fun j H' hj h => ?_) (fun H5 h => ?_)
    · obtain ⟨T, kp, R, hdT, tl, nn⟩ := h
      refine ⟨rfl, ?_⟩
      refine ⟨_, rfl, d, rfl, .inl ⟨_, .inl (kp _ _ dr dr hd4)⟩, _, rfl, s, _, 0, _, rfl, rfl, R4.tup kp hs4, rfl, _, rfl, _, _, rfl, rfl, ?_⟩
      refine ⟨_, DGet.k (k := Sum.inl (lo + (0 + (j : Int)))) (kp _ _ dr dr hd4), ?_⟩
      have eg : (valV (dkI L) (Sum.inl (lo + (0 + (j : Int))) : L2.Key)).getD (.int 0) = .int (val L (lo + (0 + (j : Int)))) := by
        rw [valV_dkI]
        unfold val
        cases look L (lo + (0 + (j : Int))) <;> rfl
      refine ⟨_, rfl, r, _, 3, rfl, R, by omega, by decide, by decide, fun H6 d6 kp6 R6 d60 d61 => ⟨_, _, by rw [eg], rfl, _, _, rfl, rfl, _, _, rfl, ?_⟩⟩
      have hd6 := kp6 _ _ Dr Dr hdT
      refine ⟨_, hd6, small_len (by rw [List.length_map]; omega), T ++ [_], fun x o n1 n2 hx => ?_, ?_, by rw [upd_same, List.map_append]; rfl, by rw [List.length_append, List.length_singleton, tl], fun x hx => ?_⟩
      · rw [upd_ne (nh hx)]
        exact (kp.trans kp6) _ _ n1 n2 hx
      · obtain ⟨g, s', c, z, z2⟩ := R6
        exact ⟨g, s', c, by rw [upd_ne (Ne.symm Dr)]; exact z, z2.1, z2.2.1, z2.2.2.1, by have := z2.2.2.2; omega⟩
      · rcases List.mem_append.mp hx with y | y
        · exact nn x y
        · have ex := List.mem_singleton.mp y
          rw [ex]
          split <;> omega
    obtain ⟨T, kp, R5, hdT, tl, nn⟩ := h
    have kA5 := kA4.trans kp
    have h15 := kp _ _ pr pr h1
    refine ⟨fun σ G => ∃ (t : Addr) (T : List Int), σ = [some (.ref r), some (.ref s), some (.ref l), some (.int rows), some (.ref p), some (.ref d), some (.ref t), none, none, none] ∧ Keep r r H G ∧ Rng G r (n + 1600) ∧ G p = some (.tup [optV st, .ref m]) ∧ G t = some (.lst (T.map V.int)) ∧ t ≠ r ∧ (T.length : Int) = rows ∧ ∀ x ∈ T, 0 ≤ x, ?_, ?_⟩
    · refine ⟨_, rfl, r, _, 3, rfl, R5, by omega, by decide, by decide, fun H6 d6 kp6 R6 d60 d61 => ?_⟩
      have h16 := kp6 _ _ pr pr h15
      have hd6 := kp6 _ _ Dr Dr hdT
      refine ⟨rfl, _, rfl, ite2 (fun c => ?_) (fun c => ?_)⟩
      · refine ⟨_, rfl, _, rfl, by omega, by omega, fun D2 hD2 => ?_⟩
        have D2r := R6.off hD2
        have nh2 : ∀ {b : Addr} {o : HO}, H6 b = some o → b ≠ D2 := fun q => ne_of_none q hD2
        refine lc_range (lo := 0) (fun j H' => ∃ T : List Int, Keep r r H6 H' ∧ Rng H' r (n + 10 + 500 + 1 + 2 * j) ∧ H' D2 = some (.lst (T.map V.int)) ∧ T.length = j ∧ ∀ x ∈ T, 0 ≤ x)
          ⟨[], Keep.of (new_same hD2), (R6.same (new_same hD2)).more (by omega), upd_same, rfl, fun _ z => nomatch z⟩ (fun j H' hj h => ?_) (fun H7 h => ?_)
        · obtain ⟨T, kp, R, hdT, tl, nn⟩ := h
          refine ⟨rfl, ?_⟩
          refine ⟨_, rfl, _, _, rfl, rfl, cpow (by decide), (by show 3 ≤ sizeLine; decide), fun q nq => ?_⟩
          have e7 := new_same (o := HO.lst [V.int 9, .int 60, .int (10 ^ (30 : Int).toNat)]) nq
          have hq7 : (upd H' q (.lst [V.int 9, .int 60, .int (10 ^ (30 : Int).toNat)])) q = some (.lst [V.int 9, .int 60, .int (10 ^ 30)]) := upd_same
          have qr := R.off nq
          have R7 := R.same e7
          have kp7 := kp.trans (Keep.of e7)
          have hd7 := e7 _ _ hdT
          clear e7
          generalize upd H' q (.lst [V.int 9, .int 60, .int (10 ^ (30 : Int).toNat)]) = H8 at hq7 R7 kp7 hd7 ⊢
          refine ⟨_, rfl, r, _, 3, rfl, R7, by omega, by decide, by decide, fun H9 d9 kp9 R9 d90 d91 => ?_⟩
          obtain ⟨lim, hlim, m0, m1⟩ : ∃ z : Int, atI [V.int 9, .int 60, .int (10 ^ 30)] d9 = some (.int z) ∧ 0 ≤ z ∧ z ≤ 10 ^ 30 := by
            rcases (show d9 = 0 ∨ d9 = 1 ∨ d9 = 2 by omega) with rfl | rfl | rfl
            · exact ⟨_, rfl, by decide, by decide⟩
            · exact ⟨_, rfl, by decide, by decide⟩
            · exact ⟨_, rfl, by decide, by decide⟩
          refine ⟨q, _, _, .int lim, rfl, rfl, SqL.of (kp9 _ _ qr qr hq7), hlim, _, _, rfl, rfl, r, _, _, rfl, R9, by omega, by omega, log9 (a := 110) (by omega) (by decide), fun H10 x kp10 R10 x0 x1 => ?_⟩
          have hd10 := kp10 _ _ D2r D2r (kp9 _ _ D2r D2r hd7)
          refine ⟨_, hd10, small_len (by rw [List.length_map]; omega), T ++ [x], fun y o n1 n2 hx => ?_, ?_, by rw [upd_same, List.map_append]; rfl, by rw [List.length_append, List.length_singleton, tl], fun y hx => ?_⟩
          · rw [upd_ne (nh2 hx)]
            exact ((kp7.trans kp9).trans kp10) _ _ n1 n2 hx
          · obtain ⟨g, s', c, z, z2⟩ := R10
            exact ⟨g, s', c, by rw [upd_ne (Ne.symm D2r)]; exact z, z2.1, z2.2.1, z2.2.2.1, by have := z2.2.2.2; omega⟩
          · rcases List.mem_append.mp hx with z | z
            · exact nn y z
            · rw [List.mem_singleton.mp z]
              exact x0
        · obtain ⟨T, kp, R, hdT, tl, nn⟩ := h
          exact ⟨D2, T, rfl, (kA5.trans kp6).trans kp, R.more (by omega), kp _ _ pr pr h16, hdT, D2r, by omega, nn⟩
      · exact ⟨D, T, rfl, kA5.trans kp6, R6.more (by omega), h16, hd6, Dr, by omega, nn⟩
    rintro σ G ⟨t, T, rfl, kA6, R6, h16, ht, tr, tl, nn⟩
    have hs6 := R0.tup kA6 hs
    refine ⟨fun σ G => ∃ gh : Int, σ = [some (.ref r), some (.ref s), some (.ref l), some (.int rows), some (.ref p), some (.ref d), some (.ref t), some (.int gh), none, none] ∧ Keep r r H G ∧ Rng G r (n + 1610) ∧ G t = some (.lst (T.map V.int)) ∧ 0 ≤ gh, ?_, ?_⟩
    · have fin : ∀ z : Int, 0 ≤ (if z > 0 then z else 0) := fun z => by split <;> omega
      cases st with
      | none =>
        refine ⟨_, rfl, p, _, 0, _, rfl, rfl, SqT.of h16, rfl, rfl, _, rfl, iteT ?_⟩
        refine ⟨_, rfl, r, _, 3, rfl, R6, by omega, by decide, by decide, fun H7 d7 kp7 R7 d70 d71 => ⟨_, _, rfl, rfl, _, _, rfl, rfl, _, _, rfl, ?_⟩⟩
        exact ⟨_, rfl, kA6.trans kp7, R7.more (by omega), kp7 _ _ tr tr ht, fin _⟩
      | some n0 =>
        refine ⟨_, rfl, p, _, 0, _, rfl, rfl, SqT.of h16, rfl, rfl, _, rfl, iteF ?_⟩
        refine ⟨_, rfl, p, _, 0, _, rfl, rfl, SqT.of h16, rfl, ?_⟩
        refine ⟨_, rfl, r, _, 3, rfl, R6, by omega, by decide, by decide, fun H7 d7 kp7 R7 d70 d71 => ⟨_, _, rfl, rfl, _, _, rfl, rfl, _, _, rfl, ?_⟩⟩
        exact ⟨_, rfl, kA6.trans kp7, R7.more (by omega), kp7 _ _ tr tr ht, fin _⟩
    rintro σ H7 ⟨gh, rfl, kA7, R7, ht7, gh0⟩
    have hs7 := R0.tup kA7 hs
    refine ⟨_, rfl, s, _, 0, _, rfl, rfl, hs7, rfl, _, _, rfl, rfl, _, rfl, _, rfl, (by show 3 ≤ sizeLine; decide), fun q nq => ?_⟩
    have qr := R7.off nq
    have e8 := new_same (o := HO.lst [V.int gh, .int gh, .non]) nq
    have hq8 : (upd H7 q (.lst [V.int gh, .int gh, .non])) q = some (.lst [V.int gh, .int gh, .non]) := upd_same
    have R8 := R7.same e8
    have kA8 := kA7.trans (Keep.of e8)
    replace ht7 := e8 _ _ ht7
    clear e8
    generalize upd H7 q (.lst [V.int gh, .int gh, .non]) = H8 at hq8 R8 kA8 ht7 ⊢
    refine ⟨_, rfl, r, _, 3, rfl, R8, by omega, by decide, by decide, fun H9 d9 kp9 R9 d90 d91 => ?_⟩
    obtain ⟨g, hg, g0⟩ : ∃ g : Option Int, atI [V.int gh, .int gh, .non] d9 = some (optV g) ∧ ge g 0 := by
      rcases (show d9 = 0 ∨ d9 = 1 ∨ d9 = 2 by omega) with rfl | rfl | rfl
      · exact ⟨some gh, rfl, ge_some.mpr gh0⟩
      · exact ⟨some gh, rfl, ge_some.mpr gh0⟩
      · exact ⟨none, rfl, ge_none _⟩
    replace ht7 := kp9 _ _ tr tr ht7
    have kA9 := kA8.trans kp9
    refine ⟨q, _, _, optV g, rfl, rfl, SqL.of (kp9 _ _ qr qr hq8), hg, (by show 2 ≤ sizeLine; decide), fun b nb => ?_⟩
    have br := R9.off nb
    have e10 := new_same (o := HO.tup [.int (0 - lo), optV g]) nb
    have hb10 : (upd H9 b (.tup [.int (0 - lo), optV g])) b = some (.tup [.int (0 - lo), optV g]) := upd_same
    have R10 := R9.same e10
    have kA10 := kA9.trans (Keep.of e10)
    replace ht7 := e10 _ _ ht7
    clear e10
    generalize upd H9 b (.tup [.int (0 - lo), optV g]) = H10 at hb10 R10 kA10 ht7 ⊢
    have tr2 := tr
    refine ⟨_, rfl, _, _, rfl, rfl, _, rfl, ite2 (fun c => ⟨_, rfl, r, _, 5, rfl, R10, by omega, by decide, by decide, fun H11 d11 kp11 R11 _ _ => ⟨rfl, _, rfl, ite2 (fun c2 => ?_) (fun c2 => ?_)⟩⟩) (fun c => iteF ?_)⟩
    · have ht11 := kp11 _ _ tr tr ht7
      have hb11 := kp11 _ _ br br hb10
      have kA11 := kA10.trans kp11
      have rl : 1 < rows := of_decide_eq_true c
      refine ⟨_, rfl, _, rfl, _, rfl, t, _, rfl, SqL.of ht11, fun t2 nt2 => ?_⟩
      have el : cutV (T.map V.int) none (some (-1)) = (T.take (T.length - 1)).map V.int := by
        unfold cutV
        rw [HT.sIx_none, List.drop_zero, Nat.sub_zero, List.map_take]
        congr 1
        show (if (-1 : Int) < 0 then ((-1 : Int) + ((T.map V.int).length : Int)).toNat else min (-1 : Int).toNat (T.map V.int).length) = _
        rw [if_pos (by decide), List.length_map]
        omega
      rw [el]
      have e12 := new_same (o := HO.lst ((T.take (T.length - 1)).map V.int)) nt2
      have ht12 : (upd H11 t2 (.lst ((T.take (T.length - 1)).map V.int))) t2 = some (.lst ((T.take (T.length - 1)).map V.int)) := upd_same
      have R12 := R11.same e12
      have kA12 := kA11.trans (Keep.of e12)
      replace hb11 := e12 _ _ hb11
      clear e12
      generalize upd H11 t2 (.lst ((T.take (T.length - 1)).map V.int)) = H12 at ht12 R12 kA12 hb11 ⊢
      refine ⟨_, rfl, b, _, 0, _, rfl, rfl, SqT.of hb11, rfl, _, rfl, _, _, rfl, rfl, _, _, rfl, ?_⟩
      refine ⟨_, rfl, b, _, 1, _, rfl, rfl, SqT.of hb11, rfl, (by show 2 ≤ sizeLine; decide), fun b2 nb2 => ?_⟩
      have e13 := new_same (o := HO.tup [.int (if rows - 2 < 0 - lo then rows - 2 else 0 - lo), optV g]) nb2
      refine ⟨(by show 2 ≤ sizeLine; decide), fun p2 np2 => ?_⟩
      have e14 := new_same (o := HO.lst [V.ref t2, .ref b2]) np2
      have e := e13.trans e14
      refine k _ p2 t2 b2 (T.take (T.length - 1)) (if rows - 2 < 0 - lo then rows - 2 else 0 - lo) g (kA12.trans (Keep.of e)) ((R12.same e).more (by omega)) upd_same (e _ _ ht12) (e14 _ _ upd_same) (fun x hx => nn x (List.mem_of_mem_take hx)) ?_ ?_ g0
      · split <;> omega
      · rw [List.length_take, Nat.min_eq_left (by omega)]
        split <;> omega
    · have ht11 := kp11 _ _ tr tr ht7
      have hb11 := kp11 _ _ br br hb10
      refine ⟨_, rfl, _, rfl, (by show 2 ≤ sizeLine; decide), fun p2 np2 => ?_⟩
      have e14 := new_same (o := HO.lst [V.ref t, .ref b]) np2
      exact k _ p2 t b T (0 - lo) g ((kA10.trans kp11).trans (Keep.of e14)) ((R11.same e14).more (by omega)) upd_same (e14 _ _ ht11) (e14 _ _ hb11) nn (by omega) (by omega) g0
    · refine ⟨_, rfl, _, rfl, (by show 2 ≤ sizeLine; decide), fun p2 np2 => ?_⟩
      have e14 := new_same (o := HO.lst [V.ref t, .ref b]) np2
      exact k _ p2 t b T (0 - lo) g (kA10.trans (Keep.of e14)) ((R10.same e14).more (by omega)) upd_same (e14 _ _ ht7) (e14 _ _ hb10) nn (by omega) (by omega) g0
end
end Gc

/-! two lists: alike, or parted (k11) -/
namespace Gc
open PySem L2
abbrev s_pair_right : Stmt := top 55
structure TxtPr (mg : Str → Option Value) : Prop where
  repr : mg "repr" = none
  isinstance : mg "isinstance" = none
  bool : mg "bool" = none
  tuple : mg "tuple" = none
  list : mg "list" = none
  len : mg "len" = none
  min : mg "min" = none
  range : mg "range" = none
theorem lsum_num : ∀ {cs : List Cmd}, AllNum cs → lsum cs ≤ cs.length * 10 ^ 30
  | [], _ => by show (0 : Int) ≤ 0 * 10 ^ 30; decide
  | c :: cs, h => by
    have a : lft c ≤ 10 ^ 30 := by
      have q := h c List.mem_cons_self
      cases c with
      | left n => exact q
      | _ => show (0 : Int) ≤ 10 ^ 30; decide
    have b := lsum_num (cs := cs) fun d hd => h d (List.mem_cons_of_mem _ hd)
    rw [lsum_cons, List.length_cons]
    omega
theorem nb_num {cs : List Cmd} (ok : AllOk cs) (h : AllNum cs) : ∀ c ∈ cs, NB (10 ^ 30) (10 ^ 30) c := fun c hc => by
  have q := h c hc
  have o := ok c hc
  cases c with
  | home => trivial
  | stop => trivial
  | down n => exact ⟨by have : 1 ≤ n := o; omega, q⟩
  | up n => exact ⟨by have : 1 ≤ n := o; omega, q⟩
  | right n => exact ⟨by have : 1 ≤ n := o; omega, q⟩
  | left n => exact ⟨by have : 1 ≤ n := o; omega, q⟩
theorem csml_num {cs : List Cmd} (ok : AllOk cs) (h : AllNum cs) : ∀ c ∈ cs, CSml c := fun c hc => by
  have q := h c hc
  have o := ok c hc
  cases c with
  | home => trivial
  | stop => trivial
  | down n => show Sml n; unfold Sml; have : 1 ≤ n := o; have q' : n ≤ 10 ^ 30 := q; omega
  | up n => show Sml n; unfold Sml; have : 1 ≤ n := o; have q' : n ≤ 10 ^ 30 := q; omega
  | right n => show Sml n; unfold Sml; have : 1 ≤ n := o; have q' : n ≤ 10 ^ 30 := q; omega
  | left n => show Sml n; unfold Sml; have : 1 ≤ n := o; have q' : n ≤ 10 ^ 30 := q; omega
/-- how large what parting tells is -/
def Mod11 (x : List Int × Int × Int) : Prop := (∀ y ∈ x.1, Sml y) ∧ Sml x.2.1 ∧ Sml x.2.2 ∧ x.1.length ≤ 500
theorem least_mod {cs : List Cmd} {g : Int} {x : List Int × Int × Int} (ok : AllOk cs) (nm : AllNum cs) (ln : cs.length ≤ 100) (wd : (rchM cs).2.1 - (rchM cs).1 < 500) (hg : 1 ≤ g) (gl : g ≤ 1 + 100 * 10 ^ 30) (h : leastM cs g = some x) : Mod11 x := by
  unfold leastM at h
  have hw := (rch_within cs).1
  have ls := lsum_num nm
  have l2 : lsum cs ≤ 100 * 10 ^ 30 := by
    have : (cs.length : Int) * 10 ^ 30 ≤ 100 * 10 ^ 30 := Int.mul_le_mul_of_nonneg_right (by omega) (by decide)
    omega
  rcases box_spec ok hg with ⟨b1, _⟩ | ⟨st, b, b1, gb, _, pb⟩
  · rw [b1] at h
    cases h
  · have gL := good_perm gb (List.mergeSort_perm b leK)
    have wL := box_within b1 hw
    have vals := box_vals (B := 201 * 10 ^ 30) b1 ok (by omega)
    rw [b1] at h
    generalize b.mergeSort leK = L at *
    have z := hw.zero
    have tl := textM_len (lo := (rchM cs).1) (hi := (rchM cs).2.1) (by omega) L
    have nn := textM_nn gL wL
    have tb := textM_le gL wL vals.1 (by decide)
    have e := Option.some.inj h
    simp only at e
    subst e
    refine ⟨fun y hy => ?_, ?_, ?_, ?_⟩
    · have q1 := nn y hy
      have q2 := tb y hy
      unfold Sml
      omega
    · show Sml (-(rchM cs).1)
      unfold Sml
      omega
    · show Sml (st.getD 0)
      cases st with
      | none => show Sml 0; unfold Sml; decide
      | some n =>
        have q1 := pb n rfl
        have q2 := vals.2 n rfl
        show Sml n
        unfold Sml
        omega
    · show (textM _ _ L).length ≤ 500
      omega
theorem diffG_le {cs ds : List Cmd} {g : Int} (oc : AllOk cs) (nc : AllNum cs) (lc : cs.length ≤ 100) (od : AllOk ds) (nd : AllNum ds) (ld : ds.length ≤ 100) (h : diffG (formM cs) (formM ds) = some g) : g ≤ 1 + 100 * 10 ^ 30 := by
  obtain ⟨p, hp, e⟩ := diffG_in h
  rw [← e]
  have m : ∀ n : Nat, n ≤ 100 → (n : Int) * 10 ^ 30 ≤ 100 * 10 ^ 30 := fun n hn => Int.mul_le_mul_of_nonneg_right (by omega) (by decide)
  rcases hp with hp | hp
  · have q := ((form_bnd (by decide) (by decide) (nb_num oc nc)).1 p hp).2.1
    have := m _ lc
    omega
  · have q := ((form_bnd (by decide) (by decide) (nb_num od nd)).1 p hp).2.1
    have := m _ ld
    omega
theorem part_mod {cs ds : List Cmd} {x : List Int × Int × Int} (oc : AllOk cs) (nc : AllNum cs) (lc : cs.length ≤ 100) (wc : (rchM cs).2.1 - (rchM cs).1 < 500) (od : AllOk ds) (nd : AllNum ds) (ld : ds.length ≤ 100) (wd : (rchM ds).2.1 - (rchM ds).1 < 500) (h : partM cs ds = some x) : Mod11 x := by
  unfold partM at h
  split at h
  · have e := Option.some.inj h
    subst e
    have far : ∀ {es : List Cmd}, (rchM es).2.1 - (rchM es).1 < 500 → Mod11 (List.replicate ((rchM es).2.1 - (rchM es).1 + 1).toNat 0, -(rchM es).1, 0) := fun {es} w => by
      have z := (rch_within es).1.zero
      refine ⟨fun y hy => ?_, ?_, ?_, ?_⟩
      · rw [(List.mem_replicate.mp hy).2]
        unfold Sml
        decide
      · show Sml (-(rchM es).1)
        unfold Sml
        omega
      · show Sml 0
        unfold Sml
        decide
      · show (List.replicate _ (0 : Int)).length ≤ 500
        rw [List.length_replicate]
        omega
    unfold farM
    by_cases c : (rchM ds).2.1 - (rchM ds).1 < (rchM cs).2.1 - (rchM cs).1
    · rw [if_pos c]
      exact far wd
    · rw [if_neg c]
      exact far wc
  · cases hg : diffG (formM cs) (formM ds) with
    | none => rw [hg] at h; cases h
    | some g =>
      rw [hg] at h
      have g1 := diffG_pos hg
      have g2 := diffG_le oc nc lc od nd ld hg
      simp only [Option.bind_some] at h
      split at h
      · next y hy =>
        split at h
        · cases h
          exact least_mod oc nc lc wc g1 g2 hy
        · exact least_mod od nd ld wd g1 g2 h
      · exact least_mod od nd ld wd g1 g2 h
/-- a list of commands that the law looks at -/
structure Lst11 (K : PySem.W.Frag) (H : Hp) (r l : Addr) (xs : List V) (cs : List Cmd) : Prop where
  hl : H l = some (.lst xs)
  lr : l ≠ r
  hc : CmdsOf K H xs cs
  ok : AllOk cs
  nm : AllNum cs
  ln : cs.length ≤ 100
  wd : (rchM cs).2.1 - (rchM cs).1 < 500
theorem Lst11.same {K : PySem.W.Frag} {H H' : Hp} {r l : Addr} {xs : List V} {cs : List Cmd} (L : Lst11 K H r l xs cs) (e : Same H H') : Lst11 K H' r l xs cs := ⟨e _ _ L.hl, L.lr, L.hc.same e, L.ok, L.nm, L.ln, L.wd⟩
theorem Lst11.keep {K : PySem.W.Frag} {H H' : Hp} {r l : Addr} {n : Nat} {xs : List V} {cs : List Cmd} (L : Lst11 K H r l xs cs) (R : Rng H r n) (k : Keep r r H H') : Lst11 K H' r l xs cs := ⟨k _ _ L.lr L.lr L.hl, L.lr, R.cmds k L.hc, L.ok, L.nm, L.ln, L.wd⟩
def partO (cs ds : List Cmd) : Option (List Int × Int × Int) := if SameForm cs ds then none else partM cs ds
def PartAt (H H' : Hp) (v : V) (o : Option (List Int × Int × Int)) : Prop := (o = none ∧ v = .non) ∨ ∃ x p, o = some x ∧ v = .ref p ∧ LeastAt H H' p x
@[irreducible] def zPart (K : PySem.W.Frag) : Sp := spPart K
theorem zPart_eq (K : PySem.W.Frag) : zPart K = spPart K := by unfold zPart; rfl
@[irreducible] def zSame11 (K : PySem.W.Frag) : Sp := spSameE K
theorem zSame11_eq (K : PySem.W.Frag) : zSame11 K = spSameE K := by unfold zSame11; rfl
section
variable {K : PySem.W.Frag} {H : Hp} {Q : VK} {E : XK} {r l1 l2 : Addr} {xs ys : List V} {cs ds : List Cmd}
theorem ask_part11 (h1 : Lst11 K H r l1 xs cs) (h2 : Lst11 K H r l2 ys ds) (k : ∀ (H' : Hp) (v : V), Same H H' → PartAt H H' v (partO cs ds) → Q v H') : zPart K [.ref l1, .ref l2] H Q E := by
  rw [zPart_eq]
  have a := h1.ln
  have b := h2.ln
  have c := h1.wd
  have d := h2.wd
  refine ⟨l1, l2, xs, ys, cs, ds, rfl, SqL.of h1.hl, h1.hc, h1.ok, by omega, SqL.of h2.hl, h2.hc, h2.ok, by omega, by omega, by omega, fun s H' e => k _ _ e (.inl ⟨if_pos s, rfl⟩), fun s => ⟨fun z H' e => k _ _ e (.inl ⟨(if_neg s).trans z, rfl⟩), fun x z H' p e hp => k _ _ e (.inr ⟨x, p, (if_neg s).trans z, rfl, hp⟩)⟩⟩
theorem ask_same11 {b : Bool} (hb : decide (SameForm cs ds) = b) (h1 : Lst11 K H r l1 xs cs) (h2 : Lst11 K H r l2 ys ds) (k : ∀ H', Same H H' → Q (.bl b) H') : zSame11 K [.ref l1, .ref l2] H Q E := by
  subst hb
  rw [zSame11_eq]
  have a := h1.ln
  have b := h2.ln
  exact ⟨l1, l2, xs, ys, cs, ds, rfl, SqL.of h1.hl, h1.hc, h1.ok, by omega, SqL.of h2.hl, h2.hc, h2.ok, by omega, k⟩
end
theorem same_symm {cs ds : List Cmd} : decide (SameForm ds cs) = decide (SameForm cs ds) := decide_eq_decide.mpr ⟨fun h => ⟨h.1.symm, h.2.symm⟩, fun h => ⟨h.1.symm, h.2.symm⟩⟩
theorem partO_none {cs ds : List Cmd} (oc : AllOk cs) (od : AllOk ds) : decide (partO cs ds = none) = decide (SameForm cs ds) := by
  unfold partO
  by_cases h : SameForm cs ds
  · rw [if_pos h, decide_eq_true h]
    rfl
  · rw [if_neg h, decide_eq_false h]
    obtain ⟨x, hx, _⟩ := parted oc od h
    rw [hx]
    rfl
theorem PartAt.non {H H' : Hp} {v : V} {cs ds : List Cmd} {b : Bool} (hb : decide (SameForm cs ds) = b) (oc : AllOk cs) (od : AllOk ds) (h : PartAt H H' v (partO cs ds)) : decide (v = .non) = b := by
  rw [← hb, ← partO_none oc od]
  rcases h with ⟨e, rfl⟩ | ⟨x, p, e, rfl, _⟩
  · rw [e]
    rfl
  · rw [e]
    rfl
def afterD : Option (Int × Option Int) → PyData
  | none => .none
  | some (r, a) => .tuple [.int r, optE a]
theorem eqv_after (x y : Option (Int × Option Int)) : (afterD x).eqv (afterD y) = decide (x = y) := by
  cases x with
  | none =>
    cases y with
    | none => simp [afterD, PyData.eqv]
    | some q => simp [afterD, PyData.eqv]
  | some p =>
    cases y with
    | none => simp [afterD, PyData.eqv]
    | some q =>
      obtain ⟨r, a⟩ := p
      obtain ⟨r', a'⟩ := q
      simp only [afterD, PyData.eqv, PyData.eqvAll, Bool.and_true]
      rw [eqv_opt, Bool.eq_iff_iff]
      simp
theorem after_shaped (x : Option (Int × Option Int)) : SeqAt.shaped (afterD x) = true := by
  cases x with
  | none => rfl
  | some p =>
    obtain ⟨r, a⟩ := p
    cases a <;> rfl
@[irreducible] def zAfter11 (K : PySem.W.Frag) : Sp := spAfter K
theorem zAfter11_eq (K : PySem.W.Frag) : zAfter11 K = spAfter K := by unfold zAfter11; rfl
theorem ask_after11 {K : PySem.W.Frag} {H : Hp} {Q : VK} {E : XK} {r t b l : Addr} {T : List Int} {row : Int} {a : Option Int} {xs : List V} {cs : List Cmd} (ht : SqL K H t (T.map V.int)) (hb : SqT K H b [.int row, optV a]) (L : Lst11 K H r l xs cs) (r0 : 0 ≤ row) (r1 : row < T.length)
    (k : ∀ (H' : Hp) (v : V), Same H H' → Dp K H' v (afterD (afterL T row a cs)) → Q v H') : zAfter11 K [.ref t, .ref b, .ref l] H Q E := by
  rw [zAfter11_eq]
  refine ⟨t, b, l, T, row, a, xs, cs, rfl, ht, hb, SqL.of L.hl, L.hc, r0, r1, fun z H' e => k _ _ e (by rw [z]; exact .non), fun r' a' z H' p e np hp => k _ _ e (by rw [z]; exact .tup (SqT.of hp) (.cons (.int _) (.cons (by rw [optV_W]; exact dp_opt _) .nil)))⟩
theorem dp_ints11 {K : PySem.W.Frag} {H : Hp} : ∀ T : List Int, DpAll K H (T.map V.int) (T.map PyData.int)
  | [] => .nil
  | x :: T => .cons (.int x) (dp_ints11 T)
def bothC (cs ds : List Cmd) : PyData := .list [.list (cs.map cmdD), .list (ds.map cmdD)]
theorem bothC_show {cs ds : List Cmd} (h1 : ∀ c ∈ cs, CSml c) (h2 : ∀ c ∈ ds, CSml c) (l1 : cs.length ≤ 100) (l2 : ds.length ≤ 100) : (bothC cs ds).showable = true ∧ (bothC cs ds).hasDict = false ∧ (bothC cs ds).depth ≤ 60 ∧ (bothC cs ds).shown.length ≤ sizeLine := by
  obtain ⟨a1, a2, a3⟩ := cmds_ok0 h1
  obtain ⟨b1, b2, b3⟩ := cmds_ok0 h2
  have o : Ok0 (bothC cs ds) := ok0_list (ok0_cons (ok0_list a1) (ok0_cons (ok0_list b1) ok0_nil))
  refine ⟨o.1, o.2.1, ?_, ok0_len o ?_⟩
  · simp only [bothC, PyData.depth, PyData.depthAll]
    omega
  · simp only [bothC, PyData.weight, PyData.weightAll]
    omega
def spPair (K : PySem.W.Frag) : Sp := fun vs H Q _ => ∃ (r l1 l2 : Addr) (n : Nat) (xs ys : List V) (cs ds : List Cmd), vs = [.ref r, .ref l1, .ref l2] ∧ Rng H r n ∧ n < 2 ^ 36 ∧ Lst11 K H r l1 xs cs ∧ Lst11 K H r l2 ys ds ∧ ∀ H', Keep r r H H' → Rng H' r (n + 20000) → Q (.bl true) H'
section
variable {P : Program} {w : World} {K : PySem.W.Frag} {mg : Str → Option Value} {base : Heap}
theorem sc_law_pair_right : FnScope ["rng", "one", "other", "kept", "told", "found", "seen", "turn", "lengths", "begin"] ["rng", "one", "other"] (defScope s_pair_right) := ⟨rfl, rfl, rfl, by decide +kernel, rfl, by decide +kernel, by decide +kernel⟩
theorem ok_pair_right {f : Addr} {fd : FuncData} (F : Fun K "_law_pair_right" "_law_pair_right" s_pair_right f fd) (T : TxtPr mg) (c_same_effect : Cal P w K mg base 6 "same_effect" (zSame11 K)) (k_same_effect : CalK P w K mg base 6 "same_effect" ["second", "first"] (zSame11 K))
    (c_parting : Cal P w K mg base 7 "parting" (zPart K)) (k_parting : CalK P w K mg base 7 "parting" ["second", "first"] (zPart K)) (c_law_spread : Cal P w K mg base 1 "_law_spread" (spSpread K)) (c_law_after : Cal P w K mg base 1 "_law_after" (zAfter11 K)) (c_law_text : Cal P w K mg base 6 "_law_text" (spText11 K)) :
    FnG P w K mg base 8 f fd ["rng", "one", "other"] (spPair K) := by
  refine okG F sc_law_pair_right (fun vs H Q E h => ?_) (fun cdv A outer s H vs Q E hg hr h => ?_)
  · obtain ⟨r, l1, l2, n, xs, ys, cs, ds, rfl, _⟩ := h
    rfl
  · obtain ⟨r, l1, l2, n, xs, ys, cs, ds, rfl, R0, hn, LA, LB, k⟩ := h
    refine ⟨_, (C8.pss_cut (ps_par3 (i := 3) (j := 4) (l := 5) rfl sc_law_pair_right.nd rfl rfl rfl (by decide) (by decide) (by decide) rfl rfl rfl (pa_cons (pe_callB (cr_repr hg hr.units) (by rfl) T.repr (by decide +kernel) (pa_cons (pe_lst (pa_cons (pv 1) (pa_cons (pv 2) pa_nil))) pa_nil)) (pa_cons (pe_cal c_same_effect hr (by decide) (by rfl) (pa_cons (pv 1) (pa_cons (pv 2) pa_nil))) (pa_cons (pe_cal c_parting hr (by decide) (by rfl) (pa_cons (pv 1) (pa_cons (pv 2) pa_nil))) pa_nil))) (by rfl))
      (pss_cons (ps_if (PW.pt (pw_or (pt_not (pt_val (pe_callB call_isi (by rfl) T.isinstance (by decide +kernel) (pa_cons (pv 4) (pa_cons (pe_bltn (v := .ty "bool") (u := .type "bool") (by rfl) T.bool (by decide +kernel) rfl) pa_nil))))) (pw_or1 (pt_cmpR op_ne (pe_cal c_same_effect hr (by decide) (by rfl) (pa_cons (pv 2) (pa_cons (pv 1) pa_nil))) (pv 4) (nomark _))))) (pss_one (ps_ret pe_bl)) pss_nil)
      (pss_cons (ps_if (pt_cmpR op_ne (pe_calK k_same_effect hr (by decide) (by rfl) (pk_cons (pv 2) (pk_cons (pv 1) pk_nil))) (pv 4) (nomark _)) (pss_one (ps_ret pe_bl)) pss_nil)
      (pss_cons (ps_if (PW.pt (pw_or (pt_cmpR op_ne (pe_cmpR op_isN (pv 5) pe_non (nomark _)) (pv 4) (nomark _)) (pw_or (pt_cmpR op_ne (pe_cmpR op_isN (pe_calK k_parting hr (by decide) (by rfl) (pk_cons (pv 1) (pk_cons (pv 2) pk_nil))) pe_non (nomark _)) (pv 4) (nomark _)) (pw_or1 (pt_cmpR op_ne (pe_callB (cr_repr hg hr.units) (by rfl) T.repr (by decide +kernel) (pa_cons (pe_lst (pa_cons (pv 1) (pa_cons (pv 2) pa_nil))) pa_nil)) (pv 3) (nomark _)))))) (pss_one (ps_ret pe_bl)) pss_nil)
      (pss_cons (ps_if (pt_cmpR op_notN (pv 5) pe_non (nomark _)) (pss_cons (ps_if (PW.pt (pw_or (pt_not (pt_val (pe_callB call_isi (by rfl) T.isinstance (by decide +kernel) (pa_cons (pv 5) (pa_cons (pe_bltn (v := .ty "tuple") (u := .type "tuple") (by rfl) T.tuple (by decide +kernel) rfl) pa_nil))))) (pw_or (pt_not (pt_val (pe_callB call_isi (by rfl) T.isinstance (by decide +kernel) (pa_cons (pe_ix ix_tup (pv 5) pe_int (fun _ _ => rfl)) (pa_cons (pe_bltn (v := .ty "list") (u := .type "list") (by rfl) T.list (by decide +kernel) rfl) pa_nil))))) (pw_or1 (pt_not (pt_chain op_le op_lt pe_int (pe_ix ix_tup (pe_ix ix_tup (pv 5) pe_int (fun _ _ => rfl)) pe_int (fun _ _ => rfl)) (pe_callB call_len_seq (by rfl) T.len (by decide +kernel) (pa_cons (pe_ix ix_tup (pv 5) pe_int (fun _ _ => rfl)) pa_nil)))))))) (pss_one (ps_ret pe_bl)) pss_nil)
      (pss_cons (ps_if (PW.pt (pw_or (pt_cmpR op_lt (pe_callB (call_minI rfl) (by rfl) T.min (by decide +kernel) (pa_cons (pe_ix ix_tup (pv 5) pe_int (fun _ _ => rfl)) pa_nil)) pe_int (nomark _)) (pw_or1 (PW.pt (pw_and (pt_cmpR op_notN (pe_ix ix_tup (pe_ix ix_tup (pv 5) pe_int (fun _ _ => rfl)) pe_int (fun _ _ => rfl)) pe_non (nomark _)) (pw_and1 (pt_cmpR op_lt (pe_ix ix_tup (pe_ix ix_tup (pv 5) pe_int (fun _ _ => rfl)) pe_int (fun _ _ => rfl)) pe_int (nomark _)))))))) (pss_one (ps_ret pe_bl)) pss_nil)
      (pss_cons (ps_if (pt_cmpR (op_eqD hr.units) (pe_cal c_law_after hr (by decide) (by rfl) (pa_cons (pe_ix ix_tup (pv 5) pe_int (fun _ _ => rfl)) (pa_cons (pe_ix ix_tup (pv 5) pe_int (fun _ _ => rfl)) (pa_cons (pv 1) pa_nil)))) (pe_cal c_law_after hr (by decide) (by rfl) (pa_cons (pe_ix ix_tup (pv 5) pe_int (fun _ _ => rfl)) (pa_cons (pe_ix ix_tup (pv 5) pe_int (fun _ _ => rfl)) (pa_cons (pv 2) pa_nil)))) (nomark _)) (pss_one (ps_ret pe_bl)) pss_nil)
      (pss_cons (ps_set (i := 6) sc_law_pair_right.nd rfl (Or.inl rfl) (pe_callB (cr_repr hg hr.units) (by rfl) T.repr (by decide +kernel) (pa_cons (pv 5) pa_nil)))
      (pss_cons (ps_expr (pe_bm PySem.F.plainAttrs_list PySem.F.slot_list_append PySem.F.type_list_append mt_append (pe_ix ix_tup (pv 5) pe_int (fun _ _ => rfl)) (pa_cons pe_int pa_nil)))
      (pss_one (ps_ret (pe_cmpR op_eq (pe_callB (cr_repr hg hr.units) (by rfl) T.repr (by decide +kernel) (pa_cons (pe_cal c_parting hr (by decide) (by rfl) (pa_cons (pv 1) (pa_cons (pv 2) pa_nil))) pa_nil)) (pv 6) (nomark _))))))))) pss_nil)
      (pss_cons (ps_for PassesOwn.never rfl (pi_range1 rfl T.range (pa_cons pe_int pa_nil)) (pg_name (i := 7) sc_law_pair_right.nd rfl (Or.inl rfl)) (pss_cons (ps_asg (pe_cal c_law_text hr (by decide) (by rfl) (pa_cons (pv 0) (pa_cons (pe_cal c_law_spread hr (by decide) (by rfl) (pa_cons (pv 1) pa_nil)) (pa_cons (pe_ix ix_list (pe_lst (pa_cons (pv 1) (pa_cons (pv 2) pa_nil))) (pe_op op_mod (pv 7) pe_int) (fun _ _ => rfl)) pa_nil)))) (pg_lst rfl (pgs_cons (pg_name (i := 8) sc_law_pair_right.nd rfl (Or.inl rfl)) (pgs_cons (pg_name (i := 9) sc_law_pair_right.nd rfl (Or.inl rfl)) pgs_nil))))
      (pss_one (ps_if (pt_cmpR (op_neD hr.units) (pe_cal c_law_after hr (by decide) (by rfl) (pa_cons (pv 8) (pa_cons (pv 9) (pa_cons (pv 1) pa_nil)))) (pe_cal c_law_after hr (by decide) (by rfl) (pa_cons (pv 8) (pa_cons (pv 9) (pa_cons (pv 2) pa_nil)))) (nomark _)) (pss_one (ps_ret pe_bl)) pss_nil))))
      (pss_one (ps_ret pe_bl)))))))), ?_⟩
    have LA0 := LA
    have LB0 := LB
    have shw := bothC_show (csml_num LA.ok LA.nm) (csml_num LB.ok LB.nm) LA.ln LB.ln
    obtain ⟨b, hb⟩ : ∃ b, decide (SameForm cs ds) = b := ⟨_, rfl⟩
    have hb' : decide (SameForm ds cs) = b := same_symm.trans hb
    refine ⟨fun σ G => ∃ (v5 : V) (H0 H2 : Hp), σ = [some (.ref r), some (.ref l1), some (.ref l2), some (.str (bothC cs ds).shown), some (.bl b), some v5, none, none, none, none] ∧ Same H G ∧ Same H H0 ∧ Same H2 G ∧ PartAt H0 H2 v5 (partO cs ds), ?_, ?_⟩
    · refine ⟨_, rfl, _, rfl, (by show 2 ≤ sizeLine; decide), fun p np => ?_⟩
      have e1 := new_same (o := HO.lst [V.ref l1, .ref l2]) np
      have hp1 : (upd H p (.lst [V.ref l1, .ref l2])) p = some (.lst [V.ref l1, .ref l2]) := upd_same
      generalize upd H p (.lst [V.ref l1, .ref l2]) = H1 at e1 hp1 ⊢
      have LA1 := LA.same e1
      have LB1 := LB.same e1
      refine ⟨p, bothC cs ds, rfl, .lst (SqL.of hp1) (.cons (.lst (SqL.of LA1.hl) LA1.hc.dp) (.cons (.lst (SqL.of LB1.hl) LB1.hc.dp) .nil)), shw.1, shw.2.1, shw.2.2.1, shw.2.2.2, ?_⟩
      refine ⟨_, rfl, _, rfl, ask_same11 hb LA1 LB1 fun H2 e2 => ?_⟩
      refine ⟨_, rfl, _, rfl, ask_part11 (LA1.same e2) (LB1.same e2) fun H3 v5 e3 o3 => ⟨_, _, _, rfl, ?_⟩⟩
      exact ⟨_, H2, H3, rfl, (e1.trans e2).trans e3, e1.trans e2, Same.refl _, o3⟩
    rintro σ G ⟨v5, H0, H2, rfl, eG, e0, e2, o5⟩
    have LA := LA.same eG
    have LB := LB.same eG
    have R1 := R0.same eG
    have kA : Keep r r H G := Keep.of eG
    refine ⟨_, rfl, _, _, _, _, _, rfl, .ty "bool", .base (.bl _), kit_ty (show kitB "bool" "bool" = some true by decide +kernel), ?_⟩
    have v5n := o5.non hb LA.ok LB.ok
    refine ⟨_, rfl, iteF ?_⟩
    refine ⟨_, rfl, _, rfl, ask_same11 hb' LB LA fun H4 e4 => ?_⟩
    refine ⟨_, rfl, rfl, false, by simp, iteF ?_⟩
    refine ⟨_, rfl, _, rfl, ask_same11 hb (LA.same e4) (LB.same e4) fun H5 e5 => ?_⟩
    refine ⟨_, rfl, rfl, false, by simp, iteF ?_⟩
    have e45 := e4.trans e5
    have LA5 := LA.same e45
    have LB5 := LB.same e45
    refine ⟨_, rfl, rfl, _, rfl, rfl, false, by rw [v5n]; simp, iteF ?_⟩
    refine ⟨_, rfl, _, rfl, ask_part11 LB5 LA5 fun H6 v6 e6 o6 => ?_⟩
    have v6n := o6.non hb' LB.ok LA.ok
    refine ⟨rfl, _, rfl, rfl, false, by rw [v6n]; simp, iteF ?_⟩
    have e46 := e45.trans e6
    have LA6 := LA.same e46
    have LB6 := LB.same e46
    refine ⟨_, rfl, _, rfl, (by show 2 ≤ sizeLine; decide), fun p np => ?_⟩
    have e7 := new_same (o := HO.lst [V.ref l1, .ref l2]) np
    have hp7 : (upd H6 p (.lst [V.ref l1, .ref l2])) p = some (.lst [V.ref l1, .ref l2]) := upd_same
    generalize upd H6 p (.lst [V.ref l1, .ref l2]) = H7 at e7 hp7 ⊢
    have e47 := e46.trans e7
    have LA7 := LA.same e47
    have LB7 := LB.same e47
    have R7 := R1.same e47
    have kA7 := kA.trans (Keep.of e47)
    have e27 := e2.trans e47
    refine ⟨p, bothC cs ds, rfl, .lst (SqL.of hp7) (.cons (.lst (SqL.of LA7.hl) LA7.hc.dp) (.cons (.lst (SqL.of LB7.hl) LB7.hc.dp) .nil)), shw.1, shw.2.1, shw.2.2.1, shw.2.2.2, ?_⟩
    refine ⟨_, rfl, rfl, false, by simp, iteF ?_⟩
    by_cases hS : SameForm cs ds
    · have po : partO cs ds = none := if_pos hS
      rcases o5 with ⟨_, rfl⟩ | ⟨x, p, z, _⟩
      · refine ⟨_, rfl, rfl, _, rfl, iteF ?_⟩
        refine ⟨6, rfl, by decide, by decide, for_range (lo := 0) (n := 6) (fun j σ H' => ∃ v7 v8 v9 : Option V, σ = [some (.ref r), some (.ref l1), some (.ref l2), some (.str (bothC cs ds).shown), some (.bl b), some .non, none, v7, v8, v9] ∧ Keep r r H H' ∧ Rng H' r (n + 2100 * j)) ⟨none, none, none, rfl, kA7, R7.more (by omega)⟩ (fun j σ H8 hj h => ?_) (fun σ H8 h => ?_)⟩
        · obtain ⟨v7, v8, v9, rfl, kA8, R8⟩ := h
          have LA8 := LA0.keep R0 kA8
          have LB8 := LB0.keep R0 kA8
          refine ⟨_, rfl, _, rfl, l1, xs, cs, rfl, SqL.of LA8.hl, LA8.hc, fun H9 ps e9 hps => ?_⟩
          refine ⟨_, rfl, _, rfl, (by show 2 ≤ sizeLine; decide), fun q nq => ?_⟩
          have e10 := new_same (o := HO.lst [V.ref l1, .ref l2]) nq
          have hq10 : (upd H9 q (.lst [V.ref l1, .ref l2])) q = some (.lst [V.ref l1, .ref l2]) := upd_same
          generalize upd H9 q (.lst [V.ref l1, .ref l2]) = H10 at e10 hq10 ⊢
          have e810 := e9.trans e10
          have LA10 := LA8.same e810
          have LB10 := LB8.same e810
          have R10 := R8.same e810
          have kA10 := kA8.trans (Keep.of e810)
          have zc := (rch_within cs).1.zero
          have wdc := LA0.wd
          obtain ⟨lz, zs, es, hz, LZ⟩ : ∃ (lz : Addr) (zs : List V) (es : List Cmd), atI [V.ref l1, .ref l2] ((0 + (j : Int)) % 2) = some (.ref lz) ∧ Lst11 K H10 r lz zs es := by
            rcases (show (0 + (j : Int)) % 2 = 0 ∨ (0 + (j : Int)) % 2 = 1 by omega) with y | y
            · exact ⟨l1, xs, cs, by rw [y]; rfl, LA10⟩
            · exact ⟨l2, ys, ds, by rw [y]; rfl, LB10⟩
          have lnz := LZ.ln
          refine ⟨_, rfl, _, _, rfl, rfl, (show (0 : Int) < 2 by decide), q, _, _, .ref lz, rfl, rfl, SqL.of hq10, hz, ?_⟩
          refine ⟨r, ps, lz, _, (rchM cs).1, (rchM cs).2.1, last cs, zs, es, rfl, R10, by omega, SqT.of (e10 _ _ hps), zc.1, zc.2, wdc, LZ.hl, LZ.lr, LZ.hc, LZ.ok, LZ.nm, by omega, fun H11 p t bb tx row g kp11 R11 hp ht hbb nn r0 rl g0 => ?_⟩
          have LA11 := LA10.keep R10 kp11
          have LB11 := LB10.keep R10 kp11
          have kA11 := kA10.trans kp11
          refine ⟨p, _, rfl, SqL.of hp, rfl, _, _, rfl, _, _, rfl, rfl, ?_⟩
          refine ⟨_, rfl, _, rfl, _, rfl, ask_after11 (SqL.of ht) (SqT.of hbb) LA11 r0 rl fun H12 v12 e12 d12 => ?_⟩
          refine ⟨_, rfl, _, rfl, _, rfl, ask_after11 (SqL.of (e12 _ _ ht)) (SqT.of (e12 _ _ hbb)) (LB11.same e12) r0 rl fun H13 v13 e13 d13 => ?_⟩
          rw [← same_after LA.ok LB.ok hS nn r0 rl g0] at d13
          refine ⟨_, _, dp_same e13 _ _ d12, d13, after_shaped _, after_shaped _, _, rfl, ?_⟩
          rw [eqv_after, decide_eq_true rfl]
          have e := e12.trans e13
          exact iteF ⟨_, _, _, rfl, kA11.trans (Keep.of e), (R11.same e).more (by omega)⟩
        · obtain ⟨v7, v8, v9, rfl, kA8, R8⟩ := h
          exact k _ kA8 (R8.more (by omega))
      · rw [po] at z
        cases z
    · obtain ⟨x, hx, nn, r0, rl, g0, ne⟩ := parted LA.ok LB.ok hS
      have po : partO cs ds = some x := (if_neg hS).trans hx
      have md := part_mod LA.ok LA.nm LA.ln LA.wd LB.ok LB.nm LB.ln LB.wd hx
      rcases o5 with ⟨z, _⟩ | ⟨x', p, z, rfl, hp⟩
      · rw [po] at z
        cases z
      rw [po] at z
      cases z
      obtain ⟨t, bb, n1, n2, n3, q1, q2, q3⟩ := hp
      refine ⟨_, rfl, rfl, _, rfl, iteT ?_⟩
      have q1' := e27 _ _ q1
      have q2' := e27 _ _ q2
      have q3' := e27 _ _ q3
      refine ⟨_, rfl, _, _, _, _, _, rfl, .ty "tuple", ty_t (SqT.of q1'), kit_ty (show kitB "tuple" "tuple" = some true by decide +kernel), _, rfl, iteF ?_⟩
      refine ⟨_, rfl, p, _, 0, _, rfl, rfl, SqT.of q1', rfl, _, _, _, _, _, rfl, .ty "list", ty_l (SqL.of q2'), kit_ty (show kitB "list" "list" = some true by decide +kernel), _, rfl, iteF ?_⟩
      refine ⟨_, rfl, p, _, 1, _, rfl, rfl, SqT.of q1', rfl, bb, _, 0, _, rfl, rfl, SqT.of q3', rfl, ?_⟩
      refine ⟨_, _, rfl, rfl, _, rfl, ite2 (fun c0 => ?_) (fun c0 => absurd (decide_eq_true r0) c0)⟩
      have ltl : x.2.1 < ((x.1.map V.int).length : Int) := by rw [List.length_map]; exact rl
      refine ⟨_, rfl, p, _, 0, _, rfl, rfl, SqT.of q1', rfl, t, _, rfl, .inl (SqL.of q2'), _, _, rfl, rfl, _, rfl, ?_⟩
      rw [decide_eq_true ltl]
      refine iteF ?_
      have xne : x.1 ≠ [] := fun z => by rw [z] at rl; simp at rl; omega
      refine ⟨_, rfl, p, _, 0, _, rfl, rfl, SqT.of q1', rfl, t, x.1, rfl, SqL.of q2', xne, fun m hm _ => ?_⟩
      refine ⟨_, _, rfl, rfl, _, rfl, ite2 (fun c => absurd (of_decide_eq_true c) (by have := nn m hm; omega)) (fun _ => ?_)⟩
      refine ⟨_, rfl, p, _, 1, _, rfl, rfl, SqT.of q1', rfl, bb, _, 1, _, rfl, rfl, SqT.of q3', rfl, rfl, _, rfl, iteT ?_⟩
      refine ⟨_, rfl, p, _, 1, _, rfl, rfl, SqT.of q1', rfl, bb, _, 1, _, rfl, rfl, SqT.of q3', rfl, _, _, rfl, rfl, _, rfl, ite2 (fun c => absurd (of_decide_eq_true c) (by omega)) (fun _ => ?_)⟩
      refine ⟨_, rfl, p, _, 0, _, rfl, rfl, SqT.of q1', rfl, _, rfl, p, _, 1, _, rfl, rfl, SqT.of q1', rfl, _, rfl, ask_after11 (a := some x.2.2) (SqL.of q2') (SqT.of q3') LA7 r0 rl fun H8 v8 e8 d8 => ?_⟩
      refine ⟨_, rfl, p, _, 0, _, rfl, rfl, SqT.of (e8 _ _ q1'), rfl, _, rfl, p, _, 1, _, rfl, rfl, SqT.of (e8 _ _ q1'), rfl, _, rfl, ask_after11 (a := some x.2.2) (SqL.of (e8 _ _ q2')) (SqT.of (e8 _ _ q3')) (LB7.same e8) r0 rl fun H9 v9 e9 d9 => ?_⟩
      refine ⟨_, _, dp_same e9 _ _ d8, d9, after_shaped _, after_shaped _, _, rfl, ?_⟩
      rw [eqv_after, decide_eq_false ne]
      refine iteF ?_
      have e79 := e8.trans e9
      have p9 := e79 _ _ q1'
      have t9 := e79 _ _ q2'
      have b9 := e79 _ _ q3'
      have LA9 := LA7.same e79
      have LB9 := LB7.same e79
      have R9 := R7.same e79
      have kA9 := kA7.trans (Keep.of e79)
      obtain ⟨m1, m2, m3, m4⟩ := md
      have sx := textD_ok m1 m2 m3 m4
      refine ⟨_, rfl, p, textD x.1 x.2.1 x.2.2, rfl, .tup (SqT.of p9) (.cons (.lst (SqL.of t9) (dp_ints11 _)) (.cons (.tup (SqT.of b9) (.cons (.int _) (.cons (.int _) .nil))) .nil)), sx.1, sx.2.1, sx.2.2.1, sx.2.2.2, ?_⟩
      refine ⟨_, rfl, p, _, 0, _, rfl, rfl, SqT.of p9, rfl, .inl ⟨rfl, _, SqL.of t9⟩, t, _, .int 7, rfl, rfl, t9, lt_line (by rw [List.length_map]; omega), ?_⟩
      have ht : H t = none := e0.free n2
      have l1t : l1 ≠ t := ne_of_none LA0.hl ht
      have l2t : l2 ≠ t := ne_of_none LB0.hl ht
      have rt : r ≠ t := by
        obtain ⟨_, _, _, q, _⟩ := R0
        exact ne_of_none q ht
      have LA10 : Lst11 K (upd H9 t (.lst (x.1.map V.int ++ [.int 7]))) r l1 xs cs := ⟨by rw [upd_ne l1t]; exact LA9.hl, LA9.lr, LA9.hc.keep (Keep.refl _).upd1 t9, LA9.ok, LA9.nm, LA9.ln, LA9.wd⟩
      have LB10 : Lst11 K (upd H9 t (.lst (x.1.map V.int ++ [.int 7]))) r l2 ys ds := ⟨by rw [upd_ne l2t]; exact LB9.hl, LB9.lr, LB9.hc.keep (Keep.refl _).upd1 t9, LB9.ok, LB9.nm, LB9.ln, LB9.wd⟩
      have kA10 : Keep r r H (upd H9 t (.lst (x.1.map V.int ++ [.int 7]))) := fun b o a1 a2 hb => by
        rw [upd_ne (ne_of_none hb ht)]
        exact kA9 _ _ a1 a2 hb
      have R10 : Rng (upd H9 t (.lst (x.1.map V.int ++ [.int 7]))) r n := by
        obtain ⟨g, s', c, z, z2⟩ := R9
        exact ⟨g, s', c, by rw [upd_ne rt]; exact z, z2⟩
      refine ⟨_, rfl, _, rfl, ask_part11 LA10 LB10 fun H11 v11 e11 o11 => ?_⟩
      rcases o11 with ⟨z, _⟩ | ⟨x', p', z, rfl, hp⟩
      · rw [po] at z
        cases z
      rw [po] at z
      cases z
      obtain ⟨t', b', _, _, _, w1, w2, w3⟩ := hp
      refine ⟨p', textD x.1 x.2.1 x.2.2, rfl, .tup (SqT.of w1) (.cons (.lst (SqL.of w2) (dp_ints11 _)) (.cons (.tup (SqT.of w3) (.cons (.int _) (.cons (.int _) .nil))) .nil)), sx.1, sx.2.1, sx.2.2.1, sx.2.2.2, _, rfl, rfl, ?_⟩
      rw [decide_eq_true rfl]
      exact k _ (kA10.trans (Keep.of e11)) ((R10.same e11).more (by omega))
end
end Gc

/-! forms: their runs, and forms of lists whose rows are scaled -/
namespace Gc
open PySem L2
def dOf (cs : List Cmd) (v : Int) : PData := dataOf v (boxM cs v)
theorem rle_tail {D : Int → PData} {f : Int} {d : PData} {q : Piece} {r : List Piece} (h : Rle D f ((f, d) :: q :: r)) : f < q.1 ∧ d ≠ q.2 ∧ Rle D q.1 (q :: r) := by
  obtain ⟨g, e⟩ := q
  exact ⟨h.2.1, h.2.2.2.1, h.2.2.2.2⟩
theorem rle_run {D : Int → PData} {f : Int} {d : PData} {rest : List Piece} (h : Rle D f ((f, d) :: rest)) : ∀ v, f ≤ v → (∀ q r', rest = q :: r' → v < q.1) → D v = d := fun v hv hq => by
  cases rest with
  | nil => exact h.2 v hv
  | cons q r =>
    obtain ⟨g, e⟩ := q
    exact h.2.2.1 v hv (hq _ _ rfl)
theorem rle_fst {D : Int → PData} {f : Int} {p : Piece} {r : List Piece} (h : Rle D f (p :: r)) : p.1 = f := by
  obtain ⟨g, d⟩ := p
  cases r with
  | nil => exact h.1
  | cons q r =>
    obtain ⟨g2, e⟩ := q
    exact h.1
theorem rle_at {D : Int → PData} : ∀ {ps : List Piece} {f : Int} {i : Nat} {p : Piece}, Rle D f ps → ps[i]? = some p → f ≤ p.1 ∧ Rle D p.1 (p :: ps.drop (i + 1))
  | [], _, _, _, h, _ => h.elim
  | q :: r, f, 0, p, h, e => by
    obtain rfl := Option.some.inj e
    have e2 := rle_fst h
    rw [e2]
    exact ⟨Int.le_refl _, by rw [List.drop_succ_cons, List.drop_zero]; exact h⟩
  | (g, d) :: q :: r, f, i + 1, p, h, e => by
    have hf : g = f := rle_fst h
    subst hf
    obtain ⟨a1, _, a3⟩ := rle_tail h
    obtain ⟨b1, b2⟩ := rle_at a3 (i := i) e
    exact ⟨by omega, b2⟩
  | [(g, d)], f, i + 1, p, h, e => by cases e
/-- rows scaled -/
def scaleD (F : Int) (d : PData) : PData := (d.1, d.2.map (mulK F))
def scaleP (F : Int) (p : Piece) : Piece := (p.1, scaleD F p.2)
theorem mulK_inj {F : Int} (hF : 1 ≤ F) : ∀ {a b : Ps}, mulK F a = mulK F b → a = b
  | [], [], _ => rfl
  | [], _ :: _, h => by cases h
  | _ :: _, [], h => by cases h
  | (x, y) :: a, (u, v) :: b, h => by
    have h' : (x * F, y) :: mulK F a = (u * F, v) :: mulK F b := h
    obtain ⟨h1, h2⟩ := List.cons.inj h'
    obtain ⟨h3, h4⟩ := Prod.mk.inj h1
    rw [(mul_inj hF).mp h3, h4, mulK_inj hF h2]
theorem scaleD_inj {F : Int} (hF : 1 ≤ F) {a b : PData} (h : scaleD F a = scaleD F b) : a = b := by
  obtain ⟨a1, a2⟩ := a
  obtain ⟨b1, b2⟩ := b
  obtain ⟨h1, h2⟩ := Prod.mk.inj h
  have h1' : a1 = b1 := h1
  have h2' : a2.map (mulK F) = b2.map (mulK F) := h2
  subst h1'
  cases a2 <;> cases b2
  · rfl
  · cases h2'
  · cases h2'
  · rw [mulK_inj hF (Option.some.inj h2')]
theorem rle_scale {F : Int} (hF : 1 ≤ F) {D : Int → PData} : ∀ {ps : List Piece} {f : Int}, Rle D f ps → Rle (fun v => scaleD F (D v)) f (ps.map (scaleP F))
  | [], _, h => h.elim
  | [(g, d)], f, h => ⟨h.1, fun v hv => by show scaleD F (D v) = scaleD F d; rw [h.2 v hv]⟩
  | (g, d) :: (g2, e) :: r, f, h => by
    obtain ⟨h1, h2, h3, h4, h5⟩ := h
    refine ⟨h1, h2, fun v a b => by show scaleD F (D v) = scaleD F d; rw [h3 v a b], fun z => h4 (scaleD_inj hF z), rle_scale hF h5⟩
theorem data_scale {F v : Int} : ∀ o : Option (Option Int × Ps), dataOf v (o.map fun x => (x.1, mulK F x.2)) = scaleD F (dataOf v o)
  | none => rfl
  | some (st, L) => by
    show (st.map (· - v), some ((mulK F L).map fun q => (q.1, q.2 - v))) = (st.map (· - v), some (mulK F (L.map fun q => (q.1, q.2 - v))))
    unfold mulK
    rw [List.map_map, List.map_map]
    rfl
theorem form_scale {F : Int} (hF : 1 ≤ F) {cs : List Cmd} (ok : AllOk cs) : formM (cs.map (Cmd.mul F)) = (formM cs).map (scaleP F) := by
  refine (form_rle _).one ?_
  refine (rle_scale hF (form_rle cs)).of fun v hv => ?_
  show scaleD F (dataOf v (boxM cs v)) = dataOf v (boxM (cs.map (Cmd.mul F)) v)
  rw [box_mul hF ok hv, data_scale]
theorem rch_scale {F : Int} (hF : 1 ≤ F) (cs : List Cmd) : rchM (cs.map (Cmd.mul F)) = ((rchM cs).1 * F, (rchM cs).2.1 * F, (rchM cs).2.2 * F) := by
  have key : ∀ (cs : List Cmd) (l g e : Int), (cs.map (Cmd.mul F)).foldl rstep (l * F, g * F, e * F) = ((cs.foldl rstep (l, g, e)).1 * F, (cs.foldl rstep (l, g, e)).2.1 * F, (cs.foldl rstep (l, g, e)).2.2 * F) := fun cs => by
    induction cs with
    | nil => exact fun _ _ _ => rfl
    | cons c cs ih =>
      intro l g e
      have d : (c.mul F).dv = c.dv * F := by
        cases c with
        | up n => show -(n * F) = -n * F; rw [Int.neg_mul]
        | down n => rfl
        | right n => show (0 : Int) = 0 * F; omega
        | left n => show (0 : Int) = 0 * F; omega
        | home => show (0 : Int) = 0 * F; omega
        | stop => show (0 : Int) = 0 * F; omega
      have s : rstep (l * F, g * F, e * F) (c.mul F) = ((rstep (l, g, e) c).1 * F, (rstep (l, g, e) c).2.1 * F, (rstep (l, g, e) c).2.2 * F) := by
        unfold rstep
        dsimp only
        rw [d, ← Int.add_mul]
        have lt : ∀ a b : Int, a * F < b * F ↔ a < b := fun a b => ⟨fun h => Int.lt_of_mul_lt_mul_right h (by omega), fun h => Int.mul_lt_mul_of_pos_right h (by omega)⟩
        refine Prod.ext ?_ (Prod.ext ?_ rfl)
        · show (if (e + c.dv) * F < l * F then _ else _) = (if e + c.dv < l then _ else _) * F
          by_cases z : e + c.dv < l
          · rw [if_pos z, if_pos ((lt _ _).mpr z)]
          · rw [if_neg z, if_neg fun q => z ((lt _ _).mp q)]
        · show (if (e + c.dv) * F > g * F then _ else _) = (if e + c.dv > g then _ else _) * F
          by_cases z : e + c.dv > g
          · rw [if_pos z, if_pos ((lt _ _).mpr z)]
          · rw [if_neg z, if_neg fun q => z ((lt _ _).mp q)]
      rw [List.map_cons, List.foldl_cons, List.foldl_cons, s]
      exact ih _ _ _
  have q := key cs 0 0 0
  rw [Int.zero_mul] at q
  exact q
/-- behind a last move to the right the first piece asks nothing of the start -/
theorem form_right {cs : List Cmd} {n : Int} (hn : 1 ≤ n) : ∃ (ol : Option Ps) (r : List Piece), formM (cs ++ [.right n]) = (1, none, ol) :: r := by
  obtain ⟨r, e⟩ := (form_rle (cs ++ [.right n])).head
  have b : ∃ L, boxM (cs ++ [.right n]) 1 = some (none, L) := by
    unfold boxM
    rw [List.reverse_append]
    show ∃ L, (if (1 : Int) > n then go cs.reverse _ (1 - n) _ else some (none, _)).map srt = some (none, L)
    rw [if_neg (by omega)]
    exact ⟨_, rfl⟩
  obtain ⟨L, hb⟩ := b
  exact ⟨_, r, by rw [e, hb]; rfl⟩
end Gc

/-! calls of defs that call repr -/
namespace Gc
open PySem L2
structure CalG (P : Program) (w : World) (K : PySem.W.Frag) (mg : Str → Option Value) (base : Heap) (k : Nat) (x : Str) (sp : Sp) : Prop where
  ex : ∃ (f : Addr) (fd : FuncData) (ps : List Str), FnG P w K mg base k f fd ps sp ∧ mg x = some (.ref f) ∧ PySem.W.keepIn K (.ref f) = true ∧ Binds K fd ps []
theorem FnG.mono {P : Program} {w : World} {K : PySem.W.Frag} {mg : Str → Option Value} {base : Heap} {j k : Nat} {f : Addr} {fd : FuncData} {ps : List Str} {sp : Sp} (F : FnG P w K mg base j f fd ps sp) (h : j ≤ k) : FnG P w K mg base k f fd ps sp :=
  ⟨F.len, fun A outer s H args us vs Q E hg hr => F.run A outer s H args us vs Q E hg (hr.mono h)⟩
theorem pe_calG {X : Cx} {k j : Nat} {x : Str} {sp : Sp} {p pos : Pos} {e : Expr} {es : List Expr} {t : TA} (c : CalG X.prog X.w X.K X.mg X.base k x sp) (hg0 : X.A.guards = some []) (hr : Room j X.A) (hk : k ≤ j) (hg : Gl X x) (ha : PA X (e :: es) t)
    (hdb : (x == ("__debug__" : Str)) = false := by decide) (he : starEach (e :: es) X.env = (false, eval e X.env) :: starEach es X.env := by rfl) (hpl : (backTo pos (starEach es X.env)).any (·.1) = false := by rfl) :
    PE X (.Call (.Name x p) (e :: es) [] pos) (tCall sp [] E0 t) := by
  obtain ⟨f, fd, ps, F, hm, kp, b⟩ := c.ex
  exact pe_callG F hg0 (hr.mono hk) hg hm kp b ha hdb he hpl
end Gc

/-! the law of k11 -/
namespace Gc
open PySem L2
abbrev s_law : Stmt := top 59
structure TxtLw (mg : Str → Option Value) : Prop where
  min : mg "min" = none
  len : mg "len" = none
  range : mg "range" = none
  list : mg "list" = none
def spLaw (K : PySem.W.Frag) : Sp := fun vs H Q _ => ∃ (a : Addr) (ns : List Int), vs = [.ref a] ∧ SqL K H a (ns.map V.int) ∧ ns.length ≤ 63 ∧ ∀ H', Q (.bl true) H'
theorem same_mul {F : Int} (hF : 1 ≤ F) {cs ds : List Cmd} (oc : AllOk cs) (od : AllOk ds) : decide (SameForm (cs.map (Cmd.mul F)) (ds.map (Cmd.mul F))) = decide (SameForm cs ds) := by
  refine decide_eq_decide.mpr ⟨fun h => ⟨?_, ?_⟩, fun h => ⟨?_, ?_⟩⟩
  · have e := h.1
    rw [rch_scale hF, rch_scale hF] at e
    obtain ⟨e1, e2⟩ := Prod.mk.inj e
    obtain ⟨e2, e3⟩ := Prod.mk.inj e2
    exact Prod.ext ((mul_inj hF).mp e1) (Prod.ext ((mul_inj hF).mp e2) ((mul_inj hF).mp e3))
  · have e := h.2
    rw [form_scale hF oc, form_scale hF od] at e
    exact List.map_inj_right (fun a b z => Prod.ext (Prod.mk.inj z).1 (scaleD_inj hF (Prod.mk.inj z).2)) |>.mp e
  · rw [rch_scale hF, rch_scale hF, h.1]
  · rw [form_scale hF oc, form_scale hF od, h.2]
theorem reach_wide {k : Nat} {cs : List Cmd} (h : ∀ c ∈ cs, c.dv.natAbs ≤ k) : (rchM cs).2.1 - (rchM cs).1 ≤ k * cs.length := by
  have key : ∀ n, n ≤ cs.length → (rchM (cs.take n)).2.1 - (rchM (cs.take n)).1 ≤ k * n := by
    intro n
    induction n with
    | zero => intro _; show (0 : Int) - 0 ≤ k * 0; omega
    | succ n ih =>
      intro hn
      have i := ih (by omega)
      have hc : cs[n]? = some cs[n] := List.getElem?_eq_getElem (by omega)
      have q := h cs[n] (List.getElem_mem (by omega))
      have w := (rch_within (cs.take n)).1.whole
      have e := (rch_within (cs.take n)).2
      rw [← e] at w
      have m : (k : Int) * ((n + 1 : Nat) : Int) = k * n + k := by
        rw [show ((n + 1 : Nat) : Int) = (n : Int) + 1 by omega, Int.mul_add, Int.mul_one]
      rw [rch_more hc, m]
      simp only [rstep]
      split <;> split <;> omega
  have z := key cs.length (Nat.le_refl _)
  rw [List.take_length] at z
  exact z
/-- a list of at most m commands whose rows change by at most j -/
structure Cm11 (K : PySem.W.Frag) (H : Hp) (r l : Addr) (xs : List V) (cs : List Cmd) (j m : Nat) : Prop where
  hl : H l = some (.lst xs)
  lr : l ≠ r
  hc : CmdsOf K H xs cs
  nc : ∀ c ∈ cs, NearC j c
  ln : cs.length ≤ m
section
variable {K : PySem.W.Frag} {H H' : Hp} {r l : Addr} {xs : List V} {cs : List Cmd} {j m n : Nat}
theorem Cm11.same (L : Cm11 K H r l xs cs j m) (e : Same H H') : Cm11 K H' r l xs cs j m := ⟨e _ _ L.hl, L.lr, L.hc.same e, L.nc, L.ln⟩
theorem Cm11.keep (L : Cm11 K H r l xs cs j m) (R : Rng H r n) (k : Keep r r H H') : Cm11 K H' r l xs cs j m := ⟨k _ _ L.lr L.lr L.hl, L.lr, R.cmds k L.hc, L.nc, L.ln⟩
theorem Cm11.ok (L : Cm11 K H r l xs cs j m) : AllOk cs := fun c h => (L.nc c h).1
theorem Cm11.nm (L : Cm11 K H r l xs cs j m) : AllNum cs := fun c h => (L.nc c h).2.1
theorem Cm11.lst (L : Cm11 K H r l xs cs j m) (hm : m ≤ 100) (hj : j * m < 500) : Lst11 K H r l xs cs := by
  refine ⟨L.hl, L.lr, L.hc, L.ok, L.nm, Nat.le_trans L.ln hm, ?_⟩
  have q := reach_wide (k := j) fun c h => (L.nc c h).2.2
  have z : j * cs.length ≤ j * m := Nat.mul_le_mul_left _ L.ln
  omega
theorem Cm11.up {j' m' : Nat} (L : Cm11 K H r l xs cs j m) (hj : j ≤ j') (hm : m ≤ m') : Cm11 K H r l xs cs j' m' := ⟨L.hl, L.lr, L.hc, fun c h => (L.nc c h).up hj, Nat.le_trans L.ln hm⟩
end
/-- rows multiplied -/
theorem mul_near {f : Int} {j : Nat} (h1 : 1 ≤ f) (h4 : f ≤ 4) (hj : j ≤ 10) {c : Cmd} (h : NearC j c) : NearC (4 * j) (c.mul f) := by
  obtain ⟨o, q, d⟩ := h
  cases c with
  | down n =>
    have o1 : 1 ≤ n := o
    have d1 : n.natAbs ≤ j := d
    rcases (show f = 1 ∨ f = 2 ∨ f = 3 ∨ f = 4 by omega) with rfl | rfl | rfl | rfl
    all_goals
      refine ⟨?_, ?_, ?_⟩
      · show 1 ≤ n * _
        omega
      · show n * _ ≤ 10 ^ 30
        omega
      · show (n * _).natAbs ≤ 4 * j
        omega
  | up n =>
    have o1 : 1 ≤ n := o
    have d1 : (-n).natAbs ≤ j := d
    rcases (show f = 1 ∨ f = 2 ∨ f = 3 ∨ f = 4 by omega) with rfl | rfl | rfl | rfl
    all_goals
      refine ⟨?_, ?_, ?_⟩
      · show 1 ≤ n * _
        omega
      · show n * _ ≤ 10 ^ 30
        omega
      · show (-(n * _)).natAbs ≤ 4 * j
        omega
  | right n => exact ⟨o, q, Nat.zero_le _⟩
  | left n => exact ⟨o, q, Nat.zero_le _⟩
  | home => exact ⟨o, q, Nat.zero_le _⟩
  | stop => exact ⟨o, q, Nat.zero_le _⟩
@[irreducible] def zPair (K : PySem.W.Frag) : Sp := spPair K
theorem zPair_eq (K : PySem.W.Frag) : zPair K = spPair K := by unfold zPair; rfl
@[irreducible] def zNear (K : PySem.W.Frag) : Sp := spNear K
theorem zNear_eq (K : PySem.W.Frag) : zNear K = spNear K := by unfold zNear; rfl
@[irreducible] def zFar11 (K : PySem.W.Frag) : Sp := spFar K
theorem zFar11_eq (K : PySem.W.Frag) : zFar11 K = spFar K := by unfold zFar11; rfl
section
variable {K : PySem.W.Frag} {H : Hp} {Q : VK} {E : XK} {r l l1 l2 : Addr} {n j m : Nat} {xs ys : List V} {cs ds : List Cmd}
theorem ask_pair (R : Rng H r n) (hn : n < 2 ^ 36) (L1 : Lst11 K H r l1 xs cs) (L2 : Lst11 K H r l2 ys ds) (k : ∀ H', Keep r r H H' → Rng H' r (n + 20000) → Q (.bl true) H') : zPair K [.ref r, .ref l1, .ref l2] H Q E := by
  rw [zPair_eq]
  exact ⟨r, l1, l2, n, xs, ys, cs, ds, rfl, R, hn, L1, L2, k⟩
theorem ask_same11r {b : Bool} (hb : decide (SameForm cs ds) = b) (h1 : SqL K H l1 xs) (c1 : CmdsOf K H xs cs) (o1 : AllOk cs) (n1 : cs.length ≤ 2000) (h2 : SqL K H l2 ys) (c2 : CmdsOf K H ys ds) (o2 : AllOk ds) (n2 : ds.length ≤ 2000) (k : ∀ H', Same H H' → Q (.bl b) H') : zSame11 K [.ref l1, .ref l2] H Q E := by
  subst hb
  rw [zSame11_eq]
  exact ⟨l1, l2, xs, ys, cs, ds, rfl, h1, c1, o1, n1, h2, c2, o2, n2, k⟩
theorem ask_near {size : Int} (R : Rng H r n) (hn : n < 2 ^ 38) (L : Cm11 K H r l xs cs 2 20) (z0 : 1 ≤ size) (z1 : size ≤ 10 ^ 30) (k : ∀ (H' : Hp) (p : Addr) (ys : List V) (ds : List Cmd), Keep r r H H' → Rng H' r (n + 300) → H p = none → Cm11 K H' r p ys ds 4 20 → Q (.ref p) H') : zNear K [.ref r, .ref l, .int size] H Q E := by
  rw [zNear_eq]
  exact ⟨r, l, n, size, xs, cs, rfl, R, hn, L.hl, L.lr, L.hc, L.nc, L.ln, z0, z1, fun H' p ys ds kp R' pr np hp hc nc ln => k H' p ys ds kp R' np ⟨hp, pr, hc, nc, ln⟩⟩
theorem ask_far11 {f : Int} (R : Rng H r n) (L : Cm11 K H r l xs cs j 20) (f0 : 1 ≤ f) (f1 : f ≤ 10 ^ 29) (k : ∀ (H' : Hp) (p : Addr) (ys : List V), Same H H' → H p = none → p ≠ r → H' p = some (.lst ys) → CmdsOf K H' ys (cs.map (Cmd.mul f)) → Q (.ref p) H') : zFar11 K [.ref l, .int f] H Q E := by
  rw [zFar11_eq]
  have a := L.ln
  exact ⟨l, f, xs, cs, rfl, SqL.of L.hl, L.hc, L.ok, L.nm, by omega, f0, f1, fun H' p ys e np hp hc => k H' p ys e np (R.off np) hp hc⟩
end
theorem rng_updN {H : Hp} {r D : Addr} {n : Nat} {o : HO} (h : Rng H r n) (d : D ≠ r) : Rng (upd H D o) r n := by
  obtain ⟨g, s, c, z, z2⟩ := h
  exact ⟨g, s, c, by rw [upd_ne (Ne.symm d)]; exact z, z2⟩
theorem cut_init {xs : List V} : cutV xs none (some (-1)) = xs.take (xs.length - 1) := by
  unfold cutV
  rw [HT.sIx_none, List.drop_zero, Nat.sub_zero]
  congr 1
  show (if (-1 : Int) < 0 then ((-1 : Int) + (xs.length : Int)).toNat else min (-1 : Int).toNat xs.length) = _
  rw [if_pos (by decide)]
  omega
theorem three_ok (k : Int) (hk : 1 ≤ k) : AllOk [.down 199, .left k, .up 5] := fun c h => by
  simp only [List.mem_cons, List.not_mem_nil, or_false] at h
  rcases h with rfl | rfl | rfl
  · show (1 : Int) ≤ 199; decide
  · exact hk
  · show (1 : Int) ≤ 5; decide
theorem three_num (k : Int) (hk : k ≤ 10 ^ 30) : AllNum [.down 199, .left k, .up 5] := fun c h => by
  simp only [List.mem_cons, List.not_mem_nil, or_false] at h
  rcases h with rfl | rfl | rfl
  · show (199 : Int) ≤ 10 ^ 30; decide
  · exact hk
  · show (5 : Int) ≤ 10 ^ 30; decide
theorem ins11 {K : PySem.W.Frag} {H : Hp} {r t tx : Addr} {xs : List V} {cs : List Cmd} {m : Nat} {c : Cmd} (L : Cm11 K H r t xs cs 2 m) (hx : H tx = some (.tup (encC c))) (nc : NearC 2 c) (p : Nat) :
    Cm11 K (upd H t (.lst (xs.take p ++ [.ref tx] ++ xs.drop p))) r t (xs.take p ++ [.ref tx] ++ xs.drop p) (cs.take p ++ [c] ++ cs.drop p) 2 (m + 1) := by
  have hc := L.hc.keep ((Keep.refl _).upd1 (a := t) (o := .lst (xs.take p ++ [.ref tx] ++ xs.drop p))) L.hl
  have nt : tx ≠ t := ne_of hx L.hl (by intro z; cases z)
  refine ⟨upd_same, L.lr, paired_cat (paired_cat (paired_take p hc) (.cons ⟨tx, rfl, SqT.of (by rw [upd_ne nt]; exact hx)⟩ .nil)) (paired_drop p hc), fun d hd => ?_, ?_⟩
  · simp only [List.mem_append, List.mem_singleton] at hd
    rcases hd with (h | h) | h
    · exact L.nc d (mem_take' h)
    · rw [h]; exact nc
    · exact L.nc d (mem_drop' h)
  · have := L.ln
    simp only [List.length_append, List.length_take, List.length_drop, List.length_singleton]
    omega
theorem other11 {K : PySem.W.Frag} {H : Hp} {r t l : Addr} {xs ys zs : List V} {cs : List Cmd} {j m : Nat} (L : Cm11 K H r l xs cs j m) (ht : H t = some (.lst ys)) (n : l ≠ t) : Cm11 K (upd H t (.lst zs)) r l xs cs j m :=
  ⟨by rw [upd_ne n]; exact L.hl, L.lr, L.hc.keep ((Keep.refl _).upd1 (a := t) (o := .lst zs)) ht, L.nc, L.ln⟩
theorem mul_okL {F : Int} (hF : 1 ≤ F) {cs : List Cmd} (h : AllOk cs) : AllOk (cs.map (Cmd.mul F)) := fun c hc => by
  obtain ⟨d, hd, rfl⟩ := List.mem_map.mp hc
  have o := h d hd
  cases d with
  | down n =>
    have o1 : 1 ≤ n := o
    have : 1 * 1 ≤ n * F := Int.mul_le_mul o1 hF (by decide) (by omega)
    exact this
  | up n =>
    have o1 : 1 ≤ n := o
    have : 1 * 1 ≤ n * F := Int.mul_le_mul o1 hF (by decide) (by omega)
    exact this
  | right n => exact o
  | left n => exact o
  | home => exact o
  | stop => exact o
theorem small_near {cs : List Cmd} (ok : AllOk cs) (h : AllSmall cs) : ∀ c ∈ cs, NearC 2 c := fun c hc => ⟨ok c hc, h c hc⟩
section
variable {P : Program} {w : World} {K : PySem.W.Frag} {mg : Str → Option Value} {base : Heap}
theorem sc_law : FnScope ["script", "rng", "lap", "one", "size", "some", "other", "factor", "far", "few", "more", "step"] ["script"] (defScope s_law) := ⟨rfl, rfl, rfl, by decide +kernel, rfl, by decide +kernel, by decide +kernel⟩
theorem ok_law {f : Addr} {fd : FuncData} (F : Fun K "law" "law" s_law f fd) (T : TxtLw mg) (c_law_rng : Cal P w K mg base 1 "_law_rng" (spRng K)) (c_law_draw : Cal P w K mg base 1 "_law_draw" spDraw) (c_law_list : Cal P w K mg base 2 "_law_list" (spList K)) (c_law_lots : Cal P w K mg base 3 "_law_lots" (spLots K))
    (c_law_near : Cal P w K mg base 3 "_law_near" (zNear K)) (c_law_far : Cal P w K mg base 1 "_law_far" (zFar11 K)) (c_same_effect : Cal P w K mg base 6 "same_effect" (zSame11 K)) (c_parting : Cal P w K mg base 7 "parting" (zPart K)) (c_law_pair_right : CalG P w K mg base 8 "_law_pair_right" (zPair K))
    (c_law_read : Cal P w K mg base 4 "_law_read" (spLRead K)) (c_law_written : Cal P w K mg base 1 "_law_written" (spWritten K)) (c_read_commands : Cal P w K mg base 3 "read_commands" (spRead K)) : FnG P w K mg base 9 f fd ["script"] (spLaw K) := by
  refine okG F sc_law (fun vs H Q E h => ?_) (fun cdv A outer s H vs Q E hg hr h => ?_)
  · obtain ⟨a, ns, rfl, _⟩ := h
    rfl
  · obtain ⟨a0, ns, rfl, hS, hlen, k⟩ := h
    refine ⟨_, (pss_cons (ps_set (i := 1) sc_law.nd rfl (Or.inl rfl) (pe_cal c_law_rng hr (by decide) (by rfl) (pa_cons (pv 0) pa_nil)))
      (pss_cons (ps_for PassesOwn.never rfl (pi_range1 rfl T.range (pa_cons (pe_op op_add pe_int (pe_callB (call_min2 rfl) (by rfl) T.min (by decide +kernel) (pa_cons pe_int (pa_cons (pe_callB call_len_seq (by rfl) T.len (by decide +kernel) (pa_cons (pv 0) pa_nil)) pa_nil)))) pa_nil)) (pg_name (i := 2) sc_law.nd rfl (Or.inl rfl)) (pss_cons (ps_par (i := 3) (j := 4) rfl sc_law.nd rfl rfl (by decide) rfl rfl (pa_cons (pe_cal c_law_lots hr (by decide) (by rfl) (pa_cons (pv 1) pa_nil)) (pa_cons (pe_ix ix_list (pe_lst (pa_cons pe_int (pa_cons pe_int (pa_cons (pe_op op_pow pe_int pe_int) pa_nil)))) (pe_cal c_law_draw hr (by decide) (by rfl) (pa_cons (pv 1) (pa_cons pe_int pa_nil))) (fun _ _ => rfl)) pa_nil)) (by rfl))
      (pss_cons (ps_set (i := 5) sc_law.nd rfl (Or.inl rfl) (pe_lst (pa_cons (pe_cal c_law_near hr (by decide) (by rfl) (pa_cons (pv 1) (pa_cons (pv 3) (pa_cons pe_int pa_nil)))) (pa_cons (pe_cal c_law_near hr (by decide) (by rfl) (pa_cons (pv 1) (pa_cons (pv 3) (pa_cons (pv 4) pa_nil)))) (pa_cons (pe_callTy call_list_of (by rfl) T.list (by decide +kernel) (pa_cons (pv 3) pa_nil)) (pa_cons (pe_cal c_law_lots hr (by decide) (by rfl) (pa_cons (pv 1) pa_nil)) (pa_cons (pe_cal c_law_list hr (by decide) (by rfl) (pa_cons (pv 1) (pa_cons pe_int (pa_cons pe_int pa_nil)))) pa_nil)))))))
      (pss_cons (ps_for PassesOwn.never rfl (pi_list (pv 5)) (pg_name (i := 6) sc_law.nd rfl (Or.inl rfl)) (pss_cons (ps_par (i := 7) (j := 8) rfl sc_law.nd rfl rfl (by decide) rfl rfl (pa_cons (pe_ix ix_list (pe_lst (pa_cons pe_int (pa_cons (pe_op op_add pe_int (pe_cal c_law_draw hr (by decide) (by rfl) (pa_cons (pv 1) (pa_cons pe_int pa_nil)))) pa_nil))) (pe_cal c_law_draw hr (by decide) (by rfl) (pa_cons (pv 1) (pa_cons pe_int pa_nil))) (fun _ _ => rfl)) (pa_cons (pe_ix ix_list (pe_lst (pa_cons pe_int (pa_cons (pe_op op_pow pe_int pe_int) pa_nil))) (pe_cal c_law_draw hr (by decide) (by rfl) (pa_cons (pv 1) (pa_cons pe_int pa_nil))) (fun _ _ => rfl)) pa_nil)) (by rfl))
      (pss_cons (ps_if (pt_not (pt_val (pe_calG c_law_pair_right hg hr (by decide) (by rfl) (pa_cons (pv 1) (pa_cons (pe_cal c_law_far hr (by decide) (by rfl) (pa_cons (pv 3) (pa_cons (pv 7) pa_nil))) (pa_cons (pe_cal c_law_far hr (by decide) (by rfl) (pa_cons (pv 6) (pa_cons (pv 7) pa_nil))) pa_nil)))))) (pss_one (ps_ret pe_bl)) pss_nil)
      (pss_one (ps_if (pt_cmpR op_ne (pe_cal c_same_effect hr (by decide) (by rfl) (pa_cons (pe_cal c_law_far hr (by decide) (by rfl) (pa_cons (pv 3) (pa_cons (pv 8) pa_nil))) (pa_cons (pe_cal c_law_far hr (by decide) (by rfl) (pa_cons (pv 6) (pa_cons (pv 8) pa_nil))) pa_nil))) (pe_cal c_same_effect hr (by decide) (by rfl) (pa_cons (pv 3) (pa_cons (pv 6) pa_nil))) (nomark _)) (pss_one (ps_ret pe_bl)) pss_nil)))))
      (pss_cons (ps_set (i := 9) sc_law.nd rfl (Or.inl rfl) (pe_cal c_law_list hr (by decide) (by rfl) (pa_cons (pv 1) (pa_cons pe_int (pa_cons (pv 4) pa_nil)))))
      (pss_cons (ps_set (i := 10) sc_law.nd rfl (Or.inl rfl) (pe_callTy call_list_of (by rfl) T.list (by decide +kernel) (pa_cons (pv 9) pa_nil)))
      (pss_cons (ps_for PassesOwn.never rfl (pi_list (pe_lst (pa_cons (pe_tup (pa_cons pe_str (pa_cons pe_int pa_nil))) (pa_cons (pe_tup (pa_cons pe_str pa_nil)) (pa_cons (pe_tup (pa_cons pe_str (pa_cons pe_int pa_nil))) (pa_cons (pe_tup (pa_cons pe_str pa_nil)) pa_nil)))))) (pg_name (i := 11) sc_law.nd rfl (Or.inl rfl)) (pss_cons (ps_if (pt_not (pt_val (pe_calG c_law_pair_right hg hr (by decide) (by rfl) (pa_cons (pv 1) (pa_cons (pv 9) (pa_cons (pv 10) pa_nil)))))) (pss_one (ps_ret pe_bl)) pss_nil)
      (pss_one (ps_expr (pe_bm PySem.F.plainAttrs_list PySem.F.slot_list_insert PySem.F.type_list_insert mt_insert (pe_ix ix_list (pe_lst (pa_cons (pv 9) (pa_cons (pv 10) pa_nil))) (pe_cal c_law_draw hr (by decide) (by rfl) (pa_cons (pv 1) (pa_cons pe_int pa_nil))) (fun _ _ => rfl)) (pa_cons (pe_cal c_law_draw hr (by decide) (by rfl) (pa_cons (pv 1) (pa_cons (pe_op op_add (pe_callB call_len_seq (by rfl) T.len (by decide +kernel) (pa_cons (pv 9) pa_nil)) pe_int) pa_nil))) (pa_cons (pv 11) pa_nil)))))))
      (pss_cons (ps_set (i := 9) sc_law.nd rfl (Or.inl rfl) (pe_cal c_law_list hr (by decide) (by rfl) (pa_cons (pv 1) (pa_cons pe_int (pa_cons pe_int pa_nil)))))
      (pss_one (ps_if (pt_not (pt_val (pe_calG c_law_pair_right hg hr (by decide) (by rfl) (pa_cons (pv 1) (pa_cons (pv 9) (pa_cons (pe_cal c_law_near hr (by decide) (by rfl) (pa_cons (pv 1) (pa_cons (pv 9) (pa_cons pe_int pa_nil)))) pa_nil)))))) (pss_one (ps_ret pe_bl)) pss_nil))))))))))
      (pss_cons (ps_set (i := 3) sc_law.nd rfl (Or.inl rfl) (pe_cal c_law_read hr (by decide) (by rfl) (pa_cons (pv 1) (pa_cons pe_int (pa_cons pe_int (pa_cons pe_int pa_nil))))))
      (pss_cons (ps_set (i := 6) sc_law.nd rfl (Or.inl rfl) (pe_cal c_read_commands hr (by decide) (by rfl) (pa_cons (pe_cal c_law_written hr (by decide) (by rfl) (pa_cons (pe_op op_cat (pe_slice sl_list (pv 3) po_none (po_some (pe_un un_neg pe_int))) (pe_cal c_law_list hr (by decide) (by rfl) (pa_cons (pv 1) (pa_cons pe_int (pa_cons pe_int pa_nil))))) pa_nil)) pa_nil)))
      (pss_cons (ps_if (PW.pt (pw_or (pt_not (pt_val (pe_cal c_same_effect hr (by decide) (by rfl) (pa_cons (pv 3) (pa_cons (pv 3) pa_nil))))) (pw_or1 (pt_not (pt_val (pe_calG c_law_pair_right hg hr (by decide) (by rfl) (pa_cons (pv 1) (pa_cons (pv 3) (pa_cons (pv 6) pa_nil))))))))) (pss_one (ps_ret pe_bl)) pss_nil)
      (pss_cons (ps_if (pt_not (pt_val (pe_calG c_law_pair_right hg hr (by decide) (by rfl) (pa_cons (pv 1) (pa_cons (pe_lst (pa_cons (pe_tup (pa_cons pe_str (pa_cons pe_int pa_nil))) (pa_cons (pe_tup (pa_cons pe_str (pa_cons pe_int pa_nil))) (pa_cons (pe_tup (pa_cons pe_str (pa_cons pe_int pa_nil))) pa_nil)))) (pa_cons (pe_lst (pa_cons (pe_tup (pa_cons pe_str (pa_cons pe_int pa_nil))) (pa_cons (pe_tup (pa_cons pe_str (pa_cons pe_int pa_nil))) (pa_cons (pe_tup (pa_cons pe_str (pa_cons pe_int pa_nil))) pa_nil)))) pa_nil)))))) (pss_one (ps_ret pe_bl)) pss_nil)
      (pss_one (ps_ret (pe_and (pe_cmpR op_isN (pe_cal c_parting hr (by decide) (by rfl) (pa_cons (pe_lst pa_nil) (pa_cons (pe_lst pa_nil) pa_nil))) pe_non (nomark _)) (pe_one (pe_cmpR op_notN (pe_cal c_parting hr (by decide) (by rfl) (pa_cons (pe_lst (pa_cons (pe_tup (pa_cons pe_str pa_nil)) pa_nil)) (pa_cons (pe_lst (pa_cons (pe_tup (pa_cons pe_str (pa_cons (pe_op op_sub (pe_op op_pow pe_int pe_int) pe_int) pa_nil))) pa_nil)) pa_nil))) pe_non (nomark _)))))))))))), ?_⟩
    refine ⟨_, rfl, a0, ns, rfl, hS, hlen, fun H1 a e1 na R1 => ?_⟩
    refine ⟨_, rfl, a0, _, rfl, .inl (e1.seq hS), _, _, rfl, _, _, rfl, rfl, _, rfl, ?_, ?_, ?_⟩
    · omega
    · omega
    refine for_range (lo := 0) (fun i σ H' => ∃ v2 v3 v4 v5 v6 v7 v8 v9 v10 v11 : Option V, σ = [some (.ref a0), some (.ref a), v2, v3, v4, v5, v6, v7, v8, v9, v10, v11] ∧ Rng H' a (300000 * i)) ⟨none, none, none, none, none, none, none, none, none, none, rfl, R1⟩ (fun i σ H2 hi h => ?_) (fun σ H2 h => ?_)
    · obtain ⟨v2, v3, v4, v5, v6, v7, v8, v9, v10, v11, rfl, R2⟩ := h
      have hi' : i < 100 := by
        rw [List.length_map] at hi
        omega
      refine ⟨_, rfl, a, _, rfl, R2, by omega, fun H3 l xs cs kp3 R3 nl hl hc ok sm ln => ?_⟩
      have L : Cm11 K H3 a l xs cs 2 20 := ⟨hl, R2.off nl, hc, small_near ok sm, ln⟩
      refine ⟨_, _, rfl, rfl, cpow (by decide), (by show 3 ≤ sizeLine; decide), fun q nq => ?_⟩
      have qa := R3.off nq
      have e4 := new_same (o := HO.lst [V.int 3, .int 40, .int (10 ^ (29 : Int).toNat)]) nq
      have hq4 : (upd H3 q (.lst [V.int 3, .int 40, .int (10 ^ (29 : Int).toNat)])) q = some (.lst [V.int 3, .int 40, .int (10 ^ 29)]) := upd_same
      have R4 := R3.same e4
      replace L := L.same e4
      clear e4
      generalize upd H3 q (.lst [V.int 3, .int 40, .int (10 ^ (29 : Int).toNat)]) = H4 at hq4 R4 L ⊢
      refine ⟨_, rfl, a, _, 3, rfl, R4, by omega, by decide, by decide, fun H5 d5 kp5 R5 d50 d51 => ?_⟩
      replace L := L.keep R4 kp5
      obtain ⟨size, hsz, z0, z1⟩ : ∃ z : Int, atI [V.int 3, .int 40, .int (10 ^ 29)] d5 = some (.int z) ∧ 1 ≤ z ∧ z ≤ 10 ^ 30 := by
        rcases (show d5 = 0 ∨ d5 = 1 ∨ d5 = 2 by omega) with rfl | rfl | rfl
        · exact ⟨_, rfl, by decide, by decide⟩
        · exact ⟨_, rfl, by decide, by decide⟩
        · exact ⟨_, rfl, by decide, by decide⟩
      refine ⟨q, _, _, .int size, rfl, rfl, SqL.of (kp5 _ _ qa qa hq4), hsz, _, _, rfl, ?_⟩
      -- some
      refine ⟨_, rfl, _, rfl, ask_near R5 (by omega) L (by decide) (by decide) fun H6 p1 y1 c1 kp6 R6 n1 L1 => ?_⟩
      replace L := L.keep R5 kp6
      refine ⟨_, rfl, _, rfl, _, rfl, ask_near R6 (by omega) L z0 z1 fun H7 p2 y2 c2 kp7 R7 n2 L2' => ?_⟩
      replace L := L.keep R6 kp7
      replace L1 := L1.keep R6 kp7
      refine ⟨_, rfl, l, _, rfl, .inl (SqL.of L.hl), fun p3 n3 => ?_⟩
      have e8 := new_same (o := HO.lst xs) n3
      have L3 : Cm11 K (upd H7 p3 (.lst xs)) a p3 xs cs 4 20 := ⟨upd_same, R7.off n3, L.hc.same e8, fun c h => (L.nc c h).up (by decide), L.ln⟩
      have R8 := R7.same e8
      replace L := L.same e8
      replace L1 := L1.same e8
      replace L2' := L2'.same e8
      clear e8
      generalize upd H7 p3 (.lst xs) = H8 at L3 R8 L L1 L2' ⊢
      refine ⟨_, rfl, a, _, rfl, R8, by omega, fun H9 p4 y4 c4 kp9 R9 n4 h4 hc4 ok4 sm4 ln4 => ?_⟩
      have L4 : Cm11 K H9 a p4 y4 c4 4 20 := ⟨h4, R8.off n4, hc4, fun c h => (small_near ok4 sm4 c h).up (by decide), ln4⟩
      replace L := L.keep R8 kp9
      replace L1 := L1.keep R8 kp9
      replace L2' := L2'.keep R8 kp9
      replace L3 := L3.keep R8 kp9
      refine ⟨_, rfl, a, _, 3, 2, rfl, R9, by omega, by decide, by decide, by decide, by decide, fun H10 p5 y5 c5 kp10 R10 n5 h5 hc5 ok5 sm5 ln5 => ?_⟩
      have L5 : Cm11 K H10 a p5 y5 c5 4 20 := ⟨h5, R9.off n5, hc5, fun c h => (small_near ok5 sm5 c h).up (by decide), by omega⟩
      replace L := L.keep R9 kp10
      replace L1 := L1.keep R9 kp10
      replace L2' := L2'.keep R9 kp10
      replace L3 := L3.keep R9 kp10
      replace L4 := L4.keep R9 kp10
      refine ⟨(by show 5 ≤ sizeLine; decide), fun sm nsm => ?_⟩
      have sma := R10.off nsm
      have e11 := new_same (o := HO.lst [V.ref p1, .ref p2, .ref p3, .ref p4, .ref p5]) nsm
      have hsm : (upd H10 sm (.lst [V.ref p1, .ref p2, .ref p3, .ref p4, .ref p5])) sm = some (.lst [V.ref p1, .ref p2, .ref p3, .ref p4, .ref p5]) := upd_same
      have R11 := R10.same e11
      replace L := L.same e11
      have all : ∀ (j : Nat) (x : V), [V.ref p1, .ref p2, .ref p3, .ref p4, .ref p5][j]? = some x → ∃ lo ys ds, x = .ref lo ∧ Cm11 K (upd H10 sm (.lst [V.ref p1, .ref p2, .ref p3, .ref p4, .ref p5])) a lo ys ds 4 20 := fun j x hx => by
        match j, hx with
        | 0, hx => cases hx; exact ⟨_, _, _, rfl, L1.same e11⟩
        | 1, hx => cases hx; exact ⟨_, _, _, rfl, L2'.same e11⟩
        | 2, hx => cases hx; exact ⟨_, _, _, rfl, L3.same e11⟩
        | 3, hx => cases hx; exact ⟨_, _, _, rfl, L4.same e11⟩
        | 4, hx => cases hx; exact ⟨_, _, _, rfl, L5.same e11⟩
        | j + 5, hx => cases hx
      clear e11
      generalize upd H10 sm (.lst [V.ref p1, .ref p2, .ref p3, .ref p4, .ref p5]) = H11 at hsm R11 L all ⊢
      refine ⟨_, rfl, sm, rfl, ⟨_, SqL.of hsm⟩, for_list (K := K) (a := sm) (xs := [V.ref p1, .ref p2, .ref p3, .ref p4, .ref p5]) (fun j σ H' => ∃ w6 w7 w8 : Option V, σ = [some (.ref a0), some (.ref a), some (.int (0 + (i : Int))), some (.ref l), some (.int size), some (.ref sm), w6, w7, w8, v9, v10, v11] ∧ Keep a a H11 H' ∧ Rng H' a (300000 * i + 1000 + 30000 * j))
        ⟨_, _, _, rfl, Keep.refl _, R11.more (by omega)⟩ (fun j σ H' _ h => by obtain ⟨_, _, _, _, kp, _⟩ := h; exact SqL.of (kp _ _ sma sma hsm)) (fun j x σ H12 hx h => ?_) (fun σ H12 h => ?_)⟩
      · obtain ⟨w6, w7, w8, rfl, kp12, R12⟩ := h
        have hj : j < 5 := by
          have := (List.getElem?_eq_some_iff.mp hx).1
          exact this
        obtain ⟨lo, zs, es, rfl, LO⟩ := all j x hx
        replace LO := LO.keep R11 kp12
        have LN := L.keep R11 kp12
        refine ⟨_, rfl, a, _, 4, rfl, R12, by omega, by decide, by decide, fun H13 d13 kp13 R13 d130 d131 => ⟨_, _, rfl, rfl, (by show 2 ≤ sizeLine; decide), fun q nq => ?_⟩⟩
        replace LO := LO.keep R12 kp13
        replace LN := LN.keep R12 kp13
        have qa := R13.off nq
        have e14 := new_same (o := HO.lst [V.int 1, .int (1 + d13)]) nq
        have hq14 : (upd H13 q (.lst [V.int 1, .int (1 + d13)])) q = some (.lst [V.int 1, .int (1 + d13)]) := upd_same
        have R14 := R13.same e14
        have kp14 := (kp12.trans kp13).trans (Keep.of e14)
        replace LO := LO.same e14
        replace LN := LN.same e14
        clear e14
        generalize upd H13 q (.lst [V.int 1, .int (1 + d13)]) = H14 at hq14 R14 kp14 LO LN ⊢
        refine ⟨_, rfl, a, _, 2, rfl, R14, by omega, by decide, by decide, fun H15 d15 kp15 R15 d150 d151 => ?_⟩
        replace LO := LO.keep R14 kp15
        replace LN := LN.keep R14 kp15
        obtain ⟨fac, hfac, f0, f1⟩ : ∃ z : Int, atI [V.int 1, .int (1 + d13)] d15 = some (.int z) ∧ 1 ≤ z ∧ z ≤ 4 := by
          rcases (show d15 = 0 ∨ d15 = 1 by omega) with rfl | rfl
          · exact ⟨_, rfl, by decide, by decide⟩
          · exact ⟨_, rfl, by omega, by omega⟩
        refine ⟨q, _, _, .int fac, rfl, rfl, SqL.of (kp15 _ _ qa qa hq14), hfac, ?_⟩
        refine ⟨_, _, rfl, rfl, cpow (by decide), (by show 2 ≤ sizeLine; decide), fun q2 nq2 => ?_⟩
        have q2a := R15.off nq2
        have e16 := new_same (o := HO.lst [V.int 300, .int (10 ^ (29 : Int).toNat)]) nq2
        have hq16 : (upd H15 q2 (.lst [V.int 300, .int (10 ^ (29 : Int).toNat)])) q2 = some (.lst [V.int 300, .int (10 ^ 29)]) := upd_same
        have R16 := R15.same e16
        have kp16 := (kp14.trans kp15).trans (Keep.of e16)
        replace LO := LO.same e16
        replace LN := LN.same e16
        clear e16
        generalize upd H15 q2 (.lst [V.int 300, .int (10 ^ (29 : Int).toNat)]) = H16 at hq16 R16 kp16 LO LN ⊢
        refine ⟨_, rfl, a, _, 2, rfl, R16, by omega, by decide, by decide, fun H17 d17 kp17 R17 d170 d171 => ?_⟩
        replace LO := LO.keep R16 kp17
        replace LN := LN.keep R16 kp17
        have kp17' := kp16.trans kp17
        obtain ⟨far, hfar, g0, g1⟩ : ∃ z : Int, atI [V.int 300, .int (10 ^ 29)] d17 = some (.int z) ∧ 1 ≤ z ∧ z ≤ 10 ^ 29 := by
          rcases (show d17 = 0 ∨ d17 = 1 by omega) with rfl | rfl
          · exact ⟨_, rfl, by decide, by decide⟩
          · exact ⟨_, rfl, by decide, by decide⟩
        refine ⟨q2, _, _, .int far, rfl, rfl, SqL.of (kp17 _ _ q2a q2a hq16), hfar, _, _, rfl, ?_⟩
        refine ⟨_, rfl, _, rfl, _, rfl, ask_far11 R17 LN f0 (by omega) fun H18 q3 y3 e18 nq3 q3a h3 c3 => ?_⟩
        have R18 := R17.same e18
        replace LO := LO.same e18
        replace LN := LN.same e18
        refine ⟨_, rfl, _, rfl, ask_far11 R18 LO f0 (by omega) fun H19 q4 y4 e19 nq4 q4a h4 c4 => ?_⟩
        have R19 := R18.same e19
        replace LO := LO.same e19
        replace LN := LN.same e19
        have FA : Cm11 K H19 a q3 y3 (cs.map (Cmd.mul fac)) 16 20 := ⟨e19 _ _ h3, q3a, c3.same e19, fun c h => by
          obtain ⟨d, hd, rfl⟩ := List.mem_map.mp h
          exact mul_near f0 f1 (by decide) ((LN.nc d hd).up (show 2 ≤ 4 by decide)), by rw [List.length_map]; exact LN.ln⟩
        have FB : Cm11 K H19 a q4 y4 (es.map (Cmd.mul fac)) 16 20 := ⟨h4, q4a, c4, fun c h => by
          obtain ⟨d, hd, rfl⟩ := List.mem_map.mp h
          exact mul_near f0 f1 (by decide) (LO.nc d hd), by rw [List.length_map]; exact LO.ln⟩
        refine ask_pair R19 (by omega) (FA.lst (by decide) (by decide)) (FB.lst (by decide) (by decide)) fun H20 kp20 R20 => ⟨_, rfl, iteF ?_⟩
        replace LO := LO.keep R19 kp20
        replace LN := LN.keep R19 kp20
        refine ⟨_, rfl, _, rfl, ask_far11 R20 LN g0 g1 fun H21 q5 y5' e21 nq5 q5a h5' c5' => ?_⟩
        have R21 := R20.same e21
        replace LO := LO.same e21
        replace LN := LN.same e21
        refine ⟨_, rfl, _, rfl, ask_far11 R21 LO g0 g1 fun H22 q6 y6 e22 nq6 q6a h6 c6 => ?_⟩
        have R22 := R21.same e22
        replace LO := LO.same e22
        replace LN := LN.same e22
        have lnn := LN.ln
        have lno := LO.ln
        obtain ⟨b, hb⟩ : ∃ b, decide (SameForm cs es) = b := ⟨_, rfl⟩
        refine ask_same11r ((same_mul g0 LN.ok LO.ok).trans hb) (SqL.of (e22 _ _ h5')) (c5'.same e22) (mul_okL g0 LN.ok) (by rw [List.length_map]; omega) (SqL.of h6) c6 (mul_okL g0 LO.ok) (by rw [List.length_map]; omega) fun H23 e23 => ?_
        refine ⟨_, rfl, _, rfl, ask_same11r hb (SqL.of (e23 _ _ LN.hl)) (LN.hc.same e23) LN.ok (by omega) (SqL.of (e23 _ _ LO.hl)) (LO.hc.same e23) LO.ok (by omega) fun H24 e24 => ?_⟩
        refine ⟨rfl, false, by simp, iteF ?_⟩
        have e2024 := ((e21.trans e22).trans e23).trans e24
        exact ⟨_, _, _, rfl, ((kp17'.trans (Keep.of (e18.trans e19))).trans kp20).trans (Keep.of e2024), (R20.same e2024).more (by omega)⟩
      obtain ⟨w6, w7, w8, rfl, kp12, R12⟩ := h
      replace R12 : Rng H12 a (300000 * i + 1000 + 30000 * 5) := R12
      refine ⟨_, rfl, _, rfl, a, _, 9, size, rfl, R12, by omega, by decide, by decide, z0, z1, fun H13 fw yf cf kp13 R13 nf hf hcf okf smf lnf => ?_⟩
      have LF : Cm11 K H13 a fw yf cf 2 9 := ⟨hf, R12.off nf, hcf, small_near okf smf, by omega⟩
      refine ⟨_, rfl, fw, _, rfl, .inl (SqL.of hf), fun mo nmo => ?_⟩
      have e14 := new_same (o := HO.lst yf) nmo
      have LM : Cm11 K (upd H13 mo (.lst yf)) a mo yf cf 2 9 := ⟨upd_same, R13.off nmo, LF.hc.same e14, LF.nc, LF.ln⟩
      have fm : fw ≠ mo := ne_of_none LF.hl nmo
      have R14 := R13.same e14
      replace LF := LF.same e14
      clear e14
      generalize upd H13 mo (.lst yf) = H14 at LM R14 LF ⊢
      refine ⟨(by show 2 ≤ sizeLine; decide), fun t1 n1 => ?_⟩
      have e15 := new_same (o := HO.tup [.str "right", .int 1]) n1
      have h1 : (upd H14 t1 (.tup [.str "right", .int 1])) t1 = some (.tup (encC (.right 1))) := upd_same
      replace R14 := R14.same e15
      replace LF := LF.same e15
      replace LM := LM.same e15
      clear e15
      generalize upd H14 t1 (.tup [.str "right", .int 1]) = H15 at LM R14 LF h1 ⊢
      refine ⟨(by show 1 ≤ sizeLine; decide), fun t2 n2 => ?_⟩
      have e16 := new_same (o := HO.tup [.str "home"]) n2
      have h2 : (upd H15 t2 (.tup [.str "home"])) t2 = some (.tup (encC .home)) := upd_same
      replace R14 := R14.same e16
      replace LF := LF.same e16
      replace LM := LM.same e16
      replace h1 := e16 _ _ h1
      clear e16
      generalize upd H15 t2 (.tup [.str "home"]) = H16 at LM R14 LF h1 h2 ⊢
      refine ⟨(by show 2 ≤ sizeLine; decide), fun t3 n3 => ?_⟩
      have e17 := new_same (o := HO.tup [.str "down", .int 1]) n3
      have h3 : (upd H16 t3 (.tup [.str "down", .int 1])) t3 = some (.tup (encC (.down 1))) := upd_same
      replace R14 := R14.same e17
      replace LF := LF.same e17
      replace LM := LM.same e17
      replace h1 := e17 _ _ h1
      replace h2 := e17 _ _ h2
      clear e17
      generalize upd H16 t3 (.tup [.str "down", .int 1]) = H17 at LM R14 LF h1 h2 h3 ⊢
      refine ⟨(by show 1 ≤ sizeLine; decide), fun t4 n4 => ?_⟩
      have e18 := new_same (o := HO.tup [.str "end"]) n4
      have h4 : (upd H17 t4 (.tup [.str "end"])) t4 = some (.tup (encC .stop)) := upd_same
      replace R14 := R14.same e18
      replace LF := LF.same e18
      replace LM := LM.same e18
      replace h1 := e18 _ _ h1
      replace h2 := e18 _ _ h2
      replace h3 := e18 _ _ h3
      clear e18
      generalize upd H17 t4 (.tup [.str "end"]) = H18 at LM R14 LF h1 h2 h3 h4 ⊢
      refine ⟨(by show 4 ≤ sizeLine; decide), fun lp nlp => ?_⟩
      have lpa := R14.off nlp
      have fl : fw ≠ lp := ne_of_none LF.hl nlp
      have ml : mo ≠ lp := ne_of_none LM.hl nlp
      have e19 := new_same (o := HO.lst [V.ref t1, .ref t2, .ref t3, .ref t4]) nlp
      have hlp : (upd H18 lp (.lst [V.ref t1, .ref t2, .ref t3, .ref t4])) lp = some (.lst [V.ref t1, .ref t2, .ref t3, .ref t4]) := upd_same
      replace R14 := R14.same e19
      replace LF := LF.same e19
      replace LM := LM.same e19
      have steps : ∀ (j : Nat) (x : V), [V.ref t1, .ref t2, .ref t3, .ref t4][j]? = some x → ∃ tx c, x = .ref tx ∧ (upd H18 lp (.lst [V.ref t1, .ref t2, .ref t3, .ref t4])) tx = some (.tup (encC c)) ∧ NearC 2 c := fun j x hx => by
        match j, hx with
        | 0, hx => cases hx; exact ⟨_, _, rfl, e19 _ _ h1, ⟨by show (1 : Int) ≤ 1; decide, by show (1 : Int) ≤ 10 ^ 30; decide, by decide⟩⟩
        | 1, hx => cases hx; exact ⟨_, _, rfl, e19 _ _ h2, ⟨trivial, by show (0 : Int) ≤ 10 ^ 30; decide, by decide⟩⟩
        | 2, hx => cases hx; exact ⟨_, _, rfl, e19 _ _ h3, ⟨by show (1 : Int) ≤ 1; decide, by show (1 : Int) ≤ 10 ^ 30; decide, by decide⟩⟩
        | 3, hx => cases hx; exact ⟨_, _, rfl, e19 _ _ h4, ⟨trivial, by show (0 : Int) ≤ 10 ^ 30; decide, by decide⟩⟩
        | j + 4, hx => cases hx
      clear e19
      generalize upd H18 lp (.lst [V.ref t1, .ref t2, .ref t3, .ref t4]) = H19 at LM R14 LF hlp steps ⊢
      -- the tuples stay where lists are written
      refine ⟨lp, rfl, ⟨_, SqL.of hlp⟩, for_list (K := K) (a := lp) (xs := [V.ref t1, .ref t2, .ref t3, .ref t4]) (fun j σ H' => ∃ (w11 : Option V) (yf ym : List V) (cf cm : List Cmd), σ = [some (.ref a0), some (.ref a), some (.int (0 + (i : Int))), some (.ref l), some (.int size), some (.ref sm), w6, w7, w8, some (.ref fw), some (.ref mo), w11] ∧ Rng H' a (300000 * i + 151500 + 21000 * j) ∧ Cm11 K H' a fw yf cf 2 (9 + j) ∧ Cm11 K H' a mo ym cm 2 (9 + j) ∧ H' lp = some (.lst [V.ref t1, .ref t2, .ref t3, .ref t4]) ∧
          ∀ tx c, H19 tx = some (.tup (encC c)) → H' tx = some (.tup (encC c)))
        ⟨_, yf, yf, cf, cf, rfl, R14.more (by omega), LF, LM, hlp, fun _ _ z => z⟩ (fun j σ H' _ h => by obtain ⟨_, _, _, _, _, _, _, _, _, z, _⟩ := h; exact SqL.of z) (fun j x σ H20 hx h => ?_) (fun σ H20 h => ?_)⟩
      · obtain ⟨w11, yf, ym, cf, cm, rfl, R20, LF, LM, hlp, tps⟩ := h
        have hj : j < 4 := (List.getElem?_eq_some_iff.mp hx).1
        obtain ⟨tx, c, rfl, htx, ncx⟩ := steps j x hx
        have htx20 := tps _ _ htx
        refine ⟨_, rfl, _, rfl, _, rfl, ask_pair R20 (by omega) (LF.lst (by omega) (by omega)) (LM.lst (by omega) (by omega)) fun H21 kp21 R21 => ⟨_, rfl, iteF ?_⟩⟩
        replace LF := LF.keep R20 kp21
        replace LM := LM.keep R20 kp21
        have ntl : ∀ {tz : Addr} {os : List V} {Hz : Hp} {N : Nat}, Hz tz = some (.tup os) → Rng Hz a N → tz ≠ a := fun hz R => by
          obtain ⟨_, _, _, z, _⟩ := R
          exact ne_of hz z (by intro y; cases y)
        have hlp21 := kp21 _ _ lpa lpa hlp
        have tps21 : ∀ tx c, H19 tx = some (.tup (encC c)) → H21 tx = some (.tup (encC c)) := fun tx c z => kp21 _ _ (ntl (tps _ _ z) R20) (ntl (tps _ _ z) R20) (tps _ _ z)
        refine ⟨_, rfl, _, rfl, (by show 2 ≤ sizeLine; decide), fun q nq => ?_⟩
        have qa := R21.off nq
        have e22 := new_same (o := HO.lst [V.ref fw, .ref mo]) nq
        have hq22 : (upd H21 q (.lst [V.ref fw, .ref mo])) q = some (.lst [V.ref fw, .ref mo]) := upd_same
        have R22 := R21.same e22
        replace LF := LF.same e22
        replace LM := LM.same e22
        have hlp22 := e22 _ _ hlp21
        have tps22 : ∀ tx c, H19 tx = some (.tup (encC c)) → (upd H21 q (.lst [V.ref fw, .ref mo])) tx = some (.tup (encC c)) := fun tx c z => e22 _ _ (tps21 tx c z)
        clear e22
        generalize upd H21 q (.lst [V.ref fw, .ref mo]) = H22 at hq22 R22 LF LM hlp22 tps22 ⊢
        refine ⟨_, rfl, a, _, 2, rfl, R22, by omega, by decide, by decide, fun H23 d23 kp23 R23 d230 d231 => ?_⟩
        replace LF := LF.keep R22 kp23
        replace LM := LM.keep R22 kp23
        have hlp23 := kp23 _ _ lpa lpa hlp22
        have hq23 := kp23 _ _ qa qa hq22
        have tps23 : ∀ tx c, H19 tx = some (.tup (encC c)) → H23 tx = some (.tup (encC c)) := fun tx c z => kp23 _ _ (ntl (tps22 _ _ z) R22) (ntl (tps22 _ _ z) R22) (tps22 _ _ z)
        have lfn := LF.ln
        have lfy := LF.hc.len
        rcases (show d23 = 0 ∨ d23 = 1 by omega) with rfl | rfl
        · refine ⟨q, _, _, .ref fw, rfl, rfl, SqL.of hq23, rfl, .inl ⟨rfl, _, SqL.of LF.hl⟩, ?_⟩
          refine ⟨_, rfl, _, rfl, fw, _, rfl, .inl (SqL.of LF.hl), _, _, rfl, rfl, a, _, _, rfl, R23, by omega, by omega, log9 (a := 20) (by omega) (by decide), fun H24 p24 kp24 R24 p0 p1 => ?_⟩
          replace LF := LF.keep R23 kp24
          replace LM := LM.keep R23 kp24
          have hlp24 := kp24 _ _ lpa lpa hlp23
          have tps24 : ∀ tx c, H19 tx = some (.tup (encC c)) → H24 tx = some (.tup (encC c)) := fun tx c z => kp24 _ _ (ntl (tps23 _ _ z) R23) (ntl (tps23 _ _ z) R23) (tps23 _ _ z)
          have lz := LF.hc.len
          have lzn := LF.ln
          refine ⟨_, rfl, fw, _, p24, .ref tx, rfl, rfl, LF.hl, lt_line (by omega), p0, by omega, ?_⟩
          have N1 := ins11 LF (tps24 _ _ htx) ncx p24.toNat
          have N2 := other11 (zs := yf.take p24.toNat ++ [.ref tx] ++ yf.drop p24.toNat) LM LF.hl fm.symm
          exact ⟨_, _, _, _, _, rfl, (rng_updN R24 LF.lr).more (by omega), N1.up (Nat.le_refl _) (by omega), N2.up (Nat.le_refl _) (by omega), by rw [upd_ne fl.symm]; exact hlp24, fun tz cz z => by rw [upd_ne (ne_of (tps24 _ _ z) LF.hl (by intro y; cases y))]; exact tps24 _ _ z⟩
        · refine ⟨q, _, _, .ref mo, rfl, rfl, SqL.of hq23, rfl, .inl ⟨rfl, _, SqL.of LM.hl⟩, ?_⟩
          refine ⟨_, rfl, _, rfl, fw, _, rfl, .inl (SqL.of LF.hl), _, _, rfl, rfl, a, _, _, rfl, R23, by omega, by omega, log9 (a := 20) (by omega) (by decide), fun H24 p24 kp24 R24 p0 p1 => ?_⟩
          replace LF := LF.keep R23 kp24
          replace LM := LM.keep R23 kp24
          have hlp24 := kp24 _ _ lpa lpa hlp23
          have tps24 : ∀ tx c, H19 tx = some (.tup (encC c)) → H24 tx = some (.tup (encC c)) := fun tx c z => kp24 _ _ (ntl (tps23 _ _ z) R23) (ntl (tps23 _ _ z) R23) (tps23 _ _ z)
          have lz := LM.hc.len
          have lzn := LM.ln
          refine ⟨_, rfl, mo, _, p24, .ref tx, rfl, rfl, LM.hl, lt_line (by omega), p0, by omega, ?_⟩
          have N1 := ins11 LM (tps24 _ _ htx) ncx p24.toNat
          have N2 := other11 (zs := ym.take p24.toNat ++ [.ref tx] ++ ym.drop p24.toNat) LF LM.hl fm
          exact ⟨_, _, _, _, _, rfl, (rng_updN R24 LM.lr).more (by omega), N2.up (Nat.le_refl _) (by omega), N1.up (Nat.le_refl _) (by omega), by rw [upd_ne ml.symm]; exact hlp24, fun tz cz z => by rw [upd_ne (ne_of (tps24 _ _ z) LM.hl (by intro y; cases y))]; exact tps24 _ _ z⟩
      obtain ⟨w11, yf, ym, cf, cm, rfl, R20, LF, LM, hlp, tps⟩ := h
      replace R20 : Rng H20 a (300000 * i + 151500 + 21000 * 4) := R20
      refine ⟨_, rfl, a, _, 4, 2, rfl, R20, by omega, by decide, by decide, by decide, by decide, fun H21 f2 y2' c2' kp21 R21 nf2 hf2 hcf2 okf2 smf2 lnf2 => ?_⟩
      have LG : Cm11 K H21 a f2 y2' c2' 2 20 := ⟨hf2, R20.off nf2, hcf2, small_near okf2 smf2, by omega⟩
      refine ⟨_, rfl, _, rfl, _, rfl, _, rfl, ask_near R21 (by omega) LG (by decide) (by decide) fun H22 p6 y6 c6 kp22 R22 n6 L6 => ?_⟩
      replace LG := LG.keep R21 kp22
      refine ask_pair R22 (by omega) (LG.lst (by decide) (by decide)) (L6.lst (by decide) (by decide)) fun H23 kp23 R23 => ⟨_, rfl, iteF ?_⟩
      exact ⟨_, _, _, _, _, _, _, _, _, _, rfl, R23.more (by omega)⟩
    · obtain ⟨v2, v3, v4, v5, v6, v7, v8, v9, v10, v11, rfl, R2⟩ := h
      replace R2 : Rng H2 a 30000000 := R2.more (by rw [List.length_map]; omega)
      refine ⟨_, rfl, a, _, 9, 10, 40, rfl, R2, by omega, by decide, by decide, by decide, by decide, by decide, fun H3 p xs cs kp3 R3 pa hp hc ok sm ln => ?_⟩
      have L : Cm11 K H3 a p xs cs 2 100 := ⟨hp, pa, hc, small_near ok sm, by have ln' : (cs.length : Int) ≤ 9 * 10 := ln; omega⟩
      have ln90 : cs.length ≤ 90 := by
        have ln' : (cs.length : Int) ≤ 9 * 10 := ln
        omega
      refine ⟨_, rfl, _, rfl, _, rfl, p, _, rfl, SqL.of hp, fun q nq => ?_⟩
      have qa := R3.off nq
      rw [cut_init]
      have e4 := new_same (o := HO.lst (xs.take (xs.length - 1))) nq
      have hq4 : (upd H3 q (.lst (xs.take (xs.length - 1)))) q = some (.lst (xs.take (xs.length - 1))) := upd_same
      have R4 := R3.same e4
      replace L := L.same e4
      clear e4
      generalize upd H3 q (.lst (xs.take (xs.length - 1))) = H4 at hq4 R4 L ⊢
      refine ⟨_, rfl, a, _, 2, 40, rfl, R4, by omega, by decide, by decide, by decide, by decide, fun H5 l5 x5 c5 kp5 R5 nl5 hl5 hc5 ok5 sm5 ln5 => ?_⟩
      replace L := L.keep R4 kp5
      have hq5 := kp5 _ _ qa qa hq4
      have lx := L.hc.len
      have lx5 := hc5.len
      refine ⟨q, l5, _, _, rfl, rfl, hq5, hl5, (Nat.le_trans (show _ ≤ 100 by rw [List.length_take]; omega) (by decide)), fun q2 nq2 => ?_⟩
      have e6 := new_same (o := HO.lst (xs.take (xs.length - 1) ++ x5)) nq2
      have R6 := R5.same e6
      have hds : CmdsOf K (upd H5 q2 (.lst (xs.take (xs.length - 1) ++ x5))) (xs.take (xs.length - 1) ++ x5) (cs.take (xs.length - 1) ++ c5) := paired_cat (paired_take _ (L.hc.same e6)) (hc5.same e6)
      replace L := L.same e6
      have okd : AllOk (cs.take (xs.length - 1) ++ c5) := fun c h => by
        rcases List.mem_append.mp h with z | z
        · exact ok c (mem_take' z)
        · exact ok5 c z
      have smd : AllSmall (cs.take (xs.length - 1) ++ c5) := fun c h => by
        rcases List.mem_append.mp h with z | z
        · exact sm c (mem_take' z)
        · exact sm5 c z
      have lnd : (cs.take (xs.length - 1) ++ c5).length ≤ 100 := by
        rw [List.length_append, List.length_take]
        omega
      have q6 : (upd H5 q2 (.lst (xs.take (xs.length - 1) ++ x5))) q2 = some (.lst (xs.take (xs.length - 1) ++ x5)) := upd_same
      clear e6
      generalize upd H5 q2 (.lst (xs.take (xs.length - 1) ++ x5)) = H6 at R6 hds L q6 ⊢
      generalize cs.take (xs.length - 1) ++ c5 = ds at hds okd smd lnd
      refine ⟨q2, _, ds, rfl, SqL.of q6, hds, okd, small_num smd, by omega, fun H7 e7 => ?_⟩
      refine ⟨ds, rfl, okd, small_num smd, by omega, fun H8 p8 x8 e8 np8 hp8 hc8 => ?_⟩
      have R8 := (R6.same e7).same e8
      replace L := (L.same e7).same e8
      have M : Cm11 K H8 a p8 x8 ds 2 100 := ⟨hp8, (R6.same e7).off np8, hc8, small_near okd smd, lnd⟩
      refine ⟨_, rfl, _, rfl, ask_same11r (b := true) (decide_eq_true ⟨rfl, rfl⟩) (SqL.of L.hl) L.hc L.ok (by omega) (SqL.of L.hl) L.hc L.ok (by omega) fun H9 e9 => ⟨_, rfl, iteF ?_⟩⟩
      have R9 := R8.same e9
      refine ⟨_, rfl, _, rfl, _, rfl, ask_pair R9 (by omega) ((L.same e9).lst (by decide) (by decide)) ((M.same e9).lst (by decide) (by decide)) fun H10 kp10 R10 => ⟨_, rfl, iteF ?_⟩⟩
      refine ⟨_, rfl, ?_⟩
      refine ⟨(by show 2 ≤ sizeLine; decide), fun t1 n_t1 => ?_⟩
      have e_t1 := new_same (o := HO.tup [.str "down", .int 199]) n_t1
      have h_t1 : (upd H10 t1 (.tup [.str "down", .int 199])) t1 = some (.tup (encC (.down 199))) := upd_same
      have a_t1 := R10.off n_t1
      replace R10 := R10.same e_t1
      clear e_t1
      generalize upd H10 t1 (.tup [.str "down", .int 199]) = K11 at R10  h_t1 ⊢
      refine ⟨(by show 2 ≤ sizeLine; decide), fun t2 n_t2 => ?_⟩
      have e_t2 := new_same (o := HO.tup [.str "left", .int 1]) n_t2
      have h_t2 : (upd K11 t2 (.tup [.str "left", .int 1])) t2 = some (.tup (encC (.left 1))) := upd_same
      have a_t2 := R10.off n_t2
      replace R10 := R10.same e_t2
      replace h_t1 := e_t2 _ _ h_t1
      clear e_t2
      generalize upd K11 t2 (.tup [.str "left", .int 1]) = K12 at R10 h_t1 h_t2 ⊢
      refine ⟨(by show 2 ≤ sizeLine; decide), fun t3 n_t3 => ?_⟩
      have e_t3 := new_same (o := HO.tup [.str "up", .int 5]) n_t3
      have h_t3 : (upd K12 t3 (.tup [.str "up", .int 5])) t3 = some (.tup (encC (.up 5))) := upd_same
      have a_t3 := R10.off n_t3
      replace R10 := R10.same e_t3
      replace h_t1 := e_t3 _ _ h_t1
      replace h_t2 := e_t3 _ _ h_t2
      clear e_t3
      generalize upd K12 t3 (.tup [.str "up", .int 5]) = K13 at R10 h_t1 h_t2 h_t3 ⊢
      refine ⟨(by show 3 ≤ sizeLine; decide), fun la n_la => ?_⟩
      have e_la := new_same (o := HO.lst [V.ref t1, .ref t2, .ref t3]) n_la
      have h_la : (upd K13 la (.lst [V.ref t1, .ref t2, .ref t3])) la = some (.lst [V.ref t1, .ref t2, .ref t3]) := upd_same
      have a_la := R10.off n_la
      replace R10 := R10.same e_la
      replace h_t1 := e_la _ _ h_t1
      replace h_t2 := e_la _ _ h_t2
      replace h_t3 := e_la _ _ h_t3
      clear e_la
      generalize upd K13 la (.lst [V.ref t1, .ref t2, .ref t3]) = K14 at R10 h_t1 h_t2 h_t3 h_la ⊢
      refine ⟨(by show 2 ≤ sizeLine; decide), fun t4 n_t4 => ?_⟩
      have e_t4 := new_same (o := HO.tup [.str "down", .int 199]) n_t4
      have h_t4 : (upd K14 t4 (.tup [.str "down", .int 199])) t4 = some (.tup (encC (.down 199))) := upd_same
      have a_t4 := R10.off n_t4
      replace R10 := R10.same e_t4
      replace h_t1 := e_t4 _ _ h_t1
      replace h_t2 := e_t4 _ _ h_t2
      replace h_t3 := e_t4 _ _ h_t3
      replace h_la := e_t4 _ _ h_la
      clear e_t4
      generalize upd K14 t4 (.tup [.str "down", .int 199]) = K15 at R10 h_t1 h_t2 h_t3 h_la h_t4 ⊢
      refine ⟨(by show 2 ≤ sizeLine; decide), fun t5 n_t5 => ?_⟩
      have e_t5 := new_same (o := HO.tup [.str "left", .int 2]) n_t5
      have h_t5 : (upd K15 t5 (.tup [.str "left", .int 2])) t5 = some (.tup (encC (.left 2))) := upd_same
      have a_t5 := R10.off n_t5
      replace R10 := R10.same e_t5
      replace h_t1 := e_t5 _ _ h_t1
      replace h_t2 := e_t5 _ _ h_t2
      replace h_t3 := e_t5 _ _ h_t3
      replace h_la := e_t5 _ _ h_la
      replace h_t4 := e_t5 _ _ h_t4
      clear e_t5
      generalize upd K15 t5 (.tup [.str "left", .int 2]) = K16 at R10 h_t1 h_t2 h_t3 h_la h_t4 h_t5 ⊢
      refine ⟨(by show 2 ≤ sizeLine; decide), fun t6 n_t6 => ?_⟩
      have e_t6 := new_same (o := HO.tup [.str "up", .int 5]) n_t6
      have h_t6 : (upd K16 t6 (.tup [.str "up", .int 5])) t6 = some (.tup (encC (.up 5))) := upd_same
      have a_t6 := R10.off n_t6
      replace R10 := R10.same e_t6
      replace h_t1 := e_t6 _ _ h_t1
      replace h_t2 := e_t6 _ _ h_t2
      replace h_t3 := e_t6 _ _ h_t3
      replace h_la := e_t6 _ _ h_la
      replace h_t4 := e_t6 _ _ h_t4
      replace h_t5 := e_t6 _ _ h_t5
      clear e_t6
      generalize upd K16 t6 (.tup [.str "up", .int 5]) = K17 at R10 h_t1 h_t2 h_t3 h_la h_t4 h_t5 h_t6 ⊢
      refine ⟨(by show 3 ≤ sizeLine; decide), fun lb n_lb => ?_⟩
      have e_lb := new_same (o := HO.lst [V.ref t4, .ref t5, .ref t6]) n_lb
      have h_lb : (upd K17 lb (.lst [V.ref t4, .ref t5, .ref t6])) lb = some (.lst [V.ref t4, .ref t5, .ref t6]) := upd_same
      have a_lb := R10.off n_lb
      replace R10 := R10.same e_lb
      replace h_t1 := e_lb _ _ h_t1
      replace h_t2 := e_lb _ _ h_t2
      replace h_t3 := e_lb _ _ h_t3
      replace h_la := e_lb _ _ h_la
      replace h_t4 := e_lb _ _ h_t4
      replace h_t5 := e_lb _ _ h_t5
      replace h_t6 := e_lb _ _ h_t6
      clear e_lb
      generalize upd K17 lb (.lst [V.ref t4, .ref t5, .ref t6]) = K18 at R10 h_t1 h_t2 h_t3 h_la h_t4 h_t5 h_t6 h_lb ⊢
      have LA : Lst11 K K18 a la _ [.down 199, .left 1, .up 5] := ⟨h_la, a_la, .cons ⟨t1, rfl, SqT.of h_t1⟩ (.cons ⟨t2, rfl, SqT.of h_t2⟩ (.cons ⟨t3, rfl, SqT.of h_t3⟩ .nil)), three_ok 1 (by decide), three_num 1 (by decide), by decide, by decide⟩
      have LB : Lst11 K K18 a lb _ [.down 199, .left 2, .up 5] := ⟨h_lb, a_lb, .cons ⟨t4, rfl, SqT.of h_t4⟩ (.cons ⟨t5, rfl, SqT.of h_t5⟩ (.cons ⟨t6, rfl, SqT.of h_t6⟩ .nil)), three_ok 2 (by decide), three_num 2 (by decide), by decide, by decide⟩
      refine ask_pair R10 (by omega) LA LB fun K20 kp20 R20 => ⟨_, rfl, iteF ?_⟩
      clear R10 LA LB h_t1 h_t2 h_t3 h_la h_t4 h_t5 h_t6 h_lb
      refine ⟨(by show 0 ≤ sizeLine; decide), fun u1 nu1 => ?_⟩
      have e21 := new_same (o := HO.lst []) nu1
      have h21 : (upd K20 u1 (.lst [])) u1 = some (.lst []) := upd_same
      have a21 := R20.off nu1
      have R21 := R20.same e21
      generalize upd K20 u1 (.lst []) = K21 at R21 h21 ⊢
      refine ⟨(by show 0 ≤ sizeLine; decide), fun u2 nu2 => ?_⟩
      have e22 := new_same (o := HO.lst []) nu2
      have h22 : (upd K21 u2 (.lst [])) u2 = some (.lst []) := upd_same
      have a22 := R21.off nu2
      have R22 := R21.same e22
      replace h21 := e22 _ _ h21
      generalize upd K21 u2 (.lst []) = K22 at R22 h21 h22 ⊢
      have E1 : Lst11 K K22 a u1 [] [] := ⟨h21, a21, .nil, (fun _ z => nomatch z), (fun _ z => nomatch z), by decide, by decide⟩
      have E2 : Lst11 K K22 a u2 [] [] := ⟨h22, a22, .nil, (fun _ z => nomatch z), (fun _ z => nomatch z), by decide, by decide⟩
      refine ask_part11 E1 E2 fun K23 v23 e23 o23 => ?_
      have z23 := o23.non (b := true) (decide_eq_true ⟨rfl, rfl⟩) E1.ok E2.ok
      refine ⟨rfl, _, rfl, ?_⟩
      rw [z23]
      refine iteT ?_
      have R23 := R22.same e23
      refine ⟨(by show 1 ≤ sizeLine; decide), fun v1 nv1 => ?_⟩
      have f1 := new_same (o := HO.tup [.str "end"]) nv1
      have g1 : (upd K23 v1 (.tup [.str "end"])) v1 = some (.tup (encC .stop)) := upd_same
      have R24 := R23.same f1
      generalize upd K23 v1 (.tup [.str "end"]) = K24 at R24 g1 ⊢
      refine ⟨(by show 1 ≤ sizeLine; decide), fun v2' nv2 => ?_⟩
      have f2 := new_same (o := HO.lst [V.ref v1]) nv2
      have g2 : (upd K24 v2' (.lst [V.ref v1])) v2' = some (.lst [V.ref v1]) := upd_same
      have b2 := R24.off nv2
      have R25 := R24.same f2
      replace g1 := f2 _ _ g1
      generalize upd K24 v2' (.lst [V.ref v1]) = K25 at R25 g1 g2 ⊢
      refine ⟨_, _, rfl, rfl, cpow (by decide), _, _, rfl, rfl, (by show 2 ≤ sizeLine; decide), fun v3' nv3 => ?_⟩
      have f3 := new_same (o := HO.tup [.str "right", .int (10 ^ (30 : Int).toNat - 1)]) nv3
      have g3 : (upd K25 v3' (.tup [.str "right", .int (10 ^ (30 : Int).toNat - 1)])) v3' = some (.tup (encC (.right (10 ^ 30 - 1)))) := upd_same
      have R26 := R25.same f3
      replace g1 := f3 _ _ g1
      replace g2 := f3 _ _ g2
      generalize upd K25 v3' (.tup [.str "right", .int (10 ^ (30 : Int).toNat - 1)]) = K26 at R26 g1 g2 g3 ⊢
      refine ⟨(by show 1 ≤ sizeLine; decide), fun v4' nv4 => ?_⟩
      have f4 := new_same (o := HO.lst [V.ref v3']) nv4
      have g4 : (upd K26 v4' (.lst [V.ref v3'])) v4' = some (.lst [V.ref v3']) := upd_same
      have b4 := R26.off nv4
      have R27 := R26.same f4
      replace g1 := f4 _ _ g1
      replace g2 := f4 _ _ g2
      replace g3 := f4 _ _ g3
      generalize upd K26 v4' (.lst [V.ref v3']) = K27 at R27 g1 g2 g3 g4 ⊢
      have one : ∀ {c d : Cmd}, d ∈ [c] → d = c := fun h => by simpa using h
      have S1 : Lst11 K K27 a v2' _ [.stop] := ⟨g2, b2, .cons ⟨v1, rfl, SqT.of g1⟩ .nil, (fun c h => by rw [one h]; trivial), (fun c h => by rw [one h]; show (0 : Int) ≤ 10 ^ 30; decide), by decide, by decide⟩
      have S2 : Lst11 K K27 a v4' _ [.right (10 ^ 30 - 1)] := ⟨g4, b4, .cons ⟨v3', rfl, SqT.of g3⟩ .nil, (fun c h => by rw [one h]; show (1 : Int) ≤ 10 ^ 30 - 1; decide), (fun c h => by rw [one h]; show (10 : Int) ^ 30 - 1 ≤ 10 ^ 30; decide), by decide, by decide⟩
      have ns : ¬ SameForm [.stop] [.right (10 ^ 30 - 1)] := fun h => by
        have z := same_after S1.ok S2.ok h (T := [10 ^ 30]) (r := 0) (a := some 0) (fun x hx => by rw [List.mem_singleton.mp hx]; decide) (by decide) (by decide) (ge_some.mpr (Int.le_refl 0))
        exact absurd z (by decide +kernel)
      refine ask_part11 S1 S2 fun K28 v28 e28 o28 => ?_
      have z28 := o28.non (b := false) (decide_eq_false ns) S1.ok S2.ok
      refine ⟨rfl, ?_⟩
      rw [z28]
      exact k _
end
end Gc

namespace Gc
open PySem L2
theorem two_cases {us ws : List Value} (h : (gRev us ws).length = 2) : (∃ a b, us = [] ∧ ws = [a, b]) ∨ (∃ a b, us = [a] ∧ ws = [b]) ∨ ∃ a b, us = [a, b] ∧ ws = [] := by
  have h' : us.length + ws.length = 2 := by
    unfold gRev at h
    rw [List.length_append, List.length_reverse] at h
    exact h
  match us, ws, h' with
  | [], [], h => exact absurd h (by decide)
  | [], [_], h => exact absurd h (show ¬ (0 + 1 = 2) by decide)
  | [], [a, b], _ => exact .inl ⟨a, b, rfl, rfl⟩
  | [], _ :: _ :: _ :: _, h => simp only [List.length_cons, List.length_nil] at h; omega
  | [_], [], h => exact absurd h (show ¬ (1 + 0 = 2) by decide)
  | [a], [b], _ => exact .inr (.inl ⟨a, b, rfl, rfl⟩)
  | [_], _ :: _ :: _, h => simp only [List.length_cons, List.length_nil] at h; omega
  | [a, b], [], _ => exact .inr (.inr ⟨a, b, rfl, rfl⟩)
  | [_, _], _ :: _, h => simp only [List.length_cons, List.length_nil] at h; omega
  | _ :: _ :: _ :: _, _, h => simp only [List.length_cons] at h; omega
theorem all_mk {l : PySem.W.OpenLaw} {w : World} {K : PySem.W.Frag} {h : Heap} {mg : Str → Option Value} {fa : Addr} (X : K.In h) (G : h.Ns mainGlobals mg) (hfa : mg "law" = some (.ref fa))
    {wn wo : Addr} {odN odO : Option Addr} {nN nO : Nat} {slN slO : Array (Option Value)} {tn0 tn1 tn2 tn3 to0 to1 : Tok}
    {f_is_count : Addr} {oc_is_count kV_is_count dc_is_count pm_is_count cd_is_count ct_is_count : Value} {od_is_count an_is_count : Option Addr} {sl_is_count : Array (Option Value)}
    {f_is_command : Addr} {oc_is_command kV_is_command dc_is_command pm_is_command cd_is_command ct_is_command : Value} {od_is_command an_is_command : Option Addr} {sl_is_command : Array (Option Value)}
    {f_check_commands : Addr} {oc_check_commands kV_check_commands dc_check_commands pm_check_commands cd_check_commands ct_check_commands : Value} {od_check_commands an_check_commands : Option Addr} {sl_check_commands : Array (Option Value)}
    {f_check_number : Addr} {oc_check_number kV_check_number dc_check_number pm_check_number cd_check_number ct_check_number : Value} {od_check_number an_check_number : Option Addr} {sl_check_number : Array (Option Value)}
    {f_row_change : Addr} {oc_row_change kV_row_change dc_row_change pm_row_change cd_row_change ct_row_change : Value} {od_row_change an_row_change : Option Addr} {sl_row_change : Array (Option Value)}
    {f_reach : Addr} {oc_reach kV_reach dc_reach pm_reach cd_reach ct_reach : Value} {od_reach an_reach : Option Addr} {sl_reach : Array (Option Value)}
    {f_require : Addr} {oc_require kV_require dc_require pm_require cd_require ct_require : Value} {od_require an_require : Option Addr} {sl_require : Array (Option Value)}
    {f_box : Addr} {oc_box kV_box dc_box pm_box cd_box ct_box : Value} {od_box an_box : Option Addr} {sl_box : Array (Option Value)}
    {f_least_text : Addr} {oc_least_text kV_least_text dc_least_text pm_least_text cd_least_text ct_least_text : Value} {od_least_text an_least_text : Option Addr} {sl_least_text : Array (Option Value)}
    {f_add_piece : Addr} {oc_add_piece kV_add_piece dc_add_piece pm_add_piece cd_add_piece ct_add_piece : Value} {od_add_piece an_add_piece : Option Addr} {sl_add_piece : Array (Option Value)}
    {f_pieces : Addr} {oc_pieces kV_pieces dc_pieces pm_pieces cd_pieces ct_pieces : Value} {od_pieces an_pieces : Option Addr} {sl_pieces : Array (Option Value)}
    {f_form : Addr} {oc_form kV_form dc_form pm_form cd_form ct_form : Value} {od_form an_form : Option Addr} {sl_form : Array (Option Value)}
    {f_same_effect : Addr} {oc_same_effect kV_same_effect dc_same_effect pm_same_effect cd_same_effect ct_same_effect : Value} {od_same_effect an_same_effect : Option Addr} {sl_same_effect : Array (Option Value)}
    {f_parting : Addr} {oc_parting kV_parting dc_parting pm_parting cd_parting ct_parting : Value} {od_parting an_parting : Option Addr} {sl_parting : Array (Option Value)}
    {f_parting_of_reaches : Addr} {oc_parting_of_reaches kV_parting_of_reaches dc_parting_of_reaches pm_parting_of_reaches cd_parting_of_reaches ct_parting_of_reaches : Value} {od_parting_of_reaches an_parting_of_reaches : Option Addr} {sl_parting_of_reaches : Array (Option Value)}
    {f_rows_between : Addr} {oc_rows_between kV_rows_between dc_rows_between pm_rows_between cd_rows_between ct_rows_between : Value} {od_rows_between an_rows_between : Option Addr} {sl_rows_between : Array (Option Value)}
    {f_differing_goal : Addr} {oc_differing_goal kV_differing_goal dc_differing_goal pm_differing_goal cd_differing_goal ct_differing_goal : Value} {od_differing_goal an_differing_goal : Option Addr} {sl_differing_goal : Array (Option Value)}
    {f_differ : Addr} {oc_differ kV_differ dc_differ pm_differ cd_differ ct_differ : Value} {od_differ an_differ : Option Addr} {sl_differ : Array (Option Value)}
    {f_check_text : Addr} {oc_check_text kV_check_text dc_check_text pm_check_text cd_check_text ct_check_text : Value} {od_check_text an_check_text : Option Addr} {sl_check_text : Array (Option Value)}
    {f_check_cursor : Addr} {oc_check_cursor kV_check_cursor dc_check_cursor pm_check_cursor cd_check_cursor ct_check_cursor : Value} {od_check_cursor an_check_cursor : Option Addr} {sl_check_cursor : Array (Option Value)}
    {f_run : Addr} {oc_run kV_run dc_run pm_run cd_run ct_run : Value} {od_run an_run : Option Addr} {sl_run : Array (Option Value)}
    {f_shown_column : Addr} {oc_shown_column kV_shown_column dc_shown_column pm_shown_column cd_shown_column ct_shown_column : Value} {od_shown_column an_shown_column : Option Addr} {sl_shown_column : Array (Option Value)}
    {f_moved : Addr} {oc_moved kV_moved dc_moved pm_moved cd_moved ct_moved : Value} {od_moved an_moved : Option Addr} {sl_moved : Array (Option Value)}
    {f_new_goal : Addr} {oc_new_goal kV_new_goal dc_new_goal pm_new_goal cd_new_goal ct_new_goal : Value} {od_new_goal an_new_goal : Option Addr} {sl_new_goal : Array (Option Value)}
    {f_is_number : Addr} {oc_is_number kV_is_number dc_is_number pm_is_number cd_is_number ct_is_number : Value} {od_is_number an_is_number : Option Addr} {sl_is_number : Array (Option Value)}
    {f_read_command : Addr} {oc_read_command kV_read_command dc_read_command pm_read_command cd_read_command ct_read_command : Value} {od_read_command an_read_command : Option Addr} {sl_read_command : Array (Option Value)}
    {f_read_commands : Addr} {oc_read_commands kV_read_commands dc_read_commands pm_read_commands cd_read_commands ct_read_commands : Value} {od_read_commands an_read_commands : Option Addr} {sl_read_commands : Array (Option Value)}
    {f_law_rng : Addr} {oc_law_rng kV_law_rng dc_law_rng pm_law_rng cd_law_rng ct_law_rng : Value} {od_law_rng an_law_rng : Option Addr} {sl_law_rng : Array (Option Value)}
    {f_law_draw : Addr} {oc_law_draw kV_law_draw dc_law_draw pm_law_draw cd_law_draw ct_law_draw : Value} {od_law_draw an_law_draw : Option Addr} {sl_law_draw : Array (Option Value)}
    {f_law_list : Addr} {oc_law_list kV_law_list dc_law_list pm_law_list cd_law_list ct_law_list : Value} {od_law_list an_law_list : Option Addr} {sl_law_list : Array (Option Value)}
    {f_law_lots : Addr} {oc_law_lots kV_law_lots dc_law_lots pm_law_lots cd_law_lots ct_law_lots : Value} {od_law_lots an_law_lots : Option Addr} {sl_law_lots : Array (Option Value)}
    {f_law_aim : Addr} {oc_law_aim kV_law_aim dc_law_aim pm_law_aim cd_law_aim ct_law_aim : Value} {od_law_aim an_law_aim : Option Addr} {sl_law_aim : Array (Option Value)}
    {f_law_near : Addr} {oc_law_near kV_law_near dc_law_near pm_law_near cd_law_near ct_law_near : Value} {od_law_near an_law_near : Option Addr} {sl_law_near : Array (Option Value)}
    {f_law_spread : Addr} {oc_law_spread kV_law_spread dc_law_spread pm_law_spread cd_law_spread ct_law_spread : Value} {od_law_spread an_law_spread : Option Addr} {sl_law_spread : Array (Option Value)}
    {f_law_after : Addr} {oc_law_after kV_law_after dc_law_after pm_law_after cd_law_after ct_law_after : Value} {od_law_after an_law_after : Option Addr} {sl_law_after : Array (Option Value)}
    {f_law_text : Addr} {oc_law_text kV_law_text dc_law_text pm_law_text cd_law_text ct_law_text : Value} {od_law_text an_law_text : Option Addr} {sl_law_text : Array (Option Value)}
    {f_law_pair_right : Addr} {oc_law_pair_right kV_law_pair_right dc_law_pair_right pm_law_pair_right cd_law_pair_right ct_law_pair_right : Value} {od_law_pair_right an_law_pair_right : Option Addr} {sl_law_pair_right : Array (Option Value)}
    {f_law_written : Addr} {oc_law_written kV_law_written dc_law_written pm_law_written cd_law_written ct_law_written : Value} {od_law_written an_law_written : Option Addr} {sl_law_written : Array (Option Value)}
    {f_law_read : Addr} {oc_law_read kV_law_read dc_law_read pm_law_read cd_law_read ct_law_read : Value} {od_law_read an_law_read : Option Addr} {sl_law_read : Array (Option Value)}
    {f_law_far : Addr} {oc_law_far kV_law_far dc_law_far pm_law_far cd_law_far ct_law_far : Value} {od_law_far an_law_far : Option Addr} {sl_law_far : Array (Option Value)}
    {f_law : Addr} {oc_law kV_law dc_law pm_law cd_law ct_law : Value} {od_law an_law : Option Addr} {sl_law : Array (Option Value)}
    {na nb : Addr} {nA nB : Nat} {tm t1 t2 u1 u2 s1 s2 s3 s4 r1 r2 r3 r4 : Tok}
    (aWN : PySem.W.nsIn K mainGlobals "WITH_NUMBER" = some (some (.ref wn)))
    (aWO : PySem.W.nsIn K mainGlobals "WITHOUT_NUMBER" = some (some (.ref wo)))
    (lWN : K.lookup wn = some ⟨.type "tuple", odN, .seq #[.str "down" tn0, .str "up" tn1, .str "right" tn2, .str "left" tn3] nN, slN⟩)
    (lWO : K.lookup wo = some ⟨.type "tuple", odO, .seq #[.str "home" to0, .str "end" to1] nO, slO⟩)
    (a_is_count : PySem.W.nsIn K mainGlobals "is_count" = some (some (.ref f_is_count)))
    (l_is_count : K.lookup f_is_count = some ⟨oc_is_count, od_is_count, .func (PySem.W.fnOf "is_count" "is_count" (defArgs s_is_count) (defBody s_is_count) (defScope s_is_count) .none kV_is_count dc_is_count pm_is_count an_is_count cd_is_count ct_is_count), sl_is_count⟩)
    (c_is_count : PySem.W.codeIn K cd_is_count "is_count" = true)
    (k_is_count : PySem.W.keepIn K (.ref f_is_count) = true)
    (a_is_command : PySem.W.nsIn K mainGlobals "is_command" = some (some (.ref f_is_command)))
    (l_is_command : K.lookup f_is_command = some ⟨oc_is_command, od_is_command, .func (PySem.W.fnOf "is_command" "is_command" (defArgs s_is_command) (defBody s_is_command) (defScope s_is_command) .none kV_is_command dc_is_command pm_is_command an_is_command cd_is_command ct_is_command), sl_is_command⟩)
    (c_is_command : PySem.W.codeIn K cd_is_command "is_command" = true)
    (k_is_command : PySem.W.keepIn K (.ref f_is_command) = true)
    (a_check_commands : PySem.W.nsIn K mainGlobals "check_commands" = some (some (.ref f_check_commands)))
    (l_check_commands : K.lookup f_check_commands = some ⟨oc_check_commands, od_check_commands, .func (PySem.W.fnOf "check_commands" "check_commands" (defArgs s_check_commands) (defBody s_check_commands) (defScope s_check_commands) .none kV_check_commands dc_check_commands pm_check_commands an_check_commands cd_check_commands ct_check_commands), sl_check_commands⟩)
    (c_check_commands : PySem.W.codeIn K cd_check_commands "check_commands" = true)
    (k_check_commands : PySem.W.keepIn K (.ref f_check_commands) = true)
    (a_check_number : PySem.W.nsIn K mainGlobals "check_number" = some (some (.ref f_check_number)))
    (l_check_number : K.lookup f_check_number = some ⟨oc_check_number, od_check_number, .func (PySem.W.fnOf "check_number" "check_number" (defArgs s_check_number) (defBody s_check_number) (defScope s_check_number) .none kV_check_number dc_check_number pm_check_number an_check_number cd_check_number ct_check_number), sl_check_number⟩)
    (c_check_number : PySem.W.codeIn K cd_check_number "check_number" = true)
    (k_check_number : PySem.W.keepIn K (.ref f_check_number) = true)
    (a_row_change : PySem.W.nsIn K mainGlobals "row_change" = some (some (.ref f_row_change)))
    (l_row_change : K.lookup f_row_change = some ⟨oc_row_change, od_row_change, .func (PySem.W.fnOf "row_change" "row_change" (defArgs s_row_change) (defBody s_row_change) (defScope s_row_change) .none kV_row_change dc_row_change pm_row_change an_row_change cd_row_change ct_row_change), sl_row_change⟩)
    (c_row_change : PySem.W.codeIn K cd_row_change "row_change" = true)
    (k_row_change : PySem.W.keepIn K (.ref f_row_change) = true)
    (a_reach : PySem.W.nsIn K mainGlobals "reach" = some (some (.ref f_reach)))
    (l_reach : K.lookup f_reach = some ⟨oc_reach, od_reach, .func (PySem.W.fnOf "reach" "reach" (defArgs s_reach) (defBody s_reach) (defScope s_reach) .none kV_reach dc_reach pm_reach an_reach cd_reach ct_reach), sl_reach⟩)
    (c_reach : PySem.W.codeIn K cd_reach "reach" = true)
    (k_reach : PySem.W.keepIn K (.ref f_reach) = true)
    (a_require : PySem.W.nsIn K mainGlobals "require" = some (some (.ref f_require)))
    (l_require : K.lookup f_require = some ⟨oc_require, od_require, .func (PySem.W.fnOf "require" "require" (defArgs s_require) (defBody s_require) (defScope s_require) .none kV_require dc_require pm_require an_require cd_require ct_require), sl_require⟩)
    (c_require : PySem.W.codeIn K cd_require "require" = true)
    (k_require : PySem.W.keepIn K (.ref f_require) = true)
    (a_box : PySem.W.nsIn K mainGlobals "box" = some (some (.ref f_box)))
    (l_box : K.lookup f_box = some ⟨oc_box, od_box, .func (PySem.W.fnOf "box" "box" (defArgs s_box) (defBody s_box) (defScope s_box) .none kV_box dc_box pm_box an_box cd_box ct_box), sl_box⟩)
    (c_box : PySem.W.codeIn K cd_box "box" = true)
    (k_box : PySem.W.keepIn K (.ref f_box) = true)
    (a_least_text : PySem.W.nsIn K mainGlobals "least_text" = some (some (.ref f_least_text)))
    (l_least_text : K.lookup f_least_text = some ⟨oc_least_text, od_least_text, .func (PySem.W.fnOf "least_text" "least_text" (defArgs s_least) (defBody s_least) (defScope s_least) .none kV_least_text dc_least_text pm_least_text an_least_text cd_least_text ct_least_text), sl_least_text⟩)
    (c_least_text : PySem.W.codeIn K cd_least_text "least_text" = true)
    (k_least_text : PySem.W.keepIn K (.ref f_least_text) = true)
    (a_add_piece : PySem.W.nsIn K mainGlobals "add_piece" = some (some (.ref f_add_piece)))
    (l_add_piece : K.lookup f_add_piece = some ⟨oc_add_piece, od_add_piece, .func (PySem.W.fnOf "add_piece" "add_piece" (defArgs s_add_piece) (defBody s_add_piece) (defScope s_add_piece) .none kV_add_piece dc_add_piece pm_add_piece an_add_piece cd_add_piece ct_add_piece), sl_add_piece⟩)
    (c_add_piece : PySem.W.codeIn K cd_add_piece "add_piece" = true)
    (k_add_piece : PySem.W.keepIn K (.ref f_add_piece) = true)
    (a_pieces : PySem.W.nsIn K mainGlobals "pieces" = some (some (.ref f_pieces)))
    (l_pieces : K.lookup f_pieces = some ⟨oc_pieces, od_pieces, .func (PySem.W.fnOf "pieces" "pieces" (defArgs s_pieces) (defBody s_pieces) (defScope s_pieces) .none kV_pieces dc_pieces pm_pieces an_pieces cd_pieces ct_pieces), sl_pieces⟩)
    (c_pieces : PySem.W.codeIn K cd_pieces "pieces" = true)
    (k_pieces : PySem.W.keepIn K (.ref f_pieces) = true)
    (a_form : PySem.W.nsIn K mainGlobals "form" = some (some (.ref f_form)))
    (l_form : K.lookup f_form = some ⟨oc_form, od_form, .func (PySem.W.fnOf "form" "form" (defArgs s_form) (defBody s_form) (defScope s_form) .none kV_form dc_form pm_form an_form cd_form ct_form), sl_form⟩)
    (c_form : PySem.W.codeIn K cd_form "form" = true)
    (k_form : PySem.W.keepIn K (.ref f_form) = true)
    (a_same_effect : PySem.W.nsIn K mainGlobals "same_effect" = some (some (.ref f_same_effect)))
    (l_same_effect : K.lookup f_same_effect = some ⟨oc_same_effect, od_same_effect, .func (PySem.W.fnOf "same_effect" "same_effect" (defArgs s_same_effect) (defBody s_same_effect) (defScope s_same_effect) .none kV_same_effect dc_same_effect pm_same_effect an_same_effect cd_same_effect ct_same_effect), sl_same_effect⟩)
    (c_same_effect : PySem.W.codeIn K cd_same_effect "same_effect" = true)
    (k_same_effect : PySem.W.keepIn K (.ref f_same_effect) = true)
    (a_parting : PySem.W.nsIn K mainGlobals "parting" = some (some (.ref f_parting)))
    (l_parting : K.lookup f_parting = some ⟨oc_parting, od_parting, .func (PySem.W.fnOf "parting" "parting" (defArgs s_parting) (defBody s_parting) (defScope s_parting) .none kV_parting dc_parting pm_parting an_parting cd_parting ct_parting), sl_parting⟩)
    (c_parting : PySem.W.codeIn K cd_parting "parting" = true)
    (k_parting : PySem.W.keepIn K (.ref f_parting) = true)
    (a_parting_of_reaches : PySem.W.nsIn K mainGlobals "parting_of_reaches" = some (some (.ref f_parting_of_reaches)))
    (l_parting_of_reaches : K.lookup f_parting_of_reaches = some ⟨oc_parting_of_reaches, od_parting_of_reaches, .func (PySem.W.fnOf "parting_of_reaches" "parting_of_reaches" (defArgs s_parting_of_reaches) (defBody s_parting_of_reaches) (defScope s_parting_of_reaches) .none kV_parting_of_reaches dc_parting_of_reaches pm_parting_of_reaches an_parting_of_reaches cd_parting_of_reaches ct_parting_of_reaches), sl_parting_of_reaches⟩)
    (c_parting_of_reaches : PySem.W.codeIn K cd_parting_of_reaches "parting_of_reaches" = true)
    (k_parting_of_reaches : PySem.W.keepIn K (.ref f_parting_of_reaches) = true)
    (a_rows_between : PySem.W.nsIn K mainGlobals "rows_between" = some (some (.ref f_rows_between)))
    (l_rows_between : K.lookup f_rows_between = some ⟨oc_rows_between, od_rows_between, .func (PySem.W.fnOf "rows_between" "rows_between" (defArgs s_rows_between) (defBody s_rows_between) (defScope s_rows_between) .none kV_rows_between dc_rows_between pm_rows_between an_rows_between cd_rows_between ct_rows_between), sl_rows_between⟩)
    (c_rows_between : PySem.W.codeIn K cd_rows_between "rows_between" = true)
    (k_rows_between : PySem.W.keepIn K (.ref f_rows_between) = true)
    (a_differing_goal : PySem.W.nsIn K mainGlobals "differing_goal" = some (some (.ref f_differing_goal)))
    (l_differing_goal : K.lookup f_differing_goal = some ⟨oc_differing_goal, od_differing_goal, .func (PySem.W.fnOf "differing_goal" "differing_goal" (defArgs s_differing_goal) (defBody s_differing_goal) (defScope s_differing_goal) .none kV_differing_goal dc_differing_goal pm_differing_goal an_differing_goal cd_differing_goal ct_differing_goal), sl_differing_goal⟩)
    (c_differing_goal : PySem.W.codeIn K cd_differing_goal "differing_goal" = true)
    (k_differing_goal : PySem.W.keepIn K (.ref f_differing_goal) = true)
    (a_differ : PySem.W.nsIn K mainGlobals "differ" = some (some (.ref f_differ)))
    (l_differ : K.lookup f_differ = some ⟨oc_differ, od_differ, .func (PySem.W.fnOf "differ" "differ" (defArgs s_differ) (defBody s_differ) (defScope s_differ) .none kV_differ dc_differ pm_differ an_differ cd_differ ct_differ), sl_differ⟩)
    (c_differ : PySem.W.codeIn K cd_differ "differ" = true)
    (k_differ : PySem.W.keepIn K (.ref f_differ) = true)
    (a_check_text : PySem.W.nsIn K mainGlobals "check_text" = some (some (.ref f_check_text)))
    (l_check_text : K.lookup f_check_text = some ⟨oc_check_text, od_check_text, .func (PySem.W.fnOf "check_text" "check_text" (defArgs s_check_text) (defBody s_check_text) (defScope s_check_text) .none kV_check_text dc_check_text pm_check_text an_check_text cd_check_text ct_check_text), sl_check_text⟩)
    (c_check_text : PySem.W.codeIn K cd_check_text "check_text" = true)
    (k_check_text : PySem.W.keepIn K (.ref f_check_text) = true)
    (a_check_cursor : PySem.W.nsIn K mainGlobals "check_cursor" = some (some (.ref f_check_cursor)))
    (l_check_cursor : K.lookup f_check_cursor = some ⟨oc_check_cursor, od_check_cursor, .func (PySem.W.fnOf "check_cursor" "check_cursor" (defArgs s_check_cursor) (defBody s_check_cursor) (defScope s_check_cursor) .none kV_check_cursor dc_check_cursor pm_check_cursor an_check_cursor cd_check_cursor ct_check_cursor), sl_check_cursor⟩)
    (c_check_cursor : PySem.W.codeIn K cd_check_cursor "check_cursor" = true)
    (k_check_cursor : PySem.W.keepIn K (.ref f_check_cursor) = true)
    (a_run : PySem.W.nsIn K mainGlobals "run" = some (some (.ref f_run)))
    (l_run : K.lookup f_run = some ⟨oc_run, od_run, .func (PySem.W.fnOf "run" "run" (defArgs s_run) (defBody s_run) (defScope s_run) .none kV_run dc_run pm_run an_run cd_run ct_run), sl_run⟩)
    (c_run : PySem.W.codeIn K cd_run "run" = true)
    (k_run : PySem.W.keepIn K (.ref f_run) = true)
    (a_shown_column : PySem.W.nsIn K mainGlobals "shown_column" = some (some (.ref f_shown_column)))
    (l_shown_column : K.lookup f_shown_column = some ⟨oc_shown_column, od_shown_column, .func (PySem.W.fnOf "shown_column" "shown_column" (defArgs s_shown_column) (defBody s_shown_column) (defScope s_shown_column) .none kV_shown_column dc_shown_column pm_shown_column an_shown_column cd_shown_column ct_shown_column), sl_shown_column⟩)
    (c_shown_column : PySem.W.codeIn K cd_shown_column "shown_column" = true)
    (k_shown_column : PySem.W.keepIn K (.ref f_shown_column) = true)
    (a_moved : PySem.W.nsIn K mainGlobals "moved" = some (some (.ref f_moved)))
    (l_moved : K.lookup f_moved = some ⟨oc_moved, od_moved, .func (PySem.W.fnOf "moved" "moved" (defArgs s_moved) (defBody s_moved) (defScope s_moved) .none kV_moved dc_moved pm_moved an_moved cd_moved ct_moved), sl_moved⟩)
    (c_moved : PySem.W.codeIn K cd_moved "moved" = true)
    (k_moved : PySem.W.keepIn K (.ref f_moved) = true)
    (a_new_goal : PySem.W.nsIn K mainGlobals "new_goal" = some (some (.ref f_new_goal)))
    (l_new_goal : K.lookup f_new_goal = some ⟨oc_new_goal, od_new_goal, .func (PySem.W.fnOf "new_goal" "new_goal" (defArgs s_new_goal) (defBody s_new_goal) (defScope s_new_goal) .none kV_new_goal dc_new_goal pm_new_goal an_new_goal cd_new_goal ct_new_goal), sl_new_goal⟩)
    (c_new_goal : PySem.W.codeIn K cd_new_goal "new_goal" = true)
    (k_new_goal : PySem.W.keepIn K (.ref f_new_goal) = true)
    (a_is_number : PySem.W.nsIn K mainGlobals "is_number" = some (some (.ref f_is_number)))
    (l_is_number : K.lookup f_is_number = some ⟨oc_is_number, od_is_number, .func (PySem.W.fnOf "is_number" "is_number" (defArgs s_is_number) (defBody s_is_number) (defScope s_is_number) .none kV_is_number dc_is_number pm_is_number an_is_number cd_is_number ct_is_number), sl_is_number⟩)
    (c_is_number : PySem.W.codeIn K cd_is_number "is_number" = true)
    (k_is_number : PySem.W.keepIn K (.ref f_is_number) = true)
    (a_read_command : PySem.W.nsIn K mainGlobals "read_command" = some (some (.ref f_read_command)))
    (l_read_command : K.lookup f_read_command = some ⟨oc_read_command, od_read_command, .func (PySem.W.fnOf "read_command" "read_command" (defArgs s_read_command) (defBody s_read_command) (defScope s_read_command) .none kV_read_command dc_read_command pm_read_command an_read_command cd_read_command ct_read_command), sl_read_command⟩)
    (c_read_command : PySem.W.codeIn K cd_read_command "read_command" = true)
    (k_read_command : PySem.W.keepIn K (.ref f_read_command) = true)
    (a_read_commands : PySem.W.nsIn K mainGlobals "read_commands" = some (some (.ref f_read_commands)))
    (l_read_commands : K.lookup f_read_commands = some ⟨oc_read_commands, od_read_commands, .func (PySem.W.fnOf "read_commands" "read_commands" (defArgs s_read_commands) (defBody s_read_commands) (defScope s_read_commands) .none kV_read_commands dc_read_commands pm_read_commands an_read_commands cd_read_commands ct_read_commands), sl_read_commands⟩)
    (c_read_commands : PySem.W.codeIn K cd_read_commands "read_commands" = true)
    (k_read_commands : PySem.W.keepIn K (.ref f_read_commands) = true)
    (a_law_rng : PySem.W.nsIn K mainGlobals "_law_rng" = some (some (.ref f_law_rng)))
    (l_law_rng : K.lookup f_law_rng = some ⟨oc_law_rng, od_law_rng, .func (PySem.W.fnOf "_law_rng" "_law_rng" (defArgs s_rng) (defBody s_rng) (defScope s_rng) .none kV_law_rng dc_law_rng pm_law_rng an_law_rng cd_law_rng ct_law_rng), sl_law_rng⟩)
    (c_law_rng : PySem.W.codeIn K cd_law_rng "_law_rng" = true)
    (k_law_rng : PySem.W.keepIn K (.ref f_law_rng) = true)
    (a_law_draw : PySem.W.nsIn K mainGlobals "_law_draw" = some (some (.ref f_law_draw)))
    (l_law_draw : K.lookup f_law_draw = some ⟨oc_law_draw, od_law_draw, .func (PySem.W.fnOf "_law_draw" "_law_draw" (defArgs s_draw) (defBody s_draw) (defScope s_draw) .none kV_law_draw dc_law_draw pm_law_draw an_law_draw cd_law_draw ct_law_draw), sl_law_draw⟩)
    (c_law_draw : PySem.W.codeIn K cd_law_draw "_law_draw" = true)
    (k_law_draw : PySem.W.keepIn K (.ref f_law_draw) = true)
    (a_law_list : PySem.W.nsIn K mainGlobals "_law_list" = some (some (.ref f_law_list)))
    (l_law_list : K.lookup f_law_list = some ⟨oc_law_list, od_law_list, .func (PySem.W.fnOf "_law_list" "_law_list" (defArgs s_list) (defBody s_list) (defScope s_list) .none kV_law_list dc_law_list pm_law_list an_law_list cd_law_list ct_law_list), sl_law_list⟩)
    (c_law_list : PySem.W.codeIn K cd_law_list "_law_list" = true)
    (k_law_list : PySem.W.keepIn K (.ref f_law_list) = true)
    (a_law_lots : PySem.W.nsIn K mainGlobals "_law_lots" = some (some (.ref f_law_lots)))
    (l_law_lots : K.lookup f_law_lots = some ⟨oc_law_lots, od_law_lots, .func (PySem.W.fnOf "_law_lots" "_law_lots" (defArgs s_lots) (defBody s_lots) (defScope s_lots) .none kV_law_lots dc_law_lots pm_law_lots an_law_lots cd_law_lots ct_law_lots), sl_law_lots⟩)
    (c_law_lots : PySem.W.codeIn K cd_law_lots "_law_lots" = true)
    (k_law_lots : PySem.W.keepIn K (.ref f_law_lots) = true)
    (a_law_aim : PySem.W.nsIn K mainGlobals "_law_aim" = some (some (.ref f_law_aim)))
    (l_law_aim : K.lookup f_law_aim = some ⟨oc_law_aim, od_law_aim, .func (PySem.W.fnOf "_law_aim" "_law_aim" (defArgs s_aim) (defBody s_aim) (defScope s_aim) .none kV_law_aim dc_law_aim pm_law_aim an_law_aim cd_law_aim ct_law_aim), sl_law_aim⟩)
    (c_law_aim : PySem.W.codeIn K cd_law_aim "_law_aim" = true)
    (k_law_aim : PySem.W.keepIn K (.ref f_law_aim) = true)
    (a_law_near : PySem.W.nsIn K mainGlobals "_law_near" = some (some (.ref f_law_near)))
    (l_law_near : K.lookup f_law_near = some ⟨oc_law_near, od_law_near, .func (PySem.W.fnOf "_law_near" "_law_near" (defArgs s_near) (defBody s_near) (defScope s_near) .none kV_law_near dc_law_near pm_law_near an_law_near cd_law_near ct_law_near), sl_law_near⟩)
    (c_law_near : PySem.W.codeIn K cd_law_near "_law_near" = true)
    (k_law_near : PySem.W.keepIn K (.ref f_law_near) = true)
    (a_law_spread : PySem.W.nsIn K mainGlobals "_law_spread" = some (some (.ref f_law_spread)))
    (l_law_spread : K.lookup f_law_spread = some ⟨oc_law_spread, od_law_spread, .func (PySem.W.fnOf "_law_spread" "_law_spread" (defArgs s_spread) (defBody s_spread) (defScope s_spread) .none kV_law_spread dc_law_spread pm_law_spread an_law_spread cd_law_spread ct_law_spread), sl_law_spread⟩)
    (c_law_spread : PySem.W.codeIn K cd_law_spread "_law_spread" = true)
    (k_law_spread : PySem.W.keepIn K (.ref f_law_spread) = true)
    (a_law_after : PySem.W.nsIn K mainGlobals "_law_after" = some (some (.ref f_law_after)))
    (l_law_after : K.lookup f_law_after = some ⟨oc_law_after, od_law_after, .func (PySem.W.fnOf "_law_after" "_law_after" (defArgs s_after) (defBody s_after) (defScope s_after) .none kV_law_after dc_law_after pm_law_after an_law_after cd_law_after ct_law_after), sl_law_after⟩)
    (c_law_after : PySem.W.codeIn K cd_law_after "_law_after" = true)
    (k_law_after : PySem.W.keepIn K (.ref f_law_after) = true)
    (a_law_text : PySem.W.nsIn K mainGlobals "_law_text" = some (some (.ref f_law_text)))
    (l_law_text : K.lookup f_law_text = some ⟨oc_law_text, od_law_text, .func (PySem.W.fnOf "_law_text" "_law_text" (defArgs s_text) (defBody s_text) (defScope s_text) .none kV_law_text dc_law_text pm_law_text an_law_text cd_law_text ct_law_text), sl_law_text⟩)
    (c_law_text : PySem.W.codeIn K cd_law_text "_law_text" = true)
    (k_law_text : PySem.W.keepIn K (.ref f_law_text) = true)
    (a_law_pair_right : PySem.W.nsIn K mainGlobals "_law_pair_right" = some (some (.ref f_law_pair_right)))
    (l_law_pair_right : K.lookup f_law_pair_right = some ⟨oc_law_pair_right, od_law_pair_right, .func (PySem.W.fnOf "_law_pair_right" "_law_pair_right" (defArgs s_pair_right) (defBody s_pair_right) (defScope s_pair_right) .none kV_law_pair_right dc_law_pair_right pm_law_pair_right an_law_pair_right cd_law_pair_right ct_law_pair_right), sl_law_pair_right⟩)
    (c_law_pair_right : PySem.W.codeIn K cd_law_pair_right "_law_pair_right" = true)
    (k_law_pair_right : PySem.W.keepIn K (.ref f_law_pair_right) = true)
    (a_law_written : PySem.W.nsIn K mainGlobals "_law_written" = some (some (.ref f_law_written)))
    (l_law_written : K.lookup f_law_written = some ⟨oc_law_written, od_law_written, .func (PySem.W.fnOf "_law_written" "_law_written" (defArgs s_written) (defBody s_written) (defScope s_written) .none kV_law_written dc_law_written pm_law_written an_law_written cd_law_written ct_law_written), sl_law_written⟩)
    (c_law_written : PySem.W.codeIn K cd_law_written "_law_written" = true)
    (k_law_written : PySem.W.keepIn K (.ref f_law_written) = true)
    (a_law_read : PySem.W.nsIn K mainGlobals "_law_read" = some (some (.ref f_law_read)))
    (l_law_read : K.lookup f_law_read = some ⟨oc_law_read, od_law_read, .func (PySem.W.fnOf "_law_read" "_law_read" (defArgs s_lread) (defBody s_lread) (defScope s_lread) .none kV_law_read dc_law_read pm_law_read an_law_read cd_law_read ct_law_read), sl_law_read⟩)
    (c_law_read : PySem.W.codeIn K cd_law_read "_law_read" = true)
    (k_law_read : PySem.W.keepIn K (.ref f_law_read) = true)
    (a_law_far : PySem.W.nsIn K mainGlobals "_law_far" = some (some (.ref f_law_far)))
    (l_law_far : K.lookup f_law_far = some ⟨oc_law_far, od_law_far, .func (PySem.W.fnOf "_law_far" "_law_far" (defArgs s_far) (defBody s_far) (defScope s_far) .none kV_law_far dc_law_far pm_law_far an_law_far cd_law_far ct_law_far), sl_law_far⟩)
    (c_law_far : PySem.W.codeIn K cd_law_far "_law_far" = true)
    (k_law_far : PySem.W.keepIn K (.ref f_law_far) = true)
    (a_law : PySem.W.nsIn K mainGlobals "law" = some (some (.ref f_law)))
    (l_law : K.lookup f_law = some ⟨oc_law, od_law, .func (PySem.W.fnOf "law" "law" (defArgs s_law) (defBody s_law) (defScope s_law) .none kV_law dc_law pm_law an_law cd_law ct_law), sl_law⟩)
    (c_law : PySem.W.codeIn K cd_law "law" = true)
    (k_law : PySem.W.keepIn K (.ref f_law) = true)
    (z_isinstance : PySem.W.nsIn K mainGlobals "isinstance" = some none)
    (z_int : PySem.W.nsIn K mainGlobals "int" = some none)
    (z_bool : PySem.W.nsIn K mainGlobals "bool" = some none)
    (z_len : PySem.W.nsIn K mainGlobals "len" = some none)
    (z_enumerate : PySem.W.nsIn K mainGlobals "enumerate" = some none)
    (z_reversed : PySem.W.nsIn K mainGlobals "reversed" = some none)
    (z_sorted : PySem.W.nsIn K mainGlobals "sorted" = some none)
    (z_max : PySem.W.nsIn K mainGlobals "max" = some none)
    (z_min : PySem.W.nsIn K mainGlobals "min" = some none)
    (z_abs : PySem.W.nsIn K mainGlobals "abs" = some none)
    (z_range : PySem.W.nsIn K mainGlobals "range" = some none)
    (z_sum : PySem.W.nsIn K mainGlobals "sum" = some none)
    (z_repr : PySem.W.nsIn K mainGlobals "repr" = some none)
    (z_str : PySem.W.nsIn K mainGlobals "str" = some none)
    (z_all : PySem.W.nsIn K mainGlobals "all" = some none)
    (z_list : PySem.W.nsIn K mainGlobals "list" = some none)
    (z_tuple : PySem.W.nsIn K mainGlobals "tuple" = some none)
    (z_dict : PySem.W.nsIn K mainGlobals "dict" = some none)
    (aNA : PySem.W.nsIn K mainGlobals "NAMES_ALONE" = some (some (.ref na)))
    (aNB : PySem.W.nsIn K mainGlobals "NAMES_BEHIND_NUMBER" = some (some (.ref nb)))
    (aMD : PySem.W.nsIn K mainGlobals "MOST_DIGITS" = some (some (.int 40 tm)))
    (lNA : K.lookup na = some ⟨.type "dict", none, .dict #[⟨PyData.keyHash w.params "H", .str "H" t1, .str "home" u1⟩, ⟨PyData.keyHash w.params "E", .str "E" t2, .str "end" u2⟩] nA, #[]⟩)
    (lNB : K.lookup nb = some ⟨.type "dict", none, .dict #[⟨PyData.keyHash w.params "D", .str "D" s1, .str "down" r1⟩, ⟨PyData.keyHash w.params "U", .str "U" s2, .str "up" r2⟩, ⟨PyData.keyHash w.params "R", .str "R" s3, .str "right" r3⟩, ⟨PyData.keyHash w.params "L", .str "L" s4, .str "left" r4⟩] nB, #[]⟩)
    (oNA : (na == sysModules) = false)
    (oNB : (nb == sysModules) = false) :
    ∃ fd : FuncData, (∀ (s : Shared) (v : Value), BindsTo s fd ⟨[v], []⟩ [("script", v)]) ∧ ∀ base : Heap, K.In base → base.Ns mainGlobals mg → FnG l.prog w K mg base 9 fa fd ["script"] (spLaw K) := by
  have e := hfa.symm.trans (PySem.W.mg_of X G a_law)
  cases e
  have F_is_count := fun_mk (st := s_is_count) l_is_count c_is_count k_is_count
  have F_is_command := fun_mk (st := s_is_command) l_is_command c_is_command k_is_command
  have F_check_commands := fun_mk (st := s_check_commands) l_check_commands c_check_commands k_check_commands
  have F_check_number := fun_mk (st := s_check_number) l_check_number c_check_number k_check_number
  have F_row_change := fun_mk (st := s_row_change) l_row_change c_row_change k_row_change
  have F_reach := fun_mk (st := s_reach) l_reach c_reach k_reach
  have F_require := fun_mk (st := s_require) l_require c_require k_require
  have F_box := fun_mk (st := s_box) l_box c_box k_box
  have F_least_text := fun_mk (st := s_least) l_least_text c_least_text k_least_text
  have F_add_piece := fun_mk (st := s_add_piece) l_add_piece c_add_piece k_add_piece
  have F_pieces := fun_mk (st := s_pieces) l_pieces c_pieces k_pieces
  have F_form := fun_mk (st := s_form) l_form c_form k_form
  have F_same_effect := fun_mk (st := s_same_effect) l_same_effect c_same_effect k_same_effect
  have F_parting := fun_mk (st := s_parting) l_parting c_parting k_parting
  have F_parting_of_reaches := fun_mk (st := s_parting_of_reaches) l_parting_of_reaches c_parting_of_reaches k_parting_of_reaches
  have F_rows_between := fun_mk (st := s_rows_between) l_rows_between c_rows_between k_rows_between
  have F_differing_goal := fun_mk (st := s_differing_goal) l_differing_goal c_differing_goal k_differing_goal
  have F_differ := fun_mk (st := s_differ) l_differ c_differ k_differ
  have F_check_text := fun_mk (st := s_check_text) l_check_text c_check_text k_check_text
  have F_check_cursor := fun_mk (st := s_check_cursor) l_check_cursor c_check_cursor k_check_cursor
  have F_run := fun_mk (st := s_run) l_run c_run k_run
  have F_shown_column := fun_mk (st := s_shown_column) l_shown_column c_shown_column k_shown_column
  have F_moved := fun_mk (st := s_moved) l_moved c_moved k_moved
  have F_new_goal := fun_mk (st := s_new_goal) l_new_goal c_new_goal k_new_goal
  have F_is_number := fun_mk (st := s_is_number) l_is_number c_is_number k_is_number
  have F_read_command := fun_mk (st := s_read_command) l_read_command c_read_command k_read_command
  have F_read_commands := fun_mk (st := s_read_commands) l_read_commands c_read_commands k_read_commands
  have F_law_rng := fun_mk (st := s_rng) l_law_rng c_law_rng k_law_rng
  have F_law_draw := fun_mk (st := s_draw) l_law_draw c_law_draw k_law_draw
  have F_law_list := fun_mk (st := s_list) l_law_list c_law_list k_law_list
  have F_law_lots := fun_mk (st := s_lots) l_law_lots c_law_lots k_law_lots
  have F_law_aim := fun_mk (st := s_aim) l_law_aim c_law_aim k_law_aim
  have F_law_near := fun_mk (st := s_near) l_law_near c_law_near k_law_near
  have F_law_spread := fun_mk (st := s_spread) l_law_spread c_law_spread k_law_spread
  have F_law_after := fun_mk (st := s_after) l_law_after c_law_after k_law_after
  have F_law_text := fun_mk (st := s_text) l_law_text c_law_text k_law_text
  have F_law_pair_right := fun_mk (st := s_pair_right) l_law_pair_right c_law_pair_right k_law_pair_right
  have F_law_written := fun_mk (st := s_written) l_law_written c_law_written k_law_written
  have F_law_read := fun_mk (st := s_lread) l_law_read c_law_read k_law_read
  have F_law_far := fun_mk (st := s_far) l_law_far c_law_far k_law_far
  have F_law := fun_mk (st := s_law) l_law c_law k_law
  have b_is_count := F_is_count.binds (ps := ["number"]) fun _ _ _ _ _ _ us hl => match us, hl with | [_], _ => rfl
  have b_is_command := F_is_command.binds (ps := ["command"]) fun _ _ _ _ _ _ us hl => match us, hl with | [_], _ => rfl
  have b_check_commands := F_check_commands.binds (ps := ["commands"]) fun _ _ _ _ _ _ us hl => match us, hl with | [_], _ => rfl
  have b_check_number := F_check_number.binds (ps := ["number", "least"]) fun _ _ _ _ _ _ us hl => match us, hl with | [_, _], _ => rfl
  have b_row_change := F_row_change.binds (ps := ["command"]) fun _ _ _ _ _ _ us hl => match us, hl with | [_], _ => rfl
  have b_reach := F_reach.binds (ps := ["commands"]) fun _ _ _ _ _ _ us hl => match us, hl with | [_], _ => rfl
  have b_require := F_require.binds (ps := ["bounds", "offset", "bound"]) fun _ _ _ _ _ _ us hl => match us, hl with | [_, _, _], _ => rfl
  have b_box := F_box.binds (ps := ["commands", "goal"]) fun _ _ _ _ _ _ us hl => match us, hl with | [_, _], _ => rfl
  have b_least_text := F_least_text.binds (ps := ["commands", "goal"]) fun _ _ _ _ _ _ us hl => match us, hl with | [_, _], _ => rfl
  have b_add_piece := F_add_piece.binds (ps := ["found", "piece"]) fun _ _ _ _ _ _ us hl => match us, hl with | [_, _], _ => rfl
  have b_pieces := F_pieces.binds (ps := ["commands", "offset"]) fun _ _ _ _ _ _ us hl => match us, hl with | [_, _], _ => rfl
  have b_form := F_form.binds (ps := ["commands"]) fun _ _ _ _ _ _ us hl => match us, hl with | [_], _ => rfl
  have b_same_effect := F_same_effect.binds (ps := ["first", "second"]) fun _ _ _ _ _ _ us hl => match us, hl with | [_, _], _ => rfl
  have b_parting := F_parting.binds (ps := ["first", "second"]) fun _ _ _ _ _ _ us hl => match us, hl with | [_, _], _ => rfl
  have b_parting_of_reaches := F_parting_of_reaches.binds (ps := ["first", "second"]) fun _ _ _ _ _ _ us hl => match us, hl with | [_, _], _ => rfl
  have b_rows_between := F_rows_between.binds (ps := ["spanned"]) fun _ _ _ _ _ _ us hl => match us, hl with | [_], _ => rfl
  have b_differing_goal := F_differing_goal.binds (ps := ["first", "second"]) fun _ _ _ _ _ _ us hl => match us, hl with | [_, _], _ => rfl
  have b_differ := F_differ.binds (ps := ["start", "first", "second"]) fun _ _ _ _ _ _ us hl => match us, hl with | [_, _, _], _ => rfl
  have b_check_text := F_check_text.binds (ps := ["text"]) fun _ _ _ _ _ _ us hl => match us, hl with | [_], _ => rfl
  have b_check_cursor := F_check_cursor.binds (ps := ["lines", "cursor"]) fun _ _ _ _ _ _ us hl => match us, hl with | [_, _], _ => rfl
  have b_run := F_run.binds (ps := ["text", "cursor", "commands"]) fun _ _ _ _ _ _ us hl => match us, hl with | [_, _, _], _ => rfl
  have b_shown_column := F_shown_column.binds (ps := ["length", "goal"]) fun _ _ _ _ _ _ us hl => match us, hl with | [_, _], _ => rfl
  have b_moved := F_moved.binds (ps := ["text", "cursor", "command"]) fun _ _ _ _ _ _ us hl => match us, hl with | [_, _, _], _ => rfl
  have b_new_goal := F_new_goal.binds (ps := ["length", "goal", "command"]) fun _ _ _ _ _ _ us hl => match us, hl with | [_, _, _], _ => rfl
  have b_is_number := F_is_number.binds (ps := ["digits"]) fun _ _ _ _ _ _ us hl => match us, hl with | [_], _ => rfl
  have b_read_command := F_read_command.binds (ps := ["word"]) fun _ _ _ _ _ _ us hl => match us, hl with | [_], _ => rfl
  have b_read_commands := F_read_commands.binds (ps := ["text"]) fun _ _ _ _ _ _ us hl => match us, hl with | [_], _ => rfl
  have b_law_rng := F_law_rng.binds (ps := ["script"]) fun _ _ _ _ _ _ us hl => match us, hl with | [_], _ => rfl
  have b_law_draw := F_law_draw.binds (ps := ["rng", "limit"]) fun _ _ _ _ _ _ us hl => match us, hl with | [_, _], _ => rfl
  have b_law_list := F_law_list.binds (ps := ["rng", "most", "size"]) fun _ _ _ _ _ _ us hl => match us, hl with | [_, _, _], _ => rfl
  have b_law_lots := F_law_lots.binds (ps := ["rng"]) fun _ _ _ _ _ _ us hl => match us, hl with | [_], _ => rfl
  have b_law_aim := F_law_aim.binds (ps := ["rng", "steps"]) fun _ _ _ _ _ _ us hl => match us, hl with | [_, _], _ => rfl
  have b_law_near := F_law_near.binds (ps := ["rng", "steps", "size"]) fun _ _ _ _ _ _ us hl => match us, hl with | [_, _, _], _ => rfl
  have b_law_spread := F_law_spread.binds (ps := ["steps"]) fun _ _ _ _ _ _ us hl => match us, hl with | [_], _ => rfl
  have b_law_after := F_law_after.binds (ps := ["lengths", "begin", "steps"]) fun _ _ _ _ _ _ us hl => match us, hl with | [_, _, _], _ => rfl
  have b_law_text := F_law_text.binds (ps := ["rng", "spread", "steps"]) fun _ _ _ _ _ _ us hl => match us, hl with | [_, _, _], _ => rfl
  have b_law_pair_right := F_law_pair_right.binds (ps := ["rng", "one", "other"]) fun _ _ _ _ _ _ us hl => match us, hl with | [_, _, _], _ => rfl
  have b_law_written := F_law_written.binds (ps := ["steps"]) fun _ _ _ _ _ _ us hl => match us, hl with | [_], _ => rfl
  have b_law_read := F_law_read.binds (ps := ["rng", "many", "most", "size"]) fun _ _ _ _ _ _ us hl => match us, hl with | [_, _, _, _], _ => rfl
  have b_law_far := F_law_far.binds (ps := ["steps", "factor"]) fun _ _ _ _ _ _ us hl => match us, hl with | [_, _], _ => rfl
  have kb_same_effect := bindsK (ps := ["first", "second"]) (ks := ["second", "first"]) F_same_effect fun _ _ _ _ _ _ us ws hl => by
    rcases two_cases hl with ⟨_, _, rfl, rfl⟩ | ⟨_, _, rfl, rfl⟩ | ⟨_, _, rfl, rfl⟩
    · rfl
    · rfl
    · rfl
  have kb_parting := bindsK (ps := ["first", "second"]) (ks := ["second", "first"]) F_parting fun _ _ _ _ _ _ us ws hl => by
    rcases two_cases hl with ⟨_, _, rfl, rfl⟩ | ⟨_, _, rfl, rfl⟩ | ⟨_, _, rfl, rfl⟩
    · rfl
    · rfl
    · rfl
  refine ⟨PySem.W.fnOf "law" "law" (defArgs s_law) (defBody s_law) (defScope s_law) .none kV_law dc_law pm_law an_law cd_law ct_law, fun s v => .of_eq rfl, fun base hb gb => ?_⟩
  have TB : TxtB K mg wo wn := {
    g_WITHOUT_NUMBER := PySem.W.mg_of X G aWO
    g_WITH_NUMBER := PySem.W.mg_of X G aWN
    tWO := fun H => .inr ⟨_, _, _, lWO, rfl, rfl, (by show 2 ≤ sizeLine; decide), .cons ⟨_, rfl⟩ (.cons ⟨_, rfl⟩ .nil)⟩
    tWN := fun H => .inr ⟨_, _, _, lWN, rfl, rfl, (by show 4 ≤ sizeLine; decide), .cons ⟨_, rfl⟩ (.cons ⟨_, rfl⟩ (.cons ⟨_, rfl⟩ (.cons ⟨_, rfl⟩ .nil)))⟩
    isinstance := PySem.W.mg_none_of X G z_isinstance
    int := PySem.W.mg_none_of X G z_int
    bool := PySem.W.mg_none_of X G z_bool
    len := PySem.W.mg_none_of X G z_len
    enumerate := PySem.W.mg_none_of X G z_enumerate
    reversed := PySem.W.mg_none_of X G z_reversed
    sorted := PySem.W.mg_none_of X G z_sorted
    max := PySem.W.mg_none_of X G z_max
    min := PySem.W.mg_none_of X G z_min }
  have TA : TxtA mg := { abs := PySem.W.mg_none_of X G z_abs, range := PySem.W.mg_none_of X G z_range, sum := PySem.W.mg_none_of X G z_sum, len := PySem.W.mg_none_of X G z_len, min := PySem.W.mg_none_of X G z_min, max := PySem.W.mg_none_of X G z_max, int := PySem.W.mg_none_of X G z_int }
  have TV : TxtV mg := { str := PySem.W.mg_none_of X G z_str, len := PySem.W.mg_none_of X G z_len, range := PySem.W.mg_none_of X G z_range }
  have TPt : TxtPt mg := { min := PySem.W.mg_none_of X G z_min }
  have TNr : TxtNr mg := { list := PySem.W.mg_none_of X G z_list, range := PySem.W.mg_none_of X G z_range, len := PySem.W.mg_none_of X G z_len, min := PySem.W.mg_none_of X G z_min, max := PySem.W.mg_none_of X G z_max }
  have TTx : TxtTx mg := { dict := PySem.W.mg_none_of X G z_dict, range := PySem.W.mg_none_of X G z_range, min := PySem.W.mg_none_of X G z_min, max := PySem.W.mg_none_of X G z_max }
  have TPr : TxtPr mg := { repr := PySem.W.mg_none_of X G z_repr, isinstance := PySem.W.mg_none_of X G z_isinstance, bool := PySem.W.mg_none_of X G z_bool, tuple := PySem.W.mg_none_of X G z_tuple, list := PySem.W.mg_none_of X G z_list, len := PySem.W.mg_none_of X G z_len, min := PySem.W.mg_none_of X G z_min, range := PySem.W.mg_none_of X G z_range }
  have TLw : TxtLw mg := { min := PySem.W.mg_none_of X G z_min, len := PySem.W.mg_none_of X G z_len, range := PySem.W.mg_none_of X G z_range, list := PySem.W.mg_none_of X G z_list }
  have C_is_count : Cal l.prog w K mg base 1 "is_count" spCount := ⟨_, _, _, ok_is_count F_is_count TB, PySem.W.mg_of X G a_is_count, k_is_count, b_is_count⟩
  have C_is_command : Cal l.prog w K mg base 2 "is_command" (spIsCmd K) := ⟨_, _, _, ok_is_command F_is_command TB C_is_count, PySem.W.mg_of X G a_is_command, k_is_command, b_is_command⟩
  have C_check_commands : Cal l.prog w K mg base 3 "check_commands" (spCheck K) := ⟨_, _, _, ok_check_commands F_check_commands TB C_is_command, PySem.W.mg_of X G a_check_commands, k_check_commands, b_check_commands⟩
  have C_check_number : Cal l.prog w K mg base 1 "check_number" spNum := ⟨_, _, _, ok_check_number F_check_number, PySem.W.mg_of X G a_check_number, k_check_number, b_check_number⟩
  have C_row_change : Cal l.prog w K mg base 1 "row_change" (spRow K) := ⟨_, _, _, ok_row_change F_row_change, PySem.W.mg_of X G a_row_change, k_row_change, b_row_change⟩
  have C_reach : Cal l.prog w K mg base 4 "reach" (spReach K) := ⟨_, _, _, ok_reach F_reach TB C_check_commands C_row_change, PySem.W.mg_of X G a_reach, k_reach, b_reach⟩
  have C_require : Cal l.prog w K mg base 1 "require" spReq := ⟨_, _, _, ok_require F_require TB, PySem.W.mg_of X G a_require, k_require, b_require⟩
  have C_box : Cal l.prog w K mg base 5 "box" (spBox K) := ⟨_, _, _, ok_box F_box TB C_check_commands C_row_change C_reach C_check_number C_require, PySem.W.mg_of X G a_box, k_box, b_box⟩
  have C_least_text : Cal l.prog w K mg base 6 "least_text" (spLeast K) := ⟨_, _, _, ok_least_text F_least_text C_box C_reach, PySem.W.mg_of X G a_least_text, k_least_text, b_least_text⟩
  have C_add_piece : Cal l.prog w K mg base 1 "add_piece" (spAddP K) := ⟨_, _, _, ok_add_piece F_add_piece, PySem.W.mg_of X G a_add_piece, k_add_piece, b_add_piece⟩
  have C_pieces : Cal l.prog w K mg base 2 "pieces" (spPieces K) := ⟨_, _, _, ok_pieces F_pieces TB C_row_change C_require C_add_piece, PySem.W.mg_of X G a_pieces, k_pieces, b_pieces⟩
  have Z_form : Cal l.prog w K mg base 5 "form" (zForm K) := by
    rw [zForm_eq]
    exact ⟨_, _, _, ok_form F_form C_reach C_pieces, PySem.W.mg_of X G a_form, k_form, b_form⟩
  have C_check_text : Cal l.prog w K mg base 1 "check_text" (spText K) := ⟨_, _, _, ok_check_text F_check_text TB, PySem.W.mg_of X G a_check_text, k_check_text, b_check_text⟩
  have C_check_cursor : Cal l.prog w K mg base 1 "check_cursor" (spCursor K) := ⟨_, _, _, ok_check_cursor F_check_cursor, PySem.W.mg_of X G a_check_cursor, k_check_cursor, b_check_cursor⟩
  have C_shown_column : Cal l.prog w K mg base 1 "shown_column" spShown := ⟨_, _, _, ok_shown_column F_shown_column TB, PySem.W.mg_of X G a_shown_column, k_shown_column, b_shown_column⟩
  have C_new_goal : Cal l.prog w K mg base 2 "new_goal" (spGoal K) := ⟨_, _, _, ok_new_goal F_new_goal TB C_shown_column, PySem.W.mg_of X G a_new_goal, k_new_goal, b_new_goal⟩
  have C_moved : Cal l.prog w K mg base 3 "moved" (spMoved K) := ⟨_, _, _, ok_moved F_moved TB C_row_change C_new_goal, PySem.W.mg_of X G a_moved, k_moved, b_moved⟩
  have C_run : Cal l.prog w K mg base 4 "run" (spRun K) := ⟨_, _, _, ok_run F_run TB C_check_text C_check_cursor C_check_commands C_moved, PySem.W.mg_of X G a_run, k_run, b_run⟩
  have C_parting_of_reaches : Cal l.prog w K mg base 3 "parting_of_reaches" (spFarR K) := ⟨_, _, _, ok_parting_of_reaches F_parting_of_reaches TPt (PySem.W.mg_of X G a_rows_between) (fnr_of (ok_rows_between F_rows_between) b_rows_between), PySem.W.mg_of X G a_parting_of_reaches, k_parting_of_reaches, b_parting_of_reaches⟩
  have C_differing_goal : Cal l.prog w K mg base 1 "differing_goal" (spDiffG K) := ⟨_, _, _, ok_differing_goal F_differing_goal TPt, PySem.W.mg_of X G a_differing_goal, k_differing_goal, b_differing_goal⟩
  have C_differ : Cal l.prog w K mg base 5 "differ" (spDiffer K) := ⟨_, _, _, ok_differ F_differ C_run, PySem.W.mg_of X G a_differ, k_differ, b_differ⟩
  have Z_same_effect : Cal l.prog w K mg base 6 "same_effect" (zSame11 K) := by
    rw [zSame11_eq]
    exact ⟨_, _, _, ok_same_effect F_same_effect Z_form, PySem.W.mg_of X G a_same_effect, k_same_effect, b_same_effect⟩
  have K_same : CalK l.prog w K mg base 6 "same_effect" ["second", "first"] (zSame11 K) := by
    rw [zSame11_eq]
    exact ⟨_, _, _, ok_same_effect F_same_effect Z_form, PySem.W.mg_of X G a_same_effect, k_same_effect, kb_same_effect⟩
  have Z_parting : Cal l.prog w K mg base 7 "parting" (zPart K) := by
    rw [zPart_eq]
    exact ⟨_, _, _, ok_partV F_parting Z_form C_parting_of_reaches C_differing_goal C_least_text C_differ, PySem.W.mg_of X G a_parting, k_parting, b_parting⟩
  have K_part : CalK l.prog w K mg base 7 "parting" ["second", "first"] (zPart K) := by
    rw [zPart_eq]
    exact ⟨_, _, _, ok_partV F_parting Z_form C_parting_of_reaches C_differing_goal C_least_text C_differ, PySem.W.mg_of X G a_parting, k_parting, kb_parting⟩
  have TR := rd_mk (PySem.W.mg_of X G aNA) (PySem.W.mg_of X G aNB) (PySem.W.mg_of X G aMD) lNA lNB oNA oNB (PySem.W.mg_none_of X G z_int) (PySem.W.mg_none_of X G z_len) (PySem.W.mg_none_of X G z_all)
  have C_is_number : Cal l.prog w K mg base 1 "is_number" (spIsNum K) := ⟨_, _, _, ok_is_number F_is_number TR, PySem.W.mg_of X G a_is_number, k_is_number, b_is_number⟩
  have C_read_command : Cal l.prog w K mg base 2 "read_command" (spRead1 K) := ⟨_, _, _, ok_read_command F_read_command TR C_is_number, PySem.W.mg_of X G a_read_command, k_read_command, b_read_command⟩
  have C_read_commands : Cal l.prog w K mg base 3 "read_commands" (spRead K) := ⟨_, _, _, ok_read_commands F_read_commands C_read_command, PySem.W.mg_of X G a_read_commands, k_read_commands, b_read_commands⟩
  have C_law_rng : Cal l.prog w K mg base 1 "_law_rng" (spRng K) := ⟨_, _, _, ok_rng F_law_rng TA, PySem.W.mg_of X G a_law_rng, k_law_rng, b_law_rng⟩
  have C_law_draw : Cal l.prog w K mg base 1 "_law_draw" spDraw := ⟨_, _, _, ok_draw F_law_draw, PySem.W.mg_of X G a_law_draw, k_law_draw, b_law_draw⟩
  have C_law_list : Cal l.prog w K mg base 2 "_law_list" (spList K) := ⟨_, _, _, ok_list F_law_list TA C_law_draw, PySem.W.mg_of X G a_law_list, k_law_list, b_law_list⟩
  have C_law_lots : Cal l.prog w K mg base 3 "_law_lots" (spLots K) := ⟨_, _, _, ok_lots F_law_lots C_law_draw C_law_list, PySem.W.mg_of X G a_law_lots, k_law_lots, b_law_lots⟩
  have C_law_aim : Cal l.prog w K mg base 2 "_law_aim" (spAimN K) := ⟨_, _, _, ok_aimN F_law_aim TA C_law_draw, PySem.W.mg_of X G a_law_aim, k_law_aim, b_law_aim⟩
  have C_law_spread : Cal l.prog w K mg base 1 "_law_spread" (spSpread K) := ⟨_, _, _, ok_spread F_law_spread TA, PySem.W.mg_of X G a_law_spread, k_law_spread, b_law_spread⟩
  have C_law_text : Cal l.prog w K mg base 6 "_law_text" (spText11 K) := ⟨_, _, _, ok_text11 F_law_text TTx C_law_draw C_law_aim C_box, PySem.W.mg_of X G a_law_text, k_law_text, b_law_text⟩
  have C_law_written : Cal l.prog w K mg base 1 "_law_written" (spWritten K) := ⟨_, _, _, ok_written F_law_written TV, PySem.W.mg_of X G a_law_written, k_law_written, b_law_written⟩
  have C_law_read : Cal l.prog w K mg base 4 "_law_read" (spLRead K) := ⟨_, _, _, ok_lread F_law_read TV C_law_list C_law_written C_read_commands, PySem.W.mg_of X G a_law_read, k_law_read, b_law_read⟩
  have Z_law_after : Cal l.prog w K mg base 1 "_law_after" (zAfter11 K) := by
    rw [zAfter11_eq]
    exact ⟨_, _, _, ok_after F_law_after TA, PySem.W.mg_of X G a_law_after, k_law_after, b_law_after⟩
  have Z_law_near : Cal l.prog w K mg base 3 "_law_near" (zNear K) := by
    rw [zNear_eq]
    exact ⟨_, _, _, ok_near F_law_near TNr C_law_draw C_law_list, PySem.W.mg_of X G a_law_near, k_law_near, b_law_near⟩
  have Z_law_far : Cal l.prog w K mg base 1 "_law_far" (zFar11 K) := by
    rw [zFar11_eq]
    exact ⟨_, _, _, ok_far F_law_far, PySem.W.mg_of X G a_law_far, k_law_far, b_law_far⟩
  have G_pair : CalG l.prog w K mg base 8 "_law_pair_right" (zPair K) := by
    rw [zPair_eq]
    exact ⟨_, _, _, ok_pair_right F_law_pair_right TPr Z_same_effect K_same Z_parting K_part C_law_spread Z_law_after C_law_text, PySem.W.mg_of X G a_law_pair_right, k_law_pair_right, b_law_pair_right⟩
  exact ok_law F_law TLw C_law_rng C_law_draw C_law_list C_law_lots Z_law_near Z_law_far Z_same_effect Z_parting G_pair C_law_read C_law_written C_read_commands
theorem walk {l : PySem.W.OpenLaw} {q : Program} {loose : List Str} {XP : (Str → Option Value) → Heap → Prop} {YP : World → Heap → Prop} {d : DefRec} {K : Params → PySem.W.Frag} (hn : l.most = some 63) (hdf : d.params.defaults = [])
    (hY : ∀ (w : World) (h : Heap), YP w h → (K w.params).In h)
    (F : ∀ (w : World) (mg : Str → Option Value) (fa : Addr) (h : Heap), (K w.params).In h → h.Ns mainGlobals mg → mg d.name = some (.ref fa) →
      ∃ fd : FuncData, (∀ (s : Shared) (u : Value), BindsTo s fd ⟨[u], []⟩ [("script", u)]) ∧ ∀ base : Heap, (K w.params).In base → base.Ns mainGlobals mg → FnG l.prog w (K w.params) mg base 9 fa fd ["script"] (spLaw (K w.params))) :
    PySem.W.WalkO q loose XP YP l.row.toRowW d [] (fun f vs => PySem.call f vs) :=
  walk_G (n := 63) (k := 9) (x := "script") (sp := fun w => spLaw (K w.params)) hn (by decide) hdf ⟨rfl, by decide, by decide⟩ hY F fun _ _ a ns hl _ hS => ⟨a, ns, rfl, hS, hl, fun _ => rfl⟩
end Gc

open PySem PySem.W PyProof.Rows in
set_option maxRecDepth 100000 in
set_option maxHeartbeats 0 in
theorem PySem.Challenge.cw_goalcolumn_k11_lists_that_differ_holds : PySem.Challenge.rw_goalcolumn_k11_lists_that_differ.Holds := by
  w_on; o_law; k_head; (case hw => w_witness2)
  k_fill
  refine Gc.walk (l := PySem.Challenge.rw_goalcolumn_k11_lists_that_differ) rfl rfl (fun w h Y => PySem.W.kIn_of Y) ?F
  case F =>
    intro w mg fa h KX G hmg
    refine' Gc.all_mk KX G hmg ?aWN ?aWO ?lWN ?lWO ?a_is_count ?l_is_count ?c_is_count ?k_is_count ?a_is_command ?l_is_command ?c_is_command ?k_is_command ?a_check_commands ?l_check_commands ?c_check_commands ?k_check_commands ?a_check_number ?l_check_number ?c_check_number ?k_check_number ?a_row_change ?l_row_change ?c_row_change ?k_row_change ?a_reach ?l_reach ?c_reach ?k_reach ?a_require ?l_require ?c_require ?k_require ?a_box ?l_box ?c_box ?k_box ?a_least_text ?l_least_text ?c_least_text ?k_least_text ?a_add_piece ?l_add_piece ?c_add_piece ?k_add_piece ?a_pieces ?l_pieces ?c_pieces ?k_pieces ?a_form ?l_form ?c_form ?k_form ?a_same_effect ?l_same_effect ?c_same_effect ?k_same_effect ?a_parting ?l_parting ?c_parting ?k_parting ?a_parting_of_reaches ?l_parting_of_reaches ?c_parting_of_reaches ?k_parting_of_reaches ?a_rows_between ?l_rows_between ?c_rows_between ?k_rows_between ?a_differing_goal ?l_differing_goal ?c_differing_goal ?k_differing_goal ?a_differ ?l_differ ?c_differ ?k_differ ?a_check_text ?l_check_text ?c_check_text ?k_check_text ?a_check_cursor ?l_check_cursor ?c_check_cursor ?k_check_cursor ?a_run ?l_run ?c_run ?k_run ?a_shown_column ?l_shown_column ?c_shown_column ?k_shown_column ?a_moved ?l_moved ?c_moved ?k_moved ?a_new_goal ?l_new_goal ?c_new_goal ?k_new_goal ?a_is_number ?l_is_number ?c_is_number ?k_is_number ?a_read_command ?l_read_command ?c_read_command ?k_read_command ?a_read_commands ?l_read_commands ?c_read_commands ?k_read_commands ?a_law_rng ?l_law_rng ?c_law_rng ?k_law_rng ?a_law_draw ?l_law_draw ?c_law_draw ?k_law_draw ?a_law_list ?l_law_list ?c_law_list ?k_law_list ?a_law_lots ?l_law_lots ?c_law_lots ?k_law_lots ?a_law_aim ?l_law_aim ?c_law_aim ?k_law_aim ?a_law_near ?l_law_near ?c_law_near ?k_law_near ?a_law_spread ?l_law_spread ?c_law_spread ?k_law_spread ?a_law_after ?l_law_after ?c_law_after ?k_law_after ?a_law_text ?l_law_text ?c_law_text ?k_law_text ?a_law_pair_right ?l_law_pair_right ?c_law_pair_right ?k_law_pair_right ?a_law_written ?l_law_written ?c_law_written ?k_law_written ?a_law_read ?l_law_read ?c_law_read ?k_law_read ?a_law_far ?l_law_far ?c_law_far ?k_law_far ?a_law ?l_law ?c_law ?k_law ?z_isinstance ?z_int ?z_bool ?z_len ?z_enumerate ?z_reversed ?z_sorted ?z_max ?z_min ?z_abs ?z_range ?z_sum ?z_repr ?z_str ?z_all ?z_list ?z_tuple ?z_dict ?aNA ?aNB ?aMD ?lNA ?lNB ?oNA ?oNB
    (case aWN => k_is)
    (case aWO => k_is)
    (case lWN => k_is)
    (case lWO => k_is)
    (case a_is_count => k_is)
    (case l_is_count => k_is)
    (case c_is_count => k_is)
    (case k_is_count => k_is)
    (case a_is_command => k_is)
    (case l_is_command => k_is)
    (case c_is_command => k_is)
    (case k_is_command => k_is)
    (case a_check_commands => k_is)
    (case l_check_commands => k_is)
    (case c_check_commands => k_is)
    (case k_check_commands => k_is)
    (case a_check_number => k_is)
    (case l_check_number => k_is)
    (case c_check_number => k_is)
    (case k_check_number => k_is)
    (case a_row_change => k_is)
    (case l_row_change => k_is)
    (case c_row_change => k_is)
    (case k_row_change => k_is)
    (case a_reach => k_is)
    (case l_reach => k_is)
    (case c_reach => k_is)
    (case k_reach => k_is)
    (case a_require => k_is)
    (case l_require => k_is)
    (case c_require => k_is)
    (case k_require => k_is)
    (case a_box => k_is)
    (case l_box => k_is)
    (case c_box => k_is)
    (case k_box => k_is)
    (case a_least_text => k_is)
    (case l_least_text => k_is)
    (case c_least_text => k_is)
    (case k_least_text => k_is)
    (case a_add_piece => k_is)
    (case l_add_piece => k_is)
    (case c_add_piece => k_is)
    (case k_add_piece => k_is)
    (case a_pieces => k_is)
    (case l_pieces => k_is)
    (case c_pieces => k_is)
    (case k_pieces => k_is)
    (case a_form => k_is)
    (case l_form => k_is)
    (case c_form => k_is)
    (case k_form => k_is)
    (case a_same_effect => k_is)
    (case l_same_effect => k_is)
    (case c_same_effect => k_is)
    (case k_same_effect => k_is)
    (case a_parting => k_is)
    (case l_parting => k_is)
    (case c_parting => k_is)
    (case k_parting => k_is)
    (case a_parting_of_reaches => k_is)
    (case l_parting_of_reaches => k_is)
    (case c_parting_of_reaches => k_is)
    (case k_parting_of_reaches => k_is)
    (case a_rows_between => k_is)
    (case l_rows_between => k_is)
    (case c_rows_between => k_is)
    (case k_rows_between => k_is)
    (case a_differing_goal => k_is)
    (case l_differing_goal => k_is)
    (case c_differing_goal => k_is)
    (case k_differing_goal => k_is)
    (case a_differ => k_is)
    (case l_differ => k_is)
    (case c_differ => k_is)
    (case k_differ => k_is)
    (case a_check_text => k_is)
    (case l_check_text => k_is)
    (case c_check_text => k_is)
    (case k_check_text => k_is)
    (case a_check_cursor => k_is)
    (case l_check_cursor => k_is)
    (case c_check_cursor => k_is)
    (case k_check_cursor => k_is)
    (case a_run => k_is)
    (case l_run => k_is)
    (case c_run => k_is)
    (case k_run => k_is)
    (case a_shown_column => k_is)
    (case l_shown_column => k_is)
    (case c_shown_column => k_is)
    (case k_shown_column => k_is)
    (case a_moved => k_is)
    (case l_moved => k_is)
    (case c_moved => k_is)
    (case k_moved => k_is)
    (case a_new_goal => k_is)
    (case l_new_goal => k_is)
    (case c_new_goal => k_is)
    (case k_new_goal => k_is)
    (case a_is_number => k_is)
    (case l_is_number => k_is)
    (case c_is_number => k_is)
    (case k_is_number => k_is)
    (case a_read_command => k_is)
    (case l_read_command => k_is)
    (case c_read_command => k_is)
    (case k_read_command => k_is)
    (case a_read_commands => k_is)
    (case l_read_commands => k_is)
    (case c_read_commands => k_is)
    (case k_read_commands => k_is)
    (case a_law_rng => k_is)
    (case l_law_rng => k_is)
    (case c_law_rng => k_is)
    (case k_law_rng => k_is)
    (case a_law_draw => k_is)
    (case l_law_draw => k_is)
    (case c_law_draw => k_is)
    (case k_law_draw => k_is)
    (case a_law_list => k_is)
    (case l_law_list => k_is)
    (case c_law_list => k_is)
    (case k_law_list => k_is)
    (case a_law_lots => k_is)
    (case l_law_lots => k_is)
    (case c_law_lots => k_is)
    (case k_law_lots => k_is)
    (case a_law_aim => k_is)
    (case l_law_aim => k_is)
    (case c_law_aim => k_is)
    (case k_law_aim => k_is)
    (case a_law_near => k_is)
    (case l_law_near => k_is)
    (case c_law_near => k_is)
    (case k_law_near => k_is)
    (case a_law_spread => k_is)
    (case l_law_spread => k_is)
    (case c_law_spread => k_is)
    (case k_law_spread => k_is)
    (case a_law_after => k_is)
    (case l_law_after => k_is)
    (case c_law_after => k_is)
    (case k_law_after => k_is)
    (case a_law_text => k_is)
    (case l_law_text => k_is)
    (case c_law_text => k_is)
    (case k_law_text => k_is)
    (case a_law_pair_right => k_is)
    (case l_law_pair_right => k_is)
    (case c_law_pair_right => k_is)
    (case k_law_pair_right => k_is)
    (case a_law_written => k_is)
    (case l_law_written => k_is)
    (case c_law_written => k_is)
    (case k_law_written => k_is)
    (case a_law_read => k_is)
    (case l_law_read => k_is)
    (case c_law_read => k_is)
    (case k_law_read => k_is)
    (case a_law_far => k_is)
    (case l_law_far => k_is)
    (case c_law_far => k_is)
    (case k_law_far => k_is)
    (case a_law => k_is)
    (case l_law => k_is)
    (case c_law => k_is)
    (case k_law => k_is)
    (case z_isinstance => k_is)
    (case z_int => k_is)
    (case z_bool => k_is)
    (case z_len => k_is)
    (case z_enumerate => k_is)
    (case z_reversed => k_is)
    (case z_sorted => k_is)
    (case z_max => k_is)
    (case z_min => k_is)
    (case z_abs => k_is)
    (case z_range => k_is)
    (case z_sum => k_is)
    (case z_repr => k_is)
    (case z_str => k_is)
    (case z_all => k_is)
    (case z_list => k_is)
    (case z_tuple => k_is)
    (case z_dict => k_is)
    (case aNA => k_is)
    (case aNB => k_is)
    (case aMD => k_is)
    (case lNA => k_is)
    (case lNB => k_is)
    (case oNA => rfl)
    (case oNB => rfl)
