import PyProof.Rows.All
import Wide.All
import OpenK.AllK
import Wide.FinOn
import KE.SortData
import HandS.Base
import HandS.Call
import HandS.List
import HandS.Dict
import HandS.Words
import HandS.DictTup
import PyProof.RulesMatch
import HandS.Comp
import HandS.Iter
import HandS.Flow
import HandS.Rev
import HandS.Walk
import HandS.WordsList
import HandS.WordsDict
import HandS.IsInst
import HandS.Wide
import HandS.Codes
import HandS.Style
import HandS.Text
import HandS.StrMore
import HandS.Exc
import HandS.ExcOwn
import HandS.ExcInit
import HandS.ExcField
import HandS.WordsExc
import HandS.HotCalls
import KE.KIsAll
import KE.KExcIs
import PyProof.Rows.TupIter
import HandS.ExcCtx
import HandS.More
import HandS.Sort
import HandS.TryOnly
import PyProof.StrOps2
import HandS.ExcIs
import PySem.Challenge.RW_goalcolumn_k41_texts_read
set_option Elab.async false
set_option linter.all false
set_option maxRecDepth 100000
set_option maxHeartbeats 4000000
/-! boxes of lists of commands: what the program reckons, over plain lists; and the laws of it -/
namespace Gc
inductive Cmd where
  | down (n : Int) | up (n : Int) | right (n : Int) | left (n : Int) | home | stop
  deriving DecidableEq
def Cmd.dv : Cmd → Int
  | .down n => n
  | .up n => -n
  | _ => 0
def Cmd.ok : Cmd → Prop
  | .down n => 1 ≤ n
  | .up n => 1 ≤ n
  | .right n => 1 ≤ n
  | .left n => 1 ≤ n
  | _ => True
def last (cs : List Cmd) : Int := (cs.map Cmd.dv).sum
abbrev Ps := List (Int × Int)
def leK (p q : Int × Int) : Bool := decide (p.1 < q.1 ∨ (p.1 = q.1 ∧ p.2 ≤ q.2))
def look (b : Ps) (k : Int) : Option Int := (b.find? fun q => q.1 = k).map (·.2)
def put (b : Ps) (k v : Int) : Ps := if b.any (fun q => q.1 = k) then b.map (fun q => if q.1 = k then (q.1, v) else q) else b ++ [(k, v)]
def mx (i j : Int) : Int := if j > i then j else i
def req (b : Ps) (o v : Int) : Ps := put b o (mx v ((look b o).getD v))
def go : List Cmd → Int → Int → Ps → Option (Option Int × Ps)
  | [], _, need, b => some (some need, b)
  | .home :: _, _, _, _ => none
  | .stop :: _, _, _, b => some (none, b)
  | .right n :: r, off, need, b => if need > n then go r off (need - n) (req b off need) else some (none, req b off need)
  | .left n :: r, off, need, b => go r off (need + n) (req b off (need + n))
  | .down n :: r, off, need, b => go r (off - n) need b
  | .up n :: r, off, need, b => go r (off + n) need b
def srt (x : Option Int × Ps) : Option Int × Ps := (x.1, x.2.mergeSort leK)
def boxM (cs : List Cmd) (goal : Int) : Option (Option Int × Ps) := (go cs.reverse (last cs) goal []).map srt

/-! ### association lists as functions -/
def val (b : Ps) (k : Int) : Int := (look b k).getD 0
def keys (b : Ps) : List Int := b.map (·.1)
structure Good (b : Ps) : Prop where
  nd : (keys b).Nodup
  pos : ∀ q ∈ b, 1 ≤ q.2
theorem good_nil : Good [] := ⟨List.nodup_nil, fun _ h => nomatch h⟩
theorem look_nil (k : Int) : look [] k = none := rfl
theorem look_cons (q : Int × Int) (b : Ps) (k : Int) : look (q :: b) k = if q.1 = k then some q.2 else look b k := by
  unfold look
  rw [List.find?_cons]
  by_cases h : q.1 = k
  · simp [h]
  · simp [h]
theorem look_none {b : Ps} {k : Int} : look b k = none ↔ k ∉ keys b := by
  induction b with
  | nil => simp [look, keys]
  | cons q b ih =>
    rw [look_cons]
    by_cases h : q.1 = k
    · rw [if_pos h]
      simp [keys, h]
    · rw [if_neg h, ih]
      simp only [keys, List.map_cons, List.mem_cons, not_or]
      exact ⟨fun x => ⟨fun e => h e.symm, x⟩, fun x => x.2⟩
theorem look_mem {b : Ps} {k v : Int} (h : look b k = some v) : (k, v) ∈ b := by
  induction b with
  | nil => cases h
  | cons q b ih =>
    rw [look_cons] at h
    by_cases e : q.1 = k
    · rw [if_pos e] at h
      have e2 := Option.some.inj h
      rw [← e, ← e2]
      exact List.mem_cons_self
    · rw [if_neg e] at h
      exact List.mem_cons_of_mem _ (ih h)
theorem mem_look {b : Ps} {q : Int × Int} (n : (keys b).Nodup) (h : q ∈ b) : look b q.1 = some q.2 := by
  induction b with
  | nil => cases h
  | cons p b ih =>
    have n' : p.1 ∉ keys b ∧ (keys b).Nodup := List.nodup_cons.mp n
    rw [look_cons]
    rcases List.mem_cons.mp h with e | h
    · rw [e, if_pos rfl]
    · have ne : p.1 ≠ q.1 := fun e => n'.1 (by rw [e]; exact List.mem_map.mpr ⟨q, h, rfl⟩)
      rw [if_neg ne]
      exact ih n'.2 h
theorem any_key (b : Ps) (k : Int) : b.any (fun q => q.1 = k) = true ↔ k ∈ keys b := by
  simp [keys, List.any_eq_true]
theorem look_put (b : Ps) (k v j : Int) : look (put b k v) j = if k = j then some v else look b j := by
  unfold put
  by_cases h : b.any (fun q => q.1 = k) = true
  · rw [if_pos h]
    induction b with
    | nil => simp at h
    | cons q b ih =>
      rw [List.map_cons, look_cons, look_cons]
      by_cases e : q.1 = k
      · rw [if_pos e]
        by_cases e2 : k = j
        · simp [e, e2]
        · simp only [e, e2, if_false]
          by_cases hb : b.any (fun q => q.1 = k) = true
          · rw [ih hb, if_neg e2]
          · have nm : ∀ p ∈ b, ¬ p.1 = k := fun p hp z => hb (List.any_eq_true.mpr ⟨p, hp, by simpa using z⟩)
            have em : b.map (fun q => if q.1 = k then (q.1, v) else q) = b := by
              conv => rhs; rw [← List.map_id b]
              exact List.map_congr_left fun p hp => by simp [nm p hp]
            rw [em]
      · rw [if_neg e]
        have hb : b.any (fun q => q.1 = k) = true := by
          rw [List.any_cons] at h
          simpa [e] using h
        by_cases e2 : q.1 = j
        · have e3 : ¬ k = j := fun z => e (e2.trans z.symm)
          simp [e2, e3]
        · simp only [e2, if_false]
          exact ih hb
  · rw [if_neg h]
    have nk : k ∉ keys b := fun z => h ((any_key b k).mpr z)
    clear h
    induction b with
    | nil =>
      show look [(k, v)] j = _
      rw [look_cons]
    | cons q b ih =>
      have n1 : ¬ q.1 = k := fun z => nk (by simp [keys, z])
      have n2 : k ∉ keys b := fun z => nk (List.mem_cons_of_mem _ z)
      rw [List.cons_append, look_cons, look_cons]
      by_cases e2 : q.1 = j
      · have e3 : ¬ k = j := fun z => n1 (e2.trans z.symm)
        simp [e2, e3]
      · simp only [e2, if_false]
        exact ih n2
theorem keys_put (b : Ps) (k v : Int) : keys (put b k v) = if k ∈ keys b then keys b else keys b ++ [k] := by
  unfold put
  by_cases h : b.any (fun q => q.1 = k) = true
  · rw [if_pos h, if_pos ((any_key b k).mp h)]
    unfold keys
    rw [List.map_map]
    refine List.map_congr_left fun p _ => ?_
    show (if p.1 = k then (p.1, v) else p).1 = p.1
    split <;> rfl
  · rw [if_neg h, if_neg fun z => h ((any_key b k).mpr z)]
    simp [keys]
theorem good_put {b : Ps} {k v : Int} (g : Good b) (hv : 1 ≤ v) : Good (put b k v) := by
  have nd : (keys (put b k v)).Nodup := by
    rw [keys_put]
    split
    · exact g.nd
    · rename_i h
      rw [List.nodup_append]
      exact ⟨g.nd, by simp, fun a ha c hc => by
        rw [List.mem_singleton.mp hc]
        intro z
        exact h (z ▸ ha)⟩
  refine ⟨nd, fun q hq => ?_⟩
  have e := mem_look nd hq
  rw [look_put] at e
  split at e
  · rw [← Option.some.inj e]
    exact hv
  · exact g.pos (q.1, q.2) (look_mem e)
theorem val_nonneg {b : Ps} (g : Good b) (k : Int) : 0 ≤ val b k := by
  unfold val
  cases e : look b k with
  | none => exact Int.le_refl 0
  | some v =>
    have := g.pos _ (look_mem e)
    show 0 ≤ v
    have h : 1 ≤ v := this
    omega
theorem val_put (b : Ps) (k v j : Int) : val (put b k v) j = if k = j then v else val b j := by
  unfold val
  rw [look_put]
  split <;> rfl
/-- require, on functions -/
def reqF (f : Int → Int) (o v : Int) : Int → Int := fun k => if o = k then max v (f k) else f k
theorem val_req {b : Ps} (g : Good b) {o v : Int} (hv : 1 ≤ v) : val (req b o v) = reqF (val b) o v := by
  funext k
  unfold req reqF
  rw [val_put]
  by_cases h : o = k
  · subst h
    rw [if_pos rfl, if_pos rfl]
    unfold val mx
    cases e : look b o with
    | none =>
      show (if v > v then v else v) = max v 0
      rw [if_neg (by omega)]
      omega
    | some x =>
      show (if x > v then x else v) = max v x
      split <;> omega
  · rw [if_neg h, if_neg h]
theorem good_req {b : Ps} (g : Good b) {o v : Int} (hv : 1 ≤ v) : Good (req b o v) := by
  refine good_put g ?_
  unfold mx
  split <;> omega

/-! ### the walk, on functions -/
def goF : List Cmd → Int → Int → (Int → Int) → Option (Option Int × (Int → Int))
  | [], _, need, f => some (some need, f)
  | .home :: _, _, _, _ => none
  | .stop :: _, _, _, f => some (none, f)
  | .right n :: r, off, need, f => if need > n then goF r off (need - n) (reqF f off need) else some (none, reqF f off need)
  | .left n :: r, off, need, f => goF r off (need + n) (reqF f off (need + n))
  | .down n :: r, off, need, f => goF r (off - n) need f
  | .up n :: r, off, need, f => goF r (off + n) need f
def AllOk (cs : List Cmd) : Prop := ∀ c ∈ cs, c.ok
theorem go_goF : ∀ {r : List Cmd} {off need : Int} {b : Ps}, AllOk r → Good b → 1 ≤ need →
    (go r off need b = none ∧ goF r off need (val b) = none) ∨ ∃ st b', go r off need b = some (st, b') ∧ Good b' ∧ goF r off need (val b) = some (st, val b') ∧ ∀ n, st = some n → 1 ≤ n
  | [], off, need, b, _, g, hn => .inr ⟨_, _, rfl, g, rfl, fun n e => by rw [← Option.some.inj e]; exact hn⟩
  | .home :: r, off, need, b, _, g, hn => .inl ⟨rfl, rfl⟩
  | .stop :: r, off, need, b, _, g, hn => .inr ⟨_, _, rfl, g, rfl, fun n e => nomatch e⟩
  | .right n :: r, off, need, b, hk, g, hn => by
    have hk' : AllOk r := fun c hc => hk c (List.mem_cons_of_mem _ hc)
    simp only [go, goF]
    by_cases h : need > n
    · rw [if_pos h, if_pos h, ← val_req g hn]
      exact go_goF hk' (good_req g hn) (by omega)
    · rw [if_neg h, if_neg h, ← val_req g hn]
      exact .inr ⟨_, _, rfl, good_req g hn, rfl, fun n e => nomatch e⟩
  | .left n :: r, off, need, b, hk, g, hn => by
    have hk' : AllOk r := fun c hc => hk c (List.mem_cons_of_mem _ hc)
    have h1 : 1 ≤ n := hk _ List.mem_cons_self
    simp only [go, goF]
    rw [← val_req g (by omega)]
    exact go_goF hk' (good_req g (by omega)) (by omega)
  | .down n :: r, off, need, b, hk, g, hn => go_goF (r := r) (fun c hc => hk c (List.mem_cons_of_mem _ hc)) g hn
  | .up n :: r, off, need, b, hk, g, hn => go_goF (r := r) (fun c hc => hk c (List.mem_cons_of_mem _ hc)) g hn

/-! ### ascending lists are told by their functions -/
def Asc (b : Ps) : Prop := b.Pairwise fun p q => p.1 < q.1
theorem asc_nd {b : Ps} (h : Asc b) : (keys b).Nodup := by
  unfold keys
  rw [List.nodup_iff_pairwise_ne, List.pairwise_map]
  exact h.imp fun h => Int.ne_of_lt h
theorem leK_trans (a b c : Int × Int) (h1 : leK a b = true) (h2 : leK b c = true) : leK a c = true := by
  unfold leK at *
  have a1 := of_decide_eq_true h1
  have a2 := of_decide_eq_true h2
  exact decide_eq_true (by omega)
theorem leK_total (a b : Int × Int) : (leK a b || leK b a) = true := by
  unfold leK
  by_cases h : a.1 < b.1 ∨ (a.1 = b.1 ∧ a.2 ≤ b.2)
  · rw [decide_eq_true h]
    rfl
  · rw [decide_eq_true (show b.1 < a.1 ∨ (b.1 = a.1 ∧ b.2 ≤ a.2) by omega), Bool.or_true]
theorem asc_sort {b : Ps} (g : Good b) : Asc (b.mergeSort leK) := by
  have p := List.pairwise_mergeSort (le := leK) leK_trans leK_total b
  have pm := List.mergeSort_perm b leK
  have nd : (keys (b.mergeSort leK)).Nodup := (pm.map (fun q : Int × Int => q.1)).nodup_iff.mpr g.nd
  unfold keys at nd
  rw [List.nodup_iff_pairwise_ne, List.pairwise_map] at nd
  refine (p.and nd).imp fun h => ?_
  have a := of_decide_eq_true h.1
  have c := h.2
  omega
theorem good_perm {b c : Ps} (g : Good b) (p : c.Perm b) : Good c := ⟨(p.map (fun q : Int × Int => q.1)).nodup_iff.mpr g.nd, fun q hq => g.pos q (p.mem_iff.mp hq)⟩
theorem look_perm {b c : Ps} (g : Good b) (p : c.Perm b) (k : Int) : look c k = look b k := by
  have g' := good_perm g p
  cases e : look b k with
  | none =>
    rw [look_none] at e ⊢
    exact fun z => e ((p.map (fun q : Int × Int => q.1)).mem_iff.mp z)
  | some v => exact mem_look g'.nd (p.mem_iff.mpr (look_mem e))
theorem val_perm {b c : Ps} (g : Good b) (p : c.Perm b) : val c = val b := by
  funext k
  unfold val
  rw [look_perm g p]
theorem look_val {b c : Ps} (gb : Good b) (gc : Good c) (h : val b = val c) (k : Int) : look b k = look c k := by
  have e := congrFun h k
  unfold val at e
  cases e1 : look b k with
  | none =>
    cases e2 : look c k with
    | none => rfl
    | some v =>
      rw [e1, e2] at e
      have : 1 ≤ v := gc.pos _ (look_mem e2)
      have e' : (0 : Int) = v := e
      omega
  | some u =>
    cases e2 : look c k with
    | none =>
      rw [e1, e2] at e
      have : 1 ≤ u := gb.pos _ (look_mem e1)
      have e' : u = (0 : Int) := e
      omega
    | some v =>
      rw [e1, e2] at e
      have e' : u = v := e
      rw [e']
theorem asc_ext : ∀ {b c : Ps}, Asc b → Asc c → (∀ k, look b k = look c k) → b = c
  | [], [], _, _, _ => rfl
  | [], q :: c, _, _, h => by
    have e := h q.1
    rw [look_cons, if_pos rfl] at e
    cases e
  | q :: b, [], _, _, h => by
    have e := h q.1
    rw [look_cons, if_pos rfl] at e
    cases e
  | p :: b, q :: c, hb, hc, h => by
    have hb' := List.pairwise_cons.mp hb
    have hc' := List.pairwise_cons.mp hc
    have e1 := h p.1
    rw [look_cons, if_pos rfl, look_cons] at e1
    have e2 := h q.1
    rw [look_cons, look_cons, if_pos rfl] at e2
    have key : p.1 = q.1 := by
      by_cases x : q.1 = p.1
      · exact x.symm
      · rw [if_neg x] at e1
        rw [if_neg fun z => x z.symm] at e2
        have m1 := hc'.1 _ (look_mem e1.symm)
        have m2 := hb'.1 _ (look_mem e2)
        have m1' : q.1 < p.1 := m1
        have m2' : p.1 < q.1 := m2
        omega
    rw [if_pos key.symm] at e1
    have hpq : p = q := Prod.ext key (Option.some.inj e1)
    subst hpq
    rw [asc_ext hb'.2 hc'.2 fun k => ?_]
    have e := h k
    rw [look_cons, look_cons] at e
    by_cases x : p.1 = k
    · have n1 : look b k = none := look_none.mpr fun z => by
        obtain ⟨r, hr, er⟩ := List.mem_map.mp z
        have := hb'.1 r hr
        omega
      have n2 : look c k = none := look_none.mpr fun z => by
        obtain ⟨r, hr, er⟩ := List.mem_map.mp z
        have := hc'.1 r hr
        omega
      rw [n1, n2]
    · rw [if_neg x, if_neg x] at e
      exact e
theorem sort_ext {b c : Ps} (gb : Good b) (gc : Good c) (h : val b = val c) : b.mergeSort leK = c.mergeSort leK :=
  asc_ext (asc_sort gb) (asc_sort gc) fun k => by
    rw [look_perm gb (List.mergeSort_perm b leK), look_perm gc (List.mergeSort_perm c leK)]
    exact look_val gb gc h k
end Gc

/-! laws of boxes: joined lists, greater goals, multiplied moves -/
namespace Gc
abbrev BF := Option (Option Int × (Int → Int))
def boxF (cs : List Cmd) (goal : Int) : BF := goF cs.reverse (last cs) goal fun _ => 0
theorem val_nil : val [] = fun _ => 0 := rfl
theorem allOk_rev {cs : List Cmd} (h : AllOk cs) : AllOk cs.reverse := fun c hc => h c (List.mem_reverse.mp hc)
theorem box_spec {cs : List Cmd} {goal : Int} (h : AllOk cs) (hg : 1 ≤ goal) :
    (boxM cs goal = none ∧ boxF cs goal = none) ∨ ∃ st b, boxM cs goal = some (st, b.mergeSort leK) ∧ Good b ∧ boxF cs goal = some (st, val b) ∧ ∀ n, st = some n → 1 ≤ n := by
  unfold boxM boxF
  rw [← val_nil]
  rcases go_goF (off := last cs) (allOk_rev h) good_nil hg with ⟨e1, e2⟩ | ⟨st, b, e1, g, e2, p⟩
  · exact .inl ⟨by rw [e1]; rfl, e2⟩
  · exact .inr ⟨st, b, by rw [e1]; rfl, g, e2, p⟩
def thenF (x : BF) (k : Int → (Int → Int) → BF) : BF := match x with
  | none => none
  | some (none, g) => some (none, g)
  | some (some n, g) => k n g
theorem goF_app : ∀ (a b : List Cmd) (off need : Int) (f : Int → Int), goF (a ++ b) off need f = thenF (goF a off need f) fun n g => goF b (off - (a.map Cmd.dv).sum) n g
  | [], b, off, need, f => by
    show goF b off need f = goF b (off - 0) need f
    rw [Int.sub_zero]
  | .home :: a, b, off, need, f => rfl
  | .stop :: a, b, off, need, f => rfl
  | .right n :: a, b, off, need, f => by
    have e : off - (((Cmd.right n :: a).map Cmd.dv).sum) = off - (a.map Cmd.dv).sum := by
      rw [List.map_cons, List.sum_cons]
      show off - (0 + _) = _
      omega
    rw [e, List.cons_append]
    simp only [goF]
    by_cases h : need > n
    · rw [if_pos h, if_pos h]
      exact goF_app a b off (need - n) _
    · rw [if_neg h, if_neg h]
      rfl
  | .left n :: a, b, off, need, f => by
    have e : off - (((Cmd.left n :: a).map Cmd.dv).sum) = off - (a.map Cmd.dv).sum := by
      rw [List.map_cons, List.sum_cons]
      show off - (0 + _) = _
      omega
    rw [e, List.cons_append]
    exact goF_app a b off (need + n) _
  | .down n :: a, b, off, need, f => by
    have e : off - (((Cmd.down n :: a).map Cmd.dv).sum) = off - n - (a.map Cmd.dv).sum := by
      rw [List.map_cons, List.sum_cons]
      show off - (n + _) = _
      omega
    rw [e, List.cons_append]
    exact goF_app a b (off - n) need f
  | .up n :: a, b, off, need, f => by
    have e : off - (((Cmd.up n :: a).map Cmd.dv).sum) = off + n - (a.map Cmd.dv).sum := by
      rw [List.map_cons, List.sum_cons]
      show off - (-n + _) = _
      omega
    rw [e, List.cons_append]
    exact goF_app a b (off + n) need f
theorem goF_shift (d : Int) : ∀ (r : List Cmd) (off need : Int) (f : Int → Int), goF r (off + d) need (fun k => f (k - d)) = (goF r off need f).map fun x => (x.1, fun k => x.2 (k - d))
  | [], off, need, f => rfl
  | .home :: r, off, need, f => rfl
  | .stop :: r, off, need, f => rfl
  | .right n :: r, off, need, f => by
    have e : reqF (fun k => f (k - d)) (off + d) need = fun k => reqF f off need (k - d) := by
      funext k
      unfold reqF
      by_cases h : off + d = k
      · rw [if_pos h, if_pos (by omega)]
      · rw [if_neg h, if_neg (by omega)]
    simp only [goF]
    rw [e]
    by_cases h : need > n
    · rw [if_pos h, if_pos h]
      exact goF_shift d r off (need - n) _
    · rw [if_neg h, if_neg h]
      rfl
  | .left n :: r, off, need, f => by
    have e : reqF (fun k => f (k - d)) (off + d) (need + n) = fun k => reqF f off (need + n) (k - d) := by
      funext k
      unfold reqF
      by_cases h : off + d = k
      · rw [if_pos h, if_pos (by omega)]
      · rw [if_neg h, if_neg (by omega)]
    simp only [goF]
    rw [e]
    exact goF_shift d r off (need + n) _
  | .down n :: r, off, need, f => by
    simp only [goF]
    rw [show off + d - n = off - n + d by omega]
    exact goF_shift d r (off - n) need f
  | .up n :: r, off, need, f => by
    simp only [goF]
    rw [show off + d + n = off + n + d by omega]
    exact goF_shift d r (off + n) need f
theorem goF_max (h : Int → Int) : ∀ (r : List Cmd) (off need : Int) (f : Int → Int), goF r off need (fun k => max (f k) (h k)) = (goF r off need f).map fun x => (x.1, fun k => max (x.2 k) (h k))
  | [], off, need, f => rfl
  | .home :: r, off, need, f => rfl
  | .stop :: r, off, need, f => rfl
  | .right n :: r, off, need, f => by
    have e : reqF (fun k => max (f k) (h k)) off need = fun k => max (reqF f off need k) (h k) := by
      funext k
      unfold reqF
      show (if _ then _ else _) = _
      by_cases q : off = k
      · simp only [q, if_true]
        rw [Int.max_assoc]
      · simp only [q, if_false]
    simp only [goF]
    rw [e]
    by_cases c : need > n
    · rw [if_pos c, if_pos c]
      exact goF_max h r off (need - n) _
    · rw [if_neg c, if_neg c]
      rfl
  | .left n :: r, off, need, f => by
    have e : reqF (fun k => max (f k) (h k)) off (need + n) = fun k => max (reqF f off (need + n) k) (h k) := by
      funext k
      unfold reqF
      show (if _ then _ else _) = _
      by_cases q : off = k
      · simp only [q, if_true]
        rw [Int.max_assoc]
      · simp only [q, if_false]
    simp only [goF]
    rw [e]
    exact goF_max h r off (need + n) _
  | .down n :: r, off, need, f => goF_max h r (off - n) need f
  | .up n :: r, off, need, f => goF_max h r (off + n) need f
theorem last_app (a b : List Cmd) : last (a ++ b) = last a + last b := by
  unfold last
  rw [List.map_append, List.sum_append]
theorem sum_rev (l : List Int) : l.reverse.sum = l.sum := by
  induction l with
  | nil => rfl
  | cons a l ih =>
    rw [List.reverse_cons, List.sum_append, ih, List.sum_cons]
    simp
    omega
theorem boxF_app (early late : List Cmd) (aim : Int) (pos : ∀ st g, boxF late aim = some (st, g) → ∀ k, 0 ≤ g k) :
    boxF (early ++ late) aim = match boxF late aim with
      | none => none
      | some (none, g) => some (none, fun k => g (k - last early))
      | some (some n, g) => (boxF early n).map fun x => (x.1, fun k => max (x.2 k) (g (k - last early))) := by
  unfold boxF
  rw [List.reverse_append, goF_app, last_app, Int.add_comm (last early)]
  have sh : goF late.reverse (last late + last early) aim (fun _ => 0) = (goF late.reverse (last late) aim fun _ => 0).map fun x => (x.1, fun k => x.2 (k - last early)) :=
    goF_shift (last early) late.reverse (last late) aim fun _ => 0
  rw [sh]
  have pos' := pos
  unfold boxF at pos'
  cases e : goF late.reverse (last late) aim (fun _ => 0) with
  | none => rfl
  | some x =>
    obtain ⟨st, g⟩ := x
    cases st with
    | none => rfl
    | some n =>
      show goF early.reverse (last late + last early - (late.reverse.map Cmd.dv).sum) n (fun k => g (k - last early)) = _
      have es : (late.reverse.map Cmd.dv).sum = last late := by
        rw [List.map_reverse, sum_rev]
        rfl
      rw [es, show last late + last early - last late = last early by omega]
      have em : (fun k => g (k - last early)) = fun k => max ((fun _ => 0 : Int → Int) k) (g (k - last early)) := by
        funext k
        have := pos' _ _ e (k - last early)
        show g (k - last early) = max 0 (g (k - last early))
        omega
      rw [em, goF_max]

/-! ### the law's own joining -/
def shiftK (d : Int) (b : Ps) : Ps := b.map fun q => (q.1 + d, q.2)
def addAll (b : Ps) (l : Ps) : Ps := l.foldl (fun b q => put b q.1 (mx q.2 ((look b q.1).getD 0))) b
def joinedM (early late : List Cmd) (gone aim : Int) : Option (Option Int × Ps) := match boxM late aim with
  | none => none
  | some (none, l) => some (none, (shiftK gone l).mergeSort leK)
  | some (some n, l) => match boxM early n with
    | none => none
    | some (st, m) => some (st, (addAll (shiftK gone l) m).mergeSort leK)
theorem look_shift (d : Int) : ∀ (b : Ps) (k : Int), look (shiftK d b) k = look b (k - d)
  | [], _ => rfl
  | q :: b, k => by
    show look ((q.1 + d, q.2) :: shiftK d b) k = _
    rw [look_cons, look_cons, look_shift d b]
    by_cases h : q.1 + d = k
    · rw [if_pos h, if_pos (by omega)]
    · rw [if_neg h, if_neg (by omega)]
theorem good_shift (d : Int) {b : Ps} (g : Good b) : Good (shiftK d b) := by
  refine ⟨?_, fun q hq => ?_⟩
  · have e : keys (shiftK d b) = (keys b).map (· + d) := by
      unfold keys shiftK
      rw [List.map_map, List.map_map]
      rfl
    rw [e, List.nodup_iff_pairwise_ne, List.pairwise_map]
    exact (List.nodup_iff_pairwise_ne.mp g.nd).imp fun h => by omega
  · obtain ⟨p, hp, rfl⟩ := List.mem_map.mp hq
    exact g.pos p hp
theorem val_shift (d : Int) (b : Ps) : val (shiftK d b) = fun k => val b (k - d) := by
  funext k
  unfold val
  rw [look_shift]
theorem val_cons (q : Int × Int) (b : Ps) (k : Int) : val (q :: b) k = if q.1 = k then q.2 else val b k := by
  unfold val
  rw [look_cons]
  split <;> rfl
theorem val_out {b : Ps} {k : Int} (h : k ∉ keys b) : val b k = 0 := by
  unfold val
  rw [look_none.mpr h]
  rfl
theorem addAll_good : ∀ {l b : Ps}, Good b → Good l → Good (addAll b l) ∧ ∀ k, val (addAll b l) k = max (val l k) (val b k)
  | [], b, gb, _ => ⟨gb, fun k => by
      have := val_nonneg gb k
      show val b k = max 0 (val b k)
      omega⟩
  | q :: l, b, gb, gl => by
    have nq : q.1 ∉ keys l ∧ (keys l).Nodup := List.nodup_cons.mp gl.nd
    have p1 : 1 ≤ q.2 := gl.pos q List.mem_cons_self
    have gl' : Good l := ⟨nq.2, fun p hp => gl.pos p (List.mem_cons_of_mem _ hp)⟩
    have hv : 1 ≤ mx q.2 ((look b q.1).getD 0) := by
      unfold mx
      split <;> omega
    obtain ⟨g, v⟩ := addAll_good (b := put b q.1 (mx q.2 ((look b q.1).getD 0))) (good_put gb hv) gl'
    refine ⟨g, fun k => ?_⟩
    show val (addAll (put b q.1 (mx q.2 ((look b q.1).getD 0))) l) k = _
    rw [v k, val_put, val_cons]
    by_cases h : q.1 = k
    · subst h
      rw [if_pos rfl, if_pos rfl, val_out nq.1]
      have : mx q.2 ((look b q.1).getD 0) = max q.2 (val b q.1) := by
        unfold mx val
        split <;> omega
      rw [this]
      omega
    · rw [if_neg h, if_neg h]
theorem joined (early late : List Cmd) {aim : Int} (he : AllOk early) (hl : AllOk late) (ha : 1 ≤ aim) : boxM (early ++ late) aim = joinedM early late (last early) aim := by
  have hw : AllOk (early ++ late) := fun c hc => (List.mem_append.mp hc).elim (he c) (hl c)
  have srtd : ∀ {b c : Ps}, Good b → Good c → val b = val c → b.mergeSort leK = c.mergeSort leK := fun gb gc h => sort_ext gb gc h
  rcases box_spec hl ha with ⟨e1, e2⟩ | ⟨st, b, e1, gb, e2, pb⟩
  · have f := boxF_app early late aim fun st g h => by rw [e2] at h; cases h
    rw [e2] at f
    rcases box_spec hw ha with ⟨w1, _⟩ | ⟨_, _, _, _, w2, _⟩
    · rw [w1]
      unfold joinedM
      rw [e1]
    · rw [w2] at f
      cases f
  · have f := boxF_app early late aim fun st g h => by
      rw [e2] at h
      cases h
      exact val_nonneg gb
    rw [e2] at f
    have gs : Good (b.mergeSort leK) := good_perm gb (List.mergeSort_perm b leK)
    have vs : val (b.mergeSort leK) = val b := val_perm gb (List.mergeSort_perm b leK)
    cases st with
    | none =>
      rcases box_spec hw ha with ⟨_, w2⟩ | ⟨st', c, w1, gc, w2, _⟩
      · rw [w2] at f
        cases f
      · rw [w2] at f
        have f' := Option.some.inj f
        have f1 : st' = none := congrArg Prod.fst f'
        have f2 : val c = fun k => val b (k - last early) := congrArg Prod.snd f'
        rw [w1, f1]
        unfold joinedM
        rw [e1]
        show some ((none : Option Int), c.mergeSort leK) = some (none, (shiftK (last early) (b.mergeSort leK)).mergeSort leK)
        rw [srtd gc (good_shift _ gs) (by rw [f2, val_shift, vs])]
    | some n =>
      have hn := pb n rfl
      rcases box_spec he hn with ⟨x1, x2⟩ | ⟨st2, m, x1, gm, x2, _⟩
      · have f' : boxF (early ++ late) aim = (boxF early n).map fun x => (x.1, fun k => max (x.2 k) (val b (k - last early))) := f
        rw [x2] at f'
        rcases box_spec hw ha with ⟨w1, _⟩ | ⟨_, _, _, _, w2, _⟩
        · rw [w1]
          unfold joinedM
          rw [e1]
          show none = match boxM early n with | none => none | some (st, m) => _
          rw [x1]
        · rw [w2] at f'
          cases f'
      · have f' : boxF (early ++ late) aim = (boxF early n).map fun x => (x.1, fun k => max (x.2 k) (val b (k - last early))) := f
        rw [x2] at f'
        rcases box_spec hw ha with ⟨_, w2⟩ | ⟨st', c, w1, gc, w2, _⟩
        · rw [w2] at f'
          cases f'
        · rw [w2] at f'
          have f3 := Option.some.inj f'
          have f1 : st' = st2 := congrArg Prod.fst f3
          have f2 : val c = fun k => max (val m k) (val b (k - last early)) := congrArg Prod.snd f3
          rw [w1, f1]
          unfold joinedM
          rw [e1]
          show some (st2, c.mergeSort leK) = match boxM early n with | none => none | some (st, m) => _
          rw [x1]
          show some (st2, c.mergeSort leK) = some (st2, (addAll (shiftK (last early) (b.mergeSort leK)) (m.mergeSort leK)).mergeSort leK)
          have gms : Good (m.mergeSort leK) := good_perm gm (List.mergeSort_perm m leK)
          obtain ⟨ga, va⟩ := addAll_good (good_shift (last early) gs) gms
          rw [srtd gc ga (by
            funext k
            rw [f2, va k, val_perm gm (List.mergeSort_perm m leK), val_shift, vs])]

/-! ### a greater goal -/
theorem reqF_mono {f g : Int → Int} {o v u : Int} (h : ∀ k, f k ≤ g k) (hv : v ≤ u) (k : Int) : reqF f o v k ≤ reqF g o u k := by
  have := h k
  unfold reqF
  split <;> omega
theorem reqF_ge (f : Int → Int) (o v k : Int) : f k ≤ reqF f o v k := by
  unfold reqF
  split <;> omega
theorem goF_ge : ∀ {r : List Cmd} {off need : Int} {f : Int → Int} {st : Option Int} {g : Int → Int}, goF r off need f = some (st, g) → ∀ k, f k ≤ g k
  | [], off, need, f, st, g, h, k => by cases h; exact Int.le_refl _
  | .home :: r, off, need, f, st, g, h, k => by cases h
  | .stop :: r, off, need, f, st, g, h, k => by cases h; exact Int.le_refl _
  | .right n :: r, off, need, f, st, g, h, k => by
    simp only [goF] at h
    by_cases c : need > n
    · rw [if_pos c] at h
      exact Int.le_trans (reqF_ge f off need k) (goF_ge h k)
    · rw [if_neg c] at h
      cases h
      exact reqF_ge f off need k
  | .left n :: r, off, need, f, st, g, h, k => Int.le_trans (reqF_ge f off (need + n) k) (goF_ge (r := r) h k)
  | .down n :: r, off, need, f, st, g, h, k => goF_ge (r := r) h k
  | .up n :: r, off, need, f, st, g, h, k => goF_ge (r := r) h k
def Less (x y : BF) : Prop := y = none ∨ ∃ st g st' g', x = some (st, g) ∧ y = some (st', g') ∧ (∀ n, st = some n → ∃ n', st' = some n' ∧ n ≤ n') ∧ ∀ k, g k ≤ g' k
theorem goF_mono : ∀ {r : List Cmd} {off need need' : Int} {f f' : Int → Int}, need ≤ need' → (∀ k, f k ≤ f' k) → Less (goF r off need f) (goF r off need' f')
  | [], off, need, need', f, f', h, hf => .inr ⟨_, _, _, _, rfl, rfl, fun n e => ⟨need', rfl, by rw [← Option.some.inj e]; exact h⟩, hf⟩
  | .home :: r, off, need, need', f, f', h, hf => .inl rfl
  | .stop :: r, off, need, need', f, f', h, hf => .inr ⟨_, _, _, _, rfl, rfl, (fun n e => nomatch e), hf⟩
  | .right n :: r, off, need, need', f, f', h, hf => by
    simp only [goF]
    have m := reqF_mono (o := off) hf h
    by_cases c : need > n
    · rw [if_pos c, if_pos (by omega)]
      exact goF_mono (by omega) m
    · rw [if_neg c]
      by_cases c' : need' > n
      · rw [if_pos c']
        cases e : goF r off (need' - n) (reqF f' off need') with
        | none => exact .inl rfl
        | some x => exact .inr ⟨_, _, x.1, x.2, rfl, rfl, (fun n e => nomatch e), fun k => Int.le_trans (m k) (goF_ge e k)⟩
      · rw [if_neg c']
        exact .inr ⟨_, _, _, _, rfl, rfl, (fun n e => nomatch e), m⟩
  | .left n :: r, off, need, need', f, f', h, hf => goF_mono (r := r) (by omega) (reqF_mono (o := off) hf (by omega))
  | .down n :: r, off, need, need', f, f', h, hf => goF_mono (r := r) h hf
  | .up n :: r, off, need, need', f, f', h, hf => goF_mono (r := r) h hf
theorem box_mono {cs : List Cmd} {aim more : Int} (h : AllOk cs) (ha : 1 ≤ aim) (hm : aim ≤ more) :
    boxM cs more = none ∨ ∃ st l st' l', boxM cs aim = some (st, l) ∧ boxM cs more = some (st', l') ∧ (∀ n, st = some n → ∃ n', st' = some n' ∧ n ≤ n') ∧ ∀ q ∈ l, q.2 ≤ val l' q.1 := by
  have m : Less (boxF cs aim) (boxF cs more) := goF_mono hm fun _ => Int.le_refl _
  rcases box_spec h (show 1 ≤ more by omega) with ⟨e1, _⟩ | ⟨st', b', e1, g', e2, _⟩
  · exact .inl e1
  · rcases m with m | ⟨st, g, st2, g2, m1, m2, m3, m4⟩
    · rw [e2] at m
      cases m
    · rw [e2] at m2
      cases m2
      rcases box_spec h ha with ⟨_, x2⟩ | ⟨st3, b, x1, gb, x2, _⟩
      · rw [x2] at m1
        cases m1
      · rw [x2] at m1
        cases m1
        refine .inr ⟨st, _, st', _, x1, e1, m3, fun q hq => ?_⟩
        have gs : Good (b.mergeSort leK) := good_perm gb (List.mergeSort_perm b leK)
        have v : val (b.mergeSort leK) q.1 = q.2 := by
          unfold val
          rw [mem_look gs.nd hq]
          rfl
        rw [val_perm gb (List.mergeSort_perm b leK)] at v
        rw [val_perm g' (List.mergeSort_perm b' leK), ← v]
        exact m4 q.1

/-! ### moves multiplied -/
def Cmd.mul (F : Int) : Cmd → Cmd
  | .down n => .down (n * F)
  | .up n => .up (n * F)
  | c => c
def mulK (F : Int) (b : Ps) : Ps := b.map fun q => (q.1 * F, q.2)
theorem mul_inj {F a b : Int} (hF : 1 ≤ F) : a * F = b * F ↔ a = b := ⟨fun h => Int.eq_of_mul_eq_mul_right (by omega) h, fun h => by rw [h]⟩
theorem look_mul {F : Int} (hF : 1 ≤ F) : ∀ (b : Ps) (k : Int), look (mulK F b) (k * F) = look b k
  | [], _ => rfl
  | q :: b, k => by
    show look ((q.1 * F, q.2) :: mulK F b) (k * F) = _
    rw [look_cons, look_cons, look_mul hF b]
    by_cases h : q.1 = k
    · rw [if_pos h, if_pos (by rw [h])]
    · rw [if_neg h, if_neg fun z => h ((mul_inj hF).mp z)]
theorem put_mul {F : Int} (hF : 1 ≤ F) (b : Ps) (k v : Int) : put (mulK F b) (k * F) v = mulK F (put b k v) := by
  unfold put
  have ea : (mulK F b).any (fun q => decide (q.1 = k * F)) = b.any (fun q => decide (q.1 = k)) := by
    unfold mulK
    rw [List.any_map]
    congr 1
    funext q
    show decide (q.1 * F = k * F) = decide (q.1 = k)
    exact decide_eq_decide.mpr (mul_inj hF)
  rw [ea]
  by_cases h : b.any (fun q => decide (q.1 = k)) = true
  · rw [if_pos h, if_pos h]
    unfold mulK
    rw [List.map_map, List.map_map]
    refine List.map_congr_left fun q _ => ?_
    show (if q.1 * F = k * F then (q.1 * F, v) else (q.1 * F, q.2)) = ((if q.1 = k then (q.1, v) else q).1 * F, (if q.1 = k then (q.1, v) else q).2)
    by_cases e : q.1 = k
    · rw [if_pos e, if_pos (by rw [e])]
    · rw [if_neg e, if_neg fun z => e ((mul_inj hF).mp z)]
  · rw [if_neg h, if_neg h]
    unfold mulK
    rw [List.map_append]
    rfl
theorem req_mul {F : Int} (hF : 1 ≤ F) (b : Ps) (o v : Int) : req (mulK F b) (o * F) v = mulK F (req b o v) := by
  unfold req
  rw [look_mul hF, put_mul hF]
theorem go_mul {F : Int} (hF : 1 ≤ F) : ∀ (r : List Cmd) (off need : Int) (b : Ps), go (r.map (Cmd.mul F)) (off * F) need (mulK F b) = (go r off need b).map fun x => (x.1, mulK F x.2)
  | [], off, need, b => rfl
  | .home :: r, off, need, b => rfl
  | .stop :: r, off, need, b => rfl
  | .right n :: r, off, need, b => by
    show (if need > n then go (r.map (Cmd.mul F)) (off * F) (need - n) (req (mulK F b) (off * F) need) else some (none, req (mulK F b) (off * F) need)) = (if need > n then go r off (need - n) (req b off need) else some (none, req b off need)).map _
    rw [req_mul hF]
    by_cases c : need > n
    · rw [if_pos c, if_pos c]
      exact go_mul hF r off (need - n) _
    · rw [if_neg c, if_neg c]
      rfl
  | .left n :: r, off, need, b => by
    show go (r.map (Cmd.mul F)) (off * F) (need + n) (req (mulK F b) (off * F) (need + n)) = _
    rw [req_mul hF]
    exact go_mul hF r off (need + n) _
  | .down n :: r, off, need, b => by
    show go (r.map (Cmd.mul F)) (off * F - n * F) need (mulK F b) = _
    rw [← Int.sub_mul]
    exact go_mul hF r (off - n) need b
  | .up n :: r, off, need, b => by
    show go (r.map (Cmd.mul F)) (off * F + n * F) need (mulK F b) = _
    rw [← Int.add_mul]
    exact go_mul hF r (off + n) need b
theorem last_mul (F : Int) : ∀ cs : List Cmd, last (cs.map (Cmd.mul F)) = last cs * F
  | [] => by show (0 : Int) = 0 * F; omega
  | c :: cs => by
    have e : ∀ (c : Cmd) (cs : List Cmd), last (c :: cs) = c.dv + last cs := fun _ _ => rfl
    have d : (c.mul F).dv = c.dv * F := by
      cases c with
      | up n =>
        show -(n * F) = -n * F
        rw [Int.neg_mul]
      | down n => rfl
      | right n => show (0 : Int) = 0 * F; omega
      | left n => show (0 : Int) = 0 * F; omega
      | home => show (0 : Int) = 0 * F; omega
      | stop => show (0 : Int) = 0 * F; omega
    rw [List.map_cons, e, e, last_mul F cs, d, Int.add_mul]
theorem good_mul {F : Int} (hF : 1 ≤ F) {b : Ps} (g : Good b) : Good (mulK F b) := by
  refine ⟨?_, fun q hq => ?_⟩
  · have e : keys (mulK F b) = (keys b).map (· * F) := by
      unfold keys mulK
      rw [List.map_map, List.map_map]
      rfl
    rw [e, List.nodup_iff_pairwise_ne, List.pairwise_map]
    exact (List.nodup_iff_pairwise_ne.mp g.nd).imp fun h z => h ((mul_inj hF).mp z)
  · obtain ⟨p, hp, rfl⟩ := List.mem_map.mp hq
    exact g.pos p hp
theorem asc_mul {F : Int} (hF : 1 ≤ F) {b : Ps} (h : Asc b) : Asc (mulK F b) := by
  unfold Asc mulK
  rw [List.pairwise_map]
  exact h.imp fun h => Int.mul_lt_mul_of_pos_right h (by omega)
theorem box_mul {F : Int} (hF : 1 ≤ F) {cs : List Cmd} {goal : Int} (h : AllOk cs) (hg : 1 ≤ goal) :
    boxM (cs.map (Cmd.mul F)) goal = (boxM cs goal).map fun x => (x.1, mulK F x.2) := by
  unfold boxM
  rw [last_mul, ← List.map_reverse]
  have e := go_mul hF cs.reverse (last cs) goal []
  have e' : go (cs.reverse.map (Cmd.mul F)) (last cs * F) goal [] = (go cs.reverse (last cs) goal []).map fun x => (x.1, mulK F x.2) := e
  rw [e']
  rcases go_goF (off := last cs) (allOk_rev h) good_nil hg with ⟨e1, _⟩ | ⟨st, b, e1, g, _, _⟩
  · rw [e1]
    rfl
  · rw [e1]
    show some (st, (mulK F b).mergeSort leK) = some (st, mulK F (b.mergeSort leK))
    have gm := good_mul hF g
    have key : (mulK F b).mergeSort leK = mulK F (b.mergeSort leK) := by
      have p : (mulK F (b.mergeSort leK)).Perm (mulK F b) := (List.mergeSort_perm b leK).map _
      refine asc_ext (asc_sort gm) (asc_mul hF (asc_sort g)) fun k => ?_
      rw [look_perm gm (List.mergeSort_perm _ leK), look_perm gm p]
    rw [key]
def Cmd.vert : Cmd → Bool
  | .down _ => true
  | .up _ => true
  | _ => false
theorem go_plain : ∀ (r : List Cmd) (off need : Int) (b : Ps), (∀ c ∈ r, c.vert = true) → go r off need b = some (some need, b)
  | [], _, _, _, _ => rfl
  | .down n :: r, off, need, b, h => go_plain r (off - n) need b fun c hc => h c (List.mem_cons_of_mem _ hc)
  | .up n :: r, off, need, b, h => go_plain r (off + n) need b fun c hc => h c (List.mem_cons_of_mem _ hc)
  | .right n :: r, _, _, _, h => nomatch h _ List.mem_cons_self
  | .left n :: r, _, _, _, h => nomatch h _ List.mem_cons_self
  | .home :: r, _, _, _, h => nomatch h _ List.mem_cons_self
  | .stop :: r, _, _, _, h => nomatch h _ List.mem_cons_self
theorem box_plain (cs : List Cmd) (goal : Int) (h : ∀ c ∈ cs, c.vert = true) : boxM cs goal = some (some goal, []) := by
  unfold boxM
  rw [go_plain cs.reverse (last cs) goal [] fun c hc => h c (List.mem_reverse.mp hc)]
  show some (some goal, ([] : Ps).mergeSort leK) = _
  rw [List.mergeSort_nil]
end Gc

/-! sorted(d.items()), d a dict of ints by ints -/
namespace Gc
open PySem PySem.Spec PyProof.Rows L2
/-- what such a dict holds -/
def dkI (ps : List (Int × Int)) : List (L2.Key × V) := ps.map fun q => (Sum.inl q.1, V.int q.2)
def encP (q : Int × Int) : PyData := .tuple [.int q.1, .int q.2]
def leP (p q : Int × Int) : Bool := decide (p.1 < q.1 ∨ (p.1 = q.1 ∧ p.2 ≤ q.2))
theorem dkI_at {ps : List (Int × Int)} {j : Nat} {kv : L2.Key × V} (h : (dkI ps)[j]? = some kv) : ∃ q, ps[j]? = some q ∧ kv = (Sum.inl q.1, V.int q.2) := by
  unfold dkI at h
  rw [List.getElem?_map] at h
  cases e : ps[j]? with
  | none =>
    rw [e] at h
    cases h
  | some q =>
    rw [e] at h
    exact ⟨q, rfl, (Option.some.inj h).symm⟩
theorem pairs_at {P : Program} {w : World} : ∀ {es : List DictEntry} {vs : List (L2.Key × Value)} {j : Nat} {e : DictEntry}, Pairs (mixKind P w) es vs → es[j]? = some e →
    ∃ kv, vs[j]? = some kv ∧ keyIs kv.1 e.key = true ∧ e.val = kv.2
  | _, _, 0, e, .cons h1 h2 _, h => by
    obtain rfl := Option.some.inj h
    exact ⟨_, rfl, h1, h2⟩
  | _, _, j + 1, e, .cons _ _ t, h => pairs_at (j := j) t h
theorem pairs_len {P : Program} {w : World} : ∀ {es : List DictEntry} {vs : List (L2.Key × Value)}, Pairs (mixKind P w) es vs → es.length = vs.length
  | _, _, .nil => rfl
  | _, _, .cons _ _ t => by
    rw [List.length_cons, List.length_cons, pairs_len t]
def rSortItI : V → Hp → VK → Prop := fun x H Q => ∃ (d : Addr) (ps : List (Int × Int)), x = .ref d ∧ H d = some (.dK (dkI ps)) ∧
  ∀ (H' : Hp) (l : Addr) (ts : List Addr), Same H H' → H l = none → H' l = some (.lst (ts.map V.ref)) →
    Paired (fun (t : Addr) (q : Int × Int) => H' t = some (.tup [.int q.1, .int q.2])) ts (ps.mergeSort leP) → Q (.ref l) H'
theorem each_paired {R : Value → Int × Int → Prop} {F : Addr → Int × Int → Prop} (hR : ∀ v q, R v q → ∃ t, v = .ref t ∧ F t q) : ∀ {vs : List Value} {qs : List (Int × Int)}, PySem.W.EachIs R vs qs →
    ∃ ts : List Addr, vs = ts.map Value.ref ∧ Paired F ts qs
  | _, _, .nil => ⟨[], rfl, .nil⟩
  | _, _, .cons h t => by
    obtain ⟨t0, e0, f0⟩ := hR _ _ h
    obtain ⟨ts, e1, f1⟩ := each_paired hR t
    exact ⟨t0 :: ts, by rw [e0, e1]; rfl, .cons f0 f1⟩
theorem vals_refs : ∀ as : List Addr, Vals (as.map V.ref) (as.map Value.ref)
  | [] => .nil
  | _ :: as => .cons rfl (vals_refs as)
section
variable {X : Cx}
theorem sort_items_run {pins : List (Addr × Obj)} {σ : L2.St} {H : Hp} {s : Shared} {Q : VK} {p d : Addr} {ps : List (Int × Int)} (I : Inv X pins σ H s) (hh : X.A.handled = none)
    (hu : X.A.units + 64 < cLine) (hd : H d = some (.dK (dkI ps))) (view : s.heap.IsItemsView p d)
    (q : ∀ (H' : Hp) (l : Addr) (ts : List Addr), Same H H' → H l = none → H' l = some (.lst (ts.map V.ref)) →
      Paired (fun (t : Addr) (q : Int × Int) => H' t = some (.tup [.int q.1, .int q.2])) ts (ps.mergeSort leP) → Q (.ref l) H') :
    wpAny (model X.prog X.w) X.A (call (.builtin "sorted") [.ref p]) (EP X pins σ Q) X.xe s := by
  obtain ⟨hz, hs0, vs, kv, o, es, ep, ho, hx, hdat, hko, hpr, hnd⟩ := (show ObjOk X.prog X.w H s.heap d (.dK (dkI ps)) from I.hok d _ hd)
  have l1 : (dkI ps).length = vs.length := Paired.length kv
  have l2 : es.toList.length = vs.length := pairs_len hpr
  have l3 : (dkI ps).length = ps.length := List.length_map ..
  have l4 : es.toList.length = es.size := by simp
  have ent : ∀ (j : Nat) (e : DictEntry), es[j]? = some e → ∃ (q : Int × Int) (t1 t2 : Tok), ps[j]? = some q ∧ e.key = .int q.1 t1 ∧ e.val = .int q.2 t2 := by
    intro j e he
    obtain ⟨kv', e1, e2, e3⟩ := pairs_at hpr (show es.toList[j]? = some e by simpa using he)
    obtain ⟨y, f1, f2, f3⟩ := L2.DX.pget kv e1
    obtain ⟨q, g1, rfl⟩ := dkI_at f1
    have f2' : Sum.inl q.1 = kv'.1 := f2
    rw [← f2'] at e2
    obtain ⟨t1, k1⟩ := Value.isInt_shape (k := q.1) (v := e.key) e2
    obtain ⟨t2, k2⟩ : ∃ t, kv'.2 = Value.int q.2 t := f3
    exact ⟨q, t1, t2, g1, k1, e3.trans k2⟩
  refine DT.sortedI (es := es) (ep := ep) hh view ⟨o, ho, hx, hdat⟩ (by omega) fun h' tk as hk hlt hl hG => ?_
  have nd : as.Nodup := List.Pairwise.imp (fun h => Nat.ne_of_lt h) hG.rise
  have lap : as.length = ps.length := by omega
  have pr : ∀ (j : Nat) (b : Addr), as[j]? = some b → ∃ (q : Int × Int) (t1 t2 : Tok), ps[j]? = some q ∧
      h'.get? b = some { cls := .type "tuple", data := .seq #[Value.int q.1 t1, Value.int q.2 t2] } := by
    intro j b hj
    obtain ⟨e, he, hg⟩ := hG.pairs j b hj
    obtain ⟨q, t1, t2, e1, e2, e3⟩ := ent j e he
    rw [e2, e3] at hg
    exact ⟨q, t1, t2, e1, hg⟩
  have hob : (h'.push { cls := .type "list", data := .seq (as.map Value.ref).toArray }).get? h'.objs.size = some (seqObj "list" (as.map Value.ref).toArray 0) := Heap.get?_push_size _ rfl
  have ne0 : ∀ b o, h'.get? b = some o → b ≠ h'.objs.size := fun b o e => Nat.ne_of_lt (Heap.lt_size e)
  have ka : ∀ b o, h'.get? b = some o → (h'.push { cls := .type "list", data := .seq (as.map Value.ref).toArray }).get? b = some o := fun b o e => Heap.get?_push_of_some _ e
  generalize hh2 : h'.push { cls := .type "list", data := .seq (as.map Value.ref).toArray } = h2 at hob ka ⊢
  have kb : ∀ b o, s.heap.get? b = some o → h2.get? b = some o := fun b o e => ka b o (hk b o e)
  have zipR : ∀ z, z ∈ (as.map Value.ref).zip ps → ∃ (j : Nat) (t : Addr), z.1 = Value.ref t ∧ as[j]? = some t ∧ ps[j]? = some z.2 := by
    intro z hz'
    obtain ⟨j, hj⟩ := List.mem_iff_getElem?.mp hz'
    obtain ⟨j1, j2⟩ := List.getElem?_zip_eq_some.mp hj
    rw [List.getElem?_map] at j1
    cases e : as[j]? with
    | none =>
      rw [e] at j1
      cases j1
    | some t =>
      rw [e] at j1
      exact ⟨j, t, (Option.some.inj j1).symm, e, j2⟩
  have eR : PySem.W.EachIs (fun v (q : Int × Int) => ∃ (j : Nat) (t : Addr), v = Value.ref t ∧ as[j]? = some t ∧ ps[j]? = some q) (as.map Value.ref) ps :=
    PySem.W.EachIs.of_zip (by rw [List.length_map]; exact lap) zipR
  have er : PySem.W.EachIs (fun v (q : Int × Int) => ∃ bs, Reads h2 v (encP q) bs ∧ h'.objs.size ∉ bs) (as.map Value.ref) ps := by
    refine eR.mono fun v q h => ?_
    obtain ⟨j, t, rfl, e1, e2⟩ := h
    obtain ⟨q', t1, t2, g1, g2⟩ := pr j t e1
    obtain rfl : q' = q := Option.some.inj (g1.symm.trans e2)
    exact ⟨_, .tuple (ka _ _ g2) rfl rfl (.cons (.int _ _) (.cons (.int _ _) .nil)), by simp⟩
  refine PySem.W.list_sort_data (s := { s with heap := h2, toks := tk }) (A := X.A.in1) (enc := encP) (bs := ps) (vs := as.map Value.ref) hob eR er
    (PySem.W.AllAlike.of fun b b' => by simp [encP, PySem.W.alike, PySem.W.alikeAll]) (PySem.W.Sortable.tuples fun b => ⟨_, _, rfl⟩) (by omega)
    (fun b _ => by show X.A.units + 1 + 1 + 1 < cLine; omega) fun out ol oe => ?_
  have le_eq : PySem.W.dataLe false encP = leP := PySem.W.dataLe_ii (fun q : Int × Int => q.1) (fun q => q.2)
  rw [le_eq] at oe
  show EP X pins σ Q (.ref h'.objs.size) { s with heap := sortedHeap h2 h'.objs.size (as.map Value.ref) out.toArray, toks := tk }
  obtain ⟨ts, rfl, tp⟩ := each_paired (F := fun t q => ∃ j : Nat, as[j]? = some t ∧ ps[j]? = some q) (fun v q h => by
    obtain ⟨j, t, e1, e2, e3⟩ := h
    exact ⟨t, e1, j, e2, e3⟩) oe
  have kF : ∀ b o, b ≠ h'.objs.size → h2.get? b = some o → (sortedHeap h2 h'.objs.size (as.map Value.ref) (ts.map Value.ref).toArray).get? b = some o :=
    fun b o hb e => (PyProof.Rows.sortedHeap_old hb (Heap.lt_size e)).trans e
  have kS : ∀ b o, s.heap.get? b = some o → (sortedHeap h2 h'.objs.size (as.map Value.ref) (ts.map Value.ref).toArray).get? b = some o :=
    fun b o e => kF b o (ne0 _ _ (hk b o e)) (kb b o e)
  obtain ⟨eF, heF⟩ := PyProof.Rows.sortedHeap_at (vs := as.map Value.ref) (out := (ts.map Value.ref).toArray) hob
  generalize sortedHeap h2 h'.objs.size (as.map Value.ref) (ts.map Value.ref).toArray = hF at kF kS heF ⊢
  have I1 : Inv X pins σ H { s with heap := hF, toks := tk } := I.kept (t' := tk) kS
  have hn0 : H h'.objs.size = none := I.hok.fresh (Nat.le_of_lt hlt)
  have tl : ts.length = ps.length := by
    rw [← ol, List.length_map]
  have I2 : Inv X pins σ (upd H h'.objs.size (.lst (ts.map V.ref))) { s with heap := hF, toks := tk } :=
    I1.take (h' := hF) (t' := tk) (fun b ob _ e => e) (I.fpOk (Nat.le_of_lt hlt) hn0) ⟨by rw [List.length_map]; omega, ts.map Value.ref, eF, vals_refs ts, heF⟩
  obtain ⟨H2, I3, g, qt⟩ := L2.DX.takeT (P := fun b vs => ∃ (j : Nat) (q : Int × Int), as[j]? = some b ∧ ps[j]? = some q ∧ vs = [.int q.1, .int q.2]) I as _ I2 nd fun b hb => by
    obtain ⟨j, hj⟩ := List.mem_iff_getElem?.mp hb
    obtain ⟨q, t1, t2, e1, e2⟩ := pr j b hj
    have old : s.heap.objs.size ≤ b := Nat.le_of_lt (hG.above b hb)
    refine ⟨old, ?_, [.int q.1, .int q.2], ⟨j, q, hj, e1, rfl⟩, fun H3 => ⟨by show 2 ≤ sizeLine; decide, [Value.int q.1 t1, Value.int q.2 t2], .cons ⟨_, rfl⟩ (.cons ⟨_, rfl⟩ .nil), ⟨_, kF _ _ (ne0 _ _ e2) (ka _ _ e2), rfl, 0, rfl⟩⟩⟩
    rw [upd_ne (ne0 _ _ e2)]
    exact I.hok.fresh old
  refine ⟨.ref h'.objs.size, H2, I3, rfl, q H2 h'.objs.size ts (fun b o e => g b o (by rw [upd_ne (ne_of_none e hn0)]; exact e)) hn0 (g _ _ upd_same) ?_⟩
  refine Paired.mapP tp fun t q h => ?_
  obtain ⟨j, j1, j2⟩ := h
  obtain ⟨vs', ⟨i, q', i1, i2, ev⟩, hH⟩ := qt t (List.mem_of_getElem? j1)
  have eij : i = j := (List.getElem?_inj (List.getElem?_eq_some_iff.mp i1).1 nd).mp (i1.trans j1.symm)
  subst eij
  obtain rfl : q' = q := Option.some.inj (i2.symm.trans j2)
  rw [ev] at hH
  exact hH
def tSortItems (te : TE) : TE := fun σ H Q => te σ H fun x H1 => rSortItI x H1 Q
variable {e : Expr} {te : TE} {p apos cpos pos : Pos}
theorem pe_sortItems (hc : X.calm = true) (hu : X.A.units + 64 < cLine) (he : PE X e te) (hg : Gl X "sorted") (hm : X.mg "sorted" = none)
    (hv : bootBuiltins "sorted" = some (.builtin "sorted"))
    (hbase : attributeBase e "items" X.env (eval e X.env) = eval e X.env := by rfl) (hline : (apos.endLine == cpos.line) = true := by rfl)
    (hs : starEach [.Call (.Attribute e "items" apos) [] [] cpos] X.env = (false, eval (.Call (.Attribute e "items" apos) [] [] cpos) X.env) :: starEach [] X.env := by rfl) :
    PE X (.Call (.Name "sorted" p) [.Call (.Attribute e "items" apos) [] [] cpos] [] pos) (tSortItems te) := by
  refine ⟨fun pins s σ H Q I hq => ?_⟩
  refine wpAny_Call_Name_kw (ld_blt I hg hm hv ?_)
  refine PyProof.Rows.callWith_builtin1 ?_ hs rfl
  rw [hs]
  show wpAny _ _ (spliced ((false, eval (.Call (.Attribute e "items" apos) [] [] cpos) X.env) :: backTo pos (starEach [] X.env))) _ _ s
  refine Calls.spliced_cons ?_
  refine wpAny_Call_method (T := "dict") (id := "dict.items") hbase rfl hline F.plainAttrs_dict F.slot_dict_items F.type_dict_items
    (thn (he.run pins s σ H _ I hq) fun u s1 ⟨x, H1, I1, rx, d, ps, ex, hd, q⟩ => ?_)
  subst ex
  obtain rfl : u = Value.ref d := rx
  obtain ⟨hz, hs0, vs, kv, hdo⟩ := I1.hok d _ hd
  have I2 : Inv X pins σ H1 { s1 with heap := s1.heap.push { cls := .type "dict_items", data := .fields #[.ref d] } } :=
    I1.kept (t' := s1.toks) fun b ob z => Heap.get?_push_of_some _ z
  refine ⟨hdo.typeIs, hdo.mapOf.noDict, ?_⟩
  show wpAny _ _ (callWith cpos (.builtin "dict.items") [.ref d] [] []) _ X.xe s1
  refine method_meetsIn F.slot_dict_items F.entry_dict_items rfl (PySem.evalArgs_none ⟨rfl, hdo.typeIs, F.args_dict_items_1 _, _, meets_dict_items (mixKind X.prog X.w) d hs0, ⟨vs, hdo⟩, ?_⟩)
  refine Calls.spliced_nil ?_
  exact sort_items_run I2 (I1.ok.hd hc) hu hd ⟨_, Heap.get?_push_size _ rfl, rfl, rfl⟩ q
end
end Gc

/-! match over written texts, with a last case for the rest -/
namespace Gc
open PySem L2
/-- what is wanted of the cases, by the subject's value -/
abbrev TM := V → TS
structure MC (X : Cx) (cs : List MatchCase) (t : TM) : Prop where
  run : ∀ (first : Bool) (pins : List (Addr × Obj)) (s : Shared) (σ : L2.St) (H : Hp) (D : Ends) (x : V) (v : Value),
    Inv X pins σ H s → RelV x v → t x D σ H →
    wpAny (model X.prog X.w) X.A (matchCases cs X.env v first) (fun f s' => SP X pins D f s') X.xe s
def mNil : TM := fun _ D σ H => D.nx σ H
/-- case 'z': .. -/
def mStr (z : Str) (tb : TS) (r : TM) : TM := fun x D σ H => ∃ y, x = .str y ∧ if decide (y = z) = true then tb D σ H else r x D σ H
/-- case _: .. -/
def mAny (tb : TS) : TM := fun _ D σ H => tb D σ H
section
variable {X : Cx} {rest : List MatchCase} {body : List Stmt} {tb : TS} {r : TM} {z : Str} {k : Nat} {p1 p2 pos : Pos} {e : Expr} {te : TE}
theorem mc_nil : MC X [] mNil := ⟨fun _ pins s σ H D x v I _ h => wpAny_matchCases_nil ⟨σ, H, I, h⟩⟩
theorem mc_str (hb : PSs X body tb) (hr : MC X rest r) :
    MC X (⟨.MatchValue (.Constant (.str z) k p1) p2, none, body⟩ :: rest) (mStr z tb r) := by
  refine ⟨fun first pins s σ H D x v I rx h => ?_⟩
  obtain ⟨y, rfl, h⟩ := h
  refine wpAny_matchCases_cons (wpAny_matchPattern_Value ?_)
  have hq : PE X (.Constant (.str z) k p1) (tC (.str z)) := pe_str
  refine wpAny_mono (hq.run pins s σ H (fun w H' => w = .str z ∧ H' = H) I ⟨rfl, rfl⟩) (fun u s1 hu => ?_) fun _ _ q => q
  obtain ⟨w, H1, I1, rw1, rfl, rfl⟩ := hu
  refine wpAny_mono ((op_eq (X := X)) pins s1 σ _ (.str y) (.str z) v u (fun w H' => w = .bl (decide (y = z)) ∧ H' = _) I1 rx rw1 ⟨rfl, ?_, rfl⟩) (fun c s2 hc => ?_) fun _ _ q => q
  · by_cases q : y = z
    · subst q
      rw [decide_eq_true (Eq.refl _), decide_eq_true (Eq.refl _)]
    · rw [decide_eq_false q, decide_eq_false fun e => q (V.str.inj e)]
  · obtain ⟨w, H2, I2, rw2, rfl, rfl⟩ := hc
    obtain rfl : c = Value.bool (decide (y = z)) := rw2
    refine wpAny_pure ?_
    by_cases q : y = z
    · rw [decide_eq_true q] at h ⊢
      show wpAny _ _ (assignInOrder [] []) _ _ _
      refine wpAny_assignInOrder_none ?_
      exact hb.run pins s2 σ _ D I2 h
    · rw [decide_eq_false q] at h ⊢
      exact hr.run false pins s2 σ _ D (.str y) v I2 rx h
theorem mc_any (hb : PSs X body tb) : MC X (⟨.MatchAs none none p2, none, body⟩ :: rest) (mAny tb) := by
  refine ⟨fun first pins s σ H D x v I rx h => ?_⟩
  refine wpAny_matchCases_cons (wpAny_matchPattern_Capture ?_)
  show wpAny _ _ (assignInOrder [] []) _ _ _
  exact wpAny_assignInOrder_none (hb.run pins s σ H D I h)
def tMatch (te : TE) (t : TM) : TS := fun D σ H => te σ H fun x H1 => t x D σ H1
theorem ps_match {cs : List MatchCase} {t : TM} (he : PE X e te) (hc : MC X cs t) : PS X (.Match e cs pos) (tMatch te t) := by
  refine ⟨fun pins s σ H D I h => ?_⟩
  refine wpAny_Match (wpAny_mono (he.run pins s σ H _ I h) (fun v s1 hv => ?_) fun _ _ q => q)
  obtain ⟨x, H1, I1, rx, q⟩ := hv
  exact hc.run true pins s1 σ H1 D x v I1 rx q
end
end Gc

namespace Gc
open PySem PyProof.Rows L2
/-! ### heaps: all that stood but at two places -/
def Keep (a d : Addr) (H H' : Hp) : Prop := ∀ b o, b ≠ a → b ≠ d → H b = some o → H' b = some o
theorem Keep.refl {a d : Addr} (H : Hp) : Keep a d H H := fun _ _ _ _ h => h
theorem Keep.trans {a d : Addr} {H H1 H2 : Hp} (x : Keep a d H H1) (y : Keep a d H1 H2) : Keep a d H H2 := fun b o h1 h2 h => y b o h1 h2 (x b o h1 h2 h)
theorem Keep.of {a d : Addr} {H H' : Hp} (e : Same H H') : Keep a d H H' := fun b o _ _ h => e b o h
theorem same_upd {H H' : Hp} {p : Addr} {o : HO} (e : Same H H') (h : H' p = none) : Same H (upd H' p o) := fun b u hb => by
  rw [upd_ne (ne_of_none (e b u hb) h)]
  exact e b u hb
theorem Keep.upd1 {a d : Addr} {H H' : Hp} {o : HO} (e : Keep a d H H') : Keep a d H (upd H' a o) := fun b u h1 h2 h => by
  rw [upd_ne h1]
  exact e b u h1 h2 h
theorem Keep.upd2 {a d : Addr} {H H' : Hp} {o : HO} (e : Keep a d H H') : Keep a d H (upd H' d o) := fun b u h1 h2 h => by
  rw [upd_ne h2]
  exact e b u h1 h2 h
theorem Keep.new {a d p : Addr} {H H' : Hp} {o : HO} (e : Keep a d H H') (h : H' p = none) : Keep a d H (upd H' p o) := fun b u h1 h2 hb => by
  rw [upd_ne (ne_of_none (e b u h1 h2 hb) h)]
  exact e b u h1 h2 hb

theorem cpow {i j : Int} (h : (decide (0 ≤ j) && (decide (j ≤ 1000000) && decide (i.natAbs < 2 ^ 64))) = true) : CPow i j := by
  rw [Bool.and_eq_true, Bool.and_eq_true] at h
  exact ⟨of_decide_eq_true h.1, of_decide_eq_true h.2.1, of_decide_eq_true h.2.2⟩
theorem pow_small {x : Int} {a k b : Nat} (h : x.natAbs < 2 ^ a) (hb : a * k < b) : (x ^ k).natAbs < 2 ^ b := by
  rw [Int.natAbs_pow]
  have h1 : x.natAbs ^ k ≤ (2 ^ a) ^ k := Nat.pow_le_pow_left (Nat.le_of_lt h) k
  rw [← Nat.pow_mul] at h1
  exact Nat.lt_of_le_of_lt h1 (Nat.pow_lt_pow_right (by decide) hb)
theorem int_at {ns : List Int} {i : Nat} {y : V} (h : (ns.map V.int)[i]? = some y) : ∃ u, y = V.int u := by
  rw [List.getElem?_map] at h
  cases e : ns[i]? with
  | none =>
    rw [e] at h
    cases h
  | some u =>
    rw [e] at h
    exact ⟨u, (Option.some.inj h).symm⟩
theorem dp_ints {K : PySem.W.Frag} {H : Hp} : ∀ ns : List Int, DpAll K H (ns.map V.int) (ns.map PyData.int)
  | [] => .nil
  | x :: r => .cons (.int x) (dp_ints r)
/-- a def that is called by its name and lets nothing out -/
structure Cal (P : Program) (w : World) (K : PySem.W.Frag) (mg : Str → Option Value) (base : Heap) (k : Nat) (x : Str) (sp : Sp) : Prop where
  ex : ∃ (f : Addr) (fd : FuncData) (ps : List Str), FnOk P w K mg base CX0 k f fd ps sp ∧
    mg x = some (.ref f) ∧ PySem.W.keepIn K (.ref f) = true ∧ Binds K fd ps []
theorem pe_cal {X : Cx} {k j : Nat} {x : Str} {sp : Sp} {p pos : Pos} {e : Expr} {es : List Expr} {t : TA}
    (c : Cal X.prog X.w X.K X.mg X.base k x sp) (hr : Room j X.A) (hk : k ≤ j) (hg : Gl X x) (ha : PA X (e :: es) t)
    (hdb : (x == ("__debug__" : Str)) = false := by decide)
    (he : starEach (e :: es) X.env = (false, eval e X.env) :: starEach es X.env := by rfl)
    (hpl : (backTo pos (starEach es X.env)).any (·.1) = false := by rfl) :
    PE X (.Call (.Name x p) (e :: es) [] pos) (tCall sp [] E0 t) := by
  obtain ⟨f, fd, ps, F, hm, kp, b⟩ := c.ex
  exact pe_call F (hr.mono hk) hg hm kp b .nil pass0 ha hdb he hpl

/-! ### data carried along -/
theorem seq_t {K : PySem.W.Frag} {H H' : Hp} {a : Addr} {xs : List V} (e : Same H H') (h : SqT K H a xs) : SqT K H' a xs := by
  rcases h with (h | ⟨o, h⟩) | h
  · exact .inl (.inl (e _ _ h))
  · exact .inl (.inr ⟨o, e _ _ h⟩)
  · exact .inr h
mutual
theorem dp_same {K : PySem.W.Frag} {H H' : Hp} (e : Same H H') : ∀ (d : PyData) (v : V), Dp K H v d → Dp K H' v d
  | .none, _, h => by cases h; exact .non
  | .bool b, _, h => by cases h; exact .bl b
  | .int i, _, h => by cases h; exact .int i
  | .str x, _, h => by cases h; exact .str x
  | .list ds, _, h => by
    cases h with
    | lst q r => exact .lst (e.seq q) (dps_same e ds _ r)
  | .tuple ds, _, h => by
    cases h with
    | tup q r => exact .tup (seq_t e q) (dps_same e ds _ r)
  | .dict _, _, h => by cases h
theorem dps_same {K : PySem.W.Frag} {H H' : Hp} (e : Same H H') : ∀ (ds : List PyData) (vs : List V), DpAll K H vs ds → DpAll K H' vs ds
  | [], _, h => by cases h; exact .nil
  | d :: ds, _, h => by
    cases h with
    | cons a b => exact .cons (dp_same e d _ a) (dps_same e ds _ b)
end
theorem dps_len {K : PySem.W.Frag} {H : Hp} : ∀ {vs : List V} {ds : List PyData}, DpAll K H vs ds → vs.length = ds.length
  | [], _, h => by cases h; rfl
  | _ :: vs, _, h => by
    cases h with
    | cons a b => rw [List.length_cons, List.length_cons, dps_len b]
theorem dps_at {K : PySem.W.Frag} {H : Hp} : ∀ {vs : List V} {ds : List PyData} {i : Nat}, DpAll K H vs ds → i < ds.length → ∃ v d, vs[i]? = some v ∧ ds[i]? = some d ∧ Dp K H v d
  | _, _, 0, h, l => by
    cases h with
    | nil => exact absurd l (by decide)
    | cons a b => exact ⟨_, _, rfl, rfl, a⟩
  | _, _, i + 1, h, l => by
    cases h with
    | nil => exact absurd l (Nat.not_lt_zero _)
    | cons a b => exact dps_at (i := i) b (Nat.lt_of_succ_lt_succ l)
theorem depth_at : ∀ {ds : List PyData} {i : Nat} {d : PyData}, ds[i]? = some d → d.depth ≤ PyData.depthAll ds
  | [], i, d, h => by simp at h
  | x :: r, 0, d, h => by
    have e : x = d := Option.some.inj h
    subst e
    simp only [PyData.depthAll]
    exact Nat.le_max_left _ _
  | x :: r, i + 1, d, h => by
    have ih := depth_at (ds := r) (i := i) (d := d) h
    simp only [PyData.depthAll]
    exact Nat.le_trans ih (Nat.le_max_right _ _)
theorem ty_l {K : PySem.W.Frag} {H : Hp} {a : Addr} {xs : List V} (h : SqL K H a xs) : TyX K H (.ref a) (.type "list") := by
  rcases h with (h | ⟨o, h⟩) | h
  · exact .base (.lst h)
  · exact .base (.frz h)
  · obtain ⟨o, its, n, e, c, _⟩ := h
    exact .kList e c
theorem ty_t {K : PySem.W.Frag} {H : Hp} {a : Addr} {xs : List V} (h : SqT K H a xs) : TyX K H (.ref a) (.type "tuple") := by
  rcases h with (h | ⟨o, h⟩) | h
  · exact .base (.tup h)
  · exact .fTuple h
  · obtain ⟨o, its, n, e, c, _⟩ := h
    exact .kTuple e c
theorem isi_q {K : PySem.W.Frag} {H : Hp} {x : V} {t n : String} {b : Bool} {Q : VK} (ty : TyX K H x (.type t)) (k : kitB t n = some b) (q : Q (.bl b) H) : rIsi K [x, .ty n] H Q :=
  ⟨x, .ty n, .type t, .type n, b, rfl, .ty n, ty, kit_ty k, q⟩
theorem log9 {x : Int} {a : Nat} (h : x.natAbs < 2 ^ a) (ha : a < 9000) : x.natAbs.log2 < 9000 :=
  Nat.lt_of_le_of_lt (Nat.le_of_lt_succ (PySem.Flt.log2_lt_of (k := a + 1) (Nat.succ_pos _) (Nat.lt_trans h (Nat.pow_lt_pow_right (by decide) (Nat.lt_succ_self a))))) ha
/-- a power of any whole number, its size told -/
def CPowW (i j : Int) : Prop := 0 ≤ j ∧ j ≤ 64 ∧ i.natAbs.log2 < 100000
theorem op_powW {X : Cx} : OpR X (binaryOp .Pow) (rI CPowW fun i j => .int (i ^ j.toNat)) := opI fun i j _ _ _ _ _ hc q => by
  refine pow_int hc.1 ?_ q
  have h1 : Builtin.Int.intBits i ≤ i.natAbs.log2 + 1 := by
    unfold Builtin.Int.intBits
    split <;> omega
  have h2 := hc.2.1
  have h3 := hc.2.2
  have h4 : (Builtin.Int.intBits i : Int) ≤ 100000 := by omega
  calc (Builtin.Int.intBits i : Int) * j ≤ 100000 * 64 := Int.mul_le_mul h4 h2 hc.1 (by decide)
    _ ≤ 2 ^ 27 := by decide
theorem cpowW {i j : Int} {a : Nat} (hj : 0 ≤ j) (hj2 : j ≤ 64) (h : i.natAbs < 2 ^ a) (ha : a < 100000) : CPowW i j :=
  ⟨hj, hj2, Nat.lt_of_le_of_lt (Nat.le_of_lt_succ (PySem.Flt.log2_lt_of (k := a + 1) (Nat.succ_pos _) (Nat.lt_trans h (Nat.pow_lt_pow_right (by decide) (Nat.lt_succ_self a))))) ha⟩
def rLenQ (K : PySem.W.Frag) : List V → Hp → VK → Prop := fun xs H Q => ∃ p ys, xs = [.ref p] ∧ (SqL K H p ys ∨ SqT K H p ys) ∧ Q (.int ys.length) H
end Gc

namespace Gc
open PySem PyProof.Rows L2
/-! ### commands as tuples -/
def encC : Cmd → List V
  | .down n => [.str "down", .int n]
  | .up n => [.str "up", .int n]
  | .right n => [.str "right", .int n]
  | .left n => [.str "left", .int n]
  | .home => [.str "home"]
  | .stop => [.str "end"]
def CmdAt (K : PySem.W.Frag) (H : Hp) (v : V) (c : Cmd) : Prop := ∃ a, v = .ref a ∧ SqT K H a (encC c)
def CmdsOf (K : PySem.W.Frag) (H : Hp) (xs : List V) (cs : List Cmd) : Prop := Paired (CmdAt K H) xs cs
theorem CmdAt.same {K : PySem.W.Frag} {H H' : Hp} {v : V} {c : Cmd} (e : Same H H') (h : CmdAt K H v c) : CmdAt K H' v c := by
  obtain ⟨a, e1, h1⟩ := h
  exact ⟨a, e1, seq_t e h1⟩
theorem CmdsOf.same {K : PySem.W.Frag} {H H' : Hp} {xs : List V} {cs : List Cmd} (e : Same H H') (h : CmdsOf K H xs cs) : CmdsOf K H' xs cs := Paired.mapP h fun _ _ q => q.same e
theorem CmdsOf.len {K : PySem.W.Frag} {H : Hp} {xs : List V} {cs : List Cmd} (h : CmdsOf K H xs cs) : xs.length = cs.length := Paired.length h
theorem paired_at {α β : Type} {F : α → β → Prop} : ∀ {xs : List α} {ys : List β} {i : Nat} {x : α}, Paired F xs ys → xs[i]? = some x → ∃ y, ys[i]? = some y ∧ F x y
  | _, _, _, _, .nil, h => by simp at h
  | _, _, 0, x, .cons f _, h => by
    obtain rfl := Option.some.inj h
    exact ⟨_, rfl, f⟩
  | _, _, i + 1, x, .cons _ t, h => paired_at (i := i) t h
/-! ### dicts of ints by ints -/
theorem valV_dkI : ∀ (b : Ps) (k : Int), valV (dkI b) (Sum.inl k : L2.Key) = (look b k).map V.int
  | [], k => rfl
  | q :: b, k => by
    show valV (((Sum.inl q.1 : L2.Key), V.int q.2) :: dkI b) (Sum.inl k : L2.Key) = _
    rw [look_cons]
    by_cases h : q.1 = k
    · rw [if_pos h, valV_pos (by show (Sum.inl q.1 : L2.Key) = Sum.inl k; rw [h])]
      rfl
    · rw [if_neg h, valV_neg (by intro z; exact h (Sum.inl.inj z))]
      exact valV_dkI b k
theorem putK_dkI (b : Ps) (k v : Int) : putK (dkI b) (Sum.inl k : L2.Key) (V.int v) = dkI (put b k v) := by
  have ea : ((dkI b).any fun kv => decide (kv.1 = (Sum.inl k : L2.Key))) = b.any fun q => decide (q.1 = k) := by
    unfold dkI
    rw [List.any_map]
    congr 1
    funext q
    show decide ((Sum.inl q.1 : L2.Key) = Sum.inl k) = decide (q.1 = k)
    exact decide_eq_decide.mpr ⟨Sum.inl.inj, fun h => by rw [h]⟩
  unfold putK put
  rw [ea]
  by_cases h : (b.any fun q => decide (q.1 = k)) = true
  · rw [if_pos h, if_pos h]
    unfold dkI
    rw [List.map_map, List.map_map]
    refine List.map_congr_left fun q _ => ?_
    show (if (Sum.inl q.1 : L2.Key) = Sum.inl k then ((Sum.inl q.1 : L2.Key), V.int v) else (Sum.inl q.1, V.int q.2)) = (Sum.inl (if q.1 = k then (q.1, v) else q).1, V.int (if q.1 = k then (q.1, v) else q).2)
    by_cases e : q.1 = k
    · rw [if_pos e, if_pos (by rw [e])]
    · rw [if_neg e, if_neg fun z => e (Sum.inl.inj z)]
  · rw [if_neg h, if_neg h]
    unfold dkI
    rw [List.map_append]
    rfl
theorem put_len (b : Ps) (k v : Int) : (put b k v).length ≤ b.length + 1 := by
  unfold put
  split
  · rw [List.length_map]
    exact Nat.le_succ _
  · rw [List.length_append]
    exact Nat.le_refl _
theorem req_len (b : Ps) (o v : Int) : (req b o v).length ≤ b.length + 1 := put_len b o _
end Gc

/-! what repr wants of the data that the laws show -/
namespace Gc
open PySem PySem.Spec PyProof.Rows L2
def Sml (x : Int) : Prop := x.natAbs < 2 ^ 120
theorem sml_log {x : Int} (h : Sml x) : x.natAbs.log2 < 121 := Nat.lt_of_lt_of_le (PySem.Flt.log2_lt_of (k := 121) (by decide) (Nat.lt_trans h (by decide))) (Nat.le_refl _)
theorem sml_show {x : Int} (h : Sml x) : (PyData.int x).showable = true := by
  have := sml_log h
  simp only [PyData.showable, decide_eq_true_eq]
  omega
theorem sml_short {x : Int} (h : Sml x) : (PyData.int x).leavesShort 130 = true := by
  have e := int_text_length_le (k := 121) (by decide) (sml_log h)
  have e' : (PyData.shown (.int x)).length ≤ 130 := by
    have e2 : (PyData.shown (.int x)).length = (toString x).length := by
      show (Str.ofString (toString x)).length = _
      rw [PySem.ofString_length]
    omega
  simpa only [PyData.leavesShort, decide_eq_true_eq] using e'
theorem sml_weight {x : Int} (h : Sml x) : (PyData.int x).weight ≤ 122 := by
  have := sml_log h
  simp only [PyData.weight]
  split <;> omega
def Ok0 (d : PyData) : Prop := d.showable = true ∧ d.hasDict = false ∧ d.leavesShort 130 = true
def Ok0s (ds : List PyData) : Prop := PyData.showableAll ds = true ∧ PyData.hasDictAll ds = false ∧ PyData.leavesShortAll 130 ds = true
theorem ok0_int {x : Int} (h : Sml x) : Ok0 (.int x) := ⟨sml_show h, by simp only [PyData.hasDict], sml_short h⟩
theorem ok0_nil : Ok0s [] := ⟨by simp only [PyData.showableAll], by simp only [PyData.hasDictAll], by simp only [PyData.leavesShortAll]⟩
theorem ok0_cons {d : PyData} {ds : List PyData} (h : Ok0 d) (t : Ok0s ds) : Ok0s (d :: ds) := by
  obtain ⟨a1, a2, a3⟩ := h
  obtain ⟨b1, b2, b3⟩ := t
  refine ⟨?_, ?_, ?_⟩
  · simp only [PyData.showableAll, a1, b1, Bool.and_self]
  · simp only [PyData.hasDictAll, a2, b2, Bool.or_self]
  · simp only [PyData.leavesShortAll, a3, b3, Bool.and_self]
theorem ok0_list {ds : List PyData} (h : Ok0s ds) : Ok0 (.list ds) := by
  obtain ⟨b1, b2, b3⟩ := h
  refine ⟨?_, ?_, ?_⟩
  · simpa only [PyData.showable] using b1
  · simpa only [PyData.hasDict] using b2
  · simpa only [PyData.leavesShort] using b3
theorem ok0_tup {ds : List PyData} (h : Ok0s ds) : Ok0 (.tuple ds) := by
  obtain ⟨b1, b2, b3⟩ := h
  refine ⟨?_, ?_, ?_⟩
  · simpa only [PyData.showable] using b1
  · simpa only [PyData.hasDict] using b2
  · simpa only [PyData.leavesShort] using b3
theorem ok0_len {d : PyData} (h : Ok0 d) (w : d.weight ≤ 100000) : d.shown.length ≤ sizeLine := by
  have e := PyData.shown_le 130 (by decide) d h.2.2
  rw [sizeLine_eq]
  have : (130 + 2) * d.weight ≤ (130 + 2) * 100000 := Nat.mul_le_mul_left _ w
  omega
theorem ok0_ints : ∀ {T : List Int}, (∀ x ∈ T, Sml x) → Ok0s (T.map PyData.int)
  | [], _ => ok0_nil
  | x :: T, h => ok0_cons (ok0_int (h x List.mem_cons_self)) (ok0_ints fun y hy => h y (List.mem_cons_of_mem _ hy))
theorem weight_ints : ∀ {T : List Int}, (∀ x ∈ T, Sml x) → PyData.weightAll (T.map PyData.int) ≤ 123 * T.length
  | [], _ => by simp [PyData.weightAll]
  | x :: T, h => by
    have a := sml_weight (h x List.mem_cons_self)
    have b := weight_ints (T := T) fun y hy => h y (List.mem_cons_of_mem _ hy)
    simp only [List.map_cons, PyData.weightAll, List.length_cons]
    omega
theorem deep_ints : ∀ T : List Int, PyData.depthAll (T.map PyData.int) = 0
  | [] => by simp [PyData.depthAll]
  | x :: T => by simp [PyData.depthAll, PyData.depth, deep_ints T]
/-- a text and a cursor -/
def textD (T : List Int) (r a : Int) : PyData := .tuple [.list (T.map PyData.int), .tuple [.int r, .int a]]
theorem textD_ok {T : List Int} {r a : Int} (hT : ∀ x ∈ T, Sml x) (hr : Sml r) (ha : Sml a) (l : T.length ≤ 500) : (textD T r a).showable = true ∧ (textD T r a).hasDict = false ∧ (textD T r a).depth ≤ 60 ∧ (textD T r a).shown.length ≤ sizeLine := by
  have o : Ok0 (textD T r a) := ok0_tup (ok0_cons (ok0_list (ok0_ints hT)) (ok0_cons (ok0_tup (ok0_cons (ok0_int hr) (ok0_cons (ok0_int ha) ok0_nil))) ok0_nil))
  refine ⟨o.1, o.2.1, ?_, ok0_len o ?_⟩
  · simp only [textD, PyData.depth, PyData.depthAll, deep_ints]
    omega
  · have a1 := weight_ints hT
    have a2 := sml_weight hr
    have a3 := sml_weight ha
    simp only [PyData.weight] at a2 a3
    simp only [textD, PyData.weight, PyData.weightAll]
    omega
/-! ### commands as data -/
def cmdD : Cmd → PyData
  | .down n => .tuple [.str "down", .int n]
  | .up n => .tuple [.str "up", .int n]
  | .right n => .tuple [.str "right", .int n]
  | .left n => .tuple [.str "left", .int n]
  | .home => .tuple [.str "home"]
  | .stop => .tuple [.str "end"]
theorem CmdAt.dp {K : PySem.W.Frag} {H : Hp} {v : V} {c : Cmd} (h : CmdAt K H v c) : Dp K H v (cmdD c) := by
  obtain ⟨a, rfl, h⟩ := h
  cases c with
  | down n => exact .tup h (.cons (.str _) (.cons (.int n) .nil))
  | up n => exact .tup h (.cons (.str _) (.cons (.int n) .nil))
  | right n => exact .tup h (.cons (.str _) (.cons (.int n) .nil))
  | left n => exact .tup h (.cons (.str _) (.cons (.int n) .nil))
  | home => exact .tup h (.cons (.str _) .nil)
  | stop => exact .tup h (.cons (.str _) .nil)
theorem CmdsOf.dp {K : PySem.W.Frag} {H : Hp} : ∀ {xs : List V} {cs : List Cmd}, CmdsOf K H xs cs → DpAll K H xs (cs.map cmdD)
  | _, _, .nil => .nil
  | _, _, .cons h t => .cons h.dp (CmdsOf.dp t)
def CSml : Cmd → Prop
  | .down n => Sml n
  | .up n => Sml n
  | .right n => Sml n
  | .left n => Sml n
  | _ => True
theorem ok0_str {x : Str} (h : (PyData.str x).leavesShort 130 = true) : Ok0 (.str x) := ⟨by simp only [PyData.showable], by simp only [PyData.hasDict], h⟩
theorem cmdD_ok {c : Cmd} (h : CSml c) : Ok0 (cmdD c) ∧ (cmdD c).weight ≤ 200 ∧ (cmdD c).depth ≤ 5 := by
  cases c with
  | down n =>
    have w := sml_weight h
    refine ⟨ok0_tup (ok0_cons (ok0_str (by decide +kernel)) (ok0_cons (ok0_int h) ok0_nil)), ?_, by simp [cmdD, PyData.depth, PyData.depthAll]⟩
    have e : (PyData.str "down").weight = 4 := by decide +kernel
    simp only [cmdD, PyData.weight, PyData.weightAll] at w e ⊢
    omega
  | up n =>
    have w := sml_weight h
    refine ⟨ok0_tup (ok0_cons (ok0_str (by decide +kernel)) (ok0_cons (ok0_int h) ok0_nil)), ?_, by simp [cmdD, PyData.depth, PyData.depthAll]⟩
    have e : (PyData.str "up").weight = 2 := by decide +kernel
    simp only [cmdD, PyData.weight, PyData.weightAll] at w e ⊢
    omega
  | right n =>
    have w := sml_weight h
    refine ⟨ok0_tup (ok0_cons (ok0_str (by decide +kernel)) (ok0_cons (ok0_int h) ok0_nil)), ?_, by simp [cmdD, PyData.depth, PyData.depthAll]⟩
    have e : (PyData.str "right").weight = 5 := by decide +kernel
    simp only [cmdD, PyData.weight, PyData.weightAll] at w e ⊢
    omega
  | left n =>
    have w := sml_weight h
    refine ⟨ok0_tup (ok0_cons (ok0_str (by decide +kernel)) (ok0_cons (ok0_int h) ok0_nil)), ?_, by simp [cmdD, PyData.depth, PyData.depthAll]⟩
    have e : (PyData.str "left").weight = 4 := by decide +kernel
    simp only [cmdD, PyData.weight, PyData.weightAll] at w e ⊢
    omega
  | home => exact ⟨ok0_tup (ok0_cons (ok0_str (by decide +kernel)) ok0_nil), by decide +kernel, by simp [cmdD, PyData.depth, PyData.depthAll]⟩
  | stop => exact ⟨ok0_tup (ok0_cons (ok0_str (by decide +kernel)) ok0_nil), by decide +kernel, by simp [cmdD, PyData.depth, PyData.depthAll]⟩
theorem cmds_ok0 : ∀ {cs : List Cmd}, (∀ c ∈ cs, CSml c) → Ok0s (cs.map cmdD) ∧ PyData.weightAll (cs.map cmdD) ≤ 201 * cs.length ∧ PyData.depthAll (cs.map cmdD) ≤ 5
  | [], _ => ⟨ok0_nil, by simp [PyData.weightAll], by simp [PyData.depthAll]⟩
  | c :: cs, h => by
    obtain ⟨a1, a2, a3⟩ := cmdD_ok (h c List.mem_cons_self)
    obtain ⟨b1, b2, b3⟩ := cmds_ok0 (cs := cs) fun d hd => h d (List.mem_cons_of_mem _ hd)
    refine ⟨ok0_cons a1 b1, ?_, ?_⟩
    · simp only [List.map_cons, PyData.weightAll, List.length_cons]
      omega
    · simp only [List.map_cons, PyData.depthAll]
      omega
theorem cmds_ok {cs : List Cmd} (h : ∀ c ∈ cs, CSml c) (l : cs.length ≤ 300) : (PyData.list (cs.map cmdD)).showable = true ∧ (PyData.list (cs.map cmdD)).hasDict = false ∧ (PyData.list (cs.map cmdD)).depth ≤ 60 ∧ (PyData.list (cs.map cmdD)).shown.length ≤ sizeLine := by
  obtain ⟨a1, a2, a3⟩ := cmds_ok0 h
  have o := ok0_list a1
  refine ⟨o.1, o.2.1, ?_, ok0_len o ?_⟩
  · simp only [PyData.depth]
    omega
  · simp only [PyData.weight]
    omega
/-! ### boxes as data -/
def optD : Option Int → PyData
  | none => .none
  | some n => .int n
def pairD (q : Int × Int) : PyData := .tuple [.int q.1, .int q.2]
def boxD : Option (Option Int × Ps) → PyData
  | none => .none
  | some x => .tuple [optD x.1, .list (x.2.map pairD)]
def BSml : Option (Option Int × Ps) → Prop
  | none => True
  | some x => (∀ n, x.1 = some n → Sml n) ∧ ∀ q ∈ x.2, Sml q.1 ∧ Sml q.2
theorem ok0_none : Ok0 .none := ⟨by simp only [PyData.showable], by simp only [PyData.hasDict], by simp only [PyData.leavesShort]⟩
theorem pairs_ok0 : ∀ {L : Ps}, (∀ q ∈ L, Sml q.1 ∧ Sml q.2) → Ok0s (L.map pairD) ∧ PyData.weightAll (L.map pairD) ≤ 247 * L.length ∧ PyData.depthAll (L.map pairD) ≤ 5
  | [], _ => ⟨ok0_nil, by simp [PyData.weightAll], by simp [PyData.depthAll]⟩
  | q :: L, h => by
    obtain ⟨a, b⟩ := h q List.mem_cons_self
    obtain ⟨c1, c2, c3⟩ := pairs_ok0 (L := L) fun p hp => h p (List.mem_cons_of_mem _ hp)
    have wa := sml_weight a
    have wb := sml_weight b
    refine ⟨ok0_cons (ok0_tup (ok0_cons (ok0_int a) (ok0_cons (ok0_int b) ok0_nil))) c1, ?_, ?_⟩
    · simp only [PyData.weight] at wa wb
      simp only [List.map_cons, pairD, PyData.weight, PyData.weightAll, List.length_cons] at c2 ⊢
      omega
    · simp only [List.map_cons, pairD, PyData.depth, PyData.depthAll] at c3 ⊢
      omega
theorem boxD_ok0 {o : Option (Option Int × Ps)} {n : Nat} (h : BSml o) (l : ∀ x, o = some x → x.2.length ≤ n) : Ok0 (boxD o) ∧ (boxD o).weight ≤ 247 * n + 200 ∧ (boxD o).depth ≤ 10 := by
  cases o with
  | none => exact ⟨ok0_none, by simp [boxD, PyData.weight], by simp [boxD, PyData.depth]⟩
  | some x =>
    obtain ⟨st, L⟩ := x
    obtain ⟨h1, h2⟩ := h
    have h2' : ∀ q ∈ L, Sml q.1 ∧ Sml q.2 := h2
    obtain ⟨c1, c2, c3⟩ := pairs_ok0 h2'
    have ln : L.length ≤ n := l _ rfl
    have o1 : Ok0 (optD st) ∧ (optD st).weight ≤ 122 ∧ (optD st).depth = 0 := by
      cases st with
      | none => exact ⟨ok0_none, by simp [optD, PyData.weight], by simp [optD, PyData.depth]⟩
      | some n => exact ⟨ok0_int (h1 n rfl), sml_weight (h1 n rfl), by simp [optD, PyData.depth]⟩
    obtain ⟨d1, d2, d3⟩ := o1
    refine ⟨ok0_tup (ok0_cons d1 (ok0_cons (ok0_list c1) ok0_nil)), ?_, ?_⟩
    · have m : 247 * L.length ≤ 247 * n := Nat.mul_le_mul_left _ ln
      simp only [boxD, PyData.weight, PyData.weightAll]
      omega
    · simp only [boxD, PyData.depth, PyData.depthAll]
      omega
theorem boxes_ok0 {n : Nat} : ∀ {os : List (Option (Option Int × Ps))}, (∀ o ∈ os, BSml o ∧ ∀ x, o = some x → x.2.length ≤ n) → Ok0s (os.map boxD) ∧ PyData.weightAll (os.map boxD) ≤ (247 * n + 201) * os.length ∧ PyData.depthAll (os.map boxD) ≤ 10
  | [], _ => ⟨ok0_nil, by simp [PyData.weightAll], by simp [PyData.depthAll]⟩
  | o :: os, h => by
    obtain ⟨a, b⟩ := h o List.mem_cons_self
    obtain ⟨c1, c2, c3⟩ := boxD_ok0 a b
    obtain ⟨d1, d2, d3⟩ := boxes_ok0 (os := os) fun p hp => h p (List.mem_cons_of_mem _ hp)
    refine ⟨ok0_cons c1 d1, ?_, ?_⟩
    · rw [List.map_cons, List.length_cons, Nat.mul_succ]
      simp only [PyData.weightAll]
      omega
    · simp only [List.map_cons, PyData.depthAll]
      omega
/-- a list of at most ten boxes of at most thirty lines each -/
theorem boxes_ok {os : List (Option (Option Int × Ps))} (h : ∀ o ∈ os, BSml o ∧ ∀ x, o = some x → x.2.length ≤ 30) (l : os.length ≤ 10) :
    (PyData.list (os.map boxD)).showable = true ∧ (PyData.list (os.map boxD)).hasDict = false ∧ (PyData.list (os.map boxD)).depth ≤ 60 ∧ (PyData.list (os.map boxD)).shown.length ≤ sizeLine := by
  obtain ⟨a1, a2, a3⟩ := boxes_ok0 h
  have o := ok0_list a1
  refine ⟨o.1, o.2.1, ?_, ok0_len o ?_⟩
  · simp only [PyData.depth]
    omega
  · have m : (247 * 30 + 201) * os.length ≤ (247 * 30 + 201) * 10 := Nat.mul_le_mul_left _ l
    simp only [PyData.weight]
    omega
end Gc

/-! heaps, lengths of boxes, dicts out of pairs -/
namespace Gc
open PySem L2
theorem same_freeU {H H' : Hp} {d : Addr} {o : HO} (e : Same H H') (h : H d = none) : Same H (upd H' d o) := fun b u hb => by
  rw [upd_ne (ne_of_none hb h)]
  exact e b u hb
theorem go_len : ∀ {r : List Cmd} {off need : Int} {b : Ps} {st : Option Int} {b' : Ps}, go r off need b = some (st, b') → b'.length ≤ b.length + r.length
  | [], _, _, b, _, _, h => by cases h; exact Nat.le_refl _
  | .home :: r, _, _, b, _, _, h => by cases h
  | .stop :: r, _, _, b, _, _, h => by cases h; exact Nat.le_add_right _ _
  | .right n :: r, off, need, b, st, b', h => by
    have q := req_len b off need
    rw [List.length_cons]
    simp only [go] at h
    split at h
    · have := go_len h
      omega
    · cases h
      omega
  | .left n :: r, off, need, b, st, b', h => by
    have q := req_len b off (need + n)
    rw [List.length_cons]
    simp only [go] at h
    have := go_len h
    omega
  | .down n :: r, off, need, b, st, b', h => by
    rw [List.length_cons]
    simp only [go] at h
    have := go_len h
    omega
  | .up n :: r, off, need, b, st, b', h => by
    rw [List.length_cons]
    simp only [go] at h
    have := go_len h
    omega
theorem box_len {cs : List Cmd} {goal : Int} {st : Option Int} {L : Ps} (h : boxM cs goal = some (st, L)) : L.length ≤ cs.length := by
  unfold boxM at h
  cases e : go cs.reverse (last cs) goal [] with
  | none =>
    rw [e] at h
    cases h
  | some x =>
    rw [e] at h
    obtain ⟨st', b'⟩ := x
    have q := go_len e
    have h' : (st', b'.mergeSort leK) = (st, L) := Option.some.inj h
    cases h'
    rw [List.length_mergeSort]
    rw [List.length_reverse, List.length_nil] at q
    omega
theorem merge_dkI : ∀ (b acc : Ps), (keys acc ++ keys b).Nodup → mergeK (dkI acc) (dkI b) = dkI (acc ++ b)
  | [], acc, _ => by rw [List.append_nil]; rfl
  | q :: b, acc, h => by
    have nq : q.1 ∉ keys acc := fun z => by
      have := (List.nodup_append.mp h).2.2 q.1 z q.1 List.mem_cons_self
      exact this rfl
    show mergeK (putK (dkI acc) (Sum.inl q.1 : L2.Key) (.int q.2)) (dkI b) = _
    rw [putK_dkI]
    have e : put acc q.1 q.2 = acc ++ [q] := by
      unfold put
      rw [if_neg fun z => nq ((any_key acc q.1).mp z)]
    rw [e, merge_dkI b (acc ++ [q]) (by
      have e2 : keys (acc ++ [q]) ++ keys b = keys acc ++ keys (q :: b) := by
        unfold keys
        simp
      rw [e2]
      exact h), List.append_assoc]
    rfl
theorem paired_dkI {K : PySem.W.Frag} {H : Hp} : ∀ {ps : List Addr} {qs : Ps}, Paired (fun (p : Addr) (q : Int × Int) => H p = some (.tup [.int q.1, .int q.2])) ps qs → Paired (fun (p : Addr) (kv : L2.Key × V) => SqT K H p [kV kv.1, kv.2]) ps (dkI qs)
  | _, _, .nil => .nil
  | _, _, .cons h t => .cons (SqT.of h) (paired_dkI t)
theorem ref_at {ts : List Addr} {i : Nat} {x : V} (h : (ts.map V.ref)[i]? = some x) : ∃ t, ts[i]? = some t ∧ x = .ref t := by
  rw [List.getElem?_map] at h
  cases e : ts[i]? with
  | none =>
    rw [e] at h
    cases h
  | some t =>
    rw [e] at h
    exact ⟨t, rfl, (Option.some.inj h).symm⟩
theorem dki_len (b : Ps) : (dkI b).length = b.length := List.length_map ..
end Gc

/-! small pieces that many laws use -/
namespace Gc
open PySem L2
theorem lt_line {n : Nat} (h : n ≤ 100000) : n < sizeLine := by
  rw [sizeLine_eq]
  omega
theorem tru_seq {K : PySem.W.Frag} {H : Hp} {l : Addr} {xs : List V} (h : SqL K H l xs) : TruV K (.ref l) H (!xs.isEmpty) := .inl ⟨xs, h, rfl⟩
theorem takeS {α : Type} : ∀ {l : List α} {i : Nat} {x : α}, l[i]? = some x → l.take (i + 1) = l.take i ++ [x]
  | [], i, x, h => by simp at h
  | a :: l, 0, x, h => by
    obtain rfl := Option.some.inj h
    rfl
  | a :: l, i + 1, x, h => by
    have ih := takeS (l := l) (i := i) (x := x) h
    show a :: l.take (i + 1) = a :: l.take i ++ [x]
    rw [ih]
    rfl
theorem pairS {α β : Type} {F : α → β → Prop} : ∀ {xs : List α} {ys : List β} {x : α} {y : β}, Paired F xs ys → F x y → Paired F (xs ++ [x]) (ys ++ [y])
  | _, _, _, _, .nil, h => .cons h .nil
  | _, _, _, _, .cons f t, h => .cons f (pairS t h)
/-- a new object, told apart -/
theorem new_same {H : Hp} {p : Addr} {o : HO} (h : H p = none) : Same H (upd H p o) := fun b u hb => by
  rw [upd_ne (ne_of_none hb h)]
  exact hb
/-- a list is written; commands stand -/
theorem CmdsOf.atL {K : PySem.W.Frag} {H : Hp} {l : Addr} {ys zs : List V} {xs : List V} {cs : List Cmd} (hl : H l = some (.lst ys)) (h : CmdsOf K H xs cs) : CmdsOf K (upd H l (.lst zs)) xs cs := Paired.mapP h fun _ _ q => by
  obtain ⟨a, e1, h1⟩ := q
  refine ⟨a, e1, ?_⟩
  rcases h1 with (z | ⟨o, z⟩) | z
  · exact .inl (.inl (by rw [upd_ne (ne_of z hl (by intro q; cases q))]; exact z))
  · exact .inl (.inr ⟨o, by rw [upd_ne (ne_of z hl (by intro q; cases q))]; exact z⟩)
  · exact .inr z
end Gc
namespace Gc
open PySem L2
def nameC : Cmd → Str
  | .down _ => "down"
  | .up _ => "up"
  | .right _ => "right"
  | .left _ => "left"
  | .home => "home"
  | .stop => "end"
theorem enc_at (c : Cmd) : atI (encC c) 0 = some (.str (nameC c)) := by cases c <;> rfl
theorem getK {H : Hp} {p : Addr} {kvs : List (L2.Key × V)} {k : Str} {v : V} (h : H p = some (.dK kvs)) (e : valV kvs (.inr k : L2.Key) = some v) : DGet H p (.str k) (some v) := e ▸ DGet.k (k := .inr k) h
end Gc
namespace Gc
open PySem L2
/-! slices by places -/
theorem cutHi {xs : List V} {n : Nat} {z : Int} (e : z = (n : Int)) (h : n ≤ xs.length) : cutV xs none (some z) = xs.take n := by
  subst e
  unfold cutV
  rw [HT.sIx_none, HT.sIx_nat, List.drop_zero, Nat.sub_zero]
  congr 1
  omega
theorem cutLo {xs : List V} {n : Nat} {z : Int} (e : z = (n : Int)) : cutV xs (some z) none = xs.drop n := by
  subst e
  unfold cutV
  rw [HT.sIx_none, HT.sIx_nat]
  by_cases h : n ≤ xs.length
  · rw [Nat.min_eq_left h]
    exact List.take_of_length_le (by rw [List.length_drop]; exact Nat.le_refl _)
  · rw [Nat.min_eq_right (by omega), List.drop_eq_nil_of_le (Nat.le_refl _), List.take_nil, List.drop_eq_nil_of_le (by omega)]
theorem cutOne {xs : List V} {n m : Nat} {z y : Int} (e : z = (n : Int)) (e2 : y = (m : Int)) (hn : n ≤ xs.length) (hm : n ≤ m) : cutV xs (some z) (some y) = (xs.drop n).take (m - n) := by
  subst e e2
  unfold cutV
  rw [HT.sIx_nat, HT.sIx_nat, Nat.min_eq_left hn]
  by_cases h : m ≤ xs.length
  · rw [Nat.min_eq_left h]
  · rw [Nat.min_eq_right (by omega)]
    rw [List.take_of_length_le (l := xs.drop n) (by rw [List.length_drop]; exact Nat.le_refl _), List.take_of_length_le (by rw [List.length_drop]; omega)]
theorem paired_take {α β : Type} {F : α → β → Prop} : ∀ (n : Nat) {xs : List α} {ys : List β}, Paired F xs ys → Paired F (xs.take n) (ys.take n)
  | 0, _, _, _ => .nil
  | n + 1, _, _, .nil => .nil
  | n + 1, _, _, .cons h t => .cons h (paired_take n t)
theorem paired_drop {α β : Type} {F : α → β → Prop} : ∀ (n : Nat) {xs : List α} {ys : List β}, Paired F xs ys → Paired F (xs.drop n) (ys.drop n)
  | 0, _, _, h => h
  | n + 1, _, _, .nil => .nil
  | n + 1, _, _, .cons _ t => paired_drop n t
theorem paired_app {α β : Type} {F : α → β → Prop} : ∀ {xs xs' : List α} {ys ys' : List β}, Paired F xs ys → Paired F xs' ys' → Paired F (xs ++ xs') (ys ++ ys')
  | _, _, _, _, .nil, h => h
  | _, _, _, _, .cons h t, g => .cons h (paired_app t g)
end Gc

/-! commands as texts: what is written, and that it can be read back -/
namespace Gc
open PySem PyProof.Rows L2 TL
def mkS (l : List Nat) : Str := ⟨l.toArray⟩
theorem tl_mkS (l : List Nat) : tl (mkS l) = l := rfl
theorem mkS_app (l m : List Nat) : mkS l ++ mkS m = mkS (l ++ m) := ext_tl (by rw [tl_append]; rfl)
theorem mkS_len (l : List Nat) : (mkS l).length = l.length := by rw [len_tl]; rfl
theorem mkS_inj {l m : List Nat} (h : mkS l = mkS m) : l = m := by
  have e := congrArg tl h
  exact e
/-- the number of a command -/
def numC : Cmd → Int
  | .down n => n
  | .up n => n
  | .right n => n
  | .left n => n
  | _ => 0
def letC : Cmd → Nat
  | .down _ => 68
  | .up _ => 85
  | .right _ => 82
  | .left _ => 76
  | .home => 72
  | .stop => 69
/-- the digits that stand ahead of the letter -/
def digC : Cmd → List Nat
  | .down n => numL n.toNat
  | .up n => numL n.toNat
  | .right n => numL n.toNat
  | .left n => numL n.toNat
  | _ => []
def cw (c : Cmd) : List Nat := digC c ++ [letC c]
def noneL : List Nat := [110, 111, 110, 101]
def shownL (cs : List Cmd) : List Nat := if cs = [] then noneL else joinL [32] (cs.map cw)
def shownS (cs : List Cmd) : Str := mkS (shownL cs)
theorem digC_digits (c : Cmd) : NumText.AllDigits (digC c) := by
  cases c with
  | down n => exact numL_digits _
  | up n => exact numL_digits _
  | right n => exact numL_digits _
  | left n => exact numL_digits _
  | home => exact fun _ h => nomatch h
  | stop => exact fun _ h => nomatch h
theorem letC_ge (c : Cmd) : 65 ≤ letC c ∧ letC c ≤ 90 := by cases c <;> simp [letC]
theorem cw_free (c : Cmd) : 32 ∉ cw c := fun h => by
  rcases List.mem_append.mp h with h | h
  · have := digC_digits c 32 h
    omega
  · have e := List.mem_singleton.mp h
    have := letC_ge c
    omega
theorem cw_ne (c : Cmd) : cw c ≠ [] := by simp [cw]
theorem cw_inj {c d : Cmd} (hc : c.ok) (hd : d.ok) (h : cw c = cw d) : c = d := by
  have e1 := congrArg List.getLast? h
  have e2 := congrArg List.dropLast h
  unfold cw at e1 e2
  rw [List.getLast?_concat, List.getLast?_concat] at e1
  rw [List.dropLast_concat, List.dropLast_concat] at e2
  have e3 := Option.some.inj e1
  have key : ∀ {n m : Int}, 1 ≤ n → 1 ≤ m → numL n.toNat = numL m.toNat → n = m := fun h1 h2 z => by
    have := numL_inj z
    omega
  cases c <;> cases d <;> simp only [letC] at e3 <;> first
    | rfl
    | exact absurd e3 (by decide)
    | rw [key hc hd e2]
theorem cws_inj : ∀ {cs ds : List Cmd}, AllOk cs → AllOk ds → cs.map cw = ds.map cw → cs = ds
  | [], [], _, _, _ => rfl
  | [], _ :: _, _, _, h => by cases h
  | _ :: _, [], _, _, h => by cases h
  | c :: cs, d :: ds, h1, h2, h => by
    rw [List.map_cons, List.map_cons] at h
    injection h with e1 e2
    rw [cw_inj (h1 c List.mem_cons_self) (h2 d List.mem_cons_self) e1, cws_inj (fun x hx => h1 x (List.mem_cons_of_mem _ hx)) (fun x hx => h2 x (List.mem_cons_of_mem _ hx)) e2]
theorem join_words {cs : List Cmd} (h : cs ≠ []) : spl [32] 0 [] (joinL [32] (cs.map cw)) = cs.map cw :=
  spl_join (fun e => h (List.map_eq_nil_iff.mp e)) fun p hp => by
    obtain ⟨c, _, rfl⟩ := List.mem_map.mp hp
    exact cw_free c
theorem none_words : spl [32] 0 [] noneL = [noneL] := by decide +kernel
theorem none_no {cs : List Cmd} (h : cs ≠ []) : joinL [32] (cs.map cw) ≠ noneL := fun e => by
  have z := join_words h
  rw [e, none_words] at z
  cases cs with
  | nil => exact h rfl
  | cons c cs =>
    rw [List.map_cons] at z
    injection z with z1 z2
    have z3 := congrArg List.getLast? z1
    unfold cw at z3
    rw [List.getLast?_concat] at z3
    have z4 : (101 : Nat) = letC c := Option.some.inj z3
    have := letC_ge c
    omega
theorem shownL_inj {cs ds : List Cmd} (h1 : AllOk cs) (h2 : AllOk ds) (h : shownL cs = shownL ds) : cs = ds := by
  unfold shownL at h
  by_cases c : cs = []
  · by_cases d : ds = []
    · rw [c, d]
    · rw [if_pos c, if_neg d] at h
      exact absurd h.symm (none_no d)
  · by_cases d : ds = []
    · rw [if_neg c, if_pos d] at h
      exact absurd h (none_no c)
    · rw [if_neg c, if_neg d] at h
      have z1 := join_words c
      rw [h, join_words d] at z1
      exact (cws_inj h2 h1 z1).symm
theorem shownS_inj {cs ds : List Cmd} (h1 : AllOk cs) (h2 : AllOk ds) (h : shownS cs = shownS ds) : cs = ds := shownL_inj h1 h2 (mkS_inj h)
/-! lengths -/
theorem digC_len {c : Cmd} (h : numC c < 10 ^ 40) : (digC c).length ≤ 40 := by
  have key : ∀ n : Int, n < 10 ^ 40 → (numL n.toNat).length ≤ 40 := fun n hn => numL_len (k := 40) (by decide) (by omega)
  cases c with
  | down n => exact key n h
  | up n => exact key n h
  | right n => exact key n h
  | left n => exact key n h
  | home => exact Nat.zero_le _
  | stop => exact Nat.zero_le _
theorem cw_len {c : Cmd} (h : numC c < 10 ^ 40) : (cw c).length ≤ 41 := by
  unfold cw
  rw [List.length_append, List.length_singleton]
  have := digC_len h
  omega
theorem joinL_len {k : Nat} : ∀ {ps : List (List Nat)}, (∀ p ∈ ps, p.length ≤ k) → (joinL [32] ps).length ≤ (k + 1) * ps.length
  | [], _ => Nat.zero_le _
  | [p], h => by
    have := h p (List.mem_singleton.mpr rfl)
    show p.length ≤ (k + 1) * 1
    omega
  | p :: q :: r, h => by
    have h1 := h p List.mem_cons_self
    have h2 := joinL_len (ps := q :: r) fun x hx => h x (List.mem_cons_of_mem _ hx)
    show (p ++ ([32] ++ joinL [32] (q :: r))).length ≤ _
    rw [List.length_append, List.length_append, List.length_singleton, List.length_cons (a := p), Nat.mul_succ]
    omega
theorem shownL_len {cs : List Cmd} (h : ∀ c ∈ cs, numC c < 10 ^ 40) : (shownL cs).length ≤ 42 * cs.length + 4 := by
  unfold shownL
  by_cases c : cs = []
  · rw [if_pos c]
    exact Nat.le_add_left _ _
  · rw [if_neg c]
    have := joinL_len (k := 41) (ps := cs.map cw) fun p hp => by
      obtain ⟨d, hd, rfl⟩ := List.mem_map.mp hp
      exact cw_len (h d hd)
    rw [List.length_map] at this
    omega
/-- one more word behind -/
theorem joinL_snoc : ∀ {ps : List (List Nat)} {p : List Nat}, ps ≠ [] → joinL [32] (ps ++ [p]) = joinL [32] ps ++ ([32] ++ p)
  | [], _, h => absurd rfl h
  | [q], p, _ => rfl
  | q :: r :: s, p, _ => by
    show q ++ ([32] ++ joinL [32] ((r :: s) ++ [p])) = (q ++ ([32] ++ joinL [32] (r :: s))) ++ ([32] ++ p)
    rw [joinL_snoc (by simp)]
    simp [List.append_assoc]
theorem joinL_nil_iff : ∀ {ps : List (List Nat)}, (∀ p ∈ ps, p ≠ []) → (joinL [32] ps = [] ↔ ps = [])
  | [], _ => ⟨fun _ => rfl, fun _ => rfl⟩
  | [p], h => ⟨fun e => absurd e (h p (List.mem_singleton.mpr rfl)), fun e => nomatch e⟩
  | p :: q :: r, h => ⟨fun e => by
      have e2 : p ++ ([32] ++ joinL [32] (q :: r)) = [] := e
      simp at e2, fun e => nomatch e⟩
/-! equal lists of commands, as data -/
theorem eqv_cmd (c d : Cmd) : PyData.eqv (cmdD c) (cmdD d) = decide (c = d) := by
  cases c <;> cases d <;> simp [cmdD, PyData.eqv, PyData.eqvAll]
  all_goals first
    | decide +kernel
    | rw [Bool.eq_iff_iff, beq_iff_eq, decide_eq_true_eq]
    | (intro h; exact absurd h (by decide +kernel))
theorem eqvAll_cmds : ∀ cs ds : List Cmd, PyData.eqvAll (cs.map cmdD) (ds.map cmdD) = decide (cs = ds)
  | [], [] => by simp [PyData.eqvAll]
  | [], _ :: _ => by simp [PyData.eqvAll]
  | _ :: _, [] => by simp [PyData.eqvAll]
  | c :: cs, d :: ds => by
    rw [List.map_cons, List.map_cons, PyData.eqvAll, eqv_cmd, eqvAll_cmds cs ds]
    simp
theorem eqv_cmds (cs ds : List Cmd) : PyData.eqv (.list (cs.map cmdD)) (.list (ds.map cmdD)) = decide (cs = ds) := by
  rw [PyData.eqv]
  exact eqvAll_cmds cs ds
end Gc
namespace Gc
open PySem PyProof.Rows L2 TL
theorem depth_cmds : ∀ cs : List Cmd, PyData.depthAll (cs.map cmdD) ≤ 1
  | [] => by simp [PyData.depthAll]
  | c :: cs => by
    have := depth_cmds cs
    cases c <;> simp [PyData.depthAll, PyData.depth, cmdD, this]
theorem lay_cmds : ∀ cs : List Cmd, PyData.canLayAll0 (cs.map cmdD) = true
  | [] => by simp [PyData.canLayAll0]
  | c :: cs => by
    have h1 : PyData.strOk "down" = true := by decide +kernel
    have h2 : PyData.strOk "up" = true := by decide +kernel
    have h3 : PyData.strOk "right" = true := by decide +kernel
    have h4 : PyData.strOk "left" = true := by decide +kernel
    have h5 : PyData.strOk "home" = true := by decide +kernel
    have h6 : PyData.strOk "end" = true := by decide +kernel
    cases c <;> simp [PyData.canLayAll0, PyData.canLay0, cmdD, lay_cmds cs, h1, h2, h3, h4, h5, h6]
theorem shaped_cmds (cs : List Cmd) : SeqAt.shaped (.list (cs.map cmdD)) = true := by
  have h2 := depth_cmds cs
  have hd : (PyData.list (cs.map cmdD)).depth ≤ 64 := by
    simp only [PyData.depth]
    omega
  unfold SeqAt.shaped
  rw [decide_eq_true hd]
  simp [PyData.canLay0, lay_cmds cs]
/-- one more word of what is written -/
theorem shown_step (cs : List Cmd) (i : Nat) (c : Cmd) (h : cs[i]? = some c) :
    joinL [32] ((cs.take (i + 1)).map cw) = joinL [32] ((cs.take i).map cw) ++ (if i = 0 then [] else [32]) ++ digC c ++ [letC c] := by
  have e : cs.take (i + 1) = cs.take i ++ [c] := by
    rw [List.take_add_one, h]
    rfl
  rw [e, List.map_append, List.map_singleton]
  by_cases z : i = 0
  · subst z
    simp [joinL, cw]
  · have ne : (cs.take i).map cw ≠ [] := by
      intro q
      have q2 := congrArg List.length q
      have li := (List.getElem?_eq_some_iff.mp h).1
      rw [List.length_map, List.length_take, List.length_nil] at q2
      omega
    rw [joinL_snoc ne, if_neg z]
    simp [cw, List.append_assoc]
theorem shown_nil (cs : List Cmd) (i : Nat) (c : Cmd) (h : cs[i]? = some c) : joinL [32] ((cs.take i).map cw) = [] ↔ i = 0 := by
  rw [joinL_nil_iff (fun p hp => by
    obtain ⟨c, _, rfl⟩ := List.mem_map.mp hp
    exact cw_ne c)]
  have li := (List.getElem?_eq_some_iff.mp h).1
  constructor
  · intro q
    have q2 := congrArg List.length q
    rw [List.length_map, List.length_take, List.length_nil] at q2
    omega
  · intro q
    subst q
    rfl
end Gc

/-! x *= y of great numbers; xs[i] += y -/
namespace Gc
open PySem PySem.Spec PyProof.Rows L2
section
variable {X : Cx}
def ipC (C : Int → Int → Prop) (f : Int → Int → Int) : TIp := fun x y H Q => ∃ i j, x = .int i ∧ y = .int j ∧ C i j ∧ Q (.int (f i j)) H
theorem ip_mulW : PIp X .Mult (ipC CMulW fun i j => i * j) := by
  intro pins s σ H x y v u Q I rx ry h
  obtain ⟨i, j, rfl, rfl, hc, q⟩ := h
  obtain ⟨t, rfl⟩ := rx
  obtain ⟨t', rfl⟩ := ry
  exact PySem.P.imul_int (⟨.int (i * j), H, I.tok _, ⟨_, rfl⟩, q⟩) hc.ok
/-- an item of a list by its place from the front, within an augmented assignment -/
def rGetL : V → V → Hp → VK → Prop := fun o i H Q => ∃ (p : Addr) (xs : List V) (j : Nat) (v : V), o = .ref p ∧ i = .int j ∧ H p = some (.lst xs) ∧ xs.length ≤ 1000000 ∧ xs[j]? = some v ∧ Q v H
theorem get_list : PGet X rGetL := by
  intro pins s σ H o i ov iv Q I ro ri h
  obtain ⟨p, xs, j, z, rfl, rfl, hp, hl, hj, q⟩ := h
  cases ro
  obtain ⟨t, rfl⟩ := ri
  obtain ⟨its, r, pl, hz⟩ := I.list (.inl (.inl hp))
  obtain ⟨w, ew, rw'⟩ := r.get hj
  have lj := (List.getElem?_eq_some_iff.mp hj).1
  have l63 := line63
  refine wpAny_getItem_list (x := w) pl.isList (by omega) (by omega) (by simpa using ew) ⟨z, H, I, rw', q⟩
end
end Gc

/-! calls by names alone, the names in the other order: f(b=.., a=..) of def f(a, b) -/
namespace Gc
open PySem PySem.Spec PyProof.Rows L2
def gRev {α : Type} (us ws : List α) : List α := us ++ ws.reverse
theorem vals_rev : ∀ {vs : List V} {us : List Value}, Vals vs us → Vals vs.reverse us.reverse
  | _, _, .nil => .nil
  | v :: vs, u :: us, .cons h t => by
    rw [List.reverse_cons, List.reverse_cons]
    exact (vals_rev t).append (.cons h .nil)
structure CalK (P : Program) (w : World) (K : PySem.W.Frag) (mg : Str → Option Value) (base : Heap) (k : Nat) (x : Str) (ks : List Str) (sp : Sp) : Prop where
  ex : ∃ (f : Addr) (fd : FuncData) (ps : List Str), FnOk P w K mg base CX0 k f fd ps sp ∧ mg x = some (.ref f) ∧ PySem.W.keepIn K (.ref f) = true ∧ KBinds K fd ps ks gRev gRev
/-- how it binds: h is «fun _ _ _ _ _ _ us ws hl => match us, ws, hl with | [], [_, _], _ => rfl | [_], [_], _ => rfl | [_, _], [], _ => rfl» -/
theorem bindsK {K : PySem.W.Frag} {x qual : Str} {st : Stmt} {f : Addr} {fd : FuncData} {ps ks : List Str} (F : Fun K x qual st f fd)
    (h : ∀ (kV doc pm : Value) (an : Option Addr) (cdv ct : Value) (us ws : List Value), (gRev us ws).length = ps.length → bindArgs (PySem.W.fnOf x qual (defArgs st) (defBody st) (defScope st) .none kV doc pm an cdv ct) ⟨us, ks.zip ws⟩ = pure (ps.zip (gRev us ws))) : KBinds K fd ps ks gRev gRev := by
  obtain ⟨oc, od, kV, doc, pm, an, cdv, ct, osl, rfl, lk, hcd⟩ := F.ex
  exact ⟨fun s us ws _ hl => .of_eq (h kV doc pm an cdv ct us ws hl), fun a b => a.append (vals_rev b)⟩
theorem pe_calK {X : Cx} {k j : Nat} {x : Str} {ks : List Str} {sp : Sp} {p pos : Pos} {kws : List Keyword} {tk : TA} (c : CalK X.prog X.w X.K X.mg X.base k x ks sp) (hr : Room j X.A) (hk : k ≤ j) (hg : Gl X x) (hkw : PK X kws tk)
    (hdb : (x == ("__debug__" : Str)) = false := by decide) (hall : (backToKw pos (keywordEach kws X.env)).all (·.1.isSome) = true := by rfl) (hks : (backToKw pos (keywordEach kws X.env)).filterMap (·.1) = ks := by rfl)
    (hpn : ((backTo pos (starEach [] X.env)).any (·.1) || (backToKw pos (keywordEach kws X.env)).any (·.1.isNone)) = false := by rfl) :
    PE X (.Call (.Name x p) [] kws pos) (tCallK sp gRev E0 tNil tk) := by
  obtain ⟨f, fd, ps, F, hm, kp, b⟩ := c.ex
  refine ⟨fun pins s σ H Q I h => ?_⟩
  refine wpAny_Call_Name_kw (ld_glob I hg hm ?_ hdb)
  refine PySem.W.callWith_KW0 (h₀ := X.base) I.ok.mod.kin kp hall ?_ hpn
  refine thn (hkw.run pos pins s σ H _ I h) fun ws s1 ⟨zs, H1, I1, rz, q⟩ => ⟨I1.kIn, ?_⟩
  rw [hks]
  exact run_fnk (us := []) (vs := []) F (hr.mono hk) b pass0 I1 .nil rz q
end Gc

/-! raising the program's own errors: classes whose __init__ keeps one value; calls of defs that may raise -/
namespace L2
open PySem PySem.Spec PyProof.Rows
/-- def __init__(self, value): self.value = value, on a new exception of the class at C -/
def spKeep (C : Addr) : Sp := fun vs H Q _ => ∃ (a : Addr) (v : V), vs = [.ref a, v] ∧ H a = some (exo a C none) ∧
  ∀ dx, H dx = none → dx ≠ a → Q .non (upd (upd H dx (exd dx [("value", v)])) a (exo a C (some dx)))
/-- the error class x of the program, at C -/
structure ErrC (P : Program) (w : World) (K : PySem.W.Frag) (mg : Str → Option Value) (base : Heap) (x : Str) (C : Addr) : Prop where
  T : OexC K C
  g : mg x = some (.ref C)
  no : PySem.W.findIn K (.ref C) "value" = some none
  ex : ∃ (fI : Addr) (fd : FuncData), PySem.W.findIn K (.ref C) "__init__" = some (some (.ref fI)) ∧ PySem.W.typeIn K (.ref fI) = some (.type "function") ∧
    FnOk P w K mg base CX0 1 fI fd ["self", "value"] (spKeep C) ∧ Binds K fd ["self", "value"] []
/-- x(e) in a raise: the new error's class, its dict, the heap with that dict -/
def rRaise (C : Addr) (Q : XK) (v : V) (H1 : Hp) : Prop := [v].length ≤ 1000 ∧ ∀ a, H1 a = none → spKeep C (.ref a :: ([v] ++ [])) (upd H1 a (exo a C none))
  (fun u H2 => u = .non ∧ ∃ (d : Addr) (fs : List (Str × V)), H2 a = some (exo a C (some d)) ∧ H2 d = some (exd d fs) ∧ H1 d = none ∧ Q (.ref C) (some d) (upd (del H2 a) d (.xd fs))) (fun _ _ _ => False)
theorem ask_raise {C : Addr} {Q : XK} {v : V} {H : Hp} (h : ∀ d, H d = none → Q (.ref C) (some d) (upd H d (.xd [("value", v)]))) : rRaise C Q v H := by
  refine ⟨(by show 1 ≤ 1000; decide), fun a ha => ⟨a, v, rfl, upd_same, fun dx hd ne => ⟨rfl, dx, [("value", v)], upd_same, ?_, ?_, ?_⟩⟩⟩
  · rw [upd_ne ne, upd_same]
  · rw [upd_ne ne] at hd
    exact hd
  · have hd' : H dx = none := by
      rw [upd_ne ne] at hd
      exact hd
    have e : upd (del (upd (upd (upd H a (exo a C none)) dx (exd dx [("value", v)])) a (exo a C (some dx))) a) dx (.xd [("value", v)]) = upd H dx (.xd [("value", v)]) := by
      funext b
      by_cases hb : b = dx
      · rw [hb, upd_same, upd_same]
      · rw [upd_ne hb, upd_ne hb]
        by_cases ha' : b = a
        · rw [ha', del_same, ha]
        · rw [del_ne ha', upd_ne ha', upd_ne hb, upd_ne ha']
    rw [e]
    exact h dx hd'
section
variable {X : Cx} {k j : Nat} {x : Str} {sp : Sp} {p pos pos2 : Pos} {e : Expr} {es : List Expr} {t : TA} {te : TE} {W : WX} {C : Addr}
def tRaiseE (C : Addr) (W : WX) (te : TE) : TS := fun _ σ H => te σ H fun v H1 => rRaise C (fun cls d H' => W cls d σ H') v H1
theorem ps_raiseE (hc : X.calm = true) (c : ErrC X.prog X.w X.K X.mg X.base x C) (hr : Room j X.A) (hj : 2 ≤ j) (tk : Takes X W) (he : PE X e te) (hg : Gl X x)
    (hdb : (x == ("__debug__" : Str)) = false := by decide)
    (hs : starEach (e :: []) X.env = (false, eval e X.env) :: starEach [] X.env := by rfl) (hpl : (backTo pos (starEach [] X.env)).any (·.1) = false := by rfl) :
    PS X (.Raise (some (.Call (.Name x p) [e] [] pos)) none pos2) (tRaiseE C W te) := by
  obtain ⟨T, g, no, fI, fd, iC, tI, F, b⟩ := c
  exact ps_raise hc tk (pmk_oex (dvs := []) T iC tI F (hr.mono hj) b .nil pass0 hg g (pa_cons he pa_nil hs) hdb hs hpl)
/-- a def that is called by its name and may let an error out -/
structure CalX (P : Program) (w : World) (K : PySem.W.Frag) (mg : Str → Option Value) (base : Heap) (k : Nat) (x : Str) (sp : Sp) : Prop where
  ex : ∃ (f : Addr) (fd : FuncData) (ps : List Str), FnOk P w K mg base (L2.CX P w) k f fd ps sp ∧
    mg x = some (.ref f) ∧ PySem.W.keepIn K (.ref f) = true ∧ Binds K fd ps []
theorem pe_calX (tk : Takes X W) (c : CalX X.prog X.w X.K X.mg X.base k x sp) (hr : Room j X.A) (hk : k ≤ j) (hg : Gl X x) (ha : PA X (e :: es) t)
    (hdb : (x == ("__debug__" : Str)) = false := by decide)
    (he : starEach (e :: es) X.env = (false, eval e X.env) :: starEach es X.env := by rfl)
    (hpl : (backTo pos (starEach es X.env)).any (·.1) = false := by rfl) :
    PE X (.Call (.Name x p) (e :: es) [] pos) (tCallS sp (WE W) t) := by
  obtain ⟨f, fd, ps, F, hm, kp, b⟩ := c.ex
  exact pe_callS F (hr.mono hk) hg hm kp b (fun σ => passAt tk σ) ha hdb he hpl
end
end L2

/-! a caught error that is looked at: handed to a def within the except suite, its classes, its field -/
namespace L2
open PySem PySem.Spec PyProof.Rows
/-- what a def promises that is handed the error of the suite: at a, of the class at C, with the dict d -/
structure FnE (P : Program) (w : World) (K : PySem.W.Frag) (mg : Str → Option Value) (base : Heap) (k : Nat) (f : Addr) (fd : FuncData) (ps : List Str) (sp : Addr → Addr → Addr → Sp) : Prop where
  many : ∀ a C d vs H Q E, sp a C d vs H Q E → vs.length = ps.length
  go : ∀ (A : Around) (below : List Env) (s : Shared) (H : Hp) (given : Args) (us : List Value) (vs : List V) (Q : VK) (E : XK) (q : Addr × Obj) (C d : Addr), L2H.RoomH k A → L2H.PinOk below H s q → Zc (.ref C) (some d) q.2 → (∃ ws, q.2.data = .fields ws) →
    Env0 P w K mg base A below s H → BindsTo s fd given (ps.zip us) → Vals vs us → sp q.1 C d vs H Q E → codeAny (model P w) A (.call (.ref f) given) (CR CX0 below P w H s Q E) s
/-- the context that such a def's body runs in -/
abbrev cxE (P : Program) (w : World) (K : PySem.W.Frag) (mg : Str → Option Value) (base : Heap) (N : List Str) (qual : Str) (sc : Scope) (f : Addr) (cd : Value) (A : Around) (below : List Env) (s : Shared) (H : Hp) (E : XK) (q : Addr × Obj) : Cx :=
  L2H.cxH CX0 P w K mg base N qual sc f cd A below s H E q
theorem Fun.okE {P : Program} {w : World} {K : PySem.W.Frag} {mg : Str → Option Value} {base : Heap} {x qual : Str} {st : Stmt} {f : Addr} {fd : FuncData} {N ps : List Str} {k : Nat} {sp : Addr → Addr → Addr → Sp} (F : Fun K x qual st f fd) (S : FnScope N ps (defScope st))
    (many : ∀ a C d vs H Q E, sp a C d vs H Q E → vs.length = ps.length)
    (body : ∀ (cdv : Value) (A : Around) (below : List Env) (s : Shared) (H : Hp) (vs : List V) (Q : VK) (E : XK) (q : Addr × Obj) (C d : Addr), L2H.RoomH k (A.deeper (envOfC qual (defScope st) s.heap.objs.size f cdv)) → Zc (.ref C) (some d) q.2 → (∃ ws, q.2.data = .fields ws) → sp q.1 C d vs H Q E →
      ∃ t, PSs (cxE P w K mg base N qual (defScope st) f cdv A below s H E q) (defBody st) t ∧ t { nx := fun _ H' => Q .non H', rt := Q } (start N vs) H) : FnE P w K mg base (k + 1) f fd ps sp := by
  obtain ⟨oc, od, kV, doc, pm, an, cdv, ct, osl, rfl, lk, code⟩ := F.ex
  refine ⟨many, fun A below s H given us vs Q E q C d room pin hz hf env bnd rel want => ?_⟩
  have size := many _ _ _ _ _ _ _ want
  have inK : K.In s.heap := env.mod.kin.keeps fun b o z => (env.bs b o z).1
  have free : s.heap.NoLimit := env.mod.nolimit.keeps fun b o z => (env.bs b o z).1
  refine codeAny_call_function room.depth (inK _ _ lk) rfl S.co S.gen rfl (PySem.W.codeRec_of inK code) (bnd _ _ _ _ ?_)
  refine wpAny_newFunctionEnv_cells S.kind (fun ⟨n, v⟩ there => (S.par n (List.of_mem_zip there).1).elim .inl fun z => .inr ⟨z, PySem.W.cellsFrom_some _ _ _ (.inl z)⟩) fun env2 same s1 call => ?_
  subst same
  refine ⟨free.keeps call.toInCall.keep, codeAny_func ?_⟩
  obtain ⟨t, holds, ask⟩ := body cdv A below s H vs Q E q C d (room.deeper _) hz hf want
  refine wpAny_mono (holds.run [] s1 (start N vs) H _ (L2H.inv_startH S pin env size rel call) ask) (fun how s2 end_ => ?_) fun e s2 end_ => end_
  cases how with
  | ret u =>
    obtain ⟨v, τ, G, J, rv, z⟩ := end_
    exact ⟨v, G, J.os, J.bare, J.base, J.hok, rv, z⟩
  | next =>
    obtain ⟨τ, G, J, z⟩ := end_
    exact ⟨V.non, G, J.os, J.bare, J.base, J.hok, rfl, z⟩
  | brk => exact end_.elim fun _ z => z.elim fun _ y => y.2.elim
  | cont => exact end_.elim fun _ z => z.elim fun _ y => y.2.elim
/-- such a def, called by its name -/
structure CalE (P : Program) (w : World) (K : PySem.W.Frag) (mg : Str → Option Value) (base : Heap) (k : Nat) (x : Str) (sp : Addr → Addr → Addr → Sp) : Prop where
  ex : ∃ (f : Addr) (fd : FuncData) (ps : List Str), FnE P w K mg base k f fd ps sp ∧ mg x = some (.ref f) ∧ PySem.W.keepIn K (.ref f) = true ∧ Binds K fd ps []
def tCallE (a : Addr) (cls : Value) (d : Option Addr) (sp : Addr → Addr → Addr → Sp) (t : TA) : TE := fun σ H Q => t σ H fun vs H1 => ∃ C dd : Addr, cls = .ref C ∧ d = some dd ∧ sp a C dd vs H1 Q E0
section
variable {X : Cx} {k j : Nat} {x : Str} {sp : Addr → Addr → Addr → Sp} {p pos : Pos} {e : Expr} {es : List Expr} {t : TA} {te : TE} {a : Addr} {oe : Obj} {cls : Value} {d : Option Addr} {pn : List (Addr × Obj)}
theorem pe_callE (c : CalE X.prog X.w X.K X.mg X.base k x sp) (hr : Room j X.A) (hk : k ≤ j) (hz : Zc cls d oe) (hf : ∃ vs, oe.data = .fields vs) (hg : Gl (X.suite a ((a, oe) :: pn)) x) (ha : PA (X.suite a ((a, oe) :: pn)) (e :: es) t)
    (hdb : (x == ("__debug__" : Str)) = false := by decide)
    (he : starEach (e :: es) X.env = (false, eval e X.env) :: starEach es X.env := by rfl)
    (hpl : (backTo pos (starEach es X.env)).any (·.1) = false := by rfl) :
    PE (X.suite a ((a, oe) :: pn)) (.Call (.Name x p) (e :: es) [] pos) (tCallE a cls d sp t) := by
  obtain ⟨f, fd, ps, F, hm, kp, b⟩ := c.ex
  refine ⟨fun pins s σ H Q I h => ?_⟩
  refine wpAny_Call_Name_kw (ld_glob I hg hm ?_ hdb)
  refine PySem.W.callWith_K (h₀ := X.base) I.ok.mod.kin kp (thn (ha.run pos pins s σ H _ I h) fun us s1 ⟨vs, H1, I1, r, C, dd, ec, ed, q⟩ => ⟨I1.kIn, ?_⟩) he hpl
  subst ec
  subst ed
  have size : us.length = ps.length := by rw [← r.length]; exact F.many _ _ _ _ _ _ _ q
  have bnd := b s1 us I1.kIn (by rw [List.append_nil]; exact size)
  rw [List.append_nil] at bnd
  obtain ⟨p1, p2, p3, p4, p5⟩ := I1.pin (a, oe) (List.mem_append_left _ List.mem_cons_self)
  have pin : L2H.PinOk (X.suite a ((a, oe) :: pn)).stack H1 s1 (a, oe) := ⟨p1, p2, fun z => (List.mem_cons.mp (I1.stkSub a z)).elim p3 p4, p5⟩
  refine wpAny_call (codeAny_mono (F.go _ _ s1 H1 ⟨us, []⟩ us vs Q E0 (a, oe) C dd ((⟨hr.dp, hr.un⟩ : L2H.RoomH j (X.suite a ((a, oe) :: pn)).A).mono hk) pin hz hf I1.env0 bnd r q) fun how s2 end_ => ?_)
  cases how with
  | error u => exact False.elim end_
  | ok fl =>
    cases fl with
    | ret u => exact I1.after end_
    | next => exact False.elim end_
    | brk => exact False.elim end_
    | cont => exact False.elim end_
/-- what an error class must say, so that its instances can be looked at -/
structure ErrI (K : PySem.W.Frag) (C : Addr) : Prop where
  cl : (PySem.W.clsIn K C).isSome = true
  ga : PySem.W.findIn K (.ref C) "__getattribute__" = some (some (.builtin "BaseException.__getattribute__"))
  gg : PySem.W.findIn K (.ref C) "__getattr__" = some none
  be : PySem.W.subIn K (.ref C) (.type "BaseException") = some true
  hd : PySem.W.hasDictIn K C = true
  cc : PySem.W.findIn K (.ref C) "__class__" = some (some (.builtin "object.__class__"))
  gt : PySem.W.specialIn K (.builtin "object.__class__") "__get__" = some (some (.builtin "getset_descriptor.__get__"))
  tk : PySem.W.takesIn K (.builtin "object.__class__") = some true
  ob : PySem.W.mroIn K C (.type "object") = some true
  no : PySem.W.findIn K (.ref C) "value" = some none
theorem pin_inst {pins : List (Addr × Obj)} {s : Shared} {σ : St} {H : Hp} {C dd : Addr} {fs : List (Str × V)} (I : Inv X pins σ H s) (hp : (a, oe) ∈ X.pn) (hz : Zc (.ref C) (some dd) oe) (hf : ∃ vs, oe.data = .fields vs) (ed : H dd = some (.xd fs)) :
    ∃ (od : Obj) (mA : Str → Option Value), PySem.W.InstAt s.heap a oe C (some od) ∧ (∀ f, PySem.W.lookIn f od = some (mA f)) ∧ ∀ f, RelO (fs.lookup f) (mA f) := by
  obtain ⟨p1, _⟩ := I.pin (a, oe) (List.mem_append_left _ hp)
  obtain ⟨vs, hd⟩ := hf
  obtain ⟨mA, hns, rel⟩ := (show ObjOk X.prog X.w H s.heap dd (.xd fs) from I.hok dd _ ed)
  obtain ⟨od, ho, hl⟩ := lookIn_ns hns
  exact ⟨od, mA, ⟨p1, hz.1, by unfold PySem.W.notCls; rw [hd] <;> rfl, by rw [hz.2]; exact ho⟩, hl, rel⟩
/-- isinstance(e, c), e the error -/
def rIsX (K : PySem.W.Frag) (a C dd : Addr) : List V → Hp → VK → Prop := fun xs H Q => ∃ (fs : List (Str × V)) (c : V) (cv : Value) (b : Bool), xs = [.ref a, c] ∧ H dd = some (.xd fs) ∧ ErrI K C ∧ ClsV c cv ∧ PySem.W.kitOne K (.ref C) cv = some b ∧ Q (.bl b) H
theorem call_isX {C dd : Addr} (hp : (a, oe) ∈ X.pn) (hz : Zc (.ref C) (some dd) oe) (hf : ∃ vs, oe.data = .fields vs) : CallR X (.builtin "isinstance") (rIsX X.K a C dd) := by
  intro pins s σ H xs us Q I r h
  obtain ⟨fs, c, cv, b, rfl, ed, T, k, e, q⟩ := h
  obtain ⟨u1, u2, rfl, r1, r2⟩ := vals2 r
  have e2 := k.eq r2
  subst e2
  obtain rfl : u1 = Value.ref a := r1
  obtain ⟨od, mA, J, _, _⟩ := pin_inst I hp hz hf ed
  exact PySem.W.kia_one (PySem.W.kitx_exc T.cl T.ga T.gg T.be T.cc T.gt T.tk T.ob) I.kIn J e (fun z => nomatch z) fun tk => ⟨.bl b, H, I.tok tk, rfl, q⟩
/-- isinstance(e, (c1, c2, ..)) -/
def rIsXT (K : PySem.W.Frag) (a C dd : Addr) : List V → Hp → VK → Prop := fun xs H Q => ∃ (fs : List (Str × V)) (tp : Addr) (cs : List V) (us : List Value) (b : Bool), xs = [.ref a, .ref tp] ∧ H dd = some (.xd fs) ∧ ErrI K C ∧ H tp = some (.tup cs) ∧ Paired ClsV cs us ∧
  PySem.W.kitAny K (.ref C) us = some b ∧ Q (.bl b) H
theorem call_isXT {C dd : Addr} (hp : (a, oe) ∈ X.pn) (hz : Zc (.ref C) (some dd) oe) (hf : ∃ vs, oe.data = .fields vs) : CallR X (.builtin "isinstance") (rIsXT X.K a C dd) := by
  intro pins s σ H xs us Q I r h
  obtain ⟨fs, tp, cs, ws, b, rfl, ed, T, hT, k, e, q⟩ := h
  obtain ⟨u1, u2, rfl, r1, r2⟩ := vals2 r
  obtain rfl : u1 = Value.ref a := r1
  obtain rfl : u2 = Value.ref tp := r2
  obtain ⟨od, mA, J, _, _⟩ := pin_inst I hp hz hf ed
  obtain ⟨_, its, rv, o, g1, g2, n, g3⟩ := (show ObjOk X.prog X.w H s.heap tp (.tup cs) from I.hok tp _ hT)
  have e3 := ClsV.all k rv
  subst e3
  obtain ⟨oc, o2, dt, sl⟩ := o
  simp only at g2 g3
  subst g2 g3
  exact PySem.W.kia_tup (PySem.W.kitx_exc T.cl T.ga T.gg T.be T.cc T.gt T.tk T.ob) I.kIn J g1 e (fun z => nomatch z) fun tk => ⟨.bl b, H, I.tok tk, rfl, q⟩
/-- e.value -/
def tXfA (K : PySem.W.Frag) (a : Addr) (cls : Value) (d : Option Addr) (te : TE) : TE := fun σ H Q => te σ H fun x H1 => x = .ref a ∧ ∃ (C dd : Addr) (v : V), cls = .ref C ∧ d = some dd ∧ ErrI K C ∧ H1 dd = some (.xd [("value", v)]) ∧ Q v H1
theorem pe_xfA (hz : Zc cls d oe) (hf : ∃ vs, oe.data = .fields vs) (he : PE (X.suite a ((a, oe) :: pn)) e te) (hb : attributeBase e "value" X.env (eval e X.env) = eval e X.env := by rfl) :
    PE (X.suite a ((a, oe) :: pn)) (.Attribute e "value" pos) (tXfA X.K a cls d te) := by
  refine ⟨fun pins s σ H Q I h => ?_⟩
  refine attr_of hb (thn (he.run pins s σ H _ I h) fun u s1 hh => ?_)
  obtain ⟨x, H1, I1, rx, ex, C, dd, v, ec, ed, T, hd, q⟩ := hh
  subst ex
  obtain rfl : u = Value.ref a := rx
  subst ec
  subst ed
  obtain ⟨od, mA, J, hl, rel⟩ := pin_inst I1 List.mem_cons_self hz hf hd
  obtain ⟨u, hu, ru⟩ := RelO.some_of (v := v) (o := mA "value") (by
    have z := rel "value"
    rw [show List.lookup ("value" : Str) [(("value" : Str), v)] = some v by simp [List.lookup]] at z
    exact z)
  exact HandSPX.exc_get I1.kIn J T.ga T.gg T.be (PySem.W.findObj_own T.hd T.no rfl (by rw [hl, hu])) (handed_of ru) ⟨v, H1, I1.tok _, ru, q⟩
end
end L2
namespace Gc
open PySem PySem.Spec PyProof.Rows L2
/-- a def that may let an error out, called by names alone -/
structure CalKX (P : Program) (w : World) (K : PySem.W.Frag) (mg : Str → Option Value) (base : Heap) (k : Nat) (x : Str) (ks : List Str) (sp : Sp) : Prop where
  ex : ∃ (f : Addr) (fd : FuncData) (ps : List Str), FnOk P w K mg base (L2.CX P w) k f fd ps sp ∧ mg x = some (.ref f) ∧ PySem.W.keepIn K (.ref f) = true ∧ KBinds K fd ps ks gRev gRev
def tCallKX (sp : Sp) (W : WX) (tk : TA) : TE := fun σ H Q => tk σ H fun zs H2 => sp (gRev [] zs) H2 Q (WE W σ)
theorem pe_calKX {X : Cx} {W : WX} {k j : Nat} {x : Str} {ks : List Str} {sp : Sp} {p pos : Pos} {kws : List Keyword} {t : TA} (tk : Takes X W) (c : CalKX X.prog X.w X.K X.mg X.base k x ks sp) (hr : Room j X.A) (hk : k ≤ j) (hg : Gl X x) (hkw : PK X kws t)
    (hdb : (x == ("__debug__" : Str)) = false := by decide) (hall : (backToKw pos (keywordEach kws X.env)).all (·.1.isSome) = true := by rfl) (hks : (backToKw pos (keywordEach kws X.env)).filterMap (·.1) = ks := by rfl)
    (hpn : ((backTo pos (starEach [] X.env)).any (·.1) || (backToKw pos (keywordEach kws X.env)).any (·.1.isNone)) = false := by rfl) :
    PE X (.Call (.Name x p) [] kws pos) (tCallKX sp W t) := by
  obtain ⟨f, fd, ps, F, hm, kp, b⟩ := c.ex
  refine ⟨fun pins s σ H Q I h => ?_⟩
  refine wpAny_Call_Name_kw (ld_glob I hg hm ?_ hdb)
  refine PySem.W.callWith_KW0 (h₀ := X.base) I.ok.mod.kin kp hall ?_ hpn
  refine thn (hkw.run pos pins s σ H _ I h) fun ws s1 ⟨zs, H1, I1, rz, q⟩ => ⟨I1.kIn, ?_⟩
  rw [hks]
  have r2 := b.rel (us := []) (vs := []) .nil rz
  have size : (gRev [] ws).length = ps.length := by rw [← r2.length]; exact F.len _ _ _ _ q
  refine wpAny_call (codeAny_mono (F.run X.A X.stack s1 H1 ⟨[], ks.zip ws⟩ (gRev [] ws) (gRev [] zs) Q (WE W σ) (hr.mono hk) I1.env0 (b.to s1 [] ws I1.kIn size) r2 q) fun how s2 end_ => ?_)
  cases how with
  | error u => exact passAt tk σ pins H1 s1 u s2 I1 end_
  | ok fl =>
    cases fl with
    | ret u => exact I1.after end_
    | next => exact False.elim end_
    | brk => exact False.elim end_
    | cont => exact False.elim end_
end Gc
namespace L2
open PySem PySem.Spec PyProof.Rows
theorem takesNone {X : Cx} : Takes X (fun _ _ _ _ => False) := fun _ _ x => by
  obtain ⟨_, _, _, _, _, _, _, _, _, _, _, _, _, _, _, _, z⟩ := x
  exact z.elim
end L2

/-! what is known of the error classes; R: which of them may be raised -/
namespace L2
open PySem PySem.Spec PyProof.Rows
/-- e.value in a def that was handed the caught error -/
theorem pe_xfE {X : Cx} {e : Expr} {te : TE} {a : Addr} {oe : Obj} {C dd : Addr} {pos : Pos} (hp : (a, oe) ∈ X.pn) (hz : Zc (.ref C) (some dd) oe) (hf : ∃ vs, oe.data = .fields vs) (he : PE X e te) (hb : attributeBase e "value" X.env (eval e X.env) = eval e X.env := by rfl) :
    PE X (.Attribute e "value" pos) (tXfA X.K a (.ref C) (some dd) te) := by
  refine ⟨fun pins s σ H Q I h => ?_⟩
  refine attr_of hb (thn (he.run pins s σ H _ I h) fun u s1 hh => ?_)
  obtain ⟨x, H1, I1, rx, ex, C', dd', v, ec, ed, T, hd, q⟩ := hh
  subst ex
  obtain rfl : u = Value.ref a := rx
  cases ec
  cases ed
  obtain ⟨od, mA, J, hl, rel⟩ := pin_inst I1 hp hz hf hd
  obtain ⟨u, hu, ru⟩ := RelO.some_of (v := v) (o := mA "value") (by
    have z := rel "value"
    rw [show List.lookup ("value" : Str) [(("value" : Str), v)] = some v by simp [List.lookup]] at z
    exact z)
  exact HandSPX.exc_get I1.kIn J T.ga T.gg T.be (PySem.W.findObj_own T.hd T.no rfl (by rw [hl, hu])) (handed_of ru) ⟨v, H1, I1.tok _, ru, q⟩
end L2
namespace Gc
open PySem L2
structure TxtE (K : PySem.W.Frag) (mg : Str → Option Value) (cs : Nat → Addr) (CE : Addr) (R : Nat → Prop) : Prop where
  g0 : mg "InvalidText" = some (.ref (cs 0))
  g1 : mg "InvalidCursor" = some (.ref (cs 1))
  g2 : mg "InvalidCommand" = some (.ref (cs 2))
  g3 : mg "Impossible" = some (.ref (cs 3))
  g4 : mg "InvalidNumber" = some (.ref (cs 4))
  g5 : mg "NothingToUndo" = some (.ref (cs 5))
  g6 : mg "Unreadable" = some (.ref (cs 6))
  gE : mg "CursorError" = some (.ref CE)
  lt : ∀ i, R i → i < 7
  kit : ∀ i j, R i → j < 7 → PySem.W.kitOne K (.ref (cs i)) (.ref (cs j)) = some (decide (i = j))
  kve : ∀ i, R i → PySem.W.kitOne K (.ref (cs i)) (.type "ValueError") = some true
  kce : ∀ i, R i → PySem.W.kitOne K (.ref (cs i)) (.ref CE) = some true
  ex : ∀ i, R i → PySem.W.exmOne K (.ref (cs i)) (.ref CE) = some true
  ei : ∀ i, R i → ErrI K (cs i)
  isinstance : mg "isinstance" = none
  ValueError : mg "ValueError" = none
def nmE : Nat → Str
  | 0 => "InvalidText"
  | 1 => "InvalidCursor"
  | 2 => "InvalidCommand"
  | 3 => "Impossible"
  | 4 => "InvalidNumber"
  | 5 => "NothingToUndo"
  | _ => "Unreadable"
end Gc

/-! within an except suite (and in the defs called there): unpacking of tuples, walks over lists, comprehensions -/
namespace HotX
open PySem PySem.Spec PyProof.Rows
section
variable {prog : Program} {w : World} {A : Around} {E : Value → Shared → Prop} {s : Shared}
theorem made_keeps {it : Addr} {h g : Heap} (k : ∀ b o, b ≠ it → h.get? b = some o → g.get? b = some o) (u : Obj) : ∀ b o, b ≠ it → h.get? b = some o → (g.push u).get? b = some o := fun b o hb e => Heap.get?_push_of_some _ (k b o hb e)
/-- the end of a built-in iterator within a suite: the StopIteration is chained to what is handled, and caught -/
theorem list_end_hot {it l x1 : Addr} {i : Nat} {items : Array Value} {Q : Option Value → Shared → Prop} (hot : HotAt A x1 s.heap) (hx1 : x1 ≠ it)
    (hit : s.heap.IsListIter it l i) (hl : s.heap.IsList l items) (hx : items[i]? = none) (hQ : ∀ h', Heap.ExtBut it s.heap h' → Q none { s with heap := h' }) : wpAny (model prog w) A (pyNext (.ref it)) Q E s := by
  obtain ⟨hh, o1, vs1, h1, d1, c1⟩ := hot
  obtain ⟨o, ho, hc, hd⟩ := id hit
  obtain ⟨ol, hol, _, nl, hdl⟩ := hl
  have g1 : ∀ b o', b ≠ it → s.heap.get? b = some o' → (s.heap.update it (Obj.mapFields (·.setIfInBounds 0 .none))).get? b = some o' := fun b o' hb e => (Heap.get?_update_other _ _ fun z => hb z.symm).trans e
  unfold pyNext
  refine wpAny_bind (wpAny_attempt (wpAny_callSpecial?_slot (name := Str.ofString "__next__") hit.typeIs slot_listiter_next (wpAny_call_entry slot_listiter_next hit.typeIs entry_listiter_next ?_ (args_listiter_next _))))
  refine wpAny_bind (m := field (.ref it) 0) (wpAny_field ho hd (x := .ref l) rfl ?_)
  rw [if_neg (show ¬ ((Value.ref l == Value.none) = true) from Bool.false_ne_true)]
  refine wpAny_bind (m := field (.ref it) 1) (wpAny_field ho hd (x := .int i 0) rfl ?_)
  refine wpAny_bind (m := seqItems? (.ref l)) (wpAny_seqItems hol hdl ?_)
  simp only [Int.toNat_natCast, hx]
  refine wpAny_bind (wpAny_rule (wpAny_bind (wpAny_setField ho hd (by simp) ?_)))
  refine wpAny_bind (m := newExc (.type "StopIteration") []) ?_
  simp only [newExc, newTuple]
  refine wpAny_bind (wpAny_newObj_type ?_ (by size_fits))
  refine wpAny_bind (m := firstArgMember _ _) (wpAny_of_eq (a := Value.none) (by first | rfl | (simp only [firstArgMember]; rfl)) ?_)
  refine wpAny_newObj_type ?_ (by size_fits)
  have k1 := made_keeps g1 { cls := .type "tuple", data := .seq ([] : List Value).toArray }
  have z1 := k1 _ o1 hx1 h1
  refine raiseNew_hot ⟨hh, o1, vs1, Heap.get?_push_of_some _ z1, d1, c1⟩ (Nat.ne_of_lt (Heap.lt_size z1)) (Heap.get?_push_size _ rfl) rfl (by first | (simp; done) | (simp; omega)) ?_
  refine wpAny_bind (wpAny_isInstance (T := "StopIteration") (b := true) ⟨_, Heap.get?_update_self _ (Heap.get?_push_size _ rfl) rfl, rfl⟩ isSubtype_stop ?_)
  refine wpAny_pure (hQ _ fun b o' hb e => ?_)
  have z := k1 b o' hb e
  rw [Heap.get?_update_other _ _ (Nat.ne_of_gt (Heap.lt_size z))]
  exact Heap.get?_push_of_some _ z
theorem tuple_end_hot {it l x1 : Addr} {i : Nat} {items : Array Value} {Q : Option Value → Shared → Prop} (hot : HotAt A x1 s.heap) (hx1 : x1 ≠ it)
    (hit : IsTupIter s.heap it l i) (hl : IsTup s.heap l items) (hx : items[i]? = none) (hQ : ∀ h', Heap.ExtBut it s.heap h' → Q none { s with heap := h' }) : wpAny (model prog w) A (pyNext (.ref it)) Q E s := by
  obtain ⟨hh, o1, vs1, h1, d1, c1⟩ := hot
  obtain ⟨o, ho, hc, hd⟩ := id hit
  obtain ⟨ol, hol, _, nl, hdl⟩ := hl
  have g1 : ∀ b o', b ≠ it → s.heap.get? b = some o' → (s.heap.update it (Obj.mapFields (·.setIfInBounds 0 .none))).get? b = some o' := fun b o' hb e => (Heap.get?_update_other _ _ fun z => hb z.symm).trans e
  unfold pyNext
  refine wpAny_bind (wpAny_attempt (wpAny_callSpecial?_slot (name := Str.ofString "__next__") hit.typeIs slot_tupleiter_next (wpAny_call_entry slot_tupleiter_next hit.typeIs entry_tupleiter_next ?_ (args_tupleiter_next _))))
  refine wpAny_bind (m := field (.ref it) 0) (wpAny_field ho hd (x := .ref l) rfl ?_)
  rw [if_neg (show ¬ ((Value.ref l == Value.none) = true) from Bool.false_ne_true)]
  refine wpAny_bind (m := field (.ref it) 1) (wpAny_field ho hd (x := .int i 0) rfl ?_)
  refine wpAny_bind (m := seqItems? (.ref l)) (wpAny_seqItems hol hdl ?_)
  simp only [Int.toNat_natCast, hx]
  refine wpAny_bind (wpAny_rule (wpAny_bind (wpAny_setField ho hd (by simp) ?_)))
  refine wpAny_bind (m := newExc (.type "StopIteration") []) ?_
  simp only [newExc, newTuple]
  refine wpAny_bind (wpAny_newObj_type ?_ (by size_fits))
  refine wpAny_bind (m := firstArgMember _ _) (wpAny_of_eq (a := Value.none) (by first | rfl | (simp only [firstArgMember]; rfl)) ?_)
  refine wpAny_newObj_type ?_ (by size_fits)
  have k1 := made_keeps g1 { cls := .type "tuple", data := .seq ([] : List Value).toArray }
  have z1 := k1 _ o1 hx1 h1
  refine raiseNew_hot ⟨hh, o1, vs1, Heap.get?_push_of_some _ z1, d1, c1⟩ (Nat.ne_of_lt (Heap.lt_size z1)) (Heap.get?_push_size _ rfl) rfl (by first | (simp; done) | (simp; omega)) ?_
  refine wpAny_bind (wpAny_isInstance (T := "StopIteration") (b := true) ⟨_, Heap.get?_update_self _ (Heap.get?_push_size _ rfl) rfl, rfl⟩ isSubtype_stop ?_)
  refine wpAny_pure (hQ _ fun b o' hb e => ?_)
  have z := k1 b o' hb e
  rw [Heap.get?_update_other _ _ (Nat.ne_of_gt (Heap.lt_size z))]
  exact Heap.get?_push_of_some _ z
theorem unpackItems_hot {t x1 : Addr} {items : Array Value} {Q : List Value → Shared → Prop} (hot : HotAt A x1 s.heap) (ht : IsTup s.heap t items)
    (hQ : ∀ h', Heap.ExtBut s.heap.objs.size s.heap h' → Q items.toList { s with heap := h' }) : wpAny (model prog w) A (unpackItems (.ref t) items.size none) Q E s := by
  have hlt : t ≠ s.heap.objs.size := by obtain ⟨o, ho, _⟩ := ht; exact Nat.ne_of_lt (Heap.lt_size ho)
  obtain ⟨hh, o1, vs1, h1, d1, c1⟩ := id hot
  have hx : x1 ≠ s.heap.objs.size := Nat.ne_of_lt (Heap.lt_size h1)
  unfold unpackItems
  refine wpAny_bind ?_
  · unfold notIterableAtAll
    refine wpAny_bind (wpAny_specialOf ht.typeIs slot_tuple_iter.lookup ?_)
    refine wpAny_pure ?_
    simp only [Bool.false_eq_true, if_false]
    refine wpAny_bind (wpAny_holding (iter_tuple ht ?_))
    refine wpAny_bind (wpAny_holding (draw_tuple hlt items.size 0 _ _ ⟨_, Heap.get?_push_size _ rfl, rfl, rfl⟩ (ht.push _) (by omega) fun h₁ hit₁ hs₁ => ?_))
    have hall : List.take items.size (List.drop 0 items.toList) = items.toList := by
      rw [List.drop_zero]; exact List.take_of_length_le (by simp)
    rw [hall]
    rw [if_neg (by simp)]
    have ht₁ : IsTup h₁ t items := (ht.push _).extBut hs₁.extBut hlt
    have hx₁ : h₁.get? x1 = some o1 := (hs₁.2 x1 hx).trans (Heap.get?_push_of_some _ h1)
    refine wpAny_bind (wpAny_holding (tuple_end_hot ⟨hh, o1, vs1, hx₁, d1, c1⟩ hx hit₁ ht₁ (by simp) fun h₂ he₂ => ?_))
    simp only [Option.isSome_none, Bool.false_eq_true, if_false]
    refine wpAny_pure (hQ h₂ fun b o hb e => he₂ b o hb (hs₁.extBut b o hb (Heap.get?_push_of_some _ e)))
theorem assign_Tuple_hot {env : Env} {elts : List Expr} {k} {pos : Pos} {t x1 : Addr} {items : Array Value} {Q : Unit → Shared → Prop} (hot : HotAt A x1 s.heap) (ht : IsTup s.heap t items)
    (hn : (assignEach elts env).length = items.size) (hstar : (assignEach elts env).findIdx? (·.1) = none)
    (h : ∀ h', Heap.ExtBut s.heap.objs.size s.heap h' → wpAny (model prog w) A (assignInOrder ((assignEach elts env).map (·.2)) items.toList) Q E { s with heap := h' }) :
    wpAny (model prog w) A (assign (.Tuple elts k pos) env (.ref t)) Q E s := by
  rw [assign_Tuple]
  refine wpAny_bind (wpAny_standAt ?_)
  unfold unpack
  rw [hn, hstar]
  exact wpAny_bind (wpAny_holding (unpackItems_hot hot ht h))
end
end HotX
namespace L2H
open PySem PySem.Spec PyProof.Rows L2 HotX
section
variable {X : Cx}
theorem pg_tupH {es : List Expr} {k : Nat} {pos : Pos} {t : TGs} {n : Nat} (hc : HotC X) (h : PGs X es t)
    (hn : (assignEach es X.env).length = n := by rfl) (hst : (assignEach es X.env).findIdx? (·.1) = none := by rfl) : PG X (.Tuple es k pos) (gTup X.K n t) := by
  refine ⟨fun pins s σ H v u Q I r hw => ?_⟩
  obtain ⟨a, xs, e1, hq, hl, hw⟩ := hw
  subst e1
  cases r
  obtain ⟨its, rv, ht, hz⟩ := I.tuple hq
  obtain ⟨x1, hot⟩ := hc.at I
  refine assign_Tuple_hot hot ht (by simp [hn, ← hl, rv.length]) hst fun h' hx => ?_
  have I1 : Inv X pins σ H { s with heap := h' } := I.kept (t' := s.toks) fun b o e => hx b o (Nat.ne_of_lt (Heap.lt_size e)) e
  exact h.run pins _ σ H xs _ Q I1 (by simpa using rv) hw
end
theorem turn_listH {P : Program} {w : World} {K : PySem.W.Frag} {tg : Expr} (a it : Addr) : TurnH P w K tg (Itl K a) [it] it (fun i h => h.IsListIter it a i) where
  mem := by simp
  obj := (turn_list (P := P) (w := w) (K := K) (tg := tg) a it).obj
  keep := (turn_list (P := P) (w := w) (K := K) (tg := tg) a it).keep
  item := by
    intro X hP hw hK hc i pins s σ H E I hf st hg
    subst hP hw hK
    obtain ⟨xs, x, hq, hx⟩ := hg
    obtain ⟨its, rv, p, hz⟩ := I.list hq
    obtain ⟨u, hu, ru⟩ := rv.get hx
    obtain ⟨f0, f1, f2, f3, f4, f5⟩ := hf it (by simp)
    refine wpAny_pyNext_list_item st p.isList (x := u) (by simpa using hu) fun h' st' sb => ?_
    have I1 : Inv X pins σ H { s with heap := h' } := I.turned (t' := s.toks) (fun b o hb e => (sb.2 b hb).trans e) f0 f1 f3 f4 f5
    obtain ⟨o, e, c, d⟩ := id st'
    exact ⟨u, rfl, go_of (s := { s with heap := h' }) e c d (by decide) ⟨x, H, I1, ru, ⟨rfl, fun ys hy => by rw [I.list_inj hy hq]; exact hx⟩, st', fun b hb => (hf b hb).1⟩⟩
  done := by
    intro X hP hw hK hc i pins s σ H E I hf st hg
    subst hP hw hK
    obtain ⟨xs, hq, hx⟩ := hg
    obtain ⟨its, rv, p, hz⟩ := I.list hq
    obtain ⟨f0, f1, f2, f3, f4, f5⟩ := hf it (by simp)
    have hl := rv.length
    obtain ⟨q, ⟨hh, v1, e1, c1⟩, hp⟩ := hc
    exact list_end_hot ⟨hh, q.2, v1, (I.pin q (List.mem_append_left _ hp)).1, e1, c1⟩ (f5 q (List.mem_append_left _ hp)) st p.isList (by simp; omega) fun h' eb => ⟨rfl, I.turned (t' := s.toks) (fun b o hb e => eb b o hb e) f0 f1 f3 f4 f5⟩
  self := fun _ _ _ _ _ st h => wpAny_pyIter_listiter st h
section
variable {X : Cx} {tg : Expr}
theorem pi_listH {l : Expr} {tl : TE} (hl : PE X l tl) : PIH X tg l (iList X.K tl) := by
  refine ⟨fun pins s σ H R I h => ?_⟩
  refine thn (hl.run pins s σ H _ I h) fun v s1 ⟨x, H1, I1, r1, q1⟩ => ?_
  obtain ⟨a, e, ⟨xs, hq⟩, q⟩ := q1
  subst e
  cases r1
  obtain ⟨its, rv, p, hz⟩ := I1.list hq
  refine wpAny_pyIter_list p.isList ?_
  refine ⟨s1.heap.objs.size, [s1.heap.objs.size], _, _, H1, rfl, I1.kept (t' := s1.toks) fun b o e => Heap.get?_push_of_some _ e, turn_listH a _, ⟨_, Heap.get?_push_size _ rfl, rfl, rfl⟩, fun b hb => ?_, q⟩
  have e : b = s1.heap.objs.size := by simpa using hb
  subst e
  exact I1.fpOk (Nat.le_refl _) (I1.hok.fresh (Nat.le_refl _))
end
/-- a comprehension's block within a suite: the pins of the def stay -/
abbrev blkH (X : Cx) (s : Shared) (H : Hp) (scope : Scope) (cenv : Env) (fp : List Addr) : Cx := { X.blk s H scope cenv fp with pn := X.pn }
theorem okPinned {X : Cx} (ok : X.Ok) (pn : List (Addr × Obj)) : ({ X with pn := pn } : Cx).Ok :=
  ⟨ok.mod, ok.kind, ok.glob, ok.blt, ok.above, ok.inj, ok.has, ok.cab, ok.hd, ok.frames, ok.stk, ok.exf, ok.bs, ok.bsz, ok.noex, ok.exfs, ok.funs, ok.frf⟩
section
variable {X : Cx} {pins : List (Addr × Obj)} {σ : St} {H : Hp} {s : Shared}
theorem block_startH {scope : Scope} {own : List (Str × Nat)} {fp : List Addr} (I : Inv X pins σ H s) (ok : BlkOk X.N X.env.scope scope own) (hN : X.N.Nodup) (hfp : ∀ b ∈ fp, FpOk X pins H b ∧ b < s.heap.objs.size) :
    Inv (blkH X s H scope (compEnvC scope (cellsFrom (s.heap.objs.size + 1) scope.names (cloFrom X.env.cells scope.names [])) s.heap.objs.size X.env) fp) [] (wipe σ (own.map (·.2))) H { s with heap := pushCells (s.heap.push { cls := .type "dict", data := .dict #[] }) scope.names } := by
  have J := block_start I ok hN hfp
  refine ⟨okPinned J.ok X.pn, J.os, J.bare, J.base, J.loc, J.cell, J.free, J.freeC, fun p hp => ?_, J.hok, J.len⟩
  obtain ⟨p1, p2, p3, p4, p5⟩ := I.pin p (List.mem_append_left _ (by simpa using hp))
  refine ⟨pushCells_keeps _ _ _ _ (Heap.get?_push_of_some _ p1), p2, Nat.ne_of_lt (Heap.lt_size p1), fun z => (List.mem_cons.mp (I.stkSub p.1 z)).elim p3 p4, p5⟩
/-- [elt for target in l if ..], l a list that stays as it is: Pv by the turn and the heap, the new list at D -/
def tLcL (K : PySem.W.Frag) (tl : TE) (g : TG) (tt : TT) (te : TE) (vs : List Nat) : TE := fun σ H Q => tl σ H fun x H1 => ∃ a xs, x = .ref a ∧ SqL K H1 a xs ∧ ∀ D, H1 D = none → ∃ Pv : Nat → Hp → Prop, Pv 0 (upd H1 D (.lst [])) ∧ (∀ i G, Pv i G → SqL K G a xs) ∧
  (∀ i y G, xs[i]? = some y → Pv i G → g y (wipe σ vs) G fun σ2 G2 => wipe σ2 vs = wipe σ vs ∧ tt σ2 G2 fun b G3 => if b = true then te σ2 G3 fun v G4 => ∃ acc, G4 D = some (.lst acc) ∧ acc.length < sizeLine ∧ Pv (i + 1) (upd G4 D (.lst (acc ++ [v]))) else Pv (i + 1) G3) ∧
  ∀ G, Pv xs.length G → Q (.ref D) G
/-- the comprehension itself, whatever is done with the new list -/
theorem lcL_core {elt tg l : Expr} {ifs : List Expr} {scope : Scope} {own : List (Str × Nat)} {pos pos' : Pos} {tl te : TE} {g : TG} {tt : TT} {Q : VK} {use : Option (Value → Sem Unit)} {Qf : Value → Shared → Prop} (hc : HotC X) (hN : X.N.Nodup) (I : Inv X pins σ H s) (hl : PE X l tl) (ok : BlkOk X.N X.env.scope scope own)
    (hg : ∀ (s : Shared) (H : Hp) (C : Addr) (cl : List (Str × Addr)) (fp : List Addr), PG (blkH X s H scope (compEnvC scope cl C X.env) fp) tg g) (ht : ∀ (s : Shared) (H : Hp) (C : Addr) (cl : List (Str × Addr)) (fp : List Addr), PTs (blkH X s H scope (compEnvC scope cl C X.env) fp) ifs tt)
    (he : ∀ (s : Shared) (H : Hp) (C : Addr) (cl : List (Str × Addr)) (fp : List Addr), PE (blkH X s H scope (compEnvC scope cl C X.env) fp) elt te) (hs : ∀ x, foldedSetIterable l X.env x = pure x)
    (h : tLcL X.K tl g tt te (own.map (·.2)) σ H Q)
    (fin : ∀ D C s' m G, Inv X pins σ G s' → Q (.ref D) G → s'.heap.Ns C m → FpOk X pins G C → compPost (model X.prog X.w) X.A X.xe use Qf (.ref D) C (.ok .next) s') :
    wpAny (model X.prog X.w) X.A (comprehension (.ListComp elt [⟨tg, l, ifs, 0⟩] scope pos) scope X.env pos' (newList []) false (eval l X.env) use) Qf X.xe s := by
  have cells : ∀ y ∈ scope.names, y.2 = .free → ∃ c, X.env.cells.lookup y.1 = some c := fun y hy e => I.ok.has _ (ok.free y hy e)
  refine wpAny_comprehension_free (use := use) rfl hs (closure_ok cells) ok.kind (fun y hy e => by rw [ok.uniq y hy, e]) (thn (hl.run pins s σ H _ I h) fun v s1 hv => ?_)
  obtain ⟨x, H1, I1, r1, a, xs, rfl, hq, go⟩ := hv
  obtain rfl : v = Value.ref a := r1
  obtain ⟨its, rv, p, hz⟩ := I1.list hq
  refine wpAny_pyIter_list p.isList ?_
  generalize hit : s1.heap.objs.size = it
  -- the iterator and the new list
  refine wpAny_newObj_type (newEnv_comp ?_) (by show 0 ≤ sizeLine; decide)
  let h2 := s1.heap.push { cls := .type "list_iterator", data := .fields #[.ref a, .int 0 0] }
  let h3 := h2.push { cls := .type "list", data := .seq ([] : List Value).toArray }
  have itd : h3.get? it = some { cls := .type "list_iterator", data := .fields #[.ref a, .int 0 0] } := Heap.get?_push_of_some _ (by rw [← hit]; exact Heap.get?_push_size _ rfl)
  have I2 : Inv X pins σ H1 { s1 with heap := h2 } := I1.kept (t' := s1.toks) fun b o e => Heap.get?_push_of_some _ e
  have fi : FpOk X pins H1 it := by rw [← hit]; exact I1.fpOk (Nat.le_refl _) (I1.hok.fresh (Nat.le_refl _))
  obtain ⟨D, hD⟩ : ∃ D, h2.objs.size = D := ⟨_, rfl⟩
  have dn : H1 D = none := I2.hok.fresh (Nat.le_of_eq hD)
  have di : it ≠ D := by rw [← hit, ← hD]; show _ ≠ (s1.heap.push _).objs.size; rw [Heap.size_push]; exact Nat.ne_of_lt (Nat.lt_succ_self _)
  obtain ⟨Pv, p0, pl, ps, pd⟩ := go D dn
  have I3 : Inv X pins σ (upd H1 D (.lst [])) { s1 with heap := h3 } := I2.laid (t' := s1.toks) (fun b o e => Heap.get?_push_of_some _ e) (Nat.le_of_eq hD) ⟨Nat.zero_le _, [], 0, .nil, by
    rw [← hD]
    exact Heap.get?_push_size _ rfl⟩
  have f3 : ∀ b ∈ [it], FpOk X pins (upd H1 D (.lst [])) b ∧ b < h3.objs.size := fun b hb => by
    rw [show b = it by simpa using hb]
    exact ⟨⟨by rw [upd_ne di]; exact fi.1, fi.2⟩, Heap.lt_size itd⟩
  have I4 := block_startH I3 ok hN f3
  have pg := hg { s1 with heap := h3 } (upd H1 D (.lst [])) h3.objs.size (cellsFrom (h3.objs.size + 1) scope.names (cloFrom X.env.cells scope.names [])) [it]
  have pt := ht { s1 with heap := h3 } (upd H1 D (.lst [])) h3.objs.size (cellsFrom (h3.objs.size + 1) scope.names (cloFrom X.env.cells scope.names [])) [it]
  have pe := he { s1 with heap := h3 } (upd H1 D (.lst [])) h3.objs.size (cellsFrom (h3.objs.size + 1) scope.names (cloFrom X.env.cells scope.names [])) [it]
  show codeAny _ _ (.compStart (.ListComp elt [⟨tg, l, ifs, 0⟩] scope pos) 0 (.ref it) (.ref h2.objs.size) (compEnvC scope (cellsFrom (h3.objs.size + 1) scope.names (cloFrom X.env.cells scope.names [])) h3.objs.size X.env)) (compPost (model X.prog X.w) X.A X.xe use Qf (.ref h2.objs.size) h3.objs.size) { s1 with heap := pushCells (h3.push { cls := .type "dict", data := .dict #[] }) scope.names }
  rw [hD]
  generalize hce : compEnvC scope (cellsFrom (h3.objs.size + 1) scope.names (cloFrom X.env.cells scope.names [])) h3.objs.size X.env = ce at I4 pg pt pe ⊢
  have cL : ce.locals = h3.objs.size := by subst hce; rfl
  have it4 : (pushCells (h3.push { cls := .type "dict", data := .dict #[] }) scope.names).IsListIter it a 0 := ⟨_, pushCells_keeps _ _ _ _ (Heap.get?_push_of_some _ itd), rfl, rfl⟩
  generalize hH3 : upd H1 D (.lst []) = H3 at I3 I4 pg pt pe p0 f3
  have stat : ∀ {σ' : St} {G : Hp} {s' : Shared}, Inv (blkH X { s1 with heap := h3 } H3 scope ce [it]) [] σ' G s' → G it = none → FpOk (blkH X { s1 with heap := h3 } H3 scope ce [it]) [] G it := fun {σ' G s'} J hn =>
    ⟨hn, (J.ok.exf it (by simp)).1, J.ok.exfs it (by simp), .inl (by simp), fun x c e => (J.ok.exf it (by simp)).2 x c e, fun q hq => fi.2.2.2.2.2 q (List.mem_append_left _ (by simpa using hq))⟩
  have loop : codeAny (model X.prog X.w) X.A (.compLoop (.ListComp elt [⟨tg, l, ifs, 0⟩] scope pos) 0 (.ref it) (.ref D) ce) (compPost (model X.prog X.w) X.A X.xe use Qf (.ref D) h3.objs.size) { s1 with heap := pushCells (h3.push { cls := .type "dict", data := .dict #[] }) scope.names } := by
    refine compLoop_any (fun n s' => ∃ i G, n = xs.length - i ∧ i ≤ xs.length ∧ Inv (blkH X { s1 with heap := h3 } H3 scope ce [it]) [] (wipe σ (own.map (·.2))) G s' ∧ s'.heap.IsListIter it a i ∧ G it = none ∧ Pv i G) ?_ xs.length ⟨0, H3, by simp, Nat.zero_le _, I4, it4, (f3 it (by simp)).1.1, p0⟩
    rintro n s5 ⟨i, G5, rfl, hi, I5, st5, n5, w5⟩
    have T := turn_listH (P := X.prog) (w := X.w) (K := X.K) (tg := tg) a it
    have fp5 : ∀ b ∈ [it], FpOk (blkH X { s1 with heap := h3 } H3 scope ce [it]) [] G5 b := fun b hb => by
      rw [show b = it by simpa using hb]
      exact stat I5 n5
    by_cases lt : i < xs.length
    · have ti := T.item (blkH X { s1 with heap := h3 } H3 scope ce [it]) rfl rfl rfl hc i [] s5 _ G5 (fun _ _ => False) I5 fp5 st5 ⟨xs, xs[i], pl i G5 w5, by simp [lt]⟩
      refine thnF ti fun r s6 ⟨u, hr, h6⟩ => ?_
      subst hr
      refine thnF h6 fun _ s7 ⟨y, G7, I7, r7, ⟨eG, y7⟩, st7, n7⟩ => ?_
      subst eG
      have hy : xs[i]? = some y := y7 xs (pl i _ w5)
      -- the iterator is pinned while the element is made
      obtain ⟨oi, gi, ci, ddi⟩ := id st7
      have pin7 : Inv (blkH X { s1 with heap := h3 } H3 scope ce [it]) ([] ++ pinsAt [it] s7.heap) (wipe σ (own.map (·.2))) G7 s7 := I7.pinned (fun b hb => by
        rw [show b = it by simpa using hb]
        exact stat I7 (n7 it (by simp))) (T.obj _ _ st7)
      have back : ∀ {σ8 : St} {s' : Shared} {G' : Hp}, wipe σ8 (own.map (·.2)) = wipe σ (own.map (·.2)) → Inv (blkH X { s1 with heap := h3 } H3 scope ce [it]) ([] ++ pinsAt [it] s7.heap) σ8 G' s' → Pv (i + 1) G' →
          ∃ m, m < xs.length - i ∧ ∃ i' G, m = xs.length - i' ∧ i' ≤ xs.length ∧ Inv (blkH X { s1 with heap := h3 } H3 scope ce [it]) [] (wipe σ (own.map (·.2))) G s' ∧ s'.heap.IsListIter it a i' ∧ G it = none ∧ Pv i' G := fun {σ8 s' G'} hw J nx => by
        have z := J.pin (it, oi) (List.mem_append_right _ (List.mem_append_right _ (mem_pinsAt (by simp) gi)))
        have len : (wipe σ (own.map (·.2))).length = σ8.length := by rw [← hw, wipe_length]
        refine ⟨xs.length - (i + 1), by omega, i + 1, G', rfl, lt, (J.unpinned (pins := [])).weak len (fun j v e => ?_), ⟨oi, z.1, ci, ddi⟩, z.2.1, nx⟩
        rw [← hw] at e
        exact (wipe_some e).1
      refine thnF (pg.run _ s7 _ G7 y u _ pin7 r7 (ps i y G7 hy w5)) fun _ s8 ⟨σ8, G8, I8, hw8, q8⟩ => ?_
      refine thnF (pt.run _ s8 σ8 G8 _ I8 q8) fun b s9 ⟨G9, I9, q9⟩ => ?_
      cases b with
      | false =>
        simp only [Bool.false_eq_true, if_false] at q9 ⊢
        exact back hw8 I9 q9
      | true =>
        simp only [if_true] at q9 ⊢
        refine thnF (pe.run _ s9 σ8 G9 _ I9 q9) fun z s10 ⟨yv, G10, I10, r10, acc, hD10, hz10, nx⟩ => ?_
        exact app_ok (X := blkH X { s1 with heap := h3 } H3 scope ce [it]) I10 hD10 hz10 r10 fun s11 I11 => back hw8 I11 nx
    · have ei : i = xs.length := by omega
      subst ei
      refine thnF (T.done (blkH X { s1 with heap := h3 } H3 scope ce [it]) rfl rfl rfl hc xs.length [] s5 _ G5 (fun _ _ => False) I5 fp5 st5 ⟨xs, pl _ _ w5, Nat.le_refl _⟩) fun r s6 ⟨hr, I6⟩ => ?_
      subst hr
      have I7 : Inv X pins σ G5 s6 := I3.call' (ch := [it]) I6.os I6.base I6.hok I6.bare fun b hb => ⟨(f3 b hb).1.2.2.2.1, (f3 b hb).1.2.1, (f3 b hb).1.2.2.2.2.1, (f3 b hb).1.2.2.2.2.2⟩
      have nC : G5 h3.objs.size = none := by
        have z : G5 ce.locals = none := I6.free
        rwa [cL] at z
      obtain ⟨m, hn, _⟩ := I6.loc
      have hn : s6.heap.Ns h3.objs.size m := by rw [← cL]; exact hn
      exact fin D h3.objs.size s6 m G5 I7 (pd _ w5) hn (I3.fpOk (Nat.le_refl _) nC)
  exact codeAny_compStart_list loop (wpAny_pyIter_listiter it4 loop)
section
variable {elt tg l : Expr} {ifs : List Expr} {scope : Scope} {own : List (Str × Nat)} {pos : Pos} {tl te : TE} {g : TG} {tt : TT}
theorem pe_lcH (hc : HotC X) (hN : X.N.Nodup) (hl : PE X l tl) (ok : BlkOk X.N X.env.scope scope own)
    (hg : ∀ (s : Shared) (H : Hp) (C : Addr) (cl : List (Str × Addr)) (fp : List Addr), PG (blkH X s H scope (compEnvC scope cl C X.env) fp) tg g) (ht : ∀ (s : Shared) (H : Hp) (C : Addr) (cl : List (Str × Addr)) (fp : List Addr), PTs (blkH X s H scope (compEnvC scope cl C X.env) fp) ifs tt)
    (he : ∀ (s : Shared) (H : Hp) (C : Addr) (cl : List (Str × Addr)) (fp : List Addr), PE (blkH X s H scope (compEnvC scope cl C X.env) fp) elt te) (hs : ∀ x, foldedSetIterable l X.env x = pure x := by intro _; rfl) :
    PE X (.ListComp elt [⟨tg, l, ifs, 0⟩] scope pos) (tLcL X.K tl g tt te (own.map (·.2))) := by
  refine ⟨fun pins s σ H Q I h => ?_⟩
  rw [eval_ListComp]
  refine lcL_core hc hN I hl ok hg ht he hs h fun D C s' m G J q hn ⟨f0, f1, _, f3, f4, f5⟩ => ⟨m, hn, fun h'' sb => ?_⟩
  exact ⟨.ref D, G, J.turned (t' := s'.toks) (fun b o hb e => (sb.2 b hb).trans e) f0 f1 f3 f4 f5, rfl, q⟩
theorem ps_setLcH {i : Nat} {y : Str} {py spos : Pos} (hc : HotC X) (hN : X.N.Nodup) (hy : X.N[i]? = some y) (hyl : X.env.scope.names.lookup y = some .local)
    (hsw : swapsWith (.ListComp elt [⟨tg, l, ifs, 0⟩] scope pos) (some (.Name y py)) spos.line X.env = pure true) (hl : PE X l tl) (ok : BlkOk X.N X.env.scope scope own)
    (hg : ∀ (s : Shared) (H : Hp) (C : Addr) (cl : List (Str × Addr)) (fp : List Addr), PG (blkH X s H scope (compEnvC scope cl C X.env) fp) tg g) (ht : ∀ (s : Shared) (H : Hp) (C : Addr) (cl : List (Str × Addr)) (fp : List Addr), PTs (blkH X s H scope (compEnvC scope cl C X.env) fp) ifs tt)
    (he : ∀ (s : Shared) (H : Hp) (C : Addr) (cl : List (Str × Addr)) (fp : List Addr), PE (blkH X s H scope (compEnvC scope cl C X.env) fp) elt te) (hs : ∀ x, foldedSetIterable l X.env x = pure x := by intro _; rfl) :
    PS X (.Assign [.Name y py] (.ListComp elt [⟨tg, l, ifs, 0⟩] scope pos) spos) (tAsg (tLcL X.K tl g tt te (own.map (·.2))) (gName i)) := by
  refine ⟨fun pins s σ H D I h => ?_⟩
  rw [exec_Assign_Name_used _ _ _ _ hsw]
  refine wpAny_bind (wpAny_standAt (wpAny_bind (m := do let _ ← comprehension (.ListComp elt [⟨tg, l, ifs, 0⟩] scope pos) scope X.env (firstIterPos [⟨tg, l, ifs, 0⟩] pos) (newList []) false (eval l X.env) (some (assign (.Name y py) X.env))) ?_))
  have h : tLcL X.K tl g tt te (own.map (·.2)) σ H (fun x G => gName i x σ G D.nx) := h
  refine wpAny_bind (thn (lcL_core (Qf := fun _ s' => SP X pins D .next s') hc hN I hl ok hg ht he hs h fun L C s' m G J q hn f => ?_) fun _ s' hq => wpAny_pure (wpAny_pure hq))
  refine wpAny_assign_Name (store_ok2 (v := V.ref L) J hN hy (.inl hyl) rfl (fun s2 I2 ⟨a, sb, ha⟩ => ?_) (.inr hyl))
  obtain ⟨f0, f1, f2, f3, f4, f5⟩ := f
  have ca : C ≠ a := by
    rcases ha with z | z
    · rw [z]; exact f1
    · exact fun e => f4 y a z e.symm
  exact ⟨m, hn.sameBut sb ca, fun h3 sb3 => ⟨_, G, I2.turned (t' := s2.toks) (fun b o hb e => (sb3.2 b hb).trans e) f0 f1 f3 f4 f5, q⟩⟩
end
end
end L2H

/-! errors whose context is told to be None: so that what is caught may be looked at by defs that walk lists -/
namespace L2
open PySem PySem.Spec PyProof.Rows
section
variable {X : Cx} {k j : Nat} {x : Str} {sp : Sp} {p pos pos2 : Pos} {e : Expr} {es : List Expr} {ta : TA} {te : TE} {W : WX} {C fI : Addr} {fd : FuncData} {ps : List Str}
/-- an own error is made where nothing is handled -/
theorem pmk_oexN (T : OexC X.K C) (iC : PySem.W.findIn X.K (.ref C) "__init__" = some (some (.ref fI))) (tI : PySem.W.typeIn X.K (.ref fI) = some (.type "function")) (F1 : FnOk X.prog X.w X.K X.mg X.base CX0 k fI fd ps sp) (hr : Room (k + 1) X.A) (hb : Binds X.K fd ps [])
    (hg : Gl X x) (hm : X.mg x = some (.ref C)) (ha : PA X (e :: es) ta) (hdb : (x == ("__debug__" : Str)) = false := by decide)
    (he : starEach (e :: es) X.env = (false, eval e X.env) :: starEach es X.env := by rfl) (hpl : (backTo pos (starEach es X.env)).any (·.1) = false := by rfl) : L2N.PMk X (.Call (.Name x p) (e :: es) [] pos) (tMkO C sp [] ta) := by
  intro pins s σ H Q I h
  obtain ⟨nm, q, N, bs, bm, sn, sub, ab, col, dd, k0, k1, k2, k3, k5, hC, hbm⟩ := T.cls
  refine wpAny_Call_Name_kw (ld_glob I hg hm ?_ hdb)
  refine PySem.W.callWith_K (h₀ := X.base) I.ok.mod.kin T.kC (thn (ha.run pos pins s σ H _ I h) fun us s1 ⟨vs, H1, I1, r1, hz, q1⟩ => ⟨I1.kIn, ?_⟩) he hpl
  show wpAny _ _ (call (.ref C) us) _ _ _
  obtain ⟨h1, g, dr, tk, os⟩ := s1
  -- the new exception stands behind its tuple of arguments
  let a := h1.objs.size + 1
  let h2 := (h1.push (PySem.W.kdv_tup us)).push (PySem.HandSPX.excO C h1.objs.size)
  have la : h1.objs.size ≤ a := Nat.le_succ _
  have na : H1 a = none := I1.hok.fresh la
  have grow : ∀ b o, h1.get? b = some o → h2.get? b = some o := fun b o z => Heap.get?_push_of_some _ (Heap.get?_push_of_some _ z)
  have at2 : h2.get? a = some (PySem.HandSPX.excO C h1.objs.size) := by
    rw [show a = (h1.push (PySem.W.kdv_tup us)).objs.size from (Heap.size_push ..).symm]
    exact Heap.get?_push_size _ rfl
  have I2 : Inv X pins σ (upd H1 a (exo a C none)) ⟨h2, g, dr, tk, os⟩ := I1.laid (t' := tk) (a := a) (o := exo a C none) (h' := h2) grow la (exo_ok at2)
  have want := q1 a na
  rw [List.append_nil] at want
  have rr : Vals (V.ref a :: vs) (Value.ref a :: us) := .cons rfl r1
  have len : (Value.ref a :: us).length = ps.length := by rw [← rr.length]; exact F1.len _ _ _ _ want
  have bnd := hb _ (Value.ref a :: us) I2.kIn (by rw [List.append_nil]; exact len)
  rw [List.append_nil] at bnd
  have line : us.length ≤ sizeLine := by
    rw [← Paired.length r1, sizeLine_eq]
    omega
  refine wpAny_call (PySem.HandSPX.call_own F.excBase_ValueError (fun Y => PySem.HandSPX.refsVE_contains Y bm hbm) (I1.kIn _ _ hC) (PySem.W.looks_findIn I1.kIn iC) (fun self => PySem.W.bind_fn I1.kIn self tI) line
    (codeAny_mono (F1.run _ X.stack _ _ ⟨Value.ref a :: us, []⟩ (Value.ref a :: us) _ _ (fun _ _ _ => False) (hr.make C us []) (I2.env0.make C us []) bnd rr want) fun how s2 end_ => ?_))
  cases how with
  | error u => exact False.elim end_
  | ok fl =>
    cases fl with
    | next => exact False.elim end_
    | brk => exact False.elim end_
    | cont => exact False.elim end_
    | ret u =>
      obtain ⟨v, H2, os2, bare2, un2, hok2, rv, ev, d, fs, ea, ed, hd1, q2⟩ := end_
      subst ev
      obtain ⟨h3, g2, d2, t2, os'⟩ := s2
      obtain ⟨t0, G, J, kG, ge, hoe, na'⟩ := mk_end0 (d2 := d2) (t2 := t2) I1 la grow un2 hok2 os2 bare2 ea ed hd1
      exact ⟨rv, a, _, _, ⟨G, g2, d2, t2, os'⟩, _, .ref C, some d, rfl, J, kG, ge, hoe, ⟨rfl, rfl, fun _ z => by cases z; rfl⟩, rfl, rfl, na', rfl, bare2, raises_own T.exC T.tyC, q2⟩
theorem ps_raiseN (hc : X.calm = true) (c : ErrC X.prog X.w X.K X.mg X.base x C) (hr : Room j X.A) (hj : 2 ≤ j) (tk : L2N.Takes X W) (he : PE X e te) (hg : Gl X x)
    (hdb : (x == ("__debug__" : Str)) = false := by decide)
    (hs : starEach (e :: []) X.env = (false, eval e X.env) :: starEach [] X.env := by rfl) (hpl : (backTo pos (starEach [] X.env)).any (·.1) = false := by rfl) :
    PS X (.Raise (some (.Call (.Name x p) [e] [] pos)) none pos2) (tRaiseE C W te) := by
  obtain ⟨T, g, no, fI, fd, iC, tI, F, b⟩ := c
  exact L2N.ps_raise hc tk (pmk_oexN T iC tI F (hr.mono hj) b hg g (pa_cons he pa_nil hs) hdb hs hpl)
/-- a def that is called by its name and may let such an error out -/
structure CalXN (P : Program) (w : World) (K : PySem.W.Frag) (mg : Str → Option Value) (base : Heap) (k : Nat) (x : Str) (sp : Sp) : Prop where
  ex : ∃ (f : Addr) (fd : FuncData) (ps : List Str), FnOk P w K mg base (L2N.CX P w) k f fd ps sp ∧ mg x = some (.ref f) ∧ PySem.W.keepIn K (.ref f) = true ∧ Binds K fd ps []
theorem pe_calXN (tk : L2N.Takes X W) (c : CalXN X.prog X.w X.K X.mg X.base k x sp) (hr : Room j X.A) (hk : k ≤ j) (hg : Gl X x) (ha : PA X (e :: es) ta)
    (hdb : (x == ("__debug__" : Str)) = false := by decide) (he : starEach (e :: es) X.env = (false, eval e X.env) :: starEach es X.env := by rfl) (hpl : (backTo pos (starEach es X.env)).any (·.1) = false := by rfl) :
    PE X (.Call (.Name x p) (e :: es) [] pos) (tCallS sp (WE W) ta) := by
  obtain ⟨f, fd, ps, F, hm, kp, b⟩ := c.ex
  exact pe_callS F (hr.mono hk) hg hm kp b (fun σ => L2N.passAt tk σ) ha hdb he hpl
theorem takesNoneN : L2N.Takes X (fun _ _ _ _ => False) := fun _ _ ⟨_, _, _, _, _, _, _, _, _, _, _, _, _, _, _, _, z⟩ => z.elim
theorem passNoneN : Passes (L2N.CX X.prog X.w) X E0 := fun _ _ _ _ _ _ _ ⟨_, _, _, _, _, _, _, _, _, _, _, _, z⟩ => z.elim
end
section
variable {P : Program} {w : World} {K : PySem.W.Frag} {mg : Str → Option Value} {base : Heap}
theorem Fun.okN {x qual : Str} {st : Stmt} {f : Addr} {fd : FuncData} {N ps : List Str} {k : Nat} {sp : Sp} (F : Fun K x qual st f fd) (S : FnScope N ps (defScope st)) (len : ∀ vs H Q E, sp vs H Q E → vs.length = ps.length)
    (body : ∀ (cdv : Value) (A : Around) (outer : List Env) (s : Shared) (H : Hp) (vs : List V) (Q : VK) (E : XK), Room k (A.deeper (envOfC qual (defScope st) s.heap.objs.size f cdv)) → sp vs H Q E →
      ∃ t, PSs (cxOf (L2N.CX P w) P w K mg base N qual (defScope st) f cdv A outer s H E) (defBody st) t ∧ t { nx := fun _ H' => Q .non H', rt := Q } (start N vs) H) : FnOk P w K mg base (L2N.CX P w) (k + 1) f fd ps sp := by
  obtain ⟨oc, od, kV, doc, pm, an, cdv, ct, osl, rfl, lk, code⟩ := F.ex
  exact fn_of lk code S len fun A outer s H vs Q E hr h => body cdv A outer s H vs Q E hr h
/-- what a def promises that is handed the error of the suite (its context is None): at a, of the class at C, with the dict d -/
structure FnN (P : Program) (w : World) (K : PySem.W.Frag) (mg : Str → Option Value) (base : Heap) (k : Nat) (f : Addr) (fd : FuncData) (ps : List Str) (sp : Addr → Addr → Addr → Sp) : Prop where
  many : ∀ a C d vs H Q E, sp a C d vs H Q E → vs.length = ps.length
  go : ∀ (A : Around) (below : List Env) (s : Shared) (H : Hp) (given : Args) (us : List Value) (vs : List V) (Q : VK) (E : XK) (q : Addr × Obj) (C d : Addr), L2H.RoomH k A → L2H.Hot1 A q → L2H.PinOk below H s q → Zc (.ref C) (some d) q.2 → (∃ ws, q.2.data = .fields ws) →
    Env0 P w K mg base A below s H → BindsTo s fd given (ps.zip us) → Vals vs us → sp q.1 C d vs H Q E → codeAny (model P w) A (.call (.ref f) given) (CR CX0 below P w H s Q E) s
theorem Fun.okEN {x qual : Str} {st : Stmt} {f : Addr} {fd : FuncData} {N ps : List Str} {k : Nat} {sp : Addr → Addr → Addr → Sp} (F : Fun K x qual st f fd) (S : FnScope N ps (defScope st))
    (many : ∀ a C d vs H Q E, sp a C d vs H Q E → vs.length = ps.length)
    (body : ∀ (cdv : Value) (A : Around) (below : List Env) (s : Shared) (H : Hp) (vs : List V) (Q : VK) (E : XK) (q : Addr × Obj) (C d : Addr), L2H.RoomH k (A.deeper (envOfC qual (defScope st) s.heap.objs.size f cdv)) →
      L2H.HotC (cxE P w K mg base N qual (defScope st) f cdv A below s H E q) → Zc (.ref C) (some d) q.2 → (∃ ws, q.2.data = .fields ws) → sp q.1 C d vs H Q E →
      ∃ t, PSs (cxE P w K mg base N qual (defScope st) f cdv A below s H E q) (defBody st) t ∧ t { nx := fun _ H' => Q .non H', rt := Q } (start N vs) H) : FnN P w K mg base (k + 1) f fd ps sp := by
  obtain ⟨oc, od, kV, doc, pm, an, cdv, ct, osl, rfl, lk, code⟩ := F.ex
  refine ⟨many, fun A below s H given us vs Q E q C d room hot pin hz hf env bnd rel want => ?_⟩
  have size := many _ _ _ _ _ _ _ want
  have inK : K.In s.heap := env.mod.kin.keeps fun b o z => (env.bs b o z).1
  have free : s.heap.NoLimit := env.mod.nolimit.keeps fun b o z => (env.bs b o z).1
  refine codeAny_call_function room.depth (inK _ _ lk) rfl S.co S.gen rfl (PySem.W.codeRec_of inK code) (bnd _ _ _ _ ?_)
  refine wpAny_newFunctionEnv_cells S.kind (fun ⟨n, v⟩ there => (S.par n (List.of_mem_zip there).1).elim .inl fun z => .inr ⟨z, PySem.W.cellsFrom_some _ _ _ (.inl z)⟩) fun env2 same s1 call => ?_
  subst same
  refine ⟨free.keeps call.toInCall.keep, codeAny_func ?_⟩
  obtain ⟨t, holds, ask⟩ := body cdv A below s H vs Q E q C d (room.deeper _) ⟨q, ⟨hot.1, hot.2⟩, List.mem_cons_self⟩ hz hf want
  refine wpAny_mono (holds.run [] s1 (start N vs) H _ (L2H.inv_startH S pin env size rel call) ask) (fun how s2 end_ => ?_) fun e s2 end_ => end_
  cases how with
  | ret u =>
    obtain ⟨v, τ, G, J, rv, z⟩ := end_
    exact ⟨v, G, J.os, J.bare, J.base, J.hok, rv, z⟩
  | next =>
    obtain ⟨τ, G, J, z⟩ := end_
    exact ⟨V.non, G, J.os, J.bare, J.base, J.hok, rfl, z⟩
  | brk => exact end_.elim fun _ z => z.elim fun _ y => y.2.elim
  | cont => exact end_.elim fun _ z => z.elim fun _ y => y.2.elim
structure CalN (P : Program) (w : World) (K : PySem.W.Frag) (mg : Str → Option Value) (base : Heap) (k : Nat) (x : Str) (sp : Addr → Addr → Addr → Sp) : Prop where
  ex : ∃ (f : Addr) (fd : FuncData) (ps : List Str), FnN P w K mg base k f fd ps sp ∧ mg x = some (.ref f) ∧ PySem.W.keepIn K (.ref f) = true ∧ Binds K fd ps []
end
section
variable {X : Cx} {k j : Nat} {x : Str} {sp : Addr → Addr → Addr → Sp} {p pos : Pos} {e : Expr} {es : List Expr} {t : TA} {a : Addr} {oe : Obj} {cls : Value} {d : Option Addr} {pn : List (Addr × Obj)}
theorem pe_callEN (c : CalN X.prog X.w X.K X.mg X.base k x sp) (hr : Room j X.A) (hk : k ≤ j) (hz : L2N.Zn cls d oe) (hf : ∃ vs, oe.data = .fields vs) (hg : Gl (X.suite a ((a, oe) :: pn)) x) (ha : PA (X.suite a ((a, oe) :: pn)) (e :: es) t)
    (hdb : (x == ("__debug__" : Str)) = false := by decide)
    (he : starEach (e :: es) X.env = (false, eval e X.env) :: starEach es X.env := by rfl)
    (hpl : (backTo pos (starEach es X.env)).any (·.1) = false := by rfl) :
    PE (X.suite a ((a, oe) :: pn)) (.Call (.Name x p) (e :: es) [] pos) (tCallE a cls d sp t) := by
  obtain ⟨f, fd, ps, F, hm, kp, b⟩ := c.ex
  refine ⟨fun pins s σ H Q I h => ?_⟩
  refine wpAny_Call_Name_kw (ld_glob I hg hm ?_ hdb)
  refine PySem.W.callWith_K (h₀ := X.base) I.ok.mod.kin kp (thn (ha.run pos pins s σ H _ I h) fun us s1 ⟨vs, H1, I1, r, C, dd, ec, ed, q⟩ => ⟨I1.kIn, ?_⟩) he hpl
  subst ec
  subst ed
  have size : us.length = ps.length := by rw [← r.length]; exact F.many _ _ _ _ _ _ _ q
  have bnd := b s1 us I1.kIn (by rw [List.append_nil]; exact size)
  rw [List.append_nil] at bnd
  obtain ⟨p1, p2, p3, p4, p5⟩ := I1.pin (a, oe) (List.mem_append_left _ List.mem_cons_self)
  have pin : L2H.PinOk (X.suite a ((a, oe) :: pn)).stack H1 s1 (a, oe) := ⟨p1, p2, fun z => (List.mem_cons.mp (I1.stkSub a z)).elim p3 p4, p5⟩
  obtain ⟨fl, hfl⟩ := hf
  refine wpAny_call (codeAny_mono (F.go _ _ s1 H1 ⟨us, []⟩ us vs Q E0 (a, oe) C dd ((⟨hr.dp, hr.un⟩ : L2H.RoomH j (X.suite a ((a, oe) :: pn)).A).mono hk) ⟨rfl, fl, hfl, hz.2.2 fl hfl⟩ pin hz.zc ⟨fl, hfl⟩ I1.env0 bnd r q) fun how s2 end_ => ?_)
  cases how with
  | error u => exact False.elim end_
  | ok fl =>
    cases fl with
    | ret u => exact I1.after end_
    | next => exact False.elim end_
    | brk => exact False.elim end_
    | cont => exact False.elim end_
end
end L2

/-! the source of numbers of the laws k01 to k05, k40 to k43 -/
namespace Gc
open PySem L2
def top (i : Nat) : Stmt := PySem.Challenge.pw_goalcolumn_k41_texts_read.main.body.getD i (.Pass ⟨0, 0, 0, 0⟩)
abbrev s_source : Stmt := top 17
abbrev s_sdraw : Stmt := top 18
/-! ### the source of drawn numbers: at a, its digits at d; at most n draws were made -/
def Src (H : Hp) (a d : Addr) (n : Nat) : Prop := ∃ (ds : List Int) (cur mix cnt : Int), H a = some (.lst [.ref d, .int cur, .int mix, .int cnt]) ∧ H d = some (.lst (ds.map V.int)) ∧
  0 ≤ mix ∧ mix < 2 ^ 61 ∧ 0 ≤ cnt ∧ cnt ≤ n ∧ ds.length ≤ 63
theorem src_ne {H : Hp} {a d : Addr} {n : Nat} (h : Src H a d n) : a ≠ d := by
  obtain ⟨ds, cur, mix, cnt, h1, h2, _⟩ := h
  refine ne_of h1 h2 fun e => ?_
  cases ds with
  | nil => cases e
  | cons x xs => cases e

theorem Src.same {H H' : Hp} {a d : Addr} {n : Nat} (e : Same H H') (h : Src H a d n) : Src H' a d n := by
  obtain ⟨ds, cur, mix, cnt, h1, h2, h3⟩ := h
  exact ⟨ds, cur, mix, cnt, e _ _ h1, e _ _ h2, h3⟩
theorem Src.more {H : Hp} {a d : Addr} {n m : Nat} (h : Src H a d n) (l : n ≤ m) : Src H a d m := by
  obtain ⟨ds, cur, mix, cnt, h1, h2, h3, h4, h5, h6, h7⟩ := h
  exact ⟨ds, cur, mix, cnt, h1, h2, h3, h4, h5, by omega, h7⟩
theorem Src.off {H : Hp} {a d p : Addr} {n : Nat} (h : Src H a d n) (hp : H p = none) : p ≠ a ∧ p ≠ d := by
  obtain ⟨ds, cur, mix, cnt, h1, h2, _⟩ := h
  exact ⟨(ne_of_none h1 hp).symm, (ne_of_none h2 hp).symm⟩
theorem Src.upd {H : Hp} {a d p : Addr} {n : Nat} {o : HO} (h : Src H a d n) (n1 : p ≠ a) (n2 : p ≠ d) : Src (upd H p o) a d n := by
  obtain ⟨ds, cur, mix, cnt, h1, h2, h3⟩ := h
  exact ⟨ds, cur, mix, cnt, by rw [upd_ne n1.symm]; exact h1, by rw [upd_ne n2.symm]; exact h2, h3⟩
/-- tuples stand while numbers are drawn -/
theorem Src.tup {K : PySem.W.Frag} {H H' : Hp} {a d p : Addr} {n : Nat} {ys : List V} (B : Src H a d n) (e : Keep a d H H') (h : SqT K H p ys) : SqT K H' p ys := by
  obtain ⟨ds, _, _, _, h1, h2, _⟩ := B
  rcases h with (z | ⟨o, z⟩) | z
  · exact .inl (.inl (e _ _ (ne_of z h1 (by intro q; cases q)) (ne_of z h2 (by intro q; cases q)) z))
  · exact .inl (.inr ⟨o, e _ _ (ne_of z h1 (by intro q; cases q)) (ne_of z h2 (by intro q; cases q)) z⟩)
  · exact .inr z
def spSource (K : PySem.W.Frag) : Sp := fun vs H Q _ => ∃ (a : Addr) (ns : List Int), vs = [.ref a] ∧ SqL K H a (ns.map V.int) ∧ ns.length ≤ 63 ∧
  ∀ (H' : Hp) (p d : Addr), Same H H' → H p = none → H d = none → Src H' p d 0 → Q (.ref p) H'
def spDraw : Sp := fun vs H Q _ => ∃ (a d : Addr) (n : Nat) (many : Int), vs = [.ref a, .int many] ∧ Src H a d n ∧ n < 2 ^ 40 ∧ 0 < many ∧ many.natAbs.log2 < 9000 ∧
  ∀ (H' : Hp) (r : Int), Keep a d H H' → Src H' a d (n + 1) → 0 ≤ r → r < many → Q (.int r) H'
theorem pos61 : (0 : Int) < 2 ^ (61 : Int).toNat - 1 := by decide
structure TxtD (mg : Str → Option Value) : Prop where
  max : mg "max" = none

section
variable {P : Program} {w : World} {K : PySem.W.Frag} {mg : Str → Option Value} {base : Heap}
theorem sc_law_source : FnScope ["script", "mix", "digits", "cell", "size"] ["script"] (defScope s_source) := ⟨rfl, rfl, rfl, by decide +kernel, rfl, by decide +kernel, by decide +kernel⟩
theorem ok_source {f : Addr} {fd : FuncData} (F : Fun K "_law_source" "_law_source" s_source f fd) (T : TxtD mg) : FnOk P w K mg base CX0 1 f fd ["script"] (spSource K) := by
  refine F.ok sc_law_source (fun vs H Q E h => ?_) (fun cdv A outer s H vs Q E hr h => ?_)
  · obtain ⟨a, ns, rfl, _⟩ := h
    rfl
  · obtain ⟨a, ns, rfl, hS, hlen, k⟩ := h
    refine ⟨_, (pss_cons (ps_set (i := 1) sc_law_source.nd rfl (Or.inl rfl) pe_int)
      (pss_cons (ps_set (i := 2) sc_law_source.nd rfl (Or.inl rfl) (pe_lst pa_nil))
      (pss_cons (ps_for PassesOwn.never rfl (pi_list (pv 0)) (pg_name (i := 3) sc_law_source.nd rfl (Or.inl rfl)) (pss_cons (ps_set (i := 1) sc_law_source.nd rfl (Or.inl rfl) (pe_op op_mod (pe_op op_add (pe_op op_mulW (pv 1) pe_int) (pv 3)) (pe_op op_sub (pe_op op_pow pe_int pe_int) pe_int)))
      (pss_cons (ps_set (i := 4) sc_law_source.nd rfl (Or.inl rfl) (pe_callB (call_max2 rfl) (by rfl) T.max (by decide +kernel) (pa_cons (pv 3) (pa_cons (pe_op op_sub pe_int (pv 3)) pa_nil))))
      (pss_one (ps_if (pt_cmpR op_ge (pv 4) (pe_op op_pow pe_int pe_int) (nomark _)) (pss_one (ps_expr (pe_bm PySem.F.plainAttrs_list PySem.F.slot_list_append PySem.F.type_list_append mt_append (pv 2) (pa_cons (pe_op op_sub (pv 4) (pe_op op_pow pe_int pe_int)) pa_nil)))) pss_nil)))))
      (pss_one (ps_ret (pe_lst (pa_cons (pv 2) (pa_cons pe_int (pa_cons (pv 1) (pa_cons pe_int pa_nil)))))))))), ?_⟩
    refine ⟨Nat.zero_le _, fun d hd => ?_⟩
    refine ⟨_, rfl, a, rfl, ⟨_, (same_upd (Same.refl H) hd).seq hS⟩, for_list (K := K) (a := a) (xs := ns.map V.int) (fun i σ H' => ∃ (mix : Int) (ds : List Int) (v1 v2 : Option V), σ = [some (.ref a), some (.int mix), some (.ref d), v1, v2] ∧ Same H H' ∧ H' d = some (.lst (ds.map V.int)) ∧ 0 ≤ mix ∧ mix < 2 ^ 61 ∧ ds.length ≤ i)
      ⟨271828182845904, [], none, none, rfl, same_upd (Same.refl H) hd, upd_same, by decide, by decide, Nat.le_refl _⟩ (fun i σ H' _ ⟨_, _, _, _, _, e, _⟩ => e.seq hS) ?_ ?_⟩
    · rintro i y σ H' hi ⟨mix, ds, v1, v2, rfl, e, hD, m0, m1, hl⟩
      obtain ⟨u, rfl⟩ := int_at hi
      have hi' : i < ns.length := by
        have q := (List.getElem?_eq_some_iff.mp hi).1
        rw [List.length_map] at q
        exact q
      -- mix = (mix * 1000033 + cell) % (2 ** 61 - 1)
      refine ⟨_, rfl, _, _, rfl, rfl, wide_mul (a := 61) (b := 61) (by omega) (by decide) (by decide) (by decide) (by decide), _, rfl, _, _, rfl, rfl, _, _, rfl, rfl, cpow (by decide), _, _, rfl, rfl, _, _, rfl, rfl, pos61, ?_⟩
      -- size = max(cell, 0 - cell)
      refine ⟨_, rfl, _, rfl, _, _, rfl, rfl, _, _, rfl, ?_⟩
      -- if size >= 10 ** 18
      refine ⟨_, rfl, _, _, rfl, rfl, cpow (by decide), _, _, rfl, rfl, _, rfl, ?_⟩
      have b0 := Int.emod_nonneg (mix * 1000033 + u) (show (2 : Int) ^ (61 : Int).toNat - 1 ≠ 0 by decide)
      have b1 := Int.emod_lt_of_pos (mix * 1000033 + u) (show (0 : Int) < 2 ^ (61 : Int).toNat - 1 by decide)
      have b2 : (2 : Int) ^ (61 : Int).toNat - 1 < 2 ^ 61 := by decide
      refine ite2 (fun _ => ?_) (fun _ => ?_)
      · refine ⟨_, rfl, Or.inl ⟨rfl, _, SqL.of hD⟩, _, rfl, _, _, rfl, rfl, cpow (by decide), _, _, rfl, rfl, d, _, _, rfl, rfl, hD, ?_, ?_⟩
        · rw [List.length_map]
          exact small1000 (by omega)
        · refine ⟨_, ds ++ [(if 0 - u > u then 0 - u else u) - 10 ^ (18 : Int).toNat], _, _, rfl, fun b o hb => ?_, ?_, b0, Int.lt_trans b1 b2, ?_⟩
          · rw [upd_ne (ne_of_none hb hd)]
            exact e b o hb
          · rw [upd_same, List.map_append]
            rfl
          · rw [List.length_append, List.length_singleton]
            omega
      · exact ⟨_, ds, _, _, rfl, e, hD, b0, Int.lt_trans b1 b2, Nat.le_succ_of_le hl⟩
    · rintro σ H' ⟨mix, ds, v1, v2, rfl, e, hD, m0, m1, hl⟩
      refine ⟨_, rfl, _, rfl, (by show 4 ≤ sizeLine; decide), fun p hp => ?_⟩
      have hl' : ds.length ≤ 63 := by
        rw [List.length_map] at hl
        omega
      have npd : p ≠ d := (ne_of_none hD hp).symm
      exact k _ p d (same_upd e hp) (e.free hp) hd ⟨ds, 0, mix, 0, upd_same, by rw [upd_ne npd.symm]; exact hD, m0, m1, by decide, by decide, hl'⟩
theorem sc_law_draw : FnScope ["source", "many", "drawn", "mixed"] ["source", "many"] (defScope s_sdraw) := ⟨rfl, rfl, rfl, by decide +kernel, rfl, by decide +kernel, by decide +kernel⟩
theorem ok_draw {f : Addr} {fd : FuncData} (F : Fun K "_law_draw" "_law_draw" s_sdraw f fd) : FnOk P w K mg base CX0 1 f fd ["source", "many"] spDraw := by
  refine F.ok sc_law_draw (fun vs H Q E h => ?_) (fun cdv A outer s H vs Q E hr h => ?_)
  · obtain ⟨a, d, n, many, rfl, _⟩ := h
    rfl
  · obtain ⟨a, d, n, many, rfl, hs, hn, m0, mb, k⟩ := h
    have nad := src_ne hs
    obtain ⟨ds0, cur0, mix, cnt, hA0, hD0, x0, x1, c0, c1, hl0⟩ := hs
    refine ⟨_, (C8.pss_cut (ps_while PassesOwn.never (PW.pt (pw_and (pt_cmpR op_lt (pe_ix ix_list (pv 0) pe_int (fun _ _ => rfl)) pe_int (nomark _)) (pw_and1 (pt_cmpR (op_neD hr.units) (pe_ix ix_list (pv 0) pe_int (fun _ _ => rfl)) (pe_lst pa_nil) (nomark _))))) (pss_one (ps_asg (pe_bm PySem.F.plainAttrs_list PySem.F.slot_list_pop PySem.F.type_list_pop mt_popAt (pe_ix ix_list (pv 0) pe_int (fun _ _ => rfl)) (pa_cons pe_int pa_nil)) (pg_sub (pv 0) pe_int set_list))))
      (pss_cons (ps_if (pt_cmpR op_ge (pe_ix ix_list (pv 0) pe_int (fun _ _ => rfl)) pe_int (nomark _)) (pss_cons (ps_set (i := 2) sc_law_draw.nd rfl (Or.inl rfl) (pe_op op_mod (pe_ix ix_list (pv 0) pe_int (fun _ _ => rfl)) (pv 1)))
      (pss_cons (ps_asg (pe_op op_fdivW (pe_ix ix_list (pv 0) pe_int (fun _ _ => rfl)) (pv 1)) (pg_sub (pv 0) pe_int set_list))
      (pss_one (ps_ret (pv 2))))) pss_nil)
      (pss_cons (ps_asg (pe_op op_add (pe_ix ix_list (pv 0) pe_int (fun _ _ => rfl)) pe_int) (pg_sub (pv 0) pe_int set_list))
      (pss_cons (ps_set (i := 3) sc_law_draw.nd rfl (Or.inl rfl) (pe_op op_mulW (pe_op op_add (pe_ix ix_list (pv 0) pe_int (fun _ _ => rfl)) pe_int) (pe_op op_pow (pe_op op_add (pe_ix ix_list (pv 0) pe_int (fun _ _ => rfl)) pe_int) pe_int)))
      (pss_cons (ps_set (i := 3) sc_law_draw.nd rfl (Or.inl rfl) (pe_op op_mod (pe_op op_add (pv 3) (pe_op op_mulW pe_int (pe_ix ix_list (pv 0) pe_int (fun _ _ => rfl)))) (pe_op op_sub (pe_op op_pow pe_int pe_int) pe_int)))
      (pss_one (ps_ret (pe_op op_mod (pe_op op_fdivW (pe_op op_mod (pe_op op_pow (pv 3) pe_int) (pe_op op_add (pe_op op_pow pe_int pe_int) pe_int)) pe_int) (pv 1))))))))), ?_⟩
    refine ⟨fun σ H' => ∃ (ds : List Int) (cur : Int), σ = [some (.ref a), some (.int many), none, none] ∧ Keep a d H H' ∧ H' a = some (.lst [.ref d, .int cur, .int mix, .int cnt]) ∧ H' d = some (.lst (ds.map V.int)) ∧ ds.length ≤ 63, ?_, ?_⟩
    · refine ⟨fun m σ H' => ∃ (ds : List Int) (cur : Int), m = ds.length ∧ σ = [some (.ref a), some (.int many), none, none] ∧ Keep a d H H' ∧ H' a = some (.lst [.ref d, .int cur, .int mix, .int cnt]) ∧ H' d = some (.lst (ds.map V.int)) ∧ ds.length ≤ 63,
        ⟨_, ds0, cur0, rfl, rfl, Keep.refl H, hA0, hD0, hl0⟩, ?_⟩
      rintro m σ H1 ⟨ds, cur, rfl, rfl, e, hA, hD, hl⟩
      refine ⟨_, rfl, a, _, 1, _, rfl, rfl, SqL.of hA, rfl, _, _, rfl, rfl, _, rfl, ?_⟩
      refine ite2 (fun c1 => ?_) (fun c1 => ⟨ds, cur, rfl, e, hA, hD, hl⟩)
      refine ⟨_, rfl, a, _, 0, _, rfl, rfl, SqL.of hA, rfl, Nat.zero_le _, fun p hp => ?_⟩
      have npa : p ≠ a := (ne_of_none hA hp).symm
      have npd : p ≠ d := (ne_of_none hD hp).symm
      have hA' : upd H1 p (.lst []) a = some (.lst [.ref d, .int cur, .int mix, .int cnt]) := by rw [upd_ne npa.symm]; exact hA
      have hD' : upd H1 p (.lst []) d = some (.lst (ds.map V.int)) := by rw [upd_ne npd.symm]; exact hD
      refine ⟨.list (ds.map PyData.int), .list [], Dp.lst (SqL.of hD') (dp_ints ds), Dp.lst (SqL.of upd_same) .nil, PySem.W.ke_shaped_ints ds, rfl, _, rfl, ?_⟩
      cases ds with
      | nil => exact iteF ⟨[], cur, rfl, e.new hp, hA', hD', hl⟩
      | cons x xs =>
        refine iteT ⟨_, fun _ _ h => h, ?_⟩
        refine ⟨_, rfl, a, _, 0, _, rfl, rfl, SqL.of hA', rfl, Or.inl ⟨rfl, _, SqL.of hD'⟩, d, _, 0, 0, _, rfl, rfl, hD', by decide, by decide, seqIndex_of (Int.le_refl 0) (by rw [List.length_map, List.length_cons]; omega), rfl, ?_⟩
        refine ⟨_, rfl, a, _, 1, 1, rfl, rfl, (by rw [upd_ne nad]; exact hA'), rfl, ?_⟩
        refine ⟨xs.length, Nat.lt_succ_self _, xs, x, rfl, rfl, ((e.new hp).upd2).upd1, upd_same, ?_, ?_⟩
        · rw [upd_ne nad.symm, upd_same]
          rfl
        · rw [List.length_cons] at hl
          omega
    · rintro σ H1 ⟨ds, cur, rfl, e, hA, hD, hl⟩
      refine ⟨_, rfl, a, _, 1, _, rfl, rfl, SqL.of hA, rfl, _, _, rfl, rfl, _, rfl, ?_⟩
      refine ite2 (fun c1 => ?_) (fun c1 => ?_)
      · refine ⟨_, rfl, a, _, 1, _, rfl, rfl, SqL.of hA, rfl, _, rfl, _, _, rfl, rfl, m0, ?_⟩
        refine ⟨_, rfl, a, _, 1, _, rfl, rfl, SqL.of hA, rfl, _, rfl, _, _, rfl, rfl, ⟨m0, mb⟩, ?_⟩
        refine ⟨_, rfl, a, _, 1, 1, rfl, rfl, hA, rfl, ?_⟩
        refine ⟨_, rfl, k _ _ e.upd1 ⟨ds, _, mix, cnt, upd_same, by rw [upd_ne nad.symm]; exact hD, x0, x1, c0, by omega, hl⟩ (Int.emod_nonneg _ (by omega)) (Int.emod_lt_of_pos _ m0)⟩
      · refine ⟨_, rfl, a, _, 3, _, rfl, rfl, SqL.of hA, rfl, _, _, rfl, rfl, ?_⟩
        refine ⟨_, rfl, a, _, 3, 3, rfl, rfl, hA, rfl, ?_⟩
        have c2 : cnt + 1 < 2 ^ 41 := by omega
        have hA2 : upd H1 a (.lst [.ref d, .int cur, .int mix, .int (cnt + 1)]) a = some (.lst [.ref d, .int cur, .int mix, .int (cnt + 1)]) := upd_same
        -- mixed = (source[2] + 7) * (source[3] + 3) ** 3
        refine ⟨_, rfl, a, _, 2, _, rfl, rfl, SqL.of hA2, rfl, _, _, rfl, rfl, _, rfl, a, _, 3, _, rfl, rfl, SqL.of hA2, rfl, _, _, rfl, rfl, _, _, rfl, rfl, ⟨by decide, by decide, by omega⟩, _, _, rfl, rfl, wide_mul (a := 62) (b := 200) (by omega) ?_ (by decide) (by decide) (by decide), ?_⟩
        · exact pow_small (a := 62) (k := 3) (by omega) (by decide)
        -- mixed = (mixed + 1000081 * source[3]) % (2 ** 61 - 1)
        refine ⟨_, rfl, _, rfl, a, _, 3, _, rfl, rfl, SqL.of hA2, rfl, _, _, rfl, rfl, wide_mul (a := 61) (b := 61) (by decide) (by omega) (by decide) (by decide) (by decide), _, _, rfl, rfl, _, _, rfl, rfl, cpow (by decide), _, _, rfl, rfl, _, _, rfl, rfl, pos61, ?_⟩
        have b0 := Int.emod_nonneg ((mix + 7) * (cnt + 1 + 3) ^ (3 : Int).toNat + 1000081 * (cnt + 1)) (show (2 : Int) ^ (61 : Int).toNat - 1 ≠ 0 by decide)
        have b1 := Int.emod_lt_of_pos ((mix + 7) * (cnt + 1 + 3) ^ (3 : Int).toNat + 1000081 * (cnt + 1)) pos61
        have b2 : (2 : Int) ^ (61 : Int).toNat - 1 < 2 ^ 61 := by decide
        -- return mixed ** 5 % (10 ** 18 + 9) // 128 % many
        refine ⟨_, rfl, _, _, rfl, rfl, ⟨by decide, by decide, ?_⟩, _, _, rfl, rfl, cpow (by decide), _, _, rfl, rfl, _, _, rfl, rfl, (show (0 : Int) < 10 ^ (18 : Int).toNat + 9 by decide), _, _, rfl, rfl, ⟨by decide, by decide⟩, _, rfl, _, _, rfl, rfl, m0, ?_⟩
        · show (((mix + 7) * (cnt + 1 + 3) ^ (3 : Int).toNat + 1000081 * (cnt + 1)) % (2 ^ (61 : Int).toNat - 1)).natAbs < 2 ^ 64
          omega
        exact k _ _ e.upd1 ⟨ds, cur, mix, cnt + 1, upd_same, by rw [upd_ne nad.symm]; exact hD, x0, x1, by omega, by omega, hl⟩ (Int.emod_nonneg _ (by omega)) (Int.emod_lt_of_pos _ m0)
end
end Gc

/-! _law_error: what is told of a caught error -/
namespace Gc
open PySem L2
abbrev s_error : Stmt := top 25
def spErrE (cs : Nat → Addr) (R : Nat → Prop) (a C d : Addr) : Sp := fun vs H Q _ => ∃ (i : Nat) (v : V), vs = [.ref a] ∧ R i ∧ C = cs i ∧ H d = some (.xd [("value", v)]) ∧ ∀ H' p, Same H H' → H p = none → H' p = some (.lst [.str (nmE i), v, .bl true]) → Q (.ref p) H'
theorem pick_one (i : Nat) (hi : i < 7) {α : Type} (f : Nat → α) : ((List.range 7).filter fun j => decide (i = j)).map f = [f i] := by
  match i, hi with
  | 0, _ => rfl
  | 1, _ => rfl
  | 2, _ => rfl
  | 3, _ => rfl
  | 4, _ => rfl
  | 5, _ => rfl
  | 6, _ => rfl
section
variable {P : Program} {w : World} {K : PySem.W.Frag} {mg : Str → Option Value} {base : Heap} {cs : Nat → Addr} {CE : Addr} {R : Nat → Prop}
theorem sc_law_error : FnScope ["e", "held", "names", "name", "is_one"] ["e"] (defScope s_error) := ⟨rfl, rfl, rfl, by decide +kernel, rfl, by decide +kernel, by decide +kernel⟩
theorem ok_errE {f : Addr} {fd : FuncData} (F : Fun K "_law_error" "_law_error" s_error f fd) (T : TxtE K mg cs CE R) : FnN P w K mg base 1 f fd ["e"] (spErrE cs R) := by
  refine F.okEN sc_law_error (fun a C d vs H Q E h => ?_) (fun cdv A below s H vs Q E q C d hr hot hz hf h => ?_)
  · obtain ⟨i, v, rfl, _⟩ := h
    rfl
  · obtain ⟨i, v, rfl, hi, rfl, hd, k⟩ := h
    refine ⟨_, (pss_cons (ps_set (i := 1) sc_law_error.nd rfl (Or.inl rfl) (pe_lst (pa_cons (pe_tup (pa_cons pe_str (pa_cons (pe_callB (call_isX (a := q.1) (oe := q.2) List.mem_cons_self hz hf) (by rfl) T.isinstance (by decide +kernel) (pa_cons (pv 0) (pa_cons (pe_glob (v := .ref (cs 0)) (by rfl) T.g0 rfl) pa_nil))) pa_nil))) (pa_cons (pe_tup (pa_cons pe_str (pa_cons (pe_callB (call_isX (a := q.1) (oe := q.2) List.mem_cons_self hz hf) (by rfl) T.isinstance (by decide +kernel) (pa_cons (pv 0) (pa_cons (pe_glob (v := .ref (cs 1)) (by rfl) T.g1 rfl) pa_nil))) pa_nil))) pa_nil))))
      (pss_cons (ps_set (i := 1) sc_law_error.nd rfl (Or.inl rfl) (pe_op op_cat (pv 1) (pe_lst (pa_cons (pe_tup (pa_cons pe_str (pa_cons (pe_callB (call_isX (a := q.1) (oe := q.2) List.mem_cons_self hz hf) (by rfl) T.isinstance (by decide +kernel) (pa_cons (pv 0) (pa_cons (pe_glob (v := .ref (cs 2)) (by rfl) T.g2 rfl) pa_nil))) pa_nil))) (pa_cons (pe_tup (pa_cons pe_str (pa_cons (pe_callB (call_isX (a := q.1) (oe := q.2) List.mem_cons_self hz hf) (by rfl) T.isinstance (by decide +kernel) (pa_cons (pv 0) (pa_cons (pe_glob (v := .ref (cs 3)) (by rfl) T.g3 rfl) pa_nil))) pa_nil))) pa_nil)))))
      (pss_cons (ps_set (i := 1) sc_law_error.nd rfl (Or.inl rfl) (pe_op op_cat (pv 1) (pe_lst (pa_cons (pe_tup (pa_cons pe_str (pa_cons (pe_callB (call_isX (a := q.1) (oe := q.2) List.mem_cons_self hz hf) (by rfl) T.isinstance (by decide +kernel) (pa_cons (pv 0) (pa_cons (pe_glob (v := .ref (cs 4)) (by rfl) T.g4 rfl) pa_nil))) pa_nil))) (pa_cons (pe_tup (pa_cons pe_str (pa_cons (pe_callB (call_isX (a := q.1) (oe := q.2) List.mem_cons_self hz hf) (by rfl) T.isinstance (by decide +kernel) (pa_cons (pv 0) (pa_cons (pe_glob (v := .ref (cs 5)) (by rfl) T.g5 rfl) pa_nil))) pa_nil))) pa_nil)))))
      (pss_cons (L2H.ps_setLcH (i := 2) (own := [("name", 3), ("is_one", 4)]) hot sc_law_error.nd rfl rfl (sw_true rfl rfl rfl (by decide +kernel)) (pe_op op_cat (pv 1) (pe_lst (pa_cons (pe_tup (pa_cons pe_str (pa_cons (pe_callB (call_isX (a := q.1) (oe := q.2) List.mem_cons_self hz hf) (by rfl) T.isinstance (by decide +kernel) (pa_cons (pv 0) (pa_cons (pe_glob (v := .ref (cs 6)) (by rfl) T.g6 rfl) pa_nil))) pa_nil))) pa_nil))) (blkOk_by (N := ["e", "held", "names", "name", "is_one"]) (sc := defScope s_error) (by decide +kernel)) (fun _ _ _ _ _ => (show PG _ _ (gTup K 2 _) from L2H.pg_tupH hot (pgs_cons (pg_name (i := 3) sc_law_error.nd rfl (Or.inl rfl)) (pgs_cons (pg_name (i := 4) sc_law_error.nd rfl (Or.inl rfl)) pgs_nil)))) (fun _ _ _ _ _ => (pts_one (pt_val (pv 4)))) (fun _ _ _ _ _ => (pv 3)))
      (pss_one (ps_ret (pe_op op_cat (pv 2) (pe_lst (pa_cons (pe_xfE (a := q.1) (oe := q.2) List.mem_cons_self hz hf (pv 0)) (pa_cons (pe_and (pe_callB (call_isX (a := q.1) (oe := q.2) List.mem_cons_self hz hf) (by rfl) T.isinstance (by decide +kernel) (pa_cons (pv 0) (pa_cons (pe_glob (v := .ref CE) (by rfl) T.gE rfl) pa_nil))) (pe_one (pe_callB (call_isX (a := q.1) (oe := q.2) List.mem_cons_self hz hf) (by rfl) T.isinstance (by decide +kernel) (pa_cons (pv 0) (pa_cons (pe_bltn (v := .ty "ValueError") (u := .type "ValueError") (by rfl) T.ValueError (by decide +kernel) rfl) pa_nil))))) pa_nil)))))))))), ?_⟩
    have ei := T.ei i hi
    have i7 := T.lt i hi
    refine ⟨_, rfl, _, _, _, _, rfl, hd, ei, .own _, T.kit i 0 hi (by decide), (by show 2 ≤ sizeLine; decide), fun t0 n_t0 => ?_⟩
    generalize g1 : upd H t0 (.tup [.str "InvalidText", .bl (decide (i = 0))]) = G1
    have e1 : Same H G1 := by rw [← g1]; exact new_same n_t0
    have f_t0 : G1 t0 = some (.tup [.str (nmE 0), .bl (decide (i = 0))]) := by rw [← g1]; exact upd_same
    have E1 := e1
    have d1 := E1 _ _ hd
    refine ⟨_, rfl, _, _, _, _, rfl, d1, ei, .own _, T.kit i 1 hi (by decide), (by show 2 ≤ sizeLine; decide), fun t1 n_t1 => ?_⟩
    generalize g2 : upd G1 t1 (.tup [.str "InvalidCursor", .bl (decide (i = 1))]) = G2
    have e2 : Same G1 G2 := by rw [← g2]; exact new_same n_t1
    have f_t1 : G2 t1 = some (.tup [.str (nmE 1), .bl (decide (i = 1))]) := by rw [← g2]; exact upd_same
    have E2 := E1.trans e2
    have d2 := E2 _ _ hd
    replace f_t0 := e2 _ _ f_t0
    refine ⟨(by show 2 ≤ sizeLine; decide), fun la n_la => ?_⟩
    generalize g3 : upd G2 la (.lst [.ref t0, .ref t1]) = G3
    have e3 : Same G2 G3 := by rw [← g3]; exact new_same n_la
    have f_la : G3 la = some (.lst [.ref t0, .ref t1]) := by rw [← g3]; exact upd_same
    have E3 := E2.trans e3
    have d3 := E3 _ _ hd
    replace f_t0 := e3 _ _ f_t0
    replace f_t1 := e3 _ _ f_t1
    refine ⟨_, rfl, ?_⟩
    refine ⟨_, rfl, _, _, _, _, rfl, d3, ei, .own _, T.kit i 2 hi (by decide), (by show 2 ≤ sizeLine; decide), fun t2 n_t2 => ?_⟩
    generalize g4 : upd G3 t2 (.tup [.str "InvalidCommand", .bl (decide (i = 2))]) = G4
    have e4 : Same G3 G4 := by rw [← g4]; exact new_same n_t2
    have f_t2 : G4 t2 = some (.tup [.str (nmE 2), .bl (decide (i = 2))]) := by rw [← g4]; exact upd_same
    have E4 := E3.trans e4
    have d4 := E4 _ _ hd
    replace f_t0 := e4 _ _ f_t0
    replace f_t1 := e4 _ _ f_t1
    replace f_la := e4 _ _ f_la
    refine ⟨_, rfl, _, _, _, _, rfl, d4, ei, .own _, T.kit i 3 hi (by decide), (by show 2 ≤ sizeLine; decide), fun t3 n_t3 => ?_⟩
    generalize g5 : upd G4 t3 (.tup [.str "Impossible", .bl (decide (i = 3))]) = G5
    have e5 : Same G4 G5 := by rw [← g5]; exact new_same n_t3
    have f_t3 : G5 t3 = some (.tup [.str (nmE 3), .bl (decide (i = 3))]) := by rw [← g5]; exact upd_same
    have E5 := E4.trans e5
    have d5 := E5 _ _ hd
    replace f_t0 := e5 _ _ f_t0
    replace f_t1 := e5 _ _ f_t1
    replace f_la := e5 _ _ f_la
    replace f_t2 := e5 _ _ f_t2
    refine ⟨(by show 2 ≤ sizeLine; decide), fun lb n_lb => ?_⟩
    generalize g6 : upd G5 lb (.lst [.ref t2, .ref t3]) = G6
    have e6 : Same G5 G6 := by rw [← g6]; exact new_same n_lb
    have f_lb : G6 lb = some (.lst [.ref t2, .ref t3]) := by rw [← g6]; exact upd_same
    have E6 := E5.trans e6
    have d6 := E6 _ _ hd
    replace f_t0 := e6 _ _ f_t0
    replace f_t1 := e6 _ _ f_t1
    replace f_la := e6 _ _ f_la
    replace f_t2 := e6 _ _ f_t2
    replace f_t3 := e6 _ _ f_t3
    refine ⟨_, _, _, _, rfl, rfl, f_la, f_lb, (by show 4 ≤ sizeLine; decide), fun lc n_lc => ?_⟩
    generalize g7 : upd G6 lc (.lst ([.ref t0, .ref t1] ++ [.ref t2, .ref t3])) = G7
    have e7 : Same G6 G7 := by rw [← g7]; exact new_same n_lc
    have f_lc : G7 lc = some (.lst [.ref t0, .ref t1, .ref t2, .ref t3]) := by rw [← g7]; exact upd_same
    have E7 := E6.trans e7
    have d7 := E7 _ _ hd
    replace f_t0 := e7 _ _ f_t0
    replace f_t1 := e7 _ _ f_t1
    replace f_la := e7 _ _ f_la
    replace f_t2 := e7 _ _ f_t2
    replace f_t3 := e7 _ _ f_t3
    replace f_lb := e7 _ _ f_lb
    refine ⟨_, rfl, ?_⟩
    refine ⟨_, rfl, _, _, _, _, rfl, d7, ei, .own _, T.kit i 4 hi (by decide), (by show 2 ≤ sizeLine; decide), fun t4 n_t4 => ?_⟩
    generalize g8 : upd G7 t4 (.tup [.str "InvalidNumber", .bl (decide (i = 4))]) = G8
    have e8 : Same G7 G8 := by rw [← g8]; exact new_same n_t4
    have f_t4 : G8 t4 = some (.tup [.str (nmE 4), .bl (decide (i = 4))]) := by rw [← g8]; exact upd_same
    have E8 := E7.trans e8
    have d8 := E8 _ _ hd
    replace f_t0 := e8 _ _ f_t0
    replace f_t1 := e8 _ _ f_t1
    replace f_la := e8 _ _ f_la
    replace f_t2 := e8 _ _ f_t2
    replace f_t3 := e8 _ _ f_t3
    replace f_lb := e8 _ _ f_lb
    replace f_lc := e8 _ _ f_lc
    refine ⟨_, rfl, _, _, _, _, rfl, d8, ei, .own _, T.kit i 5 hi (by decide), (by show 2 ≤ sizeLine; decide), fun t5 n_t5 => ?_⟩
    generalize g9 : upd G8 t5 (.tup [.str "NothingToUndo", .bl (decide (i = 5))]) = G9
    have e9 : Same G8 G9 := by rw [← g9]; exact new_same n_t5
    have f_t5 : G9 t5 = some (.tup [.str (nmE 5), .bl (decide (i = 5))]) := by rw [← g9]; exact upd_same
    have E9 := E8.trans e9
    have d9 := E9 _ _ hd
    replace f_t0 := e9 _ _ f_t0
    replace f_t1 := e9 _ _ f_t1
    replace f_la := e9 _ _ f_la
    replace f_t2 := e9 _ _ f_t2
    replace f_t3 := e9 _ _ f_t3
    replace f_lb := e9 _ _ f_lb
    replace f_lc := e9 _ _ f_lc
    replace f_t4 := e9 _ _ f_t4
    refine ⟨(by show 2 ≤ sizeLine; decide), fun ld n_ld => ?_⟩
    generalize g10 : upd G9 ld (.lst [.ref t4, .ref t5]) = G10
    have e10 : Same G9 G10 := by rw [← g10]; exact new_same n_ld
    have f_ld : G10 ld = some (.lst [.ref t4, .ref t5]) := by rw [← g10]; exact upd_same
    have E10 := E9.trans e10
    have d10 := E10 _ _ hd
    replace f_t0 := e10 _ _ f_t0
    replace f_t1 := e10 _ _ f_t1
    replace f_la := e10 _ _ f_la
    replace f_t2 := e10 _ _ f_t2
    replace f_t3 := e10 _ _ f_t3
    replace f_lb := e10 _ _ f_lb
    replace f_lc := e10 _ _ f_lc
    replace f_t4 := e10 _ _ f_t4
    replace f_t5 := e10 _ _ f_t5
    refine ⟨_, _, _, _, rfl, rfl, f_lc, f_ld, (by show 6 ≤ sizeLine; decide), fun le n_le => ?_⟩
    generalize g11 : upd G10 le (.lst ([.ref t0, .ref t1, .ref t2, .ref t3] ++ [.ref t4, .ref t5])) = G11
    have e11 : Same G10 G11 := by rw [← g11]; exact new_same n_le
    have f_le : G11 le = some (.lst [.ref t0, .ref t1, .ref t2, .ref t3, .ref t4, .ref t5]) := by rw [← g11]; exact upd_same
    have E11 := E10.trans e11
    have d11 := E11 _ _ hd
    replace f_t0 := e11 _ _ f_t0
    replace f_t1 := e11 _ _ f_t1
    replace f_la := e11 _ _ f_la
    replace f_t2 := e11 _ _ f_t2
    replace f_t3 := e11 _ _ f_t3
    replace f_lb := e11 _ _ f_lb
    replace f_lc := e11 _ _ f_lc
    replace f_t4 := e11 _ _ f_t4
    replace f_t5 := e11 _ _ f_t5
    replace f_ld := e11 _ _ f_ld
    refine ⟨_, rfl, ?_⟩
    refine ⟨_, rfl, _, _, _, _, rfl, d11, ei, .own _, T.kit i 6 hi (by decide), (by show 2 ≤ sizeLine; decide), fun t6 n_t6 => ?_⟩
    generalize g12 : upd G11 t6 (.tup [.str "Unreadable", .bl (decide (i = 6))]) = G12
    have e12 : Same G11 G12 := by rw [← g12]; exact new_same n_t6
    have f_t6 : G12 t6 = some (.tup [.str (nmE 6), .bl (decide (i = 6))]) := by rw [← g12]; exact upd_same
    have E12 := E11.trans e12
    have d12 := E12 _ _ hd
    replace f_t0 := e12 _ _ f_t0
    replace f_t1 := e12 _ _ f_t1
    replace f_la := e12 _ _ f_la
    replace f_t2 := e12 _ _ f_t2
    replace f_t3 := e12 _ _ f_t3
    replace f_lb := e12 _ _ f_lb
    replace f_lc := e12 _ _ f_lc
    replace f_t4 := e12 _ _ f_t4
    replace f_t5 := e12 _ _ f_t5
    replace f_ld := e12 _ _ f_ld
    replace f_le := e12 _ _ f_le
    refine ⟨(by show 1 ≤ sizeLine; decide), fun lf n_lf => ?_⟩
    generalize g13 : upd G12 lf (.lst [.ref t6]) = G13
    have e13 : Same G12 G13 := by rw [← g13]; exact new_same n_lf
    have f_lf : G13 lf = some (.lst [.ref t6]) := by rw [← g13]; exact upd_same
    have E13 := E12.trans e13
    have d13 := E13 _ _ hd
    replace f_t0 := e13 _ _ f_t0
    replace f_t1 := e13 _ _ f_t1
    replace f_la := e13 _ _ f_la
    replace f_t2 := e13 _ _ f_t2
    replace f_t3 := e13 _ _ f_t3
    replace f_lb := e13 _ _ f_lb
    replace f_lc := e13 _ _ f_lc
    replace f_t4 := e13 _ _ f_t4
    replace f_t5 := e13 _ _ f_t5
    replace f_ld := e13 _ _ f_ld
    replace f_le := e13 _ _ f_le
    replace f_t6 := e13 _ _ f_t6
    refine ⟨_, _, _, _, rfl, rfl, f_le, f_lf, (by show 7 ≤ sizeLine; decide), fun lg n_lg => ?_⟩
    generalize g14 : upd G13 lg (.lst ([.ref t0, .ref t1, .ref t2, .ref t3, .ref t4, .ref t5] ++ [.ref t6])) = G14
    have e14 : Same G13 G14 := by rw [← g14]; exact new_same n_lg
    have f_lg : G14 lg = some (.lst [.ref t0, .ref t1, .ref t2, .ref t3, .ref t4, .ref t5, .ref t6]) := by rw [← g14]; exact upd_same
    have E14 := E13.trans e14
    have d14 := E14 _ _ hd
    replace f_t0 := e14 _ _ f_t0
    replace f_t1 := e14 _ _ f_t1
    replace f_la := e14 _ _ f_la
    replace f_t2 := e14 _ _ f_t2
    replace f_t3 := e14 _ _ f_t3
    replace f_lb := e14 _ _ f_lb
    replace f_lc := e14 _ _ f_lc
    replace f_t4 := e14 _ _ f_t4
    replace f_t5 := e14 _ _ f_t5
    replace f_ld := e14 _ _ f_ld
    replace f_le := e14 _ _ f_le
    replace f_t6 := e14 _ _ f_t6
    replace f_lf := e14 _ _ f_lf
    refine ⟨lg, _, rfl, SqL.of f_lg, fun D hD => ?_⟩
    have all : ∀ (j : Nat) (x : V), [V.ref t0, .ref t1, .ref t2, .ref t3, .ref t4, .ref t5, .ref t6][j]? = some x → ∃ t, x = .ref t ∧ j < 7 ∧ G14 t = some (.tup [.str (nmE j), .bl (decide (i = j))]) := fun j x hj => by
      match j, hj with
      | 0, hj => obtain rfl := Option.some.inj hj; exact ⟨t0, rfl, by decide, f_t0⟩
      | 1, hj => obtain rfl := Option.some.inj hj; exact ⟨t1, rfl, by decide, f_t1⟩
      | 2, hj => obtain rfl := Option.some.inj hj; exact ⟨t2, rfl, by decide, f_t2⟩
      | 3, hj => obtain rfl := Option.some.inj hj; exact ⟨t3, rfl, by decide, f_t3⟩
      | 4, hj => obtain rfl := Option.some.inj hj; exact ⟨t4, rfl, by decide, f_t4⟩
      | 5, hj => obtain rfl := Option.some.inj hj; exact ⟨t5, rfl, by decide, f_t5⟩
      | 6, hj => obtain rfl := Option.some.inj hj; exact ⟨t6, rfl, by decide, f_t6⟩
      | n + 7, hj => cases hj
    refine ⟨fun j H' => Same G14 H' ∧ H' D = some (.lst ((((List.range 7).take j).filter fun m => decide (i = m)).map fun m => .str (nmE m))), ⟨new_same hD, upd_same⟩, fun j H' ⟨e, _⟩ => e.seq (SqL.of f_lg), fun j x H' hj h => ?_, fun H' h => ?_⟩
    · obtain ⟨e, eD⟩ := h
      obtain ⟨t, rfl, hj7, ht⟩ := all j x hj
      have tk : (List.range 7).take (j + 1) = (List.range 7).take j ++ [j] := takeS (by rw [List.getElem?_range hj7])
      refine ⟨t, _, rfl, SqT.of (e _ _ ht), rfl, _, _, rfl, _, _, rfl, rfl, rfl, ?_⟩
      refine ⟨_, rfl, _, rfl, ?_⟩
      refine ite2 (fun c => ?_) (fun c => ?_)
      · refine ⟨_, rfl, _, eD, ?_, same_freeU e hD, ?_⟩
        · refine lt_line (Nat.le_trans ?_ (by decide : 7 ≤ 100000))
          rw [List.length_map]
          refine Nat.le_trans (List.length_filter_le _ _) ?_
          rw [List.length_take, List.length_range]
          omega
        · rw [upd_same, tk, List.filter_append, List.map_append]
          simp [c]
      · refine ⟨e, ?_⟩
        rw [tk, List.filter_append, List.map_append]
        simp [c, eD]
    · obtain ⟨e, eD⟩ := h
      have z : ((((List.range 7).take 7).filter fun m => decide (i = m)).map fun m => V.str (nmE m)) = [.str (nmE i)] := pick_one i i7 fun m => V.str (nmE m)
      have eD' : H' D = some (.lst [.str (nmE i)]) := by
        rw [← z]
        exact eD
      have E0 := E14.trans e
      have dd := E0 _ _ hd
      refine ⟨_, rfl, ?_⟩
      refine ⟨_, rfl, rfl, _, d, v, rfl, rfl, ei, dd, ?_⟩
      refine ⟨_, rfl, _, _, _, true, rfl, dd, ei, .own _, T.kce i hi, _, rfl, iteT ?_⟩
      refine ⟨_, rfl, _, _, _, true, rfl, dd, ei, .ty "ValueError", T.kve i hi, ?_⟩
      refine ⟨(by show 2 ≤ sizeLine; decide), fun l hl => ?_⟩
      refine ⟨_, _, _, _, rfl, rfl, new_same hl _ _ eD', upd_same, (by show 3 ≤ sizeLine; decide), fun r hr' => ?_⟩
      exact k _ r ((E0.trans (new_same hl)).trans (new_same hr')) (Same.free (E0.trans (new_same hl)) hr') upd_same
end
end Gc

/-! words read back: slices, digits, dicts of the module -/
namespace Gc
open PySem PyProof.Rows L2 TL
theorem mk_size (l : List Nat) : (mkS l).length = l.length := mkS_len l
theorem cut_front (l : List Nat) (x : Nat) : cutS (mkS (l ++ [x])) none (some (-1)) = mkS l := by
  refine ext_tl ?_
  show ((l ++ [x]).drop (HT.sIx (mkS (l ++ [x])).length 0 none)).take (HT.sIx (mkS (l ++ [x])).length (mkS (l ++ [x])).length (some (-1)) - HT.sIx (mkS (l ++ [x])).length 0 none) = l
  rw [mkS_len, List.length_append]
  have h1 : HT.sIx (l.length + [x].length) 0 none = 0 := rfl
  have h2 : HT.sIx (l.length + [x].length) (l.length + [x].length) (some (-1)) = l.length := by
    unfold HT.sIx
    simp
    try omega
  rw [h1, h2]
  simp
theorem cut_back (l : List Nat) (x : Nat) : cutS (mkS (l ++ [x])) (some (-1)) none = mkS [x] := by
  refine ext_tl ?_
  show ((l ++ [x]).drop (HT.sIx (mkS (l ++ [x])).length 0 (some (-1)))).take (HT.sIx (mkS (l ++ [x])).length (mkS (l ++ [x])).length none - HT.sIx (mkS (l ++ [x])).length 0 (some (-1))) = [x]
  rw [mkS_len, List.length_append]
  have h1 : HT.sIx (l.length + [x].length) (l.length + [x].length) none = l.length + 1 := rfl
  have h2 : HT.sIx (l.length + [x].length) 0 (some (-1)) = l.length := by
    unfold HT.sIx
    simp
    try omega
  rw [h1, h2]
  simp
theorem int_mk (n : Nat) (h : (numL n).length ≤ 640) : intText? (mkS (numL n)) = some (n : Int) := by
  have e : mkS (numL n) = Str.ofString (toString ((n : Nat) : Int)) := ext_tl (tl_num n).symm
  rw [e]
  exact int_num (by omega)
theorem numL_head : ∀ {n : Nat}, 1 ≤ n → ∃ a l, numL n = a :: l ∧ 49 ≤ a ∧ a ≤ 57 := fun {n} hn => by
  induction n using Nat.strongRecOn with
  | ind n ih =>
    rcases Nat.lt_or_ge n 10 with h | h
    · exact ⟨48 + n, [], numL_lt h, by omega, by omega⟩
    · obtain ⟨a, l, e, h1, h2⟩ := ih (n / 10) (by omega) (by omega)
      refine ⟨a, l ++ [48 + n % 10], ?_, h1, h2⟩
      rw [numL_step h, e]
      rfl
theorem str_beq (a b : Str) : (a == b) = decide (a = b) := by
  by_cases h : a = b
  · subst h
    simp
  · rw [decide_eq_false h]
    exact beq_eq_false_iff_ne.mpr h
/-- what a written dict of the module says of a key -/
theorem ns_dict {K : PySem.W.Frag} {a : Addr} {c : Value} {od : Option Addr} {es : Array DictEntry} {n : Nat} {sl : Array (Option Value)} (l : K.lookup a = some ⟨c, od, .dict es n, sl⟩) (r : es.toList.any (·.refKey) = false) (x : Str) :
    PySem.W.nsIn K a x = some ((es.toList.find? (·.key.isStr x)).map (·.val)) := by
  unfold PySem.W.nsIn
  rw [l]
  dsimp only
  cases h : es.toList.find? (·.key.isStr x) with
  | some e => rfl
  | none =>
    dsimp only
    rw [r]
    rfl
theorem word_ne {l : List Nat} {a b : Nat} (h : a ≠ b) : mkS (l ++ [a]) ≠ mkS [b] := fun z => by
  have q := congrArg List.getLast? (mkS_inj z)
  rw [List.getLast?_concat] at q
  exact h (Option.some.inj q)
theorem one_no {a b : Nat} (h : a ≠ b) : V.bl (decide (V.str ⟨#[a]⟩ = V.str (mkS [b]))) = V.bl false := by
  rw [decide_eq_false fun z => h ?_]
  have q := mkS_inj (l := [a]) (m := [b]) (V.str.inj z)
  exact (List.cons.inj q).1
theorem mk_tl (x : Str) : mkS (tl x) = x := ext_tl rfl
theorem split_shown {cs : List Cmd} (h : cs ≠ []) (hk : ¬ Builtin.Str.strKind (shownS cs) < Builtin.Str.strKind " ") : Txt.split (shownS cs) " " = cs.map fun c => mkS (cw c) := by
  have e := split_spl (shownS cs) " " (by decide +kernel) hk
  have t1 : tl (" " : Str) = [32] := by decide +kernel
  have t2 : tl (shownS cs) = joinL [32] (cs.map cw) := by
    unfold shownS shownL
    rw [if_neg h]
    rfl
  rw [t1, t2, join_words h] at e
  have q := congrArg (List.map mkS) e
  rw [List.map_map, List.map_map] at q
  rw [← List.map_id (Txt.split (shownS cs) " ")]
  have i : (mkS ∘ tl) = id := funext mk_tl
  rw [i] at q
  exact q
/-- an entry of a written dict -/
def entD (P : Params) (kv : Str × Tok × Str × Tok) : DictEntry := ⟨PyData.keyHash P kv.1, .str kv.1 kv.2.1, .str kv.2.2.1 kv.2.2.2⟩
theorem find_ent (P : Params) (x : Str) : ∀ l : List (Str × Tok × Str × Tok), ((l.map (entD P)).find? (·.key.isStr x)).map (·.val) = (l.find? fun kv => decide (kv.1 = x)).map fun kv => .str kv.2.2.1 kv.2.2.2
  | [] => rfl
  | kv :: l => by
    rw [List.map_cons, List.find?_cons, List.find?_cons]
    have e : (entD P kv).key.isStr x = decide (kv.1 = x) := str_beq kv.1 x
    rw [e]
    by_cases h : kv.1 = x
    · rw [decide_eq_true h]
      rfl
    · rw [decide_eq_false h]
      exact find_ent P x l
theorem ent_lit (P : Params) : ∀ l : List (Str × Tok × Str × Tok), PySem.W.KeysLit P (l.map (entD P))
  | [] => trivial
  | kv :: l => ⟨⟨kv.1, kv.2.1, rfl, rfl⟩, ent_lit P l⟩
theorem ent_ref (P : Params) : ∀ l : List (Str × Tok × Str × Tok), (l.map (entD P)).any (·.refKey) = false
  | [] => rfl
  | kv :: l => by
    rw [List.map_cons, List.any_cons, ent_ref P l]
    rfl
theorem ns_ent {K : PySem.W.Frag} {P : Params} {a : Addr} {c : Value} {od : Option Addr} {l : List (Str × Tok × Str × Tok)} {n : Nat} {sl : Array (Option Value)} (h : K.lookup a = some ⟨c, od, .dict (l.map (entD P)).toArray n, sl⟩) (x : Str) :
    PySem.W.nsIn K a x = some ((l.find? fun kv => decide (kv.1 = x)).map fun kv => .str kv.2.2.1 kv.2.2.2) := by
  rw [ns_dict h (ent_ref P l) x]
  exact congrArg some (find_ent P x l)
theorem kd_ent {K : PySem.W.Frag} {w : World} {a : Addr} {l : List (Str × Tok × Str × Tok)} {n : Nat} (h : K.lookup a = some ⟨.type "dict", none, .dict (l.map (entD w.params)).toArray n, #[]⟩) (lo : (a == sysModules) = false) : KDict K w a (l.map (entD w.params)).toArray n :=
  ⟨h, ent_lit w.params l, lo⟩
end Gc

/-! digits without a leading zero are the text of a number -/
namespace Gc
open PySem PyProof.Rows L2 TL
theorem num_of : ∀ (n : Nat) (ds : List Nat), ds.length = n + 1 → (∀ d ∈ ds, 48 ≤ d ∧ d ≤ 57) → (∀ a l, ds = a :: l → a ≠ 48) → ∃ m, 1 ≤ m ∧ numL m = ds
  | 0, ds, hl, hd, hz => by
    match ds, hl with
    | [a], _ =>
      have h1 := hd a List.mem_cons_self
      have h2 := hz a [] rfl
      refine ⟨a - 48, by omega, ?_⟩
      rw [numL_lt (by omega)]
      congr 1
      omega
  | n + 1, ds, hl, hd, hz => by
    have ne : ds ≠ [] := fun z => by rw [z] at hl; cases hl
    obtain ⟨dl, la, rfl⟩ : ∃ dl la, ds = dl ++ [la] := ⟨ds.dropLast, ds.getLast ne, (List.dropLast_concat_getLast ne).symm⟩
    have hlen : dl.length = n + 1 := by
      rw [List.length_append] at hl
      have : ([la] : List Nat).length = 1 := rfl
      omega
    obtain ⟨m, hm, em⟩ := num_of n dl hlen (fun d h => hd d (List.mem_append_left _ h)) (fun a l h => hz a (l ++ [la]) (by rw [h]; rfl))
    have hlast := hd la (List.mem_append_right _ (List.mem_singleton.mpr rfl))
    refine ⟨10 * m + (la - 48), by omega, ?_⟩
    rw [numL_step (by omega), show (10 * m + (la - 48)) / 10 = m by omega, show (10 * m + (la - 48)) % 10 = la - 48 by omega, em]
    congr 2
    omega
theorem pre_sp (c : Nat) (r : List Nat) : pre [32] (c :: r) = decide (c = 32) := by
  by_cases h : c = 32
  · subst h
    cases r <;> simp [pre]
  · have h' : ¬ 32 = c := fun z => h z.symm
    cases r <;> simp [pre, h, h']
theorem spl_ne (S : List Nat) : ∀ (l : List Nat) (k : Nat) (acc : List Nat), spl S k acc l ≠ []
  | [], k, acc => by rw [spl_nil]; simp
  | c :: r, 0, acc => by
    unfold spl
    split
    · simp
    · exact spl_ne S r 0 _
  | c :: r, k + 1, acc => by
    unfold spl
    exact spl_ne S r k _
/-- the words, joined again -/
theorem join_spl : ∀ (l acc : List Nat), joinL [32] (spl [32] 0 acc l) = acc ++ l
  | [], acc => by
    rw [spl_nil, List.append_nil]
    rfl
  | c :: r, acc => by
    by_cases h : c = 32
    · subst h
      rw [spl_hit (by rw [pre_sp]; rfl)]
      have ih := join_spl r []
      have ne := spl_ne [32] r 0 []
      show joinL [32] (acc :: spl [32] 0 [] r) = _
      generalize spl [32] 0 [] r = ws at ih ne ⊢
      cases ws with
      | nil => exact absurd rfl ne
      | cons w ws =>
        show acc ++ ([32] ++ joinL [32] (w :: ws)) = _
        rw [ih]
        rfl
    · rw [spl_miss (by rw [pre_sp]; exact decide_eq_false h), join_spl r (acc ++ [c]), List.append_assoc]
      rfl
end Gc

/-! texts of commands, read sign by sign -/
namespace Gc
open PySem PyProof.Rows L2 TL
/-- the value of digits -/
def valD (ds : List Nat) : Nat := ds.foldl (fun a d => a * 10 + (d - 48)) 0
theorem valD_snoc (ds : List Nat) (d : Nat) : valD (ds ++ [d]) = valD ds * 10 + (d - 48) := by
  unfold valD
  rw [List.foldl_append]
  rfl
theorem valD_num (n : Nat) : valD (numL n) = n := by
  induction n using Nat.strongRecOn with
  | ind n ih =>
    rcases Nat.lt_or_ge n 10 with h | h
    · rw [numL_lt h]
      show (0 * 10 + (48 + n - 48)) = n
      omega
    · rw [numL_step h, valD_snoc, ih (n / 10) (by omega)]
      omega
def digLst : List Nat := [48, 49, 50, 51, 52, 53, 54, 55, 56, 57]
theorem mem_dig {c : Nat} : c ∈ digLst ↔ 48 ≤ c ∧ c ≤ 57 := by
  unfold digLst
  simp only [List.mem_cons, List.not_mem_nil, or_false]
  omega
/-- what was read so far: commands, the digits of the next one, whether no command stands unfinished -/
structure Rd1 where
  cs : List Cmd
  ds : List Nat
  e : Bool
def loneC (c : Nat) : Cmd := if c = 72 then .home else .stop
def numC1 (c : Nat) (n : Nat) : Cmd := if c = 68 then .down n else if c = 85 then .up n else if c = 82 then .right n else .left n
def stepR (s : Rd1) (c : Nat) : Option Rd1 :=
  if c = 32 then (if s.e = true then none else some ⟨s.cs, s.ds, true⟩)
  else if s.e = false then none
  else if c ∈ digLst then (if (s.ds ++ [c]).head? = some 48 ∨ 40 < (s.ds ++ [c]).length then none else some ⟨s.cs, s.ds ++ [c], true⟩)
  else if c ∈ [72, 69] ∧ s.ds = [] then some ⟨s.cs ++ [loneC c], s.ds, false⟩
  else if c ∈ [68, 85, 82, 76] ∧ s.ds ≠ [] then some ⟨s.cs ++ [numC1 c (valD s.ds)], [], false⟩
  else none
def foldR : Rd1 → List Nat → Option Rd1
  | s, [] => some s
  | s, c :: l => (stepR s c).bind fun t => foldR t l
theorem foldR_app : ∀ (l m : List Nat) (s : Rd1), foldR s (l ++ m) = (foldR s l).bind fun t => foldR t m
  | [], m, s => rfl
  | c :: l, m, s => by
    show (stepR s c).bind (fun t => foldR t (l ++ m)) = ((stepR s c).bind fun t => foldR t l).bind fun t => foldR t m
    cases stepR s c with
    | none => rfl
    | some t => exact foldR_app l m t
def st0 : Rd1 := ⟨[], [], true⟩
/-- each command's word, a space behind it -/
def preL : List Cmd → List Nat
  | [] => []
  | c :: cs => cw c ++ [32] ++ preL cs
theorem preL_app : ∀ cs ds : List Cmd, preL (cs ++ ds) = preL cs ++ preL ds
  | [], ds => rfl
  | c :: cs, ds => by
    show cw c ++ [32] ++ preL (cs ++ ds) = cw c ++ [32] ++ preL cs ++ preL ds
    rw [preL_app cs ds]
    simp [List.append_assoc]
theorem preL_join : ∀ {cs : List Cmd}, cs ≠ [] → preL cs = joinL [32] (cs.map cw) ++ [32]
  | [], h => absurd rfl h
  | [c], _ => by
    show cw c ++ [32] ++ [] = cw c ++ [32]
    rw [List.append_nil]
  | c :: d :: cs, _ => by
    have ih := preL_join (cs := d :: cs) (by simp)
    show cw c ++ [32] ++ preL (d :: cs) = (cw c ++ ([32] ++ joinL [32] ((d :: cs).map cw))) ++ [32]
    rw [ih]
    simp [List.append_assoc]
/-- digits as they may stand ahead of a letter -/
def DsOk (ds : List Nat) : Prop := (∀ d ∈ ds, 48 ≤ d ∧ d ≤ 57) ∧ ds.head? ≠ some 48 ∧ ds.length ≤ 40
theorem DsOk.num {ds : List Nat} (h : DsOk ds) (ne : ds ≠ []) : 1 ≤ valD ds ∧ numL (valD ds) = ds ∧ valD ds < 10 ^ 40 := by
  obtain ⟨h1, h2, h3⟩ := h
  obtain ⟨k, hk⟩ : ∃ k, ds.length = k + 1 := ⟨ds.length - 1, by have := List.length_pos_iff.mpr ne; omega⟩
  obtain ⟨m, m1, em⟩ := num_of k ds hk h1 fun a l e z => h2 (by rw [e, z]; rfl)
  have ev : valD ds = m := by rw [← em]; exact valD_num m
  rw [ev]
  refine ⟨m1, em, ?_⟩
  rcases Nat.lt_or_ge m (10 ^ 40) with z | z
  · exact z
  · exfalso
    have key : ∀ (k m : Nat), 10 ^ k ≤ m → k + 1 ≤ (numL m).length := fun k => by
      induction k with
      | zero =>
        intro m _
        rcases Nat.lt_or_ge m 10 with q | q
        · rw [numL_lt q]; exact Nat.le_refl _
        · rw [numL_step q, List.length_append]
          show 0 + 1 ≤ _ + 1
          omega
      | succ k ih =>
        intro m hm
        have p10 : 10 ^ (k + 1) = 10 ^ k * 10 := Nat.pow_succ ..
        have pos : 0 < 10 ^ k := Nat.pow_pos (by decide)
        rw [numL_step (by omega), List.length_append]
        have := ih (m / 10) (by omega)
        show k + 1 + 1 ≤ _ + 1
        omega
    have := key 40 m z
    rw [em] at this
    omega
def GoodR (s : Rd1) : Prop := AllOk s.cs ∧ (∀ c ∈ s.cs, numC c < 10 ^ 40) ∧ DsOk s.ds ∧ (s.e = false → s.ds = [])
/-- u is what was read -/
def TxR (s : Rd1) (u : List Nat) : Prop := (s.e = true → u = preL s.cs ++ s.ds) ∧ (s.e = false → u ++ [32] = preL s.cs)
theorem all_snoc {cs : List Cmd} {c : Cmd} (h : AllOk cs) (hc : c.ok) : AllOk (cs ++ [c]) := fun d hd => by
  rcases List.mem_append.mp hd with z | z
  · exact h d z
  · rw [List.mem_singleton.mp z]; exact hc
theorem num_snoc {cs : List Cmd} {c : Cmd} (h : ∀ c ∈ cs, numC c < 10 ^ 40) (hc : numC c < 10 ^ 40) : ∀ d ∈ cs ++ [c], numC d < 10 ^ 40 := fun d hd => by
  rcases List.mem_append.mp hd with z | z
  · exact h d z
  · rw [List.mem_singleton.mp z]; exact hc
theorem numC1_ok {c n : Nat} (hn : 1 ≤ n) : (numC1 c n).ok := by
  unfold numC1
  split
  · show (1 : Int) ≤ n; omega
  split
  · show (1 : Int) ≤ n; omega
  split <;> (show (1 : Int) ≤ n; omega)
theorem numC1_num {c n : Nat} : numC (numC1 c n) = (n : Int) := by
  unfold numC1
  split
  · rfl
  split
  · rfl
  split <;> rfl
theorem loneC_ok {c : Nat} : (loneC c).ok := by unfold loneC; split <;> trivial
theorem loneC_num {c : Nat} : numC (loneC c) = 0 := by unfold loneC; split <;> rfl
theorem lone_cw {c : Nat} (h : c ∈ [72, 69]) : cw (loneC c) = [c] := by
  simp only [List.mem_cons, List.not_mem_nil, or_false] at h
  rcases h with rfl | rfl <;> rfl
theorem num_cw {c n : Nat} (h : c ∈ [68, 85, 82, 76]) : cw (numC1 c n) = numL n ++ [c] := by
  simp only [List.mem_cons, List.not_mem_nil, or_false] at h
  rcases h with rfl | rfl | rfl | rfl <;> rfl
theorem stepR_good {s t : Rd1} {c : Nat} (g : GoodR s) (h : stepR s c = some t) : GoodR t := by
  obtain ⟨g1, g2, g3, g4⟩ := g
  unfold stepR at h
  by_cases c32 : c = 32
  · rw [if_pos c32] at h
    by_cases ee : s.e = true
    · rw [if_pos ee] at h; cases h
    · rw [if_neg ee] at h
      cases h
      exact ⟨g1, g2, g3, (fun z => nomatch z)⟩
  rw [if_neg c32] at h
  by_cases ee : s.e = false
  · rw [if_pos ee] at h; cases h
  rw [if_neg ee] at h
  by_cases cd : c ∈ digLst
  · rw [if_pos cd] at h
    by_cases bad : (s.ds ++ [c]).head? = some 48 ∨ 40 < (s.ds ++ [c]).length
    · rw [if_pos bad] at h; cases h
    · rw [if_neg bad] at h
      cases h
      refine ⟨g1, g2, ⟨fun d hd => ?_, fun z => bad (.inl z), (Nat.le_of_not_lt (not_or.mp bad).2)⟩, (fun z => nomatch z)⟩
      rcases List.mem_append.mp hd with z | z
      · exact g3.1 d z
      · rw [List.mem_singleton.mp z]; exact mem_dig.mp cd
  rw [if_neg cd] at h
  by_cases c2 : c ∈ [72, 69] ∧ s.ds = []
  · rw [if_pos c2] at h
    cases h
    exact ⟨all_snoc g1 loneC_ok, num_snoc g2 (by rw [loneC_num]; decide), g3, fun _ => c2.2⟩
  rw [if_neg c2] at h
  by_cases c4 : c ∈ [68, 85, 82, 76] ∧ s.ds ≠ []
  · rw [if_pos c4] at h
    cases h
    obtain ⟨n1, n2, n3⟩ := g3.num c4.2
    exact ⟨all_snoc g1 (numC1_ok n1), num_snoc g2 (by rw [numC1_num]; omega), ⟨(fun _ z => nomatch z), by simp, Nat.zero_le _⟩, fun _ => rfl⟩
  · rw [if_neg c4] at h; cases h
theorem stepR_tx {s t : Rd1} {c : Nat} {u : List Nat} (g : GoodR s) (x : TxR s u) (h : stepR s c = some t) : TxR t (u ++ [c]) := by
  obtain ⟨g1, g2, g3, g4⟩ := g
  unfold stepR at h
  by_cases c32 : c = 32
  · rw [if_pos c32] at h
    by_cases ee : s.e = true
    · rw [if_pos ee] at h; cases h
    · rw [if_neg ee] at h
      have ef : s.e = false := by simpa using ee
      cases h
      refine ⟨fun _ => ?_, (fun z => nomatch z)⟩
      show u ++ [c] = preL s.cs ++ s.ds
      rw [c32, x.2 ef, g4 ef, List.append_nil]
  rw [if_neg c32] at h
  by_cases ee : s.e = false
  · rw [if_pos ee] at h; cases h
  rw [if_neg ee] at h
  have et : s.e = true := by simpa using ee
  have hu := x.1 et
  by_cases cd : c ∈ digLst
  · rw [if_pos cd] at h
    by_cases bad : (s.ds ++ [c]).head? = some 48 ∨ 40 < (s.ds ++ [c]).length
    · rw [if_pos bad] at h; cases h
    · rw [if_neg bad] at h
      cases h
      refine ⟨fun _ => ?_, (fun z => nomatch z)⟩
      show u ++ [c] = preL s.cs ++ (s.ds ++ [c])
      rw [hu, List.append_assoc]
  rw [if_neg cd] at h
  by_cases c2 : c ∈ [72, 69] ∧ s.ds = []
  · rw [if_pos c2] at h
    cases h
    refine ⟨(fun z => nomatch z), fun _ => ?_⟩
    show u ++ [c] ++ [32] = preL (s.cs ++ [loneC c])
    rw [preL_app, hu, c2.2, List.append_nil]
    show preL s.cs ++ [c] ++ [32] = preL s.cs ++ (cw (loneC c) ++ [32] ++ [])
    rw [lone_cw c2.1]
    simp
  rw [if_neg c2] at h
  by_cases c4 : c ∈ [68, 85, 82, 76] ∧ s.ds ≠ []
  · rw [if_pos c4] at h
    cases h
    obtain ⟨n1, n2, n3⟩ := g3.num c4.2
    refine ⟨(fun z => nomatch z), fun _ => ?_⟩
    show u ++ [c] ++ [32] = preL (s.cs ++ [numC1 c (valD s.ds)])
    rw [preL_app, hu]
    show preL s.cs ++ s.ds ++ [c] ++ [32] = preL s.cs ++ (cw (numC1 c (valD s.ds)) ++ [32] ++ [])
    rw [num_cw c4.1, n2]
    simp [List.append_assoc]
  · rw [if_neg c4] at h; cases h
theorem foldR_both : ∀ (l : List Nat) {s t : Rd1} {u : List Nat}, GoodR s → TxR s u → foldR s l = some t → GoodR t ∧ TxR t (u ++ l)
  | [], s, t, u, g, x, h => by
    cases h
    rw [List.append_nil]
    exact ⟨g, x⟩
  | c :: l, s, t, u, g, x, h => by
    have h' : (stepR s c).bind (fun t => foldR t l) = some t := h
    cases e : stepR s c with
    | none => rw [e] at h'; cases h'
    | some s' =>
      rw [e] at h'
      have q := foldR_both l (stepR_good g e) (stepR_tx g x e) h'
      rw [List.append_assoc] at q
      exact q
theorem good0 : GoodR st0 := ⟨(fun _ h => nomatch h), (fun _ h => nomatch h), ⟨(fun _ h => nomatch h), by simp [st0], Nat.zero_le _⟩, fun _ => rfl⟩
theorem tx0 : TxR st0 [] := ⟨fun _ => rfl, (fun z => nomatch z)⟩
/-- what is read of t and a space behind it: the commands, whose text is t -/
theorem read_sound {t : List Nat} {s : Rd1} (h : foldR st0 (t ++ [32]) = some s) : s.cs ≠ [] ∧ AllOk s.cs ∧ (∀ c ∈ s.cs, numC c < 10 ^ 40) ∧ t = joinL [32] (s.cs.map cw) := by
  rw [foldR_app] at h
  cases e : foldR st0 t with
  | none => rw [e] at h; cases h
  | some r =>
    rw [e] at h
    have h' : (stepR r 32).bind (fun t => some t) = some s := h
    obtain ⟨g, x⟩ := foldR_both t good0 tx0 e
    rw [List.nil_append] at x
    unfold stepR at h'
    rw [if_pos rfl] at h'
    by_cases ee : r.e = true
    · rw [if_pos ee] at h'; cases h'
    · rw [if_neg ee] at h'
      cases h'
      have ef : r.e = false := by simpa using ee
      have z := x.2 ef
      have ne : r.cs ≠ [] := fun q => by
        rw [q] at z
        simp [preL] at z
      refine ⟨ne, g.1, g.2.1, ?_⟩
      rw [preL_join ne] at z
      exact List.append_cancel_right z
theorem fold_digits {cs : List Cmd} : ∀ (l ds : List Nat), DsOk (ds ++ l) → foldR ⟨cs, ds, true⟩ l = some ⟨cs, ds ++ l, true⟩
  | [], ds, _ => by rw [List.append_nil]; rfl
  | c :: l, ds, h => by
    have e : ds ++ c :: l = (ds ++ [c]) ++ l := by simp
    rw [e] at h
    have c1 := h.1 c (by simp)
    have hd : (ds ++ [c]).head? ≠ some 48 := fun z => h.2.1 (by
      cases q : ds ++ [c] with
      | nil => simp at q
      | cons a r => rw [q] at z; exact z)
    have ln : (ds ++ [c]).length ≤ 40 := by
      have := h.2.2
      rw [List.length_append] at this
      omega
    have st : stepR ⟨cs, ds, true⟩ c = some ⟨cs, ds ++ [c], true⟩ := by
      unfold stepR
      rw [if_neg (by omega), if_neg (by simp), if_pos (mem_dig.mpr c1), if_neg (fun z => z.elim hd fun y => absurd ln (Nat.not_le_of_lt y))]
    show (stepR ⟨cs, ds, true⟩ c).bind (fun t => foldR t l) = _
    rw [st, e]
    exact fold_digits l (ds ++ [c]) h
theorem dsOk_num {n : Nat} (h1 : 1 ≤ n) (h2 : n < 10 ^ 40) : DsOk (numL n) := by
  refine ⟨fun d hd => ?_, ?_, numL_len (by decide) h2⟩
  · have := numL_digits n d hd
    omega
  · obtain ⟨a, l, e, a1, a2⟩ := numL_head h1
    rw [e]
    show some a ≠ some 48
    intro z
    have := Option.some.inj z
    omega
theorem fold_word {cs : List Cmd} {c : Cmd} (ok : c.ok) (hn : numC c < 10 ^ 40) : foldR ⟨cs, [], true⟩ (cw c) = some ⟨cs ++ [c], [], false⟩ := by
  have key : ∀ (n : Int) (x : Nat), 1 ≤ n → n < 10 ^ 40 → x ∈ [68, 85, 82, 76] → foldR ⟨cs, [], true⟩ (numL n.toNat ++ [x]) = some ⟨cs ++ [numC1 x n.toNat], [], false⟩ := fun n x n1 n2 hx => by
    have hd := dsOk_num (n := n.toNat) (by omega) (by omega)
    have fd := fold_digits (cs := cs) (numL n.toNat) [] (by rw [List.nil_append]; exact hd)
    rw [List.nil_append] at fd
    rw [foldR_app, fd]
    show (stepR ⟨cs, numL n.toNat, true⟩ x).bind (fun t => some t) = _
    obtain ⟨a, l, e, _, _⟩ := numL_head (n := n.toNat) (by omega)
    have hx' := hx
    simp only [List.mem_cons, List.not_mem_nil, or_false] at hx'
    have st : stepR ⟨cs, numL n.toNat, true⟩ x = some ⟨cs ++ [numC1 x n.toNat], [], false⟩ := by
      unfold stepR
      rw [if_neg (by omega), if_neg (by simp), if_neg (fun z => by have := mem_dig.mp z; omega), if_neg (fun z => by rw [e] at z; cases z.2), if_pos ⟨hx, by rw [e]; simp⟩]
      show some (Rd1.mk (cs ++ [numC1 x (valD (numL n.toNat))]) [] false) = _
      rw [valD_num]
    rw [st]
    rfl
  cases c with
  | down n =>
    have n1 : 1 ≤ n := ok
    have q := key n 68 n1 hn (by simp)
    rw [show numC1 68 n.toNat = .down (n.toNat : Int) from rfl, Int.toNat_of_nonneg (by omega)] at q
    exact q
  | up n =>
    have n1 : 1 ≤ n := ok
    have q := key n 85 n1 hn (by simp)
    rw [show numC1 85 n.toNat = .up (n.toNat : Int) from rfl, Int.toNat_of_nonneg (by omega)] at q
    exact q
  | right n =>
    have n1 : 1 ≤ n := ok
    have q := key n 82 n1 hn (by simp)
    rw [show numC1 82 n.toNat = .right (n.toNat : Int) from rfl, Int.toNat_of_nonneg (by omega)] at q
    exact q
  | left n =>
    have n1 : 1 ≤ n := ok
    have q := key n 76 n1 hn (by simp)
    rw [show numC1 76 n.toNat = .left (n.toNat : Int) from rfl, Int.toNat_of_nonneg (by omega)] at q
    exact q
  | home => rfl
  | stop => rfl
theorem fold_pre : ∀ {ds : List Cmd} (cs : List Cmd), AllOk ds → (∀ c ∈ ds, numC c < 10 ^ 40) → foldR ⟨cs, [], true⟩ (preL ds) = some ⟨cs ++ ds, [], true⟩
  | [], cs, _, _ => by rw [List.append_nil]; rfl
  | d :: ds, cs, h1, h2 => by
    show foldR ⟨cs, [], true⟩ (cw d ++ [32] ++ preL ds) = _
    rw [List.append_assoc, foldR_app, fold_word (h1 d List.mem_cons_self) (h2 d List.mem_cons_self)]
    show foldR ⟨cs ++ [d], [], false⟩ ([32] ++ preL ds) = _
    rw [foldR_app]
    show foldR ⟨cs ++ [d], [], true⟩ (preL ds) = _
    rw [fold_pre (cs ++ [d]) (fun c hc => h1 c (List.mem_cons_of_mem _ hc)) (fun c hc => h2 c (List.mem_cons_of_mem _ hc))]
    simp
/-- every list of commands is read from its text -/
theorem read_full {cs : List Cmd} (ne : cs ≠ []) (h1 : AllOk cs) (h2 : ∀ c ∈ cs, numC c < 10 ^ 40) : foldR st0 (joinL [32] (cs.map cw) ++ [32]) = some ⟨cs, [], true⟩ := by
  rw [← preL_join ne]
  exact fold_pre [] h1 h2
end Gc

/-! an error that is let out -/
namespace Gc
open PySem L2
/-- an error of the class at C that carries v is let out: its dict is new, all else is as it was -/
def Err (E : XK) (C : Addr) (v : V) (H : Hp) : Prop := ∀ (H' : Hp) (d : Addr), Same H H' → H' d = none → E (.ref C) (some d) (upd H' d (.xd [("value", v)]))
theorem Err.same {E : XK} {C : Addr} {v : V} {H H' : Hp} (e : Same H H') (h : Err E C v H) : Err E C v H' := fun H2 d s n => h H2 d (e.trans s) n
theorem Err.ask {E : XK} {C : Addr} {v : V} {H H' : Hp} (e : Same H H') (h : Err E C v H) : rRaise C E v H' := ask_raise fun d hd => h H' d e hd
end Gc

/-! texts read back, where they can be -/
namespace Gc
open PySem L2 TL
abbrev s_read_commands : Stmt := top 13
abbrev s_read_command : Stmt := top 14
abbrev s_is_number : Stmt := top 15
structure TxtRd (K : PySem.W.Frag) (w : World) (mg : Str → Option Value) (na nb : Addr) (eA eB : Array DictEntry) (nA nB : Nat) (tm : Tok) : Prop where
  g_NAMES_ALONE : mg "NAMES_ALONE" = some (.ref na)
  g_NAMES_BEHIND_NUMBER : mg "NAMES_BEHIND_NUMBER" = some (.ref nb)
  g_MOST_DIGITS : mg "MOST_DIGITS" = some (.int 40 tm)
  dA : KDict K w na eA nA
  dB : KDict K w nb eB nB
  aH : ∃ t, PySem.W.nsIn K na "H" = some (some (.str "home" t))
  aE : ∃ t, PySem.W.nsIn K na "E" = some (some (.str "end" t))
  aNo : ∀ x : Str, x ≠ "H" → x ≠ "E" → PySem.W.nsIn K na x = some none
  bD : ∃ t, PySem.W.nsIn K nb "D" = some (some (.str "down" t))
  bU : ∃ t, PySem.W.nsIn K nb "U" = some (some (.str "up" t))
  bR : ∃ t, PySem.W.nsIn K nb "R" = some (some (.str "right" t))
  bL : ∃ t, PySem.W.nsIn K nb "L" = some (some (.str "left" t))
  int : mg "int" = none
  len : mg "len" = none
  all : mg "all" = none
def aloneL (t1 t2 u1 u2 : Tok) : List (Str × Tok × Str × Tok) := [("H", t1, "home", u1), ("E", t2, "end", u2)]
def behindL (t1 t2 t3 t4 u1 u2 u3 u4 : Tok) : List (Str × Tok × Str × Tok) := [("D", t1, "down", u1), ("U", t2, "up", u2), ("R", t3, "right", u3), ("L", t4, "left", u4)]
theorem rd_mk {K : PySem.W.Frag} {w : World} {mg : Str → Option Value} {na nb : Addr} {nA nB : Nat} {tm t1 t2 u1 u2 s1 s2 s3 s4 r1 r2 r3 r4 : Tok} (g1 : mg "NAMES_ALONE" = some (.ref na)) (g2 : mg "NAMES_BEHIND_NUMBER" = some (.ref nb)) (g3 : mg "MOST_DIGITS" = some (.int 40 tm))
    (lA : K.lookup na = some ⟨.type "dict", none, .dict #[⟨PyData.keyHash w.params "H", .str "H" t1, .str "home" u1⟩, ⟨PyData.keyHash w.params "E", .str "E" t2, .str "end" u2⟩] nA, #[]⟩)
    (lB : K.lookup nb = some ⟨.type "dict", none, .dict #[⟨PyData.keyHash w.params "D", .str "D" s1, .str "down" r1⟩, ⟨PyData.keyHash w.params "U", .str "U" s2, .str "up" r2⟩, ⟨PyData.keyHash w.params "R", .str "R" s3, .str "right" r3⟩, ⟨PyData.keyHash w.params "L", .str "L" s4, .str "left" r4⟩] nB, #[]⟩)
    (oA : (na == sysModules) = false) (oB : (nb == sysModules) = false) (z1 : mg "int" = none) (z2 : mg "len" = none) (z3 : mg "all" = none) :
    TxtRd K w mg na nb ((aloneL t1 t2 u1 u2).map (entD w.params)).toArray ((behindL s1 s2 s3 s4 r1 r2 r3 r4).map (entD w.params)).toArray nA nB tm := by
  have hA : K.lookup na = some ⟨.type "dict", none, .dict ((aloneL t1 t2 u1 u2).map (entD w.params)).toArray nA, #[]⟩ := lA
  have hB : K.lookup nb = some ⟨.type "dict", none, .dict ((behindL s1 s2 s3 s4 r1 r2 r3 r4).map (entD w.params)).toArray nB, #[]⟩ := lB
  refine ⟨g1, g2, g3, kd_ent hA oA, kd_ent hB oB, ⟨u1, ?_⟩, ⟨u2, ?_⟩, fun x n1 n2 => ?_, ⟨r1, ?_⟩, ⟨r2, ?_⟩, ⟨r3, ?_⟩, ⟨r4, ?_⟩, z1, z2, z3⟩
  · rw [ns_ent hA]
    unfold aloneL
    rw [List.find?_cons, show decide (("H" : Str) = "H") = true by decide +kernel]
    rfl
  · rw [ns_ent hA]
    unfold aloneL
    rw [List.find?_cons, show decide (("H" : Str) = "E") = false by decide +kernel]
    dsimp only
    rw [List.find?_cons, show decide (("E" : Str) = "E") = true by decide +kernel]
    rfl
  · rw [ns_ent hA]
    unfold aloneL
    rw [List.find?_cons, show decide (("H" : Str) = x) = false from decide_eq_false (Ne.symm n1)]
    dsimp only
    rw [List.find?_cons, show decide (("E" : Str) = x) = false from decide_eq_false (Ne.symm n2)]
    rfl
  · rw [ns_ent hB]
    unfold behindL
    rw [List.find?_cons, show decide (("D" : Str) = "D") = true by decide +kernel]
    rfl
  · rw [ns_ent hB]
    unfold behindL
    rw [List.find?_cons, show decide (("D" : Str) = "U") = false by decide +kernel]
    dsimp only
    rw [List.find?_cons, show decide (("U" : Str) = "U") = true by decide +kernel]
    rfl
  · rw [ns_ent hB]
    unfold behindL
    rw [List.find?_cons, show decide (("D" : Str) = "R") = false by decide +kernel]
    dsimp only
    rw [List.find?_cons, show decide (("U" : Str) = "R") = false by decide +kernel]
    dsimp only
    rw [List.find?_cons, show decide (("R" : Str) = "R") = true by decide +kernel]
    rfl
  · rw [ns_ent hB]
    unfold behindL
    rw [List.find?_cons, show decide (("D" : Str) = "L") = false by decide +kernel]
    dsimp only
    rw [List.find?_cons, show decide (("U" : Str) = "L") = false by decide +kernel]
    dsimp only
    rw [List.find?_cons, show decide (("R" : Str) = "L") = false by decide +kernel]
    dsimp only
    rw [List.find?_cons, show decide (("L" : Str) = "L") = true by decide +kernel]
    rfl
def spIsNum (K : PySem.W.Frag) : Sp := fun vs H Q _ => ∃ n : Nat, vs = [.str (mkS (numL n))] ∧ 1 ≤ n ∧ n < 10 ^ 40 ∧ ∀ H', Same H H' → Q (.bl true) H'
def spRead1 (K : PySem.W.Frag) : Sp := fun vs H Q _ => ∃ c : Cmd, vs = [.str (mkS (cw c))] ∧ c.ok ∧ numC c < 10 ^ 40 ∧ ∀ (H' : Hp) (p : Addr), Same H H' → H p = none → H' p = some (.tup (encC c)) → Q (.ref p) H'
def spRead (K : PySem.W.Frag) : Sp := fun vs H Q _ => ∃ cs : List Cmd, vs = [.str (shownS cs)] ∧ AllOk cs ∧ (∀ c ∈ cs, numC c < 10 ^ 40) ∧ cs.length ≤ 1000 ∧
  ∀ (H' : Hp) (p : Addr) (xs : List V), Same H H' → H p = none → H' p = some (.lst xs) → CmdsOf K H' xs cs → Q (.ref p) H'
section
variable {P : Program} {w : World} {K : PySem.W.Frag} {mg : Str → Option Value} {base : Heap} {na nb : Addr} {eA eB : Array DictEntry} {nA nB : Nat} {tm : Tok}
theorem sc_is_number : FnScope ["digits", "digit"] ["digits"] (defScope s_is_number) := ⟨rfl, rfl, rfl, by decide +kernel, rfl, by decide +kernel, by decide +kernel⟩
theorem ok_is_number {f : Addr} {fd : FuncData} (F : Fun K "is_number" "is_number" s_is_number f fd) (T : TxtRd K w mg na nb eA eB nA nB tm) : FnOk P w K mg base CX0 1 f fd ["digits"] (spIsNum K) := by
  refine F.ok sc_is_number (fun vs H Q E h => ?_) (fun cdv A outer s H vs Q E hr h => ?_)
  · obtain ⟨n, rfl, _⟩ := h
    rfl
  · obtain ⟨n, rfl, n1, n2, k⟩ := h
    refine ⟨_, (pss_cons (ps_if (PW.pt (pw_or (pt_not (pt_chain op_le op_le pe_int (pe_callB call_len_str (by rfl) T.len (by decide +kernel) (pa_cons (pv 0) pa_nil)) (pe_glob (v := .int 40) (by rfl) T.g_MOST_DIGITS ⟨_, rfl⟩))) (pw_or1 (pt_cmpR op_eq (pe_ix ix_str (pv 0) pe_int (fun _ _ => rfl)) pe_str (nomark _))))) (pss_one (ps_ret pe_bl)) pss_nil)
      (pss_one (ps_ret (pe_callB (cr_all rfl) (by rfl) T.all (by decide +kernel) (pa_cons (pe_lc (own := [("digit", 1)]) rfl sc_is_number.nd (pi_str (pv 0)) (blkOk_by (N := ["digits", "digit"]) (sc := defScope s_is_number) (by decide +kernel)) (fun _ _ _ _ _ => (pg_name (i := 1) sc_is_number.nd rfl (Or.inl rfl))) (fun _ _ _ _ _ => pts_nil) (fun _ _ _ _ _ => (pe_cmpR op_in_sign (pv 1) pe_str (by rfl)))) pa_nil))))), ?_⟩
    obtain ⟨a, l, e, a1, a2⟩ := numL_head n1
    have dg := numL_digits n
    have ln := numL_len (n := n) (k := 40) (by decide) n2
    have ll : (mkS (numL n)).length ≤ sizeLine := by
      rw [mkS_len, sizeLine_eq]
      omega
    have l1 : 1 ≤ (numL n).length := by rw [e]; simp
    refine ⟨_, rfl, _, rfl, ll, _, _, rfl, rfl, _, rfl, ?_⟩
    rw [if_pos (decide_eq_true (show (1 : Int) ≤ ((mkS (numL n)).length : Int) by rw [mkS_len]; omega))]
    refine ⟨_, _, rfl, rfl, _, rfl, ?_⟩
    rw [decide_eq_true (show ((mkS (numL n)).length : Int) ≤ 40 by rw [mkS_len]; omega)]
    refine iteF ?_
    have at0 : atI (mkS (numL n)).cps.toList 0 = some a := by
      show atI (numL n) ((0 : Nat) : Int) = some a
      rw [e]
      exact atI_nat rfl
    refine ⟨_, rfl, _, _, a, rfl, rfl, ll, at0, rfl, false, ?_, iteF ?_⟩
    · rw [show ("0" : Str) = mkS [48] by decide +kernel]
      exact one_no (by omega)
    refine ⟨_, rfl, _, rfl, fun D hD => ?_⟩
    refine lc_it walk_str (fun i H' => Same H H' ∧ H' D = some (.lst ((List.replicate i true).map V.bl))) ⟨same_upd (Same.refl H) hD, upd_same⟩ (fun _ _ _ _ => trivial) (fun i x H2 H' hi p y => ?_) (fun H' h => ?_)
    · obtain ⟨rfl, c, hc, rfl⟩ := y
      obtain ⟨s1, eD⟩ := p
      have li : i < (numL n).length := hi
      have cd := dg c (List.mem_of_getElem? (show (numL n)[i]? = some c by rw [← hc]; exact (List.getElem?_toArray ..).symm))
      have cm : decide (c ∈ (("0123456789" : Str)).cps.toList) = true := by
        rw [show (("0123456789" : Str)).cps.toList = [48, 49, 50, 51, 52, 53, 54, 55, 56, 57] by decide +kernel]
        refine decide_eq_true ?_
        simp
        omega
      refine ⟨rfl, _, rfl, c, _, rfl, rfl, _, eD, ?_, same_freeU s1 hD, ?_⟩
      · refine lt_line ?_
        rw [List.length_map, List.length_replicate]
        omega
      · rw [upd_same, cm, List.replicate_succ', List.map_append]
        rfl
    · obtain ⟨s1, eD⟩ := h
      refine ⟨D, List.replicate _ true, rfl, SqL.of eD, ?_⟩
      rw [show ∀ m, (List.replicate m true).all id = true from fun m => by simp]
      exact k _ s1
theorem sc_read_command : FnScope ["word", "digits", "letter"] ["word"] (defScope s_read_command) := ⟨rfl, rfl, rfl, by decide +kernel, rfl, by decide +kernel, by decide +kernel⟩
theorem ok_read_command {f : Addr} {fd : FuncData} (F : Fun K "read_command" "read_command" s_read_command f fd) (T : TxtRd K w mg na nb eA eB nA nB tm) (c_is_number : Cal P w K mg base 1 "is_number" (spIsNum K)) : FnOk P w K mg base CX0 2 f fd ["word"] (spRead1 K) := by
  refine F.ok sc_read_command (fun vs H Q E h => ?_) (fun cdv A outer s H vs Q E hr h => ?_)
  · obtain ⟨n, rfl, _⟩ := h
    rfl
  · obtain ⟨c, rfl, ok, hn, k⟩ := h
    refine ⟨_, (pss_cons (ps_if (pt_cmpR (op_in_kd T.dA) (pv 0) (pe_glob (v := .ref na) (by rfl) T.g_NAMES_ALONE rfl) (by rfl)) (pss_one (ps_ret (pe_tup (pa_cons (pe_ix ix_kdict (pe_glob (v := .ref na) (by rfl) T.g_NAMES_ALONE rfl) (pv 0) (fun _ _ => rfl)) pa_nil)))) pss_nil)
      (pss_cons (ps_par (i := 1) (j := 2) rfl sc_read_command.nd rfl rfl (by decide) rfl rfl (pa_cons (pe_slice sl_str (pv 0) po_none (po_some (pe_un un_neg pe_int))) (pa_cons (pe_slice sl_str (pv 0) (po_some (pe_un un_neg pe_int)) po_none) pa_nil)) (by rfl))
      (pss_cons (ps_if (PW.pt (pw_and (pt_cmpR (op_in_kd T.dB) (pv 2) (pe_glob (v := .ref nb) (by rfl) T.g_NAMES_BEHIND_NUMBER rfl) (by rfl)) (pw_and1 (pt_val (pe_cal c_is_number hr (by decide) (by rfl) (pa_cons (pv 1) pa_nil)))))) (pss_one (ps_ret (pe_tup (pa_cons (pe_ix ix_kdict (pe_glob (v := .ref nb) (by rfl) T.g_NAMES_BEHIND_NUMBER rfl) (pv 2) (fun _ _ => rfl)) (pa_cons (pe_callTy call_int_str (by rfl) T.int (by decide +kernel) (pa_cons (pv 1) pa_nil)) pa_nil))))) pss_nil)
      (pss_one (ps_ret pe_non))))), ?_⟩
    have wl : (mkS (cw c)).length ≤ sizeLine := by
      have := cw_len hn
      rw [mkS_len, sizeLine_eq]
      omega
    have e72 : mkS [72] = ("H" : Str) := by decide +kernel
    have e69 : mkS [69] = ("E" : Str) := by decide +kernel
    cases c with
    | home =>
      obtain ⟨t, ht⟩ := T.aH
      have ew : mkS (cw .home) = ("H" : Str) := e72
      rw [ew]
      refine ⟨_, rfl, _, _, rfl, rfl, ht, _, rfl, iteT ?_⟩
      refine ⟨_, rfl, na, "H", .str "home", rfl, rfl, ⟨eA, nA, _, T.dA.at_, T.dA.lit, ht, ⟨t, rfl⟩⟩, (by show 1 ≤ sizeLine; decide), fun p np => k _ p (new_same np) np upd_same⟩
    | stop =>
      obtain ⟨t, ht⟩ := T.aE
      have ew : mkS (cw .stop) = ("E" : Str) := e69
      rw [ew]
      refine ⟨_, rfl, _, _, rfl, rfl, ht, _, rfl, iteT ?_⟩
      refine ⟨_, rfl, na, "E", .str "end", rfl, rfl, ⟨eA, nA, _, T.dA.at_, T.dA.lit, ht, ⟨t, rfl⟩⟩, (by show 1 ≤ sizeLine; decide), fun p np => k _ p (new_same np) np upd_same⟩
    | down n =>
      have n1 : 1 ≤ n := ok
      have n2 : n < 10 ^ 40 := hn
      obtain ⟨t, ht⟩ := T.bD
      have no := T.aNo (mkS (numL n.toNat ++ [68])) (by rw [← e72]; exact word_ne (by decide)) (by rw [← e69]; exact word_ne (by decide))
      refine ⟨_, rfl, _, _, rfl, rfl, no, _, rfl, iteF ?_⟩
      have el : mkS [68] = ("D" : Str) := by decide +kernel
      refine ⟨_, rfl, _, rfl, _, rfl, _, rfl, wl, ?_⟩
      rw [show mkS (cw (.down n)) = mkS (numL n.toNat ++ [68]) from rfl, cut_front]
      refine ⟨_, rfl, _, rfl, _, rfl, _, rfl, wl, ?_⟩
      rw [cut_back, el]
      refine ⟨_, _, rfl, ?_⟩
      refine ⟨_, rfl, _, _, rfl, rfl, ht, _, rfl, iteT ?_⟩
      refine ⟨_, rfl, n.toNat, rfl, by omega, by omega, fun H1 e1 => ⟨_, rfl, iteT ?_⟩⟩
      have l40 := numL_len (n := n.toNat) (k := 40) (by decide) (by omega)
      refine ⟨_, rfl, nb, "D", .str "down", rfl, rfl, ⟨eB, nB, _, T.dB.at_, T.dB.lit, ht, ⟨t, rfl⟩⟩, _, rfl, _, _, rfl, int_mk _ (by omega), (by rw [mkS_len]; omega), (by show 2 ≤ sizeLine; decide), fun p np => ?_⟩
      rw [show ((n.toNat : Nat) : Int) = n from Int.toNat_of_nonneg (by omega)]
      exact k _ p (e1.trans (new_same np)) (e1.free np) upd_same
    | up n =>
      have n1 : 1 ≤ n := ok
      have n2 : n < 10 ^ 40 := hn
      obtain ⟨t, ht⟩ := T.bU
      have no := T.aNo (mkS (numL n.toNat ++ [85])) (by rw [← e72]; exact word_ne (by decide)) (by rw [← e69]; exact word_ne (by decide))
      refine ⟨_, rfl, _, _, rfl, rfl, no, _, rfl, iteF ?_⟩
      have el : mkS [85] = ("U" : Str) := by decide +kernel
      refine ⟨_, rfl, _, rfl, _, rfl, _, rfl, wl, ?_⟩
      rw [show mkS (cw (.up n)) = mkS (numL n.toNat ++ [85]) from rfl, cut_front]
      refine ⟨_, rfl, _, rfl, _, rfl, _, rfl, wl, ?_⟩
      rw [cut_back, el]
      refine ⟨_, _, rfl, ?_⟩
      refine ⟨_, rfl, _, _, rfl, rfl, ht, _, rfl, iteT ?_⟩
      refine ⟨_, rfl, n.toNat, rfl, by omega, by omega, fun H1 e1 => ⟨_, rfl, iteT ?_⟩⟩
      have l40 := numL_len (n := n.toNat) (k := 40) (by decide) (by omega)
      refine ⟨_, rfl, nb, "U", .str "up", rfl, rfl, ⟨eB, nB, _, T.dB.at_, T.dB.lit, ht, ⟨t, rfl⟩⟩, _, rfl, _, _, rfl, int_mk _ (by omega), (by rw [mkS_len]; omega), (by show 2 ≤ sizeLine; decide), fun p np => ?_⟩
      rw [show ((n.toNat : Nat) : Int) = n from Int.toNat_of_nonneg (by omega)]
      exact k _ p (e1.trans (new_same np)) (e1.free np) upd_same
    | right n =>
      have n1 : 1 ≤ n := ok
      have n2 : n < 10 ^ 40 := hn
      obtain ⟨t, ht⟩ := T.bR
      have no := T.aNo (mkS (numL n.toNat ++ [82])) (by rw [← e72]; exact word_ne (by decide)) (by rw [← e69]; exact word_ne (by decide))
      refine ⟨_, rfl, _, _, rfl, rfl, no, _, rfl, iteF ?_⟩
      have el : mkS [82] = ("R" : Str) := by decide +kernel
      refine ⟨_, rfl, _, rfl, _, rfl, _, rfl, wl, ?_⟩
      rw [show mkS (cw (.right n)) = mkS (numL n.toNat ++ [82]) from rfl, cut_front]
      refine ⟨_, rfl, _, rfl, _, rfl, _, rfl, wl, ?_⟩
      rw [cut_back, el]
      refine ⟨_, _, rfl, ?_⟩
      refine ⟨_, rfl, _, _, rfl, rfl, ht, _, rfl, iteT ?_⟩
      refine ⟨_, rfl, n.toNat, rfl, by omega, by omega, fun H1 e1 => ⟨_, rfl, iteT ?_⟩⟩
      have l40 := numL_len (n := n.toNat) (k := 40) (by decide) (by omega)
      refine ⟨_, rfl, nb, "R", .str "right", rfl, rfl, ⟨eB, nB, _, T.dB.at_, T.dB.lit, ht, ⟨t, rfl⟩⟩, _, rfl, _, _, rfl, int_mk _ (by omega), (by rw [mkS_len]; omega), (by show 2 ≤ sizeLine; decide), fun p np => ?_⟩
      rw [show ((n.toNat : Nat) : Int) = n from Int.toNat_of_nonneg (by omega)]
      exact k _ p (e1.trans (new_same np)) (e1.free np) upd_same
    | left n =>
      have n1 : 1 ≤ n := ok
      have n2 : n < 10 ^ 40 := hn
      obtain ⟨t, ht⟩ := T.bL
      have no := T.aNo (mkS (numL n.toNat ++ [76])) (by rw [← e72]; exact word_ne (by decide)) (by rw [← e69]; exact word_ne (by decide))
      refine ⟨_, rfl, _, _, rfl, rfl, no, _, rfl, iteF ?_⟩
      have el : mkS [76] = ("L" : Str) := by decide +kernel
      refine ⟨_, rfl, _, rfl, _, rfl, _, rfl, wl, ?_⟩
      rw [show mkS (cw (.left n)) = mkS (numL n.toNat ++ [76]) from rfl, cut_front]
      refine ⟨_, rfl, _, rfl, _, rfl, _, rfl, wl, ?_⟩
      rw [cut_back, el]
      refine ⟨_, _, rfl, ?_⟩
      refine ⟨_, rfl, _, _, rfl, rfl, ht, _, rfl, iteT ?_⟩
      refine ⟨_, rfl, n.toNat, rfl, by omega, by omega, fun H1 e1 => ⟨_, rfl, iteT ?_⟩⟩
      have l40 := numL_len (n := n.toNat) (k := 40) (by decide) (by omega)
      refine ⟨_, rfl, nb, "L", .str "left", rfl, rfl, ⟨eB, nB, _, T.dB.at_, T.dB.lit, ht, ⟨t, rfl⟩⟩, _, rfl, _, _, rfl, int_mk _ (by omega), (by rw [mkS_len]; omega), (by show 2 ≤ sizeLine; decide), fun p np => ?_⟩
      rw [show ((n.toNat : Nat) : Int) = n from Int.toNat_of_nonneg (by omega)]
      exact k _ p (e1.trans (new_same np)) (e1.free np) upd_same
theorem sc_read_commands : FnScope ["text", "commands", "word", "command"] ["text"] (defScope s_read_commands) := ⟨rfl, rfl, rfl, by decide +kernel, rfl, by decide +kernel, by decide +kernel⟩
theorem ok_read_commands {f : Addr} {fd : FuncData} (F : Fun K "read_commands" "read_commands" s_read_commands f fd) (c_read_command : Cal P w K mg base 2 "read_command" (spRead1 K)) : FnOk P w K mg base CX0 3 f fd ["text"] (spRead K) := by
  refine F.ok sc_read_commands (fun vs H Q E h => ?_) (fun cdv A outer s H vs Q E hr h => ?_)
  · obtain ⟨n, rfl, _⟩ := h
    rfl
  · obtain ⟨cs, rfl, ok, hn, ln, k⟩ := h
    refine ⟨_, (pss_cons (ps_if (pt_cmpR op_eq (pv 0) pe_str (nomark _)) (pss_one (ps_ret (pe_lst pa_nil))) pss_nil)
      (pss_cons (ps_set (i := 1) sc_read_commands.nd rfl (Or.inl rfl) (pe_lst pa_nil))
      (pss_cons (ps_for PassesOwn.never rfl (pi_list (pe_bm PySem.F.plainAttrs_str PySem.F.slot_str_split PySem.F.type_str_split mt_split (pv 0) (pa_cons pe_str pa_nil))) (pg_name (i := 2) sc_read_commands.nd rfl (Or.inl rfl)) (pss_cons (ps_set (i := 3) sc_read_commands.nd rfl (Or.inl rfl) (pe_cal c_read_command hr (by decide) (by rfl) (pa_cons (pv 2) pa_nil)))
      (pss_cons (ps_if (pt_cmpR op_isN (pv 3) pe_non (nomark _)) (pss_one ps_never) pss_nil)
      (pss_one (ps_expr (pe_bm PySem.F.plainAttrs_list PySem.F.slot_list_append PySem.F.type_list_append mt_append (pv 1) (pa_cons (pv 3) pa_nil)))))))
      (pss_one (ps_ret (pv 1)))))), ?_⟩
    have wl : (shownS cs).length + 2 ≤ sizeLine := by
      have := shownL_len hn
      unfold shownS
      rw [mkS_len, sizeLine_eq]
      omega
    have hk : ¬ Builtin.Str.strKind (shownS cs) < Builtin.Str.strKind " " := by
      rw [show Builtin.Str.strKind " " = 1 by decide +kernel]
      unfold Builtin.Str.strKind
      split
      · omega
      · split <;> omega
    by_cases ce : cs = []
    · subst ce
      refine ⟨_, rfl, rfl, true, ?_, iteT ?_⟩
      · rw [show shownS [] = ("none" : Str) by decide +kernel]
        simp
      · exact ⟨Nat.zero_le _, fun l nl => k _ l [] (new_same nl) nl upd_same .nil⟩
    · have no : shownS cs ≠ ("none" : Str) := by
        rw [show ("none" : Str) = mkS noneL by decide +kernel]
        intro z
        have q := mkS_inj z
        unfold shownL at q
        rw [if_neg ce] at q
        exact none_no ce q
      refine ⟨_, rfl, rfl, false, by simp [no], iteF ?_⟩
      refine ⟨Nat.zero_le _, fun l nl => ?_⟩
      have e1 : Same H (upd H l (.lst [])) := new_same nl
      refine ⟨_, rfl, rfl, _, _, rfl, rfl, by decide +kernel, wl, fun p np => ?_⟩
      rw [split_shown ce hk]
      have pl : p ≠ l := fun z => by rw [z, upd_same] at np; cases np
      have e2 : Same H (upd (upd H l (.lst [])) p (.lst ((cs.map fun c => mkS (cw c)).map V.str))) := e1.trans (new_same np)
      refine ⟨p, rfl, ⟨_, SqL.of upd_same⟩, for_list (K := K) (a := p) (xs := (cs.map fun c => mkS (cw c)).map V.str) (fun i σ H' => ∃ (v2 v3 : Option V) (ys : List V), σ = [some (.str (shownS cs)), some (.ref l), v2, v3] ∧ Same H H' ∧ H' p = some (.lst ((cs.map fun c => mkS (cw c)).map V.str)) ∧ H' l = some (.lst ys) ∧ CmdsOf K H' ys (cs.take i))
        ⟨none, none, [], rfl, e2, upd_same, new_same np _ _ upd_same, .nil⟩ (fun i σ H' hi h => ?_) (fun i x σ H' hx h => ?_) (fun σ H' h => ?_)⟩
      · obtain ⟨_, _, _, _, _, q, _⟩ := h
        exact SqL.of q
      · obtain ⟨v2, v3, ys, rfl, s1, hp, hl, hys⟩ := h
        rw [List.getElem?_map, List.getElem?_map] at hx
        cases hc : cs[i]? with
        | none =>
          rw [hc] at hx
          cases hx
        | some c =>
          rw [hc] at hx
          obtain rfl := Option.some.inj hx
          have cm := List.mem_of_getElem? hc
          have li := (List.getElem?_eq_some_iff.mp hc).1
          have yl := hys.len
          rw [List.length_take] at yl
          refine ⟨_, rfl, c, rfl, ok c cm, hn c cm, fun H2 t e3 nt ht => ?_⟩
          refine ⟨_, rfl, rfl, false, by simp, iteF ?_⟩
          refine ⟨_, rfl, .inl ⟨rfl, _, SqL.of (e3 _ _ hl)⟩, _, rfl, l, ys, .ref t, rfl, rfl, e3 _ _ hl, lt_line (by omega), ?_⟩
          refine ⟨_, _, _, rfl, same_freeU (s1.trans e3) nl, ?_, upd_same, ?_⟩
          · rw [upd_ne pl]
            exact e3 _ _ hp
          · rw [takeS hc]
            exact paired_app (CmdsOf.atL (e3 _ _ hl) (hys.same e3)) (CmdsOf.atL (e3 _ _ hl) (xs := [.ref t]) (cs := [c]) (.cons ⟨t, rfl, SqT.of ht⟩ .nil))
      · obtain ⟨v2, v3, ys, rfl, s1, hp, hl, hys⟩ := h
        rw [List.length_map, List.length_map, List.take_length] at hys
        exact ⟨_, rfl, k H' l ys s1 nl hl hys⟩
end
end Gc

/-! is_number of any text -/
namespace Gc
open PySem L2 TL
theorem rd_no {K : PySem.W.Frag} {w : World} {nb : Addr} {nB : Nat} {s1 s2 s3 s4 r1 r2 r3 r4 : Tok}
    (lB : K.lookup nb = some ⟨.type "dict", none, .dict #[⟨PyData.keyHash w.params "D", .str "D" s1, .str "down" r1⟩, ⟨PyData.keyHash w.params "U", .str "U" s2, .str "up" r2⟩, ⟨PyData.keyHash w.params "R", .str "R" s3, .str "right" r3⟩, ⟨PyData.keyHash w.params "L", .str "L" s4, .str "left" r4⟩] nB, #[]⟩) :
    ∀ x : Str, x ≠ "D" → x ≠ "U" → x ≠ "R" → x ≠ "L" → PySem.W.nsIn K nb x = some none := fun x n1 n2 n3 n4 => by
  have hB : K.lookup nb = some ⟨.type "dict", none, .dict ((behindL s1 s2 s3 s4 r1 r2 r3 r4).map (entD w.params)).toArray nB, #[]⟩ := lB
  rw [ns_ent hB]
  unfold behindL
  rw [List.find?_cons, show decide (("D" : Str) = x) = false from decide_eq_false (Ne.symm n1)]
  dsimp only
  rw [List.find?_cons, show decide (("U" : Str) = x) = false from decide_eq_false (Ne.symm n2)]
  dsimp only
  rw [List.find?_cons, show decide (("R" : Str) = x) = false from decide_eq_false (Ne.symm n3)]
  dsimp only
  rw [List.find?_cons, show decide (("L" : Str) = x) = false from decide_eq_false (Ne.symm n4)]
  rfl
def digB (c : Nat) : Bool := decide (c ∈ [48, 49, 50, 51, 52, 53, 54, 55, 56, 57])
/-- an integer of at least 1, with at most 40 digits, as it is written -/
def numB (ds : List Nat) : Bool := match ds with
  | [] => false
  | a :: l => decide ((a :: l).length ≤ 40) && (!decide (a = 48) && (a :: l).all digB)
theorem numB_of {ds : List Nat} (h : numB ds = true) : ∃ m, 1 ≤ m ∧ numL m = ds ∧ ds.length ≤ 40 := by
  cases ds with
  | nil => cases h
  | cons a l =>
    have h' : (decide ((a :: l).length ≤ 40) && (!decide (a = 48) && (a :: l).all digB)) = true := h
    simp only [Bool.and_eq_true, decide_eq_true_eq, Bool.not_eq_true', decide_eq_false_iff_not] at h'
    obtain ⟨h1, h2, h3⟩ := h'
    have hd : ∀ d ∈ a :: l, 48 ≤ d ∧ d ≤ 57 := fun d hd => by
      have z := List.all_eq_true.mp h3 d hd
      have z' := of_decide_eq_true z
      simp only [List.mem_cons, List.not_mem_nil, or_false] at z'
      omega
    obtain ⟨m, m1, m2⟩ := num_of l.length (a :: l) rfl hd (fun b r e => by cases e; exact h2)
    exact ⟨m, m1, m2, h1⟩
def spIsNumX : Sp := fun vs H Q _ => ∃ ds : List Nat, vs = [.str (mkS ds)] ∧ ds.length ≤ 100000 ∧ ∀ H', Same H H' → Q (.bl (numB ds)) H'
section
variable {P : Program} {w : World} {K : PySem.W.Frag} {mg : Str → Option Value} {base : Heap} {na nb : Addr} {eA eB : Array DictEntry} {nA nB : Nat} {tm : Tok}
theorem ok_is_numberX {f : Addr} {fd : FuncData} (F : Fun K "is_number" "is_number" s_is_number f fd) (T : TxtRd K w mg na nb eA eB nA nB tm) : FnOk P w K mg base CX0 1 f fd ["digits"] spIsNumX := by
  refine F.ok sc_is_number (fun vs H Q E h => ?_) (fun cdv A outer s H vs Q E hr h => ?_)
  · obtain ⟨n, rfl, _⟩ := h
    rfl
  · obtain ⟨ds, rfl, ln, k⟩ := h
    refine ⟨_, (pss_cons (ps_if (PW.pt (pw_or (pt_not (pt_chain op_le op_le pe_int (pe_callB call_len_str (by rfl) T.len (by decide +kernel) (pa_cons (pv 0) pa_nil)) (pe_glob (v := .int 40) (by rfl) T.g_MOST_DIGITS ⟨_, rfl⟩))) (pw_or1 (pt_cmpR op_eq (pe_ix ix_str (pv 0) pe_int (fun _ _ => rfl)) pe_str (nomark _))))) (pss_one (ps_ret pe_bl)) pss_nil)
      (pss_one (ps_ret (pe_callB (cr_all rfl) (by rfl) T.all (by decide +kernel) (pa_cons (pe_lc (own := [("digit", 1)]) rfl sc_is_number.nd (pi_str (pv 0)) (blkOk_by (N := ["digits", "digit"]) (sc := defScope s_is_number) (by decide +kernel)) (fun _ _ _ _ _ => (pg_name (i := 1) sc_is_number.nd rfl (Or.inl rfl))) (fun _ _ _ _ _ => pts_nil) (fun _ _ _ _ _ => (pe_cmpR op_in_sign (pv 1) pe_str (by rfl)))) pa_nil))))), ?_⟩
    have ll : (mkS ds).length ≤ sizeLine := by
      rw [mkS_len, sizeLine_eq]
      omega
    refine ⟨_, rfl, _, rfl, ll, _, _, rfl, rfl, _, rfl, ?_⟩
    cases ds with
    | nil =>
      rw [if_neg (by decide)]
      exact ⟨_, rfl, iteT (k _ (Same.refl H))⟩
    | cons a l =>
      rw [if_pos (decide_eq_true (show (1 : Int) ≤ ((mkS (a :: l)).length : Int) by rw [mkS_len, List.length_cons]; omega))]
      refine ⟨_, _, rfl, rfl, _, rfl, ?_⟩
      by_cases l40 : (a :: l).length ≤ 40
      · rw [decide_eq_true (show ((mkS (a :: l)).length : Int) ≤ 40 by rw [mkS_len]; omega)]
        refine iteF ?_
        have at0 : atI (mkS (a :: l)).cps.toList 0 = some a := by
          show atI (a :: l) ((0 : Nat) : Int) = some a
          exact atI_nat rfl
        refine ⟨_, rfl, _, _, a, rfl, rfl, ll, at0, rfl, decide (a = 48), ?_, ?_⟩
        · rw [show ("0" : Str) = mkS [48] by decide +kernel]
          congr 1
          exact decide_eq_decide.mpr ⟨fun z => by
            have q := mkS_inj (l := [a]) (m := [48]) (V.str.inj z)
            exact (List.cons.inj q).1, fun z => by rw [z]; rfl⟩
        · by_cases a48 : a = 48
          · rw [decide_eq_true a48]
            have e : numB (a :: l) = false := by
              show (decide ((a :: l).length ≤ 40) && (!decide (a = 48) && _)) = false
              rw [decide_eq_true a48]
              simp
            rw [e] at k
            exact iteT (k _ (Same.refl H))
          · rw [decide_eq_false a48]
            have e : numB (a :: l) = (a :: l).all digB := by
              show (decide ((a :: l).length ≤ 40) && (!decide (a = 48) && _)) = _
              rw [decide_eq_true l40, decide_eq_false a48]
              rfl
            rw [e] at k
            refine iteF ?_
            generalize hds : a :: l = ds at *
            refine ⟨_, rfl, _, rfl, fun D hD => ?_⟩
            refine lc_it walk_str (fun i H' => Same H H' ∧ H' D = some (.lst (((ds.take i).map digB).map V.bl))) ⟨same_upd (Same.refl H) hD, upd_same⟩ (fun _ _ _ _ => trivial) (fun i x H2 H' hi p y => ?_) (fun H' h => ?_)
            · obtain ⟨rfl, c, hc, rfl⟩ := y
              obtain ⟨s1, eD⟩ := p
              have hc' : ds[i]? = some c := by rw [← hc]; exact (List.getElem?_toArray ..).symm
              have cm : decide (c ∈ (("0123456789" : Str)).cps.toList) = digB c := by
                rw [show (("0123456789" : Str)).cps.toList = [48, 49, 50, 51, 52, 53, 54, 55, 56, 57] by decide +kernel]
                rfl
              refine ⟨rfl, _, rfl, c, _, rfl, rfl, _, eD, ?_, same_freeU s1 hD, ?_⟩
              · refine lt_line ?_
                rw [List.length_map, List.length_map, List.length_take]
                omega
              · rw [upd_same, cm, takeS hc', List.map_append, List.map_append]
                rfl
            · obtain ⟨s1, eD⟩ := h
              have tk : ds.take (mkS ds).cps.size = ds := List.take_of_length_le (Nat.le_of_eq (by rfl))
              refine ⟨D, ds.map digB, rfl, SqL.of (by rw [eD, tk]), ?_⟩
              rw [List.all_map]
              exact k _ s1
      · rw [decide_eq_false (show ¬ ((mkS (a :: l)).length : Int) ≤ 40 by rw [mkS_len]; omega)]
        refine iteT ?_
        have e : numB (a :: l) = false := by
          show (decide ((a :: l).length ≤ 40) && _) = false
          rw [decide_eq_false l40, Bool.false_and]
        rw [e] at k
        exact k _ (Same.refl H)
def spRead1N (K : PySem.W.Frag) : Sp := fun vs H Q _ => ∃ ws : List Nat, vs = [.str (mkS ws)] ∧ ws.length ≤ 100000 ∧ (∀ c : Cmd, c.ok → numC c < 10 ^ 40 → ws ≠ cw c) ∧ ∀ H', Same H H' → Q .non H'
theorem num_lt {m : Nat} (h : (numL m).length ≤ 40) : m < 10 ^ 40 := by
  rcases Nat.lt_or_ge m (10 ^ 40) with z | z
  · exact z
  · exfalso
    have key : ∀ (k m : Nat), 10 ^ k ≤ m → k + 1 ≤ (numL m).length := fun k => by
      induction k with
      | zero =>
        intro m _
        rcases Nat.lt_or_ge m 10 with q | q
        · rw [numL_lt q]; exact Nat.le_refl _
        · rw [numL_step q, List.length_append]
          show 0 + 1 ≤ _ + 1
          omega
      | succ k ih =>
        intro m hm
        have p10 : 10 ^ (k + 1) = 10 ^ k * 10 := Nat.pow_succ ..
        have pos : 0 < 10 ^ k := Nat.pow_pos (by decide)
        rw [numL_step (by omega), List.length_append]
        have := ih (m / 10) (by omega)
        show k + 1 + 1 ≤ _ + 1
        omega
    have := key 40 m z
    omega
theorem ok_read_commandN {f : Addr} {fd : FuncData} (F : Fun K "read_command" "read_command" s_read_command f fd) (T : TxtRd K w mg na nb eA eB nA nB tm) (bNo : ∀ x : Str, x ≠ "D" → x ≠ "U" → x ≠ "R" → x ≠ "L" → PySem.W.nsIn K nb x = some none)
    (c_is_number : Cal P w K mg base 1 "is_number" spIsNumX) : FnOk P w K mg base CX0 2 f fd ["word"] (spRead1N K) := by
  refine F.ok sc_read_command (fun vs H Q E h => ?_) (fun cdv A outer s H vs Q E hr h => ?_)
  · obtain ⟨n, rfl, _⟩ := h
    rfl
  · obtain ⟨ws, rfl, ln, hno, k⟩ := h
    refine ⟨_, (pss_cons (ps_if (pt_cmpR (op_in_kd T.dA) (pv 0) (pe_glob (v := .ref na) (by rfl) T.g_NAMES_ALONE rfl) (by rfl)) (pss_one (ps_ret (pe_tup (pa_cons (pe_ix ix_kdict (pe_glob (v := .ref na) (by rfl) T.g_NAMES_ALONE rfl) (pv 0) (fun _ _ => rfl)) pa_nil)))) pss_nil)
      (pss_cons (ps_par (i := 1) (j := 2) rfl sc_read_command.nd rfl rfl (by decide) rfl rfl (pa_cons (pe_slice sl_str (pv 0) po_none (po_some (pe_un un_neg pe_int))) (pa_cons (pe_slice sl_str (pv 0) (po_some (pe_un un_neg pe_int)) po_none) pa_nil)) (by rfl))
      (pss_cons (ps_if (PW.pt (pw_and (pt_cmpR (op_in_kd T.dB) (pv 2) (pe_glob (v := .ref nb) (by rfl) T.g_NAMES_BEHIND_NUMBER rfl) (by rfl)) (pw_and1 (pt_val (pe_cal c_is_number hr (by decide) (by rfl) (pa_cons (pv 1) pa_nil)))))) (pss_one (ps_ret (pe_tup (pa_cons (pe_ix ix_kdict (pe_glob (v := .ref nb) (by rfl) T.g_NAMES_BEHIND_NUMBER rfl) (pv 2) (fun _ _ => rfl)) (pa_cons (pe_callTy call_int_str (by rfl) T.int (by decide +kernel) (pa_cons (pv 1) pa_nil)) pa_nil))))) pss_nil)
      (pss_one (ps_ret pe_non))))), ?_⟩
    have wl : (mkS ws).length ≤ sizeLine := by
      rw [mkS_len, sizeLine_eq]
      omega
    have e72 : mkS [72] = ("H" : Str) := by decide +kernel
    have e69 : mkS [69] = ("E" : Str) := by decide +kernel
    have no := T.aNo (mkS ws) (by rw [← e72]; exact fun z => hno .home trivial (by decide) (mkS_inj z)) (by rw [← e69]; exact fun z => hno .stop trivial (by decide) (mkS_inj z))
    refine ⟨_, rfl, _, _, rfl, rfl, no, _, rfl, iteF ?_⟩
    obtain rfl | ⟨l, x, rfl⟩ : ws = [] ∨ ∃ l x, ws = l ++ [x] := by
      by_cases z : ws = []
      · exact .inl z
      · exact .inr ⟨ws.dropLast, ws.getLast z, (List.dropLast_concat_getLast z).symm⟩
    · refine ⟨_, rfl, _, rfl, _, rfl, _, rfl, wl, ?_⟩
      refine ⟨_, rfl, _, rfl, _, rfl, _, rfl, wl, ?_⟩
      refine ⟨_, _, rfl, ?_⟩
      have hn := bNo (cutS (mkS []) (some (-1)) none) (by decide +kernel) (by decide +kernel) (by decide +kernel) (by decide +kernel)
      exact ⟨_, rfl, _, _, rfl, rfl, hn, _, rfl, iteF (k _ (Same.refl H))⟩
    · refine ⟨_, rfl, _, rfl, _, rfl, _, rfl, wl, ?_⟩
      rw [cut_front]
      refine ⟨_, rfl, _, rfl, _, rfl, _, rfl, wl, ?_⟩
      rw [cut_back]
      refine ⟨_, _, rfl, ?_⟩
      have ll : l.length ≤ 100000 := by
        rw [List.length_append] at ln
        omega
      by_cases x68 : x = 68
      · subst x68
        obtain ⟨t, ht⟩ := T.bD
        rw [show mkS [68] = ("D" : Str) by decide +kernel]
        refine ⟨_, rfl, _, _, rfl, rfl, ht, _, rfl, iteT ?_⟩
        refine ⟨_, rfl, l, rfl, ll, fun H1 e1 => ?_⟩
        cases hb : numB l with
        | true =>
          obtain ⟨m, m1, em, l40⟩ := numB_of hb
          rw [← em] at l40
          have mlt := num_lt l40
          exact absurd (show l ++ [68] = cw (.down m) by rw [← em]; rfl) (hno (.down m) (by show (1 : Int) ≤ m; omega) (by show (m : Int) < 10 ^ 40; omega))
        | false => exact ⟨_, rfl, iteF (k _ e1)⟩
      by_cases x85 : x = 85
      · subst x85
        obtain ⟨t, ht⟩ := T.bU
        rw [show mkS [85] = ("U" : Str) by decide +kernel]
        refine ⟨_, rfl, _, _, rfl, rfl, ht, _, rfl, iteT ?_⟩
        refine ⟨_, rfl, l, rfl, ll, fun H1 e1 => ?_⟩
        cases hb : numB l with
        | true =>
          obtain ⟨m, m1, em, l40⟩ := numB_of hb
          rw [← em] at l40
          have mlt := num_lt l40
          exact absurd (show l ++ [85] = cw (.up m) by rw [← em]; rfl) (hno (.up m) (by show (1 : Int) ≤ m; omega) (by show (m : Int) < 10 ^ 40; omega))
        | false => exact ⟨_, rfl, iteF (k _ e1)⟩
      by_cases x82 : x = 82
      · subst x82
        obtain ⟨t, ht⟩ := T.bR
        rw [show mkS [82] = ("R" : Str) by decide +kernel]
        refine ⟨_, rfl, _, _, rfl, rfl, ht, _, rfl, iteT ?_⟩
        refine ⟨_, rfl, l, rfl, ll, fun H1 e1 => ?_⟩
        cases hb : numB l with
        | true =>
          obtain ⟨m, m1, em, l40⟩ := numB_of hb
          rw [← em] at l40
          have mlt := num_lt l40
          exact absurd (show l ++ [82] = cw (.right m) by rw [← em]; rfl) (hno (.right m) (by show (1 : Int) ≤ m; omega) (by show (m : Int) < 10 ^ 40; omega))
        | false => exact ⟨_, rfl, iteF (k _ e1)⟩
      by_cases x76 : x = 76
      · subst x76
        obtain ⟨t, ht⟩ := T.bL
        rw [show mkS [76] = ("L" : Str) by decide +kernel]
        refine ⟨_, rfl, _, _, rfl, rfl, ht, _, rfl, iteT ?_⟩
        refine ⟨_, rfl, l, rfl, ll, fun H1 e1 => ?_⟩
        cases hb : numB l with
        | true =>
          obtain ⟨m, m1, em, l40⟩ := numB_of hb
          rw [← em] at l40
          have mlt := num_lt l40
          exact absurd (show l ++ [76] = cw (.left m) by rw [← em]; rfl) (hno (.left m) (by show (1 : Int) ≤ m; omega) (by show (m : Int) < 10 ^ 40; omega))
        | false => exact ⟨_, rfl, iteF (k _ e1)⟩
      have sx : ∀ y, x ≠ y → mkS [x] ≠ mkS [y] := fun y h z => h (List.cons.inj (mkS_inj z)).1
      have hn := bNo (mkS [x]) (by rw [show ("D" : Str) = mkS [68] by decide +kernel]; exact sx _ x68) (by rw [show ("U" : Str) = mkS [85] by decide +kernel]; exact sx _ x85) (by rw [show ("R" : Str) = mkS [82] by decide +kernel]; exact sx _ x82) (by rw [show ("L" : Str) = mkS [76] by decide +kernel]; exact sx _ x76)
      exact ⟨_, rfl, _, _, rfl, rfl, hn, _, rfl, iteF (k _ (Same.refl H))⟩
theorem spl_len : ∀ (l acc : List Nat), (∀ w ∈ spl [32] 0 acc l, w.length ≤ acc.length + l.length) ∧ (spl [32] 0 acc l).length ≤ l.length + 1
  | [], acc => by
    rw [spl_nil]
    exact ⟨fun w hw => by rw [List.mem_singleton.mp hw]; exact Nat.le_add_right _ _, Nat.le_refl _⟩
  | c :: r, acc => by
    by_cases h : c = 32
    · subst h
      rw [spl_hit (by rw [pre_sp]; rfl)]
      obtain ⟨h1, h2⟩ := spl_len r []
      refine ⟨fun w hw => ?_, by rw [List.length_cons, List.length_cons]; exact Nat.succ_le_succ h2⟩
      rcases List.mem_cons.mp hw with z | z
      · rw [z]; exact Nat.le_add_right _ _
      · have := h1 w z
        rw [List.length_nil] at this
        rw [List.length_cons]
        omega
    · rw [spl_miss (by rw [pre_sp]; exact decide_eq_false h)]
      obtain ⟨h1, h2⟩ := spl_len r (acc ++ [c])
      refine ⟨fun w hw => ?_, by rw [List.length_cons]; omega⟩
      have := h1 w hw
      rw [List.length_append] at this
      rw [List.length_cons]
      have z : ([c] : List Nat).length = 1 := rfl
      omega
def spRead1U (K : PySem.W.Frag) : Sp := fun vs H Q E => spRead1 K vs H Q E ∨ spRead1N K vs H Q E
def spReadN (CR : Addr) : Sp := fun vs H Q E => ∃ t : List Nat, vs = [.str (mkS t)] ∧ t.length ≤ 50000 ∧ (∀ cs : List Cmd, AllOk cs → (∀ c ∈ cs, numC c < 10 ^ 40) → mkS t ≠ shownS cs) ∧ Err E CR (.str (mkS t)) H
theorem ok_read_commandsN {f CR : Addr} {fd : FuncData} (F : Fun K "read_commands" "read_commands" s_read_commands f fd) (c_read_command : Cal P w K mg base 2 "read_command" (spRead1U K)) (e_Unreadable : ErrC P w K mg base "Unreadable" CR) : FnOk P w K mg base (L2N.CX P w) 3 f fd ["text"] (spReadN CR) := by
  refine F.okN sc_read_commands (fun vs H Q E h => ?_) (fun cdv A outer s H vs Q E hr h => ?_)
  · obtain ⟨n, rfl, _⟩ := h
    rfl
  · obtain ⟨t, rfl, ln, hno, ke⟩ := h
    refine ⟨_, (pss_cons (ps_if (pt_cmpR op_eq (pv 0) pe_str (nomark _)) (pss_one (ps_ret (pe_lst pa_nil))) pss_nil)
      (pss_cons (ps_set (i := 1) sc_read_commands.nd rfl (Or.inl rfl) (pe_lst pa_nil))
      (pss_cons (ps_for (passes_of rfl) rfl (pi_list (pe_bm PySem.F.plainAttrs_str PySem.F.slot_str_split PySem.F.type_str_split mt_split (pv 0) (pa_cons pe_str pa_nil))) (pg_name (i := 2) sc_read_commands.nd rfl (Or.inl rfl)) (pss_cons (ps_set (i := 3) sc_read_commands.nd rfl (Or.inl rfl) (pe_cal c_read_command hr (by decide) (by rfl) (pa_cons (pv 2) pa_nil)))
      (pss_cons (ps_if (pt_cmpR op_isN (pv 3) pe_non (nomark _)) (pss_one (ps_raiseN rfl e_Unreadable hr (by decide) (L2N.takes_of rfl rfl rfl rfl) (pv 0) (by rfl))) pss_nil)
      (pss_one (ps_expr (pe_bm PySem.F.plainAttrs_list PySem.F.slot_list_append PySem.F.type_list_append mt_append (pv 1) (pa_cons (pv 3) pa_nil)))))))
      (pss_one (ps_ret (pv 1)))))), ?_⟩
    have wl : (mkS t).length + 2 ≤ sizeLine := by
      rw [mkS_len, sizeLine_eq]
      omega
    have hk : ¬ Builtin.Str.strKind (mkS t) < Builtin.Str.strKind " " := by
      rw [show Builtin.Str.strKind " " = 1 by decide +kernel]
      unfold Builtin.Str.strKind
      split
      · omega
      · split <;> omega
    have no : mkS t ≠ ("none" : Str) := fun z => hno [] (fun c hc => nomatch hc) (fun c hc => nomatch hc) (by rw [z]; decide +kernel)
    refine ⟨_, rfl, rfl, false, by simp [no], iteF ?_⟩
    refine ⟨Nat.zero_le _, fun l nl => ?_⟩
    have e1 : Same H (upd H l (.lst [])) := new_same nl
    refine ⟨_, rfl, rfl, _, _, rfl, rfl, by decide +kernel, wl, fun p np => ?_⟩
    have sp : Txt.split (mkS t) " " = (spl [32] 0 [] t).map mkS := by
      have q := split_spl (mkS t) " " (by decide +kernel) hk
      have q2 : ((Txt.split (mkS t) " ").map tl).map mkS = Txt.split (mkS t) " " := by
        rw [List.map_map, show (mkS ∘ tl) = id from funext fun s => ext_tl rfl, List.map_id]
      rw [← q2, q]
      rfl
    rw [show (Str.ofString " ") = (" " : Str) from rfl, sp]
    obtain ⟨wlen, wcnt⟩ := spl_len t []
    have wne := spl_ne [32] t 0 []
    have wj : joinL [32] (spl [32] 0 [] t) = t := join_spl t []
    generalize spl [32] 0 [] t = ws at wlen wcnt wne wj np ⊢
    have pl : p ≠ l := fun z => by rw [z, upd_same] at np; cases np
    have e2 : Same H (upd (upd H l (.lst [])) p (.lst ((ws.map mkS).map V.str))) := e1.trans (new_same np)
    refine ⟨p, rfl, ⟨_, SqL.of upd_same⟩, for_list (K := K) (a := p) (xs := (ws.map mkS).map V.str) (fun i σ H' => ∃ (v2 v3 : Option V) (ys : List V) (cs : List Cmd), σ = [some (.str (mkS t)), some (.ref l), v2, v3] ∧ Same H H' ∧ H' p = some (.lst ((ws.map mkS).map V.str)) ∧ H' l = some (.lst ys) ∧ CmdsOf K H' ys cs ∧ AllOk cs ∧ (∀ c ∈ cs, numC c < 10 ^ 40) ∧ ws.take i = cs.map cw)
      ⟨none, none, [], [], rfl, e2, upd_same, new_same np _ _ upd_same, .nil, (fun c hc => nomatch hc), (fun c hc => nomatch hc), rfl⟩ (fun i σ H' hi h => ?_) (fun i x σ H' hx h => ?_) (fun σ H' h => ?_)⟩
    · obtain ⟨_, _, _, _, _, _, q, _⟩ := h
      exact SqL.of q
    · obtain ⟨v2, v3, ys, cs, rfl, s1, hp, hl, hys, ok, hn, tk⟩ := h
      rw [List.getElem?_map, List.getElem?_map] at hx
      cases hc : ws[i]? with
      | none =>
        rw [hc] at hx
        cases hx
      | some wd =>
        rw [hc] at hx
        obtain rfl := Option.some.inj hx
        have cm := List.mem_of_getElem? hc
        have li := (List.getElem?_eq_some_iff.mp hc).1
        have yl := hys.len
        have cl : cs.length ≤ 60000 := by
          have q := congrArg List.length tk
          rw [List.length_take, List.length_map] at q
          omega
        by_cases isC : ∃ c : Cmd, c.ok ∧ numC c < 10 ^ 40 ∧ wd = cw c
        · obtain ⟨c, c1, c2, rfl⟩ := isC
          refine ⟨_, rfl, .inl ⟨c, rfl, c1, c2, fun H2 t2 e3 nt ht => ?_⟩⟩
          refine ⟨_, rfl, rfl, false, by simp, iteF ?_⟩
          refine ⟨_, rfl, .inl ⟨rfl, _, SqL.of (e3 _ _ hl)⟩, _, rfl, l, ys, .ref t2, rfl, rfl, e3 _ _ hl, lt_line (by omega), ?_⟩
          refine ⟨_, _, _, cs ++ [c], rfl, same_freeU (s1.trans e3) nl, ?_, upd_same, ?_, ?_, ?_, ?_⟩
          · rw [upd_ne pl]
            exact e3 _ _ hp
          · exact paired_app (CmdsOf.atL (e3 _ _ hl) (hys.same e3)) (CmdsOf.atL (e3 _ _ hl) (xs := [.ref t2]) (cs := [c]) (.cons ⟨t2, rfl, SqT.of ht⟩ .nil))
          · intro d hd
            rcases List.mem_append.mp hd with z | z
            · exact ok d z
            · rw [List.mem_singleton.mp z]; exact c1
          · intro d hd
            rcases List.mem_append.mp hd with z | z
            · exact hn d z
            · rw [List.mem_singleton.mp z]; exact c2
          · rw [takeS hc, tk, List.map_append]
            rfl
        · refine ⟨_, rfl, .inr ⟨wd, rfl, (by have := wlen wd cm; rw [List.length_nil] at this; omega), fun c c1 c2 z => isC ⟨c, c1, c2, z⟩, fun H2 e3 => ?_⟩⟩
          refine ⟨_, rfl, rfl, true, by rfl, iteT ?_⟩
          exact ⟨_, rfl, Err.ask (s1.trans e3) ke⟩
    · obtain ⟨v2, v3, ys, cs, rfl, s1, hp, hl, hys, ok, hn, tk⟩ := h
      rw [List.length_map, List.length_map, List.take_length] at tk
      have cne : cs ≠ [] := fun z => wne (by rw [tk, z]; rfl)
      refine absurd ?_ (hno cs ok hn)
      unfold shownS shownL
      rw [if_neg cne, ← tk, wj]
end
end Gc

/-! read_commands of any text: the list, or Unreadable -/
namespace Gc
open PySem L2 TL
structure TxtUn (K : PySem.W.Frag) (mg : Str → Option Value) (CR : Addr) : Prop where
  g_Unreadable : mg "Unreadable" = some (.ref CR)
  ex : PySem.W.exmOne K (.ref CR) (.ref CR) = some true
  ei : ErrI K CR
def spReadU (K : PySem.W.Frag) (CR : Addr) : Sp := fun vs H Q E => spRead K vs H Q E ∨ spReadN CR vs H Q E
@[irreducible] def zReadU (K : PySem.W.Frag) (CR : Addr) : Sp := spReadU K CR
theorem zReadU_eq (K : PySem.W.Frag) (CR : Addr) : zReadU K CR = spReadU K CR := by unfold zReadU; rfl
@[irreducible] def zRead (K : PySem.W.Frag) : Sp := spRead K
theorem zRead_eq (K : PySem.W.Frag) : zRead K = spRead K := by unfold zRead; rfl
theorem joinL_cnt : ∀ {ws : List (List Nat)}, (∀ w ∈ ws, w ≠ []) → 2 * ws.length ≤ (joinL [32] ws).length + 1
  | [], _ => Nat.zero_le _
  | [w], h => by
    have := List.length_pos_iff.mpr (h w List.mem_cons_self)
    show 2 * 1 ≤ w.length + 1
    omega
  | w :: v :: ws, h => by
    have ih := joinL_cnt (ws := v :: ws) fun x hx => h x (List.mem_cons_of_mem _ hx)
    have h0 := List.length_pos_iff.mpr (h w List.mem_cons_self)
    show 2 * ((v :: ws).length + 1) ≤ (w ++ ([32] ++ joinL [32] (v :: ws))).length + 1
    rw [List.length_append, List.length_append]
    show _ ≤ _ + (1 + _) + 1
    omega
theorem shown_cnt (cs : List Cmd) : 2 * cs.length ≤ (shownL cs).length + 1 := by
  unfold shownL
  by_cases c : cs = []
  · rw [c]; exact Nat.zero_le _
  · rw [if_neg c]
    have := joinL_cnt (ws := cs.map cw) fun w hw => by
      obtain ⟨c, _, rfl⟩ := List.mem_map.mp hw
      exact cw_ne c
    rw [List.length_map] at this
    exact this
/-- no list has this text -/
def NoCmd (z : Str) : Prop := ∀ cs : List Cmd, AllOk cs → (∀ c ∈ cs, numC c < 10 ^ 40) → z ≠ shownS cs
theorem ask_readU {K : PySem.W.Frag} {CR : Addr} {H : Hp} {Q : VK} {E : XK} {z : Str} (hz : z.length ≤ 1900) (ke : NoCmd z → Err E CR (.str z) H)
    (k : ∀ (H' : Hp) (p : Addr) (xs : List V) (cs : List Cmd), Same H H' → H p = none → H' p = some (.lst xs) → CmdsOf K H' xs cs → AllOk cs → (∀ c ∈ cs, numC c < 10 ^ 40) → cs.length ≤ 1000 → z = shownS cs → Q (.ref p) H') : zReadU K CR [.str z] H Q E := by
  rw [zReadU_eq]
  have ez : mkS (tl z) = z := ext_tl rfl
  by_cases y : ∃ cs : List Cmd, AllOk cs ∧ (∀ c ∈ cs, numC c < 10 ^ 40) ∧ z = shownS cs
  · obtain ⟨cs, ok, hn, e⟩ := y
    have ln : cs.length ≤ 1000 := by
      have h1 := shown_cnt cs
      have h2 : z.length = (shownL cs).length := by rw [e]; exact mkS_len _
      omega
    exact .inl ⟨cs, by rw [e], ok, hn, ln, fun H' p xs s np hp hc => k H' p xs cs s np hp hc ok hn ln e⟩
  · have no : NoCmd z := fun cs ok hn h => y ⟨cs, ok, hn, h⟩
    refine .inr ⟨tl z, by rw [ez], ?_, fun cs ok hn h => no cs ok hn ?_, by rw [ez]; exact ke no⟩
    · have := mkS_len (tl z)
      rw [ez] at this
      omega
    · rw [← ez]; exact h
theorem ask_readK {K : PySem.W.Frag} {H : Hp} {Q : VK} {E : XK} {cs : List Cmd} (ok : AllOk cs) (hn : ∀ c ∈ cs, numC c < 10 ^ 40) (ln : cs.length ≤ 1000)
    (k : ∀ (H' : Hp) (p : Addr) (xs : List V), Same H H' → H p = none → H' p = some (.lst xs) → CmdsOf K H' xs cs → Q (.ref p) H') : zRead K [.str (shownS cs)] H Q E := by
  rw [zRead_eq]
  exact ⟨cs, rfl, ok, hn, ln, k⟩
/-- what raises nothing, where errors may be -/
theorem fnok_0x {P : Program} {w : World} {K : PySem.W.Frag} {mg : Str → Option Value} {base : Heap} {C : CXT} {k : Nat} {f : Addr} {fd : FuncData} {ps : List Str} {sp : Sp} (F : FnOk P w K mg base CX0 k f fd ps sp) : FnOk P w K mg base C k f fd ps sp :=
  ⟨F.len, fun A outer s H args us vs Q E hr he hb hv hs => codeAny_mono (F.run A outer s H args us vs Q E hr he hb hv hs) fun r s' q => by
    rcases r with e | fl
    · exact False.elim q
    · cases fl <;> exact q⟩
theorem fnok_orU {P : Program} {w : World} {K : PySem.W.Frag} {mg : Str → Option Value} {base : Heap} {C : CXT} {k : Nat} {f : Addr} {fd : FuncData} {ps : List Str} {s1 s2 : Sp} (F1 : FnOk P w K mg base C k f fd ps s1) (F2 : FnOk P w K mg base C k f fd ps s2) : FnOk P w K mg base C k f fd ps (fun vs H Q E => s1 vs H Q E ∨ s2 vs H Q E) :=
  ⟨fun vs H Q E h => h.elim (F1.len vs H Q E) (F2.len vs H Q E), fun A outer s H args us vs Q E hr he hb hv hs => hs.elim (F1.run A outer s H args us vs Q E hr he hb hv) (F2.run A outer s H args us vs Q E hr he hb hv)⟩
end Gc

/-! _law_same of the laws k01 to k05, k40 to k43 -/
namespace Gc
open PySem L2
abbrev s_same : Stmt := top 19
mutual
/-- the greatest number of items of any list within -/
def wid : PyData → Nat
  | .list ds => max ds.length (widAll ds)
  | .tuple ds => max ds.length (widAll ds)
  | _ => 0
def widAll : List PyData → Nat
  | [] => 0
  | d :: ds => max (wid d) (widAll ds)
end
theorem wid_at : ∀ {ds : List PyData} {i : Nat} {d : PyData}, ds[i]? = some d → wid d ≤ widAll ds
  | [], i, d, h => by simp at h
  | x :: r, 0, d, h => by
    have e : x = d := Option.some.inj h
    subst e
    simp only [widAll]
    exact Nat.le_max_left _ _
  | x :: r, i + 1, d, h => by
    have ih := wid_at (ds := r) (i := i) (d := d) h
    simp only [widAll]
    exact Nat.le_trans ih (Nat.le_max_right _ _)
/-- _law_same(found, wanted), both the same data: True -/
def spSame (K : PySem.W.Frag) (n : Nat) : Sp := fun vs H Q _ => ∃ (x y : V) (d : PyData), vs = [x, y] ∧ Dp K H x d ∧ Dp K H y d ∧ d.depth < n ∧ wid d ≤ 1000 ∧ ∀ H', Same H H' → Q (.bl true) H'
structure TxtS (mg : Str → Option Value) : Prop where
  isinstance : mg "isinstance" = none
  bool : mg "bool" = none
  int : mg "int" = none
  str : mg "str" = none
  list : mg "list" = none
  tuple : mg "tuple" = none
  len : mg "len" = none
  range : mg "range" = none
section
variable {P : Program} {w : World} {K : PySem.W.Frag} {mg : Str → Option Value} {base : Heap}
theorem sc_law_same : FnScope ["found", "wanted", "k"] ["found", "wanted"] (defScope s_same) := ⟨rfl, rfl, rfl, by decide +kernel, rfl, by decide +kernel, by decide +kernel⟩
theorem ok_same0 {f : Addr} {fd : FuncData} (F : Fun K "_law_same" "_law_same" s_same f fd) : FnOk P w K mg base CX0 1 f fd ["found", "wanted"] (spSame K 0) := by
  refine F.ok sc_law_same (fun vs H Q E h => ?_) (fun cdv A outer s H vs Q E hr h => ?_)
  · obtain ⟨x, y, d, rfl, _⟩ := h
    rfl
  · obtain ⟨x, y, d, _, _, _, l, _, _⟩ := h
    exact absurd l (Nat.not_lt_zero _)
theorem ok_sameS {n : Nat} {f : Addr} {fd : FuncData} (F : Fun K "_law_same" "_law_same" s_same f fd) (T : TxtS mg) (cR : Cal P w K mg base (n + 1) "_law_same" (spSame K n)) :
    FnOk P w K mg base CX0 (n + 2) f fd ["found", "wanted"] (spSame K (n + 1)) := by
  refine F.ok sc_law_same (fun vs H Q E h => ?_) (fun cdv A outer s H vs Q E hr h => ?_)
  · obtain ⟨x, y, d, rfl, _⟩ := h
    rfl
  · obtain ⟨x, y, d, rfl, hx, hy, hd, hw, k⟩ := h
    refine ⟨_, (pss_cons (ps_if (pt_cmpR op_isN (pv 1) pe_non (nomark _)) (pss_one (ps_ret (pe_cmpR op_isN (pv 0) pe_non (nomark _)))) pss_nil)
      (pss_cons (ps_if (pt_val (pe_callB call_isi (by rfl) T.isinstance (by decide +kernel) (pa_cons (pv 1) (pa_cons (pe_bltn (v := .ty "bool") (u := .type "bool") (by rfl) T.bool (by decide +kernel) rfl) pa_nil)))) (pss_one (ps_ret (pe_and (pe_callB call_isi (by rfl) T.isinstance (by decide +kernel) (pa_cons (pv 0) (pa_cons (pe_bltn (v := .ty "bool") (u := .type "bool") (by rfl) T.bool (by decide +kernel) rfl) pa_nil))) (pe_one (pe_cmpR op_eq (pv 0) (pv 1) (nomark _)))))) pss_nil)
      (pss_cons (ps_if (pt_val (pe_callB call_isi (by rfl) T.isinstance (by decide +kernel) (pa_cons (pv 1) (pa_cons (pe_bltn (v := .ty "int") (u := .type "int") (by rfl) T.int (by decide +kernel) rfl) pa_nil)))) (pss_one (ps_ret (pe_and (pe_callB call_isi (by rfl) T.isinstance (by decide +kernel) (pa_cons (pv 0) (pa_cons (pe_bltn (v := .ty "int") (u := .type "int") (by rfl) T.int (by decide +kernel) rfl) pa_nil))) (pe_and (pe_not (pe_callB call_isi (by rfl) T.isinstance (by decide +kernel) (pa_cons (pv 0) (pa_cons (pe_bltn (v := .ty "bool") (u := .type "bool") (by rfl) T.bool (by decide +kernel) rfl) pa_nil)))) (pe_one (pe_cmpR op_eq (pv 0) (pv 1) (nomark _))))))) pss_nil)
      (pss_cons (ps_if (pt_val (pe_callB call_isi (by rfl) T.isinstance (by decide +kernel) (pa_cons (pv 1) (pa_cons (pe_bltn (v := .ty "str") (u := .type "str") (by rfl) T.str (by decide +kernel) rfl) pa_nil)))) (pss_one (ps_ret (pe_and (pe_callB call_isi (by rfl) T.isinstance (by decide +kernel) (pa_cons (pv 0) (pa_cons (pe_bltn (v := .ty "str") (u := .type "str") (by rfl) T.str (by decide +kernel) rfl) pa_nil))) (pe_one (pe_cmpR op_eq (pv 0) (pv 1) (nomark _)))))) pss_nil)
      (pss_cons (ps_if (pt_cmpR op_ne (pe_callB call_isi (by rfl) T.isinstance (by decide +kernel) (pa_cons (pv 0) (pa_cons (pe_bltn (v := .ty "list") (u := .type "list") (by rfl) T.list (by decide +kernel) rfl) pa_nil))) (pe_callB call_isi (by rfl) T.isinstance (by decide +kernel) (pa_cons (pv 1) (pa_cons (pe_bltn (v := .ty "list") (u := .type "list") (by rfl) T.list (by decide +kernel) rfl) pa_nil))) (nomark _)) (pss_one (ps_ret pe_bl)) pss_nil)
      (pss_cons (ps_if (PW.pt (pw_or (pt_cmpR op_ne (pe_callB call_isi (by rfl) T.isinstance (by decide +kernel) (pa_cons (pv 0) (pa_cons (pe_bltn (v := .ty "tuple") (u := .type "tuple") (by rfl) T.tuple (by decide +kernel) rfl) pa_nil))) (pe_callB call_isi (by rfl) T.isinstance (by decide +kernel) (pa_cons (pv 1) (pa_cons (pe_bltn (v := .ty "tuple") (u := .type "tuple") (by rfl) T.tuple (by decide +kernel) rfl) pa_nil))) (nomark _)) (pw_or1 (pt_cmpR op_ne (pe_callB call_len_seq (by rfl) T.len (by decide +kernel) (pa_cons (pv 0) pa_nil)) (pe_callB call_len_seq (by rfl) T.len (by decide +kernel) (pa_cons (pv 1) pa_nil)) (nomark _))))) (pss_one (ps_ret pe_bl)) pss_nil)
      (pss_one (ps_ret (pe_cmpR (op_eqD hr.units) (pe_lc (own := [("k", 2)]) rfl sc_law_same.nd (pi_range1 rfl T.range (pa_cons (pe_callB call_len_seq (by rfl) T.len (by decide +kernel) (pa_cons (pv 1) pa_nil)) pa_nil)) (blkOk_by (N := ["found", "wanted", "k"]) (sc := defScope s_same) (by decide +kernel)) (fun _ _ _ _ _ => (pg_name (i := 2) sc_law_same.nd rfl (Or.inl rfl))) (fun _ _ _ _ _ => (pts_one (pt_not (pt_val (pe_cal cR hr (Nat.le_refl _) (by rfl) (pa_cons (pe_ix (show IxR _ (rIx K) from ix_seq) (pv 0) (pv 2) (fun _ _ => rfl)) (pa_cons (pe_ix (show IxR _ (rIx K) from ix_seq) (pv 1) (pv 2) (fun _ _ => rfl)) pa_nil))))))) (fun _ _ _ _ _ => (pv 2))) (pe_lst pa_nil) (nomark _)))))))))), ?_⟩
    have kk : Q (.bl true) H := k H (Same.refl H)
    cases hx with
    | non =>
      cases hy
      refine ⟨_, rfl, rfl, _, rfl, iteT ?_⟩
      exact ⟨_, rfl, rfl, kk⟩
    | bl b =>
      cases hy
      refine ⟨_, rfl, rfl, _, rfl, iteF ?_⟩
      refine ⟨_, rfl, _, _, _, _, _, rfl, .ty "bool", .base (.bl b), kit_ty (show kitB "bool" "bool" = some true by decide +kernel), _, rfl, iteT ?_⟩
      refine ⟨_, rfl, _, _, _, _, _, rfl, .ty "bool", .base (.bl b), kit_ty (show kitB "bool" "bool" = some true by decide +kernel), _, rfl, iteT ?_⟩
      refine ⟨_, rfl, _, rfl, rfl, ?_⟩
      rw [decide_eq_true (Eq.refl (V.bl b))]
      exact kk
    | int i =>
      cases hy
      refine ⟨_, rfl, rfl, _, rfl, iteF ?_⟩
      refine ⟨_, rfl, _, _, _, _, _, rfl, .ty "bool", .base (.int i), kit_ty (show kitB "int" "bool" = some false by decide +kernel), _, rfl, iteF ?_⟩
      refine ⟨_, rfl, _, _, _, _, _, rfl, .ty "int", .base (.int i), kit_ty (show kitB "int" "int" = some true by decide +kernel), _, rfl, iteT ?_⟩
      refine ⟨_, rfl, _, _, _, _, _, rfl, .ty "int", .base (.int i), kit_ty (show kitB "int" "int" = some true by decide +kernel), _, rfl, iteT ?_⟩
      refine ⟨_, rfl, _, _, _, _, _, rfl, .ty "bool", .base (.int i), kit_ty (show kitB "int" "bool" = some false by decide +kernel), _, rfl, _, rfl, iteT ?_⟩
      refine ⟨_, rfl, _, rfl, rfl, ?_⟩
      rw [decide_eq_true (Eq.refl (V.int i))]
      exact kk
    | str z =>
      cases hy
      refine ⟨_, rfl, rfl, _, rfl, iteF ?_⟩
      refine ⟨_, rfl, _, _, _, _, _, rfl, .ty "bool", .base (.str z), kit_ty (show kitB "str" "bool" = some false by decide +kernel), _, rfl, iteF ?_⟩
      refine ⟨_, rfl, _, _, _, _, _, rfl, .ty "int", .base (.str z), kit_ty (show kitB "str" "int" = some false by decide +kernel), _, rfl, iteF ?_⟩
      refine ⟨_, rfl, _, _, _, _, _, rfl, .ty "str", .base (.str z), kit_ty (show kitB "str" "str" = some true by decide +kernel), _, rfl, iteT ?_⟩
      refine ⟨_, rfl, _, _, _, _, _, rfl, .ty "str", .base (.str z), kit_ty (show kitB "str" "str" = some true by decide +kernel), _, rfl, iteT ?_⟩
      refine ⟨_, rfl, _, rfl, rfl, ?_⟩
      rw [decide_eq_true (Eq.refl (V.str z))]
      exact kk
    | @lst a xs ds qx rx =>
      cases hy with
      | @lst a' ys _ qy ry =>
        have dl : PyData.depthAll ds < n := by
          simp only [PyData.depth] at hd
          omega
        simp only [wid] at hw
        have wl : ds.length ≤ 1000 := Nat.le_trans (Nat.le_max_left _ _) hw
        have wa : widAll ds ≤ 1000 := Nat.le_trans (Nat.le_max_right _ _) hw
        have yl := dps_len ry
        refine ⟨_, rfl, rfl, _, rfl, iteF ?_⟩
        refine ⟨_, rfl, _, _, _, _, _, rfl, .ty "bool", (ty_l qy), kit_ty (show kitB "list" "bool" = some false by decide +kernel), _, rfl, iteF ?_⟩
        refine ⟨_, rfl, _, _, _, _, _, rfl, .ty "int", (ty_l qy), kit_ty (show kitB "list" "int" = some false by decide +kernel), _, rfl, iteF ?_⟩
        refine ⟨_, rfl, _, _, _, _, _, rfl, .ty "str", (ty_l qy), kit_ty (show kitB "list" "str" = some false by decide +kernel), _, rfl, iteF ?_⟩
        refine ⟨_, rfl, _, _, _, _, _, rfl, .ty "list", (ty_l qx), kit_ty (show kitB "list" "list" = some true by decide +kernel), _, rfl, _, _, _, _, _, rfl, .ty "list", (ty_l qy), kit_ty (show kitB "list" "list" = some true by decide +kernel), rfl, _, rfl, iteF ?_⟩
        refine ⟨_, rfl, _, _, _, _, _, rfl, .ty "tuple", (ty_l qx), kit_ty (show kitB "list" "tuple" = some false by decide +kernel), _, rfl, _, _, _, _, _, rfl, .ty "tuple", (ty_l qy), kit_ty (show kitB "list" "tuple" = some false by decide +kernel), rfl, _, rfl, ?_⟩
        refine iteF (B := _) ?_
        refine ⟨_, rfl, a, xs, rfl, .inl qx, _, rfl, a', ys, rfl, .inl qy, rfl, _, rfl, iteNS ?_ ?_⟩
        · rw [dps_len rx, dps_len ry]
        refine ⟨_, rfl, a', ys, rfl, .inl qy, _, rfl, ?_, ?_, fun D hD => ?_⟩
        · omega
        · omega
        refine lc_range (lo := 0) (n := ys.length) (fun _ H' => Same H H' ∧ H' D = some (.lst [])) ⟨same_upd (Same.refl H) hD, upd_same⟩ (fun i H' hi h => ?_) (fun H' h => ?_)
        · obtain ⟨e, eD⟩ := h
          obtain ⟨v1, d1, g1, g2, g3⟩ := dps_at (i := i) rx (by rw [← dps_len ry]; exact hi)
          obtain ⟨v2, d2, g4, g5, g6⟩ := dps_at (i := i) ry (by rw [← dps_len ry]; exact hi)
          obtain rfl : d1 = d2 := Option.some.inj (g2.symm.trans g5)
          refine ⟨rfl, _, rfl, _, rfl, Or.inl ⟨a, xs, _, v1, rfl, rfl, Same.seq e qx, at_of (j := i) (by omega) g1, ?_⟩⟩
          refine ⟨_, rfl, _, rfl, Or.inl ⟨a', ys, _, v2, rfl, rfl, Same.seq e qy, at_of (j := i) (by omega) g4, ?_⟩⟩
          refine ⟨v1, v2, d1, rfl, dp_same e _ _ g3, dp_same e _ _ g6, Nat.lt_of_le_of_lt (depth_at g2) dl, Nat.le_trans (wid_at g2) wa, fun H2 e2 => ⟨_, rfl, iteF ?_⟩⟩
          exact ⟨e.trans e2, e2 _ _ eD⟩
        · obtain ⟨e, eD⟩ := h
          refine ⟨Nat.zero_le _, fun p hp => ⟨.list [], .list [], .lst (SqL.of (by rw [upd_ne (ne_of_none eD hp)]; exact eD)) .nil, .lst (SqL.of upd_same) .nil, rfl, rfl, k _ (same_upd e hp)⟩⟩
    | @tup a xs ds qx rx =>
      cases hy with
      | @tup a' ys _ qy ry =>
        have dl : PyData.depthAll ds < n := by
          simp only [PyData.depth] at hd
          omega
        simp only [wid] at hw
        have wl : ds.length ≤ 1000 := Nat.le_trans (Nat.le_max_left _ _) hw
        have wa : widAll ds ≤ 1000 := Nat.le_trans (Nat.le_max_right _ _) hw
        have yl := dps_len ry
        refine ⟨_, rfl, rfl, _, rfl, iteF ?_⟩
        refine ⟨_, rfl, _, _, _, _, _, rfl, .ty "bool", (ty_t qy), kit_ty (show kitB "tuple" "bool" = some false by decide +kernel), _, rfl, iteF ?_⟩
        refine ⟨_, rfl, _, _, _, _, _, rfl, .ty "int", (ty_t qy), kit_ty (show kitB "tuple" "int" = some false by decide +kernel), _, rfl, iteF ?_⟩
        refine ⟨_, rfl, _, _, _, _, _, rfl, .ty "str", (ty_t qy), kit_ty (show kitB "tuple" "str" = some false by decide +kernel), _, rfl, iteF ?_⟩
        refine ⟨_, rfl, _, _, _, _, _, rfl, .ty "list", (ty_t qx), kit_ty (show kitB "tuple" "list" = some false by decide +kernel), _, rfl, _, _, _, _, _, rfl, .ty "list", (ty_t qy), kit_ty (show kitB "tuple" "list" = some false by decide +kernel), rfl, _, rfl, iteF ?_⟩
        refine ⟨_, rfl, _, _, _, _, _, rfl, .ty "tuple", (ty_t qx), kit_ty (show kitB "tuple" "tuple" = some true by decide +kernel), _, rfl, _, _, _, _, _, rfl, .ty "tuple", (ty_t qy), kit_ty (show kitB "tuple" "tuple" = some true by decide +kernel), rfl, _, rfl, ?_⟩
        refine iteF (B := _) ?_
        refine ⟨_, rfl, a, xs, rfl, .inr qx, _, rfl, a', ys, rfl, .inr qy, rfl, _, rfl, iteNS ?_ ?_⟩
        · rw [dps_len rx, dps_len ry]
        refine ⟨_, rfl, a', ys, rfl, .inr qy, _, rfl, ?_, ?_, fun D hD => ?_⟩
        · omega
        · omega
        refine lc_range (lo := 0) (n := ys.length) (fun _ H' => Same H H' ∧ H' D = some (.lst [])) ⟨same_upd (Same.refl H) hD, upd_same⟩ (fun i H' hi h => ?_) (fun H' h => ?_)
        · obtain ⟨e, eD⟩ := h
          obtain ⟨v1, d1, g1, g2, g3⟩ := dps_at (i := i) rx (by rw [← dps_len ry]; exact hi)
          obtain ⟨v2, d2, g4, g5, g6⟩ := dps_at (i := i) ry (by rw [← dps_len ry]; exact hi)
          obtain rfl : d1 = d2 := Option.some.inj (g2.symm.trans g5)
          refine ⟨rfl, _, rfl, _, rfl, Or.inr <| Or.inl ⟨a, xs, _, v1, rfl, rfl, seq_t e qx, at_of (j := i) (by omega) g1, ?_⟩⟩
          refine ⟨_, rfl, _, rfl, Or.inr <| Or.inl ⟨a', ys, _, v2, rfl, rfl, seq_t e qy, at_of (j := i) (by omega) g4, ?_⟩⟩
          refine ⟨v1, v2, d1, rfl, dp_same e _ _ g3, dp_same e _ _ g6, Nat.lt_of_le_of_lt (depth_at g2) dl, Nat.le_trans (wid_at g2) wa, fun H2 e2 => ⟨_, rfl, iteF ?_⟩⟩
          exact ⟨e.trans e2, e2 _ _ eD⟩
        · obtain ⟨e, eD⟩ := h
          refine ⟨Nat.zero_le _, fun p hp => ⟨.list [], .list [], .lst (SqL.of (by rw [upd_ne (ne_of_none eD hp)]; exact eD)) .nil, .lst (SqL.of upd_same) .nil, rfl, rfl, k _ (same_upd e hp)⟩⟩
end
end Gc

/-! _law_read: the commands of a text, sign by sign, or None -/
namespace Gc
open PySem L2 TL
abbrev s_lread : Stmt := top 24
structure TxtRc (mg : Str → Option Value) : Prop where
  len : mg "len" = none
  int : mg "int" = none
def spLRead (K : PySem.W.Frag) : Sp := fun vs H Q _ => ∃ t : List Nat, vs = [.str (mkS t)] ∧ t.length ≤ 50000 ∧
  (∀ cs : List Cmd, AllOk cs → (∀ c ∈ cs, numC c < 10 ^ 40) → t = shownL cs → ∀ (H' : Hp) (p : Addr) (xs : List V), Same H H' → H p = none → H' p = some (.lst xs) → CmdsOf K H' xs cs → Q (.ref p) H') ∧
  ((∀ cs : List Cmd, AllOk cs → (∀ c ∈ cs, numC c < 10 ^ 40) → t ≠ shownL cs) → ∀ H', Same H H' → Q .non H')
theorem sgn_eq (c d : Nat) : V.bl (decide (V.str ⟨#[c]⟩ = V.str (mkS [d]))) = V.bl (decide (c = d)) := by
  congr 1
  exact decide_eq_decide.mpr ⟨fun z => (List.cons.inj (mkS_inj (l := [c]) (m := [d]) (V.str.inj z))).1, fun z => by rw [z]; rfl⟩
theorem fold_none {t : List Nat} {i c : Nat} {s : Rd1} (hc : t[i]? = some c) (h : foldR st0 (t.take i) = some s) (st : stepR s c = none) : foldR st0 t = none := by
  have e : t = t.take i ++ ([c] ++ t.drop (i + 1)) := by
    have z := List.take_append_drop (i + 1) t
    rw [takeS hc, List.append_assoc] at z
    exact z.symm
  rw [e, foldR_app, h]
  show foldR s ([c] ++ t.drop (i + 1)) = none
  rw [foldR_app]
  show ((stepR s c).bind fun t => some t).bind _ = none
  rw [st]
  rfl
theorem no_shown {t : List Nat} (n0 : t ≠ noneL) (h : foldR st0 (t ++ [32]) = none) : ∀ cs : List Cmd, AllOk cs → (∀ c ∈ cs, numC c < 10 ^ 40) → t ≠ shownL cs := fun cs h1 h2 e => by
  unfold shownL at e
  by_cases z : cs = []
  · rw [if_pos z] at e
    exact n0 e
  · rw [if_neg z] at e
    rw [e, read_full z h1 h2] at h
    cases h
theorem CmdsOf.snoc {K : PySem.W.Frag} {H : Hp} {l q : Addr} {ys : List V} {cs : List Cmd} {c : Cmd} (hl : H l = some (.lst ys)) (h : CmdsOf K H ys cs) (hq : H q = some (.tup (encC c))) : CmdsOf K (upd H l (.lst (ys ++ [.ref q]))) (ys ++ [.ref q]) (cs ++ [c]) :=
  pairS (CmdsOf.atL hl h) ⟨q, rfl, SqT.of (by rw [upd_ne (ne_of hq hl (by intro z; cases z))]; exact hq)⟩
theorem and_two {tA tB : TT} {σ : L2.St} {H : Hp} {Q : Bool → Hp → Prop} (a b : Bool) (hA : ∀ R : Bool → Hp → Prop, R a H → tA σ H R) (hB : ∀ R : Bool → Hp → Prop, R b H → tB σ H R) (h : Q (a && b) H) : tAnd tA tB σ H Q := by
  refine hA _ ?_
  cases a with
  | false => exact h
  | true => exact hB _ h
def loneK : List (L2.Key × V) := [(.inr "H", .str "home"), (.inr "E", .str "end")]
def numK : List (L2.Key × V) := [(.inr "D", .str "down"), (.inr "U", .str "up"), (.inr "R", .str "right"), (.inr "L", .str "left")]
section
variable {P : Program} {w : World} {K : PySem.W.Frag} {mg : Str → Option Value} {base : Heap}
theorem sc_law_read : FnScope ["note", "found", "digits", "ends", "sign"] ["note"] (defScope s_lread) := ⟨rfl, rfl, rfl, by decide +kernel, rfl, by decide +kernel, by decide +kernel⟩
theorem ok_lread {f : Addr} {fd : FuncData} (F : Fun K "_law_read" "_law_read" s_lread f fd) (T : TxtRc mg) : FnOk P w K mg base CX0 1 f fd ["note"] (spLRead K) := by
  refine F.ok sc_law_read (fun vs H Q E h => ?_) (fun cdv A outer s H vs Q E hr h => ?_)
  · obtain ⟨t, rfl, _⟩ := h
    rfl
  · obtain ⟨t, rfl, ln, kS, kN⟩ := h
    refine ⟨_, (pss_cons (ps_if (pt_cmpR op_eq (pv 0) pe_str (nomark _)) (pss_one (ps_ret (pe_lst pa_nil))) pss_nil)
      (pss_cons (ps_par (i := 1) (j := 2) rfl sc_law_read.nd rfl rfl (by decide) rfl rfl (pa_cons (pe_lst pa_nil) (pa_cons pe_str pa_nil)) (by rfl))
      (pss_cons (ps_set (i := 3) sc_law_read.nd rfl (Or.inl rfl) pe_bl)
      (pss_cons (ps_for PassesOwn.never rfl (pi_str (pe_op op_add_str (pv 0) pe_str)) (pg_name (i := 4) sc_law_read.nd rfl (Or.inl rfl)) (pss_one (ps_if (pt_cmpR op_eq (pv 4) pe_str (nomark _)) (pss_cons (ps_if (pt_val (pv 3)) (pss_one (ps_ret pe_non)) pss_nil)
      (pss_one (ps_set (i := 3) sc_law_read.nd rfl (Or.inl rfl) pe_bl))) (pss_one (ps_if (pt_not (pt_val (pv 3))) (pss_one (ps_ret pe_non)) (pss_one (ps_if (pt_cmpR op_in_sign (pv 4) pe_str (by rfl)) (pss_cons (ps_set (i := 2) sc_law_read.nd rfl (Or.inl rfl) (pe_op op_add_str (pv 2) (pv 4)))
      (pss_one (ps_if (PW.pt (pw_or (pt_cmpR op_eq (pe_ix ix_str (pv 2) pe_int (fun _ _ => rfl)) pe_str (nomark _)) (pw_or1 (pt_cmpR op_gt (pe_callB call_len_str (by rfl) T.len (by decide +kernel) (pa_cons (pv 2) pa_nil)) pe_int (nomark _))))) (pss_one (ps_ret pe_non)) pss_nil))) (pss_one (ps_if (PW.pt (pw_and (pt_cmpR op_in_sign (pv 4) pe_str (by rfl)) (pw_and1 (pt_cmpR op_eq (pv 2) pe_str (nomark _))))) (pss_cons (ps_expr (pe_bm PySem.F.plainAttrs_list PySem.F.slot_list_append PySem.F.type_list_append mt_append (pv 1) (pa_cons (pe_tup (pa_cons (pe_dget (hu_of hr) (pe_disp (pps_cons pe_str pe_str (pps_cons pe_str pe_str pps_nil)) rfl rfl (by simp) (by decide)) (pv 4) (fun _ _ => rfl)) pa_nil)) pa_nil)))
      (pss_one (ps_set (i := 3) sc_law_read.nd rfl (Or.inl rfl) pe_bl))) (pss_one (ps_if (PW.pt (pw_and (pt_cmpR op_in_sign (pv 4) pe_str (by rfl)) (pw_and1 (pt_cmpR op_ne (pv 2) pe_str (nomark _))))) (pss_cons (ps_expr (pe_bm PySem.F.plainAttrs_list PySem.F.slot_list_append PySem.F.type_list_append mt_append (pv 1) (pa_cons (pe_tup (pa_cons (pe_dget (hu_of hr) (pe_disp (pps_cons pe_str pe_str (pps_cons pe_str pe_str (pps_cons pe_str pe_str (pps_cons pe_str pe_str pps_nil)))) rfl rfl (by simp) (by decide)) (pv 4) (fun _ _ => rfl)) (pa_cons (pe_callTy call_int_str (by rfl) T.int (by decide +kernel) (pa_cons (pv 2) pa_nil)) pa_nil))) pa_nil)))
      (pss_one (ps_asg (pe_tup (pa_cons pe_str (pa_cons pe_bl pa_nil))) (pg_tup rfl (pgs_cons (pg_name (i := 2) sc_law_read.nd rfl (Or.inl rfl)) (pgs_cons (pg_name (i := 3) sc_law_read.nd rfl (Or.inl rfl)) pgs_nil)))))) (pss_one (ps_ret pe_non)))))))))))))
      (pss_one (ps_ret (pv 1))))))), ?_⟩
    refine ⟨_, rfl, rfl, decide (t = noneL), ?_, ?_⟩
    · rw [show (Str.ofString "none") = mkS noneL by decide +kernel]
      congr 1
      exact decide_eq_decide.mpr ⟨fun z => mkS_inj (V.str.inj z), fun z => by rw [z]⟩
    refine ite2 (fun c0 => ?_) (fun c0 => ?_)
    · refine ⟨Nat.zero_le _, fun p np => ?_⟩
      exact kS [] (fun _ h => nomatch h) (fun _ h => nomatch h) (of_decide_eq_true c0) _ p [] (new_same np) np upd_same .nil
    have n0 : t ≠ noneL := by simpa using c0
    refine ⟨Nat.zero_le _, fun l nl => ⟨_, _, rfl, ?_⟩⟩
    have e1 : Same H (upd H l (.lst [])) := new_same nl
    refine ⟨_, rfl, _, _, rfl, rfl, by rw [mkS_len, sizeLine_eq]; show t.length + 1 ≤ _; omega, ?_⟩
    rw [show (Str.ofString " ") = mkS [32] by decide +kernel, mkS_app]
    refine ⟨_, rfl, for_it walk_str (fun i σ H' => ∃ (s : Rd1) (ys : List V) (v4 : Option V), σ = [some (.str (mkS t)), some (.ref l), some (.str (mkS s.ds)), some (.bl s.e), v4] ∧ Same H H' ∧ H' l = some (.lst ys) ∧ CmdsOf K H' ys s.cs ∧ GoodR s ∧ foldR st0 ((t ++ [32]).take i) = some s ∧ s.cs.length ≤ i)
      ⟨st0, [], none, rfl, e1, upd_same, .nil, good0, rfl, Nat.le_refl _⟩ (fun _ _ _ _ _ => trivial) (fun i x σ H1 H' hi p y => ?_) (fun σ H' h => ?_)⟩
    · obtain ⟨rfl, c, hc, rfl⟩ := y
      obtain ⟨s, ys, v4, rfl, s1, hl, hys, g, fo, cl⟩ := p
      have hc' : (t ++ [32])[i]? = some c := by rw [← hc]; exact (List.getElem?_toArray ..).symm
      have li : i < t.length + 1 := by
        have z : i < (mkS (t ++ [32])).cps.size := hi
        have z2 : (mkS (t ++ [32])).cps.size = t.length + 1 := by
          show (t ++ [32]).toArray.size = _
          simp
        omega
      have bad : stepR s c = none → Q .non H' := fun st => kN (no_shown n0 (fold_none hc' fo st)) H' s1
      have next : ∀ s', stepR s c = some s' → foldR st0 ((t ++ [32]).take (i + 1)) = some s' := fun s' st => by
        rw [takeS hc', foldR_app, fo]
        show (stepR s c).bind (fun t => some t) = _
        rw [st]
        rfl
      have yl := hys.len
      -- sign == ' '
      refine ⟨_, rfl, rfl, decide (c = 32), ?_, ?_⟩
      · exact sgn_eq c 32
      refine ite2 (fun c1 => ?_) (fun c1 => ?_)
      · have c1 : c = 32 := of_decide_eq_true c1
        refine ⟨_, rfl, _, rfl, ?_⟩
        refine ite2 (fun ee => ?_) (fun ee => ?_)
        · exact bad (by unfold stepR; rw [if_pos c1, if_pos ee])
        · have st : stepR s c = some ⟨s.cs, s.ds, true⟩ := by unfold stepR; rw [if_pos c1, if_neg ee]
          exact ⟨⟨s.cs, s.ds, true⟩, ys, _, rfl, s1, hl, hys, stepR_good g st, next _ st, by show s.cs.length ≤ i + 1; omega⟩
      have c1 : c ≠ 32 := by simpa using c1
      -- not ends
      refine ⟨_, rfl, _, rfl, ?_⟩
      refine ite2 (fun ee => ?_) (fun ee => ?_)
      · have ef : s.e = false := by simpa using ee
        exact bad (by unfold stepR; rw [if_neg c1, if_pos ef])
      have et : s.e = true := by simpa using ee
      have en : ¬ s.e = false := by rw [et]; decide
      have ln2 : s.ds.length ≤ 40 := g.2.2.1.2.2
      -- sign in digits
      refine ⟨_, rfl, c, _, rfl, rfl, decide (c ∈ digLst), ?_, ite2 (fun cd => ?_) (fun cd => ?_)⟩
      · rw [show (Str.ofString "0123456789").cps.toList = digLst by decide +kernel]
      · have cd : c ∈ digLst := of_decide_eq_true cd
        refine ⟨_, rfl, _, rfl, _, _, rfl, rfl, by rw [mkS_len, sizeLine_eq]; show s.ds.length + 1 ≤ _; omega, ?_⟩
        rw [show (⟨#[c]⟩ : Str) = mkS [c] from rfl, mkS_app]
        have ll : (mkS (s.ds ++ [c])).length ≤ sizeLine := by rw [mkS_len, List.length_append, sizeLine_eq]; show s.ds.length + 1 ≤ _; omega
        obtain ⟨a, r, ea⟩ : ∃ a r, s.ds ++ [c] = a :: r := by
          cases s.ds with
          | nil => exact ⟨c, [], rfl⟩
          | cons x y => exact ⟨x, y ++ [c], rfl⟩
        have at0 : atI (mkS (s.ds ++ [c])).cps.toList 0 = some a := by
          rw [ea]
          show atI (a :: r) ((0 : Nat) : Int) = some a
          exact atI_nat rfl
        have st : ∀ q, stepR s c = q → stepR s c = q := fun _ z => z
        have hd : (s.ds ++ [c]).head? = some a := by rw [ea]; rfl
        refine ⟨_, rfl, _, _, a, rfl, rfl, ll, at0, rfl, decide (a = 48), ?_, ?_⟩
        · rw [show (Str.ofString "0") = mkS [48] by decide +kernel]
          exact sgn_eq a 48
        refine ite2 (fun a48 => ?_) (fun a48 => ?_)
        · refine iteT (bad ?_)
          unfold stepR
          rw [if_neg c1, if_neg en, if_pos cd, if_pos (.inl (by rw [hd, of_decide_eq_true a48]))]
        · have a48 : a ≠ 48 := by simpa using a48
          refine ⟨_, rfl, _, rfl, ll, _, _, rfl, rfl, _, rfl, ?_⟩
          refine ite2 (fun l40 => ?_) (fun l40 => ?_)
          · refine bad ?_
            have z := of_decide_eq_true l40
            rw [mkS_len] at z
            unfold stepR
            rw [if_neg c1, if_neg en, if_pos cd, if_pos (.inr (by omega))]
          · have z : ¬ (40 : Int) < ((mkS (s.ds ++ [c])).length : Int) := by simpa using l40
            rw [mkS_len] at z
            have st : stepR s c = some ⟨s.cs, s.ds ++ [c], true⟩ := by
              unfold stepR
              rw [if_neg c1, if_neg en, if_pos cd, if_neg (fun y => y.elim (fun y => a48 (Option.some.inj (hd.symm.trans y))) fun y => by omega)]
            refine ⟨⟨s.cs, s.ds ++ [c], true⟩, ys, some (.str (mkS [c])), ?_, s1, hl, hys, stepR_good g st, next _ st, by show s.cs.length ≤ i + 1; omega⟩
            rw [et]
            rfl
      have cd : ¬ c ∈ digLst := by simpa using cd
      -- sign in 'HE' and digits == ''
      have dsn : ∀ b : Bool, b = decide (s.ds = []) → V.bl (decide (V.str (mkS s.ds) = V.str (Str.ofString ""))) = V.bl b := fun b hb => by
        rw [hb, show (Str.ofString "") = mkS [] by decide +kernel]
        congr 1
        exact decide_eq_decide.mpr ⟨fun z => mkS_inj (V.str.inj z), fun z => by rw [z]⟩
      refine and_two (decide (c ∈ [72, 69])) (decide (s.ds = [])) (fun R h => ⟨_, rfl, c, _, rfl, rfl, _, by rw [show (Str.ofString "HE").cps.toList = [72, 69] by decide +kernel], h⟩) (fun R h => ⟨_, rfl, rfl, _, dsn _ rfl, h⟩) ?_
      refine ite2 (fun c2 => ?_) (fun c2 => ?_)
      · obtain ⟨c2, ds0⟩ : c ∈ [72, 69] ∧ s.ds = [] := by simpa using c2
        have st : stepR s c = some ⟨s.cs ++ [loneC c], s.ds, false⟩ := by
          unfold stepR
          rw [if_neg c1, if_neg en, if_neg cd, if_pos ⟨c2, ds0⟩]
        have nx := next _ st
        have gd := stepR_good g st
        simp only [List.mem_cons, List.not_mem_nil, or_false] at c2
        rcases c2 with rfl | rfl
        · refine ⟨_, rfl, .inl ⟨rfl, _, SqL.of hl⟩, ?_⟩
          refine fun p hp => ⟨upd_same, loneK, rfl, by decide, ?_⟩
          generalize g2 : upd (upd H' p (.dK [])) p (.dK (mergeK [] loneK)) = H2
          have e2 : Same H' H2 := by rw [← g2]; exact same_freeU (same_freeU (Same.refl _) hp) hp
          have f2 : H2 p = some (.dK loneK) := by rw [← g2]; exact upd_same
          refine ⟨_, rfl, p, _, rfl, getK f2 (show valV loneK (.inr (⟨#[72]⟩ : Str) : L2.Key) = some (.str (nameC .home)) by decide +kernel), (by show 1 ≤ sizeLine; decide), fun q nq => ?_⟩
          have e3 : Same H2 (upd H2 q (.tup [.str (nameC .home)])) := new_same nq
          have q3 : (upd H2 q (.tup [.str (nameC .home)])) q = some (.tup (encC .home)) := upd_same
          have e13 := e2.trans e3
          refine ⟨l, ys, .ref q, rfl, rfl, e13 _ _ hl, lt_line (by omega), ?_⟩
          refine ⟨⟨s.cs ++ [loneC 72], s.ds, false⟩, ys ++ [.ref q], _, rfl, same_freeU (s1.trans e13) nl, upd_same, (hys.same e13).snoc (e13 _ _ hl) q3, gd, nx, ?_⟩
          show (s.cs ++ [_]).length ≤ i + 1
          rw [List.length_append]
          exact Nat.succ_le_succ cl
        · refine ⟨_, rfl, .inl ⟨rfl, _, SqL.of hl⟩, ?_⟩
          refine fun p hp => ⟨upd_same, loneK, rfl, by decide, ?_⟩
          generalize g2 : upd (upd H' p (.dK [])) p (.dK (mergeK [] loneK)) = H2
          have e2 : Same H' H2 := by rw [← g2]; exact same_freeU (same_freeU (Same.refl _) hp) hp
          have f2 : H2 p = some (.dK loneK) := by rw [← g2]; exact upd_same
          refine ⟨_, rfl, p, _, rfl, getK f2 (show valV loneK (.inr (⟨#[69]⟩ : Str) : L2.Key) = some (.str (nameC .stop)) by decide +kernel), (by show 1 ≤ sizeLine; decide), fun q nq => ?_⟩
          have e3 : Same H2 (upd H2 q (.tup [.str (nameC .stop)])) := new_same nq
          have q3 : (upd H2 q (.tup [.str (nameC .stop)])) q = some (.tup (encC .stop)) := upd_same
          have e13 := e2.trans e3
          refine ⟨l, ys, .ref q, rfl, rfl, e13 _ _ hl, lt_line (by omega), ?_⟩
          refine ⟨⟨s.cs ++ [loneC 69], s.ds, false⟩, ys ++ [.ref q], _, rfl, same_freeU (s1.trans e13) nl, upd_same, (hys.same e13).snoc (e13 _ _ hl) q3, gd, nx, ?_⟩
          show (s.cs ++ [_]).length ≤ i + 1
          rw [List.length_append]
          exact Nat.succ_le_succ cl
      have c2 : ¬ (c ∈ [72, 69] ∧ s.ds = []) := by simpa using c2
      refine and_two (decide (c ∈ [68, 85, 82, 76])) (!decide (s.ds = [])) (fun R h => ⟨_, rfl, c, _, rfl, rfl, _, by rw [show (Str.ofString "DURL").cps.toList = [68, 85, 82, 76] by decide +kernel], h⟩) (fun R h => ⟨_, rfl, rfl, _, ?_, h⟩) ?_
      · have z : decide (V.str (mkS s.ds) = V.str (Str.ofString "")) = decide (s.ds = []) := V.bl.inj (dsn _ rfl)
        rw [z]
      refine ite2 (fun c4 => ?_) (fun c4 => ?_)
      · obtain ⟨c4, ds0⟩ : c ∈ [68, 85, 82, 76] ∧ s.ds ≠ [] := by simpa using c4
        have st : stepR s c = some ⟨s.cs ++ [numC1 c (valD s.ds)], [], false⟩ := by
          unfold stepR
          rw [if_neg c1, if_neg en, if_neg cd, if_neg c2, if_pos ⟨c4, ds0⟩]
        have nx := next _ st
        have gd := stepR_good g st
        obtain ⟨n1, n2, n3⟩ := g.2.2.1.num ds0
        have hi : PySem.intText? (mkS s.ds) = some ((valD s.ds : Nat) : Int) := by
          have z := int_mk (valD s.ds) (by rw [n2]; omega)
          rw [n2] at z
          exact z
        simp only [List.mem_cons, List.not_mem_nil, or_false] at c4
        rcases c4 with rfl | rfl | rfl | rfl
        · refine ⟨_, rfl, .inl ⟨rfl, _, SqL.of hl⟩, ?_⟩
          refine fun p hp => ⟨upd_same, numK, rfl, by decide, ?_⟩
          generalize g2 : upd (upd H' p (.dK [])) p (.dK (mergeK [] numK)) = H2
          have e2 : Same H' H2 := by rw [← g2]; exact same_freeU (same_freeU (Same.refl _) hp) hp
          have f2 : H2 p = some (.dK numK) := by rw [← g2]; exact upd_same
          refine ⟨_, rfl, p, _, rfl, getK f2 (show valV numK (.inr (⟨#[68]⟩ : Str) : L2.Key) = some (.str (nameC (.down (valD s.ds : Nat)))) by show _ = some (V.str "down"); decide +kernel), ?_⟩
          refine ⟨_, rfl, _, _, rfl, hi, by rw [mkS_len]; omega, (by show 2 ≤ sizeLine; decide), fun q nq => ?_⟩
          have e3 : Same H2 (upd H2 q (.tup [.str (nameC (.down (valD s.ds : Nat))), .int (valD s.ds : Nat)])) := new_same nq
          have q3 : (upd H2 q (.tup [.str (nameC (.down (valD s.ds : Nat))), .int (valD s.ds : Nat)])) q = some (.tup (encC (.down (valD s.ds : Nat)))) := upd_same
          have e13 := e2.trans e3
          refine ⟨l, ys, .ref q, rfl, rfl, e13 _ _ hl, lt_line (by omega), ?_⟩
          have cm := (hys.same e13).snoc (c := .down (valD s.ds : Nat)) (e13 _ _ hl) q3
          have s4 : Same H (upd (upd H2 q (.tup [.str (nameC (.down (valD s.ds : Nat))), .int (valD s.ds : Nat)])) l (.lst (ys ++ [.ref q]))) := same_freeU (s1.trans e13) nl
          have hl4 : (upd (upd H2 q (.tup [.str (nameC (.down (valD s.ds : Nat))), .int (valD s.ds : Nat)])) l (.lst (ys ++ [.ref q]))) l = some (.lst (ys ++ [.ref q])) := upd_same
          refine ⟨(by show 2 ≤ sizeLine; decide), fun u nu => ?_⟩
          have e5 := new_same (o := .tup [.str "", .bl false]) nu
          refine ⟨u, _, rfl, SqT.of upd_same, rfl, _, _, rfl, _, _, rfl, rfl, ?_⟩
          refine ⟨⟨s.cs ++ [numC1 68 (valD s.ds)], [], false⟩, ys ++ [.ref q], some (.str ⟨#[68]⟩), ?_, s4.trans e5, e5 _ _ hl4, cm.same e5, gd, nx, ?_⟩
          · rw [show (Str.ofString "") = mkS [] by decide +kernel]
            rfl
          show (s.cs ++ [_]).length ≤ i + 1
          rw [List.length_append]
          exact Nat.succ_le_succ cl
        · refine ⟨_, rfl, .inl ⟨rfl, _, SqL.of hl⟩, ?_⟩
          refine fun p hp => ⟨upd_same, numK, rfl, by decide, ?_⟩
          generalize g2 : upd (upd H' p (.dK [])) p (.dK (mergeK [] numK)) = H2
          have e2 : Same H' H2 := by rw [← g2]; exact same_freeU (same_freeU (Same.refl _) hp) hp
          have f2 : H2 p = some (.dK numK) := by rw [← g2]; exact upd_same
          refine ⟨_, rfl, p, _, rfl, getK f2 (show valV numK (.inr (⟨#[85]⟩ : Str) : L2.Key) = some (.str (nameC (.up (valD s.ds : Nat)))) by show _ = some (V.str "up"); decide +kernel), ?_⟩
          refine ⟨_, rfl, _, _, rfl, hi, by rw [mkS_len]; omega, (by show 2 ≤ sizeLine; decide), fun q nq => ?_⟩
          have e3 : Same H2 (upd H2 q (.tup [.str (nameC (.up (valD s.ds : Nat))), .int (valD s.ds : Nat)])) := new_same nq
          have q3 : (upd H2 q (.tup [.str (nameC (.up (valD s.ds : Nat))), .int (valD s.ds : Nat)])) q = some (.tup (encC (.up (valD s.ds : Nat)))) := upd_same
          have e13 := e2.trans e3
          refine ⟨l, ys, .ref q, rfl, rfl, e13 _ _ hl, lt_line (by omega), ?_⟩
          have cm := (hys.same e13).snoc (c := .up (valD s.ds : Nat)) (e13 _ _ hl) q3
          have s4 : Same H (upd (upd H2 q (.tup [.str (nameC (.up (valD s.ds : Nat))), .int (valD s.ds : Nat)])) l (.lst (ys ++ [.ref q]))) := same_freeU (s1.trans e13) nl
          have hl4 : (upd (upd H2 q (.tup [.str (nameC (.up (valD s.ds : Nat))), .int (valD s.ds : Nat)])) l (.lst (ys ++ [.ref q]))) l = some (.lst (ys ++ [.ref q])) := upd_same
          refine ⟨(by show 2 ≤ sizeLine; decide), fun u nu => ?_⟩
          have e5 := new_same (o := .tup [.str "", .bl false]) nu
          refine ⟨u, _, rfl, SqT.of upd_same, rfl, _, _, rfl, _, _, rfl, rfl, ?_⟩
          refine ⟨⟨s.cs ++ [numC1 85 (valD s.ds)], [], false⟩, ys ++ [.ref q], some (.str ⟨#[85]⟩), ?_, s4.trans e5, e5 _ _ hl4, cm.same e5, gd, nx, ?_⟩
          · rw [show (Str.ofString "") = mkS [] by decide +kernel]
            rfl
          show (s.cs ++ [_]).length ≤ i + 1
          rw [List.length_append]
          exact Nat.succ_le_succ cl
        · refine ⟨_, rfl, .inl ⟨rfl, _, SqL.of hl⟩, ?_⟩
          refine fun p hp => ⟨upd_same, numK, rfl, by decide, ?_⟩
          generalize g2 : upd (upd H' p (.dK [])) p (.dK (mergeK [] numK)) = H2
          have e2 : Same H' H2 := by rw [← g2]; exact same_freeU (same_freeU (Same.refl _) hp) hp
          have f2 : H2 p = some (.dK numK) := by rw [← g2]; exact upd_same
          refine ⟨_, rfl, p, _, rfl, getK f2 (show valV numK (.inr (⟨#[82]⟩ : Str) : L2.Key) = some (.str (nameC (.right (valD s.ds : Nat)))) by show _ = some (V.str "right"); decide +kernel), ?_⟩
          refine ⟨_, rfl, _, _, rfl, hi, by rw [mkS_len]; omega, (by show 2 ≤ sizeLine; decide), fun q nq => ?_⟩
          have e3 : Same H2 (upd H2 q (.tup [.str (nameC (.right (valD s.ds : Nat))), .int (valD s.ds : Nat)])) := new_same nq
          have q3 : (upd H2 q (.tup [.str (nameC (.right (valD s.ds : Nat))), .int (valD s.ds : Nat)])) q = some (.tup (encC (.right (valD s.ds : Nat)))) := upd_same
          have e13 := e2.trans e3
          refine ⟨l, ys, .ref q, rfl, rfl, e13 _ _ hl, lt_line (by omega), ?_⟩
          have cm := (hys.same e13).snoc (c := .right (valD s.ds : Nat)) (e13 _ _ hl) q3
          have s4 : Same H (upd (upd H2 q (.tup [.str (nameC (.right (valD s.ds : Nat))), .int (valD s.ds : Nat)])) l (.lst (ys ++ [.ref q]))) := same_freeU (s1.trans e13) nl
          have hl4 : (upd (upd H2 q (.tup [.str (nameC (.right (valD s.ds : Nat))), .int (valD s.ds : Nat)])) l (.lst (ys ++ [.ref q]))) l = some (.lst (ys ++ [.ref q])) := upd_same
          refine ⟨(by show 2 ≤ sizeLine; decide), fun u nu => ?_⟩
          have e5 := new_same (o := .tup [.str "", .bl false]) nu
          refine ⟨u, _, rfl, SqT.of upd_same, rfl, _, _, rfl, _, _, rfl, rfl, ?_⟩
          refine ⟨⟨s.cs ++ [numC1 82 (valD s.ds)], [], false⟩, ys ++ [.ref q], some (.str ⟨#[82]⟩), ?_, s4.trans e5, e5 _ _ hl4, cm.same e5, gd, nx, ?_⟩
          · rw [show (Str.ofString "") = mkS [] by decide +kernel]
            rfl
          show (s.cs ++ [_]).length ≤ i + 1
          rw [List.length_append]
          exact Nat.succ_le_succ cl
        · refine ⟨_, rfl, .inl ⟨rfl, _, SqL.of hl⟩, ?_⟩
          refine fun p hp => ⟨upd_same, numK, rfl, by decide, ?_⟩
          generalize g2 : upd (upd H' p (.dK [])) p (.dK (mergeK [] numK)) = H2
          have e2 : Same H' H2 := by rw [← g2]; exact same_freeU (same_freeU (Same.refl _) hp) hp
          have f2 : H2 p = some (.dK numK) := by rw [← g2]; exact upd_same
          refine ⟨_, rfl, p, _, rfl, getK f2 (show valV numK (.inr (⟨#[76]⟩ : Str) : L2.Key) = some (.str (nameC (.left (valD s.ds : Nat)))) by show _ = some (V.str "left"); decide +kernel), ?_⟩
          refine ⟨_, rfl, _, _, rfl, hi, by rw [mkS_len]; omega, (by show 2 ≤ sizeLine; decide), fun q nq => ?_⟩
          have e3 : Same H2 (upd H2 q (.tup [.str (nameC (.left (valD s.ds : Nat))), .int (valD s.ds : Nat)])) := new_same nq
          have q3 : (upd H2 q (.tup [.str (nameC (.left (valD s.ds : Nat))), .int (valD s.ds : Nat)])) q = some (.tup (encC (.left (valD s.ds : Nat)))) := upd_same
          have e13 := e2.trans e3
          refine ⟨l, ys, .ref q, rfl, rfl, e13 _ _ hl, lt_line (by omega), ?_⟩
          have cm := (hys.same e13).snoc (c := .left (valD s.ds : Nat)) (e13 _ _ hl) q3
          have s4 : Same H (upd (upd H2 q (.tup [.str (nameC (.left (valD s.ds : Nat))), .int (valD s.ds : Nat)])) l (.lst (ys ++ [.ref q]))) := same_freeU (s1.trans e13) nl
          have hl4 : (upd (upd H2 q (.tup [.str (nameC (.left (valD s.ds : Nat))), .int (valD s.ds : Nat)])) l (.lst (ys ++ [.ref q]))) l = some (.lst (ys ++ [.ref q])) := upd_same
          refine ⟨(by show 2 ≤ sizeLine; decide), fun u nu => ?_⟩
          have e5 := new_same (o := .tup [.str "", .bl false]) nu
          refine ⟨u, _, rfl, SqT.of upd_same, rfl, _, _, rfl, _, _, rfl, rfl, ?_⟩
          refine ⟨⟨s.cs ++ [numC1 76 (valD s.ds)], [], false⟩, ys ++ [.ref q], some (.str ⟨#[76]⟩), ?_, s4.trans e5, e5 _ _ hl4, cm.same e5, gd, nx, ?_⟩
          · rw [show (Str.ofString "") = mkS [] by decide +kernel]
            rfl
          show (s.cs ++ [_]).length ≤ i + 1
          rw [List.length_append]
          exact Nat.succ_le_succ cl
      · have c4 : ¬ (c ∈ [68, 85, 82, 76] ∧ s.ds ≠ []) := by simpa using c4
        refine bad ?_
        unfold stepR
        rw [if_neg c1, if_neg en, if_neg cd, if_neg c2, if_neg c4]
    · obtain ⟨s, ys, v4, rfl, s1, hl, hys, g, fo, cl⟩ := h
      rw [List.take_of_length_le (Nat.le_of_eq (by show (t ++ [32]).length = (t ++ [32]).toArray.size; simp))] at fo
      obtain ⟨ne, r1, r2, r3⟩ := read_sound fo
      refine ⟨_, rfl, kS s.cs r1 r2 ?_ H' l ys s1 nl hl hys⟩
      unfold shownL
      rw [if_neg ne]
      exact r3
end
end Gc

/-! what is read, or the error in a tuple -/
namespace Gc
open PySem L2 TL
abbrev s_told : Stmt := top 26
abbrev s_right : Stmt := top 27
structure TxtTo (K : PySem.W.Frag) (mg : Str → Option Value) (CE CR : Addr) : Prop where
  g_CursorError : mg "CursorError" = some (.ref CE)
  tuple : mg "tuple" = none
  ex : PySem.W.exmOne K (.ref CR) (.ref CE) = some true
def spTold (K : PySem.W.Frag) : Sp := fun vs H Q _ => ∃ z : Str, vs = [.str z] ∧ z.length ≤ 1900 ∧
  (∀ (cs : List Cmd) (H' : Hp) (p : Addr) (xs : List V), AllOk cs → (∀ c ∈ cs, numC c < 10 ^ 40) → cs.length ≤ 1000 → z = shownS cs → Same H H' → H p = none → H' p = some (.lst xs) → CmdsOf K H' xs cs → Q (.ref p) H') ∧
  (NoCmd z → ∀ (H' : Hp) (p : Addr), Same H H' → H p = none → H' p = some (.tup [.str "Unreadable", .str z, .bl true]) → Q (.ref p) H')
def spRight1 : Sp := fun vs H Q _ => ∃ z : Str, vs = [.str z] ∧ z.length ≤ 1900 ∧ ∀ H', Same H H' → Q (.bl true) H'
theorem widT_cmds (cs : List Cmd) : widAll (cs.map cmdD) ≤ 2 := by
  induction cs with
  | nil => exact Nat.zero_le _
  | cons c cs ih =>
    rw [List.map_cons, widAll]
    have : wid (cmdD c) ≤ 2 := by cases c <;> simp [cmdD, wid, widAll]
    omega
section
variable {P : Program} {w : World} {K : PySem.W.Frag} {mg : Str → Option Value} {base : Heap} {CE CR : Addr} {cs : Nat → Addr} {R : Nat → Prop}
theorem sc_law_told : FnScope ["note", "caught", "found", "e"] ["note"] (defScope s_told) := ⟨rfl, rfl, rfl, by decide +kernel, rfl, by decide +kernel, by decide +kernel⟩
theorem ok_told {f : Addr} {fd : FuncData} (F : Fun K "_law_told" "_law_told" s_told f fd) (T : TxtTo K mg CE CR) (eR : CR = cs 6) (r6 : R 6) (c_read_commands : CalXN P w K mg base 3 "read_commands" (zReadU K CR)) (c_law_error : CalN P w K mg base 1 "_law_error" (spErrE cs R)) : FnOk P w K mg base CX0 4 f fd ["note"] (spTold K) := by
  refine F.ok sc_law_told (fun vs H Q E h => ?_) (fun cdv A outer s H vs Q E hr h => ?_)
  · obtain ⟨z, rfl, _⟩ := h
    rfl
  · obtain ⟨z, rfl, hz, kS, kN⟩ := h
    refine ⟨_, (pss_cons (ps_asg (pe_tup (pa_cons pe_non (pa_cons pe_non pa_nil))) (pg_tup rfl (pgs_cons (pg_name (i := 1) sc_law_told.nd rfl (Or.inl rfl)) (pgs_cons (pg_name (i := 2) sc_law_told.nd rfl (Or.inl rfl)) pgs_nil))))
      (pss_cons (L2N.ps_try_as (i := 3) rfl rfl sc_law_told.nd rfl rfl ⟨rfl, by decide, .inl T.g_CursorError⟩ takesNoneN (fun W pn xe tk _ => (pss_one (ps_set (i := 2) sc_law_told.nd rfl (Or.inl rfl) (pe_calXN tk c_read_commands hr (by decide) (by rfl) (pa_cons (pv 0) pa_nil))))) (fun a oe cls d pn hz hf => (pss_one (ps_set (i := 1) sc_law_told.nd rfl (Or.inl rfl) (pe_callEN c_law_error hr (by decide) hz hf (by rfl) (pa_cons (pv 3) pa_nil))))))
      (pss_one (ps_ret (pe_ifExp (pt_cmpR op_isN (pv 1) pe_non (nomark _)) (pv 2) (pe_callTy call_tuple_of (by rfl) T.tuple (by decide +kernel) (pa_cons (pv 1) pa_nil))))))), ?_⟩
    refine ⟨(by show 2 ≤ sizeLine; decide), fun q nq => ?_⟩
    have e0 : Same H (upd H q (.tup [.non, .non])) := new_same nq
    refine ⟨q, _, rfl, SqT.of upd_same, rfl, _, _, rfl, _, _, rfl, rfl, ?_⟩
    refine ⟨_, rfl, ask_readU hz (fun no H' d e nd => ?_) fun H1 p xs cs e1 np hp hc ok hn ln ez => ?_⟩
    · refine ⟨true, T.ex, fun _ a ha => ?_, fun q => nomatch q⟩
      refine ⟨_, rfl, CR, d, rfl, rfl, 6, .str z, rfl, r6, eR, upd_same, fun H2 p2 e2 np2 h2 => ?_⟩
      have s2 : Same H H2 := (e0.trans (e.trans (new_same nd))).trans e2
      refine ⟨_, rfl, rfl, _, rfl, iteF ?_⟩
      refine ⟨_, rfl, p2, [.str "Unreadable", .str z, .bl true], rfl, .inl ⟨SqL.of h2, fun l nl => ?_⟩⟩
      exact kN no _ l (s2.trans (new_same nl)) (s2.free nl) upd_same
    · refine ⟨_, rfl, rfl, _, rfl, iteT ?_⟩
      exact ⟨_, rfl, kS cs H1 p xs ok hn ln ez (e0.trans e1) (e0.free np) hp hc⟩
theorem sc_law_right : FnScope ["note", "due", "told"] ["note"] (defScope s_right) := ⟨rfl, rfl, rfl, by decide +kernel, rfl, by decide +kernel, by decide +kernel⟩
theorem ok_right1 {f : Addr} {fd : FuncData} (F : Fun K "_law_right" "_law_right" s_right f fd) (c_law_read : Cal P w K mg base 1 "_law_read" (spLRead K)) (c_law_told : Cal P w K mg base 4 "_law_told" (spTold K)) (c_law_same : Cal P w K mg base 4 "_law_same" (spSame K 3)) (k_read_commands : CalK P w K mg base 3 "read_commands" ["text"] (zRead K)) : FnOk P w K mg base CX0 5 f fd ["note"] spRight1 := by
  refine F.ok sc_law_right (fun vs H Q E h => ?_) (fun cdv A outer s H vs Q E hr h => ?_)
  · obtain ⟨z, rfl, _⟩ := h
    rfl
  · obtain ⟨z, rfl, hz, k⟩ := h
    refine ⟨_, (pss_cons (ps_par (i := 1) (j := 2) rfl sc_law_right.nd rfl rfl (by decide) rfl rfl (pa_cons (pe_cal c_law_read hr (by decide) (by rfl) (pa_cons (pv 0) pa_nil)) (pa_cons (pe_cal c_law_told hr (by decide) (by rfl) (pa_cons (pv 0) pa_nil)) pa_nil)) (by rfl))
      (pss_cons (ps_if (pt_cmpR op_isN (pv 1) pe_non (nomark _)) (pss_one (ps_ret (pe_cal c_law_same hr (by decide) (by rfl) (pa_cons (pv 2) (pa_cons (pe_tup (pa_cons pe_str (pa_cons (pv 0) (pa_cons pe_bl pa_nil)))) pa_nil))))) pss_nil)
      (pss_cons (ps_if (pt_not (pt_val (pe_cal c_law_same hr (by decide) (by rfl) (pa_cons (pv 2) (pa_cons (pv 1) pa_nil))))) (pss_one (ps_ret pe_bl)) pss_nil)
      (pss_cons (ps_expr (pe_bm PySem.F.plainAttrs_list PySem.F.slot_list_append PySem.F.type_list_append mt_append (pv 2) (pa_cons pe_int pa_nil)))
      (pss_one (ps_ret (pe_cal c_law_same hr (by decide) (by rfl) (pa_cons (pe_calK k_read_commands hr (by decide) (by rfl) (pk_cons (pv 0) pk_nil)) (pa_cons (pv 1) pa_nil))))))))), ?_⟩
    have ez : mkS (tl z) = z := ext_tl rfl
    have tz : (tl z).length ≤ 50000 := by
      have := mkS_len (tl z)
      rw [ez] at this
      omega
    refine ⟨_, rfl, tl z, by rw [ez]; rfl, tz, fun cs ok hn e H1 p xs e1 np hp hc => ?_, fun no H1 e1 => ?_⟩
    · have es : z = shownS cs := by
        rw [← ez, e]
        rfl
      refine ⟨_, rfl, z, rfl, hz, fun ds H2 p2 xs2 ok2 hn2 ln2 e2 s2 np2 hp2 hc2 => ?_, fun no => absurd es (no cs ok hn)⟩
      have eds : ds = cs := shownS_inj ok2 ok (e2.symm.trans es)
      subst eds
      have pp : p ≠ p2 := ne_of_none hp np2
      have dep : (PyData.list (ds.map cmdD)).depth < 3 := by
        have := depth_cmds ds
        simp only [PyData.depth]
        omega
      have wd : wid (PyData.list (ds.map cmdD)) ≤ 1000 := by
        have := widT_cmds ds
        simp only [wid, List.length_map]
        omega
      refine ⟨_, _, rfl, ?_⟩
      refine ⟨_, rfl, rfl, _, rfl, iteF ?_⟩
      refine ⟨_, rfl, _, rfl, .ref p2, .ref p, .list (ds.map cmdD), rfl, .lst (SqL.of hp2) hc2.dp, .lst (SqL.of (s2 _ _ hp)) (hc.same s2).dp, dep, wd, fun H3 e3 => ⟨_, rfl, iteF ?_⟩⟩
      have s3 := (e1.trans s2).trans e3
      have hp3 := e3 _ _ hp2
      refine ⟨_, rfl, .inl ⟨rfl, _, SqL.of hp3⟩, p2, xs2, .int 1, rfl, rfl, hp3, lt_line (by have := hc2.len; omega), ?_⟩
      have s4 : Same H (upd H3 p2 (.lst (xs2 ++ [.int 1]))) := same_freeU s3 (e1.free np2)
      have hp4 : (upd H3 p2 (.lst (xs2 ++ [.int 1]))) p = some (.lst xs) := by rw [upd_ne pp]; exact e3 _ _ (s2 _ _ hp)
      have hc4 : CmdsOf K (upd H3 p2 (.lst (xs2 ++ [.int 1]))) xs ds := CmdsOf.atL hp3 ((hc.same s2).same e3)
      rw [es]
      refine ⟨_, rfl, ask_readK ok hn ln2 fun H5 p5 xs5 e5 np5 hp5 hc5 => ?_⟩
      exact ⟨_, rfl, .ref p5, .ref p, .list (ds.map cmdD), rfl, .lst (SqL.of hp5) hc5.dp, .lst (SqL.of (e5 _ _ hp4)) (hc4.same e5).dp, dep, wd, fun H6 e6 => k H6 ((s4.trans e5).trans e6)⟩
    · have noc : NoCmd z := fun cs ok hn h => no cs ok hn (by rw [h]; rfl)
      refine ⟨_, rfl, z, rfl, hz, fun cs H2 p2 xs2 ok2 hn2 ln2 e2 _ _ _ _ => absurd e2 (noc cs ok2 hn2), fun _ H2 p2 s2 np2 h2 => ?_⟩
      refine ⟨_, _, rfl, ?_⟩
      refine ⟨_, rfl, rfl, _, rfl, iteT ?_⟩
      refine ⟨_, rfl, _, rfl, (by show 3 ≤ sizeLine; decide), fun q nq => ?_⟩
      have e3 : Same H2 (upd H2 q (.tup [.str "Unreadable", .str z, .bl true])) := new_same nq
      refine ⟨.ref p2, .ref q, .tuple [.str "Unreadable", .str z, .bool true], rfl, .tup (SqT.of (e3 _ _ h2)) (.cons (.str _) (.cons (.str _) (.cons (.bl _) .nil))), .tup (SqT.of upd_same) (.cons (.str _) (.cons (.str _) (.cons (.bl _) .nil))), ?_, ?_, fun H4 e4 => k H4 (((e1.trans s2).trans e3).trans e4)⟩
      · simp [PyData.depth, PyData.depthAll]
      · simp [wid, widAll]
end
end Gc

/-! numbers and commands drawn from the source -/
namespace Gc
open PySem L2
abbrev s_number : Stmt := top 20
abbrev s_command : Stmt := top 21
theorem Src.cmd {K : PySem.W.Frag} {H H' : Hp} {a d : Addr} {n : Nat} {v : V} {c : Cmd} (B : Src H a d n) (e : Keep a d H H') (h : CmdAt K H v c) : CmdAt K H' v c := by
  obtain ⟨b, e1, h1⟩ := h
  exact ⟨b, e1, B.tup e h1⟩
theorem Src.cmds {K : PySem.W.Frag} {H H' : Hp} {a d : Addr} {n : Nat} {xs : List V} {cs : List Cmd} (B : Src H a d n) (e : Keep a d H H') (h : CmdsOf K H xs cs) : CmdsOf K H' xs cs := Paired.mapP h fun _ _ q => B.cmd e q
theorem Keep.free {a d p : Addr} {H H' : Hp} (e : Keep a d H H') (h1 : p ≠ a) (h2 : p ≠ d) (h : H' p = none) : H p = none := by
  cases q : H p with
  | none => rfl
  | some o =>
    rw [e p o h1 h2 q] at h
    cases h
def spNumber : Sp := fun vs H Q _ => ∃ (a d : Addr) (n : Nat), vs = [.ref a] ∧ Src H a d n ∧ n < 2 ^ 39 ∧ ∀ (H' : Hp) (r : Int), Keep a d H H' → Src H' a d (n + 2) → 1 ≤ r → r ≤ 10 ^ 30 - 1 → Q (.int r) H'
def spCommand (K : PySem.W.Frag) : Sp := fun vs H Q _ => ∃ (a d : Addr) (n : Nat), vs = [.ref a] ∧ Src H a d n ∧ n < 2 ^ 38 ∧ ∀ (H' : Hp) (p : Addr) (c : Cmd), Keep a d H H' → Src H' a d (n + 5) → H p = none → H' p = some (.tup (encC c)) → c.ok → numC c ≤ 10 ^ 30 - 1 → Q (.ref p) H'
def nameL : List V := [.str "down", .str "up", .str "right", .str "left", .str "right", .str "left", .str "home", .str "end"]
section
variable {P : Program} {w : World} {K : PySem.W.Frag} {mg : Str → Option Value} {base : Heap}
theorem sc_law_number : FnScope ["source"] ["source"] (defScope s_number) := ⟨rfl, rfl, rfl, by decide +kernel, rfl, by decide +kernel, by decide +kernel⟩
theorem ok_number {f : Addr} {fd : FuncData} (F : Fun K "_law_number" "_law_number" s_number f fd) (c_law_draw : Cal P w K mg base 1 "_law_draw" spDraw) : FnOk P w K mg base CX0 2 f fd ["source"] spNumber := by
  refine F.ok sc_law_number (fun vs H Q E h => ?_) (fun cdv A outer s H vs Q E hr h => ?_)
  · obtain ⟨a, d, n, rfl, _⟩ := h
    rfl
  · obtain ⟨a, d, n, rfl, hs, hn, k⟩ := h
    refine ⟨_, (pss_one (ps_ret (pe_op op_add pe_int (pe_cal c_law_draw hr (by decide) (by rfl) (pa_cons (pv 0) (pa_cons (pe_ix ix_list (pe_lst (pa_cons pe_int (pa_cons pe_int (pa_cons pe_int (pa_cons pe_int (pa_cons (pe_op op_sub (pe_op op_pow pe_int pe_int) pe_int) pa_nil)))))) (pe_cal c_law_draw hr (by decide) (by rfl) (pa_cons (pv 0) (pa_cons pe_int pa_nil))) (fun _ _ => rfl)) pa_nil)))))), ?_⟩
    refine ⟨_, rfl, _, _, rfl, rfl, cpow (by decide), _, _, rfl, rfl, (by show 5 ≤ sizeLine; decide), fun p hp => ?_⟩
    obtain ⟨pa, pd⟩ := hs.off hp
    have e1 : Same H (upd H p (.lst [.int 3, .int 6, .int 12, .int 300, .int (10 ^ (30 : Int).toNat - 1)])) := new_same hp
    refine ⟨_, rfl, a, d, n, 5, rfl, hs.same e1, by omega, by decide, by decide, fun H2 r kp2 s2 r0 r1 => ?_⟩
    have hp2 := kp2 _ _ pa pd upd_same
    have z : (10 : Int) ^ (30 : Int).toNat = 10 ^ 30 := by decide
    obtain ⟨m, hm, m1, m2⟩ : ∃ m : Int, atI [V.int 3, .int 6, .int 12, .int 300, .int (10 ^ (30 : Int).toNat - 1)] r = some (.int m) ∧ 1 ≤ m ∧ m ≤ 10 ^ 30 - 1 := by
      rcases (show r = 0 ∨ r = 1 ∨ r = 2 ∨ r = 3 ∨ r = 4 by omega) with rfl | rfl | rfl | rfl | rfl
      · exact ⟨3, rfl, by decide, by decide⟩
      · exact ⟨6, rfl, by decide, by decide⟩
      · exact ⟨12, rfl, by decide, by decide⟩
      · exact ⟨300, rfl, by decide, by decide⟩
      · exact ⟨_, rfl, by decide, by decide⟩
    refine ⟨p, _, r, _, rfl, rfl, SqL.of hp2, hm, ?_⟩
    refine ⟨a, d, _, m, rfl, s2, by omega, by omega, log9 (a := 110) (by omega) (by decide), fun H3 r3 kp3 s3 r30 r31 => ?_⟩
    exact ⟨_, _, rfl, rfl, k H3 _ (((Keep.of e1).trans kp2).trans kp3) s3 (by omega) (by omega)⟩
theorem sc_law_command : FnScope ["source", "name"] ["source"] (defScope s_command) := ⟨rfl, rfl, rfl, by decide +kernel, rfl, by decide +kernel, by decide +kernel⟩
theorem ok_command {f : Addr} {fd : FuncData} (F : Fun K "_law_command" "_law_command" s_command f fd) (c_law_draw : Cal P w K mg base 1 "_law_draw" spDraw) (c_law_number : Cal P w K mg base 2 "_law_number" spNumber) : FnOk P w K mg base CX0 3 f fd ["source"] (spCommand K) := by
  refine F.ok sc_law_command (fun vs H Q E h => ?_) (fun cdv A outer s H vs Q E hr h => ?_)
  · obtain ⟨a, d, n, rfl, _⟩ := h
    rfl
  · obtain ⟨a, d, n, rfl, hs, hn, k⟩ := h
    refine ⟨_, (pss_cons (ps_set (i := 1) sc_law_command.nd rfl (Or.inl rfl) (pe_ix ix_list (pe_lst (pa_cons pe_str (pa_cons pe_str (pa_cons pe_str (pa_cons pe_str (pa_cons pe_str (pa_cons pe_str (pa_cons pe_str (pa_cons pe_str pa_nil))))))))) (pe_cal c_law_draw hr (by decide) (by rfl) (pa_cons (pv 0) (pa_cons pe_int pa_nil))) (fun _ _ => rfl)))
      (pss_cons (ps_if (pt_cmpR op_in_seq (pv 1) (pe_tup (pa_cons pe_str (pa_cons pe_str pa_nil))) (by rfl)) (pss_one (ps_ret (pe_tup (pa_cons (pv 1) pa_nil)))) pss_nil)
      (pss_one (ps_ret (pe_tup (pa_cons (pv 1) (pa_cons (pe_ix ix_list (pe_lst (pa_cons pe_int (pa_cons (pe_op op_add pe_int (pe_cal c_law_draw hr (by decide) (by rfl) (pa_cons (pv 0) (pa_cons pe_int pa_nil)))) (pa_cons (pe_cal c_law_number hr (by decide) (by rfl) (pa_cons (pv 0) pa_nil)) pa_nil)))) (pe_cal c_law_draw hr (by decide) (by rfl) (pa_cons (pv 0) (pa_cons pe_int pa_nil))) (fun _ _ => rfl)) pa_nil))))))), ?_⟩
    refine ⟨(by show 8 ≤ sizeLine; decide), fun p hp => ?_⟩
    obtain ⟨pa, pd⟩ := hs.off hp
    have e1 : Same H (upd H p (.lst nameL)) := new_same hp
    refine ⟨_, rfl, a, d, n, 8, rfl, hs.same e1, by omega, by decide, by decide, fun H2 r kp2 s2 r0 r1 => ?_⟩
    have hp2 := kp2 _ _ pa pd upd_same
    have k2 := (Keep.of (a := a) (d := d) e1).trans kp2
    rcases (show r = 0 ∨ r = 1 ∨ r = 2 ∨ r = 3 ∨ r = 4 ∨ r = 5 ∨ r = 6 ∨ r = 7 by omega) with rfl | rfl | rfl | rfl | rfl | rfl | rfl | rfl
    · refine ⟨p, _, _, _, rfl, rfl, SqL.of hp2, rfl, ?_⟩
      refine ⟨_, rfl, (by show 2 ≤ sizeLine; decide), fun q hq => ?_⟩
      have e3 : Same H2 (upd H2 q (.tup [.str "home", .str "end"])) := new_same hq
      refine ⟨q, _, rfl, .inr (SqT.of upd_same), rfl, rfl, false, by decide +kernel, iteF ?_⟩
      refine ⟨_, rfl, _, rfl, a, d, _, 4, rfl, s2.same e3, by omega, by decide, by decide, fun H4 r4 kp4 s4 r40 r41 => ?_⟩
      refine ⟨_, _, rfl, rfl, _, rfl, a, d, _, rfl, s4, by omega, fun H5 r5 kp5 s5 r50 r51 => ⟨(by show 3 ≤ sizeLine; decide), fun q5 hq5 => ?_⟩⟩
      obtain ⟨ga, gd⟩ := s5.off hq5
      have e6 : Same H5 (upd H5 q5 (.lst [.int 1, .int (1 + r4), .int r5])) := new_same hq5
      refine ⟨_, rfl, a, d, _, 3, rfl, s5.same e6, by omega, by decide, by decide, fun H6 r6 kp6 s6 r60 r61 => ?_⟩
      obtain ⟨m, hm, m1, m2⟩ : ∃ m : Int, atI [V.int 1, .int (1 + r4), .int r5] r6 = some (.int m) ∧ 1 ≤ m ∧ m ≤ 10 ^ 30 - 1 := by
        rcases (show r6 = 0 ∨ r6 = 1 ∨ r6 = 2 by omega) with rfl | rfl | rfl
        · exact ⟨1, rfl, by decide, by decide⟩
        · exact ⟨1 + r4, rfl, by omega, by omega⟩
        · exact ⟨r5, rfl, by omega, by omega⟩
      refine ⟨q5, _, r6, _, rfl, rfl, SqL.of (kp6 _ _ ga gd upd_same), hm, (by show 2 ≤ sizeLine; decide), fun q7 hq7 => ?_⟩
      obtain ⟨fa, fd'⟩ := s6.off hq7
      have k6 : Keep a d H H6 := ((((k2.trans (Keep.of e3)).trans kp4).trans kp5).trans (Keep.of e6)).trans kp6
      refine k _ q7 (.down m) (k6.new hq7) ((s6.same (new_same hq7)).more (by omega)) (k6.free fa fd' hq7) ?_ m1 m2
      rw [upd_same]
      rfl
    · refine ⟨p, _, _, _, rfl, rfl, SqL.of hp2, rfl, ?_⟩
      refine ⟨_, rfl, (by show 2 ≤ sizeLine; decide), fun q hq => ?_⟩
      have e3 : Same H2 (upd H2 q (.tup [.str "home", .str "end"])) := new_same hq
      refine ⟨q, _, rfl, .inr (SqT.of upd_same), rfl, rfl, false, by decide +kernel, iteF ?_⟩
      refine ⟨_, rfl, _, rfl, a, d, _, 4, rfl, s2.same e3, by omega, by decide, by decide, fun H4 r4 kp4 s4 r40 r41 => ?_⟩
      refine ⟨_, _, rfl, rfl, _, rfl, a, d, _, rfl, s4, by omega, fun H5 r5 kp5 s5 r50 r51 => ⟨(by show 3 ≤ sizeLine; decide), fun q5 hq5 => ?_⟩⟩
      obtain ⟨ga, gd⟩ := s5.off hq5
      have e6 : Same H5 (upd H5 q5 (.lst [.int 1, .int (1 + r4), .int r5])) := new_same hq5
      refine ⟨_, rfl, a, d, _, 3, rfl, s5.same e6, by omega, by decide, by decide, fun H6 r6 kp6 s6 r60 r61 => ?_⟩
      obtain ⟨m, hm, m1, m2⟩ : ∃ m : Int, atI [V.int 1, .int (1 + r4), .int r5] r6 = some (.int m) ∧ 1 ≤ m ∧ m ≤ 10 ^ 30 - 1 := by
        rcases (show r6 = 0 ∨ r6 = 1 ∨ r6 = 2 by omega) with rfl | rfl | rfl
        · exact ⟨1, rfl, by decide, by decide⟩
        · exact ⟨1 + r4, rfl, by omega, by omega⟩
        · exact ⟨r5, rfl, by omega, by omega⟩
      refine ⟨q5, _, r6, _, rfl, rfl, SqL.of (kp6 _ _ ga gd upd_same), hm, (by show 2 ≤ sizeLine; decide), fun q7 hq7 => ?_⟩
      obtain ⟨fa, fd'⟩ := s6.off hq7
      have k6 : Keep a d H H6 := ((((k2.trans (Keep.of e3)).trans kp4).trans kp5).trans (Keep.of e6)).trans kp6
      refine k _ q7 (.up m) (k6.new hq7) ((s6.same (new_same hq7)).more (by omega)) (k6.free fa fd' hq7) ?_ m1 m2
      rw [upd_same]
      rfl
    · refine ⟨p, _, _, _, rfl, rfl, SqL.of hp2, rfl, ?_⟩
      refine ⟨_, rfl, (by show 2 ≤ sizeLine; decide), fun q hq => ?_⟩
      have e3 : Same H2 (upd H2 q (.tup [.str "home", .str "end"])) := new_same hq
      refine ⟨q, _, rfl, .inr (SqT.of upd_same), rfl, rfl, false, by decide +kernel, iteF ?_⟩
      refine ⟨_, rfl, _, rfl, a, d, _, 4, rfl, s2.same e3, by omega, by decide, by decide, fun H4 r4 kp4 s4 r40 r41 => ?_⟩
      refine ⟨_, _, rfl, rfl, _, rfl, a, d, _, rfl, s4, by omega, fun H5 r5 kp5 s5 r50 r51 => ⟨(by show 3 ≤ sizeLine; decide), fun q5 hq5 => ?_⟩⟩
      obtain ⟨ga, gd⟩ := s5.off hq5
      have e6 : Same H5 (upd H5 q5 (.lst [.int 1, .int (1 + r4), .int r5])) := new_same hq5
      refine ⟨_, rfl, a, d, _, 3, rfl, s5.same e6, by omega, by decide, by decide, fun H6 r6 kp6 s6 r60 r61 => ?_⟩
      obtain ⟨m, hm, m1, m2⟩ : ∃ m : Int, atI [V.int 1, .int (1 + r4), .int r5] r6 = some (.int m) ∧ 1 ≤ m ∧ m ≤ 10 ^ 30 - 1 := by
        rcases (show r6 = 0 ∨ r6 = 1 ∨ r6 = 2 by omega) with rfl | rfl | rfl
        · exact ⟨1, rfl, by decide, by decide⟩
        · exact ⟨1 + r4, rfl, by omega, by omega⟩
        · exact ⟨r5, rfl, by omega, by omega⟩
      refine ⟨q5, _, r6, _, rfl, rfl, SqL.of (kp6 _ _ ga gd upd_same), hm, (by show 2 ≤ sizeLine; decide), fun q7 hq7 => ?_⟩
      obtain ⟨fa, fd'⟩ := s6.off hq7
      have k6 : Keep a d H H6 := ((((k2.trans (Keep.of e3)).trans kp4).trans kp5).trans (Keep.of e6)).trans kp6
      refine k _ q7 (.right m) (k6.new hq7) ((s6.same (new_same hq7)).more (by omega)) (k6.free fa fd' hq7) ?_ m1 m2
      rw [upd_same]
      rfl
    · refine ⟨p, _, _, _, rfl, rfl, SqL.of hp2, rfl, ?_⟩
      refine ⟨_, rfl, (by show 2 ≤ sizeLine; decide), fun q hq => ?_⟩
      have e3 : Same H2 (upd H2 q (.tup [.str "home", .str "end"])) := new_same hq
      refine ⟨q, _, rfl, .inr (SqT.of upd_same), rfl, rfl, false, by decide +kernel, iteF ?_⟩
      refine ⟨_, rfl, _, rfl, a, d, _, 4, rfl, s2.same e3, by omega, by decide, by decide, fun H4 r4 kp4 s4 r40 r41 => ?_⟩
      refine ⟨_, _, rfl, rfl, _, rfl, a, d, _, rfl, s4, by omega, fun H5 r5 kp5 s5 r50 r51 => ⟨(by show 3 ≤ sizeLine; decide), fun q5 hq5 => ?_⟩⟩
      obtain ⟨ga, gd⟩ := s5.off hq5
      have e6 : Same H5 (upd H5 q5 (.lst [.int 1, .int (1 + r4), .int r5])) := new_same hq5
      refine ⟨_, rfl, a, d, _, 3, rfl, s5.same e6, by omega, by decide, by decide, fun H6 r6 kp6 s6 r60 r61 => ?_⟩
      obtain ⟨m, hm, m1, m2⟩ : ∃ m : Int, atI [V.int 1, .int (1 + r4), .int r5] r6 = some (.int m) ∧ 1 ≤ m ∧ m ≤ 10 ^ 30 - 1 := by
        rcases (show r6 = 0 ∨ r6 = 1 ∨ r6 = 2 by omega) with rfl | rfl | rfl
        · exact ⟨1, rfl, by decide, by decide⟩
        · exact ⟨1 + r4, rfl, by omega, by omega⟩
        · exact ⟨r5, rfl, by omega, by omega⟩
      refine ⟨q5, _, r6, _, rfl, rfl, SqL.of (kp6 _ _ ga gd upd_same), hm, (by show 2 ≤ sizeLine; decide), fun q7 hq7 => ?_⟩
      obtain ⟨fa, fd'⟩ := s6.off hq7
      have k6 : Keep a d H H6 := ((((k2.trans (Keep.of e3)).trans kp4).trans kp5).trans (Keep.of e6)).trans kp6
      refine k _ q7 (.left m) (k6.new hq7) ((s6.same (new_same hq7)).more (by omega)) (k6.free fa fd' hq7) ?_ m1 m2
      rw [upd_same]
      rfl
    · refine ⟨p, _, _, _, rfl, rfl, SqL.of hp2, rfl, ?_⟩
      refine ⟨_, rfl, (by show 2 ≤ sizeLine; decide), fun q hq => ?_⟩
      have e3 : Same H2 (upd H2 q (.tup [.str "home", .str "end"])) := new_same hq
      refine ⟨q, _, rfl, .inr (SqT.of upd_same), rfl, rfl, false, by decide +kernel, iteF ?_⟩
      refine ⟨_, rfl, _, rfl, a, d, _, 4, rfl, s2.same e3, by omega, by decide, by decide, fun H4 r4 kp4 s4 r40 r41 => ?_⟩
      refine ⟨_, _, rfl, rfl, _, rfl, a, d, _, rfl, s4, by omega, fun H5 r5 kp5 s5 r50 r51 => ⟨(by show 3 ≤ sizeLine; decide), fun q5 hq5 => ?_⟩⟩
      obtain ⟨ga, gd⟩ := s5.off hq5
      have e6 : Same H5 (upd H5 q5 (.lst [.int 1, .int (1 + r4), .int r5])) := new_same hq5
      refine ⟨_, rfl, a, d, _, 3, rfl, s5.same e6, by omega, by decide, by decide, fun H6 r6 kp6 s6 r60 r61 => ?_⟩
      obtain ⟨m, hm, m1, m2⟩ : ∃ m : Int, atI [V.int 1, .int (1 + r4), .int r5] r6 = some (.int m) ∧ 1 ≤ m ∧ m ≤ 10 ^ 30 - 1 := by
        rcases (show r6 = 0 ∨ r6 = 1 ∨ r6 = 2 by omega) with rfl | rfl | rfl
        · exact ⟨1, rfl, by decide, by decide⟩
        · exact ⟨1 + r4, rfl, by omega, by omega⟩
        · exact ⟨r5, rfl, by omega, by omega⟩
      refine ⟨q5, _, r6, _, rfl, rfl, SqL.of (kp6 _ _ ga gd upd_same), hm, (by show 2 ≤ sizeLine; decide), fun q7 hq7 => ?_⟩
      obtain ⟨fa, fd'⟩ := s6.off hq7
      have k6 : Keep a d H H6 := ((((k2.trans (Keep.of e3)).trans kp4).trans kp5).trans (Keep.of e6)).trans kp6
      refine k _ q7 (.right m) (k6.new hq7) ((s6.same (new_same hq7)).more (by omega)) (k6.free fa fd' hq7) ?_ m1 m2
      rw [upd_same]
      rfl
    · refine ⟨p, _, _, _, rfl, rfl, SqL.of hp2, rfl, ?_⟩
      refine ⟨_, rfl, (by show 2 ≤ sizeLine; decide), fun q hq => ?_⟩
      have e3 : Same H2 (upd H2 q (.tup [.str "home", .str "end"])) := new_same hq
      refine ⟨q, _, rfl, .inr (SqT.of upd_same), rfl, rfl, false, by decide +kernel, iteF ?_⟩
      refine ⟨_, rfl, _, rfl, a, d, _, 4, rfl, s2.same e3, by omega, by decide, by decide, fun H4 r4 kp4 s4 r40 r41 => ?_⟩
      refine ⟨_, _, rfl, rfl, _, rfl, a, d, _, rfl, s4, by omega, fun H5 r5 kp5 s5 r50 r51 => ⟨(by show 3 ≤ sizeLine; decide), fun q5 hq5 => ?_⟩⟩
      obtain ⟨ga, gd⟩ := s5.off hq5
      have e6 : Same H5 (upd H5 q5 (.lst [.int 1, .int (1 + r4), .int r5])) := new_same hq5
      refine ⟨_, rfl, a, d, _, 3, rfl, s5.same e6, by omega, by decide, by decide, fun H6 r6 kp6 s6 r60 r61 => ?_⟩
      obtain ⟨m, hm, m1, m2⟩ : ∃ m : Int, atI [V.int 1, .int (1 + r4), .int r5] r6 = some (.int m) ∧ 1 ≤ m ∧ m ≤ 10 ^ 30 - 1 := by
        rcases (show r6 = 0 ∨ r6 = 1 ∨ r6 = 2 by omega) with rfl | rfl | rfl
        · exact ⟨1, rfl, by decide, by decide⟩
        · exact ⟨1 + r4, rfl, by omega, by omega⟩
        · exact ⟨r5, rfl, by omega, by omega⟩
      refine ⟨q5, _, r6, _, rfl, rfl, SqL.of (kp6 _ _ ga gd upd_same), hm, (by show 2 ≤ sizeLine; decide), fun q7 hq7 => ?_⟩
      obtain ⟨fa, fd'⟩ := s6.off hq7
      have k6 : Keep a d H H6 := ((((k2.trans (Keep.of e3)).trans kp4).trans kp5).trans (Keep.of e6)).trans kp6
      refine k _ q7 (.left m) (k6.new hq7) ((s6.same (new_same hq7)).more (by omega)) (k6.free fa fd' hq7) ?_ m1 m2
      rw [upd_same]
      rfl
    · refine ⟨p, _, _, _, rfl, rfl, SqL.of hp2, rfl, ?_⟩
      refine ⟨_, rfl, (by show 2 ≤ sizeLine; decide), fun q hq => ?_⟩
      have e3 : Same H2 (upd H2 q (.tup [.str "home", .str "end"])) := new_same hq
      refine ⟨q, _, rfl, .inr (SqT.of upd_same), rfl, rfl, true, by decide +kernel, iteT ?_⟩
      refine ⟨_, rfl, (by show 1 ≤ sizeLine; decide), fun q7 hq7 => ?_⟩
      have s3 := s2.same e3
      obtain ⟨fa, fd'⟩ := s3.off hq7
      have k3 := k2.trans (Keep.of e3)
      refine k _ q7 .home (k3.new hq7) ((s3.same (new_same hq7)).more (by omega)) (k3.free fa fd' hq7) ?_ trivial (by show (0 : Int) ≤ 10 ^ 30 - 1; decide)
      rw [upd_same]
      rfl
    · refine ⟨p, _, _, _, rfl, rfl, SqL.of hp2, rfl, ?_⟩
      refine ⟨_, rfl, (by show 2 ≤ sizeLine; decide), fun q hq => ?_⟩
      have e3 : Same H2 (upd H2 q (.tup [.str "home", .str "end"])) := new_same hq
      refine ⟨q, _, rfl, .inr (SqT.of upd_same), rfl, rfl, true, by decide +kernel, iteT ?_⟩
      refine ⟨_, rfl, (by show 1 ≤ sizeLine; decide), fun q7 hq7 => ?_⟩
      have s3 := s2.same e3
      obtain ⟨fa, fd'⟩ := s3.off hq7
      have k3 := k2.trans (Keep.of e3)
      refine k _ q7 .stop (k3.new hq7) ((s3.same (new_same hq7)).more (by omega)) (k3.free fa fd' hq7) ?_ trivial (by show (0 : Int) ≤ 10 ^ 30 - 1; decide)
      rw [upd_same]
      rfl
end
end Gc

/-! a text taken some times; lengths of joined texts -/
namespace L2
open PySem PySem.Spec PyProof.Rows
theorem rep_size (x : Array Nat) : ∀ (k : Nat) (a : Array Nat), ((List.replicate k x).foldl (· ++ ·) a).size = a.size + k * x.size
  | 0, a => by simp
  | k + 1, a => by
    rw [List.replicate_succ, List.foldl_cons, rep_size x k (a ++ x), Array.size_append, Nat.succ_mul]
    omega
def rRepS : R2 := fun x y H Q => ∃ (z : Str) (k : Nat), x = .str z ∧ y = .int k ∧ k ≤ 100 ∧ z.length ≤ 10000 ∧ ∀ z' : Str, z'.length ≤ z.length * k → Q (.str z') H
theorem op_repS {X : Cx} : OpR X (binaryOp .Mult) rRepS := by
  intro pins s σ H x y v u Q I rx ry h
  obtain ⟨z, k, rfl, rfl, hk, hz, q⟩ := h
  obtain ⟨t, rfl⟩ := rx
  obtain ⟨t', rfl⟩ := ry
  refine P.mul_str (by
    rw [decide_eq_false (show ¬ ((k : Nat) : Int) < -(2 ^ 63) by omega), decide_eq_false (show ¬ ((k : Nat) : Int) ≥ 2 ^ 63 by omega)]
    rfl) (fun h1 _ => ?_) (fun h1 _ => ?_) ?_
  · have : ((z.length : Nat) : Int) ≤ (2 ^ 63 - 1) / (k : Nat) := by
      rw [Int.le_ediv_iff_mul_le (by omega)]
      have : ((z.length : Nat) : Int) * (k : Nat) ≤ 10000 * 100 := Int.mul_le_mul (by omega) (by omega) (by omega) (by omega)
      omega
    omega
  · unfold Builtin.Str.tooLong
    rw [Int.toNat_natCast]
    refine decide_eq_false ?_
    have : z.length * k ≤ 10000 * 100 := Nat.mul_le_mul hz hk
    rw [sizeLine_eq]
    omega
  · by_cases k1 : ((k : Nat) : Int) < 1
    · rw [if_pos k1]
      refine ⟨by decide, ⟨.str Str.empty, H, I.tok _, ⟨_, rfl⟩, q _ (Nat.zero_le _)⟩⟩
    · rw [if_neg k1]
      by_cases c : (((k : Nat) : Int) == 1 || z.length == 0) = true
      · rw [if_pos c]
        refine ⟨.str z, H, I, ⟨_, rfl⟩, q _ ?_⟩
        simp only [Bool.or_eq_true, beq_iff_eq] at c
        rcases c with c | c
        · have : k = 1 := by omega
          rw [this, Nat.mul_one]
          exact Nat.le_refl _
        · rw [c]
          exact Nat.zero_le _
      · rw [if_neg c]
        have sz : ((List.replicate k z.cps).foldl (· ++ ·) #[]).size = k * z.length := by
          rw [rep_size]
          simp [Str.length]
        rw [Int.toNat_natCast]
        refine ⟨?_, ⟨.str _, H, I.tok _, ⟨_, rfl⟩, q _ ?_⟩⟩
        · show ((List.replicate k z.cps).foldl (· ++ ·) #[]).size ≤ sizeLine
          have : k * z.length ≤ 100 * 10000 := Nat.mul_le_mul hk hz
          rw [sz, sizeLine_eq]
          omega
        · show ((List.replicate k z.cps).foldl (· ++ ·) #[]).size ≤ _
          rw [sz, Nat.mul_comm]
          exact Nat.le_refl _
end L2
namespace Gc
open PySem PyProof.Rows L2 TL
/-- the lengths of words, each with one space -/
def wsum : List Str → Nat
  | [] => 0
  | w :: ws => w.length + 1 + wsum ws
theorem wsum_app : ∀ a b : List Str, wsum (a ++ b) = wsum a + wsum b
  | [], b => (Nat.zero_add _).symm
  | w :: a, b => by
    show w.length + 1 + wsum (a ++ b) = w.length + 1 + wsum a + wsum b
    rw [wsum_app a b]
    omega
theorem wsum_cut (n : Nat) (ws : List Str) : wsum (ws.take n) + wsum (ws.drop n) = wsum ws := by
  rw [← wsum_app, List.take_append_drop]
theorem wsum_take (n : Nat) (ws : List Str) : wsum (ws.take n) ≤ wsum ws := by
  have := wsum_cut n ws
  omega
theorem wsum_drop (n : Nat) (ws : List Str) : wsum (ws.drop n) ≤ wsum ws := by
  have := wsum_cut n ws
  omega
theorem wsum_sum : ∀ ws : List Str, (ws.map (·.length)).sum + ws.length = wsum ws
  | [] => rfl
  | w :: ws => by
    have := wsum_sum ws
    show (w.length + (ws.map (·.length)).sum) + (ws.length + 1) = w.length + 1 + wsum ws
    omega
theorem wsum_len (ws : List Str) : ws.length ≤ wsum ws := by
  have := wsum_sum ws
  omega
theorem join_len : ∀ ws : List Str, (joinL [32] (ws.map tl)).length ≤ wsum ws
  | [] => Nat.zero_le _
  | [w] => by
    show (tl w).length ≤ w.length + 1 + 0
    have := mkS_len (tl w)
    rw [show mkS (tl w) = w from ext_tl rfl] at this
    omega
  | w :: v :: ws => by
    have ih := join_len (v :: ws)
    have := mkS_len (tl w)
    rw [show mkS (tl w) = w from ext_tl rfl] at this
    show (tl w ++ ([32] ++ joinL [32] ((v :: ws).map tl))).length ≤ w.length + 1 + wsum (v :: ws)
    rw [List.length_append, List.length_append]
    show _ + (1 + _) ≤ _
    omega
theorem txt_join_len (ws : List Str) : (Txt.join (mkS [32]) ws).length ≤ wsum ws := by
  have e : (Txt.join (mkS [32]) ws).length = (joinL [32] (ws.map tl)).length := by
    rw [len_tl, join_eq, tl_join]
    rfl
  rw [e]
  exact join_len ws
theorem joinL_wsum : ∀ {ws : List (List Nat)}, ws ≠ [] → wsum (ws.map mkS) = (joinL [32] ws).length + 1
  | [], h => absurd rfl h
  | [w], _ => by
    show (mkS w).length + 1 + 0 = w.length + 1
    rw [mkS_len]
  | w :: v :: ws, _ => by
    have ih := joinL_wsum (ws := v :: ws) (by simp)
    show (mkS w).length + 1 + wsum ((v :: ws).map mkS) = (w ++ ([32] ++ joinL [32] (v :: ws))).length + 1
    rw [ih, mkS_len, List.length_append, List.length_append]
    show _ = _ + (1 + _) + 1
    omega
/-- the words of a text -/
theorem split_wsum {z : Str} (hk : ¬ Builtin.Str.strKind z < Builtin.Str.strKind " ") : wsum (Txt.split z " ") = z.length + 1 := by
  have q := split_spl z " " (by decide +kernel) hk
  have q2 : ((Txt.split z " ").map tl).map mkS = Txt.split z " " := by
    rw [List.map_map, show (mkS ∘ tl) = id from funext fun s => ext_tl rfl, List.map_id]
  rw [← q2, q]
  show wsum ((spl [32] 0 [] (tl z)).map mkS) = _
  rw [joinL_wsum (spl_ne [32] (tl z) 0 []), join_spl, List.nil_append, len_tl]
theorem kind_sp (z : Str) : ¬ Builtin.Str.strKind z < Builtin.Str.strKind " " := by
  rw [show Builtin.Str.strKind " " = 1 by decide +kernel]
  unfold Builtin.Str.strKind
  split
  · omega
  · split <;> omega
end Gc
namespace Gc
open PySem PyProof.Rows L2 TL
theorem cut_hi_len (z : Str) (c : Nat) : (cutS z none (some (c : Int))).length ≤ c := by
  have e : (cutS z none (some (c : Int))).length = (((tl z).drop (HT.sIx z.length 0 none)).take (HT.sIx z.length z.length (some (c : Int)) - HT.sIx z.length 0 none)).length := len_tl _
  rw [e, HT.sIx_none, HT.sIx_nat, List.length_take]
  omega
theorem cut_lo_len (z : Str) (c : Nat) : (cutS z (some (c : Int)) none).length ≤ z.length - c := by
  have e : (cutS z (some (c : Int)) none).length = (((tl z).drop (HT.sIx z.length 0 (some (c : Int)))).take (HT.sIx z.length z.length none - HT.sIx z.length 0 (some (c : Int)))).length := len_tl _
  rw [e, HT.sIx_none, HT.sIx_nat, List.length_take]
  omega
end Gc

/-! _law_bent: a text that is changed -/
namespace Gc
open PySem L2 TL
abbrev s_bent : Stmt := top 28
structure TxtBe (mg : Str → Option Value) : Prop where
  len : mg "len" = none
  range : mg "range" = none
def spBent : Sp := fun vs H Q _ => ∃ (a d : Addr) (n : Nat) (z : Str), vs = [.ref a, .str z] ∧ Src H a d n ∧ n < 2 ^ 37 ∧ z.length ≤ 900 ∧ ∀ (H' : Hp) (z' : Str), Keep a d H H' → Src H' a d (n + 20) → z'.length ≤ 1900 → Q (.str z') H'
section
variable {P : Program} {w : World} {K : PySem.W.Frag} {mg : Str → Option Value} {base : Heap}
theorem sc_law_bent : FnScope ["source", "note", "words", "at", "some", "way", "time", "cut", "sign"] ["source", "note"] (defScope s_bent) := ⟨rfl, rfl, rfl, by decide +kernel, rfl, by decide +kernel, by decide +kernel⟩
theorem ok_bent {f : Addr} {fd : FuncData} (F : Fun K "_law_bent" "_law_bent" s_bent f fd) (T : TxtBe mg) (c_law_draw : Cal P w K mg base 1 "_law_draw" spDraw) : FnOk P w K mg base CX0 2 f fd ["source", "note"] spBent := by
  refine F.ok sc_law_bent (fun vs H Q E h => ?_) (fun cdv A outer s H vs Q E hr h => ?_)
  · obtain ⟨a, d, n, z, rfl, _⟩ := h
    rfl
  · obtain ⟨a, d, n, z, rfl, src, hn, hz, k⟩ := h
    refine ⟨_, (pss_cons (ps_set (i := 2) sc_law_bent.nd rfl (Or.inl rfl) (pe_bm PySem.F.plainAttrs_str PySem.F.slot_str_split PySem.F.type_str_split mt_split (pv 1) (pa_cons pe_str pa_nil)))
      (pss_cons (ps_set (i := 3) sc_law_bent.nd rfl (Or.inl rfl) (pe_cal c_law_draw hr (by decide) (by rfl) (pa_cons (pv 0) (pa_cons (pe_callB call_len_seq (by rfl) T.len (by decide +kernel) (pa_cons (pv 2) pa_nil)) pa_nil))))
      (pss_cons (ps_set (i := 4) sc_law_bent.nd rfl (Or.inl rfl) (pe_lst (pa_cons pe_str (pa_cons pe_str (pa_cons pe_str (pa_cons pe_str (pa_cons pe_str (pa_cons pe_str (pa_cons pe_str (pa_cons pe_str (pa_cons pe_str (pa_cons pe_str (pa_cons pe_str (pa_cons pe_str (pa_cons (pe_op op_add_str (pe_op op_repS pe_str pe_int) pe_str) (pa_cons (pe_op op_add_str (pe_op op_repS pe_str pe_int) pe_str) pa_nil))))))))))))))))
      (pss_cons (ps_set (i := 5) sc_law_bent.nd rfl (Or.inl rfl) (pe_cal c_law_draw hr (by decide) (by rfl) (pa_cons (pv 0) (pa_cons pe_int pa_nil))))
      (C8.pss_cut (ps_if (pt_cmpR op_eq (pv 5) pe_int (nomark _)) (pss_one (ps_set (i := 2) sc_law_bent.nd rfl (Or.inl rfl) (pe_op op_cat (pe_slice sl_list (pv 2) po_none (po_some (pv 3))) (pe_slice sl_list (pv 2) (po_some (pe_op op_add (pv 3) pe_int)) po_none)))) (pss_one (ps_if (pt_cmpR op_eq (pv 5) pe_int (nomark _)) (pss_one (ps_set (i := 2) sc_law_bent.nd rfl (Or.inl rfl) (pe_op op_cat (pe_op op_cat (pe_slice sl_list (pv 2) po_none (po_some (pv 3))) (pe_op op_rep (pe_slice sl_list (pv 2) (po_some (pv 3)) (po_some (pe_op op_add (pv 3) pe_int))) pe_int)) (pe_slice sl_list (pv 2) (po_some (pe_op op_add (pv 3) pe_int)) po_none)))) (pss_one (ps_if (pt_cmpR op_eq (pv 5) pe_int (nomark _)) (pss_one (ps_set (i := 2) sc_law_bent.nd rfl (Or.inl rfl) (pe_op op_cat (pe_op op_cat (pe_slice sl_list (pv 2) po_none (po_some (pv 3))) (pe_lst (pa_cons (pe_ix ix_list (pv 4) (pe_cal c_law_draw hr (by decide) (by rfl) (pa_cons (pv 0) (pa_cons pe_int pa_nil))) (fun _ _ => rfl)) pa_nil))) (pe_slice sl_list (pv 2) (po_some (pe_op op_add (pv 3) pe_int)) po_none)))) pss_nil)))))
      (pss_cons (ps_set (i := 1) sc_law_bent.nd rfl (Or.inl rfl) (pe_join pe_str (pv 2)))
      (pss_cons (ps_for PassesOwn.never rfl (pi_range1 rfl T.range (pa_cons (pe_ifExp (pt_cmpR op_gt (pv 5) pe_int (nomark _)) (pe_op op_add pe_int (pe_cal c_law_draw hr (by decide) (by rfl) (pa_cons (pv 0) (pa_cons pe_int pa_nil)))) pe_int) pa_nil)) (pg_name (i := 6) sc_law_bent.nd rfl (Or.inl rfl)) (pss_cons (ps_set (i := 7) sc_law_bent.nd rfl (Or.inl rfl) (pe_cal c_law_draw hr (by decide) (by rfl) (pa_cons (pv 0) (pa_cons (pe_op op_add (pe_callB call_len_str (by rfl) T.len (by decide +kernel) (pa_cons (pv 1) pa_nil)) pe_int) pa_nil))))
      (pss_cons (ps_set (i := 8) sc_law_bent.nd rfl (Or.inl rfl) (pe_op op_repS (pe_ix ix_str pe_str (pe_cal c_law_draw hr (by decide) (by rfl) (pa_cons (pv 0) (pa_cons pe_int pa_nil))) (fun _ _ => rfl)) (pe_cal c_law_draw hr (by decide) (by rfl) (pa_cons (pv 0) (pa_cons pe_int pa_nil)))))
      (pss_one (ps_set (i := 1) sc_law_bent.nd rfl (Or.inl rfl) (pe_op op_add_str (pe_op op_add_str (pe_slice sl_str (pv 1) po_none (po_some (pv 7))) (pv 8)) (pe_slice sl_str (pv 1) (po_some (pe_op op_add (pv 7) (pe_cal c_law_draw hr (by decide) (by rfl) (pa_cons (pv 0) (pa_cons pe_int pa_nil))))) po_none)))))))
      (pss_one (ps_ret (pv 1)))))))))), ?_⟩
    refine ⟨_, rfl, rfl, _, _, rfl, rfl, by decide +kernel, by rw [sizeLine_eq]; omega, fun p np => ?_⟩
    rw [show (Str.ofString " ") = mkS [32] by decide +kernel]
    have ew := split_wsum (kind_sp z)
    rw [show (" " : Str) = mkS [32] by decide +kernel] at ew
    generalize Txt.split z (mkS [32]) = ws at ew np ⊢
    obtain ⟨pa, pd⟩ := src.off np
    have e1 : Same H (upd H p (.lst (ws.map V.str))) := new_same np
    have hp1 : (upd H p (.lst (ws.map V.str))) p = some (.lst (ws.map V.str)) := upd_same
    have wl := wsum_len ws
    have w0 : 0 < ws.length := by
      cases ws with
      | nil => exact absurd (show 0 = z.length + 1 from ew) (by omega)
      | cons x y => exact Nat.succ_pos _
    generalize upd H p (.lst (ws.map V.str)) = H1 at e1 hp1 ⊢
    have src1 := src.same e1
    have kp1 : Keep a d H H1 := Keep.of e1
    refine ⟨_, rfl, _, rfl, p, _, rfl, .inl (SqL.of hp1), a, d, n, (ws.length : Nat), by rw [List.length_map]; rfl, src1, by omega, by omega, log9 (a := 30) (by omega) (by decide), fun H2 r2 kp2 src2 r20 r21 => ?_⟩
    obtain ⟨m, rfl⟩ := Int.eq_ofNat_of_zero_le r20
    have hp2 := kp2 _ _ pa pd hp1
    refine ⟨_, 40, rfl, rfl, by decide, by decide, fun z40 l40 => ⟨_, _, rfl, rfl, ?_, ?_⟩⟩
    · rw [sizeLine_eq]
      have : (Str.ofString "9").length = 1 := by decide +kernel
      have : (Str.ofString "U").length = 1 := by decide +kernel
      omega
    refine ⟨_, 41, rfl, rfl, by decide, by decide, fun z41 l41 => ⟨_, _, rfl, rfl, ?_, ?_⟩⟩
    · rw [sizeLine_eq]
      have : (Str.ofString "9").length = 1 := by decide +kernel
      have : (Str.ofString "U").length = 1 := by decide +kernel
      omega
    refine ⟨(by show 14 ≤ sizeLine; decide), fun q nq => ?_⟩
    obtain ⟨qa, qd⟩ := src2.off nq
    have big : ∀ (r : Int), 0 ≤ r → r < 14 → ∃ x : Str, atI [V.str "", .str "0R", .str "01L", .str "R", .str "1H", .str "E", .str "none", .str "D3", .str "1d", .str "3", .str "-1R", .str "1 R", .str (z40 ++ "U"), .str (z41 ++ "U")] r = some (.str x) ∧ x.length ≤ 42 := fun r h0 h1 => by
      have a1 : (z40 ++ "U").length ≤ 42 := by
        rw [len_tl, tl_append, List.length_append, ← len_tl, ← len_tl]
        have : ("9" : Str).length = 1 := by decide +kernel
        have : ("U" : Str).length = 1 := by decide +kernel
        omega
      have a2 : (z41 ++ "U").length ≤ 42 := by
        rw [len_tl, tl_append, List.length_append, ← len_tl, ← len_tl]
        have : ("9" : Str).length = 1 := by decide +kernel
        have : ("U" : Str).length = 1 := by decide +kernel
        omega
      rcases (show r = 0 ∨ r = 1 ∨ r = 2 ∨ r = 3 ∨ r = 4 ∨ r = 5 ∨ r = 6 ∨ r = 7 ∨ r = 8 ∨ r = 9 ∨ r = 10 ∨ r = 11 ∨ r = 12 ∨ r = 13 by omega) with rfl | rfl | rfl | rfl | rfl | rfl | rfl | rfl | rfl | rfl | rfl | rfl | rfl | rfl
      · exact ⟨"", rfl, by decide +kernel⟩
      · exact ⟨"0R", rfl, by decide +kernel⟩
      · exact ⟨"01L", rfl, by decide +kernel⟩
      · exact ⟨"R", rfl, by decide +kernel⟩
      · exact ⟨"1H", rfl, by decide +kernel⟩
      · exact ⟨"E", rfl, by decide +kernel⟩
      · exact ⟨"none", rfl, by decide +kernel⟩
      · exact ⟨"D3", rfl, by decide +kernel⟩
      · exact ⟨"1d", rfl, by decide +kernel⟩
      · exact ⟨"3", rfl, by decide +kernel⟩
      · exact ⟨"-1R", rfl, by decide +kernel⟩
      · exact ⟨"1 R", rfl, by decide +kernel⟩
      · exact ⟨_, rfl, a1⟩
      · exact ⟨_, rfl, a2⟩
    generalize hss : [V.str "", .str "0R", .str "01L", .str "R", .str "1H", .str "E", .str "none", .str "D3", .str "1d", .str "3", .str "-1R", .str "1 R", .str (z40 ++ "U"), .str (z41 ++ "U")] = ss at big ⊢
    have e3 : Same H2 (upd H2 q (.lst ss)) := new_same nq
    have hq3 : (upd H2 q (.lst ss)) q = some (.lst ss) := upd_same
    generalize upd H2 q (.lst ss) = H3 at e3 hq3 ⊢
    have hp3 := e3 _ _ hp2
    refine ⟨_, rfl, a, d, _, 6, rfl, src2.same e3, by omega, by decide, by decide, fun H4 way kp4 src4 w40 w41 => ?_⟩
    have hp4 := kp4 _ _ pa pd hp3
    have hq4 := kp4 _ _ qa qd hq3
    have k4 : Keep a d H H4 := ((kp1.trans kp2).trans (Keep.of e3)).trans kp4
    have ml : m < ws.length := by omega
    have clo : ∀ (xs : List V), cutV xs none (some ((m : Nat) : Int)) = xs.take m ∨ True := fun _ => .inr trivial
    refine ⟨fun σ G => ∃ (p' : Addr) (us : List Str), σ = [some (.ref a), some (.str z), some (.ref p'), some (.int (m : Nat)), some (.ref q), some (.int way), none, none, none] ∧ Keep a d H G ∧ Src G a d (n + 5) ∧ G p' = some (.lst (us.map V.str)) ∧ wsum us ≤ 1802, ?_, ?_⟩
    · have cl1 : cutV (ws.map V.str) none (some ((m : Nat) : Int)) = (ws.take m).map V.str := by
        rw [cutHi rfl (by rw [List.length_map]; omega), List.map_take]
      have cl2 : cutV (ws.map V.str) (some (((m : Nat) : Int) + 1)) none = (ws.drop (m + 1)).map V.str := by
        rw [cutLo (n := m + 1) (by omega), List.map_drop]
      have cl3 : cutV (ws.map V.str) (some ((m : Nat) : Int)) (some (((m : Nat) : Int) + 1)) = ((ws.drop m).take 1).map V.str := by
        rw [cutOne (n := m) (m := m + 1) rfl (by omega) (by rw [List.length_map]; omega) (by omega), Nat.add_sub_cancel_left, List.map_take, List.map_drop]
      have wt := wsum_take m ws
      have wd := wsum_drop (m + 1) ws
      have line : ∀ us : List Str, wsum us ≤ 5000 → (us.map V.str).length ≤ sizeLine := fun us h => by
        rw [List.length_map, sizeLine_eq]
        have := wsum_len us
        omega
      refine ⟨_, rfl, rfl, decide (way = 0), ?_, ite2 (fun c0 => ?_) (fun c0 => ?_)⟩
      · congr 1
        exact decide_eq_decide.mpr ⟨fun z => V.int.inj z, fun z => by rw [z]⟩
      · -- a word less
        refine ⟨_, rfl, _, rfl, _, rfl, p, _, rfl, SqL.of hp4, fun p1 n1 => ?_⟩
        rw [cl1]
        have e5 := new_same (o := .lst ((ws.take m).map V.str)) n1
        have h51 : (upd H4 p1 (.lst ((ws.take m).map V.str))) p1 = some (.lst ((ws.take m).map V.str)) := upd_same
        generalize upd H4 p1 (.lst ((ws.take m).map V.str)) = H5 at e5 h51 ⊢
        refine ⟨_, rfl, _, rfl, _, _, rfl, rfl, _, rfl, p, _, rfl, SqL.of (e5 _ _ hp4), fun p2 n2 => ?_⟩
        rw [cl2]
        have e6 := new_same (o := .lst ((ws.drop (m + 1)).map V.str)) n2
        have h62 : (upd H5 p2 (.lst ((ws.drop (m + 1)).map V.str))) p2 = some (.lst ((ws.drop (m + 1)).map V.str)) := upd_same
        generalize upd H5 p2 (.lst ((ws.drop (m + 1)).map V.str)) = H6 at e6 h62 ⊢
        have sm : wsum (ws.take m ++ ws.drop (m + 1)) ≤ 1802 := by rw [wsum_app]; omega
        refine ⟨p1, p2, _, _, rfl, rfl, e6 _ _ h51, h62, by rw [← List.length_append, ← List.map_append]; exact line _ (by omega), fun p3 n3 => ?_⟩
        have e7 := new_same (o := .lst ((ws.take m).map V.str ++ (ws.drop (m + 1)).map V.str)) n3
        have e47 := (e5.trans e6).trans e7
        exact ⟨p3, ws.take m ++ ws.drop (m + 1), rfl, k4.trans (Keep.of e47), (src4.same e47).more (by omega), by rw [upd_same, List.map_append], sm⟩
      refine ⟨_, rfl, rfl, decide (way = 1), ?_, ite2 (fun c1 => ?_) (fun c1 => ?_)⟩
      · congr 1
        exact decide_eq_decide.mpr ⟨fun z => V.int.inj z, fun z => by rw [z]⟩
      · -- a word doubled
        refine ⟨_, rfl, _, rfl, _, rfl, p, _, rfl, SqL.of hp4, fun p1 n1 => ?_⟩
        rw [cl1]
        have e5 := new_same (o := .lst ((ws.take m).map V.str)) n1
        have h51 : (upd H4 p1 (.lst ((ws.take m).map V.str))) p1 = some (.lst ((ws.take m).map V.str)) := upd_same
        generalize upd H4 p1 (.lst ((ws.take m).map V.str)) = H5 at e5 h51 ⊢
        refine ⟨_, rfl, _, rfl, _, rfl, _, rfl, _, _, rfl, rfl, _, rfl, p, _, rfl, SqL.of (e5 _ _ hp4), fun p2 n2 => ?_⟩
        rw [cl3]
        have e6 := new_same (o := .lst (((ws.drop m).take 1).map V.str)) n2
        have h62 : (upd H5 p2 (.lst (((ws.drop m).take 1).map V.str))) p2 = some (.lst (((ws.drop m).take 1).map V.str)) := upd_same
        generalize upd H5 p2 (.lst (((ws.drop m).take 1).map V.str)) = H6 at e6 h62 ⊢
        refine ⟨p2, 2, _, rfl, rfl, h62, by decide, by decide, ?_, fun p3 n3 => ?_⟩
        · rw [List.length_map, List.length_take, sizeLine_eq]
          show _ * 2 ≤ _
          omega
        have fl : (List.replicate (2 : Int).toNat (((ws.drop m).take 1).map V.str)).flatten = (((ws.drop m).take 1) ++ ((ws.drop m).take 1)).map V.str := by
          show (((ws.drop m).take 1).map V.str ++ (((ws.drop m).take 1).map V.str ++ [])) = _
          rw [List.append_nil, List.map_append]
        rw [fl]
        have e7 := new_same (o := .lst ((((ws.drop m).take 1) ++ ((ws.drop m).take 1)).map V.str)) n3
        have h73 : (upd H6 p3 (.lst ((((ws.drop m).take 1) ++ ((ws.drop m).take 1)).map V.str))) p3 = some (.lst ((((ws.drop m).take 1) ++ ((ws.drop m).take 1)).map V.str)) := upd_same
        generalize upd H6 p3 (.lst ((((ws.drop m).take 1) ++ ((ws.drop m).take 1)).map V.str)) = H7 at e7 h73 ⊢
        have w3 : wsum ((ws.drop m).take 1) + wsum (ws.take m) + wsum (ws.drop (m + 1)) = wsum ws := by
          have h1 := wsum_cut m ws
          have h2 := wsum_cut 1 (ws.drop m)
          rw [List.drop_drop] at h2
          omega
        refine ⟨p1, p3, _, _, rfl, rfl, e7 _ _ (e6 _ _ h51), h73, by rw [← List.length_append, ← List.map_append]; exact line _ (by rw [wsum_app, wsum_app]; omega), fun p4 n4 => ?_⟩
        rw [← List.map_append]
        have e8 := new_same (o := .lst ((ws.take m ++ ((ws.drop m).take 1 ++ (ws.drop m).take 1)).map V.str)) n4
        have h84 : (upd H7 p4 (.lst ((ws.take m ++ ((ws.drop m).take 1 ++ (ws.drop m).take 1)).map V.str))) p4 = some (.lst ((ws.take m ++ ((ws.drop m).take 1 ++ (ws.drop m).take 1)).map V.str)) := upd_same
        generalize upd H7 p4 (.lst ((ws.take m ++ ((ws.drop m).take 1 ++ (ws.drop m).take 1)).map V.str)) = H8 at e8 h84 ⊢
        have e48 := ((e5.trans e6).trans e7).trans e8
        refine ⟨_, rfl, _, rfl, _, _, rfl, rfl, _, rfl, p, _, rfl, SqL.of (e48 _ _ hp4), fun p5 n5 => ?_⟩
        rw [cl2]
        have e9 := new_same (o := .lst ((ws.drop (m + 1)).map V.str)) n5
        have h95 : (upd H8 p5 (.lst ((ws.drop (m + 1)).map V.str))) p5 = some (.lst ((ws.drop (m + 1)).map V.str)) := upd_same
        generalize upd H8 p5 (.lst ((ws.drop (m + 1)).map V.str)) = H9 at e9 h95 ⊢
        have sm : wsum ((ws.take m ++ ((ws.drop m).take 1 ++ (ws.drop m).take 1)) ++ ws.drop (m + 1)) ≤ 1802 := by rw [wsum_app, wsum_app, wsum_app]; omega
        refine ⟨p4, p5, _, _, rfl, rfl, e9 _ _ h84, h95, by rw [← List.length_append, ← List.map_append]; exact line _ (by omega), fun p6 n6 => ?_⟩
        rw [← List.map_append]
        have e10 := new_same (o := .lst (((ws.take m ++ ((ws.drop m).take 1 ++ (ws.drop m).take 1)) ++ ws.drop (m + 1)).map V.str)) n6
        have e410 := (e48.trans e9).trans e10
        exact ⟨p6, _, rfl, k4.trans (Keep.of e410), (src4.same e410).more (by omega), upd_same, sm⟩
      refine ⟨_, rfl, rfl, decide (way = 2), ?_, ite2 (fun c2 => ?_) (fun c2 => ?_)⟩
      · congr 1
        exact decide_eq_decide.mpr ⟨fun z => V.int.inj z, fun z => by rw [z]⟩
      · -- a word exchanged
        refine ⟨_, rfl, _, rfl, _, rfl, p, _, rfl, SqL.of hp4, fun p1 n1 => ?_⟩
        rw [cl1]
        obtain ⟨n1a, n1d⟩ := src4.off n1
        have e5 := new_same (o := .lst ((ws.take m).map V.str)) n1
        have h51 : (upd H4 p1 (.lst ((ws.take m).map V.str))) p1 = some (.lst ((ws.take m).map V.str)) := upd_same
        generalize upd H4 p1 (.lst ((ws.take m).map V.str)) = H5 at e5 h51 ⊢
        refine ⟨_, rfl, _, rfl, a, d, _, 14, rfl, src4.same e5, by omega, by decide, by decide, fun H6 r kp6 src6 r0 r1 => ?_⟩
        obtain ⟨x, hx, xl⟩ := big r r0 r1
        refine ⟨q, _, r, _, rfl, rfl, SqL.of (kp6 _ _ qa qd (e5 _ _ hq4)), hx, (by show 1 ≤ sizeLine; decide), fun p2 n2 => ?_⟩
        have e7 := new_same (o := .lst [.str x]) n2
        have h72 : (upd H6 p2 (.lst [.str x])) p2 = some (.lst [.str x]) := upd_same
        generalize upd H6 p2 (.lst [.str x]) = H7 at e7 h72 ⊢
        refine ⟨p1, p2, _, _, rfl, rfl, e7 _ _ (kp6 _ _ n1a n1d h51), h72, by rw [List.length_map, List.length_take, sizeLine_eq]; show _ + 1 ≤ _; omega, fun p3 n3 => ?_⟩
        rw [show (ws.take m).map V.str ++ [V.str x] = (ws.take m ++ [x]).map V.str by rw [List.map_append]; rfl]
        have e8 := new_same (o := .lst ((ws.take m ++ [x]).map V.str)) n3
        have h83 : (upd H7 p3 (.lst ((ws.take m ++ [x]).map V.str))) p3 = some (.lst ((ws.take m ++ [x]).map V.str)) := upd_same
        generalize upd H7 p3 (.lst ((ws.take m ++ [x]).map V.str)) = H8 at e8 h83 ⊢
        refine ⟨_, rfl, _, rfl, _, _, rfl, rfl, _, rfl, p, _, rfl, SqL.of (e8 _ _ (e7 _ _ (kp6 _ _ pa pd (e5 _ _ hp4)))), fun p5 n5 => ?_⟩
        rw [cl2]
        have e9 := new_same (o := .lst ((ws.drop (m + 1)).map V.str)) n5
        have h95 : (upd H8 p5 (.lst ((ws.drop (m + 1)).map V.str))) p5 = some (.lst ((ws.drop (m + 1)).map V.str)) := upd_same
        generalize upd H8 p5 (.lst ((ws.drop (m + 1)).map V.str)) = H9 at e9 h95 ⊢
        have w1 : wsum [x] ≤ 43 := by show x.length + 1 + 0 ≤ 43; omega
        have sm : wsum ((ws.take m ++ [x]) ++ ws.drop (m + 1)) ≤ 1802 := by
          have h1 := wsum_cut m ws
          have h2 := wsum_cut 1 (ws.drop m)
          rw [List.drop_drop] at h2
          rw [wsum_app, wsum_app]
          omega
        refine ⟨p3, p5, _, _, rfl, rfl, e9 _ _ h83, h95, by rw [← List.length_append, ← List.map_append]; exact line _ (by omega), fun p6 n6 => ?_⟩
        rw [← List.map_append]
        have e10 := new_same (o := .lst (((ws.take m ++ [x]) ++ ws.drop (m + 1)).map V.str)) n6
        have e610 := ((e7.trans e8).trans e9).trans e10
        exact ⟨p6, _, rfl, ((k4.trans (Keep.of e5)).trans kp6).trans (Keep.of e610), (src6.same e610).more (by omega), upd_same, sm⟩
      · exact ⟨p, ws, rfl, k4, src4.more (by omega), hp4, by omega⟩
    · rintro σ G ⟨p', us, rfl, k5, src5, hp5, sm⟩
      have ul := wsum_sum us
      refine ⟨⟨_, rfl⟩, _, rfl, _, p', us, rfl, rfl, .inl (SqL.of hp5), ?_, ?_⟩
      · rw [mkS_len]
        show _ + _ * 1 ≤ _
        omega
      have jl := txt_join_len us
      generalize Txt.join (mkS [32]) us = z0 at jl ⊢
      have fin : ∀ (G' : Hp) (z' : Str), Keep a d H G' → Src G' a d (n + 20) → z'.length ≤ 1900 → Q (.str z') G' := k
      refine ⟨_, rfl, _, _, rfl, rfl, _, rfl, ite2 (fun c => ?_) (fun c => ?_)⟩
      · refine ⟨_, rfl, a, d, _, 3, rfl, src5, by omega, by decide, by decide, fun G6 r kp6 src6 r0 r1 => ?_⟩
        refine ⟨_, _, rfl, rfl, _, rfl, by omega, by omega, for_range (lo := 0) (fun i σ G' => ∃ (z' : Str) (v6 v7 v8 : Option V), σ = [some (.ref a), some (.str z'), some (.ref p'), some (.int (m : Nat)), some (.ref q), some (.int way), v6, v7, v8] ∧ Keep a d H G' ∧ Src G' a d (n + 6 + 4 * i) ∧ z'.length ≤ 1802 + i)
          ⟨z0, none, none, none, rfl, k5.trans kp6, src6.more (by omega), by omega⟩ (fun i σ G7 hi h => ?_) (fun σ G7 h => ?_)⟩
        · obtain ⟨z', v6, v7, v8, rfl, k7, src7, zl⟩ := h
          have i3 : i < 3 := by omega
          have ll : z'.length ≤ sizeLine := by rw [sizeLine_eq]; omega
          refine ⟨_, rfl, _, rfl, _, rfl, ll, _, _, rfl, rfl, a, d, _, _, rfl, src7, by omega, by omega, log9 (a := 30) (by omega) (by decide), fun G8 cut kp8 src8 c0 c1 => ?_⟩
          obtain ⟨cn, rfl⟩ := Int.eq_ofNat_of_zero_le c0
          refine ⟨_, rfl, a, d, _, 29, rfl, src8, by omega, by decide, by decide, fun G9 r9 kp9 src9 r90 r91 => ?_⟩
          obtain ⟨j, rfl⟩ := Int.eq_ofNat_of_zero_le r90
          have jl : j < (Str.ofString " 0123456789DURLHEdurlhenon.-+").cps.toList.length := by
            rw [show (Str.ofString " 0123456789DURLHEdurlhenon.-+").cps.toList.length = 29 by decide +kernel]
            omega
          refine ⟨_, _, _, rfl, rfl, by decide +kernel, atI_nat (List.getElem?_eq_getElem jl), ?_⟩
          refine ⟨_, rfl, a, d, _, 2, rfl, src9, by omega, by decide, by decide, fun G10 t kp10 src10 t0 t1 => ?_⟩
          obtain ⟨tn, rfl⟩ := Int.eq_ofNat_of_zero_le t0
          refine ⟨_, tn, rfl, rfl, by omega, (by show 1 ≤ 10000; decide), fun sg sl => ?_⟩
          have sl' : sg.length ≤ 1 := by
            have : (⟨#[(Str.ofString " 0123456789DURLHEdurlhenon.-+").cps.toList[j]]⟩ : Str).length * tn = tn := by
              show 1 * tn = tn
              omega
            omega
          refine ⟨_, rfl, _, rfl, _, rfl, _, rfl, ll, ?_⟩
          have h1 := cut_hi_len z' cn
          generalize cutS z' none (some ((cn : Nat) : Int)) = x1 at h1 ⊢
          refine ⟨_, rfl, _, _, rfl, rfl, by rw [sizeLine_eq]; omega, ?_⟩
          refine ⟨_, rfl, _, rfl, _, rfl, a, d, _, 2, rfl, src10, by omega, by decide, by decide, fun G11 u kp11 src11 u0 u1 => ?_⟩
          obtain ⟨un, rfl⟩ := Int.eq_ofNat_of_zero_le u0
          refine ⟨_, _, rfl, rfl, _, rfl, _, rfl, ll, ?_⟩
          rw [show ((cn : Nat) : Int) + ((un : Nat) : Int) = ((cn + un : Nat) : Int) by omega]
          have h2 := cut_lo_len z' (cn + un)
          generalize cutS z' (some ((cn + un : Nat) : Int)) none = x2 at h2 ⊢
          have lapp : ∀ x y : Str, (x ++ y).length = x.length + y.length := fun x y => by rw [len_tl, tl_append, List.length_append, ← len_tl, ← len_tl]
          refine ⟨_, _, rfl, rfl, by rw [lapp, sizeLine_eq]; omega, ?_⟩
          refine ⟨_, _, _, _, rfl, (((k7.trans kp8).trans kp9).trans kp10).trans kp11, src11.more (by omega), ?_⟩
          rw [lapp, lapp]
          omega
        · obtain ⟨z', v6, v7, v8, rfl, k7, src7, zl⟩ := h
          exact ⟨_, rfl, fin _ _ k7 (src7.more (by omega)) (by omega)⟩
      · refine ⟨_, rfl, by decide, by decide, for_range (lo := 0) (n := 0) (fun i σ G' => σ = [some (.ref a), some (.str z0), some (.ref p'), some (.int (m : Nat)), some (.ref q), some (.int way), none, none, none] ∧ G' = G)
          ⟨rfl, rfl⟩ (fun i σ G7 hi h => absurd hi (Nat.not_lt_zero i)) (fun σ G7 h => ?_)⟩
        obtain ⟨rfl, rfl⟩ := h
        exact ⟨_, rfl, fin _ _ k5 (src5.more (by omega)) (by omega)⟩
end
end Gc

/-! commands shown as text -/
namespace Gc
open PySem L2 TL
structure TxtW (mg : Str → Option Value) : Prop where
  str : mg "str" = none
  len : mg "len" = none
  divmod : mg "divmod" = none
def spShowN : Sp := fun vs H Q _ => ∃ n : Int, vs = [.int n] ∧ 0 ≤ n ∧ n < 10 ^ 64 ∧ Q (.str (mkS (numL n.toNat))) H
def spShow1 (K : PySem.W.Frag) : Sp := fun vs H Q _ => ∃ (v : V) (c : Cmd), vs = [v] ∧ CmdAt K H v c ∧ c.ok ∧ numC c < 10 ^ 40 ∧ Q (.str (mkS (cw c))) H
def spShow (K : PySem.W.Frag) : Sp := fun vs H Q _ => ∃ (l : Addr) (xs : List V) (cs : List Cmd), vs = [.ref l] ∧ SqL K H l xs ∧ CmdsOf K H xs cs ∧ AllOk cs ∧ (∀ c ∈ cs, numC c < 10 ^ 40) ∧ cs.length ≤ 10000 ∧ ∀ H', Same H H' → Q (.str (shownS cs)) H'
theorem str_num {n : Int} (h : 0 ≤ n) : Str.ofString (toString n) = mkS (numL n.toNat) := by
  obtain ⟨m, rfl⟩ := Int.eq_ofNat_of_zero_le h
  exact ext_tl (tl_num m)
theorem log64 {n : Int} (h0 : 0 ≤ n) (h : n < 10 ^ 64) : n.natAbs.log2 < 1920 :=
  Nat.lt_of_lt_of_le (PySem.Flt.log2_lt_of (k := 214) (by decide) (by omega)) (by decide)
theorem add_mk {l m : List Nat} (h : l.length + m.length ≤ 100000) {H : Hp} {Q : VK} (q : Q (.str (mkS (l ++ m))) H) : ∃ i j, V.str (mkS l) = .str i ∧ V.str (mkS m) = .str j ∧ i.length + j.length ≤ sizeLine ∧ Q (.str (i ++ j)) H := by
  refine ⟨_, _, rfl, rfl, ?_, ?_⟩
  · rw [mkS_len, mkS_len, sizeLine_eq]
    omega
  · rw [mkS_app]
    exact q
end Gc

/-! lists of commands, drawn; their text, written by the law -/
namespace Gc
open PySem L2 TL
abbrev s_commands : Stmt := top 22
abbrev s_written : Stmt := top 23
structure TxtV (mg : Str → Option Value) : Prop where
  str : mg "str" = none
  len : mg "len" = none
  int : mg "int" = none
  range : mg "range" = none
def letK : List (L2.Key × V) := [(.inr "down", .str "D"), (.inr "up", .str "U"), (.inr "right", .str "R"), (.inr "left", .str "L"), (.inr "home", .str "H"), (.inr "end", .str "E")]
theorem let_val (c : Cmd) : valV letK (.inr (nameC c) : L2.Key) = some (.str (mkS [letC c])) := by
  cases c <;> simp only [nameC, letC] <;> decide +kernel
def spCommands (K : PySem.W.Frag) : Sp := fun vs H Q _ => ∃ (a d : Addr) (n many : Nat), vs = [.ref a, .int many] ∧ Src H a d n ∧ n < 2 ^ 37 ∧ many ≤ 1000 ∧ ∀ (H' : Hp) (p : Addr) (xs : List V) (cs : List Cmd), Keep a d H H' → Src H' a d (n + 6000) → H p = none → H' p = some (.lst xs) → CmdsOf K H' xs cs → AllOk cs → (∀ c ∈ cs, numC c ≤ 10 ^ 30 - 1) → cs.length ≤ many → Q (.ref p) H'
def spWritten (K : PySem.W.Frag) : Sp := fun vs H Q _ => ∃ (l : Addr) (xs : List V) (cs : List Cmd), vs = [.ref l] ∧ SqL K H l xs ∧ CmdsOf K H xs cs ∧ AllOk cs ∧ (∀ c ∈ cs, numC c < 10 ^ 40) ∧ cs.length ≤ 1000 ∧ ∀ H', Same H H' → Q (.str (shownS cs)) H'
section
variable {P : Program} {w : World} {K : PySem.W.Frag} {mg : Str → Option Value} {base : Heap}
theorem sc_law_commands : FnScope ["source", "many", "time"] ["source", "many"] (defScope s_commands) := ⟨rfl, rfl, rfl, by decide +kernel, rfl, by decide +kernel, by decide +kernel⟩
theorem ok_commands {f : Addr} {fd : FuncData} (F : Fun K "_law_commands" "_law_commands" s_commands f fd) (T : TxtV mg) (c_law_draw : Cal P w K mg base 1 "_law_draw" spDraw) (c_law_command : Cal P w K mg base 3 "_law_command" (spCommand K)) : FnOk P w K mg base CX0 4 f fd ["source", "many"] (spCommands K) := by
  refine F.ok sc_law_commands (fun vs H Q E h => ?_) (fun cdv A outer s H vs Q E hr h => ?_)
  · obtain ⟨a, d, n, many, rfl, _⟩ := h
    rfl
  · obtain ⟨a, d, n, many, rfl, hs, hn, hm, k⟩ := h
    refine ⟨_, (pss_one (ps_ret (pe_lc (own := [("time", 2)]) rfl sc_law_commands.nd (pi_range1 rfl T.range (pa_cons (pe_cal c_law_draw hr (by decide) (by rfl) (pa_cons (pv 0) (pa_cons (pe_op op_add (pv 1) pe_int) pa_nil))) pa_nil)) (blkOk_by (N := ["source", "many", "time"]) (sc := defScope s_commands) (by decide +kernel)) (fun _ _ _ _ _ => (pg_name (i := 2) sc_law_commands.nd rfl (Or.inl rfl))) (fun _ _ _ _ _ => pts_nil) (fun _ _ _ _ _ => (pe_cal c_law_command hr (by decide) (by rfl) (pa_cons (pv 0) pa_nil)))))), ?_⟩
    refine ⟨_, rfl, _, rfl, _, _, rfl, rfl, a, d, n, _, rfl, hs, by omega, by omega, log9 (a := 20) (by omega) (by decide), fun H1 r kp1 s1 r0 r1 => ?_⟩
    obtain ⟨t, rfl⟩ := Int.eq_ofNat_of_zero_le r0
    have tm : t ≤ many := by omega
    refine ⟨_, rfl, by omega, by omega, fun D hD => ?_⟩
    obtain ⟨Da, Dd⟩ := s1.off hD
    refine lc_range (lo := 0) (n := t) (fun i H' => ∃ (xs : List V) (cs : List Cmd), Keep a d H1 H' ∧ Src H' a d (n + 1 + 5 * i) ∧ H' D = some (.lst xs) ∧ CmdsOf K H' xs cs ∧ AllOk cs ∧ (∀ c ∈ cs, numC c ≤ 10 ^ 30 - 1) ∧ cs.length = i)
      ⟨[], [], (Keep.refl H1).new hD, s1.same (new_same hD), upd_same, .nil, (fun _ h => nomatch h), (fun _ h => nomatch h), rfl⟩ (fun i H' hi h => ?_) (fun H' h => ?_)
    · obtain ⟨xs, cs, kp, sr, hD', hc, ok, num, len⟩ := h
      refine ⟨rfl, _, rfl, a, d, _, rfl, sr, by omega, fun H2 q c kp2 s2 nq hq okc numc => ?_⟩
      obtain ⟨qa, qd⟩ := sr.off nq
      have hD2 := kp2 _ _ Da Dd hD'
      have qD : q ≠ D := fun e => by rw [e, hD'] at nq; cases nq
      refine ⟨_, hD2, lt_line (by rw [hc.len]; omega), xs ++ [.ref q], cs ++ [c], ?_, ?_, upd_same, ?_, ?_, ?_, ?_⟩
      · exact fun b o n1 n2 hb => by
          rw [upd_ne (ne_of_none hb hD)]
          exact kp2 _ _ n1 n2 (kp _ _ n1 n2 hb)
      · exact (s2.upd Da Dd).more (by omega)
      · exact pairS ((sr.cmds kp2 hc).atL hD2) ⟨q, rfl, SqT.of (by rw [upd_ne qD]; exact hq)⟩
      · intro x hx
        rcases List.mem_append.mp hx with h | h
        · exact ok x h
        · rw [List.mem_singleton.mp h]
          exact okc
      · intro x hx
        rcases List.mem_append.mp hx with h | h
        · exact num x h
        · rw [List.mem_singleton.mp h]
          exact numc
      · rw [List.length_append, List.length_singleton, len]
    · obtain ⟨xs, cs, kp, sr, hD', hc, ok, num, len⟩ := h
      exact k H' D xs cs (kp1.trans kp) (sr.more (by omega)) (kp1.free Da Dd hD) hD' hc ok num (by omega)
theorem sc_law_written : FnScope ["moves", "found", "command", "letter"] ["moves"] (defScope s_written) := ⟨rfl, rfl, rfl, by decide +kernel, rfl, by decide +kernel, by decide +kernel⟩
theorem ok_written {f : Addr} {fd : FuncData} (F : Fun K "_law_written" "_law_written" s_written f fd) (T : TxtV mg) : FnOk P w K mg base CX0 1 f fd ["moves"] (spWritten K) := by
  refine F.ok sc_law_written (fun vs H Q E h => ?_) (fun cdv A outer s H vs Q E hr h => ?_)
  · obtain ⟨l, xs, cs, rfl, _⟩ := h
    rfl
  · obtain ⟨l, xs, cs, rfl, hl, hc, ok, num, len, k⟩ := h
    refine ⟨_, (pss_cons (ps_set (i := 1) sc_law_written.nd rfl (Or.inl rfl) pe_str)
      (pss_cons (ps_for PassesOwn.never rfl (pi_list (pv 0)) (pg_name (i := 2) sc_law_written.nd rfl (Or.inl rfl)) (pss_cons (ps_set (i := 3) sc_law_written.nd rfl (Or.inl rfl) (pe_dget (hu_of hr) (pe_disp (pps_cons pe_str pe_str (pps_cons pe_str pe_str (pps_cons pe_str pe_str (pps_cons pe_str pe_str (pps_cons pe_str pe_str (pps_cons pe_str pe_str pps_nil)))))) rfl rfl (by simp) (by decide)) (pe_ix ix_tup (pv 2) pe_int (fun _ _ => rfl)) (fun _ _ => rfl)))
      (pss_one (ps_set (i := 1) sc_law_written.nd rfl (Or.inl rfl) (pe_op op_add_str (pe_op op_add_str (pe_op op_add_str (pv 1) (pe_ix ix_list (pe_lst (pa_cons pe_str (pa_cons pe_str pa_nil))) (pe_callTy call_int1 (by rfl) T.int (by decide +kernel) (pa_cons (pe_cmpR op_eq (pv 1) pe_str (nomark _)) pa_nil)) (fun _ _ => rfl))) (pe_ifExp (pt_cmpR op_gt (pe_callB call_len_seq (by rfl) T.len (by decide +kernel) (pa_cons (pv 2) pa_nil)) pe_int (nomark _)) (pe_callTy call_str_int (by rfl) T.str (by decide +kernel) (pa_cons (pe_ix ix_tup (pv 2) pe_int (fun _ _ => rfl)) pa_nil)) pe_str)) (pv 3))))))
      (pss_one (ps_ret (pe_ifExp (pt_cmpR (op_neD hr.units) (pv 0) (pe_lst pa_nil) (nomark _)) (pv 1) pe_str))))), ?_⟩
    have xl := hc.len
    refine ⟨_, rfl, l, rfl, ⟨_, hl⟩, for_list (K := K) (a := l) (xs := xs) (fun i σ H' => ∃ v2 v3 : Option V, σ = [some (.ref l), some (.str (mkS (joinL [32] ((cs.take i).map cw)))), v2, v3] ∧ Same H H')
      ⟨none, none, rfl, Same.refl H⟩ (fun i σ H' _ ⟨_, _, _, e⟩ => e.seq hl) (fun i y σ H1 hi h => ?_) (fun σ H1 h => ?_)⟩
    · obtain ⟨v2, v3, rfl, e⟩ := h
      obtain ⟨c, hci, t, rfl, ht0⟩ := paired_at hc hi
      have ht := seq_t e ht0
      refine fun p hp => ⟨upd_same, letK, rfl, by decide, ?_⟩
      generalize g2 : upd (upd H1 p (.dK [])) p (.dK (mergeK [] letK)) = H2
      have e2 : Same H1 H2 := by rw [← g2]; exact same_freeU (same_freeU (Same.refl _) hp) hp
      have f2 : H2 p = some (.dK letK) := by rw [← g2]; exact upd_same
      have ht2 := seq_t e2 ht
      refine ⟨_, rfl, t, _, 0, _, rfl, rfl, ht2, enc_at c, p, _, rfl, getK f2 (let_val c), ?_⟩
      refine ⟨_, rfl, (by show 2 ≤ sizeLine; decide), fun q hq => ?_⟩
      have e3 : Same H2 (upd H2 q (.lst [.str " ", .str ""])) := new_same hq
      have ht3 := seq_t e3 ht2
      have li := (List.getElem?_eq_some_iff.mp hci).1
      have nums : numC c < 10 ^ 40 := num c (List.mem_of_getElem? hci)
      have dl := digC_len nums
      have fl : (joinL [32] ((cs.take i).map cw)).length ≤ 42 * 1000 := by
        have z := joinL_len (k := 41) (ps := (cs.take i).map cw) fun p hp => by
          obtain ⟨d, hd, rfl⟩ := List.mem_map.mp hp
          exact cw_len (num d (List.mem_of_mem_take hd))
        rw [List.length_map, List.length_take] at z
        omega
      have okc := ok c (List.mem_of_getElem? hci)
      have sep : atI [V.str " ", V.str ""] (if decide (V.str (mkS (joinL [32] ((cs.take i).map cw))) = V.str "") = true then 1 else 0) = some (.str (mkS (if i = 0 then [] else [32]))) := by
        have iff := shown_nil cs i c hci
        by_cases z : i = 0
        · rw [iff.mpr z, if_pos z]
          decide +kernel
        · rw [if_neg z, if_neg]
          · decide +kernel
          · intro q
            have q2 : mkS (joinL [32] ((cs.take i).map cw)) = mkS [] := V.str.inj (of_decide_eq_true q)
            exact z (iff.mp (mkS_inj q2))
      have sl : (if i = 0 then ([] : List Nat) else [32]).length ≤ 1 := by split <;> decide
      have step := shown_step cs i c hci
      refine ⟨_, rfl, rfl, .inr ⟨_, rfl, q, _, _, _, rfl, rfl, SqL.of upd_same, sep, ?_⟩⟩
      refine ⟨_, _, rfl, rfl, by rw [mkS_len, mkS_len, sizeLine_eq]; omega, ?_⟩
      rw [mkS_app]
      cases c with
      | down n =>
        have n1 : 1 ≤ n := okc
        have n2 : n < 10 ^ 40 := nums
        refine ⟨_, rfl, t, _, rfl, .inr ht3, _, _, rfl, rfl, _, rfl, iteT ?_⟩
        refine ⟨_, rfl, t, _, 1, _, rfl, rfl, ht3, rfl, n, rfl, log64 (by omega) (by omega), ?_⟩
        rw [str_num (by omega)]
        have dl' : (numL n.toNat).length ≤ 40 := dl
        refine ⟨_, _, rfl, rfl, by rw [mkS_len, mkS_len, List.length_append, sizeLine_eq]; omega, ?_⟩
        rw [mkS_app]
        refine ⟨_, rfl, _, _, rfl, rfl, by rw [mkS_len, mkS_len, List.length_append, List.length_append, List.length_singleton, sizeLine_eq]; omega, ?_⟩
        rw [mkS_app]
        exact ⟨_, _, by rw [step]; rfl, e.trans (e2.trans e3)⟩
      | up n =>
        have n1 : 1 ≤ n := okc
        have n2 : n < 10 ^ 40 := nums
        refine ⟨_, rfl, t, _, rfl, .inr ht3, _, _, rfl, rfl, _, rfl, iteT ?_⟩
        refine ⟨_, rfl, t, _, 1, _, rfl, rfl, ht3, rfl, n, rfl, log64 (by omega) (by omega), ?_⟩
        rw [str_num (by omega)]
        have dl' : (numL n.toNat).length ≤ 40 := dl
        refine ⟨_, _, rfl, rfl, by rw [mkS_len, mkS_len, List.length_append, sizeLine_eq]; omega, ?_⟩
        rw [mkS_app]
        refine ⟨_, rfl, _, _, rfl, rfl, by rw [mkS_len, mkS_len, List.length_append, List.length_append, List.length_singleton, sizeLine_eq]; omega, ?_⟩
        rw [mkS_app]
        exact ⟨_, _, by rw [step]; rfl, e.trans (e2.trans e3)⟩
      | right n =>
        have n1 : 1 ≤ n := okc
        have n2 : n < 10 ^ 40 := nums
        refine ⟨_, rfl, t, _, rfl, .inr ht3, _, _, rfl, rfl, _, rfl, iteT ?_⟩
        refine ⟨_, rfl, t, _, 1, _, rfl, rfl, ht3, rfl, n, rfl, log64 (by omega) (by omega), ?_⟩
        rw [str_num (by omega)]
        have dl' : (numL n.toNat).length ≤ 40 := dl
        refine ⟨_, _, rfl, rfl, by rw [mkS_len, mkS_len, List.length_append, sizeLine_eq]; omega, ?_⟩
        rw [mkS_app]
        refine ⟨_, rfl, _, _, rfl, rfl, by rw [mkS_len, mkS_len, List.length_append, List.length_append, List.length_singleton, sizeLine_eq]; omega, ?_⟩
        rw [mkS_app]
        exact ⟨_, _, by rw [step]; rfl, e.trans (e2.trans e3)⟩
      | left n =>
        have n1 : 1 ≤ n := okc
        have n2 : n < 10 ^ 40 := nums
        refine ⟨_, rfl, t, _, rfl, .inr ht3, _, _, rfl, rfl, _, rfl, iteT ?_⟩
        refine ⟨_, rfl, t, _, 1, _, rfl, rfl, ht3, rfl, n, rfl, log64 (by omega) (by omega), ?_⟩
        rw [str_num (by omega)]
        have dl' : (numL n.toNat).length ≤ 40 := dl
        refine ⟨_, _, rfl, rfl, by rw [mkS_len, mkS_len, List.length_append, sizeLine_eq]; omega, ?_⟩
        rw [mkS_app]
        refine ⟨_, rfl, _, _, rfl, rfl, by rw [mkS_len, mkS_len, List.length_append, List.length_append, List.length_singleton, sizeLine_eq]; omega, ?_⟩
        rw [mkS_app]
        exact ⟨_, _, by rw [step]; rfl, e.trans (e2.trans e3)⟩
      | home =>
        refine ⟨_, rfl, t, _, rfl, .inr ht3, _, _, rfl, rfl, _, rfl, iteF ?_⟩
        refine ⟨_, mkS [], rfl, rfl, by rw [mkS_len, mkS_len, List.length_append, List.length_nil, sizeLine_eq]; omega, ?_⟩
        rw [mkS_app]
        refine ⟨_, rfl, _, _, rfl, rfl, by rw [mkS_len, mkS_len, List.length_append, List.length_append, List.length_singleton, List.length_nil, sizeLine_eq]; omega, ?_⟩
        rw [mkS_app]
        exact ⟨_, _, by rw [step]; rfl, e.trans (e2.trans e3)⟩
      | stop =>
        refine ⟨_, rfl, t, _, rfl, .inr ht3, _, _, rfl, rfl, _, rfl, iteF ?_⟩
        refine ⟨_, mkS [], rfl, rfl, by rw [mkS_len, mkS_len, List.length_append, List.length_nil, sizeLine_eq]; omega, ?_⟩
        rw [mkS_app]
        refine ⟨_, rfl, _, _, rfl, rfl, by rw [mkS_len, mkS_len, List.length_append, List.length_append, List.length_singleton, List.length_nil, sizeLine_eq]; omega, ?_⟩
        rw [mkS_app]
        exact ⟨_, _, by rw [step]; rfl, e.trans (e2.trans e3)⟩
    · obtain ⟨v2, v3, rfl, e⟩ := h
      rw [List.take_of_length_le (by rw [xl]; exact Nat.le_refl _)]
      refine ⟨_, rfl, Nat.zero_le _, fun p hp => ?_⟩
      have e2 : Same H1 (upd H1 p (.lst [])) := new_same hp
      refine ⟨.list (cs.map cmdD), .list [], .lst ((e.trans e2).seq hl) (hc.same (e.trans e2)).dp, .lst (SqL.of upd_same) .nil, shaped_cmds cs, rfl, _, rfl, ?_⟩
      rw [show PyData.eqv (.list (cs.map cmdD)) (.list []) = decide (cs = []) from eqv_cmds cs []]
      by_cases z : cs = []
      · subst z
        exact iteF (k _ (e.trans e2))
      · rw [decide_eq_false z]
        refine iteT ⟨_, rfl, ?_⟩
        have q : shownS cs = mkS (joinL [32] (cs.map cw)) := by
          unfold shownS shownL
          rw [if_neg z]
        rw [← q]
        exact k _ (e.trans e2)
end
end Gc

namespace Gc
open PySem L2 TL
abbrev s_law : Stmt := top 29
structure TxtL (mg : Str → Option Value) : Prop where
  range : mg "range" = none
  min : mg "min" = none
  len : mg "len" = none
def spLaw (K : PySem.W.Frag) : Sp := fun vs H Q _ => ∃ (a : Addr) (ns : List Int), vs = [.ref a] ∧ SqL K H a (ns.map V.int) ∧ ns.length ≤ 63 ∧ ∀ H', Q (.bl true) H'
def fx1 : List Str := ["", " ", "none", "none ", "None", "H", "h", "H E", "H  E", " H", "H ", "1R", "0R", "R", "00R", "01R"]
def fx2 : List Str := ["10R", "1R none", "none none", "1 R", "1R1L", "HE", "1H", "1E", "-1R", "+1R"]
section
variable {P : Program} {w : World} {K : PySem.W.Frag} {mg : Str → Option Value} {base : Heap}
theorem sc_law : FnScope ["script", "source", "k", "turn", "note", "some", "fixed", "time", "one"] ["script"] (defScope s_law) := ⟨rfl, rfl, rfl, by decide +kernel, rfl, by decide +kernel, by decide +kernel⟩
theorem ok_law {f : Addr} {fd : FuncData} (F : Fun K "law" "law" s_law f fd) (T : TxtL mg) (c_law_source : Cal P w K mg base 1 "_law_source" (spSource K)) (c_law_draw : Cal P w K mg base 1 "_law_draw" spDraw)
    (c_law_commands : Cal P w K mg base 4 "_law_commands" (spCommands K)) (c_law_written : Cal P w K mg base 1 "_law_written" (spWritten K)) (c_law_bent : Cal P w K mg base 2 "_law_bent" spBent) (c_law_right : Cal P w K mg base 5 "_law_right" spRight1) : FnOk P w K mg base CX0 6 f fd ["script"] (spLaw K) := by
  refine F.ok sc_law (fun vs H Q E h => ?_) (fun cdv A outer s H vs Q E hr h => ?_)
  · obtain ⟨a, ns, rfl, _⟩ := h
    rfl
  · obtain ⟨a, ns, rfl, hS, hlen, k⟩ := h
    refine ⟨_, (pss_cons (ps_set (i := 1) sc_law.nd rfl (Or.inr rfl) (pe_cal c_law_source hr (by decide) (by rfl) (pa_cons (pv 0) pa_nil)))
      (pss_cons (ps_for PassesOwn.never rfl (pi_range1 rfl T.range (pa_cons (pe_op op_add pe_int (pe_callB (call_min2 rfl) (by rfl) T.min (by decide +kernel) (pa_cons pe_int (pa_cons (pe_callB call_len_seq (by rfl) T.len (by decide +kernel) (pa_cons (pv 0) pa_nil)) pa_nil)))) pa_nil)) (pg_name (i := 2) sc_law.nd rfl (Or.inl rfl)) (pss_one (ps_for PassesOwn.never rfl (pi_range1 rfl T.range (pa_cons pe_int pa_nil)) (pg_name (i := 3) sc_law.nd rfl (Or.inl rfl)) (pss_cons (ps_set (i := 4) sc_law.nd rfl (Or.inr rfl) (pe_cal c_law_written hr (by decide) (by rfl) (pa_cons (pe_cal c_law_commands hr (by decide) (by rfl) (pa_cons (pv 1) (pa_cons (pe_ix ix_list (pe_lst (pa_cons pe_int (pa_cons pe_int pa_nil))) (pe_cal c_law_draw hr (by decide) (by rfl) (pa_cons (pv 1) (pa_cons pe_int pa_nil))) (fun _ _ => rfl)) pa_nil))) pa_nil)))
      (pss_cons (ps_set (i := 5) sc_law.nd rfl (Or.inl rfl) (pe_op op_cat (pe_lst (pa_cons (pv 4) pa_nil)) (pe_lc (own := [("time", 7)]) rfl sc_law.nd (pi_range1 rfl T.range (pa_cons pe_int pa_nil)) (blkOk_by (N := ["script", "source", "k", "turn", "note", "some", "fixed", "time", "one"]) (sc := defScope s_law) (by decide +kernel)) (fun _ _ _ _ _ => (pg_name (i := 7) sc_law.nd rfl (Or.inl rfl))) (fun _ _ _ _ _ => pts_nil) (fun _ _ _ _ _ => (pe_cal c_law_bent hr (by decide) (by rfl) (pa_cons (pv 1) (pa_cons (pv 4) pa_nil)))))))
      (pss_one (ps_if (pt_cmpR (op_neD hr.units) (pe_lc (own := [("one", 8)]) rfl sc_law.nd (pi_list (pv 5)) (blkOk_by (N := ["script", "source", "k", "turn", "note", "some", "fixed", "time", "one"]) (sc := defScope s_law) (by decide +kernel)) (fun _ _ _ _ _ => (pg_name (i := 8) sc_law.nd rfl (Or.inl rfl))) (fun _ _ _ _ _ => (pts_one (pt_not (pt_val (pe_cal c_law_right hr (by decide) (by rfl) (pa_cons (pv 8) pa_nil)))))) (fun _ _ _ _ _ => (pv 8))) (pe_lst pa_nil) (nomark _)) (pss_one (ps_ret pe_bl)) pss_nil)))))))
      (pss_cons (ps_set (i := 6) sc_law.nd rfl (Or.inl rfl) (pe_lst (pa_cons pe_str (pa_cons pe_str (pa_cons pe_str (pa_cons pe_str (pa_cons pe_str (pa_cons pe_str (pa_cons pe_str (pa_cons pe_str (pa_cons pe_str (pa_cons pe_str (pa_cons pe_str (pa_cons pe_str (pa_cons pe_str (pa_cons pe_str (pa_cons pe_str (pa_cons pe_str pa_nil))))))))))))))))))
      (pss_cons (ps_set (i := 6) sc_law.nd rfl (Or.inl rfl) (pe_op op_cat (pv 6) (pe_lst (pa_cons pe_str (pa_cons pe_str (pa_cons pe_str (pa_cons pe_str (pa_cons pe_str (pa_cons pe_str (pa_cons pe_str (pa_cons pe_str (pa_cons pe_str (pa_cons pe_str pa_nil)))))))))))))
      (pss_cons (ps_set (i := 6) sc_law.nd rfl (Or.inl rfl) (pe_op op_cat (pv 6) (pe_lst (pa_cons pe_str (pa_cons pe_str (pa_cons pe_str (pa_cons pe_str (pa_cons (pe_op op_add_str (pe_op op_repS pe_str pe_int) pe_str) (pa_cons (pe_op op_add_str (pe_op op_repS pe_str pe_int) pe_str) (pa_cons (pe_op op_add_str (pe_op op_add_str pe_str (pe_op op_repS pe_str pe_int)) pe_str) (pa_cons pe_str (pa_cons pe_str pa_nil))))))))))))
      (pss_one (ps_ret (pe_cmpR (op_eqD hr.units) (pe_lc (own := [("one", 8)]) rfl sc_law.nd (pi_list (pv 6)) (blkOk_by (N := ["script", "source", "k", "turn", "note", "some", "fixed", "time", "one"]) (sc := defScope s_law) (by decide +kernel)) (fun _ _ _ _ _ => (pg_name (i := 8) sc_law.nd rfl (Or.inl rfl))) (fun _ _ _ _ _ => (pts_one (pt_not (pt_val (pe_cal c_law_right hr (by decide) (by rfl) (pa_cons (pv 8) pa_nil)))))) (fun _ _ _ _ _ => (pv 8))) (pe_lst pa_nil) (nomark _))))))))), ?_⟩
    refine ⟨_, rfl, a, ns, rfl, hS, hlen, fun H1 p d e1 np nd S1 => ?_⟩
    refine ⟨_, rfl, a, _, rfl, .inl (e1.seq hS), _, _, rfl, _, _, rfl, rfl, _, rfl, ?_, ?_, ?_⟩
    · omega
    · omega
    refine for_range (lo := 0) (fun i σ H' => ∃ v2 v3 v4 v5 v6 v7 v8 : Option V, σ = [some (.ref a), some (.ref p), v2, v3, v4, v5, v6, v7, v8] ∧ Src H' p d (100000 * i)) ⟨none, none, none, none, none, none, none, rfl, S1⟩ (fun i σ H2 hi h => ?_) (fun σ H2 h => ?_)
    · obtain ⟨v2, v3, v4, v5, v6, v7, v8, rfl, S2⟩ := h
      have hi' : i < 2 ^ 10 := by
        rw [List.length_map] at hi
        omega
      refine ⟨4, rfl, by decide, by decide, for_range (lo := 0) (n := 4) (fun j σ H' => ∃ v3 v4 v5 v6 v7 v8 : Option V, σ = [some (.ref a), some (.ref p), some (.int (0 + (i : Int))), v3, v4, v5, v6, v7, v8] ∧ Src H' p d (100000 * i + 20000 * j))
        ⟨v3, v4, v5, v6, v7, v8, rfl, S2⟩ (fun j σ H3 hj h => ?_) (fun σ H4 h => ?_)⟩
      · obtain ⟨v3, v4, v5, v6, v7, v8, rfl, S3⟩ := h
        refine ⟨_, rfl, (by show 2 ≤ sizeLine; decide), fun q hq => ?_⟩
        obtain ⟨qa, qd⟩ := S3.off hq
        refine ⟨_, rfl, p, d, _, 2, rfl, S3.same (new_same hq), by omega, by decide, by decide, fun H5 r kp5 S5 r0 r1 => ?_⟩
        obtain ⟨m, hm, m1⟩ : ∃ m : Nat, atI [V.int 3, .int 20] r = some (.int m) ∧ m ≤ 20 := by
          rcases (show r = 0 ∨ r = 1 by omega) with rfl | rfl
          · exact ⟨3, rfl, by decide⟩
          · exact ⟨20, rfl, by decide⟩
        refine ⟨q, _, r, _, rfl, rfl, SqL.of (kp5 _ _ qa qd upd_same), hm, p, d, _, m, rfl, S5, by omega, by omega, fun H6 l xs cs kp6 S6 nl hl hc ok num len => ?_⟩
        have num40 : ∀ c ∈ cs, numC c < 10 ^ 40 := fun c h => by have := num c h; omega
        have ln1 : (shownS cs).length ≤ 844 := by
          have := shownL_len num40
          unfold shownS
          rw [mkS_len]
          omega
        refine ⟨l, xs, cs, rfl, SqL.of hl, hc, ok, num40, by omega, fun H7 e7 => ?_⟩
        replace S6 := S6.same e7
        generalize shownS cs = z0 at ln1 ⊢
        refine ⟨_, rfl, (by show 1 ≤ sizeLine; decide), fun b nb => ?_⟩
        obtain ⟨ba, bd⟩ := S6.off nb
        have e8 := new_same (o := .lst [.str z0]) nb
        have hb8 : (upd H7 b (.lst [.str z0])) b = some (.lst [.str z0]) := upd_same
        generalize upd H7 b (.lst [.str z0]) = H8 at e8 hb8 ⊢
        replace S6 := S6.same e8
        refine ⟨4, rfl, by decide, by decide, fun D hD => ?_⟩
        obtain ⟨Da, Dd⟩ := S6.off hD
        refine lc_range (lo := 0) (n := 4) (fun i2 H' => ∃ us : List Str, Keep p d H8 H' ∧ Src H' p d (100000 * i + 20000 * j + 1 + 6000 + 20 * i2) ∧ H' D = some (.lst (us.map V.str)) ∧ us.length = i2 ∧ ∀ x ∈ us, x.length ≤ 1900)
          ⟨[], Keep.of (new_same hD), (S6.same (new_same hD)).more (by omega), upd_same, rfl, (fun _ h => nomatch h)⟩ (fun i2 H9 hi2 h => ?_) (fun H9 h => ?_)
        · obtain ⟨us, k9, s9, hD9, ul, ux⟩ := h
          refine ⟨rfl, _, rfl, _, rfl, p, d, _, z0, rfl, s9, by omega, by omega, fun H10 z' kp10 s10 zl => ?_⟩
          have hD10 := kp10 _ _ Da Dd hD9
          refine ⟨_, hD10, lt_line (by rw [List.length_map]; omega), us ++ [z'], ?_, ?_, ?_, ?_, ?_⟩
          · exact fun x o n1 n2 hx => by
              rw [upd_ne (ne_of_none hx hD)]
              exact kp10 _ _ n1 n2 (k9 _ _ n1 n2 hx)
          · exact (s10.upd Da Dd).more (by omega)
          · rw [upd_same, List.map_append]
            rfl
          · rw [List.length_append, ul]
            rfl
          · intro x hx
            rcases List.mem_append.mp hx with h | h
            · exact ux x h
            · rw [List.mem_singleton.mp h]
              exact zl
        · obtain ⟨us, k9, s9, hD9, ul, ux⟩ := h
          have hb9 := k9 _ _ ba bd hb8
          refine ⟨b, D, _, _, rfl, rfl, hb9, hD9, by rw [List.length_map, ul, sizeLine_eq]; show 1 + 4 ≤ _; omega, fun l2 nl2 => ?_⟩
          have e10 := new_same (o := .lst ([.str z0] ++ us.map V.str)) nl2
          have h10 : (upd H9 l2 (.lst ([.str z0] ++ us.map V.str))) l2 = some (.lst ((z0 :: us).map V.str)) := upd_same
          generalize upd H9 l2 (.lst ([.str z0] ++ us.map V.str)) = H10 at e10 h10 ⊢
          replace s9 := s9.same e10
          have ux' : ∀ x ∈ z0 :: us, x.length ≤ 1900 := fun x hx => by
            rcases List.mem_cons.mp hx with h | h
            · rw [h]; omega
            · exact ux x h
          have ul' : (z0 :: us).length ≤ 100 := by
            rw [List.length_cons, ul]
            omega
          generalize z0 :: us = ws at h10 ux' ul'
          refine ⟨_, rfl, l2, rfl, ⟨_, SqL.of h10⟩, fun D2 nD2 => ?_⟩
          refine lc_list (K := K) (a := l2) (xs := ws.map V.str) (fun i2 H' => Same H10 H' ∧ H' D2 = some (.lst [])) ⟨new_same nD2, upd_same⟩ (fun _ _ _ h => SqL.of (h.1 _ _ h10)) (fun i2 x H11 hx h => ?_) (fun H11 h => ?_)
          · obtain ⟨e11, hD11⟩ := h
            rw [List.getElem?_map] at hx
            cases hw : ws[i2]? with
            | none => rw [hw] at hx; cases hx
            | some y =>
              rw [hw] at hx
              obtain rfl := Option.some.inj hx
              refine ⟨rfl, _, rfl, y, rfl, ux' y (List.mem_of_getElem? hw), fun H12 e12 => ?_⟩
              exact ⟨_, rfl, e11.trans e12, e12 _ _ hD11⟩
          · obtain ⟨e11, hD11⟩ := h
            refine ⟨Nat.zero_le _, fun q2 nq2 => ?_⟩
            have e12 := new_same (o := .lst []) nq2
            refine ⟨.list [], .list [], .lst (SqL.of (e12 _ _ hD11)) .nil, .lst (SqL.of upd_same) .nil, rfl, rfl, false, by rw [SeqAt.eqv_refl _ rfl]; rfl, iteF ?_⟩
            exact ⟨_, _, _, _, _, _, rfl, (s9.same (e11.trans e12)).more (by omega)⟩
      · obtain ⟨v3, v4, v5, v6, v7, v8, rfl, S3⟩ := h
        exact ⟨_, _, _, _, _, _, _, rfl, S3.more (by omega)⟩
    · obtain ⟨v2, v3, v4, v5, v6, v7, v8, rfl, S2⟩ := h
      refine ⟨(by show 16 ≤ sizeLine; decide), fun q1 n1 => ?_⟩
      have e3 := new_same (o := .lst [V.str "", V.str " ", V.str "none", V.str "none ", V.str "None", V.str "H", V.str "h", V.str "H E", V.str "H  E", V.str " H", V.str "H ", V.str "1R", V.str "0R", V.str "R", V.str "00R", V.str "01R"]) n1
      have h3 : (upd H2 q1 (.lst [V.str "", V.str " ", V.str "none", V.str "none ", V.str "None", V.str "H", V.str "h", V.str "H E", V.str "H  E", V.str " H", V.str "H ", V.str "1R", V.str "0R", V.str "R", V.str "00R", V.str "01R"])) q1 = some (.lst (fx1.map V.str)) := upd_same
      generalize upd H2 q1 (.lst [V.str "", V.str " ", V.str "none", V.str "none ", V.str "None", V.str "H", V.str "h", V.str "H E", V.str "H  E", V.str " H", V.str "H ", V.str "1R", V.str "0R", V.str "R", V.str "00R", V.str "01R"]) = H3 at e3 h3 ⊢
      refine ⟨_, rfl, (by show 10 ≤ sizeLine; decide), fun q2 n2 => ?_⟩
      have e4 := new_same (o := .lst [V.str "10R", V.str "1R none", V.str "none none", V.str "1 R", V.str "1R1L", V.str "HE", V.str "1H", V.str "1E", V.str "-1R", V.str "+1R"]) n2
      have h4 : (upd H3 q2 (.lst [V.str "10R", V.str "1R none", V.str "none none", V.str "1 R", V.str "1R1L", V.str "HE", V.str "1H", V.str "1E", V.str "-1R", V.str "+1R"])) q2 = some (.lst (fx2.map V.str)) := upd_same
      generalize upd H3 q2 (.lst [V.str "10R", V.str "1R none", V.str "none none", V.str "1 R", V.str "1R1L", V.str "HE", V.str "1H", V.str "1E", V.str "-1R", V.str "+1R"]) = H4 at e4 h4 ⊢
      refine ⟨q1, q2, _, _, rfl, rfl, e4 _ _ h3, h4, by decide +kernel, fun q3 n3 => ?_⟩
      have e5 := new_same (o := .lst (fx1.map V.str ++ fx2.map V.str)) n3
      have h5 : (upd H4 q3 (.lst (fx1.map V.str ++ fx2.map V.str))) q3 = some (.lst ((fx1 ++ fx2).map V.str)) := upd_same
      generalize upd H4 q3 (.lst (fx1.map V.str ++ fx2.map V.str)) = H5 at e5 h5 ⊢
      have o9 : (Str.ofString "9").length = 1 := by decide +kernel
      have o0 : (Str.ofString "0").length = 1 := by decide +kernel
      have o1 : (Str.ofString "1").length = 1 := by decide +kernel
      have oD : (Str.ofString "D").length = 1 := by decide +kernel
      have oU : (Str.ofString "U").length = 1 := by decide +kernel
      have lapp : ∀ x y : Str, (x ++ y).length = x.length + y.length := fun x y => by rw [len_tl, tl_append, List.length_append, ← len_tl, ← len_tl]
      refine ⟨_, rfl, ?_⟩
      refine ⟨_, 40, rfl, rfl, by decide, by decide, fun z40 l40 => ⟨_, _, rfl, rfl, by rw [sizeLine_eq]; omega, ?_⟩⟩
      refine ⟨_, 41, rfl, rfl, by decide, by decide, fun z41 l41 => ⟨_, _, rfl, rfl, by rw [sizeLine_eq]; omega, ?_⟩⟩
      refine ⟨_, 40, rfl, rfl, by decide, by decide, fun z0 l0 => ⟨_, _, rfl, rfl, by rw [sizeLine_eq]; omega, ⟨_, _, rfl, rfl, by rw [lapp, sizeLine_eq]; omega, ?_⟩⟩⟩
      refine ⟨(by show 9 ≤ sizeLine; decide), fun q4 n4 => ?_⟩
      have x3 : ∀ x ∈ (["1.0R", "1r", "3", "D3", z40 ++ "D", z41 ++ "D", "1" ++ z0 ++ "U", "~", "1_0R"] : List Str), x.length ≤ 1900 := fun x hx => by
        simp only [List.mem_cons, List.not_mem_nil, or_false] at hx
        rcases hx with rfl | rfl | rfl | rfl | rfl | rfl | rfl | rfl | rfl
        · decide +kernel
        · decide +kernel
        · decide +kernel
        · decide +kernel
        · rw [lapp]; omega
        · rw [lapp]; omega
        · rw [lapp, lapp]; omega
        · decide +kernel
        · decide +kernel
      have e6 := new_same (o := .lst [V.str "1.0R", V.str "1r", V.str "3", V.str "D3", V.str (z40 ++ "D"), V.str (z41 ++ "D"), V.str ("1" ++ z0 ++ "U"), V.str "~", V.str "1_0R"]) n4
      have h6 : (upd H5 q4 (.lst [V.str "1.0R", V.str "1r", V.str "3", V.str "D3", V.str (z40 ++ "D"), V.str (z41 ++ "D"), V.str ("1" ++ z0 ++ "U"), V.str "~", V.str "1_0R"])) q4 = some (.lst ((["1.0R", "1r", "3", "D3", z40 ++ "D", z41 ++ "D", "1" ++ z0 ++ "U", "~", "1_0R"] : List Str).map V.str)) := upd_same
      generalize upd H5 q4 (.lst [V.str "1.0R", V.str "1r", V.str "3", V.str "D3", V.str (z40 ++ "D"), V.str (z41 ++ "D"), V.str ("1" ++ z0 ++ "U"), V.str "~", V.str "1_0R"]) = H6 at e6 h6 ⊢
      have m3 : (["1.0R", "1r", "3", "D3", z40 ++ "D", z41 ++ "D", "1" ++ z0 ++ "U", "~", "1_0R"] : List Str).length = 9 := rfl
      generalize (["1.0R", "1r", "3", "D3", z40 ++ "D", z41 ++ "D", "1" ++ z0 ++ "U", "~", "1_0R"] : List Str) = us at x3 h6 m3
      have x1 : ∀ x ∈ fx1 ++ fx2, x.length ≤ 1900 := by decide +kernel
      have m1 : (fx1 ++ fx2).length = 26 := by decide +kernel
      generalize fx1 ++ fx2 = ts at x1 m1 h5
      refine ⟨q3, q4, _, _, rfl, rfl, e6 _ _ h5, h6, by rw [List.length_map, List.length_map, m1, m3, sizeLine_eq]; decide, fun l2 nl2 => ?_⟩
      have e10 := new_same (o := .lst (ts.map V.str ++ us.map V.str)) nl2
      have h10 : (upd H6 l2 (.lst (ts.map V.str ++ us.map V.str))) l2 = some (.lst ((ts ++ us).map V.str)) := by rw [upd_same, List.map_append]
      generalize upd H6 l2 (.lst (ts.map V.str ++ us.map V.str)) = H10 at e10 h10 ⊢
      have ux' : ∀ x ∈ ts ++ us, x.length ≤ 1900 := fun x hx => (List.mem_append.mp hx).elim (x1 x) (x3 x)
      generalize ts ++ us = ws at h10 ux'
      refine ⟨_, rfl, l2, rfl, ⟨_, SqL.of h10⟩, fun D2 nD2 => ?_⟩
      refine lc_list (K := K) (a := l2) (xs := ws.map V.str) (fun i2 H' => Same H10 H' ∧ H' D2 = some (.lst [])) ⟨new_same nD2, upd_same⟩ (fun _ _ _ h => SqL.of (h.1 _ _ h10)) (fun i2 x H11 hx h => ?_) (fun H11 h => ?_)
      · obtain ⟨e11, hD11⟩ := h
        rw [List.getElem?_map] at hx
        cases hw : ws[i2]? with
        | none => rw [hw] at hx; cases hx
        | some y =>
          rw [hw] at hx
          obtain rfl := Option.some.inj hx
          refine ⟨rfl, _, rfl, y, rfl, ux' y (List.mem_of_getElem? hw), fun H12 e12 => ?_⟩
          exact ⟨_, rfl, e11.trans e12, e12 _ _ hD11⟩
      · obtain ⟨e11, hD11⟩ := h
        refine ⟨Nat.zero_le _, fun q2 nq2 => ?_⟩
        have e12 := new_same (o := .lst []) nq2
        refine ⟨.list [], .list [], .lst (SqL.of (e12 _ _ hD11)) .nil, .lst (SqL.of upd_same) .nil, rfl, rfl, ?_⟩
        rw [SeqAt.eqv_refl _ rfl]
        exact k _
end
end Gc

/-! the __init__ of the errors -/
namespace Gc
open PySem L2
theorem kit_own {K : PySem.W.Frag} {C D : Addr} {b : Bool} (h1 : PySem.W.isClsIn K D = true) (h2 : PySem.W.typeIn K (.ref D) = some (.type "type"))
    (h3 : PySem.W.subIn K (.ref C) (.ref D) = some b) (hr : PySem.W.subIn K (.ref C) (.ref C) = some true) : PySem.W.kitOne K (.ref C) (.ref D) = some b := by
  unfold PySem.W.kitOne
  split
  · rename_i e
    have z : C = D := Value.ref.inj (beq_iff_eq.mp e)
    subst z
    exact hr.symm.trans h3
  · show (if ((PySem.W.clsIn K D).isSome && PySem.W.typeIn K (.ref D) == some (.type "type")) = true then PySem.W.subIn K (.ref C) (.ref D) else none) = some b
    have h1' : (PySem.W.clsIn K D).isSome = true := h1
    rw [h1', h2]
    exact h3
theorem kit_bl {K : PySem.W.Frag} {C : Addr} {T : String} {b : Bool} (hm : PySem.W.kitMeta T = true) (h : PySem.W.subIn K (.ref C) (.type T) = some b) : PySem.W.kitOne K (.ref C) (.type T) = some b := by
  unfold PySem.W.kitOne
  rw [if_neg (by intro e; cases beq_iff_eq.mp e)]
  show (if PySem.W.kitMeta T = true then PySem.W.subIn K (.ref C) (.type T) else none) = some b
  rw [if_pos hm]
  exact h
section
variable {P : Program} {w : World} {K : PySem.W.Frag} {mg : Str → Option Value} {base : Heap}
abbrev sI0 : Stmt := inClass (top 2) 0
theorem sc_I0 : FnScope ["self", "value"] ["self", "value"] (defScope sI0) := ⟨rfl, rfl, rfl, by decide +kernel, rfl, by decide +kernel, by decide +kernel⟩
theorem errc_I0 {fI C : Addr} {fd : FuncData} (F : Fun K "__init__" "InvalidText.__init__" sI0 fI fd) (T : OexC K C) (g : mg "InvalidText" = some (.ref C)) (no : PySem.W.findIn K (.ref C) "value" = some none)
    (iC : PySem.W.findIn K (.ref C) "__init__" = some (some (.ref fI))) (tI : PySem.W.typeIn K (.ref fI) = some (.type "function")) : ErrC P w K mg base "InvalidText" C := by
  have ok : FnOk P w K mg base CX0 1 fI fd ["self", "value"] (spKeep C) := by
    refine F.ok sc_I0 (fun vs H Q E h => ?_) (fun cdv A outer s H vs Q E hr h => ?_)
    · obtain ⟨a, v, rfl, _⟩ := h
      rfl
    · obtain ⟨a, v, rfl, ha, k⟩ := h
      refine ⟨_, pss_one (ps_ost (pv 0) (pv 1)), ?_⟩
      exact ⟨_, rfl, _, rfl, a, C, rfl, T, no, .inl ⟨ha, fun dx hd ne => k dx hd ne⟩⟩
  exact ⟨T, g, no, fI, fd, iC, tI, ok, F.binds (ps := ["self", "value"]) fun _ _ _ _ _ _ us hl => match us, hl with | [_, _], _ => rfl⟩
abbrev sI1 : Stmt := inClass (top 3) 0
theorem sc_I1 : FnScope ["self", "value"] ["self", "value"] (defScope sI1) := ⟨rfl, rfl, rfl, by decide +kernel, rfl, by decide +kernel, by decide +kernel⟩
theorem errc_I1 {fI C : Addr} {fd : FuncData} (F : Fun K "__init__" "InvalidCursor.__init__" sI1 fI fd) (T : OexC K C) (g : mg "InvalidCursor" = some (.ref C)) (no : PySem.W.findIn K (.ref C) "value" = some none)
    (iC : PySem.W.findIn K (.ref C) "__init__" = some (some (.ref fI))) (tI : PySem.W.typeIn K (.ref fI) = some (.type "function")) : ErrC P w K mg base "InvalidCursor" C := by
  have ok : FnOk P w K mg base CX0 1 fI fd ["self", "value"] (spKeep C) := by
    refine F.ok sc_I1 (fun vs H Q E h => ?_) (fun cdv A outer s H vs Q E hr h => ?_)
    · obtain ⟨a, v, rfl, _⟩ := h
      rfl
    · obtain ⟨a, v, rfl, ha, k⟩ := h
      refine ⟨_, pss_one (ps_ost (pv 0) (pv 1)), ?_⟩
      exact ⟨_, rfl, _, rfl, a, C, rfl, T, no, .inl ⟨ha, fun dx hd ne => k dx hd ne⟩⟩
  exact ⟨T, g, no, fI, fd, iC, tI, ok, F.binds (ps := ["self", "value"]) fun _ _ _ _ _ _ us hl => match us, hl with | [_, _], _ => rfl⟩
abbrev sI2 : Stmt := inClass (top 4) 0
theorem sc_I2 : FnScope ["self", "value"] ["self", "value"] (defScope sI2) := ⟨rfl, rfl, rfl, by decide +kernel, rfl, by decide +kernel, by decide +kernel⟩
theorem errc_I2 {fI C : Addr} {fd : FuncData} (F : Fun K "__init__" "InvalidCommand.__init__" sI2 fI fd) (T : OexC K C) (g : mg "InvalidCommand" = some (.ref C)) (no : PySem.W.findIn K (.ref C) "value" = some none)
    (iC : PySem.W.findIn K (.ref C) "__init__" = some (some (.ref fI))) (tI : PySem.W.typeIn K (.ref fI) = some (.type "function")) : ErrC P w K mg base "InvalidCommand" C := by
  have ok : FnOk P w K mg base CX0 1 fI fd ["self", "value"] (spKeep C) := by
    refine F.ok sc_I2 (fun vs H Q E h => ?_) (fun cdv A outer s H vs Q E hr h => ?_)
    · obtain ⟨a, v, rfl, _⟩ := h
      rfl
    · obtain ⟨a, v, rfl, ha, k⟩ := h
      refine ⟨_, pss_one (ps_ost (pv 0) (pv 1)), ?_⟩
      exact ⟨_, rfl, _, rfl, a, C, rfl, T, no, .inl ⟨ha, fun dx hd ne => k dx hd ne⟩⟩
  exact ⟨T, g, no, fI, fd, iC, tI, ok, F.binds (ps := ["self", "value"]) fun _ _ _ _ _ _ us hl => match us, hl with | [_, _], _ => rfl⟩
abbrev sI3 : Stmt := inClass (top 5) 0
theorem sc_I3 : FnScope ["self", "value"] ["self", "value"] (defScope sI3) := ⟨rfl, rfl, rfl, by decide +kernel, rfl, by decide +kernel, by decide +kernel⟩
theorem errc_I3 {fI C : Addr} {fd : FuncData} (F : Fun K "__init__" "Impossible.__init__" sI3 fI fd) (T : OexC K C) (g : mg "Impossible" = some (.ref C)) (no : PySem.W.findIn K (.ref C) "value" = some none)
    (iC : PySem.W.findIn K (.ref C) "__init__" = some (some (.ref fI))) (tI : PySem.W.typeIn K (.ref fI) = some (.type "function")) : ErrC P w K mg base "Impossible" C := by
  have ok : FnOk P w K mg base CX0 1 fI fd ["self", "value"] (spKeep C) := by
    refine F.ok sc_I3 (fun vs H Q E h => ?_) (fun cdv A outer s H vs Q E hr h => ?_)
    · obtain ⟨a, v, rfl, _⟩ := h
      rfl
    · obtain ⟨a, v, rfl, ha, k⟩ := h
      refine ⟨_, pss_one (ps_ost (pv 0) (pv 1)), ?_⟩
      exact ⟨_, rfl, _, rfl, a, C, rfl, T, no, .inl ⟨ha, fun dx hd ne => k dx hd ne⟩⟩
  exact ⟨T, g, no, fI, fd, iC, tI, ok, F.binds (ps := ["self", "value"]) fun _ _ _ _ _ _ us hl => match us, hl with | [_, _], _ => rfl⟩
abbrev sI4 : Stmt := inClass (top 6) 0
theorem sc_I4 : FnScope ["self", "value"] ["self", "value"] (defScope sI4) := ⟨rfl, rfl, rfl, by decide +kernel, rfl, by decide +kernel, by decide +kernel⟩
theorem errc_I4 {fI C : Addr} {fd : FuncData} (F : Fun K "__init__" "InvalidNumber.__init__" sI4 fI fd) (T : OexC K C) (g : mg "InvalidNumber" = some (.ref C)) (no : PySem.W.findIn K (.ref C) "value" = some none)
    (iC : PySem.W.findIn K (.ref C) "__init__" = some (some (.ref fI))) (tI : PySem.W.typeIn K (.ref fI) = some (.type "function")) : ErrC P w K mg base "InvalidNumber" C := by
  have ok : FnOk P w K mg base CX0 1 fI fd ["self", "value"] (spKeep C) := by
    refine F.ok sc_I4 (fun vs H Q E h => ?_) (fun cdv A outer s H vs Q E hr h => ?_)
    · obtain ⟨a, v, rfl, _⟩ := h
      rfl
    · obtain ⟨a, v, rfl, ha, k⟩ := h
      refine ⟨_, pss_one (ps_ost (pv 0) (pv 1)), ?_⟩
      exact ⟨_, rfl, _, rfl, a, C, rfl, T, no, .inl ⟨ha, fun dx hd ne => k dx hd ne⟩⟩
  exact ⟨T, g, no, fI, fd, iC, tI, ok, F.binds (ps := ["self", "value"]) fun _ _ _ _ _ _ us hl => match us, hl with | [_, _], _ => rfl⟩
abbrev sI5 : Stmt := inClass (top 7) 0
theorem sc_I5 : FnScope ["self", "value"] ["self", "value"] (defScope sI5) := ⟨rfl, rfl, rfl, by decide +kernel, rfl, by decide +kernel, by decide +kernel⟩
theorem errc_I5 {fI C : Addr} {fd : FuncData} (F : Fun K "__init__" "NothingToUndo.__init__" sI5 fI fd) (T : OexC K C) (g : mg "NothingToUndo" = some (.ref C)) (no : PySem.W.findIn K (.ref C) "value" = some none)
    (iC : PySem.W.findIn K (.ref C) "__init__" = some (some (.ref fI))) (tI : PySem.W.typeIn K (.ref fI) = some (.type "function")) : ErrC P w K mg base "NothingToUndo" C := by
  have ok : FnOk P w K mg base CX0 1 fI fd ["self", "value"] (spKeep C) := by
    refine F.ok sc_I5 (fun vs H Q E h => ?_) (fun cdv A outer s H vs Q E hr h => ?_)
    · obtain ⟨a, v, rfl, _⟩ := h
      rfl
    · obtain ⟨a, v, rfl, ha, k⟩ := h
      refine ⟨_, pss_one (ps_ost (pv 0) (pv 1)), ?_⟩
      exact ⟨_, rfl, _, rfl, a, C, rfl, T, no, .inl ⟨ha, fun dx hd ne => k dx hd ne⟩⟩
  exact ⟨T, g, no, fI, fd, iC, tI, ok, F.binds (ps := ["self", "value"]) fun _ _ _ _ _ _ us hl => match us, hl with | [_, _], _ => rfl⟩
abbrev sI6 : Stmt := inClass (top 8) 0
theorem sc_I6 : FnScope ["self", "value"] ["self", "value"] (defScope sI6) := ⟨rfl, rfl, rfl, by decide +kernel, rfl, by decide +kernel, by decide +kernel⟩
theorem errc_I6 {fI C : Addr} {fd : FuncData} (F : Fun K "__init__" "Unreadable.__init__" sI6 fI fd) (T : OexC K C) (g : mg "Unreadable" = some (.ref C)) (no : PySem.W.findIn K (.ref C) "value" = some none)
    (iC : PySem.W.findIn K (.ref C) "__init__" = some (some (.ref fI))) (tI : PySem.W.typeIn K (.ref fI) = some (.type "function")) : ErrC P w K mg base "Unreadable" C := by
  have ok : FnOk P w K mg base CX0 1 fI fd ["self", "value"] (spKeep C) := by
    refine F.ok sc_I6 (fun vs H Q E h => ?_) (fun cdv A outer s H vs Q E hr h => ?_)
    · obtain ⟨a, v, rfl, _⟩ := h
      rfl
    · obtain ⟨a, v, rfl, ha, k⟩ := h
      refine ⟨_, pss_one (ps_ost (pv 0) (pv 1)), ?_⟩
      exact ⟨_, rfl, _, rfl, a, C, rfl, T, no, .inl ⟨ha, fun dx hd ne => k dx hd ne⟩⟩
  exact ⟨T, g, no, fI, fd, iC, tI, ok, F.binds (ps := ["self", "value"]) fun _ _ _ _ _ _ us hl => match us, hl with | [_, _], _ => rfl⟩
end
end Gc

namespace Gc
open PySem L2
theorem all_mk {l : PySem.W.OpenLaw} {w : World} {K : PySem.W.Frag} {h : Heap} {mg : Str → Option Value} {fa : Addr} (X : K.In h) (G : h.Ns mainGlobals mg) (hfa : mg "law" = some (.ref fa))
    {f_read_commands : Addr} {oc_read_commands kV_read_commands dc_read_commands pm_read_commands cd_read_commands ct_read_commands : Value} {od_read_commands an_read_commands : Option Addr} {sl_read_commands : Array (Option Value)}
    {f_read_command : Addr} {oc_read_command kV_read_command dc_read_command pm_read_command cd_read_command ct_read_command : Value} {od_read_command an_read_command : Option Addr} {sl_read_command : Array (Option Value)}
    {f_is_number : Addr} {oc_is_number kV_is_number dc_is_number pm_is_number cd_is_number ct_is_number : Value} {od_is_number an_is_number : Option Addr} {sl_is_number : Array (Option Value)}
    {f_law_source : Addr} {oc_law_source kV_law_source dc_law_source pm_law_source cd_law_source ct_law_source : Value} {od_law_source an_law_source : Option Addr} {sl_law_source : Array (Option Value)}
    {f_law_draw : Addr} {oc_law_draw kV_law_draw dc_law_draw pm_law_draw cd_law_draw ct_law_draw : Value} {od_law_draw an_law_draw : Option Addr} {sl_law_draw : Array (Option Value)}
    {f_law_same : Addr} {oc_law_same kV_law_same dc_law_same pm_law_same cd_law_same ct_law_same : Value} {od_law_same an_law_same : Option Addr} {sl_law_same : Array (Option Value)}
    {f_law_number : Addr} {oc_law_number kV_law_number dc_law_number pm_law_number cd_law_number ct_law_number : Value} {od_law_number an_law_number : Option Addr} {sl_law_number : Array (Option Value)}
    {f_law_command : Addr} {oc_law_command kV_law_command dc_law_command pm_law_command cd_law_command ct_law_command : Value} {od_law_command an_law_command : Option Addr} {sl_law_command : Array (Option Value)}
    {f_law_commands : Addr} {oc_law_commands kV_law_commands dc_law_commands pm_law_commands cd_law_commands ct_law_commands : Value} {od_law_commands an_law_commands : Option Addr} {sl_law_commands : Array (Option Value)}
    {f_law_written : Addr} {oc_law_written kV_law_written dc_law_written pm_law_written cd_law_written ct_law_written : Value} {od_law_written an_law_written : Option Addr} {sl_law_written : Array (Option Value)}
    {f_law_read : Addr} {oc_law_read kV_law_read dc_law_read pm_law_read cd_law_read ct_law_read : Value} {od_law_read an_law_read : Option Addr} {sl_law_read : Array (Option Value)}
    {f_law_error : Addr} {oc_law_error kV_law_error dc_law_error pm_law_error cd_law_error ct_law_error : Value} {od_law_error an_law_error : Option Addr} {sl_law_error : Array (Option Value)}
    {f_law_told : Addr} {oc_law_told kV_law_told dc_law_told pm_law_told cd_law_told ct_law_told : Value} {od_law_told an_law_told : Option Addr} {sl_law_told : Array (Option Value)}
    {f_law_right : Addr} {oc_law_right kV_law_right dc_law_right pm_law_right cd_law_right ct_law_right : Value} {od_law_right an_law_right : Option Addr} {sl_law_right : Array (Option Value)}
    {f_law_bent : Addr} {oc_law_bent kV_law_bent dc_law_bent pm_law_bent cd_law_bent ct_law_bent : Value} {od_law_bent an_law_bent : Option Addr} {sl_law_bent : Array (Option Value)}
    {f_law : Addr} {oc_law kV_law dc_law pm_law cd_law ct_law : Value} {od_law an_law : Option Addr} {sl_law : Array (Option Value)}
    {CE : Addr}
    {C0 : Addr}
    {C1 : Addr}
    {C2 : Addr}
    {C3 : Addr}
    {C4 : Addr}
    {C5 : Addr}
    {C6 : Addr}
    {f6 N6 : Addr} {nm6 q6 : Str} {bs6 : List Value} {sn6 : List Str} {sub6 : List Value} {ab6 : Bool} {col6 : Option Bool} {dd6 : Option Addr} {p6_0 p6_1 p6_2 p6_3 p6_5 : Option Value}
    {oc6 kV6 dc6 pm6 cd6 ct6 : Value} {od6 an6 : Option Addr} {sl6 : Array (Option Value)}
    {na nb : Addr} {nA nB : Nat} {tm t1 t2 u1 u2 s1 s2 s3 s4 r1 r2 r3 r4 : Tok}
    (a_read_commands : PySem.W.nsIn K mainGlobals "read_commands" = some (some (.ref f_read_commands)))
    (l_read_commands : K.lookup f_read_commands = some ⟨oc_read_commands, od_read_commands, .func (PySem.W.fnOf "read_commands" "read_commands" (defArgs s_read_commands) (defBody s_read_commands) (defScope s_read_commands) .none kV_read_commands dc_read_commands pm_read_commands an_read_commands cd_read_commands ct_read_commands), sl_read_commands⟩)
    (c_read_commands : PySem.W.codeIn K cd_read_commands "read_commands" = true)
    (k_read_commands : PySem.W.keepIn K (.ref f_read_commands) = true)
    (a_read_command : PySem.W.nsIn K mainGlobals "read_command" = some (some (.ref f_read_command)))
    (l_read_command : K.lookup f_read_command = some ⟨oc_read_command, od_read_command, .func (PySem.W.fnOf "read_command" "read_command" (defArgs s_read_command) (defBody s_read_command) (defScope s_read_command) .none kV_read_command dc_read_command pm_read_command an_read_command cd_read_command ct_read_command), sl_read_command⟩)
    (c_read_command : PySem.W.codeIn K cd_read_command "read_command" = true)
    (k_read_command : PySem.W.keepIn K (.ref f_read_command) = true)
    (a_is_number : PySem.W.nsIn K mainGlobals "is_number" = some (some (.ref f_is_number)))
    (l_is_number : K.lookup f_is_number = some ⟨oc_is_number, od_is_number, .func (PySem.W.fnOf "is_number" "is_number" (defArgs s_is_number) (defBody s_is_number) (defScope s_is_number) .none kV_is_number dc_is_number pm_is_number an_is_number cd_is_number ct_is_number), sl_is_number⟩)
    (c_is_number : PySem.W.codeIn K cd_is_number "is_number" = true)
    (k_is_number : PySem.W.keepIn K (.ref f_is_number) = true)
    (a_law_source : PySem.W.nsIn K mainGlobals "_law_source" = some (some (.ref f_law_source)))
    (l_law_source : K.lookup f_law_source = some ⟨oc_law_source, od_law_source, .func (PySem.W.fnOf "_law_source" "_law_source" (defArgs s_source) (defBody s_source) (defScope s_source) .none kV_law_source dc_law_source pm_law_source an_law_source cd_law_source ct_law_source), sl_law_source⟩)
    (c_law_source : PySem.W.codeIn K cd_law_source "_law_source" = true)
    (k_law_source : PySem.W.keepIn K (.ref f_law_source) = true)
    (a_law_draw : PySem.W.nsIn K mainGlobals "_law_draw" = some (some (.ref f_law_draw)))
    (l_law_draw : K.lookup f_law_draw = some ⟨oc_law_draw, od_law_draw, .func (PySem.W.fnOf "_law_draw" "_law_draw" (defArgs s_sdraw) (defBody s_sdraw) (defScope s_sdraw) .none kV_law_draw dc_law_draw pm_law_draw an_law_draw cd_law_draw ct_law_draw), sl_law_draw⟩)
    (c_law_draw : PySem.W.codeIn K cd_law_draw "_law_draw" = true)
    (k_law_draw : PySem.W.keepIn K (.ref f_law_draw) = true)
    (a_law_same : PySem.W.nsIn K mainGlobals "_law_same" = some (some (.ref f_law_same)))
    (l_law_same : K.lookup f_law_same = some ⟨oc_law_same, od_law_same, .func (PySem.W.fnOf "_law_same" "_law_same" (defArgs s_same) (defBody s_same) (defScope s_same) .none kV_law_same dc_law_same pm_law_same an_law_same cd_law_same ct_law_same), sl_law_same⟩)
    (c_law_same : PySem.W.codeIn K cd_law_same "_law_same" = true)
    (k_law_same : PySem.W.keepIn K (.ref f_law_same) = true)
    (a_law_number : PySem.W.nsIn K mainGlobals "_law_number" = some (some (.ref f_law_number)))
    (l_law_number : K.lookup f_law_number = some ⟨oc_law_number, od_law_number, .func (PySem.W.fnOf "_law_number" "_law_number" (defArgs s_number) (defBody s_number) (defScope s_number) .none kV_law_number dc_law_number pm_law_number an_law_number cd_law_number ct_law_number), sl_law_number⟩)
    (c_law_number : PySem.W.codeIn K cd_law_number "_law_number" = true)
    (k_law_number : PySem.W.keepIn K (.ref f_law_number) = true)
    (a_law_command : PySem.W.nsIn K mainGlobals "_law_command" = some (some (.ref f_law_command)))
    (l_law_command : K.lookup f_law_command = some ⟨oc_law_command, od_law_command, .func (PySem.W.fnOf "_law_command" "_law_command" (defArgs s_command) (defBody s_command) (defScope s_command) .none kV_law_command dc_law_command pm_law_command an_law_command cd_law_command ct_law_command), sl_law_command⟩)
    (c_law_command : PySem.W.codeIn K cd_law_command "_law_command" = true)
    (k_law_command : PySem.W.keepIn K (.ref f_law_command) = true)
    (a_law_commands : PySem.W.nsIn K mainGlobals "_law_commands" = some (some (.ref f_law_commands)))
    (l_law_commands : K.lookup f_law_commands = some ⟨oc_law_commands, od_law_commands, .func (PySem.W.fnOf "_law_commands" "_law_commands" (defArgs s_commands) (defBody s_commands) (defScope s_commands) .none kV_law_commands dc_law_commands pm_law_commands an_law_commands cd_law_commands ct_law_commands), sl_law_commands⟩)
    (c_law_commands : PySem.W.codeIn K cd_law_commands "_law_commands" = true)
    (k_law_commands : PySem.W.keepIn K (.ref f_law_commands) = true)
    (a_law_written : PySem.W.nsIn K mainGlobals "_law_written" = some (some (.ref f_law_written)))
    (l_law_written : K.lookup f_law_written = some ⟨oc_law_written, od_law_written, .func (PySem.W.fnOf "_law_written" "_law_written" (defArgs s_written) (defBody s_written) (defScope s_written) .none kV_law_written dc_law_written pm_law_written an_law_written cd_law_written ct_law_written), sl_law_written⟩)
    (c_law_written : PySem.W.codeIn K cd_law_written "_law_written" = true)
    (k_law_written : PySem.W.keepIn K (.ref f_law_written) = true)
    (a_law_read : PySem.W.nsIn K mainGlobals "_law_read" = some (some (.ref f_law_read)))
    (l_law_read : K.lookup f_law_read = some ⟨oc_law_read, od_law_read, .func (PySem.W.fnOf "_law_read" "_law_read" (defArgs s_lread) (defBody s_lread) (defScope s_lread) .none kV_law_read dc_law_read pm_law_read an_law_read cd_law_read ct_law_read), sl_law_read⟩)
    (c_law_read : PySem.W.codeIn K cd_law_read "_law_read" = true)
    (k_law_read : PySem.W.keepIn K (.ref f_law_read) = true)
    (a_law_error : PySem.W.nsIn K mainGlobals "_law_error" = some (some (.ref f_law_error)))
    (l_law_error : K.lookup f_law_error = some ⟨oc_law_error, od_law_error, .func (PySem.W.fnOf "_law_error" "_law_error" (defArgs s_error) (defBody s_error) (defScope s_error) .none kV_law_error dc_law_error pm_law_error an_law_error cd_law_error ct_law_error), sl_law_error⟩)
    (c_law_error : PySem.W.codeIn K cd_law_error "_law_error" = true)
    (k_law_error : PySem.W.keepIn K (.ref f_law_error) = true)
    (a_law_told : PySem.W.nsIn K mainGlobals "_law_told" = some (some (.ref f_law_told)))
    (l_law_told : K.lookup f_law_told = some ⟨oc_law_told, od_law_told, .func (PySem.W.fnOf "_law_told" "_law_told" (defArgs s_told) (defBody s_told) (defScope s_told) .none kV_law_told dc_law_told pm_law_told an_law_told cd_law_told ct_law_told), sl_law_told⟩)
    (c_law_told : PySem.W.codeIn K cd_law_told "_law_told" = true)
    (k_law_told : PySem.W.keepIn K (.ref f_law_told) = true)
    (a_law_right : PySem.W.nsIn K mainGlobals "_law_right" = some (some (.ref f_law_right)))
    (l_law_right : K.lookup f_law_right = some ⟨oc_law_right, od_law_right, .func (PySem.W.fnOf "_law_right" "_law_right" (defArgs s_right) (defBody s_right) (defScope s_right) .none kV_law_right dc_law_right pm_law_right an_law_right cd_law_right ct_law_right), sl_law_right⟩)
    (c_law_right : PySem.W.codeIn K cd_law_right "_law_right" = true)
    (k_law_right : PySem.W.keepIn K (.ref f_law_right) = true)
    (a_law_bent : PySem.W.nsIn K mainGlobals "_law_bent" = some (some (.ref f_law_bent)))
    (l_law_bent : K.lookup f_law_bent = some ⟨oc_law_bent, od_law_bent, .func (PySem.W.fnOf "_law_bent" "_law_bent" (defArgs s_bent) (defBody s_bent) (defScope s_bent) .none kV_law_bent dc_law_bent pm_law_bent an_law_bent cd_law_bent ct_law_bent), sl_law_bent⟩)
    (c_law_bent : PySem.W.codeIn K cd_law_bent "_law_bent" = true)
    (k_law_bent : PySem.W.keepIn K (.ref f_law_bent) = true)
    (a_law : PySem.W.nsIn K mainGlobals "law" = some (some (.ref f_law)))
    (l_law : K.lookup f_law = some ⟨oc_law, od_law, .func (PySem.W.fnOf "law" "law" (defArgs s_law) (defBody s_law) (defScope s_law) .none kV_law dc_law pm_law an_law cd_law ct_law), sl_law⟩)
    (c_law : PySem.W.codeIn K cd_law "law" = true)
    (k_law : PySem.W.keepIn K (.ref f_law) = true)
    (z_isinstance : PySem.W.nsIn K mainGlobals "isinstance" = some none)
    (z_ValueError : PySem.W.nsIn K mainGlobals "ValueError" = some none)
    (z_int : PySem.W.nsIn K mainGlobals "int" = some none)
    (z_bool : PySem.W.nsIn K mainGlobals "bool" = some none)
    (z_len : PySem.W.nsIn K mainGlobals "len" = some none)
    (z_max : PySem.W.nsIn K mainGlobals "max" = some none)
    (z_min : PySem.W.nsIn K mainGlobals "min" = some none)
    (z_range : PySem.W.nsIn K mainGlobals "range" = some none)
    (z_list : PySem.W.nsIn K mainGlobals "list" = some none)
    (z_str : PySem.W.nsIn K mainGlobals "str" = some none)
    (z_tuple : PySem.W.nsIn K mainGlobals "tuple" = some none)
    (z_all : PySem.W.nsIn K mainGlobals "all" = some none)
    (aE : PySem.W.nsIn K mainGlobals "CursorError" = some (some (.ref CE)))
    (yE : PySem.W.typeIn K (.ref CE) = some (.type "type"))
    (bE : PySem.W.subIn K (.ref CE) (.type "BaseException") = some true)
    (hE : PySem.W.hasDictIn K CE = true)
    (icE : PySem.W.isClsIn K CE = true)
    (gt : PySem.W.specialIn K (.builtin "object.__class__") "__get__" = some (some (.builtin "getset_descriptor.__get__")))
    (tk : PySem.W.takesIn K (.builtin "object.__class__") = some true)
    (a0 : PySem.W.nsIn K mainGlobals "InvalidText" = some (some (.ref C0)))
    (ty0 : PySem.W.typeIn K (.ref C0) = some (.type "type"))
    (ic0 : PySem.W.isClsIn K C0 = true)
    (a1 : PySem.W.nsIn K mainGlobals "InvalidCursor" = some (some (.ref C1)))
    (ty1 : PySem.W.typeIn K (.ref C1) = some (.type "type"))
    (ic1 : PySem.W.isClsIn K C1 = true)
    (a2 : PySem.W.nsIn K mainGlobals "InvalidCommand" = some (some (.ref C2)))
    (ty2 : PySem.W.typeIn K (.ref C2) = some (.type "type"))
    (ic2 : PySem.W.isClsIn K C2 = true)
    (a3 : PySem.W.nsIn K mainGlobals "Impossible" = some (some (.ref C3)))
    (ty3 : PySem.W.typeIn K (.ref C3) = some (.type "type"))
    (ic3 : PySem.W.isClsIn K C3 = true)
    (a4 : PySem.W.nsIn K mainGlobals "InvalidNumber" = some (some (.ref C4)))
    (ty4 : PySem.W.typeIn K (.ref C4) = some (.type "type"))
    (ic4 : PySem.W.isClsIn K C4 = true)
    (a5 : PySem.W.nsIn K mainGlobals "NothingToUndo" = some (some (.ref C5)))
    (ty5 : PySem.W.typeIn K (.ref C5) = some (.type "type"))
    (ic5 : PySem.W.isClsIn K C5 = true)
    (a6 : PySem.W.nsIn K mainGlobals "Unreadable" = some (some (.ref C6)))
    (ty6 : PySem.W.typeIn K (.ref C6) = some (.type "type"))
    (ic6 : PySem.W.isClsIn K C6 = true)
    (x6 : K.lookup C6 = some (excClassObj nm6 q6 C6 N6 bs6 [.ref CE, .type "ValueError", .type "Exception", .type "BaseException", .type "object"] true sn6 sub6 ab6 col6 dd6 p6_0 p6_1 p6_2 p6_3 p6_5 "ValueError.__new__"))
    (sa6 : PySem.W.findIn K (.ref C6) "__setattr__" = some (some (.builtin "object.__setattr__")))
    (ga6 : PySem.W.findIn K (.ref C6) "__getattribute__" = some (some (.builtin "BaseException.__getattribute__")))
    (gg6 : PySem.W.findIn K (.ref C6) "__getattr__" = some none)
    (no6 : PySem.W.findIn K (.ref C6) "value" = some none)
    (cc6 : PySem.W.findIn K (.ref C6) "__class__" = some (some (.builtin "object.__class__")))
    (in6 : PySem.W.findIn K (.ref C6) "__init__" = some (some (.ref f6)))
    (ti6 : PySem.W.typeIn K (.ref f6) = some (.type "function"))
    (l6 : K.lookup f6 = some ⟨oc6, od6, .func (PySem.W.fnOf "__init__" "Unreadable.__init__" (defArgs sI6) (defBody sI6) (defScope sI6) .none kV6 dc6 pm6 an6 cd6 ct6), sl6⟩)
    (c6 : PySem.W.codeIn K cd6 "Unreadable.__init__" = true)
    (k6 : PySem.W.keepIn K (.ref f6) = true)
    (kc6 : PySem.W.keepIn K (.ref C6) = true)
    (be6 : PySem.W.subIn K (.ref C6) (.type "BaseException") = some true)
    (ve6 : PySem.W.subIn K (.ref C6) (.type "ValueError") = some true)
    (hd6 : PySem.W.hasDictIn K C6 = true)
    (mo6 : PySem.W.mroIn K C6 (.type "object") = some true)
    (se6 : PySem.W.subIn K (.ref C6) (.ref CE) = some true)
    (s6_0 : PySem.W.subIn K (.ref C6) (.ref C0) = some false)
    (s6_1 : PySem.W.subIn K (.ref C6) (.ref C1) = some false)
    (s6_2 : PySem.W.subIn K (.ref C6) (.ref C2) = some false)
    (s6_3 : PySem.W.subIn K (.ref C6) (.ref C3) = some false)
    (s6_4 : PySem.W.subIn K (.ref C6) (.ref C4) = some false)
    (s6_5 : PySem.W.subIn K (.ref C6) (.ref C5) = some false)
    (s6_6 : PySem.W.subIn K (.ref C6) (.ref C6) = some true)
    (aNA : PySem.W.nsIn K mainGlobals "NAMES_ALONE" = some (some (.ref na)))
    (aNB : PySem.W.nsIn K mainGlobals "NAMES_BEHIND_NUMBER" = some (some (.ref nb)))
    (aMD : PySem.W.nsIn K mainGlobals "MOST_DIGITS" = some (some (.int 40 tm)))
    (lNA : K.lookup na = some ⟨.type "dict", none, .dict #[⟨PyData.keyHash w.params "H", .str "H" t1, .str "home" u1⟩, ⟨PyData.keyHash w.params "E", .str "E" t2, .str "end" u2⟩] nA, #[]⟩)
    (lNB : K.lookup nb = some ⟨.type "dict", none, .dict #[⟨PyData.keyHash w.params "D", .str "D" s1, .str "down" r1⟩, ⟨PyData.keyHash w.params "U", .str "U" s2, .str "up" r2⟩, ⟨PyData.keyHash w.params "R", .str "R" s3, .str "right" r3⟩, ⟨PyData.keyHash w.params "L", .str "L" s4, .str "left" r4⟩] nB, #[]⟩)
    (oNA : (na == sysModules) = false)
    (oNB : (nb == sysModules) = false) :
    ∃ fd : FuncData, (∀ (s : Shared) (v : Value), BindsTo s fd ⟨[v], []⟩ [("script", v)]) ∧ ∀ base : Heap, K.In base → base.Ns mainGlobals mg → FnOk l.prog w K mg base CX0 6 fa fd ["script"] (spLaw K) := by
  have e := hfa.symm.trans (PySem.W.mg_of X G a_law)
  cases e
  have F_read_commands := fun_mk (st := s_read_commands) l_read_commands c_read_commands k_read_commands
  have F_read_command := fun_mk (st := s_read_command) l_read_command c_read_command k_read_command
  have F_is_number := fun_mk (st := s_is_number) l_is_number c_is_number k_is_number
  have F_law_source := fun_mk (st := s_source) l_law_source c_law_source k_law_source
  have F_law_draw := fun_mk (st := s_sdraw) l_law_draw c_law_draw k_law_draw
  have F_law_same := fun_mk (st := s_same) l_law_same c_law_same k_law_same
  have F_law_number := fun_mk (st := s_number) l_law_number c_law_number k_law_number
  have F_law_command := fun_mk (st := s_command) l_law_command c_law_command k_law_command
  have F_law_commands := fun_mk (st := s_commands) l_law_commands c_law_commands k_law_commands
  have F_law_written := fun_mk (st := s_written) l_law_written c_law_written k_law_written
  have F_law_read := fun_mk (st := s_lread) l_law_read c_law_read k_law_read
  have F_law_error := fun_mk (st := s_error) l_law_error c_law_error k_law_error
  have F_law_told := fun_mk (st := s_told) l_law_told c_law_told k_law_told
  have F_law_right := fun_mk (st := s_right) l_law_right c_law_right k_law_right
  have F_law_bent := fun_mk (st := s_bent) l_law_bent c_law_bent k_law_bent
  have F_law := fun_mk (st := s_law) l_law c_law k_law
  have b_read_commands := F_read_commands.binds (ps := ["text"]) fun _ _ _ _ _ _ us hl => match us, hl with | [_], _ => rfl
  have b_read_command := F_read_command.binds (ps := ["word"]) fun _ _ _ _ _ _ us hl => match us, hl with | [_], _ => rfl
  have b_is_number := F_is_number.binds (ps := ["digits"]) fun _ _ _ _ _ _ us hl => match us, hl with | [_], _ => rfl
  have b_law_source := F_law_source.binds (ps := ["script"]) fun _ _ _ _ _ _ us hl => match us, hl with | [_], _ => rfl
  have b_law_draw := F_law_draw.binds (ps := ["source", "many"]) fun _ _ _ _ _ _ us hl => match us, hl with | [_, _], _ => rfl
  have b_law_same := F_law_same.binds (ps := ["found", "wanted"]) fun _ _ _ _ _ _ us hl => match us, hl with | [_, _], _ => rfl
  have b_law_number := F_law_number.binds (ps := ["source"]) fun _ _ _ _ _ _ us hl => match us, hl with | [_], _ => rfl
  have b_law_command := F_law_command.binds (ps := ["source"]) fun _ _ _ _ _ _ us hl => match us, hl with | [_], _ => rfl
  have b_law_commands := F_law_commands.binds (ps := ["source", "many"]) fun _ _ _ _ _ _ us hl => match us, hl with | [_, _], _ => rfl
  have b_law_written := F_law_written.binds (ps := ["moves"]) fun _ _ _ _ _ _ us hl => match us, hl with | [_], _ => rfl
  have b_law_read := F_law_read.binds (ps := ["note"]) fun _ _ _ _ _ _ us hl => match us, hl with | [_], _ => rfl
  have b_law_error := F_law_error.binds (ps := ["e"]) fun _ _ _ _ _ _ us hl => match us, hl with | [_], _ => rfl
  have b_law_told := F_law_told.binds (ps := ["note"]) fun _ _ _ _ _ _ us hl => match us, hl with | [_], _ => rfl
  have b_law_right := F_law_right.binds (ps := ["note"]) fun _ _ _ _ _ _ us hl => match us, hl with | [_], _ => rfl
  have b_law_bent := F_law_bent.binds (ps := ["source", "note"]) fun _ _ _ _ _ _ us hl => match us, hl with | [_, _], _ => rfl
  have kb_read_commands := bindsK (ps := ["text"]) (ks := ["text"]) F_read_commands fun _ _ _ _ _ _ us ws hl => by
    have hl2 : us.length + ws.length = 1 := by
      unfold gRev at hl
      rw [List.length_append, List.length_reverse] at hl
      exact hl
    match us, ws, hl2 with
    | [], [], h => simp only [List.length_cons, List.length_nil] at h; omega
    | [], [_], _ => rfl
    | [], _ :: _ :: _, h => simp only [List.length_cons, List.length_nil] at h; omega
    | [_], [], _ => rfl
    | [_], _ :: _, h => simp only [List.length_cons, List.length_nil] at h; omega
    | _ :: _ :: _, _, h => simp only [List.length_cons] at h; omega
  refine ⟨PySem.W.fnOf "law" "law" (defArgs s_law) (defBody s_law) (defScope s_law) .none kV_law dc_law pm_law an_law cd_law ct_law, fun s v => .of_eq rfl, fun base hb gb => ?_⟩
  have TD : TxtD mg := { max := PySem.W.mg_none_of X G z_max }
  have TS : TxtS mg := { isinstance := PySem.W.mg_none_of X G z_isinstance, bool := PySem.W.mg_none_of X G z_bool, int := PySem.W.mg_none_of X G z_int, str := PySem.W.mg_none_of X G z_str, list := PySem.W.mg_none_of X G z_list, tuple := PySem.W.mg_none_of X G z_tuple, len := PySem.W.mg_none_of X G z_len, range := PySem.W.mg_none_of X G z_range }
  have TV : TxtV mg := { str := PySem.W.mg_none_of X G z_str, len := PySem.W.mg_none_of X G z_len, int := PySem.W.mg_none_of X G z_int, range := PySem.W.mg_none_of X G z_range }
  have TRc : TxtRc mg := { len := PySem.W.mg_none_of X G z_len, int := PySem.W.mg_none_of X G z_int }
  have TBe : TxtBe mg := { len := PySem.W.mg_none_of X G z_len, range := PySem.W.mg_none_of X G z_range }
  have TLw : TxtL mg := { range := PySem.W.mg_none_of X G z_range, min := PySem.W.mg_none_of X G z_min, len := PySem.W.mg_none_of X G z_len }
  have T6 : OexC K C6 := { cls := ⟨nm6, q6, N6, bs6, _, sn6, sub6, ab6, col6, dd6, p6_0, p6_1, p6_2, p6_3, p6_5, x6, by show PySem.HandSPX.refsVE [.type "ValueError", .type "Exception", .type "BaseException", .type "object"] = true; decide +kernel⟩, sa := sa6, exC := be6, tyC := ty6, kC := kc6 }
  have V6 : ErrI K C6 := { cl := ic6, ga := ga6, gg := gg6, be := be6, hd := hd6, cc := cc6, gt := gt, tk := tk, ob := mo6, no := no6 }
  have e_Unreadable : ErrC l.prog w K mg base "Unreadable" C6 := errc_I6 (fun_mk (st := sI6) l6 c6 k6) T6 (PySem.W.mg_of X G a6) no6 in6 ti6
  let cs : Nat → Addr := fun i => match i with
    | 0 => C0
    | 1 => C1
    | 2 => C2
    | 3 => C3
    | 4 => C4
    | 5 => C5
    | _ => C6
  have TE : TxtE K mg cs CE (fun i => i = 6) := {
    g0 := PySem.W.mg_of X G a0
    g1 := PySem.W.mg_of X G a1
    g2 := PySem.W.mg_of X G a2
    g3 := PySem.W.mg_of X G a3
    g4 := PySem.W.mg_of X G a4
    g5 := PySem.W.mg_of X G a5
    g6 := PySem.W.mg_of X G a6
    gE := PySem.W.mg_of X G aE
    lt := fun i (hi : i = 6) => by omega
    kit := fun i j (hi : i = 6) hj => by
      rcases hi with rfl
      · match j, hj with
        | 0, _ => exact kit_own ic0 ty0 s6_0 s6_6
        | 1, _ => exact kit_own ic1 ty1 s6_1 s6_6
        | 2, _ => exact kit_own ic2 ty2 s6_2 s6_6
        | 3, _ => exact kit_own ic3 ty3 s6_3 s6_6
        | 4, _ => exact kit_own ic4 ty4 s6_4 s6_6
        | 5, _ => exact kit_own ic5 ty5 s6_5 s6_6
        | 6, _ => exact kit_own ic6 ty6 s6_6 s6_6
        | n + 7, z => exact absurd z (by omega)
    kve := fun i (hi : i = 6) => by
      rcases hi with rfl
      · exact kit_bl (by decide +kernel) ve6
    kce := fun i (hi : i = 6) => by
      rcases hi with rfl
      · exact kit_own icE yE se6 s6_6
    ex := fun i (hi : i = 6) => by
      rcases hi with rfl
      · exact PySem.W.exm_ref bE hE yE se6
    ei := fun i (hi : i = 6) => by
      rcases hi with rfl
      · exact V6
    isinstance := PySem.W.mg_none_of X G z_isinstance
    ValueError := PySem.W.mg_none_of X G z_ValueError }
  have TR := rd_mk (PySem.W.mg_of X G aNA) (PySem.W.mg_of X G aNB) (PySem.W.mg_of X G aMD) lNA lNB oNA oNB (PySem.W.mg_none_of X G z_int) (PySem.W.mg_none_of X G z_len) (PySem.W.mg_none_of X G z_all)
  have TU : TxtUn K mg C6 := ⟨PySem.W.mg_of X G a6, PySem.W.exm_ref be6 hd6 ty6 s6_6, V6⟩
  have TT : TxtTo K mg CE C6 := ⟨PySem.W.mg_of X G aE, PySem.W.mg_none_of X G z_tuple, TE.ex 6 rfl⟩
  have C_is_number : Cal l.prog w K mg base 1 "is_number" (spIsNum K) := ⟨_, _, _, ok_is_number F_is_number TR, PySem.W.mg_of X G a_is_number, k_is_number, b_is_number⟩
  have C_read_command : Cal l.prog w K mg base 2 "read_command" (spRead1 K) := ⟨_, _, _, ok_read_command F_read_command TR C_is_number, PySem.W.mg_of X G a_read_command, k_read_command, b_read_command⟩
  have X_is_number : Cal l.prog w K mg base 1 "is_number" spIsNumX := ⟨_, _, _, ok_is_numberX F_is_number TR, PySem.W.mg_of X G a_is_number, k_is_number, b_is_number⟩
  have X_read_command : Cal l.prog w K mg base 2 "read_command" (spRead1U K) := ⟨_, _, _, fnok_orU (ok_read_command F_read_command TR C_is_number) (ok_read_commandN F_read_command TR (rd_no lNB) X_is_number), PySem.W.mg_of X G a_read_command, k_read_command, b_read_command⟩
  have X_read : CalXN l.prog w K mg base 3 "read_commands" (zReadU K C6) := by
    rw [zReadU_eq]
    exact ⟨_, _, _, fnok_orU (fnok_0x (ok_read_commands F_read_commands C_read_command)) (ok_read_commandsN F_read_commands X_read_command e_Unreadable), PySem.W.mg_of X G a_read_commands, k_read_commands, b_read_commands⟩
  have K_read : CalK l.prog w K mg base 3 "read_commands" ["text"] (zRead K) := by
    rw [zRead_eq]
    exact ⟨_, _, _, ok_read_commands F_read_commands C_read_command, PySem.W.mg_of X G a_read_commands, k_read_commands, kb_read_commands⟩
  have C_law_source : Cal l.prog w K mg base 1 "_law_source" (spSource K) := ⟨_, _, _, ok_source F_law_source TD, PySem.W.mg_of X G a_law_source, k_law_source, b_law_source⟩
  have C_law_draw : Cal l.prog w K mg base 1 "_law_draw" spDraw := ⟨_, _, _, ok_draw F_law_draw, PySem.W.mg_of X G a_law_draw, k_law_draw, b_law_draw⟩
  have C_law_number : Cal l.prog w K mg base 2 "_law_number" spNumber := ⟨_, _, _, ok_number F_law_number C_law_draw, PySem.W.mg_of X G a_law_number, k_law_number, b_law_number⟩
  have C_law_command : Cal l.prog w K mg base 3 "_law_command" (spCommand K) := ⟨_, _, _, ok_command F_law_command C_law_draw C_law_number, PySem.W.mg_of X G a_law_command, k_law_command, b_law_command⟩
  have C_law_commands : Cal l.prog w K mg base 4 "_law_commands" (spCommands K) := ⟨_, _, _, ok_commands F_law_commands TV C_law_draw C_law_command, PySem.W.mg_of X G a_law_commands, k_law_commands, b_law_commands⟩
  have C_law_written : Cal l.prog w K mg base 1 "_law_written" (spWritten K) := ⟨_, _, _, ok_written F_law_written TV, PySem.W.mg_of X G a_law_written, k_law_written, b_law_written⟩
  have C_law_read : Cal l.prog w K mg base 1 "_law_read" (spLRead K) := ⟨_, _, _, ok_lread F_law_read TRc, PySem.W.mg_of X G a_law_read, k_law_read, b_law_read⟩
  have S_0 : Cal l.prog w K mg base 1 "_law_same" (spSame K 0) := ⟨_, _, _, ok_same0 F_law_same, PySem.W.mg_of X G a_law_same, k_law_same, b_law_same⟩
  have S_1 : Cal l.prog w K mg base 2 "_law_same" (spSame K 1) := ⟨_, _, _, ok_sameS F_law_same TS S_0, PySem.W.mg_of X G a_law_same, k_law_same, b_law_same⟩
  have S_2 : Cal l.prog w K mg base 3 "_law_same" (spSame K 2) := ⟨_, _, _, ok_sameS F_law_same TS S_1, PySem.W.mg_of X G a_law_same, k_law_same, b_law_same⟩
  have S_3 : Cal l.prog w K mg base 4 "_law_same" (spSame K 3) := ⟨_, _, _, ok_sameS F_law_same TS S_2, PySem.W.mg_of X G a_law_same, k_law_same, b_law_same⟩
  have C_law_error : CalN l.prog w K mg base 1 "_law_error" (spErrE cs (fun i => i = 6)) := ⟨_, _, _, ok_errE F_law_error TE, PySem.W.mg_of X G a_law_error, k_law_error, b_law_error⟩
  have C_law_told : Cal l.prog w K mg base 4 "_law_told" (spTold K) := ⟨_, _, _, ok_told (R := fun i => i = 6) F_law_told TT rfl rfl X_read C_law_error, PySem.W.mg_of X G a_law_told, k_law_told, b_law_told⟩
  have C_law_right : Cal l.prog w K mg base 5 "_law_right" spRight1 := ⟨_, _, _, ok_right1 F_law_right C_law_read C_law_told S_3 K_read, PySem.W.mg_of X G a_law_right, k_law_right, b_law_right⟩
  have C_law_bent : Cal l.prog w K mg base 2 "_law_bent" spBent := ⟨_, _, _, ok_bent F_law_bent TBe C_law_draw, PySem.W.mg_of X G a_law_bent, k_law_bent, b_law_bent⟩
  exact ok_law F_law TLw C_law_source C_law_draw C_law_commands C_law_written C_law_bent C_law_right
theorem walk {l : PySem.W.OpenLaw} {q : Program} {loose : List Str} {XP : (Str → Option Value) → Heap → Prop} {YP : World → Heap → Prop} {d : DefRec} {K : Params → PySem.W.Frag} (hn : l.most = some 63) (hdf : d.params.defaults = [])
    (hY : ∀ (w : World) (h : Heap), YP w h → (K w.params).In h)
    (F : ∀ (w : World) (mg : Str → Option Value) (fa : Addr) (h : Heap), (K w.params).In h → h.Ns mainGlobals mg → mg d.name = some (.ref fa) →
      ∃ fd : FuncData, (∀ (s : Shared) (u : Value), BindsTo s fd ⟨[u], []⟩ [("script", u)]) ∧ ∀ base : Heap, (K w.params).In base → base.Ns mainGlobals mg → FnOk l.prog w (K w.params) mg base CX0 6 fa fd ["script"] (spLaw (K w.params))) :
    PySem.W.WalkO q loose XP YP l.row.toRowW d [] (fun f vs => PySem.call f vs) :=
  L2.walk_of (n := 63) (k := 6) (x := "script") (CX := fun _ => CX0) (sp := fun w => spLaw (K w.params)) hn (by decide) hdf ⟨rfl, by decide, by decide⟩ hY F (fun _ _ a ns hl _ hS => ⟨a, ns, rfl, hS, hl, fun _ => rfl⟩) fun _ _ _ _ _ z => z
end Gc

open PySem PySem.W PyProof.Rows in
set_option maxRecDepth 100000 in
set_option maxHeartbeats 0 in
theorem PySem.Challenge.cw_goalcolumn_k41_texts_read_holds : PySem.Challenge.rw_goalcolumn_k41_texts_read.Holds := by
  w_on; o_law; k_head; (case hw => w_witness2)
  k_fill
  refine Gc.walk (l := PySem.Challenge.rw_goalcolumn_k41_texts_read) rfl rfl (fun w h Y => PySem.W.kIn_of Y) ?F
  case F =>
    intro w mg fa h KX G hmg
    refine' Gc.all_mk KX G hmg ?a_read_commands ?l_read_commands ?c_read_commands ?k_read_commands ?a_read_command ?l_read_command ?c_read_command ?k_read_command ?a_is_number ?l_is_number ?c_is_number ?k_is_number ?a_law_source ?l_law_source ?c_law_source ?k_law_source ?a_law_draw ?l_law_draw ?c_law_draw ?k_law_draw ?a_law_same ?l_law_same ?c_law_same ?k_law_same ?a_law_number ?l_law_number ?c_law_number ?k_law_number ?a_law_command ?l_law_command ?c_law_command ?k_law_command ?a_law_commands ?l_law_commands ?c_law_commands ?k_law_commands ?a_law_written ?l_law_written ?c_law_written ?k_law_written ?a_law_read ?l_law_read ?c_law_read ?k_law_read ?a_law_error ?l_law_error ?c_law_error ?k_law_error ?a_law_told ?l_law_told ?c_law_told ?k_law_told ?a_law_right ?l_law_right ?c_law_right ?k_law_right ?a_law_bent ?l_law_bent ?c_law_bent ?k_law_bent ?a_law ?l_law ?c_law ?k_law ?z_isinstance ?z_ValueError ?z_int ?z_bool ?z_len ?z_max ?z_min ?z_range ?z_list ?z_str ?z_tuple ?z_all ?aE ?yE ?bE ?hE ?icE ?gt ?tk ?a0 ?ty0 ?ic0 ?a1 ?ty1 ?ic1 ?a2 ?ty2 ?ic2 ?a3 ?ty3 ?ic3 ?a4 ?ty4 ?ic4 ?a5 ?ty5 ?ic5 ?a6 ?ty6 ?ic6 ?x6 ?sa6 ?ga6 ?gg6 ?no6 ?cc6 ?in6 ?ti6 ?l6 ?c6 ?k6 ?kc6 ?be6 ?ve6 ?hd6 ?mo6 ?se6 ?s6_0 ?s6_1 ?s6_2 ?s6_3 ?s6_4 ?s6_5 ?s6_6 ?aNA ?aNB ?aMD ?lNA ?lNB ?oNA ?oNB
    (case a_read_commands => k_is)
    (case l_read_commands => k_is)
    (case c_read_commands => k_is)
    (case k_read_commands => k_is)
    (case a_read_command => k_is)
    (case l_read_command => k_is)
    (case c_read_command => k_is)
    (case k_read_command => k_is)
    (case a_is_number => k_is)
    (case l_is_number => k_is)
    (case c_is_number => k_is)
    (case k_is_number => k_is)
    (case a_law_source => k_is)
    (case l_law_source => k_is)
    (case c_law_source => k_is)
    (case k_law_source => k_is)
    (case a_law_draw => k_is)
    (case l_law_draw => k_is)
    (case c_law_draw => k_is)
    (case k_law_draw => k_is)
    (case a_law_same => k_is)
    (case l_law_same => k_is)
    (case c_law_same => k_is)
    (case k_law_same => k_is)
    (case a_law_number => k_is)
    (case l_law_number => k_is)
    (case c_law_number => k_is)
    (case k_law_number => k_is)
    (case a_law_command => k_is)
    (case l_law_command => k_is)
    (case c_law_command => k_is)
    (case k_law_command => k_is)
    (case a_law_commands => k_is)
    (case l_law_commands => k_is)
    (case c_law_commands => k_is)
    (case k_law_commands => k_is)
    (case a_law_written => k_is)
    (case l_law_written => k_is)
    (case c_law_written => k_is)
    (case k_law_written => k_is)
    (case a_law_read => k_is)
    (case l_law_read => k_is)
    (case c_law_read => k_is)
    (case k_law_read => k_is)
    (case a_law_error => k_is)
    (case l_law_error => k_is)
    (case c_law_error => k_is)
    (case k_law_error => k_is)
    (case a_law_told => k_is)
    (case l_law_told => k_is)
    (case c_law_told => k_is)
    (case k_law_told => k_is)
    (case a_law_right => k_is)
    (case l_law_right => k_is)
    (case c_law_right => k_is)
    (case k_law_right => k_is)
    (case a_law_bent => k_is)
    (case l_law_bent => k_is)
    (case c_law_bent => k_is)
    (case k_law_bent => k_is)
    (case a_law => k_is)
    (case l_law => k_is)
    (case c_law => k_is)
    (case k_law => k_is)
    (case z_isinstance => k_is)
    (case z_ValueError => k_is)
    (case z_int => k_is)
    (case z_bool => k_is)
    (case z_len => k_is)
    (case z_max => k_is)
    (case z_min => k_is)
    (case z_range => k_is)
    (case z_list => k_is)
    (case z_str => k_is)
    (case z_tuple => k_is)
    (case z_all => k_is)
    (case aE => k_is)
    (case yE => k_is)
    (case bE => k_is)
    (case hE => k_is)
    (case icE => k_is)
    (case gt => k_is)
    (case tk => k_is)
    (case a0 => k_is)
    (case ty0 => k_is)
    (case ic0 => k_is)
    (case a1 => k_is)
    (case ty1 => k_is)
    (case ic1 => k_is)
    (case a2 => k_is)
    (case ty2 => k_is)
    (case ic2 => k_is)
    (case a3 => k_is)
    (case ty3 => k_is)
    (case ic3 => k_is)
    (case a4 => k_is)
    (case ty4 => k_is)
    (case ic4 => k_is)
    (case a5 => k_is)
    (case ty5 => k_is)
    (case ic5 => k_is)
    (case a6 => k_is)
    (case ty6 => k_is)
    (case ic6 => k_is)
    (case x6 => k_is)
    (case sa6 => k_is)
    (case ga6 => k_is)
    (case gg6 => k_is)
    (case no6 => k_is)
    (case cc6 => k_is)
    (case in6 => k_is)
    (case ti6 => k_is)
    (case l6 => k_is)
    (case c6 => k_is)
    (case k6 => k_is)
    (case kc6 => k_is)
    (case be6 => k_is)
    (case ve6 => k_is)
    (case hd6 => k_is)
    (case mo6 => k_is)
    (case se6 => k_is)
    (case s6_0 => k_is)
    (case s6_1 => k_is)
    (case s6_2 => k_is)
    (case s6_3 => k_is)
    (case s6_4 => k_is)
    (case s6_5 => k_is)
    (case s6_6 => k_is)
    (case aNA => k_is)
    (case aNB => k_is)
    (case aMD => k_is)
    (case lNA => k_is)
    (case lNB => k_is)
    (case oNA => rfl)
    (case oNB => rfl)
