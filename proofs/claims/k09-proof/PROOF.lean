import PyProof.Rows.All
import Wide.All
import OpenK.AllK
import Wide.FinOn
import KE.SortData
import HandS.Base
import HandS.Call
import HandS.List
import HandS.Dict
import HandS.Words
import HandS.DictTup
import PyProof.RulesMatch
import HandS.Comp
import HandS.Iter
import HandS.Flow
import HandS.Rev
import HandS.Walk
import HandS.WordsList
import HandS.WordsDict
import HandS.IsInst
import HandS.Wide
import HandS.Codes
import HandS.Style
import HandS.More
import PySem.Challenge.RW_goalcolumn_k09_least_texts
set_option Elab.async false
set_option linter.all false
set_option maxRecDepth 100000
set_option maxHeartbeats 4000000
/-! boxes of lists of commands: what the program reckons, over plain lists; and the laws of it -/
namespace Gc
inductive Cmd where
  | down (n : Int) | up (n : Int) | right (n : Int) | left (n : Int) | home | stop
  deriving DecidableEq
def Cmd.dv : Cmd → Int
  | .down n => n
  | .up n => -n
  | _ => 0
def Cmd.ok : Cmd → Prop
  | .down n => 1 ≤ n
  | .up n => 1 ≤ n
  | .right n => 1 ≤ n
  | .left n => 1 ≤ n
  | _ => True
def last (cs : List Cmd) : Int := (cs.map Cmd.dv).sum
abbrev Ps := List (Int × Int)
def leK (p q : Int × Int) : Bool := decide (p.1 < q.1 ∨ (p.1 = q.1 ∧ p.2 ≤ q.2))
def look (b : Ps) (k : Int) : Option Int := (b.find? fun q => q.1 = k).map (·.2)
def put (b : Ps) (k v : Int) : Ps := if b.any (fun q => q.1 = k) then b.map (fun q => if q.1 = k then (q.1, v) else q) else b ++ [(k, v)]
def mx (i j : Int) : Int := if j > i then j else i
def req (b : Ps) (o v : Int) : Ps := put b o (mx v ((look b o).getD v))
def go : List Cmd → Int → Int → Ps → Option (Option Int × Ps)
  | [], _, need, b => some (some need, b)
  | .home :: _, _, _, _ => none
  | .stop :: _, _, _, b => some (none, b)
  | .right n :: r, off, need, b => if need > n then go r off (need - n) (req b off need) else some (none, req b off need)
  | .left n :: r, off, need, b => go r off (need + n) (req b off (need + n))
  | .down n :: r, off, need, b => go r (off - n) need b
  | .up n :: r, off, need, b => go r (off + n) need b
def srt (x : Option Int × Ps) : Option Int × Ps := (x.1, x.2.mergeSort leK)
def boxM (cs : List Cmd) (goal : Int) : Option (Option Int × Ps) := (go cs.reverse (last cs) goal []).map srt

/-! ### association lists as functions -/
def val (b : Ps) (k : Int) : Int := (look b k).getD 0
def keys (b : Ps) : List Int := b.map (·.1)
structure Good (b : Ps) : Prop where
  nd : (keys b).Nodup
  pos : ∀ q ∈ b, 1 ≤ q.2
theorem good_nil : Good [] := ⟨List.nodup_nil, fun _ h => nomatch h⟩
theorem look_nil (k : Int) : look [] k = none := rfl
theorem look_cons (q : Int × Int) (b : Ps) (k : Int) : look (q :: b) k = if q.1 = k then some q.2 else look b k := by
  unfold look
  rw [List.find?_cons]
  by_cases h : q.1 = k
  · simp [h]
  · simp [h]
theorem look_none {b : Ps} {k : Int} : look b k = none ↔ k ∉ keys b := by
  induction b with
  | nil => simp [look, keys]
  | cons q b ih =>
    rw [look_cons]
    by_cases h : q.1 = k
    · rw [if_pos h]
      simp [keys, h]
    · rw [if_neg h, ih]
      simp only [keys, List.map_cons, List.mem_cons, not_or]
      exact ⟨fun x => ⟨fun e => h e.symm, x⟩, fun x => x.2⟩
theorem look_mem {b : Ps} {k v : Int} (h : look b k = some v) : (k, v) ∈ b := by
  induction b with
  | nil => cases h
  | cons q b ih =>
    rw [look_cons] at h
    by_cases e : q.1 = k
    · rw [if_pos e] at h
      have e2 := Option.some.inj h
      rw [← e, ← e2]
      exact List.mem_cons_self
    · rw [if_neg e] at h
      exact List.mem_cons_of_mem _ (ih h)
theorem mem_look {b : Ps} {q : Int × Int} (n : (keys b).Nodup) (h : q ∈ b) : look b q.1 = some q.2 := by
  induction b with
  | nil => cases h
  | cons p b ih =>
    have n' : p.1 ∉ keys b ∧ (keys b).Nodup := List.nodup_cons.mp n
    rw [look_cons]
    rcases List.mem_cons.mp h with e | h
    · rw [e, if_pos rfl]
    · have ne : p.1 ≠ q.1 := fun e => n'.1 (by rw [e]; exact List.mem_map.mpr ⟨q, h, rfl⟩)
      rw [if_neg ne]
      exact ih n'.2 h
theorem any_key (b : Ps) (k : Int) : b.any (fun q => q.1 = k) = true ↔ k ∈ keys b := by
  simp [keys, List.any_eq_true]
theorem look_put (b : Ps) (k v j : Int) : look (put b k v) j = if k = j then some v else look b j := by
  unfold put
  by_cases h : b.any (fun q => q.1 = k) = true
  · rw [if_pos h]
    induction b with
    | nil => simp at h
    | cons q b ih =>
      rw [List.map_cons, look_cons, look_cons]
      by_cases e : q.1 = k
      · rw [if_pos e]
        by_cases e2 : k = j
        · simp [e, e2]
        · simp only [e, e2, if_false]
          by_cases hb : b.any (fun q => q.1 = k) = true
          · rw [ih hb, if_neg e2]
          · have nm : ∀ p ∈ b, ¬ p.1 = k := fun p hp z => hb (List.any_eq_true.mpr ⟨p, hp, by simpa using z⟩)
            have em : b.map (fun q => if q.1 = k then (q.1, v) else q) = b := by
              conv => rhs; rw [← List.map_id b]
              exact List.map_congr_left fun p hp => by simp [nm p hp]
            rw [em]
      · rw [if_neg e]
        have hb : b.any (fun q => q.1 = k) = true := by
          rw [List.any_cons] at h
          simpa [e] using h
        by_cases e2 : q.1 = j
        · have e3 : ¬ k = j := fun z => e (e2.trans z.symm)
          simp [e2, e3]
        · simp only [e2, if_false]
          exact ih hb
  · rw [if_neg h]
    have nk : k ∉ keys b := fun z => h ((any_key b k).mpr z)
    clear h
    induction b with
    | nil =>
      show look [(k, v)] j = _
      rw [look_cons]
    | cons q b ih =>
      have n1 : ¬ q.1 = k := fun z => nk (by simp [keys, z])
      have n2 : k ∉ keys b := fun z => nk (List.mem_cons_of_mem _ z)
      rw [List.cons_append, look_cons, look_cons]
      by_cases e2 : q.1 = j
      · have e3 : ¬ k = j := fun z => n1 (e2.trans z.symm)
        simp [e2, e3]
      · simp only [e2, if_false]
        exact ih n2
theorem keys_put (b : Ps) (k v : Int) : keys (put b k v) = if k ∈ keys b then keys b else keys b ++ [k] := by
  unfold put
  by_cases h : b.any (fun q => q.1 = k) = true
  · rw [if_pos h, if_pos ((any_key b k).mp h)]
    unfold keys
    rw [List.map_map]
    refine List.map_congr_left fun p _ => ?_
    show (if p.1 = k then (p.1, v) else p).1 = p.1
    split <;> rfl
  · rw [if_neg h, if_neg fun z => h ((any_key b k).mpr z)]
    simp [keys]
theorem good_put {b : Ps} {k v : Int} (g : Good b) (hv : 1 ≤ v) : Good (put b k v) := by
  have nd : (keys (put b k v)).Nodup := by
    rw [keys_put]
    split
    · exact g.nd
    · rename_i h
      rw [List.nodup_append]
      exact ⟨g.nd, by simp, fun a ha c hc => by
        rw [List.mem_singleton.mp hc]
        intro z
        exact h (z ▸ ha)⟩
  refine ⟨nd, fun q hq => ?_⟩
  have e := mem_look nd hq
  rw [look_put] at e
  split at e
  · rw [← Option.some.inj e]
    exact hv
  · exact g.pos (q.1, q.2) (look_mem e)
theorem val_nonneg {b : Ps} (g : Good b) (k : Int) : 0 ≤ val b k := by
  unfold val
  cases e : look b k with
  | none => exact Int.le_refl 0
  | some v =>
    have := g.pos _ (look_mem e)
    show 0 ≤ v
    have h : 1 ≤ v := this
    omega
theorem val_put (b : Ps) (k v j : Int) : val (put b k v) j = if k = j then v else val b j := by
  unfold val
  rw [look_put]
  split <;> rfl
/-- require, on functions -/
def reqF (f : Int → Int) (o v : Int) : Int → Int := fun k => if o = k then max v (f k) else f k
theorem val_req {b : Ps} (g : Good b) {o v : Int} (hv : 1 ≤ v) : val (req b o v) = reqF (val b) o v := by
  funext k
  unfold req reqF
  rw [val_put]
  by_cases h : o = k
  · subst h
    rw [if_pos rfl, if_pos rfl]
    unfold val mx
    cases e : look b o with
    | none =>
      show (if v > v then v else v) = max v 0
      rw [if_neg (by omega)]
      omega
    | some x =>
      show (if x > v then x else v) = max v x
      split <;> omega
  · rw [if_neg h, if_neg h]
theorem good_req {b : Ps} (g : Good b) {o v : Int} (hv : 1 ≤ v) : Good (req b o v) := by
  refine good_put g ?_
  unfold mx
  split <;> omega

/-! ### the walk, on functions -/
def goF : List Cmd → Int → Int → (Int → Int) → Option (Option Int × (Int → Int))
  | [], _, need, f => some (some need, f)
  | .home :: _, _, _, _ => none
  | .stop :: _, _, _, f => some (none, f)
  | .right n :: r, off, need, f => if need > n then goF r off (need - n) (reqF f off need) else some (none, reqF f off need)
  | .left n :: r, off, need, f => goF r off (need + n) (reqF f off (need + n))
  | .down n :: r, off, need, f => goF r (off - n) need f
  | .up n :: r, off, need, f => goF r (off + n) need f
def AllOk (cs : List Cmd) : Prop := ∀ c ∈ cs, c.ok
theorem go_goF : ∀ {r : List Cmd} {off need : Int} {b : Ps}, AllOk r → Good b → 1 ≤ need →
    (go r off need b = none ∧ goF r off need (val b) = none) ∨ ∃ st b', go r off need b = some (st, b') ∧ Good b' ∧ goF r off need (val b) = some (st, val b') ∧ ∀ n, st = some n → 1 ≤ n
  | [], off, need, b, _, g, hn => .inr ⟨_, _, rfl, g, rfl, fun n e => by rw [← Option.some.inj e]; exact hn⟩
  | .home :: r, off, need, b, _, g, hn => .inl ⟨rfl, rfl⟩
  | .stop :: r, off, need, b, _, g, hn => .inr ⟨_, _, rfl, g, rfl, fun n e => nomatch e⟩
  | .right n :: r, off, need, b, hk, g, hn => by
    have hk' : AllOk r := fun c hc => hk c (List.mem_cons_of_mem _ hc)
    simp only [go, goF]
    by_cases h : need > n
    · rw [if_pos h, if_pos h, ← val_req g hn]
      exact go_goF hk' (good_req g hn) (by omega)
    · rw [if_neg h, if_neg h, ← val_req g hn]
      exact .inr ⟨_, _, rfl, good_req g hn, rfl, fun n e => nomatch e⟩
  | .left n :: r, off, need, b, hk, g, hn => by
    have hk' : AllOk r := fun c hc => hk c (List.mem_cons_of_mem _ hc)
    have h1 : 1 ≤ n := hk _ List.mem_cons_self
    simp only [go, goF]
    rw [← val_req g (by omega)]
    exact go_goF hk' (good_req g (by omega)) (by omega)
  | .down n :: r, off, need, b, hk, g, hn => go_goF (r := r) (fun c hc => hk c (List.mem_cons_of_mem _ hc)) g hn
  | .up n :: r, off, need, b, hk, g, hn => go_goF (r := r) (fun c hc => hk c (List.mem_cons_of_mem _ hc)) g hn

/-! ### ascending lists are told by their functions -/
def Asc (b : Ps) : Prop := b.Pairwise fun p q => p.1 < q.1
theorem asc_nd {b : Ps} (h : Asc b) : (keys b).Nodup := by
  unfold keys
  rw [List.nodup_iff_pairwise_ne, List.pairwise_map]
  exact h.imp fun h => Int.ne_of_lt h
theorem leK_trans (a b c : Int × Int) (h1 : leK a b = true) (h2 : leK b c = true) : leK a c = true := by
  unfold leK at *
  have a1 := of_decide_eq_true h1
  have a2 := of_decide_eq_true h2
  exact decide_eq_true (by omega)
theorem leK_total (a b : Int × Int) : (leK a b || leK b a) = true := by
  unfold leK
  by_cases h : a.1 < b.1 ∨ (a.1 = b.1 ∧ a.2 ≤ b.2)
  · rw [decide_eq_true h]
    rfl
  · rw [decide_eq_true (show b.1 < a.1 ∨ (b.1 = a.1 ∧ b.2 ≤ a.2) by omega), Bool.or_true]
theorem asc_sort {b : Ps} (g : Good b) : Asc (b.mergeSort leK) := by
  have p := List.pairwise_mergeSort (le := leK) leK_trans leK_total b
  have pm := List.mergeSort_perm b leK
  have nd : (keys (b.mergeSort leK)).Nodup := (pm.map (fun q : Int × Int => q.1)).nodup_iff.mpr g.nd
  unfold keys at nd
  rw [List.nodup_iff_pairwise_ne, List.pairwise_map] at nd
  refine (p.and nd).imp fun h => ?_
  have a := of_decide_eq_true h.1
  have c := h.2
  omega
theorem good_perm {b c : Ps} (g : Good b) (p : c.Perm b) : Good c := ⟨(p.map (fun q : Int × Int => q.1)).nodup_iff.mpr g.nd, fun q hq => g.pos q (p.mem_iff.mp hq)⟩
theorem look_perm {b c : Ps} (g : Good b) (p : c.Perm b) (k : Int) : look c k = look b k := by
  have g' := good_perm g p
  cases e : look b k with
  | none =>
    rw [look_none] at e ⊢
    exact fun z => e ((p.map (fun q : Int × Int => q.1)).mem_iff.mp z)
  | some v => exact mem_look g'.nd (p.mem_iff.mpr (look_mem e))
theorem val_perm {b c : Ps} (g : Good b) (p : c.Perm b) : val c = val b := by
  funext k
  unfold val
  rw [look_perm g p]
theorem look_val {b c : Ps} (gb : Good b) (gc : Good c) (h : val b = val c) (k : Int) : look b k = look c k := by
  have e := congrFun h k
  unfold val at e
  cases e1 : look b k with
  | none =>
    cases e2 : look c k with
    | none => rfl
    | some v =>
      rw [e1, e2] at e
      have : 1 ≤ v := gc.pos _ (look_mem e2)
      have e' : (0 : Int) = v := e
      omega
  | some u =>
    cases e2 : look c k with
    | none =>
      rw [e1, e2] at e
      have : 1 ≤ u := gb.pos _ (look_mem e1)
      have e' : u = (0 : Int) := e
      omega
    | some v =>
      rw [e1, e2] at e
      have e' : u = v := e
      rw [e']
theorem asc_ext : ∀ {b c : Ps}, Asc b → Asc c → (∀ k, look b k = look c k) → b = c
  | [], [], _, _, _ => rfl
  | [], q :: c, _, _, h => by
    have e := h q.1
    rw [look_cons, if_pos rfl] at e
    cases e
  | q :: b, [], _, _, h => by
    have e := h q.1
    rw [look_cons, if_pos rfl] at e
    cases e
  | p :: b, q :: c, hb, hc, h => by
    have hb' := List.pairwise_cons.mp hb
    have hc' := List.pairwise_cons.mp hc
    have e1 := h p.1
    rw [look_cons, if_pos rfl, look_cons] at e1
    have e2 := h q.1
    rw [look_cons, look_cons, if_pos rfl] at e2
    have key : p.1 = q.1 := by
      by_cases x : q.1 = p.1
      · exact x.symm
      · rw [if_neg x] at e1
        rw [if_neg fun z => x z.symm] at e2
        have m1 := hc'.1 _ (look_mem e1.symm)
        have m2 := hb'.1 _ (look_mem e2)
        have m1' : q.1 < p.1 := m1
        have m2' : p.1 < q.1 := m2
        omega
    rw [if_pos key.symm] at e1
    have hpq : p = q := Prod.ext key (Option.some.inj e1)
    subst hpq
    rw [asc_ext hb'.2 hc'.2 fun k => ?_]
    have e := h k
    rw [look_cons, look_cons] at e
    by_cases x : p.1 = k
    · have n1 : look b k = none := look_none.mpr fun z => by
        obtain ⟨r, hr, er⟩ := List.mem_map.mp z
        have := hb'.1 r hr
        omega
      have n2 : look c k = none := look_none.mpr fun z => by
        obtain ⟨r, hr, er⟩ := List.mem_map.mp z
        have := hc'.1 r hr
        omega
      rw [n1, n2]
    · rw [if_neg x, if_neg x] at e
      exact e
theorem sort_ext {b c : Ps} (gb : Good b) (gc : Good c) (h : val b = val c) : b.mergeSort leK = c.mergeSort leK :=
  asc_ext (asc_sort gb) (asc_sort gc) fun k => by
    rw [look_perm gb (List.mergeSort_perm b leK), look_perm gc (List.mergeSort_perm c leK)]
    exact look_val gb gc h k
end Gc

/-! laws of boxes: joined lists, greater goals, multiplied moves -/
namespace Gc
abbrev BF := Option (Option Int × (Int → Int))
def boxF (cs : List Cmd) (goal : Int) : BF := goF cs.reverse (last cs) goal fun _ => 0
theorem val_nil : val [] = fun _ => 0 := rfl
theorem allOk_rev {cs : List Cmd} (h : AllOk cs) : AllOk cs.reverse := fun c hc => h c (List.mem_reverse.mp hc)
theorem box_spec {cs : List Cmd} {goal : Int} (h : AllOk cs) (hg : 1 ≤ goal) :
    (boxM cs goal = none ∧ boxF cs goal = none) ∨ ∃ st b, boxM cs goal = some (st, b.mergeSort leK) ∧ Good b ∧ boxF cs goal = some (st, val b) ∧ ∀ n, st = some n → 1 ≤ n := by
  unfold boxM boxF
  rw [← val_nil]
  rcases go_goF (off := last cs) (allOk_rev h) good_nil hg with ⟨e1, e2⟩ | ⟨st, b, e1, g, e2, p⟩
  · exact .inl ⟨by rw [e1]; rfl, e2⟩
  · exact .inr ⟨st, b, by rw [e1]; rfl, g, e2, p⟩
def thenF (x : BF) (k : Int → (Int → Int) → BF) : BF := match x with
  | none => none
  | some (none, g) => some (none, g)
  | some (some n, g) => k n g
theorem goF_app : ∀ (a b : List Cmd) (off need : Int) (f : Int → Int), goF (a ++ b) off need f = thenF (goF a off need f) fun n g => goF b (off - (a.map Cmd.dv).sum) n g
  | [], b, off, need, f => by
    show goF b off need f = goF b (off - 0) need f
    rw [Int.sub_zero]
  | .home :: a, b, off, need, f => rfl
  | .stop :: a, b, off, need, f => rfl
  | .right n :: a, b, off, need, f => by
    have e : off - (((Cmd.right n :: a).map Cmd.dv).sum) = off - (a.map Cmd.dv).sum := by
      rw [List.map_cons, List.sum_cons]
      show off - (0 + _) = _
      omega
    rw [e, List.cons_append]
    simp only [goF]
    by_cases h : need > n
    · rw [if_pos h, if_pos h]
      exact goF_app a b off (need - n) _
    · rw [if_neg h, if_neg h]
      rfl
  | .left n :: a, b, off, need, f => by
    have e : off - (((Cmd.left n :: a).map Cmd.dv).sum) = off - (a.map Cmd.dv).sum := by
      rw [List.map_cons, List.sum_cons]
      show off - (0 + _) = _
      omega
    rw [e, List.cons_append]
    exact goF_app a b off (need + n) _
  | .down n :: a, b, off, need, f => by
    have e : off - (((Cmd.down n :: a).map Cmd.dv).sum) = off - n - (a.map Cmd.dv).sum := by
      rw [List.map_cons, List.sum_cons]
      show off - (n + _) = _
      omega
    rw [e, List.cons_append]
    exact goF_app a b (off - n) need f
  | .up n :: a, b, off, need, f => by
    have e : off - (((Cmd.up n :: a).map Cmd.dv).sum) = off + n - (a.map Cmd.dv).sum := by
      rw [List.map_cons, List.sum_cons]
      show off - (-n + _) = _
      omega
    rw [e, List.cons_append]
    exact goF_app a b (off + n) need f
theorem goF_shift (d : Int) : ∀ (r : List Cmd) (off need : Int) (f : Int → Int), goF r (off + d) need (fun k => f (k - d)) = (goF r off need f).map fun x => (x.1, fun k => x.2 (k - d))
  | [], off, need, f => rfl
  | .home :: r, off, need, f => rfl
  | .stop :: r, off, need, f => rfl
  | .right n :: r, off, need, f => by
    have e : reqF (fun k => f (k - d)) (off + d) need = fun k => reqF f off need (k - d) := by
      funext k
      unfold reqF
      by_cases h : off + d = k
      · rw [if_pos h, if_pos (by omega)]
      · rw [if_neg h, if_neg (by omega)]
    simp only [goF]
    rw [e]
    by_cases h : need > n
    · rw [if_pos h, if_pos h]
      exact goF_shift d r off (need - n) _
    · rw [if_neg h, if_neg h]
      rfl
  | .left n :: r, off, need, f => by
    have e : reqF (fun k => f (k - d)) (off + d) (need + n) = fun k => reqF f off (need + n) (k - d) := by
      funext k
      unfold reqF
      by_cases h : off + d = k
      · rw [if_pos h, if_pos (by omega)]
      · rw [if_neg h, if_neg (by omega)]
    simp only [goF]
    rw [e]
    exact goF_shift d r off (need + n) _
  | .down n :: r, off, need, f => by
    simp only [goF]
    rw [show off + d - n = off - n + d by omega]
    exact goF_shift d r (off - n) need f
  | .up n :: r, off, need, f => by
    simp only [goF]
    rw [show off + d + n = off + n + d by omega]
    exact goF_shift d r (off + n) need f
theorem goF_max (h : Int → Int) : ∀ (r : List Cmd) (off need : Int) (f : Int → Int), goF r off need (fun k => max (f k) (h k)) = (goF r off need f).map fun x => (x.1, fun k => max (x.2 k) (h k))
  | [], off, need, f => rfl
  | .home :: r, off, need, f => rfl
  | .stop :: r, off, need, f => rfl
  | .right n :: r, off, need, f => by
    have e : reqF (fun k => max (f k) (h k)) off need = fun k => max (reqF f off need k) (h k) := by
      funext k
      unfold reqF
      show (if _ then _ else _) = _
      by_cases q : off = k
      · simp only [q, if_true]
        rw [Int.max_assoc]
      · simp only [q, if_false]
    simp only [goF]
    rw [e]
    by_cases c : need > n
    · rw [if_pos c, if_pos c]
      exact goF_max h r off (need - n) _
    · rw [if_neg c, if_neg c]
      rfl
  | .left n :: r, off, need, f => by
    have e : reqF (fun k => max (f k) (h k)) off (need + n) = fun k => max (reqF f off (need + n) k) (h k) := by
      funext k
      unfold reqF
      show (if _ then _ else _) = _
      by_cases q : off = k
      · simp only [q, if_true]
        rw [Int.max_assoc]
      · simp only [q, if_false]
    simp only [goF]
    rw [e]
    exact goF_max h r off (need + n) _
  | .down n :: r, off, need, f => goF_max h r (off - n) need f
  | .up n :: r, off, need, f => goF_max h r (off + n) need f
theorem last_app (a b : List Cmd) : last (a ++ b) = last a + last b := by
  unfold last
  rw [List.map_append, List.sum_append]
theorem sum_rev (l : List Int) : l.reverse.sum = l.sum := by
  induction l with
  | nil => rfl
  | cons a l ih =>
    rw [List.reverse_cons, List.sum_append, ih, List.sum_cons]
    simp
    omega
theorem boxF_app (early late : List Cmd) (aim : Int) (pos : ∀ st g, boxF late aim = some (st, g) → ∀ k, 0 ≤ g k) :
    boxF (early ++ late) aim = match boxF late aim with
      | none => none
      | some (none, g) => some (none, fun k => g (k - last early))
      | some (some n, g) => (boxF early n).map fun x => (x.1, fun k => max (x.2 k) (g (k - last early))) := by
  unfold boxF
  rw [List.reverse_append, goF_app, last_app, Int.add_comm (last early)]
  have sh : goF late.reverse (last late + last early) aim (fun _ => 0) = (goF late.reverse (last late) aim fun _ => 0).map fun x => (x.1, fun k => x.2 (k - last early)) :=
    goF_shift (last early) late.reverse (last late) aim fun _ => 0
  rw [sh]
  have pos' := pos
  unfold boxF at pos'
  cases e : goF late.reverse (last late) aim (fun _ => 0) with
  | none => rfl
  | some x =>
    obtain ⟨st, g⟩ := x
    cases st with
    | none => rfl
    | some n =>
      show goF early.reverse (last late + last early - (late.reverse.map Cmd.dv).sum) n (fun k => g (k - last early)) = _
      have es : (late.reverse.map Cmd.dv).sum = last late := by
        rw [List.map_reverse, sum_rev]
        rfl
      rw [es, show last late + last early - last late = last early by omega]
      have em : (fun k => g (k - last early)) = fun k => max ((fun _ => 0 : Int → Int) k) (g (k - last early)) := by
        funext k
        have := pos' _ _ e (k - last early)
        show g (k - last early) = max 0 (g (k - last early))
        omega
      rw [em, goF_max]

/-! ### the law's own joining -/
def shiftK (d : Int) (b : Ps) : Ps := b.map fun q => (q.1 + d, q.2)
def addAll (b : Ps) (l : Ps) : Ps := l.foldl (fun b q => put b q.1 (mx q.2 ((look b q.1).getD 0))) b
def joinedM (early late : List Cmd) (gone aim : Int) : Option (Option Int × Ps) := match boxM late aim with
  | none => none
  | some (none, l) => some (none, (shiftK gone l).mergeSort leK)
  | some (some n, l) => match boxM early n with
    | none => none
    | some (st, m) => some (st, (addAll (shiftK gone l) m).mergeSort leK)
theorem look_shift (d : Int) : ∀ (b : Ps) (k : Int), look (shiftK d b) k = look b (k - d)
  | [], _ => rfl
  | q :: b, k => by
    show look ((q.1 + d, q.2) :: shiftK d b) k = _
    rw [look_cons, look_cons, look_shift d b]
    by_cases h : q.1 + d = k
    · rw [if_pos h, if_pos (by omega)]
    · rw [if_neg h, if_neg (by omega)]
theorem good_shift (d : Int) {b : Ps} (g : Good b) : Good (shiftK d b) := by
  refine ⟨?_, fun q hq => ?_⟩
  · have e : keys (shiftK d b) = (keys b).map (· + d) := by
      unfold keys shiftK
      rw [List.map_map, List.map_map]
      rfl
    rw [e, List.nodup_iff_pairwise_ne, List.pairwise_map]
    exact (List.nodup_iff_pairwise_ne.mp g.nd).imp fun h => by omega
  · obtain ⟨p, hp, rfl⟩ := List.mem_map.mp hq
    exact g.pos p hp
theorem val_shift (d : Int) (b : Ps) : val (shiftK d b) = fun k => val b (k - d) := by
  funext k
  unfold val
  rw [look_shift]
theorem val_cons (q : Int × Int) (b : Ps) (k : Int) : val (q :: b) k = if q.1 = k then q.2 else val b k := by
  unfold val
  rw [look_cons]
  split <;> rfl
theorem val_out {b : Ps} {k : Int} (h : k ∉ keys b) : val b k = 0 := by
  unfold val
  rw [look_none.mpr h]
  rfl
theorem addAll_good : ∀ {l b : Ps}, Good b → Good l → Good (addAll b l) ∧ ∀ k, val (addAll b l) k = max (val l k) (val b k)
  | [], b, gb, _ => ⟨gb, fun k => by
      have := val_nonneg gb k
      show val b k = max 0 (val b k)
      omega⟩
  | q :: l, b, gb, gl => by
    have nq : q.1 ∉ keys l ∧ (keys l).Nodup := List.nodup_cons.mp gl.nd
    have p1 : 1 ≤ q.2 := gl.pos q List.mem_cons_self
    have gl' : Good l := ⟨nq.2, fun p hp => gl.pos p (List.mem_cons_of_mem _ hp)⟩
    have hv : 1 ≤ mx q.2 ((look b q.1).getD 0) := by
      unfold mx
      split <;> omega
    obtain ⟨g, v⟩ := addAll_good (b := put b q.1 (mx q.2 ((look b q.1).getD 0))) (good_put gb hv) gl'
    refine ⟨g, fun k => ?_⟩
    show val (addAll (put b q.1 (mx q.2 ((look b q.1).getD 0))) l) k = _
    rw [v k, val_put, val_cons]
    by_cases h : q.1 = k
    · subst h
      rw [if_pos rfl, if_pos rfl, val_out nq.1]
      have : mx q.2 ((look b q.1).getD 0) = max q.2 (val b q.1) := by
        unfold mx val
        split <;> omega
      rw [this]
      omega
    · rw [if_neg h, if_neg h]
theorem joined (early late : List Cmd) {aim : Int} (he : AllOk early) (hl : AllOk late) (ha : 1 ≤ aim) : boxM (early ++ late) aim = joinedM early late (last early) aim := by
  have hw : AllOk (early ++ late) := fun c hc => (List.mem_append.mp hc).elim (he c) (hl c)
  have srtd : ∀ {b c : Ps}, Good b → Good c → val b = val c → b.mergeSort leK = c.mergeSort leK := fun gb gc h => sort_ext gb gc h
  rcases box_spec hl ha with ⟨e1, e2⟩ | ⟨st, b, e1, gb, e2, pb⟩
  · have f := boxF_app early late aim fun st g h => by rw [e2] at h; cases h
    rw [e2] at f
    rcases box_spec hw ha with ⟨w1, _⟩ | ⟨_, _, _, _, w2, _⟩
    · rw [w1]
      unfold joinedM
      rw [e1]
    · rw [w2] at f
      cases f
  · have f := boxF_app early late aim fun st g h => by
      rw [e2] at h
      cases h
      exact val_nonneg gb
    rw [e2] at f
    have gs : Good (b.mergeSort leK) := good_perm gb (List.mergeSort_perm b leK)
    have vs : val (b.mergeSort leK) = val b := val_perm gb (List.mergeSort_perm b leK)
    cases st with
    | none =>
      rcases box_spec hw ha with ⟨_, w2⟩ | ⟨st', c, w1, gc, w2, _⟩
      · rw [w2] at f
        cases f
      · rw [w2] at f
        have f' := Option.some.inj f
        have f1 : st' = none := congrArg Prod.fst f'
        have f2 : val c = fun k => val b (k - last early) := congrArg Prod.snd f'
        rw [w1, f1]
        unfold joinedM
        rw [e1]
        show some ((none : Option Int), c.mergeSort leK) = some (none, (shiftK (last early) (b.mergeSort leK)).mergeSort leK)
        rw [srtd gc (good_shift _ gs) (by rw [f2, val_shift, vs])]
    | some n =>
      have hn := pb n rfl
      rcases box_spec he hn with ⟨x1, x2⟩ | ⟨st2, m, x1, gm, x2, _⟩
      · have f' : boxF (early ++ late) aim = (boxF early n).map fun x => (x.1, fun k => max (x.2 k) (val b (k - last early))) := f
        rw [x2] at f'
        rcases box_spec hw ha with ⟨w1, _⟩ | ⟨_, _, _, _, w2, _⟩
        · rw [w1]
          unfold joinedM
          rw [e1]
          show none = match boxM early n with | none => none | some (st, m) => _
          rw [x1]
        · rw [w2] at f'
          cases f'
      · have f' : boxF (early ++ late) aim = (boxF early n).map fun x => (x.1, fun k => max (x.2 k) (val b (k - last early))) := f
        rw [x2] at f'
        rcases box_spec hw ha with ⟨_, w2⟩ | ⟨st', c, w1, gc, w2, _⟩
        · rw [w2] at f'
          cases f'
        · rw [w2] at f'
          have f3 := Option.some.inj f'
          have f1 : st' = st2 := congrArg Prod.fst f3
          have f2 : val c = fun k => max (val m k) (val b (k - last early)) := congrArg Prod.snd f3
          rw [w1, f1]
          unfold joinedM
          rw [e1]
          show some (st2, c.mergeSort leK) = match boxM early n with | none => none | some (st, m) => _
          rw [x1]
          show some (st2, c.mergeSort leK) = some (st2, (addAll (shiftK (last early) (b.mergeSort leK)) (m.mergeSort leK)).mergeSort leK)
          have gms : Good (m.mergeSort leK) := good_perm gm (List.mergeSort_perm m leK)
          obtain ⟨ga, va⟩ := addAll_good (good_shift (last early) gs) gms
          rw [srtd gc ga (by
            funext k
            rw [f2, va k, val_perm gm (List.mergeSort_perm m leK), val_shift, vs])]

/-! ### a greater goal -/
theorem reqF_mono {f g : Int → Int} {o v u : Int} (h : ∀ k, f k ≤ g k) (hv : v ≤ u) (k : Int) : reqF f o v k ≤ reqF g o u k := by
  have := h k
  unfold reqF
  split <;> omega
theorem reqF_ge (f : Int → Int) (o v k : Int) : f k ≤ reqF f o v k := by
  unfold reqF
  split <;> omega
theorem goF_ge : ∀ {r : List Cmd} {off need : Int} {f : Int → Int} {st : Option Int} {g : Int → Int}, goF r off need f = some (st, g) → ∀ k, f k ≤ g k
  | [], off, need, f, st, g, h, k => by cases h; exact Int.le_refl _
  | .home :: r, off, need, f, st, g, h, k => by cases h
  | .stop :: r, off, need, f, st, g, h, k => by cases h; exact Int.le_refl _
  | .right n :: r, off, need, f, st, g, h, k => by
    simp only [goF] at h
    by_cases c : need > n
    · rw [if_pos c] at h
      exact Int.le_trans (reqF_ge f off need k) (goF_ge h k)
    · rw [if_neg c] at h
      cases h
      exact reqF_ge f off need k
  | .left n :: r, off, need, f, st, g, h, k => Int.le_trans (reqF_ge f off (need + n) k) (goF_ge (r := r) h k)
  | .down n :: r, off, need, f, st, g, h, k => goF_ge (r := r) h k
  | .up n :: r, off, need, f, st, g, h, k => goF_ge (r := r) h k
def Less (x y : BF) : Prop := y = none ∨ ∃ st g st' g', x = some (st, g) ∧ y = some (st', g') ∧ (∀ n, st = some n → ∃ n', st' = some n' ∧ n ≤ n') ∧ ∀ k, g k ≤ g' k
theorem goF_mono : ∀ {r : List Cmd} {off need need' : Int} {f f' : Int → Int}, need ≤ need' → (∀ k, f k ≤ f' k) → Less (goF r off need f) (goF r off need' f')
  | [], off, need, need', f, f', h, hf => .inr ⟨_, _, _, _, rfl, rfl, fun n e => ⟨need', rfl, by rw [← Option.some.inj e]; exact h⟩, hf⟩
  | .home :: r, off, need, need', f, f', h, hf => .inl rfl
  | .stop :: r, off, need, need', f, f', h, hf => .inr ⟨_, _, _, _, rfl, rfl, (fun n e => nomatch e), hf⟩
  | .right n :: r, off, need, need', f, f', h, hf => by
    simp only [goF]
    have m := reqF_mono (o := off) hf h
    by_cases c : need > n
    · rw [if_pos c, if_pos (by omega)]
      exact goF_mono (by omega) m
    · rw [if_neg c]
      by_cases c' : need' > n
      · rw [if_pos c']
        cases e : goF r off (need' - n) (reqF f' off need') with
        | none => exact .inl rfl
        | some x => exact .inr ⟨_, _, x.1, x.2, rfl, rfl, (fun n e => nomatch e), fun k => Int.le_trans (m k) (goF_ge e k)⟩
      · rw [if_neg c']
        exact .inr ⟨_, _, _, _, rfl, rfl, (fun n e => nomatch e), m⟩
  | .left n :: r, off, need, need', f, f', h, hf => goF_mono (r := r) (by omega) (reqF_mono (o := off) hf (by omega))
  | .down n :: r, off, need, need', f, f', h, hf => goF_mono (r := r) h hf
  | .up n :: r, off, need, need', f, f', h, hf => goF_mono (r := r) h hf
theorem box_mono {cs : List Cmd} {aim more : Int} (h : AllOk cs) (ha : 1 ≤ aim) (hm : aim ≤ more) :
    boxM cs more = none ∨ ∃ st l st' l', boxM cs aim = some (st, l) ∧ boxM cs more = some (st', l') ∧ (∀ n, st = some n → ∃ n', st' = some n' ∧ n ≤ n') ∧ ∀ q ∈ l, q.2 ≤ val l' q.1 := by
  have m : Less (boxF cs aim) (boxF cs more) := goF_mono hm fun _ => Int.le_refl _
  rcases box_spec h (show 1 ≤ more by omega) with ⟨e1, _⟩ | ⟨st', b', e1, g', e2, _⟩
  · exact .inl e1
  · rcases m with m | ⟨st, g, st2, g2, m1, m2, m3, m4⟩
    · rw [e2] at m
      cases m
    · rw [e2] at m2
      cases m2
      rcases box_spec h ha with ⟨_, x2⟩ | ⟨st3, b, x1, gb, x2, _⟩
      · rw [x2] at m1
        cases m1
      · rw [x2] at m1
        cases m1
        refine .inr ⟨st, _, st', _, x1, e1, m3, fun q hq => ?_⟩
        have gs : Good (b.mergeSort leK) := good_perm gb (List.mergeSort_perm b leK)
        have v : val (b.mergeSort leK) q.1 = q.2 := by
          unfold val
          rw [mem_look gs.nd hq]
          rfl
        rw [val_perm gb (List.mergeSort_perm b leK)] at v
        rw [val_perm g' (List.mergeSort_perm b' leK), ← v]
        exact m4 q.1

/-! ### moves multiplied -/
def Cmd.mul (F : Int) : Cmd → Cmd
  | .down n => .down (n * F)
  | .up n => .up (n * F)
  | c => c
def mulK (F : Int) (b : Ps) : Ps := b.map fun q => (q.1 * F, q.2)
theorem mul_inj {F a b : Int} (hF : 1 ≤ F) : a * F = b * F ↔ a = b := ⟨fun h => Int.eq_of_mul_eq_mul_right (by omega) h, fun h => by rw [h]⟩
theorem look_mul {F : Int} (hF : 1 ≤ F) : ∀ (b : Ps) (k : Int), look (mulK F b) (k * F) = look b k
  | [], _ => rfl
  | q :: b, k => by
    show look ((q.1 * F, q.2) :: mulK F b) (k * F) = _
    rw [look_cons, look_cons, look_mul hF b]
    by_cases h : q.1 = k
    · rw [if_pos h, if_pos (by rw [h])]
    · rw [if_neg h, if_neg fun z => h ((mul_inj hF).mp z)]
theorem put_mul {F : Int} (hF : 1 ≤ F) (b : Ps) (k v : Int) : put (mulK F b) (k * F) v = mulK F (put b k v) := by
  unfold put
  have ea : (mulK F b).any (fun q => decide (q.1 = k * F)) = b.any (fun q => decide (q.1 = k)) := by
    unfold mulK
    rw [List.any_map]
    congr 1
    funext q
    show decide (q.1 * F = k * F) = decide (q.1 = k)
    exact decide_eq_decide.mpr (mul_inj hF)
  rw [ea]
  by_cases h : b.any (fun q => decide (q.1 = k)) = true
  · rw [if_pos h, if_pos h]
    unfold mulK
    rw [List.map_map, List.map_map]
    refine List.map_congr_left fun q _ => ?_
    show (if q.1 * F = k * F then (q.1 * F, v) else (q.1 * F, q.2)) = ((if q.1 = k then (q.1, v) else q).1 * F, (if q.1 = k then (q.1, v) else q).2)
    by_cases e : q.1 = k
    · rw [if_pos e, if_pos (by rw [e])]
    · rw [if_neg e, if_neg fun z => e ((mul_inj hF).mp z)]
  · rw [if_neg h, if_neg h]
    unfold mulK
    rw [List.map_append]
    rfl
theorem req_mul {F : Int} (hF : 1 ≤ F) (b : Ps) (o v : Int) : req (mulK F b) (o * F) v = mulK F (req b o v) := by
  unfold req
  rw [look_mul hF, put_mul hF]
theorem go_mul {F : Int} (hF : 1 ≤ F) : ∀ (r : List Cmd) (off need : Int) (b : Ps), go (r.map (Cmd.mul F)) (off * F) need (mulK F b) = (go r off need b).map fun x => (x.1, mulK F x.2)
  | [], off, need, b => rfl
  | .home :: r, off, need, b => rfl
  | .stop :: r, off, need, b => rfl
  | .right n :: r, off, need, b => by
    show (if need > n then go (r.map (Cmd.mul F)) (off * F) (need - n) (req (mulK F b) (off * F) need) else some (none, req (mulK F b) (off * F) need)) = (if need > n then go r off (need - n) (req b off need) else some (none, req b off need)).map _
    rw [req_mul hF]
    by_cases c : need > n
    · rw [if_pos c, if_pos c]
      exact go_mul hF r off (need - n) _
    · rw [if_neg c, if_neg c]
      rfl
  | .left n :: r, off, need, b => by
    show go (r.map (Cmd.mul F)) (off * F) (need + n) (req (mulK F b) (off * F) (need + n)) = _
    rw [req_mul hF]
    exact go_mul hF r off (need + n) _
  | .down n :: r, off, need, b => by
    show go (r.map (Cmd.mul F)) (off * F - n * F) need (mulK F b) = _
    rw [← Int.sub_mul]
    exact go_mul hF r (off - n) need b
  | .up n :: r, off, need, b => by
    show go (r.map (Cmd.mul F)) (off * F + n * F) need (mulK F b) = _
    rw [← Int.add_mul]
    exact go_mul hF r (off + n) need b
theorem last_mul (F : Int) : ∀ cs : List Cmd, last (cs.map (Cmd.mul F)) = last cs * F
  | [] => by show (0 : Int) = 0 * F; omega
  | c :: cs => by
    have e : ∀ (c : Cmd) (cs : List Cmd), last (c :: cs) = c.dv + last cs := fun _ _ => rfl
    have d : (c.mul F).dv = c.dv * F := by
      cases c with
      | up n =>
        show -(n * F) = -n * F
        rw [Int.neg_mul]
      | down n => rfl
      | right n => show (0 : Int) = 0 * F; omega
      | left n => show (0 : Int) = 0 * F; omega
      | home => show (0 : Int) = 0 * F; omega
      | stop => show (0 : Int) = 0 * F; omega
    rw [List.map_cons, e, e, last_mul F cs, d, Int.add_mul]
theorem good_mul {F : Int} (hF : 1 ≤ F) {b : Ps} (g : Good b) : Good (mulK F b) := by
  refine ⟨?_, fun q hq => ?_⟩
  · have e : keys (mulK F b) = (keys b).map (· * F) := by
      unfold keys mulK
      rw [List.map_map, List.map_map]
      rfl
    rw [e, List.nodup_iff_pairwise_ne, List.pairwise_map]
    exact (List.nodup_iff_pairwise_ne.mp g.nd).imp fun h z => h ((mul_inj hF).mp z)
  · obtain ⟨p, hp, rfl⟩ := List.mem_map.mp hq
    exact g.pos p hp
theorem asc_mul {F : Int} (hF : 1 ≤ F) {b : Ps} (h : Asc b) : Asc (mulK F b) := by
  unfold Asc mulK
  rw [List.pairwise_map]
  exact h.imp fun h => Int.mul_lt_mul_of_pos_right h (by omega)
theorem box_mul {F : Int} (hF : 1 ≤ F) {cs : List Cmd} {goal : Int} (h : AllOk cs) (hg : 1 ≤ goal) :
    boxM (cs.map (Cmd.mul F)) goal = (boxM cs goal).map fun x => (x.1, mulK F x.2) := by
  unfold boxM
  rw [last_mul, ← List.map_reverse]
  have e := go_mul hF cs.reverse (last cs) goal []
  have e' : go (cs.reverse.map (Cmd.mul F)) (last cs * F) goal [] = (go cs.reverse (last cs) goal []).map fun x => (x.1, mulK F x.2) := e
  rw [e']
  rcases go_goF (off := last cs) (allOk_rev h) good_nil hg with ⟨e1, _⟩ | ⟨st, b, e1, g, _, _⟩
  · rw [e1]
    rfl
  · rw [e1]
    show some (st, (mulK F b).mergeSort leK) = some (st, mulK F (b.mergeSort leK))
    have gm := good_mul hF g
    have key : (mulK F b).mergeSort leK = mulK F (b.mergeSort leK) := by
      have p : (mulK F (b.mergeSort leK)).Perm (mulK F b) := (List.mergeSort_perm b leK).map _
      refine asc_ext (asc_sort gm) (asc_mul hF (asc_sort g)) fun k => ?_
      rw [look_perm gm (List.mergeSort_perm _ leK), look_perm gm p]
    rw [key]
def Cmd.vert : Cmd → Bool
  | .down _ => true
  | .up _ => true
  | _ => false
theorem go_plain : ∀ (r : List Cmd) (off need : Int) (b : Ps), (∀ c ∈ r, c.vert = true) → go r off need b = some (some need, b)
  | [], _, _, _, _ => rfl
  | .down n :: r, off, need, b, h => go_plain r (off - n) need b fun c hc => h c (List.mem_cons_of_mem _ hc)
  | .up n :: r, off, need, b, h => go_plain r (off + n) need b fun c hc => h c (List.mem_cons_of_mem _ hc)
  | .right n :: r, _, _, _, h => nomatch h _ List.mem_cons_self
  | .left n :: r, _, _, _, h => nomatch h _ List.mem_cons_self
  | .home :: r, _, _, _, h => nomatch h _ List.mem_cons_self
  | .stop :: r, _, _, _, h => nomatch h _ List.mem_cons_self
theorem box_plain (cs : List Cmd) (goal : Int) (h : ∀ c ∈ cs, c.vert = true) : boxM cs goal = some (some goal, []) := by
  unfold boxM
  rw [go_plain cs.reverse (last cs) goal [] fun c hc => h c (List.mem_reverse.mp hc)]
  show some (some goal, ([] : Ps).mergeSort leK) = _
  rw [List.mergeSort_nil]
end Gc

/-! sorted(d.items()), d a dict of ints by ints -/
namespace Gc
open PySem PySem.Spec PyProof.Rows L2
/-- what such a dict holds -/
def dkI (ps : List (Int × Int)) : List (L2.Key × V) := ps.map fun q => (Sum.inl q.1, V.int q.2)
def encP (q : Int × Int) : PyData := .tuple [.int q.1, .int q.2]
def leP (p q : Int × Int) : Bool := decide (p.1 < q.1 ∨ (p.1 = q.1 ∧ p.2 ≤ q.2))
theorem dkI_at {ps : List (Int × Int)} {j : Nat} {kv : L2.Key × V} (h : (dkI ps)[j]? = some kv) : ∃ q, ps[j]? = some q ∧ kv = (Sum.inl q.1, V.int q.2) := by
  unfold dkI at h
  rw [List.getElem?_map] at h
  cases e : ps[j]? with
  | none =>
    rw [e] at h
    cases h
  | some q =>
    rw [e] at h
    exact ⟨q, rfl, (Option.some.inj h).symm⟩
theorem pairs_at {P : Program} {w : World} : ∀ {es : List DictEntry} {vs : List (L2.Key × Value)} {j : Nat} {e : DictEntry}, Pairs (mixKind P w) es vs → es[j]? = some e →
    ∃ kv, vs[j]? = some kv ∧ keyIs kv.1 e.key = true ∧ e.val = kv.2
  | _, _, 0, e, .cons h1 h2 _, h => by
    obtain rfl := Option.some.inj h
    exact ⟨_, rfl, h1, h2⟩
  | _, _, j + 1, e, .cons _ _ t, h => pairs_at (j := j) t h
theorem pairs_len {P : Program} {w : World} : ∀ {es : List DictEntry} {vs : List (L2.Key × Value)}, Pairs (mixKind P w) es vs → es.length = vs.length
  | _, _, .nil => rfl
  | _, _, .cons _ _ t => by
    rw [List.length_cons, List.length_cons, pairs_len t]
def rSortItI : V → Hp → VK → Prop := fun x H Q => ∃ (d : Addr) (ps : List (Int × Int)), x = .ref d ∧ H d = some (.dK (dkI ps)) ∧
  ∀ (H' : Hp) (l : Addr) (ts : List Addr), Same H H' → H l = none → H' l = some (.lst (ts.map V.ref)) →
    Paired (fun (t : Addr) (q : Int × Int) => H' t = some (.tup [.int q.1, .int q.2])) ts (ps.mergeSort leP) → Q (.ref l) H'
theorem each_paired {R : Value → Int × Int → Prop} {F : Addr → Int × Int → Prop} (hR : ∀ v q, R v q → ∃ t, v = .ref t ∧ F t q) : ∀ {vs : List Value} {qs : List (Int × Int)}, PySem.W.EachIs R vs qs →
    ∃ ts : List Addr, vs = ts.map Value.ref ∧ Paired F ts qs
  | _, _, .nil => ⟨[], rfl, .nil⟩
  | _, _, .cons h t => by
    obtain ⟨t0, e0, f0⟩ := hR _ _ h
    obtain ⟨ts, e1, f1⟩ := each_paired hR t
    exact ⟨t0 :: ts, by rw [e0, e1]; rfl, .cons f0 f1⟩
theorem vals_refs : ∀ as : List Addr, Vals (as.map V.ref) (as.map Value.ref)
  | [] => .nil
  | _ :: as => .cons rfl (vals_refs as)
section
variable {X : Cx}
theorem sort_items_run {pins : List (Addr × Obj)} {σ : L2.St} {H : Hp} {s : Shared} {Q : VK} {p d : Addr} {ps : List (Int × Int)} (I : Inv X pins σ H s) (hh : X.A.handled = none)
    (hu : X.A.units + 64 < cLine) (hd : H d = some (.dK (dkI ps))) (view : s.heap.IsItemsView p d)
    (q : ∀ (H' : Hp) (l : Addr) (ts : List Addr), Same H H' → H l = none → H' l = some (.lst (ts.map V.ref)) →
      Paired (fun (t : Addr) (q : Int × Int) => H' t = some (.tup [.int q.1, .int q.2])) ts (ps.mergeSort leP) → Q (.ref l) H') :
    wpAny (model X.prog X.w) X.A (call (.builtin "sorted") [.ref p]) (EP X pins σ Q) X.xe s := by
  obtain ⟨hz, hs0, vs, kv, o, es, ep, ho, hx, hdat, hko, hpr, hnd⟩ := (show ObjOk X.prog X.w H s.heap d (.dK (dkI ps)) from I.hok d _ hd)
  have l1 : (dkI ps).length = vs.length := Paired.length kv
  have l2 : es.toList.length = vs.length := pairs_len hpr
  have l3 : (dkI ps).length = ps.length := List.length_map ..
  have l4 : es.toList.length = es.size := by simp
  have ent : ∀ (j : Nat) (e : DictEntry), es[j]? = some e → ∃ (q : Int × Int) (t1 t2 : Tok), ps[j]? = some q ∧ e.key = .int q.1 t1 ∧ e.val = .int q.2 t2 := by
    intro j e he
    obtain ⟨kv', e1, e2, e3⟩ := pairs_at hpr (show es.toList[j]? = some e by simpa using he)
    obtain ⟨y, f1, f2, f3⟩ := L2.DX.pget kv e1
    obtain ⟨q, g1, rfl⟩ := dkI_at f1
    have f2' : Sum.inl q.1 = kv'.1 := f2
    rw [← f2'] at e2
    obtain ⟨t1, k1⟩ := Value.isInt_shape (k := q.1) (v := e.key) e2
    obtain ⟨t2, k2⟩ : ∃ t, kv'.2 = Value.int q.2 t := f3
    exact ⟨q, t1, t2, g1, k1, e3.trans k2⟩
  refine DT.sortedI (es := es) (ep := ep) hh view ⟨o, ho, hx, hdat⟩ (by omega) fun h' tk as hk hlt hl hG => ?_
  have nd : as.Nodup := List.Pairwise.imp (fun h => Nat.ne_of_lt h) hG.rise
  have lap : as.length = ps.length := by omega
  have pr : ∀ (j : Nat) (b : Addr), as[j]? = some b → ∃ (q : Int × Int) (t1 t2 : Tok), ps[j]? = some q ∧
      h'.get? b = some { cls := .type "tuple", data := .seq #[Value.int q.1 t1, Value.int q.2 t2] } := by
    intro j b hj
    obtain ⟨e, he, hg⟩ := hG.pairs j b hj
    obtain ⟨q, t1, t2, e1, e2, e3⟩ := ent j e he
    rw [e2, e3] at hg
    exact ⟨q, t1, t2, e1, hg⟩
  have hob : (h'.push { cls := .type "list", data := .seq (as.map Value.ref).toArray }).get? h'.objs.size = some (seqObj "list" (as.map Value.ref).toArray 0) := Heap.get?_push_size _ rfl
  have ne0 : ∀ b o, h'.get? b = some o → b ≠ h'.objs.size := fun b o e => Nat.ne_of_lt (Heap.lt_size e)
  have ka : ∀ b o, h'.get? b = some o → (h'.push { cls := .type "list", data := .seq (as.map Value.ref).toArray }).get? b = some o := fun b o e => Heap.get?_push_of_some _ e
  generalize hh2 : h'.push { cls := .type "list", data := .seq (as.map Value.ref).toArray } = h2 at hob ka ⊢
  have kb : ∀ b o, s.heap.get? b = some o → h2.get? b = some o := fun b o e => ka b o (hk b o e)
  have zipR : ∀ z, z ∈ (as.map Value.ref).zip ps → ∃ (j : Nat) (t : Addr), z.1 = Value.ref t ∧ as[j]? = some t ∧ ps[j]? = some z.2 := by
    intro z hz'
    obtain ⟨j, hj⟩ := List.mem_iff_getElem?.mp hz'
    obtain ⟨j1, j2⟩ := List.getElem?_zip_eq_some.mp hj
    rw [List.getElem?_map] at j1
    cases e : as[j]? with
    | none =>
      rw [e] at j1
      cases j1
    | some t =>
      rw [e] at j1
      exact ⟨j, t, (Option.some.inj j1).symm, e, j2⟩
  have eR : PySem.W.EachIs (fun v (q : Int × Int) => ∃ (j : Nat) (t : Addr), v = Value.ref t ∧ as[j]? = some t ∧ ps[j]? = some q) (as.map Value.ref) ps :=
    PySem.W.EachIs.of_zip (by rw [List.length_map]; exact lap) zipR
  have er : PySem.W.EachIs (fun v (q : Int × Int) => ∃ bs, Reads h2 v (encP q) bs ∧ h'.objs.size ∉ bs) (as.map Value.ref) ps := by
    refine eR.mono fun v q h => ?_
    obtain ⟨j, t, rfl, e1, e2⟩ := h
    obtain ⟨q', t1, t2, g1, g2⟩ := pr j t e1
    obtain rfl : q' = q := Option.some.inj (g1.symm.trans e2)
    exact ⟨_, .tuple (ka _ _ g2) rfl rfl (.cons (.int _ _) (.cons (.int _ _) .nil)), by simp⟩
  refine PySem.W.list_sort_data (s := { s with heap := h2, toks := tk }) (A := X.A.in1) (enc := encP) (bs := ps) (vs := as.map Value.ref) hob eR er
    (PySem.W.AllAlike.of fun b b' => by simp [encP, PySem.W.alike, PySem.W.alikeAll]) (PySem.W.Sortable.tuples fun b => ⟨_, _, rfl⟩) (by omega)
    (fun b _ => by show X.A.units + 1 + 1 + 1 < cLine; omega) fun out ol oe => ?_
  have le_eq : PySem.W.dataLe false encP = leP := PySem.W.dataLe_ii (fun q : Int × Int => q.1) (fun q => q.2)
  rw [le_eq] at oe
  show EP X pins σ Q (.ref h'.objs.size) { s with heap := sortedHeap h2 h'.objs.size (as.map Value.ref) out.toArray, toks := tk }
  obtain ⟨ts, rfl, tp⟩ := each_paired (F := fun t q => ∃ j : Nat, as[j]? = some t ∧ ps[j]? = some q) (fun v q h => by
    obtain ⟨j, t, e1, e2, e3⟩ := h
    exact ⟨t, e1, j, e2, e3⟩) oe
  have kF : ∀ b o, b ≠ h'.objs.size → h2.get? b = some o → (sortedHeap h2 h'.objs.size (as.map Value.ref) (ts.map Value.ref).toArray).get? b = some o :=
    fun b o hb e => (PyProof.Rows.sortedHeap_old hb (Heap.lt_size e)).trans e
  have kS : ∀ b o, s.heap.get? b = some o → (sortedHeap h2 h'.objs.size (as.map Value.ref) (ts.map Value.ref).toArray).get? b = some o :=
    fun b o e => kF b o (ne0 _ _ (hk b o e)) (kb b o e)
  obtain ⟨eF, heF⟩ := PyProof.Rows.sortedHeap_at (vs := as.map Value.ref) (out := (ts.map Value.ref).toArray) hob
  generalize sortedHeap h2 h'.objs.size (as.map Value.ref) (ts.map Value.ref).toArray = hF at kF kS heF ⊢
  have I1 : Inv X pins σ H { s with heap := hF, toks := tk } := I.kept (t' := tk) kS
  have hn0 : H h'.objs.size = none := I.hok.fresh (Nat.le_of_lt hlt)
  have tl : ts.length = ps.length := by
    rw [← ol, List.length_map]
  have I2 : Inv X pins σ (upd H h'.objs.size (.lst (ts.map V.ref))) { s with heap := hF, toks := tk } :=
    I1.take (h' := hF) (t' := tk) (fun b ob _ e => e) (I.fpOk (Nat.le_of_lt hlt) hn0) ⟨by rw [List.length_map]; omega, ts.map Value.ref, eF, vals_refs ts, heF⟩
  obtain ⟨H2, I3, g, qt⟩ := L2.DX.takeT (P := fun b vs => ∃ (j : Nat) (q : Int × Int), as[j]? = some b ∧ ps[j]? = some q ∧ vs = [.int q.1, .int q.2]) I as _ I2 nd fun b hb => by
    obtain ⟨j, hj⟩ := List.mem_iff_getElem?.mp hb
    obtain ⟨q, t1, t2, e1, e2⟩ := pr j b hj
    have old : s.heap.objs.size ≤ b := Nat.le_of_lt (hG.above b hb)
    refine ⟨old, ?_, [.int q.1, .int q.2], ⟨j, q, hj, e1, rfl⟩, fun H3 => ⟨by show 2 ≤ sizeLine; decide, [Value.int q.1 t1, Value.int q.2 t2], .cons ⟨_, rfl⟩ (.cons ⟨_, rfl⟩ .nil), ⟨_, kF _ _ (ne0 _ _ e2) (ka _ _ e2), rfl, 0, rfl⟩⟩⟩
    rw [upd_ne (ne0 _ _ e2)]
    exact I.hok.fresh old
  refine ⟨.ref h'.objs.size, H2, I3, rfl, q H2 h'.objs.size ts (fun b o e => g b o (by rw [upd_ne (ne_of_none e hn0)]; exact e)) hn0 (g _ _ upd_same) ?_⟩
  refine Paired.mapP tp fun t q h => ?_
  obtain ⟨j, j1, j2⟩ := h
  obtain ⟨vs', ⟨i, q', i1, i2, ev⟩, hH⟩ := qt t (List.mem_of_getElem? j1)
  have eij : i = j := (List.getElem?_inj (List.getElem?_eq_some_iff.mp i1).1 nd).mp (i1.trans j1.symm)
  subst eij
  obtain rfl : q' = q := Option.some.inj (i2.symm.trans j2)
  rw [ev] at hH
  exact hH
def tSortItems (te : TE) : TE := fun σ H Q => te σ H fun x H1 => rSortItI x H1 Q
variable {e : Expr} {te : TE} {p apos cpos pos : Pos}
theorem pe_sortItems (hc : X.calm = true) (hu : X.A.units + 64 < cLine) (he : PE X e te) (hg : Gl X "sorted") (hm : X.mg "sorted" = none)
    (hv : bootBuiltins "sorted" = some (.builtin "sorted"))
    (hbase : attributeBase e "items" X.env (eval e X.env) = eval e X.env := by rfl) (hline : (apos.endLine == cpos.line) = true := by rfl)
    (hs : starEach [.Call (.Attribute e "items" apos) [] [] cpos] X.env = (false, eval (.Call (.Attribute e "items" apos) [] [] cpos) X.env) :: starEach [] X.env := by rfl) :
    PE X (.Call (.Name "sorted" p) [.Call (.Attribute e "items" apos) [] [] cpos] [] pos) (tSortItems te) := by
  refine ⟨fun pins s σ H Q I hq => ?_⟩
  refine wpAny_Call_Name_kw (ld_blt I hg hm hv ?_)
  refine PyProof.Rows.callWith_builtin1 ?_ hs rfl
  rw [hs]
  show wpAny _ _ (spliced ((false, eval (.Call (.Attribute e "items" apos) [] [] cpos) X.env) :: backTo pos (starEach [] X.env))) _ _ s
  refine Calls.spliced_cons ?_
  refine wpAny_Call_method (T := "dict") (id := "dict.items") hbase rfl hline F.plainAttrs_dict F.slot_dict_items F.type_dict_items
    (thn (he.run pins s σ H _ I hq) fun u s1 ⟨x, H1, I1, rx, d, ps, ex, hd, q⟩ => ?_)
  subst ex
  obtain rfl : u = Value.ref d := rx
  obtain ⟨hz, hs0, vs, kv, hdo⟩ := I1.hok d _ hd
  have I2 : Inv X pins σ H1 { s1 with heap := s1.heap.push { cls := .type "dict_items", data := .fields #[.ref d] } } :=
    I1.kept (t' := s1.toks) fun b ob z => Heap.get?_push_of_some _ z
  refine ⟨hdo.typeIs, hdo.mapOf.noDict, ?_⟩
  show wpAny _ _ (callWith cpos (.builtin "dict.items") [.ref d] [] []) _ X.xe s1
  refine method_meetsIn F.slot_dict_items F.entry_dict_items rfl (PySem.evalArgs_none ⟨rfl, hdo.typeIs, F.args_dict_items_1 _, _, meets_dict_items (mixKind X.prog X.w) d hs0, ⟨vs, hdo⟩, ?_⟩)
  refine Calls.spliced_nil ?_
  exact sort_items_run I2 (I1.ok.hd hc) hu hd ⟨_, Heap.get?_push_size _ rfl, rfl, rfl⟩ q
end
end Gc

/-! match over written texts, with a last case for the rest -/
namespace Gc
open PySem L2
/-- what is wanted of the cases, by the subject's value -/
abbrev TM := V → TS
structure MC (X : Cx) (cs : List MatchCase) (t : TM) : Prop where
  run : ∀ (first : Bool) (pins : List (Addr × Obj)) (s : Shared) (σ : L2.St) (H : Hp) (D : Ends) (x : V) (v : Value),
    Inv X pins σ H s → RelV x v → t x D σ H →
    wpAny (model X.prog X.w) X.A (matchCases cs X.env v first) (fun f s' => SP X pins D f s') X.xe s
def mNil : TM := fun _ D σ H => D.nx σ H
/-- case 'z': .. -/
def mStr (z : Str) (tb : TS) (r : TM) : TM := fun x D σ H => ∃ y, x = .str y ∧ if decide (y = z) = true then tb D σ H else r x D σ H
/-- case _: .. -/
def mAny (tb : TS) : TM := fun _ D σ H => tb D σ H
section
variable {X : Cx} {rest : List MatchCase} {body : List Stmt} {tb : TS} {r : TM} {z : Str} {k : Nat} {p1 p2 pos : Pos} {e : Expr} {te : TE}
theorem mc_nil : MC X [] mNil := ⟨fun _ pins s σ H D x v I _ h => wpAny_matchCases_nil ⟨σ, H, I, h⟩⟩
theorem mc_str (hb : PSs X body tb) (hr : MC X rest r) :
    MC X (⟨.MatchValue (.Constant (.str z) k p1) p2, none, body⟩ :: rest) (mStr z tb r) := by
  refine ⟨fun first pins s σ H D x v I rx h => ?_⟩
  obtain ⟨y, rfl, h⟩ := h
  refine wpAny_matchCases_cons (wpAny_matchPattern_Value ?_)
  have hq : PE X (.Constant (.str z) k p1) (tC (.str z)) := pe_str
  refine wpAny_mono (hq.run pins s σ H (fun w H' => w = .str z ∧ H' = H) I ⟨rfl, rfl⟩) (fun u s1 hu => ?_) fun _ _ q => q
  obtain ⟨w, H1, I1, rw1, rfl, rfl⟩ := hu
  refine wpAny_mono ((op_eq (X := X)) pins s1 σ _ (.str y) (.str z) v u (fun w H' => w = .bl (decide (y = z)) ∧ H' = _) I1 rx rw1 ⟨rfl, ?_, rfl⟩) (fun c s2 hc => ?_) fun _ _ q => q
  · by_cases q : y = z
    · subst q
      rw [decide_eq_true (Eq.refl _), decide_eq_true (Eq.refl _)]
    · rw [decide_eq_false q, decide_eq_false fun e => q (V.str.inj e)]
  · obtain ⟨w, H2, I2, rw2, rfl, rfl⟩ := hc
    obtain rfl : c = Value.bool (decide (y = z)) := rw2
    refine wpAny_pure ?_
    by_cases q : y = z
    · rw [decide_eq_true q] at h ⊢
      show wpAny _ _ (assignInOrder [] []) _ _ _
      refine wpAny_assignInOrder_none ?_
      exact hb.run pins s2 σ _ D I2 h
    · rw [decide_eq_false q] at h ⊢
      exact hr.run false pins s2 σ _ D (.str y) v I2 rx h
theorem mc_any (hb : PSs X body tb) : MC X (⟨.MatchAs none none p2, none, body⟩ :: rest) (mAny tb) := by
  refine ⟨fun first pins s σ H D x v I rx h => ?_⟩
  refine wpAny_matchCases_cons (wpAny_matchPattern_Capture ?_)
  show wpAny _ _ (assignInOrder [] []) _ _ _
  exact wpAny_assignInOrder_none (hb.run pins s σ H D I h)
def tMatch (te : TE) (t : TM) : TS := fun D σ H => te σ H fun x H1 => t x D σ H1
theorem ps_match {cs : List MatchCase} {t : TM} (he : PE X e te) (hc : MC X cs t) : PS X (.Match e cs pos) (tMatch te t) := by
  refine ⟨fun pins s σ H D I h => ?_⟩
  refine wpAny_Match (wpAny_mono (he.run pins s σ H _ I h) (fun v s1 hv => ?_) fun _ _ q => q)
  obtain ⟨x, H1, I1, rx, q⟩ := hv
  exact hc.run true pins s1 σ H1 D x v I1 rx q
end
end Gc

namespace Gc
open PySem PyProof.Rows L2
/-! ### heaps: all that stood but at two places -/
def Keep (a d : Addr) (H H' : Hp) : Prop := ∀ b o, b ≠ a → b ≠ d → H b = some o → H' b = some o
theorem Keep.refl {a d : Addr} (H : Hp) : Keep a d H H := fun _ _ _ _ h => h
theorem Keep.trans {a d : Addr} {H H1 H2 : Hp} (x : Keep a d H H1) (y : Keep a d H1 H2) : Keep a d H H2 := fun b o h1 h2 h => y b o h1 h2 (x b o h1 h2 h)
theorem Keep.of {a d : Addr} {H H' : Hp} (e : Same H H') : Keep a d H H' := fun b o _ _ h => e b o h
theorem same_upd {H H' : Hp} {p : Addr} {o : HO} (e : Same H H') (h : H' p = none) : Same H (upd H' p o) := fun b u hb => by
  rw [upd_ne (ne_of_none (e b u hb) h)]
  exact e b u hb
theorem Keep.upd1 {a d : Addr} {H H' : Hp} {o : HO} (e : Keep a d H H') : Keep a d H (upd H' a o) := fun b u h1 h2 h => by
  rw [upd_ne h1]
  exact e b u h1 h2 h
theorem Keep.upd2 {a d : Addr} {H H' : Hp} {o : HO} (e : Keep a d H H') : Keep a d H (upd H' d o) := fun b u h1 h2 h => by
  rw [upd_ne h2]
  exact e b u h1 h2 h
theorem Keep.new {a d p : Addr} {H H' : Hp} {o : HO} (e : Keep a d H H') (h : H' p = none) : Keep a d H (upd H' p o) := fun b u h1 h2 hb => by
  rw [upd_ne (ne_of_none (e b u h1 h2 hb) h)]
  exact e b u h1 h2 hb

theorem cpow {i j : Int} (h : (decide (0 ≤ j) && (decide (j ≤ 1000000) && decide (i.natAbs < 2 ^ 64))) = true) : CPow i j := by
  rw [Bool.and_eq_true, Bool.and_eq_true] at h
  exact ⟨of_decide_eq_true h.1, of_decide_eq_true h.2.1, of_decide_eq_true h.2.2⟩
theorem pow_small {x : Int} {a k b : Nat} (h : x.natAbs < 2 ^ a) (hb : a * k < b) : (x ^ k).natAbs < 2 ^ b := by
  rw [Int.natAbs_pow]
  have h1 : x.natAbs ^ k ≤ (2 ^ a) ^ k := Nat.pow_le_pow_left (Nat.le_of_lt h) k
  rw [← Nat.pow_mul] at h1
  exact Nat.lt_of_le_of_lt h1 (Nat.pow_lt_pow_right (by decide) hb)
theorem int_at {ns : List Int} {i : Nat} {y : V} (h : (ns.map V.int)[i]? = some y) : ∃ u, y = V.int u := by
  rw [List.getElem?_map] at h
  cases e : ns[i]? with
  | none =>
    rw [e] at h
    cases h
  | some u =>
    rw [e] at h
    exact ⟨u, (Option.some.inj h).symm⟩
theorem dp_ints {K : PySem.W.Frag} {H : Hp} : ∀ ns : List Int, DpAll K H (ns.map V.int) (ns.map PyData.int)
  | [] => .nil
  | x :: r => .cons (.int x) (dp_ints r)
/-- a def that is called by its name and lets nothing out -/
structure Cal (P : Program) (w : World) (K : PySem.W.Frag) (mg : Str → Option Value) (base : Heap) (k : Nat) (x : Str) (sp : Sp) : Prop where
  ex : ∃ (f : Addr) (fd : FuncData) (ps : List Str), FnOk P w K mg base CX0 k f fd ps sp ∧
    mg x = some (.ref f) ∧ PySem.W.keepIn K (.ref f) = true ∧ Binds K fd ps []
theorem pe_cal {X : Cx} {k j : Nat} {x : Str} {sp : Sp} {p pos : Pos} {e : Expr} {es : List Expr} {t : TA}
    (c : Cal X.prog X.w X.K X.mg X.base k x sp) (hr : Room j X.A) (hk : k ≤ j) (hg : Gl X x) (ha : PA X (e :: es) t)
    (hdb : (x == ("__debug__" : Str)) = false := by decide)
    (he : starEach (e :: es) X.env = (false, eval e X.env) :: starEach es X.env := by rfl)
    (hpl : (backTo pos (starEach es X.env)).any (·.1) = false := by rfl) :
    PE X (.Call (.Name x p) (e :: es) [] pos) (tCall sp [] E0 t) := by
  obtain ⟨f, fd, ps, F, hm, kp, b⟩ := c.ex
  exact pe_call F (hr.mono hk) hg hm kp b .nil pass0 ha hdb he hpl

/-! ### data carried along -/
theorem seq_t {K : PySem.W.Frag} {H H' : Hp} {a : Addr} {xs : List V} (e : Same H H') (h : SqT K H a xs) : SqT K H' a xs := by
  rcases h with (h | ⟨o, h⟩) | h
  · exact .inl (.inl (e _ _ h))
  · exact .inl (.inr ⟨o, e _ _ h⟩)
  · exact .inr h
mutual
theorem dp_same {K : PySem.W.Frag} {H H' : Hp} (e : Same H H') : ∀ (d : PyData) (v : V), Dp K H v d → Dp K H' v d
  | .none, _, h => by cases h; exact .non
  | .bool b, _, h => by cases h; exact .bl b
  | .int i, _, h => by cases h; exact .int i
  | .str x, _, h => by cases h; exact .str x
  | .list ds, _, h => by
    cases h with
    | lst q r => exact .lst (e.seq q) (dps_same e ds _ r)
  | .tuple ds, _, h => by
    cases h with
    | tup q r => exact .tup (seq_t e q) (dps_same e ds _ r)
  | .dict _, _, h => by cases h
theorem dps_same {K : PySem.W.Frag} {H H' : Hp} (e : Same H H') : ∀ (ds : List PyData) (vs : List V), DpAll K H vs ds → DpAll K H' vs ds
  | [], _, h => by cases h; exact .nil
  | d :: ds, _, h => by
    cases h with
    | cons a b => exact .cons (dp_same e d _ a) (dps_same e ds _ b)
end
theorem dps_len {K : PySem.W.Frag} {H : Hp} : ∀ {vs : List V} {ds : List PyData}, DpAll K H vs ds → vs.length = ds.length
  | [], _, h => by cases h; rfl
  | _ :: vs, _, h => by
    cases h with
    | cons a b => rw [List.length_cons, List.length_cons, dps_len b]
theorem dps_at {K : PySem.W.Frag} {H : Hp} : ∀ {vs : List V} {ds : List PyData} {i : Nat}, DpAll K H vs ds → i < ds.length → ∃ v d, vs[i]? = some v ∧ ds[i]? = some d ∧ Dp K H v d
  | _, _, 0, h, l => by
    cases h with
    | nil => exact absurd l (by decide)
    | cons a b => exact ⟨_, _, rfl, rfl, a⟩
  | _, _, i + 1, h, l => by
    cases h with
    | nil => exact absurd l (Nat.not_lt_zero _)
    | cons a b => exact dps_at (i := i) b (Nat.lt_of_succ_lt_succ l)
theorem depth_at : ∀ {ds : List PyData} {i : Nat} {d : PyData}, ds[i]? = some d → d.depth ≤ PyData.depthAll ds
  | [], i, d, h => by simp at h
  | x :: r, 0, d, h => by
    have e : x = d := Option.some.inj h
    subst e
    simp only [PyData.depthAll]
    exact Nat.le_max_left _ _
  | x :: r, i + 1, d, h => by
    have ih := depth_at (ds := r) (i := i) (d := d) h
    simp only [PyData.depthAll]
    exact Nat.le_trans ih (Nat.le_max_right _ _)
theorem ty_l {K : PySem.W.Frag} {H : Hp} {a : Addr} {xs : List V} (h : SqL K H a xs) : TyX K H (.ref a) (.type "list") := by
  rcases h with (h | ⟨o, h⟩) | h
  · exact .base (.lst h)
  · exact .base (.frz h)
  · obtain ⟨o, its, n, e, c, _⟩ := h
    exact .kList e c
theorem ty_t {K : PySem.W.Frag} {H : Hp} {a : Addr} {xs : List V} (h : SqT K H a xs) : TyX K H (.ref a) (.type "tuple") := by
  rcases h with (h | ⟨o, h⟩) | h
  · exact .base (.tup h)
  · exact .fTuple h
  · obtain ⟨o, its, n, e, c, _⟩ := h
    exact .kTuple e c
theorem isi_q {K : PySem.W.Frag} {H : Hp} {x : V} {t n : String} {b : Bool} {Q : VK} (ty : TyX K H x (.type t)) (k : kitB t n = some b) (q : Q (.bl b) H) : rIsi K [x, .ty n] H Q :=
  ⟨x, .ty n, .type t, .type n, b, rfl, .ty n, ty, kit_ty k, q⟩
theorem log9 {x : Int} {a : Nat} (h : x.natAbs < 2 ^ a) (ha : a < 9000) : x.natAbs.log2 < 9000 :=
  Nat.lt_of_le_of_lt (Nat.le_of_lt_succ (PySem.Flt.log2_lt_of (k := a + 1) (Nat.succ_pos _) (Nat.lt_trans h (Nat.pow_lt_pow_right (by decide) (Nat.lt_succ_self a))))) ha
/-- a power of any whole number, its size told -/
def CPowW (i j : Int) : Prop := 0 ≤ j ∧ j ≤ 64 ∧ i.natAbs.log2 < 100000
theorem op_powW {X : Cx} : OpR X (binaryOp .Pow) (rI CPowW fun i j => .int (i ^ j.toNat)) := opI fun i j _ _ _ _ _ hc q => by
  refine pow_int hc.1 ?_ q
  have h1 : Builtin.Int.intBits i ≤ i.natAbs.log2 + 1 := by
    unfold Builtin.Int.intBits
    split <;> omega
  have h2 := hc.2.1
  have h3 := hc.2.2
  have h4 : (Builtin.Int.intBits i : Int) ≤ 100000 := by omega
  calc (Builtin.Int.intBits i : Int) * j ≤ 100000 * 64 := Int.mul_le_mul h4 h2 hc.1 (by decide)
    _ ≤ 2 ^ 27 := by decide
theorem cpowW {i j : Int} {a : Nat} (hj : 0 ≤ j) (hj2 : j ≤ 64) (h : i.natAbs < 2 ^ a) (ha : a < 100000) : CPowW i j :=
  ⟨hj, hj2, Nat.lt_of_le_of_lt (Nat.le_of_lt_succ (PySem.Flt.log2_lt_of (k := a + 1) (Nat.succ_pos _) (Nat.lt_trans h (Nat.pow_lt_pow_right (by decide) (Nat.lt_succ_self a))))) ha⟩
def rLenQ (K : PySem.W.Frag) : List V → Hp → VK → Prop := fun xs H Q => ∃ p ys, xs = [.ref p] ∧ (SqL K H p ys ∨ SqT K H p ys) ∧ Q (.int ys.length) H
end Gc

namespace Gc
open PySem PyProof.Rows L2
/-! ### commands as tuples -/
def encC : Cmd → List V
  | .down n => [.str "down", .int n]
  | .up n => [.str "up", .int n]
  | .right n => [.str "right", .int n]
  | .left n => [.str "left", .int n]
  | .home => [.str "home"]
  | .stop => [.str "end"]
def CmdAt (K : PySem.W.Frag) (H : Hp) (v : V) (c : Cmd) : Prop := ∃ a, v = .ref a ∧ SqT K H a (encC c)
def CmdsOf (K : PySem.W.Frag) (H : Hp) (xs : List V) (cs : List Cmd) : Prop := Paired (CmdAt K H) xs cs
theorem CmdAt.same {K : PySem.W.Frag} {H H' : Hp} {v : V} {c : Cmd} (e : Same H H') (h : CmdAt K H v c) : CmdAt K H' v c := by
  obtain ⟨a, e1, h1⟩ := h
  exact ⟨a, e1, seq_t e h1⟩
theorem CmdsOf.same {K : PySem.W.Frag} {H H' : Hp} {xs : List V} {cs : List Cmd} (e : Same H H') (h : CmdsOf K H xs cs) : CmdsOf K H' xs cs := Paired.mapP h fun _ _ q => q.same e
theorem CmdsOf.len {K : PySem.W.Frag} {H : Hp} {xs : List V} {cs : List Cmd} (h : CmdsOf K H xs cs) : xs.length = cs.length := Paired.length h
theorem paired_at {α β : Type} {F : α → β → Prop} : ∀ {xs : List α} {ys : List β} {i : Nat} {x : α}, Paired F xs ys → xs[i]? = some x → ∃ y, ys[i]? = some y ∧ F x y
  | _, _, _, _, .nil, h => by simp at h
  | _, _, 0, x, .cons f _, h => by
    obtain rfl := Option.some.inj h
    exact ⟨_, rfl, f⟩
  | _, _, i + 1, x, .cons _ t, h => paired_at (i := i) t h
/-! ### dicts of ints by ints -/
theorem valV_dkI : ∀ (b : Ps) (k : Int), valV (dkI b) (Sum.inl k : L2.Key) = (look b k).map V.int
  | [], k => rfl
  | q :: b, k => by
    show valV (((Sum.inl q.1 : L2.Key), V.int q.2) :: dkI b) (Sum.inl k : L2.Key) = _
    rw [look_cons]
    by_cases h : q.1 = k
    · rw [if_pos h, valV_pos (by show (Sum.inl q.1 : L2.Key) = Sum.inl k; rw [h])]
      rfl
    · rw [if_neg h, valV_neg (by intro z; exact h (Sum.inl.inj z))]
      exact valV_dkI b k
theorem putK_dkI (b : Ps) (k v : Int) : putK (dkI b) (Sum.inl k : L2.Key) (V.int v) = dkI (put b k v) := by
  have ea : ((dkI b).any fun kv => decide (kv.1 = (Sum.inl k : L2.Key))) = b.any fun q => decide (q.1 = k) := by
    unfold dkI
    rw [List.any_map]
    congr 1
    funext q
    show decide ((Sum.inl q.1 : L2.Key) = Sum.inl k) = decide (q.1 = k)
    exact decide_eq_decide.mpr ⟨Sum.inl.inj, fun h => by rw [h]⟩
  unfold putK put
  rw [ea]
  by_cases h : (b.any fun q => decide (q.1 = k)) = true
  · rw [if_pos h, if_pos h]
    unfold dkI
    rw [List.map_map, List.map_map]
    refine List.map_congr_left fun q _ => ?_
    show (if (Sum.inl q.1 : L2.Key) = Sum.inl k then ((Sum.inl q.1 : L2.Key), V.int v) else (Sum.inl q.1, V.int q.2)) = (Sum.inl (if q.1 = k then (q.1, v) else q).1, V.int (if q.1 = k then (q.1, v) else q).2)
    by_cases e : q.1 = k
    · rw [if_pos e, if_pos (by rw [e])]
    · rw [if_neg e, if_neg fun z => e (Sum.inl.inj z)]
  · rw [if_neg h, if_neg h]
    unfold dkI
    rw [List.map_append]
    rfl
theorem put_len (b : Ps) (k v : Int) : (put b k v).length ≤ b.length + 1 := by
  unfold put
  split
  · rw [List.length_map]
    exact Nat.le_succ _
  · rw [List.length_append]
    exact Nat.le_refl _
theorem req_len (b : Ps) (o v : Int) : (req b o v).length ≤ b.length + 1 := put_len b o _
end Gc

/-! running commands over plain texts: the goal is reached exactly if the box is fulfilled -/
namespace Gc
def seen (t : Int) : Option Int → Int
  | none => t
  | some a => min a t
/-- the goal of the cursor after one command in a row of length t -/
def aim1 (t : Int) (a : Option Int) : Cmd → Option Int
  | .down _ => a
  | .up _ => a
  | .right n => some (min (seen t a + n) t)
  | .left n => some (max 0 (seen t a - n))
  | .home => some 0
  | .stop => none
def aimF (T : Int → Int) : Int → Option Int → List Cmd → Option Int
  | _, a, [] => a
  | r, a, c :: cs => aimF T (r + c.dv) (aim1 (T r) a c) cs
theorem aimF_app (T : Int → Int) : ∀ (xs ys : List Cmd) (r : Int) (a : Option Int), aimF T r a (xs ++ ys) = aimF T (r + last xs) (aimF T r a xs) ys
  | [], ys, r, a => by
    show aimF T r a ys = aimF T (r + 0) a ys
    rw [Int.add_zero]
  | c :: xs, ys, r, a => by
    show aimF T (r + c.dv) (aim1 (T r) a c) (xs ++ ys) = aimF T (r + (c.dv + last xs)) _ ys
    rw [aimF_app T xs ys, Int.add_assoc]
    rfl
theorem aimF_snoc (T : Int → Int) (cs : List Cmd) (c : Cmd) (r : Int) (a : Option Int) : aimF T r a (cs ++ [c]) = aim1 (T (r + last cs)) (aimF T r a cs) c := aimF_app T cs [c] r a
def ge (a : Option Int) (n : Int) : Prop := ∀ x, a = some x → n ≤ x
theorem ge_none (n : Int) : ge none n := fun _ h => nomatch h
theorem ge_some {x n : Int} : ge (some x) n ↔ n ≤ x := ⟨fun h => h x rfl, fun h y e => by rw [← Option.some.inj e]; exact h⟩
theorem seen_ge {t n : Int} {a : Option Int} : n ≤ seen t a ↔ n ≤ t ∧ ge a n := by
  cases a with
  | none => exact ⟨fun h => ⟨h, ge_none n⟩, fun h => h.1⟩
  | some x =>
    rw [ge_some]
    show n ≤ min x t ↔ _
    omega
theorem aim1_nn {t : Int} {a : Option Int} {c : Cmd} (ht : 0 ≤ t) (ha : ge a 0) (ok : c.ok) : ge (aim1 t a c) 0 := by
  have hs : 0 ≤ seen t a := seen_ge.mpr ⟨ht, ha⟩
  cases c with
  | down n => exact ha
  | up n => exact ha
  | right n =>
    have o : 1 ≤ n := ok
    refine ge_some.mpr ?_
    omega
  | left n =>
    refine ge_some.mpr ?_
    omega
  | home => exact ge_some.mpr (Int.le_refl 0)
  | stop => exact ge_none 0
theorem aimF_nn {T : Int → Int} (hT : ∀ k, 0 ≤ T k) : ∀ {cs : List Cmd} {r : Int} {a : Option Int}, AllOk cs → ge a 0 → ge (aimF T r a cs) 0
  | [], _, _, _, h => h
  | c :: cs, r, a, ok, h => aimF_nn hT (cs := cs) (fun d hd => ok d (List.mem_cons_of_mem _ hd)) (aim1_nn (hT r) h (ok c List.mem_cons_self))
theorem last_snoc (cs : List Cmd) (c : Cmd) : last (cs ++ [c]) = last cs + c.dv := by
  rw [last_app]
  show _ + (c.dv + 0) = _
  omega
theorem reqF_le {f : Int → Int} {o v : Int} {T : Int → Int} {r : Int} : (∀ k, reqF f o v k ≤ T (r + k)) ↔ (∀ k, f k ≤ T (r + k)) ∧ v ≤ T (r + o) := by
  constructor
  · intro h
    refine ⟨fun k => Int.le_trans (reqF_ge f o v k) (h k), ?_⟩
    have := h o
    unfold reqF at this
    rw [if_pos rfl] at this
    omega
  · rintro ⟨h1, h2⟩ k
    unfold reqF
    have := h1 k
    split
    · rename_i e
      subst e
      omega
    · exact this
/-- the box's walk, and the run -/
theorem go_char {T : Int → Int} (hT : ∀ k, 0 ≤ T k) {r : Int} {a : Option Int} (ha : ge a 0) : ∀ (rs : List Cmd) (need : Int) (f : Int → Int), AllOk rs → 1 ≤ need →
    ((∃ st g, goF rs (last rs.reverse) need f = some (st, g) ∧ (∀ n, st = some n → ge a n) ∧ ∀ k, g k ≤ T (r + k)) ↔ (∀ k, f k ≤ T (r + k)) ∧ ge (aimF T r a rs.reverse) need)
  | [], need, f, _, _ => by
    constructor
    · rintro ⟨st, g, e, h1, h2⟩
      cases e
      exact ⟨h2, h1 need rfl⟩
    · rintro ⟨h1, h2⟩
      exact ⟨_, _, rfl, fun n e => by rw [← Option.some.inj e]; exact h2, h1⟩
  | .home :: rs, need, f, ok, hn => by
    rw [List.reverse_cons, aimF_snoc]
    constructor
    · rintro ⟨st, g, e, _⟩
      cases e
    · rintro ⟨_, h2⟩
      have : need ≤ 0 := ge_some.mp h2
      omega
  | .stop :: rs, need, f, ok, hn => by
    rw [List.reverse_cons, aimF_snoc]
    constructor
    · rintro ⟨st, g, e, _, h2⟩
      cases e
      exact ⟨h2, ge_none _⟩
    · rintro ⟨h1, _⟩
      exact ⟨_, _, rfl, (fun n e => nomatch e), h1⟩
  | .down n :: rs, need, f, ok, hn => by
    rw [List.reverse_cons, aimF_snoc, last_snoc]
    have ih := go_char hT (r := r) ha rs need f (fun d hd => ok d (List.mem_cons_of_mem _ hd)) hn
    have e : last rs.reverse + (Cmd.down n).dv - n = last rs.reverse := by
      show last rs.reverse + n - n = _
      omega
    simp only [goF]
    rw [e]
    exact ih
  | .up n :: rs, need, f, ok, hn => by
    rw [List.reverse_cons, aimF_snoc, last_snoc]
    have ih := go_char hT (r := r) ha rs need f (fun d hd => ok d (List.mem_cons_of_mem _ hd)) hn
    have e : last rs.reverse + (Cmd.up n).dv + n = last rs.reverse := by
      show last rs.reverse + -n + n = _
      omega
    simp only [goF]
    rw [e]
    exact ih
  | .left n :: rs, need, f, ok, hn => by
    have o : 1 ≤ n := ok _ List.mem_cons_self
    rw [List.reverse_cons, aimF_snoc, last_snoc]
    have ih := go_char hT (r := r) ha rs (need + n) (reqF f (last rs.reverse) (need + n)) (fun d hd => ok d (List.mem_cons_of_mem _ hd)) (by omega)
    have e : last rs.reverse + (Cmd.left n).dv = last rs.reverse := Int.add_zero _
    simp only [goF]
    rw [e, ih, reqF_le]
    have s : ge (aim1 (T (r + last rs.reverse)) (aimF T r a rs.reverse) (.left n)) need ↔ need + n ≤ T (r + last rs.reverse) ∧ ge (aimF T r a rs.reverse) (need + n) := by
      rw [← seen_ge]
      show ge (some _) need ↔ _
      rw [ge_some]
      omega
    rw [s]
    exact ⟨fun h => ⟨h.1.1, h.1.2, h.2⟩, fun h => ⟨⟨h.1, h.2.1⟩, h.2.2⟩⟩
  | .right n :: rs, need, f, ok, hn => by
    have o : 1 ≤ n := ok _ List.mem_cons_self
    have okr : AllOk rs := fun d hd => ok d (List.mem_cons_of_mem _ hd)
    rw [List.reverse_cons, aimF_snoc, last_snoc]
    have e : last rs.reverse + (Cmd.right n).dv = last rs.reverse := Int.add_zero _
    have nn : 0 ≤ seen (T (r + last rs.reverse)) (aimF T r a rs.reverse) := seen_ge.mpr ⟨hT _, aimF_nn hT (fun d hd => okr d (List.mem_reverse.mp hd)) ha⟩
    simp only [goF]
    rw [e]
    have s : ge (aim1 (T (r + last rs.reverse)) (aimF T r a rs.reverse) (.right n)) need ↔ need ≤ T (r + last rs.reverse) ∧ need - n ≤ seen (T (r + last rs.reverse)) (aimF T r a rs.reverse) := by
      show ge (some _) need ↔ _
      rw [ge_some]
      omega
    rw [s]
    by_cases c : need > n
    · rw [if_pos c]
      have ih := go_char hT (r := r) ha rs (need - n) (reqF f (last rs.reverse) need) okr (by omega)
      rw [ih, reqF_le, seen_ge]
      exact ⟨fun h => ⟨h.1.1, h.1.2, by omega, h.2⟩, fun h => ⟨⟨h.1, h.2.1⟩, h.2.2.2⟩⟩
    · rw [if_neg c]
      constructor
      · rintro ⟨st, g, e, _, h2⟩
        cases e
        have h3 := reqF_le.mp h2
        exact ⟨h3.1, h3.2, by omega⟩
      · rintro ⟨h1, h2, _⟩
        exact ⟨_, _, rfl, (fun n e => nomatch e), reqF_le.mpr ⟨h1, h2⟩⟩
/-- the goal is reached exactly if the start fulfils the box -/
theorem box_char {T : Int → Int} (hT : ∀ k, 0 ≤ T k) {r : Int} {a : Option Int} (ha : ge a 0) {cs : List Cmd} {goal : Int} (ok : AllOk cs) (hg : 1 ≤ goal) :
    ge (aimF T r a cs) goal ↔ ∃ st L, boxM cs goal = some (st, L) ∧ (∀ n, st = some n → ge a n) ∧ ∀ k, val L k ≤ T (r + k) := by
  have h := go_char hT (r := r) ha cs.reverse goal (fun _ => 0) (allOk_rev ok) hg
  rw [List.reverse_reverse] at h
  have h0 : (∀ k : Int, (fun _ : Int => (0 : Int)) k ≤ T (r + k)) := fun k => hT _
  have h' : (∃ st g, boxF cs goal = some (st, g) ∧ (∀ n, st = some n → ge a n) ∧ ∀ k, g k ≤ T (r + k)) ↔ ge (aimF T r a cs) goal := h.trans ⟨fun x => x.2, fun x => ⟨h0, x⟩⟩
  rw [← h']
  rcases box_spec ok hg with ⟨e1, e2⟩ | ⟨st, b, e1, gb, e2, _⟩
  · rw [e1, e2]
    constructor
    · rintro ⟨_, _, z, _⟩
      cases z
    · rintro ⟨_, _, z, _⟩
      cases z
  · rw [e1, e2]
    have vp := val_perm gb (List.mergeSort_perm b leK)
    constructor
    · rintro ⟨st', g, z, h1, h2⟩
      cases z
      exact ⟨_, _, rfl, h1, fun k => by rw [vp]; exact h2 k⟩
    · rintro ⟨st', L, z, h1, h2⟩
      cases z
      exact ⟨_, _, rfl, h1, fun k => by rw [← vp]; exact h2 k⟩
end Gc

/-! rows that are visited; the least text -/
namespace Gc
def Within (cs : List Cmd) (lo hi : Int) : Prop := ∀ i, lo ≤ last (cs.take i) ∧ last (cs.take i) ≤ hi
theorem Within.tail {c : Cmd} {cs : List Cmd} {lo hi : Int} (h : Within (c :: cs) lo hi) : Within cs (lo - c.dv) (hi - c.dv) := fun i => by
  have q := h (i + 1)
  have e : last ((c :: cs).take (i + 1)) = c.dv + last (cs.take i) := rfl
  rw [e] at q
  omega
theorem Within.init {cs : List Cmd} {c : Cmd} {lo hi : Int} (h : Within (cs ++ [c]) lo hi) : Within cs lo hi := fun i => by
  by_cases l : i ≤ cs.length
  · have q := h i
    rw [List.take_append_of_le_length l] at q
    exact q
  · have q := h cs.length
    rw [List.take_append_of_le_length (Nat.le_refl _)] at q
    rw [List.take_of_length_le (by omega)]
    rw [List.take_length] at q
    exact q
theorem Within.whole {cs : List Cmd} {lo hi : Int} (h : Within cs lo hi) : lo ≤ last cs ∧ last cs ≤ hi := by
  have q := h cs.length
  rw [List.take_length] at q
  exact q
theorem Within.zero {cs : List Cmd} {lo hi : Int} (h : Within cs lo hi) : lo ≤ 0 ∧ 0 ≤ hi := h 0
theorem keys_req' {b : Ps} {o v k : Int} (h : k ∈ keys (req b o v)) : k = o ∨ k ∈ keys b := by
  unfold req at h
  rw [keys_put] at h
  split at h
  · exact .inr h
  · rcases List.mem_append.mp h with q | q
    · exact .inr q
    · exact .inl (List.mem_singleton.mp q)
/-- the offsets of a box are rows that are visited -/
theorem go_within {lo hi : Int} : ∀ {rs : List Cmd} {need : Int} {b : Ps} {st : Option Int} {b' : Ps}, go rs (last rs.reverse) need b = some (st, b') → Within rs.reverse lo hi → (∀ k ∈ keys b, lo ≤ k ∧ k ≤ hi) → ∀ k ∈ keys b', lo ≤ k ∧ k ≤ hi
  | [], need, b, st, b', h, _, hb => by cases h; exact hb
  | .home :: rs, need, b, st, b', h, _, _ => by cases h
  | .stop :: rs, need, b, st, b', h, _, hb => by cases h; exact hb
  | .down n :: rs, need, b, st, b', h, w, hb => by
    rw [List.reverse_cons] at h w
    rw [last_snoc] at h
    have e : last rs.reverse + (Cmd.down n).dv - n = last rs.reverse := by
      show last rs.reverse + n - n = _
      omega
    simp only [go] at h
    rw [e] at h
    exact go_within h w.init hb
  | .up n :: rs, need, b, st, b', h, w, hb => by
    rw [List.reverse_cons] at h w
    rw [last_snoc] at h
    have e : last rs.reverse + (Cmd.up n).dv + n = last rs.reverse := by
      show last rs.reverse + -n + n = _
      omega
    simp only [go] at h
    rw [e] at h
    exact go_within h w.init hb
  | .left n :: rs, need, b, st, b', h, w, hb => by
    rw [List.reverse_cons] at h w
    rw [last_snoc, show last rs.reverse + (Cmd.left n).dv = last rs.reverse from Int.add_zero _] at h
    simp only [go] at h
    refine go_within h w.init fun k hk => ?_
    rcases keys_req' hk with q | q
    · rw [q]
      exact w.init.whole
    · exact hb k q
  | .right n :: rs, need, b, st, b', h, w, hb => by
    rw [List.reverse_cons] at h w
    rw [last_snoc, show last rs.reverse + (Cmd.right n).dv = last rs.reverse from Int.add_zero _] at h
    have hr : ∀ k ∈ keys (req b (last rs.reverse) need), lo ≤ k ∧ k ≤ hi := fun k hk => by
      rcases keys_req' hk with q | q
      · rw [q]
        exact w.init.whole
      · exact hb k q
    simp only [go] at h
    split at h
    · exact go_within h w.init hr
    · cases h
      exact hr
theorem box_within {lo hi : Int} {cs : List Cmd} {goal : Int} {st : Option Int} {L : Ps} (h : boxM cs goal = some (st, L)) (w : Within cs lo hi) : ∀ q ∈ L, lo ≤ q.1 ∧ q.1 ≤ hi := by
  unfold boxM at h
  cases e : go cs.reverse (last cs) goal [] with
  | none =>
    rw [e] at h
    cases h
  | some x =>
    rw [e] at h
    obtain ⟨st', b'⟩ := x
    have h' : (st', b'.mergeSort leK) = (st, L) := Option.some.inj h
    cases h'
    have k := go_within (rs := cs.reverse) (lo := lo) (hi := hi) (by rw [List.reverse_reverse]; exact e) (by rw [List.reverse_reverse]; exact w) (fun k hk => by cases hk)
    intro q hq
    exact k q.1 (List.mem_map.mpr ⟨q, (List.mergeSort_perm b' leK).mem_iff.mp hq, rfl⟩)
/-! ### a text from a box -/
def setAll (lo : Int) (T : List Int) (L : Ps) : List Int := L.foldl (fun T q => T.set (q.1 - lo).toNat q.2) T
theorem setAll_len (lo : Int) : ∀ (L : Ps) (T : List Int), (setAll lo T L).length = T.length
  | [], _ => rfl
  | q :: L, T => by
    show (setAll lo (T.set (q.1 - lo).toNat q.2) L).length = _
    rw [setAll_len lo L, List.length_set]
theorem setAll_get {lo : Int} : ∀ {L : Ps} {T : List Int} {k : Int}, (keys L).Nodup → (∀ q ∈ L, lo ≤ q.1 ∧ q.1 - lo < T.length) → lo ≤ k → k - lo < T.length →
    (setAll lo T L).getD (k - lo).toNat 0 = match look L k with | some v => v | none => T.getD (k - lo).toNat 0
  | [], T, k, _, _, _, _ => rfl
  | q :: L, T, k, nd, hq, h0, h1 => by
    have nd' : q.1 ∉ keys L ∧ (keys L).Nodup := List.nodup_cons.mp nd
    have q0 := hq q List.mem_cons_self
    show (setAll lo (T.set (q.1 - lo).toNat q.2) L).getD (k - lo).toNat 0 = _
    rw [setAll_get (L := L) nd'.2 (fun p hp => by rw [List.length_set]; exact hq p (List.mem_cons_of_mem _ hp)) h0 (by rw [List.length_set]; exact h1), look_cons]
    by_cases e : q.1 = k
    · subst e
      rw [if_pos rfl, look_none.mpr nd'.1]
      show (T.set (q.1 - lo).toNat q.2).getD (q.1 - lo).toNat 0 = q.2
      rw [List.getD_eq_getElem?_getD, List.getElem?_set_self (by omega)]
      rfl
    · rw [if_neg e]
      cases look L k with
      | some v => rfl
      | none =>
        show (T.set (q.1 - lo).toNat q.2).getD (k - lo).toNat 0 = T.getD (k - lo).toNat 0
        rw [List.getD_eq_getElem?_getD, List.getD_eq_getElem?_getD, List.getElem?_set_ne (by omega)]
/-! ### the run over a list of lengths -/
def lenAt (T : List Int) (r : Int) : Int := T.getD r.toNat 0
/-- the run over a text: the row must stand -/
def afterL (T : List Int) : Int → Option Int → List Cmd → Option (Int × Option Int)
  | r, a, [] => some (r, a)
  | r, a, c :: cs => if c.vert = true then (if 0 ≤ r + c.dv ∧ r + c.dv < T.length then afterL T (r + c.dv) a cs else none) else afterL T r (aim1 (lenAt T r) a c) cs
theorem Within.le {cs : List Cmd} {lo hi lo' hi' : Int} (h : Within cs lo hi) (h1 : lo' ≤ lo) (h2 : hi ≤ hi') : Within cs lo' hi' := fun i => by
  have := h i
  omega
theorem afterL_in {T : List Int} : ∀ {cs : List Cmd} {r : Int} {a : Option Int}, Within cs (-r) (T.length - 1 - r) → afterL T r a cs = some (r + last cs, aimF (lenAt T) r a cs)
  | [], r, a, _ => by
    show some (r, a) = some (r + 0, a)
    rw [Int.add_zero]
  | c :: cs, r, a, w => by
    have w1 := w 1
    have e1 : last ((c :: cs).take 1) = c.dv + 0 := rfl
    rw [e1] at w1
    have wt : Within cs (-(r + c.dv)) (T.length - 1 - (r + c.dv)) := w.tail.le (by omega) (by omega)
    have ih := afterL_in (a := aim1 (lenAt T r) a c) wt
    have el : last (c :: cs) = c.dv + last cs := rfl
    have ea : aimF (lenAt T) r a (c :: cs) = aimF (lenAt T) (r + c.dv) (aim1 (lenAt T r) a c) cs := rfl
    rw [ea, el, ← Int.add_assoc]
    by_cases v : c.vert = true
    · have ia : aim1 (lenAt T r) a c = a := by
        cases c with
        | down n => rfl
        | up n => rfl
        | right n => cases v
        | left n => cases v
        | home => cases v
        | stop => cases v
      rw [ia] at ih ⊢
      simp only [afterL]
      rw [if_pos v, if_pos ⟨by omega, by omega⟩, ih]
    · have d0 : c.dv = 0 := by
        cases c with
        | down n => exact absurd rfl v
        | up n => exact absurd rfl v
        | right n => rfl
        | left n => rfl
        | home => rfl
        | stop => rfl
      simp only [afterL]
      rw [if_neg v]
      rw [d0, Int.add_zero] at ih ⊢
      exact ih
theorem lenAt_nn {T : List Int} (h : ∀ x ∈ T, 0 ≤ x) (r : Int) : 0 ≤ lenAt T r := by
  unfold lenAt
  rw [List.getD_eq_getElem?_getD]
  cases e : T[r.toNat]? with
  | none => exact Int.le_refl 0
  | some x => exact h x (List.mem_of_getElem? e)
/-- over a text whose rows are all there: the goal is reached exactly if the box is fulfilled -/
theorem after_char {T : List Int} (hT : ∀ x ∈ T, 0 ≤ x) {r : Int} {a : Option Int} (ha : ge a 0) {cs : List Cmd} {goal : Int} (ok : AllOk cs) (hg : 1 ≤ goal) (w : Within cs (-r) (T.length - 1 - r)) :
    ∃ a', afterL T r a cs = some (r + last cs, a') ∧ ge a' 0 ∧ (ge a' goal ↔ ∃ st L, boxM cs goal = some (st, L) ∧ (∀ n, st = some n → ge a n) ∧ ∀ k, val L k ≤ lenAt T (r + k)) :=
  ⟨_, afterL_in w, aimF_nn (lenAt_nn hT) ok ha, box_char (lenAt_nn hT) ha ok hg⟩
/-! ### the least text -/
def textM (lo hi : Int) (L : Ps) : List Int := setAll lo (List.replicate (hi - lo + 1).toNat 0) L
theorem textM_len {lo hi : Int} (h : lo ≤ hi) (L : Ps) : ((textM lo hi L).length : Int) = hi - lo + 1 := by
  unfold textM
  rw [setAll_len, List.length_replicate]
  omega
theorem textM_at {lo hi : Int} {L : Ps} (g : Good L) (hL : ∀ q ∈ L, lo ≤ q.1 ∧ q.1 ≤ hi) {k : Int} (h0 : lo ≤ k) (h1 : k ≤ hi) : lenAt (textM lo hi L) (k - lo) = val L k := by
  unfold lenAt textM
  have hr : ((List.replicate (hi - lo + 1).toNat (0 : Int)).length : Int) = hi - lo + 1 := by
    rw [List.length_replicate]
    omega
  rw [setAll_get g.nd (fun q hq => by have := hL q hq; omega) h0 (by omega)]
  unfold val
  cases look L k with
  | some v => rfl
  | none =>
    show (List.replicate _ (0 : Int)).getD _ 0 = 0
    rw [List.getD_eq_getElem?_getD, List.getElem?_replicate]
    split <;> rfl
theorem val_off {lo hi : Int} {L : Ps} (hL : ∀ q ∈ L, lo ≤ q.1 ∧ q.1 ≤ hi) {k : Int} (h : ¬ (lo ≤ k ∧ k ≤ hi)) : val L k = 0 := by
  refine val_out fun z => ?_
  obtain ⟨q, hq, e⟩ := List.mem_map.mp z
  rw [← e] at h
  exact h (hL q hq)
theorem textM_nn {lo hi : Int} {L : Ps} (g : Good L) (hL : ∀ q ∈ L, lo ≤ q.1 ∧ q.1 ≤ hi) : ∀ x ∈ textM lo hi L, 0 ≤ x := by
  intro x hx
  obtain ⟨i, hi'⟩ := List.mem_iff_getElem?.mp hx
  have l := (List.getElem?_eq_some_iff.mp hi').1
  have l2 : (textM lo hi L).length = (hi - lo + 1).toNat := by
    unfold textM
    rw [setAll_len, List.length_replicate]
  have e := textM_at g hL (k := i + lo) (by omega) (by omega)
  unfold lenAt at e
  rw [show ((i : Int) + lo - lo).toNat = i by omega, List.getD_eq_getElem?_getD, hi'] at e
  have e' : x = val L (i + lo) := e
  rw [e']
  exact val_nonneg g _
section
variable {cs : List Cmd} {goal lo hi : Int} {st : Option Int} {L : Ps}
/-- from it, and just its goal, the goal is reached -/
theorem least_gets (g : Good L) (w : Within cs lo hi) (ok : AllOk cs) (hg : 1 ≤ goal) (e : boxM cs goal = some (st, L)) (pos : ∀ n, st = some n → 1 ≤ n) :
    ∃ a', afterL (textM lo hi L) (-lo) (some (st.getD 0)) cs = some (-lo + last cs, a') ∧ ge a' goal := by
  have hL := box_within e w
  have z := w.zero
  have tl := textM_len (lo := lo) (hi := hi) (by omega) L
  have a0 : ge (some (st.getD 0)) 0 := ge_some.mpr (by
    cases st with
    | none => exact Int.le_refl 0
    | some n =>
      have := pos n rfl
      show 0 ≤ n
      omega)
  obtain ⟨a', h1, _, h2⟩ := after_char (textM_nn g hL) a0 ok hg (w.le (show -(-lo) ≤ lo by omega) (show hi ≤ (textM lo hi L).length - 1 - (-lo) by omega))
  refine ⟨a', h1, h2.mpr ⟨st, L, e, fun n en => ge_some.mpr (by rw [en]; exact Int.le_refl n), fun k => ?_⟩⟩
  by_cases h : lo ≤ k ∧ k ≤ hi
  · rw [show -lo + k = k - lo by omega, textM_at g hL h.1 h.2]
    exact Int.le_refl _
  · rw [val_off hL h]
    exact lenAt_nn (textM_nn g hL) _
/-- with a goal less by one it is not -/
theorem least_goal (g : Good L) (w : Within cs lo hi) (ok : AllOk cs) (hg : 1 ≤ goal) (e : boxM cs goal = some (st, L)) {n : Int} (es : st = some n) (hn : 1 ≤ n) :
    ∃ a', afterL (textM lo hi L) (-lo) (some (n - 1)) cs = some (-lo + last cs, a') ∧ ¬ ge a' goal := by
  have hL := box_within e w
  have z := w.zero
  have tl := textM_len (lo := lo) (hi := hi) (by omega) L
  obtain ⟨a', h1, _, h2⟩ := after_char (textM_nn g hL) (ge_some.mpr (show 0 ≤ n - 1 by omega)) ok hg (w.le (show -(-lo) ≤ lo by omega) (show hi ≤ (textM lo hi L).length - 1 - (-lo) by omega))
  refine ⟨a', h1, fun x => ?_⟩
  obtain ⟨st', L', e', h3, _⟩ := h2.mp x
  rw [e] at e'
  cases e'
  have := ge_some.mp (h3 n es)
  omega
/-- with a length less by one it is not -/
theorem least_row (g : Good L) (w : Within cs lo hi) (ok : AllOk cs) (hg : 1 ≤ goal) (e : boxM cs goal = some (st, L)) (pos : ∀ n, st = some n → 1 ≤ n) {i : Nat} (li : i < (textM lo hi L).length) (h : 0 < lenAt (textM lo hi L) i) :
    ∃ a', afterL ((textM lo hi L).set i (lenAt (textM lo hi L) i - 1)) (-lo) (some (st.getD 0)) cs = some (-lo + last cs, a') ∧ ¬ ge a' goal := by
  have hL := box_within e w
  have z := w.zero
  have tl := textM_len (lo := lo) (hi := hi) (by omega) L
  have a0 : ge (some (st.getD 0)) 0 := ge_some.mpr (by
    cases st with
    | none => exact Int.le_refl 0
    | some n =>
      have := pos n rfl
      show 0 ≤ n
      omega)
  have nn : ∀ x ∈ (textM lo hi L).set i (lenAt (textM lo hi L) i - 1), 0 ≤ x := fun x hx => by
    rcases List.mem_or_eq_of_mem_set hx with q | q
    · exact textM_nn g hL x q
    · omega
  obtain ⟨a', h1, _, h2⟩ := after_char (r := -lo) nn a0 ok hg (w.le (show -(-lo) ≤ lo by omega) (by rw [List.length_set]; omega))
  refine ⟨a', h1, fun x => ?_⟩
  obtain ⟨st', L', e', _, h4⟩ := h2.mp x
  rw [e] at e'
  cases e'
  have q := h4 (i + lo)
  rw [show -lo + (i + lo) = (i : Int) by omega] at q
  have ev := textM_at g hL (k := i + lo) (by omega) (by omega)
  rw [show (i : Int) + lo - lo = i by omega] at ev
  rw [← ev] at q
  have es : lenAt ((textM lo hi L).set i (lenAt (textM lo hi L) i - 1)) i = lenAt (textM lo hi L) i - 1 := by
    conv => lhs; unfold lenAt
    rw [Int.toNat_natCast, List.getD_eq_getElem?_getD, List.getElem?_set_self li]
    rfl
  rw [es] at q
  omega
end
end Gc

/-! heaps, lengths of boxes, dicts out of pairs -/
namespace Gc
open PySem L2
theorem same_freeU {H H' : Hp} {d : Addr} {o : HO} (e : Same H H') (h : H d = none) : Same H (upd H' d o) := fun b u hb => by
  rw [upd_ne (ne_of_none hb h)]
  exact e b u hb
theorem go_len : ∀ {r : List Cmd} {off need : Int} {b : Ps} {st : Option Int} {b' : Ps}, go r off need b = some (st, b') → b'.length ≤ b.length + r.length
  | [], _, _, b, _, _, h => by cases h; exact Nat.le_refl _
  | .home :: r, _, _, b, _, _, h => by cases h
  | .stop :: r, _, _, b, _, _, h => by cases h; exact Nat.le_add_right _ _
  | .right n :: r, off, need, b, st, b', h => by
    have q := req_len b off need
    rw [List.length_cons]
    simp only [go] at h
    split at h
    · have := go_len h
      omega
    · cases h
      omega
  | .left n :: r, off, need, b, st, b', h => by
    have q := req_len b off (need + n)
    rw [List.length_cons]
    simp only [go] at h
    have := go_len h
    omega
  | .down n :: r, off, need, b, st, b', h => by
    rw [List.length_cons]
    simp only [go] at h
    have := go_len h
    omega
  | .up n :: r, off, need, b, st, b', h => by
    rw [List.length_cons]
    simp only [go] at h
    have := go_len h
    omega
theorem box_len {cs : List Cmd} {goal : Int} {st : Option Int} {L : Ps} (h : boxM cs goal = some (st, L)) : L.length ≤ cs.length := by
  unfold boxM at h
  cases e : go cs.reverse (last cs) goal [] with
  | none =>
    rw [e] at h
    cases h
  | some x =>
    rw [e] at h
    obtain ⟨st', b'⟩ := x
    have q := go_len e
    have h' : (st', b'.mergeSort leK) = (st, L) := Option.some.inj h
    cases h'
    rw [List.length_mergeSort]
    rw [List.length_reverse, List.length_nil] at q
    omega
theorem merge_dkI : ∀ (b acc : Ps), (keys acc ++ keys b).Nodup → mergeK (dkI acc) (dkI b) = dkI (acc ++ b)
  | [], acc, _ => by rw [List.append_nil]; rfl
  | q :: b, acc, h => by
    have nq : q.1 ∉ keys acc := fun z => by
      have := (List.nodup_append.mp h).2.2 q.1 z q.1 List.mem_cons_self
      exact this rfl
    show mergeK (putK (dkI acc) (Sum.inl q.1 : L2.Key) (.int q.2)) (dkI b) = _
    rw [putK_dkI]
    have e : put acc q.1 q.2 = acc ++ [q] := by
      unfold put
      rw [if_neg fun z => nq ((any_key acc q.1).mp z)]
    rw [e, merge_dkI b (acc ++ [q]) (by
      have e2 : keys (acc ++ [q]) ++ keys b = keys acc ++ keys (q :: b) := by
        unfold keys
        simp
      rw [e2]
      exact h), List.append_assoc]
    rfl
theorem paired_dkI {K : PySem.W.Frag} {H : Hp} : ∀ {ps : List Addr} {qs : Ps}, Paired (fun (p : Addr) (q : Int × Int) => H p = some (.tup [.int q.1, .int q.2])) ps qs → Paired (fun (p : Addr) (kv : L2.Key × V) => SqT K H p [kV kv.1, kv.2]) ps (dkI qs)
  | _, _, .nil => .nil
  | _, _, .cons h t => .cons (SqT.of h) (paired_dkI t)
theorem ref_at {ts : List Addr} {i : Nat} {x : V} (h : (ts.map V.ref)[i]? = some x) : ∃ t, ts[i]? = some t ∧ x = .ref t := by
  rw [List.getElem?_map] at h
  cases e : ts[i]? with
  | none =>
    rw [e] at h
    cases h
  | some t =>
    rw [e] at h
    exact ⟨t, rfl, (Option.some.inj h).symm⟩
theorem dki_len (b : Ps) : (dkI b).length = b.length := List.length_map ..
end Gc

/-! how large the numbers of a box are -/
namespace Gc
def lft : Cmd → Int
  | .left n => n
  | _ => 0
def lsum (r : List Cmd) : Int := (r.map lft).sum
theorem lsum_cons (c : Cmd) (r : List Cmd) : lsum (c :: r) = lft c + lsum r := by
  unfold lsum
  rw [List.map_cons, List.sum_cons]
theorem lsum_nn : ∀ {r : List Cmd}, AllOk r → 0 ≤ lsum r
  | [], _ => Int.le_refl 0
  | c :: r, ok => by
    rw [lsum_cons]
    have h := lsum_nn (r := r) fun d hd => ok d (List.mem_cons_of_mem _ hd)
    have o := ok c List.mem_cons_self
    cases c with
    | left n =>
      have o' : 1 ≤ n := o
      show 0 ≤ n + _
      omega
    | down n => show 0 ≤ (0 : Int) + _; omega
    | up n => show 0 ≤ (0 : Int) + _; omega
    | right n => show 0 ≤ (0 : Int) + _; omega
    | home => show 0 ≤ (0 : Int) + _; omega
    | stop => show 0 ≤ (0 : Int) + _; omega
theorem put_mem {b : Ps} {k v : Int} {q : Int × Int} (h : q ∈ put b k v) : q.2 = v ∨ q ∈ b := by
  unfold put at h
  split at h
  · obtain ⟨p, hp, e⟩ := List.mem_map.mp h
    split at e
    · rw [← e]
      exact .inl rfl
    · rw [← e]
      exact .inr hp
  · rcases List.mem_append.mp h with z | z
    · exact .inr z
    · rw [List.mem_singleton.mp z]
      exact .inl rfl
theorem req_le {b : Ps} {o v B : Int} (hb : ∀ q ∈ b, q.2 ≤ B) (hv : v ≤ B) : ∀ q ∈ req b o v, q.2 ≤ B := by
  intro q hq
  rcases put_mem hq with e | e
  · rw [e]
    unfold mx
    cases l : look b o with
    | none =>
      show (if v > v then v else v) ≤ B
      rw [if_neg (by omega)]
      exact hv
    | some x =>
      have := hb _ (look_mem l)
      show (if x > v then x else v) ≤ B
      have h : x ≤ B := this
      split <;> omega
  · exact hb q e
theorem go_vals {B : Int} : ∀ {r : List Cmd} {off need : Int} {b : Ps} {st : Option Int} {b' : Ps}, go r off need b = some (st, b') → AllOk r → need + lsum r ≤ B → (∀ q ∈ b, q.2 ≤ B) → (∀ q ∈ b', q.2 ≤ B) ∧ ∀ n, st = some n → n ≤ B
  | [], _, need, b, _, _, h, _, l, hb => by
    cases h
    refine ⟨hb, fun n e => ?_⟩
    rw [← Option.some.inj e]
    have e0 : lsum ([] : List Cmd) = 0 := rfl
    omega
  | .home :: r, _, _, b, _, _, h, _, _, _ => by cases h
  | .stop :: r, _, _, b, _, _, h, _, _, hb => by
    cases h
    exact ⟨hb, fun n e => nomatch e⟩
  | .right n :: r, off, need, b, st, b', h, ok, l, hb => by
    have okr : AllOk r := fun d hd => ok d (List.mem_cons_of_mem _ hd)
    have o : 1 ≤ n := ok _ List.mem_cons_self
    have nn := lsum_nn okr
    rw [lsum_cons] at l
    have e0 : lft (.right n) = 0 := rfl
    simp only [go] at h
    split at h
    · exact go_vals h okr (by omega) (req_le hb (by omega))
    · cases h
      exact ⟨req_le hb (by omega), fun n e => nomatch e⟩
  | .left n :: r, off, need, b, st, b', h, ok, l, hb => by
    have okr : AllOk r := fun d hd => ok d (List.mem_cons_of_mem _ hd)
    have nn := lsum_nn okr
    rw [lsum_cons] at l
    have e0 : lft (.left n) = n := rfl
    simp only [go] at h
    exact go_vals h okr (by omega) (req_le hb (by omega))
  | .down n :: r, off, need, b, st, b', h, ok, l, hb => by
    rw [lsum_cons] at l
    have e0 : lft (.down n) = 0 := rfl
    simp only [go] at h
    exact go_vals h (fun d hd => ok d (List.mem_cons_of_mem _ hd)) (by omega) hb
  | .up n :: r, off, need, b, st, b', h, ok, l, hb => by
    rw [lsum_cons] at l
    have e0 : lft (.up n) = 0 := rfl
    simp only [go] at h
    exact go_vals h (fun d hd => ok d (List.mem_cons_of_mem _ hd)) (by omega) hb
theorem lsum_rev (r : List Cmd) : lsum r.reverse = lsum r := by
  unfold lsum
  rw [List.map_reverse, sum_rev]
theorem box_vals {B : Int} {cs : List Cmd} {goal : Int} {st : Option Int} {L : Ps} (h : boxM cs goal = some (st, L)) (ok : AllOk cs) (l : goal + lsum cs ≤ B) : (∀ q ∈ L, q.2 ≤ B) ∧ ∀ n, st = some n → n ≤ B := by
  unfold boxM at h
  cases e : go cs.reverse (last cs) goal [] with
  | none =>
    rw [e] at h
    cases h
  | some x =>
    rw [e] at h
    obtain ⟨st', b'⟩ := x
    have h' : (st', b'.mergeSort leK) = (st, L) := Option.some.inj h
    cases h'
    obtain ⟨a, b⟩ := go_vals (B := B) e (allOk_rev ok) (by rw [lsum_rev]; exact l) (fun q h => nomatch h)
    exact ⟨fun q hq => a q ((List.mergeSort_perm b' leK).mem_iff.mp hq), b⟩
theorem val_le {L : Ps} {B : Int} (h : ∀ q ∈ L, q.2 ≤ B) (h0 : 0 ≤ B) (k : Int) : val L k ≤ B := by
  unfold val
  cases e : look L k with
  | none => exact h0
  | some v => exact h _ (look_mem e)
theorem textM_le {lo hi B : Int} {L : Ps} (g : Good L) (hL : ∀ q ∈ L, lo ≤ q.1 ∧ q.1 ≤ hi) (h : ∀ q ∈ L, q.2 ≤ B) (h0 : 0 ≤ B) : ∀ x ∈ textM lo hi L, x ≤ B := by
  intro x hx
  obtain ⟨i, hi'⟩ := List.mem_iff_getElem?.mp hx
  have l := (List.getElem?_eq_some_iff.mp hi').1
  have l2 : (textM lo hi L).length = (hi - lo + 1).toNat := by
    unfold textM
    rw [setAll_len, List.length_replicate]
  have e := textM_at g hL (k := i + lo) (by omega) (by omega)
  unfold lenAt at e
  rw [show ((i : Int) + lo - lo).toNat = i by omega, List.getD_eq_getElem?_getD, hi'] at e
  have e' : x = val L (i + lo) := e
  rw [e']
  exact val_le h h0 _
/-- commands with numbers as the laws draw them -/
def Bnd (cs : List Cmd) : Prop := ∀ c ∈ cs, lft c ≤ 10 ^ 30 ∧ c.dv.natAbs ≤ 8
theorem lsum_le : ∀ {cs : List Cmd}, Bnd cs → lsum cs ≤ cs.length * 10 ^ 30
  | [], _ => by show (0 : Int) ≤ 0 * 10 ^ 30; decide
  | c :: cs, h => by
    have a := (h c List.mem_cons_self).1
    have b := lsum_le (cs := cs) fun d hd => h d (List.mem_cons_of_mem _ hd)
    rw [lsum_cons, List.length_cons]
    omega
theorem last_le : ∀ {cs : List Cmd}, Bnd cs → (last cs).natAbs ≤ 8 * cs.length
  | [], _ => Nat.le_refl _
  | c :: cs, h => by
    have a := (h c List.mem_cons_self).2
    have b := last_le (cs := cs) fun d hd => h d (List.mem_cons_of_mem _ hd)
    have e : last (c :: cs) = c.dv + last cs := rfl
    rw [e, List.length_cons]
    omega
end Gc

/-! calls by names alone, the names in the other order: f(b=.., a=..) of def f(a, b) -/
namespace Gc
open PySem PySem.Spec PyProof.Rows L2
def gRev {α : Type} (us ws : List α) : List α := us ++ ws.reverse
theorem vals_rev : ∀ {vs : List V} {us : List Value}, Vals vs us → Vals vs.reverse us.reverse
  | _, _, .nil => .nil
  | v :: vs, u :: us, .cons h t => by
    rw [List.reverse_cons, List.reverse_cons]
    exact (vals_rev t).append (.cons h .nil)
structure CalK (P : Program) (w : World) (K : PySem.W.Frag) (mg : Str → Option Value) (base : Heap) (k : Nat) (x : Str) (ks : List Str) (sp : Sp) : Prop where
  ex : ∃ (f : Addr) (fd : FuncData) (ps : List Str), FnOk P w K mg base CX0 k f fd ps sp ∧ mg x = some (.ref f) ∧ PySem.W.keepIn K (.ref f) = true ∧ KBinds K fd ps ks gRev gRev
/-- how it binds: h is «fun _ _ _ _ _ _ us ws hl => match us, ws, hl with | [], [_, _], _ => rfl | [_], [_], _ => rfl | [_, _], [], _ => rfl» -/
theorem bindsK {K : PySem.W.Frag} {x qual : Str} {st : Stmt} {f : Addr} {fd : FuncData} {ps ks : List Str} (F : Fun K x qual st f fd)
    (h : ∀ (kV doc pm : Value) (an : Option Addr) (cdv ct : Value) (us ws : List Value), (gRev us ws).length = ps.length → bindArgs (PySem.W.fnOf x qual (defArgs st) (defBody st) (defScope st) .none kV doc pm an cdv ct) ⟨us, ks.zip ws⟩ = pure (ps.zip (gRev us ws))) : KBinds K fd ps ks gRev gRev := by
  obtain ⟨oc, od, kV, doc, pm, an, cdv, ct, osl, rfl, lk, hcd⟩ := F.ex
  exact ⟨fun s us ws _ hl => .of_eq (h kV doc pm an cdv ct us ws hl), fun a b => a.append (vals_rev b)⟩
theorem pe_calK {X : Cx} {k j : Nat} {x : Str} {ks : List Str} {sp : Sp} {p pos : Pos} {kws : List Keyword} {tk : TA} (c : CalK X.prog X.w X.K X.mg X.base k x ks sp) (hr : Room j X.A) (hk : k ≤ j) (hg : Gl X x) (hkw : PK X kws tk)
    (hdb : (x == ("__debug__" : Str)) = false := by decide) (hall : (backToKw pos (keywordEach kws X.env)).all (·.1.isSome) = true := by rfl) (hks : (backToKw pos (keywordEach kws X.env)).filterMap (·.1) = ks := by rfl)
    (hpn : ((backTo pos (starEach [] X.env)).any (·.1) || (backToKw pos (keywordEach kws X.env)).any (·.1.isNone)) = false := by rfl) :
    PE X (.Call (.Name x p) [] kws pos) (tCallK sp gRev E0 tNil tk) := by
  obtain ⟨f, fd, ps, F, hm, kp, b⟩ := c.ex
  refine ⟨fun pins s σ H Q I h => ?_⟩
  refine wpAny_Call_Name_kw (ld_glob I hg hm ?_ hdb)
  refine PySem.W.callWith_KW0 (h₀ := X.base) I.ok.mod.kin kp hall ?_ hpn
  refine thn (hkw.run pos pins s σ H _ I h) fun ws s1 ⟨zs, H1, I1, rz, q⟩ => ⟨I1.kIn, ?_⟩
  rw [hks]
  exact run_fnk (us := []) (vs := []) F (hr.mono hk) b pass0 I1 .nil rz q
end Gc

/-! defs that call repr: what is shown just now is told to be nothing. The law's own defs go so; all others as before -/
namespace Gc
open PySem PySem.Spec PyProof.Rows L2
structure FnG (P : Program) (w : World) (K : PySem.W.Frag) (mg : Str → Option Value) (base : Heap) (k : Nat) (f : Addr) (fd : FuncData) (ps : List Str) (sp : Sp) : Prop where
  len : ∀ vs H Q E, sp vs H Q E → vs.length = ps.length
  run : ∀ (A : Around) (outer : List Env) (s : Shared) (H : Hp) (args : Args) (us : List Value) (vs : List V) (Q : VK) (E : XK), A.guards = some [] → Room k A → Env0 P w K mg base A outer s H →
    BindsTo s fd args (ps.zip us) → Vals vs us → sp vs H Q E → codeAny (model P w) A (.call (.ref f) args) (CR CX0 outer P w H s Q E) s
theorem FnG.of {P : Program} {w : World} {K : PySem.W.Frag} {mg : Str → Option Value} {base : Heap} {k : Nat} {f : Addr} {fd : FuncData} {ps : List Str} {sp : Sp} (F : FnOk P w K mg base CX0 k f fd ps sp) : FnG P w K mg base k f fd ps sp :=
  ⟨F.len, fun A outer s H args us vs Q E _ hr e0 hb hv hs => F.run A outer s H args us vs Q E hr e0 hb hv hs⟩
section
variable {P : Program} {w : World} {K : PySem.W.Frag} {mg : Str → Option Value} {base : Heap}
theorem okG {x qual : Str} {st : Stmt} {f : Addr} {fd : FuncData} {N ps : List Str} {k : Nat} {sp : Sp} (F : Fun K x qual st f fd) (S : FnScope N ps (defScope st)) (len : ∀ vs H Q E, sp vs H Q E → vs.length = ps.length)
    (hbody : ∀ (cdv : Value) (A : Around) (outer : List Env) (s : Shared) (H : Hp) (vs : List V) (Q : VK) (E : XK), (A.deeper (envOfC qual (defScope st) s.heap.objs.size f cdv)).guards = some [] → Room k (A.deeper (envOfC qual (defScope st) s.heap.objs.size f cdv)) → sp vs H Q E →
      ∃ t, PSs (cxOf CX0 P w K mg base N qual (defScope st) f cdv A outer s H E).nox (defBody st) t ∧ t { nx := fun _ H' => Q .non H', rt := Q } (start N vs) H) : FnG P w K mg base (k + 1) f fd ps sp := by
  obtain ⟨oc, od, kV, doc, pm, an, cdv, ct, osl, rfl, lk, hcd⟩ := F.ex
  refine ⟨len, fun A outer s H args us vs Q E hg hr e0 hb r hsp => ?_⟩
  have n := len _ _ _ _ hsp
  have same : ∀ b o, base.get? b = some o → s.heap.get? b = some o := fun b o e => (e0.bs b o e).1
  have kin : K.In s.heap := e0.mod.kin.keeps same
  have kinds : ∀ y ∈ ps.zip us, (defScope st).names.lookup y.1 = some .local ∨ ((defScope st).names.lookup y.1 = some .cell ∧ ((cellsFrom (s.heap.objs.size + 1) (defScope st).names []).lookup y.1).isSome = true) := by
    rintro ⟨y, v⟩ hy
    exact (S.par y (List.of_mem_zip hy).1).imp id fun q => ⟨q, PySem.W.cellsFrom_some _ _ _ (.inl q)⟩
  refine codeAny_call_function hr.depth (kin _ _ lk) rfl S.co S.gen rfl (PySem.W.codeRec_of kin hcd) (hb _ _ _ _ (wpAny_newFunctionEnv_cells S.kind kinds fun env he s1 x => ?_))
  subst he
  refine ⟨(e0.mod.nolimit.keeps same).keeps x.toInCall.keep, codeAny_func ?_⟩
  obtain ⟨t, ht, hq⟩ := hbody cdv A outer s H vs Q E hg (hr.deeper _) hsp
  refine wpAny_mono (ht.nox.run [] s1 (start N vs) H _ (inv_start S hr.hd e0 n r x) hq) (fun fl s' hs => ?_) fun e s' hs => hs
  match fl, hs with
  | .ret u, ⟨v, σ', H', J, rv, q⟩ => exact ⟨v, H', J.os, J.bare, J.base, J.hok, rv, q⟩
  | .next, ⟨σ', H', J, q⟩ => exact ⟨V.non, H', J.os, J.bare, J.base, J.hok, rfl, q⟩
  | .brk, ⟨_, _, _, q⟩ => exact q.elim
  | .cont, ⟨_, _, _, q⟩ => exact q.elim
end
section
variable {X : Cx} {k : Nat} {f : Addr} {fd : FuncData} {ps : List Str} {sp : Sp} {x : Str} {p pos : Pos} {e : Expr} {es : List Expr} {t : TA}
/-- a call of such a def -/
theorem pe_callG (F : FnG X.prog X.w X.K X.mg X.base k f fd ps sp) (hg0 : X.A.guards = some []) (hr : Room k X.A) (hg : Gl X x) (hm : X.mg x = some (.ref f)) (hk : PySem.W.keepIn X.K (.ref f) = true) (hb : Binds X.K fd ps [])
    (ha : PA X (e :: es) t) (hdb : (x == ("__debug__" : Str)) = false := by decide) (he : starEach (e :: es) X.env = (false, eval e X.env) :: starEach es X.env := by rfl) (hpl : (backTo pos (starEach es X.env)).any (·.1) = false := by rfl) :
    PE X (.Call (.Name x p) (e :: es) [] pos) (tCall sp [] E0 t) := by
  refine ⟨fun pins s σ H Q I h => ?_⟩
  refine wpAny_Call_Name_kw (ld_glob I hg hm ?_ hdb)
  refine PySem.W.callWith_K (h₀ := X.base) I.ok.mod.kin hk (thn (ha.run pos pins s σ H _ I h) fun us s1 ⟨vs, H1, I1, r, q⟩ => ⟨I1.kIn, ?_⟩) he hpl
  have q' : sp vs H1 Q E0 := by
    have z : sp (vs ++ []) H1 Q E0 := q
    rwa [List.append_nil] at z
  have n := F.len _ _ _ _ q'
  have bd := hb s1 us I1.kIn (by rw [List.append_nil, ← r.length]; exact n)
  rw [List.append_nil] at bd
  refine wpAny_call (codeAny_mono (F.run X.A X.stack s1 H1 ⟨us, []⟩ us vs Q E0 hg0 hr I1.env0 bd r q') fun o s' hq => ?_)
  match o, hq with
  | .error _, z => exact z.elim
  | .ok (.ret _), z => exact I1.after z
  | .ok .next, z => exact z.elim
  | .ok .brk, z => exact z.elim
  | .ok .cont, z => exact z.elim
end
/-! ### repr -/
/-- repr(x), x a list or a tuple of data whose ints are not too wide: its text -/
def rRepr (K : PySem.W.Frag) : List V → Hp → VK → Prop := fun xs H Q => ∃ (a : Addr) (d : PyData), xs = [.ref a] ∧ Dp K H (.ref a) d ∧ d.showable = true ∧ d.hasDict = false ∧ d.depth ≤ 60 ∧ d.shown.length ≤ sizeLine ∧ Q (.str d.shown) H
theorem cr_repr {X : Cx} (hg : X.A.guards = some []) (hu : X.A.units + 64 < cLine) : CallR X (.builtin "repr") (rRepr X.K) := by
  intro pins s σ H xs us Q I r h
  obtain ⟨a, d, rfl, hd, hs, hn, hdp, hz, q⟩ := h
  obtain ⟨u, rfl, ru⟩ := vals1 r
  obtain ⟨as, rd⟩ := Dp.reads I d _ u hd ru
  obtain rfl : u = Value.ref a := ru
  refine PySem.repr_of_reads' rd hs (fun z => by rw [hn] at z; cases z) hg (by omega) (fun _ _ e => e) (fun h' v tk hk => ⟨.str d.shown, H, I.kept hk, ⟨_, rfl⟩, q⟩) hz
/-! ### the law is called from the top, where nothing is shown -/
theorem call_lawG {P : Program} {w : World} {K : PySem.W.Frag} {mg mb : Str → Option Value} {k : Nat} {fa a : Addr} {fd : FuncData} {x : Str} {sp : Sp} {s₁ : Shared} {vs : List Value} {ns : List Int}
    (KX : K.In s₁.heap) (hns : s₁.heap.Ns mainGlobals mg) (hb : s₁.heap.Ns builtinsNs mb) (hbb : ∀ x : Str, x ≠ "__name__" → mb x = bootBuiltins x) (hlim : s₁.heap.NoLimit) (hg : s₁.gens = #[])
    (ha : s₁.heap.get? a = some { cls := .type "list", data := .seq vs.toArray }) (hi : IntsAre vs ns) (hl : ns.length ≤ sizeLine) (hr : Room k callerA)
    (F : ∀ base : Heap, K.In base → base.Ns mainGlobals mg → FnG P w K mg base k fa fd [x] sp) (hbind : ∀ (s : Shared) (u : Value), BindsTo s fd ⟨[u], []⟩ [(x, u)])
    (hsp : ∀ H : Hp, Only H → SqL K H a (ns.map V.int) → sp [.ref a] H (fun v _ => v = .bl true) fun _ _ _ => False) :
    codeAny (model P w) callerA (.call (.ref fa) ⟨[.ref a], []⟩) (fun r s' => r = .ok (.ret (.bool true)) ∧ OldK s₁.heap s'.heap ∧ s'.os = s₁.os ∧ AllBare s'.gens) s₁ := by
  have rv := vals_ints hi
  have lv := hi.length
  -- once the heap that is seen is chosen: at most the script is in it
  have go : ∀ H : Hp, Only H → SqL K H a (ns.map V.int) → HOk P w H s₁.heap → (∀ b u, H b = some u → b = a ∧ K.lookup a = none) →
      codeAny (model P w) callerA (.call (.ref fa) ⟨[.ref a], []⟩) (fun r s' => r = .ok (.ret (.bool true)) ∧ OldK s₁.heap s'.heap ∧ s'.os = s₁.os ∧ AllBare s'.gens) s₁ := by
    intro H hO hS hok hA
    have out : ∀ {b : Addr} {o : Obj}, s₁.heap.get? b = some o → (∀ u, H b = some u → False) → (hidT s₁.heap H).get? b = some o := fun {b o} e n => hidT_get e (by
      cases q : H b with
      | none => rfl
      | some u => exact (n u q).elim)
    have isA : ∀ {b : Addr} {o : Obj} {u : HO}, s₁.heap.get? b = some o → H b = some u → o.data = .seq vs.toArray := fun {b o u} e q => by
      obtain ⟨rfl, _⟩ := hA b u q
      rw [ha] at e
      cases e
      rfl
    have nsOut : ∀ {b : Addr} {m : Str → Option Value}, s₁.heap.Ns b m → (hidT s₁.heap H).Ns b m := fun {b m} ⟨o, es, ep, e, d, r⟩ => ⟨o, es, ep, out e fun u q => (by have z := isA e q; rw [d] at z; cases z), d, r⟩
    have kin : K.In (hidT s₁.heap H) := fun b o e => out (KX b o e) fun u q => by
      obtain ⟨rfl, n⟩ := hA b u q
      rw [n] at e
      cases e
    have md : Mod K mg (hidT s₁.heap H) := ⟨kin, nsOut hns, ⟨mb, nsOut hb, hbb⟩, let ⟨mc, h1, h2⟩ := hlim; ⟨mc, nsOut h1, h2⟩⟩
    have none0 : ∀ b : Addr, b ∈ frs ([] : List Env) → False := fun b z => by
      have z' : b ∈ ([] : List Addr) := z
      cases z'
    have e0 : Env0 P w K mg (hidT s₁.heap H) callerA [] s₁ H := ⟨rfl, md, fun b o e => of_hidT e, Nat.le_of_eq (hidT_size _ _), trivial, fun b z => (none0 b z).elim, hok, .of_eq hg⟩
    refine codeAny_mono ((F _ kin (nsOut hns)).run callerA [] s₁ H ⟨[.ref a], []⟩ [.ref a] [.ref a] _ _ rfl hr e0 (hbind s₁ (.ref a)) (.cons rfl .nil) (hsp H hO hS)) fun r s' h => ?_
    match r, h with
    | .error _, z => exact z.elim
    | .ok .next, z => exact z.elim
    | .ok .brk, z => exact z.elim
    | .ok .cont, z => exact z.elim
    | .ok (.ret u), ⟨v, H', os, bare, un, hok', r', q⟩ =>
      obtain rfl : v = .bl true := q
      obtain rfl : u = Value.bool true := r'
      refine ⟨rfl, OldK.of_keep fun b o e => ?_, os, bare⟩
      cases q : H b with
      | none => exact un.keep b o e q (fun z => (none0 b z).elim) (by simp)
      | some u =>
        rcases hO b with z | ⟨ob, xs, z⟩
        · rw [q] at z
          cases z
        · obtain ⟨e1, _⟩ := hok b _ z
          obtain ⟨e2, _⟩ := hok' b _ (un.frzs b ob _ z)
          rw [e] at e1
          cases e1
          exact e2
  cases hk : K.lookup a with
  | some o =>
    have e := KX a o hk
    rw [ha] at e
    cases e
    exact go (fun _ => none) (fun _ => .inl rfl) (.inr ⟨_, vs.toArray, _, hk, rfl, rfl, rfl, by rw [List.size_toArray, lv]; exact hl, by simpa using rv⟩) (fun b u z => nomatch (show (none : Option HO) = some u from z)) fun b u z => nomatch (show (none : Option HO) = some u from z)
  | none =>
    have at' : ∀ {b : Addr} {u : HO}, (if b = a then some (HO.frz { cls := .type "list", data := .seq vs.toArray } (.lst (ns.map V.int))) else none) = some u → b = a ∧ u = .frz { cls := .type "list", data := .seq vs.toArray } (.lst (ns.map V.int)) := fun {b u} z => by
      by_cases h : b = a
      · rw [if_pos h] at z
        exact ⟨h, (Option.some.inj z).symm⟩
      · rw [if_neg h] at z
        cases z
    refine go (fun b => if b = a then some (.frz { cls := .type "list", data := .seq vs.toArray } (.lst (ns.map V.int))) else none) (fun b => ?_) (.inl (.inr ⟨{ cls := .type "list", data := .seq vs.toArray }, if_pos rfl⟩)) (fun b u z => ?_) fun b u z => ⟨(at' z).1, hk⟩
    · by_cases h : b = a
      · exact .inr ⟨_, _, if_pos h⟩
      · exact .inl (if_neg h)
    · obtain ⟨rfl, rfl⟩ := at' z
      exact ⟨ha, by rw [List.length_map]; exact hl, vs, _, rv, ha⟩
/-- the head's last goal, from such a law -/
theorem walk_G {l : PySem.W.OpenLaw} {n k : Nat} {q : Program} {loose : List Str} {XP : (Str → Option Value) → Heap → Prop} {YP : World → Heap → Prop} {d : DefRec} {K : Params → PySem.W.Frag} {sp : World → Sp} {x : Str}
    (hn : l.most = some n) (hn2 : n ≤ sizeLine) (hdf : d.params.defaults = []) (hr : Room k callerA) (hY : ∀ (w : World) (h : Heap), YP w h → (K w.params).In h)
    (F : ∀ (w : World) (mg : Str → Option Value) (fa : Addr) (h : Heap), (K w.params).In h → h.Ns mainGlobals mg → mg d.name = some (.ref fa) →
      ∃ fd : FuncData, (∀ (s : Shared) (u : Value), BindsTo s fd ⟨[u], []⟩ [(x, u)]) ∧ ∀ base : Heap, (K w.params).In base → base.Ns mainGlobals mg → FnG l.prog w (K w.params) mg base k fa fd [x] (sp w))
    (hsp : ∀ (w : World) (H : Hp) (a : Addr) (ns : List Int), ns.length ≤ n → Only H → SqL (K w.params) H a (ns.map V.int) → sp w [.ref a] H (fun v _ => v = .bl true) fun _ _ _ => False) :
    PySem.W.WalkO q loose XP YP l.row.toRowW d [] (fun f vs => PySem.call f vs) := by
  refine Att.attach_call hn hdf fun w s₀ s₁ mg mb fa o pm cd doc a vs ns G Y ho hd hcd hmg hobj hints hlen hg => ?_
  have KX := hY w _ Y
  obtain ⟨fd, hb, hF⟩ := F w mg fa _ KX G.T.g hmg
  exact call_lawG KX G.T.g G.T.b G.T.builtins G.T.nolimit hg hobj hints (Nat.le_trans hlen hn2) hr hF hb fun H hO hS => hsp w H a ns hlen hO hS
end Gc

/-! what repr wants of the data that the laws show -/
namespace Gc
open PySem PySem.Spec PyProof.Rows L2
def Sml (x : Int) : Prop := x.natAbs < 2 ^ 120
theorem sml_log {x : Int} (h : Sml x) : x.natAbs.log2 < 121 := Nat.lt_of_lt_of_le (PySem.Flt.log2_lt_of (k := 121) (by decide) (Nat.lt_trans h (by decide))) (Nat.le_refl _)
theorem sml_show {x : Int} (h : Sml x) : (PyData.int x).showable = true := by
  have := sml_log h
  simp only [PyData.showable, decide_eq_true_eq]
  omega
theorem sml_short {x : Int} (h : Sml x) : (PyData.int x).leavesShort 130 = true := by
  have e := int_text_length_le (k := 121) (by decide) (sml_log h)
  have e' : (PyData.shown (.int x)).length ≤ 130 := by
    have e2 : (PyData.shown (.int x)).length = (toString x).length := by
      show (Str.ofString (toString x)).length = _
      rw [PySem.ofString_length]
    omega
  simpa only [PyData.leavesShort, decide_eq_true_eq] using e'
theorem sml_weight {x : Int} (h : Sml x) : (PyData.int x).weight ≤ 122 := by
  have := sml_log h
  simp only [PyData.weight]
  split <;> omega
def Ok0 (d : PyData) : Prop := d.showable = true ∧ d.hasDict = false ∧ d.leavesShort 130 = true
def Ok0s (ds : List PyData) : Prop := PyData.showableAll ds = true ∧ PyData.hasDictAll ds = false ∧ PyData.leavesShortAll 130 ds = true
theorem ok0_int {x : Int} (h : Sml x) : Ok0 (.int x) := ⟨sml_show h, by simp only [PyData.hasDict], sml_short h⟩
theorem ok0_nil : Ok0s [] := ⟨by simp only [PyData.showableAll], by simp only [PyData.hasDictAll], by simp only [PyData.leavesShortAll]⟩
theorem ok0_cons {d : PyData} {ds : List PyData} (h : Ok0 d) (t : Ok0s ds) : Ok0s (d :: ds) := by
  obtain ⟨a1, a2, a3⟩ := h
  obtain ⟨b1, b2, b3⟩ := t
  refine ⟨?_, ?_, ?_⟩
  · simp only [PyData.showableAll, a1, b1, Bool.and_self]
  · simp only [PyData.hasDictAll, a2, b2, Bool.or_self]
  · simp only [PyData.leavesShortAll, a3, b3, Bool.and_self]
theorem ok0_list {ds : List PyData} (h : Ok0s ds) : Ok0 (.list ds) := by
  obtain ⟨b1, b2, b3⟩ := h
  refine ⟨?_, ?_, ?_⟩
  · simpa only [PyData.showable] using b1
  · simpa only [PyData.hasDict] using b2
  · simpa only [PyData.leavesShort] using b3
theorem ok0_tup {ds : List PyData} (h : Ok0s ds) : Ok0 (.tuple ds) := by
  obtain ⟨b1, b2, b3⟩ := h
  refine ⟨?_, ?_, ?_⟩
  · simpa only [PyData.showable] using b1
  · simpa only [PyData.hasDict] using b2
  · simpa only [PyData.leavesShort] using b3
theorem ok0_len {d : PyData} (h : Ok0 d) (w : d.weight ≤ 100000) : d.shown.length ≤ sizeLine := by
  have e := PyData.shown_le 130 (by decide) d h.2.2
  rw [sizeLine_eq]
  have : (130 + 2) * d.weight ≤ (130 + 2) * 100000 := Nat.mul_le_mul_left _ w
  omega
theorem ok0_ints : ∀ {T : List Int}, (∀ x ∈ T, Sml x) → Ok0s (T.map PyData.int)
  | [], _ => ok0_nil
  | x :: T, h => ok0_cons (ok0_int (h x List.mem_cons_self)) (ok0_ints fun y hy => h y (List.mem_cons_of_mem _ hy))
theorem weight_ints : ∀ {T : List Int}, (∀ x ∈ T, Sml x) → PyData.weightAll (T.map PyData.int) ≤ 123 * T.length
  | [], _ => by simp [PyData.weightAll]
  | x :: T, h => by
    have a := sml_weight (h x List.mem_cons_self)
    have b := weight_ints (T := T) fun y hy => h y (List.mem_cons_of_mem _ hy)
    simp only [List.map_cons, PyData.weightAll, List.length_cons]
    omega
theorem deep_ints : ∀ T : List Int, PyData.depthAll (T.map PyData.int) = 0
  | [] => by simp [PyData.depthAll]
  | x :: T => by simp [PyData.depthAll, PyData.depth, deep_ints T]
/-- a text and a cursor -/
def textD (T : List Int) (r a : Int) : PyData := .tuple [.list (T.map PyData.int), .tuple [.int r, .int a]]
theorem textD_ok {T : List Int} {r a : Int} (hT : ∀ x ∈ T, Sml x) (hr : Sml r) (ha : Sml a) (l : T.length ≤ 500) : (textD T r a).showable = true ∧ (textD T r a).hasDict = false ∧ (textD T r a).depth ≤ 60 ∧ (textD T r a).shown.length ≤ sizeLine := by
  have o : Ok0 (textD T r a) := ok0_tup (ok0_cons (ok0_list (ok0_ints hT)) (ok0_cons (ok0_tup (ok0_cons (ok0_int hr) (ok0_cons (ok0_int ha) ok0_nil))) ok0_nil))
  refine ⟨o.1, o.2.1, ?_, ok0_len o ?_⟩
  · simp only [textD, PyData.depth, PyData.depthAll, deep_ints]
    omega
  · have a1 := weight_ints hT
    have a2 := sml_weight hr
    have a3 := sml_weight ha
    simp only [PyData.weight] at a2 a3
    simp only [textD, PyData.weight, PyData.weightAll]
    omega
/-! ### commands as data -/
def cmdD : Cmd → PyData
  | .down n => .tuple [.str "down", .int n]
  | .up n => .tuple [.str "up", .int n]
  | .right n => .tuple [.str "right", .int n]
  | .left n => .tuple [.str "left", .int n]
  | .home => .tuple [.str "home"]
  | .stop => .tuple [.str "end"]
theorem CmdAt.dp {K : PySem.W.Frag} {H : Hp} {v : V} {c : Cmd} (h : CmdAt K H v c) : Dp K H v (cmdD c) := by
  obtain ⟨a, rfl, h⟩ := h
  cases c with
  | down n => exact .tup h (.cons (.str _) (.cons (.int n) .nil))
  | up n => exact .tup h (.cons (.str _) (.cons (.int n) .nil))
  | right n => exact .tup h (.cons (.str _) (.cons (.int n) .nil))
  | left n => exact .tup h (.cons (.str _) (.cons (.int n) .nil))
  | home => exact .tup h (.cons (.str _) .nil)
  | stop => exact .tup h (.cons (.str _) .nil)
theorem CmdsOf.dp {K : PySem.W.Frag} {H : Hp} : ∀ {xs : List V} {cs : List Cmd}, CmdsOf K H xs cs → DpAll K H xs (cs.map cmdD)
  | _, _, .nil => .nil
  | _, _, .cons h t => .cons h.dp (CmdsOf.dp t)
def CSml : Cmd → Prop
  | .down n => Sml n
  | .up n => Sml n
  | .right n => Sml n
  | .left n => Sml n
  | _ => True
theorem ok0_str {x : Str} (h : (PyData.str x).leavesShort 130 = true) : Ok0 (.str x) := ⟨by simp only [PyData.showable], by simp only [PyData.hasDict], h⟩
theorem cmdD_ok {c : Cmd} (h : CSml c) : Ok0 (cmdD c) ∧ (cmdD c).weight ≤ 200 ∧ (cmdD c).depth ≤ 5 := by
  cases c with
  | down n =>
    have w := sml_weight h
    refine ⟨ok0_tup (ok0_cons (ok0_str (by decide +kernel)) (ok0_cons (ok0_int h) ok0_nil)), ?_, by simp [cmdD, PyData.depth, PyData.depthAll]⟩
    have e : (PyData.str "down").weight = 4 := by decide +kernel
    simp only [cmdD, PyData.weight, PyData.weightAll] at w e ⊢
    omega
  | up n =>
    have w := sml_weight h
    refine ⟨ok0_tup (ok0_cons (ok0_str (by decide +kernel)) (ok0_cons (ok0_int h) ok0_nil)), ?_, by simp [cmdD, PyData.depth, PyData.depthAll]⟩
    have e : (PyData.str "up").weight = 2 := by decide +kernel
    simp only [cmdD, PyData.weight, PyData.weightAll] at w e ⊢
    omega
  | right n =>
    have w := sml_weight h
    refine ⟨ok0_tup (ok0_cons (ok0_str (by decide +kernel)) (ok0_cons (ok0_int h) ok0_nil)), ?_, by simp [cmdD, PyData.depth, PyData.depthAll]⟩
    have e : (PyData.str "right").weight = 5 := by decide +kernel
    simp only [cmdD, PyData.weight, PyData.weightAll] at w e ⊢
    omega
  | left n =>
    have w := sml_weight h
    refine ⟨ok0_tup (ok0_cons (ok0_str (by decide +kernel)) (ok0_cons (ok0_int h) ok0_nil)), ?_, by simp [cmdD, PyData.depth, PyData.depthAll]⟩
    have e : (PyData.str "left").weight = 4 := by decide +kernel
    simp only [cmdD, PyData.weight, PyData.weightAll] at w e ⊢
    omega
  | home => exact ⟨ok0_tup (ok0_cons (ok0_str (by decide +kernel)) ok0_nil), by decide +kernel, by simp [cmdD, PyData.depth, PyData.depthAll]⟩
  | stop => exact ⟨ok0_tup (ok0_cons (ok0_str (by decide +kernel)) ok0_nil), by decide +kernel, by simp [cmdD, PyData.depth, PyData.depthAll]⟩
theorem cmds_ok0 : ∀ {cs : List Cmd}, (∀ c ∈ cs, CSml c) → Ok0s (cs.map cmdD) ∧ PyData.weightAll (cs.map cmdD) ≤ 201 * cs.length ∧ PyData.depthAll (cs.map cmdD) ≤ 5
  | [], _ => ⟨ok0_nil, by simp [PyData.weightAll], by simp [PyData.depthAll]⟩
  | c :: cs, h => by
    obtain ⟨a1, a2, a3⟩ := cmdD_ok (h c List.mem_cons_self)
    obtain ⟨b1, b2, b3⟩ := cmds_ok0 (cs := cs) fun d hd => h d (List.mem_cons_of_mem _ hd)
    refine ⟨ok0_cons a1 b1, ?_, ?_⟩
    · simp only [List.map_cons, PyData.weightAll, List.length_cons]
      omega
    · simp only [List.map_cons, PyData.depthAll]
      omega
theorem cmds_ok {cs : List Cmd} (h : ∀ c ∈ cs, CSml c) (l : cs.length ≤ 300) : (PyData.list (cs.map cmdD)).showable = true ∧ (PyData.list (cs.map cmdD)).hasDict = false ∧ (PyData.list (cs.map cmdD)).depth ≤ 60 ∧ (PyData.list (cs.map cmdD)).shown.length ≤ sizeLine := by
  obtain ⟨a1, a2, a3⟩ := cmds_ok0 h
  have o := ok0_list a1
  refine ⟨o.1, o.2.1, ?_, ok0_len o ?_⟩
  · simp only [PyData.depth]
    omega
  · simp only [PyData.weight]
    omega
/-! ### boxes as data -/
def optD : Option Int → PyData
  | none => .none
  | some n => .int n
def pairD (q : Int × Int) : PyData := .tuple [.int q.1, .int q.2]
def boxD : Option (Option Int × Ps) → PyData
  | none => .none
  | some x => .tuple [optD x.1, .list (x.2.map pairD)]
def BSml : Option (Option Int × Ps) → Prop
  | none => True
  | some x => (∀ n, x.1 = some n → Sml n) ∧ ∀ q ∈ x.2, Sml q.1 ∧ Sml q.2
theorem ok0_none : Ok0 .none := ⟨by simp only [PyData.showable], by simp only [PyData.hasDict], by simp only [PyData.leavesShort]⟩
theorem pairs_ok0 : ∀ {L : Ps}, (∀ q ∈ L, Sml q.1 ∧ Sml q.2) → Ok0s (L.map pairD) ∧ PyData.weightAll (L.map pairD) ≤ 247 * L.length ∧ PyData.depthAll (L.map pairD) ≤ 5
  | [], _ => ⟨ok0_nil, by simp [PyData.weightAll], by simp [PyData.depthAll]⟩
  | q :: L, h => by
    obtain ⟨a, b⟩ := h q List.mem_cons_self
    obtain ⟨c1, c2, c3⟩ := pairs_ok0 (L := L) fun p hp => h p (List.mem_cons_of_mem _ hp)
    have wa := sml_weight a
    have wb := sml_weight b
    refine ⟨ok0_cons (ok0_tup (ok0_cons (ok0_int a) (ok0_cons (ok0_int b) ok0_nil))) c1, ?_, ?_⟩
    · simp only [PyData.weight] at wa wb
      simp only [List.map_cons, pairD, PyData.weight, PyData.weightAll, List.length_cons] at c2 ⊢
      omega
    · simp only [List.map_cons, pairD, PyData.depth, PyData.depthAll] at c3 ⊢
      omega
theorem boxD_ok0 {o : Option (Option Int × Ps)} {n : Nat} (h : BSml o) (l : ∀ x, o = some x → x.2.length ≤ n) : Ok0 (boxD o) ∧ (boxD o).weight ≤ 247 * n + 200 ∧ (boxD o).depth ≤ 10 := by
  cases o with
  | none => exact ⟨ok0_none, by simp [boxD, PyData.weight], by simp [boxD, PyData.depth]⟩
  | some x =>
    obtain ⟨st, L⟩ := x
    obtain ⟨h1, h2⟩ := h
    have h2' : ∀ q ∈ L, Sml q.1 ∧ Sml q.2 := h2
    obtain ⟨c1, c2, c3⟩ := pairs_ok0 h2'
    have ln : L.length ≤ n := l _ rfl
    have o1 : Ok0 (optD st) ∧ (optD st).weight ≤ 122 ∧ (optD st).depth = 0 := by
      cases st with
      | none => exact ⟨ok0_none, by simp [optD, PyData.weight], by simp [optD, PyData.depth]⟩
      | some n => exact ⟨ok0_int (h1 n rfl), sml_weight (h1 n rfl), by simp [optD, PyData.depth]⟩
    obtain ⟨d1, d2, d3⟩ := o1
    refine ⟨ok0_tup (ok0_cons d1 (ok0_cons (ok0_list c1) ok0_nil)), ?_, ?_⟩
    · have m : 247 * L.length ≤ 247 * n := Nat.mul_le_mul_left _ ln
      simp only [boxD, PyData.weight, PyData.weightAll]
      omega
    · simp only [boxD, PyData.depth, PyData.depthAll]
      omega
theorem boxes_ok0 {n : Nat} : ∀ {os : List (Option (Option Int × Ps))}, (∀ o ∈ os, BSml o ∧ ∀ x, o = some x → x.2.length ≤ n) → Ok0s (os.map boxD) ∧ PyData.weightAll (os.map boxD) ≤ (247 * n + 201) * os.length ∧ PyData.depthAll (os.map boxD) ≤ 10
  | [], _ => ⟨ok0_nil, by simp [PyData.weightAll], by simp [PyData.depthAll]⟩
  | o :: os, h => by
    obtain ⟨a, b⟩ := h o List.mem_cons_self
    obtain ⟨c1, c2, c3⟩ := boxD_ok0 a b
    obtain ⟨d1, d2, d3⟩ := boxes_ok0 (os := os) fun p hp => h p (List.mem_cons_of_mem _ hp)
    refine ⟨ok0_cons c1 d1, ?_, ?_⟩
    · rw [List.map_cons, List.length_cons, Nat.mul_succ]
      simp only [PyData.weightAll]
      omega
    · simp only [List.map_cons, PyData.depthAll]
      omega
/-- a list of at most ten boxes of at most thirty lines each -/
theorem boxes_ok {os : List (Option (Option Int × Ps))} (h : ∀ o ∈ os, BSml o ∧ ∀ x, o = some x → x.2.length ≤ 30) (l : os.length ≤ 10) :
    (PyData.list (os.map boxD)).showable = true ∧ (PyData.list (os.map boxD)).hasDict = false ∧ (PyData.list (os.map boxD)).depth ≤ 60 ∧ (PyData.list (os.map boxD)).shown.length ≤ sizeLine := by
  obtain ⟨a1, a2, a3⟩ := boxes_ok0 h
  have o := ok0_list a1
  refine ⟨o.1, o.2.1, ?_, ok0_len o ?_⟩
  · simp only [PyData.depth]
    omega
  · have m : (247 * 30 + 201) * os.length ≤ (247 * 30 + 201) * 10 := Nat.mul_le_mul_left _ l
    simp only [PyData.weight]
    omega
end Gc

namespace Gc
open PySem L2
def top (i : Nat) : Stmt := PySem.Challenge.pw_goalcolumn_k09_least_texts.main.body.getD i (.Pass ⟨0, 0, 0, 0⟩)
abbrev s_is_count : Stmt := top 9
abbrev s_is_command : Stmt := top 8
abbrev s_check_commands : Stmt := top 7
abbrev s_row_change : Stmt := top 13
structure TxtB (K : PySem.W.Frag) (mg : Str → Option Value) (wo wn : Addr) : Prop where
  g_WITHOUT_NUMBER : mg "WITHOUT_NUMBER" = some (.ref wo)
  g_WITH_NUMBER : mg "WITH_NUMBER" = some (.ref wn)
  tWO : ∀ H, SqT K H wo [.str "home", .str "end"]
  tWN : ∀ H, SqT K H wn [.str "down", .str "up", .str "right", .str "left"]
  isinstance : mg "isinstance" = none
  int : mg "int" = none
  bool : mg "bool" = none
  len : mg "len" = none
  enumerate : mg "enumerate" = none
  reversed : mg "reversed" = none
  sorted : mg "sorted" = none
  max : mg "max" = none
  min : mg "min" = none
def spCount : Sp := fun vs H Q _ => ∃ n : Int, vs = [.int n] ∧ 1 ≤ n ∧ Q (.bl true) H
def spIsCmd (K : PySem.W.Frag) : Sp := fun vs H Q _ => ∃ (v : V) (c : Cmd), vs = [v] ∧ CmdAt K H v c ∧ c.ok ∧ ∀ H', Same H H' → Q (.bl true) H'
def spCheck (K : PySem.W.Frag) : Sp := fun vs H Q _ => ∃ (l : Addr) (xs : List V) (cs : List Cmd), vs = [.ref l] ∧ SqL K H l xs ∧ CmdsOf K H xs cs ∧ AllOk cs ∧ cs.length ≤ 10000 ∧ ∀ H', Same H H' → Q .non H'
def spRow (K : PySem.W.Frag) : Sp := fun vs H Q _ => ∃ (v : V) (c : Cmd), vs = [v] ∧ CmdAt K H v c ∧ Q (.int c.dv) H
theorem q_in {H : Hp} {Q : VK} {x : V} {xs : List V} (h : inV x xs = true) (k : Q (.bl true) H) : Q (.bl (if (false : Bool) = true then !inV x xs else inV x xs)) H := by
  rw [if_neg Bool.false_ne_true, h]
  exact k
theorem take_snoc {α : Type} : ∀ {l : List α} {i : Nat} {x : α}, l[i]? = some x → l.take (i + 1) = l.take i ++ [x]
  | [], i, x, h => by simp at h
  | a :: l, 0, x, h => by
    obtain rfl := Option.some.inj h
    rfl
  | a :: l, i + 1, x, h => by
    have ih := take_snoc (l := l) (i := i) (x := x) h
    show a :: l.take (i + 1) = a :: l.take i ++ [x]
    rw [ih]
    rfl
def optV : Option Int → V
  | none => .non
  | some n => .int n
theorem m_no {y z : Str} {tb : TS} {r : TM} {D : Ends} {σ : L2.St} {H : Hp} (h : decide (y = z) = false) (q : r (.str y) D σ H) : mStr z tb r (.str y) D σ H := ⟨y, rfl, by rw [h]; exact iteF q⟩
theorem m_yes {y z : Str} {tb : TS} {r : TM} {D : Ends} {σ : L2.St} {H : Hp} (h : decide (y = z) = true) (q : tb D σ H) : mStr z tb r (.str y) D σ H := ⟨y, rfl, by rw [h]; exact iteT q⟩
section
variable {P : Program} {w : World} {K : PySem.W.Frag} {mg : Str → Option Value} {base : Heap} {wo wn : Addr}
theorem sc_is_count : FnScope ["number"] ["number"] (defScope s_is_count) := ⟨rfl, rfl, rfl, by decide +kernel, rfl, by decide +kernel, by decide +kernel⟩
theorem ok_is_count {f : Addr} {fd : FuncData} (F : Fun K "is_count" "is_count" s_is_count f fd) (T : TxtB K mg wo wn) : FnOk P w K mg base CX0 1 f fd ["number"] spCount := by
  refine F.ok sc_is_count (fun vs H Q E h => ?_) (fun cdv A outer s H vs Q E hr h => ?_)
  · obtain ⟨n, rfl, _⟩ := h
    rfl
  · obtain ⟨n, rfl, hn, k⟩ := h
    refine ⟨_, (pss_one (ps_ret (pe_and (pe_callB call_isi (by rfl) T.isinstance (by decide +kernel) (pa_cons (pv 0) (pa_cons (pe_bltn (v := .ty "int") (u := .type "int") (by rfl) T.int (by decide +kernel) rfl) pa_nil))) (pe_and (pe_not (pe_callB call_isi (by rfl) T.isinstance (by decide +kernel) (pa_cons (pv 0) (pa_cons (pe_bltn (v := .ty "bool") (u := .type "bool") (by rfl) T.bool (by decide +kernel) rfl) pa_nil)))) (pe_one (pe_cmpR op_ge (pv 0) pe_int (nomark _))))))), ?_⟩
    refine ⟨_, rfl, _, _, _, _, _, rfl, .ty "int", .base (.int n), kit_ty (show kitB "int" "int" = some true by decide +kernel), _, rfl, iteT ?_⟩
    refine ⟨_, rfl, _, _, _, _, _, rfl, .ty "bool", .base (.int n), kit_ty (show kitB "int" "bool" = some false by decide +kernel), _, rfl, _, rfl, iteT ?_⟩
    refine ⟨_, rfl, _, _, rfl, rfl, ?_⟩
    show Q (.bl (decide (1 ≤ n))) H
    rw [decide_eq_true hn]
    exact k
theorem sc_is_command : FnScope ["command"] ["command"] (defScope s_is_command) := ⟨rfl, rfl, rfl, by decide +kernel, rfl, by decide +kernel, by decide +kernel⟩
theorem ok_is_command {f : Addr} {fd : FuncData} (F : Fun K "is_command" "is_command" s_is_command f fd) (T : TxtB K mg wo wn) (c_is_count : Cal P w K mg base 1 "is_count" spCount) : FnOk P w K mg base CX0 2 f fd ["command"] (spIsCmd K) := by
  refine F.ok sc_is_command (fun vs H Q E h => ?_) (fun cdv A outer s H vs Q E hr h => ?_)
  · obtain ⟨v, c, rfl, _⟩ := h
    rfl
  · obtain ⟨v, c, rfl, ⟨a, rfl, ha⟩, hc, k⟩ := h
    refine ⟨_, (pss_cons (ps_if (pt_cmpR op_eq (pe_callB call_len_seq (by rfl) T.len (by decide +kernel) (pa_cons (pv 0) pa_nil)) pe_int (nomark _)) (pss_one (ps_ret (pe_cmpR op_in_seq (pe_ix ix_tup (pv 0) pe_int (fun _ _ => rfl)) (pe_glob (v := .ref wo) (by rfl) T.g_WITHOUT_NUMBER rfl) (by rfl)))) pss_nil)
      (pss_one (ps_ret (pe_and (pe_cmpR op_eq (pe_callB call_len_seq (by rfl) T.len (by decide +kernel) (pa_cons (pv 0) pa_nil)) pe_int (nomark _)) (pe_and (pe_cmpR op_in_seq (pe_ix ix_tup (pv 0) pe_int (fun _ _ => rfl)) (pe_glob (v := .ref wn) (by rfl) T.g_WITH_NUMBER rfl) (by rfl)) (pe_one (pe_cal c_is_count hr (by decide) (by rfl) (pa_cons (pe_ix ix_tup (pv 0) pe_int (fun _ _ => rfl)) pa_nil)))))))), ?_⟩
    have k0 := k H (Same.refl H)
    cases c with
    | down n =>
      refine ⟨_, rfl, a, _, rfl, .inr ha, rfl, _, rfl, iteF ?_⟩
      refine ⟨_, rfl, a, _, rfl, .inr ha, rfl, _, rfl, iteT ?_⟩
      refine ⟨_, rfl, a, _, 0, _, rfl, rfl, ha, rfl, wn, _, rfl, .inr (T.tWN _), rfl, rfl, true, by decide +kernel, iteT ?_⟩
      exact ⟨_, rfl, a, _, 1, _, rfl, rfl, ha, rfl, n, rfl, hc, k0⟩
    | up n =>
      refine ⟨_, rfl, a, _, rfl, .inr ha, rfl, _, rfl, iteF ?_⟩
      refine ⟨_, rfl, a, _, rfl, .inr ha, rfl, _, rfl, iteT ?_⟩
      refine ⟨_, rfl, a, _, 0, _, rfl, rfl, ha, rfl, wn, _, rfl, .inr (T.tWN _), rfl, rfl, true, by decide +kernel, iteT ?_⟩
      exact ⟨_, rfl, a, _, 1, _, rfl, rfl, ha, rfl, n, rfl, hc, k0⟩
    | right n =>
      refine ⟨_, rfl, a, _, rfl, .inr ha, rfl, _, rfl, iteF ?_⟩
      refine ⟨_, rfl, a, _, rfl, .inr ha, rfl, _, rfl, iteT ?_⟩
      refine ⟨_, rfl, a, _, 0, _, rfl, rfl, ha, rfl, wn, _, rfl, .inr (T.tWN _), rfl, rfl, true, by decide +kernel, iteT ?_⟩
      exact ⟨_, rfl, a, _, 1, _, rfl, rfl, ha, rfl, n, rfl, hc, k0⟩
    | left n =>
      refine ⟨_, rfl, a, _, rfl, .inr ha, rfl, _, rfl, iteF ?_⟩
      refine ⟨_, rfl, a, _, rfl, .inr ha, rfl, _, rfl, iteT ?_⟩
      refine ⟨_, rfl, a, _, 0, _, rfl, rfl, ha, rfl, wn, _, rfl, .inr (T.tWN _), rfl, rfl, true, by decide +kernel, iteT ?_⟩
      exact ⟨_, rfl, a, _, 1, _, rfl, rfl, ha, rfl, n, rfl, hc, k0⟩
    | home =>
      refine ⟨_, rfl, a, _, rfl, .inr ha, rfl, _, rfl, iteT ?_⟩
      refine ⟨_, rfl, a, _, 0, _, rfl, rfl, ha, rfl, wo, _, rfl, .inr (T.tWO _), rfl, rfl, ?_⟩
      exact q_in (by decide +kernel) k0
    | stop =>
      refine ⟨_, rfl, a, _, rfl, .inr ha, rfl, _, rfl, iteT ?_⟩
      refine ⟨_, rfl, a, _, 0, _, rfl, rfl, ha, rfl, wo, _, rfl, .inr (T.tWO _), rfl, rfl, ?_⟩
      exact q_in (by decide +kernel) k0
theorem sc_row_change : FnScope ["command"] ["command"] (defScope s_row_change) := ⟨rfl, rfl, rfl, by decide +kernel, rfl, by decide +kernel, by decide +kernel⟩
theorem ok_row_change {f : Addr} {fd : FuncData} (F : Fun K "row_change" "row_change" s_row_change f fd) : FnOk P w K mg base CX0 1 f fd ["command"] (spRow K) := by
  refine F.ok sc_row_change (fun vs H Q E h => ?_) (fun cdv A outer s H vs Q E hr h => ?_)
  · obtain ⟨v, c, rfl, _⟩ := h
    rfl
  · obtain ⟨v, c, rfl, ⟨a, rfl, ha⟩, k⟩ := h
    refine ⟨_, (pss_cons (ps_if (pt_cmpR op_eq (pe_ix ix_tup (pv 0) pe_int (fun _ _ => rfl)) pe_str (nomark _)) (pss_one (ps_ret (pe_ix ix_tup (pv 0) pe_int (fun _ _ => rfl)))) pss_nil)
      (pss_cons (ps_if (pt_cmpR op_eq (pe_ix ix_tup (pv 0) pe_int (fun _ _ => rfl)) pe_str (nomark _)) (pss_one (ps_ret (pe_un un_neg (pe_ix ix_tup (pv 0) pe_int (fun _ _ => rfl))))) pss_nil)
      (pss_one (ps_ret pe_int)))), ?_⟩
    cases c with
    | down n =>
      refine ⟨_, rfl, a, _, 0, _, rfl, rfl, ha, rfl, rfl, true, by decide +kernel, iteT ?_⟩
      exact ⟨_, rfl, a, _, 1, _, rfl, rfl, ha, rfl, k⟩
    | up n =>
      refine ⟨_, rfl, a, _, 0, _, rfl, rfl, ha, rfl, rfl, false, by decide +kernel, iteF ?_⟩
      refine ⟨_, rfl, a, _, 0, _, rfl, rfl, ha, rfl, rfl, true, by decide +kernel, iteT ?_⟩
      exact ⟨_, rfl, a, _, 1, _, rfl, rfl, ha, rfl, n, rfl, k⟩
    | right n =>
      refine ⟨_, rfl, a, _, 0, _, rfl, rfl, ha, rfl, rfl, false, by decide +kernel, iteF ?_⟩
      refine ⟨_, rfl, a, _, 0, _, rfl, rfl, ha, rfl, rfl, false, by decide +kernel, iteF ?_⟩
      exact k
    | left n =>
      refine ⟨_, rfl, a, _, 0, _, rfl, rfl, ha, rfl, rfl, false, by decide +kernel, iteF ?_⟩
      refine ⟨_, rfl, a, _, 0, _, rfl, rfl, ha, rfl, rfl, false, by decide +kernel, iteF ?_⟩
      exact k
    | home =>
      refine ⟨_, rfl, a, _, 0, _, rfl, rfl, ha, rfl, rfl, false, by decide +kernel, iteF ?_⟩
      refine ⟨_, rfl, a, _, 0, _, rfl, rfl, ha, rfl, rfl, false, by decide +kernel, iteF ?_⟩
      exact k
    | stop =>
      refine ⟨_, rfl, a, _, 0, _, rfl, rfl, ha, rfl, rfl, false, by decide +kernel, iteF ?_⟩
      refine ⟨_, rfl, a, _, 0, _, rfl, rfl, ha, rfl, rfl, false, by decide +kernel, iteF ?_⟩
      exact k
theorem sc_check_commands : FnScope ["commands", "index", "command"] ["commands"] (defScope s_check_commands) := ⟨rfl, rfl, rfl, by decide +kernel, rfl, by decide +kernel, by decide +kernel⟩
theorem ok_check_commands {f : Addr} {fd : FuncData} (F : Fun K "check_commands" "check_commands" s_check_commands f fd) (T : TxtB K mg wo wn) (c_is_command : Cal P w K mg base 2 "is_command" (spIsCmd K)) : FnOk P w K mg base CX0 3 f fd ["commands"] (spCheck K) := by
  refine F.ok sc_check_commands (fun vs H Q E h => ?_) (fun cdv A outer s H vs Q E hr h => ?_)
  · obtain ⟨l, xs, cs, rfl, _⟩ := h
    rfl
  · obtain ⟨l, xs, cs, rfl, hl, hcs, hk, hn, k⟩ := h
    refine ⟨_, (pss_one (ps_for PassesOwn.never rfl (pi_enum (by rfl) T.enumerate (pa_cons (pv 0) pa_nil)) (pg_tup rfl (pgs_cons (pg_name (i := 1) sc_check_commands.nd rfl (Or.inl rfl)) (pgs_cons (pg_name (i := 2) sc_check_commands.nd rfl (Or.inl rfl)) pgs_nil))) (pss_one (ps_if (pt_not (pt_val (pe_cal c_is_command hr (by decide) (by rfl) (pa_cons (pv 2) pa_nil)))) (pss_one ps_never) pss_nil)))), ?_⟩
    refine ⟨_, rfl, l, xs, rfl, hl, for_it (walk_enum (K := K) (a := l) (xs := xs)) (fun i σ H' => ∃ v1 v2 : Option V, σ = [some (.ref l), v1, v2] ∧ Same H H')
      ⟨none, none, rfl, Same.refl H⟩ (fun i σ H' _ ⟨_, _, _, e⟩ => e.seq hl) (fun i x σ H1 H2 hi h y => ?_) (fun σ H1 h => ?_)⟩
    · obtain ⟨v1, v2, rfl, e⟩ := h
      obtain ⟨T1, x1, y1, rfl, nT, rfl, e1, e2⟩ := y
      obtain ⟨c, hc, hca⟩ := paired_at hcs e2
      have eT : Same H (upd H1 T1 (.tup [x1, y1])) := same_upd e nT
      refine ⟨T1, _, rfl, SqT.of upd_same, rfl, _, _, rfl, _, _, rfl, rfl, ?_⟩
      refine ⟨_, rfl, y1, c, rfl, hca.same eT, hk c (List.mem_of_getElem? hc), fun H3 e3 => ⟨_, rfl, iteF ?_⟩⟩
      exact ⟨_, _, rfl, eT.trans e3⟩
    · obtain ⟨v1, v2, rfl, e⟩ := h
      exact k _ e
end
end Gc

namespace Gc
open PySem L2
abbrev s_reach : Stmt := top 12
abbrev s_check_number : Stmt := top 10
abbrev s_require : Stmt := top 16
abbrev s_box : Stmt := top 15
def rstep (s : Int × Int × Int) (c : Cmd) : Int × Int × Int :=
  (if s.2.2 + c.dv < s.1 then s.2.2 + c.dv else s.1, if s.2.2 + c.dv > s.2.1 then s.2.2 + c.dv else s.2.1, s.2.2 + c.dv)
def rchM (cs : List Cmd) : Int × Int × Int := cs.foldl rstep (0, 0, 0)
theorem rch_more {cs : List Cmd} {i : Nat} {c : Cmd} (h : cs[i]? = some c) : rchM (cs.take (i + 1)) = rstep (rchM (cs.take i)) c := by
  unfold rchM
  rw [take_snoc h, List.foldl_append]
  rfl
theorem rch_last : ∀ (cs : List Cmd) (s : Int × Int × Int), (cs.foldl rstep s).2.2 = s.2.2 + last cs
  | [], s => by show s.2.2 = s.2.2 + 0; omega
  | c :: cs, s => by
    show (cs.foldl rstep (rstep s c)).2.2 = s.2.2 + (c.dv + last cs)
    rw [rch_last cs]
    show s.2.2 + c.dv + last cs = _
    omega
def spReach (K : PySem.W.Frag) : Sp := fun vs H Q _ => ∃ (l : Addr) (xs : List V) (cs : List Cmd), vs = [.ref l] ∧ SqL K H l xs ∧ CmdsOf K H xs cs ∧ AllOk cs ∧ cs.length ≤ 10000 ∧
  ∀ (H' : Hp) (p : Addr), Same H H' → H p = none → H' p = some (.tup [.int (rchM cs).1, .int (rchM cs).2.1, .int (last cs)]) → Q (.ref p) H'
def spNum : Sp := fun vs H Q _ => ∃ n k : Int, vs = [.int n, .int k] ∧ k ≤ n ∧ Q .non H
def spReq : Sp := fun vs H Q _ => ∃ (d : Addr) (b : Ps) (o v : Int), vs = [.ref d, .int o, .int v] ∧ H d = some (.dK (dkI b)) ∧ b.length ≤ 10000 ∧ Q .non (upd H d (.dK (dkI (req b o v))))
/-- the tuple of a box, its list and its pairs, all new -/
def BoxAt (H H' : Hp) (p : Addr) (st : Option Int) (L : Ps) : Prop := ∃ (m : Addr) (ts : List Addr), H p = none ∧ H m = none ∧ H' p = some (.tup [optV st, .ref m]) ∧ H' m = some (.lst (ts.map V.ref)) ∧
  Paired (fun (t : Addr) (q : Int × Int) => H' t = some (.tup [.int q.1, .int q.2])) ts L
def spBox (K : PySem.W.Frag) : Sp := fun vs H Q _ => ∃ (l : Addr) (xs : List V) (cs : List Cmd) (goal : Int), vs = [.ref l, .int goal] ∧ SqL K H l xs ∧ CmdsOf K H xs cs ∧ AllOk cs ∧ cs.length ≤ 10000 ∧ 1 ≤ goal ∧
  (boxM cs goal = none → ∀ H', Same H H' → Q .non H') ∧ ∀ st L, boxM cs goal = some (st, L) → ∀ H' p, Same H H' → BoxAt H H' p st L → Q (.ref p) H'
section
variable {P : Program} {w : World} {K : PySem.W.Frag} {mg : Str → Option Value} {base : Heap} {wo wn : Addr}
theorem sc_reach : FnScope ["commands", "least", "greatest", "last", "command"] ["commands"] (defScope s_reach) := ⟨rfl, rfl, rfl, by decide +kernel, rfl, by decide +kernel, by decide +kernel⟩
theorem ok_reach {f : Addr} {fd : FuncData} (F : Fun K "reach" "reach" s_reach f fd) (T : TxtB K mg wo wn) (c_check_commands : Cal P w K mg base 3 "check_commands" (spCheck K)) (c_row_change : Cal P w K mg base 1 "row_change" (spRow K)) :
    FnOk P w K mg base CX0 4 f fd ["commands"] (spReach K) := by
  refine F.ok sc_reach (fun vs H Q E h => ?_) (fun cdv A outer s H vs Q E hr h => ?_)
  · obtain ⟨l, xs, cs, rfl, _⟩ := h
    rfl
  · obtain ⟨l, xs, cs, rfl, hl, hcs, hk, hn, k⟩ := h
    refine ⟨_, (pss_cons (ps_expr (pe_cal c_check_commands hr (by decide) (by rfl) (pa_cons (pv 0) pa_nil)))
      (pss_cons (ps_asg3 pe_int (pg_name (i := 1) sc_reach.nd rfl (Or.inl rfl)) (pg_name (i := 2) sc_reach.nd rfl (Or.inl rfl)) (pg_name (i := 3) sc_reach.nd rfl (Or.inl rfl)))
      (pss_cons (ps_for PassesOwn.never rfl (pi_list (pv 0)) (pg_name (i := 4) sc_reach.nd rfl (Or.inl rfl)) (pss_cons (ps_aug (i := 3) sc_reach.nd rfl (Or.inl rfl) (pe_cal c_row_change hr (by decide) (by rfl) (pa_cons (pv 4) pa_nil)) ip_add)
      (pss_cons (ps_set (i := 1) sc_reach.nd rfl (Or.inl rfl) (pe_callB (call_min2 rfl) (by rfl) T.min (by decide +kernel) (pa_cons (pv 1) (pa_cons (pv 3) pa_nil))))
      (pss_one (ps_set (i := 2) sc_reach.nd rfl (Or.inl rfl) (pe_callB (call_max2 rfl) (by rfl) T.max (by decide +kernel) (pa_cons (pv 2) (pa_cons (pv 3) pa_nil))))))))
      (pss_one (ps_ret (pe_tup (pa_cons (pv 1) (pa_cons (pv 2) (pa_cons (pv 3) pa_nil))))))))), ?_⟩
    refine ⟨_, rfl, l, xs, cs, rfl, hl, hcs, hk, hn, fun H1 e1 => ?_⟩
    refine ⟨_, rfl, l, rfl, ⟨_, e1.seq hl⟩, for_list (K := K) (a := l) (xs := xs) (fun i σ H' => ∃ v : Option V, σ = [some (.ref l), some (.int (rchM (cs.take i)).1), some (.int (rchM (cs.take i)).2.1), some (.int (rchM (cs.take i)).2.2), v] ∧ Same H H')
      ⟨none, rfl, e1⟩ (fun i σ H' _ ⟨_, _, e⟩ => e.seq hl) (fun i x σ H2 hi h => ?_) (fun σ H2 h => ?_)⟩
    · obtain ⟨v, rfl, e⟩ := h
      obtain ⟨c, hc, hca⟩ := paired_at hcs hi
      refine ⟨_, rfl, _, rfl, x, c, rfl, hca.same e, _, _, rfl, rfl, ?_⟩
      refine ⟨_, rfl, _, rfl, _, _, rfl, ?_⟩
      refine ⟨_, rfl, _, rfl, _, _, rfl, ?_⟩
      refine ⟨some x, ?_, e⟩
      rw [rch_more hc]
      rfl
    · obtain ⟨v, rfl, e⟩ := h
      have el : (rchM (cs.take xs.length)).2.2 = last cs := by
        rw [hcs.len, List.take_length]
        unfold rchM
        rw [rch_last]
        show (0 : Int) + last cs = last cs
        omega
      rw [el, hcs.len, List.take_length]
      refine ⟨_, rfl, _, rfl, _, rfl, (by show 3 ≤ sizeLine; decide), fun p hp => ?_⟩
      exact k _ p (same_upd e hp) (e.free hp) upd_same
theorem sc_check_number : FnScope ["number", "least"] ["number", "least"] (defScope s_check_number) := ⟨rfl, rfl, rfl, by decide +kernel, rfl, by decide +kernel, by decide +kernel⟩
theorem ok_check_number {f : Addr} {fd : FuncData} (F : Fun K "check_number" "check_number" s_check_number f fd) : FnOk P w K mg base CX0 1 f fd ["number", "least"] spNum := by
  refine F.ok sc_check_number (fun vs H Q E h => ?_) (fun cdv A outer s H vs Q E hr h => ?_)
  · obtain ⟨n, k, rfl, _⟩ := h
    rfl
  · obtain ⟨n, k, rfl, hn, q⟩ := h
    refine ⟨_, (pss_one (ps_if (pt_cmpR op_lt (pv 0) (pv 1) (nomark _)) (pss_one ps_never) pss_nil)), ?_⟩
    exact ⟨_, rfl, _, rfl, _, _, rfl, rfl, _, rfl, ite2 (fun c => absurd (of_decide_eq_true c) (by omega)) (fun _ => q)⟩
theorem sc_require : FnScope ["bounds", "offset", "bound"] ["bounds", "offset", "bound"] (defScope s_require) := ⟨rfl, rfl, rfl, by decide +kernel, rfl, by decide +kernel, by decide +kernel⟩
theorem ok_require {f : Addr} {fd : FuncData} (F : Fun K "require" "require" s_require f fd) (T : TxtB K mg wo wn) : FnOk P w K mg base CX0 1 f fd ["bounds", "offset", "bound"] spReq := by
  refine F.ok sc_require (fun vs H Q E h => ?_) (fun cdv A outer s H vs Q E hr h => ?_)
  · obtain ⟨d, b, o, v, rfl, _⟩ := h
    rfl
  · obtain ⟨d, b, o, v, rfl, hd, hz, k⟩ := h
    refine ⟨_, (pss_one (ps_dput (hu_of hr) (pv 0) (pv 1) (pe_callB (call_max2 rfl) (by rfl) T.max (by decide +kernel) (pa_cons (pv 2) (pa_cons (pe_dget2 (hu_of hr) (pv 0) (pv 1) (pv 2) ⟨rfl, rfl, rfl, rfl⟩) pa_nil))) rfl)), ?_⟩
    have eg : (valV (dkI b) (Sum.inl o : L2.Key)).getD (.int v) = .int ((look b o).getD v) := by
      rw [valV_dkI]
      cases look b o <;> rfl
    refine ⟨_, rfl, _, rfl, d, rfl, .inl ⟨_, .inl hd⟩, _, rfl, _, rfl, _, DGet.k (k := Sum.inl o) hd, v, (look b o).getD v, (by rw [eg]), ?_⟩
    refine ⟨_, rfl, _, rfl, d, _, rfl, DPut.k (k := Sum.inl o) hd ?_, ?_⟩
    · unfold dkI
      rw [List.length_map]
      exact Nat.lt_of_le_of_lt hz (by decide)
    · show Q .non (upd H d (.dK (putK (dkI b) (Sum.inl o : L2.Key) (.int (mx v ((look b o).getD v))))))
      rw [putK_dkI]
      exact k
theorem sc_box : FnScope ["commands", "goal", "bounds", "needed", "offset", "command"] ["commands", "goal"] (defScope s_box) := ⟨rfl, rfl, rfl, by decide +kernel, rfl, by decide +kernel, by decide +kernel⟩
theorem ok_box {f : Addr} {fd : FuncData} (F : Fun K "box" "box" s_box f fd) (T : TxtB K mg wo wn) (c_check_commands : Cal P w K mg base 3 "check_commands" (spCheck K)) (c_row_change : Cal P w K mg base 1 "row_change" (spRow K))
    (c_reach : Cal P w K mg base 4 "reach" (spReach K)) (c_check_number : Cal P w K mg base 1 "check_number" spNum) (c_require : Cal P w K mg base 1 "require" spReq) : FnOk P w K mg base CX0 5 f fd ["commands", "goal"] (spBox K) := by
  refine F.ok sc_box (fun vs H Q E h => ?_) (fun cdv A outer s H vs Q E hr h => ?_)
  · obtain ⟨l, xs, cs, goal, rfl, _⟩ := h
    rfl
  · obtain ⟨l, xs, cs, goal, rfl, hl, hcs, hk, hn, hg, kN, kS⟩ := h
    refine ⟨_, (pss_cons (ps_expr (pe_cal c_check_commands hr (by decide) (by rfl) (pa_cons (pv 0) pa_nil)))
      (pss_cons (ps_expr (pe_cal c_check_number hr (by decide) (by rfl) (pa_cons (pv 1) (pa_cons pe_int pa_nil))))
      (pss_cons (ps_set (i := 2) sc_box.nd rfl (Or.inl rfl) pe_dnewK)
      (pss_cons (ps_set (i := 3) sc_box.nd rfl (Or.inl rfl) (pv 1))
      (pss_cons (ps_set (i := 4) sc_box.nd rfl (Or.inl rfl) (pe_ix ix_tup (pe_cal c_reach hr (by decide) (by rfl) (pa_cons (pv 0) pa_nil)) pe_int (fun _ _ => rfl)))
      (C8.pss_cut (ps_for PassesOwn.never rfl (pi_reversed (by rfl) T.reversed (pa_cons (pv 0) pa_nil)) (pg_name (i := 5) sc_box.nd rfl (Or.inl rfl)) (pss_cons (ps_match (pe_ix ix_tup (pv 5) pe_int (fun _ _ => rfl)) (mc_str (pss_one (ps_ret pe_non)) (mc_str (pss_one (ps_set (i := 3) sc_box.nd rfl (Or.inl rfl) pe_non)) (mc_str (pss_cons (ps_expr (pe_cal c_require hr (by decide) (by rfl) (pa_cons (pv 2) (pa_cons (pv 4) (pa_cons (pv 3) pa_nil)))))
      (pss_one (ps_set (i := 3) sc_box.nd rfl (Or.inl rfl) (pe_ifExp (pt_cmpR op_gt (pv 3) (pe_ix ix_tup (pv 5) pe_int (fun _ _ => rfl)) (nomark _)) (pe_op op_sub (pv 3) (pe_ix ix_tup (pv 5) pe_int (fun _ _ => rfl))) pe_non)))) (mc_str (pss_cons (ps_aug (i := 3) sc_box.nd rfl (Or.inl rfl) (pe_ix ix_tup (pv 5) pe_int (fun _ _ => rfl)) ip_add)
      (pss_one (ps_expr (pe_cal c_require hr (by decide) (by rfl) (pa_cons (pv 2) (pa_cons (pv 4) (pa_cons (pv 3) pa_nil))))))) (mc_any (pss_one (ps_aug (i := 4) sc_box.nd rfl (Or.inl rfl) (pe_cal c_row_change hr (by decide) (by rfl) (pa_cons (pv 5) pa_nil)) ip_sub))))))))
      (pss_one (ps_if (pt_cmpR op_isN (pv 3) pe_non (nomark _)) (pss_one ps_break) pss_nil))))
      (pss_one (ps_ret (pe_tup (pa_cons (pv 3) (pa_cons (pe_sortItems rfl hr.units (pv 2) (by rfl) T.sorted (by decide +kernel)) pa_nil))))))))))), ?_⟩
    refine ⟨_, rfl, l, xs, cs, rfl, hl, hcs, hk, hn, fun H1 e1 => ?_⟩
    refine ⟨_, rfl, _, _, rfl, hg, ?_⟩
    -- bounds = {}; needed = goal; offset = reach(commands)[2]
    refine fun d hd => ?_
    have hd0 : H d = none := e1.free hd
    refine ⟨_, rfl, _, rfl, l, xs, cs, rfl, (same_upd e1 hd).seq hl, hcs.same (same_upd e1 hd), hk, hn, fun H2 p e2 np h2 => ⟨p, _, 2, _, rfl, rfl, SqT.of h2, rfl, ?_⟩⟩
    have e02 : Same H H2 := (same_upd e1 hd).trans e2
    have hd2 : H2 d = some (.dK (dkI [])) := e2 _ _ upd_same
    -- for command in reversed(commands)
    refine ⟨fun σ H' => ∃ (st : Option Int) (b : Ps) (v4 v5 : Option V), σ = [some (.ref l), some (.int goal), some (.ref d), some (optV st), v4, v5] ∧ go cs.reverse (last cs) goal [] = some (st, b) ∧ Same H H' ∧ H' d = some (.dK (dkI b)) ∧ b.length ≤ 10000, ?_, ?_⟩
    · refine ⟨_, rfl, l, xs, rfl, e02.seq hl, RT.for_Itv (K := K) (a := l) (xs := xs) (fun i σ H' => ∃ (off need : Int) (b : Ps) (v5 : Option V), σ = [some (.ref l), some (.int goal), some (.ref d), some (.int need), some (.int off), v5] ∧
          go cs.reverse (last cs) goal [] = go (cs.reverse.drop i) off need b ∧ Same H H' ∧ H' d = some (.dK (dkI b)) ∧ b.length ≤ i ∧ i ≤ cs.length)
        ⟨last cs, goal, [], none, rfl, rfl, e02, hd2, Nat.le_refl _, Nat.zero_le _⟩ (fun i σ H' ⟨_, _, _, _, _, _, e, _⟩ => e.seq hl) (fun i x σ H3 hi hx h => ?_) (fun σ H3 h => ?_)⟩
      · obtain ⟨off, need, b, v5, rfl, hgo, e3, hd3, hb, hil⟩ := h
        obtain ⟨c, hc, hca⟩ := paired_at hcs hx
        have hcl := hcs.len
        have hrev : cs.reverse[i]? = some c := by
          rw [List.getElem?_reverse (by omega), ← hcl]
          exact hc
        have hdrop : cs.reverse.drop i = c :: cs.reverse.drop (i + 1) := by
          obtain ⟨h1, h2⟩ := List.getElem?_eq_some_iff.mp hrev
          rw [List.drop_eq_getElem_cons h1, h2]
        rw [hdrop] at hgo
        obtain ⟨a, rfl, hca0⟩ := hca.same e3
        have hi' : i < cs.length := by omega
        have hb' : b.length ≤ 10000 := by omega
        have goR : ∀ o v, (req b o v).length ≤ i + 1 := fun o v => Nat.le_trans (req_len b o v) (by omega)
        have sameU : ∀ z, Same H (upd H3 d z) := fun z b' o' q => by
          rw [upd_ne (ne_of_none q hd0)]
          exact e3 _ _ q
        cases c with
        | home =>
          refine ⟨_, rfl, a, _, 0, _, rfl, rfl, hca0, rfl, m_yes (by decide +kernel) ?_⟩
          refine kN ?_ _ e3
          unfold boxM
          rw [hgo]
          rfl
        | stop =>
          refine ⟨_, rfl, a, _, 0, _, rfl, rfl, hca0, rfl, m_no (by decide +kernel) (m_yes (by decide +kernel) ?_)⟩
          refine ⟨_, rfl, rfl, _, rfl, iteT ?_⟩
          exact ⟨none, b, _, _, rfl, hgo, e3, hd3, hb'⟩
        | right n =>
          refine ⟨_, rfl, a, _, 0, _, rfl, rfl, hca0, rfl, m_no (by decide +kernel) (m_no (by decide +kernel) (m_yes (by decide +kernel) ?_))⟩
          refine ⟨_, rfl, _, rfl, _, rfl, d, b, off, need, rfl, hd3, hb', ?_⟩
          have hca1 : SqT K (upd H3 d (.dK (dkI (req b off need)))) a (encC (.right n)) := by
            rcases hca0 with (z | ⟨o, z⟩) | z
            · exact .inl (.inl (by rw [upd_ne (ne_of z hd3 (by intro q; cases q))]; exact z))
            · exact .inl (.inr ⟨o, by rw [upd_ne (ne_of z hd3 (by intro q; cases q))]; exact z⟩)
            · exact .inr z
          refine ⟨_, rfl, _, rfl, a, _, 1, _, rfl, rfl, hca1, rfl, _, _, rfl, rfl, _, rfl, ite2 (fun c => ?_) (fun c => ?_)⟩
          · have c' : n < need := of_decide_eq_true c
            refine ⟨_, rfl, _, rfl, a, _, 1, _, rfl, rfl, hca1, rfl, _, _, rfl, rfl, ?_⟩
            refine ⟨_, rfl, rfl, _, rfl, iteF ?_⟩
            refine ⟨off, need - n, req b off need, _, rfl, ?_, sameU _, upd_same, goR _ _, hi'⟩
            rw [hgo]
            simp only [go]
            rw [if_pos c']
          · have c' : ¬ n < need := fun z => c (decide_eq_true z)
            refine ⟨_, rfl, rfl, _, rfl, iteT ?_⟩
            refine ⟨none, req b off need, _, _, rfl, ?_, sameU _, upd_same, Nat.le_trans (goR _ _) (by omega)⟩
            rw [hgo]
            simp only [go]
            rw [if_neg c']
        | left n =>
          refine ⟨_, rfl, a, _, 0, _, rfl, rfl, hca0, rfl, m_no (by decide +kernel) (m_no (by decide +kernel) (m_no (by decide +kernel) (m_yes (by decide +kernel) ?_)))⟩
          refine ⟨_, rfl, _, rfl, a, _, 1, _, rfl, rfl, hca0, rfl, _, _, rfl, rfl, ?_⟩
          refine ⟨_, rfl, _, rfl, _, rfl, d, b, off, need + n, rfl, hd3, hb', ?_⟩
          refine ⟨_, rfl, rfl, _, rfl, iteF ?_⟩
          exact ⟨off, need + n, req b off (need + n), _, rfl, hgo, sameU _, upd_same, goR _ _, hi'⟩
        | down n =>
          refine ⟨_, rfl, a, _, 0, _, rfl, rfl, hca0, rfl, m_no (by decide +kernel) (m_no (by decide +kernel) (m_no (by decide +kernel) (m_no (by decide +kernel) ?_)))⟩
          refine ⟨_, rfl, _, rfl, .ref a, .down n, rfl, ⟨a, rfl, hca0⟩, _, _, rfl, rfl, ?_⟩
          refine ⟨_, rfl, rfl, _, rfl, iteF ?_⟩
          exact ⟨off - n, need, b, _, rfl, hgo, e3, hd3, by omega, hi'⟩
        | up n =>
          refine ⟨_, rfl, a, _, 0, _, rfl, rfl, hca0, rfl, m_no (by decide +kernel) (m_no (by decide +kernel) (m_no (by decide +kernel) (m_no (by decide +kernel) ?_)))⟩
          refine ⟨_, rfl, _, rfl, .ref a, .up n, rfl, ⟨a, rfl, hca0⟩, _, _, rfl, rfl, ?_⟩
          refine ⟨_, rfl, rfl, _, rfl, iteF ?_⟩
          refine ⟨off - -n, need, b, _, rfl, ?_, e3, hd3, by omega, hi'⟩
          rw [hgo]
          simp only [go]
          rw [show off - -n = off + n by omega]
      · obtain ⟨off, need, b, v5, rfl, hgo, e3, hd3, hb, hil⟩ := h
        refine ⟨some need, b, _, _, rfl, ?_, e3, hd3, by omega⟩
        rw [hgo, hcs.len, ← List.length_reverse, List.drop_length]
        rfl
    · rintro σ H3 ⟨st, b, v4, v5, rfl, hgo, e3, hd3, hb⟩
      refine ⟨_, rfl, _, rfl, d, b, rfl, hd3, fun H4 m ts e4 nm hm hp => ⟨(by show 2 ≤ sizeLine; decide), fun p np => ?_⟩⟩
      have e5 : Same H4 (upd H4 p (.tup [optV st, .ref m])) := same_upd (Same.refl _) np
      refine kS st (b.mergeSort leK) ?_ _ p ((e3.trans e4).trans e5) ⟨m, ts, (e3.trans e4).free np, e3.free nm, upd_same, e5 _ _ hm, Paired.mapP hp fun _ _ q => e5 _ _ q⟩
      unfold boxM
      rw [hgo]
      rfl
end
end Gc

namespace Gc
open PySem L2
abbrev s_rng : Stmt := top 19
abbrev s_draw : Stmt := top 20
abbrev s_list : Stmt := top 21
abbrev s_aim : Stmt := top 23
abbrev s_spread : Stmt := top 24
/-- the source of numbers; at most n draws were made -/
def Rng (H : Hp) (a : Addr) (n : Nat) : Prop := ∃ g s c : Int, H a = some (.lst [.int g, .int s, .int c]) ∧ 0 ≤ s ∧ s < 2 ^ 61 ∧ 0 ≤ c ∧ c ≤ n
theorem Rng.same {H H' : Hp} {a : Addr} {n : Nat} (e : Same H H') (h : Rng H a n) : Rng H' a n := by
  obtain ⟨g, s, c, h1, h2⟩ := h
  exact ⟨g, s, c, e _ _ h1, h2⟩
theorem Rng.more {H : Hp} {a : Addr} {n m : Nat} (h : Rng H a n) (l : n ≤ m) : Rng H a m := by
  obtain ⟨g, s, c, h1, h2, h3, h4, h5⟩ := h
  exact ⟨g, s, c, h1, h2, h3, h4, by omega⟩
def spRng (K : PySem.W.Frag) : Sp := fun vs H Q _ => ∃ (a : Addr) (ns : List Int), vs = [.ref a] ∧ SqL K H a (ns.map V.int) ∧ ns.length ≤ 63 ∧
  ∀ (H' : Hp) (p : Addr), Same H H' → H p = none → Rng H' p 0 → Q (.ref p) H'
def spDraw : Sp := fun vs H Q _ => ∃ (a : Addr) (n : Nat) (many : Int), vs = [.ref a, .int many] ∧ Rng H a n ∧ n < 2 ^ 40 ∧ 0 < many ∧ many.natAbs.log2 < 9000 ∧
  ∀ (H' : Hp) (r : Int), Keep a a H H' → Rng H' a (n + 1) → 0 ≤ r → r < many → Q (.int r) H'
structure TxtA (mg : Str → Option Value) : Prop where
  abs : mg "abs" = none
  range : mg "range" = none
  sum : mg "sum" = none
  len : mg "len" = none
  min : mg "min" = none
  max : mg "max" = none
  int : mg "int" = none
theorem cut_mem {xs : List V} {lo hi : Option Int} {i : Nat} {y : V} (h : (cutV xs lo hi)[i]? = some y) : ∃ j : Nat, xs[j]? = some y := by
  unfold cutV at h
  have m := List.mem_of_mem_drop (List.mem_of_mem_take (List.mem_of_getElem? h))
  exact List.mem_iff_getElem?.mp m
theorem dig_step {g c : Int} {i : Nat} (h0 : 0 ≤ g) (h1 : g < 2 ^ (200 * i)) (c0 : 0 ≤ c) (c1 : c < 10 ^ (60 : Int).toNat) : 0 ≤ g * 10 ^ (60 : Int).toNat + c ∧ g * 10 ^ (60 : Int).toNat + c < 2 ^ (200 * (i + 1)) := by
  have e : (2 : Int) ^ (200 * (i + 1)) = 2 ^ (200 * i) * 2 ^ 200 := by rw [← Int.pow_add, Nat.mul_succ]
  have t : (10 : Int) ^ (60 : Int).toNat ≤ 2 ^ 200 := by decide
  have t0 : (0 : Int) ≤ 10 ^ (60 : Int).toNat := by decide
  have m0 : 0 ≤ g * 10 ^ (60 : Int).toNat := Int.mul_nonneg h0 t0
  have m1 : (g + 1) * 10 ^ (60 : Int).toNat ≤ 2 ^ (200 * i) * 2 ^ 200 := Int.mul_le_mul (by omega) t t0 (by omega)
  rw [Int.add_mul] at m1
  rw [e]
  omega
theorem two_le {a b : Nat} (h : a ≤ b) : (2 : Int) ^ a ≤ 2 ^ b := by
  have e := Nat.pow_le_pow_right (n := 2) (by decide) h
  have e2 : ((2 ^ a : Nat) : Int) ≤ ((2 ^ b : Nat) : Int) := Int.ofNat_le.mpr e
  simpa using e2
theorem natAbs_lt2 {g : Int} {k : Nat} (h0 : 0 ≤ g) (h1 : g < 2 ^ k) : g.natAbs < 2 ^ k := by
  have e : ((2 ^ k : Nat) : Int) = 2 ^ k := by simp
  omega
section
variable {P : Program} {w : World} {K : PySem.W.Frag} {mg : Str → Option Value} {base : Heap}
theorem sc_law_rng : FnScope ["script", "digits", "seed", "cell", "size"] ["script"] (defScope s_rng) := ⟨rfl, rfl, rfl, by decide +kernel, rfl, by decide +kernel, by decide +kernel⟩
theorem ok_rng {f : Addr} {fd : FuncData} (F : Fun K "_law_rng" "_law_rng" s_rng f fd) (T : TxtA mg) : FnOk P w K mg base CX0 1 f fd ["script"] (spRng K) := by
  refine F.ok sc_law_rng (fun vs H Q E h => ?_) (fun cdv A outer s H vs Q E hr h => ?_)
  · obtain ⟨a, ns, rfl, _⟩ := h
    rfl
  · obtain ⟨a, ns, rfl, hS, hlen, k⟩ := h
    refine ⟨_, (pss_cons (ps_asg (pe_tup (pa_cons pe_int (pa_cons pe_int pa_nil))) (pg_tup rfl (pgs_cons (pg_name (i := 1) sc_law_rng.nd rfl (Or.inl rfl)) (pgs_cons (pg_name (i := 2) sc_law_rng.nd rfl (Or.inl rfl)) pgs_nil))))
      (pss_cons (ps_for PassesOwn.never rfl (pi_list (pe_slice sl_list (pv 0) po_none (po_some pe_int))) (pg_name (i := 3) sc_law_rng.nd rfl (Or.inl rfl)) (pss_cons (ps_set (i := 4) sc_law_rng.nd rfl (Or.inl rfl) (pe_callB call_abs (by rfl) T.abs (by decide +kernel) (pa_cons (pv 3) pa_nil)))
      (pss_cons (ps_if (pt_cmpR op_ge (pv 4) (pe_op op_pow pe_int pe_int) (nomark _)) (pss_one (ps_set (i := 1) sc_law_rng.nd rfl (Or.inl rfl) (pe_op op_add (pe_op op_mulW (pv 1) (pe_op op_pow pe_int pe_int)) (pe_op op_mod (pv 4) (pe_op op_pow pe_int pe_int))))) pss_nil)
      (pss_one (ps_set (i := 2) sc_law_rng.nd rfl (Or.inl rfl) (pe_op op_mod (pe_op op_add (pe_op op_add (pe_op op_mulW (pv 2) pe_int) (pe_op op_mod (pv 3) pe_int)) pe_int) pe_int))))))
      (pss_one (ps_ret (pe_lst (pa_cons (pv 1) (pa_cons (pv 2) (pa_cons pe_int pa_nil)))))))), ?_⟩
    refine ⟨(by show 2 ≤ sizeLine; decide), fun p0 hp0 => ?_⟩
    refine ⟨p0, _, rfl, SqT.of upd_same, rfl, _, _, rfl, _, _, rfl, rfl, ?_⟩
    generalize gH1 : upd H p0 (.tup [.int 0, .int 88675123]) = H1
    have e1 : Same H H1 := by rw [← gH1]; exact same_upd (Same.refl H) hp0
    refine ⟨_, rfl, _, rfl, a, _, rfl, e1.seq hS, fun b hb => ?_⟩
    generalize gxs : cutV (ns.map V.int) none (some 63) = xs
    have hxs : xs.length ≤ 63 := by
      rw [← gxs]
      exact Nat.le_trans (cutV_length _ _ _) (by rw [List.length_map]; exact hlen)
    have nums : ∀ {i : Nat} {y : V}, xs[i]? = some y → ∃ u, y = V.int u := fun h => by
      rw [← gxs] at h
      obtain ⟨j, hj⟩ := cut_mem h
      exact int_at hj
    generalize gH2 : upd H1 b (.lst xs) = H2
    have hb2 : H2 b = some (.lst xs) := by rw [← gH2]; exact upd_same
    have e2 : Same H H2 := by rw [← gH2]; exact same_upd e1 hb
    refine ⟨b, rfl, ⟨_, SqL.of hb2⟩, for_list (K := K) (a := b) (xs := xs) (fun i σ H' => ∃ (g sd : Int) (v1 v2 : Option V), σ = [some (.ref a), some (.int g), some (.int sd), v1, v2] ∧ Same H2 H' ∧ 0 ≤ g ∧ g < 2 ^ (200 * i) ∧ 0 ≤ sd ∧ sd < 2 ^ 61)
      ⟨0, 88675123, none, none, rfl, Same.refl H2, by decide, by decide, by decide, by decide⟩ (fun i σ H' _ ⟨_, _, _, _, _, e, _⟩ => SqL.of (e _ _ hb2)) ?_ ?_⟩
    · rintro i y σ H' hi ⟨g, sd, v1, v2, rfl, e, g0, g1, s0, s1⟩
      obtain ⟨u, rfl⟩ := nums hi
      have hi' : i < xs.length := (List.getElem?_eq_some_iff.mp hi).1
      refine ⟨_, rfl, _, rfl, ?_⟩
      generalize (if u < 0 then -u else u) = z
      refine ⟨_, rfl, _, _, rfl, rfl, cpow (by decide), _, _, rfl, rfl, _, rfl, ?_⟩
      have n1 := Int.emod_nonneg (sd * 1000003 + u % 2305843009213693921 + 7) (show (2305843009213693951 : Int) ≠ 0 by decide)
      have n2 := Int.emod_lt_of_pos (sd * 1000003 + u % 2305843009213693921 + 7) (show (0 : Int) < 2305843009213693951 by decide)
      have n3 : (2305843009213693951 : Int) < 2 ^ 61 := by decide
      refine ite2 (fun _ => ?_) (fun _ => ?_)
      · refine ⟨_, rfl, _, _, rfl, rfl, cpow (by decide), _, _, rfl, rfl, wide_mul (a := 200 * i + 1) (b := 201) ?_ ?_ (by omega) (by decide) (by omega), _, rfl, _, _, rfl, rfl, cpow (by decide), _, _, rfl, rfl, (show (0 : Int) < 10 ^ (60 : Int).toNat by decide), _, _, rfl, rfl, ?_⟩
        · exact Nat.lt_trans (natAbs_lt2 g0 g1) (Nat.pow_lt_pow_right (by decide) (Nat.lt_succ_self _))
        · decide
        · have d := dig_step g0 g1 (Int.emod_nonneg z (show (10 : Int) ^ (60 : Int).toNat ≠ 0 by decide)) (Int.emod_lt_of_pos z (show (0 : Int) < 10 ^ (60 : Int).toNat by decide))
          refine ⟨_, rfl, _, _, rfl, rfl, wide_mul (a := 61) (b := 61) (by omega) (by decide) (by decide) (by decide) (by decide), _, rfl, _, _, rfl, rfl, (show (0 : Int) < 2305843009213693921 by decide), _, _, rfl, rfl, _, _, rfl, rfl, _, _, rfl, rfl, (show (0 : Int) < 2305843009213693951 by decide), ?_⟩
          exact ⟨_, _, _, _, rfl, e, d.1, d.2, n1, by omega⟩
      · refine ⟨_, rfl, _, _, rfl, rfl, wide_mul (a := 61) (b := 61) (by omega) (by decide) (by decide) (by decide) (by decide), _, rfl, _, _, rfl, rfl, (show (0 : Int) < 2305843009213693921 by decide), _, _, rfl, rfl, _, _, rfl, rfl, _, _, rfl, rfl, (show (0 : Int) < 2305843009213693951 by decide), ?_⟩
        exact ⟨_, _, _, _, rfl, e, g0, Int.lt_of_lt_of_le g1 (two_le (by omega)), n1, by omega⟩
    · rintro σ H' ⟨g, sd, v1, v2, rfl, e, g0, g1, s0, s1⟩
      refine ⟨_, rfl, _, rfl, (by show 3 ≤ sizeLine; decide), fun p hp => ?_⟩
      exact k _ p (same_upd (e2.trans e) hp) ((e2.trans e).free hp) ⟨g, sd, 0, upd_same, s0, s1, by decide, by decide⟩
theorem sc_law_draw : FnScope ["rng", "limit", "found", "mixed"] ["rng", "limit"] (defScope s_draw) := ⟨rfl, rfl, rfl, by decide +kernel, rfl, by decide +kernel, by decide +kernel⟩
theorem ok_draw {f : Addr} {fd : FuncData} (F : Fun K "_law_draw" "_law_draw" s_draw f fd) : FnOk P w K mg base CX0 1 f fd ["rng", "limit"] spDraw := by
  refine F.ok sc_law_draw (fun vs H Q E h => ?_) (fun cdv A outer s H vs Q E hr h => ?_)
  · obtain ⟨a, n, many, rfl, _⟩ := h
    rfl
  · obtain ⟨a, n, many, rfl, hs, hn, m0, mb, k⟩ := h
    obtain ⟨g, sd, c, hA, s0, s1, c0, c1⟩ := hs
    refine ⟨_, (pss_cons (ps_if (pt_cmpR op_gt (pe_ix ix_list (pv 0) pe_int (fun _ _ => rfl)) pe_int (nomark _)) (pss_cons (ps_set (i := 2) sc_law_draw.nd rfl (Or.inl rfl) (pe_op op_mod (pe_ix ix_list (pv 0) pe_int (fun _ _ => rfl)) (pv 1)))
      (pss_cons (ps_asg (pe_op op_fdivW (pe_ix ix_list (pv 0) pe_int (fun _ _ => rfl)) (pv 1)) (pg_sub (pv 0) pe_int set_list))
      (pss_one (ps_ret (pv 2))))) pss_nil)
      (pss_cons (ps_asg (pe_op op_add (pe_ix ix_list (pv 0) pe_int (fun _ _ => rfl)) pe_int) (pg_sub (pv 0) pe_int set_list))
      (pss_cons (ps_set (i := 3) sc_law_draw.nd rfl (Or.inl rfl) (pe_op op_mod (pe_op op_powW (pe_op op_add (pe_ix ix_list (pv 0) pe_int (fun _ _ => rfl)) (pe_op op_mulW pe_int (pe_ix ix_list (pv 0) pe_int (fun _ _ => rfl)))) pe_int) pe_int))
      (pss_cons (ps_set (i := 3) sc_law_draw.nd rfl (Or.inl rfl) (pe_op op_mod (pe_op op_powW (pe_op op_add (pv 3) (pe_op op_mulW pe_int (pe_ix ix_list (pv 0) pe_int (fun _ _ => rfl)))) pe_int) pe_int))
      (pss_one (ps_ret (pe_op op_mod (pe_op op_fdivW (pv 3) pe_int) (pv 1)))))))), ?_⟩
    refine ⟨_, rfl, a, _, 0, _, rfl, rfl, SqL.of hA, rfl, _, _, rfl, rfl, _, rfl, ?_⟩
    refine ite2 (fun z => ?_) (fun z => ?_)
    · refine ⟨_, rfl, a, _, 0, _, rfl, rfl, SqL.of hA, rfl, _, rfl, _, _, rfl, rfl, m0, ?_⟩
      refine ⟨_, rfl, a, _, 0, _, rfl, rfl, SqL.of hA, rfl, _, rfl, _, _, rfl, rfl, ⟨m0, mb⟩, ?_⟩
      refine ⟨_, rfl, a, _, 0, 0, rfl, rfl, hA, rfl, ?_⟩
      exact ⟨_, rfl, k _ _ (Keep.refl H).upd1 ⟨_, sd, c, upd_same, s0, s1, c0, by omega⟩ (Int.emod_nonneg _ (by omega)) (Int.emod_lt_of_pos _ m0)⟩
    · refine ⟨_, rfl, a, _, 2, _, rfl, rfl, SqL.of hA, rfl, _, _, rfl, rfl, ?_⟩
      refine ⟨_, rfl, a, _, 2, 2, rfl, rfl, hA, rfl, ?_⟩
      have c2 : c + 1 < 2 ^ 41 := by omega
      generalize hH1 : upd H a (.lst ([V.int g, .int sd, .int c].set 2 (.int (c + 1)))) = H1
      have hA1 : H1 a = some (.lst [.int g, .int sd, .int (c + 1)]) := by rw [← hH1]; exact upd_same
      have kp : Keep a a H H1 := by rw [← hH1]; exact (Keep.refl H).upd1
      have mul1 : CMulW 998244353 (c + 1) := wide_mul (a := 61) (b := 61) (by decide) (by omega) (by decide) (by decide) (by decide)
      refine ⟨_, rfl, a, _, 1, _, rfl, rfl, SqL.of hA1, rfl, _, rfl, a, _, 2, _, rfl, rfl, SqL.of hA1, rfl, _, _, rfl, rfl, mul1, _, _, rfl, rfl, _, _, rfl, rfl, cpowW (a := 80) (by decide) (by decide) (by omega) (by decide), _, _, rfl, rfl, (show (0 : Int) < 162259276829213363391578010288127 by decide), ?_⟩
      have n1 := Int.emod_nonneg ((sd + 998244353 * (c + 1)) ^ (3 : Int).toNat) (show (162259276829213363391578010288127 : Int) ≠ 0 by decide)
      have n2 := Int.emod_lt_of_pos ((sd + 998244353 * (c + 1)) ^ (3 : Int).toNat) (show (0 : Int) < 162259276829213363391578010288127 by decide)
      generalize (sd + 998244353 * (c + 1)) ^ (3 : Int).toNat % 162259276829213363391578010288127 = mx1 at n1 n2 ⊢
      have mul2 : CMulW 32452843 (c + 1) := wide_mul (a := 61) (b := 61) (by decide) (by omega) (by decide) (by decide) (by decide)
      refine ⟨_, rfl, _, rfl, a, _, 2, _, rfl, rfl, SqL.of hA1, rfl, _, _, rfl, rfl, mul2, _, _, rfl, rfl, _, _, rfl, rfl, cpowW (a := 120) (by decide) (by decide) (by omega) (by decide), _, _, rfl, rfl, (show (0 : Int) < 170141183460469231731687303715884105727 by decide), ?_⟩
      generalize (mx1 + 32452843 * (c + 1)) ^ (3 : Int).toNat % 170141183460469231731687303715884105727 = mx2
      refine ⟨_, rfl, _, _, rfl, rfl, ⟨by decide, by decide⟩, _, rfl, _, _, rfl, rfl, m0, ?_⟩
      exact k _ _ kp ⟨g, sd, c + 1, hA1, s0, s1, by omega, by omega⟩ (Int.emod_nonneg _ (by omega)) (Int.emod_lt_of_pos _ m0)
end
end Gc

namespace Gc
open PySem L2
def Cmd.num : Cmd → Int
  | .down n => n
  | .up n => n
  | .right n => n
  | .left n => n
  | _ => 0
def AllSmall (cs : List Cmd) : Prop := ∀ c ∈ cs, c.num ≤ 10 ^ 30 ∧ c.dv.natAbs ≤ 2
theorem CmdAt.keep {K : PySem.W.Frag} {H H' : Hp} {v : V} {c : Cmd} {a : Addr} {ys : List V} (e : Keep a a H H') (ha : H a = some (.lst ys)) (h : CmdAt K H v c) : CmdAt K H' v c := by
  obtain ⟨b, e1, h1⟩ := h
  refine ⟨b, e1, ?_⟩
  rcases h1 with (z | ⟨o, z⟩) | z
  · have n := ne_of z ha (by intro q; cases q)
    exact .inl (.inl (e _ _ n n z))
  · have n := ne_of z ha (by intro q; cases q)
    exact .inl (.inr ⟨o, e _ _ n n z⟩)
  · exact .inr z
theorem CmdsOf.keep {K : PySem.W.Frag} {H H' : Hp} {xs : List V} {cs : List Cmd} {a : Addr} {ys : List V} (e : Keep a a H H') (ha : H a = some (.lst ys)) (h : CmdsOf K H xs cs) : CmdsOf K H' xs cs := Paired.mapP h fun _ _ q => q.keep e ha
theorem Paired.snoc {α β : Type} {F : α → β → Prop} : ∀ {xs : List α} {ys : List β} {x : α} {y : β}, Paired F xs ys → F x y → Paired F (xs ++ [x]) (ys ++ [y])
  | _, _, _, _, .nil, h => .cons h .nil
  | _, _, _, _, .cons f t, h => .cons f (Paired.snoc t h)
def spList (K : PySem.W.Frag) : Sp := fun vs H Q _ => ∃ (r : Addr) (n : Nat) (most size : Int), vs = [.ref r, .int most, .int size] ∧ Rng H r n ∧ n < 2 ^ 39 ∧ 0 ≤ most ∧ most ≤ 20 ∧ 1 ≤ size ∧ size ≤ 10 ^ 30 ∧
  ∀ (H' : Hp) (l : Addr) (xs : List V) (cs : List Cmd), Keep r r H H' → Rng H' r (n + 70) → H l = none → H' l = some (.lst xs) → CmdsOf K H' xs cs → AllOk cs → AllSmall cs → (cs.length : Int) ≤ most → Q (.ref l) H'
theorem Keep.free {a l : Addr} {H H' : Hp} {o : HO} (e : Keep a a H H') (h : H l = none) : Keep a a H (upd H' l o) := fun b u h1 h2 hb => by
  rw [upd_ne (ne_of_none hb h)]
  exact e b u h1 h2 hb
theorem Keep.seq {K : PySem.W.Frag} {H H' : Hp} {a l : Addr} {xs : List V} (e : Keep a a H H') (n : l ≠ a) (h : SqL K H l xs) : SqL K H' l xs := by
  rcases h with (h | ⟨o, h⟩) | h
  · exact .inl (.inl (e _ _ n n h))
  · exact .inl (.inr ⟨o, e _ _ n n h⟩)
  · exact .inr h
def LI (K : PySem.W.Frag) (H : Hp) (r l : Addr) (n i : Nat) (H' : Hp) (xs : List V) (cs : List Cmd) : Prop := Keep r r H H' ∧ Rng H' r (n + 1 + 3 * i) ∧ H' l = some (.lst xs) ∧ CmdsOf K H' xs cs ∧ AllOk cs ∧ AllSmall cs ∧ cs.length ≤ i
theorem li_step {K : PySem.W.Frag} {H H1 H6 : Hp} {r l t : Addr} {n i : Nat} {xs : List V} {cs : List Cmd} {c : Cmd} (lr : l ≠ r) (hl0 : H l = none) (h : LI K H r l n i H1 xs cs) (k : Keep r r H1 H6) (g : Rng H6 r (n + 1 + 3 * i + 3))
    (ht : H6 t = none) (ok : c.ok) (sm : c.num ≤ 10 ^ 30 ∧ c.dv.natAbs ≤ 2) : LI K H r l n (i + 1) (upd (upd H6 t (.tup (encC c))) l (.lst (xs ++ [.ref t]))) (xs ++ [.ref t]) (cs ++ [c]) := by
  obtain ⟨a1, ⟨_, _, _, a2, _⟩, a3, a4, a5, a6, a7⟩ := h
  obtain ⟨x, y, z, g1, g2⟩ := g
  have b3 := k _ _ lr lr a3
  have tl : t ≠ l := (ne_of_none b3 ht).symm
  have tr : t ≠ r := (ne_of_none g1 ht).symm
  have s1 : Same H6 (upd H6 t (.tup (encC c))) := same_upd (Same.refl H6) ht
  have b3' := s1 _ _ b3
  have kl : Keep l l (upd H6 t (.tup (encC c))) (upd (upd H6 t (.tup (encC c))) l (.lst (xs ++ [.ref t]))) := (Keep.refl _).upd1
  refine ⟨((a1.trans k).new ht).free hl0, ⟨x, y, z, ?_, ?_⟩, upd_same, Paired.snoc (((a4.keep k a2).same s1).keep kl b3') ⟨t, rfl, SqT.of ?_⟩, ?_, ?_, ?_⟩
  · rw [upd_ne lr.symm, upd_ne tr.symm]
    exact g1
  · obtain ⟨g3, g4, g5, g6⟩ := g2
    exact ⟨g3, g4, g5, by omega⟩
  · rw [upd_ne tl]
    exact upd_same
  · intro d hd
    rcases List.mem_append.mp hd with q | q
    · exact a5 d q
    · rw [List.mem_singleton.mp q]
      exact ok
  · intro d hd
    rcases List.mem_append.mp hd with q | q
    · exact a6 d q
    · rw [List.mem_singleton.mp q]
      exact sm
  · rw [List.length_append, List.length_singleton]
    omega
theorem small_len {n : Nat} (h : n ≤ 1000) : n < sizeLine := by rw [sizeLine_eq]; omega
section
variable {P : Program} {w : World} {K : PySem.W.Frag} {mg : Str → Option Value} {base : Heap}
theorem sc_law_list : FnScope ["rng", "most", "size", "found", "turn", "kind"] ["rng", "most", "size"] (defScope s_list) := ⟨rfl, rfl, rfl, by decide +kernel, rfl, by decide +kernel, by decide +kernel⟩
theorem ok_list {f : Addr} {fd : FuncData} (F : Fun K "_law_list" "_law_list" s_list f fd) (T : TxtA mg) (c_law_draw : Cal P w K mg base 1 "_law_draw" spDraw) : FnOk P w K mg base CX0 2 f fd ["rng", "most", "size"] (spList K) := by
  refine F.ok sc_law_list (fun vs H Q E h => ?_) (fun cdv A outer s H vs Q E hr h => ?_)
  · obtain ⟨r, n, most, size, rfl, _⟩ := h
    rfl
  · obtain ⟨r, n, most, size, rfl, hR, hn, m0, m1, z0, z1, k⟩ := h
    refine ⟨_, (pss_cons (ps_set (i := 3) sc_law_list.nd rfl (Or.inl rfl) (pe_lst pa_nil))
      (pss_cons (ps_for PassesOwn.never rfl (pi_range1 rfl T.range (pa_cons (pe_cal c_law_draw hr (by decide) (by rfl) (pa_cons (pv 0) (pa_cons (pe_op op_add (pv 1) pe_int) pa_nil))) pa_nil)) (pg_name (i := 4) sc_law_list.nd rfl (Or.inl rfl)) (pss_cons (ps_set (i := 5) sc_law_list.nd rfl (Or.inl rfl) (pe_cal c_law_draw hr (by decide) (by rfl) (pa_cons (pv 0) (pa_cons pe_int pa_nil))))
      (pss_one (ps_if (pt_cmpR op_lt (pv 5) pe_int (nomark _)) (pss_one (ps_expr (pe_bm PySem.F.plainAttrs_list PySem.F.slot_list_append PySem.F.type_list_append mt_append (pv 3) (pa_cons (pe_tup (pa_cons (pe_ix ix_list (pe_lst (pa_cons pe_str (pa_cons pe_str pa_nil))) (pv 5) (fun _ _ => rfl)) (pa_cons (pe_op op_add pe_int (pe_cal c_law_draw hr (by decide) (by rfl) (pa_cons (pv 0) (pa_cons pe_int pa_nil)))) pa_nil))) pa_nil)))) (pss_one (ps_if (pt_cmpR op_lt (pv 5) pe_int (nomark _)) (pss_one (ps_expr (pe_bm PySem.F.plainAttrs_list PySem.F.slot_list_append PySem.F.type_list_append mt_append (pv 3) (pa_cons (pe_tup (pa_cons (pe_ix ix_list (pe_lst (pa_cons pe_str (pa_cons pe_str pa_nil))) (pe_op op_mod (pv 5) pe_int) (fun _ _ => rfl)) (pa_cons (pe_op op_add pe_int (pe_cal c_law_draw hr (by decide) (by rfl) (pa_cons (pv 0) (pa_cons (pv 2) pa_nil)))) pa_nil))) pa_nil)))) (pss_one (ps_expr (pe_bm PySem.F.plainAttrs_list PySem.F.slot_list_append PySem.F.type_list_append mt_append (pv 3) (pa_cons (pe_tup (pa_cons (pe_ix ix_list (pe_lst (pa_cons pe_str (pa_cons pe_str pa_nil))) (pe_cal c_law_draw hr (by decide) (by rfl) (pa_cons (pv 0) (pa_cons pe_int pa_nil))) (fun _ _ => rfl)) pa_nil)) pa_nil))))))))))
      (pss_one (ps_ret (pv 3))))), ?_⟩
    -- found = []
    refine ⟨Nat.zero_le _, fun l hl => ?_⟩
    have hr0 : ∃ o, H r = some o := by
      obtain ⟨_, _, _, q, _⟩ := hR
      exact ⟨_, q⟩
    have lr : l ≠ r := by
      obtain ⟨o, q⟩ := hr0
      exact (ne_of_none q hl).symm
    have eA : Same H (upd H l (.lst [])) := same_upd (Same.refl H) hl
    refine ⟨_, rfl, _, rfl, _, _, rfl, rfl, r, n, _, rfl, hR.same eA, by omega, by omega, log9 (a := 10) (by omega) (by decide), fun H1 turns kp1 rg1 t0 t1 => ?_⟩
    have kH : Keep r r H H1 := (Keep.of eA).trans kp1
    have hl1 : H1 l = some (.lst []) := kp1 _ _ lr lr upd_same
    refine ⟨_, rfl, by omega, by omega, for_range (lo := 0) (fun i σ H' => ∃ (v4 v5 : Option V) (xs : List V) (cs : List Cmd), σ = [some (.ref r), some (.int most), some (.int size), some (.ref l), v4, v5] ∧ LI K H r l n i H' xs cs)
      ⟨none, none, [], [], rfl, kH, rg1, hl1, .nil, (fun _ h => nomatch h), (fun _ h => nomatch h), Nat.le_refl _⟩ (fun i σ H2 hi h => ?_) (fun σ H2 h => ?_)⟩
    · obtain ⟨v4, v5, xs, cs, rfl, h⟩ := h
      have hi' : i < 21 := by omega
      obtain ⟨a1, a2, a3, a4, a5, a6, a7⟩ := id h
      have xl : xs.length ≤ 1000 := by
        rw [a4.len]
        omega
      refine ⟨_, rfl, r, _, 9, rfl, a2, by omega, by decide, by decide, fun H3 kd kp3 rg3 k0 k1 => ?_⟩
      have l3 := kp3 _ _ lr lr a3
      refine ⟨_, rfl, _, _, rfl, rfl, _, rfl, ite2 (fun c => ?_) (fun c => ?_)⟩
      · have c' : kd < 2 := of_decide_eq_true c
        refine ⟨_, rfl, .inl ⟨rfl, _, SqL.of l3⟩, (by show 2 ≤ sizeLine; decide), fun q hq => ?_⟩
        have s4 : Same H3 (upd H3 q (.lst [.str "down", .str "up"])) := same_upd (Same.refl _) hq
        rcases (show kd = 0 ∨ kd = 1 by omega) with rfl | rfl
        · refine ⟨_, rfl, q, _, _, _, rfl, rfl, SqL.of upd_same, rfl, _, rfl, r, _, 2, rfl, rg3.same s4, by omega, by decide, by decide, fun H5 d kp5 rg5 d0 d1 => ?_⟩
          refine ⟨_, _, rfl, rfl, (by show 2 ≤ sizeLine; decide), fun t ht => ?_⟩
          have k16 : Keep r r H2 H5 := (kp3.trans (Keep.of s4)).trans kp5
          refine ⟨l, _, _, rfl, rfl, (same_upd (Same.refl H5) ht) _ _ (k16 _ _ lr lr a3), small_len xl, ?_⟩
          exact ⟨_, _, _, _, rfl, li_step (c := .down (1 + d)) lr hl h k16 (rg5.more (by omega)) ht (by show 1 ≤ 1 + d; omega) ⟨by show 1 + d ≤ 10 ^ 30; omega, by show (1 + d).natAbs ≤ 2; omega⟩⟩
        · refine ⟨_, rfl, q, _, _, _, rfl, rfl, SqL.of upd_same, rfl, _, rfl, r, _, 2, rfl, rg3.same s4, by omega, by decide, by decide, fun H5 d kp5 rg5 d0 d1 => ?_⟩
          refine ⟨_, _, rfl, rfl, (by show 2 ≤ sizeLine; decide), fun t ht => ?_⟩
          have k16 : Keep r r H2 H5 := (kp3.trans (Keep.of s4)).trans kp5
          refine ⟨l, _, _, rfl, rfl, (same_upd (Same.refl H5) ht) _ _ (k16 _ _ lr lr a3), small_len xl, ?_⟩
          exact ⟨_, _, _, _, rfl, li_step (c := .up (1 + d)) lr hl h k16 (rg5.more (by omega)) ht (by show 1 ≤ 1 + d; omega) ⟨by show 1 + d ≤ 10 ^ 30; omega, by show (-(1 + d)).natAbs ≤ 2; omega⟩⟩
      · refine ⟨_, rfl, _, _, rfl, rfl, _, rfl, ite2 (fun c2 => ?_) (fun c2 => ?_)⟩
        · refine ⟨_, rfl, .inl ⟨rfl, _, SqL.of l3⟩, (by show 2 ≤ sizeLine; decide), fun q hq => ?_⟩
          have s4 : Same H3 (upd H3 q (.lst [.str "left", .str "right"])) := same_upd (Same.refl _) hq
          refine ⟨_, rfl, _, _, rfl, rfl, (show (0 : Int) < 2 by decide), ?_⟩
          rcases (show kd % 2 = 0 ∨ kd % 2 = 1 by omega) with e0 | e0
          · refine ⟨q, _, _, _, rfl, rfl, SqL.of upd_same, (by rw [e0]; rfl), _, rfl, _, rfl, r, _, size, rfl, rg3.same s4, by omega, by omega, log9 (a := 100) (by omega) (by decide), fun H5 d kp5 rg5 d0 d1 => ?_⟩
            refine ⟨_, _, rfl, rfl, (by show 2 ≤ sizeLine; decide), fun t ht => ?_⟩
            have k16 : Keep r r H2 H5 := (kp3.trans (Keep.of s4)).trans kp5
            refine ⟨l, _, _, rfl, rfl, (same_upd (Same.refl H5) ht) _ _ (k16 _ _ lr lr a3), small_len xl, ?_⟩
            exact ⟨_, _, _, _, rfl, li_step (c := .left (1 + d)) lr hl h k16 (rg5.more (by omega)) ht (by show 1 ≤ 1 + d; omega) ⟨by show 1 + d ≤ 10 ^ 30; omega, Nat.zero_le _⟩⟩
          · refine ⟨q, _, _, _, rfl, rfl, SqL.of upd_same, (by rw [e0]; rfl), _, rfl, _, rfl, r, _, size, rfl, rg3.same s4, by omega, by omega, log9 (a := 100) (by omega) (by decide), fun H5 d kp5 rg5 d0 d1 => ?_⟩
            refine ⟨_, _, rfl, rfl, (by show 2 ≤ sizeLine; decide), fun t ht => ?_⟩
            have k16 : Keep r r H2 H5 := (kp3.trans (Keep.of s4)).trans kp5
            refine ⟨l, _, _, rfl, rfl, (same_upd (Same.refl H5) ht) _ _ (k16 _ _ lr lr a3), small_len xl, ?_⟩
            exact ⟨_, _, _, _, rfl, li_step (c := .right (1 + d)) lr hl h k16 (rg5.more (by omega)) ht (by show 1 ≤ 1 + d; omega) ⟨by show 1 + d ≤ 10 ^ 30; omega, Nat.zero_le _⟩⟩
        · refine ⟨_, rfl, .inl ⟨rfl, _, SqL.of l3⟩, (by show 2 ≤ sizeLine; decide), fun q hq => ?_⟩
          have s4 : Same H3 (upd H3 q (.lst [.str "home", .str "end"])) := same_upd (Same.refl _) hq
          have q4 : upd H3 q (.lst [.str "home", .str "end"]) q = some (.lst [.str "home", .str "end"]) := upd_same
          have qr : q ≠ r := by
            obtain ⟨_, _, _, z, _⟩ := rg3
            exact (ne_of_none z hq).symm
          refine ⟨_, rfl, r, _, 2, rfl, rg3.same s4, by omega, by decide, by decide, fun H5 d kp5 rg5 d0 d1 => ?_⟩
          have k16 : Keep r r H2 H5 := (kp3.trans (Keep.of s4)).trans kp5
          rcases (show d = 0 ∨ d = 1 by omega) with rfl | rfl
          · refine ⟨q, _, _, _, rfl, rfl, SqL.of (kp5 _ _ qr qr q4), rfl, (by show 1 ≤ sizeLine; decide), fun t ht => ?_⟩
            refine ⟨l, _, _, rfl, rfl, (same_upd (Same.refl H5) ht) _ _ (k16 _ _ lr lr a3), small_len xl, ?_⟩
            exact ⟨_, _, _, _, rfl, li_step (c := .home) lr hl h k16 (rg5.more (by omega)) ht trivial ⟨by show (0 : Int) ≤ 10 ^ 30; decide, Nat.zero_le _⟩⟩
          · refine ⟨q, _, _, _, rfl, rfl, SqL.of (kp5 _ _ qr qr q4), rfl, (by show 1 ≤ sizeLine; decide), fun t ht => ?_⟩
            refine ⟨l, _, _, rfl, rfl, (same_upd (Same.refl H5) ht) _ _ (k16 _ _ lr lr a3), small_len xl, ?_⟩
            exact ⟨_, _, _, _, rfl, li_step (c := .stop) lr hl h k16 (rg5.more (by omega)) ht trivial ⟨by show (0 : Int) ≤ 10 ^ 30; decide, Nat.zero_le _⟩⟩
    · obtain ⟨v4, v5, xs, cs, rfl, a1, a2, a3, a4, a5, a6, a7⟩ := h
      exact ⟨_, rfl, k _ l xs cs a1 (a2.more (by omega)) hl a3 a4 a5 a6 (by omega)⟩
end
end Gc

namespace Gc
open PySem L2
def spSpread (K : PySem.W.Frag) : Sp := fun vs H Q _ => ∃ (l : Addr) (xs : List V) (cs : List Cmd), vs = [.ref l] ∧ SqL K H l xs ∧ CmdsOf K H xs cs ∧
  ∀ (H' : Hp) (p : Addr), Same H H' → H' p = some (.tup [.int (rchM cs).1, .int (rchM cs).2.1, .int (last cs)]) → Q (.ref p) H'
def spAim (K : PySem.W.Frag) : Sp := fun vs H Q _ => ∃ (r l : Addr) (n : Nat) (xs : List V) (cs : List Cmd), vs = [.ref r, .ref l] ∧ Rng H r n ∧ n < 2 ^ 39 ∧ SqL K H l xs ∧ l ≠ r ∧ CmdsOf K H xs cs ∧ AllOk cs ∧ AllSmall cs ∧ cs.length ≤ 20 ∧
  ∀ (H' : Hp) (a : Int), Keep r r H H' → Rng H' r (n + 10) → 1 ≤ a → a ≤ 10 ^ 30 - 1 → Q (.int a) H'
theorem at_t {u v : V} {b : Bool} (h : b = true) : atI [u, v] (if b = true then (1 : Int) else 0) = some v := by
  subst h
  rfl
theorem at_f {u v : V} {b : Bool} (h : b = false) : atI [u, v] (if b = true then (1 : Int) else 0) = some u := by
  subst h
  rfl
theorem cut_ints (ns : List Int) (lo hi : Option Int) : ∃ ms : List Int, cutV (ns.map V.int) lo hi = ms.map V.int :=
  ⟨_, by unfold cutV; rw [← List.map_drop, ← List.map_take]⟩
theorem last_more {cs : List Cmd} {i : Nat} {c : Cmd} (h : cs[i]? = some c) : last (cs.take (i + 1)) = last (cs.take i) + c.dv := by
  rw [take_snoc h, last_app]
  show _ + (c.dv + 0) = _
  omega
theorem rch_within (cs : List Cmd) : Within cs (rchM cs).1 (rchM cs).2.1 ∧ (rchM cs).2.2 = last cs := by
  have key : ∀ n, n ≤ cs.length → (∀ i, i ≤ n → (rchM (cs.take n)).1 ≤ last (cs.take i) ∧ last (cs.take i) ≤ (rchM (cs.take n)).2.1) ∧ (rchM (cs.take n)).2.2 = last (cs.take n) := by
    intro n
    induction n with
    | zero =>
      intro _
      refine ⟨fun i hi => ?_, rfl⟩
      obtain rfl : i = 0 := by omega
      exact ⟨Int.le_refl 0, Int.le_refl 0⟩
    | succ n ih =>
      intro hn
      obtain ⟨h1, h2⟩ := ih (by omega)
      have hc : cs[n]? = some cs[n] := List.getElem?_eq_getElem (by omega)
      rw [rch_more hc]
      have lm := last_more hc
      unfold rstep
      refine ⟨fun i hi => ?_, by rw [h2, lm]⟩
      have top : (if (rchM (cs.take n)).2.2 + cs[n].dv < (rchM (cs.take n)).1 then (rchM (cs.take n)).2.2 + cs[n].dv else (rchM (cs.take n)).1) ≤ (rchM (cs.take n)).1 ∧ (if (rchM (cs.take n)).2.2 + cs[n].dv < (rchM (cs.take n)).1 then (rchM (cs.take n)).2.2 + cs[n].dv else (rchM (cs.take n)).1) ≤ (rchM (cs.take n)).2.2 + cs[n].dv := by
        split <;> omega
      have bot : (rchM (cs.take n)).2.1 ≤ (if (rchM (cs.take n)).2.2 + cs[n].dv > (rchM (cs.take n)).2.1 then (rchM (cs.take n)).2.2 + cs[n].dv else (rchM (cs.take n)).2.1) ∧ (rchM (cs.take n)).2.2 + cs[n].dv ≤ (if (rchM (cs.take n)).2.2 + cs[n].dv > (rchM (cs.take n)).2.1 then (rchM (cs.take n)).2.2 + cs[n].dv else (rchM (cs.take n)).2.1) := by
        split <;> omega
      by_cases e : i = n + 1
      · subst e
        rw [lm, ← h2]
        exact ⟨top.2, bot.2⟩
      · have q := h1 i (by omega)
        exact ⟨Int.le_trans top.1 q.1, Int.le_trans q.2 bot.1⟩
  have kl := key cs.length (Nat.le_refl _)
  rw [List.take_length] at kl
  refine ⟨fun i => ?_, kl.2⟩
  by_cases l : i ≤ cs.length
  · exact kl.1 i l
  · rw [List.take_of_length_le (by omega)]
    have := kl.1 cs.length (Nat.le_refl _)
    rw [List.take_length] at this
    exact this
theorem rch_flat {cs : List Cmd} {i : Nat} {c : Cmd} (h : cs[i]? = some c) (d : c.dv = 0) : rchM (cs.take (i + 1)) = rchM (cs.take i) := by
  rw [rch_more h]
  have w := (rch_within (cs.take i)).1.whole
  have e := (rch_within (cs.take i)).2
  unfold rstep
  rw [d, Int.add_zero, if_neg (by omega), if_neg (by omega)]
theorem rch_vert {cs : List Cmd} {i : Nat} {c : Cmd} (h : cs[i]? = some c) {d : Int} (hd : c.dv = d) : (rchM (cs.take (i + 1))).1 = (if last (cs.take i) + d < (rchM (cs.take i)).1 then last (cs.take i) + d else (rchM (cs.take i)).1) ∧
    (rchM (cs.take (i + 1))).2.1 = if last (cs.take i) + d > (rchM (cs.take i)).2.1 then last (cs.take i) + d else (rchM (cs.take i)).2.1 := by
  rw [rch_more h]
  have e := (rch_within (cs.take i)).2
  unfold rstep
  rw [hd, e]
  exact ⟨rfl, rfl⟩
section
variable {P : Program} {w : World} {K : PySem.W.Frag} {mg : Str → Option Value} {base : Heap}
theorem sc_law_spread : FnScope ["steps", "here", "least", "greatest", "step"] ["steps"] (defScope s_spread) := ⟨rfl, rfl, rfl, by decide +kernel, rfl, by decide +kernel, by decide +kernel⟩
theorem ok_spread {f : Addr} {fd : FuncData} (F : Fun K "_law_spread" "_law_spread" s_spread f fd) (T : TxtA mg) : FnOk P w K mg base CX0 1 f fd ["steps"] (spSpread K) := by
  refine F.ok sc_law_spread (fun vs H Q E h => ?_) (fun cdv A outer s H vs Q E hr h => ?_)
  · obtain ⟨l, xs, cs, rfl, _⟩ := h
    rfl
  · obtain ⟨l, xs, cs, rfl, hl, hcs, k⟩ := h
    refine ⟨_, (pss_cons (ps_asg (pe_tup (pa_cons pe_int (pa_cons pe_int (pa_cons pe_int pa_nil)))) (pg_tup rfl (pgs_cons (pg_name (i := 1) sc_law_spread.nd rfl (Or.inl rfl)) (pgs_cons (pg_name (i := 2) sc_law_spread.nd rfl (Or.inl rfl)) (pgs_cons (pg_name (i := 3) sc_law_spread.nd rfl (Or.inl rfl)) pgs_nil)))))
      (pss_cons (ps_for PassesOwn.never rfl (pi_list (pv 0)) (pg_name (i := 4) sc_law_spread.nd rfl (Or.inl rfl)) (pss_one (ps_if (pt_cmpR op_in_seq (pe_ix ix_tup (pv 4) pe_int (fun _ _ => rfl)) (pe_tup (pa_cons pe_str (pa_cons pe_str pa_nil))) (by rfl)) (pss_cons (ps_set (i := 1) sc_law_spread.nd rfl (Or.inl rfl) (pe_op op_add (pv 1) (pe_ix ix_list (pe_lst (pa_cons (pe_ix ix_tup (pv 4) pe_int (fun _ _ => rfl)) (pa_cons (pe_op op_sub pe_int (pe_ix ix_tup (pv 4) pe_int (fun _ _ => rfl))) pa_nil))) (pe_callTy call_int1 (by rfl) T.int (by decide +kernel) (pa_cons (pe_cmpR op_eq (pe_ix ix_tup (pv 4) pe_int (fun _ _ => rfl)) pe_str (nomark _)) pa_nil)) (fun _ _ => rfl))))
      (pss_one (ps_par (i := 2) (j := 3) rfl sc_law_spread.nd rfl rfl (by decide) rfl rfl (pa_cons (pe_callB (call_min2 rfl) (by rfl) T.min (by decide +kernel) (pa_cons (pv 2) (pa_cons (pv 1) pa_nil))) (pa_cons (pe_callB (call_max2 rfl) (by rfl) T.max (by decide +kernel) (pa_cons (pv 3) (pa_cons (pv 1) pa_nil))) pa_nil)) (by rfl)))) pss_nil)))
      (pss_one (ps_ret (pe_tup (pa_cons (pv 2) (pa_cons (pv 3) (pa_cons (pv 1) pa_nil)))))))), ?_⟩
    refine ⟨(by show 3 ≤ sizeLine; decide), fun p0 hp0 => ?_⟩
    refine ⟨p0, _, rfl, SqT.of upd_same, rfl, _, _, rfl, _, _, rfl, _, _, rfl, rfl, ?_⟩
    generalize gH1 : upd H p0 (.tup [.int 0, .int 0, .int 0]) = H1
    have e1 : Same H H1 := by rw [← gH1]; exact same_upd (Same.refl H) hp0
    refine ⟨_, rfl, l, rfl, ⟨_, e1.seq hl⟩, for_list (K := K) (a := l) (xs := xs) (fun i σ H' => ∃ (v4 : Option V), σ = [some (.ref l), some (.int (last (cs.take i))), some (.int (rchM (cs.take i)).1), some (.int (rchM (cs.take i)).2.1), v4] ∧ Same H H')
      ⟨none, rfl, e1⟩ (fun i σ H' _ ⟨_, _, e⟩ => e.seq hl) (fun i y σ H2 hi h => ?_) (fun σ H2 h => ?_)⟩
    · obtain ⟨v4, rfl, e2⟩ := h
      obtain ⟨c, hc, t, rfl, ht0⟩ := paired_at hcs hi
      have ht := seq_t e2 ht0
      have lm := last_more hc
      cases c with
      | down n =>
        refine ⟨_, rfl, t, _, 0, _, rfl, rfl, ht, rfl, (by show 2 ≤ sizeLine; decide), fun p1 hp1 => ?_⟩
        have s1 := same_upd (Same.refl H2) hp1 (o := .tup [.str "down", .str "up"])
        refine ⟨p1, _, rfl, .inr (SqT.of upd_same), rfl, rfl, true, by decide +kernel, iteT ?_⟩
        refine ⟨_, rfl, _, rfl, t, _, 1, _, rfl, rfl, seq_t s1 ht, rfl, _, rfl, t, _, 1, _, rfl, rfl, seq_t s1 ht, rfl, _, _, rfl, rfl, (by show 2 ≤ sizeLine; decide), fun q hq => ?_⟩
        have s2 := same_upd s1 hq (o := .lst [.int n, .int (0 - n)])
        refine ⟨_, rfl, t, _, 0, _, rfl, rfl, seq_t s2 ht, rfl, rfl, .inr ⟨_, rfl, q, _, _, _, rfl, rfl, SqL.of upd_same, at_f (by decide +kernel), _, _, rfl, rfl, ?_⟩⟩
        refine ⟨_, rfl, _, rfl, _, _, rfl, _, rfl, _, rfl, _, _, rfl, _, _, rfl, ?_⟩
        have e9 : last (cs.take (i + 1)) = last (cs.take i) + n := lm
        obtain ⟨v1, v2⟩ := rch_vert hc (show (Cmd.down n).dv = n from rfl)
        refine ⟨some (.ref t), ?_, e2.trans s2⟩
        rw [e9, v1, v2]
        rfl
      | up n =>
        refine ⟨_, rfl, t, _, 0, _, rfl, rfl, ht, rfl, (by show 2 ≤ sizeLine; decide), fun p1 hp1 => ?_⟩
        have s1 := same_upd (Same.refl H2) hp1 (o := .tup [.str "down", .str "up"])
        refine ⟨p1, _, rfl, .inr (SqT.of upd_same), rfl, rfl, true, by decide +kernel, iteT ?_⟩
        refine ⟨_, rfl, _, rfl, t, _, 1, _, rfl, rfl, seq_t s1 ht, rfl, _, rfl, t, _, 1, _, rfl, rfl, seq_t s1 ht, rfl, _, _, rfl, rfl, (by show 2 ≤ sizeLine; decide), fun q hq => ?_⟩
        have s2 := same_upd s1 hq (o := .lst [.int n, .int (0 - n)])
        refine ⟨_, rfl, t, _, 0, _, rfl, rfl, seq_t s2 ht, rfl, rfl, .inr ⟨_, rfl, q, _, _, _, rfl, rfl, SqL.of upd_same, at_t (by decide +kernel), _, _, rfl, rfl, ?_⟩⟩
        refine ⟨_, rfl, _, rfl, _, _, rfl, _, rfl, _, rfl, _, _, rfl, _, _, rfl, ?_⟩
        have e9 : last (cs.take (i + 1)) = last (cs.take i) + (0 - n) := by
          rw [lm]
          show _ + -n = _
          omega
        obtain ⟨v1, v2⟩ := rch_vert hc (show (Cmd.up n).dv = 0 - n by show -n = 0 - n; omega)
        refine ⟨some (.ref t), ?_, e2.trans s2⟩
        rw [e9, v1, v2]
        rfl
      | right n =>
        refine ⟨_, rfl, t, _, 0, _, rfl, rfl, ht, rfl, (by show 2 ≤ sizeLine; decide), fun p1 hp1 => ?_⟩
        have s1 := same_upd (Same.refl H2) hp1 (o := .tup [.str "down", .str "up"])
        refine ⟨p1, _, rfl, .inr (SqT.of upd_same), rfl, rfl, false, by decide +kernel, iteF ?_⟩
        have e9 : last (cs.take (i + 1)) = last (cs.take i) := lm.trans (Int.add_zero _)
        refine ⟨some (.ref t), ?_, e2.trans s1⟩
        rw [e9, rch_flat hc rfl]
        rfl
      | left n =>
        refine ⟨_, rfl, t, _, 0, _, rfl, rfl, ht, rfl, (by show 2 ≤ sizeLine; decide), fun p1 hp1 => ?_⟩
        have s1 := same_upd (Same.refl H2) hp1 (o := .tup [.str "down", .str "up"])
        refine ⟨p1, _, rfl, .inr (SqT.of upd_same), rfl, rfl, false, by decide +kernel, iteF ?_⟩
        have e9 : last (cs.take (i + 1)) = last (cs.take i) := lm.trans (Int.add_zero _)
        refine ⟨some (.ref t), ?_, e2.trans s1⟩
        rw [e9, rch_flat hc rfl]
        rfl
      | home =>
        refine ⟨_, rfl, t, _, 0, _, rfl, rfl, ht, rfl, (by show 2 ≤ sizeLine; decide), fun p1 hp1 => ?_⟩
        have s1 := same_upd (Same.refl H2) hp1 (o := .tup [.str "down", .str "up"])
        refine ⟨p1, _, rfl, .inr (SqT.of upd_same), rfl, rfl, false, by decide +kernel, iteF ?_⟩
        have e9 : last (cs.take (i + 1)) = last (cs.take i) := lm.trans (Int.add_zero _)
        refine ⟨some (.ref t), ?_, e2.trans s1⟩
        rw [e9, rch_flat hc rfl]
        rfl
      | stop =>
        refine ⟨_, rfl, t, _, 0, _, rfl, rfl, ht, rfl, (by show 2 ≤ sizeLine; decide), fun p1 hp1 => ?_⟩
        have s1 := same_upd (Same.refl H2) hp1 (o := .tup [.str "down", .str "up"])
        refine ⟨p1, _, rfl, .inr (SqT.of upd_same), rfl, rfl, false, by decide +kernel, iteF ?_⟩
        have e9 : last (cs.take (i + 1)) = last (cs.take i) := lm.trans (Int.add_zero _)
        refine ⟨some (.ref t), ?_, e2.trans s1⟩
        rw [e9, rch_flat hc rfl]
        rfl
    · obtain ⟨v4, rfl, e2⟩ := h
      refine ⟨_, rfl, _, rfl, _, rfl, (by show 3 ≤ sizeLine; decide), fun p hp => ?_⟩
      refine k _ p (same_upd e2 hp) ?_
      rw [upd_same, hcs.len, List.take_length]
theorem sc_law_aim : FnScope ["rng", "steps", "some", "lefts", "near", "found", "step"] ["rng", "steps"] (defScope s_aim) := ⟨rfl, rfl, rfl, by decide +kernel, rfl, by decide +kernel, by decide +kernel⟩
theorem ok_aim {f : Addr} {fd : FuncData} (F : Fun K "_law_aim" "_law_aim" s_aim f fd) (T : TxtA mg) (c_law_draw : Cal P w K mg base 1 "_law_draw" spDraw) : FnOk P w K mg base CX0 2 f fd ["rng", "steps"] (spAim K) := by
  refine F.ok sc_law_aim (fun vs H Q E h => ?_) (fun cdv A outer s H vs Q E hr h => ?_)
  · obtain ⟨r, l, n, xs, cs, rfl, _⟩ := h
    rfl
  · obtain ⟨r, l, n, xs, cs, rfl, hR, hn, hl, lr, hcs, ok, sm, ln, k⟩ := h
    refine ⟨_, (pss_cons (ps_setLc (i := 2) (own := [("step", 6)]) rfl sc_law_aim.nd rfl rfl (sw_true rfl rfl rfl (by decide +kernel)) (pi_list (pv 1)) (blkOk_by (N := ["rng", "steps", "some", "lefts", "near", "found", "step"]) (sc := defScope s_aim) (by decide +kernel)) (fun _ _ _ _ _ => (pg_name (i := 6) sc_law_aim.nd rfl (Or.inl rfl))) (fun _ _ _ _ _ => (pts_one (pt_cmpR op_eq (pe_ix (show IxR _ (rIxT K) from ix_tup) (pv 6) pe_int (fun _ _ => rfl)) pe_str (nomark _)))) (fun _ _ _ _ _ => (pe_ix (show IxR _ (rIxT K) from ix_tup) (pv 6) pe_int (fun _ _ => rfl))))
      (pss_cons (ps_set (i := 3) sc_law_aim.nd rfl (Or.inl rfl) (pe_callB (cr_sum rfl) (by rfl) T.sum (by decide +kernel) (pa_cons (pe_lc (own := [("step", 6)]) rfl sc_law_aim.nd (pi_list (pv 1)) (blkOk_by (N := ["rng", "steps", "some", "lefts", "near", "found", "step"]) (sc := defScope s_aim) (by decide +kernel)) (fun _ _ _ _ _ => (pg_name (i := 6) sc_law_aim.nd rfl (Or.inl rfl))) (fun _ _ _ _ _ => (pts_one (pt_cmpR op_eq (pe_ix (show IxR _ (rIxT K) from ix_tup) (pv 6) pe_int (fun _ _ => rfl)) pe_str (nomark _)))) (fun _ _ _ _ _ => (pe_ix (show IxR _ (rIxT K) from ix_tup) (pv 6) pe_int (fun _ _ => rfl)))) pa_nil)))
      (pss_cons (ps_set (i := 4) sc_law_aim.nd rfl (Or.inl rfl) (pe_op op_sub (pe_op op_add (pe_op op_sub (pe_callB (cr_sum rfl) (by rfl) T.sum (by decide +kernel) (pa_cons (pe_slice sl_list (pv 2) (po_some (pe_cal c_law_draw hr (by decide) (by rfl) (pa_cons (pv 0) (pa_cons (pe_op op_add (pe_callB call_len_seq (by rfl) T.len (by decide +kernel) (pa_cons (pv 2) pa_nil)) pe_int) pa_nil)))) po_none) pa_nil)) (pe_op op_mulW (pv 3) (pe_cal c_law_draw hr (by decide) (by rfl) (pa_cons (pv 0) (pa_cons pe_int pa_nil))))) (pe_cal c_law_draw hr (by decide) (by rfl) (pa_cons (pv 0) (pa_cons pe_int pa_nil)))) pe_int))
      (pss_cons (ps_set (i := 5) sc_law_aim.nd rfl (Or.inl rfl) (pe_ix ix_list (pe_lst (pa_cons (pe_op op_add pe_int (pe_cal c_law_draw hr (by decide) (by rfl) (pa_cons (pv 0) (pa_cons pe_int pa_nil)))) (pa_cons (pv 4) (pa_cons (pv 4) (pa_cons (pe_op op_add pe_int (pe_cal c_law_draw hr (by decide) (by rfl) (pa_cons (pv 0) (pa_cons (pe_op op_sub (pe_op op_pow pe_int pe_int) pe_int) pa_nil)))) pa_nil))))) (pe_cal c_law_draw hr (by decide) (by rfl) (pa_cons (pv 0) (pa_cons pe_int pa_nil))) (fun _ _ => rfl)))
      (pss_one (ps_ret (pe_callB (call_min2 rfl) (by rfl) T.min (by decide +kernel) (pa_cons (pe_callB (call_max2 rfl) (by rfl) T.max (by decide +kernel) (pa_cons pe_int (pa_cons (pv 5) pa_nil))) (pa_cons (pe_op op_sub (pe_op op_pow pe_int pe_int) pe_int) pa_nil))))))))), ?_⟩
    -- some = [step[1] for step in steps if step[0] == 'right']
    refine ⟨_, rfl, l, rfl, ⟨_, hl⟩, fun D hD => ?_⟩
    have hr0 : ∃ o, H r = some o := by
      obtain ⟨_, _, _, q, _⟩ := hR
      exact ⟨_, q⟩
    refine lc_list (K := K) (a := l) (xs := xs) (fun i H' => ∃ ns : List Int, Same H H' ∧ H' D = some (.lst (ns.map V.int)) ∧ ns.length ≤ i) ⟨[], same_upd (Same.refl H) hD, upd_same, Nat.le_refl _⟩ (fun i H' _ ⟨_, e, _⟩ => e.seq hl) (fun i x H' hi h => ?_) (fun H1 h => ?_)
    · obtain ⟨ns, e, hd, ln1⟩ := h
      obtain ⟨c, hc, t, rfl, ht0⟩ := paired_at hcs hi
      have ht := seq_t e ht0
      have li := (List.getElem?_eq_some_iff.mp hc).1
      cases c with
      | right n =>
        refine ⟨rfl, _, rfl, t, _, 0, _, rfl, rfl, ht, rfl, rfl, true, by decide +kernel, iteT ?_⟩
        refine ⟨_, rfl, t, _, 1, _, rfl, rfl, ht, rfl, _, hd, small_len (by rw [List.length_map]; omega), ns ++ [n], fun b o hb => ?_, ?_, ?_⟩
        · rw [upd_ne (ne_of_none hb hD)]
          exact e b o hb
        · rw [upd_same, List.map_append]
          rfl
        · rw [List.length_append, List.length_singleton]
          omega
      | left n => exact ⟨rfl, _, rfl, t, _, 0, _, rfl, rfl, ht, rfl, rfl, false, by decide +kernel, iteF ⟨ns, e, hd, Nat.le_succ_of_le ln1⟩⟩
      | down n => exact ⟨rfl, _, rfl, t, _, 0, _, rfl, rfl, ht, rfl, rfl, false, by decide +kernel, iteF ⟨ns, e, hd, Nat.le_succ_of_le ln1⟩⟩
      | up n => exact ⟨rfl, _, rfl, t, _, 0, _, rfl, rfl, ht, rfl, rfl, false, by decide +kernel, iteF ⟨ns, e, hd, Nat.le_succ_of_le ln1⟩⟩
      | home => exact ⟨rfl, _, rfl, t, _, 0, _, rfl, rfl, ht, rfl, rfl, false, by decide +kernel, iteF ⟨ns, e, hd, Nat.le_succ_of_le ln1⟩⟩
      | stop => exact ⟨rfl, _, rfl, t, _, 0, _, rfl, rfl, ht, rfl, rfl, false, by decide +kernel, iteF ⟨ns, e, hd, Nat.le_succ_of_le ln1⟩⟩
    obtain ⟨ns, e1, hd, ln1⟩ := h
    -- lefts = sum([...])
    refine ⟨_, rfl, l, rfl, ⟨_, e1.seq hl⟩, fun D2 hD2 => ?_⟩
    refine lc_list (K := K) (a := l) (xs := xs) (fun i H' => ∃ ms : List Int, Same H1 H' ∧ H' D2 = some (.lst (ms.map V.int)) ∧ ms.length ≤ i ∧ 0 ≤ ms.sum ∧ ms.sum ≤ i * 10 ^ 30) ⟨[], same_upd (Same.refl H1) hD2, upd_same, Nat.le_refl _, by decide, by decide⟩ (fun i H' _ ⟨_, e, _⟩ => (e1.trans e).seq hl) (fun i x H' hi h => ?_) (fun H2 h => ?_)
    · obtain ⟨ms, e, hd2, ln2, u0, u1⟩ := h
      obtain ⟨c, hc, t, rfl, ht0⟩ := paired_at hcs hi
      have ht := seq_t (e1.trans e) ht0
      have li := (List.getElem?_eq_some_iff.mp hc).1
      have okc := ok c (List.mem_of_getElem? hc)
      have smc := (sm c (List.mem_of_getElem? hc)).1
      cases c with
      | left n =>
        have ok1 : 1 ≤ n := okc
        have sm1 : n ≤ 10 ^ 30 := smc
        refine ⟨rfl, _, rfl, t, _, 0, _, rfl, rfl, ht, rfl, rfl, true, by decide +kernel, iteT ?_⟩
        refine ⟨_, rfl, t, _, 1, _, rfl, rfl, ht, rfl, _, hd2, small_len (by rw [List.length_map]; omega), ms ++ [n], fun b o hb => ?_, ?_, ?_, ?_, ?_⟩
        · rw [upd_ne (ne_of_none hb hD2)]
          exact e b o hb
        · rw [upd_same, List.map_append]
          rfl
        · rw [List.length_append, List.length_singleton]
          omega
        · rw [List.sum_append, List.sum_singleton]
          omega
        · rw [List.sum_append, List.sum_singleton]
          omega
      | right n => exact ⟨rfl, _, rfl, t, _, 0, _, rfl, rfl, ht, rfl, rfl, false, by decide +kernel, iteF ⟨ms, e, hd2, Nat.le_succ_of_le ln2, u0, by omega⟩⟩
      | down n => exact ⟨rfl, _, rfl, t, _, 0, _, rfl, rfl, ht, rfl, rfl, false, by decide +kernel, iteF ⟨ms, e, hd2, Nat.le_succ_of_le ln2, u0, by omega⟩⟩
      | up n => exact ⟨rfl, _, rfl, t, _, 0, _, rfl, rfl, ht, rfl, rfl, false, by decide +kernel, iteF ⟨ms, e, hd2, Nat.le_succ_of_le ln2, u0, by omega⟩⟩
      | home => exact ⟨rfl, _, rfl, t, _, 0, _, rfl, rfl, ht, rfl, rfl, false, by decide +kernel, iteF ⟨ms, e, hd2, Nat.le_succ_of_le ln2, u0, by omega⟩⟩
      | stop => exact ⟨rfl, _, rfl, t, _, 0, _, rfl, rfl, ht, rfl, rfl, false, by decide +kernel, iteF ⟨ms, e, hd2, Nat.le_succ_of_le ln2, u0, by omega⟩⟩
    obtain ⟨ms, e2, hd2, ln2, u0, u1⟩ := h
    have xl : xs.length ≤ 20 := by rw [hcs.len]; exact ln
    refine ⟨D2, ms, rfl, SqL.of hd2, ?_⟩
    have hR2 : Rng H2 r n := hR.same (e1.trans e2)
    have Dr : D ≠ r := by
      obtain ⟨o, q⟩ := hr0
      exact (ne_of_none q hD).symm
    -- near
    have hd' := e2 _ _ hd
    refine ⟨_, rfl, _, rfl, _, rfl, D, _, rfl, .inl (SqL.of hd'), _, _, rfl, rfl, r, n, _, rfl, hR2, by omega, by rw [List.length_map]; omega, log9 (a := 100) (by rw [List.length_map]; omega) (by decide), fun H3 d1 kp3 rg3 a0 a1 => ?_⟩
    obtain ⟨cn, hcn⟩ := cut_ints ns (some d1) none
    refine ⟨_, rfl, D, _, rfl, SqL.of (kp3 _ _ Dr Dr hd'), fun p hp => ?_⟩
    rw [hcn]
    have s3 : Same H3 (upd H3 p (.lst (cn.map V.int))) := same_upd (Same.refl _) hp
    refine ⟨p, cn, rfl, SqL.of upd_same, ?_⟩
    refine ⟨_, rfl, _, rfl, r, _, 2, rfl, rg3.same s3, by omega, by decide, by decide, fun H4 d2 kp4 rg4 b0 b1 => ?_⟩
    refine ⟨_, _, rfl, rfl, wide_mul (a := 120) (b := 10) (by omega) (by omega) (by decide) (by decide) (by decide), _, _, rfl, rfl, ?_⟩
    refine ⟨_, rfl, r, _, 5, rfl, rg4, by omega, by decide, by decide, fun H5 d3 kp5 rg5 _ _ => ?_⟩
    refine ⟨_, _, rfl, rfl, _, _, rfl, rfl, ?_⟩
    -- found
    refine ⟨_, rfl, r, _, 9, rfl, rg5, by omega, by decide, by decide, fun H6 d4 kp6 rg6 _ _ => ?_⟩
    refine ⟨_, _, rfl, rfl, _, rfl, _, rfl, _, rfl, _, _, rfl, rfl, cpow (by decide), _, _, rfl, rfl, r, _, _, rfl, rg6, by omega, (by decide), log9 (a := 110) (by decide) (by decide), fun H7 d5 kp7 rg7 _ _ => ?_⟩
    refine ⟨_, _, rfl, rfl, (by show 4 ≤ sizeLine; decide), fun q hq => ?_⟩
    have s7 : ∀ o, Same H7 (upd H7 q o) := fun o => same_upd (Same.refl H7) hq
    have qr : q ≠ r := by
      obtain ⟨_, _, _, z, _⟩ := rg7
      exact (ne_of_none z hq).symm
    refine ⟨_, rfl, r, _, 4, rfl, rg7.same (s7 _), by omega, by decide, by decide, fun H8 d6 kp8 rg8 g0 g1 => ?_⟩
    obtain ⟨v, hv⟩ : ∃ v : Int, atI [V.int (1 + d4), .int (cn.sum - ms.sum * d2 + d3 - 2), .int (cn.sum - ms.sum * d2 + d3 - 2), .int (1 + d5)] d6 = some (.int v) := by
      rcases (show d6 = 0 ∨ d6 = 1 ∨ d6 = 2 ∨ d6 = 3 by omega) with rfl | rfl | rfl | rfl
      · exact ⟨_, rfl⟩
      · exact ⟨_, rfl⟩
      · exact ⟨_, rfl⟩
      · exact ⟨_, rfl⟩
    refine ⟨q, _, _, _, rfl, rfl, SqL.of (kp8 _ _ qr qr upd_same), hv, ?_⟩
    refine ⟨_, rfl, _, _, rfl, _, _, rfl, rfl, cpow (by decide), _, _, rfl, rfl, _, _, rfl, ?_⟩
    have p30 : (10 : Int) ^ (30 : Int).toNat - 1 = 10 ^ 30 - 1 := rfl
    refine k _ _ ?_ (rg8.more (by omega)) ?_ ?_
    · exact (Keep.of (e1.trans e2)).trans (kp3.trans ((Keep.of s3).trans (kp4.trans (kp5.trans (kp6.trans (kp7.trans ((Keep.of (s7 _)).trans kp8)))))))
    · show 1 ≤ if (10 : Int) ^ 30 - 1 < (if v > 1 then v else 1) then (10 : Int) ^ 30 - 1 else (if v > 1 then v else 1)
      have hm : 1 ≤ (if v > 1 then v else 1) := by split <;> omega
      generalize (if v > 1 then v else 1) = m at hm ⊢
      split <;> omega
    · show (if (10 : Int) ^ 30 - 1 < (if v > 1 then v else 1) then (10 : Int) ^ 30 - 1 else (if v > 1 then v else 1)) ≤ 10 ^ 30 - 1
      generalize (if v > 1 then v else 1) = m
      split <;> omega
end
end Gc

namespace Gc
open PySem L2
abbrev s_after : Stmt := top 25
theorem at_len {T : List Int} {r : Int} (h0 : 0 ≤ r) (h1 : r < T.length) : atI (T.map V.int) r = some (.int (lenAt T r)) := by
  have e : r = (r.toNat : Int) := by omega
  refine at_of (j := r.toNat) e ?_
  have l : r.toNat < T.length := by omega
  unfold lenAt
  rw [List.getElem?_map, List.getD_eq_getElem?_getD, List.getElem?_eq_getElem l]
  rfl
theorem min_if (i j : Int) : (if j < i then j else i) = min i j := by split <;> omega
theorem max_if (i j : Int) : (if j > i then j else i) = max i j := by split <;> omega
theorem iteNF {c A B : Prop} [Decidable c] (hc : ¬ c) (h : A) : if (!decide c) = true then A else B := by
  rw [decide_eq_false hc]
  exact iteT h
def spAfter (K : PySem.W.Frag) : Sp := fun vs H Q _ => ∃ (t b l : Addr) (T : List Int) (r : Int) (a : Option Int) (xs : List V) (cs : List Cmd), vs = [.ref t, .ref b, .ref l] ∧ SqL K H t (T.map V.int) ∧ SqT K H b [.int r, optV a] ∧ SqL K H l xs ∧ CmdsOf K H xs cs ∧ 0 ≤ r ∧ r < T.length ∧
  (afterL T r a cs = none → ∀ H', Same H H' → Q .non H') ∧ ∀ r' a', afterL T r a cs = some (r', a') → ∀ (H' : Hp) (p : Addr), Same H H' → H p = none → H' p = some (.tup [.int r', optV a']) → Q (.ref p) H'
section
variable {P : Program} {w : World} {K : PySem.W.Frag} {mg : Str → Option Value} {base : Heap}
theorem sc_law_after : FnScope ["lengths", "begin", "steps", "row", "aim", "step", "seen"] ["lengths", "begin", "steps"] (defScope s_after) := ⟨rfl, rfl, rfl, by decide +kernel, rfl, by decide +kernel, by decide +kernel⟩
theorem ok_after {f : Addr} {fd : FuncData} (F : Fun K "_law_after" "_law_after" s_after f fd) (T : TxtA mg) : FnOk P w K mg base CX0 1 f fd ["lengths", "begin", "steps"] (spAfter K) := by
  refine F.ok sc_law_after (fun vs H Q E h => ?_) (fun cdv A outer s H vs Q E hr h => ?_)
  · obtain ⟨t, b, l, T, r, a, xs, cs, rfl, _⟩ := h
    rfl
  · obtain ⟨t, b, l, tx, r, a, xs, cs, rfl, ht, hb, hl, hcs, r0, r1, kn, ks⟩ := h
    refine ⟨_, (pss_cons (ps_asg (pv 1) (pg_tup rfl (pgs_cons (pg_name (i := 3) sc_law_after.nd rfl (Or.inl rfl)) (pgs_cons (pg_name (i := 4) sc_law_after.nd rfl (Or.inl rfl)) pgs_nil))))
      (pss_cons (ps_for PassesOwn.never rfl (pi_list (pv 2)) (pg_name (i := 5) sc_law_after.nd rfl (Or.inl rfl)) (pss_one (ps_if (pt_cmpR op_in_seq (pe_ix ix_tup (pv 5) pe_int (fun _ _ => rfl)) (pe_tup (pa_cons pe_str (pa_cons pe_str pa_nil))) (by rfl)) (pss_cons (ps_set (i := 3) sc_law_after.nd rfl (Or.inl rfl) (pe_op op_add (pv 3) (pe_ix ix_list (pe_lst (pa_cons (pe_ix ix_tup (pv 5) pe_int (fun _ _ => rfl)) (pa_cons (pe_op op_sub pe_int (pe_ix ix_tup (pv 5) pe_int (fun _ _ => rfl))) pa_nil))) (pe_callTy call_int1 (by rfl) T.int (by decide +kernel) (pa_cons (pe_cmpR op_eq (pe_ix ix_tup (pv 5) pe_int (fun _ _ => rfl)) pe_str (nomark _)) pa_nil)) (fun _ _ => rfl))))
      (pss_one (ps_if (pt_not (pt_chain op_le op_lt pe_int (pv 3) (pe_callB call_len_seq (by rfl) T.len (by decide +kernel) (pa_cons (pv 0) pa_nil)))) (pss_one (ps_ret pe_non)) pss_nil))) (pss_one (ps_if (pt_cmpR op_in_seq (pe_ix ix_tup (pv 5) pe_int (fun _ _ => rfl)) (pe_tup (pa_cons pe_str (pa_cons pe_str pa_nil))) (by rfl)) (pss_one (ps_set (i := 4) sc_law_after.nd rfl (Or.inl rfl) (pe_ifExp (pt_cmpR op_eq (pe_ix ix_tup (pv 5) pe_int (fun _ _ => rfl)) pe_str (nomark _)) pe_int pe_non))) (pss_cons (ps_set (i := 6) sc_law_after.nd rfl (Or.inl rfl) (pe_ifExp (pt_cmpR op_isN (pv 4) pe_non (nomark _)) (pe_ix ix_list (pv 0) (pv 3) (fun _ _ => rfl)) (pe_callB (call_min2 rfl) (by rfl) T.min (by decide +kernel) (pa_cons (pv 4) (pa_cons (pe_ix ix_list (pv 0) (pv 3) (fun _ _ => rfl)) pa_nil)))))
      (pss_one (ps_set (i := 4) sc_law_after.nd rfl (Or.inl rfl) (pe_ifExp (pt_cmpR op_eq (pe_ix ix_tup (pv 5) pe_int (fun _ _ => rfl)) pe_str (nomark _)) (pe_callB (call_max2 rfl) (by rfl) T.max (by decide +kernel) (pa_cons pe_int (pa_cons (pe_op op_sub (pv 6) (pe_ix ix_tup (pv 5) pe_int (fun _ _ => rfl))) pa_nil))) (pe_callB (call_min2 rfl) (by rfl) T.min (by decide +kernel) (pa_cons (pe_op op_add (pv 6) (pe_ix ix_tup (pv 5) pe_int (fun _ _ => rfl))) (pa_cons (pe_ix ix_list (pv 0) (pv 3) (fun _ _ => rfl)) pa_nil))))))))))))
      (pss_one (ps_ret (pe_tup (pa_cons (pv 3) (pa_cons (pv 4) pa_nil))))))), ?_⟩
    refine ⟨_, rfl, b, _, rfl, hb, rfl, _, _, rfl, _, _, rfl, rfl, ?_⟩
    refine ⟨_, rfl, l, rfl, ⟨_, hl⟩, for_list (K := K) (a := l) (xs := xs) (fun i σ H' => ∃ (r' : Int) (a' : Option Int) (v5 v6 : Option V), σ = [some (.ref t), some (.ref b), some (.ref l), some (.int r'), some (optV a'), v5, v6] ∧ Same H H' ∧
        0 ≤ r' ∧ r' < tx.length ∧ afterL tx r a cs = afterL tx r' a' (cs.drop i))
      ⟨r, a, none, none, rfl, Same.refl H, r0, r1, rfl⟩ (fun i σ H' _ ⟨_, _, _, _, _, e, _⟩ => e.seq hl) (fun i y σ H2 hi h => ?_) (fun σ H2 h => ?_)⟩
    · obtain ⟨r', a', v5, v6, rfl, e2, s0, s1, hgo⟩ := h
      obtain ⟨c, hc, q, rfl, hq0⟩ := paired_at hcs hi
      have hq := seq_t e2 hq0
      have htx := e2.seq ht
      have hdrop : cs.drop i = c :: cs.drop (i + 1) := by
        obtain ⟨h1, h2⟩ := List.getElem?_eq_some_iff.mp hc
        rw [List.drop_eq_getElem_cons h1, h2]
      rw [hdrop] at hgo
      have al := at_len s0 s1
      cases c with
      | down n =>
        have hin : 0 ≤ r' + n → r' + n < tx.length → afterL tx r a cs = afterL tx (r' + n) a' (cs.drop (i + 1)) := fun h1 h2 => by
          rw [hgo]
          simp only [afterL]
          rw [if_pos (show (Cmd.down n).vert = true from rfl), show (Cmd.down n).dv = n from rfl, if_pos ⟨h1, h2⟩]
        have hout : ¬ (0 ≤ r' + n ∧ r' + n < tx.length) → afterL tx r a cs = none := fun h1 => by
          rw [hgo]
          simp only [afterL]
          rw [if_pos (show (Cmd.down n).vert = true from rfl), show (Cmd.down n).dv = n from rfl, if_neg h1]
        refine ⟨_, rfl, q, _, 0, _, rfl, rfl, hq, rfl, (by show 2 ≤ sizeLine; decide), fun p1 hp1 => ?_⟩
        have m1 := same_upd (Same.refl H2) hp1 (o := .tup [.str "down", .str "up"])
        refine ⟨p1, _, rfl, .inr (SqT.of upd_same), rfl, rfl, true, by decide +kernel, iteT ?_⟩
        refine ⟨_, rfl, _, rfl, q, _, 1, _, rfl, rfl, seq_t m1 hq, rfl, _, rfl, q, _, 1, _, rfl, rfl, seq_t m1 hq, rfl, _, _, rfl, rfl, (by show 2 ≤ sizeLine; decide), fun q2 hq2 => ?_⟩
        have m2 := same_upd m1 hq2 (o := .lst [.int n, .int (0 - n)])
        refine ⟨_, rfl, q, _, 0, _, rfl, rfl, seq_t m2 hq, rfl, rfl, .inr ⟨_, rfl, q2, _, _, _, rfl, rfl, SqL.of upd_same, at_f (by decide +kernel), _, _, rfl, rfl, ?_⟩⟩
        refine ⟨_, rfl, _, _, rfl, rfl, _, rfl, ite2 (fun c0 => ?_) (fun c0 => ?_)⟩
        · have c0' : 0 ≤ r' + n := of_decide_eq_true c0
          refine ⟨_, rfl, t, _, rfl, .inl (m2.seq htx), _, _, rfl, rfl, _, rfl, ?_⟩
          by_cases c1 : r' + n < ((tx.map V.int).length : Int)
          · refine iteNS c1 ?_
            have c1' : r' + n < tx.length := by
              rw [List.length_map] at c1
              exact c1
            exact ⟨r' + n, a', _, _, rfl, e2.trans m2, c0', c1', hin c0' c1'⟩
          · refine iteNF c1 ?_
            exact kn (hout fun z => c1 (by rw [List.length_map]; exact z.2)) _ (e2.trans m2)
        · refine ⟨_, rfl, ?_⟩
          refine iteT (B := _) ?_
          exact kn (hout fun z => c0 (decide_eq_true z.1)) _ (e2.trans m2)
      | up n =>
        have hin : 0 ≤ r' + (0 - n) → r' + (0 - n) < tx.length → afterL tx r a cs = afterL tx (r' + (0 - n)) a' (cs.drop (i + 1)) := fun h1 h2 => by
          rw [hgo]
          simp only [afterL]
          rw [if_pos (show (Cmd.up n).vert = true from rfl), show (Cmd.up n).dv = (0 - n) from (by show -n = 0 - n; omega), if_pos ⟨h1, h2⟩]
        have hout : ¬ (0 ≤ r' + (0 - n) ∧ r' + (0 - n) < tx.length) → afterL tx r a cs = none := fun h1 => by
          rw [hgo]
          simp only [afterL]
          rw [if_pos (show (Cmd.up n).vert = true from rfl), show (Cmd.up n).dv = (0 - n) from (by show -n = 0 - n; omega), if_neg h1]
        refine ⟨_, rfl, q, _, 0, _, rfl, rfl, hq, rfl, (by show 2 ≤ sizeLine; decide), fun p1 hp1 => ?_⟩
        have m1 := same_upd (Same.refl H2) hp1 (o := .tup [.str "down", .str "up"])
        refine ⟨p1, _, rfl, .inr (SqT.of upd_same), rfl, rfl, true, by decide +kernel, iteT ?_⟩
        refine ⟨_, rfl, _, rfl, q, _, 1, _, rfl, rfl, seq_t m1 hq, rfl, _, rfl, q, _, 1, _, rfl, rfl, seq_t m1 hq, rfl, _, _, rfl, rfl, (by show 2 ≤ sizeLine; decide), fun q2 hq2 => ?_⟩
        have m2 := same_upd m1 hq2 (o := .lst [.int n, .int (0 - n)])
        refine ⟨_, rfl, q, _, 0, _, rfl, rfl, seq_t m2 hq, rfl, rfl, .inr ⟨_, rfl, q2, _, _, _, rfl, rfl, SqL.of upd_same, at_t (by decide +kernel), _, _, rfl, rfl, ?_⟩⟩
        refine ⟨_, rfl, _, _, rfl, rfl, _, rfl, ite2 (fun c0 => ?_) (fun c0 => ?_)⟩
        · have c0' : 0 ≤ r' + (0 - n) := of_decide_eq_true c0
          refine ⟨_, rfl, t, _, rfl, .inl (m2.seq htx), _, _, rfl, rfl, _, rfl, ?_⟩
          by_cases c1 : r' + (0 - n) < ((tx.map V.int).length : Int)
          · refine iteNS c1 ?_
            have c1' : r' + (0 - n) < tx.length := by
              rw [List.length_map] at c1
              exact c1
            exact ⟨r' + (0 - n), a', _, _, rfl, e2.trans m2, c0', c1', hin c0' c1'⟩
          · refine iteNF c1 ?_
            exact kn (hout fun z => c1 (by rw [List.length_map]; exact z.2)) _ (e2.trans m2)
        · refine ⟨_, rfl, ?_⟩
          refine iteT (B := _) ?_
          exact kn (hout fun z => c0 (decide_eq_true z.1)) _ (e2.trans m2)
      | home =>
        have hin : afterL tx r a cs = afterL tx r' (some 0) (cs.drop (i + 1)) := by
          rw [hgo]
          simp only [afterL]
          rw [if_neg (show ¬ (Cmd.home).vert = true from Bool.false_ne_true)]
          rfl
        refine ⟨_, rfl, q, _, 0, _, rfl, rfl, hq, rfl, (by show 2 ≤ sizeLine; decide), fun p1 hp1 => ?_⟩
        have m1 := same_upd (Same.refl H2) hp1 (o := .tup [.str "down", .str "up"])
        refine ⟨p1, _, rfl, .inr (SqT.of upd_same), rfl, rfl, false, by decide +kernel, iteF ?_⟩
        refine ⟨_, rfl, q, _, 0, _, rfl, rfl, seq_t m1 hq, rfl, (by show 2 ≤ sizeLine; decide), fun p2 hp2 => ?_⟩
        have m2 := same_upd m1 hp2 (o := .tup [.str "home", .str "end"])
        refine ⟨p2, _, rfl, .inr (SqT.of upd_same), rfl, rfl, true, by decide +kernel, iteT ?_⟩
        refine ⟨_, rfl, q, _, 0, _, rfl, rfl, seq_t m2 hq, rfl, rfl, true, by decide +kernel, iteT ?_⟩
        exact ⟨r', (some 0), _, _, rfl, e2.trans m2, s0, s1, hin⟩
      | stop =>
        have hin : afterL tx r a cs = afterL tx r' none (cs.drop (i + 1)) := by
          rw [hgo]
          simp only [afterL]
          rw [if_neg (show ¬ (Cmd.stop).vert = true from Bool.false_ne_true)]
          rfl
        refine ⟨_, rfl, q, _, 0, _, rfl, rfl, hq, rfl, (by show 2 ≤ sizeLine; decide), fun p1 hp1 => ?_⟩
        have m1 := same_upd (Same.refl H2) hp1 (o := .tup [.str "down", .str "up"])
        refine ⟨p1, _, rfl, .inr (SqT.of upd_same), rfl, rfl, false, by decide +kernel, iteF ?_⟩
        refine ⟨_, rfl, q, _, 0, _, rfl, rfl, seq_t m1 hq, rfl, (by show 2 ≤ sizeLine; decide), fun p2 hp2 => ?_⟩
        have m2 := same_upd m1 hp2 (o := .tup [.str "home", .str "end"])
        refine ⟨p2, _, rfl, .inr (SqT.of upd_same), rfl, rfl, true, by decide +kernel, iteT ?_⟩
        refine ⟨_, rfl, q, _, 0, _, rfl, rfl, seq_t m2 hq, rfl, rfl, false, by decide +kernel, iteF ?_⟩
        exact ⟨r', none, _, _, rfl, e2.trans m2, s0, s1, hin⟩
      | left n =>
        have hin : ∀ sv : Int, sv = seen (lenAt tx r') a' → afterL tx r a cs = afterL tx r' (some (if sv - n > 0 then sv - n else 0)) (cs.drop (i + 1)) := fun sv e => by
          rw [hgo, max_if, e]
          simp only [afterL]
          rw [if_neg (show ¬ (Cmd.left n).vert = true from Bool.false_ne_true)]
          rfl
        refine ⟨_, rfl, q, _, 0, _, rfl, rfl, hq, rfl, (by show 2 ≤ sizeLine; decide), fun p1 hp1 => ?_⟩
        have m1 := same_upd (Same.refl H2) hp1 (o := .tup [.str "down", .str "up"])
        refine ⟨p1, _, rfl, .inr (SqT.of upd_same), rfl, rfl, false, by decide +kernel, iteF ?_⟩
        refine ⟨_, rfl, q, _, 0, _, rfl, rfl, seq_t m1 hq, rfl, (by show 2 ≤ sizeLine; decide), fun p2 hp2 => ?_⟩
        have m2 := same_upd m1 hp2 (o := .tup [.str "home", .str "end"])
        refine ⟨p2, _, rfl, .inr (SqT.of upd_same), rfl, rfl, false, by decide +kernel, iteF ?_⟩
        have ht2 := m2.seq htx
        have hq2 := seq_t m2 hq
        cases a' with
        | none =>
          refine ⟨_, rfl, rfl, _, rfl, iteT ?_⟩
          refine ⟨_, rfl, _, rfl, t, _, _, _, rfl, rfl, ht2, al, ?_⟩
          refine ⟨_, rfl, q, _, 0, _, rfl, rfl, hq2, rfl, rfl, true, by decide +kernel, iteT ?_⟩
          refine ⟨_, rfl, _, rfl, q, _, 1, _, rfl, rfl, hq2, rfl, _, _, rfl, rfl, _, _, rfl, ?_⟩
          exact ⟨r', _, _, _, rfl, e2.trans m2, s0, s1, hin (lenAt tx r') rfl⟩
        | some x =>
          refine ⟨_, rfl, rfl, _, rfl, iteF ?_⟩
          refine ⟨_, rfl, _, rfl, _, rfl, t, _, _, _, rfl, rfl, ht2, al, _, _, rfl, ?_⟩
          refine ⟨_, rfl, q, _, 0, _, rfl, rfl, hq2, rfl, rfl, true, by decide +kernel, iteT ?_⟩
          refine ⟨_, rfl, _, rfl, q, _, 1, _, rfl, rfl, hq2, rfl, _, _, rfl, rfl, _, _, rfl, ?_⟩
          exact ⟨r', _, _, _, rfl, e2.trans m2, s0, s1, hin (if lenAt tx r' < x then lenAt tx r' else x) (min_if x (lenAt tx r'))⟩
      | right n =>
        have hin : ∀ sv : Int, sv = seen (lenAt tx r') a' → afterL tx r a cs = afterL tx r' (some (if lenAt tx r' < sv + n then lenAt tx r' else sv + n)) (cs.drop (i + 1)) := fun sv e => by
          rw [hgo, min_if, e]
          simp only [afterL]
          rw [if_neg (show ¬ (Cmd.right n).vert = true from Bool.false_ne_true)]
          rfl
        refine ⟨_, rfl, q, _, 0, _, rfl, rfl, hq, rfl, (by show 2 ≤ sizeLine; decide), fun p1 hp1 => ?_⟩
        have m1 := same_upd (Same.refl H2) hp1 (o := .tup [.str "down", .str "up"])
        refine ⟨p1, _, rfl, .inr (SqT.of upd_same), rfl, rfl, false, by decide +kernel, iteF ?_⟩
        refine ⟨_, rfl, q, _, 0, _, rfl, rfl, seq_t m1 hq, rfl, (by show 2 ≤ sizeLine; decide), fun p2 hp2 => ?_⟩
        have m2 := same_upd m1 hp2 (o := .tup [.str "home", .str "end"])
        refine ⟨p2, _, rfl, .inr (SqT.of upd_same), rfl, rfl, false, by decide +kernel, iteF ?_⟩
        have ht2 := m2.seq htx
        have hq2 := seq_t m2 hq
        cases a' with
        | none =>
          refine ⟨_, rfl, rfl, _, rfl, iteT ?_⟩
          refine ⟨_, rfl, _, rfl, t, _, _, _, rfl, rfl, ht2, al, ?_⟩
          refine ⟨_, rfl, q, _, 0, _, rfl, rfl, hq2, rfl, rfl, false, by decide +kernel, iteF ?_⟩
          refine ⟨_, rfl, _, rfl, q, _, 1, _, rfl, rfl, hq2, rfl, _, _, rfl, rfl, _, rfl, _, rfl, t, _, _, _, rfl, rfl, ht2, al, _, _, rfl, ?_⟩
          exact ⟨r', _, _, _, rfl, e2.trans m2, s0, s1, hin (lenAt tx r') rfl⟩
        | some x =>
          refine ⟨_, rfl, rfl, _, rfl, iteF ?_⟩
          refine ⟨_, rfl, _, rfl, _, rfl, t, _, _, _, rfl, rfl, ht2, al, _, _, rfl, ?_⟩
          refine ⟨_, rfl, q, _, 0, _, rfl, rfl, hq2, rfl, rfl, false, by decide +kernel, iteF ?_⟩
          refine ⟨_, rfl, _, rfl, q, _, 1, _, rfl, rfl, hq2, rfl, _, _, rfl, rfl, _, rfl, _, rfl, t, _, _, _, rfl, rfl, ht2, al, _, _, rfl, ?_⟩
          exact ⟨r', _, _, _, rfl, e2.trans m2, s0, s1, hin (if lenAt tx r' < x then lenAt tx r' else x) (min_if x (lenAt tx r'))⟩
    · obtain ⟨r', a', v5, v6, rfl, e2, s0, s1, hgo⟩ := h
      rw [hcs.len, List.drop_length] at hgo
      refine ⟨_, rfl, _, rfl, (by show 2 ≤ sizeLine; decide), fun p hp => ?_⟩
      exact ks r' a' hgo _ p (same_upd e2 hp) (e2.free hp) upd_same
end
end Gc

namespace Gc
open PySem L2
abbrev s_least : Stmt := top 17
theorem rep_ints : ∀ n : Nat, (List.replicate n [V.int 0]).flatten = (List.replicate n (0 : Int)).map V.int
  | 0 => rfl
  | n + 1 => by
    rw [List.replicate_succ, List.replicate_succ, List.flatten_cons, List.map_cons, rep_ints n]
    rfl
theorem ixN_int {n : Nat} {k : Int} (h0 : 0 ≤ k) (h1 : k.toNat < n) : ixN n k = some k.toNat := by
  unfold ixN
  rw [if_pos h0, if_pos (by omega)]
/-- what least_text tells -/
def leastM (cs : List Cmd) (goal : Int) : Option (List Int × Int × Int) := (boxM cs goal).map fun x => (textM (rchM cs).1 (rchM cs).2.1 x.2, -(rchM cs).1, x.1.getD 0)
def LeastAt (H H' : Hp) (p : Addr) (x : List Int × Int × Int) : Prop := ∃ t b, H p = none ∧ H t = none ∧ H b = none ∧ H' p = some (.tup [.ref t, .ref b]) ∧ H' t = some (.lst (x.1.map V.int)) ∧ H' b = some (.tup [.int x.2.1, .int x.2.2])
def spLeast (K : PySem.W.Frag) : Sp := fun vs H Q _ => ∃ (l : Addr) (xs : List V) (cs : List Cmd) (goal : Int), vs = [.ref l, .int goal] ∧ SqL K H l xs ∧ CmdsOf K H xs cs ∧ AllOk cs ∧ cs.length ≤ 10000 ∧ 1 ≤ goal ∧ (rchM cs).2.1 - (rchM cs).1 < 10000 ∧
  (leastM cs goal = none → ∀ H', Same H H' → Q .non H') ∧ ∀ x, leastM cs goal = some x → ∀ H' p, Same H H' → LeastAt H H' p x → Q (.ref p) H'
section
variable {P : Program} {w : World} {K : PySem.W.Frag} {mg : Str → Option Value} {base : Heap}
theorem sc_least_text : FnScope ["commands", "goal", "found", "start", "lines", "least", "greatest", "_", "text", "offset", "bound"] ["commands", "goal"] (defScope s_least) := ⟨rfl, rfl, rfl, by decide +kernel, rfl, by decide +kernel, by decide +kernel⟩
theorem ok_least_text {f : Addr} {fd : FuncData} (F : Fun K "least_text" "least_text" s_least f fd) (c_box : Cal P w K mg base 5 "box" (spBox K)) (c_reach : Cal P w K mg base 4 "reach" (spReach K)) : FnOk P w K mg base CX0 6 f fd ["commands", "goal"] (spLeast K) := by
  refine F.ok sc_least_text (fun vs H Q E h => ?_) (fun cdv A outer s H vs Q E hr h => ?_)
  · obtain ⟨l, xs, cs, goal, rfl, _⟩ := h
    rfl
  · obtain ⟨l, xs, cs, goal, rfl, hl, hcs, ok, ln, hg, hh, kn, ks⟩ := h
    refine ⟨_, (pss_cons (ps_set (i := 2) sc_least_text.nd rfl (Or.inl rfl) (pe_cal c_box hr (by decide) (by rfl) (pa_cons (pv 0) (pa_cons (pv 1) pa_nil))))
      (pss_cons (ps_if (pt_cmpR op_isN (pv 2) pe_non (nomark _)) (pss_one (ps_ret pe_non)) pss_nil)
      (pss_cons (ps_asg (pv 2) (pg_tup rfl (pgs_cons (pg_name (i := 3) sc_least_text.nd rfl (Or.inl rfl)) (pgs_cons (pg_name (i := 4) sc_least_text.nd rfl (Or.inl rfl)) pgs_nil))))
      (pss_cons (ps_asg (pe_cal c_reach hr (by decide) (by rfl) (pa_cons (pv 0) pa_nil)) (pg_tup rfl (pgs_cons (pg_name (i := 5) sc_least_text.nd rfl (Or.inl rfl)) (pgs_cons (pg_name (i := 6) sc_least_text.nd rfl (Or.inl rfl)) (pgs_cons (pg_name (i := 7) sc_least_text.nd rfl (Or.inl rfl)) pgs_nil)))))
      (pss_cons (ps_set (i := 8) sc_least_text.nd rfl (Or.inl rfl) (pe_op op_rep (pe_lst (pa_cons pe_int pa_nil)) (pe_op op_add (pe_op op_sub (pv 6) (pv 5)) pe_int)))
      (pss_cons (ps_for PassesOwn.never rfl (pi_list (pv 4)) (pg_tup rfl (pgs_cons (pg_name (i := 9) sc_least_text.nd rfl (Or.inl rfl)) (pgs_cons (pg_name (i := 10) sc_least_text.nd rfl (Or.inl rfl)) pgs_nil))) (pss_one (ps_asg (pv 10) (pg_sub (pv 8) (pe_op op_sub (pv 9) (pv 5)) set_list))))
      (pss_one (ps_ret (pe_tup (pa_cons (pv 8) (pa_cons (pe_tup (pa_cons (pe_un un_neg (pv 5)) (pa_cons (pe_ifExp (pt_cmpR op_isN (pv 3) pe_non (nomark _)) pe_int (pv 3)) pa_nil))) pa_nil))))))))))), ?_⟩
    have hw := rch_within cs
    rcases box_spec ok hg with ⟨b1, _⟩ | ⟨st, b, b1, gb, _, pb⟩
    · refine ⟨_, rfl, _, rfl, l, xs, cs, goal, rfl, hl, hcs, ok, ln, hg, fun _ H1 e1 => ?_, fun st L z => absurd (b1.symm.trans z) (by intro q; cases q)⟩
      refine ⟨_, rfl, rfl, _, rfl, iteT ?_⟩
      exact kn (by unfold leastM; rw [b1]; rfl) _ e1
    refine ⟨_, rfl, _, rfl, l, xs, cs, goal, rfl, hl, hcs, ok, ln, hg, fun z => absurd (b1.symm.trans z) (by intro q; cases q), fun st' L' z H1 np e1 bx => ?_⟩
    have z' : (st, b.mergeSort leK) = (st', L') := Option.some.inj (b1.symm.trans z)
    cases z'
    have gL := good_perm gb (List.mergeSort_perm b leK)
    have lL := box_len b1
    have wL := box_within b1 hw.1
    generalize hL : b.mergeSort leK = L at *
    obtain ⟨m, ts, n1, n2, h1, h2, hp⟩ := bx
    have tl : ts.length = L.length := Paired.length hp
    have zz := hw.1.zero
    refine ⟨_, rfl, rfl, _, rfl, iteF ?_⟩
    -- start, lines = found
    refine ⟨_, rfl, np, _, rfl, SqT.of h1, rfl, _, _, rfl, _, _, rfl, rfl, ?_⟩
    -- least, greatest, _ = reach(commands)
    refine ⟨_, rfl, l, xs, cs, rfl, e1.seq hl, hcs.same e1, ok, ln, fun H2 p2 e2 f2 h3 => ?_⟩
    refine ⟨p2, _, rfl, SqT.of h3, rfl, _, _, rfl, _, _, rfl, _, _, rfl, rfl, ?_⟩
    generalize hlo : (rchM cs).1 = lo at *
    generalize hhi : (rchM cs).2.1 = hi at *
    refine ⟨(by show 1 ≤ sizeLine; decide), fun q0 hq0 => ?_⟩
    have s2 := same_upd (Same.refl H2) hq0 (o := .lst [.int 0])
    refine ⟨_, rfl, _, rfl, _, _, rfl, rfl, _, _, rfl, rfl, q0, hi - lo + 1, [.int 0], rfl, rfl, upd_same, by omega, by omega, ?_, fun T0 hT0 => ?_⟩
    · show 1 * (hi - lo + 1).toNat ≤ sizeLine
      exact Nat.le_trans (show 1 * (hi - lo + 1).toNat ≤ 10001 by omega) (by decide)
    rw [show (List.replicate (hi - lo + 1).toNat [V.int 0]).flatten = (List.replicate (hi - lo + 1).toNat (0 : Int)).map V.int from rep_ints _]
    generalize gH3 : upd (upd H2 q0 (.lst [.int 0])) T0 (.lst ((List.replicate (hi - lo + 1).toNat (0 : Int)).map V.int)) = H3
    have e23 : Same H2 H3 := by rw [← gH3]; exact same_upd s2 hT0
    have hT3 : H3 T0 = some (.lst ((List.replicate (hi - lo + 1).toNat (0 : Int)).map V.int)) := by rw [← gH3]; exact upd_same
    have T2 : H2 T0 = none := s2.free hT0
    have e13 := e2.trans e23
    have e03 := e1.trans e13
    have nT : ∀ {x : Addr} {o : HO}, H2 x = some o → x ≠ T0 := fun h => ne_of_none h T2
    have hm3 := e13 _ _ h2
    have nm : m ≠ T0 := nT (e2 _ _ h2)
    refine ⟨_, rfl, m, rfl, ⟨_, SqL.of hm3⟩, for_list (K := K) (a := m) (xs := ts.map V.ref) (fun i σ H' => ∃ v9 v10 : Option V, σ = [some (.ref l), some (.int goal), some (.ref np), some (optV st), some (.ref m), some (.int lo), some (.int hi), some (.int (last cs)), some (.ref T0), v9, v10] ∧
        Keep T0 T0 H3 H' ∧ H' T0 = some (.lst ((setAll lo (List.replicate (hi - lo + 1).toNat 0) (L.take i)).map V.int)))
      ⟨none, none, rfl, Keep.refl H3, hT3⟩ (fun i σ H' _ ⟨_, _, _, e, _⟩ => SqL.of (e _ _ nm nm hm3)) (fun i x σ H5 hi' h => ?_) (fun σ H5 h => ?_)⟩
    · obtain ⟨v9, v10, rfl, kp, hd5⟩ := h
      obtain ⟨t, ht, rfl⟩ := ref_at hi'
      obtain ⟨q, hq, ht1⟩ := paired_at hp ht
      have nt : t ≠ T0 := nT (e2 _ _ ht1)
      have wq := wL q (List.mem_of_getElem? hq)
      refine ⟨t, _, rfl, SqT.of (kp _ _ nt nt (e13 _ _ ht1)), rfl, _, _, rfl, _, _, rfl, rfl, ?_⟩
      refine ⟨_, rfl, _, rfl, _, rfl, _, rfl, _, _, rfl, rfl, T0, _, q.1 - lo, (q.1 - lo).toNat, rfl, rfl, hd5, ?_, ?_⟩
      · refine ixN_int (by omega) ?_
        rw [List.length_map, setAll_len, List.length_replicate]
        omega
      · refine ⟨_, _, rfl, kp.upd1, ?_⟩
        rw [upd_same, take_snoc hq]
        unfold setAll
        rw [List.foldl_append, ← List.map_set]
        rfl
    · obtain ⟨v9, v10, rfl, kp, hd5⟩ := h
      rw [List.length_map, tl, List.take_length] at hd5
      have hdH : H T0 = none := e1.free (e2.free T2)
      have e05 : Same H H5 := fun b o hb => kp b o (ne_of_none hb hdH) (ne_of_none hb hdH) (e03 b o hb)
      have fin : ∀ x : Int, x = st.getD 0 → tTup (fun σ' H' Q' => Q' [V.int (-lo), V.int x] H') [] H5 (fun bv H6 => ([V.ref T0, bv]).length ≤ sizeLine ∧ ∀ p, H6 p = none → Q (.ref p) (upd H6 p (.tup [.ref T0, bv]))) := fun x ex => by
        refine ⟨(by show 2 ≤ sizeLine; decide), fun bp hbp => ⟨(by show 2 ≤ sizeLine; decide), fun p np6 => ?_⟩⟩
        have s5 := same_upd (Same.refl H5) hbp (o := .tup [.int (-lo), .int x])
        have s6 := same_upd s5 np6 (o := .tup [.ref T0, .ref bp])
        have s6' := same_upd (Same.refl _) np6 (o := .tup [.ref T0, .ref bp])
        refine ks (textM lo hi L, -lo, st.getD 0) (by unfold leastM; rw [b1, hlo, hhi]; rfl) _ p (e05.trans s6) ⟨T0, bp, (e05.trans s5).free np6, hdH, e05.free hbp, upd_same, s6 _ _ hd5, ?_⟩
        rw [← ex]
        exact s6' _ _ upd_same
      cases st with
      | none => exact ⟨_, rfl, _, rfl, _, rfl, _, rfl, rfl, _, rfl, iteT (fin 0 rfl)⟩
      | some n => exact ⟨_, rfl, _, rfl, _, rfl, _, rfl, rfl, _, rfl, iteF ⟨_, rfl, fin n rfl⟩⟩
end
end Gc

namespace Gc
open PySem L2
abbrev s_gets : Stmt := top 26
abbrev s_lots : Stmt := top 22
abbrev s_far : Stmt := top 28
def spGets (K : PySem.W.Frag) : Sp := fun vs H Q _ => ∃ (t b l : Addr) (T : List Int) (r a aim : Int) (xs : List V) (cs : List Cmd), vs = [.ref t, .ref b, .ref l, .int aim] ∧ SqL K H t (T.map V.int) ∧ SqT K H b [.int r, .int a] ∧ SqL K H l xs ∧ CmdsOf K H xs cs ∧ 0 ≤ r ∧ r < T.length ∧
  ∃ r' a', afterL T r (some a) cs = some (r', a') ∧ (ge a' aim → ∀ H', Same H H' → Q (.bl true) H') ∧ (¬ ge a' aim → ∀ H', Same H H' → Q (.bl false) H')
def spLots (K : PySem.W.Frag) : Sp := fun vs H Q _ => ∃ (r : Addr) (n : Nat), vs = [.ref r] ∧ Rng H r n ∧ n < 2 ^ 38 ∧
  ∀ (H' : Hp) (l : Addr) (xs : List V) (cs : List Cmd), Keep r r H H' → Rng H' r (n + 80) → H l = none → H' l = some (.lst xs) → CmdsOf K H' xs cs → AllOk cs → AllSmall cs → cs.length ≤ 20 → Q (.ref l) H'
def spFar (K : PySem.W.Frag) : Sp := fun vs H Q _ => ∃ (l : Addr) (f : Int) (xs : List V) (cs : List Cmd), vs = [.ref l, .int f] ∧ SqL K H l xs ∧ CmdsOf K H xs cs ∧ AllOk cs ∧ AllSmall cs ∧ cs.length ≤ 20 ∧ 1 ≤ f ∧ f ≤ 4 ∧
  ∀ (H' : Hp) (p : Addr) (ys : List V), Same H H' → H p = none → H' p = some (.lst ys) → CmdsOf K H' ys (cs.map (Cmd.mul f)) → Q (.ref p) H'
section
variable {P : Program} {w : World} {K : PySem.W.Frag} {mg : Str → Option Value} {base : Heap}
theorem sc_law_gets : FnScope ["lengths", "begin", "steps", "aim", "last"] ["lengths", "begin", "steps", "aim"] (defScope s_gets) := ⟨rfl, rfl, rfl, by decide +kernel, rfl, by decide +kernel, by decide +kernel⟩
theorem ok_gets {f : Addr} {fd : FuncData} (F : Fun K "_law_gets" "_law_gets" s_gets f fd) (c_law_after : Cal P w K mg base 1 "_law_after" (spAfter K)) : FnOk P w K mg base CX0 2 f fd ["lengths", "begin", "steps", "aim"] (spGets K) := by
  refine F.ok sc_law_gets (fun vs H Q E h => ?_) (fun cdv A outer s H vs Q E hr h => ?_)
  · obtain ⟨t, b, l, T, r, a, aim, xs, cs, rfl, _⟩ := h
    rfl
  · obtain ⟨t, b, l, T, r, a, aim, xs, cs, rfl, ht, hb, hl, hcs, r0, r1, r', a', ha, ky, kn⟩ := h
    refine ⟨_, (pss_cons (ps_set (i := 4) sc_law_gets.nd rfl (Or.inl rfl) (pe_cal c_law_after hr (by decide) (by rfl) (pa_cons (pv 0) (pa_cons (pv 1) (pa_cons (pv 2) pa_nil)))))
      (pss_one (ps_ret (pe_and (pe_cmpR op_notN (pv 4) pe_non (nomark _)) (pe_one (pe_or (pe_cmpR op_isN (pe_ix ix_tup (pv 4) pe_int (fun _ _ => rfl)) pe_non (nomark _)) (pe_one (pe_cmpR op_ge (pe_ix ix_tup (pv 4) pe_int (fun _ _ => rfl)) (pv 3) (nomark _))))))))), ?_⟩
    refine ⟨_, rfl, _, rfl, _, rfl, t, b, l, T, r, some a, xs, cs, rfl, ht, hb, hl, hcs, r0, r1, fun z => (by rw [ha] at z; cases z), fun r2 a2 z H1 p e1 np hp => ?_⟩
    have z' : (r', a') = (r2, a2) := Option.some.inj (ha.symm.trans z)
    cases z'
    refine ⟨_, rfl, rfl, _, rfl, iteT ?_⟩
    cases a' with
    | none => exact ⟨_, rfl, p, _, 1, _, rfl, rfl, SqT.of hp, rfl, rfl, _, rfl, iteT (ky (ge_none _) _ e1)⟩
    | some x =>
      refine ⟨_, rfl, p, _, 1, _, rfl, rfl, SqT.of hp, rfl, rfl, _, rfl, iteF ?_⟩
      refine ⟨_, rfl, p, _, 1, _, rfl, rfl, SqT.of hp, rfl, _, rfl, _, _, rfl, rfl, ?_⟩
      by_cases c : aim ≤ x
      · have q := ky (ge_some.mpr c) _ e1
        show Q (.bl (decide (aim ≤ x))) H1
        rw [decide_eq_true c]
        exact q
      · have q := kn (fun z => c (ge_some.mp z)) _ e1
        show Q (.bl (decide (aim ≤ x))) H1
        rw [decide_eq_false c]
        exact q
theorem sc_law_lots : FnScope ["rng"] ["rng"] (defScope s_lots) := ⟨rfl, rfl, rfl, by decide +kernel, rfl, by decide +kernel, by decide +kernel⟩
theorem ok_lots {f : Addr} {fd : FuncData} (F : Fun K "_law_lots" "_law_lots" s_lots f fd) (c_law_draw : Cal P w K mg base 1 "_law_draw" spDraw) (c_law_list : Cal P w K mg base 2 "_law_list" (spList K)) : FnOk P w K mg base CX0 3 f fd ["rng"] (spLots K) := by
  refine F.ok sc_law_lots (fun vs H Q E h => ?_) (fun cdv A outer s H vs Q E hr h => ?_)
  · obtain ⟨r, n, rfl, _⟩ := h
    rfl
  · obtain ⟨r, n, rfl, rg, hn, k⟩ := h
    refine ⟨_, (pss_one (ps_ret (pe_cal c_law_list hr (by decide) (by rfl) (pa_cons (pv 0) (pa_cons (pe_ix ix_list (pe_lst (pa_cons pe_int (pa_cons pe_int (pa_cons pe_int pa_nil)))) (pe_cal c_law_draw hr (by decide) (by rfl) (pa_cons (pv 0) (pa_cons pe_int pa_nil))) (fun _ _ => rfl)) (pa_cons (pe_ix ix_list (pe_lst (pa_cons pe_int (pa_cons pe_int (pa_cons (pe_op op_pow pe_int pe_int) (pa_cons (pe_op op_sub (pe_op op_pow pe_int pe_int) pe_int) pa_nil))))) (pe_cal c_law_draw hr (by decide) (by rfl) (pa_cons (pv 0) (pa_cons pe_int pa_nil))) (fun _ _ => rfl)) pa_nil)))))), ?_⟩
    refine ⟨_, rfl, (by show 3 ≤ sizeLine; decide), fun q hq => ?_⟩
    have s1 : ∀ o, Same H (upd H q o) := fun o => same_upd (Same.refl H) hq
    have qr : q ≠ r := by
      obtain ⟨_, _, _, z, _⟩ := rg
      exact (ne_of_none z hq).symm
    refine ⟨_, rfl, r, _, 3, rfl, rg.same (s1 _), by omega, by decide, by decide, fun H2 d kp2 rg2 d0 d1 => ?_⟩
    obtain ⟨most, hv, z0, z1⟩ : ∃ v : Int, atI [V.int 5, .int 12, .int 20] d = some (.int v) ∧ 0 ≤ v ∧ v ≤ 20 := by
      rcases (show d = 0 ∨ d = 1 ∨ d = 2 by omega) with rfl | rfl | rfl
      · exact ⟨_, rfl, by decide, by decide⟩
      · exact ⟨_, rfl, by decide, by decide⟩
      · exact ⟨_, rfl, by decide, by decide⟩
    refine ⟨q, _, _, _, rfl, rfl, SqL.of (kp2 _ _ qr qr upd_same), hv, ?_⟩
    refine ⟨_, _, rfl, rfl, cpow (by decide), _, _, rfl, rfl, cpow (by decide), _, _, rfl, rfl, (by show 4 ≤ sizeLine; decide), fun q2 hq2 => ?_⟩
    have s2 : ∀ o, Same H2 (upd H2 q2 o) := fun o => same_upd (Same.refl H2) hq2
    have q2r : q2 ≠ r := by
      obtain ⟨_, _, _, z, _⟩ := rg2
      exact (ne_of_none z hq2).symm
    refine ⟨_, rfl, r, _, 4, rfl, rg2.same (s2 _), by omega, by decide, by decide, fun H3 d' kp3 rg3 d0' d1' => ?_⟩
    obtain ⟨size, hv2, y0, y1⟩ : ∃ v : Int, atI [V.int 3, .int 40, .int (10 ^ (12 : Int).toNat), .int (10 ^ (30 : Int).toNat - 1)] d' = some (.int v) ∧ 1 ≤ v ∧ v ≤ 10 ^ 30 := by
      rcases (show d' = 0 ∨ d' = 1 ∨ d' = 2 ∨ d' = 3 by omega) with rfl | rfl | rfl | rfl
      · exact ⟨_, rfl, by decide, by decide⟩
      · exact ⟨_, rfl, by decide, by decide⟩
      · exact ⟨_, rfl, by decide, by decide⟩
      · exact ⟨_, rfl, by decide, by decide⟩
    refine ⟨q2, _, _, _, rfl, rfl, SqL.of (kp3 _ _ q2r q2r upd_same), hv2, ?_⟩
    have k13 : Keep r r H H3 := (Keep.of (s1 _)).trans (kp2.trans ((Keep.of (s2 _)).trans kp3))
    refine ⟨r, _, most, size, rfl, rg3, by omega, z0, z1, y0, y1, fun H4 l xs cs kp4 rg4 nl hl hcs ok sm ln => ?_⟩
    have nl0 : H l = none := by
      cases e : H l with
      | none => rfl
      | some o =>
        have lr : l ≠ r := by
          obtain ⟨_, _, _, z, _⟩ := rg3
          exact (ne_of_none z nl).symm
        have z := k13 _ _ lr lr e
        rw [nl] at z
        cases z
    exact k H4 l xs cs (k13.trans kp4) (rg4.more (by omega)) nl0 hl hcs ok sm (by omega)
theorem sc_law_far : FnScope ["steps", "factor", "step"] ["steps", "factor"] (defScope s_far) := ⟨rfl, rfl, rfl, by decide +kernel, rfl, by decide +kernel, by decide +kernel⟩
theorem ok_far {f : Addr} {fd : FuncData} (F : Fun K "_law_far" "_law_far" s_far f fd) : FnOk P w K mg base CX0 1 f fd ["steps", "factor"] (spFar K) := by
  refine F.ok sc_law_far (fun vs H Q E h => ?_) (fun cdv A outer s H vs Q E hr h => ?_)
  · obtain ⟨l, f, xs, cs, rfl, _⟩ := h
    rfl
  · obtain ⟨lw, fv, xs, cs, rfl, hl, hcs, ok, sm, ln, w0, w1, k⟩ := h
    refine ⟨_, (pss_one (ps_ret (pe_lc (own := [("step", 2)]) rfl sc_law_far.nd (pi_list (pv 0)) (blkOk_by (N := ["steps", "factor", "step"]) (sc := defScope s_far) (by decide +kernel)) (fun _ _ _ _ _ => (pg_name (i := 2) sc_law_far.nd rfl (Or.inl rfl))) (fun _ _ _ _ _ => pts_nil) (fun _ _ _ _ _ => (pe_ifExp (pt_cmpR (show OpR _ _ (rIn K false) from op_in_seq) (pe_ix (show IxR _ (rIxT K) from ix_tup) (pv 2) pe_int (fun _ _ => rfl)) (pe_tup (pa_cons pe_str (pa_cons pe_str pa_nil))) (by rfl)) (pe_tup (pa_cons (pe_ix (show IxR _ (rIxT K) from ix_tup) (pv 2) pe_int (fun _ _ => rfl)) (pa_cons (pe_op op_mulW (pe_ix (show IxR _ (rIxT K) from ix_tup) (pv 2) pe_int (fun _ _ => rfl)) (pv 1)) pa_nil))) (pv 2)))))), ?_⟩
    refine ⟨_, rfl, lw, rfl, ⟨_, hl⟩, fun D hD => ?_⟩
    refine lc_list (K := K) (a := lw) (xs := xs) (fun i H' => ∃ ps : List V, Same H H' ∧ H' D = some (.lst ps) ∧ CmdsOf K H' ps ((cs.take i).map (Cmd.mul fv)))
      ⟨[], same_upd (Same.refl H) hD, upd_same, .nil⟩ (fun i H' _ ⟨_, e, _⟩ => e.seq hl) (fun i x H' hi h => ?_) (fun H21 h => ?_)
    · obtain ⟨ps, e, hd, pp⟩ := h
      obtain ⟨c, hc, t, rfl, ht0⟩ := paired_at hcs hi
      have ht := seq_t e ht0
      have li := (List.getElem?_eq_some_iff.mp hc).1
      have smc := (sm c (List.mem_of_getElem? hc)).1
      have okc := ok c (List.mem_of_getElem? hc)
      have pl : ps.length ≤ 1000 := by
        rw [pp.len, List.length_map, List.length_take]
        omega
      rw [take_snoc hc, List.map_append]
      refine ⟨rfl, ?_⟩
      have stay : ∀ (p1 : Addr) (hp1 : H' p1 = none), c.mul fv = c → ∃ acc, upd H' p1 (.tup [.str "down", .str "up"]) D = some (.lst acc) ∧ acc.length < sizeLine ∧ ∃ qs : List V, Same H (upd (upd H' p1 (.tup [.str "down", .str "up"])) D (.lst (acc ++ [.ref t]))) ∧
          upd (upd H' p1 (.tup [.str "down", .str "up"])) D (.lst (acc ++ [.ref t])) D = some (.lst qs) ∧ CmdsOf K (upd (upd H' p1 (.tup [.str "down", .str "up"])) D (.lst (acc ++ [.ref t]))) qs ((cs.take i).map (Cmd.mul fv) ++ [c].map (Cmd.mul fv)) := fun p1 hp1 ec => by
        have s1 := same_upd (Same.refl H') hp1 (o := .tup [.str "down", .str "up"])
        refine ⟨ps, s1 _ _ hd, small_len pl, ps ++ [.ref t], same_freeU (e.trans s1) hD, upd_same, ?_⟩
        refine Paired.snoc ((pp.same s1).keep (Keep.refl _).upd1 (s1 _ _ hd)) ?_
        rw [ec]
        exact CmdAt.keep (Keep.refl _).upd1 (s1 _ _ hd) ⟨t, rfl, seq_t s1 ht⟩
      have moved : ∀ (p1 p : Addr) (hp1 : H' p1 = none) (hp : upd H' p1 (.tup [.str "down", .str "up"]) p = none) (es : List V), es = encC (c.mul fv) → ∃ acc, upd (upd H' p1 (.tup [.str "down", .str "up"])) p (.tup es) D = some (.lst acc) ∧ acc.length < sizeLine ∧
          ∃ qs : List V, Same H (upd (upd (upd H' p1 (.tup [.str "down", .str "up"])) p (.tup es)) D (.lst (acc ++ [.ref p]))) ∧
          upd (upd (upd H' p1 (.tup [.str "down", .str "up"])) p (.tup es)) D (.lst (acc ++ [.ref p])) D = some (.lst qs) ∧ CmdsOf K (upd (upd (upd H' p1 (.tup [.str "down", .str "up"])) p (.tup es)) D (.lst (acc ++ [.ref p]))) qs ((cs.take i).map (Cmd.mul fv) ++ [c].map (Cmd.mul fv)) := fun p1 p hp1 hp es ee => by
        have s1 := same_upd (Same.refl H') hp1 (o := .tup [.str "down", .str "up"])
        have s2 := same_upd s1 hp (o := .tup es)
        refine ⟨ps, s2 _ _ hd, small_len pl, ps ++ [.ref p], same_freeU (e.trans s2) hD, upd_same, ?_⟩
        refine Paired.snoc ((pp.same s2).keep (Keep.refl _).upd1 (s2 _ _ hd)) ?_
        refine CmdAt.keep (Keep.refl _).upd1 (s2 _ _ hd) ⟨p, rfl, ?_⟩
        rw [← ee]
        exact SqT.of upd_same
      cases c with
      | down n =>
        have o1 : 1 ≤ n := okc
        have o2 : n ≤ 10 ^ 30 := smc
        refine ⟨_, rfl, t, _, 0, _, rfl, rfl, ht, rfl, (by show 2 ≤ sizeLine; decide), fun p1 hp1 => ?_⟩
        have s1 := same_upd (Same.refl H') hp1 (o := .tup [.str "down", .str "up"])
        refine ⟨p1, _, rfl, .inr (SqT.of upd_same), rfl, rfl, true, by decide +kernel, iteT ?_⟩
        refine ⟨_, rfl, t, _, 0, _, rfl, rfl, seq_t s1 ht, rfl, _, rfl, t, _, 1, _, rfl, rfl, seq_t s1 ht, rfl, _, rfl, _, _, rfl, rfl, wide_mul (a := 100) (b := 100) (by omega) (by omega) (by decide) (by decide) (by decide), (by show 2 ≤ sizeLine; decide), fun p hp => ?_⟩
        exact moved p1 p hp1 hp _ rfl
      | up n =>
        have o1 : 1 ≤ n := okc
        have o2 : n ≤ 10 ^ 30 := smc
        refine ⟨_, rfl, t, _, 0, _, rfl, rfl, ht, rfl, (by show 2 ≤ sizeLine; decide), fun p1 hp1 => ?_⟩
        have s1 := same_upd (Same.refl H') hp1 (o := .tup [.str "down", .str "up"])
        refine ⟨p1, _, rfl, .inr (SqT.of upd_same), rfl, rfl, true, by decide +kernel, iteT ?_⟩
        refine ⟨_, rfl, t, _, 0, _, rfl, rfl, seq_t s1 ht, rfl, _, rfl, t, _, 1, _, rfl, rfl, seq_t s1 ht, rfl, _, rfl, _, _, rfl, rfl, wide_mul (a := 100) (b := 100) (by omega) (by omega) (by decide) (by decide) (by decide), (by show 2 ≤ sizeLine; decide), fun p hp => ?_⟩
        exact moved p1 p hp1 hp _ rfl
      | right n =>
        refine ⟨_, rfl, t, _, 0, _, rfl, rfl, ht, rfl, (by show 2 ≤ sizeLine; decide), fun p1 hp1 => ?_⟩
        refine ⟨p1, _, rfl, .inr (SqT.of upd_same), rfl, rfl, false, by decide +kernel, iteF ?_⟩
        exact ⟨_, rfl, stay p1 hp1 rfl⟩
      | left n =>
        refine ⟨_, rfl, t, _, 0, _, rfl, rfl, ht, rfl, (by show 2 ≤ sizeLine; decide), fun p1 hp1 => ?_⟩
        refine ⟨p1, _, rfl, .inr (SqT.of upd_same), rfl, rfl, false, by decide +kernel, iteF ?_⟩
        exact ⟨_, rfl, stay p1 hp1 rfl⟩
      | home =>
        refine ⟨_, rfl, t, _, 0, _, rfl, rfl, ht, rfl, (by show 2 ≤ sizeLine; decide), fun p1 hp1 => ?_⟩
        refine ⟨p1, _, rfl, .inr (SqT.of upd_same), rfl, rfl, false, by decide +kernel, iteF ?_⟩
        exact ⟨_, rfl, stay p1 hp1 rfl⟩
      | stop =>
        refine ⟨_, rfl, t, _, 0, _, rfl, rfl, ht, rfl, (by show 2 ≤ sizeLine; decide), fun p1 hp1 => ?_⟩
        refine ⟨p1, _, rfl, .inr (SqT.of upd_same), rfl, rfl, false, by decide +kernel, iteF ?_⟩
        exact ⟨_, rfl, stay p1 hp1 rfl⟩
    obtain ⟨ps, e, hd, pp⟩ := h
    rw [hcs.len, List.take_length] at pp
    exact k H21 D ps e hD hd pp
end
end Gc

namespace Gc
open PySem L2
abbrev s_right : Stmt := top 27
structure TxtR (mg : Str → Option Value) : Prop where
  repr : mg "repr" = none
  isinstance : mg "isinstance" = none
  tuple : mg "tuple" = none
  len : mg "len" = none
  min : mg "min" = none
  range : mg "range" = none
@[irreducible] def zLeast (K : PySem.W.Frag) : Sp := spLeast K
theorem zLeast_eq (K : PySem.W.Frag) : zLeast K = spLeast K := by unfold zLeast; rfl
@[irreducible] def zBox (K : PySem.W.Frag) : Sp := spBox K
theorem zBox_eq (K : PySem.W.Frag) : zBox K = spBox K := by unfold zBox; rfl
@[irreducible] def zGets (K : PySem.W.Frag) : Sp := spGets K
theorem zGets_eq (K : PySem.W.Frag) : zGets K = spGets K := by unfold zGets; rfl
def spRight (K : PySem.W.Frag) : Sp := fun vs H Q _ => ∃ (l : Addr) (xs : List V) (cs : List Cmd) (aim : Int), vs = [.ref l, .int aim] ∧ SqL K H l xs ∧ CmdsOf K H xs cs ∧ AllOk cs ∧ Bnd cs ∧ cs.length ≤ 21 ∧ 1 ≤ aim ∧ aim ≤ 10 ^ 30 ∧ ∀ H', Same H H' → Q (.bl true) H'
def LeastV (H H' : Hp) (v : V) : Option (List Int × Int × Int) → Prop
  | none => v = .non
  | some x => ∃ p, v = .ref p ∧ LeastAt H H' p x
def BoxN (v : V) (o : Option (Option Int × Ps)) : Prop := match o with
  | none => v = .non
  | some _ => ∃ p, v = .ref p
theorem rch_bd {cs : List Cmd} (h : Bnd cs) : -(8 * cs.length) ≤ (rchM cs).1 ∧ (rchM cs).2.1 ≤ 8 * cs.length := by
  have key : ∀ n, n ≤ cs.length → -(8 * (n : Int)) ≤ (rchM (cs.take n)).1 ∧ (rchM (cs.take n)).2.1 ≤ 8 * (n : Int) := by
    intro n
    induction n with
    | zero => exact fun _ => ⟨Int.le_refl 0, Int.le_refl 0⟩
    | succ n ih =>
      intro hn
      obtain ⟨h1, h2⟩ := ih (by omega)
      have hc : cs[n]? = some cs[n] := List.getElem?_eq_getElem (by omega)
      have b := last_le (cs := cs.take (n + 1)) fun c hc => h c (List.mem_of_mem_take hc)
      rw [List.length_take, Nat.min_eq_left hn] at b
      have lm := last_more hc
      obtain ⟨v1, v2⟩ := rch_vert hc (d := cs[n].dv) rfl
      rw [v1, v2, ← lm]
      constructor
      · split <;> omega
      · split <;> omega
  have q := key cs.length (Nat.le_refl _)
  rw [List.take_length] at q
  exact q
theorem ask_least {K : PySem.W.Frag} {H : Hp} {Q : VK} {E : XK} {l : Addr} {xs : List V} {cs : List Cmd} {goal : Int} (hl : SqL K H l xs) (hc : CmdsOf K H xs cs) (ok : AllOk cs) (bd : Bnd cs) (ln : cs.length ≤ 21) (hg : 1 ≤ goal)
    (k : ∀ H' v, Same H H' → LeastV H H' v (leastM cs goal) → Q v H') : zLeast K [.ref l, .int goal] H Q E := by
  rw [zLeast_eq]
  have b := rch_bd bd
  exact ⟨l, xs, cs, goal, rfl, hl, hc, ok, by omega, hg, by omega, fun e H' s => k H' .non s (by rw [e]; rfl), fun x e H' p s z => k H' (.ref p) s (by rw [e]; exact ⟨p, rfl, z⟩)⟩
theorem ask_boxN {K : PySem.W.Frag} {H : Hp} {Q : VK} {E : XK} {l : Addr} {xs : List V} {cs : List Cmd} {goal : Int} (hl : SqL K H l xs) (hc : CmdsOf K H xs cs) (ok : AllOk cs) (ln : cs.length ≤ 10000) (hg : 1 ≤ goal)
    (k : ∀ H' v, Same H H' → BoxN v (boxM cs goal) → Q v H') : zBox K [.ref l, .int goal] H Q E := by
  rw [zBox_eq]
  exact ⟨l, xs, cs, goal, rfl, hl, hc, ok, ln, hg, fun e H' s => k H' .non s (by rw [e]; rfl), fun st L e H' p s b => k H' (.ref p) s (by rw [e]; exact ⟨p, rfl⟩)⟩
theorem ask_yes {K : PySem.W.Frag} {H : Hp} {Q : VK} {E : XK} {t b l : Addr} {T : List Int} {r a aim r' : Int} {a' : Option Int} {xs : List V} {cs : List Cmd} (ht : SqL K H t (T.map V.int)) (hb : SqT K H b [.int r, .int a]) (hl : SqL K H l xs) (hc : CmdsOf K H xs cs) (r0 : 0 ≤ r) (r1 : r < T.length)
    (e : afterL T r (some a) cs = some (r', a')) (g : ge a' aim) (k : ∀ H', Same H H' → Q (.bl true) H') : zGets K [.ref t, .ref b, .ref l, .int aim] H Q E := by
  rw [zGets_eq]
  exact ⟨t, b, l, T, r, a, aim, xs, cs, rfl, ht, hb, hl, hc, r0, r1, r', a', e, fun _ => k, fun z => absurd g z⟩
theorem ask_no {K : PySem.W.Frag} {H : Hp} {Q : VK} {E : XK} {t b l : Addr} {T : List Int} {r a aim r' : Int} {a' : Option Int} {xs : List V} {cs : List Cmd} (ht : SqL K H t (T.map V.int)) (hb : SqT K H b [.int r, .int a]) (hl : SqL K H l xs) (hc : CmdsOf K H xs cs) (r0 : 0 ≤ r) (r1 : r < T.length)
    (e : afterL T r (some a) cs = some (r', a')) (g : ¬ ge a' aim) (k : ∀ H', Same H H' → Q (.bl false) H') : zGets K [.ref t, .ref b, .ref l, .int aim] H Q E := by
  rw [zGets_eq]
  exact ⟨t, b, l, T, r, a, aim, xs, cs, rfl, ht, hb, hl, hc, r0, r1, r', a', e, fun z => absurd z g, fun _ => k⟩
theorem dp_text {K : PySem.W.Frag} {H : Hp} {p t b : Addr} {T : List Int} {r a : Int} (h1 : H p = some (.tup [.ref t, .ref b])) (h2 : H t = some (.lst (T.map V.int))) (h3 : H b = some (.tup [.int r, .int a])) : Dp K H (.ref p) (textD T r a) :=
  .tup (SqT.of h1) (.cons (.lst (SqL.of h2) (dp_ints T)) (.cons (.tup (SqT.of h3) (.cons (.int r) (.cons (.int a) .nil))) .nil))
theorem textD_lay (T : List Int) (r a : Int) : (textD T r a).canLay0 = true := by
  have h : PyData.canLayAll0 (T.map PyData.int) = true := PySem.W.ke_canLayAll0 T
  simp [textD, PyData.canLay0, PyData.canLayAll0, h]
theorem textD_shaped (T : List Int) (r a : Int) : SeqAt.shaped (textD T r a) = true := by
  have hd : (textD T r a).depth ≤ 64 := by
    simp only [textD, PyData.depth, PyData.depthAll, deep_ints]
    omega
  unfold SeqAt.shaped
  rw [textD_lay, decide_eq_true hd]
  rfl
theorem cut_lo2 {xs : List V} {n : Nat} {z : Int} (e : z = (n : Int)) (h : n ≤ xs.length) : cutV xs none (some z) = xs.take n := by
  subst e
  unfold cutV
  rw [HT.sIx_none, HT.sIx_nat, Nat.min_eq_left h, List.drop_zero, Nat.sub_zero]
theorem cut_hi2 {xs : List V} {n : Nat} {z : Int} (e : z = (n : Int)) (h : n ≤ xs.length) : cutV xs (some z) none = xs.drop n := by
  subst e
  unfold cutV
  rw [HT.sIx_none, HT.sIx_nat, Nat.min_eq_left h, List.take_of_length_le]
  rw [List.length_drop]
  exact Nat.le_refl _
theorem cut_last (xs : List V) (y : V) : cutV (xs ++ [y]) none (some (-1)) = xs := by
  have e : HT.sIx (xs ++ [y]).length (xs ++ [y]).length (some (-1)) = xs.length := by
    show (if (-1 : Int) < 0 then ((-1 : Int) + ((xs ++ [y]).length : Int)).toNat else min (-1 : Int).toNat (xs ++ [y]).length) = _
    rw [if_pos (by decide), List.length_append, List.length_singleton]
    omega
  unfold cutV
  rw [HT.sIx_none, e, List.drop_zero, Nat.sub_zero]
  exact List.take_left
theorem set_ints {T : List Int} {i : Nat} (h : i < T.length) (v : Int) : (T.map V.int).take i ++ [V.int v] ++ (T.map V.int).drop (i + 1) = (T.set i v).map V.int := by
  rw [List.map_set, List.set_eq_take_append_cons_drop, if_pos (by rw [List.length_map]; exact h), List.append_assoc]
  rfl
section
variable {P : Program} {w : World} {K : PySem.W.Frag} {mg : Str → Option Value} {base : Heap}
theorem sc_law_right : FnScope ["steps", "aim", "found", "spread", "lengths", "begin", "row"] ["steps", "aim"] (defScope s_right) := ⟨rfl, rfl, rfl, by decide +kernel, rfl, by decide +kernel, by decide +kernel⟩
theorem ok_right {f : Addr} {fd : FuncData} (F : Fun K "_law_right" "_law_right" s_right f fd) (T : TxtR mg) (c_least_text : Cal P w K mg base 6 "least_text" (zLeast K)) (k_least_text : CalK P w K mg base 6 "least_text" ["goal", "commands"] (zLeast K))
    (c_box : Cal P w K mg base 5 "box" (zBox K)) (c_law_spread : Cal P w K mg base 1 "_law_spread" (spSpread K)) (c_law_gets : Cal P w K mg base 2 "_law_gets" (zGets K)) : FnG P w K mg base 7 f fd ["steps", "aim"] (spRight K) := by
  refine okG F sc_law_right (fun vs H Q E h => ?_) (fun cdv A outer s H vs Q E hg hr h => ?_)
  · obtain ⟨l, xs, cs, aim, rfl, _⟩ := h
    rfl
  · obtain ⟨l, xs, cs, aim, rfl, hl, hcs, ok, bd, ln, a0, a1, k⟩ := h
    refine ⟨_, (pss_cons (ps_par (i := 2) (j := 3) rfl sc_law_right.nd rfl rfl (by decide) rfl rfl (pa_cons (pe_cal c_least_text hr (by decide) (by rfl) (pa_cons (pv 0) (pa_cons (pv 1) pa_nil))) (pa_cons (pe_cal c_law_spread hr (by decide) (by rfl) (pa_cons (pv 0) pa_nil)) pa_nil)) (by rfl))
      (pss_cons (ps_if (pt_cmpR op_ne (pe_cmpR op_isN (pv 2) pe_non (nomark _)) (pe_cmpR op_isN (pe_cal c_box hr (by decide) (by rfl) (pa_cons (pv 0) (pa_cons (pv 1) pa_nil))) pe_non (nomark _)) (nomark _)) (pss_one (ps_ret pe_bl)) pss_nil)
      (pss_cons (ps_if (pt_cmpR op_isN (pv 2) pe_non (nomark _)) (pss_one (ps_ret (pe_cmpR op_isN (pe_calK k_least_text hr (by decide) (by rfl) (pk_cons (pv 1) (pk_cons (pv 0) pk_nil))) pe_non (nomark _)))) pss_nil)
      (pss_cons (ps_if (PW.pt (pw_or (pt_cmpR op_ne (pe_callB (cr_repr hg hr.units) (by rfl) T.repr (by decide +kernel) (pa_cons (pe_calK k_least_text hr (by decide) (by rfl) (pk_cons (pv 1) (pk_cons (pv 0) pk_nil))) pa_nil)) (pe_callB (cr_repr hg hr.units) (by rfl) T.repr (by decide +kernel) (pa_cons (pv 2) pa_nil)) (nomark _)) (pw_or1 (pt_not (pt_val (pe_callB call_isi (by rfl) T.isinstance (by decide +kernel) (pa_cons (pv 2) (pa_cons (pe_bltn (v := .ty "tuple") (u := .type "tuple") (by rfl) T.tuple (by decide +kernel) rfl) pa_nil)))))))) (pss_one (ps_ret pe_bl)) pss_nil)
      (pss_cons (ps_asg (pv 2) (pg_tup rfl (pgs_cons (pg_name (i := 4) sc_law_right.nd rfl (Or.inl rfl)) (pgs_cons (pg_name (i := 5) sc_law_right.nd rfl (Or.inl rfl)) pgs_nil))))
      (pss_cons (ps_if (PW.pt (pw_or (pt_cmpR op_ne (pe_callB call_len_seq (by rfl) T.len (by decide +kernel) (pa_cons (pv 4) pa_nil)) (pe_op op_add (pe_op op_sub (pe_ix ix_tup (pv 3) pe_int (fun _ _ => rfl)) (pe_ix ix_tup (pv 3) pe_int (fun _ _ => rfl))) pe_int) (nomark _)) (pw_or (pt_cmpR op_ne (pe_ix ix_tup (pv 5) pe_int (fun _ _ => rfl)) (pe_op op_sub pe_int (pe_ix ix_tup (pv 3) pe_int (fun _ _ => rfl))) (nomark _)) (pw_or1 (pt_not (pt_val (pe_callB call_isi (by rfl) T.isinstance (by decide +kernel) (pa_cons (pv 5) (pa_cons (pe_bltn (v := .ty "tuple") (u := .type "tuple") (by rfl) T.tuple (by decide +kernel) rfl) pa_nil))))))))) (pss_one (ps_ret pe_bl)) pss_nil)
      (pss_cons (ps_if (PW.pt (pw_or (pt_cmpR op_lt (pe_callB (cr_min rfl) (by rfl) T.min (by decide +kernel) (pa_cons (pv 4) pa_nil)) pe_int (nomark _)) (pw_or (pt_cmpR op_lt (pe_ix ix_tup (pv 5) pe_int (fun _ _ => rfl)) pe_int (nomark _)) (pw_or1 (pt_not (pt_val (pe_cal c_law_gets hr (by decide) (by rfl) (pa_cons (pv 4) (pa_cons (pv 5) (pa_cons (pv 0) (pa_cons (pv 1) pa_nil))))))))))) (pss_one (ps_ret pe_bl)) pss_nil)
      (C8.pss_cut (ps_if (PW.pt (pw_and (pt_cmpR op_gt (pe_ix ix_tup (pv 5) pe_int (fun _ _ => rfl)) pe_int (nomark _)) (pw_and1 (pt_val (pe_cal c_law_gets hr (by decide) (by rfl) (pa_cons (pv 4) (pa_cons (pe_tup (pa_cons (pe_ix ix_tup (pv 5) pe_int (fun _ _ => rfl)) (pa_cons (pe_op op_sub (pe_ix ix_tup (pv 5) pe_int (fun _ _ => rfl)) pe_int) pa_nil))) (pa_cons (pv 0) (pa_cons (pv 1) pa_nil))))))))) (pss_one (ps_ret pe_bl)) pss_nil)
      (pss_cons (ps_for PassesOwn.never rfl (pi_range1 rfl T.range (pa_cons (pe_callB call_len_seq (by rfl) T.len (by decide +kernel) (pa_cons (pv 4) pa_nil)) pa_nil)) (pg_name (i := 6) sc_law_right.nd rfl (Or.inl rfl)) (pss_one (ps_if (pt_cmpR op_gt (pe_ix ix_list (pv 4) (pv 6) (fun _ _ => rfl)) pe_int (nomark _)) (pss_one (ps_if (pt_val (pe_cal c_law_gets hr (by decide) (by rfl) (pa_cons (pe_op op_cat (pe_op op_cat (pe_slice sl_list (pv 4) po_none (po_some (pv 6))) (pe_lst (pa_cons (pe_op op_sub (pe_ix ix_list (pv 4) (pv 6) (fun _ _ => rfl)) pe_int) pa_nil))) (pe_slice sl_list (pv 4) (po_some (pe_op op_add (pv 6) pe_int)) po_none)) (pa_cons (pv 5) (pa_cons (pv 0) (pa_cons (pv 1) pa_nil)))))) (pss_one (ps_ret pe_bl)) pss_nil)) pss_nil)))
      (pss_cons (ps_expr (pe_bm PySem.F.plainAttrs_list PySem.F.slot_list_append PySem.F.type_list_append mt_append (pv 4) (pa_cons pe_int pa_nil)))
      (pss_one (ps_ret (pe_cmpR (op_eqD hr.units) (pe_cal c_least_text hr (by decide) (by rfl) (pa_cons (pv 0) (pa_cons (pv 1) pa_nil))) (pe_tup (pa_cons (pe_slice sl_list (pv 4) po_none (po_some (pe_un un_neg pe_int))) (pa_cons (pv 5) pa_nil))) (nomark _)))))))))))))), ?_⟩
    have bdr := rch_bd bd
    obtain ⟨w, wl⟩ := rch_within cs
    rcases box_spec ok a0 with ⟨b1, _⟩ | ⟨st, b, b1, gb, _, pb⟩
    · have lm : leastM cs aim = none := by unfold leastM; rw [b1]; rfl
      refine ⟨_, rfl, _, rfl, ?_⟩
      refine ask_least (goal := aim) hl hcs ok bd ln a0 (fun H1 v1 e1 c1 => ?_)
      rw [lm] at c1
      obtain rfl : v1 = .non := c1
      refine ⟨_, rfl, l, xs, cs, rfl, e1.seq hl, hcs.same e1, fun H2 ps e2 hs => ⟨_, _, rfl, ?_⟩⟩
      have e12 := e1.trans e2
      refine ⟨_, rfl, rfl, _, rfl, _, rfl, ?_⟩
      refine ask_boxN (goal := aim) (e12.seq hl) (hcs.same e12) ok (by omega) a0 (fun H3 v3 e3 c3 => ?_)
      rw [b1] at c3
      obtain rfl : v3 = .non := c3
      have e13 := e12.trans e3
      refine ⟨rfl, rfl, false, by decide +kernel, iteF ?_⟩
      refine ⟨_, rfl, rfl, _, rfl, iteT ?_⟩
      refine ⟨_, rfl, _, rfl, ?_⟩
      refine ask_least (goal := aim) (e13.seq hl) (hcs.same e13) ok bd ln a0 (fun H4 v4 e4 c4 => ?_)
      rw [lm] at c4
      obtain rfl : v4 = .non := c4
      exact ⟨rfl, k _ (e13.trans e4)⟩
    have gL := good_perm gb (List.mergeSort_perm b leK)
    have wL := box_within b1 w
    have z0 := w.zero
    have vals := box_vals (B := 100 * 10 ^ 30) b1 ok (by have := lsum_le bd; omega)
    generalize hL : b.mergeSort leK = L at *
    have lm : leastM cs aim = some (textM (rchM cs).1 (rchM cs).2.1 L, -(rchM cs).1, st.getD 0) := by unfold leastM; rw [b1]; rfl
    have Tl := textM_len (lo := (rchM cs).1) (hi := (rchM cs).2.1) (by omega) L
    have Tn := textM_nn gL wL
    have Tb := textM_le gL wL vals.1 (by decide)
    have lg := least_gets gL w ok a0 b1 pb
    have lgo := fun n (es : st = some n) => least_goal gL w ok a0 b1 es (pb n es)
    have lr := fun i (li : i < (textM (rchM cs).1 (rchM cs).2.1 L).length) => least_row gL w ok a0 b1 pb (i := i) li
    have an : 0 ≤ st.getD 0 ∧ st.getD 0 ≤ 100 * 10 ^ 30 := by
      cases st with
      | none => exact ⟨Int.le_refl 0, by decide⟩
      | some n =>
        have q1 := pb n rfl
        have q2 := vals.2 n rfl
        exact ⟨by show 0 ≤ n; omega, q2⟩
    generalize hT : textM (rchM cs).1 (rchM cs).2.1 L = T at *
    have pos1 : 0 < T.length := by omega
    have shw := textD_ok (T := T) (r := -(rchM cs).1) (a := st.getD 0) (fun x hx => by have q1 := Tn x hx; have q2 := Tb x hx; unfold Sml; omega) (by unfold Sml; omega) (by unfold Sml; omega) (by omega)
    generalize ha : st.getD 0 = av at *
    -- found, spread
    refine ⟨_, rfl, _, rfl, ?_⟩
    refine ask_least (goal := aim) hl hcs ok bd ln a0 (fun H1 v1 e1 c1 => ?_)
    rw [lm] at c1
    obtain ⟨p, rfl, t, bg, np, nt, nb, hp, ht0, hb0⟩ := c1
    have ht : H1 t = some (.lst (T.map V.int)) := ht0
    have hb : H1 bg = some (.tup [.int (-(rchM cs).1), .int av]) := hb0
    clear ht0 hb0
    refine ⟨_, rfl, l, xs, cs, rfl, e1.seq hl, hcs.same e1, fun H2 ps e2 hs => ⟨_, _, rfl, ?_⟩⟩
    have e12 := e1.trans e2
    refine ⟨_, rfl, rfl, _, rfl, _, rfl, ?_⟩
    refine ask_boxN (goal := aim) (e12.seq hl) (hcs.same e12) ok (by omega) a0 (fun H3 v3 e3 c3 => ?_)
    rw [b1] at c3
    obtain ⟨p3, rfl⟩ := c3
    have e13 := e12.trans e3
    refine ⟨rfl, rfl, false, by simp, iteF ?_⟩
    refine ⟨_, rfl, rfl, _, rfl, iteF ?_⟩
    -- repr
    refine ⟨_, rfl, _, rfl, ?_⟩
    refine ask_least (goal := aim) (e13.seq hl) (hcs.same e13) ok bd ln a0 (fun H4 v4 e4 c4 => ?_)
    rw [lm] at c4
    obtain ⟨p4, rfl, t4, bg4, _, _, _, hp4, ht4, hb4⟩ := c4
    have e24 := (e2.trans e3).trans e4
    refine ⟨p4, _, rfl, dp_text hp4 ht4 hb4, shw.1, shw.2.1, shw.2.2.1, shw.2.2.2, ?_⟩
    refine ⟨_, rfl, p, _, rfl, dp_text (e24 _ _ hp) (e24 _ _ ht) (e24 _ _ hb), shw.1, shw.2.1, shw.2.2.1, shw.2.2.2, ?_⟩
    refine ⟨rfl, false, by simp, iteF ?_⟩
    refine ⟨_, rfl, _, _, _, _, _, rfl, .ty "tuple", ty_t (SqT.of (e24 _ _ hp)), kit_ty (show kitB "tuple" "tuple" = some true by decide +kernel), _, rfl, iteF ?_⟩
    -- lengths, begin = found
    refine ⟨_, rfl, p, _, rfl, SqT.of (e24 _ _ hp), rfl, _, _, rfl, _, _, rfl, rfl, ?_⟩
    have ht' := e24 _ _ ht
    have hb' := e24 _ _ hb
    have hs' := (e3.trans e4) _ _ hs
    have e14 := e13.trans e4
    have hl4 := e14.seq hl
    have hcs4 := hcs.same e14
    have r0 : 0 ≤ -(rchM cs).1 := by omega
    have r1 : -(rchM cs).1 < T.length := by omega
    refine ⟨_, rfl, t, _, rfl, .inl (SqL.of ht'), _, rfl, ps, _, 1, _, rfl, rfl, SqT.of hs', rfl, _, rfl, ps, _, 0, _, rfl, rfl, SqT.of hs', rfl, _, _, rfl, rfl, _, _, rfl, rfl, rfl, false, ?_, iteF ?_⟩
    · rw [List.length_map, Tl]
      simp
    refine ⟨_, rfl, bg, _, 0, _, rfl, rfl, SqT.of hb', rfl, _, rfl, ps, _, 0, _, rfl, rfl, SqT.of hs', rfl, _, _, rfl, rfl, rfl, false, ?_, iteF ?_⟩
    · show V.bl (!decide (V.int (-(rchM cs).1) = V.int (0 - (rchM cs).1))) = V.bl false
      rw [show 0 - (rchM cs).1 = -(rchM cs).1 by omega]
      simp
    refine ⟨_, rfl, _, _, _, _, _, rfl, .ty "tuple", ty_t (SqT.of hb'), kit_ty (show kitB "tuple" "tuple" = some true by decide +kernel), _, rfl, iteF ?_⟩
    -- min(lengths) < 0 or begin[1] < 0 or not gets
    refine ⟨_, rfl, t, T, rfl, SqL.of ht', pos1, fun m hm hle => ?_⟩
    refine ⟨_, _, rfl, rfl, _, rfl, ite2 (fun c => absurd (of_decide_eq_true c) (by have := Tn m hm; omega)) (fun _ => ?_)⟩
    refine ⟨_, rfl, bg, _, 1, _, rfl, rfl, SqT.of hb', rfl, _, _, rfl, rfl, _, rfl, ite2 (fun c => absurd (of_decide_eq_true c) (by omega)) (fun _ => ?_)⟩
    refine ⟨_, rfl, _, rfl, _, rfl, _, rfl, ?_⟩
    obtain ⟨ag, lg1, lg2⟩ := lg
    refine ask_yes (SqL.of ht') (SqT.of hb') hl4 hcs4 r0 r1 lg1 lg2 (fun H5 e5 => ?_)
    refine ⟨_, rfl, iteF ?_⟩
    have e25 := e24.trans e5
    have e15 := e14.trans e5
    clear e24 e14 hp4 ht4 hb4 hl4 hcs4
    -- begin[1] > 0 and gets
    refine ⟨fun σ H' => ∃ v6 : Option V, σ = [some (.ref l), some (.int aim), some (.ref p), some (.ref ps), some (.ref t), some (.ref bg), v6] ∧ Same H1 H', ?_, ?_⟩
    · refine ⟨_, rfl, bg, _, 1, _, rfl, rfl, SqT.of (e5 _ _ hb'), rfl, _, _, rfl, rfl, _, rfl, ite2 (fun c => ?_) (fun c => ?_)⟩
      · have c' : 0 < av := of_decide_eq_true c
        refine ⟨_, rfl, _, rfl, bg, _, 0, _, rfl, rfl, SqT.of (e5 _ _ hb'), rfl, _, rfl, bg, _, 1, _, rfl, rfl, SqT.of (e5 _ _ hb'), rfl, _, _, rfl, rfl, (by show 2 ≤ sizeLine; decide), fun p0 hp0 => ?_⟩
        have s5 := same_upd (Same.refl H5) hp0 (o := .tup [.int (-(rchM cs).1), .int (av - 1)])
        refine ⟨_, rfl, _, rfl, ?_⟩
        obtain ⟨n, es⟩ : ∃ n, st = some n := by
          cases st with
          | none =>
            have q : (0 : Int) = av := ha
            omega
          | some n => exact ⟨n, rfl⟩
        have en : av = n := by
          rw [← ha, es]
          rfl
        obtain ⟨ag2, g1, g2⟩ := lgo n es
        rw [← en] at g1
        refine ask_no (SqL.of ((e5.trans s5) _ _ ht')) (SqT.of upd_same) ((e15.trans s5).seq hl) (hcs.same (e15.trans s5)) r0 r1 g1 g2 (fun H6 e6 => ?_)
        exact ⟨_, rfl, iteF ⟨_, rfl, (e25.trans s5).trans e6⟩⟩
      · exact ⟨_, rfl, e25⟩
    · rintro σ H6 ⟨v6, rfl, e6⟩
      -- for row in range(len(lengths))
      refine ⟨_, rfl, t, _, rfl, .inl (SqL.of (e6 _ _ ht)), _, rfl, ?_, ?_, ?_⟩
      · omega
      · rw [List.length_map]
        omega
      refine for_range (lo := 0) (fun i σ H' => ∃ v6 : Option V, σ = [some (.ref l), some (.int aim), some (.ref p), some (.ref ps), some (.ref t), some (.ref bg), v6] ∧ Same H1 H') ⟨v6, rfl, e6⟩ (fun i σ H7 hi h => ?_) (fun σ H7 h => ?_)
      · obtain ⟨w6, rfl, e7⟩ := h
        rw [List.length_map] at hi
        have al := at_len (T := T) (r := 0 + (i : Int)) (by omega) (by omega)
        have ht7 := e7 _ _ ht
        refine ⟨_, rfl, _, rfl, t, _, _, _, rfl, rfl, SqL.of ht7, al, _, _, rfl, rfl, _, rfl, ite2 (fun c => ?_) (fun c => ?_)⟩
        · have c' : 0 < lenAt T (0 + (i : Int)) := of_decide_eq_true c
          have li : i ≤ (T.map V.int).length := by rw [List.length_map]; omega
          have li1 : i + 1 ≤ (T.map V.int).length := by rw [List.length_map]; omega
          have zi : (0 + (i : Int)) = i := Int.zero_add _
          have Tl3 : T.length ≤ 400 := by omega
          refine ⟨_, rfl, _, rfl, _, rfl, t, _, rfl, SqL.of ht7, fun q1 hq1 => ?_⟩
          rw [cut_lo2 zi li]
          generalize gA : upd H7 q1 (.lst ((T.map V.int).take i)) = HA
          have sA : Same H7 HA := by rw [← gA]; exact same_upd (Same.refl _) hq1
          have fA : HA q1 = some (.lst ((T.map V.int).take i)) := by rw [← gA]; exact upd_same
          refine ⟨_, rfl, _, rfl, t, _, _, _, rfl, rfl, SqL.of (sA _ _ ht7), al, _, _, rfl, rfl, (by show 1 ≤ sizeLine; decide), fun q2 hq2 => ?_⟩
          have sB : ∀ o, Same HA (upd HA q2 o) := fun o => same_upd (Same.refl _) hq2
          refine ⟨q1, q2, _, _, rfl, rfl, sB _ _ _ fA, upd_same, ?_, fun q3 hq3 => ?_⟩
          · refine Nat.le_of_lt (small_len ?_)
            rw [List.length_take, List.length_map]
            show _ + 1 ≤ _
            omega
          have sC : ∀ o, Same _ (upd (upd HA q2 (.lst [.int (lenAt T (0 + (i : Int)) - 1)])) q3 o) := fun o => same_upd (Same.refl _) hq3
          have s7C := fun o => (sA.trans (sB _)).trans (sC o)
          refine ⟨_, rfl, _, rfl, _, _, rfl, rfl, _, rfl, t, _, rfl, SqL.of (s7C _ _ _ ht7), fun q4 hq4 => ?_⟩
          rw [cut_hi2 (n := i + 1) (by omega) li1]
          have sD := fun o => same_upd (Same.refl _) hq4 (o := o)
          refine ⟨q3, q4, _, _, rfl, rfl, sD _ _ _ upd_same, upd_same, ?_, fun q5 hq5 => ?_⟩
          · refine Nat.le_of_lt (small_len ?_)
            rw [List.length_append, List.length_take, List.length_drop, List.length_map]
            show _ + 1 + _ ≤ _
            omega
          have sE := fun o => same_upd (Same.refl _) hq5 (o := o)
          have s7E := fun o => ((s7C _).trans (sD _)).trans (sE o)
          refine ⟨_, rfl, _, rfl, _, rfl, ?_⟩
          obtain ⟨ag3, g1, g2⟩ := lr i (by omega) (by rw [← zi]; exact c')
          rw [← zi] at g1
          refine ask_no (T := T.set i (lenAt T (0 + (i : Int)) - 1)) (SqL.of ?_) (SqT.of (s7E _ _ _ (e7 _ _ hb))) ((e1.trans (e7.trans (s7E _))).seq hl) (hcs.same (e1.trans (e7.trans (s7E _)))) r0 (by rw [List.length_set]; exact r1) g1 g2 (fun H8 e8 => ?_)
          · rw [← set_ints (by omega)]
            exact upd_same
          · exact ⟨_, rfl, iteF ⟨_, rfl, e7.trans ((s7E _).trans e8)⟩⟩
        · exact ⟨_, rfl, e7⟩
      · obtain ⟨w6, rfl, e7⟩ := h
        -- lengths.append(7)
        refine ⟨_, rfl, .inl ⟨rfl, _, SqL.of (e7 _ _ ht)⟩, t, _, _, rfl, rfl, e7 _ _ ht, small_len (by rw [List.length_map]; omega), ?_⟩
        have e08 : Same H (upd H7 t (.lst (T.map V.int ++ [.int 7]))) := same_freeU (e1.trans e7) nt
        have t8 : upd H7 t (.lst (T.map V.int ++ [.int 7])) t = some (.lst (T.map V.int ++ [.int 7])) := upd_same
        have b8 : upd H7 t (.lst (T.map V.int ++ [.int 7])) bg = some (.tup [.int (-(rchM cs).1), .int av]) := by
          rw [upd_ne (ne_of (e7 _ _ hb) (e7 _ _ ht) (by intro q; cases q))]
          exact e7 _ _ hb
        generalize upd H7 t (.lst (T.map V.int ++ [.int 7])) = H8 at e08 t8 b8 ⊢
        refine ⟨_, rfl, _, rfl, ?_⟩
        refine ask_least (goal := aim) (e08.seq hl) (hcs.same e08) ok bd ln a0 (fun H9 v9 e9 c9 => ?_)
        rw [lm] at c9
        obtain ⟨p9, rfl, t9, b9, _, _, _, hp9, ht9, hb9⟩ := c9
        refine ⟨_, rfl, _, rfl, _, rfl, t, _, rfl, SqL.of (e9 _ _ t8), fun q6 hq6 => ?_⟩
        rw [cut_last]
        have sF : Same H9 (upd H9 q6 (.lst (T.map V.int))) := same_upd (Same.refl _) hq6
        refine ⟨_, rfl, (by show 2 ≤ sizeLine; decide), fun p0 hp0 => ?_⟩
        have sG : Same (upd H9 q6 (.lst (T.map V.int))) (upd (upd H9 q6 (.lst (T.map V.int))) p0 (.tup [.ref q6, .ref bg])) := same_upd (Same.refl _) hp0
        have sFG := sF.trans sG
        refine ⟨textD T (-(rchM cs).1) av, textD T (-(rchM cs).1) av, dp_text (sFG _ _ hp9) (sFG _ _ ht9) (sFG _ _ hb9), dp_text upd_same (sG _ _ upd_same) (sFG _ _ (e9 _ _ b8)), textD_shaped _ _ _, textD_shaped _ _ _, ?_⟩
        rw [SeqAt.eqv_refl _ (textD_lay _ _ _)]
        exact k _ ((e08.trans e9).trans sFG)
end
end Gc

namespace Gc
open PySem L2
abbrev s_law : Stmt := top 29
structure CalG (P : Program) (w : World) (K : PySem.W.Frag) (mg : Str → Option Value) (base : Heap) (k : Nat) (x : Str) (sp : Sp) : Prop where
  ex : ∃ (f : Addr) (fd : FuncData) (ps : List Str), FnG P w K mg base k f fd ps sp ∧ mg x = some (.ref f) ∧ PySem.W.keepIn K (.ref f) = true ∧ Binds K fd ps []
theorem FnG.mono {P : Program} {w : World} {K : PySem.W.Frag} {mg : Str → Option Value} {base : Heap} {j k : Nat} {f : Addr} {fd : FuncData} {ps : List Str} {sp : Sp} (F : FnG P w K mg base j f fd ps sp) (h : j ≤ k) : FnG P w K mg base k f fd ps sp :=
  ⟨F.len, fun A outer s H args us vs Q E hg hr => F.run A outer s H args us vs Q E hg (hr.mono h)⟩
theorem pe_calG {X : Cx} {k j : Nat} {x : Str} {sp : Sp} {p pos : Pos} {e : Expr} {es : List Expr} {t : TA} (c : CalG X.prog X.w X.K X.mg X.base k x sp) (hg0 : X.A.guards = some []) (hr : Room j X.A) (hk : k ≤ j) (hg : Gl X x) (ha : PA X (e :: es) t)
    (hdb : (x == ("__debug__" : Str)) = false := by decide) (he : starEach (e :: es) X.env = (false, eval e X.env) :: starEach es X.env := by rfl) (hpl : (backTo pos (starEach es X.env)).any (·.1) = false := by rfl) :
    PE X (.Call (.Name x p) (e :: es) [] pos) (tCall sp [] E0 t) := by
  obtain ⟨f, fd, ps, F, hm, kp, b⟩ := c.ex
  exact pe_callG F hg0 (hr.mono hk) hg hm kp b ha hdb he hpl
@[irreducible] def zRight (K : PySem.W.Frag) : Sp := spRight K
theorem zRight_eq (K : PySem.W.Frag) : zRight K = spRight K := by unfold zRight; rfl
def spLaw (K : PySem.W.Frag) : Sp := fun vs H Q _ => ∃ (a : Addr) (ns : List Int), vs = [.ref a] ∧ SqL K H a (ns.map V.int) ∧ ns.length ≤ 63 ∧ ∀ H', Q (.bl true) H'
theorem mul_ok {F : Int} (hF : 1 ≤ F) {cs : List Cmd} (h : AllOk cs) : AllOk (cs.map (Cmd.mul F)) := by
  intro c hc
  obtain ⟨d, hd, rfl⟩ := List.mem_map.mp hc
  have o := h d hd
  have m : ∀ n : Int, 1 ≤ n → 1 ≤ n * F := fun n hn => by
    have := Int.mul_le_mul hn hF (by decide) (by omega)
    omega
  cases d with
  | down n => exact m n o
  | up n => exact m n o
  | right n => exact o
  | left n => exact o
  | home => exact o
  | stop => exact o
theorem ask_right {K : PySem.W.Frag} {H : Hp} {Q : VK} {E : XK} {l : Addr} {xs : List V} {cs : List Cmd} {aim : Int} (hl : SqL K H l xs) (hc : CmdsOf K H xs cs) (ok : AllOk cs) (bd : Bnd cs) (ln : cs.length ≤ 21) (a0 : 1 ≤ aim) (a1 : aim ≤ 10 ^ 30)
    (k : ∀ H', Same H H' → Q (.bl true) H') : zRight K [.ref l, .int aim] H Q E := by
  rw [zRight_eq]
  exact ⟨l, xs, cs, aim, rfl, hl, hc, ok, bd, ln, a0, a1, k⟩
theorem ask_least0 {K : PySem.W.Frag} {H : Hp} {Q : VK} {E : XK} {l : Addr} {xs : List V} {cs : List Cmd} {goal : Int} {x : List Int × Int × Int} (hl : SqL K H l xs) (hc : CmdsOf K H xs cs) (ok : AllOk cs) (ln : cs.length ≤ 21) (hg : 1 ≤ goal) (hh : (rchM cs).2.1 - (rchM cs).1 < 10000)
    (e : leastM cs goal = some x) (k : ∀ H' p, Same H H' → LeastAt H H' p x → Q (.ref p) H') : zLeast K [.ref l, .int goal] H Q E := by
  rw [zLeast_eq]
  exact ⟨l, xs, cs, goal, rfl, hl, hc, ok, by omega, hg, hh, fun z => (by rw [e] at z; cases z), fun y z H' p s q => k H' p s (by rw [e] at z; cases z; exact q)⟩
theorem bnd_small {cs : List Cmd} (h : AllSmall cs) : Bnd cs := fun c hc => by
  obtain ⟨a, b⟩ := h c hc
  refine ⟨?_, by omega⟩
  cases c with
  | left n => exact a
  | down n => show (0 : Int) ≤ 10 ^ 30; decide
  | up n => show (0 : Int) ≤ 10 ^ 30; decide
  | right n => show (0 : Int) ≤ 10 ^ 30; decide
  | home => show (0 : Int) ≤ 10 ^ 30; decide
  | stop => show (0 : Int) ≤ 10 ^ 30; decide
theorem bnd_mul {f : Int} (f0 : 1 ≤ f) (f1 : f ≤ 4) {cs : List Cmd} (h : AllSmall cs) : Bnd (cs.map (Cmd.mul f)) := fun c hc => by
  obtain ⟨d, hd, rfl⟩ := List.mem_map.mp hc
  have b := (h d hd).2
  have q := (bnd_small h d hd).1
  have m : ∀ n : Int, n.natAbs ≤ 2 → (n * f).natAbs ≤ 8 := fun n hn => by
    rw [Int.natAbs_mul]
    exact Nat.mul_le_mul hn (show f.natAbs ≤ 4 by omega)
  cases d with
  | down n => exact ⟨q, m n b⟩
  | up n =>
    refine ⟨q, ?_⟩
    have b' : (-n).natAbs ≤ 2 := b
    have z := m n (by omega)
    show (-(n * f)).natAbs ≤ 8
    omega
  | right n => exact ⟨q, Nat.zero_le _⟩
  | left n => exact ⟨q, Nat.zero_le _⟩
  | home => exact ⟨q, Nat.zero_le _⟩
  | stop => exact ⟨q, Nat.zero_le _⟩
theorem csml_small {cs : List Cmd} (ok : AllOk cs) (h : AllSmall cs) : ∀ c ∈ cs, CSml c := fun c hc => by
  have a := (h c hc).1
  have o := ok c hc
  cases c with
  | down n =>
    have a' : n ≤ 10 ^ 30 := a
    have o' : 1 ≤ n := o
    show n.natAbs < 2 ^ 120
    omega
  | up n =>
    have a' : n ≤ 10 ^ 30 := a
    have o' : 1 ≤ n := o
    show n.natAbs < 2 ^ 120
    omega
  | right n =>
    have a' : n ≤ 10 ^ 30 := a
    have o' : 1 ≤ n := o
    show n.natAbs < 2 ^ 120
    omega
  | left n =>
    have a' : n ≤ 10 ^ 30 := a
    have o' : 1 ≤ n := o
    show n.natAbs < 2 ^ 120
    omega
  | home => trivial
  | stop => trivial
theorem ite_ne {d : PyData} {A B : Prop} (e : PyData.eqv d d = true) (h : B) : if (!PyData.eqv d d) = true then A else B := by
  rw [e]
  exact iteF h
theorem least1 : leastM [.down 199, .left 2, .up 100] 5 = some (List.replicate 199 0 ++ [7], 0, 7) := by
  have e : go [Cmd.down 199, .left 2, .up 100].reverse (last [Cmd.down 199, .left 2, .up 100]) 5 [] = some (some 7, [(199, 7)]) := by decide
  unfold leastM boxM
  rw [e]
  show some (textM _ _ ([(199, 7)].mergeSort leK), _, _) = _
  rw [List.mergeSort_singleton]
  decide +kernel
theorem least2 : leastM [.down 99, .up 150, .left 2] 5 = some ([7] ++ List.replicate 150 0, 51, 7) := by
  have e : go [Cmd.down 99, .up 150, .left 2].reverse (last [Cmd.down 99, .up 150, .left 2]) 5 [] = some (some 7, [(-51, 7)]) := by decide
  unfold leastM boxM
  rw [e]
  show some (textM _ _ ([(-51, 7)].mergeSort leK), _, _) = _
  rw [List.mergeSort_singleton]
  decide +kernel
section
variable {P : Program} {w : World} {K : PySem.W.Frag} {mg : Str → Option Value} {base : Heap}
theorem sc_law : FnScope ["script", "rng", "lap", "steps", "kept", "turn"] ["script"] (defScope s_law) := ⟨rfl, rfl, rfl, by decide +kernel, rfl, by decide +kernel, by decide +kernel⟩
theorem ok_law {f : Addr} {fd : FuncData} (F : Fun K "law" "law" s_law f fd) (T : TxtR mg) (c_law_rng : Cal P w K mg base 1 "_law_rng" (spRng K)) (c_law_draw : Cal P w K mg base 1 "_law_draw" spDraw)
    (c_law_lots : Cal P w K mg base 3 "_law_lots" (spLots K)) (c_law_aim : Cal P w K mg base 2 "_law_aim" (spAim K)) (c_law_far : Cal P w K mg base 1 "_law_far" (spFar K)) (c_least_text : Cal P w K mg base 6 "least_text" (zLeast K))
    (c_law_right : CalG P w K mg base 7 "_law_right" (zRight K)) : FnG P w K mg base 8 f fd ["script"] (spLaw K) := by
  refine okG F sc_law (fun vs H Q E h => ?_) (fun cdv A outer s H vs Q E hg hr h => ?_)
  · obtain ⟨a, ns, rfl, _⟩ := h
    rfl
  · obtain ⟨a, ns, rfl, hS, hlen, k⟩ := h
    refine ⟨_, (pss_cons (ps_set (i := 1) sc_law.nd rfl (Or.inl rfl) (pe_cal c_law_rng hr (by decide) (by rfl) (pa_cons (pv 0) pa_nil)))
      (pss_cons (ps_for PassesOwn.never rfl (pi_range1 rfl T.range (pa_cons (pe_op op_add pe_int (pe_callB (call_min2 rfl) (by rfl) T.min (by decide +kernel) (pa_cons pe_int (pa_cons (pe_callB call_len_seq (by rfl) T.len (by decide +kernel) (pa_cons (pv 0) pa_nil)) pa_nil)))) pa_nil)) (pg_name (i := 2) sc_law.nd rfl (Or.inl rfl)) (pss_cons (ps_set (i := 3) sc_law.nd rfl (Or.inl rfl) (pe_cal c_law_lots hr (by decide) (by rfl) (pa_cons (pv 1) pa_nil)))
      (pss_cons (ps_set (i := 4) sc_law.nd rfl (Or.inl rfl) (pe_callB (cr_repr hg hr.units) (by rfl) T.repr (by decide +kernel) (pa_cons (pv 3) pa_nil)))
      (pss_cons (ps_for PassesOwn.never rfl (pi_range1 rfl T.range (pa_cons pe_int pa_nil)) (pg_name (i := 5) sc_law.nd rfl (Or.inl rfl)) (pss_cons (ps_if (PW.pt (pw_or (pt_not (pt_val (pe_calG c_law_right hg hr (by decide) (by rfl) (pa_cons (pv 3) (pa_cons (pe_cal c_law_aim hr (by decide) (by rfl) (pa_cons (pv 1) (pa_cons (pv 3) pa_nil))) pa_nil))))) (pw_or1 (pt_cmpR op_ne (pe_callB (cr_repr hg hr.units) (by rfl) T.repr (by decide +kernel) (pa_cons (pv 3) pa_nil)) (pv 4) (nomark _))))) (pss_one (ps_ret pe_bl)) pss_nil)
      (pss_one (ps_if (pt_not (pt_val (pe_calG c_law_right hg hr (by decide) (by rfl) (pa_cons (pe_cal c_law_far hr (by decide) (by rfl) (pa_cons (pv 3) (pa_cons (pe_op op_add pe_int (pe_cal c_law_draw hr (by decide) (by rfl) (pa_cons (pv 1) (pa_cons pe_int pa_nil)))) pa_nil))) (pa_cons (pe_cal c_law_aim hr (by decide) (by rfl) (pa_cons (pv 1) (pa_cons (pv 3) pa_nil))) pa_nil))))) (pss_one (ps_ret pe_bl)) pss_nil))))
      (pss_cons (ps_expr (pe_bm PySem.F.plainAttrs_list PySem.F.slot_list_insert PySem.F.type_list_insert mt_insert (pv 3) (pa_cons pe_int (pa_cons (pe_tup (pa_cons pe_str pa_nil)) pa_nil))))
      (C8.pss_cut (ps_set (i := 3) sc_law.nd rfl (Or.inl rfl) (pe_ifExp (pt_cmpR op_le (pe_callB call_len_seq (by rfl) T.len (by decide +kernel) (pa_cons (pv 3) pa_nil)) pe_int (nomark _)) (pv 3) (pe_lst pa_nil)))
      (pss_one (ps_if (pt_not (pt_val (pe_calG c_law_right hg hr (by decide) (by rfl) (pa_cons (pv 3) (pa_cons (pe_op op_add pe_int (pe_cal c_law_draw hr (by decide) (by rfl) (pa_cons (pv 1) (pa_cons pe_int pa_nil)))) pa_nil))))) (pss_one (ps_ret pe_bl)) pss_nil))))))))
      (pss_cons (ps_if (pt_cmpR (op_neD hr.units) (pe_cal c_least_text hr (by decide) (by rfl) (pa_cons (pe_lst (pa_cons (pe_tup (pa_cons pe_str (pa_cons pe_int pa_nil))) (pa_cons (pe_tup (pa_cons pe_str (pa_cons pe_int pa_nil))) (pa_cons (pe_tup (pa_cons pe_str (pa_cons pe_int pa_nil))) pa_nil)))) (pa_cons pe_int pa_nil))) (pe_tup (pa_cons (pe_op op_cat (pe_op op_rep (pe_lst (pa_cons pe_int pa_nil)) pe_int) (pe_lst (pa_cons pe_int pa_nil))) (pa_cons (pe_tup (pa_cons pe_int (pa_cons pe_int pa_nil))) pa_nil))) (nomark _)) (pss_one (ps_ret pe_bl)) pss_nil)
      (pss_one (ps_ret (pe_cmpR (op_eqD hr.units) (pe_cal c_least_text hr (by decide) (by rfl) (pa_cons (pe_lst (pa_cons (pe_tup (pa_cons pe_str (pa_cons pe_int pa_nil))) (pa_cons (pe_tup (pa_cons pe_str (pa_cons pe_int pa_nil))) (pa_cons (pe_tup (pa_cons pe_str (pa_cons pe_int pa_nil))) pa_nil)))) (pa_cons pe_int pa_nil))) (pe_tup (pa_cons (pe_op op_cat (pe_lst (pa_cons pe_int pa_nil)) (pe_op op_rep (pe_lst (pa_cons pe_int pa_nil)) pe_int)) (pa_cons (pe_tup (pa_cons pe_int (pa_cons pe_int pa_nil))) pa_nil))) (nomark _))))))), ?_⟩
    refine ⟨_, rfl, a, ns, rfl, hS, hlen, fun H1 r e1 nr rg1 => ?_⟩
    refine ⟨_, rfl, a, _, rfl, .inl (e1.seq hS), _, _, rfl, _, _, rfl, rfl, _, rfl, ?_, ?_, ?_⟩
    · omega
    · omega
    refine for_range (lo := 0) (fun i σ H' => ∃ v2 v3 v4 v5 : Option V, σ = [some (.ref a), some (.ref r), v2, v3, v4, v5] ∧ Rng H' r (1000 * i)) ⟨none, none, none, none, rfl, rg1⟩ (fun i σ H2 hi h => ?_) (fun σ H2 h => ?_)
    · obtain ⟨v2, v3, v4, v5, rfl, rg2⟩ := h
      have hi' : i < 2 ^ 20 := by
        rw [List.length_map] at hi
        omega
      refine ⟨_, rfl, r, _, rfl, rg2, by omega, fun H3 l xs cs kp3 rg3 nl hl hcs ok sm ln => ?_⟩
      have lr : l ≠ r := by
        obtain ⟨_, _, _, z, _⟩ := rg2
        exact (ne_of_none z nl).symm
      obtain ⟨s1, s2, s3, s4⟩ := cmds_ok (csml_small ok sm) (by omega)
      refine ⟨_, rfl, l, _, rfl, .lst (SqL.of hl) hcs.dp, s1, s2, s3, s4, ?_⟩
      refine ⟨_, rfl, by decide, by decide, for_range (lo := 0) (n := 4) (fun j σ H' => ∃ v5 : Option V, σ = [some (.ref a), some (.ref r), some (.int (0 + (i : Int))), some (.ref l), some (.str (PyData.list (cs.map cmdD)).shown), v5] ∧
          Rng H' r (1000 * i + 100 + 100 * j) ∧ H' l = some (.lst xs) ∧ CmdsOf K H' xs cs) ⟨v5, rfl, rg3.more (by omega), hl, hcs⟩ (fun j σ H4 hj h => ?_) (fun σ H4 h => ?_)⟩
      · obtain ⟨w5, rfl, rg4, hl4, hcs4⟩ := h
        refine ⟨_, rfl, _, rfl, _, rfl, r, l, _, xs, cs, rfl, rg4, by omega, SqL.of hl4, lr, hcs4, ok, sm, ln, fun H5 aim kp5 rg5 a0 a1 => ?_⟩
        have hl5 := kp5 _ _ lr lr hl4
        have hcs5 : CmdsOf K H5 xs cs := by
          obtain ⟨_, _, _, z, _⟩ := rg4
          exact hcs4.keep kp5 z
        refine ask_right (SqL.of hl5) hcs5 ok (bnd_small sm) (by omega) a0 (by omega) (fun H6 e6 => ?_)
        refine ⟨_, rfl, iteF ?_⟩
        have hl6 := e6 _ _ hl5
        have hcs6 := hcs5.same e6
        have rg6 := rg5.same e6
        refine ⟨_, rfl, l, _, rfl, .lst (SqL.of hl6) hcs6.dp, s1, s2, s3, s4, _, rfl, rfl, false, by simp, iteF ?_⟩
        refine ⟨_, rfl, _, rfl, r, _, 4, rfl, rg6, by omega, by decide, by decide, fun H7 d kp7 rg7 d0 d1 => ?_⟩
        have hl7 := kp7 _ _ lr lr hl6
        have hcs7 : CmdsOf K H7 xs cs := by
          obtain ⟨_, _, _, z, _⟩ := rg6
          exact hcs6.keep kp7 z
        refine ⟨_, _, rfl, rfl, l, 1 + d, xs, cs, rfl, SqL.of hl7, hcs7, ok, sm, ln, by omega, by omega, fun H8 lf ys e8 nf hf hfc => ?_⟩
        have rg8 := rg7.same e8
        have lfr : lf ≠ r := by
          obtain ⟨_, _, _, z, _⟩ := rg7
          exact (ne_of_none z nf).symm
        refine ⟨_, rfl, _, rfl, r, l, _, xs, cs, rfl, rg8, by omega, SqL.of (e8 _ _ hl7), lr, hcs7.same e8, ok, sm, ln, fun H9 aim2 kp9 rg9 b0 b1 => ?_⟩
        obtain ⟨y8, hy8⟩ : ∃ ys, H8 r = some (.lst ys) := by
          obtain ⟨_, _, _, z, _⟩ := rg8
          exact ⟨_, z⟩
        refine ask_right (SqL.of (kp9 _ _ lfr lfr hf)) (hfc.keep kp9 hy8) (mul_ok (by omega) ok) (bnd_mul (by omega) (by omega) sm) (by rw [List.length_map]; omega) b0 (by omega) (fun H10 e10 => ?_)
        exact ⟨_, rfl, iteF ⟨_, rfl, (rg9.same e10).more (by omega), e10 _ _ (kp9 _ _ lr lr (e8 _ _ hl7)), ((hcs7.same e8).keep kp9 hy8).same e10⟩⟩
      · obtain ⟨w5, rfl, rg4, hl4, hcs4⟩ := h
        -- steps.insert(0, ('home',))
        refine ⟨_, rfl, .inl ⟨rfl, _, SqL.of hl4⟩, (by show 1 ≤ sizeLine; decide), fun p0 hp0 => ?_⟩
        have sP : Same H4 (upd H4 p0 (.tup [.str "home"])) := same_upd (Same.refl H4) hp0
        have xl : xs.length ≤ 20 := by
          rw [hcs.len]
          exact ln
        refine ⟨l, xs, 0, .ref p0, rfl, rfl, sP _ _ hl4, small_len (by omega), by decide, by decide, ?_⟩
        have hP := sP _ _ hl4
        have p0l : p0 ≠ l := (ne_of_none hl4 hp0).symm
        have hnew : CmdsOf K (upd (upd H4 p0 (.tup [.str "home"])) l (.lst (xs.take (0 : Int).toNat ++ [.ref p0] ++ xs.drop (0 : Int).toNat))) (.ref p0 :: xs) (.home :: cs) := by
          refine CmdsOf.keep (Keep.refl _).upd1 hP (.cons ⟨p0, rfl, SqT.of upd_same⟩ (hcs4.same sP))
        have lnew : upd (upd H4 p0 (.tup [.str "home"])) l (.lst (xs.take (0 : Int).toNat ++ [.ref p0] ++ xs.drop (0 : Int).toNat)) l = some (.lst (.ref p0 :: xs)) := upd_same
        have rnew : Rng (upd (upd H4 p0 (.tup [.str "home"])) l (.lst (xs.take (0 : Int).toNat ++ [.ref p0] ++ xs.drop (0 : Int).toNat))) r (1000 * i + 100 + 100 * 4) := by
          obtain ⟨x, y, z, g, gg⟩ := rg4
          refine ⟨x, y, z, ?_, gg⟩
          rw [upd_ne lr.symm]
          exact sP _ _ g
        generalize upd (upd H4 p0 (.tup [.str "home"])) l (.lst (xs.take (0 : Int).toNat ++ [.ref p0] ++ xs.drop (0 : Int).toNat)) = H5 at hnew lnew rnew ⊢
        refine ⟨fun σ H' => ∃ (v4 v5 : Option V) (l' : Addr) (xs' : List V) (cs' : List Cmd), σ = [some (.ref a), some (.ref r), some (.int (0 + (i : Int))), some (.ref l'), v4, v5] ∧ l' ≠ r ∧ Rng H' r (1000 * i + 600) ∧ H' l' = some (.lst xs') ∧ CmdsOf K H' xs' cs' ∧ AllOk cs' ∧ Bnd cs' ∧ cs'.length ≤ 21, ?_, ?_⟩
        · refine ⟨_, rfl, l, _, rfl, .inl (SqL.of lnew), _, _, rfl, rfl, _, rfl, ite2 (fun _ => ?_) (fun _ => ?_)⟩
          · refine ⟨_, rfl, _, _, l, _, _, rfl, lr, rnew.more (by omega), lnew, hnew, ?_, ?_, ?_⟩
            · intro c hc
              rcases List.mem_cons.mp hc with q | q
              · rw [q]
                trivial
              · exact ok c q
            · intro c hc
              rcases List.mem_cons.mp hc with q | q
              · rw [q]
                exact ⟨by show (0 : Int) ≤ 10 ^ 30; decide, Nat.zero_le _⟩
              · exact bnd_small sm c q
            · rw [List.length_cons]
              omega
          · refine ⟨Nat.zero_le _, fun l0 hl0 => ?_⟩
            have s0 : Same H5 (upd H5 l0 (.lst [])) := same_upd (Same.refl _) hl0
            have l0r : l0 ≠ r := by
              obtain ⟨_, _, _, z, _⟩ := rnew
              exact (ne_of_none z hl0).symm
            exact ⟨_, _, l0, [], [], rfl, l0r, (rnew.same s0).more (by omega), upd_same, .nil, (fun _ h => nomatch h), (fun _ h => nomatch h), by decide⟩
        · rintro σ H6 ⟨x4, x5, l', xs', cs', rfl, lr', rg6, hl6, hcs6, ok6, bd6, ln6⟩
          refine ⟨_, rfl, _, rfl, r, _, 9, rfl, rg6, by omega, by decide, by decide, fun H7 d kp7 rg7 d0 d1 => ?_⟩
          refine ⟨_, _, rfl, rfl, ?_⟩
          obtain ⟨y6, hy6⟩ : ∃ ys, H6 r = some (.lst ys) := by
            obtain ⟨_, _, _, z, _⟩ := rg6
            exact ⟨_, z⟩
          refine ask_right (SqL.of (kp7 _ _ lr' lr' hl6)) (hcs6.keep kp7 hy6) ok6 bd6 ln6 (by omega) (by omega) (fun H8 e8 => ?_)
          exact ⟨_, rfl, iteF ⟨_, _, _, _, rfl, (rg7.same e8).more (by omega)⟩⟩
    · obtain ⟨v2, v3, v4, v5, rfl, rg2⟩ := h
      -- least_text([('down', 199), ('left', 2), ('up', 100)], 5) != ([0] * 199 + [7], (0, 7))
      refine ⟨(by show 2 ≤ sizeLine; decide), fun t1 h1 => ⟨(by show 2 ≤ sizeLine; decide), fun t2 h2 => ⟨(by show 2 ≤ sizeLine; decide), fun t3 h3 => ⟨(by show 3 ≤ sizeLine; decide), fun l0 h0 => ?_⟩⟩⟩⟩
      refine ask_least0 (cs := [.down 199, .left 2, .up 100]) (goal := 5) (SqL.of upd_same) (.cons ⟨t1, rfl, SqT.of (same_upd (same_upd (same_upd (Same.refl _) h2) h3) h0 _ _ upd_same)⟩ (.cons ⟨t2, rfl, SqT.of (same_upd (same_upd (Same.refl _) h3) h0 _ _ upd_same)⟩ (.cons ⟨t3, rfl, SqT.of (same_upd (Same.refl _) h0 _ _ upd_same)⟩ .nil)))
        (fun c hc => by
          rcases List.mem_cons.mp hc with rfl | hc
          · show (1 : Int) ≤ 199; decide
          rcases List.mem_cons.mp hc with rfl | hc
          · show (1 : Int) ≤ 2; decide
          rcases List.mem_cons.mp hc with rfl | hc
          · show (1 : Int) ≤ 100; decide
          cases hc) (by decide) (by decide) (by decide) least1 (fun H3 p1 _ z1 => ?_)
      obtain ⟨ta, ba, _, _, _, hpa, hta, hba⟩ := z1
      refine ⟨(by show 1 ≤ sizeLine; decide), fun q1 hq1 => ⟨q1, 199, [.int 0], rfl, rfl, upd_same, by decide, by decide, (by show 1 * 199 ≤ sizeLine; decide), fun q2 hq2 => ?_⟩⟩
      rw [show (List.replicate (199 : Int).toNat [V.int 0]).flatten = (List.replicate 199 (0 : Int)).map V.int from rep_ints 199]
      refine ⟨(by show 1 ≤ sizeLine; decide), fun q3 hq3 => ⟨q2, q3, _, _, rfl, rfl, same_upd (Same.refl _) hq3 _ _ upd_same, upd_same, ?_, fun q4 hq4 => ?_⟩⟩
      · rw [List.length_map, List.length_replicate]
        show 199 + 1 ≤ sizeLine
        decide
      refine ⟨(by show 2 ≤ sizeLine; decide), fun q5 hq5 => ⟨(by show 2 ≤ sizeLine; decide), fun q6 hq6 => ?_⟩⟩
      have sA := fun o => (same_upd (same_upd (same_upd (same_upd (same_upd (same_upd (Same.refl H3) hq1 (o := .lst [.int 0])) hq2 (o := .lst ((List.replicate 199 (0 : Int)).map V.int))) hq3 (o := .lst [.int 7])) hq4 (o := .lst ((List.replicate 199 (0 : Int)).map V.int ++ [.int 7]))) hq5 (o := .tup [.int 0, .int 7])) hq6 (o := o))
      refine ⟨textD (List.replicate 199 0 ++ [7]) 0 7, textD (List.replicate 199 0 ++ [7]) 0 7, dp_text (sA _ _ _ hpa) (sA _ _ _ hta) (sA _ _ _ hba), dp_text upd_same ?_ (same_upd (Same.refl _) hq6 _ _ upd_same), textD_shaped _ _ _, textD_shaped _ _ _, _, rfl, ite_ne (SeqAt.eqv_refl _ (textD_lay _ _ _)) ?_⟩
      · rw [List.map_append]
        exact same_upd (same_upd (Same.refl _) hq5) hq6 _ _ upd_same
      -- the last one
      refine ⟨(by show 2 ≤ sizeLine; decide), fun u1 k1 => ⟨(by show 2 ≤ sizeLine; decide), fun u2 k2 => ⟨(by show 2 ≤ sizeLine; decide), fun u3 k3 => ⟨(by show 3 ≤ sizeLine; decide), fun l1 k0 => ?_⟩⟩⟩⟩
      refine ask_least0 (cs := [.down 99, .up 150, .left 2]) (goal := 5) (SqL.of upd_same) (.cons ⟨u1, rfl, SqT.of (same_upd (same_upd (same_upd (Same.refl _) k2) k3) k0 _ _ upd_same)⟩ (.cons ⟨u2, rfl, SqT.of (same_upd (same_upd (Same.refl _) k3) k0 _ _ upd_same)⟩ (.cons ⟨u3, rfl, SqT.of (same_upd (Same.refl _) k0 _ _ upd_same)⟩ .nil)))
        (fun c hc => by
          rcases List.mem_cons.mp hc with rfl | hc
          · show (1 : Int) ≤ 99; decide
          rcases List.mem_cons.mp hc with rfl | hc
          · show (1 : Int) ≤ 150; decide
          rcases List.mem_cons.mp hc with rfl | hc
          · show (1 : Int) ≤ 2; decide
          cases hc) (by decide) (by decide) (by decide) least2 (fun H4 p2 _ z2 => ?_)
      obtain ⟨tb, bb, _, _, _, hpb, htb, hbb⟩ := z2
      refine ⟨(by show 1 ≤ sizeLine; decide), fun q7 hq7 => ⟨(by show 1 ≤ sizeLine; decide), fun q8 hq8 => ⟨q8, 150, [.int 0], rfl, rfl, upd_same, by decide, by decide, (by show 1 * 150 ≤ sizeLine; decide), fun q9 hq9 => ?_⟩⟩⟩
      rw [show (List.replicate (150 : Int).toNat [V.int 0]).flatten = (List.replicate 150 (0 : Int)).map V.int from rep_ints 150]
      refine ⟨q7, q9, _, _, rfl, rfl, same_upd (same_upd (Same.refl _) hq8) hq9 _ _ upd_same, upd_same, ?_, fun qa hqa => ?_⟩
      · rw [List.length_map, List.length_replicate]
        show 1 + 150 ≤ sizeLine
        decide
      refine ⟨(by show 2 ≤ sizeLine; decide), fun qb hqb => ⟨(by show 2 ≤ sizeLine; decide), fun qc hqc => ?_⟩⟩
      have sB := fun o => (same_upd (same_upd (same_upd (same_upd (same_upd (same_upd (Same.refl H4) hq7 (o := .lst [.int 7])) hq8 (o := .lst [.int 0])) hq9 (o := .lst ((List.replicate 150 (0 : Int)).map V.int))) hqa (o := .lst ([.int 7] ++ (List.replicate 150 (0 : Int)).map V.int))) hqb (o := .tup [.int 51, .int 7])) hqc (o := o))
      refine ⟨textD ([7] ++ List.replicate 150 0) 51 7, textD ([7] ++ List.replicate 150 0) 51 7, dp_text (sB _ _ _ hpb) (sB _ _ _ htb) (sB _ _ _ hbb), dp_text upd_same ?_ (same_upd (Same.refl _) hqc _ _ upd_same), textD_shaped _ _ _, textD_shaped _ _ _, ?_⟩
      · rw [List.map_append]
        exact same_upd (same_upd (Same.refl _) hqb) hqc _ _ upd_same
      · rw [SeqAt.eqv_refl _ (textD_lay _ _ _)]
        exact k _
end
end Gc

namespace Gc
open PySem L2
theorem two_cases {us ws : List Value} (h : (gRev us ws).length = 2) : (∃ a b, us = [] ∧ ws = [a, b]) ∨ (∃ a b, us = [a] ∧ ws = [b]) ∨ ∃ a b, us = [a, b] ∧ ws = [] := by
  have h' : us.length + ws.length = 2 := by
    unfold gRev at h
    rw [List.length_append, List.length_reverse] at h
    exact h
  match us, ws, h' with
  | [], [], h => exact absurd h (by decide)
  | [], [_], h => exact absurd h (show ¬ (0 + 1 = 2) by decide)
  | [], [a, b], _ => exact .inl ⟨a, b, rfl, rfl⟩
  | [], _ :: _ :: _ :: _, h => simp only [List.length_cons, List.length_nil] at h; omega
  | [_], [], h => exact absurd h (show ¬ (1 + 0 = 2) by decide)
  | [a], [b], _ => exact .inr (.inl ⟨a, b, rfl, rfl⟩)
  | [_], _ :: _ :: _, h => simp only [List.length_cons, List.length_nil] at h; omega
  | [a, b], [], _ => exact .inr (.inr ⟨a, b, rfl, rfl⟩)
  | [_, _], _ :: _, h => simp only [List.length_cons, List.length_nil] at h; omega
  | _ :: _ :: _ :: _, _, h => simp only [List.length_cons] at h; omega
theorem all_mk {l : PySem.W.OpenLaw} {w : World} {K : PySem.W.Frag} {h : Heap} {mg : Str → Option Value} {fa : Addr} (X : K.In h) (G : h.Ns mainGlobals mg) (hfa : mg "law" = some (.ref fa))
    {wn wo : Addr} {odN odO : Option Addr} {nN nO : Nat} {slN slO : Array (Option Value)} {tn0 tn1 tn2 tn3 to0 to1 : Tok}
    {f_is_count : Addr} {oc_is_count kV_is_count dc_is_count pm_is_count cd_is_count ct_is_count : Value} {od_is_count an_is_count : Option Addr} {sl_is_count : Array (Option Value)}
    {f_is_command : Addr} {oc_is_command kV_is_command dc_is_command pm_is_command cd_is_command ct_is_command : Value} {od_is_command an_is_command : Option Addr} {sl_is_command : Array (Option Value)}
    {f_check_commands : Addr} {oc_check_commands kV_check_commands dc_check_commands pm_check_commands cd_check_commands ct_check_commands : Value} {od_check_commands an_check_commands : Option Addr} {sl_check_commands : Array (Option Value)}
    {f_check_number : Addr} {oc_check_number kV_check_number dc_check_number pm_check_number cd_check_number ct_check_number : Value} {od_check_number an_check_number : Option Addr} {sl_check_number : Array (Option Value)}
    {f_row_change : Addr} {oc_row_change kV_row_change dc_row_change pm_row_change cd_row_change ct_row_change : Value} {od_row_change an_row_change : Option Addr} {sl_row_change : Array (Option Value)}
    {f_reach : Addr} {oc_reach kV_reach dc_reach pm_reach cd_reach ct_reach : Value} {od_reach an_reach : Option Addr} {sl_reach : Array (Option Value)}
    {f_require : Addr} {oc_require kV_require dc_require pm_require cd_require ct_require : Value} {od_require an_require : Option Addr} {sl_require : Array (Option Value)}
    {f_box : Addr} {oc_box kV_box dc_box pm_box cd_box ct_box : Value} {od_box an_box : Option Addr} {sl_box : Array (Option Value)}
    {f_least_text : Addr} {oc_least_text kV_least_text dc_least_text pm_least_text cd_least_text ct_least_text : Value} {od_least_text an_least_text : Option Addr} {sl_least_text : Array (Option Value)}
    {f_law_rng : Addr} {oc_law_rng kV_law_rng dc_law_rng pm_law_rng cd_law_rng ct_law_rng : Value} {od_law_rng an_law_rng : Option Addr} {sl_law_rng : Array (Option Value)}
    {f_law_draw : Addr} {oc_law_draw kV_law_draw dc_law_draw pm_law_draw cd_law_draw ct_law_draw : Value} {od_law_draw an_law_draw : Option Addr} {sl_law_draw : Array (Option Value)}
    {f_law_list : Addr} {oc_law_list kV_law_list dc_law_list pm_law_list cd_law_list ct_law_list : Value} {od_law_list an_law_list : Option Addr} {sl_law_list : Array (Option Value)}
    {f_law_lots : Addr} {oc_law_lots kV_law_lots dc_law_lots pm_law_lots cd_law_lots ct_law_lots : Value} {od_law_lots an_law_lots : Option Addr} {sl_law_lots : Array (Option Value)}
    {f_law_aim : Addr} {oc_law_aim kV_law_aim dc_law_aim pm_law_aim cd_law_aim ct_law_aim : Value} {od_law_aim an_law_aim : Option Addr} {sl_law_aim : Array (Option Value)}
    {f_law_spread : Addr} {oc_law_spread kV_law_spread dc_law_spread pm_law_spread cd_law_spread ct_law_spread : Value} {od_law_spread an_law_spread : Option Addr} {sl_law_spread : Array (Option Value)}
    {f_law_after : Addr} {oc_law_after kV_law_after dc_law_after pm_law_after cd_law_after ct_law_after : Value} {od_law_after an_law_after : Option Addr} {sl_law_after : Array (Option Value)}
    {f_law_gets : Addr} {oc_law_gets kV_law_gets dc_law_gets pm_law_gets cd_law_gets ct_law_gets : Value} {od_law_gets an_law_gets : Option Addr} {sl_law_gets : Array (Option Value)}
    {f_law_right : Addr} {oc_law_right kV_law_right dc_law_right pm_law_right cd_law_right ct_law_right : Value} {od_law_right an_law_right : Option Addr} {sl_law_right : Array (Option Value)}
    {f_law_far : Addr} {oc_law_far kV_law_far dc_law_far pm_law_far cd_law_far ct_law_far : Value} {od_law_far an_law_far : Option Addr} {sl_law_far : Array (Option Value)}
    {f_law : Addr} {oc_law kV_law dc_law pm_law cd_law ct_law : Value} {od_law an_law : Option Addr} {sl_law : Array (Option Value)}
    (aWN : PySem.W.nsIn K mainGlobals "WITH_NUMBER" = some (some (.ref wn)))
    (aWO : PySem.W.nsIn K mainGlobals "WITHOUT_NUMBER" = some (some (.ref wo)))
    (lWN : K.lookup wn = some ⟨.type "tuple", odN, .seq #[.str "down" tn0, .str "up" tn1, .str "right" tn2, .str "left" tn3] nN, slN⟩)
    (lWO : K.lookup wo = some ⟨.type "tuple", odO, .seq #[.str "home" to0, .str "end" to1] nO, slO⟩)
    (a_is_count : PySem.W.nsIn K mainGlobals "is_count" = some (some (.ref f_is_count)))
    (l_is_count : K.lookup f_is_count = some ⟨oc_is_count, od_is_count, .func (PySem.W.fnOf "is_count" "is_count" (defArgs s_is_count) (defBody s_is_count) (defScope s_is_count) .none kV_is_count dc_is_count pm_is_count an_is_count cd_is_count ct_is_count), sl_is_count⟩)
    (c_is_count : PySem.W.codeIn K cd_is_count "is_count" = true)
    (k_is_count : PySem.W.keepIn K (.ref f_is_count) = true)
    (a_is_command : PySem.W.nsIn K mainGlobals "is_command" = some (some (.ref f_is_command)))
    (l_is_command : K.lookup f_is_command = some ⟨oc_is_command, od_is_command, .func (PySem.W.fnOf "is_command" "is_command" (defArgs s_is_command) (defBody s_is_command) (defScope s_is_command) .none kV_is_command dc_is_command pm_is_command an_is_command cd_is_command ct_is_command), sl_is_command⟩)
    (c_is_command : PySem.W.codeIn K cd_is_command "is_command" = true)
    (k_is_command : PySem.W.keepIn K (.ref f_is_command) = true)
    (a_check_commands : PySem.W.nsIn K mainGlobals "check_commands" = some (some (.ref f_check_commands)))
    (l_check_commands : K.lookup f_check_commands = some ⟨oc_check_commands, od_check_commands, .func (PySem.W.fnOf "check_commands" "check_commands" (defArgs s_check_commands) (defBody s_check_commands) (defScope s_check_commands) .none kV_check_commands dc_check_commands pm_check_commands an_check_commands cd_check_commands ct_check_commands), sl_check_commands⟩)
    (c_check_commands : PySem.W.codeIn K cd_check_commands "check_commands" = true)
    (k_check_commands : PySem.W.keepIn K (.ref f_check_commands) = true)
    (a_check_number : PySem.W.nsIn K mainGlobals "check_number" = some (some (.ref f_check_number)))
    (l_check_number : K.lookup f_check_number = some ⟨oc_check_number, od_check_number, .func (PySem.W.fnOf "check_number" "check_number" (defArgs s_check_number) (defBody s_check_number) (defScope s_check_number) .none kV_check_number dc_check_number pm_check_number an_check_number cd_check_number ct_check_number), sl_check_number⟩)
    (c_check_number : PySem.W.codeIn K cd_check_number "check_number" = true)
    (k_check_number : PySem.W.keepIn K (.ref f_check_number) = true)
    (a_row_change : PySem.W.nsIn K mainGlobals "row_change" = some (some (.ref f_row_change)))
    (l_row_change : K.lookup f_row_change = some ⟨oc_row_change, od_row_change, .func (PySem.W.fnOf "row_change" "row_change" (defArgs s_row_change) (defBody s_row_change) (defScope s_row_change) .none kV_row_change dc_row_change pm_row_change an_row_change cd_row_change ct_row_change), sl_row_change⟩)
    (c_row_change : PySem.W.codeIn K cd_row_change "row_change" = true)
    (k_row_change : PySem.W.keepIn K (.ref f_row_change) = true)
    (a_reach : PySem.W.nsIn K mainGlobals "reach" = some (some (.ref f_reach)))
    (l_reach : K.lookup f_reach = some ⟨oc_reach, od_reach, .func (PySem.W.fnOf "reach" "reach" (defArgs s_reach) (defBody s_reach) (defScope s_reach) .none kV_reach dc_reach pm_reach an_reach cd_reach ct_reach), sl_reach⟩)
    (c_reach : PySem.W.codeIn K cd_reach "reach" = true)
    (k_reach : PySem.W.keepIn K (.ref f_reach) = true)
    (a_require : PySem.W.nsIn K mainGlobals "require" = some (some (.ref f_require)))
    (l_require : K.lookup f_require = some ⟨oc_require, od_require, .func (PySem.W.fnOf "require" "require" (defArgs s_require) (defBody s_require) (defScope s_require) .none kV_require dc_require pm_require an_require cd_require ct_require), sl_require⟩)
    (c_require : PySem.W.codeIn K cd_require "require" = true)
    (k_require : PySem.W.keepIn K (.ref f_require) = true)
    (a_box : PySem.W.nsIn K mainGlobals "box" = some (some (.ref f_box)))
    (l_box : K.lookup f_box = some ⟨oc_box, od_box, .func (PySem.W.fnOf "box" "box" (defArgs s_box) (defBody s_box) (defScope s_box) .none kV_box dc_box pm_box an_box cd_box ct_box), sl_box⟩)
    (c_box : PySem.W.codeIn K cd_box "box" = true)
    (k_box : PySem.W.keepIn K (.ref f_box) = true)
    (a_least_text : PySem.W.nsIn K mainGlobals "least_text" = some (some (.ref f_least_text)))
    (l_least_text : K.lookup f_least_text = some ⟨oc_least_text, od_least_text, .func (PySem.W.fnOf "least_text" "least_text" (defArgs s_least) (defBody s_least) (defScope s_least) .none kV_least_text dc_least_text pm_least_text an_least_text cd_least_text ct_least_text), sl_least_text⟩)
    (c_least_text : PySem.W.codeIn K cd_least_text "least_text" = true)
    (k_least_text : PySem.W.keepIn K (.ref f_least_text) = true)
    (a_law_rng : PySem.W.nsIn K mainGlobals "_law_rng" = some (some (.ref f_law_rng)))
    (l_law_rng : K.lookup f_law_rng = some ⟨oc_law_rng, od_law_rng, .func (PySem.W.fnOf "_law_rng" "_law_rng" (defArgs s_rng) (defBody s_rng) (defScope s_rng) .none kV_law_rng dc_law_rng pm_law_rng an_law_rng cd_law_rng ct_law_rng), sl_law_rng⟩)
    (c_law_rng : PySem.W.codeIn K cd_law_rng "_law_rng" = true)
    (k_law_rng : PySem.W.keepIn K (.ref f_law_rng) = true)
    (a_law_draw : PySem.W.nsIn K mainGlobals "_law_draw" = some (some (.ref f_law_draw)))
    (l_law_draw : K.lookup f_law_draw = some ⟨oc_law_draw, od_law_draw, .func (PySem.W.fnOf "_law_draw" "_law_draw" (defArgs s_draw) (defBody s_draw) (defScope s_draw) .none kV_law_draw dc_law_draw pm_law_draw an_law_draw cd_law_draw ct_law_draw), sl_law_draw⟩)
    (c_law_draw : PySem.W.codeIn K cd_law_draw "_law_draw" = true)
    (k_law_draw : PySem.W.keepIn K (.ref f_law_draw) = true)
    (a_law_list : PySem.W.nsIn K mainGlobals "_law_list" = some (some (.ref f_law_list)))
    (l_law_list : K.lookup f_law_list = some ⟨oc_law_list, od_law_list, .func (PySem.W.fnOf "_law_list" "_law_list" (defArgs s_list) (defBody s_list) (defScope s_list) .none kV_law_list dc_law_list pm_law_list an_law_list cd_law_list ct_law_list), sl_law_list⟩)
    (c_law_list : PySem.W.codeIn K cd_law_list "_law_list" = true)
    (k_law_list : PySem.W.keepIn K (.ref f_law_list) = true)
    (a_law_lots : PySem.W.nsIn K mainGlobals "_law_lots" = some (some (.ref f_law_lots)))
    (l_law_lots : K.lookup f_law_lots = some ⟨oc_law_lots, od_law_lots, .func (PySem.W.fnOf "_law_lots" "_law_lots" (defArgs s_lots) (defBody s_lots) (defScope s_lots) .none kV_law_lots dc_law_lots pm_law_lots an_law_lots cd_law_lots ct_law_lots), sl_law_lots⟩)
    (c_law_lots : PySem.W.codeIn K cd_law_lots "_law_lots" = true)
    (k_law_lots : PySem.W.keepIn K (.ref f_law_lots) = true)
    (a_law_aim : PySem.W.nsIn K mainGlobals "_law_aim" = some (some (.ref f_law_aim)))
    (l_law_aim : K.lookup f_law_aim = some ⟨oc_law_aim, od_law_aim, .func (PySem.W.fnOf "_law_aim" "_law_aim" (defArgs s_aim) (defBody s_aim) (defScope s_aim) .none kV_law_aim dc_law_aim pm_law_aim an_law_aim cd_law_aim ct_law_aim), sl_law_aim⟩)
    (c_law_aim : PySem.W.codeIn K cd_law_aim "_law_aim" = true)
    (k_law_aim : PySem.W.keepIn K (.ref f_law_aim) = true)
    (a_law_spread : PySem.W.nsIn K mainGlobals "_law_spread" = some (some (.ref f_law_spread)))
    (l_law_spread : K.lookup f_law_spread = some ⟨oc_law_spread, od_law_spread, .func (PySem.W.fnOf "_law_spread" "_law_spread" (defArgs s_spread) (defBody s_spread) (defScope s_spread) .none kV_law_spread dc_law_spread pm_law_spread an_law_spread cd_law_spread ct_law_spread), sl_law_spread⟩)
    (c_law_spread : PySem.W.codeIn K cd_law_spread "_law_spread" = true)
    (k_law_spread : PySem.W.keepIn K (.ref f_law_spread) = true)
    (a_law_after : PySem.W.nsIn K mainGlobals "_law_after" = some (some (.ref f_law_after)))
    (l_law_after : K.lookup f_law_after = some ⟨oc_law_after, od_law_after, .func (PySem.W.fnOf "_law_after" "_law_after" (defArgs s_after) (defBody s_after) (defScope s_after) .none kV_law_after dc_law_after pm_law_after an_law_after cd_law_after ct_law_after), sl_law_after⟩)
    (c_law_after : PySem.W.codeIn K cd_law_after "_law_after" = true)
    (k_law_after : PySem.W.keepIn K (.ref f_law_after) = true)
    (a_law_gets : PySem.W.nsIn K mainGlobals "_law_gets" = some (some (.ref f_law_gets)))
    (l_law_gets : K.lookup f_law_gets = some ⟨oc_law_gets, od_law_gets, .func (PySem.W.fnOf "_law_gets" "_law_gets" (defArgs s_gets) (defBody s_gets) (defScope s_gets) .none kV_law_gets dc_law_gets pm_law_gets an_law_gets cd_law_gets ct_law_gets), sl_law_gets⟩)
    (c_law_gets : PySem.W.codeIn K cd_law_gets "_law_gets" = true)
    (k_law_gets : PySem.W.keepIn K (.ref f_law_gets) = true)
    (a_law_right : PySem.W.nsIn K mainGlobals "_law_right" = some (some (.ref f_law_right)))
    (l_law_right : K.lookup f_law_right = some ⟨oc_law_right, od_law_right, .func (PySem.W.fnOf "_law_right" "_law_right" (defArgs s_right) (defBody s_right) (defScope s_right) .none kV_law_right dc_law_right pm_law_right an_law_right cd_law_right ct_law_right), sl_law_right⟩)
    (c_law_right : PySem.W.codeIn K cd_law_right "_law_right" = true)
    (k_law_right : PySem.W.keepIn K (.ref f_law_right) = true)
    (a_law_far : PySem.W.nsIn K mainGlobals "_law_far" = some (some (.ref f_law_far)))
    (l_law_far : K.lookup f_law_far = some ⟨oc_law_far, od_law_far, .func (PySem.W.fnOf "_law_far" "_law_far" (defArgs s_far) (defBody s_far) (defScope s_far) .none kV_law_far dc_law_far pm_law_far an_law_far cd_law_far ct_law_far), sl_law_far⟩)
    (c_law_far : PySem.W.codeIn K cd_law_far "_law_far" = true)
    (k_law_far : PySem.W.keepIn K (.ref f_law_far) = true)
    (a_law : PySem.W.nsIn K mainGlobals "law" = some (some (.ref f_law)))
    (l_law : K.lookup f_law = some ⟨oc_law, od_law, .func (PySem.W.fnOf "law" "law" (defArgs s_law) (defBody s_law) (defScope s_law) .none kV_law dc_law pm_law an_law cd_law ct_law), sl_law⟩)
    (c_law : PySem.W.codeIn K cd_law "law" = true)
    (k_law : PySem.W.keepIn K (.ref f_law) = true)
    (z_isinstance : PySem.W.nsIn K mainGlobals "isinstance" = some none)
    (z_int : PySem.W.nsIn K mainGlobals "int" = some none)
    (z_bool : PySem.W.nsIn K mainGlobals "bool" = some none)
    (z_len : PySem.W.nsIn K mainGlobals "len" = some none)
    (z_enumerate : PySem.W.nsIn K mainGlobals "enumerate" = some none)
    (z_reversed : PySem.W.nsIn K mainGlobals "reversed" = some none)
    (z_sorted : PySem.W.nsIn K mainGlobals "sorted" = some none)
    (z_max : PySem.W.nsIn K mainGlobals "max" = some none)
    (z_min : PySem.W.nsIn K mainGlobals "min" = some none)
    (z_abs : PySem.W.nsIn K mainGlobals "abs" = some none)
    (z_range : PySem.W.nsIn K mainGlobals "range" = some none)
    (z_sum : PySem.W.nsIn K mainGlobals "sum" = some none)
    (z_repr : PySem.W.nsIn K mainGlobals "repr" = some none)
    (z_tuple : PySem.W.nsIn K mainGlobals "tuple" = some none) :
    ∃ fd : FuncData, (∀ (s : Shared) (v : Value), BindsTo s fd ⟨[v], []⟩ [("script", v)]) ∧ ∀ base : Heap, K.In base → base.Ns mainGlobals mg → FnG l.prog w K mg base 8 fa fd ["script"] (spLaw K) := by
  have e := hfa.symm.trans (PySem.W.mg_of X G a_law)
  cases e
  have F_is_count := fun_mk (st := s_is_count) l_is_count c_is_count k_is_count
  have F_is_command := fun_mk (st := s_is_command) l_is_command c_is_command k_is_command
  have F_check_commands := fun_mk (st := s_check_commands) l_check_commands c_check_commands k_check_commands
  have F_check_number := fun_mk (st := s_check_number) l_check_number c_check_number k_check_number
  have F_row_change := fun_mk (st := s_row_change) l_row_change c_row_change k_row_change
  have F_reach := fun_mk (st := s_reach) l_reach c_reach k_reach
  have F_require := fun_mk (st := s_require) l_require c_require k_require
  have F_box := fun_mk (st := s_box) l_box c_box k_box
  have F_least_text := fun_mk (st := s_least) l_least_text c_least_text k_least_text
  have F_law_rng := fun_mk (st := s_rng) l_law_rng c_law_rng k_law_rng
  have F_law_draw := fun_mk (st := s_draw) l_law_draw c_law_draw k_law_draw
  have F_law_list := fun_mk (st := s_list) l_law_list c_law_list k_law_list
  have F_law_lots := fun_mk (st := s_lots) l_law_lots c_law_lots k_law_lots
  have F_law_aim := fun_mk (st := s_aim) l_law_aim c_law_aim k_law_aim
  have F_law_spread := fun_mk (st := s_spread) l_law_spread c_law_spread k_law_spread
  have F_law_after := fun_mk (st := s_after) l_law_after c_law_after k_law_after
  have F_law_gets := fun_mk (st := s_gets) l_law_gets c_law_gets k_law_gets
  have F_law_right := fun_mk (st := s_right) l_law_right c_law_right k_law_right
  have F_law_far := fun_mk (st := s_far) l_law_far c_law_far k_law_far
  have F_law := fun_mk (st := s_law) l_law c_law k_law
  have b_is_count := F_is_count.binds (ps := ["number"]) fun _ _ _ _ _ _ us hl => match us, hl with | [_], _ => rfl
  have b_is_command := F_is_command.binds (ps := ["command"]) fun _ _ _ _ _ _ us hl => match us, hl with | [_], _ => rfl
  have b_check_commands := F_check_commands.binds (ps := ["commands"]) fun _ _ _ _ _ _ us hl => match us, hl with | [_], _ => rfl
  have b_check_number := F_check_number.binds (ps := ["number", "least"]) fun _ _ _ _ _ _ us hl => match us, hl with | [_, _], _ => rfl
  have b_row_change := F_row_change.binds (ps := ["command"]) fun _ _ _ _ _ _ us hl => match us, hl with | [_], _ => rfl
  have b_reach := F_reach.binds (ps := ["commands"]) fun _ _ _ _ _ _ us hl => match us, hl with | [_], _ => rfl
  have b_require := F_require.binds (ps := ["bounds", "offset", "bound"]) fun _ _ _ _ _ _ us hl => match us, hl with | [_, _, _], _ => rfl
  have b_box := F_box.binds (ps := ["commands", "goal"]) fun _ _ _ _ _ _ us hl => match us, hl with | [_, _], _ => rfl
  have b_least_text := F_least_text.binds (ps := ["commands", "goal"]) fun _ _ _ _ _ _ us hl => match us, hl with | [_, _], _ => rfl
  have b_law_rng := F_law_rng.binds (ps := ["script"]) fun _ _ _ _ _ _ us hl => match us, hl with | [_], _ => rfl
  have b_law_draw := F_law_draw.binds (ps := ["rng", "limit"]) fun _ _ _ _ _ _ us hl => match us, hl with | [_, _], _ => rfl
  have b_law_list := F_law_list.binds (ps := ["rng", "most", "size"]) fun _ _ _ _ _ _ us hl => match us, hl with | [_, _, _], _ => rfl
  have b_law_lots := F_law_lots.binds (ps := ["rng"]) fun _ _ _ _ _ _ us hl => match us, hl with | [_], _ => rfl
  have b_law_aim := F_law_aim.binds (ps := ["rng", "steps"]) fun _ _ _ _ _ _ us hl => match us, hl with | [_, _], _ => rfl
  have b_law_spread := F_law_spread.binds (ps := ["steps"]) fun _ _ _ _ _ _ us hl => match us, hl with | [_], _ => rfl
  have b_law_after := F_law_after.binds (ps := ["lengths", "begin", "steps"]) fun _ _ _ _ _ _ us hl => match us, hl with | [_, _, _], _ => rfl
  have b_law_gets := F_law_gets.binds (ps := ["lengths", "begin", "steps", "aim"]) fun _ _ _ _ _ _ us hl => match us, hl with | [_, _, _, _], _ => rfl
  have b_law_right := F_law_right.binds (ps := ["steps", "aim"]) fun _ _ _ _ _ _ us hl => match us, hl with | [_, _], _ => rfl
  have b_law_far := F_law_far.binds (ps := ["steps", "factor"]) fun _ _ _ _ _ _ us hl => match us, hl with | [_, _], _ => rfl
  have kb_least_text := bindsK (ps := ["commands", "goal"]) (ks := ["goal", "commands"]) F_least_text fun _ _ _ _ _ _ us ws hl => by
    rcases two_cases hl with ⟨_, _, rfl, rfl⟩ | ⟨_, _, rfl, rfl⟩ | ⟨_, _, rfl, rfl⟩
    · rfl
    · rfl
    · rfl
  refine ⟨PySem.W.fnOf "law" "law" (defArgs s_law) (defBody s_law) (defScope s_law) .none kV_law dc_law pm_law an_law cd_law ct_law, fun s v => .of_eq rfl, fun base hb gb => ?_⟩
  have TB : TxtB K mg wo wn := {
    g_WITHOUT_NUMBER := PySem.W.mg_of X G aWO
    g_WITH_NUMBER := PySem.W.mg_of X G aWN
    tWO := fun H => .inr ⟨_, _, _, lWO, rfl, rfl, (by show 2 ≤ sizeLine; decide), .cons ⟨_, rfl⟩ (.cons ⟨_, rfl⟩ .nil)⟩
    tWN := fun H => .inr ⟨_, _, _, lWN, rfl, rfl, (by show 4 ≤ sizeLine; decide), .cons ⟨_, rfl⟩ (.cons ⟨_, rfl⟩ (.cons ⟨_, rfl⟩ (.cons ⟨_, rfl⟩ .nil)))⟩
    isinstance := PySem.W.mg_none_of X G z_isinstance
    int := PySem.W.mg_none_of X G z_int
    bool := PySem.W.mg_none_of X G z_bool
    len := PySem.W.mg_none_of X G z_len
    enumerate := PySem.W.mg_none_of X G z_enumerate
    reversed := PySem.W.mg_none_of X G z_reversed
    sorted := PySem.W.mg_none_of X G z_sorted
    max := PySem.W.mg_none_of X G z_max
    min := PySem.W.mg_none_of X G z_min }
  have TA : TxtA mg := { abs := PySem.W.mg_none_of X G z_abs, range := PySem.W.mg_none_of X G z_range, sum := PySem.W.mg_none_of X G z_sum, len := PySem.W.mg_none_of X G z_len, min := PySem.W.mg_none_of X G z_min, max := PySem.W.mg_none_of X G z_max, int := PySem.W.mg_none_of X G z_int }
  have TR : TxtR mg := { repr := PySem.W.mg_none_of X G z_repr, isinstance := PySem.W.mg_none_of X G z_isinstance, tuple := PySem.W.mg_none_of X G z_tuple, len := PySem.W.mg_none_of X G z_len, min := PySem.W.mg_none_of X G z_min, range := PySem.W.mg_none_of X G z_range }
  have C_is_count : Cal l.prog w K mg base 1 "is_count" spCount := ⟨_, _, _, ok_is_count F_is_count TB, PySem.W.mg_of X G a_is_count, k_is_count, b_is_count⟩
  have C_is_command : Cal l.prog w K mg base 2 "is_command" (spIsCmd K) := ⟨_, _, _, ok_is_command F_is_command TB C_is_count, PySem.W.mg_of X G a_is_command, k_is_command, b_is_command⟩
  have C_check_commands : Cal l.prog w K mg base 3 "check_commands" (spCheck K) := ⟨_, _, _, ok_check_commands F_check_commands TB C_is_command, PySem.W.mg_of X G a_check_commands, k_check_commands, b_check_commands⟩
  have C_check_number : Cal l.prog w K mg base 1 "check_number" spNum := ⟨_, _, _, ok_check_number F_check_number, PySem.W.mg_of X G a_check_number, k_check_number, b_check_number⟩
  have C_row_change : Cal l.prog w K mg base 1 "row_change" (spRow K) := ⟨_, _, _, ok_row_change F_row_change, PySem.W.mg_of X G a_row_change, k_row_change, b_row_change⟩
  have C_reach : Cal l.prog w K mg base 4 "reach" (spReach K) := ⟨_, _, _, ok_reach F_reach TB C_check_commands C_row_change, PySem.W.mg_of X G a_reach, k_reach, b_reach⟩
  have C_require : Cal l.prog w K mg base 1 "require" spReq := ⟨_, _, _, ok_require F_require TB, PySem.W.mg_of X G a_require, k_require, b_require⟩
  have C_box : Cal l.prog w K mg base 5 "box" (spBox K) := ⟨_, _, _, ok_box F_box TB C_check_commands C_row_change C_reach C_check_number C_require, PySem.W.mg_of X G a_box, k_box, b_box⟩
  have C_least_text : Cal l.prog w K mg base 6 "least_text" (spLeast K) := ⟨_, _, _, ok_least_text F_least_text C_box C_reach, PySem.W.mg_of X G a_least_text, k_least_text, b_least_text⟩
  have C_law_rng : Cal l.prog w K mg base 1 "_law_rng" (spRng K) := ⟨_, _, _, ok_rng F_law_rng TA, PySem.W.mg_of X G a_law_rng, k_law_rng, b_law_rng⟩
  have C_law_draw : Cal l.prog w K mg base 1 "_law_draw" spDraw := ⟨_, _, _, ok_draw F_law_draw, PySem.W.mg_of X G a_law_draw, k_law_draw, b_law_draw⟩
  have C_law_list : Cal l.prog w K mg base 2 "_law_list" (spList K) := ⟨_, _, _, ok_list F_law_list TA C_law_draw, PySem.W.mg_of X G a_law_list, k_law_list, b_law_list⟩
  have C_law_lots : Cal l.prog w K mg base 3 "_law_lots" (spLots K) := ⟨_, _, _, ok_lots F_law_lots C_law_draw C_law_list, PySem.W.mg_of X G a_law_lots, k_law_lots, b_law_lots⟩
  have C_law_aim : Cal l.prog w K mg base 2 "_law_aim" (spAim K) := ⟨_, _, _, ok_aim F_law_aim TA C_law_draw, PySem.W.mg_of X G a_law_aim, k_law_aim, b_law_aim⟩
  have C_law_spread : Cal l.prog w K mg base 1 "_law_spread" (spSpread K) := ⟨_, _, _, ok_spread F_law_spread TA, PySem.W.mg_of X G a_law_spread, k_law_spread, b_law_spread⟩
  have C_law_after : Cal l.prog w K mg base 1 "_law_after" (spAfter K) := ⟨_, _, _, ok_after F_law_after TA, PySem.W.mg_of X G a_law_after, k_law_after, b_law_after⟩
  have C_law_gets : Cal l.prog w K mg base 2 "_law_gets" (spGets K) := ⟨_, _, _, ok_gets F_law_gets C_law_after, PySem.W.mg_of X G a_law_gets, k_law_gets, b_law_gets⟩
  have C_law_far : Cal l.prog w K mg base 1 "_law_far" (spFar K) := ⟨_, _, _, ok_far F_law_far, PySem.W.mg_of X G a_law_far, k_law_far, b_law_far⟩
  have Z_box : Cal l.prog w K mg base 5 "box" (zBox K) := by rw [zBox_eq]; exact C_box
  have Z_least : Cal l.prog w K mg base 6 "least_text" (zLeast K) := by rw [zLeast_eq]; exact C_least_text
  have K_least : CalK l.prog w K mg base 6 "least_text" ["goal", "commands"] (zLeast K) := by
    rw [zLeast_eq]
    exact ⟨_, _, _, ok_least_text F_least_text C_box C_reach, PySem.W.mg_of X G a_least_text, k_least_text, kb_least_text⟩
  have Z_gets : Cal l.prog w K mg base 2 "_law_gets" (zGets K) := by rw [zGets_eq]; exact C_law_gets
  have G_right : CalG l.prog w K mg base 7 "_law_right" (zRight K) := by
    rw [zRight_eq]
    exact ⟨_, _, _, ok_right F_law_right TR Z_least K_least Z_box C_law_spread Z_gets, PySem.W.mg_of X G a_law_right, k_law_right, b_law_right⟩
  exact ok_law F_law TR C_law_rng C_law_draw C_law_lots C_law_aim C_law_far Z_least G_right
theorem walk {l : PySem.W.OpenLaw} {q : Program} {loose : List Str} {XP : (Str → Option Value) → Heap → Prop} {YP : World → Heap → Prop} {d : DefRec} {K : Params → PySem.W.Frag} (hn : l.most = some 63) (hdf : d.params.defaults = [])
    (hY : ∀ (w : World) (h : Heap), YP w h → (K w.params).In h)
    (F : ∀ (w : World) (mg : Str → Option Value) (fa : Addr) (h : Heap), (K w.params).In h → h.Ns mainGlobals mg → mg d.name = some (.ref fa) →
      ∃ fd : FuncData, (∀ (s : Shared) (u : Value), BindsTo s fd ⟨[u], []⟩ [("script", u)]) ∧ ∀ base : Heap, (K w.params).In base → base.Ns mainGlobals mg → FnG l.prog w (K w.params) mg base 8 fa fd ["script"] (spLaw (K w.params))) :
    PySem.W.WalkO q loose XP YP l.row.toRowW d [] (fun f vs => PySem.call f vs) :=
  walk_G (n := 63) (k := 8) (x := "script") (sp := fun w => spLaw (K w.params)) hn (by decide) hdf ⟨rfl, by decide, by decide⟩ hY F fun _ _ a ns hl _ hS => ⟨a, ns, rfl, hS, hl, fun _ => rfl⟩
end Gc

open PySem PySem.W PyProof.Rows in
set_option maxRecDepth 100000 in
set_option maxHeartbeats 0 in
theorem PySem.Challenge.cw_goalcolumn_k09_least_texts_holds : PySem.Challenge.rw_goalcolumn_k09_least_texts.Holds := by
  w_on; o_law; k_head; (case hw => w_witness2)
  k_fill
  refine Gc.walk (l := PySem.Challenge.rw_goalcolumn_k09_least_texts) rfl rfl (fun w h Y => PySem.W.kIn_of Y) ?F
  case F =>
    intro w mg fa h KX G hmg
    refine' Gc.all_mk KX G hmg ?aWN ?aWO ?lWN ?lWO ?a_is_count ?l_is_count ?c_is_count ?k_is_count ?a_is_command ?l_is_command ?c_is_command ?k_is_command ?a_check_commands ?l_check_commands ?c_check_commands ?k_check_commands ?a_check_number ?l_check_number ?c_check_number ?k_check_number ?a_row_change ?l_row_change ?c_row_change ?k_row_change ?a_reach ?l_reach ?c_reach ?k_reach ?a_require ?l_require ?c_require ?k_require ?a_box ?l_box ?c_box ?k_box ?a_least_text ?l_least_text ?c_least_text ?k_least_text ?a_law_rng ?l_law_rng ?c_law_rng ?k_law_rng ?a_law_draw ?l_law_draw ?c_law_draw ?k_law_draw ?a_law_list ?l_law_list ?c_law_list ?k_law_list ?a_law_lots ?l_law_lots ?c_law_lots ?k_law_lots ?a_law_aim ?l_law_aim ?c_law_aim ?k_law_aim ?a_law_spread ?l_law_spread ?c_law_spread ?k_law_spread ?a_law_after ?l_law_after ?c_law_after ?k_law_after ?a_law_gets ?l_law_gets ?c_law_gets ?k_law_gets ?a_law_right ?l_law_right ?c_law_right ?k_law_right ?a_law_far ?l_law_far ?c_law_far ?k_law_far ?a_law ?l_law ?c_law ?k_law ?z_isinstance ?z_int ?z_bool ?z_len ?z_enumerate ?z_reversed ?z_sorted ?z_max ?z_min ?z_abs ?z_range ?z_sum ?z_repr ?z_tuple
    (case aWN => k_is)
    (case aWO => k_is)
    (case lWN => k_is)
    (case lWO => k_is)
    (case a_is_count => k_is)
    (case l_is_count => k_is)
    (case c_is_count => k_is)
    (case k_is_count => k_is)
    (case a_is_command => k_is)
    (case l_is_command => k_is)
    (case c_is_command => k_is)
    (case k_is_command => k_is)
    (case a_check_commands => k_is)
    (case l_check_commands => k_is)
    (case c_check_commands => k_is)
    (case k_check_commands => k_is)
    (case a_check_number => k_is)
    (case l_check_number => k_is)
    (case c_check_number => k_is)
    (case k_check_number => k_is)
    (case a_row_change => k_is)
    (case l_row_change => k_is)
    (case c_row_change => k_is)
    (case k_row_change => k_is)
    (case a_reach => k_is)
    (case l_reach => k_is)
    (case c_reach => k_is)
    (case k_reach => k_is)
    (case a_require => k_is)
    (case l_require => k_is)
    (case c_require => k_is)
    (case k_require => k_is)
    (case a_box => k_is)
    (case l_box => k_is)
    (case c_box => k_is)
    (case k_box => k_is)
    (case a_least_text => k_is)
    (case l_least_text => k_is)
    (case c_least_text => k_is)
    (case k_least_text => k_is)
    (case a_law_rng => k_is)
    (case l_law_rng => k_is)
    (case c_law_rng => k_is)
    (case k_law_rng => k_is)
    (case a_law_draw => k_is)
    (case l_law_draw => k_is)
    (case c_law_draw => k_is)
    (case k_law_draw => k_is)
    (case a_law_list => k_is)
    (case l_law_list => k_is)
    (case c_law_list => k_is)
    (case k_law_list => k_is)
    (case a_law_lots => k_is)
    (case l_law_lots => k_is)
    (case c_law_lots => k_is)
    (case k_law_lots => k_is)
    (case a_law_aim => k_is)
    (case l_law_aim => k_is)
    (case c_law_aim => k_is)
    (case k_law_aim => k_is)
    (case a_law_spread => k_is)
    (case l_law_spread => k_is)
    (case c_law_spread => k_is)
    (case k_law_spread => k_is)
    (case a_law_after => k_is)
    (case l_law_after => k_is)
    (case c_law_after => k_is)
    (case k_law_after => k_is)
    (case a_law_gets => k_is)
    (case l_law_gets => k_is)
    (case c_law_gets => k_is)
    (case k_law_gets => k_is)
    (case a_law_right => k_is)
    (case l_law_right => k_is)
    (case c_law_right => k_is)
    (case k_law_right => k_is)
    (case a_law_far => k_is)
    (case l_law_far => k_is)
    (case c_law_far => k_is)
    (case k_law_far => k_is)
    (case a_law => k_is)
    (case l_law => k_is)
    (case c_law => k_is)
    (case k_law => k_is)
    (case z_isinstance => k_is)
    (case z_int => k_is)
    (case z_bool => k_is)
    (case z_len => k_is)
    (case z_enumerate => k_is)
    (case z_reversed => k_is)
    (case z_sorted => k_is)
    (case z_max => k_is)
    (case z_min => k_is)
    (case z_abs => k_is)
    (case z_range => k_is)
    (case z_sum => k_is)
    (case z_repr => k_is)
    (case z_tuple => k_is)
