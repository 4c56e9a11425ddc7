import PyProof.Rows.All
import Wide.All
import OpenK.AllK
import Wide.FinOn
import KE.SortData
import HandS.Base
import HandS.Call
import HandS.List
import HandS.Dict
import HandS.Words
import HandS.DictTup
import PyProof.RulesMatch
import HandS.Comp
import HandS.Iter
import HandS.Flow
import HandS.Rev
import HandS.Walk
import HandS.WordsList
import HandS.WordsDict
import HandS.IsInst
import HandS.Wide
import HandS.Codes
import HandS.Style
import HandS.Text
import HandS.StrMore
import HandS.More
import PySem.Challenge.RW_goalcolumn_k10_forms_are_boxes
set_option Elab.async false
set_option linter.all false
set_option maxRecDepth 100000
set_option maxHeartbeats 4000000
/-! boxes of lists of commands: what the program reckons, over plain lists; and the laws of it -/
namespace Gc
inductive Cmd where
  | down (n : Int) | up (n : Int) | right (n : Int) | left (n : Int) | home | stop
  deriving DecidableEq
def Cmd.dv : Cmd → Int
  | .down n => n
  | .up n => -n
  | _ => 0
def Cmd.ok : Cmd → Prop
  | .down n => 1 ≤ n
  | .up n => 1 ≤ n
  | .right n => 1 ≤ n
  | .left n => 1 ≤ n
  | _ => True
def last (cs : List Cmd) : Int := (cs.map Cmd.dv).sum
abbrev Ps := List (Int × Int)
def leK (p q : Int × Int) : Bool := decide (p.1 < q.1 ∨ (p.1 = q.1 ∧ p.2 ≤ q.2))
def look (b : Ps) (k : Int) : Option Int := (b.find? fun q => q.1 = k).map (·.2)
def put (b : Ps) (k v : Int) : Ps := if b.any (fun q => q.1 = k) then b.map (fun q => if q.1 = k then (q.1, v) else q) else b ++ [(k, v)]
def mx (i j : Int) : Int := if j > i then j else i
def req (b : Ps) (o v : Int) : Ps := put b o (mx v ((look b o).getD v))
def go : List Cmd → Int → Int → Ps → Option (Option Int × Ps)
  | [], _, need, b => some (some need, b)
  | .home :: _, _, _, _ => none
  | .stop :: _, _, _, b => some (none, b)
  | .right n :: r, off, need, b => if need > n then go r off (need - n) (req b off need) else some (none, req b off need)
  | .left n :: r, off, need, b => go r off (need + n) (req b off (need + n))
  | .down n :: r, off, need, b => go r (off - n) need b
  | .up n :: r, off, need, b => go r (off + n) need b
def srt (x : Option Int × Ps) : Option Int × Ps := (x.1, x.2.mergeSort leK)
def boxM (cs : List Cmd) (goal : Int) : Option (Option Int × Ps) := (go cs.reverse (last cs) goal []).map srt

/-! ### association lists as functions -/
def val (b : Ps) (k : Int) : Int := (look b k).getD 0
def keys (b : Ps) : List Int := b.map (·.1)
structure Good (b : Ps) : Prop where
  nd : (keys b).Nodup
  pos : ∀ q ∈ b, 1 ≤ q.2
theorem good_nil : Good [] := ⟨List.nodup_nil, fun _ h => nomatch h⟩
theorem look_nil (k : Int) : look [] k = none := rfl
theorem look_cons (q : Int × Int) (b : Ps) (k : Int) : look (q :: b) k = if q.1 = k then some q.2 else look b k := by
  unfold look
  rw [List.find?_cons]
  by_cases h : q.1 = k
  · simp [h]
  · simp [h]
theorem look_none {b : Ps} {k : Int} : look b k = none ↔ k ∉ keys b := by
  induction b with
  | nil => simp [look, keys]
  | cons q b ih =>
    rw [look_cons]
    by_cases h : q.1 = k
    · rw [if_pos h]
      simp [keys, h]
    · rw [if_neg h, ih]
      simp only [keys, List.map_cons, List.mem_cons, not_or]
      exact ⟨fun x => ⟨fun e => h e.symm, x⟩, fun x => x.2⟩
theorem look_mem {b : Ps} {k v : Int} (h : look b k = some v) : (k, v) ∈ b := by
  induction b with
  | nil => cases h
  | cons q b ih =>
    rw [look_cons] at h
    by_cases e : q.1 = k
    · rw [if_pos e] at h
      have e2 := Option.some.inj h
      rw [← e, ← e2]
      exact List.mem_cons_self
    · rw [if_neg e] at h
      exact List.mem_cons_of_mem _ (ih h)
theorem mem_look {b : Ps} {q : Int × Int} (n : (keys b).Nodup) (h : q ∈ b) : look b q.1 = some q.2 := by
  induction b with
  | nil => cases h
  | cons p b ih =>
    have n' : p.1 ∉ keys b ∧ (keys b).Nodup := List.nodup_cons.mp n
    rw [look_cons]
    rcases List.mem_cons.mp h with e | h
    · rw [e, if_pos rfl]
    · have ne : p.1 ≠ q.1 := fun e => n'.1 (by rw [e]; exact List.mem_map.mpr ⟨q, h, rfl⟩)
      rw [if_neg ne]
      exact ih n'.2 h
theorem any_key (b : Ps) (k : Int) : b.any (fun q => q.1 = k) = true ↔ k ∈ keys b := by
  simp [keys, List.any_eq_true]
theorem look_put (b : Ps) (k v j : Int) : look (put b k v) j = if k = j then some v else look b j := by
  unfold put
  by_cases h : b.any (fun q => q.1 = k) = true
  · rw [if_pos h]
    induction b with
    | nil => simp at h
    | cons q b ih =>
      rw [List.map_cons, look_cons, look_cons]
      by_cases e : q.1 = k
      · rw [if_pos e]
        by_cases e2 : k = j
        · simp [e, e2]
        · simp only [e, e2, if_false]
          by_cases hb : b.any (fun q => q.1 = k) = true
          · rw [ih hb, if_neg e2]
          · have nm : ∀ p ∈ b, ¬ p.1 = k := fun p hp z => hb (List.any_eq_true.mpr ⟨p, hp, by simpa using z⟩)
            have em : b.map (fun q => if q.1 = k then (q.1, v) else q) = b := by
              conv => rhs; rw [← List.map_id b]
              exact List.map_congr_left fun p hp => by simp [nm p hp]
            rw [em]
      · rw [if_neg e]
        have hb : b.any (fun q => q.1 = k) = true := by
          rw [List.any_cons] at h
          simpa [e] using h
        by_cases e2 : q.1 = j
        · have e3 : ¬ k = j := fun z => e (e2.trans z.symm)
          simp [e2, e3]
        · simp only [e2, if_false]
          exact ih hb
  · rw [if_neg h]
    have nk : k ∉ keys b := fun z => h ((any_key b k).mpr z)
    clear h
    induction b with
    | nil =>
      show look [(k, v)] j = _
      rw [look_cons]
    | cons q b ih =>
      have n1 : ¬ q.1 = k := fun z => nk (by simp [keys, z])
      have n2 : k ∉ keys b := fun z => nk (List.mem_cons_of_mem _ z)
      rw [List.cons_append, look_cons, look_cons]
      by_cases e2 : q.1 = j
      · have e3 : ¬ k = j := fun z => n1 (e2.trans z.symm)
        simp [e2, e3]
      · simp only [e2, if_false]
        exact ih n2
theorem keys_put (b : Ps) (k v : Int) : keys (put b k v) = if k ∈ keys b then keys b else keys b ++ [k] := by
  unfold put
  by_cases h : b.any (fun q => q.1 = k) = true
  · rw [if_pos h, if_pos ((any_key b k).mp h)]
    unfold keys
    rw [List.map_map]
    refine List.map_congr_left fun p _ => ?_
    show (if p.1 = k then (p.1, v) else p).1 = p.1
    split <;> rfl
  · rw [if_neg h, if_neg fun z => h ((any_key b k).mpr z)]
    simp [keys]
theorem good_put {b : Ps} {k v : Int} (g : Good b) (hv : 1 ≤ v) : Good (put b k v) := by
  have nd : (keys (put b k v)).Nodup := by
    rw [keys_put]
    split
    · exact g.nd
    · rename_i h
      rw [List.nodup_append]
      exact ⟨g.nd, by simp, fun a ha c hc => by
        rw [List.mem_singleton.mp hc]
        intro z
        exact h (z ▸ ha)⟩
  refine ⟨nd, fun q hq => ?_⟩
  have e := mem_look nd hq
  rw [look_put] at e
  split at e
  · rw [← Option.some.inj e]
    exact hv
  · exact g.pos (q.1, q.2) (look_mem e)
theorem val_nonneg {b : Ps} (g : Good b) (k : Int) : 0 ≤ val b k := by
  unfold val
  cases e : look b k with
  | none => exact Int.le_refl 0
  | some v =>
    have := g.pos _ (look_mem e)
    show 0 ≤ v
    have h : 1 ≤ v := this
    omega
theorem val_put (b : Ps) (k v j : Int) : val (put b k v) j = if k = j then v else val b j := by
  unfold val
  rw [look_put]
  split <;> rfl
/-- require, on functions -/
def reqF (f : Int → Int) (o v : Int) : Int → Int := fun k => if o = k then max v (f k) else f k
theorem val_req {b : Ps} (g : Good b) {o v : Int} (hv : 1 ≤ v) : val (req b o v) = reqF (val b) o v := by
  funext k
  unfold req reqF
  rw [val_put]
  by_cases h : o = k
  · subst h
    rw [if_pos rfl, if_pos rfl]
    unfold val mx
    cases e : look b o with
    | none =>
      show (if v > v then v else v) = max v 0
      rw [if_neg (by omega)]
      omega
    | some x =>
      show (if x > v then x else v) = max v x
      split <;> omega
  · rw [if_neg h, if_neg h]
theorem good_req {b : Ps} (g : Good b) {o v : Int} (hv : 1 ≤ v) : Good (req b o v) := by
  refine good_put g ?_
  unfold mx
  split <;> omega

/-! ### the walk, on functions -/
def goF : List Cmd → Int → Int → (Int → Int) → Option (Option Int × (Int → Int))
  | [], _, need, f => some (some need, f)
  | .home :: _, _, _, _ => none
  | .stop :: _, _, _, f => some (none, f)
  | .right n :: r, off, need, f => if need > n then goF r off (need - n) (reqF f off need) else some (none, reqF f off need)
  | .left n :: r, off, need, f => goF r off (need + n) (reqF f off (need + n))
  | .down n :: r, off, need, f => goF r (off - n) need f
  | .up n :: r, off, need, f => goF r (off + n) need f
def AllOk (cs : List Cmd) : Prop := ∀ c ∈ cs, c.ok
theorem go_goF : ∀ {r : List Cmd} {off need : Int} {b : Ps}, AllOk r → Good b → 1 ≤ need →
    (go r off need b = none ∧ goF r off need (val b) = none) ∨ ∃ st b', go r off need b = some (st, b') ∧ Good b' ∧ goF r off need (val b) = some (st, val b') ∧ ∀ n, st = some n → 1 ≤ n
  | [], off, need, b, _, g, hn => .inr ⟨_, _, rfl, g, rfl, fun n e => by rw [← Option.some.inj e]; exact hn⟩
  | .home :: r, off, need, b, _, g, hn => .inl ⟨rfl, rfl⟩
  | .stop :: r, off, need, b, _, g, hn => .inr ⟨_, _, rfl, g, rfl, fun n e => nomatch e⟩
  | .right n :: r, off, need, b, hk, g, hn => by
    have hk' : AllOk r := fun c hc => hk c (List.mem_cons_of_mem _ hc)
    simp only [go, goF]
    by_cases h : need > n
    · rw [if_pos h, if_pos h, ← val_req g hn]
      exact go_goF hk' (good_req g hn) (by omega)
    · rw [if_neg h, if_neg h, ← val_req g hn]
      exact .inr ⟨_, _, rfl, good_req g hn, rfl, fun n e => nomatch e⟩
  | .left n :: r, off, need, b, hk, g, hn => by
    have hk' : AllOk r := fun c hc => hk c (List.mem_cons_of_mem _ hc)
    have h1 : 1 ≤ n := hk _ List.mem_cons_self
    simp only [go, goF]
    rw [← val_req g (by omega)]
    exact go_goF hk' (good_req g (by omega)) (by omega)
  | .down n :: r, off, need, b, hk, g, hn => go_goF (r := r) (fun c hc => hk c (List.mem_cons_of_mem _ hc)) g hn
  | .up n :: r, off, need, b, hk, g, hn => go_goF (r := r) (fun c hc => hk c (List.mem_cons_of_mem _ hc)) g hn

/-! ### ascending lists are told by their functions -/
def Asc (b : Ps) : Prop := b.Pairwise fun p q => p.1 < q.1
theorem asc_nd {b : Ps} (h : Asc b) : (keys b).Nodup := by
  unfold keys
  rw [List.nodup_iff_pairwise_ne, List.pairwise_map]
  exact h.imp fun h => Int.ne_of_lt h
theorem leK_trans (a b c : Int × Int) (h1 : leK a b = true) (h2 : leK b c = true) : leK a c = true := by
  unfold leK at *
  have a1 := of_decide_eq_true h1
  have a2 := of_decide_eq_true h2
  exact decide_eq_true (by omega)
theorem leK_total (a b : Int × Int) : (leK a b || leK b a) = true := by
  unfold leK
  by_cases h : a.1 < b.1 ∨ (a.1 = b.1 ∧ a.2 ≤ b.2)
  · rw [decide_eq_true h]
    rfl
  · rw [decide_eq_true (show b.1 < a.1 ∨ (b.1 = a.1 ∧ b.2 ≤ a.2) by omega), Bool.or_true]
theorem asc_sort {b : Ps} (g : Good b) : Asc (b.mergeSort leK) := by
  have p := List.pairwise_mergeSort (le := leK) leK_trans leK_total b
  have pm := List.mergeSort_perm b leK
  have nd : (keys (b.mergeSort leK)).Nodup := (pm.map (fun q : Int × Int => q.1)).nodup_iff.mpr g.nd
  unfold keys at nd
  rw [List.nodup_iff_pairwise_ne, List.pairwise_map] at nd
  refine (p.and nd).imp fun h => ?_
  have a := of_decide_eq_true h.1
  have c := h.2
  omega
theorem good_perm {b c : Ps} (g : Good b) (p : c.Perm b) : Good c := ⟨(p.map (fun q : Int × Int => q.1)).nodup_iff.mpr g.nd, fun q hq => g.pos q (p.mem_iff.mp hq)⟩
theorem look_perm {b c : Ps} (g : Good b) (p : c.Perm b) (k : Int) : look c k = look b k := by
  have g' := good_perm g p
  cases e : look b k with
  | none =>
    rw [look_none] at e ⊢
    exact fun z => e ((p.map (fun q : Int × Int => q.1)).mem_iff.mp z)
  | some v => exact mem_look g'.nd (p.mem_iff.mpr (look_mem e))
theorem val_perm {b c : Ps} (g : Good b) (p : c.Perm b) : val c = val b := by
  funext k
  unfold val
  rw [look_perm g p]
theorem look_val {b c : Ps} (gb : Good b) (gc : Good c) (h : val b = val c) (k : Int) : look b k = look c k := by
  have e := congrFun h k
  unfold val at e
  cases e1 : look b k with
  | none =>
    cases e2 : look c k with
    | none => rfl
    | some v =>
      rw [e1, e2] at e
      have : 1 ≤ v := gc.pos _ (look_mem e2)
      have e' : (0 : Int) = v := e
      omega
  | some u =>
    cases e2 : look c k with
    | none =>
      rw [e1, e2] at e
      have : 1 ≤ u := gb.pos _ (look_mem e1)
      have e' : u = (0 : Int) := e
      omega
    | some v =>
      rw [e1, e2] at e
      have e' : u = v := e
      rw [e']
theorem asc_ext : ∀ {b c : Ps}, Asc b → Asc c → (∀ k, look b k = look c k) → b = c
  | [], [], _, _, _ => rfl
  | [], q :: c, _, _, h => by
    have e := h q.1
    rw [look_cons, if_pos rfl] at e
    cases e
  | q :: b, [], _, _, h => by
    have e := h q.1
    rw [look_cons, if_pos rfl] at e
    cases e
  | p :: b, q :: c, hb, hc, h => by
    have hb' := List.pairwise_cons.mp hb
    have hc' := List.pairwise_cons.mp hc
    have e1 := h p.1
    rw [look_cons, if_pos rfl, look_cons] at e1
    have e2 := h q.1
    rw [look_cons, look_cons, if_pos rfl] at e2
    have key : p.1 = q.1 := by
      by_cases x : q.1 = p.1
      · exact x.symm
      · rw [if_neg x] at e1
        rw [if_neg fun z => x z.symm] at e2
        have m1 := hc'.1 _ (look_mem e1.symm)
        have m2 := hb'.1 _ (look_mem e2)
        have m1' : q.1 < p.1 := m1
        have m2' : p.1 < q.1 := m2
        omega
    rw [if_pos key.symm] at e1
    have hpq : p = q := Prod.ext key (Option.some.inj e1)
    subst hpq
    rw [asc_ext hb'.2 hc'.2 fun k => ?_]
    have e := h k
    rw [look_cons, look_cons] at e
    by_cases x : p.1 = k
    · have n1 : look b k = none := look_none.mpr fun z => by
        obtain ⟨r, hr, er⟩ := List.mem_map.mp z
        have := hb'.1 r hr
        omega
      have n2 : look c k = none := look_none.mpr fun z => by
        obtain ⟨r, hr, er⟩ := List.mem_map.mp z
        have := hc'.1 r hr
        omega
      rw [n1, n2]
    · rw [if_neg x, if_neg x] at e
      exact e
theorem sort_ext {b c : Ps} (gb : Good b) (gc : Good c) (h : val b = val c) : b.mergeSort leK = c.mergeSort leK :=
  asc_ext (asc_sort gb) (asc_sort gc) fun k => by
    rw [look_perm gb (List.mergeSort_perm b leK), look_perm gc (List.mergeSort_perm c leK)]
    exact look_val gb gc h k
end Gc

/-! laws of boxes: joined lists, greater goals, multiplied moves -/
namespace Gc
abbrev BF := Option (Option Int × (Int → Int))
def boxF (cs : List Cmd) (goal : Int) : BF := goF cs.reverse (last cs) goal fun _ => 0
theorem val_nil : val [] = fun _ => 0 := rfl
theorem allOk_rev {cs : List Cmd} (h : AllOk cs) : AllOk cs.reverse := fun c hc => h c (List.mem_reverse.mp hc)
theorem box_spec {cs : List Cmd} {goal : Int} (h : AllOk cs) (hg : 1 ≤ goal) :
    (boxM cs goal = none ∧ boxF cs goal = none) ∨ ∃ st b, boxM cs goal = some (st, b.mergeSort leK) ∧ Good b ∧ boxF cs goal = some (st, val b) ∧ ∀ n, st = some n → 1 ≤ n := by
  unfold boxM boxF
  rw [← val_nil]
  rcases go_goF (off := last cs) (allOk_rev h) good_nil hg with ⟨e1, e2⟩ | ⟨st, b, e1, g, e2, p⟩
  · exact .inl ⟨by rw [e1]; rfl, e2⟩
  · exact .inr ⟨st, b, by rw [e1]; rfl, g, e2, p⟩
def thenF (x : BF) (k : Int → (Int → Int) → BF) : BF := match x with
  | none => none
  | some (none, g) => some (none, g)
  | some (some n, g) => k n g
theorem goF_app : ∀ (a b : List Cmd) (off need : Int) (f : Int → Int), goF (a ++ b) off need f = thenF (goF a off need f) fun n g => goF b (off - (a.map Cmd.dv).sum) n g
  | [], b, off, need, f => by
    show goF b off need f = goF b (off - 0) need f
    rw [Int.sub_zero]
  | .home :: a, b, off, need, f => rfl
  | .stop :: a, b, off, need, f => rfl
  | .right n :: a, b, off, need, f => by
    have e : off - (((Cmd.right n :: a).map Cmd.dv).sum) = off - (a.map Cmd.dv).sum := by
      rw [List.map_cons, List.sum_cons]
      show off - (0 + _) = _
      omega
    rw [e, List.cons_append]
    simp only [goF]
    by_cases h : need > n
    · rw [if_pos h, if_pos h]
      exact goF_app a b off (need - n) _
    · rw [if_neg h, if_neg h]
      rfl
  | .left n :: a, b, off, need, f => by
    have e : off - (((Cmd.left n :: a).map Cmd.dv).sum) = off - (a.map Cmd.dv).sum := by
      rw [List.map_cons, List.sum_cons]
      show off - (0 + _) = _
      omega
    rw [e, List.cons_append]
    exact goF_app a b off (need + n) _
  | .down n :: a, b, off, need, f => by
    have e : off - (((Cmd.down n :: a).map Cmd.dv).sum) = off - n - (a.map Cmd.dv).sum := by
      rw [List.map_cons, List.sum_cons]
      show off - (n + _) = _
      omega
    rw [e, List.cons_append]
    exact goF_app a b (off - n) need f
  | .up n :: a, b, off, need, f => by
    have e : off - (((Cmd.up n :: a).map Cmd.dv).sum) = off + n - (a.map Cmd.dv).sum := by
      rw [List.map_cons, List.sum_cons]
      show off - (-n + _) = _
      omega
    rw [e, List.cons_append]
    exact goF_app a b (off + n) need f
theorem goF_shift (d : Int) : ∀ (r : List Cmd) (off need : Int) (f : Int → Int), goF r (off + d) need (fun k => f (k - d)) = (goF r off need f).map fun x => (x.1, fun k => x.2 (k - d))
  | [], off, need, f => rfl
  | .home :: r, off, need, f => rfl
  | .stop :: r, off, need, f => rfl
  | .right n :: r, off, need, f => by
    have e : reqF (fun k => f (k - d)) (off + d) need = fun k => reqF f off need (k - d) := by
      funext k
      unfold reqF
      by_cases h : off + d = k
      · rw [if_pos h, if_pos (by omega)]
      · rw [if_neg h, if_neg (by omega)]
    simp only [goF]
    rw [e]
    by_cases h : need > n
    · rw [if_pos h, if_pos h]
      exact goF_shift d r off (need - n) _
    · rw [if_neg h, if_neg h]
      rfl
  | .left n :: r, off, need, f => by
    have e : reqF (fun k => f (k - d)) (off + d) (need + n) = fun k => reqF f off (need + n) (k - d) := by
      funext k
      unfold reqF
      by_cases h : off + d = k
      · rw [if_pos h, if_pos (by omega)]
      · rw [if_neg h, if_neg (by omega)]
    simp only [goF]
    rw [e]
    exact goF_shift d r off (need + n) _
  | .down n :: r, off, need, f => by
    simp only [goF]
    rw [show off + d - n = off - n + d by omega]
    exact goF_shift d r (off - n) need f
  | .up n :: r, off, need, f => by
    simp only [goF]
    rw [show off + d + n = off + n + d by omega]
    exact goF_shift d r (off + n) need f
theorem goF_max (h : Int → Int) : ∀ (r : List Cmd) (off need : Int) (f : Int → Int), goF r off need (fun k => max (f k) (h k)) = (goF r off need f).map fun x => (x.1, fun k => max (x.2 k) (h k))
  | [], off, need, f => rfl
  | .home :: r, off, need, f => rfl
  | .stop :: r, off, need, f => rfl
  | .right n :: r, off, need, f => by
    have e : reqF (fun k => max (f k) (h k)) off need = fun k => max (reqF f off need k) (h k) := by
      funext k
      unfold reqF
      show (if _ then _ else _) = _
      by_cases q : off = k
      · simp only [q, if_true]
        rw [Int.max_assoc]
      · simp only [q, if_false]
    simp only [goF]
    rw [e]
    by_cases c : need > n
    · rw [if_pos c, if_pos c]
      exact goF_max h r off (need - n) _
    · rw [if_neg c, if_neg c]
      rfl
  | .left n :: r, off, need, f => by
    have e : reqF (fun k => max (f k) (h k)) off (need + n) = fun k => max (reqF f off (need + n) k) (h k) := by
      funext k
      unfold reqF
      show (if _ then _ else _) = _
      by_cases q : off = k
      · simp only [q, if_true]
        rw [Int.max_assoc]
      · simp only [q, if_false]
    simp only [goF]
    rw [e]
    exact goF_max h r off (need + n) _
  | .down n :: r, off, need, f => goF_max h r (off - n) need f
  | .up n :: r, off, need, f => goF_max h r (off + n) need f
theorem last_app (a b : List Cmd) : last (a ++ b) = last a + last b := by
  unfold last
  rw [List.map_append, List.sum_append]
theorem sum_rev (l : List Int) : l.reverse.sum = l.sum := by
  induction l with
  | nil => rfl
  | cons a l ih =>
    rw [List.reverse_cons, List.sum_append, ih, List.sum_cons]
    simp
    omega
theorem boxF_app (early late : List Cmd) (aim : Int) (pos : ∀ st g, boxF late aim = some (st, g) → ∀ k, 0 ≤ g k) :
    boxF (early ++ late) aim = match boxF late aim with
      | none => none
      | some (none, g) => some (none, fun k => g (k - last early))
      | some (some n, g) => (boxF early n).map fun x => (x.1, fun k => max (x.2 k) (g (k - last early))) := by
  unfold boxF
  rw [List.reverse_append, goF_app, last_app, Int.add_comm (last early)]
  have sh : goF late.reverse (last late + last early) aim (fun _ => 0) = (goF late.reverse (last late) aim fun _ => 0).map fun x => (x.1, fun k => x.2 (k - last early)) :=
    goF_shift (last early) late.reverse (last late) aim fun _ => 0
  rw [sh]
  have pos' := pos
  unfold boxF at pos'
  cases e : goF late.reverse (last late) aim (fun _ => 0) with
  | none => rfl
  | some x =>
    obtain ⟨st, g⟩ := x
    cases st with
    | none => rfl
    | some n =>
      show goF early.reverse (last late + last early - (late.reverse.map Cmd.dv).sum) n (fun k => g (k - last early)) = _
      have es : (late.reverse.map Cmd.dv).sum = last late := by
        rw [List.map_reverse, sum_rev]
        rfl
      rw [es, show last late + last early - last late = last early by omega]
      have em : (fun k => g (k - last early)) = fun k => max ((fun _ => 0 : Int → Int) k) (g (k - last early)) := by
        funext k
        have := pos' _ _ e (k - last early)
        show g (k - last early) = max 0 (g (k - last early))
        omega
      rw [em, goF_max]

/-! ### the law's own joining -/
def shiftK (d : Int) (b : Ps) : Ps := b.map fun q => (q.1 + d, q.2)
def addAll (b : Ps) (l : Ps) : Ps := l.foldl (fun b q => put b q.1 (mx q.2 ((look b q.1).getD 0))) b
def joinedM (early late : List Cmd) (gone aim : Int) : Option (Option Int × Ps) := match boxM late aim with
  | none => none
  | some (none, l) => some (none, (shiftK gone l).mergeSort leK)
  | some (some n, l) => match boxM early n with
    | none => none
    | some (st, m) => some (st, (addAll (shiftK gone l) m).mergeSort leK)
theorem look_shift (d : Int) : ∀ (b : Ps) (k : Int), look (shiftK d b) k = look b (k - d)
  | [], _ => rfl
  | q :: b, k => by
    show look ((q.1 + d, q.2) :: shiftK d b) k = _
    rw [look_cons, look_cons, look_shift d b]
    by_cases h : q.1 + d = k
    · rw [if_pos h, if_pos (by omega)]
    · rw [if_neg h, if_neg (by omega)]
theorem good_shift (d : Int) {b : Ps} (g : Good b) : Good (shiftK d b) := by
  refine ⟨?_, fun q hq => ?_⟩
  · have e : keys (shiftK d b) = (keys b).map (· + d) := by
      unfold keys shiftK
      rw [List.map_map, List.map_map]
      rfl
    rw [e, List.nodup_iff_pairwise_ne, List.pairwise_map]
    exact (List.nodup_iff_pairwise_ne.mp g.nd).imp fun h => by omega
  · obtain ⟨p, hp, rfl⟩ := List.mem_map.mp hq
    exact g.pos p hp
theorem val_shift (d : Int) (b : Ps) : val (shiftK d b) = fun k => val b (k - d) := by
  funext k
  unfold val
  rw [look_shift]
theorem val_cons (q : Int × Int) (b : Ps) (k : Int) : val (q :: b) k = if q.1 = k then q.2 else val b k := by
  unfold val
  rw [look_cons]
  split <;> rfl
theorem val_out {b : Ps} {k : Int} (h : k ∉ keys b) : val b k = 0 := by
  unfold val
  rw [look_none.mpr h]
  rfl
theorem addAll_good : ∀ {l b : Ps}, Good b → Good l → Good (addAll b l) ∧ ∀ k, val (addAll b l) k = max (val l k) (val b k)
  | [], b, gb, _ => ⟨gb, fun k => by
      have := val_nonneg gb k
      show val b k = max 0 (val b k)
      omega⟩
  | q :: l, b, gb, gl => by
    have nq : q.1 ∉ keys l ∧ (keys l).Nodup := List.nodup_cons.mp gl.nd
    have p1 : 1 ≤ q.2 := gl.pos q List.mem_cons_self
    have gl' : Good l := ⟨nq.2, fun p hp => gl.pos p (List.mem_cons_of_mem _ hp)⟩
    have hv : 1 ≤ mx q.2 ((look b q.1).getD 0) := by
      unfold mx
      split <;> omega
    obtain ⟨g, v⟩ := addAll_good (b := put b q.1 (mx q.2 ((look b q.1).getD 0))) (good_put gb hv) gl'
    refine ⟨g, fun k => ?_⟩
    show val (addAll (put b q.1 (mx q.2 ((look b q.1).getD 0))) l) k = _
    rw [v k, val_put, val_cons]
    by_cases h : q.1 = k
    · subst h
      rw [if_pos rfl, if_pos rfl, val_out nq.1]
      have : mx q.2 ((look b q.1).getD 0) = max q.2 (val b q.1) := by
        unfold mx val
        split <;> omega
      rw [this]
      omega
    · rw [if_neg h, if_neg h]
theorem joined (early late : List Cmd) {aim : Int} (he : AllOk early) (hl : AllOk late) (ha : 1 ≤ aim) : boxM (early ++ late) aim = joinedM early late (last early) aim := by
  have hw : AllOk (early ++ late) := fun c hc => (List.mem_append.mp hc).elim (he c) (hl c)
  have srtd : ∀ {b c : Ps}, Good b → Good c → val b = val c → b.mergeSort leK = c.mergeSort leK := fun gb gc h => sort_ext gb gc h
  rcases box_spec hl ha with ⟨e1, e2⟩ | ⟨st, b, e1, gb, e2, pb⟩
  · have f := boxF_app early late aim fun st g h => by rw [e2] at h; cases h
    rw [e2] at f
    rcases box_spec hw ha with ⟨w1, _⟩ | ⟨_, _, _, _, w2, _⟩
    · rw [w1]
      unfold joinedM
      rw [e1]
    · rw [w2] at f
      cases f
  · have f := boxF_app early late aim fun st g h => by
      rw [e2] at h
      cases h
      exact val_nonneg gb
    rw [e2] at f
    have gs : Good (b.mergeSort leK) := good_perm gb (List.mergeSort_perm b leK)
    have vs : val (b.mergeSort leK) = val b := val_perm gb (List.mergeSort_perm b leK)
    cases st with
    | none =>
      rcases box_spec hw ha with ⟨_, w2⟩ | ⟨st', c, w1, gc, w2, _⟩
      · rw [w2] at f
        cases f
      · rw [w2] at f
        have f' := Option.some.inj f
        have f1 : st' = none := congrArg Prod.fst f'
        have f2 : val c = fun k => val b (k - last early) := congrArg Prod.snd f'
        rw [w1, f1]
        unfold joinedM
        rw [e1]
        show some ((none : Option Int), c.mergeSort leK) = some (none, (shiftK (last early) (b.mergeSort leK)).mergeSort leK)
        rw [srtd gc (good_shift _ gs) (by rw [f2, val_shift, vs])]
    | some n =>
      have hn := pb n rfl
      rcases box_spec he hn with ⟨x1, x2⟩ | ⟨st2, m, x1, gm, x2, _⟩
      · have f' : boxF (early ++ late) aim = (boxF early n).map fun x => (x.1, fun k => max (x.2 k) (val b (k - last early))) := f
        rw [x2] at f'
        rcases box_spec hw ha with ⟨w1, _⟩ | ⟨_, _, _, _, w2, _⟩
        · rw [w1]
          unfold joinedM
          rw [e1]
          show none = match boxM early n with | none => none | some (st, m) => _
          rw [x1]
        · rw [w2] at f'
          cases f'
      · have f' : boxF (early ++ late) aim = (boxF early n).map fun x => (x.1, fun k => max (x.2 k) (val b (k - last early))) := f
        rw [x2] at f'
        rcases box_spec hw ha with ⟨_, w2⟩ | ⟨st', c, w1, gc, w2, _⟩
        · rw [w2] at f'
          cases f'
        · rw [w2] at f'
          have f3 := Option.some.inj f'
          have f1 : st' = st2 := congrArg Prod.fst f3
          have f2 : val c = fun k => max (val m k) (val b (k - last early)) := congrArg Prod.snd f3
          rw [w1, f1]
          unfold joinedM
          rw [e1]
          show some (st2, c.mergeSort leK) = match boxM early n with | none => none | some (st, m) => _
          rw [x1]
          show some (st2, c.mergeSort leK) = some (st2, (addAll (shiftK (last early) (b.mergeSort leK)) (m.mergeSort leK)).mergeSort leK)
          have gms : Good (m.mergeSort leK) := good_perm gm (List.mergeSort_perm m leK)
          obtain ⟨ga, va⟩ := addAll_good (good_shift (last early) gs) gms
          rw [srtd gc ga (by
            funext k
            rw [f2, va k, val_perm gm (List.mergeSort_perm m leK), val_shift, vs])]

/-! ### a greater goal -/
theorem reqF_mono {f g : Int → Int} {o v u : Int} (h : ∀ k, f k ≤ g k) (hv : v ≤ u) (k : Int) : reqF f o v k ≤ reqF g o u k := by
  have := h k
  unfold reqF
  split <;> omega
theorem reqF_ge (f : Int → Int) (o v k : Int) : f k ≤ reqF f o v k := by
  unfold reqF
  split <;> omega
theorem goF_ge : ∀ {r : List Cmd} {off need : Int} {f : Int → Int} {st : Option Int} {g : Int → Int}, goF r off need f = some (st, g) → ∀ k, f k ≤ g k
  | [], off, need, f, st, g, h, k => by cases h; exact Int.le_refl _
  | .home :: r, off, need, f, st, g, h, k => by cases h
  | .stop :: r, off, need, f, st, g, h, k => by cases h; exact Int.le_refl _
  | .right n :: r, off, need, f, st, g, h, k => by
    simp only [goF] at h
    by_cases c : need > n
    · rw [if_pos c] at h
      exact Int.le_trans (reqF_ge f off need k) (goF_ge h k)
    · rw [if_neg c] at h
      cases h
      exact reqF_ge f off need k
  | .left n :: r, off, need, f, st, g, h, k => Int.le_trans (reqF_ge f off (need + n) k) (goF_ge (r := r) h k)
  | .down n :: r, off, need, f, st, g, h, k => goF_ge (r := r) h k
  | .up n :: r, off, need, f, st, g, h, k => goF_ge (r := r) h k
def Less (x y : BF) : Prop := y = none ∨ ∃ st g st' g', x = some (st, g) ∧ y = some (st', g') ∧ (∀ n, st = some n → ∃ n', st' = some n' ∧ n ≤ n') ∧ ∀ k, g k ≤ g' k
theorem goF_mono : ∀ {r : List Cmd} {off need need' : Int} {f f' : Int → Int}, need ≤ need' → (∀ k, f k ≤ f' k) → Less (goF r off need f) (goF r off need' f')
  | [], off, need, need', f, f', h, hf => .inr ⟨_, _, _, _, rfl, rfl, fun n e => ⟨need', rfl, by rw [← Option.some.inj e]; exact h⟩, hf⟩
  | .home :: r, off, need, need', f, f', h, hf => .inl rfl
  | .stop :: r, off, need, need', f, f', h, hf => .inr ⟨_, _, _, _, rfl, rfl, (fun n e => nomatch e), hf⟩
  | .right n :: r, off, need, need', f, f', h, hf => by
    simp only [goF]
    have m := reqF_mono (o := off) hf h
    by_cases c : need > n
    · rw [if_pos c, if_pos (by omega)]
      exact goF_mono (by omega) m
    · rw [if_neg c]
      by_cases c' : need' > n
      · rw [if_pos c']
        cases e : goF r off (need' - n) (reqF f' off need') with
        | none => exact .inl rfl
        | some x => exact .inr ⟨_, _, x.1, x.2, rfl, rfl, (fun n e => nomatch e), fun k => Int.le_trans (m k) (goF_ge e k)⟩
      · rw [if_neg c']
        exact .inr ⟨_, _, _, _, rfl, rfl, (fun n e => nomatch e), m⟩
  | .left n :: r, off, need, need', f, f', h, hf => goF_mono (r := r) (by omega) (reqF_mono (o := off) hf (by omega))
  | .down n :: r, off, need, need', f, f', h, hf => goF_mono (r := r) h hf
  | .up n :: r, off, need, need', f, f', h, hf => goF_mono (r := r) h hf
theorem box_mono {cs : List Cmd} {aim more : Int} (h : AllOk cs) (ha : 1 ≤ aim) (hm : aim ≤ more) :
    boxM cs more = none ∨ ∃ st l st' l', boxM cs aim = some (st, l) ∧ boxM cs more = some (st', l') ∧ (∀ n, st = some n → ∃ n', st' = some n' ∧ n ≤ n') ∧ ∀ q ∈ l, q.2 ≤ val l' q.1 := by
  have m : Less (boxF cs aim) (boxF cs more) := goF_mono hm fun _ => Int.le_refl _
  rcases box_spec h (show 1 ≤ more by omega) with ⟨e1, _⟩ | ⟨st', b', e1, g', e2, _⟩
  · exact .inl e1
  · rcases m with m | ⟨st, g, st2, g2, m1, m2, m3, m4⟩
    · rw [e2] at m
      cases m
    · rw [e2] at m2
      cases m2
      rcases box_spec h ha with ⟨_, x2⟩ | ⟨st3, b, x1, gb, x2, _⟩
      · rw [x2] at m1
        cases m1
      · rw [x2] at m1
        cases m1
        refine .inr ⟨st, _, st', _, x1, e1, m3, fun q hq => ?_⟩
        have gs : Good (b.mergeSort leK) := good_perm gb (List.mergeSort_perm b leK)
        have v : val (b.mergeSort leK) q.1 = q.2 := by
          unfold val
          rw [mem_look gs.nd hq]
          rfl
        rw [val_perm gb (List.mergeSort_perm b leK)] at v
        rw [val_perm g' (List.mergeSort_perm b' leK), ← v]
        exact m4 q.1

/-! ### moves multiplied -/
def Cmd.mul (F : Int) : Cmd → Cmd
  | .down n => .down (n * F)
  | .up n => .up (n * F)
  | c => c
def mulK (F : Int) (b : Ps) : Ps := b.map fun q => (q.1 * F, q.2)
theorem mul_inj {F a b : Int} (hF : 1 ≤ F) : a * F = b * F ↔ a = b := ⟨fun h => Int.eq_of_mul_eq_mul_right (by omega) h, fun h => by rw [h]⟩
theorem look_mul {F : Int} (hF : 1 ≤ F) : ∀ (b : Ps) (k : Int), look (mulK F b) (k * F) = look b k
  | [], _ => rfl
  | q :: b, k => by
    show look ((q.1 * F, q.2) :: mulK F b) (k * F) = _
    rw [look_cons, look_cons, look_mul hF b]
    by_cases h : q.1 = k
    · rw [if_pos h, if_pos (by rw [h])]
    · rw [if_neg h, if_neg fun z => h ((mul_inj hF).mp z)]
theorem put_mul {F : Int} (hF : 1 ≤ F) (b : Ps) (k v : Int) : put (mulK F b) (k * F) v = mulK F (put b k v) := by
  unfold put
  have ea : (mulK F b).any (fun q => decide (q.1 = k * F)) = b.any (fun q => decide (q.1 = k)) := by
    unfold mulK
    rw [List.any_map]
    congr 1
    funext q
    show decide (q.1 * F = k * F) = decide (q.1 = k)
    exact decide_eq_decide.mpr (mul_inj hF)
  rw [ea]
  by_cases h : b.any (fun q => decide (q.1 = k)) = true
  · rw [if_pos h, if_pos h]
    unfold mulK
    rw [List.map_map, List.map_map]
    refine List.map_congr_left fun q _ => ?_
    show (if q.1 * F = k * F then (q.1 * F, v) else (q.1 * F, q.2)) = ((if q.1 = k then (q.1, v) else q).1 * F, (if q.1 = k then (q.1, v) else q).2)
    by_cases e : q.1 = k
    · rw [if_pos e, if_pos (by rw [e])]
    · rw [if_neg e, if_neg fun z => e ((mul_inj hF).mp z)]
  · rw [if_neg h, if_neg h]
    unfold mulK
    rw [List.map_append]
    rfl
theorem req_mul {F : Int} (hF : 1 ≤ F) (b : Ps) (o v : Int) : req (mulK F b) (o * F) v = mulK F (req b o v) := by
  unfold req
  rw [look_mul hF, put_mul hF]
theorem go_mul {F : Int} (hF : 1 ≤ F) : ∀ (r : List Cmd) (off need : Int) (b : Ps), go (r.map (Cmd.mul F)) (off * F) need (mulK F b) = (go r off need b).map fun x => (x.1, mulK F x.2)
  | [], off, need, b => rfl
  | .home :: r, off, need, b => rfl
  | .stop :: r, off, need, b => rfl
  | .right n :: r, off, need, b => by
    show (if need > n then go (r.map (Cmd.mul F)) (off * F) (need - n) (req (mulK F b) (off * F) need) else some (none, req (mulK F b) (off * F) need)) = (if need > n then go r off (need - n) (req b off need) else some (none, req b off need)).map _
    rw [req_mul hF]
    by_cases c : need > n
    · rw [if_pos c, if_pos c]
      exact go_mul hF r off (need - n) _
    · rw [if_neg c, if_neg c]
      rfl
  | .left n :: r, off, need, b => by
    show go (r.map (Cmd.mul F)) (off * F) (need + n) (req (mulK F b) (off * F) (need + n)) = _
    rw [req_mul hF]
    exact go_mul hF r off (need + n) _
  | .down n :: r, off, need, b => by
    show go (r.map (Cmd.mul F)) (off * F - n * F) need (mulK F b) = _
    rw [← Int.sub_mul]
    exact go_mul hF r (off - n) need b
  | .up n :: r, off, need, b => by
    show go (r.map (Cmd.mul F)) (off * F + n * F) need (mulK F b) = _
    rw [← Int.add_mul]
    exact go_mul hF r (off + n) need b
theorem last_mul (F : Int) : ∀ cs : List Cmd, last (cs.map (Cmd.mul F)) = last cs * F
  | [] => by show (0 : Int) = 0 * F; omega
  | c :: cs => by
    have e : ∀ (c : Cmd) (cs : List Cmd), last (c :: cs) = c.dv + last cs := fun _ _ => rfl
    have d : (c.mul F).dv = c.dv * F := by
      cases c with
      | up n =>
        show -(n * F) = -n * F
        rw [Int.neg_mul]
      | down n => rfl
      | right n => show (0 : Int) = 0 * F; omega
      | left n => show (0 : Int) = 0 * F; omega
      | home => show (0 : Int) = 0 * F; omega
      | stop => show (0 : Int) = 0 * F; omega
    rw [List.map_cons, e, e, last_mul F cs, d, Int.add_mul]
theorem good_mul {F : Int} (hF : 1 ≤ F) {b : Ps} (g : Good b) : Good (mulK F b) := by
  refine ⟨?_, fun q hq => ?_⟩
  · have e : keys (mulK F b) = (keys b).map (· * F) := by
      unfold keys mulK
      rw [List.map_map, List.map_map]
      rfl
    rw [e, List.nodup_iff_pairwise_ne, List.pairwise_map]
    exact (List.nodup_iff_pairwise_ne.mp g.nd).imp fun h z => h ((mul_inj hF).mp z)
  · obtain ⟨p, hp, rfl⟩ := List.mem_map.mp hq
    exact g.pos p hp
theorem asc_mul {F : Int} (hF : 1 ≤ F) {b : Ps} (h : Asc b) : Asc (mulK F b) := by
  unfold Asc mulK
  rw [List.pairwise_map]
  exact h.imp fun h => Int.mul_lt_mul_of_pos_right h (by omega)
theorem box_mul {F : Int} (hF : 1 ≤ F) {cs : List Cmd} {goal : Int} (h : AllOk cs) (hg : 1 ≤ goal) :
    boxM (cs.map (Cmd.mul F)) goal = (boxM cs goal).map fun x => (x.1, mulK F x.2) := by
  unfold boxM
  rw [last_mul, ← List.map_reverse]
  have e := go_mul hF cs.reverse (last cs) goal []
  have e' : go (cs.reverse.map (Cmd.mul F)) (last cs * F) goal [] = (go cs.reverse (last cs) goal []).map fun x => (x.1, mulK F x.2) := e
  rw [e']
  rcases go_goF (off := last cs) (allOk_rev h) good_nil hg with ⟨e1, _⟩ | ⟨st, b, e1, g, _, _⟩
  · rw [e1]
    rfl
  · rw [e1]
    show some (st, (mulK F b).mergeSort leK) = some (st, mulK F (b.mergeSort leK))
    have gm := good_mul hF g
    have key : (mulK F b).mergeSort leK = mulK F (b.mergeSort leK) := by
      have p : (mulK F (b.mergeSort leK)).Perm (mulK F b) := (List.mergeSort_perm b leK).map _
      refine asc_ext (asc_sort gm) (asc_mul hF (asc_sort g)) fun k => ?_
      rw [look_perm gm (List.mergeSort_perm _ leK), look_perm gm p]
    rw [key]
def Cmd.vert : Cmd → Bool
  | .down _ => true
  | .up _ => true
  | _ => false
theorem go_plain : ∀ (r : List Cmd) (off need : Int) (b : Ps), (∀ c ∈ r, c.vert = true) → go r off need b = some (some need, b)
  | [], _, _, _, _ => rfl
  | .down n :: r, off, need, b, h => go_plain r (off - n) need b fun c hc => h c (List.mem_cons_of_mem _ hc)
  | .up n :: r, off, need, b, h => go_plain r (off + n) need b fun c hc => h c (List.mem_cons_of_mem _ hc)
  | .right n :: r, _, _, _, h => nomatch h _ List.mem_cons_self
  | .left n :: r, _, _, _, h => nomatch h _ List.mem_cons_self
  | .home :: r, _, _, _, h => nomatch h _ List.mem_cons_self
  | .stop :: r, _, _, _, h => nomatch h _ List.mem_cons_self
theorem box_plain (cs : List Cmd) (goal : Int) (h : ∀ c ∈ cs, c.vert = true) : boxM cs goal = some (some goal, []) := by
  unfold boxM
  rw [go_plain cs.reverse (last cs) goal [] fun c hc => h c (List.mem_reverse.mp hc)]
  show some (some goal, ([] : Ps).mergeSort leK) = _
  rw [List.mergeSort_nil]
end Gc

/-! sorted(d.items()), d a dict of ints by ints -/
namespace Gc
open PySem PySem.Spec PyProof.Rows L2
/-- what such a dict holds -/
def dkI (ps : List (Int × Int)) : List (L2.Key × V) := ps.map fun q => (Sum.inl q.1, V.int q.2)
def encP (q : Int × Int) : PyData := .tuple [.int q.1, .int q.2]
def leP (p q : Int × Int) : Bool := decide (p.1 < q.1 ∨ (p.1 = q.1 ∧ p.2 ≤ q.2))
theorem dkI_at {ps : List (Int × Int)} {j : Nat} {kv : L2.Key × V} (h : (dkI ps)[j]? = some kv) : ∃ q, ps[j]? = some q ∧ kv = (Sum.inl q.1, V.int q.2) := by
  unfold dkI at h
  rw [List.getElem?_map] at h
  cases e : ps[j]? with
  | none =>
    rw [e] at h
    cases h
  | some q =>
    rw [e] at h
    exact ⟨q, rfl, (Option.some.inj h).symm⟩
theorem pairs_at {P : Program} {w : World} : ∀ {es : List DictEntry} {vs : List (L2.Key × Value)} {j : Nat} {e : DictEntry}, Pairs (mixKind P w) es vs → es[j]? = some e →
    ∃ kv, vs[j]? = some kv ∧ keyIs kv.1 e.key = true ∧ e.val = kv.2
  | _, _, 0, e, .cons h1 h2 _, h => by
    obtain rfl := Option.some.inj h
    exact ⟨_, rfl, h1, h2⟩
  | _, _, j + 1, e, .cons _ _ t, h => pairs_at (j := j) t h
theorem pairs_len {P : Program} {w : World} : ∀ {es : List DictEntry} {vs : List (L2.Key × Value)}, Pairs (mixKind P w) es vs → es.length = vs.length
  | _, _, .nil => rfl
  | _, _, .cons _ _ t => by
    rw [List.length_cons, List.length_cons, pairs_len t]
def rSortItI : V → Hp → VK → Prop := fun x H Q => ∃ (d : Addr) (ps : List (Int × Int)), x = .ref d ∧ H d = some (.dK (dkI ps)) ∧
  ∀ (H' : Hp) (l : Addr) (ts : List Addr), Same H H' → H l = none → H' l = some (.lst (ts.map V.ref)) →
    Paired (fun (t : Addr) (q : Int × Int) => H' t = some (.tup [.int q.1, .int q.2])) ts (ps.mergeSort leP) → Q (.ref l) H'
theorem each_paired {R : Value → Int × Int → Prop} {F : Addr → Int × Int → Prop} (hR : ∀ v q, R v q → ∃ t, v = .ref t ∧ F t q) : ∀ {vs : List Value} {qs : List (Int × Int)}, PySem.W.EachIs R vs qs →
    ∃ ts : List Addr, vs = ts.map Value.ref ∧ Paired F ts qs
  | _, _, .nil => ⟨[], rfl, .nil⟩
  | _, _, .cons h t => by
    obtain ⟨t0, e0, f0⟩ := hR _ _ h
    obtain ⟨ts, e1, f1⟩ := each_paired hR t
    exact ⟨t0 :: ts, by rw [e0, e1]; rfl, .cons f0 f1⟩
theorem vals_refs : ∀ as : List Addr, Vals (as.map V.ref) (as.map Value.ref)
  | [] => .nil
  | _ :: as => .cons rfl (vals_refs as)
section
variable {X : Cx}
theorem sort_items_run {pins : List (Addr × Obj)} {σ : L2.St} {H : Hp} {s : Shared} {Q : VK} {p d : Addr} {ps : List (Int × Int)} (I : Inv X pins σ H s) (hh : X.A.handled = none)
    (hu : X.A.units + 64 < cLine) (hd : H d = some (.dK (dkI ps))) (view : s.heap.IsItemsView p d)
    (q : ∀ (H' : Hp) (l : Addr) (ts : List Addr), Same H H' → H l = none → H' l = some (.lst (ts.map V.ref)) →
      Paired (fun (t : Addr) (q : Int × Int) => H' t = some (.tup [.int q.1, .int q.2])) ts (ps.mergeSort leP) → Q (.ref l) H') :
    wpAny (model X.prog X.w) X.A (call (.builtin "sorted") [.ref p]) (EP X pins σ Q) X.xe s := by
  obtain ⟨hz, hs0, vs, kv, o, es, ep, ho, hx, hdat, hko, hpr, hnd⟩ := (show ObjOk X.prog X.w H s.heap d (.dK (dkI ps)) from I.hok d _ hd)
  have l1 : (dkI ps).length = vs.length := Paired.length kv
  have l2 : es.toList.length = vs.length := pairs_len hpr
  have l3 : (dkI ps).length = ps.length := List.length_map ..
  have l4 : es.toList.length = es.size := by simp
  have ent : ∀ (j : Nat) (e : DictEntry), es[j]? = some e → ∃ (q : Int × Int) (t1 t2 : Tok), ps[j]? = some q ∧ e.key = .int q.1 t1 ∧ e.val = .int q.2 t2 := by
    intro j e he
    obtain ⟨kv', e1, e2, e3⟩ := pairs_at hpr (show es.toList[j]? = some e by simpa using he)
    obtain ⟨y, f1, f2, f3⟩ := L2.DX.pget kv e1
    obtain ⟨q, g1, rfl⟩ := dkI_at f1
    have f2' : Sum.inl q.1 = kv'.1 := f2
    rw [← f2'] at e2
    obtain ⟨t1, k1⟩ := Value.isInt_shape (k := q.1) (v := e.key) e2
    obtain ⟨t2, k2⟩ : ∃ t, kv'.2 = Value.int q.2 t := f3
    exact ⟨q, t1, t2, g1, k1, e3.trans k2⟩
  refine DT.sortedI (es := es) (ep := ep) hh view ⟨o, ho, hx, hdat⟩ (by omega) fun h' tk as hk hlt hl hG => ?_
  have nd : as.Nodup := List.Pairwise.imp (fun h => Nat.ne_of_lt h) hG.rise
  have lap : as.length = ps.length := by omega
  have pr : ∀ (j : Nat) (b : Addr), as[j]? = some b → ∃ (q : Int × Int) (t1 t2 : Tok), ps[j]? = some q ∧
      h'.get? b = some { cls := .type "tuple", data := .seq #[Value.int q.1 t1, Value.int q.2 t2] } := by
    intro j b hj
    obtain ⟨e, he, hg⟩ := hG.pairs j b hj
    obtain ⟨q, t1, t2, e1, e2, e3⟩ := ent j e he
    rw [e2, e3] at hg
    exact ⟨q, t1, t2, e1, hg⟩
  have hob : (h'.push { cls := .type "list", data := .seq (as.map Value.ref).toArray }).get? h'.objs.size = some (seqObj "list" (as.map Value.ref).toArray 0) := Heap.get?_push_size _ rfl
  have ne0 : ∀ b o, h'.get? b = some o → b ≠ h'.objs.size := fun b o e => Nat.ne_of_lt (Heap.lt_size e)
  have ka : ∀ b o, h'.get? b = some o → (h'.push { cls := .type "list", data := .seq (as.map Value.ref).toArray }).get? b = some o := fun b o e => Heap.get?_push_of_some _ e
  generalize hh2 : h'.push { cls := .type "list", data := .seq (as.map Value.ref).toArray } = h2 at hob ka ⊢
  have kb : ∀ b o, s.heap.get? b = some o → h2.get? b = some o := fun b o e => ka b o (hk b o e)
  have zipR : ∀ z, z ∈ (as.map Value.ref).zip ps → ∃ (j : Nat) (t : Addr), z.1 = Value.ref t ∧ as[j]? = some t ∧ ps[j]? = some z.2 := by
    intro z hz'
    obtain ⟨j, hj⟩ := List.mem_iff_getElem?.mp hz'
    obtain ⟨j1, j2⟩ := List.getElem?_zip_eq_some.mp hj
    rw [List.getElem?_map] at j1
    cases e : as[j]? with
    | none =>
      rw [e] at j1
      cases j1
    | some t =>
      rw [e] at j1
      exact ⟨j, t, (Option.some.inj j1).symm, e, j2⟩
  have eR : PySem.W.EachIs (fun v (q : Int × Int) => ∃ (j : Nat) (t : Addr), v = Value.ref t ∧ as[j]? = some t ∧ ps[j]? = some q) (as.map Value.ref) ps :=
    PySem.W.EachIs.of_zip (by rw [List.length_map]; exact lap) zipR
  have er : PySem.W.EachIs (fun v (q : Int × Int) => ∃ bs, Reads h2 v (encP q) bs ∧ h'.objs.size ∉ bs) (as.map Value.ref) ps := by
    refine eR.mono fun v q h => ?_
    obtain ⟨j, t, rfl, e1, e2⟩ := h
    obtain ⟨q', t1, t2, g1, g2⟩ := pr j t e1
    obtain rfl : q' = q := Option.some.inj (g1.symm.trans e2)
    exact ⟨_, .tuple (ka _ _ g2) rfl rfl (.cons (.int _ _) (.cons (.int _ _) .nil)), by simp⟩
  refine PySem.W.list_sort_data (s := { s with heap := h2, toks := tk }) (A := X.A.in1) (enc := encP) (bs := ps) (vs := as.map Value.ref) hob eR er
    (PySem.W.AllAlike.of fun b b' => by simp [encP, PySem.W.alike, PySem.W.alikeAll]) (PySem.W.Sortable.tuples fun b => ⟨_, _, rfl⟩) (by omega)
    (fun b _ => by show X.A.units + 1 + 1 + 1 < cLine; omega) fun out ol oe => ?_
  have le_eq : PySem.W.dataLe false encP = leP := PySem.W.dataLe_ii (fun q : Int × Int => q.1) (fun q => q.2)
  rw [le_eq] at oe
  show EP X pins σ Q (.ref h'.objs.size) { s with heap := sortedHeap h2 h'.objs.size (as.map Value.ref) out.toArray, toks := tk }
  obtain ⟨ts, rfl, tp⟩ := each_paired (F := fun t q => ∃ j : Nat, as[j]? = some t ∧ ps[j]? = some q) (fun v q h => by
    obtain ⟨j, t, e1, e2, e3⟩ := h
    exact ⟨t, e1, j, e2, e3⟩) oe
  have kF : ∀ b o, b ≠ h'.objs.size → h2.get? b = some o → (sortedHeap h2 h'.objs.size (as.map Value.ref) (ts.map Value.ref).toArray).get? b = some o :=
    fun b o hb e => (PyProof.Rows.sortedHeap_old hb (Heap.lt_size e)).trans e
  have kS : ∀ b o, s.heap.get? b = some o → (sortedHeap h2 h'.objs.size (as.map Value.ref) (ts.map Value.ref).toArray).get? b = some o :=
    fun b o e => kF b o (ne0 _ _ (hk b o e)) (kb b o e)
  obtain ⟨eF, heF⟩ := PyProof.Rows.sortedHeap_at (vs := as.map Value.ref) (out := (ts.map Value.ref).toArray) hob
  generalize sortedHeap h2 h'.objs.size (as.map Value.ref) (ts.map Value.ref).toArray = hF at kF kS heF ⊢
  have I1 : Inv X pins σ H { s with heap := hF, toks := tk } := I.kept (t' := tk) kS
  have hn0 : H h'.objs.size = none := I.hok.fresh (Nat.le_of_lt hlt)
  have tl : ts.length = ps.length := by
    rw [← ol, List.length_map]
  have I2 : Inv X pins σ (upd H h'.objs.size (.lst (ts.map V.ref))) { s with heap := hF, toks := tk } :=
    I1.take (h' := hF) (t' := tk) (fun b ob _ e => e) (I.fpOk (Nat.le_of_lt hlt) hn0) ⟨by rw [List.length_map]; omega, ts.map Value.ref, eF, vals_refs ts, heF⟩
  obtain ⟨H2, I3, g, qt⟩ := L2.DX.takeT (P := fun b vs => ∃ (j : Nat) (q : Int × Int), as[j]? = some b ∧ ps[j]? = some q ∧ vs = [.int q.1, .int q.2]) I as _ I2 nd fun b hb => by
    obtain ⟨j, hj⟩ := List.mem_iff_getElem?.mp hb
    obtain ⟨q, t1, t2, e1, e2⟩ := pr j b hj
    have old : s.heap.objs.size ≤ b := Nat.le_of_lt (hG.above b hb)
    refine ⟨old, ?_, [.int q.1, .int q.2], ⟨j, q, hj, e1, rfl⟩, fun H3 => ⟨by show 2 ≤ sizeLine; decide, [Value.int q.1 t1, Value.int q.2 t2], .cons ⟨_, rfl⟩ (.cons ⟨_, rfl⟩ .nil), ⟨_, kF _ _ (ne0 _ _ e2) (ka _ _ e2), rfl, 0, rfl⟩⟩⟩
    rw [upd_ne (ne0 _ _ e2)]
    exact I.hok.fresh old
  refine ⟨.ref h'.objs.size, H2, I3, rfl, q H2 h'.objs.size ts (fun b o e => g b o (by rw [upd_ne (ne_of_none e hn0)]; exact e)) hn0 (g _ _ upd_same) ?_⟩
  refine Paired.mapP tp fun t q h => ?_
  obtain ⟨j, j1, j2⟩ := h
  obtain ⟨vs', ⟨i, q', i1, i2, ev⟩, hH⟩ := qt t (List.mem_of_getElem? j1)
  have eij : i = j := (List.getElem?_inj (List.getElem?_eq_some_iff.mp i1).1 nd).mp (i1.trans j1.symm)
  subst eij
  obtain rfl : q' = q := Option.some.inj (i2.symm.trans j2)
  rw [ev] at hH
  exact hH
def tSortItems (te : TE) : TE := fun σ H Q => te σ H fun x H1 => rSortItI x H1 Q
variable {e : Expr} {te : TE} {p apos cpos pos : Pos}
theorem pe_sortItems (hc : X.calm = true) (hu : X.A.units + 64 < cLine) (he : PE X e te) (hg : Gl X "sorted") (hm : X.mg "sorted" = none)
    (hv : bootBuiltins "sorted" = some (.builtin "sorted"))
    (hbase : attributeBase e "items" X.env (eval e X.env) = eval e X.env := by rfl) (hline : (apos.endLine == cpos.line) = true := by rfl)
    (hs : starEach [.Call (.Attribute e "items" apos) [] [] cpos] X.env = (false, eval (.Call (.Attribute e "items" apos) [] [] cpos) X.env) :: starEach [] X.env := by rfl) :
    PE X (.Call (.Name "sorted" p) [.Call (.Attribute e "items" apos) [] [] cpos] [] pos) (tSortItems te) := by
  refine ⟨fun pins s σ H Q I hq => ?_⟩
  refine wpAny_Call_Name_kw (ld_blt I hg hm hv ?_)
  refine PyProof.Rows.callWith_builtin1 ?_ hs rfl
  rw [hs]
  show wpAny _ _ (spliced ((false, eval (.Call (.Attribute e "items" apos) [] [] cpos) X.env) :: backTo pos (starEach [] X.env))) _ _ s
  refine Calls.spliced_cons ?_
  refine wpAny_Call_method (T := "dict") (id := "dict.items") hbase rfl hline F.plainAttrs_dict F.slot_dict_items F.type_dict_items
    (thn (he.run pins s σ H _ I hq) fun u s1 ⟨x, H1, I1, rx, d, ps, ex, hd, q⟩ => ?_)
  subst ex
  obtain rfl : u = Value.ref d := rx
  obtain ⟨hz, hs0, vs, kv, hdo⟩ := I1.hok d _ hd
  have I2 : Inv X pins σ H1 { s1 with heap := s1.heap.push { cls := .type "dict_items", data := .fields #[.ref d] } } :=
    I1.kept (t' := s1.toks) fun b ob z => Heap.get?_push_of_some _ z
  refine ⟨hdo.typeIs, hdo.mapOf.noDict, ?_⟩
  show wpAny _ _ (callWith cpos (.builtin "dict.items") [.ref d] [] []) _ X.xe s1
  refine method_meetsIn F.slot_dict_items F.entry_dict_items rfl (PySem.evalArgs_none ⟨rfl, hdo.typeIs, F.args_dict_items_1 _, _, meets_dict_items (mixKind X.prog X.w) d hs0, ⟨vs, hdo⟩, ?_⟩)
  refine Calls.spliced_nil ?_
  exact sort_items_run I2 (I1.ok.hd hc) hu hd ⟨_, Heap.get?_push_size _ rfl, rfl, rfl⟩ q
end
end Gc

/-! match over written texts, with a last case for the rest -/
namespace Gc
open PySem L2
/-- what is wanted of the cases, by the subject's value -/
abbrev TM := V → TS
structure MC (X : Cx) (cs : List MatchCase) (t : TM) : Prop where
  run : ∀ (first : Bool) (pins : List (Addr × Obj)) (s : Shared) (σ : L2.St) (H : Hp) (D : Ends) (x : V) (v : Value),
    Inv X pins σ H s → RelV x v → t x D σ H →
    wpAny (model X.prog X.w) X.A (matchCases cs X.env v first) (fun f s' => SP X pins D f s') X.xe s
def mNil : TM := fun _ D σ H => D.nx σ H
/-- case 'z': .. -/
def mStr (z : Str) (tb : TS) (r : TM) : TM := fun x D σ H => ∃ y, x = .str y ∧ if decide (y = z) = true then tb D σ H else r x D σ H
/-- case _: .. -/
def mAny (tb : TS) : TM := fun _ D σ H => tb D σ H
section
variable {X : Cx} {rest : List MatchCase} {body : List Stmt} {tb : TS} {r : TM} {z : Str} {k : Nat} {p1 p2 pos : Pos} {e : Expr} {te : TE}
theorem mc_nil : MC X [] mNil := ⟨fun _ pins s σ H D x v I _ h => wpAny_matchCases_nil ⟨σ, H, I, h⟩⟩
theorem mc_str (hb : PSs X body tb) (hr : MC X rest r) :
    MC X (⟨.MatchValue (.Constant (.str z) k p1) p2, none, body⟩ :: rest) (mStr z tb r) := by
  refine ⟨fun first pins s σ H D x v I rx h => ?_⟩
  obtain ⟨y, rfl, h⟩ := h
  refine wpAny_matchCases_cons (wpAny_matchPattern_Value ?_)
  have hq : PE X (.Constant (.str z) k p1) (tC (.str z)) := pe_str
  refine wpAny_mono (hq.run pins s σ H (fun w H' => w = .str z ∧ H' = H) I ⟨rfl, rfl⟩) (fun u s1 hu => ?_) fun _ _ q => q
  obtain ⟨w, H1, I1, rw1, rfl, rfl⟩ := hu
  refine wpAny_mono ((op_eq (X := X)) pins s1 σ _ (.str y) (.str z) v u (fun w H' => w = .bl (decide (y = z)) ∧ H' = _) I1 rx rw1 ⟨rfl, ?_, rfl⟩) (fun c s2 hc => ?_) fun _ _ q => q
  · by_cases q : y = z
    · subst q
      rw [decide_eq_true (Eq.refl _), decide_eq_true (Eq.refl _)]
    · rw [decide_eq_false q, decide_eq_false fun e => q (V.str.inj e)]
  · obtain ⟨w, H2, I2, rw2, rfl, rfl⟩ := hc
    obtain rfl : c = Value.bool (decide (y = z)) := rw2
    refine wpAny_pure ?_
    by_cases q : y = z
    · rw [decide_eq_true q] at h ⊢
      show wpAny _ _ (assignInOrder [] []) _ _ _
      refine wpAny_assignInOrder_none ?_
      exact hb.run pins s2 σ _ D I2 h
    · rw [decide_eq_false q] at h ⊢
      exact hr.run false pins s2 σ _ D (.str y) v I2 rx h
theorem mc_any (hb : PSs X body tb) : MC X (⟨.MatchAs none none p2, none, body⟩ :: rest) (mAny tb) := by
  refine ⟨fun first pins s σ H D x v I rx h => ?_⟩
  refine wpAny_matchCases_cons (wpAny_matchPattern_Capture ?_)
  show wpAny _ _ (assignInOrder [] []) _ _ _
  exact wpAny_assignInOrder_none (hb.run pins s σ H D I h)
def tMatch (te : TE) (t : TM) : TS := fun D σ H => te σ H fun x H1 => t x D σ H1
theorem ps_match {cs : List MatchCase} {t : TM} (he : PE X e te) (hc : MC X cs t) : PS X (.Match e cs pos) (tMatch te t) := by
  refine ⟨fun pins s σ H D I h => ?_⟩
  refine wpAny_Match (wpAny_mono (he.run pins s σ H _ I h) (fun v s1 hv => ?_) fun _ _ q => q)
  obtain ⟨x, H1, I1, rx, q⟩ := hv
  exact hc.run true pins s1 σ H1 D x v I1 rx q
end
end Gc

namespace Gc
open PySem PyProof.Rows L2
/-! ### heaps: all that stood but at two places -/
def Keep (a d : Addr) (H H' : Hp) : Prop := ∀ b o, b ≠ a → b ≠ d → H b = some o → H' b = some o
theorem Keep.refl {a d : Addr} (H : Hp) : Keep a d H H := fun _ _ _ _ h => h
theorem Keep.trans {a d : Addr} {H H1 H2 : Hp} (x : Keep a d H H1) (y : Keep a d H1 H2) : Keep a d H H2 := fun b o h1 h2 h => y b o h1 h2 (x b o h1 h2 h)
theorem Keep.of {a d : Addr} {H H' : Hp} (e : Same H H') : Keep a d H H' := fun b o _ _ h => e b o h
theorem same_upd {H H' : Hp} {p : Addr} {o : HO} (e : Same H H') (h : H' p = none) : Same H (upd H' p o) := fun b u hb => by
  rw [upd_ne (ne_of_none (e b u hb) h)]
  exact e b u hb
theorem Keep.upd1 {a d : Addr} {H H' : Hp} {o : HO} (e : Keep a d H H') : Keep a d H (upd H' a o) := fun b u h1 h2 h => by
  rw [upd_ne h1]
  exact e b u h1 h2 h
theorem Keep.upd2 {a d : Addr} {H H' : Hp} {o : HO} (e : Keep a d H H') : Keep a d H (upd H' d o) := fun b u h1 h2 h => by
  rw [upd_ne h2]
  exact e b u h1 h2 h
theorem Keep.new {a d p : Addr} {H H' : Hp} {o : HO} (e : Keep a d H H') (h : H' p = none) : Keep a d H (upd H' p o) := fun b u h1 h2 hb => by
  rw [upd_ne (ne_of_none (e b u h1 h2 hb) h)]
  exact e b u h1 h2 hb

theorem cpow {i j : Int} (h : (decide (0 ≤ j) && (decide (j ≤ 1000000) && decide (i.natAbs < 2 ^ 64))) = true) : CPow i j := by
  rw [Bool.and_eq_true, Bool.and_eq_true] at h
  exact ⟨of_decide_eq_true h.1, of_decide_eq_true h.2.1, of_decide_eq_true h.2.2⟩
theorem pow_small {x : Int} {a k b : Nat} (h : x.natAbs < 2 ^ a) (hb : a * k < b) : (x ^ k).natAbs < 2 ^ b := by
  rw [Int.natAbs_pow]
  have h1 : x.natAbs ^ k ≤ (2 ^ a) ^ k := Nat.pow_le_pow_left (Nat.le_of_lt h) k
  rw [← Nat.pow_mul] at h1
  exact Nat.lt_of_le_of_lt h1 (Nat.pow_lt_pow_right (by decide) hb)
theorem int_at {ns : List Int} {i : Nat} {y : V} (h : (ns.map V.int)[i]? = some y) : ∃ u, y = V.int u := by
  rw [List.getElem?_map] at h
  cases e : ns[i]? with
  | none =>
    rw [e] at h
    cases h
  | some u =>
    rw [e] at h
    exact ⟨u, (Option.some.inj h).symm⟩
theorem dp_ints {K : PySem.W.Frag} {H : Hp} : ∀ ns : List Int, DpAll K H (ns.map V.int) (ns.map PyData.int)
  | [] => .nil
  | x :: r => .cons (.int x) (dp_ints r)
/-- a def that is called by its name and lets nothing out -/
structure Cal (P : Program) (w : World) (K : PySem.W.Frag) (mg : Str → Option Value) (base : Heap) (k : Nat) (x : Str) (sp : Sp) : Prop where
  ex : ∃ (f : Addr) (fd : FuncData) (ps : List Str), FnOk P w K mg base CX0 k f fd ps sp ∧
    mg x = some (.ref f) ∧ PySem.W.keepIn K (.ref f) = true ∧ Binds K fd ps []
theorem pe_cal {X : Cx} {k j : Nat} {x : Str} {sp : Sp} {p pos : Pos} {e : Expr} {es : List Expr} {t : TA}
    (c : Cal X.prog X.w X.K X.mg X.base k x sp) (hr : Room j X.A) (hk : k ≤ j) (hg : Gl X x) (ha : PA X (e :: es) t)
    (hdb : (x == ("__debug__" : Str)) = false := by decide)
    (he : starEach (e :: es) X.env = (false, eval e X.env) :: starEach es X.env := by rfl)
    (hpl : (backTo pos (starEach es X.env)).any (·.1) = false := by rfl) :
    PE X (.Call (.Name x p) (e :: es) [] pos) (tCall sp [] E0 t) := by
  obtain ⟨f, fd, ps, F, hm, kp, b⟩ := c.ex
  exact pe_call F (hr.mono hk) hg hm kp b .nil pass0 ha hdb he hpl

/-! ### data carried along -/
theorem seq_t {K : PySem.W.Frag} {H H' : Hp} {a : Addr} {xs : List V} (e : Same H H') (h : SqT K H a xs) : SqT K H' a xs := by
  rcases h with (h | ⟨o, h⟩) | h
  · exact .inl (.inl (e _ _ h))
  · exact .inl (.inr ⟨o, e _ _ h⟩)
  · exact .inr h
mutual
theorem dp_same {K : PySem.W.Frag} {H H' : Hp} (e : Same H H') : ∀ (d : PyData) (v : V), Dp K H v d → Dp K H' v d
  | .none, _, h => by cases h; exact .non
  | .bool b, _, h => by cases h; exact .bl b
  | .int i, _, h => by cases h; exact .int i
  | .str x, _, h => by cases h; exact .str x
  | .list ds, _, h => by
    cases h with
    | lst q r => exact .lst (e.seq q) (dps_same e ds _ r)
  | .tuple ds, _, h => by
    cases h with
    | tup q r => exact .tup (seq_t e q) (dps_same e ds _ r)
  | .dict _, _, h => by cases h
theorem dps_same {K : PySem.W.Frag} {H H' : Hp} (e : Same H H') : ∀ (ds : List PyData) (vs : List V), DpAll K H vs ds → DpAll K H' vs ds
  | [], _, h => by cases h; exact .nil
  | d :: ds, _, h => by
    cases h with
    | cons a b => exact .cons (dp_same e d _ a) (dps_same e ds _ b)
end
theorem dps_len {K : PySem.W.Frag} {H : Hp} : ∀ {vs : List V} {ds : List PyData}, DpAll K H vs ds → vs.length = ds.length
  | [], _, h => by cases h; rfl
  | _ :: vs, _, h => by
    cases h with
    | cons a b => rw [List.length_cons, List.length_cons, dps_len b]
theorem dps_at {K : PySem.W.Frag} {H : Hp} : ∀ {vs : List V} {ds : List PyData} {i : Nat}, DpAll K H vs ds → i < ds.length → ∃ v d, vs[i]? = some v ∧ ds[i]? = some d ∧ Dp K H v d
  | _, _, 0, h, l => by
    cases h with
    | nil => exact absurd l (by decide)
    | cons a b => exact ⟨_, _, rfl, rfl, a⟩
  | _, _, i + 1, h, l => by
    cases h with
    | nil => exact absurd l (Nat.not_lt_zero _)
    | cons a b => exact dps_at (i := i) b (Nat.lt_of_succ_lt_succ l)
theorem depth_at : ∀ {ds : List PyData} {i : Nat} {d : PyData}, ds[i]? = some d → d.depth ≤ PyData.depthAll ds
  | [], i, d, h => by simp at h
  | x :: r, 0, d, h => by
    have e : x = d := Option.some.inj h
    subst e
    simp only [PyData.depthAll]
    exact Nat.le_max_left _ _
  | x :: r, i + 1, d, h => by
    have ih := depth_at (ds := r) (i := i) (d := d) h
    simp only [PyData.depthAll]
    exact Nat.le_trans ih (Nat.le_max_right _ _)
theorem ty_l {K : PySem.W.Frag} {H : Hp} {a : Addr} {xs : List V} (h : SqL K H a xs) : TyX K H (.ref a) (.type "list") := by
  rcases h with (h | ⟨o, h⟩) | h
  · exact .base (.lst h)
  · exact .base (.frz h)
  · obtain ⟨o, its, n, e, c, _⟩ := h
    exact .kList e c
theorem ty_t {K : PySem.W.Frag} {H : Hp} {a : Addr} {xs : List V} (h : SqT K H a xs) : TyX K H (.ref a) (.type "tuple") := by
  rcases h with (h | ⟨o, h⟩) | h
  · exact .base (.tup h)
  · exact .fTuple h
  · obtain ⟨o, its, n, e, c, _⟩ := h
    exact .kTuple e c
theorem isi_q {K : PySem.W.Frag} {H : Hp} {x : V} {t n : String} {b : Bool} {Q : VK} (ty : TyX K H x (.type t)) (k : kitB t n = some b) (q : Q (.bl b) H) : rIsi K [x, .ty n] H Q :=
  ⟨x, .ty n, .type t, .type n, b, rfl, .ty n, ty, kit_ty k, q⟩
theorem log9 {x : Int} {a : Nat} (h : x.natAbs < 2 ^ a) (ha : a < 9000) : x.natAbs.log2 < 9000 :=
  Nat.lt_of_le_of_lt (Nat.le_of_lt_succ (PySem.Flt.log2_lt_of (k := a + 1) (Nat.succ_pos _) (Nat.lt_trans h (Nat.pow_lt_pow_right (by decide) (Nat.lt_succ_self a))))) ha
/-- a power of any whole number, its size told -/
def CPowW (i j : Int) : Prop := 0 ≤ j ∧ j ≤ 64 ∧ i.natAbs.log2 < 100000
theorem op_powW {X : Cx} : OpR X (binaryOp .Pow) (rI CPowW fun i j => .int (i ^ j.toNat)) := opI fun i j _ _ _ _ _ hc q => by
  refine pow_int hc.1 ?_ q
  have h1 : Builtin.Int.intBits i ≤ i.natAbs.log2 + 1 := by
    unfold Builtin.Int.intBits
    split <;> omega
  have h2 := hc.2.1
  have h3 := hc.2.2
  have h4 : (Builtin.Int.intBits i : Int) ≤ 100000 := by omega
  calc (Builtin.Int.intBits i : Int) * j ≤ 100000 * 64 := Int.mul_le_mul h4 h2 hc.1 (by decide)
    _ ≤ 2 ^ 27 := by decide
theorem cpowW {i j : Int} {a : Nat} (hj : 0 ≤ j) (hj2 : j ≤ 64) (h : i.natAbs < 2 ^ a) (ha : a < 100000) : CPowW i j :=
  ⟨hj, hj2, Nat.lt_of_le_of_lt (Nat.le_of_lt_succ (PySem.Flt.log2_lt_of (k := a + 1) (Nat.succ_pos _) (Nat.lt_trans h (Nat.pow_lt_pow_right (by decide) (Nat.lt_succ_self a))))) ha⟩
def rLenQ (K : PySem.W.Frag) : List V → Hp → VK → Prop := fun xs H Q => ∃ p ys, xs = [.ref p] ∧ (SqL K H p ys ∨ SqT K H p ys) ∧ Q (.int ys.length) H
end Gc

namespace Gc
open PySem PyProof.Rows L2
/-! ### commands as tuples -/
def encC : Cmd → List V
  | .down n => [.str "down", .int n]
  | .up n => [.str "up", .int n]
  | .right n => [.str "right", .int n]
  | .left n => [.str "left", .int n]
  | .home => [.str "home"]
  | .stop => [.str "end"]
def CmdAt (K : PySem.W.Frag) (H : Hp) (v : V) (c : Cmd) : Prop := ∃ a, v = .ref a ∧ SqT K H a (encC c)
def CmdsOf (K : PySem.W.Frag) (H : Hp) (xs : List V) (cs : List Cmd) : Prop := Paired (CmdAt K H) xs cs
theorem CmdAt.same {K : PySem.W.Frag} {H H' : Hp} {v : V} {c : Cmd} (e : Same H H') (h : CmdAt K H v c) : CmdAt K H' v c := by
  obtain ⟨a, e1, h1⟩ := h
  exact ⟨a, e1, seq_t e h1⟩
theorem CmdsOf.same {K : PySem.W.Frag} {H H' : Hp} {xs : List V} {cs : List Cmd} (e : Same H H') (h : CmdsOf K H xs cs) : CmdsOf K H' xs cs := Paired.mapP h fun _ _ q => q.same e
theorem CmdsOf.len {K : PySem.W.Frag} {H : Hp} {xs : List V} {cs : List Cmd} (h : CmdsOf K H xs cs) : xs.length = cs.length := Paired.length h
theorem paired_at {α β : Type} {F : α → β → Prop} : ∀ {xs : List α} {ys : List β} {i : Nat} {x : α}, Paired F xs ys → xs[i]? = some x → ∃ y, ys[i]? = some y ∧ F x y
  | _, _, _, _, .nil, h => by simp at h
  | _, _, 0, x, .cons f _, h => by
    obtain rfl := Option.some.inj h
    exact ⟨_, rfl, f⟩
  | _, _, i + 1, x, .cons _ t, h => paired_at (i := i) t h
/-! ### dicts of ints by ints -/
theorem valV_dkI : ∀ (b : Ps) (k : Int), valV (dkI b) (Sum.inl k : L2.Key) = (look b k).map V.int
  | [], k => rfl
  | q :: b, k => by
    show valV (((Sum.inl q.1 : L2.Key), V.int q.2) :: dkI b) (Sum.inl k : L2.Key) = _
    rw [look_cons]
    by_cases h : q.1 = k
    · rw [if_pos h, valV_pos (by show (Sum.inl q.1 : L2.Key) = Sum.inl k; rw [h])]
      rfl
    · rw [if_neg h, valV_neg (by intro z; exact h (Sum.inl.inj z))]
      exact valV_dkI b k
theorem putK_dkI (b : Ps) (k v : Int) : putK (dkI b) (Sum.inl k : L2.Key) (V.int v) = dkI (put b k v) := by
  have ea : ((dkI b).any fun kv => decide (kv.1 = (Sum.inl k : L2.Key))) = b.any fun q => decide (q.1 = k) := by
    unfold dkI
    rw [List.any_map]
    congr 1
    funext q
    show decide ((Sum.inl q.1 : L2.Key) = Sum.inl k) = decide (q.1 = k)
    exact decide_eq_decide.mpr ⟨Sum.inl.inj, fun h => by rw [h]⟩
  unfold putK put
  rw [ea]
  by_cases h : (b.any fun q => decide (q.1 = k)) = true
  · rw [if_pos h, if_pos h]
    unfold dkI
    rw [List.map_map, List.map_map]
    refine List.map_congr_left fun q _ => ?_
    show (if (Sum.inl q.1 : L2.Key) = Sum.inl k then ((Sum.inl q.1 : L2.Key), V.int v) else (Sum.inl q.1, V.int q.2)) = (Sum.inl (if q.1 = k then (q.1, v) else q).1, V.int (if q.1 = k then (q.1, v) else q).2)
    by_cases e : q.1 = k
    · rw [if_pos e, if_pos (by rw [e])]
    · rw [if_neg e, if_neg fun z => e (Sum.inl.inj z)]
  · rw [if_neg h, if_neg h]
    unfold dkI
    rw [List.map_append]
    rfl
theorem put_len (b : Ps) (k v : Int) : (put b k v).length ≤ b.length + 1 := by
  unfold put
  split
  · rw [List.length_map]
    exact Nat.le_succ _
  · rw [List.length_append]
    exact Nat.le_refl _
theorem req_len (b : Ps) (o v : Int) : (req b o v).length ≤ b.length + 1 := put_len b o _
end Gc

/-! heaps, lengths of boxes, dicts out of pairs -/
namespace Gc
open PySem L2
theorem same_freeU {H H' : Hp} {d : Addr} {o : HO} (e : Same H H') (h : H d = none) : Same H (upd H' d o) := fun b u hb => by
  rw [upd_ne (ne_of_none hb h)]
  exact e b u hb
theorem go_len : ∀ {r : List Cmd} {off need : Int} {b : Ps} {st : Option Int} {b' : Ps}, go r off need b = some (st, b') → b'.length ≤ b.length + r.length
  | [], _, _, b, _, _, h => by cases h; exact Nat.le_refl _
  | .home :: r, _, _, b, _, _, h => by cases h
  | .stop :: r, _, _, b, _, _, h => by cases h; exact Nat.le_add_right _ _
  | .right n :: r, off, need, b, st, b', h => by
    have q := req_len b off need
    rw [List.length_cons]
    simp only [go] at h
    split at h
    · have := go_len h
      omega
    · cases h
      omega
  | .left n :: r, off, need, b, st, b', h => by
    have q := req_len b off (need + n)
    rw [List.length_cons]
    simp only [go] at h
    have := go_len h
    omega
  | .down n :: r, off, need, b, st, b', h => by
    rw [List.length_cons]
    simp only [go] at h
    have := go_len h
    omega
  | .up n :: r, off, need, b, st, b', h => by
    rw [List.length_cons]
    simp only [go] at h
    have := go_len h
    omega
theorem box_len {cs : List Cmd} {goal : Int} {st : Option Int} {L : Ps} (h : boxM cs goal = some (st, L)) : L.length ≤ cs.length := by
  unfold boxM at h
  cases e : go cs.reverse (last cs) goal [] with
  | none =>
    rw [e] at h
    cases h
  | some x =>
    rw [e] at h
    obtain ⟨st', b'⟩ := x
    have q := go_len e
    have h' : (st', b'.mergeSort leK) = (st, L) := Option.some.inj h
    cases h'
    rw [List.length_mergeSort]
    rw [List.length_reverse, List.length_nil] at q
    omega
theorem merge_dkI : ∀ (b acc : Ps), (keys acc ++ keys b).Nodup → mergeK (dkI acc) (dkI b) = dkI (acc ++ b)
  | [], acc, _ => by rw [List.append_nil]; rfl
  | q :: b, acc, h => by
    have nq : q.1 ∉ keys acc := fun z => by
      have := (List.nodup_append.mp h).2.2 q.1 z q.1 List.mem_cons_self
      exact this rfl
    show mergeK (putK (dkI acc) (Sum.inl q.1 : L2.Key) (.int q.2)) (dkI b) = _
    rw [putK_dkI]
    have e : put acc q.1 q.2 = acc ++ [q] := by
      unfold put
      rw [if_neg fun z => nq ((any_key acc q.1).mp z)]
    rw [e, merge_dkI b (acc ++ [q]) (by
      have e2 : keys (acc ++ [q]) ++ keys b = keys acc ++ keys (q :: b) := by
        unfold keys
        simp
      rw [e2]
      exact h), List.append_assoc]
    rfl
theorem paired_dkI {K : PySem.W.Frag} {H : Hp} : ∀ {ps : List Addr} {qs : Ps}, Paired (fun (p : Addr) (q : Int × Int) => H p = some (.tup [.int q.1, .int q.2])) ps qs → Paired (fun (p : Addr) (kv : L2.Key × V) => SqT K H p [kV kv.1, kv.2]) ps (dkI qs)
  | _, _, .nil => .nil
  | _, _, .cons h t => .cons (SqT.of h) (paired_dkI t)
theorem ref_at {ts : List Addr} {i : Nat} {x : V} (h : (ts.map V.ref)[i]? = some x) : ∃ t, ts[i]? = some t ∧ x = .ref t := by
  rw [List.getElem?_map] at h
  cases e : ts[i]? with
  | none =>
    rw [e] at h
    cases h
  | some t =>
    rw [e] at h
    exact ⟨t, rfl, (Option.some.inj h).symm⟩
theorem dki_len (b : Ps) : (dkI b).length = b.length := List.length_map ..
end Gc

/-! what repr wants of the data that the laws show -/
namespace Gc
open PySem PySem.Spec PyProof.Rows L2
def Sml (x : Int) : Prop := x.natAbs < 2 ^ 120
theorem sml_log {x : Int} (h : Sml x) : x.natAbs.log2 < 121 := Nat.lt_of_lt_of_le (PySem.Flt.log2_lt_of (k := 121) (by decide) (Nat.lt_trans h (by decide))) (Nat.le_refl _)
theorem sml_show {x : Int} (h : Sml x) : (PyData.int x).showable = true := by
  have := sml_log h
  simp only [PyData.showable, decide_eq_true_eq]
  omega
theorem sml_short {x : Int} (h : Sml x) : (PyData.int x).leavesShort 130 = true := by
  have e := int_text_length_le (k := 121) (by decide) (sml_log h)
  have e' : (PyData.shown (.int x)).length ≤ 130 := by
    have e2 : (PyData.shown (.int x)).length = (toString x).length := by
      show (Str.ofString (toString x)).length = _
      rw [PySem.ofString_length]
    omega
  simpa only [PyData.leavesShort, decide_eq_true_eq] using e'
theorem sml_weight {x : Int} (h : Sml x) : (PyData.int x).weight ≤ 122 := by
  have := sml_log h
  simp only [PyData.weight]
  split <;> omega
def Ok0 (d : PyData) : Prop := d.showable = true ∧ d.hasDict = false ∧ d.leavesShort 130 = true
def Ok0s (ds : List PyData) : Prop := PyData.showableAll ds = true ∧ PyData.hasDictAll ds = false ∧ PyData.leavesShortAll 130 ds = true
theorem ok0_int {x : Int} (h : Sml x) : Ok0 (.int x) := ⟨sml_show h, by simp only [PyData.hasDict], sml_short h⟩
theorem ok0_nil : Ok0s [] := ⟨by simp only [PyData.showableAll], by simp only [PyData.hasDictAll], by simp only [PyData.leavesShortAll]⟩
theorem ok0_cons {d : PyData} {ds : List PyData} (h : Ok0 d) (t : Ok0s ds) : Ok0s (d :: ds) := by
  obtain ⟨a1, a2, a3⟩ := h
  obtain ⟨b1, b2, b3⟩ := t
  refine ⟨?_, ?_, ?_⟩
  · simp only [PyData.showableAll, a1, b1, Bool.and_self]
  · simp only [PyData.hasDictAll, a2, b2, Bool.or_self]
  · simp only [PyData.leavesShortAll, a3, b3, Bool.and_self]
theorem ok0_list {ds : List PyData} (h : Ok0s ds) : Ok0 (.list ds) := by
  obtain ⟨b1, b2, b3⟩ := h
  refine ⟨?_, ?_, ?_⟩
  · simpa only [PyData.showable] using b1
  · simpa only [PyData.hasDict] using b2
  · simpa only [PyData.leavesShort] using b3
theorem ok0_tup {ds : List PyData} (h : Ok0s ds) : Ok0 (.tuple ds) := by
  obtain ⟨b1, b2, b3⟩ := h
  refine ⟨?_, ?_, ?_⟩
  · simpa only [PyData.showable] using b1
  · simpa only [PyData.hasDict] using b2
  · simpa only [PyData.leavesShort] using b3
theorem ok0_len {d : PyData} (h : Ok0 d) (w : d.weight ≤ 100000) : d.shown.length ≤ sizeLine := by
  have e := PyData.shown_le 130 (by decide) d h.2.2
  rw [sizeLine_eq]
  have : (130 + 2) * d.weight ≤ (130 + 2) * 100000 := Nat.mul_le_mul_left _ w
  omega
theorem ok0_ints : ∀ {T : List Int}, (∀ x ∈ T, Sml x) → Ok0s (T.map PyData.int)
  | [], _ => ok0_nil
  | x :: T, h => ok0_cons (ok0_int (h x List.mem_cons_self)) (ok0_ints fun y hy => h y (List.mem_cons_of_mem _ hy))
theorem weight_ints : ∀ {T : List Int}, (∀ x ∈ T, Sml x) → PyData.weightAll (T.map PyData.int) ≤ 123 * T.length
  | [], _ => by simp [PyData.weightAll]
  | x :: T, h => by
    have a := sml_weight (h x List.mem_cons_self)
    have b := weight_ints (T := T) fun y hy => h y (List.mem_cons_of_mem _ hy)
    simp only [List.map_cons, PyData.weightAll, List.length_cons]
    omega
theorem deep_ints : ∀ T : List Int, PyData.depthAll (T.map PyData.int) = 0
  | [] => by simp [PyData.depthAll]
  | x :: T => by simp [PyData.depthAll, PyData.depth, deep_ints T]
/-- a text and a cursor -/
def textD (T : List Int) (r a : Int) : PyData := .tuple [.list (T.map PyData.int), .tuple [.int r, .int a]]
theorem textD_ok {T : List Int} {r a : Int} (hT : ∀ x ∈ T, Sml x) (hr : Sml r) (ha : Sml a) (l : T.length ≤ 500) : (textD T r a).showable = true ∧ (textD T r a).hasDict = false ∧ (textD T r a).depth ≤ 60 ∧ (textD T r a).shown.length ≤ sizeLine := by
  have o : Ok0 (textD T r a) := ok0_tup (ok0_cons (ok0_list (ok0_ints hT)) (ok0_cons (ok0_tup (ok0_cons (ok0_int hr) (ok0_cons (ok0_int ha) ok0_nil))) ok0_nil))
  refine ⟨o.1, o.2.1, ?_, ok0_len o ?_⟩
  · simp only [textD, PyData.depth, PyData.depthAll, deep_ints]
    omega
  · have a1 := weight_ints hT
    have a2 := sml_weight hr
    have a3 := sml_weight ha
    simp only [PyData.weight] at a2 a3
    simp only [textD, PyData.weight, PyData.weightAll]
    omega
/-! ### commands as data -/
def cmdD : Cmd → PyData
  | .down n => .tuple [.str "down", .int n]
  | .up n => .tuple [.str "up", .int n]
  | .right n => .tuple [.str "right", .int n]
  | .left n => .tuple [.str "left", .int n]
  | .home => .tuple [.str "home"]
  | .stop => .tuple [.str "end"]
theorem CmdAt.dp {K : PySem.W.Frag} {H : Hp} {v : V} {c : Cmd} (h : CmdAt K H v c) : Dp K H v (cmdD c) := by
  obtain ⟨a, rfl, h⟩ := h
  cases c with
  | down n => exact .tup h (.cons (.str _) (.cons (.int n) .nil))
  | up n => exact .tup h (.cons (.str _) (.cons (.int n) .nil))
  | right n => exact .tup h (.cons (.str _) (.cons (.int n) .nil))
  | left n => exact .tup h (.cons (.str _) (.cons (.int n) .nil))
  | home => exact .tup h (.cons (.str _) .nil)
  | stop => exact .tup h (.cons (.str _) .nil)
theorem CmdsOf.dp {K : PySem.W.Frag} {H : Hp} : ∀ {xs : List V} {cs : List Cmd}, CmdsOf K H xs cs → DpAll K H xs (cs.map cmdD)
  | _, _, .nil => .nil
  | _, _, .cons h t => .cons h.dp (CmdsOf.dp t)
def CSml : Cmd → Prop
  | .down n => Sml n
  | .up n => Sml n
  | .right n => Sml n
  | .left n => Sml n
  | _ => True
theorem ok0_str {x : Str} (h : (PyData.str x).leavesShort 130 = true) : Ok0 (.str x) := ⟨by simp only [PyData.showable], by simp only [PyData.hasDict], h⟩
theorem cmdD_ok {c : Cmd} (h : CSml c) : Ok0 (cmdD c) ∧ (cmdD c).weight ≤ 200 ∧ (cmdD c).depth ≤ 5 := by
  cases c with
  | down n =>
    have w := sml_weight h
    refine ⟨ok0_tup (ok0_cons (ok0_str (by decide +kernel)) (ok0_cons (ok0_int h) ok0_nil)), ?_, by simp [cmdD, PyData.depth, PyData.depthAll]⟩
    have e : (PyData.str "down").weight = 4 := by decide +kernel
    simp only [cmdD, PyData.weight, PyData.weightAll] at w e ⊢
    omega
  | up n =>
    have w := sml_weight h
    refine ⟨ok0_tup (ok0_cons (ok0_str (by decide +kernel)) (ok0_cons (ok0_int h) ok0_nil)), ?_, by simp [cmdD, PyData.depth, PyData.depthAll]⟩
    have e : (PyData.str "up").weight = 2 := by decide +kernel
    simp only [cmdD, PyData.weight, PyData.weightAll] at w e ⊢
    omega
  | right n =>
    have w := sml_weight h
    refine ⟨ok0_tup (ok0_cons (ok0_str (by decide +kernel)) (ok0_cons (ok0_int h) ok0_nil)), ?_, by simp [cmdD, PyData.depth, PyData.depthAll]⟩
    have e : (PyData.str "right").weight = 5 := by decide +kernel
    simp only [cmdD, PyData.weight, PyData.weightAll] at w e ⊢
    omega
  | left n =>
    have w := sml_weight h
    refine ⟨ok0_tup (ok0_cons (ok0_str (by decide +kernel)) (ok0_cons (ok0_int h) ok0_nil)), ?_, by simp [cmdD, PyData.depth, PyData.depthAll]⟩
    have e : (PyData.str "left").weight = 4 := by decide +kernel
    simp only [cmdD, PyData.weight, PyData.weightAll] at w e ⊢
    omega
  | home => exact ⟨ok0_tup (ok0_cons (ok0_str (by decide +kernel)) ok0_nil), by decide +kernel, by simp [cmdD, PyData.depth, PyData.depthAll]⟩
  | stop => exact ⟨ok0_tup (ok0_cons (ok0_str (by decide +kernel)) ok0_nil), by decide +kernel, by simp [cmdD, PyData.depth, PyData.depthAll]⟩
theorem cmds_ok0 : ∀ {cs : List Cmd}, (∀ c ∈ cs, CSml c) → Ok0s (cs.map cmdD) ∧ PyData.weightAll (cs.map cmdD) ≤ 201 * cs.length ∧ PyData.depthAll (cs.map cmdD) ≤ 5
  | [], _ => ⟨ok0_nil, by simp [PyData.weightAll], by simp [PyData.depthAll]⟩
  | c :: cs, h => by
    obtain ⟨a1, a2, a3⟩ := cmdD_ok (h c List.mem_cons_self)
    obtain ⟨b1, b2, b3⟩ := cmds_ok0 (cs := cs) fun d hd => h d (List.mem_cons_of_mem _ hd)
    refine ⟨ok0_cons a1 b1, ?_, ?_⟩
    · simp only [List.map_cons, PyData.weightAll, List.length_cons]
      omega
    · simp only [List.map_cons, PyData.depthAll]
      omega
theorem cmds_ok {cs : List Cmd} (h : ∀ c ∈ cs, CSml c) (l : cs.length ≤ 300) : (PyData.list (cs.map cmdD)).showable = true ∧ (PyData.list (cs.map cmdD)).hasDict = false ∧ (PyData.list (cs.map cmdD)).depth ≤ 60 ∧ (PyData.list (cs.map cmdD)).shown.length ≤ sizeLine := by
  obtain ⟨a1, a2, a3⟩ := cmds_ok0 h
  have o := ok0_list a1
  refine ⟨o.1, o.2.1, ?_, ok0_len o ?_⟩
  · simp only [PyData.depth]
    omega
  · simp only [PyData.weight]
    omega
/-! ### boxes as data -/
def optD : Option Int → PyData
  | none => .none
  | some n => .int n
def pairD (q : Int × Int) : PyData := .tuple [.int q.1, .int q.2]
def boxD : Option (Option Int × Ps) → PyData
  | none => .none
  | some x => .tuple [optD x.1, .list (x.2.map pairD)]
def BSml : Option (Option Int × Ps) → Prop
  | none => True
  | some x => (∀ n, x.1 = some n → Sml n) ∧ ∀ q ∈ x.2, Sml q.1 ∧ Sml q.2
theorem ok0_none : Ok0 .none := ⟨by simp only [PyData.showable], by simp only [PyData.hasDict], by simp only [PyData.leavesShort]⟩
theorem pairs_ok0 : ∀ {L : Ps}, (∀ q ∈ L, Sml q.1 ∧ Sml q.2) → Ok0s (L.map pairD) ∧ PyData.weightAll (L.map pairD) ≤ 247 * L.length ∧ PyData.depthAll (L.map pairD) ≤ 5
  | [], _ => ⟨ok0_nil, by simp [PyData.weightAll], by simp [PyData.depthAll]⟩
  | q :: L, h => by
    obtain ⟨a, b⟩ := h q List.mem_cons_self
    obtain ⟨c1, c2, c3⟩ := pairs_ok0 (L := L) fun p hp => h p (List.mem_cons_of_mem _ hp)
    have wa := sml_weight a
    have wb := sml_weight b
    refine ⟨ok0_cons (ok0_tup (ok0_cons (ok0_int a) (ok0_cons (ok0_int b) ok0_nil))) c1, ?_, ?_⟩
    · simp only [PyData.weight] at wa wb
      simp only [List.map_cons, pairD, PyData.weight, PyData.weightAll, List.length_cons] at c2 ⊢
      omega
    · simp only [List.map_cons, pairD, PyData.depth, PyData.depthAll] at c3 ⊢
      omega
theorem boxD_ok0 {o : Option (Option Int × Ps)} {n : Nat} (h : BSml o) (l : ∀ x, o = some x → x.2.length ≤ n) : Ok0 (boxD o) ∧ (boxD o).weight ≤ 247 * n + 200 ∧ (boxD o).depth ≤ 10 := by
  cases o with
  | none => exact ⟨ok0_none, by simp [boxD, PyData.weight], by simp [boxD, PyData.depth]⟩
  | some x =>
    obtain ⟨st, L⟩ := x
    obtain ⟨h1, h2⟩ := h
    have h2' : ∀ q ∈ L, Sml q.1 ∧ Sml q.2 := h2
    obtain ⟨c1, c2, c3⟩ := pairs_ok0 h2'
    have ln : L.length ≤ n := l _ rfl
    have o1 : Ok0 (optD st) ∧ (optD st).weight ≤ 122 ∧ (optD st).depth = 0 := by
      cases st with
      | none => exact ⟨ok0_none, by simp [optD, PyData.weight], by simp [optD, PyData.depth]⟩
      | some n => exact ⟨ok0_int (h1 n rfl), sml_weight (h1 n rfl), by simp [optD, PyData.depth]⟩
    obtain ⟨d1, d2, d3⟩ := o1
    refine ⟨ok0_tup (ok0_cons d1 (ok0_cons (ok0_list c1) ok0_nil)), ?_, ?_⟩
    · have m : 247 * L.length ≤ 247 * n := Nat.mul_le_mul_left _ ln
      simp only [boxD, PyData.weight, PyData.weightAll]
      omega
    · simp only [boxD, PyData.depth, PyData.depthAll]
      omega
theorem boxes_ok0 {n : Nat} : ∀ {os : List (Option (Option Int × Ps))}, (∀ o ∈ os, BSml o ∧ ∀ x, o = some x → x.2.length ≤ n) → Ok0s (os.map boxD) ∧ PyData.weightAll (os.map boxD) ≤ (247 * n + 201) * os.length ∧ PyData.depthAll (os.map boxD) ≤ 10
  | [], _ => ⟨ok0_nil, by simp [PyData.weightAll], by simp [PyData.depthAll]⟩
  | o :: os, h => by
    obtain ⟨a, b⟩ := h o List.mem_cons_self
    obtain ⟨c1, c2, c3⟩ := boxD_ok0 a b
    obtain ⟨d1, d2, d3⟩ := boxes_ok0 (os := os) fun p hp => h p (List.mem_cons_of_mem _ hp)
    refine ⟨ok0_cons c1 d1, ?_, ?_⟩
    · rw [List.map_cons, List.length_cons, Nat.mul_succ]
      simp only [PyData.weightAll]
      omega
    · simp only [List.map_cons, PyData.depthAll]
      omega
/-- a list of at most ten boxes of at most thirty lines each -/
theorem boxes_ok {os : List (Option (Option Int × Ps))} (h : ∀ o ∈ os, BSml o ∧ ∀ x, o = some x → x.2.length ≤ 30) (l : os.length ≤ 10) :
    (PyData.list (os.map boxD)).showable = true ∧ (PyData.list (os.map boxD)).hasDict = false ∧ (PyData.list (os.map boxD)).depth ≤ 60 ∧ (PyData.list (os.map boxD)).shown.length ≤ sizeLine := by
  obtain ⟨a1, a2, a3⟩ := boxes_ok0 h
  have o := ok0_list a1
  refine ⟨o.1, o.2.1, ?_, ok0_len o ?_⟩
  · simp only [PyData.depth]
    omega
  · have m : (247 * 30 + 201) * os.length ≤ (247 * 30 + 201) * 10 := Nat.mul_le_mul_left _ l
    simp only [PyData.weight]
    omega
end Gc

/-! small pieces that many laws use -/
namespace Gc
open PySem L2
theorem lt_line {n : Nat} (h : n ≤ 100000) : n < sizeLine := by
  rw [sizeLine_eq]
  omega
theorem tru_seq {K : PySem.W.Frag} {H : Hp} {l : Addr} {xs : List V} (h : SqL K H l xs) : TruV K (.ref l) H (!xs.isEmpty) := .inl ⟨xs, h, rfl⟩
theorem takeS {α : Type} : ∀ {l : List α} {i : Nat} {x : α}, l[i]? = some x → l.take (i + 1) = l.take i ++ [x]
  | [], i, x, h => by simp at h
  | a :: l, 0, x, h => by
    obtain rfl := Option.some.inj h
    rfl
  | a :: l, i + 1, x, h => by
    have ih := takeS (l := l) (i := i) (x := x) h
    show a :: l.take (i + 1) = a :: l.take i ++ [x]
    rw [ih]
    rfl
theorem pairS {α β : Type} {F : α → β → Prop} : ∀ {xs : List α} {ys : List β} {x : α} {y : β}, Paired F xs ys → F x y → Paired F (xs ++ [x]) (ys ++ [y])
  | _, _, _, _, .nil, h => .cons h .nil
  | _, _, _, _, .cons f t, h => .cons f (pairS t h)
/-- a new object, told apart -/
theorem new_same {H : Hp} {p : Addr} {o : HO} (h : H p = none) : Same H (upd H p o) := fun b u hb => by
  rw [upd_ne (ne_of_none hb h)]
  exact hb
/-- a list is written; commands stand -/
theorem CmdsOf.atL {K : PySem.W.Frag} {H : Hp} {l : Addr} {ys zs : List V} {xs : List V} {cs : List Cmd} (hl : H l = some (.lst ys)) (h : CmdsOf K H xs cs) : CmdsOf K (upd H l (.lst zs)) xs cs := Paired.mapP h fun _ _ q => by
  obtain ⟨a, e1, h1⟩ := q
  refine ⟨a, e1, ?_⟩
  rcases h1 with (z | ⟨o, z⟩) | z
  · exact .inl (.inl (by rw [upd_ne (ne_of z hl (by intro q; cases q))]; exact z))
  · exact .inl (.inr ⟨o, by rw [upd_ne (ne_of z hl (by intro q; cases q))]; exact z⟩)
  · exact .inr z
end Gc
namespace Gc
open PySem L2
def nameC : Cmd → Str
  | .down _ => "down"
  | .up _ => "up"
  | .right _ => "right"
  | .left _ => "left"
  | .home => "home"
  | .stop => "end"
theorem enc_at (c : Cmd) : atI (encC c) 0 = some (.str (nameC c)) := by cases c <;> rfl
theorem getK {H : Hp} {p : Addr} {kvs : List (L2.Key × V)} {k : Str} {v : V} (h : H p = some (.dK kvs)) (e : valV kvs (.inr k : L2.Key) = some v) : DGet H p (.str k) (some v) := e ▸ DGet.k (k := .inr k) h
end Gc
namespace Gc
open PySem L2
/-! slices by places -/
theorem cutHi {xs : List V} {n : Nat} {z : Int} (e : z = (n : Int)) (h : n ≤ xs.length) : cutV xs none (some z) = xs.take n := by
  subst e
  unfold cutV
  rw [HT.sIx_none, HT.sIx_nat, List.drop_zero, Nat.sub_zero]
  congr 1
  omega
theorem cutLo {xs : List V} {n : Nat} {z : Int} (e : z = (n : Int)) : cutV xs (some z) none = xs.drop n := by
  subst e
  unfold cutV
  rw [HT.sIx_none, HT.sIx_nat]
  by_cases h : n ≤ xs.length
  · rw [Nat.min_eq_left h]
    exact List.take_of_length_le (by rw [List.length_drop]; exact Nat.le_refl _)
  · rw [Nat.min_eq_right (by omega), List.drop_eq_nil_of_le (Nat.le_refl _), List.take_nil, List.drop_eq_nil_of_le (by omega)]
theorem cutOne {xs : List V} {n m : Nat} {z y : Int} (e : z = (n : Int)) (e2 : y = (m : Int)) (hn : n ≤ xs.length) (hm : n ≤ m) : cutV xs (some z) (some y) = (xs.drop n).take (m - n) := by
  subst e e2
  unfold cutV
  rw [HT.sIx_nat, HT.sIx_nat, Nat.min_eq_left hn]
  by_cases h : m ≤ xs.length
  · rw [Nat.min_eq_left h]
  · rw [Nat.min_eq_right (by omega)]
    rw [List.take_of_length_le (l := xs.drop n) (by rw [List.length_drop]; exact Nat.le_refl _), List.take_of_length_le (by rw [List.length_drop]; omega)]
theorem paired_take {α β : Type} {F : α → β → Prop} : ∀ (n : Nat) {xs : List α} {ys : List β}, Paired F xs ys → Paired F (xs.take n) (ys.take n)
  | 0, _, _, _ => .nil
  | n + 1, _, _, .nil => .nil
  | n + 1, _, _, .cons h t => .cons h (paired_take n t)
theorem paired_drop {α β : Type} {F : α → β → Prop} : ∀ (n : Nat) {xs : List α} {ys : List β}, Paired F xs ys → Paired F (xs.drop n) (ys.drop n)
  | 0, _, _, h => h
  | n + 1, _, _, .nil => .nil
  | n + 1, _, _, .cons _ t => paired_drop n t
theorem paired_app {α β : Type} {F : α → β → Prop} : ∀ {xs xs' : List α} {ys ys' : List β}, Paired F xs ys → Paired F xs' ys' → Paired F (xs ++ xs') (ys ++ ys')
  | _, _, _, _, .nil, h => h
  | _, _, _, _, .cons h t, g => .cons h (paired_app t g)
end Gc

/-! forms: what the program reckons, over plain lists; the pieces are the boxes, gathered by runs -/
namespace Gc
/-! ### a function on the whole numbers, gathered by runs -/
section
variable {δ : Type} [DecidableEq δ]
/-- from a up to b -/
def Seg (D : Int → δ) : Int → List (Int × δ) → Int → Prop
  | a, [], b => a = b
  | a, (f, d) :: r, b => f = a ∧ ∃ c, a < c ∧ (∀ v, a ≤ v → v < c → D v = d) ∧ (∀ e, r.head? = some e → e.2 ≠ d) ∧ Seg D c r b
/-- from a on -/
def Rle (D : Int → δ) : Int → List (Int × δ) → Prop
  | _, [] => False
  | a, [(f, d)] => f = a ∧ ∀ v, a ≤ v → D v = d
  | a, (f, d) :: (g, e) :: r => f = a ∧ a < g ∧ (∀ v, a ≤ v → v < g → D v = d) ∧ d ≠ e ∧ Rle D g ((g, e) :: r)
/-- one more run, unless it only goes on -/
def addP (ps : List (Int × δ)) (p : Int × δ) : List (Int × δ) := if (ps.getLast?.map (·.2)) = some p.2 then ps else ps ++ [p]
theorem addP_nil (p : Int × δ) : addP [] p = [p] := rfl
theorem addP_cons {x y : Int × δ} {r : List (Int × δ)} (p : Int × δ) : addP (x :: y :: r) p = x :: addP (y :: r) p := by
  unfold addP
  rw [List.getLast?_cons_cons]
  split <;> rfl
theorem addP_head {x : Int × δ} {r : List (Int × δ)} (p : Int × δ) : (addP (x :: r) p).head? = some x := by
  unfold addP
  split <;> rfl
theorem Seg.le {D : Int → δ} : ∀ {ps : List (Int × δ)} {a b : Int}, Seg D a ps b → a ≤ b
  | [], _, _, h => Int.le_of_eq h
  | (_, _) :: r, _, _, h => by
    obtain ⟨_, c, h1, _, _, h2⟩ := h
    have := h2.le
    omega
theorem Seg.add {D : Int → δ} {d : δ} {c : Int} : ∀ {ps : List (Int × δ)} {a b : Int}, Seg D a ps b → b < c → (∀ v, b ≤ v → v < c → D v = d) → Seg D a (addP ps (b, d)) c
  | [], a, b, h, hc, hd => by
    have e : a = b := h
    subst e
    exact ⟨rfl, c, hc, hd, (fun _ z => nomatch z), rfl⟩
  | [(f, x)], a, b, h, hc, hd => by
    obtain ⟨h1, c0, h2, h3, _, h4⟩ := h
    have e : c0 = b := h4
    subst e
    unfold addP
    by_cases z : x = d
    · rw [if_pos (by simp [z])]
      refine ⟨h1, c, by omega, fun v v0 v1 => ?_, (fun _ z => nomatch z), rfl⟩
      by_cases q : v < c0
      · exact h3 v v0 q
      · rw [z]
        exact hd v (by omega) v1
    · rw [if_neg (by simp [z])]
      exact ⟨h1, c0, h2, h3, fun e he => by obtain rfl := Option.some.inj he; exact Ne.symm z, rfl, c, hc, hd, (fun _ z => nomatch z), rfl⟩
  | (f, x) :: y :: r, a, b, h, hc, hd => by
    obtain ⟨h1, c0, h2, h3, h4, h5⟩ := h
    rw [addP_cons]
    refine ⟨h1, c0, h2, h3, fun e he => ?_, h5.add hc hd⟩
    rw [addP_head] at he
    exact h4 e he
theorem Seg.rle {D : Int → δ} {d : δ} : ∀ {ps : List (Int × δ)} {a b : Int}, Seg D a ps b → (∀ v, b ≤ v → D v = d) → Rle D a (addP ps (b, d))
  | [], a, b, h, hd => by
    have e : a = b := h
    subst e
    exact ⟨rfl, hd⟩
  | [(f, x)], a, b, h, hd => by
    obtain ⟨h1, c0, h2, h3, _, h4⟩ := h
    have e : c0 = b := h4
    subst e
    unfold addP
    by_cases z : x = d
    · rw [if_pos (by simp [z])]
      refine ⟨h1, fun v v0 => ?_⟩
      by_cases q : v < c0
      · exact h3 v v0 q
      · rw [z]
        exact hd v (by omega)
    · rw [if_neg (by simp [z])]
      exact ⟨h1, h2, h3, z, rfl, hd⟩
  | (f, x) :: (g, y) :: r, a, b, h, hd => by
    obtain ⟨h1, c0, h2, h3, h4, h5⟩ := h
    have ih := h5.rle hd
    have g0 : g = c0 := h5.1
    subst g0
    rw [addP_cons]
    have hh := addP_head (x := (g, y)) (r := r) (b, d)
    cases e : addP ((g, y) :: r) (b, d) with
    | nil =>
      rw [e] at hh
      cases hh
    | cons z zs =>
      rw [e] at hh ih
      obtain rfl := Option.some.inj hh
      exact ⟨h1, h2, h3, Ne.symm (h4 (g, y) rfl), ih⟩
theorem Rle.head {D : Int → δ} : ∀ {ps : List (Int × δ)} {a : Int}, Rle D a ps → ∃ r, ps = (a, D a) :: r
  | [(f, d)], a, h => by
    obtain ⟨rfl, h2⟩ := h
    exact ⟨[], by rw [h2 f (Int.le_refl _)]⟩
  | (f, d) :: (g, e) :: r, a, h => by
    obtain ⟨rfl, h1, h2, _⟩ := h
    exact ⟨(g, e) :: r, by rw [h2 f (Int.le_refl _) h1]⟩
theorem Rle.one {D : Int → δ} : ∀ {ps qs : List (Int × δ)} {a : Int}, Rle D a ps → Rle D a qs → ps = qs
  | [(f, d)], [(f', d')], a, h, h' => by
    obtain ⟨rfl, h2⟩ := h
    obtain ⟨rfl, h2'⟩ := h'
    rw [← h2 f' (Int.le_refl _), ← h2' f' (Int.le_refl _)]
  | [(f, d)], (f', d') :: (g, e) :: r, a, h, h' => by
    exfalso
    obtain ⟨rfl, h2⟩ := h
    obtain ⟨rfl, h3, h4, h5, h6⟩ := h'
    obtain ⟨_, q⟩ := h6.head
    injection q with q1 q2
    injection q1 with q3 q4
    refine h5 ?_
    rw [q4, h2 g (by omega), ← h4 f' (Int.le_refl _) h3, h2 f' (Int.le_refl _)]
  | (f', d') :: (g, e) :: r, [(f, d)], a, h', h => by
    exfalso
    obtain ⟨rfl, h2⟩ := h
    obtain ⟨rfl, h3, h4, h5, h6⟩ := h'
    obtain ⟨_, q⟩ := h6.head
    injection q with q1 q2
    injection q1 with q3 q4
    refine h5 ?_
    rw [q4, h2 g (by omega), ← h4 f' (Int.le_refl _) h3, h2 f' (Int.le_refl _)]
  | (f, d) :: (g, e) :: r, (f', d') :: (g', e') :: r', a, h, h' => by
    obtain ⟨rfl, h3, h4, h5, h6⟩ := h
    obtain ⟨rfl, h3', h4', h5', h6'⟩ := h'
    have ed : d = d' := by rw [← h4 f' (Int.le_refl _) h3, ← h4' f' (Int.le_refl _) h3']
    subst ed
    obtain ⟨_, q⟩ := h6.head
    injection q with q1 q2
    injection q1 with q3 q4
    obtain ⟨_, q'⟩ := h6'.head
    injection q' with q1' q2'
    injection q1' with q3' q4'
    have eg : g = g' := by
      rcases (show g < g' ∨ g = g' ∨ g' < g by omega) with z | z | z
      · exfalso
        refine h5 ?_
        rw [q4, h4' g (by omega) z]
      · exact z
      · exfalso
        refine h5' ?_
        rw [q4', h4 g' (by omega) z]
    subst eg
    rw [Rle.one h6 h6']
theorem Rle.ne {D : Int → δ} {ps : List (Int × δ)} {a : Int} (h : Rle D a ps) : ps ≠ [] := by
  obtain ⟨r, e⟩ := h.head
  rw [e]
  simp
/-- two functions with the same runs are the same -/
theorem Rle.same {D E : Int → δ} : ∀ {ps : List (Int × δ)} {a : Int}, Rle D a ps → Rle E a ps → ∀ v, a ≤ v → D v = E v
  | [(f, d)], a, h, h', v, hv => by rw [h.2 v hv, h'.2 v hv]
  | (f, d) :: (g, e) :: r, a, h, h', v, hv => by
    obtain ⟨rfl, h3, h4, h5, h6⟩ := h
    obtain ⟨_, _, h4', _, h6'⟩ := h'
    by_cases z : v < g
    · rw [h4 v hv z, h4' v hv z]
    · exact Rle.same h6 h6' v (by omega)
theorem Rle.of {D E : Int → δ} : ∀ {ps : List (Int × δ)} {a : Int}, Rle D a ps → (∀ v, a ≤ v → D v = E v) → Rle E a ps
  | [(f, d)], a, h, e => ⟨h.1, fun v hv => by rw [← e v hv]; exact h.2 v hv⟩
  | (f, d) :: (g, y) :: r, a, h, e => by
    obtain ⟨h1, h3, h4, h5, h6⟩ := h
    exact ⟨h1, h3, fun v v0 v1 => by rw [← e v v0]; exact h4 v v0 v1, h5, Rle.of h6 fun v hv => e v (by omega)⟩
end
/-! ### the pieces -/
abbrev PData := Option Int × Option Ps
abbrev Piece := Int × PData
def sortP (b : Ps) : Ps := b.mergeSort leK
def goP : List Cmd → Int → Int → Int → Ps → List Piece → List Piece
  | [], _, added, first, lines, found => addP found (first, some added, some (sortP lines))
  | .home :: _, _, _, first, _, found => addP found (first, none, none)
  | .stop :: _, _, _, first, lines, found => addP found (first, none, some (sortP lines))
  | .right n :: r, off, added, first, lines, found =>
    if first ≤ -(added - n) then goP r off (added - n) (1 - (added - n)) (req lines off added) (addP found (first, none, some (sortP (req lines off added))))
    else goP r off (added - n) first (req lines off added) found
  | .left n :: r, off, added, first, lines, found => goP r off (added + n) first (req lines off (added + n)) found
  | .down n :: r, off, added, first, lines, found => goP r (off - n) added first lines found
  | .up n :: r, off, added, first, lines, found => goP r (off + n) added first lines found
def formM (cs : List Cmd) : List Piece := goP cs.reverse (last cs) 0 1 [] []
/-- a box, less the goal -/
def dataOf (v : Int) : Option (Option Int × Ps) → PData
  | none => (none, none)
  | some (st, L) => (st.map (· - v), some (L.map fun q => (q.1, q.2 - v)))
def shiftV (v : Int) (b : Ps) : Ps := b.map fun q => (q.1, q.2 + v)
theorem look_shiftV (v k : Int) : ∀ b : Ps, look (shiftV v b) k = (look b k).map (· + v)
  | [] => rfl
  | q :: b => by
    show look ((q.1, q.2 + v) :: shiftV v b) k = _
    rw [look_cons, look_cons]
    by_cases h : q.1 = k
    · rw [if_pos h, if_pos h]
      rfl
    · rw [if_neg h, if_neg h]
      exact look_shiftV v k b
theorem put_shiftV (v k x : Int) (b : Ps) : put (shiftV v b) k (x + v) = shiftV v (put b k x) := by
  unfold put shiftV
  rw [List.any_map]
  have e : ((fun q : Int × Int => decide (q.1 = k)) ∘ fun q : Int × Int => (q.1, q.2 + v)) = fun q : Int × Int => decide (q.1 = k) := rfl
  rw [e]
  by_cases h : (b.any fun q => decide (q.1 = k)) = true
  · rw [if_pos h, if_pos h, List.map_map, List.map_map]
    refine List.map_congr_left fun q _ => ?_
    show (if q.1 = k then (q.1, x + v) else (q.1, q.2 + v)) = _
    by_cases z : q.1 = k
    · rw [if_pos z]
      show _ = ((if q.1 = k then (q.1, x) else q).1, (if q.1 = k then (q.1, x) else q).2 + v)
      rw [if_pos z]
    · rw [if_neg z]
      show _ = ((if q.1 = k then (q.1, x) else q).1, (if q.1 = k then (q.1, x) else q).2 + v)
      rw [if_neg z]
  · rw [if_neg h, if_neg h, List.map_append]
    rfl
theorem req_shiftV (v k x : Int) (b : Ps) : req (shiftV v b) k (x + v) = shiftV v (req b k x) := by
  unfold req
  rw [look_shiftV]
  have e : mx (x + v) (((look b k).map (· + v)).getD (x + v)) = mx x ((look b k).getD x) + v := by
    cases look b k with
    | none =>
      show mx (x + v) (x + v) = mx x x + v
      unfold mx
      split <;> split <;> omega
    | some y =>
      show mx (x + v) (y + v) = mx x y + v
      unfold mx
      split <;> split <;> omega
  rw [e, put_shiftV]
theorem sort_shiftV (v : Int) (b : Ps) : sortP (shiftV v b) = shiftV v (sortP b) := by
  unfold sortP shiftV
  refine (List.map_mergeSort fun p _ q _ => ?_).symm
  unfold leK
  exact decide_eq_decide.mpr (by simp only; omega)
theorem data_some (v : Int) (st : Option Int) (b : Ps) : dataOf v ((some (st, shiftV v b)).map srt) = (st.map (· - v), some (sortP b)) := by
  have e : (sortP (shiftV v b)).map (fun q => (q.1, q.2 - v)) = sortP b := by
    rw [sort_shiftV]
    unfold shiftV
    rw [List.map_map]
    conv => rhs; rw [← List.map_id (sortP b)]
    refine List.map_congr_left fun q _ => ?_
    show (q.1, q.2 + v - v) = q
    rw [show q.2 + v - v = q.2 by omega]
  show (st.map (· - v), some ((sortP (shiftV v b)).map fun q => (q.1, q.2 - v))) = _
  rw [e]
theorem goP_rle {D : Int → PData} : ∀ (r : List Cmd) (off added first : Int) (lines : Ps) (found : List Piece), Seg D 1 found first →
    (∀ v, first ≤ v → D v = dataOf v ((go r off (added + v) (shiftV v lines)).map srt)) → Rle D 1 (goP r off added first lines found)
  | [], off, added, first, lines, found, hs, hD => by
    refine hs.rle fun v hv => ?_
    rw [hD v hv]
    show dataOf v ((some (some (added + v), shiftV v lines)).map srt) = _
    rw [data_some]
    show (some (added + v - v), _) = _
    rw [show added + v - v = added by omega]
  | .home :: r, off, added, first, lines, found, hs, hD => hs.rle fun v hv => hD v hv
  | .stop :: r, off, added, first, lines, found, hs, hD => by
    refine hs.rle fun v hv => ?_
    rw [hD v hv]
    exact data_some v none lines
  | .right n :: r, off, added, first, lines, found, hs, hD => by
    have key : ∀ v, first ≤ v → D v = dataOf v ((if added + v > n then go r off (added + v - n) (shiftV v (req lines off added)) else some (none, shiftV v (req lines off added))).map srt) := fun v hv => by
      rw [hD v hv]
      simp only [go]
      rw [req_shiftV]
    simp only [goP]
    split
    · rename_i c
      refine goP_rle r off (added - n) (1 - (added - n)) _ _ (hs.add (by omega) fun v v0 v1 => ?_) fun v hv => ?_
      · rw [key v v0, if_neg (by omega)]
        exact data_some v none _
      · rw [key v (by omega), if_pos (by omega), show added + v - n = added - n + v by omega]
    · rename_i c
      refine goP_rle r off (added - n) first _ _ hs fun v hv => ?_
      rw [key v hv, if_pos (by omega), show added + v - n = added - n + v by omega]
  | .left n :: r, off, added, first, lines, found, hs, hD => by
    refine goP_rle r off (added + n) first _ _ hs fun v hv => ?_
    rw [hD v hv]
    simp only [go]
    rw [show added + v + n = added + n + v by omega, req_shiftV]
  | .down n :: r, off, added, first, lines, found, hs, hD => by
    refine goP_rle r (off - n) added first _ _ hs fun v hv => ?_
    rw [hD v hv]
    simp only [go]
  | .up n :: r, off, added, first, lines, found, hs, hD => by
    refine goP_rle r (off + n) added first _ _ hs fun v hv => ?_
    rw [hD v hv]
    simp only [go]
/-- THE FORM IS ITS BOXES: from each piece's first value on the boxes have its data -/
theorem form_rle (cs : List Cmd) : Rle (fun v => dataOf v (boxM cs v)) 1 (formM cs) := by
  refine goP_rle cs.reverse (last cs) 0 1 [] [] rfl fun v _ => ?_
  show _ = dataOf v ((go cs.reverse (last cs) (0 + v) []).map srt)
  rw [Int.zero_add]
  rfl
theorem dataOf_inj {v : Int} : ∀ {x y : Option (Option Int × Ps)}, dataOf v x = dataOf v y → x = y
  | none, none, _ => rfl
  | none, some (_, _), h => by cases (Prod.mk.inj h).2
  | some (_, _), none, h => by cases (Prod.mk.inj h).2
  | some (st, L), some (st', L'), h => by
    obtain ⟨h1, h2⟩ := Prod.mk.inj h
    have e1 : st = st' := by
      cases st <;> cases st'
      · rfl
      · cases h1
      · cases h1
      · rename_i a b
        have z : a - v = b - v := Option.some.inj h1
        rw [show a = b by omega]
    have e2 : L = L' := by
      have z := Option.some.inj h2
      have inj : ∀ {p q : Int × Int}, (p.1, p.2 - v) = (q.1, q.2 - v) → p = q := fun {p q} e => by
        obtain ⟨e1, e2⟩ := Prod.mk.inj e
        exact Prod.ext e1 (by omega)
      exact List.map_inj_right (fun p q e => inj e) |>.mp z
    rw [e1, e2]
theorem form_eq (cs ds : List Cmd) : formM cs = formM ds ↔ ∀ v, 1 ≤ v → boxM cs v = boxM ds v := by
  constructor
  · intro h v hv
    have a := form_rle cs
    rw [h] at a
    exact dataOf_inj (a.same (form_rle ds) v hv)
  · intro h
    refine (form_rle cs).one ?_
    exact (form_rle ds).of fun v hv => by
      show dataOf v (boxM ds v) = dataOf v (boxM cs v)
      rw [h v hv]
end Gc

/-! forms in the heap, and as data -/
namespace Gc
open PySem PyProof.Rows L2
def optW : Option Int → V
  | none => .non
  | some n => .int n
def optE : Option Int → PyData
  | none => .none
  | some n => .int n
def linesD : Option Ps → PyData
  | none => .none
  | some L => .list (L.map encP)
def pdataD (d : PData) : PyData := .tuple [optE d.1, linesD d.2]
def pieceD (p : Piece) : PyData := .tuple [.int p.1, optE p.2.1, linesD p.2.2]
def reachD (x : Int × Int × Int) : PyData := .tuple [.int x.1, .int x.2.1, .int x.2.2]
def formD (x : Int × Int × Int) (ps : List Piece) : PyData := .tuple [reachD x, .list (ps.map pieceD)]
theorem dp_opt {K : PySem.W.Frag} {H : Hp} (o : Option Int) : Dp K H (optW o) (optE o) := by
  cases o with
  | none => exact .non
  | some n => exact .int n
theorem eqv_opt (a b : Option Int) : PyData.eqv (optE a) (optE b) = decide (a = b) := by
  cases a <;> cases b <;> simp [optE, PyData.eqv]
  rw [Bool.eq_iff_iff, beq_iff_eq, decide_eq_true_eq]
theorem eqv_pairs : ∀ a b : Ps, PyData.eqvAll (a.map encP) (b.map encP) = decide (a = b)
  | [], [] => by simp [PyData.eqvAll]
  | [], _ :: _ => by simp [PyData.eqvAll]
  | _ :: _, [] => by simp [PyData.eqvAll]
  | (x, y) :: a, (u, v) :: b => by
    rw [List.map_cons, List.map_cons, PyData.eqvAll, eqv_pairs a b]
    simp only [encP, PyData.eqv, PyData.eqvAll, Bool.and_true]
    rw [Bool.eq_iff_iff]
    simp
theorem eqv_lines (a b : Option Ps) : PyData.eqv (linesD a) (linesD b) = decide (a = b) := by
  cases a <;> cases b <;> simp [linesD, PyData.eqv]
  exact eqv_pairs _ _
theorem eqv_pdata (a b : PData) : PyData.eqv (pdataD a) (pdataD b) = decide (a = b) := by
  obtain ⟨a1, a2⟩ := a
  obtain ⟨b1, b2⟩ := b
  simp only [pdataD, PyData.eqv, PyData.eqvAll, Bool.and_true]
  rw [eqv_opt, eqv_lines, Bool.eq_iff_iff]
  simp
theorem eqv_pieces : ∀ a b : List Piece, PyData.eqvAll (a.map pieceD) (b.map pieceD) = decide (a = b)
  | [], [] => by simp [PyData.eqvAll]
  | [], _ :: _ => by simp [PyData.eqvAll]
  | _ :: _, [] => by simp [PyData.eqvAll]
  | (x, s, l) :: a, (u, t, m) :: b => by
    rw [List.map_cons, List.map_cons, PyData.eqvAll, eqv_pieces a b]
    simp only [pieceD, PyData.eqv, PyData.eqvAll, Bool.and_true]
    rw [eqv_opt, eqv_lines, Bool.eq_iff_iff]
    simp
theorem eqv_reach (x y : Int × Int × Int) : PyData.eqv (reachD x) (reachD y) = decide (x = y) := by
  obtain ⟨a, b, c⟩ := x
  obtain ⟨d, e, f⟩ := y
  simp only [reachD, PyData.eqv, PyData.eqvAll, Bool.and_true]
  rw [Bool.eq_iff_iff]
  simp
theorem eqv_form (x y : Int × Int × Int) (ps qs : List Piece) : PyData.eqv (formD x ps) (formD y qs) = decide (x = y ∧ ps = qs) := by
  simp only [formD, PyData.eqv, PyData.eqvAll, Bool.and_true]
  rw [eqv_reach, eqv_pieces, Bool.eq_iff_iff]
  simp
theorem lay_pairs : ∀ a : Ps, PyData.canLayAll0 (a.map encP) = true ∧ PyData.depthAll (a.map encP) ≤ 1
  | [] => by simp [PyData.canLayAll0, PyData.depthAll]
  | q :: a => by
    obtain ⟨h1, h2⟩ := lay_pairs a
    simp [PyData.canLayAll0, PyData.canLay0, encP, PyData.depthAll, PyData.depth, h1, h2]
theorem lay_opt (o : Option Int) : PyData.canLay0 (optE o) = true ∧ (optE o).depth = 0 := by
  cases o <;> simp [optE, PyData.canLay0, PyData.depth]
theorem lay_lines (o : Option Ps) : PyData.canLay0 (linesD o) = true ∧ (linesD o).depth ≤ 2 := by
  cases o with
  | none => simp [linesD, PyData.canLay0, PyData.depth]
  | some L =>
    obtain ⟨h1, h2⟩ := lay_pairs L
    simp only [linesD, PyData.canLay0, PyData.depth, h1]
    exact ⟨trivial, by omega⟩
theorem shaped_pdata (d : PData) : SeqAt.shaped (pdataD d) = true := by
  obtain ⟨h1, h2⟩ := lay_opt d.1
  obtain ⟨h3, h4⟩ := lay_lines d.2
  unfold SeqAt.shaped
  rw [decide_eq_true]
  · simp [pdataD, PyData.canLay0, PyData.canLayAll0, h1, h3]
  · simp only [pdataD, PyData.depth, PyData.depthAll, h2]
    omega
theorem lay_pieces : ∀ a : List Piece, PyData.canLayAll0 (a.map pieceD) = true ∧ PyData.depthAll (a.map pieceD) ≤ 3
  | [] => by simp [PyData.canLayAll0, PyData.depthAll]
  | p :: a => by
    obtain ⟨h1, h2⟩ := lay_pieces a
    obtain ⟨h3, h4⟩ := lay_opt p.2.1
    obtain ⟨h5, h6⟩ := lay_lines p.2.2
    simp only [List.map_cons, PyData.canLayAll0, PyData.canLay0, pieceD, PyData.depthAll, PyData.depth, h1, h3, h4, h5]
    exact ⟨by simp, by omega⟩
theorem shaped_pieces (ps : List Piece) : SeqAt.shaped (.list (ps.map pieceD)) = true := by
  obtain ⟨h1, h2⟩ := lay_pieces ps
  unfold SeqAt.shaped
  rw [decide_eq_true]
  · simp [PyData.canLay0, h1]
  · simp only [PyData.depth]
    omega
theorem shaped_reach (x : Int × Int × Int) : SeqAt.shaped (reachD x) = true := by
  unfold SeqAt.shaped
  rw [decide_eq_true] <;> simp [reachD, PyData.canLay0, PyData.canLayAll0, PyData.depth, PyData.depthAll]
theorem shaped_form (x : Int × Int × Int) (ps : List Piece) : SeqAt.shaped (formD x ps) = true := by
  obtain ⟨h1, h2⟩ := lay_pieces ps
  unfold SeqAt.shaped
  rw [decide_eq_true]
  · simp [formD, reachD, PyData.canLay0, PyData.canLayAll0, h1]
  · simp only [formD, reachD, PyData.depth, PyData.depthAll]
    omega
/-! ### in the heap -/
def PairsAt (H : Hp) (ts : List Addr) (L : Ps) : Prop := Paired (fun (t : Addr) (q : Int × Int) => H t = some (.tup [.int q.1, .int q.2])) ts L
def refO : Option Addr → V
  | none => .non
  | some l => .ref l
def LinesAt (H : Hp) : Option Addr → Option Ps → Prop
  | none, none => True
  | some l, some L => ∃ ts : List Addr, H l = some (.lst (ts.map V.ref)) ∧ PairsAt H ts L
  | _, _ => False
/-- a piece, its tuple and its list -/
def PieceAt (H : Hp) (i : Addr × Option Addr) (p : Piece) : Prop := H i.1 = some (.tup [.int p.1, optW p.2.1, refO i.2]) ∧ LinesAt H i.2 p.2.2
theorem PairsAt.mono {H H' : Hp} {ts : List Addr} {L : Ps} (e : ∀ t xs, H t = some (.tup xs) → H' t = some (.tup xs)) (h : PairsAt H ts L) : PairsAt H' ts L := Paired.mapP h fun _ _ q => e _ _ q
theorem LinesAt.mono {H H' : Hp} {l : Option Addr} {o : Option Ps} (e : ∀ t xs, H t = some (.tup xs) → H' t = some (.tup xs)) (k : ∀ a xs, l = some a → H a = some (.lst xs) → H' a = some (.lst xs)) (h : LinesAt H l o) : LinesAt H' l o := by
  match l, o, h with
  | none, none, _ => trivial
  | some l, some L, h =>
    obtain ⟨ts, h1, h2⟩ := h
    exact ⟨ts, k l _ rfl h1, h2.mono e⟩
theorem PieceAt.mono {H H' : Hp} {i : Addr × Option Addr} {p : Piece} (e : ∀ t xs, H t = some (.tup xs) → H' t = some (.tup xs)) (k : ∀ a xs, i.2 = some a → H a = some (.lst xs) → H' a = some (.lst xs)) (h : PieceAt H i p) : PieceAt H' i p :=
  ⟨e _ _ h.1, h.2.mono e k⟩
theorem PieceAt.same {H H' : Hp} {i : Addr × Option Addr} {p : Piece} (e : Same H H') (h : PieceAt H i p) : PieceAt H' i p := h.mono (fun _ _ q => e _ _ q) fun _ _ _ q => e _ _ q
theorem PairsAt.dp {K : PySem.W.Frag} {H : Hp} : ∀ {ts : List Addr} {L : Ps}, PairsAt H ts L → DpAll K H (ts.map V.ref) (L.map encP)
  | _, _, .nil => .nil
  | _, _, .cons h t => .cons (.tup (SqT.of h) (.cons (.int _) (.cons (.int _) .nil))) (PairsAt.dp t)
theorem LinesAt.dp {K : PySem.W.Frag} {H : Hp} {l : Option Addr} {o : Option Ps} (h : LinesAt H l o) : Dp K H (refO l) (linesD o) := by
  match l, o, h with
  | none, none, _ => exact .non
  | some l, some L, h =>
    obtain ⟨ts, h1, h2⟩ := h
    exact .lst (SqL.of h1) h2.dp
theorem PieceAt.dp {K : PySem.W.Frag} {H : Hp} {i : Addr × Option Addr} {p : Piece} (h : PieceAt H i p) : Dp K H (.ref i.1) (pieceD p) := .tup (SqT.of h.1) (.cons (.int _) (.cons (dp_opt _) (.cons h.2.dp .nil)))
theorem pieces_dp {K : PySem.W.Frag} {H : Hp} : ∀ {is : List (Addr × Option Addr)} {ps : List Piece}, Paired (PieceAt H) is ps → DpAll K H (is.map fun i => V.ref i.1) (ps.map pieceD)
  | _, _, .nil => .nil
  | _, _, .cons h t => .cons h.dp (pieces_dp t)
/-- a list of pieces that grows at m; all of it is newer than H0, each list of lines its own -/
structure FoundAt (H0 H : Hp) (m : Addr) (is : List (Addr × Option Addr)) (ps : List Piece) : Prop where
  lst : H m = some (.lst (is.map fun i => V.ref i.1))
  its : Paired (PieceAt H) is ps
  nd : (is.filterMap (·.2)).Nodup
  new : ∀ l ∈ is.filterMap (·.2), H0 l = none ∧ l ≠ m ∧ ∃ xs, H l = some (.lst xs)
  m0 : H0 m = none
theorem FoundAt.same {H0 H H' : Hp} {m : Addr} {is : List (Addr × Option Addr)} {ps : List Piece} (e : Same H H') (h : FoundAt H0 H m is ps) : FoundAt H0 H' m is ps :=
  ⟨e _ _ h.lst, Paired.mapP h.its fun _ _ q => q.same e, h.nd, fun l hl => by
    obtain ⟨h1, h2, xs, h3⟩ := h.new l hl
    exact ⟨h1, h2, xs, e _ _ h3⟩, h.m0⟩
theorem addP_len {ps : List Piece} {p : Piece} : (addP ps p).length ≤ ps.length + 1 := by
  unfold addP
  split
  · exact Nat.le_succ _
  · rw [List.length_append]
    exact Nat.le_refl _
theorem paired_last {α β : Type} {F : α → β → Prop} {xs : List α} {ys : List β} (h : Paired F xs ys) : (xs = [] ∧ ys = []) ∨ ∃ x y xs' ys', xs = xs' ++ [x] ∧ ys = ys' ++ [y] ∧ F x y := by
  induction h with
  | nil => exact .inl ⟨rfl, rfl⟩
  | @cons a b as bs h t ih =>
    rcases ih with ⟨rfl, rfl⟩ | ⟨x, y, xs', ys', rfl, rfl, f⟩
    · exact .inr ⟨a, b, [], [], rfl, rfl, h⟩
    · exact .inr ⟨x, y, a :: xs', b :: ys', rfl, rfl, f⟩
end Gc

/-! running commands over plain texts: the goal is reached exactly if the box is fulfilled -/
namespace Gc
def seen (t : Int) : Option Int → Int
  | none => t
  | some a => min a t
/-- the goal of the cursor after one command in a row of length t -/
def aim1 (t : Int) (a : Option Int) : Cmd → Option Int
  | .down _ => a
  | .up _ => a
  | .right n => some (min (seen t a + n) t)
  | .left n => some (max 0 (seen t a - n))
  | .home => some 0
  | .stop => none
def aimF (T : Int → Int) : Int → Option Int → List Cmd → Option Int
  | _, a, [] => a
  | r, a, c :: cs => aimF T (r + c.dv) (aim1 (T r) a c) cs
theorem aimF_app (T : Int → Int) : ∀ (xs ys : List Cmd) (r : Int) (a : Option Int), aimF T r a (xs ++ ys) = aimF T (r + last xs) (aimF T r a xs) ys
  | [], ys, r, a => by
    show aimF T r a ys = aimF T (r + 0) a ys
    rw [Int.add_zero]
  | c :: xs, ys, r, a => by
    show aimF T (r + c.dv) (aim1 (T r) a c) (xs ++ ys) = aimF T (r + (c.dv + last xs)) _ ys
    rw [aimF_app T xs ys, Int.add_assoc]
    rfl
theorem aimF_snoc (T : Int → Int) (cs : List Cmd) (c : Cmd) (r : Int) (a : Option Int) : aimF T r a (cs ++ [c]) = aim1 (T (r + last cs)) (aimF T r a cs) c := aimF_app T cs [c] r a
def ge (a : Option Int) (n : Int) : Prop := ∀ x, a = some x → n ≤ x
theorem ge_none (n : Int) : ge none n := fun _ h => nomatch h
theorem ge_some {x n : Int} : ge (some x) n ↔ n ≤ x := ⟨fun h => h x rfl, fun h y e => by rw [← Option.some.inj e]; exact h⟩
theorem seen_ge {t n : Int} {a : Option Int} : n ≤ seen t a ↔ n ≤ t ∧ ge a n := by
  cases a with
  | none => exact ⟨fun h => ⟨h, ge_none n⟩, fun h => h.1⟩
  | some x =>
    rw [ge_some]
    show n ≤ min x t ↔ _
    omega
theorem aim1_nn {t : Int} {a : Option Int} {c : Cmd} (ht : 0 ≤ t) (ha : ge a 0) (ok : c.ok) : ge (aim1 t a c) 0 := by
  have hs : 0 ≤ seen t a := seen_ge.mpr ⟨ht, ha⟩
  cases c with
  | down n => exact ha
  | up n => exact ha
  | right n =>
    have o : 1 ≤ n := ok
    refine ge_some.mpr ?_
    omega
  | left n =>
    refine ge_some.mpr ?_
    omega
  | home => exact ge_some.mpr (Int.le_refl 0)
  | stop => exact ge_none 0
theorem aimF_nn {T : Int → Int} (hT : ∀ k, 0 ≤ T k) : ∀ {cs : List Cmd} {r : Int} {a : Option Int}, AllOk cs → ge a 0 → ge (aimF T r a cs) 0
  | [], _, _, _, h => h
  | c :: cs, r, a, ok, h => aimF_nn hT (cs := cs) (fun d hd => ok d (List.mem_cons_of_mem _ hd)) (aim1_nn (hT r) h (ok c List.mem_cons_self))
theorem last_snoc (cs : List Cmd) (c : Cmd) : last (cs ++ [c]) = last cs + c.dv := by
  rw [last_app]
  show _ + (c.dv + 0) = _
  omega
theorem reqF_le {f : Int → Int} {o v : Int} {T : Int → Int} {r : Int} : (∀ k, reqF f o v k ≤ T (r + k)) ↔ (∀ k, f k ≤ T (r + k)) ∧ v ≤ T (r + o) := by
  constructor
  · intro h
    refine ⟨fun k => Int.le_trans (reqF_ge f o v k) (h k), ?_⟩
    have := h o
    unfold reqF at this
    rw [if_pos rfl] at this
    omega
  · rintro ⟨h1, h2⟩ k
    unfold reqF
    have := h1 k
    split
    · rename_i e
      subst e
      omega
    · exact this
/-- the box's walk, and the run -/
theorem go_char {T : Int → Int} (hT : ∀ k, 0 ≤ T k) {r : Int} {a : Option Int} (ha : ge a 0) : ∀ (rs : List Cmd) (need : Int) (f : Int → Int), AllOk rs → 1 ≤ need →
    ((∃ st g, goF rs (last rs.reverse) need f = some (st, g) ∧ (∀ n, st = some n → ge a n) ∧ ∀ k, g k ≤ T (r + k)) ↔ (∀ k, f k ≤ T (r + k)) ∧ ge (aimF T r a rs.reverse) need)
  | [], need, f, _, _ => by
    constructor
    · rintro ⟨st, g, e, h1, h2⟩
      cases e
      exact ⟨h2, h1 need rfl⟩
    · rintro ⟨h1, h2⟩
      exact ⟨_, _, rfl, fun n e => by rw [← Option.some.inj e]; exact h2, h1⟩
  | .home :: rs, need, f, ok, hn => by
    rw [List.reverse_cons, aimF_snoc]
    constructor
    · rintro ⟨st, g, e, _⟩
      cases e
    · rintro ⟨_, h2⟩
      have : need ≤ 0 := ge_some.mp h2
      omega
  | .stop :: rs, need, f, ok, hn => by
    rw [List.reverse_cons, aimF_snoc]
    constructor
    · rintro ⟨st, g, e, _, h2⟩
      cases e
      exact ⟨h2, ge_none _⟩
    · rintro ⟨h1, _⟩
      exact ⟨_, _, rfl, (fun n e => nomatch e), h1⟩
  | .down n :: rs, need, f, ok, hn => by
    rw [List.reverse_cons, aimF_snoc, last_snoc]
    have ih := go_char hT (r := r) ha rs need f (fun d hd => ok d (List.mem_cons_of_mem _ hd)) hn
    have e : last rs.reverse + (Cmd.down n).dv - n = last rs.reverse := by
      show last rs.reverse + n - n = _
      omega
    simp only [goF]
    rw [e]
    exact ih
  | .up n :: rs, need, f, ok, hn => by
    rw [List.reverse_cons, aimF_snoc, last_snoc]
    have ih := go_char hT (r := r) ha rs need f (fun d hd => ok d (List.mem_cons_of_mem _ hd)) hn
    have e : last rs.reverse + (Cmd.up n).dv + n = last rs.reverse := by
      show last rs.reverse + -n + n = _
      omega
    simp only [goF]
    rw [e]
    exact ih
  | .left n :: rs, need, f, ok, hn => by
    have o : 1 ≤ n := ok _ List.mem_cons_self
    rw [List.reverse_cons, aimF_snoc, last_snoc]
    have ih := go_char hT (r := r) ha rs (need + n) (reqF f (last rs.reverse) (need + n)) (fun d hd => ok d (List.mem_cons_of_mem _ hd)) (by omega)
    have e : last rs.reverse + (Cmd.left n).dv = last rs.reverse := Int.add_zero _
    simp only [goF]
    rw [e, ih, reqF_le]
    have s : ge (aim1 (T (r + last rs.reverse)) (aimF T r a rs.reverse) (.left n)) need ↔ need + n ≤ T (r + last rs.reverse) ∧ ge (aimF T r a rs.reverse) (need + n) := by
      rw [← seen_ge]
      show ge (some _) need ↔ _
      rw [ge_some]
      omega
    rw [s]
    exact ⟨fun h => ⟨h.1.1, h.1.2, h.2⟩, fun h => ⟨⟨h.1, h.2.1⟩, h.2.2⟩⟩
  | .right n :: rs, need, f, ok, hn => by
    have o : 1 ≤ n := ok _ List.mem_cons_self
    have okr : AllOk rs := fun d hd => ok d (List.mem_cons_of_mem _ hd)
    rw [List.reverse_cons, aimF_snoc, last_snoc]
    have e : last rs.reverse + (Cmd.right n).dv = last rs.reverse := Int.add_zero _
    have nn : 0 ≤ seen (T (r + last rs.reverse)) (aimF T r a rs.reverse) := seen_ge.mpr ⟨hT _, aimF_nn hT (fun d hd => okr d (List.mem_reverse.mp hd)) ha⟩
    simp only [goF]
    rw [e]
    have s : ge (aim1 (T (r + last rs.reverse)) (aimF T r a rs.reverse) (.right n)) need ↔ need ≤ T (r + last rs.reverse) ∧ need - n ≤ seen (T (r + last rs.reverse)) (aimF T r a rs.reverse) := by
      show ge (some _) need ↔ _
      rw [ge_some]
      omega
    rw [s]
    by_cases c : need > n
    · rw [if_pos c]
      have ih := go_char hT (r := r) ha rs (need - n) (reqF f (last rs.reverse) need) okr (by omega)
      rw [ih, reqF_le, seen_ge]
      exact ⟨fun h => ⟨h.1.1, h.1.2, by omega, h.2⟩, fun h => ⟨⟨h.1, h.2.1⟩, h.2.2.2⟩⟩
    · rw [if_neg c]
      constructor
      · rintro ⟨st, g, e, _, h2⟩
        cases e
        have h3 := reqF_le.mp h2
        exact ⟨h3.1, h3.2, by omega⟩
      · rintro ⟨h1, h2, _⟩
        exact ⟨_, _, rfl, (fun n e => nomatch e), reqF_le.mpr ⟨h1, h2⟩⟩
/-- the goal is reached exactly if the start fulfils the box -/
theorem box_char {T : Int → Int} (hT : ∀ k, 0 ≤ T k) {r : Int} {a : Option Int} (ha : ge a 0) {cs : List Cmd} {goal : Int} (ok : AllOk cs) (hg : 1 ≤ goal) :
    ge (aimF T r a cs) goal ↔ ∃ st L, boxM cs goal = some (st, L) ∧ (∀ n, st = some n → ge a n) ∧ ∀ k, val L k ≤ T (r + k) := by
  have h := go_char hT (r := r) ha cs.reverse goal (fun _ => 0) (allOk_rev ok) hg
  rw [List.reverse_reverse] at h
  have h0 : (∀ k : Int, (fun _ : Int => (0 : Int)) k ≤ T (r + k)) := fun k => hT _
  have h' : (∃ st g, boxF cs goal = some (st, g) ∧ (∀ n, st = some n → ge a n) ∧ ∀ k, g k ≤ T (r + k)) ↔ ge (aimF T r a cs) goal := h.trans ⟨fun x => x.2, fun x => ⟨h0, x⟩⟩
  rw [← h']
  rcases box_spec ok hg with ⟨e1, e2⟩ | ⟨st, b, e1, gb, e2, _⟩
  · rw [e1, e2]
    constructor
    · rintro ⟨_, _, z, _⟩
      cases z
    · rintro ⟨_, _, z, _⟩
      cases z
  · rw [e1, e2]
    have vp := val_perm gb (List.mergeSort_perm b leK)
    constructor
    · rintro ⟨st', g, z, h1, h2⟩
      cases z
      exact ⟨_, _, rfl, h1, fun k => by rw [vp]; exact h2 k⟩
    · rintro ⟨st', L, z, h1, h2⟩
      cases z
      exact ⟨_, _, rfl, h1, fun k => by rw [← vp]; exact h2 k⟩
end Gc

/-! rows that are visited; the least text -/
namespace Gc
def Within (cs : List Cmd) (lo hi : Int) : Prop := ∀ i, lo ≤ last (cs.take i) ∧ last (cs.take i) ≤ hi
theorem Within.tail {c : Cmd} {cs : List Cmd} {lo hi : Int} (h : Within (c :: cs) lo hi) : Within cs (lo - c.dv) (hi - c.dv) := fun i => by
  have q := h (i + 1)
  have e : last ((c :: cs).take (i + 1)) = c.dv + last (cs.take i) := rfl
  rw [e] at q
  omega
theorem Within.init {cs : List Cmd} {c : Cmd} {lo hi : Int} (h : Within (cs ++ [c]) lo hi) : Within cs lo hi := fun i => by
  by_cases l : i ≤ cs.length
  · have q := h i
    rw [List.take_append_of_le_length l] at q
    exact q
  · have q := h cs.length
    rw [List.take_append_of_le_length (Nat.le_refl _)] at q
    rw [List.take_of_length_le (by omega)]
    rw [List.take_length] at q
    exact q
theorem Within.whole {cs : List Cmd} {lo hi : Int} (h : Within cs lo hi) : lo ≤ last cs ∧ last cs ≤ hi := by
  have q := h cs.length
  rw [List.take_length] at q
  exact q
theorem Within.zero {cs : List Cmd} {lo hi : Int} (h : Within cs lo hi) : lo ≤ 0 ∧ 0 ≤ hi := h 0
theorem keys_req' {b : Ps} {o v k : Int} (h : k ∈ keys (req b o v)) : k = o ∨ k ∈ keys b := by
  unfold req at h
  rw [keys_put] at h
  split at h
  · exact .inr h
  · rcases List.mem_append.mp h with q | q
    · exact .inr q
    · exact .inl (List.mem_singleton.mp q)
/-- the offsets of a box are rows that are visited -/
theorem go_within {lo hi : Int} : ∀ {rs : List Cmd} {need : Int} {b : Ps} {st : Option Int} {b' : Ps}, go rs (last rs.reverse) need b = some (st, b') → Within rs.reverse lo hi → (∀ k ∈ keys b, lo ≤ k ∧ k ≤ hi) → ∀ k ∈ keys b', lo ≤ k ∧ k ≤ hi
  | [], need, b, st, b', h, _, hb => by cases h; exact hb
  | .home :: rs, need, b, st, b', h, _, _ => by cases h
  | .stop :: rs, need, b, st, b', h, _, hb => by cases h; exact hb
  | .down n :: rs, need, b, st, b', h, w, hb => by
    rw [List.reverse_cons] at h w
    rw [last_snoc] at h
    have e : last rs.reverse + (Cmd.down n).dv - n = last rs.reverse := by
      show last rs.reverse + n - n = _
      omega
    simp only [go] at h
    rw [e] at h
    exact go_within h w.init hb
  | .up n :: rs, need, b, st, b', h, w, hb => by
    rw [List.reverse_cons] at h w
    rw [last_snoc] at h
    have e : last rs.reverse + (Cmd.up n).dv + n = last rs.reverse := by
      show last rs.reverse + -n + n = _
      omega
    simp only [go] at h
    rw [e] at h
    exact go_within h w.init hb
  | .left n :: rs, need, b, st, b', h, w, hb => by
    rw [List.reverse_cons] at h w
    rw [last_snoc, show last rs.reverse + (Cmd.left n).dv = last rs.reverse from Int.add_zero _] at h
    simp only [go] at h
    refine go_within h w.init fun k hk => ?_
    rcases keys_req' hk with q | q
    · rw [q]
      exact w.init.whole
    · exact hb k q
  | .right n :: rs, need, b, st, b', h, w, hb => by
    rw [List.reverse_cons] at h w
    rw [last_snoc, show last rs.reverse + (Cmd.right n).dv = last rs.reverse from Int.add_zero _] at h
    have hr : ∀ k ∈ keys (req b (last rs.reverse) need), lo ≤ k ∧ k ≤ hi := fun k hk => by
      rcases keys_req' hk with q | q
      · rw [q]
        exact w.init.whole
      · exact hb k q
    simp only [go] at h
    split at h
    · exact go_within h w.init hr
    · cases h
      exact hr
theorem box_within {lo hi : Int} {cs : List Cmd} {goal : Int} {st : Option Int} {L : Ps} (h : boxM cs goal = some (st, L)) (w : Within cs lo hi) : ∀ q ∈ L, lo ≤ q.1 ∧ q.1 ≤ hi := by
  unfold boxM at h
  cases e : go cs.reverse (last cs) goal [] with
  | none =>
    rw [e] at h
    cases h
  | some x =>
    rw [e] at h
    obtain ⟨st', b'⟩ := x
    have h' : (st', b'.mergeSort leK) = (st, L) := Option.some.inj h
    cases h'
    have k := go_within (rs := cs.reverse) (lo := lo) (hi := hi) (by rw [List.reverse_reverse]; exact e) (by rw [List.reverse_reverse]; exact w) (fun k hk => by cases hk)
    intro q hq
    exact k q.1 (List.mem_map.mpr ⟨q, (List.mergeSort_perm b' leK).mem_iff.mp hq, rfl⟩)
/-! ### a text from a box -/
def setAll (lo : Int) (T : List Int) (L : Ps) : List Int := L.foldl (fun T q => T.set (q.1 - lo).toNat q.2) T
theorem setAll_len (lo : Int) : ∀ (L : Ps) (T : List Int), (setAll lo T L).length = T.length
  | [], _ => rfl
  | q :: L, T => by
    show (setAll lo (T.set (q.1 - lo).toNat q.2) L).length = _
    rw [setAll_len lo L, List.length_set]
theorem setAll_get {lo : Int} : ∀ {L : Ps} {T : List Int} {k : Int}, (keys L).Nodup → (∀ q ∈ L, lo ≤ q.1 ∧ q.1 - lo < T.length) → lo ≤ k → k - lo < T.length →
    (setAll lo T L).getD (k - lo).toNat 0 = match look L k with | some v => v | none => T.getD (k - lo).toNat 0
  | [], T, k, _, _, _, _ => rfl
  | q :: L, T, k, nd, hq, h0, h1 => by
    have nd' : q.1 ∉ keys L ∧ (keys L).Nodup := List.nodup_cons.mp nd
    have q0 := hq q List.mem_cons_self
    show (setAll lo (T.set (q.1 - lo).toNat q.2) L).getD (k - lo).toNat 0 = _
    rw [setAll_get (L := L) nd'.2 (fun p hp => by rw [List.length_set]; exact hq p (List.mem_cons_of_mem _ hp)) h0 (by rw [List.length_set]; exact h1), look_cons]
    by_cases e : q.1 = k
    · subst e
      rw [if_pos rfl, look_none.mpr nd'.1]
      show (T.set (q.1 - lo).toNat q.2).getD (q.1 - lo).toNat 0 = q.2
      rw [List.getD_eq_getElem?_getD, List.getElem?_set_self (by omega)]
      rfl
    · rw [if_neg e]
      cases look L k with
      | some v => rfl
      | none =>
        show (T.set (q.1 - lo).toNat q.2).getD (k - lo).toNat 0 = T.getD (k - lo).toNat 0
        rw [List.getD_eq_getElem?_getD, List.getD_eq_getElem?_getD, List.getElem?_set_ne (by omega)]
/-! ### the run over a list of lengths -/
def lenAt (T : List Int) (r : Int) : Int := T.getD r.toNat 0
/-- the run over a text: the row must stand -/
def afterL (T : List Int) : Int → Option Int → List Cmd → Option (Int × Option Int)
  | r, a, [] => some (r, a)
  | r, a, c :: cs => if c.vert = true then (if 0 ≤ r + c.dv ∧ r + c.dv < T.length then afterL T (r + c.dv) a cs else none) else afterL T r (aim1 (lenAt T r) a c) cs
theorem Within.le {cs : List Cmd} {lo hi lo' hi' : Int} (h : Within cs lo hi) (h1 : lo' ≤ lo) (h2 : hi ≤ hi') : Within cs lo' hi' := fun i => by
  have := h i
  omega
theorem afterL_in {T : List Int} : ∀ {cs : List Cmd} {r : Int} {a : Option Int}, Within cs (-r) (T.length - 1 - r) → afterL T r a cs = some (r + last cs, aimF (lenAt T) r a cs)
  | [], r, a, _ => by
    show some (r, a) = some (r + 0, a)
    rw [Int.add_zero]
  | c :: cs, r, a, w => by
    have w1 := w 1
    have e1 : last ((c :: cs).take 1) = c.dv + 0 := rfl
    rw [e1] at w1
    have wt : Within cs (-(r + c.dv)) (T.length - 1 - (r + c.dv)) := w.tail.le (by omega) (by omega)
    have ih := afterL_in (a := aim1 (lenAt T r) a c) wt
    have el : last (c :: cs) = c.dv + last cs := rfl
    have ea : aimF (lenAt T) r a (c :: cs) = aimF (lenAt T) (r + c.dv) (aim1 (lenAt T r) a c) cs := rfl
    rw [ea, el, ← Int.add_assoc]
    by_cases v : c.vert = true
    · have ia : aim1 (lenAt T r) a c = a := by
        cases c with
        | down n => rfl
        | up n => rfl
        | right n => cases v
        | left n => cases v
        | home => cases v
        | stop => cases v
      rw [ia] at ih ⊢
      simp only [afterL]
      rw [if_pos v, if_pos ⟨by omega, by omega⟩, ih]
    · have d0 : c.dv = 0 := by
        cases c with
        | down n => exact absurd rfl v
        | up n => exact absurd rfl v
        | right n => rfl
        | left n => rfl
        | home => rfl
        | stop => rfl
      simp only [afterL]
      rw [if_neg v]
      rw [d0, Int.add_zero] at ih ⊢
      exact ih
theorem lenAt_nn {T : List Int} (h : ∀ x ∈ T, 0 ≤ x) (r : Int) : 0 ≤ lenAt T r := by
  unfold lenAt
  rw [List.getD_eq_getElem?_getD]
  cases e : T[r.toNat]? with
  | none => exact Int.le_refl 0
  | some x => exact h x (List.mem_of_getElem? e)
/-- over a text whose rows are all there: the goal is reached exactly if the box is fulfilled -/
theorem after_char {T : List Int} (hT : ∀ x ∈ T, 0 ≤ x) {r : Int} {a : Option Int} (ha : ge a 0) {cs : List Cmd} {goal : Int} (ok : AllOk cs) (hg : 1 ≤ goal) (w : Within cs (-r) (T.length - 1 - r)) :
    ∃ a', afterL T r a cs = some (r + last cs, a') ∧ ge a' 0 ∧ (ge a' goal ↔ ∃ st L, boxM cs goal = some (st, L) ∧ (∀ n, st = some n → ge a n) ∧ ∀ k, val L k ≤ lenAt T (r + k)) :=
  ⟨_, afterL_in w, aimF_nn (lenAt_nn hT) ok ha, box_char (lenAt_nn hT) ha ok hg⟩
/-! ### the least text -/
def textM (lo hi : Int) (L : Ps) : List Int := setAll lo (List.replicate (hi - lo + 1).toNat 0) L
theorem textM_len {lo hi : Int} (h : lo ≤ hi) (L : Ps) : ((textM lo hi L).length : Int) = hi - lo + 1 := by
  unfold textM
  rw [setAll_len, List.length_replicate]
  omega
theorem textM_at {lo hi : Int} {L : Ps} (g : Good L) (hL : ∀ q ∈ L, lo ≤ q.1 ∧ q.1 ≤ hi) {k : Int} (h0 : lo ≤ k) (h1 : k ≤ hi) : lenAt (textM lo hi L) (k - lo) = val L k := by
  unfold lenAt textM
  have hr : ((List.replicate (hi - lo + 1).toNat (0 : Int)).length : Int) = hi - lo + 1 := by
    rw [List.length_replicate]
    omega
  rw [setAll_get g.nd (fun q hq => by have := hL q hq; omega) h0 (by omega)]
  unfold val
  cases look L k with
  | some v => rfl
  | none =>
    show (List.replicate _ (0 : Int)).getD _ 0 = 0
    rw [List.getD_eq_getElem?_getD, List.getElem?_replicate]
    split <;> rfl
theorem val_off {lo hi : Int} {L : Ps} (hL : ∀ q ∈ L, lo ≤ q.1 ∧ q.1 ≤ hi) {k : Int} (h : ¬ (lo ≤ k ∧ k ≤ hi)) : val L k = 0 := by
  refine val_out fun z => ?_
  obtain ⟨q, hq, e⟩ := List.mem_map.mp z
  rw [← e] at h
  exact h (hL q hq)
theorem textM_nn {lo hi : Int} {L : Ps} (g : Good L) (hL : ∀ q ∈ L, lo ≤ q.1 ∧ q.1 ≤ hi) : ∀ x ∈ textM lo hi L, 0 ≤ x := by
  intro x hx
  obtain ⟨i, hi'⟩ := List.mem_iff_getElem?.mp hx
  have l := (List.getElem?_eq_some_iff.mp hi').1
  have l2 : (textM lo hi L).length = (hi - lo + 1).toNat := by
    unfold textM
    rw [setAll_len, List.length_replicate]
  have e := textM_at g hL (k := i + lo) (by omega) (by omega)
  unfold lenAt at e
  rw [show ((i : Int) + lo - lo).toNat = i by omega, List.getD_eq_getElem?_getD, hi'] at e
  have e' : x = val L (i + lo) := e
  rw [e']
  exact val_nonneg g _
section
variable {cs : List Cmd} {goal lo hi : Int} {st : Option Int} {L : Ps}
/-- from it, and just its goal, the goal is reached -/
theorem least_gets (g : Good L) (w : Within cs lo hi) (ok : AllOk cs) (hg : 1 ≤ goal) (e : boxM cs goal = some (st, L)) (pos : ∀ n, st = some n → 1 ≤ n) :
    ∃ a', afterL (textM lo hi L) (-lo) (some (st.getD 0)) cs = some (-lo + last cs, a') ∧ ge a' goal := by
  have hL := box_within e w
  have z := w.zero
  have tl := textM_len (lo := lo) (hi := hi) (by omega) L
  have a0 : ge (some (st.getD 0)) 0 := ge_some.mpr (by
    cases st with
    | none => exact Int.le_refl 0
    | some n =>
      have := pos n rfl
      show 0 ≤ n
      omega)
  obtain ⟨a', h1, _, h2⟩ := after_char (textM_nn g hL) a0 ok hg (w.le (show -(-lo) ≤ lo by omega) (show hi ≤ (textM lo hi L).length - 1 - (-lo) by omega))
  refine ⟨a', h1, h2.mpr ⟨st, L, e, fun n en => ge_some.mpr (by rw [en]; exact Int.le_refl n), fun k => ?_⟩⟩
  by_cases h : lo ≤ k ∧ k ≤ hi
  · rw [show -lo + k = k - lo by omega, textM_at g hL h.1 h.2]
    exact Int.le_refl _
  · rw [val_off hL h]
    exact lenAt_nn (textM_nn g hL) _
/-- with a goal less by one it is not -/
theorem least_goal (g : Good L) (w : Within cs lo hi) (ok : AllOk cs) (hg : 1 ≤ goal) (e : boxM cs goal = some (st, L)) {n : Int} (es : st = some n) (hn : 1 ≤ n) :
    ∃ a', afterL (textM lo hi L) (-lo) (some (n - 1)) cs = some (-lo + last cs, a') ∧ ¬ ge a' goal := by
  have hL := box_within e w
  have z := w.zero
  have tl := textM_len (lo := lo) (hi := hi) (by omega) L
  obtain ⟨a', h1, _, h2⟩ := after_char (textM_nn g hL) (ge_some.mpr (show 0 ≤ n - 1 by omega)) ok hg (w.le (show -(-lo) ≤ lo by omega) (show hi ≤ (textM lo hi L).length - 1 - (-lo) by omega))
  refine ⟨a', h1, fun x => ?_⟩
  obtain ⟨st', L', e', h3, _⟩ := h2.mp x
  rw [e] at e'
  cases e'
  have := ge_some.mp (h3 n es)
  omega
/-- with a length less by one it is not -/
theorem least_row (g : Good L) (w : Within cs lo hi) (ok : AllOk cs) (hg : 1 ≤ goal) (e : boxM cs goal = some (st, L)) (pos : ∀ n, st = some n → 1 ≤ n) {i : Nat} (li : i < (textM lo hi L).length) (h : 0 < lenAt (textM lo hi L) i) :
    ∃ a', afterL ((textM lo hi L).set i (lenAt (textM lo hi L) i - 1)) (-lo) (some (st.getD 0)) cs = some (-lo + last cs, a') ∧ ¬ ge a' goal := by
  have hL := box_within e w
  have z := w.zero
  have tl := textM_len (lo := lo) (hi := hi) (by omega) L
  have a0 : ge (some (st.getD 0)) 0 := ge_some.mpr (by
    cases st with
    | none => exact Int.le_refl 0
    | some n =>
      have := pos n rfl
      show 0 ≤ n
      omega)
  have nn : ∀ x ∈ (textM lo hi L).set i (lenAt (textM lo hi L) i - 1), 0 ≤ x := fun x hx => by
    rcases List.mem_or_eq_of_mem_set hx with q | q
    · exact textM_nn g hL x q
    · omega
  obtain ⟨a', h1, _, h2⟩ := after_char (r := -lo) nn a0 ok hg (w.le (show -(-lo) ≤ lo by omega) (by rw [List.length_set]; omega))
  refine ⟨a', h1, fun x => ?_⟩
  obtain ⟨st', L', e', _, h4⟩ := h2.mp x
  rw [e] at e'
  cases e'
  have q := h4 (i + lo)
  rw [show -lo + (i + lo) = (i : Int) by omega] at q
  have ev := textM_at g hL (k := i + lo) (by omega) (by omega)
  rw [show (i : Int) + lo - lo = i by omega] at ev
  rw [← ev] at q
  have es : lenAt ((textM lo hi L).set i (lenAt (textM lo hi L) i - 1)) i = lenAt (textM lo hi L) i - 1 := by
    conv => lhs; unfold lenAt
    rw [Int.toNat_natCast, List.getD_eq_getElem?_getD, List.getElem?_set_self li]
    rfl
  rw [es] at q
  omega
end
end Gc

/-! how large the numbers of a box are -/
namespace Gc
def lft : Cmd → Int
  | .left n => n
  | _ => 0
def lsum (r : List Cmd) : Int := (r.map lft).sum
theorem lsum_cons (c : Cmd) (r : List Cmd) : lsum (c :: r) = lft c + lsum r := by
  unfold lsum
  rw [List.map_cons, List.sum_cons]
theorem lsum_nn : ∀ {r : List Cmd}, AllOk r → 0 ≤ lsum r
  | [], _ => Int.le_refl 0
  | c :: r, ok => by
    rw [lsum_cons]
    have h := lsum_nn (r := r) fun d hd => ok d (List.mem_cons_of_mem _ hd)
    have o := ok c List.mem_cons_self
    cases c with
    | left n =>
      have o' : 1 ≤ n := o
      show 0 ≤ n + _
      omega
    | down n => show 0 ≤ (0 : Int) + _; omega
    | up n => show 0 ≤ (0 : Int) + _; omega
    | right n => show 0 ≤ (0 : Int) + _; omega
    | home => show 0 ≤ (0 : Int) + _; omega
    | stop => show 0 ≤ (0 : Int) + _; omega
theorem put_mem {b : Ps} {k v : Int} {q : Int × Int} (h : q ∈ put b k v) : q.2 = v ∨ q ∈ b := by
  unfold put at h
  split at h
  · obtain ⟨p, hp, e⟩ := List.mem_map.mp h
    split at e
    · rw [← e]
      exact .inl rfl
    · rw [← e]
      exact .inr hp
  · rcases List.mem_append.mp h with z | z
    · exact .inr z
    · rw [List.mem_singleton.mp z]
      exact .inl rfl
theorem req_le {b : Ps} {o v B : Int} (hb : ∀ q ∈ b, q.2 ≤ B) (hv : v ≤ B) : ∀ q ∈ req b o v, q.2 ≤ B := by
  intro q hq
  rcases put_mem hq with e | e
  · rw [e]
    unfold mx
    cases l : look b o with
    | none =>
      show (if v > v then v else v) ≤ B
      rw [if_neg (by omega)]
      exact hv
    | some x =>
      have := hb _ (look_mem l)
      show (if x > v then x else v) ≤ B
      have h : x ≤ B := this
      split <;> omega
  · exact hb q e
theorem go_vals {B : Int} : ∀ {r : List Cmd} {off need : Int} {b : Ps} {st : Option Int} {b' : Ps}, go r off need b = some (st, b') → AllOk r → need + lsum r ≤ B → (∀ q ∈ b, q.2 ≤ B) → (∀ q ∈ b', q.2 ≤ B) ∧ ∀ n, st = some n → n ≤ B
  | [], _, need, b, _, _, h, _, l, hb => by
    cases h
    refine ⟨hb, fun n e => ?_⟩
    rw [← Option.some.inj e]
    have e0 : lsum ([] : List Cmd) = 0 := rfl
    omega
  | .home :: r, _, _, b, _, _, h, _, _, _ => by cases h
  | .stop :: r, _, _, b, _, _, h, _, _, hb => by
    cases h
    exact ⟨hb, fun n e => nomatch e⟩
  | .right n :: r, off, need, b, st, b', h, ok, l, hb => by
    have okr : AllOk r := fun d hd => ok d (List.mem_cons_of_mem _ hd)
    have o : 1 ≤ n := ok _ List.mem_cons_self
    have nn := lsum_nn okr
    rw [lsum_cons] at l
    have e0 : lft (.right n) = 0 := rfl
    simp only [go] at h
    split at h
    · exact go_vals h okr (by omega) (req_le hb (by omega))
    · cases h
      exact ⟨req_le hb (by omega), fun n e => nomatch e⟩
  | .left n :: r, off, need, b, st, b', h, ok, l, hb => by
    have okr : AllOk r := fun d hd => ok d (List.mem_cons_of_mem _ hd)
    have nn := lsum_nn okr
    rw [lsum_cons] at l
    have e0 : lft (.left n) = n := rfl
    simp only [go] at h
    exact go_vals h okr (by omega) (req_le hb (by omega))
  | .down n :: r, off, need, b, st, b', h, ok, l, hb => by
    rw [lsum_cons] at l
    have e0 : lft (.down n) = 0 := rfl
    simp only [go] at h
    exact go_vals h (fun d hd => ok d (List.mem_cons_of_mem _ hd)) (by omega) hb
  | .up n :: r, off, need, b, st, b', h, ok, l, hb => by
    rw [lsum_cons] at l
    have e0 : lft (.up n) = 0 := rfl
    simp only [go] at h
    exact go_vals h (fun d hd => ok d (List.mem_cons_of_mem _ hd)) (by omega) hb
theorem lsum_rev (r : List Cmd) : lsum r.reverse = lsum r := by
  unfold lsum
  rw [List.map_reverse, sum_rev]
theorem box_vals {B : Int} {cs : List Cmd} {goal : Int} {st : Option Int} {L : Ps} (h : boxM cs goal = some (st, L)) (ok : AllOk cs) (l : goal + lsum cs ≤ B) : (∀ q ∈ L, q.2 ≤ B) ∧ ∀ n, st = some n → n ≤ B := by
  unfold boxM at h
  cases e : go cs.reverse (last cs) goal [] with
  | none =>
    rw [e] at h
    cases h
  | some x =>
    rw [e] at h
    obtain ⟨st', b'⟩ := x
    have h' : (st', b'.mergeSort leK) = (st, L) := Option.some.inj h
    cases h'
    obtain ⟨a, b⟩ := go_vals (B := B) e (allOk_rev ok) (by rw [lsum_rev]; exact l) (fun q h => nomatch h)
    exact ⟨fun q hq => a q ((List.mergeSort_perm b' leK).mem_iff.mp hq), b⟩
theorem val_le {L : Ps} {B : Int} (h : ∀ q ∈ L, q.2 ≤ B) (h0 : 0 ≤ B) (k : Int) : val L k ≤ B := by
  unfold val
  cases e : look L k with
  | none => exact h0
  | some v => exact h _ (look_mem e)
theorem textM_le {lo hi B : Int} {L : Ps} (g : Good L) (hL : ∀ q ∈ L, lo ≤ q.1 ∧ q.1 ≤ hi) (h : ∀ q ∈ L, q.2 ≤ B) (h0 : 0 ≤ B) : ∀ x ∈ textM lo hi L, x ≤ B := by
  intro x hx
  obtain ⟨i, hi'⟩ := List.mem_iff_getElem?.mp hx
  have l := (List.getElem?_eq_some_iff.mp hi').1
  have l2 : (textM lo hi L).length = (hi - lo + 1).toNat := by
    unfold textM
    rw [setAll_len, List.length_replicate]
  have e := textM_at g hL (k := i + lo) (by omega) (by omega)
  unfold lenAt at e
  rw [show ((i : Int) + lo - lo).toNat = i by omega, List.getD_eq_getElem?_getD, hi'] at e
  have e' : x = val L (i + lo) := e
  rw [e']
  exact val_le h h0 _
/-- commands with numbers as the laws draw them -/
def Bnd (cs : List Cmd) : Prop := ∀ c ∈ cs, lft c ≤ 10 ^ 30 ∧ c.dv.natAbs ≤ 8
theorem lsum_le : ∀ {cs : List Cmd}, Bnd cs → lsum cs ≤ cs.length * 10 ^ 30
  | [], _ => by show (0 : Int) ≤ 0 * 10 ^ 30; decide
  | c :: cs, h => by
    have a := (h c List.mem_cons_self).1
    have b := lsum_le (cs := cs) fun d hd => h d (List.mem_cons_of_mem _ hd)
    rw [lsum_cons, List.length_cons]
    omega
theorem last_le : ∀ {cs : List Cmd}, Bnd cs → (last cs).natAbs ≤ 8 * cs.length
  | [], _ => Nat.le_refl _
  | c :: cs, h => by
    have a := (h c List.mem_cons_self).2
    have b := last_le (cs := cs) fun d hd => h d (List.mem_cons_of_mem _ hd)
    have e : last (c :: cs) = c.dv + last cs := rfl
    rw [e, List.length_cons]
    omega
end Gc

/-! how large the numbers of a form are, and that it can be shown -/
namespace Gc
open PySem PySem.Spec PyProof.Rows L2
def NB (M V : Int) : Cmd → Prop
  | .down n => -V ≤ n ∧ n ≤ V
  | .up n => -V ≤ n ∧ n ≤ V
  | .right n => 0 ≤ n ∧ n ≤ M
  | .left n => 0 ≤ n ∧ n ≤ M
  | _ => True
def LB (B W : Int) (L : Ps) : Prop := ∀ q ∈ L, -W ≤ q.1 ∧ q.1 ≤ W ∧ -B ≤ q.2 ∧ q.2 ≤ B
def PB (B W : Int) (n : Nat) (p : Piece) : Prop := 1 ≤ p.1 ∧ p.1 ≤ 1 + B ∧ (∀ s, p.2.1 = some s → -B ≤ s ∧ s ≤ B) ∧ ∀ L, p.2.2 = some L → L.length ≤ n ∧ LB B W L
theorem lb_req {B W : Int} {b : Ps} {o v : Int} (h : LB B W b) (o1 : -W ≤ o) (o2 : o ≤ W) (v1 : -B ≤ v) (v2 : v ≤ B) : LB B W (req b o v) := fun q hq => by
  have k1 : -W ≤ q.1 ∧ q.1 ≤ W := by
    rcases keys_req' (List.mem_map.mpr ⟨q, hq, rfl⟩) with e | e
    · rw [e]
      exact ⟨o1, o2⟩
    · obtain ⟨p, hp, e⟩ := List.mem_map.mp e
      rw [← e]
      exact ⟨(h p hp).1, (h p hp).2.1⟩
  have k2 : -B ≤ q.2 ∧ q.2 ≤ B := by
    rcases put_mem hq with e | e
    · rw [e]
      unfold mx
      cases l : look b o with
      | none =>
        show -B ≤ (if v > v then v else v) ∧ (if v > v then v else v) ≤ B
        split <;> exact ⟨v1, v2⟩
      | some x =>
        have z := (h _ (look_mem l)).2.2
        show -B ≤ (if x > v then x else v) ∧ (if x > v then x else v) ≤ B
        split
        · exact z
        · exact ⟨v1, v2⟩
    · exact (h q e).2.2
  exact ⟨k1.1, k1.2, k2.1, k2.2⟩
theorem lb_sort {B W : Int} {b : Ps} (h : LB B W b) : LB B W (sortP b) := fun q hq => h q ((List.mergeSort_perm b leK).mem_iff.mp hq)
theorem sort_len (b : Ps) : (sortP b).length = b.length := List.length_mergeSort b
theorem pb_add {B W : Int} {n : Nat} {ps : List Piece} {p : Piece} (h : ∀ q ∈ ps, PB B W n q) (hp : PB B W n p) : ∀ q ∈ addP ps p, PB B W n q := fun q hq => by
  unfold addP at hq
  split at hq
  · exact h q hq
  · rcases List.mem_append.mp hq with z | z
    · exact h q z
    · rw [List.mem_singleton.mp z]
      exact hp
theorem goP_bnd {M V B W : Int} {n : Nat} (M0 : 0 ≤ M) (V0 : 0 ≤ V) : ∀ (r : List Cmd) (off added first : Int) (lines : Ps) (found : List Piece), (∀ c ∈ r, NB M V c) → off = (r.map Cmd.dv).sum →
    -B ≤ added - r.length * M → added + r.length * M ≤ B → r.length * V ≤ W → LB B W lines → lines.length + r.length ≤ n → 1 ≤ first → first ≤ 1 + B → (∀ q ∈ found, PB B W n q) → found.length + r.length ≤ n →
    (∀ q ∈ goP r off added first lines found, PB B W n q) ∧ (goP r off added first lines found).length ≤ n + 1
  | [], off, added, first, lines, found, _, _, a1, a2, _, hl, ll, f1, f2, hf, fl => by
    simp only [List.length_nil] at a1 a2 ll fl
    refine ⟨pb_add hf ⟨f1, f2, fun s e => ?_, fun L e => ?_⟩, ?_⟩
    · obtain rfl := Option.some.inj e
      omega
    · obtain rfl := Option.some.inj e
      exact ⟨by rw [sort_len]; omega, lb_sort hl⟩
    · have := addP_len (ps := found) (p := (first, some added, some (sortP lines)))
      show (addP found (first, some added, some (sortP lines))).length ≤ n + 1
      omega
  | .home :: r, off, added, first, lines, found, _, _, a1, a2, _, hl, ll, f1, f2, hf, fl => by
    simp only [List.length_cons] at fl
    refine ⟨pb_add hf ⟨f1, f2, (fun s e => nomatch e), (fun L e => nomatch e)⟩, ?_⟩
    have := addP_len (ps := found) (p := (first, none, none))
    show (addP found (first, none, none)).length ≤ n + 1
    omega
  | .stop :: r, off, added, first, lines, found, _, _, a1, a2, _, hl, ll, f1, f2, hf, fl => by
    simp only [List.length_cons] at fl ll
    refine ⟨pb_add hf ⟨f1, f2, (fun s e => nomatch e), fun L e => ?_⟩, ?_⟩
    · obtain rfl := Option.some.inj e
      exact ⟨by rw [sort_len]; omega, lb_sort hl⟩
    · have := addP_len (ps := found) (p := (first, none, some (sortP lines)))
      show (addP found (first, none, some (sortP lines))).length ≤ n + 1
      omega
  | .right k :: r, off, added, first, lines, found, hc, ho, a1, a2, hw, hl, ll, f1, f2, hf, fl => by
    have c0 : 0 ≤ k ∧ k ≤ M := hc _ List.mem_cons_self
    have hc' := fun d hd => hc d (List.mem_cons_of_mem _ hd)
    have off1 : -W ≤ off ∧ off ≤ W := by
      have key : ∀ {r : List Cmd}, (∀ c ∈ r, NB M V c) → -(r.length * V) ≤ (r.map Cmd.dv).sum ∧ (r.map Cmd.dv).sum ≤ r.length * V := by
        intro r
        induction r with
        | nil => intro _; simp
        | cons c r ih =>
          intro h
          obtain ⟨i1, i2⟩ := ih fun d hd => h d (List.mem_cons_of_mem _ hd)
          have b := h c List.mem_cons_self
          have q : -V ≤ c.dv ∧ c.dv ≤ V := by
            cases c with
            | down n => exact b
            | up n =>
              have b' : -V ≤ n ∧ n ≤ V := b
              show -V ≤ -n ∧ -n ≤ V
              omega
            | right n => exact ⟨by show -V ≤ 0; omega, V0⟩
            | left n => exact ⟨by show -V ≤ 0; omega, V0⟩
            | home => exact ⟨by show -V ≤ 0; omega, V0⟩
            | stop => exact ⟨by show -V ≤ 0; omega, V0⟩
          rw [List.map_cons, List.sum_cons, List.length_cons, Int.natCast_add, Int.add_mul]
          omega
      have := key hc
      rw [← ho] at this
      omega
    rw [List.length_cons, Int.natCast_add, Int.add_mul] at a1 a2 hw
    simp only [List.length_cons] at ll fl
    have rm : 0 ≤ (r.length : Int) * M := Int.mul_nonneg (Int.natCast_nonneg _) M0
    have hl' : LB B W (req lines off added) := lb_req hl off1.1 off1.2 (by omega) (by omega)
    have ql := req_len lines off added
    simp only [goP]
    split
    · rename_i c
      refine goP_bnd M0 V0 r off (added - k) _ _ _ hc' (by rw [ho, List.map_cons, List.sum_cons]; exact Int.zero_add _) (by omega) (by omega) (by omega) hl' (by omega) (by omega) (by omega) (pb_add hf ⟨f1, f2, (fun s e => nomatch e), fun L e => ?_⟩) ?_
      · obtain rfl := Option.some.inj e
        exact ⟨by rw [sort_len]; omega, lb_sort hl'⟩
      · have := addP_len (ps := found) (p := (first, none, some (sortP (req lines off added))))
        omega
    · exact goP_bnd M0 V0 r off (added - k) first _ _ hc' (by rw [ho, List.map_cons, List.sum_cons]; exact Int.zero_add _) (by omega) (by omega) (by omega) hl' (by omega) f1 f2 hf (by omega)
  | .left k :: r, off, added, first, lines, found, hc, ho, a1, a2, hw, hl, ll, f1, f2, hf, fl => by
    have c0 : 0 ≤ k ∧ k ≤ M := hc _ List.mem_cons_self
    have hc' := fun d hd => hc d (List.mem_cons_of_mem _ hd)
    have off1 : -W ≤ off ∧ off ≤ W := by
      have key : ∀ {r : List Cmd}, (∀ c ∈ r, NB M V c) → -(r.length * V) ≤ (r.map Cmd.dv).sum ∧ (r.map Cmd.dv).sum ≤ r.length * V := by
        intro r
        induction r with
        | nil => intro _; simp
        | cons c r ih =>
          intro h
          obtain ⟨i1, i2⟩ := ih fun d hd => h d (List.mem_cons_of_mem _ hd)
          have b := h c List.mem_cons_self
          have q : -V ≤ c.dv ∧ c.dv ≤ V := by
            cases c with
            | down n => exact b
            | up n =>
              have b' : -V ≤ n ∧ n ≤ V := b
              show -V ≤ -n ∧ -n ≤ V
              omega
            | right n => exact ⟨by show -V ≤ 0; omega, V0⟩
            | left n => exact ⟨by show -V ≤ 0; omega, V0⟩
            | home => exact ⟨by show -V ≤ 0; omega, V0⟩
            | stop => exact ⟨by show -V ≤ 0; omega, V0⟩
          rw [List.map_cons, List.sum_cons, List.length_cons, Int.natCast_add, Int.add_mul]
          omega
      have := key hc
      rw [← ho] at this
      omega
    rw [List.length_cons, Int.natCast_add, Int.add_mul] at a1 a2 hw
    simp only [List.length_cons] at ll fl
    have rm : 0 ≤ (r.length : Int) * M := Int.mul_nonneg (Int.natCast_nonneg _) M0
    have hl' : LB B W (req lines off (added + k)) := lb_req hl off1.1 off1.2 (by omega) (by omega)
    have ql := req_len lines off (added + k)
    exact goP_bnd M0 V0 r off (added + k) first _ _ hc' (by rw [ho, List.map_cons, List.sum_cons]; exact Int.zero_add _) (by omega) (by omega) (by omega) hl' (by omega) f1 f2 hf (by omega)
  | .down k :: r, off, added, first, lines, found, hc, ho, a1, a2, hw, hl, ll, f1, f2, hf, fl => by
    have hc' := fun d hd => hc d (List.mem_cons_of_mem _ hd)
    rw [List.length_cons, Int.natCast_add, Int.add_mul] at a1 a2 hw
    simp only [List.length_cons] at ll fl
    have rv : 0 ≤ (r.length : Int) * V := Int.mul_nonneg (Int.natCast_nonneg _) V0
    exact goP_bnd M0 V0 r (off - k) added first _ _ hc' (by rw [ho]; show k + (r.map Cmd.dv).sum - k = _; omega) (by omega) (by omega) (by omega) hl (by omega) f1 f2 hf (by omega)
  | .up k :: r, off, added, first, lines, found, hc, ho, a1, a2, hw, hl, ll, f1, f2, hf, fl => by
    have hc' := fun d hd => hc d (List.mem_cons_of_mem _ hd)
    rw [List.length_cons, Int.natCast_add, Int.add_mul] at a1 a2 hw
    simp only [List.length_cons] at ll fl
    have rv : 0 ≤ (r.length : Int) * V := Int.mul_nonneg (Int.natCast_nonneg _) V0
    exact goP_bnd M0 V0 r (off + k) added first _ _ hc' (by rw [ho]; show -k + (r.map Cmd.dv).sum + k = _; omega) (by omega) (by omega) (by omega) hl (by omega) f1 f2 hf (by omega)
theorem form_bnd {M V : Int} {cs : List Cmd} (M0 : 0 ≤ M) (V0 : 0 ≤ V) (h : ∀ c ∈ cs, NB M V c) : (∀ q ∈ formM cs, PB (cs.length * M) (cs.length * V) cs.length q) ∧ (formM cs).length ≤ cs.length + 1 := by
  have z : 0 ≤ (cs.length : Int) * M := Int.mul_nonneg (Int.natCast_nonneg _) M0
  exact goP_bnd (B := cs.length * M) (W := cs.length * V) (n := cs.length) M0 V0 cs.reverse (last cs) 0 1 [] [] (fun c hc => h c (List.mem_reverse.mp hc)) (by
    unfold last
    rw [List.map_reverse, sum_rev]) (by rw [List.length_reverse]; omega) (by rw [List.length_reverse]; omega) (by rw [List.length_reverse]; omega) (fun _ q => nomatch q) (by simp) (by decide) (by omega) (fun _ q => nomatch q) (by simp)
/-! ### shown -/
theorem w_int {x : Int} {k : Nat} (hk : 0 < k) (h : x.natAbs < 2 ^ k) : (PyData.int x).weight ≤ k + 2 := by
  have := PySem.Flt.log2_lt_of (k := k) hk h
  simp only [PyData.weight]
  split <;> omega
theorem pairs_ok {B W : Int} {k : Nat} (hk : 0 < k) (kb : k ≤ 120) (hB : B < 2 ^ k) (hW : W < 2 ^ 10) : ∀ {L : Ps}, LB B W L → Ok0s (L.map encP) ∧ PyData.weightAll (L.map encP) ≤ (k + 20) * L.length ∧ PyData.depthAll (L.map encP) ≤ 1
  | [], _ => ⟨ok0_nil, by simp [PyData.weightAll], by simp [PyData.depthAll]⟩
  | q :: L, h => by
    have h1 := h q List.mem_cons_self
    obtain ⟨i1, i2, i3⟩ := pairs_ok hk kb hB hW (L := L) fun p hp => h p (List.mem_cons_of_mem _ hp)
    have p1 : (2 : Int) ^ 10 = 1024 := by decide
    have n1 : q.1.natAbs < 2 ^ 10 := by
      have : (2 : Nat) ^ 10 = 1024 := by decide
      omega
    have cast : ((2 ^ k : Nat) : Int) = 2 ^ k := by simp
    have n2 : q.2.natAbs < 2 ^ k := by omega
    have s1 : Sml q.1 := Nat.lt_of_lt_of_le n1 (by decide)
    have s2 : Sml q.2 := Nat.lt_of_lt_of_le n2 (Nat.pow_le_pow_right (by decide) kb)
    have w1 := w_int (k := 10) (by decide) n1
    have w2 := w_int hk n2
    refine ⟨ok0_cons (ok0_tup (ok0_cons (ok0_int s1) (ok0_cons (ok0_int s2) ok0_nil))) i1, ?_, ?_⟩
    · simp only [List.map_cons, PyData.weightAll, encP, PyData.weight, List.length_cons] at w1 w2 ⊢
      rw [Nat.mul_succ]
      omega
    · simp only [List.map_cons, PyData.depthAll, encP, PyData.depth]
      omega
theorem opt_ok {k : Nat} (hk : 0 < k) (kb : k ≤ 120) {o : Option Int} (h : ∀ s, o = some s → s.natAbs < 2 ^ k) : Ok0 (optE o) ∧ (optE o).weight ≤ k + 2 ∧ (optE o).depth = 0 := by
  cases o with
  | none => exact ⟨⟨by simp only [optE, PyData.showable], by simp only [optE, PyData.hasDict], by decide +kernel⟩, by simp [optE, PyData.weight], by simp [optE, PyData.depth]⟩
  | some s => exact ⟨ok0_int (Nat.lt_of_lt_of_le (h s rfl) (Nat.pow_le_pow_right (by decide) kb)), w_int hk (h s rfl), by simp [optE, PyData.depth]⟩
theorem lines_ok {B W : Int} {k n : Nat} (hk : 0 < k) (kb : k ≤ 120) (hB : B < 2 ^ k) (hW : W < 2 ^ 10) {o : Option Ps} (h : ∀ L, o = some L → L.length ≤ n ∧ LB B W L) : Ok0 (linesD o) ∧ (linesD o).weight ≤ (k + 20) * n + 4 ∧ (linesD o).depth ≤ 2 := by
  cases o with
  | none => exact ⟨⟨by simp only [linesD, PyData.showable], by simp only [linesD, PyData.hasDict], by decide +kernel⟩, by simp [linesD, PyData.weight], by simp [linesD, PyData.depth]⟩
  | some L =>
    obtain ⟨l, lb⟩ := h L rfl
    obtain ⟨a, b, c⟩ := pairs_ok hk kb hB hW lb
    refine ⟨ok0_list a, ?_, ?_⟩
    · have : (k + 20) * L.length ≤ (k + 20) * n := Nat.mul_le_mul_left _ l
      simp only [linesD, PyData.weight]
      omega
    · simp only [linesD, PyData.depth]
      omega
theorem pieces_ok {B W : Int} {k n : Nat} (hk : 0 < k) (kb : k ≤ 120) (hB : B + 1 < 2 ^ k) (hW : W < 2 ^ 10) : ∀ {ps : List Piece}, (∀ p ∈ ps, PB B W n p) → Ok0s (ps.map pieceD) ∧ PyData.weightAll (ps.map pieceD) ≤ ((k + 20) * n + 2 * k + 20) * ps.length ∧ PyData.depthAll (ps.map pieceD) ≤ 3
  | [], _ => ⟨ok0_nil, by simp [PyData.weightAll], by simp [PyData.depthAll]⟩
  | p :: ps, h => by
    obtain ⟨h1, h2, h3, h4⟩ := h p List.mem_cons_self
    obtain ⟨i1, i2, i3⟩ := pieces_ok hk kb hB hW (ps := ps) fun q hq => h q (List.mem_cons_of_mem _ hq)
    have cast : ((2 ^ k : Nat) : Int) = 2 ^ k := by simp
    have n1 : p.1.natAbs < 2 ^ k := by omega
    have s1 : Sml p.1 := Nat.lt_of_lt_of_le n1 (Nat.pow_le_pow_right (by decide) kb)
    obtain ⟨o1, o2, o3⟩ := opt_ok hk kb (o := p.2.1) fun s e => by
      have := h3 s e
      omega
    obtain ⟨l1, l2, l3⟩ := lines_ok hk kb (show B < 2 ^ k by omega) hW (o := p.2.2) (n := n) h4
    have w1 := w_int hk n1
    refine ⟨ok0_cons (ok0_tup (ok0_cons (ok0_int s1) (ok0_cons o1 (ok0_cons l1 ok0_nil)))) i1, ?_, ?_⟩
    · simp only [List.map_cons, PyData.weightAll, pieceD, PyData.weight, List.length_cons] at w1 ⊢
      rw [Nat.mul_succ]
      omega
    · simp only [List.map_cons, PyData.depthAll, pieceD, PyData.depth]
      omega
end Gc

/-! commands as texts: what is written, and that it can be read back -/
namespace Gc
open PySem PyProof.Rows L2 TL
def mkS (l : List Nat) : Str := ⟨l.toArray⟩
theorem tl_mkS (l : List Nat) : tl (mkS l) = l := rfl
theorem mkS_app (l m : List Nat) : mkS l ++ mkS m = mkS (l ++ m) := ext_tl (by rw [tl_append]; rfl)
theorem mkS_len (l : List Nat) : (mkS l).length = l.length := by rw [len_tl]; rfl
theorem mkS_inj {l m : List Nat} (h : mkS l = mkS m) : l = m := by
  have e := congrArg tl h
  exact e
/-- the number of a command -/
def numC : Cmd → Int
  | .down n => n
  | .up n => n
  | .right n => n
  | .left n => n
  | _ => 0
def letC : Cmd → Nat
  | .down _ => 68
  | .up _ => 85
  | .right _ => 82
  | .left _ => 76
  | .home => 72
  | .stop => 69
/-- the digits that stand ahead of the letter -/
def digC : Cmd → List Nat
  | .down n => numL n.toNat
  | .up n => numL n.toNat
  | .right n => numL n.toNat
  | .left n => numL n.toNat
  | _ => []
def cw (c : Cmd) : List Nat := digC c ++ [letC c]
def noneL : List Nat := [110, 111, 110, 101]
def shownL (cs : List Cmd) : List Nat := if cs = [] then noneL else joinL [32] (cs.map cw)
def shownS (cs : List Cmd) : Str := mkS (shownL cs)
theorem digC_digits (c : Cmd) : NumText.AllDigits (digC c) := by
  cases c with
  | down n => exact numL_digits _
  | up n => exact numL_digits _
  | right n => exact numL_digits _
  | left n => exact numL_digits _
  | home => exact fun _ h => nomatch h
  | stop => exact fun _ h => nomatch h
theorem letC_ge (c : Cmd) : 65 ≤ letC c ∧ letC c ≤ 90 := by cases c <;> simp [letC]
theorem cw_free (c : Cmd) : 32 ∉ cw c := fun h => by
  rcases List.mem_append.mp h with h | h
  · have := digC_digits c 32 h
    omega
  · have e := List.mem_singleton.mp h
    have := letC_ge c
    omega
theorem cw_ne (c : Cmd) : cw c ≠ [] := by simp [cw]
theorem cw_inj {c d : Cmd} (hc : c.ok) (hd : d.ok) (h : cw c = cw d) : c = d := by
  have e1 := congrArg List.getLast? h
  have e2 := congrArg List.dropLast h
  unfold cw at e1 e2
  rw [List.getLast?_concat, List.getLast?_concat] at e1
  rw [List.dropLast_concat, List.dropLast_concat] at e2
  have e3 := Option.some.inj e1
  have key : ∀ {n m : Int}, 1 ≤ n → 1 ≤ m → numL n.toNat = numL m.toNat → n = m := fun h1 h2 z => by
    have := numL_inj z
    omega
  cases c <;> cases d <;> simp only [letC] at e3 <;> first
    | rfl
    | exact absurd e3 (by decide)
    | rw [key hc hd e2]
theorem cws_inj : ∀ {cs ds : List Cmd}, AllOk cs → AllOk ds → cs.map cw = ds.map cw → cs = ds
  | [], [], _, _, _ => rfl
  | [], _ :: _, _, _, h => by cases h
  | _ :: _, [], _, _, h => by cases h
  | c :: cs, d :: ds, h1, h2, h => by
    rw [List.map_cons, List.map_cons] at h
    injection h with e1 e2
    rw [cw_inj (h1 c List.mem_cons_self) (h2 d List.mem_cons_self) e1, cws_inj (fun x hx => h1 x (List.mem_cons_of_mem _ hx)) (fun x hx => h2 x (List.mem_cons_of_mem _ hx)) e2]
theorem join_words {cs : List Cmd} (h : cs ≠ []) : spl [32] 0 [] (joinL [32] (cs.map cw)) = cs.map cw :=
  spl_join (fun e => h (List.map_eq_nil_iff.mp e)) fun p hp => by
    obtain ⟨c, _, rfl⟩ := List.mem_map.mp hp
    exact cw_free c
theorem none_words : spl [32] 0 [] noneL = [noneL] := by decide +kernel
theorem none_no {cs : List Cmd} (h : cs ≠ []) : joinL [32] (cs.map cw) ≠ noneL := fun e => by
  have z := join_words h
  rw [e, none_words] at z
  cases cs with
  | nil => exact h rfl
  | cons c cs =>
    rw [List.map_cons] at z
    injection z with z1 z2
    have z3 := congrArg List.getLast? z1
    unfold cw at z3
    rw [List.getLast?_concat] at z3
    have z4 : (101 : Nat) = letC c := Option.some.inj z3
    have := letC_ge c
    omega
theorem shownL_inj {cs ds : List Cmd} (h1 : AllOk cs) (h2 : AllOk ds) (h : shownL cs = shownL ds) : cs = ds := by
  unfold shownL at h
  by_cases c : cs = []
  · by_cases d : ds = []
    · rw [c, d]
    · rw [if_pos c, if_neg d] at h
      exact absurd h.symm (none_no d)
  · by_cases d : ds = []
    · rw [if_neg c, if_pos d] at h
      exact absurd h (none_no c)
    · rw [if_neg c, if_neg d] at h
      have z1 := join_words c
      rw [h, join_words d] at z1
      exact (cws_inj h2 h1 z1).symm
theorem shownS_inj {cs ds : List Cmd} (h1 : AllOk cs) (h2 : AllOk ds) (h : shownS cs = shownS ds) : cs = ds := shownL_inj h1 h2 (mkS_inj h)
/-! lengths -/
theorem digC_len {c : Cmd} (h : numC c < 10 ^ 40) : (digC c).length ≤ 40 := by
  have key : ∀ n : Int, n < 10 ^ 40 → (numL n.toNat).length ≤ 40 := fun n hn => numL_len (k := 40) (by decide) (by omega)
  cases c with
  | down n => exact key n h
  | up n => exact key n h
  | right n => exact key n h
  | left n => exact key n h
  | home => exact Nat.zero_le _
  | stop => exact Nat.zero_le _
theorem cw_len {c : Cmd} (h : numC c < 10 ^ 40) : (cw c).length ≤ 41 := by
  unfold cw
  rw [List.length_append, List.length_singleton]
  have := digC_len h
  omega
theorem joinL_len {k : Nat} : ∀ {ps : List (List Nat)}, (∀ p ∈ ps, p.length ≤ k) → (joinL [32] ps).length ≤ (k + 1) * ps.length
  | [], _ => Nat.zero_le _
  | [p], h => by
    have := h p (List.mem_singleton.mpr rfl)
    show p.length ≤ (k + 1) * 1
    omega
  | p :: q :: r, h => by
    have h1 := h p List.mem_cons_self
    have h2 := joinL_len (ps := q :: r) fun x hx => h x (List.mem_cons_of_mem _ hx)
    show (p ++ ([32] ++ joinL [32] (q :: r))).length ≤ _
    rw [List.length_append, List.length_append, List.length_singleton, List.length_cons (a := p), Nat.mul_succ]
    omega
theorem shownL_len {cs : List Cmd} (h : ∀ c ∈ cs, numC c < 10 ^ 40) : (shownL cs).length ≤ 42 * cs.length + 4 := by
  unfold shownL
  by_cases c : cs = []
  · rw [if_pos c]
    exact Nat.le_add_left _ _
  · rw [if_neg c]
    have := joinL_len (k := 41) (ps := cs.map cw) fun p hp => by
      obtain ⟨d, hd, rfl⟩ := List.mem_map.mp hp
      exact cw_len (h d hd)
    rw [List.length_map] at this
    omega
/-- one more word behind -/
theorem joinL_snoc : ∀ {ps : List (List Nat)} {p : List Nat}, ps ≠ [] → joinL [32] (ps ++ [p]) = joinL [32] ps ++ ([32] ++ p)
  | [], _, h => absurd rfl h
  | [q], p, _ => rfl
  | q :: r :: s, p, _ => by
    show q ++ ([32] ++ joinL [32] ((r :: s) ++ [p])) = (q ++ ([32] ++ joinL [32] (r :: s))) ++ ([32] ++ p)
    rw [joinL_snoc (by simp)]
    simp [List.append_assoc]
theorem joinL_nil_iff : ∀ {ps : List (List Nat)}, (∀ p ∈ ps, p ≠ []) → (joinL [32] ps = [] ↔ ps = [])
  | [], _ => ⟨fun _ => rfl, fun _ => rfl⟩
  | [p], h => ⟨fun e => absurd e (h p (List.mem_singleton.mpr rfl)), fun e => nomatch e⟩
  | p :: q :: r, h => ⟨fun e => by
      have e2 : p ++ ([32] ++ joinL [32] (q :: r)) = [] := e
      simp at e2, fun e => nomatch e⟩
/-! equal lists of commands, as data -/
theorem eqv_cmd (c d : Cmd) : PyData.eqv (cmdD c) (cmdD d) = decide (c = d) := by
  cases c <;> cases d <;> simp [cmdD, PyData.eqv, PyData.eqvAll]
  all_goals first
    | decide +kernel
    | rw [Bool.eq_iff_iff, beq_iff_eq, decide_eq_true_eq]
    | (intro h; exact absurd h (by decide +kernel))
theorem eqvAll_cmds : ∀ cs ds : List Cmd, PyData.eqvAll (cs.map cmdD) (ds.map cmdD) = decide (cs = ds)
  | [], [] => by simp [PyData.eqvAll]
  | [], _ :: _ => by simp [PyData.eqvAll]
  | _ :: _, [] => by simp [PyData.eqvAll]
  | c :: cs, d :: ds => by
    rw [List.map_cons, List.map_cons, PyData.eqvAll, eqv_cmd, eqvAll_cmds cs ds]
    simp
theorem eqv_cmds (cs ds : List Cmd) : PyData.eqv (.list (cs.map cmdD)) (.list (ds.map cmdD)) = decide (cs = ds) := by
  rw [PyData.eqv]
  exact eqvAll_cmds cs ds
end Gc
namespace Gc
open PySem PyProof.Rows L2 TL
theorem depth_cmds : ∀ cs : List Cmd, PyData.depthAll (cs.map cmdD) ≤ 1
  | [] => by simp [PyData.depthAll]
  | c :: cs => by
    have := depth_cmds cs
    cases c <;> simp [PyData.depthAll, PyData.depth, cmdD, this]
theorem lay_cmds : ∀ cs : List Cmd, PyData.canLayAll0 (cs.map cmdD) = true
  | [] => by simp [PyData.canLayAll0]
  | c :: cs => by
    have h1 : PyData.strOk "down" = true := by decide +kernel
    have h2 : PyData.strOk "up" = true := by decide +kernel
    have h3 : PyData.strOk "right" = true := by decide +kernel
    have h4 : PyData.strOk "left" = true := by decide +kernel
    have h5 : PyData.strOk "home" = true := by decide +kernel
    have h6 : PyData.strOk "end" = true := by decide +kernel
    cases c <;> simp [PyData.canLayAll0, PyData.canLay0, cmdD, lay_cmds cs, h1, h2, h3, h4, h5, h6]
theorem shaped_cmds (cs : List Cmd) : SeqAt.shaped (.list (cs.map cmdD)) = true := by
  have h2 := depth_cmds cs
  have hd : (PyData.list (cs.map cmdD)).depth ≤ 64 := by
    simp only [PyData.depth]
    omega
  unfold SeqAt.shaped
  rw [decide_eq_true hd]
  simp [PyData.canLay0, lay_cmds cs]
/-- one more word of what is written -/
theorem shown_step (cs : List Cmd) (i : Nat) (c : Cmd) (h : cs[i]? = some c) :
    joinL [32] ((cs.take (i + 1)).map cw) = joinL [32] ((cs.take i).map cw) ++ (if i = 0 then [] else [32]) ++ digC c ++ [letC c] := by
  have e : cs.take (i + 1) = cs.take i ++ [c] := by
    rw [List.take_add_one, h]
    rfl
  rw [e, List.map_append, List.map_singleton]
  by_cases z : i = 0
  · subst z
    simp [joinL, cw]
  · have ne : (cs.take i).map cw ≠ [] := by
      intro q
      have q2 := congrArg List.length q
      have li := (List.getElem?_eq_some_iff.mp h).1
      rw [List.length_map, List.length_take, List.length_nil] at q2
      omega
    rw [joinL_snoc ne, if_neg z]
    simp [cw, List.append_assoc]
theorem shown_nil (cs : List Cmd) (i : Nat) (c : Cmd) (h : cs[i]? = some c) : joinL [32] ((cs.take i).map cw) = [] ↔ i = 0 := by
  rw [joinL_nil_iff (fun p hp => by
    obtain ⟨c, _, rfl⟩ := List.mem_map.mp hp
    exact cw_ne c)]
  have li := (List.getElem?_eq_some_iff.mp h).1
  constructor
  · intro q
    have q2 := congrArg List.length q
    rw [List.length_map, List.length_take, List.length_nil] at q2
    omega
  · intro q
    subst q
    rfl
end Gc

/-! words read back: slices, digits, dicts of the module -/
namespace Gc
open PySem PyProof.Rows L2 TL
theorem mk_size (l : List Nat) : (mkS l).length = l.length := mkS_len l
theorem cut_front (l : List Nat) (x : Nat) : cutS (mkS (l ++ [x])) none (some (-1)) = mkS l := by
  refine ext_tl ?_
  show ((l ++ [x]).drop (HT.sIx (mkS (l ++ [x])).length 0 none)).take (HT.sIx (mkS (l ++ [x])).length (mkS (l ++ [x])).length (some (-1)) - HT.sIx (mkS (l ++ [x])).length 0 none) = l
  rw [mkS_len, List.length_append]
  have h1 : HT.sIx (l.length + [x].length) 0 none = 0 := rfl
  have h2 : HT.sIx (l.length + [x].length) (l.length + [x].length) (some (-1)) = l.length := by
    unfold HT.sIx
    simp
    try omega
  rw [h1, h2]
  simp
theorem cut_back (l : List Nat) (x : Nat) : cutS (mkS (l ++ [x])) (some (-1)) none = mkS [x] := by
  refine ext_tl ?_
  show ((l ++ [x]).drop (HT.sIx (mkS (l ++ [x])).length 0 (some (-1)))).take (HT.sIx (mkS (l ++ [x])).length (mkS (l ++ [x])).length none - HT.sIx (mkS (l ++ [x])).length 0 (some (-1))) = [x]
  rw [mkS_len, List.length_append]
  have h1 : HT.sIx (l.length + [x].length) (l.length + [x].length) none = l.length + 1 := rfl
  have h2 : HT.sIx (l.length + [x].length) 0 (some (-1)) = l.length := by
    unfold HT.sIx
    simp
    try omega
  rw [h1, h2]
  simp
theorem int_mk (n : Nat) (h : (numL n).length ≤ 640) : intText? (mkS (numL n)) = some (n : Int) := by
  have e : mkS (numL n) = Str.ofString (toString ((n : Nat) : Int)) := ext_tl (tl_num n).symm
  rw [e]
  exact int_num (by omega)
theorem numL_head : ∀ {n : Nat}, 1 ≤ n → ∃ a l, numL n = a :: l ∧ 49 ≤ a ∧ a ≤ 57 := fun {n} hn => by
  induction n using Nat.strongRecOn with
  | ind n ih =>
    rcases Nat.lt_or_ge n 10 with h | h
    · exact ⟨48 + n, [], numL_lt h, by omega, by omega⟩
    · obtain ⟨a, l, e, h1, h2⟩ := ih (n / 10) (by omega) (by omega)
      refine ⟨a, l ++ [48 + n % 10], ?_, h1, h2⟩
      rw [numL_step h, e]
      rfl
theorem str_beq (a b : Str) : (a == b) = decide (a = b) := by
  by_cases h : a = b
  · subst h
    simp
  · rw [decide_eq_false h]
    exact beq_eq_false_iff_ne.mpr h
/-- what a written dict of the module says of a key -/
theorem ns_dict {K : PySem.W.Frag} {a : Addr} {c : Value} {od : Option Addr} {es : Array DictEntry} {n : Nat} {sl : Array (Option Value)} (l : K.lookup a = some ⟨c, od, .dict es n, sl⟩) (r : es.toList.any (·.refKey) = false) (x : Str) :
    PySem.W.nsIn K a x = some ((es.toList.find? (·.key.isStr x)).map (·.val)) := by
  unfold PySem.W.nsIn
  rw [l]
  dsimp only
  cases h : es.toList.find? (·.key.isStr x) with
  | some e => rfl
  | none =>
    dsimp only
    rw [r]
    rfl
theorem word_ne {l : List Nat} {a b : Nat} (h : a ≠ b) : mkS (l ++ [a]) ≠ mkS [b] := fun z => by
  have q := congrArg List.getLast? (mkS_inj z)
  rw [List.getLast?_concat] at q
  exact h (Option.some.inj q)
theorem one_no {a b : Nat} (h : a ≠ b) : V.bl (decide (V.str ⟨#[a]⟩ = V.str (mkS [b]))) = V.bl false := by
  rw [decide_eq_false fun z => h ?_]
  have q := mkS_inj (l := [a]) (m := [b]) (V.str.inj z)
  exact (List.cons.inj q).1
theorem mk_tl (x : Str) : mkS (tl x) = x := ext_tl rfl
theorem split_shown {cs : List Cmd} (h : cs ≠ []) (hk : ¬ Builtin.Str.strKind (shownS cs) < Builtin.Str.strKind " ") : Txt.split (shownS cs) " " = cs.map fun c => mkS (cw c) := by
  have e := split_spl (shownS cs) " " (by decide +kernel) hk
  have t1 : tl (" " : Str) = [32] := by decide +kernel
  have t2 : tl (shownS cs) = joinL [32] (cs.map cw) := by
    unfold shownS shownL
    rw [if_neg h]
    rfl
  rw [t1, t2, join_words h] at e
  have q := congrArg (List.map mkS) e
  rw [List.map_map, List.map_map] at q
  rw [← List.map_id (Txt.split (shownS cs) " ")]
  have i : (mkS ∘ tl) = id := funext mk_tl
  rw [i] at q
  exact q
/-- an entry of a written dict -/
def entD (P : Params) (kv : Str × Tok × Str × Tok) : DictEntry := ⟨PyData.keyHash P kv.1, .str kv.1 kv.2.1, .str kv.2.2.1 kv.2.2.2⟩
theorem find_ent (P : Params) (x : Str) : ∀ l : List (Str × Tok × Str × Tok), ((l.map (entD P)).find? (·.key.isStr x)).map (·.val) = (l.find? fun kv => decide (kv.1 = x)).map fun kv => .str kv.2.2.1 kv.2.2.2
  | [] => rfl
  | kv :: l => by
    rw [List.map_cons, List.find?_cons, List.find?_cons]
    have e : (entD P kv).key.isStr x = decide (kv.1 = x) := str_beq kv.1 x
    rw [e]
    by_cases h : kv.1 = x
    · rw [decide_eq_true h]
      rfl
    · rw [decide_eq_false h]
      exact find_ent P x l
theorem ent_lit (P : Params) : ∀ l : List (Str × Tok × Str × Tok), PySem.W.KeysLit P (l.map (entD P))
  | [] => trivial
  | kv :: l => ⟨⟨kv.1, kv.2.1, rfl, rfl⟩, ent_lit P l⟩
theorem ent_ref (P : Params) : ∀ l : List (Str × Tok × Str × Tok), (l.map (entD P)).any (·.refKey) = false
  | [] => rfl
  | kv :: l => by
    rw [List.map_cons, List.any_cons, ent_ref P l]
    rfl
theorem ns_ent {K : PySem.W.Frag} {P : Params} {a : Addr} {c : Value} {od : Option Addr} {l : List (Str × Tok × Str × Tok)} {n : Nat} {sl : Array (Option Value)} (h : K.lookup a = some ⟨c, od, .dict (l.map (entD P)).toArray n, sl⟩) (x : Str) :
    PySem.W.nsIn K a x = some ((l.find? fun kv => decide (kv.1 = x)).map fun kv => .str kv.2.2.1 kv.2.2.2) := by
  rw [ns_dict h (ent_ref P l) x]
  exact congrArg some (find_ent P x l)
theorem kd_ent {K : PySem.W.Frag} {w : World} {a : Addr} {l : List (Str × Tok × Str × Tok)} {n : Nat} (h : K.lookup a = some ⟨.type "dict", none, .dict (l.map (entD w.params)).toArray n, #[]⟩) (lo : (a == sysModules) = false) : KDict K w a (l.map (entD w.params)).toArray n :=
  ⟨h, ent_lit w.params l, lo⟩
end Gc

/-! lists that lead every goal to the same goal have the same boxes, and so the same form -/
namespace Gc
/-- the same goals, on all lines -/
def Alike (cs ds : List Cmd) : Prop := last cs = last ds ∧ ∀ (T : Int → Int) (r : Int) (a : Option Int), (∀ k, 0 ≤ T k) → ge a 0 → aimF T r a cs = aimF T r a ds
theorem Alike.refl (cs : List Cmd) : Alike cs cs := ⟨rfl, fun _ _ _ _ _ => rfl⟩
theorem Alike.symm {cs ds : List Cmd} (h : Alike cs ds) : Alike ds cs := ⟨h.1.symm, fun T r a hT ha => (h.2 T r a hT ha).symm⟩
theorem Alike.trans {cs ds es : List Cmd} (h : Alike cs ds) (g : Alike ds es) : Alike cs es := ⟨h.1.trans g.1, fun T r a hT ha => (h.2 T r a hT ha).trans (g.2 T r a hT ha)⟩
theorem last_two (a b : List Cmd) : last (a ++ b) = last a + last b := last_app a b
theorem Alike.around {u v : List Cmd} (h : Alike u v) (xs ys : List Cmd) (ok : AllOk xs) : Alike (xs ++ u ++ ys) (xs ++ v ++ ys) := by
  refine ⟨by rw [last_two, last_two, last_two, last_two, h.1], fun T r a hT ha => ?_⟩
  rw [aimF_app, aimF_app, aimF_app, aimF_app, last_two, last_two, h.1, h.2 T _ _ hT (aimF_nn hT ok ha)]
/-- the start that a box asks for -/
def startOf (st : Option Int) : Option Int := some (st.getD 0)
theorem val_at {b : Ps} (g : Good b) : val (b.mergeSort leK) = val b := val_perm g (List.mergeSort_perm b leK)
/-- the least start of a box fulfils it -/
theorem box_self {cs : List Cmd} {v : Int} (ok : AllOk cs) (hv : 1 ≤ v) {st : Option Int} {b : Ps} (e : boxM cs v = some (st, b.mergeSort leK)) (g : Good b) (pos : ∀ n, st = some n → 1 ≤ n) : ge (aimF (val b) 0 (startOf st) cs) v := by
  have a0 : ge (startOf st) 0 := ge_some.mpr (by
    cases st with
    | none => exact Int.le_refl 0
    | some n =>
      have := pos n rfl
      show 0 ≤ n
      omega)
  refine (box_char (fun k => val_nonneg g k) a0 ok hv).mpr ⟨st, _, e, fun n en => ge_some.mpr (by rw [en]; exact Int.le_refl n), fun k => ?_⟩
  rw [val_at g, Int.zero_add]
  exact Int.le_refl _
/-- if the least start of cs fulfils the box of ds, then that box asks for no more -/
theorem box_less {ds : List Cmd} {v : Int} (ok : AllOk ds) (hv : 1 ≤ v) {st : Option Int} {b : Ps} (g : Good b) (pos : ∀ n, st = some n → 1 ≤ n) (h : ge (aimF (val b) 0 (startOf st) ds) v) :
    ∃ st' b', boxM ds v = some (st', b'.mergeSort leK) ∧ Good b' ∧ (∀ n, st' = some n → 1 ≤ n) ∧ (∀ n, st' = some n → ∃ m, st = some m ∧ n ≤ m) ∧ ∀ k, val b' k ≤ val b k := by
  have a0 : ge (startOf st) 0 := ge_some.mpr (by
    cases st with
    | none => exact Int.le_refl 0
    | some n =>
      have := pos n rfl
      show 0 ≤ n
      omega)
  obtain ⟨st', L, e, h1, h2⟩ := (box_char (fun k => val_nonneg g k) a0 ok hv).mp h
  rcases box_spec ok hv with ⟨z, _⟩ | ⟨st2, b', z, g', _, p⟩
  · rw [z] at e
    cases e
  · rw [z] at e
    cases e
    refine ⟨_, b', z, g', p, fun n en => ?_, fun k => ?_⟩
    · have q := ge_some.mp (h1 n en)
      have := p n en
      cases st with
      | none =>
        have q' : n ≤ 0 := q
        omega
      | some m => exact ⟨m, rfl, q⟩
    · have q := h2 k
      rw [val_at g', Int.zero_add] at q
      exact q
theorem box_two {st st' : Option Int} {b b' : Ps} (g : Good b) (g' : Good b') (s1 : ∀ n, st' = some n → ∃ m, st = some m ∧ n ≤ m) (s2 : ∀ n, st = some n → ∃ m, st' = some m ∧ n ≤ m) (l1 : ∀ k, val b' k ≤ val b k) (l2 : ∀ k, val b k ≤ val b' k) :
    (st, b.mergeSort leK) = (st', b'.mergeSort leK) := by
  have e1 : st = st' := by
    cases st with
    | none =>
      cases st' with
      | none => rfl
      | some n =>
        obtain ⟨m, z, _⟩ := s1 n rfl
        cases z
    | some n =>
      obtain ⟨m, z, h⟩ := s2 n rfl
      subst z
      obtain ⟨m', z', h'⟩ := s1 m rfl
      cases z'
      rw [show n = m by omega]
  rw [e1, sort_ext g g' (funext fun k => Int.le_antisymm (l2 k) (l1 k))]
theorem box_sem {cs ds : List Cmd} (okc : AllOk cs) (okd : AllOk ds) {v : Int} (hv : 1 ≤ v) (h : ∀ (T : Int → Int) (a : Option Int), (∀ k, 0 ≤ T k) → ge a 0 → (ge (aimF T 0 a cs) v ↔ ge (aimF T 0 a ds) v)) : boxM cs v = boxM ds v := by
  have nn : ∀ {st : Option Int}, (∀ n, st = some n → 1 ≤ n) → ge (startOf st) 0 := fun {st} pos => ge_some.mpr (by
    cases st with
    | none => exact Int.le_refl 0
    | some n =>
      have := pos n rfl
      show 0 ≤ n
      omega)
  rcases box_spec okc hv with ⟨e1, _⟩ | ⟨st, b, e1, g, _, pos⟩
  · rcases box_spec okd hv with ⟨e2, _⟩ | ⟨st', b', e2, g', _, pos'⟩
    · rw [e1, e2]
    · exfalso
      have q := (h _ _ (fun k => val_nonneg g' k) (nn pos')).mpr (box_self okd hv e2 g' pos')
      obtain ⟨_, _, z, _⟩ := box_less okc hv g' pos' q
      rw [e1] at z
      cases z
  · have q := (h _ _ (fun k => val_nonneg g k) (nn pos)).mp (box_self okc hv e1 g pos)
    obtain ⟨st', b', e2, g', pos', s1, l1⟩ := box_less okd hv g pos q
    have q2 := (h _ _ (fun k => val_nonneg g' k) (nn pos')).mpr (box_self okd hv e2 g' pos')
    obtain ⟨st2, b2, e3, g2, pos2, s2, l2⟩ := box_less okc hv g' pos' q2
    rw [e1] at e3
    have e4 : st = st2 ∧ b.mergeSort leK = b2.mergeSort leK := by
      have z := Option.some.inj e3
      exact ⟨(Prod.mk.inj z).1, (Prod.mk.inj z).2⟩
    have ev : val b = val b2 := by rw [← val_at g, ← val_at g2, e4.2]
    rw [e1, e2]
    refine congrArg some (box_two g g' s1 (fun n hn => ?_) l1 fun k => ?_)
    · rw [e4.1] at hn
      exact s2 n hn
    · rw [ev]
      exact l2 k
theorem Alike.box {cs ds : List Cmd} (h : Alike cs ds) (okc : AllOk cs) (okd : AllOk ds) {v : Int} (hv : 1 ≤ v) : boxM cs v = boxM ds v :=
  box_sem okc okd hv fun T a hT ha => by rw [h.2 T 0 a hT ha]
theorem Alike.form {cs ds : List Cmd} (h : Alike cs ds) (okc : AllOk cs) (okd : AllOk ds) : formM cs = formM ds := (form_eq cs ds).mpr fun v hv => h.box okc okd hv
/-! ### some lists that are alike -/
theorem alike_up (n : Int) : Alike [.down n, .up n] [] := ⟨by show n + (-n + 0) = 0; omega, fun _ _ _ _ _ => rfl⟩
theorem alike_down (n : Int) : Alike [.up n, .down n] [] := ⟨by show -n + (n + 0) = 0; omega, fun _ _ _ _ _ => rfl⟩
theorem alike_right (p n : Int) (hp : 0 ≤ p) (hn : p ≤ n) : Alike [.right p, .right (n - p)] [.right n] := by
  refine ⟨rfl, fun T r a hT ha => ?_⟩
  have t0 := hT (r + 0)
  have t1 := hT r
  simp only [aimF, aim1, Cmd.dv, Int.add_zero, seen] at *
  cases a with
  | none =>
    simp only [seen]
    refine congrArg some ?_
    omega
  | some x =>
    have := ha x rfl
    simp only [seen]
    refine congrArg some ?_
    omega
theorem alike_left (p n : Int) (hp : 0 ≤ p) (hn : p ≤ n) : Alike [.left p, .left (n - p)] [.left n] := by
  refine ⟨rfl, fun T r a hT ha => ?_⟩
  have t1 := hT r
  simp only [aimF, aim1, Cmd.dv, Int.add_zero, seen] at *
  cases a with
  | none =>
    simp only [seen]
    refine congrArg some ?_
    omega
  | some x =>
    have := ha x rfl
    simp only [seen]
    refine congrArg some ?_
    omega
theorem aimF_home (T : Int → Int) (r : Int) (a : Option Int) (xs : List Cmd) : aimF T r a (xs ++ [.home]) = some 0 := by
  rw [aimF_snoc]
  rfl
theorem aimF_stop (T : Int → Int) (r : Int) (a : Option Int) (xs : List Cmd) : aimF T r a (xs ++ [.stop]) = none := by
  rw [aimF_snoc]
  rfl
theorem last_flat : ∀ {xs : List Cmd}, (∀ c ∈ xs, c.dv = 0) → last xs = 0
  | [], _ => rfl
  | c :: xs, h => by
    show c.dv + last xs = 0
    rw [h c List.mem_cons_self, last_flat fun d hd => h d (List.mem_cons_of_mem _ hd)]
    rfl
theorem alike_home {xs : List Cmd} (h : ∀ c ∈ xs, c.dv = 0) : Alike (xs ++ [.home]) [.home] := by
  refine ⟨?_, fun T r a _ _ => by rw [aimF_home]; rfl⟩
  rw [last_two, last_flat h]
  exact Int.zero_add _
theorem alike_stop {xs : List Cmd} (h : ∀ c ∈ xs, c.dv = 0) : Alike (xs ++ [.stop]) [.stop] := by
  refine ⟨?_, fun T r a _ _ => by rw [aimF_stop]; rfl⟩
  rw [last_two, last_flat h]
  exact Int.zero_add _
theorem alike_home_left (n : Int) (hn : 1 ≤ n) : Alike [.home, .left n] [.home] := by
  refine ⟨rfl, fun T r a hT _ => ?_⟩
  have t1 := hT r
  simp only [aimF, aim1, Cmd.dv, Int.add_zero, seen] at *
  refine congrArg some ?_
  omega
end Gc

/-! defs that call repr: what is shown just now is told to be nothing. The law's own defs go so; all others as before -/
namespace Gc
open PySem PySem.Spec PyProof.Rows L2
structure FnG (P : Program) (w : World) (K : PySem.W.Frag) (mg : Str → Option Value) (base : Heap) (k : Nat) (f : Addr) (fd : FuncData) (ps : List Str) (sp : Sp) : Prop where
  len : ∀ vs H Q E, sp vs H Q E → vs.length = ps.length
  run : ∀ (A : Around) (outer : List Env) (s : Shared) (H : Hp) (args : Args) (us : List Value) (vs : List V) (Q : VK) (E : XK), A.guards = some [] → Room k A → Env0 P w K mg base A outer s H →
    BindsTo s fd args (ps.zip us) → Vals vs us → sp vs H Q E → codeAny (model P w) A (.call (.ref f) args) (CR CX0 outer P w H s Q E) s
theorem FnG.of {P : Program} {w : World} {K : PySem.W.Frag} {mg : Str → Option Value} {base : Heap} {k : Nat} {f : Addr} {fd : FuncData} {ps : List Str} {sp : Sp} (F : FnOk P w K mg base CX0 k f fd ps sp) : FnG P w K mg base k f fd ps sp :=
  ⟨F.len, fun A outer s H args us vs Q E _ hr e0 hb hv hs => F.run A outer s H args us vs Q E hr e0 hb hv hs⟩
section
variable {P : Program} {w : World} {K : PySem.W.Frag} {mg : Str → Option Value} {base : Heap}
theorem okG {x qual : Str} {st : Stmt} {f : Addr} {fd : FuncData} {N ps : List Str} {k : Nat} {sp : Sp} (F : Fun K x qual st f fd) (S : FnScope N ps (defScope st)) (len : ∀ vs H Q E, sp vs H Q E → vs.length = ps.length)
    (hbody : ∀ (cdv : Value) (A : Around) (outer : List Env) (s : Shared) (H : Hp) (vs : List V) (Q : VK) (E : XK), (A.deeper (envOfC qual (defScope st) s.heap.objs.size f cdv)).guards = some [] → Room k (A.deeper (envOfC qual (defScope st) s.heap.objs.size f cdv)) → sp vs H Q E →
      ∃ t, PSs (cxOf CX0 P w K mg base N qual (defScope st) f cdv A outer s H E).nox (defBody st) t ∧ t { nx := fun _ H' => Q .non H', rt := Q } (start N vs) H) : FnG P w K mg base (k + 1) f fd ps sp := by
  obtain ⟨oc, od, kV, doc, pm, an, cdv, ct, osl, rfl, lk, hcd⟩ := F.ex
  refine ⟨len, fun A outer s H args us vs Q E hg hr e0 hb r hsp => ?_⟩
  have n := len _ _ _ _ hsp
  have same : ∀ b o, base.get? b = some o → s.heap.get? b = some o := fun b o e => (e0.bs b o e).1
  have kin : K.In s.heap := e0.mod.kin.keeps same
  have kinds : ∀ y ∈ ps.zip us, (defScope st).names.lookup y.1 = some .local ∨ ((defScope st).names.lookup y.1 = some .cell ∧ ((cellsFrom (s.heap.objs.size + 1) (defScope st).names []).lookup y.1).isSome = true) := by
    rintro ⟨y, v⟩ hy
    exact (S.par y (List.of_mem_zip hy).1).imp id fun q => ⟨q, PySem.W.cellsFrom_some _ _ _ (.inl q)⟩
  refine codeAny_call_function hr.depth (kin _ _ lk) rfl S.co S.gen rfl (PySem.W.codeRec_of kin hcd) (hb _ _ _ _ (wpAny_newFunctionEnv_cells S.kind kinds fun env he s1 x => ?_))
  subst he
  refine ⟨(e0.mod.nolimit.keeps same).keeps x.toInCall.keep, codeAny_func ?_⟩
  obtain ⟨t, ht, hq⟩ := hbody cdv A outer s H vs Q E hg (hr.deeper _) hsp
  refine wpAny_mono (ht.nox.run [] s1 (start N vs) H _ (inv_start S hr.hd e0 n r x) hq) (fun fl s' hs => ?_) fun e s' hs => hs
  match fl, hs with
  | .ret u, ⟨v, σ', H', J, rv, q⟩ => exact ⟨v, H', J.os, J.bare, J.base, J.hok, rv, q⟩
  | .next, ⟨σ', H', J, q⟩ => exact ⟨V.non, H', J.os, J.bare, J.base, J.hok, rfl, q⟩
  | .brk, ⟨_, _, _, q⟩ => exact q.elim
  | .cont, ⟨_, _, _, q⟩ => exact q.elim
end
section
variable {X : Cx} {k : Nat} {f : Addr} {fd : FuncData} {ps : List Str} {sp : Sp} {x : Str} {p pos : Pos} {e : Expr} {es : List Expr} {t : TA}
/-- a call of such a def -/
theorem pe_callG (F : FnG X.prog X.w X.K X.mg X.base k f fd ps sp) (hg0 : X.A.guards = some []) (hr : Room k X.A) (hg : Gl X x) (hm : X.mg x = some (.ref f)) (hk : PySem.W.keepIn X.K (.ref f) = true) (hb : Binds X.K fd ps [])
    (ha : PA X (e :: es) t) (hdb : (x == ("__debug__" : Str)) = false := by decide) (he : starEach (e :: es) X.env = (false, eval e X.env) :: starEach es X.env := by rfl) (hpl : (backTo pos (starEach es X.env)).any (·.1) = false := by rfl) :
    PE X (.Call (.Name x p) (e :: es) [] pos) (tCall sp [] E0 t) := by
  refine ⟨fun pins s σ H Q I h => ?_⟩
  refine wpAny_Call_Name_kw (ld_glob I hg hm ?_ hdb)
  refine PySem.W.callWith_K (h₀ := X.base) I.ok.mod.kin hk (thn (ha.run pos pins s σ H _ I h) fun us s1 ⟨vs, H1, I1, r, q⟩ => ⟨I1.kIn, ?_⟩) he hpl
  have q' : sp vs H1 Q E0 := by
    have z : sp (vs ++ []) H1 Q E0 := q
    rwa [List.append_nil] at z
  have n := F.len _ _ _ _ q'
  have bd := hb s1 us I1.kIn (by rw [List.append_nil, ← r.length]; exact n)
  rw [List.append_nil] at bd
  refine wpAny_call (codeAny_mono (F.run X.A X.stack s1 H1 ⟨us, []⟩ us vs Q E0 hg0 hr I1.env0 bd r q') fun o s' hq => ?_)
  match o, hq with
  | .error _, z => exact z.elim
  | .ok (.ret _), z => exact I1.after z
  | .ok .next, z => exact z.elim
  | .ok .brk, z => exact z.elim
  | .ok .cont, z => exact z.elim
end
/-! ### repr -/
/-- repr(x), x a list or a tuple of data whose ints are not too wide: its text -/
def rRepr (K : PySem.W.Frag) : List V → Hp → VK → Prop := fun xs H Q => ∃ (a : Addr) (d : PyData), xs = [.ref a] ∧ Dp K H (.ref a) d ∧ d.showable = true ∧ d.hasDict = false ∧ d.depth ≤ 60 ∧ d.shown.length ≤ sizeLine ∧ Q (.str d.shown) H
theorem cr_repr {X : Cx} (hg : X.A.guards = some []) (hu : X.A.units + 64 < cLine) : CallR X (.builtin "repr") (rRepr X.K) := by
  intro pins s σ H xs us Q I r h
  obtain ⟨a, d, rfl, hd, hs, hn, hdp, hz, q⟩ := h
  obtain ⟨u, rfl, ru⟩ := vals1 r
  obtain ⟨as, rd⟩ := Dp.reads I d _ u hd ru
  obtain rfl : u = Value.ref a := ru
  refine PySem.repr_of_reads' rd hs (fun z => by rw [hn] at z; cases z) hg (by omega) (fun _ _ e => e) (fun h' v tk hk => ⟨.str d.shown, H, I.kept hk, ⟨_, rfl⟩, q⟩) hz
/-! ### the law is called from the top, where nothing is shown -/
theorem call_lawG {P : Program} {w : World} {K : PySem.W.Frag} {mg mb : Str → Option Value} {k : Nat} {fa a : Addr} {fd : FuncData} {x : Str} {sp : Sp} {s₁ : Shared} {vs : List Value} {ns : List Int}
    (KX : K.In s₁.heap) (hns : s₁.heap.Ns mainGlobals mg) (hb : s₁.heap.Ns builtinsNs mb) (hbb : ∀ x : Str, x ≠ "__name__" → mb x = bootBuiltins x) (hlim : s₁.heap.NoLimit) (hg : s₁.gens = #[])
    (ha : s₁.heap.get? a = some { cls := .type "list", data := .seq vs.toArray }) (hi : IntsAre vs ns) (hl : ns.length ≤ sizeLine) (hr : Room k callerA)
    (F : ∀ base : Heap, K.In base → base.Ns mainGlobals mg → FnG P w K mg base k fa fd [x] sp) (hbind : ∀ (s : Shared) (u : Value), BindsTo s fd ⟨[u], []⟩ [(x, u)])
    (hsp : ∀ H : Hp, Only H → SqL K H a (ns.map V.int) → sp [.ref a] H (fun v _ => v = .bl true) fun _ _ _ => False) :
    codeAny (model P w) callerA (.call (.ref fa) ⟨[.ref a], []⟩) (fun r s' => r = .ok (.ret (.bool true)) ∧ OldK s₁.heap s'.heap ∧ s'.os = s₁.os ∧ AllBare s'.gens) s₁ := by
  have rv := vals_ints hi
  have lv := hi.length
  -- once the heap that is seen is chosen: at most the script is in it
  have go : ∀ H : Hp, Only H → SqL K H a (ns.map V.int) → HOk P w H s₁.heap → (∀ b u, H b = some u → b = a ∧ K.lookup a = none) →
      codeAny (model P w) callerA (.call (.ref fa) ⟨[.ref a], []⟩) (fun r s' => r = .ok (.ret (.bool true)) ∧ OldK s₁.heap s'.heap ∧ s'.os = s₁.os ∧ AllBare s'.gens) s₁ := by
    intro H hO hS hok hA
    have out : ∀ {b : Addr} {o : Obj}, s₁.heap.get? b = some o → (∀ u, H b = some u → False) → (hidT s₁.heap H).get? b = some o := fun {b o} e n => hidT_get e (by
      cases q : H b with
      | none => rfl
      | some u => exact (n u q).elim)
    have isA : ∀ {b : Addr} {o : Obj} {u : HO}, s₁.heap.get? b = some o → H b = some u → o.data = .seq vs.toArray := fun {b o u} e q => by
      obtain ⟨rfl, _⟩ := hA b u q
      rw [ha] at e
      cases e
      rfl
    have nsOut : ∀ {b : Addr} {m : Str → Option Value}, s₁.heap.Ns b m → (hidT s₁.heap H).Ns b m := fun {b m} ⟨o, es, ep, e, d, r⟩ => ⟨o, es, ep, out e fun u q => (by have z := isA e q; rw [d] at z; cases z), d, r⟩
    have kin : K.In (hidT s₁.heap H) := fun b o e => out (KX b o e) fun u q => by
      obtain ⟨rfl, n⟩ := hA b u q
      rw [n] at e
      cases e
    have md : Mod K mg (hidT s₁.heap H) := ⟨kin, nsOut hns, ⟨mb, nsOut hb, hbb⟩, let ⟨mc, h1, h2⟩ := hlim; ⟨mc, nsOut h1, h2⟩⟩
    have none0 : ∀ b : Addr, b ∈ frs ([] : List Env) → False := fun b z => by
      have z' : b ∈ ([] : List Addr) := z
      cases z'
    have e0 : Env0 P w K mg (hidT s₁.heap H) callerA [] s₁ H := ⟨rfl, md, fun b o e => of_hidT e, Nat.le_of_eq (hidT_size _ _), trivial, fun b z => (none0 b z).elim, hok, .of_eq hg⟩
    refine codeAny_mono ((F _ kin (nsOut hns)).run callerA [] s₁ H ⟨[.ref a], []⟩ [.ref a] [.ref a] _ _ rfl hr e0 (hbind s₁ (.ref a)) (.cons rfl .nil) (hsp H hO hS)) fun r s' h => ?_
    match r, h with
    | .error _, z => exact z.elim
    | .ok .next, z => exact z.elim
    | .ok .brk, z => exact z.elim
    | .ok .cont, z => exact z.elim
    | .ok (.ret u), ⟨v, H', os, bare, un, hok', r', q⟩ =>
      obtain rfl : v = .bl true := q
      obtain rfl : u = Value.bool true := r'
      refine ⟨rfl, OldK.of_keep fun b o e => ?_, os, bare⟩
      cases q : H b with
      | none => exact un.keep b o e q (fun z => (none0 b z).elim) (by simp)
      | some u =>
        rcases hO b with z | ⟨ob, xs, z⟩
        · rw [q] at z
          cases z
        · obtain ⟨e1, _⟩ := hok b _ z
          obtain ⟨e2, _⟩ := hok' b _ (un.frzs b ob _ z)
          rw [e] at e1
          cases e1
          exact e2
  cases hk : K.lookup a with
  | some o =>
    have e := KX a o hk
    rw [ha] at e
    cases e
    exact go (fun _ => none) (fun _ => .inl rfl) (.inr ⟨_, vs.toArray, _, hk, rfl, rfl, rfl, by rw [List.size_toArray, lv]; exact hl, by simpa using rv⟩) (fun b u z => nomatch (show (none : Option HO) = some u from z)) fun b u z => nomatch (show (none : Option HO) = some u from z)
  | none =>
    have at' : ∀ {b : Addr} {u : HO}, (if b = a then some (HO.frz { cls := .type "list", data := .seq vs.toArray } (.lst (ns.map V.int))) else none) = some u → b = a ∧ u = .frz { cls := .type "list", data := .seq vs.toArray } (.lst (ns.map V.int)) := fun {b u} z => by
      by_cases h : b = a
      · rw [if_pos h] at z
        exact ⟨h, (Option.some.inj z).symm⟩
      · rw [if_neg h] at z
        cases z
    refine go (fun b => if b = a then some (.frz { cls := .type "list", data := .seq vs.toArray } (.lst (ns.map V.int))) else none) (fun b => ?_) (.inl (.inr ⟨{ cls := .type "list", data := .seq vs.toArray }, if_pos rfl⟩)) (fun b u z => ?_) fun b u z => ⟨(at' z).1, hk⟩
    · by_cases h : b = a
      · exact .inr ⟨_, _, if_pos h⟩
      · exact .inl (if_neg h)
    · obtain ⟨rfl, rfl⟩ := at' z
      exact ⟨ha, by rw [List.length_map]; exact hl, vs, _, rv, ha⟩
/-- the head's last goal, from such a law -/
theorem walk_G {l : PySem.W.OpenLaw} {n k : Nat} {q : Program} {loose : List Str} {XP : (Str → Option Value) → Heap → Prop} {YP : World → Heap → Prop} {d : DefRec} {K : Params → PySem.W.Frag} {sp : World → Sp} {x : Str}
    (hn : l.most = some n) (hn2 : n ≤ sizeLine) (hdf : d.params.defaults = []) (hr : Room k callerA) (hY : ∀ (w : World) (h : Heap), YP w h → (K w.params).In h)
    (F : ∀ (w : World) (mg : Str → Option Value) (fa : Addr) (h : Heap), (K w.params).In h → h.Ns mainGlobals mg → mg d.name = some (.ref fa) →
      ∃ fd : FuncData, (∀ (s : Shared) (u : Value), BindsTo s fd ⟨[u], []⟩ [(x, u)]) ∧ ∀ base : Heap, (K w.params).In base → base.Ns mainGlobals mg → FnG l.prog w (K w.params) mg base k fa fd [x] (sp w))
    (hsp : ∀ (w : World) (H : Hp) (a : Addr) (ns : List Int), ns.length ≤ n → Only H → SqL (K w.params) H a (ns.map V.int) → sp w [.ref a] H (fun v _ => v = .bl true) fun _ _ _ => False) :
    PySem.W.WalkO q loose XP YP l.row.toRowW d [] (fun f vs => PySem.call f vs) := by
  refine Att.attach_call hn hdf fun w s₀ s₁ mg mb fa o pm cd doc a vs ns G Y ho hd hcd hmg hobj hints hlen hg => ?_
  have KX := hY w _ Y
  obtain ⟨fd, hb, hF⟩ := F w mg fa _ KX G.T.g hmg
  exact call_lawG KX G.T.g G.T.b G.T.builtins G.T.nolimit hg hobj hints (Nat.le_trans hlen hn2) hr hF hb fun H hO hS => hsp w H a ns hlen hO hS
end Gc

/-! calls by names alone, the names in the other order: f(b=.., a=..) of def f(a, b) -/
namespace Gc
open PySem PySem.Spec PyProof.Rows L2
def gRev {α : Type} (us ws : List α) : List α := us ++ ws.reverse
theorem vals_rev : ∀ {vs : List V} {us : List Value}, Vals vs us → Vals vs.reverse us.reverse
  | _, _, .nil => .nil
  | v :: vs, u :: us, .cons h t => by
    rw [List.reverse_cons, List.reverse_cons]
    exact (vals_rev t).append (.cons h .nil)
structure CalK (P : Program) (w : World) (K : PySem.W.Frag) (mg : Str → Option Value) (base : Heap) (k : Nat) (x : Str) (ks : List Str) (sp : Sp) : Prop where
  ex : ∃ (f : Addr) (fd : FuncData) (ps : List Str), FnOk P w K mg base CX0 k f fd ps sp ∧ mg x = some (.ref f) ∧ PySem.W.keepIn K (.ref f) = true ∧ KBinds K fd ps ks gRev gRev
/-- how it binds: h is «fun _ _ _ _ _ _ us ws hl => match us, ws, hl with | [], [_, _], _ => rfl | [_], [_], _ => rfl | [_, _], [], _ => rfl» -/
theorem bindsK {K : PySem.W.Frag} {x qual : Str} {st : Stmt} {f : Addr} {fd : FuncData} {ps ks : List Str} (F : Fun K x qual st f fd)
    (h : ∀ (kV doc pm : Value) (an : Option Addr) (cdv ct : Value) (us ws : List Value), (gRev us ws).length = ps.length → bindArgs (PySem.W.fnOf x qual (defArgs st) (defBody st) (defScope st) .none kV doc pm an cdv ct) ⟨us, ks.zip ws⟩ = pure (ps.zip (gRev us ws))) : KBinds K fd ps ks gRev gRev := by
  obtain ⟨oc, od, kV, doc, pm, an, cdv, ct, osl, rfl, lk, hcd⟩ := F.ex
  exact ⟨fun s us ws _ hl => .of_eq (h kV doc pm an cdv ct us ws hl), fun a b => a.append (vals_rev b)⟩
theorem pe_calK {X : Cx} {k j : Nat} {x : Str} {ks : List Str} {sp : Sp} {p pos : Pos} {kws : List Keyword} {tk : TA} (c : CalK X.prog X.w X.K X.mg X.base k x ks sp) (hr : Room j X.A) (hk : k ≤ j) (hg : Gl X x) (hkw : PK X kws tk)
    (hdb : (x == ("__debug__" : Str)) = false := by decide) (hall : (backToKw pos (keywordEach kws X.env)).all (·.1.isSome) = true := by rfl) (hks : (backToKw pos (keywordEach kws X.env)).filterMap (·.1) = ks := by rfl)
    (hpn : ((backTo pos (starEach [] X.env)).any (·.1) || (backToKw pos (keywordEach kws X.env)).any (·.1.isNone)) = false := by rfl) :
    PE X (.Call (.Name x p) [] kws pos) (tCallK sp gRev E0 tNil tk) := by
  obtain ⟨f, fd, ps, F, hm, kp, b⟩ := c.ex
  refine ⟨fun pins s σ H Q I h => ?_⟩
  refine wpAny_Call_Name_kw (ld_glob I hg hm ?_ hdb)
  refine PySem.W.callWith_KW0 (h₀ := X.base) I.ok.mod.kin kp hall ?_ hpn
  refine thn (hkw.run pos pins s σ H _ I h) fun ws s1 ⟨zs, H1, I1, rz, q⟩ => ⟨I1.kIn, ?_⟩
  rw [hks]
  exact run_fnk (us := []) (vs := []) F (hr.mono hk) b pass0 I1 .nil rz q
end Gc

namespace Gc
open PySem L2
def top (i : Nat) : Stmt := PySem.Challenge.pw_goalcolumn_k10_forms_are_boxes.main.body.getD i (.Pass ⟨0, 0, 0, 0⟩)
abbrev s_is_count : Stmt := top 10
abbrev s_is_command : Stmt := top 9
abbrev s_check_commands : Stmt := top 8
abbrev s_row_change : Stmt := top 14
structure TxtB (K : PySem.W.Frag) (mg : Str → Option Value) (wo wn : Addr) : Prop where
  g_WITHOUT_NUMBER : mg "WITHOUT_NUMBER" = some (.ref wo)
  g_WITH_NUMBER : mg "WITH_NUMBER" = some (.ref wn)
  tWO : ∀ H, SqT K H wo [.str "home", .str "end"]
  tWN : ∀ H, SqT K H wn [.str "down", .str "up", .str "right", .str "left"]
  isinstance : mg "isinstance" = none
  int : mg "int" = none
  bool : mg "bool" = none
  len : mg "len" = none
  enumerate : mg "enumerate" = none
  reversed : mg "reversed" = none
  sorted : mg "sorted" = none
  max : mg "max" = none
  min : mg "min" = none
def spCount : Sp := fun vs H Q _ => ∃ n : Int, vs = [.int n] ∧ 1 ≤ n ∧ Q (.bl true) H
def spIsCmd (K : PySem.W.Frag) : Sp := fun vs H Q _ => ∃ (v : V) (c : Cmd), vs = [v] ∧ CmdAt K H v c ∧ c.ok ∧ ∀ H', Same H H' → Q (.bl true) H'
def spCheck (K : PySem.W.Frag) : Sp := fun vs H Q _ => ∃ (l : Addr) (xs : List V) (cs : List Cmd), vs = [.ref l] ∧ SqL K H l xs ∧ CmdsOf K H xs cs ∧ AllOk cs ∧ cs.length ≤ 10000 ∧ ∀ H', Same H H' → Q .non H'
def spRow (K : PySem.W.Frag) : Sp := fun vs H Q _ => ∃ (v : V) (c : Cmd), vs = [v] ∧ CmdAt K H v c ∧ Q (.int c.dv) H
theorem q_in {H : Hp} {Q : VK} {x : V} {xs : List V} (h : inV x xs = true) (k : Q (.bl true) H) : Q (.bl (if (false : Bool) = true then !inV x xs else inV x xs)) H := by
  rw [if_neg Bool.false_ne_true, h]
  exact k
theorem take_snoc {α : Type} : ∀ {l : List α} {i : Nat} {x : α}, l[i]? = some x → l.take (i + 1) = l.take i ++ [x]
  | [], i, x, h => by simp at h
  | a :: l, 0, x, h => by
    obtain rfl := Option.some.inj h
    rfl
  | a :: l, i + 1, x, h => by
    have ih := take_snoc (l := l) (i := i) (x := x) h
    show a :: l.take (i + 1) = a :: l.take i ++ [x]
    rw [ih]
    rfl
def optV : Option Int → V
  | none => .non
  | some n => .int n
theorem m_no {y z : Str} {tb : TS} {r : TM} {D : Ends} {σ : L2.St} {H : Hp} (h : decide (y = z) = false) (q : r (.str y) D σ H) : mStr z tb r (.str y) D σ H := ⟨y, rfl, by rw [h]; exact iteF q⟩
theorem m_yes {y z : Str} {tb : TS} {r : TM} {D : Ends} {σ : L2.St} {H : Hp} (h : decide (y = z) = true) (q : tb D σ H) : mStr z tb r (.str y) D σ H := ⟨y, rfl, by rw [h]; exact iteT q⟩
section
variable {P : Program} {w : World} {K : PySem.W.Frag} {mg : Str → Option Value} {base : Heap} {wo wn : Addr}
theorem sc_is_count : FnScope ["number"] ["number"] (defScope s_is_count) := ⟨rfl, rfl, rfl, by decide +kernel, rfl, by decide +kernel, by decide +kernel⟩
theorem ok_is_count {f : Addr} {fd : FuncData} (F : Fun K "is_count" "is_count" s_is_count f fd) (T : TxtB K mg wo wn) : FnOk P w K mg base CX0 1 f fd ["number"] spCount := by
  refine F.ok sc_is_count (fun vs H Q E h => ?_) (fun cdv A outer s H vs Q E hr h => ?_)
  · obtain ⟨n, rfl, _⟩ := h
    rfl
  · obtain ⟨n, rfl, hn, k⟩ := h
    refine ⟨_, (pss_one (ps_ret (pe_and (pe_callB call_isi (by rfl) T.isinstance (by decide +kernel) (pa_cons (pv 0) (pa_cons (pe_bltn (v := .ty "int") (u := .type "int") (by rfl) T.int (by decide +kernel) rfl) pa_nil))) (pe_and (pe_not (pe_callB call_isi (by rfl) T.isinstance (by decide +kernel) (pa_cons (pv 0) (pa_cons (pe_bltn (v := .ty "bool") (u := .type "bool") (by rfl) T.bool (by decide +kernel) rfl) pa_nil)))) (pe_one (pe_cmpR op_ge (pv 0) pe_int (nomark _))))))), ?_⟩
    refine ⟨_, rfl, _, _, _, _, _, rfl, .ty "int", .base (.int n), kit_ty (show kitB "int" "int" = some true by decide +kernel), _, rfl, iteT ?_⟩
    refine ⟨_, rfl, _, _, _, _, _, rfl, .ty "bool", .base (.int n), kit_ty (show kitB "int" "bool" = some false by decide +kernel), _, rfl, _, rfl, iteT ?_⟩
    refine ⟨_, rfl, _, _, rfl, rfl, ?_⟩
    show Q (.bl (decide (1 ≤ n))) H
    rw [decide_eq_true hn]
    exact k
theorem sc_is_command : FnScope ["command"] ["command"] (defScope s_is_command) := ⟨rfl, rfl, rfl, by decide +kernel, rfl, by decide +kernel, by decide +kernel⟩
theorem ok_is_command {f : Addr} {fd : FuncData} (F : Fun K "is_command" "is_command" s_is_command f fd) (T : TxtB K mg wo wn) (c_is_count : Cal P w K mg base 1 "is_count" spCount) : FnOk P w K mg base CX0 2 f fd ["command"] (spIsCmd K) := by
  refine F.ok sc_is_command (fun vs H Q E h => ?_) (fun cdv A outer s H vs Q E hr h => ?_)
  · obtain ⟨v, c, rfl, _⟩ := h
    rfl
  · obtain ⟨v, c, rfl, ⟨a, rfl, ha⟩, hc, k⟩ := h
    refine ⟨_, (pss_cons (ps_if (pt_cmpR op_eq (pe_callB call_len_seq (by rfl) T.len (by decide +kernel) (pa_cons (pv 0) pa_nil)) pe_int (nomark _)) (pss_one (ps_ret (pe_cmpR op_in_seq (pe_ix ix_tup (pv 0) pe_int (fun _ _ => rfl)) (pe_glob (v := .ref wo) (by rfl) T.g_WITHOUT_NUMBER rfl) (by rfl)))) pss_nil)
      (pss_one (ps_ret (pe_and (pe_cmpR op_eq (pe_callB call_len_seq (by rfl) T.len (by decide +kernel) (pa_cons (pv 0) pa_nil)) pe_int (nomark _)) (pe_and (pe_cmpR op_in_seq (pe_ix ix_tup (pv 0) pe_int (fun _ _ => rfl)) (pe_glob (v := .ref wn) (by rfl) T.g_WITH_NUMBER rfl) (by rfl)) (pe_one (pe_cal c_is_count hr (by decide) (by rfl) (pa_cons (pe_ix ix_tup (pv 0) pe_int (fun _ _ => rfl)) pa_nil)))))))), ?_⟩
    have k0 := k H (Same.refl H)
    cases c with
    | down n =>
      refine ⟨_, rfl, a, _, rfl, .inr ha, rfl, _, rfl, iteF ?_⟩
      refine ⟨_, rfl, a, _, rfl, .inr ha, rfl, _, rfl, iteT ?_⟩
      refine ⟨_, rfl, a, _, 0, _, rfl, rfl, ha, rfl, wn, _, rfl, .inr (T.tWN _), rfl, rfl, true, by decide +kernel, iteT ?_⟩
      exact ⟨_, rfl, a, _, 1, _, rfl, rfl, ha, rfl, n, rfl, hc, k0⟩
    | up n =>
      refine ⟨_, rfl, a, _, rfl, .inr ha, rfl, _, rfl, iteF ?_⟩
      refine ⟨_, rfl, a, _, rfl, .inr ha, rfl, _, rfl, iteT ?_⟩
      refine ⟨_, rfl, a, _, 0, _, rfl, rfl, ha, rfl, wn, _, rfl, .inr (T.tWN _), rfl, rfl, true, by decide +kernel, iteT ?_⟩
      exact ⟨_, rfl, a, _, 1, _, rfl, rfl, ha, rfl, n, rfl, hc, k0⟩
    | right n =>
      refine ⟨_, rfl, a, _, rfl, .inr ha, rfl, _, rfl, iteF ?_⟩
      refine ⟨_, rfl, a, _, rfl, .inr ha, rfl, _, rfl, iteT ?_⟩
      refine ⟨_, rfl, a, _, 0, _, rfl, rfl, ha, rfl, wn, _, rfl, .inr (T.tWN _), rfl, rfl, true, by decide +kernel, iteT ?_⟩
      exact ⟨_, rfl, a, _, 1, _, rfl, rfl, ha, rfl, n, rfl, hc, k0⟩
    | left n =>
      refine ⟨_, rfl, a, _, rfl, .inr ha, rfl, _, rfl, iteF ?_⟩
      refine ⟨_, rfl, a, _, rfl, .inr ha, rfl, _, rfl, iteT ?_⟩
      refine ⟨_, rfl, a, _, 0, _, rfl, rfl, ha, rfl, wn, _, rfl, .inr (T.tWN _), rfl, rfl, true, by decide +kernel, iteT ?_⟩
      exact ⟨_, rfl, a, _, 1, _, rfl, rfl, ha, rfl, n, rfl, hc, k0⟩
    | home =>
      refine ⟨_, rfl, a, _, rfl, .inr ha, rfl, _, rfl, iteT ?_⟩
      refine ⟨_, rfl, a, _, 0, _, rfl, rfl, ha, rfl, wo, _, rfl, .inr (T.tWO _), rfl, rfl, ?_⟩
      exact q_in (by decide +kernel) k0
    | stop =>
      refine ⟨_, rfl, a, _, rfl, .inr ha, rfl, _, rfl, iteT ?_⟩
      refine ⟨_, rfl, a, _, 0, _, rfl, rfl, ha, rfl, wo, _, rfl, .inr (T.tWO _), rfl, rfl, ?_⟩
      exact q_in (by decide +kernel) k0
theorem sc_row_change : FnScope ["command"] ["command"] (defScope s_row_change) := ⟨rfl, rfl, rfl, by decide +kernel, rfl, by decide +kernel, by decide +kernel⟩
theorem ok_row_change {f : Addr} {fd : FuncData} (F : Fun K "row_change" "row_change" s_row_change f fd) : FnOk P w K mg base CX0 1 f fd ["command"] (spRow K) := by
  refine F.ok sc_row_change (fun vs H Q E h => ?_) (fun cdv A outer s H vs Q E hr h => ?_)
  · obtain ⟨v, c, rfl, _⟩ := h
    rfl
  · obtain ⟨v, c, rfl, ⟨a, rfl, ha⟩, k⟩ := h
    refine ⟨_, (pss_cons (ps_if (pt_cmpR op_eq (pe_ix ix_tup (pv 0) pe_int (fun _ _ => rfl)) pe_str (nomark _)) (pss_one (ps_ret (pe_ix ix_tup (pv 0) pe_int (fun _ _ => rfl)))) pss_nil)
      (pss_cons (ps_if (pt_cmpR op_eq (pe_ix ix_tup (pv 0) pe_int (fun _ _ => rfl)) pe_str (nomark _)) (pss_one (ps_ret (pe_un un_neg (pe_ix ix_tup (pv 0) pe_int (fun _ _ => rfl))))) pss_nil)
      (pss_one (ps_ret pe_int)))), ?_⟩
    cases c with
    | down n =>
      refine ⟨_, rfl, a, _, 0, _, rfl, rfl, ha, rfl, rfl, true, by decide +kernel, iteT ?_⟩
      exact ⟨_, rfl, a, _, 1, _, rfl, rfl, ha, rfl, k⟩
    | up n =>
      refine ⟨_, rfl, a, _, 0, _, rfl, rfl, ha, rfl, rfl, false, by decide +kernel, iteF ?_⟩
      refine ⟨_, rfl, a, _, 0, _, rfl, rfl, ha, rfl, rfl, true, by decide +kernel, iteT ?_⟩
      exact ⟨_, rfl, a, _, 1, _, rfl, rfl, ha, rfl, n, rfl, k⟩
    | right n =>
      refine ⟨_, rfl, a, _, 0, _, rfl, rfl, ha, rfl, rfl, false, by decide +kernel, iteF ?_⟩
      refine ⟨_, rfl, a, _, 0, _, rfl, rfl, ha, rfl, rfl, false, by decide +kernel, iteF ?_⟩
      exact k
    | left n =>
      refine ⟨_, rfl, a, _, 0, _, rfl, rfl, ha, rfl, rfl, false, by decide +kernel, iteF ?_⟩
      refine ⟨_, rfl, a, _, 0, _, rfl, rfl, ha, rfl, rfl, false, by decide +kernel, iteF ?_⟩
      exact k
    | home =>
      refine ⟨_, rfl, a, _, 0, _, rfl, rfl, ha, rfl, rfl, false, by decide +kernel, iteF ?_⟩
      refine ⟨_, rfl, a, _, 0, _, rfl, rfl, ha, rfl, rfl, false, by decide +kernel, iteF ?_⟩
      exact k
    | stop =>
      refine ⟨_, rfl, a, _, 0, _, rfl, rfl, ha, rfl, rfl, false, by decide +kernel, iteF ?_⟩
      refine ⟨_, rfl, a, _, 0, _, rfl, rfl, ha, rfl, rfl, false, by decide +kernel, iteF ?_⟩
      exact k
theorem sc_check_commands : FnScope ["commands", "index", "command"] ["commands"] (defScope s_check_commands) := ⟨rfl, rfl, rfl, by decide +kernel, rfl, by decide +kernel, by decide +kernel⟩
theorem ok_check_commands {f : Addr} {fd : FuncData} (F : Fun K "check_commands" "check_commands" s_check_commands f fd) (T : TxtB K mg wo wn) (c_is_command : Cal P w K mg base 2 "is_command" (spIsCmd K)) : FnOk P w K mg base CX0 3 f fd ["commands"] (spCheck K) := by
  refine F.ok sc_check_commands (fun vs H Q E h => ?_) (fun cdv A outer s H vs Q E hr h => ?_)
  · obtain ⟨l, xs, cs, rfl, _⟩ := h
    rfl
  · obtain ⟨l, xs, cs, rfl, hl, hcs, hk, hn, k⟩ := h
    refine ⟨_, (pss_one (ps_for PassesOwn.never rfl (pi_enum (by rfl) T.enumerate (pa_cons (pv 0) pa_nil)) (pg_tup rfl (pgs_cons (pg_name (i := 1) sc_check_commands.nd rfl (Or.inl rfl)) (pgs_cons (pg_name (i := 2) sc_check_commands.nd rfl (Or.inl rfl)) pgs_nil))) (pss_one (ps_if (pt_not (pt_val (pe_cal c_is_command hr (by decide) (by rfl) (pa_cons (pv 2) pa_nil)))) (pss_one ps_never) pss_nil)))), ?_⟩
    refine ⟨_, rfl, l, xs, rfl, hl, for_it (walk_enum (K := K) (a := l) (xs := xs)) (fun i σ H' => ∃ v1 v2 : Option V, σ = [some (.ref l), v1, v2] ∧ Same H H')
      ⟨none, none, rfl, Same.refl H⟩ (fun i σ H' _ ⟨_, _, _, e⟩ => e.seq hl) (fun i x σ H1 H2 hi h y => ?_) (fun σ H1 h => ?_)⟩
    · obtain ⟨v1, v2, rfl, e⟩ := h
      obtain ⟨T1, x1, y1, rfl, nT, rfl, e1, e2⟩ := y
      obtain ⟨c, hc, hca⟩ := paired_at hcs e2
      have eT : Same H (upd H1 T1 (.tup [x1, y1])) := same_upd e nT
      refine ⟨T1, _, rfl, SqT.of upd_same, rfl, _, _, rfl, _, _, rfl, rfl, ?_⟩
      refine ⟨_, rfl, y1, c, rfl, hca.same eT, hk c (List.mem_of_getElem? hc), fun H3 e3 => ⟨_, rfl, iteF ?_⟩⟩
      exact ⟨_, _, rfl, eT.trans e3⟩
    · obtain ⟨v1, v2, rfl, e⟩ := h
      exact k _ e
end
end Gc

namespace Gc
open PySem L2
abbrev s_reach : Stmt := top 13
abbrev s_check_number : Stmt := top 11
abbrev s_require : Stmt := top 17
abbrev s_box : Stmt := top 16
def rstep (s : Int × Int × Int) (c : Cmd) : Int × Int × Int :=
  (if s.2.2 + c.dv < s.1 then s.2.2 + c.dv else s.1, if s.2.2 + c.dv > s.2.1 then s.2.2 + c.dv else s.2.1, s.2.2 + c.dv)
def rchM (cs : List Cmd) : Int × Int × Int := cs.foldl rstep (0, 0, 0)
theorem rch_more {cs : List Cmd} {i : Nat} {c : Cmd} (h : cs[i]? = some c) : rchM (cs.take (i + 1)) = rstep (rchM (cs.take i)) c := by
  unfold rchM
  rw [take_snoc h, List.foldl_append]
  rfl
theorem rch_last : ∀ (cs : List Cmd) (s : Int × Int × Int), (cs.foldl rstep s).2.2 = s.2.2 + last cs
  | [], s => by show s.2.2 = s.2.2 + 0; omega
  | c :: cs, s => by
    show (cs.foldl rstep (rstep s c)).2.2 = s.2.2 + (c.dv + last cs)
    rw [rch_last cs]
    show s.2.2 + c.dv + last cs = _
    omega
def spReach (K : PySem.W.Frag) : Sp := fun vs H Q _ => ∃ (l : Addr) (xs : List V) (cs : List Cmd), vs = [.ref l] ∧ SqL K H l xs ∧ CmdsOf K H xs cs ∧ AllOk cs ∧ cs.length ≤ 10000 ∧
  ∀ (H' : Hp) (p : Addr), Same H H' → H p = none → H' p = some (.tup [.int (rchM cs).1, .int (rchM cs).2.1, .int (last cs)]) → Q (.ref p) H'
def spNum : Sp := fun vs H Q _ => ∃ n k : Int, vs = [.int n, .int k] ∧ k ≤ n ∧ Q .non H
def spReq : Sp := fun vs H Q _ => ∃ (d : Addr) (b : Ps) (o v : Int), vs = [.ref d, .int o, .int v] ∧ H d = some (.dK (dkI b)) ∧ b.length ≤ 10000 ∧ Q .non (upd H d (.dK (dkI (req b o v))))
/-- the tuple of a box, its list and its pairs, all new -/
def BoxAt (H H' : Hp) (p : Addr) (st : Option Int) (L : Ps) : Prop := ∃ (m : Addr) (ts : List Addr), H p = none ∧ H m = none ∧ H' p = some (.tup [optV st, .ref m]) ∧ H' m = some (.lst (ts.map V.ref)) ∧
  Paired (fun (t : Addr) (q : Int × Int) => H' t = some (.tup [.int q.1, .int q.2])) ts L
def spBox (K : PySem.W.Frag) : Sp := fun vs H Q _ => ∃ (l : Addr) (xs : List V) (cs : List Cmd) (goal : Int), vs = [.ref l, .int goal] ∧ SqL K H l xs ∧ CmdsOf K H xs cs ∧ AllOk cs ∧ cs.length ≤ 10000 ∧ 1 ≤ goal ∧
  (boxM cs goal = none → ∀ H', Same H H' → Q .non H') ∧ ∀ st L, boxM cs goal = some (st, L) → ∀ H' p, Same H H' → BoxAt H H' p st L → Q (.ref p) H'
section
variable {P : Program} {w : World} {K : PySem.W.Frag} {mg : Str → Option Value} {base : Heap} {wo wn : Addr}
theorem sc_reach : FnScope ["commands", "least", "greatest", "last", "command"] ["commands"] (defScope s_reach) := ⟨rfl, rfl, rfl, by decide +kernel, rfl, by decide +kernel, by decide +kernel⟩
theorem ok_reach {f : Addr} {fd : FuncData} (F : Fun K "reach" "reach" s_reach f fd) (T : TxtB K mg wo wn) (c_check_commands : Cal P w K mg base 3 "check_commands" (spCheck K)) (c_row_change : Cal P w K mg base 1 "row_change" (spRow K)) :
    FnOk P w K mg base CX0 4 f fd ["commands"] (spReach K) := by
  refine F.ok sc_reach (fun vs H Q E h => ?_) (fun cdv A outer s H vs Q E hr h => ?_)
  · obtain ⟨l, xs, cs, rfl, _⟩ := h
    rfl
  · obtain ⟨l, xs, cs, rfl, hl, hcs, hk, hn, k⟩ := h
    refine ⟨_, (pss_cons (ps_expr (pe_cal c_check_commands hr (by decide) (by rfl) (pa_cons (pv 0) pa_nil)))
      (pss_cons (ps_asg3 pe_int (pg_name (i := 1) sc_reach.nd rfl (Or.inl rfl)) (pg_name (i := 2) sc_reach.nd rfl (Or.inl rfl)) (pg_name (i := 3) sc_reach.nd rfl (Or.inl rfl)))
      (pss_cons (ps_for PassesOwn.never rfl (pi_list (pv 0)) (pg_name (i := 4) sc_reach.nd rfl (Or.inl rfl)) (pss_cons (ps_aug (i := 3) sc_reach.nd rfl (Or.inl rfl) (pe_cal c_row_change hr (by decide) (by rfl) (pa_cons (pv 4) pa_nil)) ip_add)
      (pss_cons (ps_set (i := 1) sc_reach.nd rfl (Or.inl rfl) (pe_callB (call_min2 rfl) (by rfl) T.min (by decide +kernel) (pa_cons (pv 1) (pa_cons (pv 3) pa_nil))))
      (pss_one (ps_set (i := 2) sc_reach.nd rfl (Or.inl rfl) (pe_callB (call_max2 rfl) (by rfl) T.max (by decide +kernel) (pa_cons (pv 2) (pa_cons (pv 3) pa_nil))))))))
      (pss_one (ps_ret (pe_tup (pa_cons (pv 1) (pa_cons (pv 2) (pa_cons (pv 3) pa_nil))))))))), ?_⟩
    refine ⟨_, rfl, l, xs, cs, rfl, hl, hcs, hk, hn, fun H1 e1 => ?_⟩
    refine ⟨_, rfl, l, rfl, ⟨_, e1.seq hl⟩, for_list (K := K) (a := l) (xs := xs) (fun i σ H' => ∃ v : Option V, σ = [some (.ref l), some (.int (rchM (cs.take i)).1), some (.int (rchM (cs.take i)).2.1), some (.int (rchM (cs.take i)).2.2), v] ∧ Same H H')
      ⟨none, rfl, e1⟩ (fun i σ H' _ ⟨_, _, e⟩ => e.seq hl) (fun i x σ H2 hi h => ?_) (fun σ H2 h => ?_)⟩
    · obtain ⟨v, rfl, e⟩ := h
      obtain ⟨c, hc, hca⟩ := paired_at hcs hi
      refine ⟨_, rfl, _, rfl, x, c, rfl, hca.same e, _, _, rfl, rfl, ?_⟩
      refine ⟨_, rfl, _, rfl, _, _, rfl, ?_⟩
      refine ⟨_, rfl, _, rfl, _, _, rfl, ?_⟩
      refine ⟨some x, ?_, e⟩
      rw [rch_more hc]
      rfl
    · obtain ⟨v, rfl, e⟩ := h
      have el : (rchM (cs.take xs.length)).2.2 = last cs := by
        rw [hcs.len, List.take_length]
        unfold rchM
        rw [rch_last]
        show (0 : Int) + last cs = last cs
        omega
      rw [el, hcs.len, List.take_length]
      refine ⟨_, rfl, _, rfl, _, rfl, (by show 3 ≤ sizeLine; decide), fun p hp => ?_⟩
      exact k _ p (same_upd e hp) (e.free hp) upd_same
theorem sc_check_number : FnScope ["number", "least"] ["number", "least"] (defScope s_check_number) := ⟨rfl, rfl, rfl, by decide +kernel, rfl, by decide +kernel, by decide +kernel⟩
theorem ok_check_number {f : Addr} {fd : FuncData} (F : Fun K "check_number" "check_number" s_check_number f fd) : FnOk P w K mg base CX0 1 f fd ["number", "least"] spNum := by
  refine F.ok sc_check_number (fun vs H Q E h => ?_) (fun cdv A outer s H vs Q E hr h => ?_)
  · obtain ⟨n, k, rfl, _⟩ := h
    rfl
  · obtain ⟨n, k, rfl, hn, q⟩ := h
    refine ⟨_, (pss_one (ps_if (pt_cmpR op_lt (pv 0) (pv 1) (nomark _)) (pss_one ps_never) pss_nil)), ?_⟩
    exact ⟨_, rfl, _, rfl, _, _, rfl, rfl, _, rfl, ite2 (fun c => absurd (of_decide_eq_true c) (by omega)) (fun _ => q)⟩
theorem sc_require : FnScope ["bounds", "offset", "bound"] ["bounds", "offset", "bound"] (defScope s_require) := ⟨rfl, rfl, rfl, by decide +kernel, rfl, by decide +kernel, by decide +kernel⟩
theorem ok_require {f : Addr} {fd : FuncData} (F : Fun K "require" "require" s_require f fd) (T : TxtB K mg wo wn) : FnOk P w K mg base CX0 1 f fd ["bounds", "offset", "bound"] spReq := by
  refine F.ok sc_require (fun vs H Q E h => ?_) (fun cdv A outer s H vs Q E hr h => ?_)
  · obtain ⟨d, b, o, v, rfl, _⟩ := h
    rfl
  · obtain ⟨d, b, o, v, rfl, hd, hz, k⟩ := h
    refine ⟨_, (pss_one (ps_dput (hu_of hr) (pv 0) (pv 1) (pe_callB (call_max2 rfl) (by rfl) T.max (by decide +kernel) (pa_cons (pv 2) (pa_cons (pe_dget2 (hu_of hr) (pv 0) (pv 1) (pv 2) ⟨rfl, rfl, rfl, rfl⟩) pa_nil))) rfl)), ?_⟩
    have eg : (valV (dkI b) (Sum.inl o : L2.Key)).getD (.int v) = .int ((look b o).getD v) := by
      rw [valV_dkI]
      cases look b o <;> rfl
    refine ⟨_, rfl, _, rfl, d, rfl, .inl ⟨_, .inl hd⟩, _, rfl, _, rfl, _, DGet.k (k := Sum.inl o) hd, v, (look b o).getD v, (by rw [eg]), ?_⟩
    refine ⟨_, rfl, _, rfl, d, _, rfl, DPut.k (k := Sum.inl o) hd ?_, ?_⟩
    · unfold dkI
      rw [List.length_map]
      exact Nat.lt_of_le_of_lt hz (by decide)
    · show Q .non (upd H d (.dK (putK (dkI b) (Sum.inl o : L2.Key) (.int (mx v ((look b o).getD v))))))
      rw [putK_dkI]
      exact k
theorem sc_box : FnScope ["commands", "goal", "bounds", "needed", "offset", "command"] ["commands", "goal"] (defScope s_box) := ⟨rfl, rfl, rfl, by decide +kernel, rfl, by decide +kernel, by decide +kernel⟩
theorem ok_box {f : Addr} {fd : FuncData} (F : Fun K "box" "box" s_box f fd) (T : TxtB K mg wo wn) (c_check_commands : Cal P w K mg base 3 "check_commands" (spCheck K)) (c_row_change : Cal P w K mg base 1 "row_change" (spRow K))
    (c_reach : Cal P w K mg base 4 "reach" (spReach K)) (c_check_number : Cal P w K mg base 1 "check_number" spNum) (c_require : Cal P w K mg base 1 "require" spReq) : FnOk P w K mg base CX0 5 f fd ["commands", "goal"] (spBox K) := by
  refine F.ok sc_box (fun vs H Q E h => ?_) (fun cdv A outer s H vs Q E hr h => ?_)
  · obtain ⟨l, xs, cs, goal, rfl, _⟩ := h
    rfl
  · obtain ⟨l, xs, cs, goal, rfl, hl, hcs, hk, hn, hg, kN, kS⟩ := h
    refine ⟨_, (pss_cons (ps_expr (pe_cal c_check_commands hr (by decide) (by rfl) (pa_cons (pv 0) pa_nil)))
      (pss_cons (ps_expr (pe_cal c_check_number hr (by decide) (by rfl) (pa_cons (pv 1) (pa_cons pe_int pa_nil))))
      (pss_cons (ps_set (i := 2) sc_box.nd rfl (Or.inl rfl) pe_dnewK)
      (pss_cons (ps_set (i := 3) sc_box.nd rfl (Or.inl rfl) (pv 1))
      (pss_cons (ps_set (i := 4) sc_box.nd rfl (Or.inl rfl) (pe_ix ix_tup (pe_cal c_reach hr (by decide) (by rfl) (pa_cons (pv 0) pa_nil)) pe_int (fun _ _ => rfl)))
      (C8.pss_cut (ps_for PassesOwn.never rfl (pi_reversed (by rfl) T.reversed (pa_cons (pv 0) pa_nil)) (pg_name (i := 5) sc_box.nd rfl (Or.inl rfl)) (pss_cons (ps_match (pe_ix ix_tup (pv 5) pe_int (fun _ _ => rfl)) (mc_str (pss_one (ps_ret pe_non)) (mc_str (pss_one (ps_set (i := 3) sc_box.nd rfl (Or.inl rfl) pe_non)) (mc_str (pss_cons (ps_expr (pe_cal c_require hr (by decide) (by rfl) (pa_cons (pv 2) (pa_cons (pv 4) (pa_cons (pv 3) pa_nil)))))
      (pss_one (ps_set (i := 3) sc_box.nd rfl (Or.inl rfl) (pe_ifExp (pt_cmpR op_gt (pv 3) (pe_ix ix_tup (pv 5) pe_int (fun _ _ => rfl)) (nomark _)) (pe_op op_sub (pv 3) (pe_ix ix_tup (pv 5) pe_int (fun _ _ => rfl))) pe_non)))) (mc_str (pss_cons (ps_aug (i := 3) sc_box.nd rfl (Or.inl rfl) (pe_ix ix_tup (pv 5) pe_int (fun _ _ => rfl)) ip_add)
      (pss_one (ps_expr (pe_cal c_require hr (by decide) (by rfl) (pa_cons (pv 2) (pa_cons (pv 4) (pa_cons (pv 3) pa_nil))))))) (mc_any (pss_one (ps_aug (i := 4) sc_box.nd rfl (Or.inl rfl) (pe_cal c_row_change hr (by decide) (by rfl) (pa_cons (pv 5) pa_nil)) ip_sub))))))))
      (pss_one (ps_if (pt_cmpR op_isN (pv 3) pe_non (nomark _)) (pss_one ps_break) pss_nil))))
      (pss_one (ps_ret (pe_tup (pa_cons (pv 3) (pa_cons (pe_sortItems rfl hr.units (pv 2) (by rfl) T.sorted (by decide +kernel)) pa_nil))))))))))), ?_⟩
    refine ⟨_, rfl, l, xs, cs, rfl, hl, hcs, hk, hn, fun H1 e1 => ?_⟩
    refine ⟨_, rfl, _, _, rfl, hg, ?_⟩
    -- bounds = {}; needed = goal; offset = reach(commands)[2]
    refine fun d hd => ?_
    have hd0 : H d = none := e1.free hd
    refine ⟨_, rfl, _, rfl, l, xs, cs, rfl, (same_upd e1 hd).seq hl, hcs.same (same_upd e1 hd), hk, hn, fun H2 p e2 np h2 => ⟨p, _, 2, _, rfl, rfl, SqT.of h2, rfl, ?_⟩⟩
    have e02 : Same H H2 := (same_upd e1 hd).trans e2
    have hd2 : H2 d = some (.dK (dkI [])) := e2 _ _ upd_same
    -- for command in reversed(commands)
    refine ⟨fun σ H' => ∃ (st : Option Int) (b : Ps) (v4 v5 : Option V), σ = [some (.ref l), some (.int goal), some (.ref d), some (optV st), v4, v5] ∧ go cs.reverse (last cs) goal [] = some (st, b) ∧ Same H H' ∧ H' d = some (.dK (dkI b)) ∧ b.length ≤ 10000, ?_, ?_⟩
    · refine ⟨_, rfl, l, xs, rfl, e02.seq hl, RT.for_Itv (K := K) (a := l) (xs := xs) (fun i σ H' => ∃ (off need : Int) (b : Ps) (v5 : Option V), σ = [some (.ref l), some (.int goal), some (.ref d), some (.int need), some (.int off), v5] ∧
          go cs.reverse (last cs) goal [] = go (cs.reverse.drop i) off need b ∧ Same H H' ∧ H' d = some (.dK (dkI b)) ∧ b.length ≤ i ∧ i ≤ cs.length)
        ⟨last cs, goal, [], none, rfl, rfl, e02, hd2, Nat.le_refl _, Nat.zero_le _⟩ (fun i σ H' ⟨_, _, _, _, _, _, e, _⟩ => e.seq hl) (fun i x σ H3 hi hx h => ?_) (fun σ H3 h => ?_)⟩
      · obtain ⟨off, need, b, v5, rfl, hgo, e3, hd3, hb, hil⟩ := h
        obtain ⟨c, hc, hca⟩ := paired_at hcs hx
        have hcl := hcs.len
        have hrev : cs.reverse[i]? = some c := by
          rw [List.getElem?_reverse (by omega), ← hcl]
          exact hc
        have hdrop : cs.reverse.drop i = c :: cs.reverse.drop (i + 1) := by
          obtain ⟨h1, h2⟩ := List.getElem?_eq_some_iff.mp hrev
          rw [List.drop_eq_getElem_cons h1, h2]
        rw [hdrop] at hgo
        obtain ⟨a, rfl, hca0⟩ := hca.same e3
        have hi' : i < cs.length := by omega
        have hb' : b.length ≤ 10000 := by omega
        have goR : ∀ o v, (req b o v).length ≤ i + 1 := fun o v => Nat.le_trans (req_len b o v) (by omega)
        have sameU : ∀ z, Same H (upd H3 d z) := fun z b' o' q => by
          rw [upd_ne (ne_of_none q hd0)]
          exact e3 _ _ q
        cases c with
        | home =>
          refine ⟨_, rfl, a, _, 0, _, rfl, rfl, hca0, rfl, m_yes (by decide +kernel) ?_⟩
          refine kN ?_ _ e3
          unfold boxM
          rw [hgo]
          rfl
        | stop =>
          refine ⟨_, rfl, a, _, 0, _, rfl, rfl, hca0, rfl, m_no (by decide +kernel) (m_yes (by decide +kernel) ?_)⟩
          refine ⟨_, rfl, rfl, _, rfl, iteT ?_⟩
          exact ⟨none, b, _, _, rfl, hgo, e3, hd3, hb'⟩
        | right n =>
          refine ⟨_, rfl, a, _, 0, _, rfl, rfl, hca0, rfl, m_no (by decide +kernel) (m_no (by decide +kernel) (m_yes (by decide +kernel) ?_))⟩
          refine ⟨_, rfl, _, rfl, _, rfl, d, b, off, need, rfl, hd3, hb', ?_⟩
          have hca1 : SqT K (upd H3 d (.dK (dkI (req b off need)))) a (encC (.right n)) := by
            rcases hca0 with (z | ⟨o, z⟩) | z
            · exact .inl (.inl (by rw [upd_ne (ne_of z hd3 (by intro q; cases q))]; exact z))
            · exact .inl (.inr ⟨o, by rw [upd_ne (ne_of z hd3 (by intro q; cases q))]; exact z⟩)
            · exact .inr z
          refine ⟨_, rfl, _, rfl, a, _, 1, _, rfl, rfl, hca1, rfl, _, _, rfl, rfl, _, rfl, ite2 (fun c => ?_) (fun c => ?_)⟩
          · have c' : n < need := of_decide_eq_true c
            refine ⟨_, rfl, _, rfl, a, _, 1, _, rfl, rfl, hca1, rfl, _, _, rfl, rfl, ?_⟩
            refine ⟨_, rfl, rfl, _, rfl, iteF ?_⟩
            refine ⟨off, need - n, req b off need, _, rfl, ?_, sameU _, upd_same, goR _ _, hi'⟩
            rw [hgo]
            simp only [go]
            rw [if_pos c']
          · have c' : ¬ n < need := fun z => c (decide_eq_true z)
            refine ⟨_, rfl, rfl, _, rfl, iteT ?_⟩
            refine ⟨none, req b off need, _, _, rfl, ?_, sameU _, upd_same, Nat.le_trans (goR _ _) (by omega)⟩
            rw [hgo]
            simp only [go]
            rw [if_neg c']
        | left n =>
          refine ⟨_, rfl, a, _, 0, _, rfl, rfl, hca0, rfl, m_no (by decide +kernel) (m_no (by decide +kernel) (m_no (by decide +kernel) (m_yes (by decide +kernel) ?_)))⟩
          refine ⟨_, rfl, _, rfl, a, _, 1, _, rfl, rfl, hca0, rfl, _, _, rfl, rfl, ?_⟩
          refine ⟨_, rfl, _, rfl, _, rfl, d, b, off, need + n, rfl, hd3, hb', ?_⟩
          refine ⟨_, rfl, rfl, _, rfl, iteF ?_⟩
          exact ⟨off, need + n, req b off (need + n), _, rfl, hgo, sameU _, upd_same, goR _ _, hi'⟩
        | down n =>
          refine ⟨_, rfl, a, _, 0, _, rfl, rfl, hca0, rfl, m_no (by decide +kernel) (m_no (by decide +kernel) (m_no (by decide +kernel) (m_no (by decide +kernel) ?_)))⟩
          refine ⟨_, rfl, _, rfl, .ref a, .down n, rfl, ⟨a, rfl, hca0⟩, _, _, rfl, rfl, ?_⟩
          refine ⟨_, rfl, rfl, _, rfl, iteF ?_⟩
          exact ⟨off - n, need, b, _, rfl, hgo, e3, hd3, by omega, hi'⟩
        | up n =>
          refine ⟨_, rfl, a, _, 0, _, rfl, rfl, hca0, rfl, m_no (by decide +kernel) (m_no (by decide +kernel) (m_no (by decide +kernel) (m_no (by decide +kernel) ?_)))⟩
          refine ⟨_, rfl, _, rfl, .ref a, .up n, rfl, ⟨a, rfl, hca0⟩, _, _, rfl, rfl, ?_⟩
          refine ⟨_, rfl, rfl, _, rfl, iteF ?_⟩
          refine ⟨off - -n, need, b, _, rfl, ?_, e3, hd3, by omega, hi'⟩
          rw [hgo]
          simp only [go]
          rw [show off - -n = off + n by omega]
      · obtain ⟨off, need, b, v5, rfl, hgo, e3, hd3, hb, hil⟩ := h
        refine ⟨some need, b, _, _, rfl, ?_, e3, hd3, by omega⟩
        rw [hgo, hcs.len, ← List.length_reverse, List.drop_length]
        rfl
    · rintro σ H3 ⟨st, b, v4, v5, rfl, hgo, e3, hd3, hb⟩
      refine ⟨_, rfl, _, rfl, d, b, rfl, hd3, fun H4 m ts e4 nm hm hp => ⟨(by show 2 ≤ sizeLine; decide), fun p np => ?_⟩⟩
      have e5 : Same H4 (upd H4 p (.tup [optV st, .ref m])) := same_upd (Same.refl _) np
      refine kS st (b.mergeSort leK) ?_ _ p ((e3.trans e4).trans e5) ⟨m, ts, (e3.trans e4).free np, e3.free nm, upd_same, e5 _ _ hm, Paired.mapP hp fun _ _ q => e5 _ _ q⟩
      unfold boxM
      rw [hgo]
      rfl
end
end Gc

/-! forms -/
namespace Gc
open PySem L2
abbrev s_form : Stmt := top 19
abbrev s_pieces : Stmt := top 20
abbrev s_add_piece : Stmt := top 21
def spAddP (K : PySem.W.Frag) : Sp := fun vs H Q _ => ∃ (H0 : Hp) (m t : Addr) (lo : Option Addr) (is : List (Addr × Option Addr)) (ps : List Piece) (p : Piece), vs = [.ref m, .ref t] ∧ FoundAt H0 H m is ps ∧ PieceAt H (t, lo) p ∧
  (∀ l, lo = some l → H0 l = none ∧ l ≠ m ∧ l ∉ is.filterMap (·.2)) ∧ is.length ≤ 5000 ∧ ∀ (H' : Hp) (is' : List (Addr × Option Addr)), Keep m m H H' → FoundAt H0 H' m is' (addP ps p) → is'.length ≤ is.length + 1 → Q .non H'
def spPieces (K : PySem.W.Frag) : Sp := fun vs H Q _ => ∃ (l : Addr) (off : Int) (xs : List V) (cs : List Cmd), vs = [.ref l, .int off] ∧ SqL K H l xs ∧ CmdsOf K H xs cs ∧ AllOk cs ∧ cs.length ≤ 2000 ∧
  ∀ (H' : Hp) (m : Addr) (is : List (Addr × Option Addr)), Same H H' → FoundAt H H' m is (goP cs.reverse off 0 1 [] []) → Q (.ref m) H'
/-- the tuple of a form -/
def FormAt (H0 H : Hp) (p : Addr) (cs : List Cmd) : Prop := ∃ (r m : Addr) (is : List (Addr × Option Addr)), H p = some (.tup [.ref r, .ref m]) ∧ H r = some (.tup [.int (rchM cs).1, .int (rchM cs).2.1, .int (last cs)]) ∧ FoundAt H0 H m is (formM cs) ∧ H0 p = none ∧ H0 r = none
def spForm (K : PySem.W.Frag) : Sp := fun vs H Q _ => ∃ (l : Addr) (xs : List V) (cs : List Cmd), vs = [.ref l] ∧ SqL K H l xs ∧ CmdsOf K H xs cs ∧ AllOk cs ∧ cs.length ≤ 2000 ∧ ∀ (H' : Hp) (p : Addr), Same H H' → FormAt H H' p cs → Q (.ref p) H'
theorem keep_found {H0 H H' : Hp} {m x : Addr} {is : List (Addr × Option Addr)} {ps : List Piece} (kp : Keep x x H H') (h : FoundAt H0 H m is ps) (hm : m ≠ x) (hx : ∃ o, H x = some o ∧ (∀ xs, o ≠ .tup xs) ∧ ∀ xs, o ≠ .lst xs) : FoundAt H0 H' m is ps := by
  obtain ⟨o, ho, o1, o2⟩ := hx
  have nt : ∀ {t : Addr} {xs : List V}, H t = some (.tup xs) → t ≠ x := fun {t xs} q z => by
    rw [z, ho] at q
    exact o1 xs (Option.some.inj q)
  have nl : ∀ {t : Addr} {xs : List V}, H t = some (.lst xs) → t ≠ x := fun {t xs} q z => by
    rw [z, ho] at q
    exact o2 xs (Option.some.inj q)
  refine ⟨kp _ _ hm hm h.lst, Paired.mapP h.its fun _ _ q => q.mono (fun t xs q => kp _ _ (nt q) (nt q) q) fun a xs _ q => kp _ _ (nl q) (nl q) q, h.nd, fun l hl => ?_, h.m0⟩
  obtain ⟨h1, h2, xs, h3⟩ := h.new l hl
  exact ⟨h1, h2, xs, kp _ _ (nl h3) (nl h3) h3⟩
theorem form_rch (cs : List Cmd) : (rchM cs).2.2 = last cs := by
  unfold rchM
  rw [rch_last]
  show (0 : Int) + last cs = last cs
  omega
section
variable {P : Program} {w : World} {K : PySem.W.Frag} {mg : Str → Option Value} {base : Heap} {wo wn : Addr}
theorem sc_add_piece : FnScope ["found", "piece"] ["found", "piece"] (defScope s_add_piece) := ⟨rfl, rfl, rfl, by decide +kernel, rfl, by decide +kernel, by decide +kernel⟩
theorem ok_add_piece {f : Addr} {fd : FuncData} (F : Fun K "add_piece" "add_piece" s_add_piece f fd) : FnOk P w K mg base CX0 1 f fd ["found", "piece"] (spAddP K) := by
  refine F.ok sc_add_piece (fun vs H Q E h => ?_) (fun cdv A outer s H vs Q E hr h => ?_)
  · obtain ⟨H0, m, t, lo, is, ps, p, rfl, _⟩ := h
    rfl
  · obtain ⟨H0, m, t, lo, is, ps, p, rfl, hF, hP, hN, hl, k⟩ := h
    refine ⟨_, (pss_one (ps_if (PW.pt (pw_or (pt_not (pt_truth (pv 0) (fun _ => rfl))) (pw_or1 (pt_cmpR (op_neD hr.units) (pe_slice sl_tup (pe_ix ix_list (pv 0) (pe_un un_neg pe_int) (fun _ _ => rfl)) (po_some pe_int) po_none) (pe_slice sl_tup (pv 1) (po_some pe_int) po_none) (nomark _))))) (pss_one (ps_expr (pe_bm PySem.F.plainAttrs_list PySem.F.slot_list_append PySem.F.type_list_append mt_append (pv 0) (pa_cons (pv 1) pa_nil)))) pss_nil)), ?_⟩
    have done : ∀ H1 : Hp, Same H H1 → Q .non (upd H1 m (.lst ((is.map fun i => V.ref i.1) ++ [.ref t]))) ∨ addP ps p ≠ ps ++ [p] := fun H1 e => by
      by_cases z : addP ps p = ps ++ [p]
      · left
        have F1 := hF.same e
        have P1 := hP.same e
        refine k _ (is ++ [(t, lo)]) (fun b o n1 n2 hb => by rw [upd_ne n1]; exact e _ _ hb) ?_ (by rw [List.length_append]; exact Nat.le_refl _)
        rw [z]
        have tm : ∀ {b : Addr} {xs : List V}, H1 b = some (.tup xs) → b ≠ m := fun {b xs} q => ne_of q F1.lst (by intro y; cases y)
        have mono : ∀ {i : Addr × Option Addr} {q : Piece}, (∀ l, i.2 = some l → l ≠ m) → PieceAt H1 i q → PieceAt (upd H1 m (.lst ((is.map fun i => V.ref i.1) ++ [.ref t]))) i q := fun {i q} hi h => h.mono (fun b xs y => by rw [upd_ne (tm y)]; exact y) fun a xs ea y => by rw [upd_ne (hi a ea)]; exact y
        have fm : (is ++ [(t, lo)]).filterMap (·.2) = is.filterMap (·.2) ++ lo.toList := by
          rw [List.filterMap_append]
          cases lo <;> rfl
        refine ⟨?_, pairS ?_ (mono (fun l q => (hN l q).2.1) P1), ?_, fun l hl => ?_, F1.m0⟩
        · rw [upd_same, List.map_append]
          rfl
        · have all : ∀ {is' : List (Addr × Option Addr)} {ps' : List Piece}, (∀ i ∈ is', ∀ l, i.2 = some l → l ≠ m) → Paired (PieceAt H1) is' ps' → Paired (PieceAt (upd H1 m (.lst ((is.map fun i => V.ref i.1) ++ [.ref t])))) is' ps' := by
            intro is' ps' hi h
            induction h with
            | nil => exact .nil
            | cons a b ih => exact .cons (mono (hi _ List.mem_cons_self) a) (ih fun i h => hi i (List.mem_cons_of_mem _ h))
          exact all (fun i hi l el => (F1.new l (List.mem_filterMap.mpr ⟨i, hi, el⟩)).2.1) F1.its
        · rw [fm]
          cases lo with
          | none => simpa using F1.nd
          | some l =>
            rw [List.nodup_append]
            refine ⟨F1.nd, by simp, fun a ha b hb => ?_⟩
            have eb : b = l := by simpa using hb
            rw [eb]
            intro q
            rw [q] at ha
            exact (hN l rfl).2.2 ha
        · rw [fm] at hl
          rcases List.mem_append.mp hl with h | h
          · obtain ⟨h1, h2, xs, h3⟩ := F1.new l h
            exact ⟨h1, h2, xs, by rw [upd_ne h2]; exact h3⟩
          · cases lo with
            | none => simp at h
            | some l' =>
              have el : l = l' := by simpa using h
              subst el
              obtain ⟨h1, h2, h3⟩ := hN l rfl
              have q := P1.2
              cases e2 : p.2.2 with
              | none =>
                rw [e2] at q
                exact q.elim
              | some L =>
                rw [e2] at q
                obtain ⟨ts, q1, _⟩ := q
                exact ⟨h1, h2, _, by rw [upd_ne h2]; exact q1⟩
      · exact .inr z
    have full : (is.map fun i => V.ref i.1).length < sizeLine := by
      rw [List.length_map]
      exact lt_line (by omega)
    rcases paired_last hF.its with ⟨rfl, rfl⟩ | ⟨i, q, is', ps', rfl, rfl, hq⟩
    · refine ⟨_, rfl, _, tru_seq (SqL.of hF.lst), iteT ?_⟩
      refine ⟨_, rfl, .inl ⟨rfl, _, SqL.of hF.lst⟩, _, rfl, m, _, _, rfl, rfl, hF.lst, full, ?_⟩
      rcases done H (Same.refl H) with h | h
      · exact h
      · exact absurd rfl h
    · have tr : (!((is' ++ [i]).map fun i => V.ref i.1).isEmpty) = true := by simp
      refine ⟨_, rfl, _, tru_seq (SqL.of hF.lst), ?_⟩
      rw [tr]
      refine iteF ?_
      have lst1 : atI ((is' ++ [i]).map fun i => V.ref i.1) (-1) = some (.ref i.1) := by
        rw [List.map_append]
        exact atI_last _ _
      refine ⟨_, rfl, _, rfl, m, _, -1, _, rfl, rfl, SqL.of hF.lst, lst1, _, rfl, i.1, _, rfl, SqT.of hq.1, (by show ¬ (1 = 0 ∧ 3 = 3); decide), fun a ha => ?_⟩
      have e1 : Same H (upd H a (.tup (cutV [.int q.1, optW q.2.1, refO i.2] (some 1) none))) := new_same ha
      have h1 : upd H a (.tup (cutV [.int q.1, optW q.2.1, refO i.2] (some 1) none)) a = some (.tup [optW q.2.1, refO i.2]) := by
        rw [upd_same]
        rfl
      generalize upd H a (.tup (cutV [.int q.1, optW q.2.1, refO i.2] (some 1) none)) = H1 at e1 h1 ⊢
      refine ⟨_, rfl, _, rfl, t, _, rfl, SqT.of (hP.same e1).1, (by show ¬ (1 = 0 ∧ 3 = 3); decide), fun b hb => ?_⟩
      have e2 : Same H1 (upd H1 b (.tup (cutV [.int p.1, optW p.2.1, refO lo] (some 1) none))) := new_same hb
      have h2 : upd H1 b (.tup (cutV [.int p.1, optW p.2.1, refO lo] (some 1) none)) b = some (.tup [optW p.2.1, refO lo]) := by
        rw [upd_same]
        rfl
      generalize upd H1 b (.tup (cutV [.int p.1, optW p.2.1, refO lo] (some 1) none)) = H2 at e2 h2 ⊢
      have e3 := e1.trans e2
      refine ⟨pdataD q.2, pdataD p.2, .tup (SqT.of (e2 _ _ h1)) (.cons (dp_opt _) (.cons (hq.same e3).2.dp .nil)), .tup (SqT.of h2) (.cons (dp_opt _) (.cons (hP.same e3).2.dp .nil)), shaped_pdata _, shaped_pdata _, _, rfl, ?_⟩
      rw [eqv_pdata]
      have gl : (ps' ++ [q]).getLast? = some q := by simp
      by_cases z : q.2 = p.2
      · have ad : addP (ps' ++ [q]) p = ps' ++ [q] := by
          unfold addP
          rw [gl, if_pos (by simp [z])]
        rw [decide_eq_true z]
        refine iteF ?_
        refine k H2 _ (Keep.of e3) ?_ (Nat.le_succ _)
        rw [ad]
        exact hF.same e3
      · rw [decide_eq_false z]
        refine iteT ?_
        refine ⟨_, rfl, .inl ⟨rfl, _, SqL.of (e3 _ _ hF.lst)⟩, _, rfl, m, _, _, rfl, rfl, e3 _ _ hF.lst, full, ?_⟩
        have ad : addP (ps' ++ [q]) p = ps' ++ [q] ++ [p] := by
          unfold addP
          rw [gl, if_neg (by simp [z])]
        rcases done H2 e3 with h | h
        · exact h
        · exact absurd ad h
theorem sc_pieces : FnScope ["commands", "offset", "found", "lines", "first", "added", "command"] ["commands", "offset"] (defScope s_pieces) := ⟨rfl, rfl, rfl, by decide +kernel, rfl, by decide +kernel, by decide +kernel⟩
theorem ok_pieces {f : Addr} {fd : FuncData} (F : Fun K "pieces" "pieces" s_pieces f fd) (T : TxtB K mg wo wn) (c_row_change : Cal P w K mg base 1 "row_change" (spRow K)) (c_require : Cal P w K mg base 1 "require" spReq) (c_add_piece : Cal P w K mg base 1 "add_piece" (spAddP K)) :
    FnOk P w K mg base CX0 2 f fd ["commands", "offset"] (spPieces K) := by
  refine F.ok sc_pieces (fun vs H Q E h => ?_) (fun cdv A outer s H vs Q E hr h => ?_)
  · obtain ⟨l, off, xs, cs, rfl, _⟩ := h
    rfl
  · obtain ⟨l, off, xs, cs, rfl, hl, hcs, hk, hn, k⟩ := h
    refine ⟨_, (pss_cons (ps_set (i := 2) sc_pieces.nd rfl (Or.inl rfl) (pe_lst pa_nil))
      (pss_cons (ps_set (i := 3) sc_pieces.nd rfl (Or.inl rfl) pe_dnewK)
      (pss_cons (ps_set (i := 4) sc_pieces.nd rfl (Or.inl rfl) pe_int)
      (pss_cons (ps_set (i := 5) sc_pieces.nd rfl (Or.inl rfl) pe_int)
      (pss_cons (ps_for PassesOwn.never rfl (pi_reversed (by rfl) T.reversed (pa_cons (pv 0) pa_nil)) (pg_name (i := 6) sc_pieces.nd rfl (Or.inl rfl)) (pss_one (ps_match (pe_ix ix_tup (pv 6) pe_int (fun _ _ => rfl)) (mc_str (pss_cons (ps_expr (pe_cal c_add_piece hr (by decide) (by rfl) (pa_cons (pv 2) (pa_cons (pe_tup (pa_cons (pv 4) (pa_cons pe_non (pa_cons pe_non pa_nil)))) pa_nil))))
      (pss_one (ps_ret (pv 2)))) (mc_str (pss_cons (ps_expr (pe_cal c_add_piece hr (by decide) (by rfl) (pa_cons (pv 2) (pa_cons (pe_tup (pa_cons (pv 4) (pa_cons pe_non (pa_cons (pe_sortItems rfl hr.units (pv 3) (by rfl) T.sorted (by decide +kernel)) pa_nil)))) pa_nil))))
      (pss_one (ps_ret (pv 2)))) (mc_str (pss_cons (ps_expr (pe_cal c_require hr (by decide) (by rfl) (pa_cons (pv 3) (pa_cons (pv 1) (pa_cons (pv 5) pa_nil)))))
      (pss_cons (ps_aug (i := 5) sc_pieces.nd rfl (Or.inl rfl) (pe_ix ix_tup (pv 6) pe_int (fun _ _ => rfl)) ip_sub)
      (pss_one (ps_if (pt_cmpR op_le (pv 4) (pe_un un_neg (pv 5)) (nomark _)) (pss_cons (ps_expr (pe_cal c_add_piece hr (by decide) (by rfl) (pa_cons (pv 2) (pa_cons (pe_tup (pa_cons (pv 4) (pa_cons pe_non (pa_cons (pe_sortItems rfl hr.units (pv 3) (by rfl) T.sorted (by decide +kernel)) pa_nil)))) pa_nil))))
      (pss_one (ps_set (i := 4) sc_pieces.nd rfl (Or.inl rfl) (pe_op op_sub pe_int (pv 5))))) pss_nil)))) (mc_str (pss_cons (ps_aug (i := 5) sc_pieces.nd rfl (Or.inl rfl) (pe_ix ix_tup (pv 6) pe_int (fun _ _ => rfl)) ip_add)
      (pss_one (ps_expr (pe_cal c_require hr (by decide) (by rfl) (pa_cons (pv 3) (pa_cons (pv 1) (pa_cons (pv 5) pa_nil))))))) (mc_any (pss_one (ps_aug (i := 1) sc_pieces.nd rfl (Or.inl rfl) (pe_cal c_row_change hr (by decide) (by rfl) (pa_cons (pv 6) pa_nil)) ip_sub))))))))))
      (pss_cons (ps_expr (pe_cal c_add_piece hr (by decide) (by rfl) (pa_cons (pv 2) (pa_cons (pe_tup (pa_cons (pv 4) (pa_cons (pv 5) (pa_cons (pe_sortItems rfl hr.units (pv 3) (by rfl) T.sorted (by decide +kernel)) pa_nil)))) pa_nil))))
      (pss_one (ps_ret (pv 2))))))))), ?_⟩
    -- found = []; lines = {}; first = 1; added = 0
    refine ⟨Nat.zero_le _, fun m hm => fun d hd => ?_⟩
    have md : m ≠ d := fun z => by
      rw [z, upd_same] at hd
      cases hd
    have e2 : Same H (upd (upd H m (.lst [])) d (.dK [])) := (new_same hm).trans (new_same hd)
    have m2 : upd (upd H m (.lst [])) d (.dK []) m = some (.lst []) := by rw [upd_ne md, upd_same]
    have d2 : upd (upd H m (.lst [])) d (.dK []) d = some (.dK (dkI [])) := upd_same
    have d0 : H d = none := by
      rw [upd_ne md.symm] at hd
      exact hd
    generalize upd (upd H m (.lst [])) d (.dK []) = H2 at e2 m2 d2 ⊢
    refine ⟨_, rfl, l, xs, rfl, e2.seq hl, RT.for_Itv (K := K) (a := l) (xs := xs) (fun i σ H' => ∃ (off' first added : Int) (b : Ps) (is : List (Addr × Option Addr)) (ps : List Piece) (v6 : Option V), σ = [some (.ref l), some (.int off'), some (.ref m), some (.ref d), some (.int first), some (.int added), v6] ∧
        goP cs.reverse off 0 1 [] [] = goP (cs.reverse.drop i) off' added first b ps ∧ Same H H' ∧ FoundAt H H' m is ps ∧ H' d = some (.dK (dkI b)) ∧ b.length ≤ i ∧ is.length ≤ i ∧ i ≤ cs.length)
      ⟨off, 1, 0, [], [], [], none, rfl, rfl, e2, ⟨m2, .nil, List.nodup_nil, (fun _ h => nomatch h), hm⟩, d2, Nat.le_refl _, Nat.le_refl _, Nat.zero_le _⟩ (fun i σ H' ⟨_, _, _, _, _, _, _, _, _, e, _⟩ => e.seq hl) (fun i x σ H3 hi hx h => ?_) (fun σ H3 h => ?_)⟩
    · obtain ⟨off', first, added, b, is, ps, v6, rfl, hgo, e3, F3, hd3, hb, hil, hic⟩ := h
      obtain ⟨c, hc, hca⟩ := paired_at hcs hx
      have hcl := hcs.len
      have hrev : cs.reverse[i]? = some c := by
        rw [List.getElem?_reverse (by omega), ← hcl]
        exact hc
      have hdrop : cs.reverse.drop i = c :: cs.reverse.drop (i + 1) := by
        obtain ⟨h1, h2⟩ := List.getElem?_eq_some_iff.mp hrev
        rw [List.drop_eq_getElem_cons h1, h2]
      rw [hdrop] at hgo
      obtain ⟨a, rfl, hca0⟩ := hca.same e3
      have hi' : i < cs.length := by omega
      have goR : ∀ o v, (req b o v).length ≤ i + 1 := fun o v => Nat.le_trans (req_len b o v) (by omega)
      have sameD : ∀ z, Same H (upd H3 d z) := fun z b' o' q => by
        rw [upd_ne (ne_of_none q d0)]
        exact e3 _ _ q
      have keepD : ∀ z, Keep d d H3 (upd H3 d z) := fun z b' o' n1 _ q => by
        rw [upd_ne n1]
        exact q
      have foundD : ∀ z, FoundAt H (upd H3 d z) m is ps := fun z => keep_found (keepD z) F3 md ⟨_, hd3, (fun _ z => nomatch z), fun _ z => nomatch z⟩
      have tupD : ∀ z {ys : List V}, SqT K H3 a ys → SqT K (upd H3 d z) a ys := fun z {ys} q => by
        rcases q with (q | ⟨o, q⟩) | q
        · exact .inl (.inl (by rw [upd_ne (ne_of q hd3 (by intro y; cases y))]; exact q))
        · exact .inl (.inr ⟨o, by rw [upd_ne (ne_of q hd3 (by intro y; cases y))]; exact q⟩)
        · exact .inr q
      have sameM : ∀ {G G' : Hp}, Same H G → Keep m m G G' → Same H G' := fun {G G'} e kp b' o' q => kp _ _ (ne_of_none q hm) (ne_of_none q hm) (e _ _ q)
      cases c with
      | home =>
        refine ⟨_, rfl, a, _, 0, _, rfl, rfl, hca0, rfl, m_yes (by decide +kernel) ?_⟩
        refine ⟨_, rfl, _, rfl, (by show 3 ≤ sizeLine; decide), fun t nt => ?_⟩
        refine ⟨H, m, t, none, is, ps, (first, none, none), rfl, F3.same (new_same nt), ⟨upd_same, trivial⟩, (fun _ z => nomatch z), by omega, fun H5 is5 kp5 F5 _ => ?_⟩
        refine ⟨_, rfl, k H5 m is5 (sameM (e3.trans (new_same nt)) kp5) ?_⟩
        rw [hgo]
        exact F5
      | stop =>
        refine ⟨_, rfl, a, _, 0, _, rfl, rfl, hca0, rfl, m_no (by decide +kernel) (m_yes (by decide +kernel) ?_)⟩
        refine ⟨_, rfl, _, rfl, _, rfl, d, b, rfl, hd3, fun H4 lp ts e4 nl hlp hts => ⟨(by show 3 ≤ sizeLine; decide), fun t nt => ?_⟩⟩
        have F4 := F3.same e4
        have e5 : Same H4 (upd H4 t (.tup [.int first, .non, .ref lp])) := new_same nt
        refine ⟨H, m, t, some lp, is, ps, (first, none, some (sortP b)), rfl, F4.same e5, ⟨upd_same, ts, e5 _ _ hlp, Paired.mapP hts fun _ _ q => e5 _ _ q⟩, fun l' el => ?_, by omega, fun H5 is5 kp5 F5 _ => ?_⟩
        · obtain rfl := Option.some.inj el
          refine ⟨e3.free nl, (fun z => by rw [z, F3.lst] at nl; cases nl), fun hm' => ?_⟩
          obtain ⟨_, _, _, z⟩ := F3.new _ hm'
          rw [nl] at z
          cases z
        · refine ⟨_, rfl, k H5 m is5 (sameM ((e3.trans e4).trans e5) kp5) ?_⟩
          rw [hgo]
          exact F5
      | right n =>
        refine ⟨_, rfl, a, _, 0, _, rfl, rfl, hca0, rfl, m_no (by decide +kernel) (m_no (by decide +kernel) (m_yes (by decide +kernel) ?_))⟩
        refine ⟨_, rfl, _, rfl, _, rfl, d, b, off', added, rfl, hd3, by omega, ?_⟩
        have F6 := foundD (.dK (dkI (req b off' added)))
        have e6 := sameD (.dK (dkI (req b off' added)))
        have a6 := tupD (.dK (dkI (req b off' added))) hca0
        have d6 : upd H3 d (.dK (dkI (req b off' added))) d = some (.dK (dkI (req b off' added))) := upd_same
        generalize upd H3 d (.dK (dkI (req b off' added))) = H6 at F6 e6 a6 d6 ⊢
        refine ⟨_, rfl, _, rfl, a, _, 1, _, rfl, rfl, a6, rfl, _, _, rfl, rfl, ?_⟩
        refine ⟨_, rfl, _, rfl, _, rfl, _, _, rfl, rfl, _, rfl, ite2 (fun c => ?_) (fun c => ?_)⟩
        · have c' : first ≤ -(added - n) := of_decide_eq_true c
          refine ⟨_, rfl, _, rfl, _, rfl, d, req b off' added, rfl, d6, fun H4 lp ts e4 nl hlp hts => ⟨(by show 3 ≤ sizeLine; decide), fun t nt => ?_⟩⟩
          have F4 := F6.same e4
          have e5 : Same H4 (upd H4 t (.tup [.int first, .non, .ref lp])) := new_same nt
          refine ⟨H, m, t, some lp, is, ps, (first, none, some (sortP (req b off' added))), rfl, F4.same e5, ⟨upd_same, ts, e5 _ _ hlp, Paired.mapP hts fun _ _ q => e5 _ _ q⟩, fun l' el => ?_, by omega, fun H5 is5 kp5 F5 l5 => ?_⟩
          · obtain rfl := Option.some.inj el
            refine ⟨e6.free nl, (fun z => by rw [z, F6.lst] at nl; cases nl), fun hm' => ?_⟩
            obtain ⟨_, _, _, z⟩ := F6.new _ hm'
            rw [nl] at z
            cases z
          · refine ⟨_, rfl, _, _, rfl, rfl, ?_⟩
            refine ⟨off', 1 - (added - n), added - n, req b off' added, is5, _, _, rfl, ?_, sameM ((e6.trans e4).trans e5) kp5, F5, kp5 _ _ md.symm md.symm (e5 _ _ (e4 _ _ d6)), goR _ _, by omega, hi'⟩
            rw [hgo]
            simp only [goP]
            rw [if_pos c']
        · have c' : ¬ first ≤ -(added - n) := fun z => c (decide_eq_true z)
          refine ⟨off', first, added - n, req b off' added, is, ps, _, rfl, ?_, e6, F6, d6, goR _ _, by omega, hi'⟩
          rw [hgo]
          simp only [goP]
          rw [if_neg c']
      | left n =>
        refine ⟨_, rfl, a, _, 0, _, rfl, rfl, hca0, rfl, m_no (by decide +kernel) (m_no (by decide +kernel) (m_no (by decide +kernel) (m_yes (by decide +kernel) ?_)))⟩
        refine ⟨_, rfl, _, rfl, a, _, 1, _, rfl, rfl, hca0, rfl, _, _, rfl, rfl, ?_⟩
        refine ⟨_, rfl, _, rfl, _, rfl, d, b, off', added + n, rfl, hd3, by omega, ?_⟩
        exact ⟨off', first, added + n, req b off' (added + n), is, ps, _, rfl, hgo, sameD _, foundD _, upd_same, goR _ _, by omega, hi'⟩
      | down n =>
        refine ⟨_, rfl, a, _, 0, _, rfl, rfl, hca0, rfl, m_no (by decide +kernel) (m_no (by decide +kernel) (m_no (by decide +kernel) (m_no (by decide +kernel) ?_)))⟩
        refine ⟨_, rfl, _, rfl, .ref a, .down n, rfl, ⟨a, rfl, hca0⟩, _, _, rfl, rfl, ?_⟩
        exact ⟨off' - n, first, added, b, is, ps, _, rfl, hgo, e3, F3, hd3, by omega, by omega, hi'⟩
      | up n =>
        refine ⟨_, rfl, a, _, 0, _, rfl, rfl, hca0, rfl, m_no (by decide +kernel) (m_no (by decide +kernel) (m_no (by decide +kernel) (m_no (by decide +kernel) ?_)))⟩
        refine ⟨_, rfl, _, rfl, .ref a, .up n, rfl, ⟨a, rfl, hca0⟩, _, _, rfl, rfl, ?_⟩
        refine ⟨off' - -n, first, added, b, is, ps, _, rfl, ?_, e3, F3, hd3, by omega, by omega, hi'⟩
        rw [hgo]
        simp only [goP]
        rw [show off' - -n = off' + n by omega]
    · obtain ⟨off', first, added, b, is, ps, v6, rfl, hgo, e3, F3, hd3, hb, hil, hic⟩ := h
      have hgo2 : goP cs.reverse off 0 1 [] [] = addP ps (first, some added, some (sortP b)) := by
        rw [hgo, hcs.len, ← List.length_reverse, List.drop_length]
        rfl
      have sameM : ∀ {G G' : Hp}, Same H G → Keep m m G G' → Same H G' := fun {G G'} e kp b' o' q => kp _ _ (ne_of_none q hm) (ne_of_none q hm) (e _ _ q)
      refine ⟨_, rfl, _, rfl, _, rfl, _, rfl, d, b, rfl, hd3, fun H4 lp ts e4 nl hlp hts => ⟨(by show 3 ≤ sizeLine; decide), fun t nt => ?_⟩⟩
      have F4 := F3.same e4
      have e5 : Same H4 (upd H4 t (.tup [.int first, .int added, .ref lp])) := new_same nt
      refine ⟨H, m, t, some lp, is, ps, (first, some added, some (sortP b)), rfl, F4.same e5, ⟨upd_same, ts, e5 _ _ hlp, Paired.mapP hts fun _ _ q => e5 _ _ q⟩, fun l' el => ?_, by rw [hcs.len] at hil; omega, fun H5 is5 kp5 F5 _ => ?_⟩
      · obtain rfl := Option.some.inj el
        refine ⟨e3.free nl, (fun z => by rw [z, F3.lst] at nl; cases nl), fun hm' => ?_⟩
        obtain ⟨_, _, _, z⟩ := F3.new _ hm'
        rw [nl] at z
        cases z
      · refine ⟨_, rfl, k H5 m is5 (sameM ((e3.trans e4).trans e5) kp5) ?_⟩
        rw [hgo2]
        exact F5
theorem sc_form : FnScope ["commands", "spanned"] ["commands"] (defScope s_form) := ⟨rfl, rfl, rfl, by decide +kernel, rfl, by decide +kernel, by decide +kernel⟩
theorem ok_form {f : Addr} {fd : FuncData} (F : Fun K "form" "form" s_form f fd) (c_reach : Cal P w K mg base 4 "reach" (spReach K)) (c_pieces : Cal P w K mg base 2 "pieces" (spPieces K)) : FnOk P w K mg base CX0 5 f fd ["commands"] (spForm K) := by
  refine F.ok sc_form (fun vs H Q E h => ?_) (fun cdv A outer s H vs Q E hr h => ?_)
  · obtain ⟨l, xs, cs, rfl, _⟩ := h
    rfl
  · obtain ⟨l, xs, cs, rfl, hl, hcs, hk, hn, k⟩ := h
    refine ⟨_, (pss_cons (ps_set (i := 1) sc_form.nd rfl (Or.inl rfl) (pe_cal c_reach hr (by decide) (by rfl) (pa_cons (pv 0) pa_nil)))
      (pss_one (ps_ret (pe_tup (pa_cons (pv 1) (pa_cons (pe_cal c_pieces hr (by decide) (by rfl) (pa_cons (pv 0) (pa_cons (pe_ix ix_tup (pv 1) pe_int (fun _ _ => rfl)) pa_nil))) pa_nil)))))), ?_⟩
    refine ⟨_, rfl, l, xs, cs, rfl, hl, hcs, hk, by omega, fun H1 r e1 nr hr1 => ?_⟩
    refine ⟨_, rfl, _, rfl, _, rfl, r, _, 2, _, rfl, rfl, SqT.of hr1, rfl, ?_⟩
    refine ⟨l, last cs, xs, cs, rfl, e1.seq hl, hcs.same e1, hk, hn, fun H2 m is e2 F2 => ?_⟩
    refine ⟨(by show 2 ≤ sizeLine; decide), fun p hp => ?_⟩
    have e3 : Same H2 (upd H2 p (.tup [.ref r, .ref m])) := new_same hp
    refine k _ p ((e1.trans e2).trans e3) ⟨r, m, is, upd_same, e3 _ _ (e2 _ _ hr1), ?_, (e1.trans e2).free hp, nr⟩
    have F3 := F2.same e3
    exact ⟨F3.lst, F3.its, F3.nd, fun l' hl' => by
      obtain ⟨h1, h2⟩ := F3.new l' hl'
      exact ⟨e1.free h1, h2⟩, e1.free F3.m0⟩
end
end Gc

/-! same_effect -/
namespace Gc
open PySem L2
@[irreducible] def zForm (K : PySem.W.Frag) : Sp := spForm K
theorem zForm_eq (K : PySem.W.Frag) : zForm K = spForm K := by unfold zForm; rfl
theorem ask_form {K : PySem.W.Frag} {H : Hp} {Q : VK} {E : XK} {l : Addr} {xs : List V} {cs : List Cmd} (hl : SqL K H l xs) (hc : CmdsOf K H xs cs) (ok : AllOk cs) (len : cs.length ≤ 2000) (k : ∀ (H' : Hp) (p : Addr), Same H H' → FormAt H H' p cs → Q (.ref p) H') : zForm K [.ref l] H Q E := by
  rw [zForm_eq]
  exact ⟨l, xs, cs, rfl, hl, hc, ok, len, k⟩
def formOf (cs : List Cmd) : PyData := formD (rchM cs) (formM cs)
theorem FormAt.dp {K : PySem.W.Frag} {H0 H : Hp} {p : Addr} {cs : List Cmd} (h : FormAt H0 H p cs) : Dp K H (.ref p) (formOf cs) := by
  obtain ⟨r, m, is, h1, h2, F, _⟩ := h
  have e := form_rch cs
  refine .tup (SqT.of h1) (.cons (.tup (SqT.of h2) (.cons (.int _) (.cons (.int _) (.cons ?_ .nil)))) (.cons (.lst (SqL.of F.lst) (pieces_dp F.its)) .nil))
  rw [e]
  exact .int _
theorem FormAt.same {H0 H H' : Hp} {p : Addr} {cs : List Cmd} (e : Same H H') (h : FormAt H0 H p cs) : FormAt H0 H' p cs := by
  obtain ⟨r, m, is, h1, h2, F, h3⟩ := h
  exact ⟨r, m, is, e _ _ h1, e _ _ h2, F.same e, h3⟩
/-- the same reach, the same pieces -/
def SameForm (cs ds : List Cmd) : Prop := rchM cs = rchM ds ∧ formM cs = formM ds
instance (cs ds : List Cmd) : Decidable (SameForm cs ds) := inferInstanceAs (Decidable (_ ∧ _))
theorem eqv_forms (cs ds : List Cmd) : PyData.eqv (formOf cs) (formOf ds) = decide (SameForm cs ds) := eqv_form _ _ _ _
def spSameE (K : PySem.W.Frag) : Sp := fun vs H Q _ => ∃ (l1 l2 : Addr) (xs ys : List V) (cs ds : List Cmd), vs = [.ref l1, .ref l2] ∧ SqL K H l1 xs ∧ CmdsOf K H xs cs ∧ AllOk cs ∧ cs.length ≤ 2000 ∧ SqL K H l2 ys ∧ CmdsOf K H ys ds ∧ AllOk ds ∧ ds.length ≤ 2000 ∧
  ∀ H', Same H H' → Q (.bl (decide (SameForm cs ds))) H'
section
variable {P : Program} {w : World} {K : PySem.W.Frag} {mg : Str → Option Value} {base : Heap}
end
end Gc

namespace Gc
open PySem L2
abbrev s_rng : Stmt := top 30
abbrev s_draw : Stmt := top 31
abbrev s_list : Stmt := top 32
abbrev s_aim : Stmt := top 9999
abbrev s_spread : Stmt := top 34
/-- the source of numbers; at most n draws were made -/
def Rng (H : Hp) (a : Addr) (n : Nat) : Prop := ∃ g s c : Int, H a = some (.lst [.int g, .int s, .int c]) ∧ 0 ≤ s ∧ s < 2 ^ 61 ∧ 0 ≤ c ∧ c ≤ n
theorem Rng.same {H H' : Hp} {a : Addr} {n : Nat} (e : Same H H') (h : Rng H a n) : Rng H' a n := by
  obtain ⟨g, s, c, h1, h2⟩ := h
  exact ⟨g, s, c, e _ _ h1, h2⟩
theorem Rng.more {H : Hp} {a : Addr} {n m : Nat} (h : Rng H a n) (l : n ≤ m) : Rng H a m := by
  obtain ⟨g, s, c, h1, h2, h3, h4, h5⟩ := h
  exact ⟨g, s, c, h1, h2, h3, h4, by omega⟩
def spRng (K : PySem.W.Frag) : Sp := fun vs H Q _ => ∃ (a : Addr) (ns : List Int), vs = [.ref a] ∧ SqL K H a (ns.map V.int) ∧ ns.length ≤ 63 ∧
  ∀ (H' : Hp) (p : Addr), Same H H' → H p = none → Rng H' p 0 → Q (.ref p) H'
def spDraw : Sp := fun vs H Q _ => ∃ (a : Addr) (n : Nat) (many : Int), vs = [.ref a, .int many] ∧ Rng H a n ∧ n < 2 ^ 40 ∧ 0 < many ∧ many.natAbs.log2 < 9000 ∧
  ∀ (H' : Hp) (r : Int), Keep a a H H' → Rng H' a (n + 1) → 0 ≤ r → r < many → Q (.int r) H'
structure TxtA (mg : Str → Option Value) : Prop where
  abs : mg "abs" = none
  range : mg "range" = none
  sum : mg "sum" = none
  len : mg "len" = none
  min : mg "min" = none
  max : mg "max" = none
  int : mg "int" = none
theorem cut_mem {xs : List V} {lo hi : Option Int} {i : Nat} {y : V} (h : (cutV xs lo hi)[i]? = some y) : ∃ j : Nat, xs[j]? = some y := by
  unfold cutV at h
  have m := List.mem_of_mem_drop (List.mem_of_mem_take (List.mem_of_getElem? h))
  exact List.mem_iff_getElem?.mp m
theorem dig_step {g c : Int} {i : Nat} (h0 : 0 ≤ g) (h1 : g < 2 ^ (200 * i)) (c0 : 0 ≤ c) (c1 : c < 10 ^ (60 : Int).toNat) : 0 ≤ g * 10 ^ (60 : Int).toNat + c ∧ g * 10 ^ (60 : Int).toNat + c < 2 ^ (200 * (i + 1)) := by
  have e : (2 : Int) ^ (200 * (i + 1)) = 2 ^ (200 * i) * 2 ^ 200 := by rw [← Int.pow_add, Nat.mul_succ]
  have t : (10 : Int) ^ (60 : Int).toNat ≤ 2 ^ 200 := by decide
  have t0 : (0 : Int) ≤ 10 ^ (60 : Int).toNat := by decide
  have m0 : 0 ≤ g * 10 ^ (60 : Int).toNat := Int.mul_nonneg h0 t0
  have m1 : (g + 1) * 10 ^ (60 : Int).toNat ≤ 2 ^ (200 * i) * 2 ^ 200 := Int.mul_le_mul (by omega) t t0 (by omega)
  rw [Int.add_mul] at m1
  rw [e]
  omega
theorem two_le {a b : Nat} (h : a ≤ b) : (2 : Int) ^ a ≤ 2 ^ b := by
  have e := Nat.pow_le_pow_right (n := 2) (by decide) h
  have e2 : ((2 ^ a : Nat) : Int) ≤ ((2 ^ b : Nat) : Int) := Int.ofNat_le.mpr e
  simpa using e2
theorem natAbs_lt2 {g : Int} {k : Nat} (h0 : 0 ≤ g) (h1 : g < 2 ^ k) : g.natAbs < 2 ^ k := by
  have e : ((2 ^ k : Nat) : Int) = 2 ^ k := by simp
  omega
section
variable {P : Program} {w : World} {K : PySem.W.Frag} {mg : Str → Option Value} {base : Heap}
theorem sc_law_rng : FnScope ["script", "digits", "seed", "cell", "size"] ["script"] (defScope s_rng) := ⟨rfl, rfl, rfl, by decide +kernel, rfl, by decide +kernel, by decide +kernel⟩
theorem ok_rng {f : Addr} {fd : FuncData} (F : Fun K "_law_rng" "_law_rng" s_rng f fd) (T : TxtA mg) : FnOk P w K mg base CX0 1 f fd ["script"] (spRng K) := by
  refine F.ok sc_law_rng (fun vs H Q E h => ?_) (fun cdv A outer s H vs Q E hr h => ?_)
  · obtain ⟨a, ns, rfl, _⟩ := h
    rfl
  · obtain ⟨a, ns, rfl, hS, hlen, k⟩ := h
    refine ⟨_, (pss_cons (ps_asg (pe_tup (pa_cons pe_int (pa_cons pe_int pa_nil))) (pg_tup rfl (pgs_cons (pg_name (i := 1) sc_law_rng.nd rfl (Or.inl rfl)) (pgs_cons (pg_name (i := 2) sc_law_rng.nd rfl (Or.inl rfl)) pgs_nil))))
      (pss_cons (ps_for PassesOwn.never rfl (pi_list (pe_slice sl_list (pv 0) po_none (po_some pe_int))) (pg_name (i := 3) sc_law_rng.nd rfl (Or.inl rfl)) (pss_cons (ps_set (i := 4) sc_law_rng.nd rfl (Or.inl rfl) (pe_callB call_abs (by rfl) T.abs (by decide +kernel) (pa_cons (pv 3) pa_nil)))
      (pss_cons (ps_if (pt_cmpR op_ge (pv 4) (pe_op op_pow pe_int pe_int) (nomark _)) (pss_one (ps_set (i := 1) sc_law_rng.nd rfl (Or.inl rfl) (pe_op op_add (pe_op op_mulW (pv 1) (pe_op op_pow pe_int pe_int)) (pe_op op_mod (pv 4) (pe_op op_pow pe_int pe_int))))) pss_nil)
      (pss_one (ps_set (i := 2) sc_law_rng.nd rfl (Or.inl rfl) (pe_op op_mod (pe_op op_add (pe_op op_add (pe_op op_mulW (pv 2) pe_int) (pe_op op_mod (pv 3) pe_int)) pe_int) pe_int))))))
      (pss_one (ps_ret (pe_lst (pa_cons (pv 1) (pa_cons (pv 2) (pa_cons pe_int pa_nil)))))))), ?_⟩
    refine ⟨(by show 2 ≤ sizeLine; decide), fun p0 hp0 => ?_⟩
    refine ⟨p0, _, rfl, SqT.of upd_same, rfl, _, _, rfl, _, _, rfl, rfl, ?_⟩
    generalize gH1 : upd H p0 (.tup [.int 0, .int 88675123]) = H1
    have e1 : Same H H1 := by rw [← gH1]; exact same_upd (Same.refl H) hp0
    refine ⟨_, rfl, _, rfl, a, _, rfl, e1.seq hS, fun b hb => ?_⟩
    generalize gxs : cutV (ns.map V.int) none (some 63) = xs
    have hxs : xs.length ≤ 63 := by
      rw [← gxs]
      exact Nat.le_trans (cutV_length _ _ _) (by rw [List.length_map]; exact hlen)
    have nums : ∀ {i : Nat} {y : V}, xs[i]? = some y → ∃ u, y = V.int u := fun h => by
      rw [← gxs] at h
      obtain ⟨j, hj⟩ := cut_mem h
      exact int_at hj
    generalize gH2 : upd H1 b (.lst xs) = H2
    have hb2 : H2 b = some (.lst xs) := by rw [← gH2]; exact upd_same
    have e2 : Same H H2 := by rw [← gH2]; exact same_upd e1 hb
    refine ⟨b, rfl, ⟨_, SqL.of hb2⟩, for_list (K := K) (a := b) (xs := xs) (fun i σ H' => ∃ (g sd : Int) (v1 v2 : Option V), σ = [some (.ref a), some (.int g), some (.int sd), v1, v2] ∧ Same H2 H' ∧ 0 ≤ g ∧ g < 2 ^ (200 * i) ∧ 0 ≤ sd ∧ sd < 2 ^ 61)
      ⟨0, 88675123, none, none, rfl, Same.refl H2, by decide, by decide, by decide, by decide⟩ (fun i σ H' _ ⟨_, _, _, _, _, e, _⟩ => SqL.of (e _ _ hb2)) ?_ ?_⟩
    · rintro i y σ H' hi ⟨g, sd, v1, v2, rfl, e, g0, g1, s0, s1⟩
      obtain ⟨u, rfl⟩ := nums hi
      have hi' : i < xs.length := (List.getElem?_eq_some_iff.mp hi).1
      refine ⟨_, rfl, _, rfl, ?_⟩
      generalize (if u < 0 then -u else u) = z
      refine ⟨_, rfl, _, _, rfl, rfl, cpow (by decide), _, _, rfl, rfl, _, rfl, ?_⟩
      have n1 := Int.emod_nonneg (sd * 1000003 + u % 2305843009213693921 + 7) (show (2305843009213693951 : Int) ≠ 0 by decide)
      have n2 := Int.emod_lt_of_pos (sd * 1000003 + u % 2305843009213693921 + 7) (show (0 : Int) < 2305843009213693951 by decide)
      have n3 : (2305843009213693951 : Int) < 2 ^ 61 := by decide
      refine ite2 (fun _ => ?_) (fun _ => ?_)
      · refine ⟨_, rfl, _, _, rfl, rfl, cpow (by decide), _, _, rfl, rfl, wide_mul (a := 200 * i + 1) (b := 201) ?_ ?_ (by omega) (by decide) (by omega), _, rfl, _, _, rfl, rfl, cpow (by decide), _, _, rfl, rfl, (show (0 : Int) < 10 ^ (60 : Int).toNat by decide), _, _, rfl, rfl, ?_⟩
        · exact Nat.lt_trans (natAbs_lt2 g0 g1) (Nat.pow_lt_pow_right (by decide) (Nat.lt_succ_self _))
        · decide
        · have d := dig_step g0 g1 (Int.emod_nonneg z (show (10 : Int) ^ (60 : Int).toNat ≠ 0 by decide)) (Int.emod_lt_of_pos z (show (0 : Int) < 10 ^ (60 : Int).toNat by decide))
          refine ⟨_, rfl, _, _, rfl, rfl, wide_mul (a := 61) (b := 61) (by omega) (by decide) (by decide) (by decide) (by decide), _, rfl, _, _, rfl, rfl, (show (0 : Int) < 2305843009213693921 by decide), _, _, rfl, rfl, _, _, rfl, rfl, _, _, rfl, rfl, (show (0 : Int) < 2305843009213693951 by decide), ?_⟩
          exact ⟨_, _, _, _, rfl, e, d.1, d.2, n1, by omega⟩
      · refine ⟨_, rfl, _, _, rfl, rfl, wide_mul (a := 61) (b := 61) (by omega) (by decide) (by decide) (by decide) (by decide), _, rfl, _, _, rfl, rfl, (show (0 : Int) < 2305843009213693921 by decide), _, _, rfl, rfl, _, _, rfl, rfl, _, _, rfl, rfl, (show (0 : Int) < 2305843009213693951 by decide), ?_⟩
        exact ⟨_, _, _, _, rfl, e, g0, Int.lt_of_lt_of_le g1 (two_le (by omega)), n1, by omega⟩
    · rintro σ H' ⟨g, sd, v1, v2, rfl, e, g0, g1, s0, s1⟩
      refine ⟨_, rfl, _, rfl, (by show 3 ≤ sizeLine; decide), fun p hp => ?_⟩
      exact k _ p (same_upd (e2.trans e) hp) ((e2.trans e).free hp) ⟨g, sd, 0, upd_same, s0, s1, by decide, by decide⟩
theorem sc_law_draw : FnScope ["rng", "limit", "found", "mixed"] ["rng", "limit"] (defScope s_draw) := ⟨rfl, rfl, rfl, by decide +kernel, rfl, by decide +kernel, by decide +kernel⟩
theorem ok_draw {f : Addr} {fd : FuncData} (F : Fun K "_law_draw" "_law_draw" s_draw f fd) : FnOk P w K mg base CX0 1 f fd ["rng", "limit"] spDraw := by
  refine F.ok sc_law_draw (fun vs H Q E h => ?_) (fun cdv A outer s H vs Q E hr h => ?_)
  · obtain ⟨a, n, many, rfl, _⟩ := h
    rfl
  · obtain ⟨a, n, many, rfl, hs, hn, m0, mb, k⟩ := h
    obtain ⟨g, sd, c, hA, s0, s1, c0, c1⟩ := hs
    refine ⟨_, (pss_cons (ps_if (pt_cmpR op_gt (pe_ix ix_list (pv 0) pe_int (fun _ _ => rfl)) pe_int (nomark _)) (pss_cons (ps_set (i := 2) sc_law_draw.nd rfl (Or.inl rfl) (pe_op op_mod (pe_ix ix_list (pv 0) pe_int (fun _ _ => rfl)) (pv 1)))
      (pss_cons (ps_asg (pe_op op_fdivW (pe_ix ix_list (pv 0) pe_int (fun _ _ => rfl)) (pv 1)) (pg_sub (pv 0) pe_int set_list))
      (pss_one (ps_ret (pv 2))))) pss_nil)
      (pss_cons (ps_asg (pe_op op_add (pe_ix ix_list (pv 0) pe_int (fun _ _ => rfl)) pe_int) (pg_sub (pv 0) pe_int set_list))
      (pss_cons (ps_set (i := 3) sc_law_draw.nd rfl (Or.inl rfl) (pe_op op_mod (pe_op op_powW (pe_op op_add (pe_ix ix_list (pv 0) pe_int (fun _ _ => rfl)) (pe_op op_mulW pe_int (pe_ix ix_list (pv 0) pe_int (fun _ _ => rfl)))) pe_int) pe_int))
      (pss_cons (ps_set (i := 3) sc_law_draw.nd rfl (Or.inl rfl) (pe_op op_mod (pe_op op_powW (pe_op op_add (pv 3) (pe_op op_mulW pe_int (pe_ix ix_list (pv 0) pe_int (fun _ _ => rfl)))) pe_int) pe_int))
      (pss_one (ps_ret (pe_op op_mod (pe_op op_fdivW (pv 3) pe_int) (pv 1)))))))), ?_⟩
    refine ⟨_, rfl, a, _, 0, _, rfl, rfl, SqL.of hA, rfl, _, _, rfl, rfl, _, rfl, ?_⟩
    refine ite2 (fun z => ?_) (fun z => ?_)
    · refine ⟨_, rfl, a, _, 0, _, rfl, rfl, SqL.of hA, rfl, _, rfl, _, _, rfl, rfl, m0, ?_⟩
      refine ⟨_, rfl, a, _, 0, _, rfl, rfl, SqL.of hA, rfl, _, rfl, _, _, rfl, rfl, ⟨m0, mb⟩, ?_⟩
      refine ⟨_, rfl, a, _, 0, 0, rfl, rfl, hA, rfl, ?_⟩
      exact ⟨_, rfl, k _ _ (Keep.refl H).upd1 ⟨_, sd, c, upd_same, s0, s1, c0, by omega⟩ (Int.emod_nonneg _ (by omega)) (Int.emod_lt_of_pos _ m0)⟩
    · refine ⟨_, rfl, a, _, 2, _, rfl, rfl, SqL.of hA, rfl, _, _, rfl, rfl, ?_⟩
      refine ⟨_, rfl, a, _, 2, 2, rfl, rfl, hA, rfl, ?_⟩
      have c2 : c + 1 < 2 ^ 41 := by omega
      generalize hH1 : upd H a (.lst ([V.int g, .int sd, .int c].set 2 (.int (c + 1)))) = H1
      have hA1 : H1 a = some (.lst [.int g, .int sd, .int (c + 1)]) := by rw [← hH1]; exact upd_same
      have kp : Keep a a H H1 := by rw [← hH1]; exact (Keep.refl H).upd1
      have mul1 : CMulW 998244353 (c + 1) := wide_mul (a := 61) (b := 61) (by decide) (by omega) (by decide) (by decide) (by decide)
      refine ⟨_, rfl, a, _, 1, _, rfl, rfl, SqL.of hA1, rfl, _, rfl, a, _, 2, _, rfl, rfl, SqL.of hA1, rfl, _, _, rfl, rfl, mul1, _, _, rfl, rfl, _, _, rfl, rfl, cpowW (a := 80) (by decide) (by decide) (by omega) (by decide), _, _, rfl, rfl, (show (0 : Int) < 162259276829213363391578010288127 by decide), ?_⟩
      have n1 := Int.emod_nonneg ((sd + 998244353 * (c + 1)) ^ (3 : Int).toNat) (show (162259276829213363391578010288127 : Int) ≠ 0 by decide)
      have n2 := Int.emod_lt_of_pos ((sd + 998244353 * (c + 1)) ^ (3 : Int).toNat) (show (0 : Int) < 162259276829213363391578010288127 by decide)
      generalize (sd + 998244353 * (c + 1)) ^ (3 : Int).toNat % 162259276829213363391578010288127 = mx1 at n1 n2 ⊢
      have mul2 : CMulW 32452843 (c + 1) := wide_mul (a := 61) (b := 61) (by decide) (by omega) (by decide) (by decide) (by decide)
      refine ⟨_, rfl, _, rfl, a, _, 2, _, rfl, rfl, SqL.of hA1, rfl, _, _, rfl, rfl, mul2, _, _, rfl, rfl, _, _, rfl, rfl, cpowW (a := 120) (by decide) (by decide) (by omega) (by decide), _, _, rfl, rfl, (show (0 : Int) < 170141183460469231731687303715884105727 by decide), ?_⟩
      generalize (mx1 + 32452843 * (c + 1)) ^ (3 : Int).toNat % 170141183460469231731687303715884105727 = mx2
      refine ⟨_, rfl, _, _, rfl, rfl, ⟨by decide, by decide⟩, _, rfl, _, _, rfl, rfl, m0, ?_⟩
      exact k _ _ kp ⟨g, sd, c + 1, hA1, s0, s1, by omega, by omega⟩ (Int.emod_nonneg _ (by omega)) (Int.emod_lt_of_pos _ m0)
end
end Gc

namespace Gc
open PySem L2
def Cmd.num : Cmd → Int
  | .down n => n
  | .up n => n
  | .right n => n
  | .left n => n
  | _ => 0
def AllSmall (cs : List Cmd) : Prop := ∀ c ∈ cs, c.num ≤ 10 ^ 30 ∧ c.dv.natAbs ≤ 2
theorem CmdAt.keep {K : PySem.W.Frag} {H H' : Hp} {v : V} {c : Cmd} {a : Addr} {ys : List V} (e : Keep a a H H') (ha : H a = some (.lst ys)) (h : CmdAt K H v c) : CmdAt K H' v c := by
  obtain ⟨b, e1, h1⟩ := h
  refine ⟨b, e1, ?_⟩
  rcases h1 with (z | ⟨o, z⟩) | z
  · have n := ne_of z ha (by intro q; cases q)
    exact .inl (.inl (e _ _ n n z))
  · have n := ne_of z ha (by intro q; cases q)
    exact .inl (.inr ⟨o, e _ _ n n z⟩)
  · exact .inr z
theorem CmdsOf.keep {K : PySem.W.Frag} {H H' : Hp} {xs : List V} {cs : List Cmd} {a : Addr} {ys : List V} (e : Keep a a H H') (ha : H a = some (.lst ys)) (h : CmdsOf K H xs cs) : CmdsOf K H' xs cs := Paired.mapP h fun _ _ q => q.keep e ha
theorem Paired.snoc {α β : Type} {F : α → β → Prop} : ∀ {xs : List α} {ys : List β} {x : α} {y : β}, Paired F xs ys → F x y → Paired F (xs ++ [x]) (ys ++ [y])
  | _, _, _, _, .nil, h => .cons h .nil
  | _, _, _, _, .cons f t, h => .cons f (Paired.snoc t h)
def spList (K : PySem.W.Frag) : Sp := fun vs H Q _ => ∃ (r : Addr) (n : Nat) (most size : Int), vs = [.ref r, .int most, .int size] ∧ Rng H r n ∧ n < 2 ^ 39 ∧ 0 ≤ most ∧ most ≤ 20 ∧ 1 ≤ size ∧ size ≤ 10 ^ 30 ∧
  ∀ (H' : Hp) (l : Addr) (xs : List V) (cs : List Cmd), Keep r r H H' → Rng H' r (n + 70) → H l = none → H' l = some (.lst xs) → CmdsOf K H' xs cs → AllOk cs → AllSmall cs → (cs.length : Int) ≤ most → Q (.ref l) H'
theorem Keep.free {a l : Addr} {H H' : Hp} {o : HO} (e : Keep a a H H') (h : H l = none) : Keep a a H (upd H' l o) := fun b u h1 h2 hb => by
  rw [upd_ne (ne_of_none hb h)]
  exact e b u h1 h2 hb
theorem Keep.seq {K : PySem.W.Frag} {H H' : Hp} {a l : Addr} {xs : List V} (e : Keep a a H H') (n : l ≠ a) (h : SqL K H l xs) : SqL K H' l xs := by
  rcases h with (h | ⟨o, h⟩) | h
  · exact .inl (.inl (e _ _ n n h))
  · exact .inl (.inr ⟨o, e _ _ n n h⟩)
  · exact .inr h
def LI (K : PySem.W.Frag) (H : Hp) (r l : Addr) (n i : Nat) (H' : Hp) (xs : List V) (cs : List Cmd) : Prop := Keep r r H H' ∧ Rng H' r (n + 1 + 3 * i) ∧ H' l = some (.lst xs) ∧ CmdsOf K H' xs cs ∧ AllOk cs ∧ AllSmall cs ∧ cs.length ≤ i
theorem li_step {K : PySem.W.Frag} {H H1 H6 : Hp} {r l t : Addr} {n i : Nat} {xs : List V} {cs : List Cmd} {c : Cmd} (lr : l ≠ r) (hl0 : H l = none) (h : LI K H r l n i H1 xs cs) (k : Keep r r H1 H6) (g : Rng H6 r (n + 1 + 3 * i + 3))
    (ht : H6 t = none) (ok : c.ok) (sm : c.num ≤ 10 ^ 30 ∧ c.dv.natAbs ≤ 2) : LI K H r l n (i + 1) (upd (upd H6 t (.tup (encC c))) l (.lst (xs ++ [.ref t]))) (xs ++ [.ref t]) (cs ++ [c]) := by
  obtain ⟨a1, ⟨_, _, _, a2, _⟩, a3, a4, a5, a6, a7⟩ := h
  obtain ⟨x, y, z, g1, g2⟩ := g
  have b3 := k _ _ lr lr a3
  have tl : t ≠ l := (ne_of_none b3 ht).symm
  have tr : t ≠ r := (ne_of_none g1 ht).symm
  have s1 : Same H6 (upd H6 t (.tup (encC c))) := same_upd (Same.refl H6) ht
  have b3' := s1 _ _ b3
  have kl : Keep l l (upd H6 t (.tup (encC c))) (upd (upd H6 t (.tup (encC c))) l (.lst (xs ++ [.ref t]))) := (Keep.refl _).upd1
  refine ⟨((a1.trans k).new ht).free hl0, ⟨x, y, z, ?_, ?_⟩, upd_same, Paired.snoc (((a4.keep k a2).same s1).keep kl b3') ⟨t, rfl, SqT.of ?_⟩, ?_, ?_, ?_⟩
  · rw [upd_ne lr.symm, upd_ne tr.symm]
    exact g1
  · obtain ⟨g3, g4, g5, g6⟩ := g2
    exact ⟨g3, g4, g5, by omega⟩
  · rw [upd_ne tl]
    exact upd_same
  · intro d hd
    rcases List.mem_append.mp hd with q | q
    · exact a5 d q
    · rw [List.mem_singleton.mp q]
      exact ok
  · intro d hd
    rcases List.mem_append.mp hd with q | q
    · exact a6 d q
    · rw [List.mem_singleton.mp q]
      exact sm
  · rw [List.length_append, List.length_singleton]
    omega
theorem small_len {n : Nat} (h : n ≤ 1000) : n < sizeLine := by rw [sizeLine_eq]; omega
section
variable {P : Program} {w : World} {K : PySem.W.Frag} {mg : Str → Option Value} {base : Heap}
theorem sc_law_list : FnScope ["rng", "most", "size", "found", "turn", "kind"] ["rng", "most", "size"] (defScope s_list) := ⟨rfl, rfl, rfl, by decide +kernel, rfl, by decide +kernel, by decide +kernel⟩
theorem ok_list {f : Addr} {fd : FuncData} (F : Fun K "_law_list" "_law_list" s_list f fd) (T : TxtA mg) (c_law_draw : Cal P w K mg base 1 "_law_draw" spDraw) : FnOk P w K mg base CX0 2 f fd ["rng", "most", "size"] (spList K) := by
  refine F.ok sc_law_list (fun vs H Q E h => ?_) (fun cdv A outer s H vs Q E hr h => ?_)
  · obtain ⟨r, n, most, size, rfl, _⟩ := h
    rfl
  · obtain ⟨r, n, most, size, rfl, hR, hn, m0, m1, z0, z1, k⟩ := h
    refine ⟨_, (pss_cons (ps_set (i := 3) sc_law_list.nd rfl (Or.inl rfl) (pe_lst pa_nil))
      (pss_cons (ps_for PassesOwn.never rfl (pi_range1 rfl T.range (pa_cons (pe_cal c_law_draw hr (by decide) (by rfl) (pa_cons (pv 0) (pa_cons (pe_op op_add (pv 1) pe_int) pa_nil))) pa_nil)) (pg_name (i := 4) sc_law_list.nd rfl (Or.inl rfl)) (pss_cons (ps_set (i := 5) sc_law_list.nd rfl (Or.inl rfl) (pe_cal c_law_draw hr (by decide) (by rfl) (pa_cons (pv 0) (pa_cons pe_int pa_nil))))
      (pss_one (ps_if (pt_cmpR op_lt (pv 5) pe_int (nomark _)) (pss_one (ps_expr (pe_bm PySem.F.plainAttrs_list PySem.F.slot_list_append PySem.F.type_list_append mt_append (pv 3) (pa_cons (pe_tup (pa_cons (pe_ix ix_list (pe_lst (pa_cons pe_str (pa_cons pe_str pa_nil))) (pv 5) (fun _ _ => rfl)) (pa_cons (pe_op op_add pe_int (pe_cal c_law_draw hr (by decide) (by rfl) (pa_cons (pv 0) (pa_cons pe_int pa_nil)))) pa_nil))) pa_nil)))) (pss_one (ps_if (pt_cmpR op_lt (pv 5) pe_int (nomark _)) (pss_one (ps_expr (pe_bm PySem.F.plainAttrs_list PySem.F.slot_list_append PySem.F.type_list_append mt_append (pv 3) (pa_cons (pe_tup (pa_cons (pe_ix ix_list (pe_lst (pa_cons pe_str (pa_cons pe_str pa_nil))) (pe_op op_mod (pv 5) pe_int) (fun _ _ => rfl)) (pa_cons (pe_op op_add pe_int (pe_cal c_law_draw hr (by decide) (by rfl) (pa_cons (pv 0) (pa_cons (pv 2) pa_nil)))) pa_nil))) pa_nil)))) (pss_one (ps_expr (pe_bm PySem.F.plainAttrs_list PySem.F.slot_list_append PySem.F.type_list_append mt_append (pv 3) (pa_cons (pe_tup (pa_cons (pe_ix ix_list (pe_lst (pa_cons pe_str (pa_cons pe_str pa_nil))) (pe_cal c_law_draw hr (by decide) (by rfl) (pa_cons (pv 0) (pa_cons pe_int pa_nil))) (fun _ _ => rfl)) pa_nil)) pa_nil))))))))))
      (pss_one (ps_ret (pv 3))))), ?_⟩
    -- found = []
    refine ⟨Nat.zero_le _, fun l hl => ?_⟩
    have hr0 : ∃ o, H r = some o := by
      obtain ⟨_, _, _, q, _⟩ := hR
      exact ⟨_, q⟩
    have lr : l ≠ r := by
      obtain ⟨o, q⟩ := hr0
      exact (ne_of_none q hl).symm
    have eA : Same H (upd H l (.lst [])) := same_upd (Same.refl H) hl
    refine ⟨_, rfl, _, rfl, _, _, rfl, rfl, r, n, _, rfl, hR.same eA, by omega, by omega, log9 (a := 10) (by omega) (by decide), fun H1 turns kp1 rg1 t0 t1 => ?_⟩
    have kH : Keep r r H H1 := (Keep.of eA).trans kp1
    have hl1 : H1 l = some (.lst []) := kp1 _ _ lr lr upd_same
    refine ⟨_, rfl, by omega, by omega, for_range (lo := 0) (fun i σ H' => ∃ (v4 v5 : Option V) (xs : List V) (cs : List Cmd), σ = [some (.ref r), some (.int most), some (.int size), some (.ref l), v4, v5] ∧ LI K H r l n i H' xs cs)
      ⟨none, none, [], [], rfl, kH, rg1, hl1, .nil, (fun _ h => nomatch h), (fun _ h => nomatch h), Nat.le_refl _⟩ (fun i σ H2 hi h => ?_) (fun σ H2 h => ?_)⟩
    · obtain ⟨v4, v5, xs, cs, rfl, h⟩ := h
      have hi' : i < 21 := by omega
      obtain ⟨a1, a2, a3, a4, a5, a6, a7⟩ := id h
      have xl : xs.length ≤ 1000 := by
        rw [a4.len]
        omega
      refine ⟨_, rfl, r, _, 9, rfl, a2, by omega, by decide, by decide, fun H3 kd kp3 rg3 k0 k1 => ?_⟩
      have l3 := kp3 _ _ lr lr a3
      refine ⟨_, rfl, _, _, rfl, rfl, _, rfl, ite2 (fun c => ?_) (fun c => ?_)⟩
      · have c' : kd < 2 := of_decide_eq_true c
        refine ⟨_, rfl, .inl ⟨rfl, _, SqL.of l3⟩, (by show 2 ≤ sizeLine; decide), fun q hq => ?_⟩
        have s4 : Same H3 (upd H3 q (.lst [.str "down", .str "up"])) := same_upd (Same.refl _) hq
        rcases (show kd = 0 ∨ kd = 1 by omega) with rfl | rfl
        · refine ⟨_, rfl, q, _, _, _, rfl, rfl, SqL.of upd_same, rfl, _, rfl, r, _, 2, rfl, rg3.same s4, by omega, by decide, by decide, fun H5 d kp5 rg5 d0 d1 => ?_⟩
          refine ⟨_, _, rfl, rfl, (by show 2 ≤ sizeLine; decide), fun t ht => ?_⟩
          have k16 : Keep r r H2 H5 := (kp3.trans (Keep.of s4)).trans kp5
          refine ⟨l, _, _, rfl, rfl, (same_upd (Same.refl H5) ht) _ _ (k16 _ _ lr lr a3), small_len xl, ?_⟩
          exact ⟨_, _, _, _, rfl, li_step (c := .down (1 + d)) lr hl h k16 (rg5.more (by omega)) ht (by show 1 ≤ 1 + d; omega) ⟨by show 1 + d ≤ 10 ^ 30; omega, by show (1 + d).natAbs ≤ 2; omega⟩⟩
        · refine ⟨_, rfl, q, _, _, _, rfl, rfl, SqL.of upd_same, rfl, _, rfl, r, _, 2, rfl, rg3.same s4, by omega, by decide, by decide, fun H5 d kp5 rg5 d0 d1 => ?_⟩
          refine ⟨_, _, rfl, rfl, (by show 2 ≤ sizeLine; decide), fun t ht => ?_⟩
          have k16 : Keep r r H2 H5 := (kp3.trans (Keep.of s4)).trans kp5
          refine ⟨l, _, _, rfl, rfl, (same_upd (Same.refl H5) ht) _ _ (k16 _ _ lr lr a3), small_len xl, ?_⟩
          exact ⟨_, _, _, _, rfl, li_step (c := .up (1 + d)) lr hl h k16 (rg5.more (by omega)) ht (by show 1 ≤ 1 + d; omega) ⟨by show 1 + d ≤ 10 ^ 30; omega, by show (-(1 + d)).natAbs ≤ 2; omega⟩⟩
      · refine ⟨_, rfl, _, _, rfl, rfl, _, rfl, ite2 (fun c2 => ?_) (fun c2 => ?_)⟩
        · refine ⟨_, rfl, .inl ⟨rfl, _, SqL.of l3⟩, (by show 2 ≤ sizeLine; decide), fun q hq => ?_⟩
          have s4 : Same H3 (upd H3 q (.lst [.str "left", .str "right"])) := same_upd (Same.refl _) hq
          refine ⟨_, rfl, _, _, rfl, rfl, (show (0 : Int) < 2 by decide), ?_⟩
          rcases (show kd % 2 = 0 ∨ kd % 2 = 1 by omega) with e0 | e0
          · refine ⟨q, _, _, _, rfl, rfl, SqL.of upd_same, (by rw [e0]; rfl), _, rfl, _, rfl, r, _, size, rfl, rg3.same s4, by omega, by omega, log9 (a := 100) (by omega) (by decide), fun H5 d kp5 rg5 d0 d1 => ?_⟩
            refine ⟨_, _, rfl, rfl, (by show 2 ≤ sizeLine; decide), fun t ht => ?_⟩
            have k16 : Keep r r H2 H5 := (kp3.trans (Keep.of s4)).trans kp5
            refine ⟨l, _, _, rfl, rfl, (same_upd (Same.refl H5) ht) _ _ (k16 _ _ lr lr a3), small_len xl, ?_⟩
            exact ⟨_, _, _, _, rfl, li_step (c := .left (1 + d)) lr hl h k16 (rg5.more (by omega)) ht (by show 1 ≤ 1 + d; omega) ⟨by show 1 + d ≤ 10 ^ 30; omega, Nat.zero_le _⟩⟩
          · refine ⟨q, _, _, _, rfl, rfl, SqL.of upd_same, (by rw [e0]; rfl), _, rfl, _, rfl, r, _, size, rfl, rg3.same s4, by omega, by omega, log9 (a := 100) (by omega) (by decide), fun H5 d kp5 rg5 d0 d1 => ?_⟩
            refine ⟨_, _, rfl, rfl, (by show 2 ≤ sizeLine; decide), fun t ht => ?_⟩
            have k16 : Keep r r H2 H5 := (kp3.trans (Keep.of s4)).trans kp5
            refine ⟨l, _, _, rfl, rfl, (same_upd (Same.refl H5) ht) _ _ (k16 _ _ lr lr a3), small_len xl, ?_⟩
            exact ⟨_, _, _, _, rfl, li_step (c := .right (1 + d)) lr hl h k16 (rg5.more (by omega)) ht (by show 1 ≤ 1 + d; omega) ⟨by show 1 + d ≤ 10 ^ 30; omega, Nat.zero_le _⟩⟩
        · refine ⟨_, rfl, .inl ⟨rfl, _, SqL.of l3⟩, (by show 2 ≤ sizeLine; decide), fun q hq => ?_⟩
          have s4 : Same H3 (upd H3 q (.lst [.str "home", .str "end"])) := same_upd (Same.refl _) hq
          have q4 : upd H3 q (.lst [.str "home", .str "end"]) q = some (.lst [.str "home", .str "end"]) := upd_same
          have qr : q ≠ r := by
            obtain ⟨_, _, _, z, _⟩ := rg3
            exact (ne_of_none z hq).symm
          refine ⟨_, rfl, r, _, 2, rfl, rg3.same s4, by omega, by decide, by decide, fun H5 d kp5 rg5 d0 d1 => ?_⟩
          have k16 : Keep r r H2 H5 := (kp3.trans (Keep.of s4)).trans kp5
          rcases (show d = 0 ∨ d = 1 by omega) with rfl | rfl
          · refine ⟨q, _, _, _, rfl, rfl, SqL.of (kp5 _ _ qr qr q4), rfl, (by show 1 ≤ sizeLine; decide), fun t ht => ?_⟩
            refine ⟨l, _, _, rfl, rfl, (same_upd (Same.refl H5) ht) _ _ (k16 _ _ lr lr a3), small_len xl, ?_⟩
            exact ⟨_, _, _, _, rfl, li_step (c := .home) lr hl h k16 (rg5.more (by omega)) ht trivial ⟨by show (0 : Int) ≤ 10 ^ 30; decide, Nat.zero_le _⟩⟩
          · refine ⟨q, _, _, _, rfl, rfl, SqL.of (kp5 _ _ qr qr q4), rfl, (by show 1 ≤ sizeLine; decide), fun t ht => ?_⟩
            refine ⟨l, _, _, rfl, rfl, (same_upd (Same.refl H5) ht) _ _ (k16 _ _ lr lr a3), small_len xl, ?_⟩
            exact ⟨_, _, _, _, rfl, li_step (c := .stop) lr hl h k16 (rg5.more (by omega)) ht trivial ⟨by show (0 : Int) ≤ 10 ^ 30; decide, Nat.zero_le _⟩⟩
    · obtain ⟨v4, v5, xs, cs, rfl, a1, a2, a3, a4, a5, a6, a7⟩ := h
      exact ⟨_, rfl, k _ l xs cs a1 (a2.more (by omega)) hl a3 a4 a5 a6 (by omega)⟩
end
end Gc

namespace Gc
open PySem L2
def spSpread (K : PySem.W.Frag) : Sp := fun vs H Q _ => ∃ (l : Addr) (xs : List V) (cs : List Cmd), vs = [.ref l] ∧ SqL K H l xs ∧ CmdsOf K H xs cs ∧
  ∀ (H' : Hp) (p : Addr), Same H H' → H' p = some (.tup [.int (rchM cs).1, .int (rchM cs).2.1, .int (last cs)]) → Q (.ref p) H'
def spAim (K : PySem.W.Frag) : Sp := fun vs H Q _ => ∃ (r l : Addr) (n : Nat) (xs : List V) (cs : List Cmd), vs = [.ref r, .ref l] ∧ Rng H r n ∧ n < 2 ^ 39 ∧ SqL K H l xs ∧ l ≠ r ∧ CmdsOf K H xs cs ∧ AllOk cs ∧ AllSmall cs ∧ cs.length ≤ 20 ∧
  ∀ (H' : Hp) (a : Int), Keep r r H H' → Rng H' r (n + 10) → 1 ≤ a → a ≤ 10 ^ 30 - 1 → Q (.int a) H'
theorem at_t {u v : V} {b : Bool} (h : b = true) : atI [u, v] (if b = true then (1 : Int) else 0) = some v := by
  subst h
  rfl
theorem at_f {u v : V} {b : Bool} (h : b = false) : atI [u, v] (if b = true then (1 : Int) else 0) = some u := by
  subst h
  rfl
theorem cut_ints (ns : List Int) (lo hi : Option Int) : ∃ ms : List Int, cutV (ns.map V.int) lo hi = ms.map V.int :=
  ⟨_, by unfold cutV; rw [← List.map_drop, ← List.map_take]⟩
theorem last_more {cs : List Cmd} {i : Nat} {c : Cmd} (h : cs[i]? = some c) : last (cs.take (i + 1)) = last (cs.take i) + c.dv := by
  rw [take_snoc h, last_app]
  show _ + (c.dv + 0) = _
  omega
theorem rch_within (cs : List Cmd) : Within cs (rchM cs).1 (rchM cs).2.1 ∧ (rchM cs).2.2 = last cs := by
  have key : ∀ n, n ≤ cs.length → (∀ i, i ≤ n → (rchM (cs.take n)).1 ≤ last (cs.take i) ∧ last (cs.take i) ≤ (rchM (cs.take n)).2.1) ∧ (rchM (cs.take n)).2.2 = last (cs.take n) := by
    intro n
    induction n with
    | zero =>
      intro _
      refine ⟨fun i hi => ?_, rfl⟩
      obtain rfl : i = 0 := by omega
      exact ⟨Int.le_refl 0, Int.le_refl 0⟩
    | succ n ih =>
      intro hn
      obtain ⟨h1, h2⟩ := ih (by omega)
      have hc : cs[n]? = some cs[n] := List.getElem?_eq_getElem (by omega)
      rw [rch_more hc]
      have lm := last_more hc
      unfold rstep
      refine ⟨fun i hi => ?_, by rw [h2, lm]⟩
      have top : (if (rchM (cs.take n)).2.2 + cs[n].dv < (rchM (cs.take n)).1 then (rchM (cs.take n)).2.2 + cs[n].dv else (rchM (cs.take n)).1) ≤ (rchM (cs.take n)).1 ∧ (if (rchM (cs.take n)).2.2 + cs[n].dv < (rchM (cs.take n)).1 then (rchM (cs.take n)).2.2 + cs[n].dv else (rchM (cs.take n)).1) ≤ (rchM (cs.take n)).2.2 + cs[n].dv := by
        split <;> omega
      have bot : (rchM (cs.take n)).2.1 ≤ (if (rchM (cs.take n)).2.2 + cs[n].dv > (rchM (cs.take n)).2.1 then (rchM (cs.take n)).2.2 + cs[n].dv else (rchM (cs.take n)).2.1) ∧ (rchM (cs.take n)).2.2 + cs[n].dv ≤ (if (rchM (cs.take n)).2.2 + cs[n].dv > (rchM (cs.take n)).2.1 then (rchM (cs.take n)).2.2 + cs[n].dv else (rchM (cs.take n)).2.1) := by
        split <;> omega
      by_cases e : i = n + 1
      · subst e
        rw [lm, ← h2]
        exact ⟨top.2, bot.2⟩
      · have q := h1 i (by omega)
        exact ⟨Int.le_trans top.1 q.1, Int.le_trans q.2 bot.1⟩
  have kl := key cs.length (Nat.le_refl _)
  rw [List.take_length] at kl
  refine ⟨fun i => ?_, kl.2⟩
  by_cases l : i ≤ cs.length
  · exact kl.1 i l
  · rw [List.take_of_length_le (by omega)]
    have := kl.1 cs.length (Nat.le_refl _)
    rw [List.take_length] at this
    exact this
theorem rch_flat {cs : List Cmd} {i : Nat} {c : Cmd} (h : cs[i]? = some c) (d : c.dv = 0) : rchM (cs.take (i + 1)) = rchM (cs.take i) := by
  rw [rch_more h]
  have w := (rch_within (cs.take i)).1.whole
  have e := (rch_within (cs.take i)).2
  unfold rstep
  rw [d, Int.add_zero, if_neg (by omega), if_neg (by omega)]
theorem rch_vert {cs : List Cmd} {i : Nat} {c : Cmd} (h : cs[i]? = some c) {d : Int} (hd : c.dv = d) : (rchM (cs.take (i + 1))).1 = (if last (cs.take i) + d < (rchM (cs.take i)).1 then last (cs.take i) + d else (rchM (cs.take i)).1) ∧
    (rchM (cs.take (i + 1))).2.1 = if last (cs.take i) + d > (rchM (cs.take i)).2.1 then last (cs.take i) + d else (rchM (cs.take i)).2.1 := by
  rw [rch_more h]
  have e := (rch_within (cs.take i)).2
  unfold rstep
  rw [hd, e]
  exact ⟨rfl, rfl⟩
section
variable {P : Program} {w : World} {K : PySem.W.Frag} {mg : Str → Option Value} {base : Heap}
theorem sc_law_spread : FnScope ["steps", "here", "least", "greatest", "step"] ["steps"] (defScope s_spread) := ⟨rfl, rfl, rfl, by decide +kernel, rfl, by decide +kernel, by decide +kernel⟩
theorem ok_spread {f : Addr} {fd : FuncData} (F : Fun K "_law_spread" "_law_spread" s_spread f fd) (T : TxtA mg) : FnOk P w K mg base CX0 1 f fd ["steps"] (spSpread K) := by
  refine F.ok sc_law_spread (fun vs H Q E h => ?_) (fun cdv A outer s H vs Q E hr h => ?_)
  · obtain ⟨l, xs, cs, rfl, _⟩ := h
    rfl
  · obtain ⟨l, xs, cs, rfl, hl, hcs, k⟩ := h
    refine ⟨_, (pss_cons (ps_asg (pe_tup (pa_cons pe_int (pa_cons pe_int (pa_cons pe_int pa_nil)))) (pg_tup rfl (pgs_cons (pg_name (i := 1) sc_law_spread.nd rfl (Or.inl rfl)) (pgs_cons (pg_name (i := 2) sc_law_spread.nd rfl (Or.inl rfl)) (pgs_cons (pg_name (i := 3) sc_law_spread.nd rfl (Or.inl rfl)) pgs_nil)))))
      (pss_cons (ps_for PassesOwn.never rfl (pi_list (pv 0)) (pg_name (i := 4) sc_law_spread.nd rfl (Or.inl rfl)) (pss_one (ps_if (pt_cmpR op_in_seq (pe_ix ix_tup (pv 4) pe_int (fun _ _ => rfl)) (pe_tup (pa_cons pe_str (pa_cons pe_str pa_nil))) (by rfl)) (pss_cons (ps_set (i := 1) sc_law_spread.nd rfl (Or.inl rfl) (pe_op op_add (pv 1) (pe_ix ix_list (pe_lst (pa_cons (pe_ix ix_tup (pv 4) pe_int (fun _ _ => rfl)) (pa_cons (pe_op op_sub pe_int (pe_ix ix_tup (pv 4) pe_int (fun _ _ => rfl))) pa_nil))) (pe_callTy call_int1 (by rfl) T.int (by decide +kernel) (pa_cons (pe_cmpR op_eq (pe_ix ix_tup (pv 4) pe_int (fun _ _ => rfl)) pe_str (nomark _)) pa_nil)) (fun _ _ => rfl))))
      (pss_one (ps_par (i := 2) (j := 3) rfl sc_law_spread.nd rfl rfl (by decide) rfl rfl (pa_cons (pe_callB (call_min2 rfl) (by rfl) T.min (by decide +kernel) (pa_cons (pv 2) (pa_cons (pv 1) pa_nil))) (pa_cons (pe_callB (call_max2 rfl) (by rfl) T.max (by decide +kernel) (pa_cons (pv 3) (pa_cons (pv 1) pa_nil))) pa_nil)) (by rfl)))) pss_nil)))
      (pss_one (ps_ret (pe_tup (pa_cons (pv 2) (pa_cons (pv 3) (pa_cons (pv 1) pa_nil)))))))), ?_⟩
    refine ⟨(by show 3 ≤ sizeLine; decide), fun p0 hp0 => ?_⟩
    refine ⟨p0, _, rfl, SqT.of upd_same, rfl, _, _, rfl, _, _, rfl, _, _, rfl, rfl, ?_⟩
    generalize gH1 : upd H p0 (.tup [.int 0, .int 0, .int 0]) = H1
    have e1 : Same H H1 := by rw [← gH1]; exact same_upd (Same.refl H) hp0
    refine ⟨_, rfl, l, rfl, ⟨_, e1.seq hl⟩, for_list (K := K) (a := l) (xs := xs) (fun i σ H' => ∃ (v4 : Option V), σ = [some (.ref l), some (.int (last (cs.take i))), some (.int (rchM (cs.take i)).1), some (.int (rchM (cs.take i)).2.1), v4] ∧ Same H H')
      ⟨none, rfl, e1⟩ (fun i σ H' _ ⟨_, _, e⟩ => e.seq hl) (fun i y σ H2 hi h => ?_) (fun σ H2 h => ?_)⟩
    · obtain ⟨v4, rfl, e2⟩ := h
      obtain ⟨c, hc, t, rfl, ht0⟩ := paired_at hcs hi
      have ht := seq_t e2 ht0
      have lm := last_more hc
      cases c with
      | down n =>
        refine ⟨_, rfl, t, _, 0, _, rfl, rfl, ht, rfl, (by show 2 ≤ sizeLine; decide), fun p1 hp1 => ?_⟩
        have s1 := same_upd (Same.refl H2) hp1 (o := .tup [.str "down", .str "up"])
        refine ⟨p1, _, rfl, .inr (SqT.of upd_same), rfl, rfl, true, by decide +kernel, iteT ?_⟩
        refine ⟨_, rfl, _, rfl, t, _, 1, _, rfl, rfl, seq_t s1 ht, rfl, _, rfl, t, _, 1, _, rfl, rfl, seq_t s1 ht, rfl, _, _, rfl, rfl, (by show 2 ≤ sizeLine; decide), fun q hq => ?_⟩
        have s2 := same_upd s1 hq (o := .lst [.int n, .int (0 - n)])
        refine ⟨_, rfl, t, _, 0, _, rfl, rfl, seq_t s2 ht, rfl, rfl, .inr ⟨_, rfl, q, _, _, _, rfl, rfl, SqL.of upd_same, at_f (by decide +kernel), _, _, rfl, rfl, ?_⟩⟩
        refine ⟨_, rfl, _, rfl, _, _, rfl, _, rfl, _, rfl, _, _, rfl, _, _, rfl, ?_⟩
        have e9 : last (cs.take (i + 1)) = last (cs.take i) + n := lm
        obtain ⟨v1, v2⟩ := rch_vert hc (show (Cmd.down n).dv = n from rfl)
        refine ⟨some (.ref t), ?_, e2.trans s2⟩
        rw [e9, v1, v2]
        rfl
      | up n =>
        refine ⟨_, rfl, t, _, 0, _, rfl, rfl, ht, rfl, (by show 2 ≤ sizeLine; decide), fun p1 hp1 => ?_⟩
        have s1 := same_upd (Same.refl H2) hp1 (o := .tup [.str "down", .str "up"])
        refine ⟨p1, _, rfl, .inr (SqT.of upd_same), rfl, rfl, true, by decide +kernel, iteT ?_⟩
        refine ⟨_, rfl, _, rfl, t, _, 1, _, rfl, rfl, seq_t s1 ht, rfl, _, rfl, t, _, 1, _, rfl, rfl, seq_t s1 ht, rfl, _, _, rfl, rfl, (by show 2 ≤ sizeLine; decide), fun q hq => ?_⟩
        have s2 := same_upd s1 hq (o := .lst [.int n, .int (0 - n)])
        refine ⟨_, rfl, t, _, 0, _, rfl, rfl, seq_t s2 ht, rfl, rfl, .inr ⟨_, rfl, q, _, _, _, rfl, rfl, SqL.of upd_same, at_t (by decide +kernel), _, _, rfl, rfl, ?_⟩⟩
        refine ⟨_, rfl, _, rfl, _, _, rfl, _, rfl, _, rfl, _, _, rfl, _, _, rfl, ?_⟩
        have e9 : last (cs.take (i + 1)) = last (cs.take i) + (0 - n) := by
          rw [lm]
          show _ + -n = _
          omega
        obtain ⟨v1, v2⟩ := rch_vert hc (show (Cmd.up n).dv = 0 - n by show -n = 0 - n; omega)
        refine ⟨some (.ref t), ?_, e2.trans s2⟩
        rw [e9, v1, v2]
        rfl
      | right n =>
        refine ⟨_, rfl, t, _, 0, _, rfl, rfl, ht, rfl, (by show 2 ≤ sizeLine; decide), fun p1 hp1 => ?_⟩
        have s1 := same_upd (Same.refl H2) hp1 (o := .tup [.str "down", .str "up"])
        refine ⟨p1, _, rfl, .inr (SqT.of upd_same), rfl, rfl, false, by decide +kernel, iteF ?_⟩
        have e9 : last (cs.take (i + 1)) = last (cs.take i) := lm.trans (Int.add_zero _)
        refine ⟨some (.ref t), ?_, e2.trans s1⟩
        rw [e9, rch_flat hc rfl]
        rfl
      | left n =>
        refine ⟨_, rfl, t, _, 0, _, rfl, rfl, ht, rfl, (by show 2 ≤ sizeLine; decide), fun p1 hp1 => ?_⟩
        have s1 := same_upd (Same.refl H2) hp1 (o := .tup [.str "down", .str "up"])
        refine ⟨p1, _, rfl, .inr (SqT.of upd_same), rfl, rfl, false, by decide +kernel, iteF ?_⟩
        have e9 : last (cs.take (i + 1)) = last (cs.take i) := lm.trans (Int.add_zero _)
        refine ⟨some (.ref t), ?_, e2.trans s1⟩
        rw [e9, rch_flat hc rfl]
        rfl
      | home =>
        refine ⟨_, rfl, t, _, 0, _, rfl, rfl, ht, rfl, (by show 2 ≤ sizeLine; decide), fun p1 hp1 => ?_⟩
        have s1 := same_upd (Same.refl H2) hp1 (o := .tup [.str "down", .str "up"])
        refine ⟨p1, _, rfl, .inr (SqT.of upd_same), rfl, rfl, false, by decide +kernel, iteF ?_⟩
        have e9 : last (cs.take (i + 1)) = last (cs.take i) := lm.trans (Int.add_zero _)
        refine ⟨some (.ref t), ?_, e2.trans s1⟩
        rw [e9, rch_flat hc rfl]
        rfl
      | stop =>
        refine ⟨_, rfl, t, _, 0, _, rfl, rfl, ht, rfl, (by show 2 ≤ sizeLine; decide), fun p1 hp1 => ?_⟩
        have s1 := same_upd (Same.refl H2) hp1 (o := .tup [.str "down", .str "up"])
        refine ⟨p1, _, rfl, .inr (SqT.of upd_same), rfl, rfl, false, by decide +kernel, iteF ?_⟩
        have e9 : last (cs.take (i + 1)) = last (cs.take i) := lm.trans (Int.add_zero _)
        refine ⟨some (.ref t), ?_, e2.trans s1⟩
        rw [e9, rch_flat hc rfl]
        rfl
    · obtain ⟨v4, rfl, e2⟩ := h
      refine ⟨_, rfl, _, rfl, _, rfl, (by show 3 ≤ sizeLine; decide), fun p hp => ?_⟩
      refine k _ p (same_upd e2 hp) ?_
      rw [upd_same, hcs.len, List.take_length]
end
end Gc

namespace Gc
open PySem L2
abbrev s_lots : Stmt := top 33
def spLots (K : PySem.W.Frag) : Sp := fun vs H Q _ => ∃ (r : Addr) (n : Nat), vs = [.ref r] ∧ Rng H r n ∧ n < 2 ^ 38 ∧
  ∀ (H' : Hp) (l : Addr) (xs : List V) (cs : List Cmd), Keep r r H H' → Rng H' r (n + 80) → H l = none → H' l = some (.lst xs) → CmdsOf K H' xs cs → AllOk cs → AllSmall cs → cs.length ≤ 20 → Q (.ref l) H'
section
variable {P : Program} {w : World} {K : PySem.W.Frag} {mg : Str → Option Value} {base : Heap}
theorem sc_law_lots : FnScope ["rng"] ["rng"] (defScope s_lots) := ⟨rfl, rfl, rfl, by decide +kernel, rfl, by decide +kernel, by decide +kernel⟩
theorem ok_lots {f : Addr} {fd : FuncData} (F : Fun K "_law_lots" "_law_lots" s_lots f fd) (c_law_draw : Cal P w K mg base 1 "_law_draw" spDraw) (c_law_list : Cal P w K mg base 2 "_law_list" (spList K)) : FnOk P w K mg base CX0 3 f fd ["rng"] (spLots K) := by
  refine F.ok sc_law_lots (fun vs H Q E h => ?_) (fun cdv A outer s H vs Q E hr h => ?_)
  · obtain ⟨r, n, rfl, _⟩ := h
    rfl
  · obtain ⟨r, n, rfl, rg, hn, k⟩ := h
    refine ⟨_, (pss_one (ps_ret (pe_cal c_law_list hr (by decide) (by rfl) (pa_cons (pv 0) (pa_cons (pe_ix ix_list (pe_lst (pa_cons pe_int (pa_cons pe_int (pa_cons pe_int pa_nil)))) (pe_cal c_law_draw hr (by decide) (by rfl) (pa_cons (pv 0) (pa_cons pe_int pa_nil))) (fun _ _ => rfl)) (pa_cons (pe_ix ix_list (pe_lst (pa_cons pe_int (pa_cons pe_int (pa_cons (pe_op op_pow pe_int pe_int) (pa_cons (pe_op op_sub (pe_op op_pow pe_int pe_int) pe_int) pa_nil))))) (pe_cal c_law_draw hr (by decide) (by rfl) (pa_cons (pv 0) (pa_cons pe_int pa_nil))) (fun _ _ => rfl)) pa_nil)))))), ?_⟩
    refine ⟨_, rfl, (by show 3 ≤ sizeLine; decide), fun q hq => ?_⟩
    have s1 : ∀ o, Same H (upd H q o) := fun o => same_upd (Same.refl H) hq
    have qr : q ≠ r := by
      obtain ⟨_, _, _, z, _⟩ := rg
      exact (ne_of_none z hq).symm
    refine ⟨_, rfl, r, _, 3, rfl, rg.same (s1 _), by omega, by decide, by decide, fun H2 d kp2 rg2 d0 d1 => ?_⟩
    obtain ⟨most, hv, z0, z1⟩ : ∃ v : Int, atI [V.int 5, .int 12, .int 20] d = some (.int v) ∧ 0 ≤ v ∧ v ≤ 20 := by
      rcases (show d = 0 ∨ d = 1 ∨ d = 2 by omega) with rfl | rfl | rfl
      · exact ⟨_, rfl, by decide, by decide⟩
      · exact ⟨_, rfl, by decide, by decide⟩
      · exact ⟨_, rfl, by decide, by decide⟩
    refine ⟨q, _, _, _, rfl, rfl, SqL.of (kp2 _ _ qr qr upd_same), hv, ?_⟩
    refine ⟨_, _, rfl, rfl, cpow (by decide), _, _, rfl, rfl, cpow (by decide), _, _, rfl, rfl, (by show 4 ≤ sizeLine; decide), fun q2 hq2 => ?_⟩
    have s2 : ∀ o, Same H2 (upd H2 q2 o) := fun o => same_upd (Same.refl H2) hq2
    have q2r : q2 ≠ r := by
      obtain ⟨_, _, _, z, _⟩ := rg2
      exact (ne_of_none z hq2).symm
    refine ⟨_, rfl, r, _, 4, rfl, rg2.same (s2 _), by omega, by decide, by decide, fun H3 d' kp3 rg3 d0' d1' => ?_⟩
    obtain ⟨size, hv2, y0, y1⟩ : ∃ v : Int, atI [V.int 3, .int 40, .int (10 ^ (12 : Int).toNat), .int (10 ^ (30 : Int).toNat - 1)] d' = some (.int v) ∧ 1 ≤ v ∧ v ≤ 10 ^ 30 := by
      rcases (show d' = 0 ∨ d' = 1 ∨ d' = 2 ∨ d' = 3 by omega) with rfl | rfl | rfl | rfl
      · exact ⟨_, rfl, by decide, by decide⟩
      · exact ⟨_, rfl, by decide, by decide⟩
      · exact ⟨_, rfl, by decide, by decide⟩
      · exact ⟨_, rfl, by decide, by decide⟩
    refine ⟨q2, _, _, _, rfl, rfl, SqL.of (kp3 _ _ q2r q2r upd_same), hv2, ?_⟩
    have k13 : Keep r r H H3 := (Keep.of (s1 _)).trans (kp2.trans ((Keep.of (s2 _)).trans kp3))
    refine ⟨r, _, most, size, rfl, rg3, by omega, z0, z1, y0, y1, fun H4 l xs cs kp4 rg4 nl hl hcs ok sm ln => ?_⟩
    have nl0 : H l = none := by
      cases e : H l with
      | none => rfl
      | some o =>
        have lr : l ≠ r := by
          obtain ⟨_, _, _, z, _⟩ := rg3
          exact (ne_of_none z nl).symm
        have z := k13 _ _ lr lr e
        rw [nl] at z
        cases z
    exact k H4 l xs cs (k13.trans kp4) (rg4.more (by omega)) nl0 hl hcs ok sm (by omega)
end
end Gc

/-! small helps: lists of commands, the drawn list at rng -/
namespace Gc
open PySem L2
theorem Keep.same1 {r : Addr} {H H1 H2 : Hp} (k : Keep r r H H1) (e : Same H1 H2) : Keep r r H H2 := k.trans (Keep.of e)
theorem Rng.cmds {K : PySem.W.Frag} {H H' : Hp} {r : Addr} {n : Nat} {xs : List V} {cs : List Cmd} (B : Rng H r n) (k : Keep r r H H') (h : CmdsOf K H xs cs) : CmdsOf K H' xs cs := by
  obtain ⟨_, _, _, z, _⟩ := B
  exact h.keep k z
theorem Rng.tup {K : PySem.W.Frag} {H H' : Hp} {r p : Addr} {n : Nat} {ys : List V} (B : Rng H r n) (k : Keep r r H H') (h : SqT K H p ys) : SqT K H' p ys := by
  obtain ⟨_, _, _, z, _⟩ := B
  rcases h with (q | ⟨o, q⟩) | q
  · exact .inl (.inl (k _ _ (ne_of q z (by intro y; cases y)) (ne_of q z (by intro y; cases y)) q))
  · exact .inl (.inr ⟨o, k _ _ (ne_of q z (by intro y; cases y)) (ne_of q z (by intro y; cases y)) q⟩)
  · exact .inr q
theorem Rng.off {H : Hp} {r p : Addr} {n : Nat} (B : Rng H r n) (h : H p = none) : p ≠ r := by
  obtain ⟨_, _, _, z, _⟩ := B
  exact (ne_of_none z h).symm
theorem small_app {xs ys : List Cmd} (h : AllSmall xs) (g : AllSmall ys) : AllSmall (xs ++ ys) := fun c hc => (List.mem_append.mp hc).elim (h c) (g c)
theorem ok_app {xs ys : List Cmd} (h : AllOk xs) (g : AllOk ys) : AllOk (xs ++ ys) := fun c hc => (List.mem_append.mp hc).elim (h c) (g c)
theorem small_take {xs : List Cmd} (h : AllSmall xs) (n : Nat) : AllSmall (xs.take n) := fun c hc => h c (List.mem_of_mem_take hc)
theorem small_drop {xs : List Cmd} (h : AllSmall xs) (n : Nat) : AllSmall (xs.drop n) := fun c hc => h c (List.mem_of_mem_drop hc)
theorem ok_take {xs : List Cmd} (h : AllOk xs) (n : Nat) : AllOk (xs.take n) := fun c hc => h c (List.mem_of_mem_take hc)
theorem ok_drop {xs : List Cmd} (h : AllOk xs) (n : Nat) : AllOk (xs.drop n) := fun c hc => h c (List.mem_of_mem_drop hc)
theorem CmdsOf.take {K : PySem.W.Frag} {H : Hp} {xs : List V} {cs : List Cmd} (h : CmdsOf K H xs cs) (n : Nat) : CmdsOf K H (xs.take n) (cs.take n) := paired_take n h
theorem CmdsOf.drop {K : PySem.W.Frag} {H : Hp} {xs : List V} {cs : List Cmd} (h : CmdsOf K H xs cs) (n : Nat) : CmdsOf K H (xs.drop n) (cs.drop n) := paired_drop n h
theorem CmdsOf.app {K : PySem.W.Frag} {H : Hp} {xs ys : List V} {cs ds : List Cmd} (h : CmdsOf K H xs cs) (g : CmdsOf K H ys ds) : CmdsOf K H (xs ++ ys) (cs ++ ds) := paired_app h g
theorem dv_flat' {c : Cmd} (h : c.vert = false) : c.dv = 0 := by cases c <;> first | rfl | cases h
theorem split_at {cs : List Cmd} {i : Nat} {c : Cmd} (h : cs[i]? = some c) : cs = cs.take i ++ [c] ++ cs.drop (i + 1) := by
  obtain ⟨hi, e⟩ := List.getElem?_eq_some_iff.mp h
  have d : cs.drop i = c :: cs.drop (i + 1) := by rw [List.drop_eq_getElem_cons hi, e]
  conv => lhs; rw [← List.take_append_drop i cs, d]
  simp
end Gc

namespace Gc
open PySem L2
theorem rch_bnd {V : Int} (V0 : 0 ≤ V) {cs : List Cmd} (h : ∀ c ∈ cs, -V ≤ c.dv ∧ c.dv ≤ V) : -(cs.length * V) ≤ (rchM cs).1 ∧ (rchM cs).1 ≤ 0 ∧ 0 ≤ (rchM cs).2.1 ∧ (rchM cs).2.1 ≤ cs.length * V ∧ -(cs.length * V) ≤ last cs ∧ last cs ≤ cs.length * V := by
  have key : ∀ n, n ≤ cs.length → -(n * V) ≤ (rchM (cs.take n)).1 ∧ (rchM (cs.take n)).1 ≤ 0 ∧ 0 ≤ (rchM (cs.take n)).2.1 ∧ (rchM (cs.take n)).2.1 ≤ n * V ∧ -(n * V) ≤ (rchM (cs.take n)).2.2 ∧ (rchM (cs.take n)).2.2 ≤ n * V := by
    intro n
    induction n with
    | zero => intro _; show -(((0 : Nat) : Int) * V) ≤ 0 ∧ (0 : Int) ≤ 0 ∧ (0 : Int) ≤ 0 ∧ (0 : Int) ≤ ((0 : Nat) : Int) * V ∧ -(((0 : Nat) : Int) * V) ≤ 0 ∧ (0 : Int) ≤ ((0 : Nat) : Int) * V; simp
    | succ n ih =>
      intro hn
      have q := ih (by omega)
      have hc : cs[n]? = some cs[n] := List.getElem?_eq_getElem (by omega)
      have b := h cs[n] (List.getElem_mem _)
      rw [rch_more hc]
      have m : ((n + 1 : Nat) : Int) * V = n * V + V := by rw [Int.natCast_add, Int.add_mul]; simp
      rw [m]
      generalize rchM (cs.take n) = s at q ⊢
      generalize (n : Int) * V = nv at q ⊢
      unfold rstep
      dsimp only
      refine ⟨?_, ?_, ?_, ?_, ?_, ?_⟩ <;> first | (split <;> omega) | omega
  have q := key cs.length (Nat.le_refl _)
  rw [List.take_length, (rch_within cs).2] at q
  exact q
end Gc

/-! forms and boxes shown -/
namespace Gc
open PySem L2
/-- repr(x), x any datum of small size -/
def ShowOk (d : PyData) : Prop := d.showable = true ∧ d.hasDict = false ∧ d.depth ≤ 60 ∧ d.shown.length ≤ sizeLine
def rReprD (K : PySem.W.Frag) : List V → Hp → VK → Prop := fun xs H Q => ∃ (x : V) (d : PyData), xs = [x] ∧ Dp K H x d ∧ ((∃ a, x = .ref a) ∨ (x = .non ∧ d = .none)) ∧ ShowOk d ∧ Q (.str d.shown) H
theorem cr_reprD {X : Cx} (hg : X.A.guards = some []) (hu : X.A.units + 64 < cLine) : CallR X (.builtin "repr") (rReprD X.K) := by
  intro pins s σ H xs us Q I r h
  obtain ⟨x, d, rfl, hd, hx, ⟨hs, hn, hdp, hz⟩, q⟩ := h
  rcases hx with ⟨a, rfl⟩ | ⟨rfl, rfl⟩
  · obtain ⟨u, rfl, ru⟩ := vals1 r
    obtain ⟨as, rd⟩ := Dp.reads I d _ u hd ru
    obtain rfl : u = Value.ref a := ru
    refine PySem.repr_of_reads' rd hs (fun z => by rw [hn] at z; cases z) hg (by omega) (fun _ _ e => e) (fun h' v tk hk => ⟨.str d.shown, H, I.kept hk, ⟨_, rfl⟩, q⟩) hz
  · obtain ⟨u, rfl, ru⟩ := vals1 r
    obtain rfl : u = Value.none := ru
    rw [PyData.shown_none] at q
    exact P.repr_of_none ⟨.str "None", H, I.tok _, ⟨_, rfl⟩, q⟩
theorem show_ok {d : PyData} (o : Ok0 d) (w : d.weight ≤ 100000) (h : d.depth ≤ 60) : ShowOk d := ⟨o.1, o.2.1, h, ok0_len o w⟩
theorem small_dv {cs : List Cmd} (h : AllSmall cs) : ∀ c ∈ cs, -2 ≤ c.dv ∧ c.dv ≤ 2 := fun c hc => by
  have := (h c hc).2
  omega
theorem small_bnd {cs : List Cmd} (h : AllSmall cs) : Bnd cs := fun c hc => by
  obtain ⟨a, b⟩ := h c hc
  refine ⟨?_, by omega⟩
  cases c with
  | left n => exact a
  | down n => show (0 : Int) ≤ 10 ^ 30; decide
  | up n => show (0 : Int) ≤ 10 ^ 30; decide
  | right n => show (0 : Int) ≤ 10 ^ 30; decide
  | home => show (0 : Int) ≤ 10 ^ 30; decide
  | stop => show (0 : Int) ≤ 10 ^ 30; decide
theorem small_nb {cs : List Cmd} (ok : AllOk cs) (h : AllSmall cs) : ∀ c ∈ cs, NB (10 ^ 30) 2 c := fun c hc => by
  have o := ok c hc
  obtain ⟨a, b⟩ := h c hc
  cases c with
  | left n => exact ⟨Int.le_trans (by decide) (show 1 ≤ n from o), a⟩
  | right n => exact ⟨Int.le_trans (by decide) (show 1 ≤ n from o), a⟩
  | down n =>
    have b' : n.natAbs ≤ 2 := b
    exact ⟨by omega, by omega⟩
  | up n =>
    have b' : (-n).natAbs ≤ 2 := b
    exact ⟨by omega, by omega⟩
  | home => trivial
  | stop => trivial
theorem form_show {cs : List Cmd} (ok : AllOk cs) (sm : AllSmall cs) (ln : cs.length ≤ 20) : ShowOk (formOf cs) := by
  have r := rch_bnd (by decide) (small_dv sm)
  obtain ⟨b1, b2⟩ := form_bnd (M := 10 ^ 30) (V := 2) (by decide) (by decide) (small_nb ok sm)
  have B : ((cs.length : Int) * 10 ^ 30) + 1 < 2 ^ 105 := by
    have p1 : (2 : Int) ^ 105 = 40564819207303340847894502572032 := by decide
    have p2 : (10 : Int) ^ 30 = 1000000000000000000000000000000 := by decide
    omega
  have W : ((cs.length : Int) * 2) < 2 ^ 10 := by
    have p1 : (2 : Int) ^ 10 = 1024 := by decide
    omega
  obtain ⟨o1, o2, o3⟩ := pieces_ok (k := 105) (by decide) (by decide) B W b1
  have s : ∀ x : Int, -(20 * 2) ≤ x → x ≤ 20 * 2 → Sml x := fun x h1 h2 => by
    unfold Sml
    have : (2 : Nat) ^ 120 = 1329227995784915872903807060280344576 := by decide
    omega
  have s1 := s (rchM cs).1 (by omega) (by omega)
  have s2 := s (rchM cs).2.1 (by omega) (by omega)
  have s3 := s (rchM cs).2.2 (by rw [(rch_within cs).2]; omega) (by rw [(rch_within cs).2]; omega)
  have w1 := sml_weight s1
  have w2 := sml_weight s2
  have w3 := sml_weight s3
  have e : formOf cs = .tuple [.tuple [.int (rchM cs).1, .int (rchM cs).2.1, .int (rchM cs).2.2], .list ((formM cs).map pieceD)] := rfl
  have m : ((105 + 20) * cs.length + 2 * 105 + 20) * (formM cs).length ≤ ((105 + 20) * 20 + 2 * 105 + 20) * 21 := Nat.mul_le_mul (by omega) (by omega)
  rw [e]
  refine show_ok (ok0_tup (ok0_cons (ok0_tup (ok0_cons (ok0_int s1) (ok0_cons (ok0_int s2) (ok0_cons (ok0_int s3) ok0_nil)))) (ok0_cons (ok0_list o1) ok0_nil))) ?_ ?_
  · simp only [PyData.weight, PyData.weightAll] at w1 w2 w3 ⊢
    omega
  · simp only [PyData.depth, PyData.depthAll]
    omega
theorem box_show {cs : List Cmd} (ok : AllOk cs) (sm : AllSmall cs) (ln : cs.length ≤ 20) {goal : Int} (hg : 1 ≤ goal) (g1 : goal ≤ 10 ^ 30) : ShowOk (boxD (boxM cs goal)) := by
  have q : BSml (boxM cs goal) ∧ ∀ x, boxM cs goal = some x → x.2.length ≤ 20 := by
    obtain ⟨w, wl⟩ := rch_within cs
    have lb := lsum_le (small_bnd sm)
    have r := rch_bnd (by decide) (small_dv sm)
    cases e : boxM cs goal with
    | none => exact ⟨trivial, fun x h => nomatch h⟩
    | some x =>
      obtain ⟨st, L⟩ := x
      have bw := box_within e w
      have bv := box_vals (B := 10 ^ 32) e ok (by omega)
      obtain ⟨g, pb⟩ : Good L ∧ ∀ n, st = some n → 1 ≤ n := by
        rcases box_spec ok hg with ⟨b1, _⟩ | ⟨st', b, b1, gb, _, pb⟩
        · rw [b1] at e
          cases e
        · rw [b1] at e
          cases e
          exact ⟨good_perm gb (List.mergeSort_perm b leK), pb⟩
      have p120 : (2 : Nat) ^ 120 = 1329227995784915872903807060280344576 := by decide
      refine ⟨⟨fun n es => ?_, fun q hq => ⟨?_, ?_⟩⟩, fun x h => ?_⟩
      · have q1 := pb n es
        have q2 := bv.2 n es
        unfold Sml
        omega
      · have q1 := bw q hq
        unfold Sml
        omega
      · have q1 := g.pos q hq
        have q2 := bv.1 q hq
        unfold Sml
        omega
      · cases h
        exact Nat.le_trans (box_len e) ln
  obtain ⟨o, w, d⟩ := boxD_ok0 q.1 q.2
  exact show_ok o (by omega) (by omega)
theorem dp_optV {K : PySem.W.Frag} {H : Hp} (o : Option Int) : Dp K H (optV o) (optD o) := by
  cases o with
  | none => exact .non
  | some n => exact .int n
theorem dp_pairT {K : PySem.W.Frag} {H : Hp} : ∀ {ts : List Addr} {L : Ps}, Paired (fun (t : Addr) (q : Int × Int) => H t = some (.tup [.int q.1, .int q.2])) ts L → DpAll K H (ts.map V.ref) (L.map pairD)
  | _, _, .nil => .nil
  | _, _, .cons h t => .cons (.tup (SqT.of h) (.cons (.int _) (.cons (.int _) .nil))) (dp_pairT t)
@[irreducible] def zBox (K : PySem.W.Frag) : Sp := spBox K
theorem zBox_eq (K : PySem.W.Frag) : zBox K = spBox K := by unfold zBox; rfl
theorem ask_boxD {K : PySem.W.Frag} {H : Hp} {Q : VK} {E : XK} {l : Addr} {xs : List V} {cs : List Cmd} {goal : Int} (hl : SqL K H l xs) (hc : CmdsOf K H xs cs) (ok : AllOk cs) (len : cs.length ≤ 10000) (hg : 1 ≤ goal)
    (k : ∀ (H' : Hp) (v : V), Same H H' → Dp K H' v (boxD (boxM cs goal)) → ((∃ a, v = .ref a) ∨ (v = .non ∧ boxD (boxM cs goal) = .none)) → Q v H') : zBox K [.ref l, .int goal] H Q E := by
  rw [zBox_eq]
  refine ⟨l, xs, cs, goal, rfl, hl, hc, ok, len, hg, fun e H' s => ?_, fun st L e H' p s q => ?_⟩
  · refine k H' .non s ?_ (.inr ⟨rfl, ?_⟩) <;> rw [e]
    · exact .non
    · rfl
  · refine k H' (.ref p) s ?_ (.inl ⟨p, rfl⟩)
    rw [e]
    obtain ⟨m, ts, _, _, h1, h2, h3⟩ := q
    exact .tup (SqT.of h1) (.cons (dp_optV st) (.cons (.lst (SqL.of h2) (dp_pairT h3)) .nil))
end Gc

/-! texts read back, where they can be -/
namespace Gc
open PySem L2 TL
abbrev s_read_commands : Stmt := top 26
abbrev s_read_command : Stmt := top 27
abbrev s_is_number : Stmt := top 28
structure TxtRd (K : PySem.W.Frag) (w : World) (mg : Str → Option Value) (na nb : Addr) (eA eB : Array DictEntry) (nA nB : Nat) (tm : Tok) : Prop where
  g_NAMES_ALONE : mg "NAMES_ALONE" = some (.ref na)
  g_NAMES_BEHIND_NUMBER : mg "NAMES_BEHIND_NUMBER" = some (.ref nb)
  g_MOST_DIGITS : mg "MOST_DIGITS" = some (.int 40 tm)
  dA : KDict K w na eA nA
  dB : KDict K w nb eB nB
  aH : ∃ t, PySem.W.nsIn K na "H" = some (some (.str "home" t))
  aE : ∃ t, PySem.W.nsIn K na "E" = some (some (.str "end" t))
  aNo : ∀ x : Str, x ≠ "H" → x ≠ "E" → PySem.W.nsIn K na x = some none
  bD : ∃ t, PySem.W.nsIn K nb "D" = some (some (.str "down" t))
  bU : ∃ t, PySem.W.nsIn K nb "U" = some (some (.str "up" t))
  bR : ∃ t, PySem.W.nsIn K nb "R" = some (some (.str "right" t))
  bL : ∃ t, PySem.W.nsIn K nb "L" = some (some (.str "left" t))
  int : mg "int" = none
  len : mg "len" = none
  all : mg "all" = none
def aloneL (t1 t2 u1 u2 : Tok) : List (Str × Tok × Str × Tok) := [("H", t1, "home", u1), ("E", t2, "end", u2)]
def behindL (t1 t2 t3 t4 u1 u2 u3 u4 : Tok) : List (Str × Tok × Str × Tok) := [("D", t1, "down", u1), ("U", t2, "up", u2), ("R", t3, "right", u3), ("L", t4, "left", u4)]
theorem rd_mk {K : PySem.W.Frag} {w : World} {mg : Str → Option Value} {na nb : Addr} {nA nB : Nat} {tm t1 t2 u1 u2 s1 s2 s3 s4 r1 r2 r3 r4 : Tok} (g1 : mg "NAMES_ALONE" = some (.ref na)) (g2 : mg "NAMES_BEHIND_NUMBER" = some (.ref nb)) (g3 : mg "MOST_DIGITS" = some (.int 40 tm))
    (lA : K.lookup na = some ⟨.type "dict", none, .dict #[⟨PyData.keyHash w.params "H", .str "H" t1, .str "home" u1⟩, ⟨PyData.keyHash w.params "E", .str "E" t2, .str "end" u2⟩] nA, #[]⟩)
    (lB : K.lookup nb = some ⟨.type "dict", none, .dict #[⟨PyData.keyHash w.params "D", .str "D" s1, .str "down" r1⟩, ⟨PyData.keyHash w.params "U", .str "U" s2, .str "up" r2⟩, ⟨PyData.keyHash w.params "R", .str "R" s3, .str "right" r3⟩, ⟨PyData.keyHash w.params "L", .str "L" s4, .str "left" r4⟩] nB, #[]⟩)
    (oA : (na == sysModules) = false) (oB : (nb == sysModules) = false) (z1 : mg "int" = none) (z2 : mg "len" = none) (z3 : mg "all" = none) :
    TxtRd K w mg na nb ((aloneL t1 t2 u1 u2).map (entD w.params)).toArray ((behindL s1 s2 s3 s4 r1 r2 r3 r4).map (entD w.params)).toArray nA nB tm := by
  have hA : K.lookup na = some ⟨.type "dict", none, .dict ((aloneL t1 t2 u1 u2).map (entD w.params)).toArray nA, #[]⟩ := lA
  have hB : K.lookup nb = some ⟨.type "dict", none, .dict ((behindL s1 s2 s3 s4 r1 r2 r3 r4).map (entD w.params)).toArray nB, #[]⟩ := lB
  refine ⟨g1, g2, g3, kd_ent hA oA, kd_ent hB oB, ⟨u1, ?_⟩, ⟨u2, ?_⟩, fun x n1 n2 => ?_, ⟨r1, ?_⟩, ⟨r2, ?_⟩, ⟨r3, ?_⟩, ⟨r4, ?_⟩, z1, z2, z3⟩
  · rw [ns_ent hA]
    unfold aloneL
    rw [List.find?_cons, show decide (("H" : Str) = "H") = true by decide +kernel]
    rfl
  · rw [ns_ent hA]
    unfold aloneL
    rw [List.find?_cons, show decide (("H" : Str) = "E") = false by decide +kernel]
    dsimp only
    rw [List.find?_cons, show decide (("E" : Str) = "E") = true by decide +kernel]
    rfl
  · rw [ns_ent hA]
    unfold aloneL
    rw [List.find?_cons, show decide (("H" : Str) = x) = false from decide_eq_false (Ne.symm n1)]
    dsimp only
    rw [List.find?_cons, show decide (("E" : Str) = x) = false from decide_eq_false (Ne.symm n2)]
    rfl
  · rw [ns_ent hB]
    unfold behindL
    rw [List.find?_cons, show decide (("D" : Str) = "D") = true by decide +kernel]
    rfl
  · rw [ns_ent hB]
    unfold behindL
    rw [List.find?_cons, show decide (("D" : Str) = "U") = false by decide +kernel]
    dsimp only
    rw [List.find?_cons, show decide (("U" : Str) = "U") = true by decide +kernel]
    rfl
  · rw [ns_ent hB]
    unfold behindL
    rw [List.find?_cons, show decide (("D" : Str) = "R") = false by decide +kernel]
    dsimp only
    rw [List.find?_cons, show decide (("U" : Str) = "R") = false by decide +kernel]
    dsimp only
    rw [List.find?_cons, show decide (("R" : Str) = "R") = true by decide +kernel]
    rfl
  · rw [ns_ent hB]
    unfold behindL
    rw [List.find?_cons, show decide (("D" : Str) = "L") = false by decide +kernel]
    dsimp only
    rw [List.find?_cons, show decide (("U" : Str) = "L") = false by decide +kernel]
    dsimp only
    rw [List.find?_cons, show decide (("R" : Str) = "L") = false by decide +kernel]
    dsimp only
    rw [List.find?_cons, show decide (("L" : Str) = "L") = true by decide +kernel]
    rfl
def spIsNum (K : PySem.W.Frag) : Sp := fun vs H Q _ => ∃ n : Nat, vs = [.str (mkS (numL n))] ∧ 1 ≤ n ∧ n < 10 ^ 40 ∧ ∀ H', Same H H' → Q (.bl true) H'
def spRead1 (K : PySem.W.Frag) : Sp := fun vs H Q _ => ∃ c : Cmd, vs = [.str (mkS (cw c))] ∧ c.ok ∧ numC c < 10 ^ 40 ∧ ∀ (H' : Hp) (p : Addr), Same H H' → H p = none → H' p = some (.tup (encC c)) → Q (.ref p) H'
def spRead (K : PySem.W.Frag) : Sp := fun vs H Q _ => ∃ cs : List Cmd, vs = [.str (shownS cs)] ∧ AllOk cs ∧ (∀ c ∈ cs, numC c < 10 ^ 40) ∧ cs.length ≤ 1000 ∧
  ∀ (H' : Hp) (p : Addr) (xs : List V), Same H H' → H p = none → H' p = some (.lst xs) → CmdsOf K H' xs cs → Q (.ref p) H'
section
variable {P : Program} {w : World} {K : PySem.W.Frag} {mg : Str → Option Value} {base : Heap} {na nb : Addr} {eA eB : Array DictEntry} {nA nB : Nat} {tm : Tok}
theorem sc_is_number : FnScope ["digits", "digit"] ["digits"] (defScope s_is_number) := ⟨rfl, rfl, rfl, by decide +kernel, rfl, by decide +kernel, by decide +kernel⟩
theorem ok_is_number {f : Addr} {fd : FuncData} (F : Fun K "is_number" "is_number" s_is_number f fd) (T : TxtRd K w mg na nb eA eB nA nB tm) : FnOk P w K mg base CX0 1 f fd ["digits"] (spIsNum K) := by
  refine F.ok sc_is_number (fun vs H Q E h => ?_) (fun cdv A outer s H vs Q E hr h => ?_)
  · obtain ⟨n, rfl, _⟩ := h
    rfl
  · obtain ⟨n, rfl, n1, n2, k⟩ := h
    refine ⟨_, (pss_cons (ps_if (PW.pt (pw_or (pt_not (pt_chain op_le op_le pe_int (pe_callB call_len_str (by rfl) T.len (by decide +kernel) (pa_cons (pv 0) pa_nil)) (pe_glob (v := .int 40) (by rfl) T.g_MOST_DIGITS ⟨_, rfl⟩))) (pw_or1 (pt_cmpR op_eq (pe_ix ix_str (pv 0) pe_int (fun _ _ => rfl)) pe_str (nomark _))))) (pss_one (ps_ret pe_bl)) pss_nil)
      (pss_one (ps_ret (pe_callB (cr_all rfl) (by rfl) T.all (by decide +kernel) (pa_cons (pe_lc (own := [("digit", 1)]) rfl sc_is_number.nd (pi_str (pv 0)) (blkOk_by (N := ["digits", "digit"]) (sc := defScope s_is_number) (by decide +kernel)) (fun _ _ _ _ _ => (pg_name (i := 1) sc_is_number.nd rfl (Or.inl rfl))) (fun _ _ _ _ _ => pts_nil) (fun _ _ _ _ _ => (pe_cmpR op_in_sign (pv 1) pe_str (by rfl)))) pa_nil))))), ?_⟩
    obtain ⟨a, l, e, a1, a2⟩ := numL_head n1
    have dg := numL_digits n
    have ln := numL_len (n := n) (k := 40) (by decide) n2
    have ll : (mkS (numL n)).length ≤ sizeLine := by
      rw [mkS_len, sizeLine_eq]
      omega
    have l1 : 1 ≤ (numL n).length := by rw [e]; simp
    refine ⟨_, rfl, _, rfl, ll, _, _, rfl, rfl, _, rfl, ?_⟩
    rw [if_pos (decide_eq_true (show (1 : Int) ≤ ((mkS (numL n)).length : Int) by rw [mkS_len]; omega))]
    refine ⟨_, _, rfl, rfl, _, rfl, ?_⟩
    rw [decide_eq_true (show ((mkS (numL n)).length : Int) ≤ 40 by rw [mkS_len]; omega)]
    refine iteF ?_
    have at0 : atI (mkS (numL n)).cps.toList 0 = some a := by
      show atI (numL n) ((0 : Nat) : Int) = some a
      rw [e]
      exact atI_nat rfl
    refine ⟨_, rfl, _, _, a, rfl, rfl, ll, at0, rfl, false, ?_, iteF ?_⟩
    · rw [show ("0" : Str) = mkS [48] by decide +kernel]
      exact one_no (by omega)
    refine ⟨_, rfl, _, rfl, fun D hD => ?_⟩
    refine lc_it walk_str (fun i H' => Same H H' ∧ H' D = some (.lst ((List.replicate i true).map V.bl))) ⟨same_upd (Same.refl H) hD, upd_same⟩ (fun _ _ _ _ => trivial) (fun i x H2 H' hi p y => ?_) (fun H' h => ?_)
    · obtain ⟨rfl, c, hc, rfl⟩ := y
      obtain ⟨s1, eD⟩ := p
      have li : i < (numL n).length := hi
      have cd := dg c (List.mem_of_getElem? (show (numL n)[i]? = some c by rw [← hc]; exact (List.getElem?_toArray ..).symm))
      have cm : decide (c ∈ (("0123456789" : Str)).cps.toList) = true := by
        rw [show (("0123456789" : Str)).cps.toList = [48, 49, 50, 51, 52, 53, 54, 55, 56, 57] by decide +kernel]
        refine decide_eq_true ?_
        simp
        omega
      refine ⟨rfl, _, rfl, c, _, rfl, rfl, _, eD, ?_, same_freeU s1 hD, ?_⟩
      · refine lt_line ?_
        rw [List.length_map, List.length_replicate]
        omega
      · rw [upd_same, cm, List.replicate_succ', List.map_append]
        rfl
    · obtain ⟨s1, eD⟩ := h
      refine ⟨D, List.replicate _ true, rfl, SqL.of eD, ?_⟩
      rw [show ∀ m, (List.replicate m true).all id = true from fun m => by simp]
      exact k _ s1
theorem sc_read_command : FnScope ["word", "digits", "letter"] ["word"] (defScope s_read_command) := ⟨rfl, rfl, rfl, by decide +kernel, rfl, by decide +kernel, by decide +kernel⟩
theorem ok_read_command {f : Addr} {fd : FuncData} (F : Fun K "read_command" "read_command" s_read_command f fd) (T : TxtRd K w mg na nb eA eB nA nB tm) (c_is_number : Cal P w K mg base 1 "is_number" (spIsNum K)) : FnOk P w K mg base CX0 2 f fd ["word"] (spRead1 K) := by
  refine F.ok sc_read_command (fun vs H Q E h => ?_) (fun cdv A outer s H vs Q E hr h => ?_)
  · obtain ⟨n, rfl, _⟩ := h
    rfl
  · obtain ⟨c, rfl, ok, hn, k⟩ := h
    refine ⟨_, (pss_cons (ps_if (pt_cmpR (op_in_kd T.dA) (pv 0) (pe_glob (v := .ref na) (by rfl) T.g_NAMES_ALONE rfl) (by rfl)) (pss_one (ps_ret (pe_tup (pa_cons (pe_ix ix_kdict (pe_glob (v := .ref na) (by rfl) T.g_NAMES_ALONE rfl) (pv 0) (fun _ _ => rfl)) pa_nil)))) pss_nil)
      (pss_cons (ps_par (i := 1) (j := 2) rfl sc_read_command.nd rfl rfl (by decide) rfl rfl (pa_cons (pe_slice sl_str (pv 0) po_none (po_some (pe_un un_neg pe_int))) (pa_cons (pe_slice sl_str (pv 0) (po_some (pe_un un_neg pe_int)) po_none) pa_nil)) (by rfl))
      (pss_cons (ps_if (PW.pt (pw_and (pt_cmpR (op_in_kd T.dB) (pv 2) (pe_glob (v := .ref nb) (by rfl) T.g_NAMES_BEHIND_NUMBER rfl) (by rfl)) (pw_and1 (pt_val (pe_cal c_is_number hr (by decide) (by rfl) (pa_cons (pv 1) pa_nil)))))) (pss_one (ps_ret (pe_tup (pa_cons (pe_ix ix_kdict (pe_glob (v := .ref nb) (by rfl) T.g_NAMES_BEHIND_NUMBER rfl) (pv 2) (fun _ _ => rfl)) (pa_cons (pe_callTy call_int_str (by rfl) T.int (by decide +kernel) (pa_cons (pv 1) pa_nil)) pa_nil))))) pss_nil)
      (pss_one (ps_ret pe_non))))), ?_⟩
    have wl : (mkS (cw c)).length ≤ sizeLine := by
      have := cw_len hn
      rw [mkS_len, sizeLine_eq]
      omega
    have e72 : mkS [72] = ("H" : Str) := by decide +kernel
    have e69 : mkS [69] = ("E" : Str) := by decide +kernel
    cases c with
    | home =>
      obtain ⟨t, ht⟩ := T.aH
      have ew : mkS (cw .home) = ("H" : Str) := e72
      rw [ew]
      refine ⟨_, rfl, _, _, rfl, rfl, ht, _, rfl, iteT ?_⟩
      refine ⟨_, rfl, na, "H", .str "home", rfl, rfl, ⟨eA, nA, _, T.dA.at_, T.dA.lit, ht, ⟨t, rfl⟩⟩, (by show 1 ≤ sizeLine; decide), fun p np => k _ p (new_same np) np upd_same⟩
    | stop =>
      obtain ⟨t, ht⟩ := T.aE
      have ew : mkS (cw .stop) = ("E" : Str) := e69
      rw [ew]
      refine ⟨_, rfl, _, _, rfl, rfl, ht, _, rfl, iteT ?_⟩
      refine ⟨_, rfl, na, "E", .str "end", rfl, rfl, ⟨eA, nA, _, T.dA.at_, T.dA.lit, ht, ⟨t, rfl⟩⟩, (by show 1 ≤ sizeLine; decide), fun p np => k _ p (new_same np) np upd_same⟩
    | down n =>
      have n1 : 1 ≤ n := ok
      have n2 : n < 10 ^ 40 := hn
      obtain ⟨t, ht⟩ := T.bD
      have no := T.aNo (mkS (numL n.toNat ++ [68])) (by rw [← e72]; exact word_ne (by decide)) (by rw [← e69]; exact word_ne (by decide))
      refine ⟨_, rfl, _, _, rfl, rfl, no, _, rfl, iteF ?_⟩
      have el : mkS [68] = ("D" : Str) := by decide +kernel
      refine ⟨_, rfl, _, rfl, _, rfl, _, rfl, wl, ?_⟩
      rw [show mkS (cw (.down n)) = mkS (numL n.toNat ++ [68]) from rfl, cut_front]
      refine ⟨_, rfl, _, rfl, _, rfl, _, rfl, wl, ?_⟩
      rw [cut_back, el]
      refine ⟨_, _, rfl, ?_⟩
      refine ⟨_, rfl, _, _, rfl, rfl, ht, _, rfl, iteT ?_⟩
      refine ⟨_, rfl, n.toNat, rfl, by omega, by omega, fun H1 e1 => ⟨_, rfl, iteT ?_⟩⟩
      have l40 := numL_len (n := n.toNat) (k := 40) (by decide) (by omega)
      refine ⟨_, rfl, nb, "D", .str "down", rfl, rfl, ⟨eB, nB, _, T.dB.at_, T.dB.lit, ht, ⟨t, rfl⟩⟩, _, rfl, _, _, rfl, int_mk _ (by omega), (by rw [mkS_len]; omega), (by show 2 ≤ sizeLine; decide), fun p np => ?_⟩
      rw [show ((n.toNat : Nat) : Int) = n from Int.toNat_of_nonneg (by omega)]
      exact k _ p (e1.trans (new_same np)) (e1.free np) upd_same
    | up n =>
      have n1 : 1 ≤ n := ok
      have n2 : n < 10 ^ 40 := hn
      obtain ⟨t, ht⟩ := T.bU
      have no := T.aNo (mkS (numL n.toNat ++ [85])) (by rw [← e72]; exact word_ne (by decide)) (by rw [← e69]; exact word_ne (by decide))
      refine ⟨_, rfl, _, _, rfl, rfl, no, _, rfl, iteF ?_⟩
      have el : mkS [85] = ("U" : Str) := by decide +kernel
      refine ⟨_, rfl, _, rfl, _, rfl, _, rfl, wl, ?_⟩
      rw [show mkS (cw (.up n)) = mkS (numL n.toNat ++ [85]) from rfl, cut_front]
      refine ⟨_, rfl, _, rfl, _, rfl, _, rfl, wl, ?_⟩
      rw [cut_back, el]
      refine ⟨_, _, rfl, ?_⟩
      refine ⟨_, rfl, _, _, rfl, rfl, ht, _, rfl, iteT ?_⟩
      refine ⟨_, rfl, n.toNat, rfl, by omega, by omega, fun H1 e1 => ⟨_, rfl, iteT ?_⟩⟩
      have l40 := numL_len (n := n.toNat) (k := 40) (by decide) (by omega)
      refine ⟨_, rfl, nb, "U", .str "up", rfl, rfl, ⟨eB, nB, _, T.dB.at_, T.dB.lit, ht, ⟨t, rfl⟩⟩, _, rfl, _, _, rfl, int_mk _ (by omega), (by rw [mkS_len]; omega), (by show 2 ≤ sizeLine; decide), fun p np => ?_⟩
      rw [show ((n.toNat : Nat) : Int) = n from Int.toNat_of_nonneg (by omega)]
      exact k _ p (e1.trans (new_same np)) (e1.free np) upd_same
    | right n =>
      have n1 : 1 ≤ n := ok
      have n2 : n < 10 ^ 40 := hn
      obtain ⟨t, ht⟩ := T.bR
      have no := T.aNo (mkS (numL n.toNat ++ [82])) (by rw [← e72]; exact word_ne (by decide)) (by rw [← e69]; exact word_ne (by decide))
      refine ⟨_, rfl, _, _, rfl, rfl, no, _, rfl, iteF ?_⟩
      have el : mkS [82] = ("R" : Str) := by decide +kernel
      refine ⟨_, rfl, _, rfl, _, rfl, _, rfl, wl, ?_⟩
      rw [show mkS (cw (.right n)) = mkS (numL n.toNat ++ [82]) from rfl, cut_front]
      refine ⟨_, rfl, _, rfl, _, rfl, _, rfl, wl, ?_⟩
      rw [cut_back, el]
      refine ⟨_, _, rfl, ?_⟩
      refine ⟨_, rfl, _, _, rfl, rfl, ht, _, rfl, iteT ?_⟩
      refine ⟨_, rfl, n.toNat, rfl, by omega, by omega, fun H1 e1 => ⟨_, rfl, iteT ?_⟩⟩
      have l40 := numL_len (n := n.toNat) (k := 40) (by decide) (by omega)
      refine ⟨_, rfl, nb, "R", .str "right", rfl, rfl, ⟨eB, nB, _, T.dB.at_, T.dB.lit, ht, ⟨t, rfl⟩⟩, _, rfl, _, _, rfl, int_mk _ (by omega), (by rw [mkS_len]; omega), (by show 2 ≤ sizeLine; decide), fun p np => ?_⟩
      rw [show ((n.toNat : Nat) : Int) = n from Int.toNat_of_nonneg (by omega)]
      exact k _ p (e1.trans (new_same np)) (e1.free np) upd_same
    | left n =>
      have n1 : 1 ≤ n := ok
      have n2 : n < 10 ^ 40 := hn
      obtain ⟨t, ht⟩ := T.bL
      have no := T.aNo (mkS (numL n.toNat ++ [76])) (by rw [← e72]; exact word_ne (by decide)) (by rw [← e69]; exact word_ne (by decide))
      refine ⟨_, rfl, _, _, rfl, rfl, no, _, rfl, iteF ?_⟩
      have el : mkS [76] = ("L" : Str) := by decide +kernel
      refine ⟨_, rfl, _, rfl, _, rfl, _, rfl, wl, ?_⟩
      rw [show mkS (cw (.left n)) = mkS (numL n.toNat ++ [76]) from rfl, cut_front]
      refine ⟨_, rfl, _, rfl, _, rfl, _, rfl, wl, ?_⟩
      rw [cut_back, el]
      refine ⟨_, _, rfl, ?_⟩
      refine ⟨_, rfl, _, _, rfl, rfl, ht, _, rfl, iteT ?_⟩
      refine ⟨_, rfl, n.toNat, rfl, by omega, by omega, fun H1 e1 => ⟨_, rfl, iteT ?_⟩⟩
      have l40 := numL_len (n := n.toNat) (k := 40) (by decide) (by omega)
      refine ⟨_, rfl, nb, "L", .str "left", rfl, rfl, ⟨eB, nB, _, T.dB.at_, T.dB.lit, ht, ⟨t, rfl⟩⟩, _, rfl, _, _, rfl, int_mk _ (by omega), (by rw [mkS_len]; omega), (by show 2 ≤ sizeLine; decide), fun p np => ?_⟩
      rw [show ((n.toNat : Nat) : Int) = n from Int.toNat_of_nonneg (by omega)]
      exact k _ p (e1.trans (new_same np)) (e1.free np) upd_same
theorem sc_read_commands : FnScope ["text", "commands", "word", "command"] ["text"] (defScope s_read_commands) := ⟨rfl, rfl, rfl, by decide +kernel, rfl, by decide +kernel, by decide +kernel⟩
theorem ok_read_commands {f : Addr} {fd : FuncData} (F : Fun K "read_commands" "read_commands" s_read_commands f fd) (c_read_command : Cal P w K mg base 2 "read_command" (spRead1 K)) : FnOk P w K mg base CX0 3 f fd ["text"] (spRead K) := by
  refine F.ok sc_read_commands (fun vs H Q E h => ?_) (fun cdv A outer s H vs Q E hr h => ?_)
  · obtain ⟨n, rfl, _⟩ := h
    rfl
  · obtain ⟨cs, rfl, ok, hn, ln, k⟩ := h
    refine ⟨_, (pss_cons (ps_if (pt_cmpR op_eq (pv 0) pe_str (nomark _)) (pss_one (ps_ret (pe_lst pa_nil))) pss_nil)
      (pss_cons (ps_set (i := 1) sc_read_commands.nd rfl (Or.inl rfl) (pe_lst pa_nil))
      (pss_cons (ps_for PassesOwn.never rfl (pi_list (pe_bm PySem.F.plainAttrs_str PySem.F.slot_str_split PySem.F.type_str_split mt_split (pv 0) (pa_cons pe_str pa_nil))) (pg_name (i := 2) sc_read_commands.nd rfl (Or.inl rfl)) (pss_cons (ps_set (i := 3) sc_read_commands.nd rfl (Or.inl rfl) (pe_cal c_read_command hr (by decide) (by rfl) (pa_cons (pv 2) pa_nil)))
      (pss_cons (ps_if (pt_cmpR op_isN (pv 3) pe_non (nomark _)) (pss_one ps_never) pss_nil)
      (pss_one (ps_expr (pe_bm PySem.F.plainAttrs_list PySem.F.slot_list_append PySem.F.type_list_append mt_append (pv 1) (pa_cons (pv 3) pa_nil)))))))
      (pss_one (ps_ret (pv 1)))))), ?_⟩
    have wl : (shownS cs).length + 2 ≤ sizeLine := by
      have := shownL_len hn
      unfold shownS
      rw [mkS_len, sizeLine_eq]
      omega
    have hk : ¬ Builtin.Str.strKind (shownS cs) < Builtin.Str.strKind " " := by
      rw [show Builtin.Str.strKind " " = 1 by decide +kernel]
      unfold Builtin.Str.strKind
      split
      · omega
      · split <;> omega
    by_cases ce : cs = []
    · subst ce
      refine ⟨_, rfl, rfl, true, ?_, iteT ?_⟩
      · rw [show shownS [] = ("none" : Str) by decide +kernel]
        simp
      · exact ⟨Nat.zero_le _, fun l nl => k _ l [] (new_same nl) nl upd_same .nil⟩
    · have no : shownS cs ≠ ("none" : Str) := by
        rw [show ("none" : Str) = mkS noneL by decide +kernel]
        intro z
        have q := mkS_inj z
        unfold shownL at q
        rw [if_neg ce] at q
        exact none_no ce q
      refine ⟨_, rfl, rfl, false, by simp [no], iteF ?_⟩
      refine ⟨Nat.zero_le _, fun l nl => ?_⟩
      have e1 : Same H (upd H l (.lst [])) := new_same nl
      refine ⟨_, rfl, rfl, _, _, rfl, rfl, by decide +kernel, wl, fun p np => ?_⟩
      rw [split_shown ce hk]
      have pl : p ≠ l := fun z => by rw [z, upd_same] at np; cases np
      have e2 : Same H (upd (upd H l (.lst [])) p (.lst ((cs.map fun c => mkS (cw c)).map V.str))) := e1.trans (new_same np)
      refine ⟨p, rfl, ⟨_, SqL.of upd_same⟩, for_list (K := K) (a := p) (xs := (cs.map fun c => mkS (cw c)).map V.str) (fun i σ H' => ∃ (v2 v3 : Option V) (ys : List V), σ = [some (.str (shownS cs)), some (.ref l), v2, v3] ∧ Same H H' ∧ H' p = some (.lst ((cs.map fun c => mkS (cw c)).map V.str)) ∧ H' l = some (.lst ys) ∧ CmdsOf K H' ys (cs.take i))
        ⟨none, none, [], rfl, e2, upd_same, new_same np _ _ upd_same, .nil⟩ (fun i σ H' hi h => ?_) (fun i x σ H' hx h => ?_) (fun σ H' h => ?_)⟩
      · obtain ⟨_, _, _, _, _, q, _⟩ := h
        exact SqL.of q
      · obtain ⟨v2, v3, ys, rfl, s1, hp, hl, hys⟩ := h
        rw [List.getElem?_map, List.getElem?_map] at hx
        cases hc : cs[i]? with
        | none =>
          rw [hc] at hx
          cases hx
        | some c =>
          rw [hc] at hx
          obtain rfl := Option.some.inj hx
          have cm := List.mem_of_getElem? hc
          have li := (List.getElem?_eq_some_iff.mp hc).1
          have yl := hys.len
          rw [List.length_take] at yl
          refine ⟨_, rfl, c, rfl, ok c cm, hn c cm, fun H2 t e3 nt ht => ?_⟩
          refine ⟨_, rfl, rfl, false, by simp, iteF ?_⟩
          refine ⟨_, rfl, .inl ⟨rfl, _, SqL.of (e3 _ _ hl)⟩, _, rfl, l, ys, .ref t, rfl, rfl, e3 _ _ hl, lt_line (by omega), ?_⟩
          refine ⟨_, _, _, rfl, same_freeU (s1.trans e3) nl, ?_, upd_same, ?_⟩
          · rw [upd_ne pl]
            exact e3 _ _ hp
          · rw [takeS hc]
            exact paired_app (CmdsOf.atL (e3 _ _ hl) (hys.same e3)) (CmdsOf.atL (e3 _ _ hl) (xs := [.ref t]) (cs := [c]) (.cons ⟨t, rfl, SqT.of ht⟩ .nil))
      · obtain ⟨v2, v3, ys, rfl, s1, hp, hl, hys⟩ := h
        rw [List.length_map, List.length_map, List.take_length] at hys
        exact ⟨_, rfl, k H' l ys s1 nl hl hys⟩
end
end Gc

/-! lists of commands written by the law and read by the program -/
namespace Gc
open PySem L2 TL
abbrev s_written : Stmt := top 37
abbrev s_lread : Stmt := top 38
structure TxtV (mg : Str → Option Value) : Prop where
  str : mg "str" = none
  len : mg "len" = none
  range : mg "range" = none
def spWritten (K : PySem.W.Frag) : Sp := fun vs H Q _ => ∃ (l : Addr) (xs : List V) (cs : List Cmd), vs = [.ref l] ∧ SqL K H l xs ∧ CmdsOf K H xs cs ∧ AllOk cs ∧ (∀ c ∈ cs, numC c < 10 ^ 40) ∧ cs.length ≤ 1000 ∧ ∀ H', Same H H' → Q (.str (shownS cs)) H'
def spLRead (K : PySem.W.Frag) : Sp := fun vs H Q _ => ∃ (r : Addr) (n many : Nat) (most size : Int), vs = [.ref r, .int many, .int most, .int size] ∧ Rng H r n ∧ n < 2 ^ 37 ∧ many ≤ 20 ∧ 0 ≤ most ∧ most ≤ 20 ∧ 1 ≤ size ∧ size ≤ 10 ^ 30 ∧
  ∀ (H' : Hp) (p : Addr) (xs : List V) (cs : List Cmd), Keep r r H H' → Rng H' r (n + 2000) → p ≠ r → H' p = some (.lst xs) → CmdsOf K H' xs cs → AllOk cs → AllSmall cs → (cs.length : Int) ≤ many * most → Q (.ref p) H'
theorem str_num {n : Int} (h : 0 ≤ n) : Str.ofString (toString n) = mkS (numL n.toNat) := by
  obtain ⟨m, rfl⟩ := Int.eq_ofNat_of_zero_le h
  exact ext_tl (tl_num m)
theorem log64 {n : Int} (h0 : 0 ≤ n) (h : n < 10 ^ 64) : n.natAbs.log2 < 1920 :=
  Nat.lt_of_lt_of_le (PySem.Flt.log2_lt_of (k := 214) (by decide) (by omega)) (by decide)
theorem small_num {cs : List Cmd} (h : AllSmall cs) : ∀ c ∈ cs, numC c < 10 ^ 40 := fun c hc => by
  have a := (h c hc).1
  cases c with
  | down n => exact Int.lt_of_le_of_lt (show n ≤ 10 ^ 30 from a) (by decide)
  | up n => exact Int.lt_of_le_of_lt (show n ≤ 10 ^ 30 from a) (by decide)
  | right n => exact Int.lt_of_le_of_lt (show n ≤ 10 ^ 30 from a) (by decide)
  | left n => exact Int.lt_of_le_of_lt (show n ≤ 10 ^ 30 from a) (by decide)
  | home => show (0 : Int) < 10 ^ 40; decide
  | stop => show (0 : Int) < 10 ^ 40; decide
theorem idx_no {ys : List V} {y : V} {j : Nat} (h : (ys.take j).all (fun z => !eqV z y) = true) : ∀ (m : Nat) (z' : V), m < j → ys[m]? = some z' → eqV z' y = false := fun m z' hm hz => by
  have q : (ys.take j)[m]? = some z' := by
    rw [List.getElem?_take, if_pos hm]
    exact hz
  have r := List.all_eq_true.mp h z' (List.mem_of_getElem? q)
  cases e : eqV z' y with
  | false => rfl
  | true =>
    rw [e] at r
    cases r
theorem strs_lay : ∀ {bs : List Str}, (∀ b ∈ bs, PyData.strOk b = true) → PyData.canLayAll0 (bs.map PyData.str) = true
  | [], _ => by simp [PyData.canLayAll0]
  | b :: bs, h => by
    have h1 := h b List.mem_cons_self
    have h2 := strs_lay fun x hx => h x (List.mem_cons_of_mem _ hx)
    simp only [List.map_cons, PyData.canLayAll0, PyData.canLay0, h1, h2, Bool.and_self]
theorem word_ok (c : Cmd) : PyData.strOk (mkS (cw c)) = true := by
  unfold PyData.strOk
  show (List.toArray (cw c)).all (· < 0x110000) = true
  rw [← Array.all_toList]
  refine List.all_eq_true.mpr fun x hx => decide_eq_true ?_
  rcases List.mem_append.mp hx with z | z
  · have := digC_digits c x z
    omega
  · have := letC_ge c
    rw [List.mem_singleton.mp z]
    omega
theorem strs_deep : ∀ bs : List Str, PyData.depthAll (bs.map PyData.str) = 0
  | [] => by simp [PyData.depthAll]
  | b :: bs => by simp [PyData.depthAll, PyData.depth, strs_deep bs]
theorem strs_shaped {bs : List Str} (h : ∀ b ∈ bs, PyData.strOk b = true) : SeqAt.shaped (.list (bs.map PyData.str)) = true := by
  unfold SeqAt.shaped
  simp [PyData.canLay0, PyData.depth, strs_lay h, strs_deep bs]
theorem dp_strs {K : PySem.W.Frag} {H : Hp} : ∀ bs : List Str, DpAll K H (bs.map V.str) (bs.map PyData.str)
  | [] => .nil
  | b :: bs => .cons (.str b) (dp_strs bs)
theorem words_sum : ∀ {cs : List Cmd}, (∀ c ∈ cs, numC c < 10 ^ 40) → ((cs.map fun c => mkS (cw c)).map (·.length)).sum ≤ 41 * cs.length
  | [], _ => Nat.le_refl _
  | c :: cs, hh => by
    rw [List.map_cons, List.map_cons, List.sum_cons, List.length_cons]
    have h1 := cw_len (hh c List.mem_cons_self)
    have h2 := words_sum fun x hx => hh x (List.mem_cons_of_mem _ hx)
    rw [mkS_len]
    omega
section
variable {P : Program} {w : World} {K : PySem.W.Frag} {mg : Str → Option Value} {base : Heap}
theorem sc_law_written : FnScope ["steps", "names", "words", "step"] ["steps"] (defScope s_written) := ⟨rfl, rfl, rfl, by decide +kernel, rfl, by decide +kernel, by decide +kernel⟩
theorem ok_written {f : Addr} {fd : FuncData} (F : Fun K "_law_written" "_law_written" s_written f fd) (T : TxtV mg) : FnOk P w K mg base CX0 1 f fd ["steps"] (spWritten K) := by
  refine F.ok sc_law_written (fun vs H Q E h => ?_) (fun cdv A outer s H vs Q E hr h => ?_)
  · obtain ⟨l, xs, cs, rfl, _⟩ := h
    rfl
  · obtain ⟨l, xs, cs, rfl, hl, hc, ok, num, len, k⟩ := h
    refine ⟨_, (pss_cons (ps_par (i := 1) (j := 2) rfl sc_law_written.nd rfl rfl (by decide) rfl rfl (pa_cons (pe_lst (pa_cons pe_str (pa_cons pe_str (pa_cons pe_str (pa_cons pe_str (pa_cons pe_str (pa_cons pe_str pa_nil))))))) (pa_cons (pe_lst pa_nil) pa_nil)) (by rfl))
      (pss_cons (ps_for PassesOwn.never rfl (pi_list (pv 0)) (pg_name (i := 3) sc_law_written.nd rfl (Or.inl rfl)) (pss_one (ps_expr (pe_bm PySem.F.plainAttrs_list PySem.F.slot_list_append PySem.F.type_list_append mt_append (pv 2) (pa_cons (pe_op op_add_str (pe_ifExp (pt_cmpR op_gt (pe_callB call_len_seq (by rfl) T.len (by decide +kernel) (pa_cons (pv 3) pa_nil)) pe_int (nomark _)) (pe_callTy call_str_int (by rfl) T.str (by decide +kernel) (pa_cons (pe_ix ix_tup (pv 3) pe_int (fun _ _ => rfl)) pa_nil)) pe_str) (pe_ix ix_str pe_str (pe_bm PySem.F.plainAttrs_list PySem.F.slot_list_index PySem.F.type_list_index mt_index (pv 1) (pa_cons (pe_ix ix_tup (pv 3) pe_int (fun _ _ => rfl)) pa_nil)) (fun _ _ => rfl))) pa_nil)))))
      (pss_one (ps_ret (pe_ifExp (pt_cmpR (op_neD hr.units) (pv 2) (pe_lst pa_nil) (nomark _)) (pe_join pe_str (pv 2)) pe_str))))), ?_⟩
    have xl := hc.len
    refine ⟨(by show 6 ≤ sizeLine; decide), fun nm hnm => ⟨Nat.zero_le _, fun wd hwd => ⟨_, _, rfl, ?_⟩⟩⟩
    have dif : wd ≠ nm := fun z => by rw [z, upd_same] at hwd; cases hwd
    have e0 : Same H (upd (upd H nm (.lst [.str "down", .str "up", .str "right", .str "left", .str "home", .str "end"])) wd (.lst [])) := (new_same hnm).trans (new_same hwd)
    have fwd : H wd = none := (new_same hnm).free hwd
    refine ⟨_, rfl, l, rfl, ⟨_, e0.seq hl⟩, for_list (K := K) (a := l) (xs := xs) (fun i σ H' => ∃ v3 : Option V, σ = [some (.ref l), some (.ref nm), some (.ref wd), v3] ∧ Same H H' ∧
        H' nm = some (.lst [.str "down", .str "up", .str "right", .str "left", .str "home", .str "end"]) ∧ H' wd = some (.lst (((cs.take i).map fun c => mkS (cw c)).map V.str)))
      ⟨none, rfl, e0, new_same hwd _ _ upd_same, upd_same⟩ (fun i σ H' _ ⟨_, _, e, _⟩ => e.seq hl) (fun i y σ H1 hi h => ?_) (fun σ H1 h => ?_)⟩
    · obtain ⟨v3, rfl, e, h1, h2⟩ := h
      obtain ⟨c, hci, t, rfl, ht0⟩ := paired_at hc hi
      have ht := seq_t e ht0
      have li := (List.getElem?_eq_some_iff.mp hci).1
      have nums : numC c < 10 ^ 40 := num c (List.mem_of_getElem? hci)
      have dl := digC_len nums
      have okc := ok c (List.mem_of_getElem? hci)
      have small : (((cs.take i).map fun c => mkS (cw c)).map V.str).length < sizeLine := by
        refine lt_line ?_
        rw [List.length_map, List.length_map, List.length_take]
        omega
      have fin : ∀ x : Str, x = mkS (cw c) → ∃ v3 : Option V, [some (V.ref l), some (.ref nm), some (.ref wd), some (.ref t)] = [some (.ref l), some (.ref nm), some (.ref wd), v3] ∧ Same H (upd H1 wd (.lst (((cs.take i).map fun c => mkS (cw c)).map V.str ++ [.str x]))) ∧
          (upd H1 wd (.lst (((cs.take i).map fun c => mkS (cw c)).map V.str ++ [.str x]))) nm = some (.lst [.str "down", .str "up", .str "right", .str "left", .str "home", .str "end"]) ∧
          (upd H1 wd (.lst (((cs.take i).map fun c => mkS (cw c)).map V.str ++ [.str x]))) wd = some (.lst (((cs.take (i + 1)).map fun c => mkS (cw c)).map V.str)) := fun x hx => by
        refine ⟨_, rfl, same_freeU e fwd, by rw [upd_ne (Ne.symm dif)]; exact h1, ?_⟩
        rw [upd_same, takeS hci, List.map_append, List.map_append, hx]
        rfl
      cases c with
      | down n =>
        have n1 : 1 ≤ n := okc
        have n2 : n < 10 ^ 40 := nums
        refine ⟨_, rfl, .inl ⟨rfl, _, SqL.of h2⟩, _, rfl, t, _, rfl, .inr ht, _, _, rfl, rfl, _, rfl, iteT ?_⟩
        refine ⟨_, rfl, t, _, 1, _, rfl, rfl, ht, rfl, n, rfl, log64 (by omega) (by omega), ?_⟩
        rw [str_num (by omega)]
        refine ⟨_, rfl, .inl ⟨rfl, _, SqL.of h1⟩, _, rfl, t, _, 0, _, rfl, rfl, ht, rfl, nm, _, .str "down", 0, .str "down", rfl, rfl, SqL.of h1, rfl, rfl, rfl, by decide +kernel, idx_no (by decide +kernel), ?_⟩
        refine ⟨_, _, 68, rfl, rfl, by decide +kernel, by decide +kernel, ?_⟩
        have dl' : (numL n.toNat).length ≤ 40 := dl
        refine ⟨_, _, rfl, rfl, by rw [mkS_len, show (⟨#[68]⟩ : Str).length = 1 from rfl, sizeLine_eq]; omega, ?_⟩
        refine ⟨wd, _, _, rfl, rfl, h2, small, fin _ ?_⟩
        rw [show (⟨#[68]⟩ : Str) = mkS [68] from rfl, mkS_app]
        rfl
      | up n =>
        have n1 : 1 ≤ n := okc
        have n2 : n < 10 ^ 40 := nums
        refine ⟨_, rfl, .inl ⟨rfl, _, SqL.of h2⟩, _, rfl, t, _, rfl, .inr ht, _, _, rfl, rfl, _, rfl, iteT ?_⟩
        refine ⟨_, rfl, t, _, 1, _, rfl, rfl, ht, rfl, n, rfl, log64 (by omega) (by omega), ?_⟩
        rw [str_num (by omega)]
        refine ⟨_, rfl, .inl ⟨rfl, _, SqL.of h1⟩, _, rfl, t, _, 0, _, rfl, rfl, ht, rfl, nm, _, .str "up", 1, .str "up", rfl, rfl, SqL.of h1, rfl, rfl, rfl, by decide +kernel, idx_no (by decide +kernel), ?_⟩
        refine ⟨_, _, 85, rfl, rfl, by decide +kernel, by decide +kernel, ?_⟩
        have dl' : (numL n.toNat).length ≤ 40 := dl
        refine ⟨_, _, rfl, rfl, by rw [mkS_len, show (⟨#[85]⟩ : Str).length = 1 from rfl, sizeLine_eq]; omega, ?_⟩
        refine ⟨wd, _, _, rfl, rfl, h2, small, fin _ ?_⟩
        rw [show (⟨#[85]⟩ : Str) = mkS [85] from rfl, mkS_app]
        rfl
      | right n =>
        have n1 : 1 ≤ n := okc
        have n2 : n < 10 ^ 40 := nums
        refine ⟨_, rfl, .inl ⟨rfl, _, SqL.of h2⟩, _, rfl, t, _, rfl, .inr ht, _, _, rfl, rfl, _, rfl, iteT ?_⟩
        refine ⟨_, rfl, t, _, 1, _, rfl, rfl, ht, rfl, n, rfl, log64 (by omega) (by omega), ?_⟩
        rw [str_num (by omega)]
        refine ⟨_, rfl, .inl ⟨rfl, _, SqL.of h1⟩, _, rfl, t, _, 0, _, rfl, rfl, ht, rfl, nm, _, .str "right", 2, .str "right", rfl, rfl, SqL.of h1, rfl, rfl, rfl, by decide +kernel, idx_no (by decide +kernel), ?_⟩
        refine ⟨_, _, 82, rfl, rfl, by decide +kernel, by decide +kernel, ?_⟩
        have dl' : (numL n.toNat).length ≤ 40 := dl
        refine ⟨_, _, rfl, rfl, by rw [mkS_len, show (⟨#[82]⟩ : Str).length = 1 from rfl, sizeLine_eq]; omega, ?_⟩
        refine ⟨wd, _, _, rfl, rfl, h2, small, fin _ ?_⟩
        rw [show (⟨#[82]⟩ : Str) = mkS [82] from rfl, mkS_app]
        rfl
      | left n =>
        have n1 : 1 ≤ n := okc
        have n2 : n < 10 ^ 40 := nums
        refine ⟨_, rfl, .inl ⟨rfl, _, SqL.of h2⟩, _, rfl, t, _, rfl, .inr ht, _, _, rfl, rfl, _, rfl, iteT ?_⟩
        refine ⟨_, rfl, t, _, 1, _, rfl, rfl, ht, rfl, n, rfl, log64 (by omega) (by omega), ?_⟩
        rw [str_num (by omega)]
        refine ⟨_, rfl, .inl ⟨rfl, _, SqL.of h1⟩, _, rfl, t, _, 0, _, rfl, rfl, ht, rfl, nm, _, .str "left", 3, .str "left", rfl, rfl, SqL.of h1, rfl, rfl, rfl, by decide +kernel, idx_no (by decide +kernel), ?_⟩
        refine ⟨_, _, 76, rfl, rfl, by decide +kernel, by decide +kernel, ?_⟩
        have dl' : (numL n.toNat).length ≤ 40 := dl
        refine ⟨_, _, rfl, rfl, by rw [mkS_len, show (⟨#[76]⟩ : Str).length = 1 from rfl, sizeLine_eq]; omega, ?_⟩
        refine ⟨wd, _, _, rfl, rfl, h2, small, fin _ ?_⟩
        rw [show (⟨#[76]⟩ : Str) = mkS [76] from rfl, mkS_app]
        rfl
      | home =>
        refine ⟨_, rfl, .inl ⟨rfl, _, SqL.of h2⟩, _, rfl, t, _, rfl, .inr ht, _, _, rfl, rfl, _, rfl, iteF ?_⟩
        refine ⟨_, rfl, .inl ⟨rfl, _, SqL.of h1⟩, _, rfl, t, _, 0, _, rfl, rfl, ht, rfl, nm, _, .str "home", 4, .str "home", rfl, rfl, SqL.of h1, rfl, rfl, rfl, by decide +kernel, idx_no (by decide +kernel), ?_⟩
        refine ⟨_, _, 72, rfl, rfl, by decide +kernel, by decide +kernel, ?_⟩
        refine ⟨_, _, rfl, rfl, by decide +kernel, ?_⟩
        refine ⟨wd, _, _, rfl, rfl, h2, small, fin _ ?_⟩
        decide +kernel
      | stop =>
        refine ⟨_, rfl, .inl ⟨rfl, _, SqL.of h2⟩, _, rfl, t, _, rfl, .inr ht, _, _, rfl, rfl, _, rfl, iteF ?_⟩
        refine ⟨_, rfl, .inl ⟨rfl, _, SqL.of h1⟩, _, rfl, t, _, 0, _, rfl, rfl, ht, rfl, nm, _, .str "end", 5, .str "end", rfl, rfl, SqL.of h1, rfl, rfl, rfl, by decide +kernel, idx_no (by decide +kernel), ?_⟩
        refine ⟨_, _, 69, rfl, rfl, by decide +kernel, by decide +kernel, ?_⟩
        refine ⟨_, _, rfl, rfl, by decide +kernel, ?_⟩
        refine ⟨wd, _, _, rfl, rfl, h2, small, fin _ ?_⟩
        decide +kernel
    · obtain ⟨v3, rfl, e, h1, h2⟩ := h
      rw [List.take_of_length_le (by rw [xl]; exact Nat.le_refl _)] at h2
      refine ⟨_, rfl, Nat.zero_le _, fun p hp => ?_⟩
      have e2 : Same H1 (upd H1 p (.lst [])) := new_same hp
      refine ⟨.list ((cs.map fun c => mkS (cw c)).map PyData.str), .list [], .lst (SqL.of (e2 _ _ h2)) (dp_strs _), .lst (SqL.of upd_same) .nil, strs_shaped (fun b hb => by obtain ⟨c, _, rfl⟩ := List.mem_map.mp hb; exact word_ok c), rfl, _, rfl, ?_⟩
      cases cs with
      | nil => exact iteF (k _ (e.trans e2))
      | cons c0 cr =>
        refine iteT ⟨⟨_, rfl⟩, _, rfl, _, wd, (c0 :: cr).map fun c => mkS (cw c), rfl, rfl, .inl (SqL.of (e2 _ _ h2)), ?_, ?_⟩
        · have h3 := words_sum num
          rw [List.length_map]
          have h4 : (Str.ofString " ").length = 1 := by decide +kernel
          rw [h4]
          omega
        · have e3 : Txt.join (Str.ofString " ") ((c0 :: cr).map fun c => mkS (cw c)) = shownS (c0 :: cr) := by
            refine ext_tl ?_
            rw [join_eq, tl_join, List.map_map]
            unfold shownS shownL
            rw [if_neg (by simp)]
            rfl
          rw [e3]
          exact k _ (e.trans e2)
theorem sc_law_read : FnScope ["rng", "many", "most", "size", "found", "turn"] ["rng", "many", "most", "size"] (defScope s_lread) := ⟨rfl, rfl, rfl, by decide +kernel, rfl, by decide +kernel, by decide +kernel⟩
theorem ok_lread {f : Addr} {fd : FuncData} (F : Fun K "_law_read" "_law_read" s_lread f fd) (T : TxtV mg) (c_law_list : Cal P w K mg base 2 "_law_list" (spList K)) (c_law_written : Cal P w K mg base 1 "_law_written" (spWritten K)) (c_read_commands : Cal P w K mg base 3 "read_commands" (spRead K)) :
    FnOk P w K mg base CX0 4 f fd ["rng", "many", "most", "size"] (spLRead K) := by
  refine F.ok sc_law_read (fun vs H Q E h => ?_) (fun cdv A outer s H vs Q E hr h => ?_)
  · obtain ⟨r, n, many, most, size, rfl, _⟩ := h
    rfl
  · obtain ⟨r, n, many, most, size, rfl, hR, hn, m0, a0, a1, z0, z1, k⟩ := h
    refine ⟨_, (pss_cons (ps_set (i := 4) sc_law_read.nd rfl (Or.inl rfl) (pe_lst pa_nil))
      (pss_cons (ps_for PassesOwn.never rfl (pi_range1 rfl T.range (pa_cons (pv 1) pa_nil)) (pg_name (i := 5) sc_law_read.nd rfl (Or.inl rfl)) (pss_one (ps_set (i := 4) sc_law_read.nd rfl (Or.inl rfl) (pe_op op_cat (pv 4) (pe_cal c_law_list hr (by decide) (by rfl) (pa_cons (pv 0) (pa_cons (pv 2) (pa_cons (pv 3) pa_nil))))))))
      (pss_one (ps_ret (pe_cal c_read_commands hr (by decide) (by rfl) (pa_cons (pe_cal c_law_written hr (by decide) (by rfl) (pa_cons (pv 4) pa_nil)) pa_nil)))))), ?_⟩
    refine ⟨Nat.zero_le _, fun f0 nf => ?_⟩
    have fr := hR.off nf
    have e_H1 : Same H (upd H f0 (.lst ([] : List V))) := new_same nf
    have h_f0 : (upd H f0 (.lst ([] : List V))) f0 = some (.lst ([] : List V)) := upd_same
    generalize upd H f0 (.lst ([] : List V)) = H1 at e_H1 h_f0 ⊢
    replace hR := hR.same e_H1
    refine ⟨_, rfl, _, rfl, by omega, by omega, for_range (lo := 0) (n := many) (fun i σ H' => ∃ (v5 : Option V) (q : Addr) (ys : List V) (ds : List Cmd), σ = [some (.ref r), some (.int many), some (.int most), some (.int size), some (.ref q), v5] ∧ Keep r r H H' ∧ Rng H' r (n + 70 * i) ∧ q ≠ r ∧ H' q = some (.lst ys) ∧
        CmdsOf K H' ys ds ∧ AllOk ds ∧ AllSmall ds ∧ (ds.length : Int) ≤ i * most) ⟨none, f0, [], [], rfl, Keep.of e_H1, hR.more (by omega), fr, h_f0, .nil, (fun _ h => nomatch h), (fun _ h => nomatch h), by simp⟩ (fun i σ H2 hi h => ?_) (fun σ H2 h => ?_)⟩
    · obtain ⟨v5, q, ys, ds, rfl, kp, rg, qr, hq, hy, okd, smd, lnd⟩ := h
      refine ⟨_, rfl, _, rfl, _, rfl, _, rfl, r, _, most, size, rfl, rg, by omega, a0, a1, z0, z1, fun H3 l zs es kp3 rg3 nl hl hz oke sme lne => ?_⟩
      have lr := rg.off nl
      have hq3 := kp3 _ _ qr qr hq
      have hy3 := rg.cmds kp3 hy
      have ly := hy3.len
      have lz := hz.len
      have im : (i : Int) * most ≤ 20 * 20 := Int.le_trans (Int.mul_le_mul (show (i : Int) ≤ 20 by omega) a1 a0 (by decide)) (Int.le_refl _)
      refine ⟨q, l, _, _, rfl, rfl, hq3, hl, Nat.le_of_lt (lt_line (by omega)), fun b nb => ?_⟩
      have br := rg3.off nb
      have e_H4 : Same H3 (upd H3 b (.lst (ys ++ zs))) := new_same nb
      have h_b : (upd H3 b (.lst (ys ++ zs))) b = some (.lst (ys ++ zs)) := upd_same
      generalize upd H3 b (.lst (ys ++ zs)) = H4 at e_H4 h_b ⊢
      replace hy3 := hy3.same e_H4
      replace hz := hz.same e_H4
      replace rg3 := rg3.same e_H4
      replace kp3 := kp3.same1 e_H4
      refine ⟨_, b, _, ds ++ es, rfl, kp.trans kp3, rg3.more (by omega), br, h_b, CmdsOf.app hy3 hz, ok_app okd oke, small_app smd sme, ?_⟩
      rw [List.length_append, Int.natCast_add, Int.natCast_add, Int.add_mul]
      omega
    · obtain ⟨v5, q, ys, ds, rfl, kp, rg, qr, hq, hy, okd, smd, lnd⟩ := h
      have im : (many : Int) * most ≤ 20 * 20 := Int.le_trans (Int.mul_le_mul (show (many : Int) ≤ 20 by omega) a1 a0 (by decide)) (Int.le_refl _)
      refine ⟨_, rfl, q, ys, ds, rfl, SqL.of hq, hy, okd, small_num smd, by omega, fun H3 e3 => ?_⟩
      refine ⟨ds, rfl, okd, small_num smd, by omega, fun H4 p xs e4 np hp hx => ?_⟩
      have rg4 := (rg.same e3).same e4
      exact k H4 p xs ds ((kp.same1 e3).same1 e4) (rg4.more (by omega)) ((rg.same e3).off np) hp hx okd smd lnd
end
end Gc

/-! what a form tells of a cursor -/
namespace Gc
open PySem L2
theorem afterL_within {T : List Int} : ∀ {cs : List Cmd} {r : Int} {a : Option Int} {x : Int × Option Int}, 0 ≤ r → r < T.length → afterL T r a cs = some x → Within cs (-r) (T.length - 1 - r)
  | [], r, a, x, h0, h1, _ => fun i => by
    rw [List.take_nil]
    show -r ≤ 0 ∧ (0 : Int) ≤ _
    omega
  | c :: cs, r, a, x, h0, h1, h => fun i => by
    cases i with
    | zero => show -r ≤ 0 ∧ (0 : Int) ≤ _; omega
    | succ i =>
      show -r ≤ c.dv + last (cs.take i) ∧ c.dv + last (cs.take i) ≤ _
      simp only [afterL] at h
      by_cases cv : c.vert = true
      · rw [if_pos cv] at h
        split at h
        · rename_i hin
          have q := afterL_within hin.1 hin.2 h i
          omega
        · cases h
      · rw [if_neg cv] at h
        have dz : c.dv = 0 := dv_flat' (by cases q : c.vert with | false => rfl | true => exact absurd q cv)
        have q := afterL_within h0 h1 h i
        omega
theorem rch_hits (cs : List Cmd) : (∃ i, last (cs.take i) = (rchM cs).1) ∧ ∃ j, last (cs.take j) = (rchM cs).2.1 := by
  have key : ∀ n, n ≤ cs.length → (∃ i, last (cs.take i) = (rchM (cs.take n)).1) ∧ ∃ j, last (cs.take j) = (rchM (cs.take n)).2.1 := by
    intro n
    induction n with
    | zero => intro _; exact ⟨⟨0, rfl⟩, ⟨0, rfl⟩⟩
    | succ n ih =>
      intro hn
      obtain ⟨⟨i, e1⟩, ⟨j, e2⟩⟩ := ih (by omega)
      have hc : cs[n]? = some cs[n] := List.getElem?_eq_getElem (by omega)
      have e3 : (rchM (cs.take n)).2.2 + cs[n].dv = last (cs.take (n + 1)) := by
        rw [(rch_within (cs.take n)).2, take_snoc hc, last_app]
        show _ = last (cs.take n) + (cs[n].dv + 0)
        omega
      rw [rch_more hc]
      unfold rstep
      dsimp only
      refine ⟨?_, ?_⟩
      · split
        · exact ⟨n + 1, e3.symm⟩
        · exact ⟨i, e1⟩
      · split
        · exact ⟨n + 1, e3.symm⟩
        · exact ⟨j, e2⟩
  have q := key cs.length (Nat.le_refl _)
  rw [List.take_length] at q
  exact q
theorem rch_le' {cs : List Cmd} {lo hi : Int} (w : Within cs lo hi) : lo ≤ (rchM cs).1 ∧ (rchM cs).2.1 ≤ hi := by
  obtain ⟨⟨i, hi1⟩, ⟨j, hj⟩⟩ := rch_hits cs
  have a := w i
  have b := w j
  omega
/-- all that a piece asks, as greatest goals -/
def topsM (T : List Int) (r : Int) (a : Option Int) (s : Option Int) (L : Ps) : List Int := L.map (fun q => lenAt T (r + q.1) - q.2) ++ (match s, a with | some s, some g => [g - s] | _, _ => [])
def CapOf (T : List Int) (r : Int) (a : Option Int) (d : PData) (c : Option Int) : Prop := match d.2 with
  | none => c = some 0
  | some L => (topsM T r a d.1 L = [] ∧ c = none) ∨ ∃ m ∈ topsM T r a d.1 L, (∀ y ∈ topsM T r a d.1 L, m ≤ y) ∧ c = some (max 0 m)
theorem val_allq {L : Ps} (nd : (keys L).Nodup) {f : Int → Int} (h0 : ∀ k, 0 ≤ f k) : (∀ q ∈ L, q.2 ≤ f q.1) ↔ ∀ k, val L k ≤ f k := by
  constructor
  · intro h k
    unfold val
    cases e : look L k with
    | none => exact h0 k
    | some v => exact h _ (look_mem e)
  · intro h q hq
    have := h q.1
    unfold val at this
    rw [mem_look nd hq] at this
    exact this
theorem cap_iff {T : List Int} (hT : ∀ x ∈ T, 0 ≤ x) {r : Int} {a : Option Int} (ha : ge a 0) {cs : List Cmd} (ok : AllOk cs) {v : Int} (hv : 1 ≤ v) {c : Option Int} (h : CapOf T r a (dataOf v (boxM cs v)) c) :
    ge (aimF (lenAt T) r a cs) v ↔ ∀ x, c = some x → v ≤ x := by
  rw [box_char (lenAt_nn hT) ha ok hv]
  have nn := lenAt_nn hT
  rcases box_spec ok hv with ⟨e, _⟩ | ⟨st, b, e, g, _, pos⟩
  · rw [e] at h
    obtain rfl : c = some 0 := h
    rw [e]
    constructor
    · rintro ⟨_, _, z, _⟩
      cases z
    · intro z
      have := z 0 rfl
      omega
  · rw [e] at h
    have nd : (keys (b.mergeSort leK)).Nodup := (good_perm g (List.mergeSort_perm b leK)).nd
    have mean : (∃ st' L, boxM cs v = some (st', L) ∧ (∀ n, st' = some n → ge a n) ∧ ∀ k, val L k ≤ lenAt T (r + k)) ↔ ((∀ n, st = some n → ge a n) ∧ ∀ q ∈ b.mergeSort leK, q.2 ≤ lenAt T (r + q.1)) := by
      rw [val_allq nd (f := fun k => lenAt T (r + k)) fun k => nn _]
      constructor
      · rintro ⟨st', L, z, h1, h2⟩
        rw [e] at z
        cases z
        exact ⟨h1, h2⟩
      · rintro ⟨h1, h2⟩
        exact ⟨_, _, e, h1, h2⟩
    rw [mean]
    have tops : ((∀ n, st = some n → ge a n) ∧ ∀ q ∈ b.mergeSort leK, q.2 ≤ lenAt T (r + q.1)) ↔ ∀ y ∈ topsM T r a (st.map (· - v)) ((b.mergeSort leK).map fun q => (q.1, q.2 - v)), v ≤ y := by
      unfold topsM
      constructor
      · rintro ⟨h1, h2⟩ y hy
        rcases List.mem_append.mp hy with hy | hy
        · obtain ⟨q, hq, rfl⟩ := List.mem_map.mp hy
          obtain ⟨p, hp, rfl⟩ := List.mem_map.mp hq
          have := h2 p hp
          show v ≤ lenAt T (r + p.1) - (p.2 - v)
          omega
        · cases st with
          | none => cases hy
          | some n =>
            cases a with
            | none => cases hy
            | some x =>
              have q := ge_some.mp (h1 n rfl)
              rw [List.mem_singleton.mp hy]
              show v ≤ x - (n - v)
              omega
      · intro h
        refine ⟨fun n en => ?_, fun q hq => ?_⟩
        · cases a with
          | none => exact ge_none _
          | some x =>
            subst en
            have z := h (x - (n - v)) (List.mem_append_right _ (List.mem_singleton.mpr rfl))
            exact ge_some.mpr (by omega)
        · have z := h (lenAt T (r + q.1) - (q.2 - v)) (List.mem_append_left _ (List.mem_map.mpr ⟨(q.1, q.2 - v), List.mem_map.mpr ⟨q, hq, rfl⟩, rfl⟩))
          omega
    rw [tops]
    have h' : (topsM T r a (st.map (· - v)) ((b.mergeSort leK).map fun q => (q.1, q.2 - v)) = [] ∧ c = none) ∨ ∃ m ∈ topsM T r a (st.map (· - v)) ((b.mergeSort leK).map fun q => (q.1, q.2 - v)), (∀ y ∈ topsM T r a (st.map (· - v)) ((b.mergeSort leK).map fun q => (q.1, q.2 - v)), m ≤ y) ∧ c = some (max 0 m) := h
    rcases h' with ⟨h1, rfl⟩ | ⟨m, hm, hl, rfl⟩
    · rw [h1]
      exact ⟨fun _ x z => (nomatch z), fun _ y hy => (nomatch hy)⟩
    · constructor
      · intro z x hx
        obtain rfl := Option.some.inj hx
        have := z m hm
        omega
      · intro z y hy
        have := z _ rfl
        have := hl y hy
        omega
theorem aim_is {a : Option Int} {x : Int} (h1 : ge a x) (h2 : ¬ ge a (x + 1)) : a = some x := by
  cases a with
  | none => exact absurd (ge_none _) h2
  | some y =>
    have q1 := ge_some.mp h1
    have q2 : ¬ x + 1 ≤ y := fun z => h2 (ge_some.mpr z)
    rw [show y = x by omega]
theorem aim_none {a : Option Int} {f : Int} (h : ∀ v, f ≤ v → ge a v) : a = none := by
  cases a with
  | none => rfl
  | some y =>
    have q := ge_some.mp (h (max f (y + 1)) (by omega))
    omega
end Gc

/-! forms: their runs, and forms of lists whose rows are scaled -/
namespace Gc
open PySem L2
def dOf (cs : List Cmd) (v : Int) : PData := dataOf v (boxM cs v)
theorem rle_tail {D : Int → PData} {f : Int} {d : PData} {q : Piece} {r : List Piece} (h : Rle D f ((f, d) :: q :: r)) : f < q.1 ∧ d ≠ q.2 ∧ Rle D q.1 (q :: r) := by
  obtain ⟨g, e⟩ := q
  exact ⟨h.2.1, h.2.2.2.1, h.2.2.2.2⟩
theorem rle_run {D : Int → PData} {f : Int} {d : PData} {rest : List Piece} (h : Rle D f ((f, d) :: rest)) : ∀ v, f ≤ v → (∀ q r', rest = q :: r' → v < q.1) → D v = d := fun v hv hq => by
  cases rest with
  | nil => exact h.2 v hv
  | cons q r =>
    obtain ⟨g, e⟩ := q
    exact h.2.2.1 v hv (hq _ _ rfl)
theorem rle_fst {D : Int → PData} {f : Int} {p : Piece} {r : List Piece} (h : Rle D f (p :: r)) : p.1 = f := by
  obtain ⟨g, d⟩ := p
  cases r with
  | nil => exact h.1
  | cons q r =>
    obtain ⟨g2, e⟩ := q
    exact h.1
theorem rle_at {D : Int → PData} : ∀ {ps : List Piece} {f : Int} {i : Nat} {p : Piece}, Rle D f ps → ps[i]? = some p → f ≤ p.1 ∧ Rle D p.1 (p :: ps.drop (i + 1))
  | [], _, _, _, h, _ => h.elim
  | q :: r, f, 0, p, h, e => by
    obtain rfl := Option.some.inj e
    have e2 := rle_fst h
    rw [e2]
    exact ⟨Int.le_refl _, by rw [List.drop_succ_cons, List.drop_zero]; exact h⟩
  | (g, d) :: q :: r, f, i + 1, p, h, e => by
    have hf : g = f := rle_fst h
    subst hf
    obtain ⟨a1, _, a3⟩ := rle_tail h
    obtain ⟨b1, b2⟩ := rle_at a3 (i := i) e
    exact ⟨by omega, b2⟩
  | [(g, d)], f, i + 1, p, h, e => by cases e
/-- rows scaled -/
def scaleD (F : Int) (d : PData) : PData := (d.1, d.2.map (mulK F))
def scaleP (F : Int) (p : Piece) : Piece := (p.1, scaleD F p.2)
theorem mulK_inj {F : Int} (hF : 1 ≤ F) : ∀ {a b : Ps}, mulK F a = mulK F b → a = b
  | [], [], _ => rfl
  | [], _ :: _, h => by cases h
  | _ :: _, [], h => by cases h
  | (x, y) :: a, (u, v) :: b, h => by
    have h' : (x * F, y) :: mulK F a = (u * F, v) :: mulK F b := h
    obtain ⟨h1, h2⟩ := List.cons.inj h'
    obtain ⟨h3, h4⟩ := Prod.mk.inj h1
    rw [(mul_inj hF).mp h3, h4, mulK_inj hF h2]
theorem scaleD_inj {F : Int} (hF : 1 ≤ F) {a b : PData} (h : scaleD F a = scaleD F b) : a = b := by
  obtain ⟨a1, a2⟩ := a
  obtain ⟨b1, b2⟩ := b
  obtain ⟨h1, h2⟩ := Prod.mk.inj h
  have h1' : a1 = b1 := h1
  have h2' : a2.map (mulK F) = b2.map (mulK F) := h2
  subst h1'
  cases a2 <;> cases b2
  · rfl
  · cases h2'
  · cases h2'
  · rw [mulK_inj hF (Option.some.inj h2')]
theorem rle_scale {F : Int} (hF : 1 ≤ F) {D : Int → PData} : ∀ {ps : List Piece} {f : Int}, Rle D f ps → Rle (fun v => scaleD F (D v)) f (ps.map (scaleP F))
  | [], _, h => h.elim
  | [(g, d)], f, h => ⟨h.1, fun v hv => by show scaleD F (D v) = scaleD F d; rw [h.2 v hv]⟩
  | (g, d) :: (g2, e) :: r, f, h => by
    obtain ⟨h1, h2, h3, h4, h5⟩ := h
    refine ⟨h1, h2, fun v a b => by show scaleD F (D v) = scaleD F d; rw [h3 v a b], fun z => h4 (scaleD_inj hF z), rle_scale hF h5⟩
theorem data_scale {F v : Int} : ∀ o : Option (Option Int × Ps), dataOf v (o.map fun x => (x.1, mulK F x.2)) = scaleD F (dataOf v o)
  | none => rfl
  | some (st, L) => by
    show (st.map (· - v), some ((mulK F L).map fun q => (q.1, q.2 - v))) = (st.map (· - v), some (mulK F (L.map fun q => (q.1, q.2 - v))))
    unfold mulK
    rw [List.map_map, List.map_map]
    rfl
theorem form_scale {F : Int} (hF : 1 ≤ F) {cs : List Cmd} (ok : AllOk cs) : formM (cs.map (Cmd.mul F)) = (formM cs).map (scaleP F) := by
  refine (form_rle _).one ?_
  refine (rle_scale hF (form_rle cs)).of fun v hv => ?_
  show scaleD F (dataOf v (boxM cs v)) = dataOf v (boxM (cs.map (Cmd.mul F)) v)
  rw [box_mul hF ok hv, data_scale]
theorem rch_scale {F : Int} (hF : 1 ≤ F) (cs : List Cmd) : rchM (cs.map (Cmd.mul F)) = ((rchM cs).1 * F, (rchM cs).2.1 * F, (rchM cs).2.2 * F) := by
  have key : ∀ (cs : List Cmd) (l g e : Int), (cs.map (Cmd.mul F)).foldl rstep (l * F, g * F, e * F) = ((cs.foldl rstep (l, g, e)).1 * F, (cs.foldl rstep (l, g, e)).2.1 * F, (cs.foldl rstep (l, g, e)).2.2 * F) := fun cs => by
    induction cs with
    | nil => exact fun _ _ _ => rfl
    | cons c cs ih =>
      intro l g e
      have d : (c.mul F).dv = c.dv * F := by
        cases c with
        | up n => show -(n * F) = -n * F; rw [Int.neg_mul]
        | down n => rfl
        | right n => show (0 : Int) = 0 * F; omega
        | left n => show (0 : Int) = 0 * F; omega
        | home => show (0 : Int) = 0 * F; omega
        | stop => show (0 : Int) = 0 * F; omega
      have s : rstep (l * F, g * F, e * F) (c.mul F) = ((rstep (l, g, e) c).1 * F, (rstep (l, g, e) c).2.1 * F, (rstep (l, g, e) c).2.2 * F) := by
        unfold rstep
        dsimp only
        rw [d, ← Int.add_mul]
        have lt : ∀ a b : Int, a * F < b * F ↔ a < b := fun a b => ⟨fun h => Int.lt_of_mul_lt_mul_right h (by omega), fun h => Int.mul_lt_mul_of_pos_right h (by omega)⟩
        refine Prod.ext ?_ (Prod.ext ?_ rfl)
        · show (if (e + c.dv) * F < l * F then _ else _) = (if e + c.dv < l then _ else _) * F
          by_cases z : e + c.dv < l
          · rw [if_pos z, if_pos ((lt _ _).mpr z)]
          · rw [if_neg z, if_neg fun q => z ((lt _ _).mp q)]
        · show (if (e + c.dv) * F > g * F then _ else _) = (if e + c.dv > g then _ else _) * F
          by_cases z : e + c.dv > g
          · rw [if_pos z, if_pos ((lt _ _).mpr z)]
          · rw [if_neg z, if_neg fun q => z ((lt _ _).mp q)]
      rw [List.map_cons, List.foldl_cons, List.foldl_cons, s]
      exact ih _ _ _
  have q := key cs 0 0 0
  rw [Int.zero_mul] at q
  exact q
/-- behind a last move to the right the first piece asks nothing of the start -/
theorem form_right {cs : List Cmd} {n : Int} (hn : 1 ≤ n) : ∃ (ol : Option Ps) (r : List Piece), formM (cs ++ [.right n]) = (1, none, ol) :: r := by
  obtain ⟨r, e⟩ := (form_rle (cs ++ [.right n])).head
  have b : ∃ L, boxM (cs ++ [.right n]) 1 = some (none, L) := by
    unfold boxM
    rw [List.reverse_append]
    show ∃ L, (if (1 : Int) > n then go cs.reverse _ (1 - n) _ else some (none, _)).map srt = some (none, L)
    rw [if_neg (by omega)]
    exact ⟨_, rfl⟩
  obtain ⟨L, hb⟩ := b
  exact ⟨_, r, by rw [e, hb]; rfl⟩
end Gc

/-! a box less its goal, as the law makes it -/
namespace Gc
open PySem L2
abbrev s_data : Stmt := top 35
def BoxW (H : Hp) (v : V) : Option (Option Int × Ps) → Prop
  | none => v = .non
  | some x => ∃ p, v = .ref p ∧ ∃ (m : Addr) (ts : List Addr), H p = some (.tup [optV x.1, .ref m]) ∧ H m = some (.lst (ts.map V.ref)) ∧ PairsAt H ts x.2
theorem ask_boxW {K : PySem.W.Frag} {H : Hp} {Q : VK} {E : XK} {l : Addr} {xs : List V} {cs : List Cmd} {goal : Int} (hl : SqL K H l xs) (hc : CmdsOf K H xs cs) (ok : AllOk cs) (len : cs.length ≤ 10000) (hg : 1 ≤ goal)
    (k : ∀ (H' : Hp) (v : V), Same H H' → BoxW H' v (boxM cs goal) → Q v H') : zBox K [.ref l, .int goal] H Q E := by
  rw [zBox_eq]
  refine ⟨l, xs, cs, goal, rfl, hl, hc, ok, len, hg, fun e H' s => ?_, fun st L e H' p s q => ?_⟩
  · refine k H' .non s ?_
    rw [e]
    rfl
  · refine k H' (.ref p) s ?_
    rw [e]
    obtain ⟨m, ts, _, _, h1, h2, h3⟩ := q
    exact ⟨p, rfl, m, ts, h1, h2, h3⟩
def spData (K : PySem.W.Frag) : Sp := fun vs H Q _ => ∃ (v : V) (o : Option (Option Int × Ps)) (aim : Int), vs = [v, .int aim] ∧ BoxW H v o ∧ (∀ x, o = some x → x.2.length ≤ 2000) ∧
  ∀ (H' : Hp) (p : Addr), Same H H' → Dp K H' (.ref p) (pdataD (dataOf aim o)) → Q (.ref p) H'
@[irreducible] def zData (K : PySem.W.Frag) : Sp := spData K
theorem zData_eq (K : PySem.W.Frag) : zData K = spData K := by unfold zData; rfl
theorem ask_data {K : PySem.W.Frag} {H : Hp} {Q : VK} {E : XK} {v : V} {o : Option (Option Int × Ps)} {aim : Int} (h : BoxW H v o) (l : ∀ x, o = some x → x.2.length ≤ 2000)
    (k : ∀ (H' : Hp) (p : Addr), Same H H' → Dp K H' (.ref p) (pdataD (dataOf aim o)) → Q (.ref p) H') : zData K [v, .int aim] H Q E := by
  rw [zData_eq]
  exact ⟨v, o, aim, rfl, h, l, k⟩
theorem pairs_dpL {K : PySem.W.Frag} {H : Hp} {ts : List Addr} {L : Ps} {lp : Addr} (h : H lp = some (.lst (ts.map V.ref))) (p : PairsAt H ts L) : Dp K H (.ref lp) (.list (L.map encP)) := .lst (SqL.of h) p.dp
section
variable {P : Program} {w : World} {K : PySem.W.Frag} {mg : Str → Option Value} {base : Heap}
theorem sc_law_data : FnScope ["needed", "aim", "start", "offset", "bound"] ["needed", "aim"] (defScope s_data) := ⟨rfl, rfl, rfl, by decide +kernel, rfl, by decide +kernel, by decide +kernel⟩
theorem ok_data {f : Addr} {fd : FuncData} (F : Fun K "_law_data" "_law_data" s_data f fd) : FnOk P w K mg base CX0 1 f fd ["needed", "aim"] (spData K) := by
  refine F.ok sc_law_data (fun vs H Q E h => ?_) (fun cdv A outer s H vs Q E hr h => ?_)
  · obtain ⟨v, o, aim, rfl, _⟩ := h
    rfl
  · obtain ⟨v, o, aim, rfl, hb, hn, k⟩ := h
    refine ⟨_, (pss_cons (ps_if (pt_cmpR op_isN (pv 0) pe_non (nomark _)) (pss_one (ps_ret (pe_tup (pa_cons pe_non (pa_cons pe_non pa_nil))))) pss_nil)
      (pss_cons (ps_set (i := 2) sc_law_data.nd rfl (Or.inl rfl) (pe_ifExp (pt_cmpR op_isN (pe_ix ix_tup (pv 0) pe_int (fun _ _ => rfl)) pe_non (nomark _)) pe_non (pe_op op_sub (pe_ix ix_tup (pv 0) pe_int (fun _ _ => rfl)) (pv 1))))
      (pss_one (ps_ret (pe_tup (pa_cons (pv 2) (pa_cons (pe_lc (own := [("offset", 3), ("bound", 4)]) rfl sc_law_data.nd (pi_list (pe_ix ix_tup (pv 0) pe_int (fun _ _ => rfl))) (blkOk_by (N := ["needed", "aim", "start", "offset", "bound"]) (sc := defScope s_data) (by decide +kernel)) (fun _ _ _ _ _ => (show PG _ _ (gTup K 2 _) from pg_tup rfl (pgs_cons (pg_name (i := 3) sc_law_data.nd rfl (Or.inl rfl)) (pgs_cons (pg_name (i := 4) sc_law_data.nd rfl (Or.inl rfl)) pgs_nil)))) (fun _ _ _ _ _ => pts_nil) (fun _ _ _ _ _ => (pe_tup (pa_cons (pv 3) (pa_cons (pe_op op_sub (pv 4) (pv 1)) pa_nil))))) pa_nil))))))), ?_⟩
    cases o with
    | none =>
      obtain rfl : v = .non := hb
      refine ⟨_, rfl, rfl, true, by rfl, iteT ?_⟩
      refine ⟨(by show 2 ≤ sizeLine; decide), fun p np => k _ p (new_same np) (.tup (SqT.of upd_same) (.cons .non (.cons .non .nil)))⟩
    | some x =>
      obtain ⟨st, L⟩ := x
      obtain ⟨p, rfl, m, ts, h1, h2, h3⟩ := hb
      have Ln := hn _ rfl
      have tl : ts.length = L.length := Paired.length h3
      refine ⟨_, rfl, rfl, false, by simp, iteF ?_⟩
      obtain ⟨s0, es0, hs0⟩ : ∃ s0 : Option Int, s0 = st.map (· - aim) ∧ ∀ (H1 : Hp) (Q : VK), H1 = H → Q (optW s0) H1 → tIf (tTest (tOp (fun x y H Q => y = V.non ∧ Q (V.bl (decide (x = V.non))) H) (tOp (rIxT K) (tVar 0) (tC (V.int 0))) (tC V.non))) (tC V.non) (tOp (rI0 fun i j => V.int (i - j)) (tOp (rIxT K) (tVar 0) (tC (V.int 0))) (tVar 1)) [some (.ref p), some (.int aim), none, none, none] H1 Q := by
        cases st with
        | none => exact ⟨none, rfl, fun H1 Q e q => by subst e; exact ⟨_, rfl, p, _, 0, _, rfl, rfl, SqT.of h1, rfl, rfl, true, by rfl, iteT q⟩⟩
        | some s1 => exact ⟨some (s1 - aim), rfl, fun H1 Q e q => by subst e; exact ⟨_, rfl, p, _, 0, _, rfl, rfl, SqT.of h1, rfl, rfl, false, by rfl, iteF ⟨_, rfl, p, _, 0, _, rfl, rfl, SqT.of h1, rfl, _, rfl, _, _, rfl, rfl, q⟩⟩⟩
      refine hs0 _ _ rfl ?_
      refine ⟨_, rfl, _, rfl, p, _, 1, _, rfl, rfl, SqT.of h1, rfl, m, rfl, ⟨_, SqL.of h2⟩, fun D hD => ?_⟩
      refine lc_list (K := K) (a := m) (xs := ts.map V.ref) (fun i H' => ∃ us : List Addr, Same H H' ∧ H' D = some (.lst (us.map V.ref)) ∧ PairsAt H' us ((L.take i).map fun q => (q.1, q.2 - aim))) ⟨[], same_upd (Same.refl H) hD, upd_same, .nil⟩ (fun i H' _ ⟨_, e, _⟩ => SqL.of (e _ _ h2)) (fun i x H' hi h => ?_) (fun H' h => ?_)
      · obtain ⟨us, e, eD, hus⟩ := h
        rw [List.getElem?_map] at hi
        cases ei : ts[i]? with
        | none =>
          rw [ei] at hi
          cases hi
        | some ti =>
          rw [ei] at hi
          obtain rfl := Option.some.inj hi
          obtain ⟨q, hq, hti⟩ := paired_at h3 ei
          have li : i < L.length := (List.getElem?_eq_some_iff.mp hq).1
          replace Ln : L.length ≤ 2000 := Ln
          have ul : us.length = i := by
            have := Paired.length hus
            rw [List.length_map, List.length_take] at this
            omega
          refine ⟨ti, _, rfl, SqT.of (e _ _ hti), rfl, _, _, rfl, _, _, rfl, rfl, rfl, ?_⟩
          refine ⟨_, rfl, _, rfl, _, rfl, _, _, rfl, rfl, (by show 2 ≤ sizeLine; decide), fun u nu => ?_⟩
          have e2 : Same H' (upd H' u (.tup [.int q.1, .int (q.2 - aim)])) := new_same nu
          have uD : u ≠ D := fun z => by
            rw [z, eD] at nu
            cases nu
          refine ⟨_, e2 _ _ eD, lt_line (by rw [List.length_map]; omega), us ++ [u], same_freeU (e.trans e2) hD, by rw [upd_same, List.map_append]; rfl, ?_⟩
          rw [takeS hq, List.map_append]
          refine paired_app (Paired.mapP hus fun t y z => ?_) (.cons ?_ .nil)
          · have z2 := e2 _ _ z
            rw [upd_ne (ne_of z2 (e2 _ _ eD) (by intro y; cases y))]
            exact z2
          · show upd _ D _ u = _
            rw [upd_ne uD]
            exact upd_same
      · obtain ⟨us, e, eD, hus⟩ := h
        rw [List.length_map, tl, List.take_length] at hus
        refine ⟨(by show 2 ≤ sizeLine; decide), fun t nt => ?_⟩
        have e2 : Same H' (upd H' t (.tup [optW s0, .ref D])) := new_same nt
        refine k _ t (e.trans e2) ?_
        have hus2 : PairsAt (upd H' t (.tup [optW s0, .ref D])) us (L.map fun q => (q.1, q.2 - aim)) := hus.mono fun _ _ z => e2 _ _ z
        subst es0
        exact .tup (SqT.of upd_same) (.cons (dp_opt _) (.cons (pairs_dpL (e2 _ _ eD) hus2) .nil))
end
end Gc

/-! a piece is the box of its goals -/
namespace Gc
open PySem L2
abbrev s_pright : Stmt := top 36
structure TxtP (mg : Str → Option Value) : Prop where
  len : mg "len" = none
  min : mg "min" = none
  repr : mg "repr" = none
theorem Rng.tupK {H H' : Hp} {r : Addr} {n : Nat} (rg : Rng H r n) (kp : Keep r r H H') : ∀ t xs, H t = some (.tup xs) → H' t = some (.tup xs) := fun t xs q => by
  obtain ⟨_, _, _, z, _⟩ := rg
  exact kp _ _ (ne_of q z (by intro y; cases y)) (ne_of q z (by intro y; cases y)) q
theorem found_keep {H0 H H' : Hp} {r m : Addr} {n : Nat} {is : List (Addr × Option Addr)} {ps : List Piece} (kp : Keep r r H H') (rg : Rng H r n) (h0 : ∃ o, H0 r = some o) (Fd : FoundAt H0 H m is ps) : FoundAt H0 H' m is ps := by
  have tup := rg.tupK kp
  obtain ⟨o, hr⟩ := h0
  have off : ∀ l : Addr, H0 l = none → l ≠ r := fun l q e => by
    rw [e, hr] at q
    cases q
  refine ⟨kp _ _ (off m Fd.m0) (off m Fd.m0) Fd.lst, ?_, Fd.nd, fun l hl => ?_, Fd.m0⟩
  · have key : ∀ {is : List (Addr × Option Addr)} {ps : List Piece}, (∀ l ∈ is.filterMap (·.2), H0 l = none) → Paired (PieceAt H) is ps → Paired (PieceAt H') is ps := fun {is ps} hn hp => by
      induction hp with
      | nil => exact .nil
      | @cons i p is ps q t ih =>
        refine .cons (q.mono tup fun a xs e hx => ?_) (ih fun l hl => hn l ?_)
        · have nl := hn a (by rw [List.filterMap_cons, e]; exact List.mem_cons_self)
          exact kp _ _ (off a nl) (off a nl) hx
        · rw [List.filterMap_cons]
          cases i.2 with
          | none => exact hl
          | some _ => exact List.mem_cons_of_mem _ hl
    exact key (fun l hl => (Fd.new l hl).1) Fd.its
  · obtain ⟨q1, q2, xs, q3⟩ := Fd.new l hl
    exact ⟨q1, q2, xs, kp _ _ (off l q1) (off l q1) q3⟩
theorem pd_show {cs : List Cmd} (ok : AllOk cs) (sm : AllSmall cs) (ln : cs.length ≤ 300) {p : Piece} (hp : p ∈ formM cs) : ShowOk (pdataD p.2) ∧ 1 ≤ p.1 ∧ p.1 ≤ 10 ^ 33 := by
  obtain ⟨b1, _⟩ := form_bnd (M := 10 ^ 30) (V := 2) (by decide) (by decide) (small_nb ok sm)
  obtain ⟨f1, f2, h3, h4⟩ := b1 p hp
  have cl : (cs.length : Int) ≤ 300 := by omega
  have cB : (cs.length : Int) * 10 ^ 30 ≤ 300 * 10 ^ 30 := Int.mul_le_mul_of_nonneg_right cl (by decide)
  have e300 : (300 : Int) * 10 ^ 30 < 2 ^ 109 := by decide
  have W : ((cs.length : Int) * 2) < 2 ^ 10 := by
    have p1 : (2 : Int) ^ 10 = 1024 := by decide
    omega
  have p109 : (2 : Int) ^ 109 = 649037107316853453566312041152512 := by decide
  have n109 : (2 : Nat) ^ 109 = 649037107316853453566312041152512 := by decide
  obtain ⟨o1, o2, o3⟩ := opt_ok (k := 109) (by decide) (by decide) (o := p.2.1) fun s e => by
    have := h3 s e
    omega
  obtain ⟨l1, l2, l3⟩ := lines_ok (k := 109) (by decide) (by decide) (show (cs.length : Int) * 10 ^ 30 < 2 ^ 109 by omega) W (o := p.2.2) (n := cs.length) h4
  refine ⟨show_ok (ok0_tup (ok0_cons o1 (ok0_cons l1 ok0_nil))) ?_ ?_, f1, by omega⟩
  · simp only [pdataD, PyData.weight, PyData.weightAll]
    omega
  · simp only [pdataD, PyData.depth, PyData.depthAll]
    omega
def spPRight (K : PySem.W.Frag) : Sp := fun vs H Q _ => ∃ (H0 : Hp) (r l m : Addr) (n i : Nat) (xs : List V) (cs : List Cmd) (is : List (Addr × Option Addr)), vs = [.ref r, .ref l, .ref m, .int (i : Nat)] ∧ Rng H r n ∧ n < 2 ^ 38 ∧ (∃ o, H0 r = some o) ∧ H l = some (.lst xs) ∧ l ≠ r ∧ CmdsOf K H xs cs ∧ AllOk cs ∧ AllSmall cs ∧ cs.length ≤ 300 ∧
  FoundAt H0 H m is (formM cs) ∧ i < (formM cs).length ∧ ∀ H', Keep r r H H' → Rng H' r (n + 4) → Q (.bl true) H'
@[irreducible] def zPRight (K : PySem.W.Frag) : Sp := spPRight K
theorem zPRight_eq (K : PySem.W.Frag) : zPRight K = spPRight K := by unfold zPRight; rfl
section
variable {P : Program} {w : World} {K : PySem.W.Frag} {mg : Str → Option Value} {base : Heap}
theorem sc_law_piece_right : FnScope ["rng", "steps", "pieces_v", "spot", "first", "start", "lines_here", "top", "aims", "aim"] ["rng", "steps", "pieces_v", "spot"] (defScope s_pright) := ⟨rfl, rfl, rfl, by decide +kernel, rfl, by decide +kernel, by decide +kernel⟩
theorem ok_pright {f : Addr} {fd : FuncData} (F : Fun K "_law_piece_right" "_law_piece_right" s_pright f fd) (T : TxtP mg) (c_law_draw : Cal P w K mg base 1 "_law_draw" spDraw) (c_box : Cal P w K mg base 5 "box" (zBox K)) (c_law_data : Cal P w K mg base 1 "_law_data" (zData K)) :
    FnG P w K mg base 6 f fd ["rng", "steps", "pieces_v", "spot"] (spPRight K) := by
  refine okG F sc_law_piece_right (fun vs H Q E h => ?_) (fun cdv A outer s H vs Q E hg hr h => ?_)
  · obtain ⟨H0, r, l, m, n, i, xs, cs, is, rfl, _⟩ := h
    rfl
  · obtain ⟨H0, r, l, m, n, i, xs, cs, is, rfl, rg, hn, h0, hl, lr, hcs, ok, sm, ln, Fd, li, k⟩ := h
    refine ⟨_, (pss_cons (ps_asg (pe_ix ix_list (pv 2) (pv 3) (fun _ _ => rfl)) (pg_tup rfl (pgs_cons (pg_name (i := 4) sc_law_piece_right.nd rfl (Or.inl rfl)) (pgs_cons (pg_name (i := 5) sc_law_piece_right.nd rfl (Or.inl rfl)) (pgs_cons (pg_name (i := 6) sc_law_piece_right.nd rfl (Or.inl rfl)) pgs_nil)))))
      (pss_cons (ps_set (i := 7) sc_law_piece_right.nd rfl (Or.inl rfl) (pe_op op_sub (pe_op op_pow pe_int pe_int) pe_int))
      (C8.pss_cut (ps_if (pt_cmpR op_lt (pe_op op_add (pv 3) pe_int) (pe_callB call_len_seq (by rfl) T.len (by decide +kernel) (pa_cons (pv 2) pa_nil)) (nomark _)) (pss_cons (ps_if (PW.pt (pw_or (pt_cmpR (op_eqD hr.units) (pe_slice sl_tup (pe_ix ix_list (pv 2) (pe_op op_add (pv 3) pe_int) (fun _ _ => rfl)) (po_some pe_int) po_none) (pe_slice sl_tup (pe_ix ix_list (pv 2) (pv 3) (fun _ _ => rfl)) (po_some pe_int) po_none) (nomark _)) (pw_or1 (pt_cmpR op_le (pe_ix ix_tup (pe_ix ix_list (pv 2) (pe_op op_add (pv 3) pe_int) (fun _ _ => rfl)) pe_int (fun _ _ => rfl)) (pv 4) (nomark _))))) (pss_one (ps_ret pe_bl)) pss_nil)
      (pss_one (ps_set (i := 7) sc_law_piece_right.nd rfl (Or.inl rfl) (pe_callB (call_min2 rfl) (by rfl) T.min (by decide +kernel) (pa_cons (pv 7) (pa_cons (pe_op op_sub (pe_ix ix_tup (pe_ix ix_list (pv 2) (pe_op op_add (pv 3) pe_int) (fun _ _ => rfl)) pe_int (fun _ _ => rfl)) pe_int) pa_nil)))))) pss_nil)
      (pss_cons (ps_set (i := 8) sc_law_piece_right.nd rfl (Or.inl rfl) (pe_lst (pa_cons (pv 4) pa_nil)))
      (C8.pss_cut (ps_if (pt_cmpR op_le (pv 4) (pv 7) (nomark _)) (pss_one (ps_set (i := 8) sc_law_piece_right.nd rfl (Or.inl rfl) (pe_op op_cat (pv 8) (pe_lst (pa_cons (pv 7) (pa_cons (pe_op op_add (pv 4) (pe_cal c_law_draw hr (by decide) (by rfl) (pa_cons (pv 0) (pa_cons (pe_op op_add (pe_op op_sub (pv 7) (pv 4)) pe_int) pa_nil)))) (pa_cons (pe_callB (call_min2 rfl) (by rfl) T.min (by decide +kernel) (pa_cons (pv 7) (pa_cons (pe_op op_add (pe_op op_add (pv 4) pe_int) (pe_cal c_law_draw hr (by decide) (by rfl) (pa_cons (pv 0) (pa_cons pe_int pa_nil)))) pa_nil))) pa_nil))))))) pss_nil)
      (pss_cons (ps_for PassesOwn.never rfl (pi_list (pv 8)) (pg_name (i := 9) sc_law_piece_right.nd rfl (Or.inl rfl)) (pss_one (ps_if (pt_cmpR op_ne (pe_callB (cr_reprD hg hr.units) (by rfl) T.repr (by decide +kernel) (pa_cons (pe_cal c_law_data hr (by decide) (by rfl) (pa_cons (pe_cal c_box hr (by decide) (by rfl) (pa_cons (pv 1) (pa_cons (pv 9) pa_nil))) (pa_cons (pv 9) pa_nil))) pa_nil)) (pe_callB (cr_reprD hg hr.units) (by rfl) T.repr (by decide +kernel) (pa_cons (pe_tup (pa_cons (pv 5) (pa_cons (pv 6) pa_nil))) pa_nil)) (nomark _)) (pss_one (ps_ret pe_bl)) pss_nil)))
      (pss_one (ps_ret pe_bl)))))))), ?_⟩
    have il : is.length = (formM cs).length := Paired.length Fd.its
    have mr : m ≠ r := fun e => by
      obtain ⟨o, q⟩ := h0
      have := Fd.m0
      rw [e, q] at this
      cases this
    have at_i : ∀ k, k < is.length → ∃ j p, is[k]? = some j ∧ (formM cs)[k]? = some p ∧ PieceAt H j p := fun k hk => by
      obtain ⟨p, hp, pa⟩ := paired_at Fd.its (List.getElem?_eq_getElem hk)
      exact ⟨_, p, List.getElem?_eq_getElem hk, hp, pa⟩
    obtain ⟨j, p, ej, hp, pa⟩ := at_i i (by omega)
    obtain ⟨shw, pf0, pf1⟩ := pd_show ok sm ln (List.mem_of_getElem? hp)
    have rl := (rle_at (D := dOf cs) (form_rle cs) hp).2
    obtain ⟨f1, d⟩ := p
    have run := rle_run rl
    refine ⟨_, rfl, _, rfl, m, _, _, .ref j.1, rfl, rfl, SqL.of Fd.lst, at_of (j := i) rfl (by rw [List.getElem?_map, ej]; rfl), j.1, _, rfl, SqT.of pa.1, rfl, _, _, rfl, _, _, rfl, _, _, rfl, rfl, ?_⟩
    refine ⟨_, _, rfl, rfl, cpow (by decide), _, _, rfl, rfl, ?_⟩
    refine ⟨fun σ H' => ∃ tp : Int, σ = [some (.ref r), some (.ref l), some (.ref m), some (.int (i : Nat)), some (.int f1), some (optW d.1), some (refO j.2), some (.int tp), none, none] ∧ Same H H' ∧ tp ≤ 10 ^ 30 - 1 ∧ ∀ v, f1 ≤ v → v ≤ tp → dOf cs v = d, ?_, ?_⟩
    · refine ⟨_, rfl, _, _, rfl, rfl, _, rfl, m, _, rfl, .inl (SqL.of Fd.lst), _, _, rfl, rfl, _, rfl, ite2 (fun c => ?_) (fun c => ?_)⟩
      · have c' : (i : Int) + 1 < ((is.map fun i => V.ref i.1).length : Int) := of_decide_eq_true c
        rw [List.length_map] at c'
        obtain ⟨jg, g, ejg, hg, pg⟩ := at_i (i + 1) (by omega)
        have dr : (formM cs).drop (i + 1) = g :: (formM cs).drop (i + 1 + 1) := by
          obtain ⟨q1, q2⟩ := List.getElem?_eq_some_iff.mp hg
          rw [List.drop_eq_getElem_cons q1, q2]
        rw [dr] at rl run
        obtain ⟨fg, dne, _⟩ := rle_tail rl
        have mg1 : atI (is.map fun i => V.ref i.1) ((i : Int) + 1) = some (.ref jg.1) := at_of (j := i + 1) (by omega) (by rw [List.getElem?_map, ejg]; rfl)
        have mi1 : atI (is.map fun i => V.ref i.1) (i : Int) = some (.ref j.1) := at_of (j := i) rfl (by rw [List.getElem?_map, ej]; rfl)
        refine ⟨_, rfl, _, rfl, _, _, rfl, rfl, m, _, _, .ref jg.1, rfl, rfl, SqL.of Fd.lst, mg1, _, rfl, jg.1, _, rfl, SqT.of pg.1, (by show ¬ (1 = 0 ∧ 3 = 3); decide), fun a ha => ?_⟩
        have e1 : Same H (upd H a (.tup (cutV [.int g.1, optW g.2.1, refO jg.2] (some 1) none))) := new_same ha
        have h1 : upd H a (.tup (cutV [.int g.1, optW g.2.1, refO jg.2] (some 1) none)) a = some (.tup [optW g.2.1, refO jg.2]) := by
          rw [upd_same]
          rfl
        generalize upd H a (.tup (cutV [.int g.1, optW g.2.1, refO jg.2] (some 1) none)) = H1 at e1 h1 ⊢
        refine ⟨_, rfl, _, rfl, m, _, _, .ref j.1, rfl, rfl, SqL.of (e1 _ _ Fd.lst), mi1, _, rfl, j.1, _, rfl, SqT.of (e1 _ _ pa.1), (by show ¬ (1 = 0 ∧ 3 = 3); decide), fun b hb => ?_⟩
        have e2 : Same H1 (upd H1 b (.tup (cutV [.int f1, optW d.1, refO j.2] (some 1) none))) := new_same hb
        have h2 : upd H1 b (.tup (cutV [.int f1, optW d.1, refO j.2] (some 1) none)) b = some (.tup [optW d.1, refO j.2]) := by
          rw [upd_same]
          rfl
        generalize upd H1 b (.tup (cutV [.int f1, optW d.1, refO j.2] (some 1) none)) = H2 at e2 h2 ⊢
        have e3 := e1.trans e2
        refine ⟨pdataD g.2, pdataD d, .tup (SqT.of (e2 _ _ h1)) (.cons (dp_opt _) (.cons (pg.same e3).2.dp .nil)), .tup (SqT.of h2) (.cons (dp_opt _) (.cons (pa.same e3).2.dp .nil)), shaped_pdata _, shaped_pdata _, _, rfl, ?_⟩
        rw [eqv_pdata, decide_eq_false (Ne.symm dne)]
        refine iteF ?_
        have hm2 := e3 _ _ Fd.lst
        have pg2 := e3 _ _ pg.1
        refine ⟨_, rfl, _, rfl, _, _, rfl, rfl, m, _, _, .ref jg.1, rfl, rfl, SqL.of hm2, mg1, jg.1, _, 0, _, rfl, rfl, SqT.of pg2, rfl, _, rfl, _, _, rfl, rfl, _, rfl, ?_⟩
        rw [decide_eq_false (show ¬ g.1 ≤ f1 by omega)]
        refine iteF ?_
        refine ⟨_, rfl, _, rfl, _, rfl, _, _, rfl, rfl, m, _, _, .ref jg.1, rfl, rfl, SqL.of hm2, mg1, jg.1, _, 0, _, rfl, rfl, SqT.of pg2, rfl, _, _, rfl, rfl, _, _, rfl, ?_⟩
        have e30 : (10 : Int) ^ (30 : Int).toNat = 10 ^ 30 := rfl
        exact ⟨_, rfl, e3, by rw [e30]; split <;> omega, fun v v0 v1 => run v v0 fun q r' z => by
          cases z
          rw [e30] at v1
          split at v1 <;> omega⟩
      · have c' : ¬ (i : Int) + 1 < ((is.map fun i => V.ref i.1).length : Int) := fun z => c (decide_eq_true z)
        rw [List.length_map] at c'
        have dr : (formM cs).drop (i + 1) = [] := List.drop_eq_nil_of_le (by omega)
        rw [dr] at run
        exact ⟨_, rfl, Same.refl H, Int.le_refl _, fun v v0 _ => run v v0 fun q r' z => nomatch z⟩
    · rintro σ H1 ⟨tp, rfl, e1, tp0, hv⟩
      have vf : dOf cs f1 = d := by
        refine run f1 (Int.le_refl _) fun q r' z => ?_
        rw [z] at rl
        exact (rle_tail rl).1
      have e33 : (10 : Int) ^ 33 = 1000000000000000000000000000000000 := by decide
      have e30 : (10 : Int) ^ 30 = 1000000000000000000000000000000 := by decide
      have k1 : Keep r r H H1 := Keep.of e1
      replace rg := rg.same e1
      replace Fd := Fd.same e1
      replace hl := e1 _ _ hl
      replace hcs := hcs.same e1
      refine ⟨_, rfl, (by show 1 ≤ sizeLine; decide), fun A nA => ?_⟩
      have Ar := rg.off nA
      have e_H2 : Same H1 (upd H1 A (.lst [V.int f1])) := new_same nA
      have h_A : (upd H1 A (.lst [V.int f1])) A = some (.lst [V.int f1]) := upd_same
      generalize upd H1 A (.lst [V.int f1]) = H2 at e_H2 h_A ⊢
      replace rg := rg.same e_H2
      replace k1 := k1.same1 e_H2
      replace Fd := Fd.same e_H2
      replace hl := e_H2 _ _ hl
      replace hcs := hcs.same e_H2
      refine ⟨fun σ H' => ∃ (A : Addr) (ns : List Int), σ = [some (.ref r), some (.ref l), some (.ref m), some (.int (i : Nat)), some (.int f1), some (optW d.1), some (refO j.2), some (.int tp), some (.ref A), none] ∧ Keep r r H H' ∧ Rng H' r (n + 4) ∧ FoundAt H0 H' m is (formM cs) ∧
          H' l = some (.lst xs) ∧ CmdsOf K H' xs cs ∧ H' A = some (.lst (ns.map V.int)) ∧ ∀ a ∈ ns, 1 ≤ a ∧ a ≤ 10 ^ 33 ∧ dOf cs a = d, ?_, ?_⟩
      · have f1in : ∀ a ∈ [f1], 1 ≤ a ∧ a ≤ 10 ^ 33 ∧ dOf cs a = d := fun a ha => by rw [List.mem_singleton.mp ha]; exact ⟨pf0, pf1, vf⟩
        refine ⟨_, rfl, _, rfl, _, _, rfl, rfl, _, rfl, ite2 (fun c => ?_) (fun c => ?_)⟩
        · have c' : f1 ≤ tp := of_decide_eq_true c
          refine ⟨_, rfl, _, rfl, _, rfl, _, rfl, _, rfl, _, rfl, _, _, rfl, rfl, _, _, rfl, rfl, r, _, _, rfl, rg, by omega, by omega, log9 (a := 120) (by omega) (by decide), fun H3 w1 kp3 rg3 w10 w11 => ⟨_, _, rfl, rfl, ?_⟩⟩
          replace Fd := found_keep kp3 rg h0 Fd
          replace h_A := kp3 _ _ Ar Ar h_A
          replace k1 := k1.trans kp3
          replace hl := kp3 _ _ lr lr hl
          replace hcs := rg.cmds kp3 hcs
          refine ⟨_, rfl, _, rfl, _, _, rfl, rfl, _, rfl, r, _, 9, rfl, rg3, by omega, by decide, by decide, fun H4 w2 kp4 rg4 w20 w21 => ⟨_, _, rfl, rfl, _, _, rfl, (by show 3 ≤ sizeLine; decide), fun B nB => ?_⟩⟩
          replace Fd := found_keep kp4 rg3 h0 Fd
          replace h_A := kp4 _ _ Ar Ar h_A
          replace k1 := k1.trans kp4
          replace hl := kp4 _ _ lr lr hl
          replace hcs := rg3.cmds kp4 hcs
          obtain ⟨mn, hmn, m0, m1⟩ : ∃ mn : Int, (if f1 + 1 + w2 < tp then f1 + 1 + w2 else tp) = mn ∧ f1 ≤ mn ∧ mn ≤ tp := ⟨_, rfl, by split <;> omega, by split <;> omega⟩
          have f3 : ∀ a ∈ [f1, tp, f1 + w1, mn], 1 ≤ a ∧ a ≤ 10 ^ 33 ∧ dOf cs a = d := fun a ha => by
            rcases List.mem_cons.mp ha with rfl | ha
            · exact ⟨pf0, pf1, vf⟩
            rcases List.mem_cons.mp ha with rfl | ha
            · exact ⟨by omega, by omega, hv _ c' (Int.le_refl _)⟩
            rcases List.mem_cons.mp ha with rfl | ha
            · exact ⟨by omega, by omega, hv _ (by omega) (by omega)⟩
            rw [List.mem_singleton.mp ha]
            exact ⟨by omega, by omega, hv _ m0 m1⟩
          subst hmn
          refine ⟨A, B, _, _, rfl, rfl, new_same nB _ _ h_A, upd_same, (by show 1 + 3 ≤ sizeLine; decide), fun C nC => ?_⟩
          have eBC := fun o => (new_same (o := HO.lst [V.int tp, .int (f1 + w1), .int (if f1 + 1 + w2 < tp then f1 + 1 + w2 else tp)]) nB).trans (new_same (o := o) nC)
          refine ⟨C, [f1, tp, f1 + w1, if f1 + 1 + w2 < tp then f1 + 1 + w2 else tp], rfl, k1.same1 (eBC _), (rg4.same (eBC _)).more (by omega), Fd.same (eBC _), eBC _ _ _ hl, hcs.same (eBC _), upd_same, f3⟩
        · exact ⟨A, [f1], rfl, k1, rg.more (by omega), Fd, hl, hcs, h_A, f1in⟩
      · rintro σ H3 ⟨A, ns, rfl, k3, rg3, Fd3, hl3, hcs3, hA, hns⟩
        refine ⟨_, rfl, A, rfl, ⟨_, SqL.of hA⟩, for_list (K := K) (a := A) (xs := ns.map V.int) (fun q σ H' => ∃ v9 : Option V, σ = [some (.ref r), some (.ref l), some (.ref m), some (.int (i : Nat)), some (.int f1), some (optW d.1), some (refO j.2), some (.int tp), some (.ref A), v9] ∧ Same H3 H') ⟨_, rfl, Same.refl H3⟩ (fun q σ H' _ ⟨_, _, e⟩ => SqL.of (e _ _ hA)) (fun q x σ H' hx h => ?_) (fun σ H' h => ?_)⟩
        · obtain ⟨v9, rfl, e⟩ := h
          rw [List.getElem?_map] at hx
          cases ea : ns[q]? with
          | none =>
            rw [ea] at hx
            cases hx
          | some aim =>
            rw [ea] at hx
            obtain rfl := Option.some.inj hx
            obtain ⟨a0, a1, ad⟩ := hns aim (List.mem_of_getElem? ea)
            refine ⟨_, rfl, _, rfl, ask_boxW (SqL.of (e _ _ hl3)) (hcs3.same e) ok (by omega) a0 fun H5 v5 e5 B5 => ⟨_, rfl, ask_data B5 (fun x ex => ?_) fun H6 p6 e6 D6 => ?_⟩⟩
            · obtain ⟨st, L⟩ := x
              have := box_len ex
              show L.length ≤ 2000
              omega
            rw [show dataOf aim (boxM cs aim) = d from ad] at D6
            refine ⟨.ref p6, _, rfl, D6, .inl ⟨p6, rfl⟩, shw, ?_⟩
            refine ⟨_, rfl, _, rfl, (by show 2 ≤ sizeLine; decide), fun t nt => ?_⟩
            have e8 := ((e.trans e5).trans e6).trans (new_same (o := .tup [optW d.1, refO j.2]) nt)
            obtain ⟨p', hp', pa'⟩ := paired_at (Fd3.same e8).its ej
            rw [hp] at hp'
            obtain rfl := Option.some.inj hp'
            refine ⟨.ref t, pdataD d, rfl, .tup (SqT.of upd_same) (.cons (dp_opt _) (.cons pa'.2.dp .nil)), .inl ⟨t, rfl⟩, shw, rfl, false, by simp, iteF ?_⟩
            exact ⟨_, rfl, e8⟩
        · obtain ⟨v9, rfl, e⟩ := h
          exact k _ (k3.same1 e) (rg3.same e)
end
end Gc

namespace Gc
open PySem L2
abbrev s_far : Stmt := top 39
def spFar (K : PySem.W.Frag) : Sp := fun vs H Q _ => ∃ (l : Addr) (f : Int) (xs : List V) (cs : List Cmd), vs = [.ref l, .int f] ∧ SqL K H l xs ∧ CmdsOf K H xs cs ∧ AllOk cs ∧ AllSmall cs ∧ cs.length ≤ 20 ∧ 1 ≤ f ∧ f ≤ 10 ^ 29 ∧
  ∀ (H' : Hp) (p : Addr) (ys : List V), Same H H' → H p = none → H' p = some (.lst ys) → CmdsOf K H' ys (cs.map (Cmd.mul f)) → Q (.ref p) H'
section
variable {P : Program} {w : World} {K : PySem.W.Frag} {mg : Str → Option Value} {base : Heap}
theorem sc_law_far : FnScope ["steps", "factor", "step"] ["steps", "factor"] (defScope s_far) := ⟨rfl, rfl, rfl, by decide +kernel, rfl, by decide +kernel, by decide +kernel⟩
theorem ok_far {f : Addr} {fd : FuncData} (F : Fun K "_law_far" "_law_far" s_far f fd) : FnOk P w K mg base CX0 1 f fd ["steps", "factor"] (spFar K) := by
  refine F.ok sc_law_far (fun vs H Q E h => ?_) (fun cdv A outer s H vs Q E hr h => ?_)
  · obtain ⟨l, f, xs, cs, rfl, _⟩ := h
    rfl
  · obtain ⟨lw, fv, xs, cs, rfl, hl, hcs, ok, sm, ln, w0, w1, k⟩ := h
    refine ⟨_, (pss_one (ps_ret (pe_lc (own := [("step", 2)]) rfl sc_law_far.nd (pi_list (pv 0)) (blkOk_by (N := ["steps", "factor", "step"]) (sc := defScope s_far) (by decide +kernel)) (fun _ _ _ _ _ => (pg_name (i := 2) sc_law_far.nd rfl (Or.inl rfl))) (fun _ _ _ _ _ => pts_nil) (fun _ _ _ _ _ => (pe_ifExp (pt_cmpR (show OpR _ _ (rIn K false) from op_in_seq) (pe_ix (show IxR _ (rIxT K) from ix_tup) (pv 2) pe_int (fun _ _ => rfl)) (pe_tup (pa_cons pe_str (pa_cons pe_str pa_nil))) (by rfl)) (pe_tup (pa_cons (pe_ix (show IxR _ (rIxT K) from ix_tup) (pv 2) pe_int (fun _ _ => rfl)) (pa_cons (pe_op op_mulW (pe_ix (show IxR _ (rIxT K) from ix_tup) (pv 2) pe_int (fun _ _ => rfl)) (pv 1)) pa_nil))) (pv 2)))))), ?_⟩
    refine ⟨_, rfl, lw, rfl, ⟨_, hl⟩, fun D hD => ?_⟩
    refine lc_list (K := K) (a := lw) (xs := xs) (fun i H' => ∃ ps : List V, Same H H' ∧ H' D = some (.lst ps) ∧ CmdsOf K H' ps ((cs.take i).map (Cmd.mul fv)))
      ⟨[], same_upd (Same.refl H) hD, upd_same, .nil⟩ (fun i H' _ ⟨_, e, _⟩ => e.seq hl) (fun i x H' hi h => ?_) (fun H21 h => ?_)
    · obtain ⟨ps, e, hd, pp⟩ := h
      obtain ⟨c, hc, t, rfl, ht0⟩ := paired_at hcs hi
      have ht := seq_t e ht0
      have li := (List.getElem?_eq_some_iff.mp hc).1
      have smc := (sm c (List.mem_of_getElem? hc)).1
      have okc := ok c (List.mem_of_getElem? hc)
      have pl : ps.length ≤ 1000 := by
        rw [pp.len, List.length_map, List.length_take]
        omega
      rw [take_snoc hc, List.map_append]
      refine ⟨rfl, ?_⟩
      have stay : ∀ (p1 : Addr) (hp1 : H' p1 = none), c.mul fv = c → ∃ acc, upd H' p1 (.tup [.str "down", .str "up"]) D = some (.lst acc) ∧ acc.length < sizeLine ∧ ∃ qs : List V, Same H (upd (upd H' p1 (.tup [.str "down", .str "up"])) D (.lst (acc ++ [.ref t]))) ∧
          upd (upd H' p1 (.tup [.str "down", .str "up"])) D (.lst (acc ++ [.ref t])) D = some (.lst qs) ∧ CmdsOf K (upd (upd H' p1 (.tup [.str "down", .str "up"])) D (.lst (acc ++ [.ref t]))) qs ((cs.take i).map (Cmd.mul fv) ++ [c].map (Cmd.mul fv)) := fun p1 hp1 ec => by
        have s1 := same_upd (Same.refl H') hp1 (o := .tup [.str "down", .str "up"])
        refine ⟨ps, s1 _ _ hd, small_len pl, ps ++ [.ref t], same_freeU (e.trans s1) hD, upd_same, ?_⟩
        refine Paired.snoc ((pp.same s1).keep (Keep.refl _).upd1 (s1 _ _ hd)) ?_
        rw [ec]
        exact CmdAt.keep (Keep.refl _).upd1 (s1 _ _ hd) ⟨t, rfl, seq_t s1 ht⟩
      have moved : ∀ (p1 p : Addr) (hp1 : H' p1 = none) (hp : upd H' p1 (.tup [.str "down", .str "up"]) p = none) (es : List V), es = encC (c.mul fv) → ∃ acc, upd (upd H' p1 (.tup [.str "down", .str "up"])) p (.tup es) D = some (.lst acc) ∧ acc.length < sizeLine ∧
          ∃ qs : List V, Same H (upd (upd (upd H' p1 (.tup [.str "down", .str "up"])) p (.tup es)) D (.lst (acc ++ [.ref p]))) ∧
          upd (upd (upd H' p1 (.tup [.str "down", .str "up"])) p (.tup es)) D (.lst (acc ++ [.ref p])) D = some (.lst qs) ∧ CmdsOf K (upd (upd (upd H' p1 (.tup [.str "down", .str "up"])) p (.tup es)) D (.lst (acc ++ [.ref p]))) qs ((cs.take i).map (Cmd.mul fv) ++ [c].map (Cmd.mul fv)) := fun p1 p hp1 hp es ee => by
        have s1 := same_upd (Same.refl H') hp1 (o := .tup [.str "down", .str "up"])
        have s2 := same_upd s1 hp (o := .tup es)
        refine ⟨ps, s2 _ _ hd, small_len pl, ps ++ [.ref p], same_freeU (e.trans s2) hD, upd_same, ?_⟩
        refine Paired.snoc ((pp.same s2).keep (Keep.refl _).upd1 (s2 _ _ hd)) ?_
        refine CmdAt.keep (Keep.refl _).upd1 (s2 _ _ hd) ⟨p, rfl, ?_⟩
        rw [← ee]
        exact SqT.of upd_same
      cases c with
      | down n =>
        have o1 : 1 ≤ n := okc
        have o2 : n ≤ 10 ^ 30 := smc
        refine ⟨_, rfl, t, _, 0, _, rfl, rfl, ht, rfl, (by show 2 ≤ sizeLine; decide), fun p1 hp1 => ?_⟩
        have s1 := same_upd (Same.refl H') hp1 (o := .tup [.str "down", .str "up"])
        refine ⟨p1, _, rfl, .inr (SqT.of upd_same), rfl, rfl, true, by decide +kernel, iteT ?_⟩
        refine ⟨_, rfl, t, _, 0, _, rfl, rfl, seq_t s1 ht, rfl, _, rfl, t, _, 1, _, rfl, rfl, seq_t s1 ht, rfl, _, rfl, _, _, rfl, rfl, wide_mul (a := 100) (b := 100) (by omega) (by omega) (by decide) (by decide) (by decide), (by show 2 ≤ sizeLine; decide), fun p hp => ?_⟩
        exact moved p1 p hp1 hp _ rfl
      | up n =>
        have o1 : 1 ≤ n := okc
        have o2 : n ≤ 10 ^ 30 := smc
        refine ⟨_, rfl, t, _, 0, _, rfl, rfl, ht, rfl, (by show 2 ≤ sizeLine; decide), fun p1 hp1 => ?_⟩
        have s1 := same_upd (Same.refl H') hp1 (o := .tup [.str "down", .str "up"])
        refine ⟨p1, _, rfl, .inr (SqT.of upd_same), rfl, rfl, true, by decide +kernel, iteT ?_⟩
        refine ⟨_, rfl, t, _, 0, _, rfl, rfl, seq_t s1 ht, rfl, _, rfl, t, _, 1, _, rfl, rfl, seq_t s1 ht, rfl, _, rfl, _, _, rfl, rfl, wide_mul (a := 100) (b := 100) (by omega) (by omega) (by decide) (by decide) (by decide), (by show 2 ≤ sizeLine; decide), fun p hp => ?_⟩
        exact moved p1 p hp1 hp _ rfl
      | right n =>
        refine ⟨_, rfl, t, _, 0, _, rfl, rfl, ht, rfl, (by show 2 ≤ sizeLine; decide), fun p1 hp1 => ?_⟩
        refine ⟨p1, _, rfl, .inr (SqT.of upd_same), rfl, rfl, false, by decide +kernel, iteF ?_⟩
        exact ⟨_, rfl, stay p1 hp1 rfl⟩
      | left n =>
        refine ⟨_, rfl, t, _, 0, _, rfl, rfl, ht, rfl, (by show 2 ≤ sizeLine; decide), fun p1 hp1 => ?_⟩
        refine ⟨p1, _, rfl, .inr (SqT.of upd_same), rfl, rfl, false, by decide +kernel, iteF ?_⟩
        exact ⟨_, rfl, stay p1 hp1 rfl⟩
      | home =>
        refine ⟨_, rfl, t, _, 0, _, rfl, rfl, ht, rfl, (by show 2 ≤ sizeLine; decide), fun p1 hp1 => ?_⟩
        refine ⟨p1, _, rfl, .inr (SqT.of upd_same), rfl, rfl, false, by decide +kernel, iteF ?_⟩
        exact ⟨_, rfl, stay p1 hp1 rfl⟩
      | stop =>
        refine ⟨_, rfl, t, _, 0, _, rfl, rfl, ht, rfl, (by show 2 ≤ sizeLine; decide), fun p1 hp1 => ?_⟩
        refine ⟨p1, _, rfl, .inr (SqT.of upd_same), rfl, rfl, false, by decide +kernel, iteF ?_⟩
        exact ⟨_, rfl, stay p1 hp1 rfl⟩
    obtain ⟨ps, e, hd, pp⟩ := h
    rw [hcs.len, List.take_length] at pp
    exact k H21 D ps e hD hd pp
end
end Gc

/-! forms of lists whose rows are scaled -/
namespace Gc
open PySem L2
abbrev s_farR : Stmt := top 40
structure TxtFR (mg : Str → Option Value) : Prop where
  tuple : mg "tuple" = none
theorem pieces_move {H G : Hp} {x : Addr} (tup : ∀ b ys, H b = some (.tup ys) → G b = some (.tup ys)) (lst : ∀ a ys, a ≠ x → H a = some (.lst ys) → G a = some (.lst ys)) : ∀ {us : List (Addr × Option Addr)} {ps : List Piece}, (∀ u ∈ us, ∀ a, u.2 = some a → a ≠ x) → Paired (PieceAt H) us ps → Paired (PieceAt G) us ps
  | _, _, _, .nil => .nil
  | _, _, hn, .cons q t => .cons (q.mono tup fun a ys e z => lst a ys (hn _ List.mem_cons_self a e) z) (pieces_move tup lst (fun u hu => hn u (List.mem_cons_of_mem _ hu)) t)
@[irreducible] def zFar (K : PySem.W.Frag) : Sp := spFar K
theorem zFar_eq (K : PySem.W.Frag) : zFar K = spFar K := by unfold zFar; rfl
theorem ask_far {K : PySem.W.Frag} {H : Hp} {Q : VK} {E : XK} {l : Addr} {f : Int} {xs : List V} {cs : List Cmd} (hl : SqL K H l xs) (hc : CmdsOf K H xs cs) (ok : AllOk cs) (sm : AllSmall cs) (ln : cs.length ≤ 20) (f1 : 1 ≤ f) (f2 : f ≤ 10 ^ 29)
    (k : ∀ (H' : Hp) (p : Addr) (ys : List V), Same H H' → H p = none → H' p = some (.lst ys) → CmdsOf K H' ys (cs.map (Cmd.mul f)) → Q (.ref p) H') : zFar K [.ref l, .int f] H Q E := by
  rw [zFar_eq]
  exact ⟨l, f, xs, cs, rfl, hl, hc, ok, sm, ln, f1, f2, k⟩
theorem mul_okS {F : Int} (hF : 1 ≤ F) {cs : List Cmd} (h : AllOk cs) : AllOk (cs.map (Cmd.mul F)) := by
  intro c hc
  obtain ⟨d, hd, rfl⟩ := List.mem_map.mp hc
  have o := h d hd
  have m : ∀ n : Int, 1 ≤ n → 1 ≤ n * F := fun n hn => by
    have := Int.mul_le_mul hn hF (by decide) (by omega)
    omega
  cases d with
  | down n => exact m n o
  | up n => exact m n o
  | right n => exact o
  | left n => exact o
  | home => exact o
  | stop => exact o
def spFarR (K : PySem.W.Frag) : Sp := fun vs H Q _ => ∃ (H0 : Hp) (l f : Addr) (F : Int) (xs : List V) (cs : List Cmd), vs = [.ref l, .ref f, .int F] ∧ SqL K H l xs ∧ CmdsOf K H xs cs ∧ AllOk cs ∧ AllSmall cs ∧ cs.length ≤ 20 ∧ FormAt H0 H f cs ∧ 1 ≤ F ∧ F ≤ 10 ^ 29 ∧ ∀ H', Same H H' → Q (.bl true) H'
@[irreducible] def zFarR (K : PySem.W.Frag) : Sp := spFarR K
theorem zFarR_eq (K : PySem.W.Frag) : zFarR K = spFarR K := by unfold zFarR; rfl
section
variable {P : Program} {w : World} {K : PySem.W.Frag} {mg : Str → Option Value} {base : Heap}
theorem sc_law_far_right : FnScope ["steps", "told", "factor", "pieces_v", "first", "start", "some", "offset", "more"] ["steps", "told", "factor"] (defScope s_farR) := ⟨rfl, rfl, rfl, by decide +kernel, rfl, by decide +kernel, by decide +kernel⟩
theorem ok_farR {f : Addr} {fd : FuncData} (F : Fun K "_law_far_right" "_law_far_right" s_farR f fd) (T : TxtFR mg) (c_form : Cal P w K mg base 5 "form" (zForm K)) (c_law_far : Cal P w K mg base 1 "_law_far" (zFar K)) : FnOk P w K mg base CX0 6 f fd ["steps", "told", "factor"] (spFarR K) := by
  refine F.ok sc_law_far_right (fun vs H Q E h => ?_) (fun cdv A outer s H vs Q E hr h => ?_)
  · obtain ⟨H0, l, f, fa, xs, cs, rfl, _⟩ := h
    rfl
  · obtain ⟨H0, l, f, fa, xs, cs, rfl, hl, hcs, ok, sm, ln, Fo, f1, f2, k⟩ := h
    refine ⟨_, (pss_cons (ps_set (i := 3) sc_law_far_right.nd rfl (Or.inl rfl) (pe_lst pa_nil))
      (pss_cons (ps_for PassesOwn.never rfl (pi_list (pe_ix ix_tup (pv 1) pe_int (fun _ _ => rfl))) (pg_tup rfl (pgs_cons (pg_name (i := 4) sc_law_far_right.nd rfl (Or.inl rfl)) (pgs_cons (pg_name (i := 5) sc_law_far_right.nd rfl (Or.inl rfl)) (pgs_cons (pg_name (i := 6) sc_law_far_right.nd rfl (Or.inl rfl)) pgs_nil)))) (pss_one (ps_expr (pe_bm PySem.F.plainAttrs_list PySem.F.slot_list_append PySem.F.type_list_append mt_append (pv 3) (pa_cons (pe_tup (pa_cons (pv 4) (pa_cons (pv 5) (pa_cons (pe_ifExp (pt_cmpR op_isN (pv 6) pe_non (nomark _)) (pv 6) (pe_lc (own := [("offset", 7), ("more", 8)]) rfl sc_law_far_right.nd (pi_list (pv 6)) (blkOk_by (N := ["steps", "told", "factor", "pieces_v", "first", "start", "some", "offset", "more"]) (sc := defScope s_farR) (by decide +kernel)) (fun _ _ _ _ _ => (show PG _ _ (gTup K 2 _) from pg_tup rfl (pgs_cons (pg_name (i := 7) sc_law_far_right.nd rfl (Or.inl rfl)) (pgs_cons (pg_name (i := 8) sc_law_far_right.nd rfl (Or.inl rfl)) pgs_nil)))) (fun _ _ _ _ _ => pts_nil) (fun _ _ _ _ _ => (pe_tup (pa_cons (pe_op op_mulW (pv 7) (pv 2)) (pa_cons (pv 8) pa_nil)))))) pa_nil)))) pa_nil)))))
      (pss_one (ps_ret (pe_cmpR (op_eqD hr.units) (pe_cal c_form hr (by decide) (by rfl) (pa_cons (pe_cal c_law_far hr (by decide) (by rfl) (pa_cons (pv 0) (pa_cons (pv 2) pa_nil))) pa_nil)) (pe_tup (pa_cons (pe_callTy call_tuple_of (by rfl) T.tuple (by decide +kernel) (pa_cons (pe_lc (own := [("offset", 7)]) rfl sc_law_far_right.nd (pi_tup (pe_ix ix_tup (pv 1) pe_int (fun _ _ => rfl))) (blkOk_by (N := ["steps", "told", "factor", "pieces_v", "first", "start", "some", "offset", "more"]) (sc := defScope s_farR) (by decide +kernel)) (fun _ _ _ _ _ => (pg_name (i := 7) sc_law_far_right.nd rfl (Or.inl rfl))) (fun _ _ _ _ _ => pts_nil) (fun _ _ _ _ _ => (pe_op op_mulW (pv 7) (pv 2)))) pa_nil)) (pa_cons (pv 3) pa_nil))) (nomark _)))))), ?_⟩
    obtain ⟨sp, m, is, h1, h2, Fd, _⟩ := Fo
    have il : is.length = (formM cs).length := Paired.length Fd.its
    obtain ⟨fb, fl⟩ := form_bnd (M := 10 ^ 30) (V := 2) (by decide) (by decide) (small_nb ok sm)
    have hla : (rchM cs).2.2 = last cs := (rch_within cs).2
    have sg := rch_bnd (V := 2) (by decide) (cs := cs) fun c hc => by
      have := (sm c hc).2
      omega
    have e29 : (10 : Int) ^ 29 = 100000000000000000000000000000 := by decide
    have mulW : ∀ x : Int, -1000 ≤ x → x ≤ 1000 → CMulW x fa := fun x a b => wide_mul (a := 100) (b := 100) (by omega) (by omega) (by decide) (by decide) (by decide)
    refine ⟨Nat.zero_le _, fun Pl nP => ?_⟩
    have e0 : Same H (upd H Pl (.lst [])) := new_same nP
    refine ⟨_, rfl, f, _, 1, _, rfl, rfl, SqT.of (e0 _ _ h1), rfl, m, rfl, ⟨_, SqL.of (e0 _ _ Fd.lst)⟩, for_list (K := K) (a := m) (xs := is.map fun i => V.ref i.1) (fun i σ H' => ∃ (v4 v5 v6 : Option V) (us : List (Addr × Option Addr)), σ = [some (.ref l), some (.ref f), some (.int fa), some (.ref Pl), v4, v5, v6, none, none] ∧ Same H H' ∧ H' Pl = some (.lst (us.map fun i => V.ref i.1)) ∧
        Paired (PieceAt H') us (((formM cs).take i).map (scaleP fa)) ∧ ∀ u ∈ us, ∀ x, u.2 = some x → x ≠ Pl)
      ⟨none, none, none, [], rfl, e0, upd_same, .nil, fun _ z => (nomatch z)⟩ (fun i σ H' _ ⟨_, _, _, _, _, e, _⟩ => SqL.of (e _ _ Fd.lst)) (fun i x σ H' hx h => ?_) (fun σ H' h => ?_)⟩
    · obtain ⟨v4, v5, v6, us, rfl, e, hP, hus, hne⟩ := h
      rw [List.getElem?_map] at hx
      cases ej : is[i]? with
      | none =>
        rw [ej] at hx
        cases hx
      | some j =>
        rw [ej] at hx
        obtain rfl := Option.some.inj hx
        obtain ⟨p, hp, pa0⟩ := paired_at Fd.its ej
        have pa := pa0.same e
        obtain ⟨pf1, pf2, pst, plb⟩ := fb p (List.mem_of_getElem? hp)
        obtain ⟨pf, st, ol⟩ := p
        have li := (List.getElem?_eq_some_iff.mp hp).1
        have ul : us.length = i := by
          have := Paired.length hus
          rw [List.length_map, List.length_take] at this
          omega
        refine ⟨j.1, _, rfl, SqT.of pa.1, rfl, _, _, rfl, _, _, rfl, _, _, rfl, rfl, ?_⟩
        have fin : ∀ (H2 : Hp) (t : Addr) (lo : Option Addr), Same H' H2 → H2 t = none → LinesAt H2 lo (ol.map (mulK fa)) → (∀ x, lo = some x → x ≠ Pl) →
            Same H (upd (upd H2 t (.tup [.int pf, optW st, refO lo])) Pl (.lst ((us.map fun i => V.ref i.1) ++ [.ref t]))) ∧ (upd (upd H2 t (.tup [.int pf, optW st, refO lo])) Pl (.lst ((us.map fun i => V.ref i.1) ++ [.ref t]))) Pl = some (.lst ((us ++ [(t, lo)]).map fun i => V.ref i.1)) ∧
            Paired (PieceAt (upd (upd H2 t (.tup [.int pf, optW st, refO lo])) Pl (.lst ((us.map fun i => V.ref i.1) ++ [.ref t])))) (us ++ [(t, lo)]) (((formM cs).take (i + 1)).map (scaleP fa)) ∧ ∀ u ∈ us ++ [(t, lo)], ∀ x, u.2 = some x → x ≠ Pl := fun H2 t lo e2 nt hlo hx => by
          have e3 := new_same (o := .tup [.int pf, optW st, refO lo]) nt
          have e4 := e2.trans e3
          have hP4 := e4 _ _ hP
          generalize hH3 : upd H2 t (.tup [.int pf, optW st, refO lo]) = H3 at e3 e4 hP4 ⊢
          have ht3 : H3 t = some (.tup [.int pf, optW st, refO lo]) := by rw [← hH3]; exact upd_same
          have tupP : ∀ b ys, H3 b = some (.tup ys) → (upd H3 Pl (.lst ((us.map fun i => V.ref i.1) ++ [.ref t]))) b = some (.tup ys) := fun b ys z => by
            rw [upd_ne (ne_of z hP4 (by intro y; cases y))]
            exact z
          have lstP : ∀ a ys, a ≠ Pl → H3 a = some (.lst ys) → (upd H3 Pl (.lst ((us.map fun i => V.ref i.1) ++ [.ref t]))) a = some (.lst ys) := fun a ys n z => by
            rw [upd_ne n]
            exact z
          refine ⟨same_freeU (e.trans e4) nP, by rw [upd_same, List.map_append]; rfl, ?_, fun u hu x ex => ?_⟩
          · rw [takeS hp, List.map_append]
            refine paired_app ?_ (.cons ⟨tupP _ _ ht3, hlo.mono (fun b ys z => tupP _ _ (e3 _ _ z)) fun a ys ea z => lstP _ _ (hx a ea) (e3 _ _ z)⟩ .nil)
            exact pieces_move tupP lstP hne (Paired.mapP hus fun u q z => z.same e4)
          · rcases List.mem_append.mp hu with z | z
            · exact hne u z x ex
            · rw [List.mem_singleton.mp z] at ex
              exact hx x ex
        have small : (us.map fun i => V.ref i.1).length < sizeLine := lt_line (by rw [List.length_map]; omega)
        cases ol with
        | none =>
          have jn : j.2 = none := by
            cases z : j.2 with
            | none => rfl
            | some _ =>
              have q := pa.2
              rw [z] at q
              exact q.elim
          rw [jn]
          refine ⟨_, rfl, .inl ⟨rfl, _, SqL.of hP⟩, _, rfl, _, rfl, _, rfl, rfl, true, by rfl, iteT ⟨_, rfl, (by show 3 ≤ sizeLine; decide), fun t nt => ?_⟩⟩
          refine ⟨Pl, _, .ref t, rfl, rfl, (new_same nt) _ _ hP, small, ?_⟩
          exact ⟨_, _, _, us ++ [(t, none)], rfl, fin H' t none (Same.refl _) nt trivial fun x z => nomatch z⟩
        | some L =>
          obtain ⟨lp, jn⟩ : ∃ lp, j.2 = some lp := by
            cases z : j.2 with
            | none =>
              have q := pa.2
              rw [z] at q
              exact q.elim
            | some lp => exact ⟨lp, rfl⟩
          have hL := pa.2
          rw [jn] at hL ⊢
          obtain ⟨ts, hlp, hts⟩ := hL
          have tl : ts.length = L.length := Paired.length hts
          obtain ⟨Ln, Lb⟩ := plb L rfl
          refine ⟨_, rfl, .inl ⟨rfl, _, SqL.of hP⟩, _, rfl, _, rfl, _, rfl, rfl, false, by rfl, iteF ⟨_, rfl, lp, rfl, ⟨_, SqL.of hlp⟩, fun D hD => ?_⟩⟩
          have DP : D ≠ Pl := fun z => by
            rw [z, hP] at hD
            cases hD
          refine lc_list (K := K) (a := lp) (xs := ts.map V.ref) (fun q H2 => ∃ ws : List Addr, Same H' H2 ∧ H2 D = some (.lst (ws.map V.ref)) ∧ PairsAt H2 ws ((L.take q).map fun q => (q.1 * fa, q.2))) ⟨[], same_upd (Same.refl H') hD, upd_same, .nil⟩ (fun q H2 _ ⟨_, e, _⟩ => SqL.of (e _ _ hlp)) (fun q x H2 hq h => ?_) (fun H2 h => ?_)
          · obtain ⟨ws, e2, eD, hws⟩ := h
            rw [List.getElem?_map] at hq
            cases ei : ts[q]? with
            | none =>
              rw [ei] at hq
              cases hq
            | some ti =>
              rw [ei] at hq
              obtain rfl := Option.some.inj hq
              obtain ⟨y, hy, hti⟩ := paired_at hts ei
              have lq := (List.getElem?_eq_some_iff.mp hy).1
              have yb := Lb y (List.mem_of_getElem? hy)
              have wl : ws.length = q := by
                have := Paired.length hws
                rw [List.length_map, List.length_take] at this
                omega
              refine ⟨ti, _, rfl, SqT.of (e2 _ _ hti), rfl, _, _, rfl, _, _, rfl, rfl, rfl, ?_⟩
              refine ⟨_, rfl, _, rfl, _, _, rfl, rfl, mulW y.1 (by omega) (by omega), _, rfl, (by show 2 ≤ sizeLine; decide), fun u nu => ?_⟩
              have e3 : Same H2 (upd H2 u (.tup [.int (y.1 * fa), .int y.2])) := new_same nu
              have uD : u ≠ D := fun z => by
                rw [z, eD] at nu
                cases nu
              refine ⟨_, e3 _ _ eD, lt_line (by rw [List.length_map]; omega), ws ++ [u], same_freeU (e2.trans e3) hD, by rw [upd_same, List.map_append]; rfl, ?_⟩
              rw [takeS hy, List.map_append]
              refine paired_app (Paired.mapP hws fun t y z => ?_) (.cons ?_ .nil)
              · have z2 := e3 _ _ z
                rw [upd_ne (ne_of z2 (e3 _ _ eD) (by intro y; cases y))]
                exact z2
              · show upd _ D _ u = _
                rw [upd_ne uD]
                exact upd_same
          · obtain ⟨ws, e2, eD, hws⟩ := h
            rw [List.length_map, tl, List.take_length] at hws
            refine ⟨(by show 3 ≤ sizeLine; decide), fun t nt => ?_⟩
            refine ⟨Pl, _, .ref t, rfl, rfl, (new_same nt) _ _ (e2 _ _ hP), small, ?_⟩
            exact ⟨_, _, _, us ++ [(t, some D)], rfl, fin H2 t (some D) e2 nt ⟨ws, eD, hws⟩ fun x z => by cases z; exact DP⟩
    · obtain ⟨v4, v5, v6, us, rfl, e, hP, hus, hne⟩ := h
      rw [List.length_map, il, List.take_length] at hus
      refine ⟨_, rfl, _, rfl, ask_far (e.seq hl) (hcs.same e) ok sm ln f1 f2 fun H2 p2 ys e2 n2 hp2 hys => ?_⟩
      refine ask_form (SqL.of hp2) hys (mul_okS f1 ok) (by rw [List.length_map]; omega) fun H3 fp e3 Fp => ?_
      have e03 := (e.trans e2).trans e3
      refine ⟨_, rfl, f, _, 0, _, rfl, rfl, SqT.of (e03 _ _ h1), rfl, sp, rfl, ⟨_, SqT.of (e03 _ _ h2)⟩, fun D hD => ?_⟩
      refine lc_tup (K := K) (a := sp) (xs := [.int (rchM cs).1, .int (rchM cs).2.1, .int (last cs)]) (fun i H' => Same H3 H' ∧ H' D = some (.lst ((([(rchM cs).1, (rchM cs).2.1, last cs].take i).map (· * fa)).map V.int))) ⟨same_upd (Same.refl H3) hD, upd_same⟩ (fun i H' _ ⟨e, _⟩ => SqT.of (e _ _ (e03 _ _ h2))) (fun i x H' hi h => ?_) (fun H' h => ?_)
      · obtain ⟨e4, eD⟩ := h
        have hi' : ([(rchM cs).1, (rchM cs).2.1, last cs].map V.int)[i]? = some x := hi
        rw [List.getElem?_map] at hi'
        cases ez : [(rchM cs).1, (rchM cs).2.1, last cs][i]? with
        | none =>
          rw [ez] at hi'
          cases hi'
        | some z =>
          rw [ez] at hi'
          obtain rfl := Option.some.inj hi'
          have zm := List.mem_of_getElem? ez
          have zb : -1000 ≤ z ∧ z ≤ 1000 := by
            rcases List.mem_cons.mp zm with rfl | zm
            · omega
            rcases List.mem_cons.mp zm with rfl | zm
            · omega
            rw [List.mem_singleton.mp zm]
            omega
          have li := (List.getElem?_eq_some_iff.mp ez).1
          refine ⟨rfl, _, rfl, _, rfl, _, _, rfl, rfl, mulW z zb.1 zb.2, _, eD, lt_line (by rw [List.length_map, List.length_map, List.length_take]; simp only [List.length_cons, List.length_nil]; omega), same_freeU e4 hD, ?_⟩
          rw [upd_same, takeS ez, List.map_append, List.map_append]
          rfl
      · obtain ⟨e4, eD⟩ := h
        refine ⟨D, _, rfl, .inl ⟨SqL.of eD, fun tp ntp => ?_⟩⟩
        have e5 := new_same (o := HO.tup ((([(rchM cs).1, (rchM cs).2.1, last cs].take 3).map (· * fa)).map V.int)) ntp
        refine ⟨_, rfl, (by show 2 ≤ sizeLine; decide), fun tt ntt => ?_⟩
        have e6 := new_same (o := HO.tup [.ref tp, .ref Pl]) ntt
        have e36 := e4.trans (e5.trans e6)
        have eAll := e2.trans (e3.trans e36)
        refine ⟨formOf (cs.map (Cmd.mul fa)), formD ((rchM cs).1 * fa, (rchM cs).2.1 * fa, (rchM cs).2.2 * fa) ((formM cs).map (scaleP fa)), (Fp.same e36).dp, ?_, shaped_form _ _, shaped_form _ _, ?_⟩
        · rw [hla]
          exact .tup (SqT.of upd_same) (.cons (.tup (SqT.of (e6 _ _ upd_same)) (.cons (.int _) (.cons (.int _) (.cons (.int _) .nil)))) (.cons (.lst (SqL.of (eAll _ _ hP)) (pieces_dp (Paired.mapP hus fun u q z => z.same eAll))) .nil))
        · rw [show PyData.eqv (formOf (cs.map (Cmd.mul fa))) (formD ((rchM cs).1 * fa, (rchM cs).2.1 * fa, (rchM cs).2.2 * fa) ((formM cs).map (scaleP fa))) = true by
            unfold formOf
            rw [eqv_form]
            exact decide_eq_true ⟨rch_scale f1 cs, form_scale f1 ok⟩]
          exact k _ ((e.trans eAll))
end
end Gc

/-! long lists read back -/
namespace Gc
open PySem L2
abbrev s_readR : Stmt := top 41
structure TxtRR (mg : Str → Option Value) : Prop where
  len : mg "len" = none
  range : mg "range" = none
structure CalG (P : Program) (w : World) (K : PySem.W.Frag) (mg : Str → Option Value) (base : Heap) (k : Nat) (x : Str) (sp : Sp) : Prop where
  ex : ∃ (f : Addr) (fd : FuncData) (ps : List Str), FnG P w K mg base k f fd ps sp ∧ mg x = some (.ref f) ∧ PySem.W.keepIn K (.ref f) = true ∧ Binds K fd ps []
theorem FnG.mono {P : Program} {w : World} {K : PySem.W.Frag} {mg : Str → Option Value} {base : Heap} {j k : Nat} {f : Addr} {fd : FuncData} {ps : List Str} {sp : Sp} (F : FnG P w K mg base j f fd ps sp) (h : j ≤ k) : FnG P w K mg base k f fd ps sp :=
  ⟨F.len, fun A outer s H args us vs Q E hg hr => F.run A outer s H args us vs Q E hg (hr.mono h)⟩
theorem pe_calG {X : Cx} {k j : Nat} {x : Str} {sp : Sp} {p pos : Pos} {e : Expr} {es : List Expr} {t : TA} (c : CalG X.prog X.w X.K X.mg X.base k x sp) (hg0 : X.A.guards = some []) (hr : Room j X.A) (hk : k ≤ j) (hg : Gl X x) (ha : PA X (e :: es) t)
    (hdb : (x == ("__debug__" : Str)) = false := by decide) (he : starEach (e :: es) X.env = (false, eval e X.env) :: starEach es X.env := by rfl) (hpl : (backTo pos (starEach es X.env)).any (·.1) = false := by rfl) :
    PE X (.Call (.Name x p) (e :: es) [] pos) (tCall sp [] E0 t) := by
  obtain ⟨f, fd, ps, F, hm, kp, b⟩ := c.ex
  exact pe_callG F hg0 (hr.mono hk) hg hm kp b ha hdb he hpl
theorem ask_pright {K : PySem.W.Frag} {H0 H : Hp} {Q : VK} {E : XK} {r l m : Addr} {n i : Nat} {xs : List V} {cs : List Cmd} {is : List (Addr × Option Addr)} (rg : Rng H r n) (hn : n < 2 ^ 38) (h0 : ∃ o, H0 r = some o) (hl : H l = some (.lst xs)) (lr : l ≠ r) (hc : CmdsOf K H xs cs) (ok : AllOk cs) (sm : AllSmall cs)
    (ln : cs.length ≤ 300) (Fd : FoundAt H0 H m is (formM cs)) (li : i < (formM cs).length) (k : ∀ H', Keep r r H H' → Rng H' r (n + 4) → Q (.bl true) H') : zPRight K [.ref r, .ref l, .ref m, .int (i : Nat)] H Q E := by
  rw [zPRight_eq]
  exact ⟨H0, r, l, m, n, i, xs, cs, is, rfl, rg, hn, h0, hl, lr, hc, ok, sm, ln, Fd, li, k⟩
theorem ite_neR {d : PyData} {A B : Prop} (e : PyData.eqv d d = true) (h : B) : if (!PyData.eqv d d) = true then A else B := by
  rw [e]
  exact iteF h
def spReadR (K : PySem.W.Frag) : Sp := fun vs H Q _ => ∃ (r : Addr) (n : Nat), vs = [.ref r] ∧ Rng H r n ∧ n < 2 ^ 36 ∧ ∀ H', Q (.bl true) H'
@[irreducible] def zReadR (K : PySem.W.Frag) : Sp := spReadR K
theorem zReadR_eq (K : PySem.W.Frag) : zReadR K = spReadR K := by unfold zReadR; rfl
theorem lit1 : formM [.down (10 ^ 29), .left 1] = [(1, some 1, some [(10 ^ 29, 1)])] := by
  have l : last [.down (10 ^ 29), .left 1] = 10 ^ 29 := by decide
  have q : req [] (10 ^ 29) (0 + 1) = [((10 : Int) ^ 29, (1 : Int))] := by decide
  unfold formM
  rw [l]
  show goP [.left 1, .down (10 ^ 29)] (10 ^ 29) 0 1 [] [] = _
  simp only [goP]
  rw [q]
  unfold sortP
  rw [List.mergeSort_singleton]
  rfl
theorem rch1 : rchM [.down (10 ^ 29), .left 1] = (0, 10 ^ 29, 10 ^ 29) := by decide
theorem lit2 : formM [.up 2, .home] = [(1, none, none)] := rfl
theorem rch2 : rchM [.up 2, .home] = (-2, 0, -2) := by decide
section
variable {P : Program} {w : World} {K : PySem.W.Frag} {mg : Str → Option Value} {base : Heap}
theorem sc_law_read_right : FnScope ["rng", "steps", "told", "spot"] ["rng"] (defScope s_readR) := ⟨rfl, rfl, rfl, by decide +kernel, rfl, by decide +kernel, by decide +kernel⟩
theorem ok_readR {f : Addr} {fd : FuncData} (F : Fun K "_law_read_right" "_law_read_right" s_readR f fd) (T : TxtRR mg) (c_law_read : Cal P w K mg base 4 "_law_read" (spLRead K)) (c_form : Cal P w K mg base 5 "form" (zForm K)) (c_law_spread : Cal P w K mg base 1 "_law_spread" (spSpread K))
    (c_law_piece_right : CalG P w K mg base 6 "_law_piece_right" (zPRight K)) : FnG P w K mg base 7 f fd ["rng"] (spReadR K) := by
  refine okG F sc_law_read_right (fun vs H Q E h => ?_) (fun cdv A outer s H vs Q E hg hr h => ?_)
  · obtain ⟨r, n, rfl, _⟩ := h
    rfl
  · obtain ⟨r, n, rfl, rg, hn, k⟩ := h
    refine ⟨_, (pss_cons (ps_set (i := 1) sc_law_read_right.nd rfl (Or.inl rfl) (pe_cal c_law_read hr (by decide) (by rfl) (pa_cons (pv 0) (pa_cons pe_int (pa_cons pe_int (pa_cons pe_int pa_nil))))))
      (pss_cons (ps_set (i := 2) sc_law_read_right.nd rfl (Or.inl rfl) (pe_cal c_form hr (by decide) (by rfl) (pa_cons (pv 1) pa_nil)))
      (pss_cons (ps_for PassesOwn.never rfl (pi_range1 rfl T.range (pa_cons (pe_callB call_len_seq (by rfl) T.len (by decide +kernel) (pa_cons (pe_ix ix_tup (pv 2) pe_int (fun _ _ => rfl)) pa_nil)) pa_nil)) (pg_name (i := 3) sc_law_read_right.nd rfl (Or.inl rfl)) (pss_one (ps_if (PW.pt (pw_or (pt_cmpR (op_neD hr.units) (pe_ix ix_tup (pv 2) pe_int (fun _ _ => rfl)) (pe_cal c_law_spread hr (by decide) (by rfl) (pa_cons (pv 1) pa_nil)) (nomark _)) (pw_or1 (pt_not (pt_val (pe_calG c_law_piece_right hg hr (by decide) (by rfl) (pa_cons (pv 0) (pa_cons (pv 1) (pa_cons (pe_ix ix_tup (pv 2) pe_int (fun _ _ => rfl)) (pa_cons (pv 3) pa_nil)))))))))) (pss_one (ps_ret pe_bl)) pss_nil)))
      (pss_cons (ps_if (pt_cmpR (op_neD hr.units) (pe_cal c_form hr (by decide) (by rfl) (pa_cons (pe_lst (pa_cons (pe_tup (pa_cons pe_str (pa_cons (pe_op op_pow pe_int pe_int) pa_nil))) (pa_cons (pe_tup (pa_cons pe_str (pa_cons pe_int pa_nil))) pa_nil))) pa_nil)) (pe_tup (pa_cons (pe_tup (pa_cons pe_int (pa_cons (pe_op op_pow pe_int pe_int) (pa_cons (pe_op op_pow pe_int pe_int) pa_nil)))) (pa_cons (pe_lst (pa_cons (pe_tup (pa_cons pe_int (pa_cons pe_int (pa_cons (pe_lst (pa_cons (pe_tup (pa_cons (pe_op op_pow pe_int pe_int) (pa_cons pe_int pa_nil))) pa_nil)) pa_nil)))) pa_nil)) pa_nil))) (nomark _)) (pss_one (ps_ret pe_bl)) pss_nil)
      (pss_one (ps_ret (pe_cmpR (op_eqD hr.units) (pe_cal c_form hr (by decide) (by rfl) (pa_cons (pe_lst (pa_cons (pe_tup (pa_cons pe_str (pa_cons pe_int pa_nil))) (pa_cons (pe_tup (pa_cons pe_str pa_nil)) pa_nil))) pa_nil)) (pe_tup (pa_cons (pe_tup (pa_cons (pe_un un_neg pe_int) (pa_cons pe_int (pa_cons (pe_un un_neg pe_int) pa_nil)))) (pa_cons (pe_lst (pa_cons (pe_tup (pa_cons pe_int (pa_cons pe_non (pa_cons pe_non pa_nil)))) pa_nil)) pa_nil))) (nomark _)))))))), ?_⟩
    refine ⟨_, rfl, r, n, 15, 20, 40, rfl, rg, by omega, by decide, by decide, by decide, by decide, by decide, fun H1 l xs cs kp1 rg1 lr hl hcs ok sm ln => ?_⟩
    have hr0 : ∃ o, H1 r = some o := by
      obtain ⟨_, _, _, z, _⟩ := rg1
      exact ⟨_, z⟩
    refine ⟨_, rfl, ask_form (SqL.of hl) hcs ok (by omega) fun H2 fo e2 Fo => ?_⟩
    obtain ⟨sp, m, is, h1, h2, Fd, _⟩ := Fo
    have il : is.length = (formM cs).length := Paired.length Fd.its
    have hla : (rchM cs).2.2 = last cs := (rch_within cs).2
    have fl := (form_bnd (M := 10 ^ 30) (V := 2) (by decide) (by decide) (small_nb ok sm)).2
    refine ⟨_, rfl, fo, _, 1, _, rfl, rfl, SqT.of h1, rfl, m, _, rfl, .inl (SqL.of Fd.lst), _, rfl, by omega, by rw [List.length_map]; omega, ?_⟩
    refine for_range (lo := 0) (fun i σ H' => ∃ v3 : Option V, σ = [some (.ref r), some (.ref l), some (.ref fo), v3] ∧ Rng H' r (n + 2000 + 4 * i) ∧ H' l = some (.lst xs) ∧ CmdsOf K H' xs cs ∧ FoundAt H1 H' m is (formM cs) ∧ H' fo = some (.tup [.ref sp, .ref m]) ∧ H' sp = some (.tup [.int (rchM cs).1, .int (rchM cs).2.1, .int (last cs)]))
      ⟨none, rfl, (rg1.same e2).more (by omega), e2 _ _ hl, hcs.same e2, Fd, h1, h2⟩ (fun i σ H3 hi h => ?_) (fun σ H3 h => ?_)
    · obtain ⟨v3, rfl, rg3, hl3, hcs3, Fd3, hf3, hs3⟩ := h
      have hi' : i < (formM cs).length := by
        rw [List.length_map] at hi
        omega
      refine ⟨_, rfl, fo, _, 0, _, rfl, rfl, SqT.of hf3, rfl, _, rfl, l, xs, cs, rfl, SqL.of hl3, hcs3, fun H4 sq e4 hsq => ?_⟩
      refine ⟨reachD (rchM cs), reachD (rchM cs), ?_, ?_, shaped_reach _, shaped_reach _, _, rfl, ite_neR (by rw [eqv_reach]; exact decide_eq_true rfl) ?_⟩
      · exact .tup (SqT.of (e4 _ _ hs3)) (.cons (.int _) (.cons (.int _) (.cons (by rw [hla]; exact .int _) .nil)))
      · exact .tup (SqT.of hsq) (.cons (.int _) (.cons (.int _) (.cons (by rw [hla]; exact .int _) .nil)))
      have rg4 := rg3.same e4
      have hf4 := e4 _ _ hf3
      have hs4 := e4 _ _ hs3
      refine ⟨_, rfl, _, rfl, _, rfl, fo, _, 1, _, rfl, rfl, SqT.of hf4, rfl, _, rfl, ?_⟩
      refine ask_pright rg4 (by omega) hr0 (e4 _ _ hl3) lr (hcs3.same e4) ok sm (by omega) (Fd3.same e4) (Nat.lt_of_le_of_lt (Nat.le_of_eq (Nat.zero_add i)) hi') fun H5 kp5 rg5 => ⟨_, rfl, iteF ?_⟩
      exact ⟨_, rfl, rg5.more (by omega), kp5 _ _ lr lr (e4 _ _ hl3), rg4.cmds kp5 (hcs3.same e4), found_keep kp5 rg4 hr0 (Fd3.same e4), rg4.tupK kp5 _ _ hf4, rg4.tupK kp5 _ _ hs4⟩
    · obtain ⟨v3, rfl, rg3, hl3, hcs3, Fd3, hf3, hs3⟩ := h
      have ok1 : AllOk [.down (10 ^ 29), .left 1] := fun c hc => by
        rcases List.mem_cons.mp hc with rfl | hc
        · show (1 : Int) ≤ 10 ^ 29; decide
        · rw [List.mem_singleton.mp hc]; show (1 : Int) ≤ 1; decide
      have ok2 : AllOk [.up 2, .home] := fun c hc => by
        rcases List.mem_cons.mp hc with rfl | hc
        · show (1 : Int) ≤ 2; decide
        · rw [List.mem_singleton.mp hc]; trivial
      refine ⟨_, _, rfl, rfl, cpow (by decide), (by show 2 ≤ sizeLine; decide), fun t1 n1 => ?_⟩
      have e_H4 : Same H3 (upd H3 t1 (.tup [.str "down", .int (10 ^ (29 : Int).toNat)])) := new_same n1
      have h_t1 : (upd H3 t1 (.tup [.str "down", .int (10 ^ (29 : Int).toNat)])) t1 = some (.tup [.str "down", .int (10 ^ (29 : Int).toNat)]) := upd_same
      generalize upd H3 t1 (.tup [.str "down", .int (10 ^ (29 : Int).toNat)]) = H4 at e_H4 h_t1 ⊢
      refine ⟨(by show 2 ≤ sizeLine; decide), fun t2 n2 => ?_⟩
      have e_H5 : Same H4 (upd H4 t2 (.tup [.str "left", .int 1])) := new_same n2
      have h_t2 : (upd H4 t2 (.tup [.str "left", .int 1])) t2 = some (.tup [.str "left", .int 1]) := upd_same
      generalize upd H4 t2 (.tup [.str "left", .int 1]) = H5 at e_H5 h_t2 ⊢
      replace h_t1 := e_H5 _ _ h_t1
      refine ⟨(by show 2 ≤ sizeLine; decide), fun t3 n3 => ?_⟩
      have e_H6 : Same H5 (upd H5 t3 (.lst [.ref t1, .ref t2])) := new_same n3
      have h_t3 : (upd H5 t3 (.lst [.ref t1, .ref t2])) t3 = some (.lst [.ref t1, .ref t2]) := upd_same
      generalize upd H5 t3 (.lst [.ref t1, .ref t2]) = H6 at e_H6 h_t3 ⊢
      replace h_t1 := e_H6 _ _ h_t1
      replace h_t2 := e_H6 _ _ h_t2
      have q1 : CmdsOf K H6 [.ref t1, .ref t2] [.down (10 ^ 29), .left 1] := .cons ⟨t1, rfl, SqT.of h_t1⟩ (.cons ⟨t2, rfl, SqT.of h_t2⟩ .nil)
      refine ask_form (SqL.of h_t3) q1 ok1 (by decide) fun H7 f7 e7 F7 => ?_
      refine ⟨_, _, rfl, rfl, cpow (by decide), _, _, rfl, rfl, cpow (by decide), (by show 3 ≤ sizeLine; decide), fun a1 m1 => ?_⟩
      have e_H8 : Same H7 (upd H7 a1 (.tup [.int 0, .int (10 ^ (29 : Int).toNat), .int (10 ^ (29 : Int).toNat)])) := new_same m1
      have h_a1 : (upd H7 a1 (.tup [.int 0, .int (10 ^ (29 : Int).toNat), .int (10 ^ (29 : Int).toNat)])) a1 = some (.tup [.int 0, .int (10 ^ (29 : Int).toNat), .int (10 ^ (29 : Int).toNat)]) := upd_same
      generalize upd H7 a1 (.tup [.int 0, .int (10 ^ (29 : Int).toNat), .int (10 ^ (29 : Int).toNat)]) = H8 at e_H8 h_a1 ⊢
      replace F7 := F7.same e_H8
      refine ⟨_, _, rfl, rfl, cpow (by decide), (by show 2 ≤ sizeLine; decide), fun a2 m2 => ?_⟩
      have e_H9 : Same H8 (upd H8 a2 (.tup [.int (10 ^ (29 : Int).toNat), .int 1])) := new_same m2
      have h_a2 : (upd H8 a2 (.tup [.int (10 ^ (29 : Int).toNat), .int 1])) a2 = some (.tup [.int (10 ^ (29 : Int).toNat), .int 1]) := upd_same
      generalize upd H8 a2 (.tup [.int (10 ^ (29 : Int).toNat), .int 1]) = H9 at e_H9 h_a2 ⊢
      replace F7 := F7.same e_H9
      replace h_a1 := e_H9 _ _ h_a1
      refine ⟨(by show 1 ≤ sizeLine; decide), fun a3 m3 => ?_⟩
      have e_H10 : Same H9 (upd H9 a3 (.lst [.ref a2])) := new_same m3
      have h_a3 : (upd H9 a3 (.lst [.ref a2])) a3 = some (.lst [.ref a2]) := upd_same
      generalize upd H9 a3 (.lst [.ref a2]) = H10 at e_H10 h_a3 ⊢
      replace F7 := F7.same e_H10
      replace h_a1 := e_H10 _ _ h_a1
      replace h_a2 := e_H10 _ _ h_a2
      refine ⟨(by show 3 ≤ sizeLine; decide), fun a4 m4 => ?_⟩
      have e_H11 : Same H10 (upd H10 a4 (.tup [.int 1, .int 1, .ref a3])) := new_same m4
      have h_a4 : (upd H10 a4 (.tup [.int 1, .int 1, .ref a3])) a4 = some (.tup [.int 1, .int 1, .ref a3]) := upd_same
      generalize upd H10 a4 (.tup [.int 1, .int 1, .ref a3]) = H11 at e_H11 h_a4 ⊢
      replace F7 := F7.same e_H11
      replace h_a1 := e_H11 _ _ h_a1
      replace h_a2 := e_H11 _ _ h_a2
      replace h_a3 := e_H11 _ _ h_a3
      refine ⟨(by show 1 ≤ sizeLine; decide), fun a5 m5 => ?_⟩
      have e_H12 : Same H11 (upd H11 a5 (.lst [.ref a4])) := new_same m5
      have h_a5 : (upd H11 a5 (.lst [.ref a4])) a5 = some (.lst [.ref a4]) := upd_same
      generalize upd H11 a5 (.lst [.ref a4]) = H12 at e_H12 h_a5 ⊢
      replace F7 := F7.same e_H12
      replace h_a1 := e_H12 _ _ h_a1
      replace h_a2 := e_H12 _ _ h_a2
      replace h_a3 := e_H12 _ _ h_a3
      replace h_a4 := e_H12 _ _ h_a4
      refine ⟨(by show 2 ≤ sizeLine; decide), fun a6 m6 => ?_⟩
      have e_H13 : Same H12 (upd H12 a6 (.tup [.ref a1, .ref a5])) := new_same m6
      have h_a6 : (upd H12 a6 (.tup [.ref a1, .ref a5])) a6 = some (.tup [.ref a1, .ref a5]) := upd_same
      generalize upd H12 a6 (.tup [.ref a1, .ref a5]) = H13 at e_H13 h_a6 ⊢
      replace F7 := F7.same e_H13
      replace h_a1 := e_H13 _ _ h_a1
      replace h_a2 := e_H13 _ _ h_a2
      replace h_a3 := e_H13 _ _ h_a3
      replace h_a4 := e_H13 _ _ h_a4
      replace h_a5 := e_H13 _ _ h_a5
      refine ⟨formOf [.down (10 ^ 29), .left 1], formD (0, 10 ^ 29, 10 ^ 29) [(1, some 1, some [(10 ^ 29, 1)])], F7.dp, ?_, shaped_form _ _, shaped_form _ _, _, rfl, ?_⟩
      · exact .tup (SqT.of h_a6) (.cons (.tup (SqT.of h_a1) (.cons (.int _) (.cons (.int _) (.cons (.int _) .nil)))) (.cons (.lst (SqL.of h_a5) (.cons (.tup (SqT.of h_a4) (.cons (.int _) (.cons (.int _) (.cons (.lst (SqL.of h_a3) (.cons (.tup (SqT.of h_a2) (.cons (.int _) (.cons (.int _) .nil))) .nil)) .nil)))) .nil)) .nil))
      rw [show PyData.eqv (formOf [.down (10 ^ 29), .left 1]) (formD (0, 10 ^ 29, 10 ^ 29) [(1, some 1, some [(10 ^ 29, 1)])]) = true by
        unfold formOf
        rw [eqv_form]
        exact decide_eq_true ⟨rch1, lit1⟩]
      refine iteF ?_
      refine ⟨(by show 2 ≤ sizeLine; decide), fun b1 p1 => ?_⟩
      have e_H14 : Same H13 (upd H13 b1 (.tup [.str "up", .int 2])) := new_same p1
      have h_b1 : (upd H13 b1 (.tup [.str "up", .int 2])) b1 = some (.tup [.str "up", .int 2]) := upd_same
      generalize upd H13 b1 (.tup [.str "up", .int 2]) = H14 at e_H14 h_b1 ⊢
      refine ⟨(by show 1 ≤ sizeLine; decide), fun b2 p2 => ?_⟩
      have e_H15 : Same H14 (upd H14 b2 (.tup [.str "home"])) := new_same p2
      have h_b2 : (upd H14 b2 (.tup [.str "home"])) b2 = some (.tup [.str "home"]) := upd_same
      generalize upd H14 b2 (.tup [.str "home"]) = H15 at e_H15 h_b2 ⊢
      replace h_b1 := e_H15 _ _ h_b1
      refine ⟨(by show 2 ≤ sizeLine; decide), fun b3 p3 => ?_⟩
      have e_H16 : Same H15 (upd H15 b3 (.lst [.ref b1, .ref b2])) := new_same p3
      have h_b3 : (upd H15 b3 (.lst [.ref b1, .ref b2])) b3 = some (.lst [.ref b1, .ref b2]) := upd_same
      generalize upd H15 b3 (.lst [.ref b1, .ref b2]) = H16 at e_H16 h_b3 ⊢
      replace h_b1 := e_H16 _ _ h_b1
      replace h_b2 := e_H16 _ _ h_b2
      have q2 : CmdsOf K H16 [.ref b1, .ref b2] [.up 2, .home] := .cons ⟨b1, rfl, SqT.of h_b1⟩ (.cons ⟨b2, rfl, SqT.of h_b2⟩ .nil)
      refine ask_form (SqL.of h_b3) q2 ok2 (by decide) fun H17 f17 e17 F17 => ?_
      refine ⟨_, rfl, _, rfl, (by show 3 ≤ sizeLine; decide), fun c1 u1 => ?_⟩
      have e_H18 : Same H17 (upd H17 c1 (.tup [.int (-2), .int 0, .int (-2)])) := new_same u1
      have h_c1 : (upd H17 c1 (.tup [.int (-2), .int 0, .int (-2)])) c1 = some (.tup [.int (-2), .int 0, .int (-2)]) := upd_same
      generalize upd H17 c1 (.tup [.int (-2), .int 0, .int (-2)]) = H18 at e_H18 h_c1 ⊢
      replace F17 := F17.same e_H18
      refine ⟨(by show 3 ≤ sizeLine; decide), fun c2 u2 => ?_⟩
      have e_H19 : Same H18 (upd H18 c2 (.tup [.int 1, .non, .non])) := new_same u2
      have h_c2 : (upd H18 c2 (.tup [.int 1, .non, .non])) c2 = some (.tup [.int 1, .non, .non]) := upd_same
      generalize upd H18 c2 (.tup [.int 1, .non, .non]) = H19 at e_H19 h_c2 ⊢
      replace F17 := F17.same e_H19
      replace h_c1 := e_H19 _ _ h_c1
      refine ⟨(by show 1 ≤ sizeLine; decide), fun c3 u3 => ?_⟩
      have e_H20 : Same H19 (upd H19 c3 (.lst [.ref c2])) := new_same u3
      have h_c3 : (upd H19 c3 (.lst [.ref c2])) c3 = some (.lst [.ref c2]) := upd_same
      generalize upd H19 c3 (.lst [.ref c2]) = H20 at e_H20 h_c3 ⊢
      replace F17 := F17.same e_H20
      replace h_c1 := e_H20 _ _ h_c1
      replace h_c2 := e_H20 _ _ h_c2
      refine ⟨(by show 2 ≤ sizeLine; decide), fun c4 u4 => ?_⟩
      have e_H21 : Same H20 (upd H20 c4 (.tup [.ref c1, .ref c3])) := new_same u4
      have h_c4 : (upd H20 c4 (.tup [.ref c1, .ref c3])) c4 = some (.tup [.ref c1, .ref c3]) := upd_same
      generalize upd H20 c4 (.tup [.ref c1, .ref c3]) = H21 at e_H21 h_c4 ⊢
      replace F17 := F17.same e_H21
      replace h_c1 := e_H21 _ _ h_c1
      replace h_c2 := e_H21 _ _ h_c2
      replace h_c3 := e_H21 _ _ h_c3
      refine ⟨formOf [.up 2, .home], formD (-2, 0, -2) [(1, none, none)], F17.dp, ?_, shaped_form _ _, shaped_form _ _, ?_⟩
      · exact .tup (SqT.of h_c4) (.cons (.tup (SqT.of h_c1) (.cons (.int _) (.cons (.int _) (.cons (.int _) .nil)))) (.cons (.lst (SqL.of h_c3) (.cons (.tup (SqT.of h_c2) (.cons (.int _) (.cons .non (.cons .non .nil)))) .nil)) .nil))
      rw [show PyData.eqv (formOf [.up 2, .home]) (formD (-2, 0, -2) [(1, none, none)]) = true by
        unfold formOf
        rw [eqv_form]
        exact decide_eq_true ⟨rch2, lit2⟩]
      exact k _
end
end Gc

namespace Gc
open PySem L2
abbrev s_law : Stmt := top 42
def spLaw (K : PySem.W.Frag) : Sp := fun vs H Q _ => ∃ (a : Addr) (ns : List Int), vs = [.ref a] ∧ SqL K H a (ns.map V.int) ∧ ns.length ≤ 63 ∧ ∀ H', Q (.bl true) H'
structure TxtL (mg : Str → Option Value) : Prop where
  repr : mg "repr" = none
  isinstance : mg "isinstance" = none
  tuple : mg "tuple" = none
  list : mg "list" = none
  len : mg "len" = none
  min : mg "min" = none
  range : mg "range" = none
  enumerate : mg "enumerate" = none
theorem csml_small {cs : List Cmd} (ok : AllOk cs) (h : AllSmall cs) : ∀ c ∈ cs, CSml c := fun c hc => by
  have a := (h c hc).1
  have o := ok c hc
  cases c with
  | down n =>
    have a' : n ≤ 10 ^ 30 := a
    have o' : 1 ≤ n := o
    show n.natAbs < 2 ^ 120
    omega
  | up n =>
    have a' : n ≤ 10 ^ 30 := a
    have o' : 1 ≤ n := o
    show n.natAbs < 2 ^ 120
    omega
  | right n =>
    have a' : n ≤ 10 ^ 30 := a
    have o' : 1 ≤ n := o
    show n.natAbs < 2 ^ 120
    omega
  | left n =>
    have a' : n ≤ 10 ^ 30 := a
    have o' : 1 ≤ n := o
    show n.natAbs < 2 ^ 120
    omega
  | home => trivial
  | stop => trivial
theorem cmds_show {cs : List Cmd} (ok : AllOk cs) (sm : AllSmall cs) (ln : cs.length ≤ 20) : ShowOk (.list (cs.map cmdD)) := cmds_ok (csml_small ok sm) (by omega)
theorem rch_show {cs : List Cmd} (sm : AllSmall cs) (ln : cs.length ≤ 20) : ShowOk (reachD (rchM cs)) := by
  have r := rch_bnd (V := 2) (by decide) (small_dv sm)
  have s : ∀ x : Int, -(20 * 2) ≤ x → x ≤ 20 * 2 → Sml x := fun x h1 h2 => by
    unfold Sml
    have : (2 : Nat) ^ 120 = 1329227995784915872903807060280344576 := by decide
    omega
  have s1 := s (rchM cs).1 (by omega) (by omega)
  have s2 := s (rchM cs).2.1 (by omega) (by omega)
  have s3 := s (rchM cs).2.2 (by rw [(rch_within cs).2]; omega) (by rw [(rch_within cs).2]; omega)
  have w1 := sml_weight s1
  have w2 := sml_weight s2
  have w3 := sml_weight s3
  refine show_ok (ok0_tup (ok0_cons (ok0_int s1) (ok0_cons (ok0_int s2) (ok0_cons (ok0_int s3) ok0_nil)))) ?_ ?_
  · simp only [reachD, PyData.weight, PyData.weightAll] at w1 w2 w3 ⊢
    omega
  · simp [reachD, PyData.depth, PyData.depthAll]
theorem rng_updR {H : Hp} {r D : Addr} {n : Nat} {o : HO} (h : Rng H r n) (d : D ≠ r) : Rng (upd H D o) r n := by
  obtain ⟨g, s, c, h1, h2⟩ := h
  exact ⟨g, s, c, by rw [upd_ne (Ne.symm d)]; exact h1, h2⟩
theorem atI_lastO {zs : List V} {v : V} (h : zs.getLast? = some v) : atI zs (-1) = some v := by
  obtain ⟨ys, rfl⟩ := List.getLast?_eq_some_iff.mp h
  exact atI_last _ _
/-- a form as it stands, its parts told -/
structure TA (H0 H : Hp) (fo sp m : Addr) (is : List (Addr × Option Addr)) (cs : List Cmd) : Prop where
  f : H fo = some (.tup [.ref sp, .ref m])
  s : H sp = some (.tup [.int (rchM cs).1, .int (rchM cs).2.1, .int (last cs)])
  Fd : FoundAt H0 H m is (formM cs)
  n1 : H0 fo = none
  n2 : H0 sp = none
theorem TA.same {H0 H H' : Hp} {fo sp m : Addr} {is : List (Addr × Option Addr)} {cs : List Cmd} (e : Same H H') (h : TA H0 H fo sp m is cs) : TA H0 H' fo sp m is cs := ⟨e _ _ h.f, e _ _ h.s, h.Fd.same e, h.n1, h.n2⟩
theorem TA.keep {H0 H H' : Hp} {r fo sp m : Addr} {n : Nat} {is : List (Addr × Option Addr)} {cs : List Cmd} (kp : Keep r r H H') (rg : Rng H r n) (h0 : ∃ o, H0 r = some o) (h : TA H0 H fo sp m is cs) : TA H0 H' fo sp m is cs := ⟨rg.tupK kp _ _ h.f, rg.tupK kp _ _ h.s, found_keep kp rg h0 h.Fd, h.n1, h.n2⟩
theorem TA.form {H0 H : Hp} {fo sp m : Addr} {is : List (Addr × Option Addr)} {cs : List Cmd} (h : TA H0 H fo sp m is cs) : FormAt H0 H fo cs := ⟨sp, m, is, h.f, h.s, h.Fd, h.n1, h.n2⟩
theorem ask_farR {K : PySem.W.Frag} {H0 H : Hp} {Q : VK} {E : XK} {l f : Addr} {F : Int} {xs : List V} {cs : List Cmd} (hl : SqL K H l xs) (hc : CmdsOf K H xs cs) (ok : AllOk cs) (sm : AllSmall cs) (ln : cs.length ≤ 20) (Fo : FormAt H0 H f cs) (f1 : 1 ≤ F) (f2 : F ≤ 10 ^ 29) (k : ∀ H', Same H H' → Q (.bl true) H') : zFarR K [.ref l, .ref f, .int F] H Q E := by
  rw [zFarR_eq]
  exact ⟨H0, l, f, F, xs, cs, rfl, hl, hc, ok, sm, ln, Fo, f1, f2, k⟩
theorem ask_readR {K : PySem.W.Frag} {H : Hp} {Q : VK} {E : XK} {r : Addr} {n : Nat} (rg : Rng H r n) (hn : n < 2 ^ 36) (k : ∀ H', Q (.bl true) H') : zReadR K [.ref r] H Q E := by
  rw [zReadR_eq]
  exact ⟨r, n, rfl, rg, hn, k⟩
theorem nodup_at : ∀ {is : List (Addr × Option Addr)} {k k' : Nat} {j j' : Addr × Option Addr} {x : Addr}, (is.filterMap (·.2)).Nodup → is[k]? = some j → is[k']? = some j' → j.2 = some x → j'.2 = some x → k = k'
  | [], _, _, _, _, _, _, h, _, _, _ => by cases h
  | i :: is, 0, 0, _, _, _, _, _, _, _, _ => rfl
  | i :: is, 0, k' + 1, j, j', x, nd, h1, h2, e1, e2 => by
    obtain rfl := Option.some.inj h1
    rw [List.filterMap_cons, e1] at nd
    have q : x ∈ is.filterMap (·.2) := List.mem_filterMap.mpr ⟨j', List.mem_of_getElem? h2, e2⟩
    exact absurd q (List.nodup_cons.mp nd).1
  | i :: is, k + 1, 0, j, j', x, nd, h1, h2, e1, e2 => by
    obtain rfl := Option.some.inj h2
    rw [List.filterMap_cons, e2] at nd
    have q : x ∈ is.filterMap (·.2) := List.mem_filterMap.mpr ⟨j, List.mem_of_getElem? h1, e1⟩
    exact absurd q (List.nodup_cons.mp nd).1
  | i :: is, k + 1, k' + 1, j, j', x, nd, h1, h2, e1, e2 => by
    have nd' : (is.filterMap (·.2)).Nodup := by
      rw [List.filterMap_cons] at nd
      cases z : i.2 with
      | none =>
        rw [z] at nd
        exact nd
      | some y =>
        rw [z] at nd
        exact (List.nodup_cons.mp nd).2
    rw [nodup_at nd' h1 h2 e1 e2]
/-- a form whose lists of lines are being written on, piece by piece -/
structure MU (K : PySem.W.Frag) (H : Hp) (r l fo sp m : Addr) (N : Nat) (xs : List V) (cs : List Cmd) (is : List (Addr × Option Addr)) (j : Nat) : Prop where
  rg : Rng H r N
  hl : H l = some (.lst xs)
  hc : CmdsOf K H xs cs
  f : H fo = some (.tup [.ref sp, .ref m])
  ms : H m = some (.lst (is.map fun i => V.ref i.1))
  tp : ∀ (k : Nat) (i : Addr × Option Addr) (p : Piece), is[k]? = some i → (formM cs)[k]? = some p → H i.1 = some (.tup [.int p.1, optW p.2.1, refO i.2])
  ls : ∀ (k : Nat) (i : Addr × Option Addr) (x : Addr), is[k]? = some i → i.2 = some x → ∃ zs, H x = some (.lst zs) ∧ zs.length ≤ 300 + j ∧ (k < j → zs.getLast? = some (.int (k : Nat)))
theorem MU.same {K : PySem.W.Frag} {H H' : Hp} {r l fo sp m : Addr} {N : Nat} {xs : List V} {cs : List Cmd} {is : List (Addr × Option Addr)} {j : Nat} (e : Same H H') (h : MU K H r l fo sp m N xs cs is j) : MU K H' r l fo sp m N xs cs is j :=
  ⟨h.rg.same e, e _ _ h.hl, h.hc.same e, e _ _ h.f, e _ _ h.ms, fun k i p a b => e _ _ (h.tp k i p a b), fun k i x a b => by
    obtain ⟨zs, q1, q2⟩ := h.ls k i x a b
    exact ⟨zs, e _ _ q1, q2⟩⟩
theorem MU.skip {K : PySem.W.Frag} {H : Hp} {r l fo sp m : Addr} {N : Nat} {xs : List V} {cs : List Cmd} {is : List (Addr × Option Addr)} {j : Nat} {i : Addr × Option Addr} (h : MU K H r l fo sp m N xs cs is j) (hi : is[j]? = some i) (n : i.2 = none) : MU K H r l fo sp m N xs cs is (j + 1) :=
  ⟨h.rg, h.hl, h.hc, h.f, h.ms, h.tp, fun k i' x a b => by
    obtain ⟨zs, q1, q2, q3⟩ := h.ls k i' x a b
    refine ⟨zs, q1, by omega, fun lt => q3 ?_⟩
    rcases Nat.lt_or_ge k j with z | z
    · exact z
    · have e : k = j := by omega
      rw [e, hi] at a
      cases a
      rw [n] at b
      cases b⟩
theorem MU.put {K : PySem.W.Frag} {H : Hp} {r l fo sp m x : Addr} {N : Nat} {xs zs : List V} {cs : List Cmd} {is : List (Addr × Option Addr)} {j : Nat} {i : Addr × Option Addr} (h : MU K H r l fo sp m N xs cs is j) (nd : (is.filterMap (·.2)).Nodup) (il : is.length = (formM cs).length)
    (hi : is[j]? = some i) (n : i.2 = some x) (hx : H x = some (.lst zs)) (zl : zs.length ≤ 300 + j) (xr : x ≠ r) (xl : x ≠ l) (xm : x ≠ m) : MU K (upd H x (.lst (zs ++ [.int (j : Nat)]))) r l fo sp m N xs cs is (j + 1) := by
  have tup : ∀ b ys, H b = some (.tup ys) → (upd H x (.lst (zs ++ [.int (j : Nat)]))) b = some (.tup ys) := fun b ys z => by
    rw [upd_ne (ne_of z hx (by intro y; cases y))]
    exact z
  refine ⟨rng_updR h.rg xr, by rw [upd_ne (Ne.symm xl)]; exact h.hl, CmdsOf.atL hx h.hc, tup _ _ h.f, by rw [upd_ne (Ne.symm xm)]; exact h.ms, fun k i' p a b => tup _ _ (h.tp k i' p a b), fun k i' y a b => ?_⟩
  by_cases e : k = j
  · subst e
    rw [hi] at a
    cases a
    rw [n] at b
    cases b
    exact ⟨_, upd_same, by rw [List.length_append, List.length_singleton]; omega, fun _ => List.getLast?_concat⟩
  · obtain ⟨ws, q1, q2, q3⟩ := h.ls k i' y a b
    have yx : y ≠ x := fun z => by
      subst z
      exact e (nodup_at nd a hi b n)
    exact ⟨ws, by rw [upd_ne yx]; exact q1, by omega, fun lt => q3 (by omega)⟩
section
variable {P : Program} {w : World} {K : PySem.W.Frag} {mg : Str → Option Value} {base : Heap}
theorem sc_law : FnScope ["script", "rng", "lap", "steps", "kept", "told", "spot", "seen", "place", "piece"] ["script"] (defScope s_law) := ⟨rfl, rfl, rfl, by decide +kernel, rfl, by decide +kernel, by decide +kernel⟩
theorem ok_law {f : Addr} {fd : FuncData} (F : Fun K "law" "law" s_law f fd) (T : TxtL mg) (c_law_rng : Cal P w K mg base 1 "_law_rng" (spRng K)) (c_law_draw : Cal P w K mg base 1 "_law_draw" spDraw)
    (c_law_lots : Cal P w K mg base 3 "_law_lots" (spLots K)) (c_law_spread : Cal P w K mg base 1 "_law_spread" (spSpread K)) (c_form : Cal P w K mg base 5 "form" (zForm K)) (k_form : CalK P w K mg base 5 "form" ["commands"] (zForm K))
    (c_law_piece_right : CalG P w K mg base 6 "_law_piece_right" (zPRight K)) (c_law_far_right : Cal P w K mg base 6 "_law_far_right" (zFarR K)) (c_law_read_right : CalG P w K mg base 7 "_law_read_right" (zReadR K)) : FnG P w K mg base 8 f fd ["script"] (spLaw K) := by
  refine okG F sc_law (fun vs H Q E h => ?_) (fun cdv A outer s H vs Q E hg hr h => ?_)
  · obtain ⟨a, ns, rfl, _⟩ := h
    rfl
  · obtain ⟨a, ns, rfl, hS, hlen, k⟩ := h
    refine ⟨_, (pss_cons (ps_set (i := 1) sc_law.nd rfl (Or.inl rfl) (pe_cal c_law_rng hr (by decide) (by rfl) (pa_cons (pv 0) pa_nil)))
      (pss_cons (ps_for PassesOwn.never rfl (pi_range1 rfl T.range (pa_cons (pe_op op_add pe_int (pe_callB (call_min2 rfl) (by rfl) T.min (by decide +kernel) (pa_cons pe_int (pa_cons (pe_callB call_len_seq (by rfl) T.len (by decide +kernel) (pa_cons (pv 0) pa_nil)) pa_nil)))) pa_nil)) (pg_name (i := 2) sc_law.nd rfl (Or.inl rfl)) (pss_cons (ps_set (i := 3) sc_law.nd rfl (Or.inl rfl) (pe_cal c_law_lots hr (by decide) (by rfl) (pa_cons (pv 1) pa_nil)))
      (pss_cons (ps_par (i := 4) (j := 5) rfl sc_law.nd rfl rfl (by decide) rfl rfl (pa_cons (pe_callB (cr_reprD hg hr.units) (by rfl) T.repr (by decide +kernel) (pa_cons (pv 3) pa_nil)) (pa_cons (pe_cal c_form hr (by decide) (by rfl) (pa_cons (pv 3) pa_nil)) pa_nil)) (by rfl))
      (pss_cons (ps_if (PW.pt (pw_or (pt_not (pt_val (pe_callB call_isi (by rfl) T.isinstance (by decide +kernel) (pa_cons (pv 5) (pa_cons (pe_bltn (v := .ty "tuple") (u := .type "tuple") (by rfl) T.tuple (by decide +kernel) rfl) pa_nil))))) (pw_or1 (pt_not (pt_val (pe_callB call_isi (by rfl) T.isinstance (by decide +kernel) (pa_cons (pe_ix ix_tup (pv 5) pe_int (fun _ _ => rfl)) (pa_cons (pe_bltn (v := .ty "list") (u := .type "list") (by rfl) T.list (by decide +kernel) rfl) pa_nil)))))))) (pss_one (ps_ret pe_bl)) pss_nil)
      (pss_cons (ps_if (pt_cmpR op_ne (pe_callB (cr_reprD hg hr.units) (by rfl) T.repr (by decide +kernel) (pa_cons (pe_ix ix_tup (pv 5) pe_int (fun _ _ => rfl)) pa_nil)) (pe_callB (cr_reprD hg hr.units) (by rfl) T.repr (by decide +kernel) (pa_cons (pe_cal c_law_spread hr (by decide) (by rfl) (pa_cons (pv 3) pa_nil)) pa_nil)) (nomark _)) (pss_one (ps_ret pe_bl)) pss_nil)
      (pss_cons (ps_if (PW.pt (pw_or (pt_cmpR (op_eqD hr.units) (pe_ix ix_tup (pv 5) pe_int (fun _ _ => rfl)) (pe_lst pa_nil) (nomark _)) (pw_or1 (pt_cmpR op_ne (pe_ix ix_tup (pe_ix ix_list (pe_ix ix_tup (pv 5) pe_int (fun _ _ => rfl)) pe_int (fun _ _ => rfl)) pe_int (fun _ _ => rfl)) pe_int (nomark _))))) (pss_one (ps_ret pe_bl)) pss_nil)
      (pss_cons (ps_for PassesOwn.never rfl (pi_range1 rfl T.range (pa_cons (pe_callB call_len_seq (by rfl) T.len (by decide +kernel) (pa_cons (pe_ix ix_tup (pv 5) pe_int (fun _ _ => rfl)) pa_nil)) pa_nil)) (pg_name (i := 6) sc_law.nd rfl (Or.inl rfl)) (pss_one (ps_if (pt_not (pt_val (pe_calG c_law_piece_right hg hr (by decide) (by rfl) (pa_cons (pv 1) (pa_cons (pv 3) (pa_cons (pe_ix ix_tup (pv 5) pe_int (fun _ _ => rfl)) (pa_cons (pv 6) pa_nil))))))) (pss_one (ps_ret pe_bl)) pss_nil)))
      (pss_cons (ps_if (pt_not (pt_val (pe_cal c_law_far_right hr (by decide) (by rfl) (pa_cons (pv 3) (pa_cons (pv 5) (pa_cons (pe_ix ix_list (pe_lst (pa_cons pe_int (pa_cons pe_int (pa_cons (pe_op op_pow pe_int pe_int) pa_nil)))) (pe_cal c_law_draw hr (by decide) (by rfl) (pa_cons (pv 1) (pa_cons pe_int pa_nil))) (fun _ _ => rfl)) pa_nil)))))) (pss_one (ps_ret pe_bl)) pss_nil)
      (pss_cons (ps_set (i := 7) sc_law.nd rfl (Or.inl rfl) (pe_callB (cr_reprD hg hr.units) (by rfl) T.repr (by decide +kernel) (pa_cons (pv 5) pa_nil)))
      (pss_cons (ps_if (PW.pt (pw_or (pt_cmpR op_ne (pe_callB (cr_reprD hg hr.units) (by rfl) T.repr (by decide +kernel) (pa_cons (pe_calK k_form hr (by decide) (by rfl) (pk_cons (pv 3) pk_nil)) pa_nil)) (pv 7) (nomark _)) (pw_or1 (pt_cmpR op_ne (pe_callB (cr_reprD hg hr.units) (by rfl) T.repr (by decide +kernel) (pa_cons (pv 3) pa_nil)) (pv 4) (nomark _))))) (pss_one (ps_ret pe_bl)) pss_nil)
      (pss_cons (ps_for PassesOwn.never rfl (pi_enum (by rfl) T.enumerate (pa_cons (pe_ix ix_tup (pv 5) pe_int (fun _ _ => rfl)) pa_nil)) (pg_tup rfl (pgs_cons (pg_name (i := 8) sc_law.nd rfl (Or.inl rfl)) (pgs_cons (pg_name (i := 9) sc_law.nd rfl (Or.inl rfl)) pgs_nil))) (pss_one (ps_if (pt_cmpR op_notN (pe_ix ix_tup (pv 9) pe_int (fun _ _ => rfl)) pe_non (nomark _)) (pss_one (ps_expr (pe_bm PySem.F.plainAttrs_list PySem.F.slot_list_append PySem.F.type_list_append mt_append (pe_ix ix_tup (pv 9) pe_int (fun _ _ => rfl)) (pa_cons (pv 8) pa_nil)))) pss_nil)))
      (pss_cons (ps_if (pt_cmpR (op_neD hr.units) (pe_lc (own := [("place", 8), ("piece", 9)]) rfl sc_law.nd (pi_enum (by rfl) T.enumerate (pa_cons (pe_ix ix_tup (pv 5) pe_int (fun _ _ => rfl)) pa_nil)) (blkOk_by (N := ["script", "rng", "lap", "steps", "kept", "told", "spot", "seen", "place", "piece"]) (sc := defScope s_law) (by decide +kernel)) (fun _ _ _ _ _ => (show PG _ _ (gTup K 2 _) from pg_tup rfl (pgs_cons (pg_name (i := 8) sc_law.nd rfl (Or.inl rfl)) (pgs_cons (pg_name (i := 9) sc_law.nd rfl (Or.inl rfl)) pgs_nil)))) (fun _ _ _ _ _ => (pts_one (PW.pt (pw_and (pt_cmpR op_notN (pe_ix (show IxR _ (rIxT K) from ix_tup) (pv 9) pe_int (fun _ _ => rfl)) pe_non (nomark _)) (pw_and1 (pt_cmpR op_ne (pe_ix (show IxR _ (rIxL K) from ix_list) (pe_ix (show IxR _ (rIxT K) from ix_tup) (pv 9) pe_int (fun _ _ => rfl)) (pe_un un_neg pe_int) (fun _ _ => rfl)) (pv 8) (nomark _))))))) (fun _ _ _ _ _ => (pv 8))) (pe_lst pa_nil) (nomark _)) (pss_one (ps_ret pe_bl)) pss_nil)
      (pss_cons (ps_expr (pe_bm0 PySem.F.plainAttrs_list PySem.F.slot_list_clear PySem.F.type_list_clear mt_clear (pe_ix ix_tup (pv 5) pe_int (fun _ _ => rfl))))
      (pss_cons (ps_if (pt_cmpR op_ne (pe_callB (cr_reprD hg hr.units) (by rfl) T.repr (by decide +kernel) (pa_cons (pe_cal c_form hr (by decide) (by rfl) (pa_cons (pv 3) pa_nil)) pa_nil)) (pv 7) (nomark _)) (pss_one (ps_ret pe_bl)) pss_nil)
      (pss_cons (ps_expr (pe_bm PySem.F.plainAttrs_list PySem.F.slot_list_append PySem.F.type_list_append mt_append (pv 3) (pa_cons (pe_tup (pa_cons pe_str (pa_cons (pe_op op_add pe_int (pe_cal c_law_draw hr (by decide) (by rfl) (pa_cons (pv 1) (pa_cons pe_int pa_nil)))) pa_nil))) pa_nil)))
      (pss_one (ps_if (PW.pt (pw_and (pt_cmpR op_le (pe_callB call_len_seq (by rfl) T.len (by decide +kernel) (pa_cons (pv 3) pa_nil)) pe_int (nomark _)) (pw_and1 (pt_cmpR (op_neD hr.units) (pe_slice sl_tup (pe_ix ix_list (pe_ix ix_tup (pe_cal c_form hr (by decide) (by rfl) (pa_cons (pv 3) pa_nil)) pe_int (fun _ _ => rfl)) pe_int (fun _ _ => rfl)) po_none (po_some pe_int)) (pe_tup (pa_cons pe_int (pa_cons pe_non pa_nil))) (nomark _))))) (pss_one (ps_ret pe_bl)) pss_nil)))))))))))))))))
      (pss_one (ps_ret (pe_and (pe_calG c_law_read_right hg hr (by decide) (by rfl) (pa_cons (pv 1) pa_nil)) (pe_one (pe_cmpR (op_eqD hr.units) (pe_cal c_form hr (by decide) (by rfl) (pa_cons (pe_lst pa_nil) pa_nil)) (pe_tup (pa_cons (pe_tup (pa_cons pe_int (pa_cons pe_int (pa_cons pe_int pa_nil)))) (pa_cons (pe_lst (pa_cons (pe_tup (pa_cons pe_int (pa_cons pe_int (pa_cons (pe_lst pa_nil) pa_nil)))) pa_nil)) pa_nil))) (nomark _)))))))), ?_⟩
    refine ⟨_, rfl, a, ns, rfl, hS, hlen, fun H1 r e1 nr rg1 => ?_⟩
    refine ⟨_, rfl, a, _, rfl, .inl (e1.seq hS), _, _, rfl, _, _, rfl, rfl, _, rfl, ?_, ?_, ?_⟩
    · omega
    · omega
    refine for_range (lo := 0) (fun i σ H' => ∃ v2 v3 v4 v5 v6 v7 v8 v9 : Option V, σ = [some (.ref a), some (.ref r), v2, v3, v4, v5, v6, v7, v8, v9] ∧ Rng H' r (2000 * i)) ⟨none, none, none, none, none, none, none, none, rfl, rg1⟩ (fun i σ H2 hi h => ?_) (fun σ H2 h => ?_)
    · obtain ⟨v2, v3, v4, v5, v6, v7, v8, v9, rfl, rg2⟩ := h
      have hi' : i < 2 ^ 20 := by
        rw [List.length_map] at hi
        omega
      refine ⟨_, rfl, r, _, rfl, rg2, by omega, fun H3 l xs cs kp3 rg3 nl hl hcs ok sm ln => ?_⟩
      have lr := rg2.off nl
      have hr0 : ∃ o, H3 r = some o := by
        obtain ⟨_, _, _, z, _⟩ := rg3
        exact ⟨_, z⟩
      -- kept, told
      refine ⟨_, rfl, .ref l, _, rfl, .lst (SqL.of hl) hcs.dp, .inl ⟨l, rfl⟩, cmds_show ok sm ln, ?_⟩
      refine ⟨_, rfl, ask_form (SqL.of hl) hcs ok (by omega) fun H4 fo e4 Fo => ⟨_, _, rfl, ?_⟩⟩
      obtain ⟨sp, m, is, h1, h2, Fd, n1, n2⟩ := Fo
      have TA4 : TA H3 H4 fo sp m is cs := ⟨h1, h2, Fd, n1, n2⟩
      clear h1 h2 Fd
      have il : is.length = (formM cs).length := Paired.length TA4.Fd.its
      have hla : (rchM cs).2.2 = last cs := (rch_within cs).2
      have fl := (form_bnd (M := 10 ^ 30) (V := 2) (by decide) (by decide) (small_nb ok sm)).2
      have hl4 := e4 _ _ hl
      have hcs4 := hcs.same e4
      have rg4 := rg3.same e4
      refine ⟨_, rfl, .ref fo, .ty "tuple", .type "tuple", .type "tuple", true, rfl, .ty _, .base (.tup TA4.f), kit_ty (show kitB "tuple" "tuple" = some true by decide +kernel), ?_⟩
      refine ⟨_, rfl, iteF ?_⟩
      refine ⟨_, rfl, fo, _, 1, _, rfl, rfl, SqT.of TA4.f, rfl, .ref m, .ty "list", .type "list", .type "list", true, rfl, .ty _, .base (.lst TA4.Fd.lst), kit_ty (show kitB "list" "list" = some true by decide +kernel), _, rfl, iteF ?_⟩
      have spD : ∀ {H : Hp} {q : Addr}, H q = some (.tup [.int (rchM cs).1, .int (rchM cs).2.1, .int (last cs)]) → Dp K H (.ref q) (reachD (rchM cs)) := fun {H q} z => .tup (SqT.of z) (.cons (.int _) (.cons (.int _) (.cons (by rw [hla]; exact .int _) .nil)))
      refine ⟨_, rfl, fo, _, 0, _, rfl, rfl, SqT.of TA4.f, rfl, .ref sp, _, rfl, spD TA4.s, .inl ⟨sp, rfl⟩, rch_show sm ln, ?_⟩
      refine ⟨_, rfl, l, xs, cs, rfl, SqL.of hl4, hcs4, fun H5 sq e5 hsq => ⟨.ref sq, _, rfl, spD hsq, .inl ⟨sq, rfl⟩, rch_show sm ln, rfl, false, by simp, iteF ?_⟩⟩
      have TA5 := TA4.same e5
      have hl5 := e5 _ _ hl4
      have hcs5 := hcs4.same e5
      have rg5 := rg4.same e5
      obtain ⟨p0r, ep0⟩ := (form_rle cs).head
      refine ⟨_, rfl, fo, _, 1, _, rfl, rfl, SqT.of TA5.f, rfl, Nat.zero_le _, fun q0 nq0 => ?_⟩
      have e_H6 : Same H5 (upd H5 q0 (.lst ([] : List V))) := new_same nq0
      have h_q0 : (upd H5 q0 (.lst ([] : List V))) q0 = some (.lst ([] : List V)) := upd_same
      generalize upd H5 q0 (.lst ([] : List V)) = H6 at e_H6 h_q0 ⊢
      replace TA5 := TA5.same e_H6
      replace hl5 := e_H6 _ _ hl5
      replace hcs5 := hcs5.same e_H6
      replace rg5 := rg5.same e_H6
      refine ⟨.list ((formM cs).map pieceD), .list [], .lst (SqL.of TA5.Fd.lst) (pieces_dp TA5.Fd.its), .lst (SqL.of h_q0) .nil, shaped_pieces _, rfl, _, rfl, ?_⟩
      rw [show PyData.eqv (.list ((formM cs).map pieceD)) (.list []) = false by rw [ep0]; simp [PyData.eqv, PyData.eqvAll]]
      refine iteF ?_
      obtain ⟨j0, ej0, p0, hp0, pa0⟩ : ∃ j0, is[0]? = some j0 ∧ ∃ p0, (formM cs)[0]? = some p0 ∧ PieceAt H6 j0 p0 := by
        have l0 : 0 < is.length := by rw [il, ep0]; simp
        obtain ⟨p, hp, pa⟩ := paired_at TA5.Fd.its (List.getElem?_eq_getElem l0)
        exact ⟨_, List.getElem?_eq_getElem l0, p, hp, pa⟩
      have p01 : p0.1 = 1 := by
        rw [ep0] at hp0
        obtain rfl := Option.some.inj hp0
        rfl
      have pt0 := pa0.1
      rw [p01] at pt0
      refine ⟨_, rfl, fo, _, 1, _, rfl, rfl, SqT.of TA5.f, rfl, m, _, 0, .ref j0.1, rfl, rfl, SqL.of TA5.Fd.lst, at_of (j := 0) rfl (by rw [List.getElem?_map, ej0]; rfl), j0.1, _, 0, _, rfl, rfl, SqT.of pt0, rfl, rfl, false, by simp, iteF ?_⟩
      -- each piece
      refine ⟨_, rfl, fo, _, 1, _, rfl, rfl, SqT.of TA5.f, rfl, m, _, rfl, .inl (SqL.of TA5.Fd.lst), _, rfl, by omega, by rw [List.length_map]; omega, ?_⟩
      refine for_range (lo := 0) (fun j σ H' => ∃ v6 : Option V, σ = [some (.ref a), some (.ref r), some (.int (0 + (i : Int))), some (.ref l), some (.str (PyData.list (cs.map cmdD)).shown), some (.ref fo), v6, v7, v8, v9] ∧ Rng H' r (2000 * i + 80 + 4 * j) ∧ H' l = some (.lst xs) ∧ CmdsOf K H' xs cs ∧ TA H3 H' fo sp m is cs)
        ⟨v6, rfl, rg5.more (by omega), hl5, hcs5, TA5⟩ (fun j σ H7 hj h => ?_) (fun σ H7 h => ?_)
      · obtain ⟨v6, rfl, rg7, hl7, hcs7, TA7⟩ := h
        have hj' : j < (formM cs).length := by
          rw [List.length_map] at hj
          omega
        refine ⟨_, rfl, _, rfl, _, rfl, fo, _, 1, _, rfl, rfl, SqT.of TA7.f, rfl, _, rfl, ?_⟩
        refine ask_pright rg7 (by omega) hr0 hl7 lr hcs7 ok sm (by omega) TA7.Fd (Nat.lt_of_le_of_lt (Nat.le_of_eq (Nat.zero_add j)) hj') fun H8 kp8 rg8 => ⟨_, rfl, iteF ?_⟩
        exact ⟨_, rfl, rg8.more (by omega), kp8 _ _ lr lr hl7, rg7.cmds kp8 hcs7, TA7.keep kp8 rg7 hr0⟩
      · obtain ⟨v6, rfl, rg7, hl7, hcs7, TA7⟩ := h
        rw [List.length_map] at rg7
        replace rg7 : Rng H7 r (2000 * i + 200) := rg7.more (by omega)
        -- scaled
        refine ⟨_, rfl, _, rfl, _, _, rfl, rfl, cpow (by decide), (by show 3 ≤ sizeLine; decide), fun q nq => ?_⟩
        have qr := rg7.off nq
        have e_H8 : Same H7 (upd H7 q (.lst [V.int 3, .int 1000, .int (10 ^ (29 : Int).toNat)])) := new_same nq
        have h_q : (upd H7 q (.lst [V.int 3, .int 1000, .int (10 ^ (29 : Int).toNat)])) q = some (.lst [V.int 3, .int 1000, .int (10 ^ (29 : Int).toNat)]) := upd_same
        generalize upd H7 q (.lst [V.int 3, .int 1000, .int (10 ^ (29 : Int).toNat)]) = H8 at e_H8 h_q ⊢
        replace TA7 := TA7.same e_H8
        replace hl7 := e_H8 _ _ hl7
        replace hcs7 := hcs7.same e_H8
        replace rg7 := rg7.same e_H8
        refine ⟨_, rfl, r, _, 3, rfl, rg7, by omega, by decide, by decide, fun H9 d kp9 rg9 d0 d1 => ?_⟩
        replace TA7 := TA7.keep kp9 rg7 hr0
        replace h_q := kp9 _ _ qr qr h_q
        replace hl7 := kp9 _ _ lr lr hl7
        replace hcs7 := rg7.cmds kp9 hcs7
        obtain ⟨fa, hfa, fa0, fa1⟩ : ∃ v : Int, atI [V.int 3, .int 1000, .int (10 ^ (29 : Int).toNat)] d = some (.int v) ∧ 1 ≤ v ∧ v ≤ 10 ^ 29 := by
          rcases (show d = 0 ∨ d = 1 ∨ d = 2 by omega) with rfl | rfl | rfl
          · exact ⟨_, rfl, by decide, by decide⟩
          · exact ⟨_, rfl, by decide, by decide⟩
          · exact ⟨_, rfl, by decide, by decide⟩
        refine ⟨q, _, _, _, rfl, rfl, SqL.of h_q, hfa, ask_farR (SqL.of hl7) hcs7 ok sm ln TA7.form fa0 fa1 fun H10 e10 => ⟨_, rfl, iteF ?_⟩⟩
        replace TA7 := TA7.same e10
        replace hl7 := e10 _ _ hl7
        replace hcs7 := hcs7.same e10
        replace rg9 := rg9.same e10
        -- seen
        refine ⟨_, rfl, .ref fo, _, rfl, TA7.form.dp, .inl ⟨fo, rfl⟩, form_show ok sm ln, ?_⟩
        refine ⟨_, rfl, ask_form (SqL.of hl7) hcs7 ok (by omega) fun H11 f2 e11 F2 => ⟨.ref f2, _, rfl, F2.dp, .inl ⟨f2, rfl⟩, form_show ok sm ln, _, rfl, rfl, false, by simp, iteF ?_⟩⟩
        replace TA7 := TA7.same e11
        replace hl7 := e11 _ _ hl7
        replace hcs7 := hcs7.same e11
        replace rg9 := rg9.same e11
        refine ⟨_, rfl, .ref l, _, rfl, .lst (SqL.of hl7) hcs7.dp, .inl ⟨l, rfl⟩, cmds_show ok sm ln, _, rfl, rfl, false, by simp, iteF ?_⟩
        have off : ∀ x : Addr, H3 x = none → x ≠ r ∧ x ≠ l := fun x q => by
          refine ⟨fun e => ?_, fun e => ?_⟩
          · obtain ⟨o, z⟩ := hr0
            rw [e, z] at q
            cases q
          · rw [e, hl] at q
            cases q
        have mrl := off m TA7.Fd.m0
        have il7 := il
        have M0 : MU K H11 r l fo sp m (2000 * i + 201) xs cs is 0 := ⟨rg9, hl7, hcs7, TA7.f, TA7.Fd.lst, fun k i' p a b => by
            obtain ⟨p', hp', pa'⟩ := paired_at TA7.Fd.its a
            rw [b] at hp'
            cases hp'
            exact pa'.1, fun k i' x a b => by
            obtain ⟨p', hp', pa'⟩ := paired_at TA7.Fd.its a
            have q := pa'.2
            have pb := (form_bnd (M := 10 ^ 30) (V := 2) (by decide) (by decide) (small_nb ok sm)).1 p' (List.mem_of_getElem? hp')
            rw [b] at q
            cases e : p'.2.2 with
            | none =>
              rw [e] at q
              exact q.elim
            | some L =>
              rw [e] at q
              obtain ⟨ts, q1, q2⟩ := q
              have q3 := Paired.length q2
              have q4 := (pb.2.2.2 L e).1
              exact ⟨_, q1, by rw [List.length_map]; omega, fun z => by omega⟩⟩
        have nd := TA7.Fd.nd
        have newL : ∀ (k : Nat) (i' : Addr × Option Addr) (x : Addr), is[k]? = some i' → i'.2 = some x → x ≠ r ∧ x ≠ l ∧ x ≠ m := fun k i' x a b => by
          obtain ⟨q1, q2, _⟩ := TA7.Fd.new x (List.mem_filterMap.mpr ⟨i', List.mem_of_getElem? a, b⟩)
          exact ⟨(off x q1).1, (off x q1).2, q2⟩
        have lm := mrl.2
        refine ⟨_, rfl, fo, _, 1, _, rfl, rfl, SqT.of M0.f, rfl, m, _, rfl, SqL.of M0.ms, for_it (walk_enum (K := K) (a := m) (xs := is.map fun i => V.ref i.1)) (fun j σ H' => ∃ v6 v8 v9 : Option V, σ = [some (.ref a), some (.ref r), some (.int (0 + (i : Int))), some (.ref l), some (.str (PyData.list (cs.map cmdD)).shown), some (.ref fo), v6, some (.str (formOf cs).shown), v8, v9] ∧ MU K H' r l fo sp m (2000 * i + 201) xs cs is j)
          ⟨v6, v8, v9, rfl, M0⟩ (fun j σ H' _ ⟨_, _, _, _, h⟩ => SqL.of h.ms) (fun j x σ H12 H13 hj h y => ?_) (fun σ H12 h => ?_)⟩
        · obtain ⟨v6, v8, v9, rfl, M⟩ := h
          obtain ⟨T1, x1, y1, rfl, nT, rfl, e1, e2⟩ := y
          obtain rfl := Option.some.inj e1
          replace e2 : (is.map fun i => V.ref i.1)[j]? = some y1 := e2
          rw [List.getElem?_map] at e2
          cases ej : is[j]? with
          | none =>
            rw [ej] at e2
            cases e2
          | some jj =>
            rw [ej] at e2
            obtain rfl := Option.some.inj e2
            obtain ⟨p, hp⟩ : ∃ p, (formM cs)[j]? = some p := by
              have := (List.getElem?_eq_some_iff.mp ej).1
              exact ⟨_, List.getElem?_eq_getElem (by omega)⟩
            have M1 := M.same (new_same (o := .tup [.int (j : Nat), .ref jj.1]) nT)
            refine ⟨T1, _, rfl, SqT.of upd_same, rfl, _, _, rfl, _, _, rfl, rfl, ?_⟩
            have tj := M1.tp j jj p ej hp
            cases j2 : jj.2 with
            | none =>
              rw [j2] at tj
              refine ⟨_, rfl, jj.1, _, 2, _, rfl, rfl, SqT.of tj, rfl, rfl, false, by rfl, iteF ?_⟩
              exact ⟨_, _, _, rfl, M1.skip ej j2⟩
            | some x =>
              rw [j2] at tj
              obtain ⟨zs, hx, zl, _⟩ := M1.ls j jj x ej j2
              obtain ⟨xr, xl, xm⟩ := newL j jj x ej j2
              have jl := (List.getElem?_eq_some_iff.mp ej).1
              refine ⟨_, rfl, jj.1, _, 2, _, rfl, rfl, SqT.of tj, rfl, rfl, true, by rfl, iteT ?_⟩
              refine ⟨_, rfl, jj.1, _, 2, _, rfl, rfl, SqT.of tj, rfl, .inl ⟨rfl, _, SqL.of hx⟩, _, rfl, x, zs, _, rfl, rfl, hx, lt_line (by omega), ?_⟩
              exact ⟨_, _, _, rfl, M1.put nd il ej j2 hx zl xr xl xm⟩
        · obtain ⟨v6, v8, v9, rfl, M⟩ := h
          rw [List.length_map] at M
          refine ⟨_, rfl, fo, _, 1, _, rfl, rfl, SqT.of M.f, rfl, m, _, rfl, SqL.of M.ms, fun D hD => ?_⟩
          refine lc_it (walk_enum (K := K) (a := m) (xs := is.map fun i => V.ref i.1)) (fun q H' => MU K H' r l fo sp m (2000 * i + 201) xs cs is is.length ∧ H' D = some (.lst [])) ⟨M.same (new_same hD), upd_same⟩ (fun q H' _ h => SqL.of h.1.ms) (fun q x H13 H14 hq h y => ?_) (fun H13 h => ?_)
          · obtain ⟨Mq, eD⟩ := h
            obtain ⟨T1, x1, y1, rfl, nT, rfl, e1, e2⟩ := y
            obtain rfl := Option.some.inj e1
            replace e2 : (is.map fun i => V.ref i.1)[q]? = some y1 := e2
            rw [List.getElem?_map] at e2
            cases ej : is[q]? with
            | none =>
              rw [ej] at e2
              cases e2
            | some jj =>
              rw [ej] at e2
              obtain rfl := Option.some.inj e2
              have jl := (List.getElem?_eq_some_iff.mp ej).1
              obtain ⟨p, hp⟩ : ∃ p, (formM cs)[q]? = some p := ⟨_, List.getElem?_eq_getElem (by omega)⟩
              have eT := new_same (o := HO.tup [.int (q : Nat), .ref jj.1]) nT
              have M1 := Mq.same eT
              have eD1 := eT _ _ eD
              refine ⟨T1, _, rfl, SqT.of upd_same, rfl, _, _, rfl, _, _, rfl, rfl, rfl, ?_⟩
              have tj := M1.tp q jj p ej hp
              cases j2 : jj.2 with
              | none =>
                rw [j2] at tj
                refine ⟨_, rfl, jj.1, _, 2, _, rfl, rfl, SqT.of tj, rfl, rfl, false, by rfl, iteF ?_⟩
                exact iteF ⟨M1, eD1⟩
              | some x =>
                rw [j2] at tj
                obtain ⟨zs, hx, _, lastz⟩ := M1.ls q jj x ej j2
                refine ⟨_, rfl, jj.1, _, 2, _, rfl, rfl, SqT.of tj, rfl, rfl, true, by rfl, iteT ?_⟩
                refine ⟨_, rfl, jj.1, _, 2, _, rfl, rfl, SqT.of tj, rfl, _, rfl, x, zs, -1, _, rfl, rfl, SqL.of hx, atI_lastO (lastz jl), _, rfl, rfl, false, by simp, ?_⟩
                exact iteF ⟨M1, eD1⟩
          · obtain ⟨Mq, eD⟩ := h
            refine ⟨Nat.zero_le _, fun p0 np0 => ?_⟩
            have ep0 := new_same (o := HO.lst []) np0
            have M2 := Mq.same ep0
            refine ⟨.list [], .list [], .lst (SqL.of (ep0 _ _ eD)) .nil, .lst (SqL.of upd_same) .nil, rfl, rfl, _, rfl, ite_neR rfl ?_⟩
            generalize upd H13 p0 (.lst []) = H15 at M2 ⊢
            refine ⟨_, rfl, fo, _, 1, _, rfl, rfl, SqT.of M2.f, rfl, .inl ⟨rfl, _, SqL.of M2.ms⟩, m, _, rfl, rfl, M2.ms, ?_⟩
            have rg16 := rng_updR (o := .lst []) M2.rg mrl.1
            have hl16 : (upd H15 m (.lst [])) l = some (.lst xs) := by rw [upd_ne (Ne.symm lm)]; exact M2.hl
            have hc16 := CmdsOf.atL (zs := []) M2.ms M2.hc
            generalize upd H15 m (.lst []) = H16 at rg16 hl16 hc16 ⊢
            refine ⟨_, rfl, ask_form (SqL.of hl16) hc16 ok (by omega) fun H17 f3 e17 F3 => ⟨.ref f3, _, rfl, F3.dp, .inl ⟨f3, rfl⟩, form_show ok sm ln, _, rfl, rfl, false, by simp, iteF ?_⟩⟩
            replace hl16 := e17 _ _ hl16
            replace hc16 := hc16.same e17
            replace rg16 := rg16.same e17
            have xl16 := hc16.len
            refine ⟨_, rfl, .inl ⟨rfl, _, SqL.of hl16⟩, _, rfl, r, _, 9, rfl, rg16, by omega, by decide, by decide, fun H18 d9 kp18 rg18 d90 d91 => ⟨_, _, rfl, rfl, (by show 2 ≤ sizeLine; decide), fun t nt => ?_⟩⟩
            replace hl16 := kp18 _ _ lr lr hl16
            replace hc16 := rg16.cmds kp18 hc16
            have e_H19 : Same H18 (upd H18 t (.tup [.str "right", .int (1 + d9)])) := new_same nt
            have h_t : (upd H18 t (.tup [.str "right", .int (1 + d9)])) t = some (.tup [.str "right", .int (1 + d9)]) := upd_same
            generalize upd H18 t (.tup [.str "right", .int (1 + d9)]) = H19 at e_H19 h_t ⊢
            replace hl16 := e_H19 _ _ hl16
            replace hc16 := hc16.same e_H19
            replace rg18 := rg18.same e_H19
            refine ⟨l, xs, .ref t, rfl, rfl, hl16, lt_line (by omega), ?_⟩
            have rg20 := rng_updR (o := .lst (xs ++ [.ref t])) rg18 lr
            have hc20 : CmdsOf K (upd H19 l (.lst (xs ++ [.ref t]))) (xs ++ [.ref t]) (cs ++ [.right (1 + d9)]) := CmdsOf.app (CmdsOf.atL hl16 hc16) (CmdsOf.atL hl16 (xs := [.ref t]) (cs := [.right (1 + d9)]) (.cons ⟨t, rfl, SqT.of h_t⟩ .nil))
            have hl20 : (upd H19 l (.lst (xs ++ [.ref t]))) l = some (.lst (xs ++ [.ref t])) := upd_same
            generalize upd H19 l (.lst (xs ++ [.ref t])) = H20 at rg20 hc20 hl20 ⊢
            have okR : AllOk (cs ++ [.right (1 + d9)]) := ok_app ok fun c hc => by
              rw [List.mem_singleton.mp hc]
              show 1 ≤ 1 + d9
              omega
            refine ⟨_, rfl, l, _, rfl, .inl (SqL.of hl20), _, _, rfl, rfl, _, rfl, ite2 (fun cc => ?_) (fun cc => ?_)⟩
            · refine ⟨_, rfl, ask_form (SqL.of hl20) hc20 okR (by rw [List.length_append, List.length_singleton]; omega) fun H21 f4 e21 F4 => ?_⟩
              obtain ⟨sp4, m4, is4, g1, g2, Fd4, _⟩ := F4
              obtain ⟨ol4, r4, ef4⟩ := form_right (cs := cs) (show 1 ≤ 1 + d9 by omega)
              obtain ⟨j4, ej4, pt4⟩ : ∃ j4, is4[0]? = some j4 ∧ H21 j4.1 = some (.tup [.int 1, .non, refO j4.2]) := by
                have l0 : 0 < is4.length := by
                  rw [Paired.length Fd4.its, ef4]
                  simp
                obtain ⟨p, hp, pa⟩ := paired_at Fd4.its (List.getElem?_eq_getElem l0)
                rw [ef4] at hp
                obtain rfl := Option.some.inj hp
                exact ⟨_, List.getElem?_eq_getElem l0, pa.1⟩
              refine ⟨f4, _, 1, _, rfl, rfl, SqT.of g1, rfl, m4, _, 0, .ref j4.1, rfl, rfl, SqL.of Fd4.lst, at_of (j := 0) rfl (by rw [List.getElem?_map, ej4]; rfl), _, rfl, j4.1, _, rfl, SqT.of pt4, (by show ¬ (0 = 0 ∧ 2 = 3); decide), fun b nb => ?_⟩
              have eb : Same H21 (upd H21 b (.tup (cutV [.int 1, .non, refO j4.2] none (some 2)))) := new_same nb
              have hb : (upd H21 b (.tup (cutV [.int 1, .non, refO j4.2] none (some 2)))) b = some (.tup [.int 1, .non]) := by
                rw [upd_same]
                rfl
              generalize upd H21 b (.tup (cutV [.int 1, .non, refO j4.2] none (some 2))) = H22 at eb hb ⊢
              refine ⟨(by show 2 ≤ sizeLine; decide), fun b2 nb2 => ?_⟩
              have eb2 := new_same (o := HO.tup [.int 1, .non]) nb2
              refine ⟨.tuple [.int 1, .none], .tuple [.int 1, .none], .tup (SqT.of (eb2 _ _ hb)) (.cons (.int 1) (.cons .non .nil)), .tup (SqT.of upd_same) (.cons (.int 1) (.cons .non .nil)), rfl, rfl, _, rfl, ite_neR rfl ?_⟩
              exact ⟨_, _, _, _, _, _, _, _, rfl, ((rg20.same e21).same (eb.trans eb2)).more (by omega)⟩
            · exact ⟨_, _, _, _, _, _, _, _, rfl, rg20.more (by omega)⟩
    · obtain ⟨v2, v3, v4, v5, v6, v7, v8, v9, rfl, rg2⟩ := h
      refine ⟨_, rfl, ask_readR rg2 (by rw [List.length_map]; omega) fun H3 => ⟨_, rfl, iteT ?_⟩⟩
      refine ⟨Nat.zero_le _, fun l0 n0 => ?_⟩
      have e_H4 : Same H3 (upd H3 l0 (.lst ([] : List V))) := new_same n0
      have h_l0 : (upd H3 l0 (.lst ([] : List V))) l0 = some (.lst ([] : List V)) := upd_same
      generalize upd H3 l0 (.lst ([] : List V)) = H4 at e_H4 h_l0 ⊢
      refine ask_form (SqL.of h_l0) .nil (cs := []) (fun _ z => (nomatch z)) (Nat.zero_le _) fun H5 f5 e5 F5 => ?_
      refine ⟨(by show 3 ≤ sizeLine; decide), fun a1 m1 => ?_⟩
      have e_H6 : Same H5 (upd H5 a1 (.tup [.int 0, .int 0, .int 0])) := new_same m1
      have h_a1 : (upd H5 a1 (.tup [.int 0, .int 0, .int 0])) a1 = some (.tup [.int 0, .int 0, .int 0]) := upd_same
      generalize upd H5 a1 (.tup [.int 0, .int 0, .int 0]) = H6 at e_H6 h_a1 ⊢
      replace F5 := F5.same e_H6
      refine ⟨Nat.zero_le _, fun a2 m2 => ?_⟩
      have e_H7 : Same H6 (upd H6 a2 (.lst ([] : List V))) := new_same m2
      have h_a2 : (upd H6 a2 (.lst ([] : List V))) a2 = some (.lst ([] : List V)) := upd_same
      generalize upd H6 a2 (.lst ([] : List V)) = H7 at e_H7 h_a2 ⊢
      replace F5 := F5.same e_H7
      replace h_a1 := e_H7 _ _ h_a1
      refine ⟨(by show 3 ≤ sizeLine; decide), fun a3 m3 => ?_⟩
      have e_H8 : Same H7 (upd H7 a3 (.tup [.int 1, .int 0, .ref a2])) := new_same m3
      have h_a3 : (upd H7 a3 (.tup [.int 1, .int 0, .ref a2])) a3 = some (.tup [.int 1, .int 0, .ref a2]) := upd_same
      generalize upd H7 a3 (.tup [.int 1, .int 0, .ref a2]) = H8 at e_H8 h_a3 ⊢
      replace F5 := F5.same e_H8
      replace h_a1 := e_H8 _ _ h_a1
      replace h_a2 := e_H8 _ _ h_a2
      refine ⟨(by show 1 ≤ sizeLine; decide), fun a4 m4 => ?_⟩
      have e_H9 : Same H8 (upd H8 a4 (.lst [.ref a3])) := new_same m4
      have h_a4 : (upd H8 a4 (.lst [.ref a3])) a4 = some (.lst [.ref a3]) := upd_same
      generalize upd H8 a4 (.lst [.ref a3]) = H9 at e_H9 h_a4 ⊢
      replace F5 := F5.same e_H9
      replace h_a1 := e_H9 _ _ h_a1
      replace h_a2 := e_H9 _ _ h_a2
      replace h_a3 := e_H9 _ _ h_a3
      refine ⟨(by show 2 ≤ sizeLine; decide), fun a5 m5 => ?_⟩
      have e_H10 : Same H9 (upd H9 a5 (.tup [.ref a1, .ref a4])) := new_same m5
      have h_a5 : (upd H9 a5 (.tup [.ref a1, .ref a4])) a5 = some (.tup [.ref a1, .ref a4]) := upd_same
      generalize upd H9 a5 (.tup [.ref a1, .ref a4]) = H10 at e_H10 h_a5 ⊢
      replace F5 := F5.same e_H10
      replace h_a1 := e_H10 _ _ h_a1
      replace h_a2 := e_H10 _ _ h_a2
      replace h_a3 := e_H10 _ _ h_a3
      replace h_a4 := e_H10 _ _ h_a4
      have lit0 : formM [] = [(1, some 0, some [])] := by
        show addP [] (1, some 0, some (sortP [])) = _
        unfold sortP
        rw [List.mergeSort_nil]
        rfl
      refine ⟨formOf [], formD (0, 0, 0) [(1, some 0, some [])], F5.dp, ?_, shaped_form _ _, shaped_form _ _, ?_⟩
      · exact .tup (SqT.of h_a5) (.cons (.tup (SqT.of h_a1) (.cons (.int _) (.cons (.int _) (.cons (.int _) .nil)))) (.cons (.lst (SqL.of h_a4) (.cons (.tup (SqT.of h_a3) (.cons (.int _) (.cons (.int _) (.cons (.lst (SqL.of h_a2) .nil) .nil)))) .nil)) .nil))
      rw [show PyData.eqv (formOf []) (formD (0, 0, 0) [(1, some 0, some [])]) = true by
        unfold formOf
        rw [eqv_form]
        exact decide_eq_true ⟨rfl, lit0⟩]
      exact k _
end
end Gc

namespace Gc
open PySem L2
theorem all_mk {l : PySem.W.OpenLaw} {w : World} {K : PySem.W.Frag} {h : Heap} {mg : Str → Option Value} {fa : Addr} (X : K.In h) (G : h.Ns mainGlobals mg) (hfa : mg "law" = some (.ref fa))
    {wn wo : Addr} {odN odO : Option Addr} {nN nO : Nat} {slN slO : Array (Option Value)} {tn0 tn1 tn2 tn3 to0 to1 : Tok}
    {f_is_count : Addr} {oc_is_count kV_is_count dc_is_count pm_is_count cd_is_count ct_is_count : Value} {od_is_count an_is_count : Option Addr} {sl_is_count : Array (Option Value)}
    {f_is_command : Addr} {oc_is_command kV_is_command dc_is_command pm_is_command cd_is_command ct_is_command : Value} {od_is_command an_is_command : Option Addr} {sl_is_command : Array (Option Value)}
    {f_check_commands : Addr} {oc_check_commands kV_check_commands dc_check_commands pm_check_commands cd_check_commands ct_check_commands : Value} {od_check_commands an_check_commands : Option Addr} {sl_check_commands : Array (Option Value)}
    {f_check_number : Addr} {oc_check_number kV_check_number dc_check_number pm_check_number cd_check_number ct_check_number : Value} {od_check_number an_check_number : Option Addr} {sl_check_number : Array (Option Value)}
    {f_row_change : Addr} {oc_row_change kV_row_change dc_row_change pm_row_change cd_row_change ct_row_change : Value} {od_row_change an_row_change : Option Addr} {sl_row_change : Array (Option Value)}
    {f_reach : Addr} {oc_reach kV_reach dc_reach pm_reach cd_reach ct_reach : Value} {od_reach an_reach : Option Addr} {sl_reach : Array (Option Value)}
    {f_require : Addr} {oc_require kV_require dc_require pm_require cd_require ct_require : Value} {od_require an_require : Option Addr} {sl_require : Array (Option Value)}
    {f_box : Addr} {oc_box kV_box dc_box pm_box cd_box ct_box : Value} {od_box an_box : Option Addr} {sl_box : Array (Option Value)}
    {f_add_piece : Addr} {oc_add_piece kV_add_piece dc_add_piece pm_add_piece cd_add_piece ct_add_piece : Value} {od_add_piece an_add_piece : Option Addr} {sl_add_piece : Array (Option Value)}
    {f_pieces : Addr} {oc_pieces kV_pieces dc_pieces pm_pieces cd_pieces ct_pieces : Value} {od_pieces an_pieces : Option Addr} {sl_pieces : Array (Option Value)}
    {f_form : Addr} {oc_form kV_form dc_form pm_form cd_form ct_form : Value} {od_form an_form : Option Addr} {sl_form : Array (Option Value)}
    {f_is_number : Addr} {oc_is_number kV_is_number dc_is_number pm_is_number cd_is_number ct_is_number : Value} {od_is_number an_is_number : Option Addr} {sl_is_number : Array (Option Value)}
    {f_read_command : Addr} {oc_read_command kV_read_command dc_read_command pm_read_command cd_read_command ct_read_command : Value} {od_read_command an_read_command : Option Addr} {sl_read_command : Array (Option Value)}
    {f_read_commands : Addr} {oc_read_commands kV_read_commands dc_read_commands pm_read_commands cd_read_commands ct_read_commands : Value} {od_read_commands an_read_commands : Option Addr} {sl_read_commands : Array (Option Value)}
    {f_law_rng : Addr} {oc_law_rng kV_law_rng dc_law_rng pm_law_rng cd_law_rng ct_law_rng : Value} {od_law_rng an_law_rng : Option Addr} {sl_law_rng : Array (Option Value)}
    {f_law_draw : Addr} {oc_law_draw kV_law_draw dc_law_draw pm_law_draw cd_law_draw ct_law_draw : Value} {od_law_draw an_law_draw : Option Addr} {sl_law_draw : Array (Option Value)}
    {f_law_list : Addr} {oc_law_list kV_law_list dc_law_list pm_law_list cd_law_list ct_law_list : Value} {od_law_list an_law_list : Option Addr} {sl_law_list : Array (Option Value)}
    {f_law_lots : Addr} {oc_law_lots kV_law_lots dc_law_lots pm_law_lots cd_law_lots ct_law_lots : Value} {od_law_lots an_law_lots : Option Addr} {sl_law_lots : Array (Option Value)}
    {f_law_spread : Addr} {oc_law_spread kV_law_spread dc_law_spread pm_law_spread cd_law_spread ct_law_spread : Value} {od_law_spread an_law_spread : Option Addr} {sl_law_spread : Array (Option Value)}
    {f_law_data : Addr} {oc_law_data kV_law_data dc_law_data pm_law_data cd_law_data ct_law_data : Value} {od_law_data an_law_data : Option Addr} {sl_law_data : Array (Option Value)}
    {f_law_piece_right : Addr} {oc_law_piece_right kV_law_piece_right dc_law_piece_right pm_law_piece_right cd_law_piece_right ct_law_piece_right : Value} {od_law_piece_right an_law_piece_right : Option Addr} {sl_law_piece_right : Array (Option Value)}
    {f_law_written : Addr} {oc_law_written kV_law_written dc_law_written pm_law_written cd_law_written ct_law_written : Value} {od_law_written an_law_written : Option Addr} {sl_law_written : Array (Option Value)}
    {f_law_read : Addr} {oc_law_read kV_law_read dc_law_read pm_law_read cd_law_read ct_law_read : Value} {od_law_read an_law_read : Option Addr} {sl_law_read : Array (Option Value)}
    {f_law_far : Addr} {oc_law_far kV_law_far dc_law_far pm_law_far cd_law_far ct_law_far : Value} {od_law_far an_law_far : Option Addr} {sl_law_far : Array (Option Value)}
    {f_law_far_right : Addr} {oc_law_far_right kV_law_far_right dc_law_far_right pm_law_far_right cd_law_far_right ct_law_far_right : Value} {od_law_far_right an_law_far_right : Option Addr} {sl_law_far_right : Array (Option Value)}
    {f_law_read_right : Addr} {oc_law_read_right kV_law_read_right dc_law_read_right pm_law_read_right cd_law_read_right ct_law_read_right : Value} {od_law_read_right an_law_read_right : Option Addr} {sl_law_read_right : Array (Option Value)}
    {f_law : Addr} {oc_law kV_law dc_law pm_law cd_law ct_law : Value} {od_law an_law : Option Addr} {sl_law : Array (Option Value)}
    {na nb : Addr} {nA nB : Nat} {tm t1 t2 u1 u2 s1 s2 s3 s4 r1 r2 r3 r4 : Tok}
    (aWN : PySem.W.nsIn K mainGlobals "WITH_NUMBER" = some (some (.ref wn)))
    (aWO : PySem.W.nsIn K mainGlobals "WITHOUT_NUMBER" = some (some (.ref wo)))
    (lWN : K.lookup wn = some ⟨.type "tuple", odN, .seq #[.str "down" tn0, .str "up" tn1, .str "right" tn2, .str "left" tn3] nN, slN⟩)
    (lWO : K.lookup wo = some ⟨.type "tuple", odO, .seq #[.str "home" to0, .str "end" to1] nO, slO⟩)
    (a_is_count : PySem.W.nsIn K mainGlobals "is_count" = some (some (.ref f_is_count)))
    (l_is_count : K.lookup f_is_count = some ⟨oc_is_count, od_is_count, .func (PySem.W.fnOf "is_count" "is_count" (defArgs s_is_count) (defBody s_is_count) (defScope s_is_count) .none kV_is_count dc_is_count pm_is_count an_is_count cd_is_count ct_is_count), sl_is_count⟩)
    (c_is_count : PySem.W.codeIn K cd_is_count "is_count" = true)
    (k_is_count : PySem.W.keepIn K (.ref f_is_count) = true)
    (a_is_command : PySem.W.nsIn K mainGlobals "is_command" = some (some (.ref f_is_command)))
    (l_is_command : K.lookup f_is_command = some ⟨oc_is_command, od_is_command, .func (PySem.W.fnOf "is_command" "is_command" (defArgs s_is_command) (defBody s_is_command) (defScope s_is_command) .none kV_is_command dc_is_command pm_is_command an_is_command cd_is_command ct_is_command), sl_is_command⟩)
    (c_is_command : PySem.W.codeIn K cd_is_command "is_command" = true)
    (k_is_command : PySem.W.keepIn K (.ref f_is_command) = true)
    (a_check_commands : PySem.W.nsIn K mainGlobals "check_commands" = some (some (.ref f_check_commands)))
    (l_check_commands : K.lookup f_check_commands = some ⟨oc_check_commands, od_check_commands, .func (PySem.W.fnOf "check_commands" "check_commands" (defArgs s_check_commands) (defBody s_check_commands) (defScope s_check_commands) .none kV_check_commands dc_check_commands pm_check_commands an_check_commands cd_check_commands ct_check_commands), sl_check_commands⟩)
    (c_check_commands : PySem.W.codeIn K cd_check_commands "check_commands" = true)
    (k_check_commands : PySem.W.keepIn K (.ref f_check_commands) = true)
    (a_check_number : PySem.W.nsIn K mainGlobals "check_number" = some (some (.ref f_check_number)))
    (l_check_number : K.lookup f_check_number = some ⟨oc_check_number, od_check_number, .func (PySem.W.fnOf "check_number" "check_number" (defArgs s_check_number) (defBody s_check_number) (defScope s_check_number) .none kV_check_number dc_check_number pm_check_number an_check_number cd_check_number ct_check_number), sl_check_number⟩)
    (c_check_number : PySem.W.codeIn K cd_check_number "check_number" = true)
    (k_check_number : PySem.W.keepIn K (.ref f_check_number) = true)
    (a_row_change : PySem.W.nsIn K mainGlobals "row_change" = some (some (.ref f_row_change)))
    (l_row_change : K.lookup f_row_change = some ⟨oc_row_change, od_row_change, .func (PySem.W.fnOf "row_change" "row_change" (defArgs s_row_change) (defBody s_row_change) (defScope s_row_change) .none kV_row_change dc_row_change pm_row_change an_row_change cd_row_change ct_row_change), sl_row_change⟩)
    (c_row_change : PySem.W.codeIn K cd_row_change "row_change" = true)
    (k_row_change : PySem.W.keepIn K (.ref f_row_change) = true)
    (a_reach : PySem.W.nsIn K mainGlobals "reach" = some (some (.ref f_reach)))
    (l_reach : K.lookup f_reach = some ⟨oc_reach, od_reach, .func (PySem.W.fnOf "reach" "reach" (defArgs s_reach) (defBody s_reach) (defScope s_reach) .none kV_reach dc_reach pm_reach an_reach cd_reach ct_reach), sl_reach⟩)
    (c_reach : PySem.W.codeIn K cd_reach "reach" = true)
    (k_reach : PySem.W.keepIn K (.ref f_reach) = true)
    (a_require : PySem.W.nsIn K mainGlobals "require" = some (some (.ref f_require)))
    (l_require : K.lookup f_require = some ⟨oc_require, od_require, .func (PySem.W.fnOf "require" "require" (defArgs s_require) (defBody s_require) (defScope s_require) .none kV_require dc_require pm_require an_require cd_require ct_require), sl_require⟩)
    (c_require : PySem.W.codeIn K cd_require "require" = true)
    (k_require : PySem.W.keepIn K (.ref f_require) = true)
    (a_box : PySem.W.nsIn K mainGlobals "box" = some (some (.ref f_box)))
    (l_box : K.lookup f_box = some ⟨oc_box, od_box, .func (PySem.W.fnOf "box" "box" (defArgs s_box) (defBody s_box) (defScope s_box) .none kV_box dc_box pm_box an_box cd_box ct_box), sl_box⟩)
    (c_box : PySem.W.codeIn K cd_box "box" = true)
    (k_box : PySem.W.keepIn K (.ref f_box) = true)
    (a_add_piece : PySem.W.nsIn K mainGlobals "add_piece" = some (some (.ref f_add_piece)))
    (l_add_piece : K.lookup f_add_piece = some ⟨oc_add_piece, od_add_piece, .func (PySem.W.fnOf "add_piece" "add_piece" (defArgs s_add_piece) (defBody s_add_piece) (defScope s_add_piece) .none kV_add_piece dc_add_piece pm_add_piece an_add_piece cd_add_piece ct_add_piece), sl_add_piece⟩)
    (c_add_piece : PySem.W.codeIn K cd_add_piece "add_piece" = true)
    (k_add_piece : PySem.W.keepIn K (.ref f_add_piece) = true)
    (a_pieces : PySem.W.nsIn K mainGlobals "pieces" = some (some (.ref f_pieces)))
    (l_pieces : K.lookup f_pieces = some ⟨oc_pieces, od_pieces, .func (PySem.W.fnOf "pieces" "pieces" (defArgs s_pieces) (defBody s_pieces) (defScope s_pieces) .none kV_pieces dc_pieces pm_pieces an_pieces cd_pieces ct_pieces), sl_pieces⟩)
    (c_pieces : PySem.W.codeIn K cd_pieces "pieces" = true)
    (k_pieces : PySem.W.keepIn K (.ref f_pieces) = true)
    (a_form : PySem.W.nsIn K mainGlobals "form" = some (some (.ref f_form)))
    (l_form : K.lookup f_form = some ⟨oc_form, od_form, .func (PySem.W.fnOf "form" "form" (defArgs s_form) (defBody s_form) (defScope s_form) .none kV_form dc_form pm_form an_form cd_form ct_form), sl_form⟩)
    (c_form : PySem.W.codeIn K cd_form "form" = true)
    (k_form : PySem.W.keepIn K (.ref f_form) = true)
    (a_is_number : PySem.W.nsIn K mainGlobals "is_number" = some (some (.ref f_is_number)))
    (l_is_number : K.lookup f_is_number = some ⟨oc_is_number, od_is_number, .func (PySem.W.fnOf "is_number" "is_number" (defArgs s_is_number) (defBody s_is_number) (defScope s_is_number) .none kV_is_number dc_is_number pm_is_number an_is_number cd_is_number ct_is_number), sl_is_number⟩)
    (c_is_number : PySem.W.codeIn K cd_is_number "is_number" = true)
    (k_is_number : PySem.W.keepIn K (.ref f_is_number) = true)
    (a_read_command : PySem.W.nsIn K mainGlobals "read_command" = some (some (.ref f_read_command)))
    (l_read_command : K.lookup f_read_command = some ⟨oc_read_command, od_read_command, .func (PySem.W.fnOf "read_command" "read_command" (defArgs s_read_command) (defBody s_read_command) (defScope s_read_command) .none kV_read_command dc_read_command pm_read_command an_read_command cd_read_command ct_read_command), sl_read_command⟩)
    (c_read_command : PySem.W.codeIn K cd_read_command "read_command" = true)
    (k_read_command : PySem.W.keepIn K (.ref f_read_command) = true)
    (a_read_commands : PySem.W.nsIn K mainGlobals "read_commands" = some (some (.ref f_read_commands)))
    (l_read_commands : K.lookup f_read_commands = some ⟨oc_read_commands, od_read_commands, .func (PySem.W.fnOf "read_commands" "read_commands" (defArgs s_read_commands) (defBody s_read_commands) (defScope s_read_commands) .none kV_read_commands dc_read_commands pm_read_commands an_read_commands cd_read_commands ct_read_commands), sl_read_commands⟩)
    (c_read_commands : PySem.W.codeIn K cd_read_commands "read_commands" = true)
    (k_read_commands : PySem.W.keepIn K (.ref f_read_commands) = true)
    (a_law_rng : PySem.W.nsIn K mainGlobals "_law_rng" = some (some (.ref f_law_rng)))
    (l_law_rng : K.lookup f_law_rng = some ⟨oc_law_rng, od_law_rng, .func (PySem.W.fnOf "_law_rng" "_law_rng" (defArgs s_rng) (defBody s_rng) (defScope s_rng) .none kV_law_rng dc_law_rng pm_law_rng an_law_rng cd_law_rng ct_law_rng), sl_law_rng⟩)
    (c_law_rng : PySem.W.codeIn K cd_law_rng "_law_rng" = true)
    (k_law_rng : PySem.W.keepIn K (.ref f_law_rng) = true)
    (a_law_draw : PySem.W.nsIn K mainGlobals "_law_draw" = some (some (.ref f_law_draw)))
    (l_law_draw : K.lookup f_law_draw = some ⟨oc_law_draw, od_law_draw, .func (PySem.W.fnOf "_law_draw" "_law_draw" (defArgs s_draw) (defBody s_draw) (defScope s_draw) .none kV_law_draw dc_law_draw pm_law_draw an_law_draw cd_law_draw ct_law_draw), sl_law_draw⟩)
    (c_law_draw : PySem.W.codeIn K cd_law_draw "_law_draw" = true)
    (k_law_draw : PySem.W.keepIn K (.ref f_law_draw) = true)
    (a_law_list : PySem.W.nsIn K mainGlobals "_law_list" = some (some (.ref f_law_list)))
    (l_law_list : K.lookup f_law_list = some ⟨oc_law_list, od_law_list, .func (PySem.W.fnOf "_law_list" "_law_list" (defArgs s_list) (defBody s_list) (defScope s_list) .none kV_law_list dc_law_list pm_law_list an_law_list cd_law_list ct_law_list), sl_law_list⟩)
    (c_law_list : PySem.W.codeIn K cd_law_list "_law_list" = true)
    (k_law_list : PySem.W.keepIn K (.ref f_law_list) = true)
    (a_law_lots : PySem.W.nsIn K mainGlobals "_law_lots" = some (some (.ref f_law_lots)))
    (l_law_lots : K.lookup f_law_lots = some ⟨oc_law_lots, od_law_lots, .func (PySem.W.fnOf "_law_lots" "_law_lots" (defArgs s_lots) (defBody s_lots) (defScope s_lots) .none kV_law_lots dc_law_lots pm_law_lots an_law_lots cd_law_lots ct_law_lots), sl_law_lots⟩)
    (c_law_lots : PySem.W.codeIn K cd_law_lots "_law_lots" = true)
    (k_law_lots : PySem.W.keepIn K (.ref f_law_lots) = true)
    (a_law_spread : PySem.W.nsIn K mainGlobals "_law_spread" = some (some (.ref f_law_spread)))
    (l_law_spread : K.lookup f_law_spread = some ⟨oc_law_spread, od_law_spread, .func (PySem.W.fnOf "_law_spread" "_law_spread" (defArgs s_spread) (defBody s_spread) (defScope s_spread) .none kV_law_spread dc_law_spread pm_law_spread an_law_spread cd_law_spread ct_law_spread), sl_law_spread⟩)
    (c_law_spread : PySem.W.codeIn K cd_law_spread "_law_spread" = true)
    (k_law_spread : PySem.W.keepIn K (.ref f_law_spread) = true)
    (a_law_data : PySem.W.nsIn K mainGlobals "_law_data" = some (some (.ref f_law_data)))
    (l_law_data : K.lookup f_law_data = some ⟨oc_law_data, od_law_data, .func (PySem.W.fnOf "_law_data" "_law_data" (defArgs s_data) (defBody s_data) (defScope s_data) .none kV_law_data dc_law_data pm_law_data an_law_data cd_law_data ct_law_data), sl_law_data⟩)
    (c_law_data : PySem.W.codeIn K cd_law_data "_law_data" = true)
    (k_law_data : PySem.W.keepIn K (.ref f_law_data) = true)
    (a_law_piece_right : PySem.W.nsIn K mainGlobals "_law_piece_right" = some (some (.ref f_law_piece_right)))
    (l_law_piece_right : K.lookup f_law_piece_right = some ⟨oc_law_piece_right, od_law_piece_right, .func (PySem.W.fnOf "_law_piece_right" "_law_piece_right" (defArgs s_pright) (defBody s_pright) (defScope s_pright) .none kV_law_piece_right dc_law_piece_right pm_law_piece_right an_law_piece_right cd_law_piece_right ct_law_piece_right), sl_law_piece_right⟩)
    (c_law_piece_right : PySem.W.codeIn K cd_law_piece_right "_law_piece_right" = true)
    (k_law_piece_right : PySem.W.keepIn K (.ref f_law_piece_right) = true)
    (a_law_written : PySem.W.nsIn K mainGlobals "_law_written" = some (some (.ref f_law_written)))
    (l_law_written : K.lookup f_law_written = some ⟨oc_law_written, od_law_written, .func (PySem.W.fnOf "_law_written" "_law_written" (defArgs s_written) (defBody s_written) (defScope s_written) .none kV_law_written dc_law_written pm_law_written an_law_written cd_law_written ct_law_written), sl_law_written⟩)
    (c_law_written : PySem.W.codeIn K cd_law_written "_law_written" = true)
    (k_law_written : PySem.W.keepIn K (.ref f_law_written) = true)
    (a_law_read : PySem.W.nsIn K mainGlobals "_law_read" = some (some (.ref f_law_read)))
    (l_law_read : K.lookup f_law_read = some ⟨oc_law_read, od_law_read, .func (PySem.W.fnOf "_law_read" "_law_read" (defArgs s_lread) (defBody s_lread) (defScope s_lread) .none kV_law_read dc_law_read pm_law_read an_law_read cd_law_read ct_law_read), sl_law_read⟩)
    (c_law_read : PySem.W.codeIn K cd_law_read "_law_read" = true)
    (k_law_read : PySem.W.keepIn K (.ref f_law_read) = true)
    (a_law_far : PySem.W.nsIn K mainGlobals "_law_far" = some (some (.ref f_law_far)))
    (l_law_far : K.lookup f_law_far = some ⟨oc_law_far, od_law_far, .func (PySem.W.fnOf "_law_far" "_law_far" (defArgs s_far) (defBody s_far) (defScope s_far) .none kV_law_far dc_law_far pm_law_far an_law_far cd_law_far ct_law_far), sl_law_far⟩)
    (c_law_far : PySem.W.codeIn K cd_law_far "_law_far" = true)
    (k_law_far : PySem.W.keepIn K (.ref f_law_far) = true)
    (a_law_far_right : PySem.W.nsIn K mainGlobals "_law_far_right" = some (some (.ref f_law_far_right)))
    (l_law_far_right : K.lookup f_law_far_right = some ⟨oc_law_far_right, od_law_far_right, .func (PySem.W.fnOf "_law_far_right" "_law_far_right" (defArgs s_farR) (defBody s_farR) (defScope s_farR) .none kV_law_far_right dc_law_far_right pm_law_far_right an_law_far_right cd_law_far_right ct_law_far_right), sl_law_far_right⟩)
    (c_law_far_right : PySem.W.codeIn K cd_law_far_right "_law_far_right" = true)
    (k_law_far_right : PySem.W.keepIn K (.ref f_law_far_right) = true)
    (a_law_read_right : PySem.W.nsIn K mainGlobals "_law_read_right" = some (some (.ref f_law_read_right)))
    (l_law_read_right : K.lookup f_law_read_right = some ⟨oc_law_read_right, od_law_read_right, .func (PySem.W.fnOf "_law_read_right" "_law_read_right" (defArgs s_readR) (defBody s_readR) (defScope s_readR) .none kV_law_read_right dc_law_read_right pm_law_read_right an_law_read_right cd_law_read_right ct_law_read_right), sl_law_read_right⟩)
    (c_law_read_right : PySem.W.codeIn K cd_law_read_right "_law_read_right" = true)
    (k_law_read_right : PySem.W.keepIn K (.ref f_law_read_right) = true)
    (a_law : PySem.W.nsIn K mainGlobals "law" = some (some (.ref f_law)))
    (l_law : K.lookup f_law = some ⟨oc_law, od_law, .func (PySem.W.fnOf "law" "law" (defArgs s_law) (defBody s_law) (defScope s_law) .none kV_law dc_law pm_law an_law cd_law ct_law), sl_law⟩)
    (c_law : PySem.W.codeIn K cd_law "law" = true)
    (k_law : PySem.W.keepIn K (.ref f_law) = true)
    (z_isinstance : PySem.W.nsIn K mainGlobals "isinstance" = some none)
    (z_int : PySem.W.nsIn K mainGlobals "int" = some none)
    (z_bool : PySem.W.nsIn K mainGlobals "bool" = some none)
    (z_len : PySem.W.nsIn K mainGlobals "len" = some none)
    (z_enumerate : PySem.W.nsIn K mainGlobals "enumerate" = some none)
    (z_reversed : PySem.W.nsIn K mainGlobals "reversed" = some none)
    (z_sorted : PySem.W.nsIn K mainGlobals "sorted" = some none)
    (z_max : PySem.W.nsIn K mainGlobals "max" = some none)
    (z_min : PySem.W.nsIn K mainGlobals "min" = some none)
    (z_abs : PySem.W.nsIn K mainGlobals "abs" = some none)
    (z_range : PySem.W.nsIn K mainGlobals "range" = some none)
    (z_sum : PySem.W.nsIn K mainGlobals "sum" = some none)
    (z_repr : PySem.W.nsIn K mainGlobals "repr" = some none)
    (z_str : PySem.W.nsIn K mainGlobals "str" = some none)
    (z_all : PySem.W.nsIn K mainGlobals "all" = some none)
    (z_tuple : PySem.W.nsIn K mainGlobals "tuple" = some none)
    (z_list : PySem.W.nsIn K mainGlobals "list" = some none)
    (aNA : PySem.W.nsIn K mainGlobals "NAMES_ALONE" = some (some (.ref na)))
    (aNB : PySem.W.nsIn K mainGlobals "NAMES_BEHIND_NUMBER" = some (some (.ref nb)))
    (aMD : PySem.W.nsIn K mainGlobals "MOST_DIGITS" = some (some (.int 40 tm)))
    (lNA : K.lookup na = some ⟨.type "dict", none, .dict #[⟨PyData.keyHash w.params "H", .str "H" t1, .str "home" u1⟩, ⟨PyData.keyHash w.params "E", .str "E" t2, .str "end" u2⟩] nA, #[]⟩)
    (lNB : K.lookup nb = some ⟨.type "dict", none, .dict #[⟨PyData.keyHash w.params "D", .str "D" s1, .str "down" r1⟩, ⟨PyData.keyHash w.params "U", .str "U" s2, .str "up" r2⟩, ⟨PyData.keyHash w.params "R", .str "R" s3, .str "right" r3⟩, ⟨PyData.keyHash w.params "L", .str "L" s4, .str "left" r4⟩] nB, #[]⟩)
    (oNA : (na == sysModules) = false)
    (oNB : (nb == sysModules) = false) :
    ∃ fd : FuncData, (∀ (s : Shared) (v : Value), BindsTo s fd ⟨[v], []⟩ [("script", v)]) ∧ ∀ base : Heap, K.In base → base.Ns mainGlobals mg → FnG l.prog w K mg base 8 fa fd ["script"] (spLaw K) := by
  have e := hfa.symm.trans (PySem.W.mg_of X G a_law)
  cases e
  have F_is_count := fun_mk (st := s_is_count) l_is_count c_is_count k_is_count
  have F_is_command := fun_mk (st := s_is_command) l_is_command c_is_command k_is_command
  have F_check_commands := fun_mk (st := s_check_commands) l_check_commands c_check_commands k_check_commands
  have F_check_number := fun_mk (st := s_check_number) l_check_number c_check_number k_check_number
  have F_row_change := fun_mk (st := s_row_change) l_row_change c_row_change k_row_change
  have F_reach := fun_mk (st := s_reach) l_reach c_reach k_reach
  have F_require := fun_mk (st := s_require) l_require c_require k_require
  have F_box := fun_mk (st := s_box) l_box c_box k_box
  have F_add_piece := fun_mk (st := s_add_piece) l_add_piece c_add_piece k_add_piece
  have F_pieces := fun_mk (st := s_pieces) l_pieces c_pieces k_pieces
  have F_form := fun_mk (st := s_form) l_form c_form k_form
  have F_is_number := fun_mk (st := s_is_number) l_is_number c_is_number k_is_number
  have F_read_command := fun_mk (st := s_read_command) l_read_command c_read_command k_read_command
  have F_read_commands := fun_mk (st := s_read_commands) l_read_commands c_read_commands k_read_commands
  have F_law_rng := fun_mk (st := s_rng) l_law_rng c_law_rng k_law_rng
  have F_law_draw := fun_mk (st := s_draw) l_law_draw c_law_draw k_law_draw
  have F_law_list := fun_mk (st := s_list) l_law_list c_law_list k_law_list
  have F_law_lots := fun_mk (st := s_lots) l_law_lots c_law_lots k_law_lots
  have F_law_spread := fun_mk (st := s_spread) l_law_spread c_law_spread k_law_spread
  have F_law_data := fun_mk (st := s_data) l_law_data c_law_data k_law_data
  have F_law_piece_right := fun_mk (st := s_pright) l_law_piece_right c_law_piece_right k_law_piece_right
  have F_law_written := fun_mk (st := s_written) l_law_written c_law_written k_law_written
  have F_law_read := fun_mk (st := s_lread) l_law_read c_law_read k_law_read
  have F_law_far := fun_mk (st := s_far) l_law_far c_law_far k_law_far
  have F_law_far_right := fun_mk (st := s_farR) l_law_far_right c_law_far_right k_law_far_right
  have F_law_read_right := fun_mk (st := s_readR) l_law_read_right c_law_read_right k_law_read_right
  have F_law := fun_mk (st := s_law) l_law c_law k_law
  have b_is_count := F_is_count.binds (ps := ["number"]) fun _ _ _ _ _ _ us hl => match us, hl with | [_], _ => rfl
  have b_is_command := F_is_command.binds (ps := ["command"]) fun _ _ _ _ _ _ us hl => match us, hl with | [_], _ => rfl
  have b_check_commands := F_check_commands.binds (ps := ["commands"]) fun _ _ _ _ _ _ us hl => match us, hl with | [_], _ => rfl
  have b_check_number := F_check_number.binds (ps := ["number", "least"]) fun _ _ _ _ _ _ us hl => match us, hl with | [_, _], _ => rfl
  have b_row_change := F_row_change.binds (ps := ["command"]) fun _ _ _ _ _ _ us hl => match us, hl with | [_], _ => rfl
  have b_reach := F_reach.binds (ps := ["commands"]) fun _ _ _ _ _ _ us hl => match us, hl with | [_], _ => rfl
  have b_require := F_require.binds (ps := ["bounds", "offset", "bound"]) fun _ _ _ _ _ _ us hl => match us, hl with | [_, _, _], _ => rfl
  have b_box := F_box.binds (ps := ["commands", "goal"]) fun _ _ _ _ _ _ us hl => match us, hl with | [_, _], _ => rfl
  have b_add_piece := F_add_piece.binds (ps := ["found", "piece"]) fun _ _ _ _ _ _ us hl => match us, hl with | [_, _], _ => rfl
  have b_pieces := F_pieces.binds (ps := ["commands", "offset"]) fun _ _ _ _ _ _ us hl => match us, hl with | [_, _], _ => rfl
  have b_form := F_form.binds (ps := ["commands"]) fun _ _ _ _ _ _ us hl => match us, hl with | [_], _ => rfl
  have b_is_number := F_is_number.binds (ps := ["digits"]) fun _ _ _ _ _ _ us hl => match us, hl with | [_], _ => rfl
  have b_read_command := F_read_command.binds (ps := ["word"]) fun _ _ _ _ _ _ us hl => match us, hl with | [_], _ => rfl
  have b_read_commands := F_read_commands.binds (ps := ["text"]) fun _ _ _ _ _ _ us hl => match us, hl with | [_], _ => rfl
  have b_law_rng := F_law_rng.binds (ps := ["script"]) fun _ _ _ _ _ _ us hl => match us, hl with | [_], _ => rfl
  have b_law_draw := F_law_draw.binds (ps := ["rng", "limit"]) fun _ _ _ _ _ _ us hl => match us, hl with | [_, _], _ => rfl
  have b_law_list := F_law_list.binds (ps := ["rng", "most", "size"]) fun _ _ _ _ _ _ us hl => match us, hl with | [_, _, _], _ => rfl
  have b_law_lots := F_law_lots.binds (ps := ["rng"]) fun _ _ _ _ _ _ us hl => match us, hl with | [_], _ => rfl
  have b_law_spread := F_law_spread.binds (ps := ["steps"]) fun _ _ _ _ _ _ us hl => match us, hl with | [_], _ => rfl
  have b_law_data := F_law_data.binds (ps := ["needed", "aim"]) fun _ _ _ _ _ _ us hl => match us, hl with | [_, _], _ => rfl
  have b_law_piece_right := F_law_piece_right.binds (ps := ["rng", "steps", "pieces_v", "spot"]) fun _ _ _ _ _ _ us hl => match us, hl with | [_, _, _, _], _ => rfl
  have b_law_written := F_law_written.binds (ps := ["steps"]) fun _ _ _ _ _ _ us hl => match us, hl with | [_], _ => rfl
  have b_law_read := F_law_read.binds (ps := ["rng", "many", "most", "size"]) fun _ _ _ _ _ _ us hl => match us, hl with | [_, _, _, _], _ => rfl
  have b_law_far := F_law_far.binds (ps := ["steps", "factor"]) fun _ _ _ _ _ _ us hl => match us, hl with | [_, _], _ => rfl
  have b_law_far_right := F_law_far_right.binds (ps := ["steps", "told", "factor"]) fun _ _ _ _ _ _ us hl => match us, hl with | [_, _, _], _ => rfl
  have b_law_read_right := F_law_read_right.binds (ps := ["rng"]) fun _ _ _ _ _ _ us hl => match us, hl with | [_], _ => rfl
  have kb_form := bindsK (ps := ["commands"]) (ks := ["commands"]) F_form fun _ _ _ _ _ _ us ws hl => by
    have hl2 : us.length + ws.length = 1 := by
      unfold gRev at hl
      rw [List.length_append, List.length_reverse] at hl
      exact hl
    match us, ws, hl2 with
    | [], [], h => simp only [List.length_cons, List.length_nil] at h; omega
    | [], [_], _ => rfl
    | [], _ :: _ :: _, h => simp only [List.length_cons, List.length_nil] at h; omega
    | [_], [], _ => rfl
    | [_], _ :: _, h => simp only [List.length_cons, List.length_nil] at h; omega
    | _ :: _ :: _, _, h => simp only [List.length_cons] at h; omega
  refine ⟨PySem.W.fnOf "law" "law" (defArgs s_law) (defBody s_law) (defScope s_law) .none kV_law dc_law pm_law an_law cd_law ct_law, fun s v => .of_eq rfl, fun base hb gb => ?_⟩
  have TB : TxtB K mg wo wn := {
    g_WITHOUT_NUMBER := PySem.W.mg_of X G aWO
    g_WITH_NUMBER := PySem.W.mg_of X G aWN
    tWO := fun H => .inr ⟨_, _, _, lWO, rfl, rfl, (by show 2 ≤ sizeLine; decide), .cons ⟨_, rfl⟩ (.cons ⟨_, rfl⟩ .nil)⟩
    tWN := fun H => .inr ⟨_, _, _, lWN, rfl, rfl, (by show 4 ≤ sizeLine; decide), .cons ⟨_, rfl⟩ (.cons ⟨_, rfl⟩ (.cons ⟨_, rfl⟩ (.cons ⟨_, rfl⟩ .nil)))⟩
    isinstance := PySem.W.mg_none_of X G z_isinstance
    int := PySem.W.mg_none_of X G z_int
    bool := PySem.W.mg_none_of X G z_bool
    len := PySem.W.mg_none_of X G z_len
    enumerate := PySem.W.mg_none_of X G z_enumerate
    reversed := PySem.W.mg_none_of X G z_reversed
    sorted := PySem.W.mg_none_of X G z_sorted
    max := PySem.W.mg_none_of X G z_max
    min := PySem.W.mg_none_of X G z_min }
  have TA : TxtA mg := { abs := PySem.W.mg_none_of X G z_abs, range := PySem.W.mg_none_of X G z_range, sum := PySem.W.mg_none_of X G z_sum, len := PySem.W.mg_none_of X G z_len, min := PySem.W.mg_none_of X G z_min, max := PySem.W.mg_none_of X G z_max, int := PySem.W.mg_none_of X G z_int }
  have TP : TxtP mg := { len := PySem.W.mg_none_of X G z_len, min := PySem.W.mg_none_of X G z_min, repr := PySem.W.mg_none_of X G z_repr }
  have TV : TxtV mg := { str := PySem.W.mg_none_of X G z_str, len := PySem.W.mg_none_of X G z_len, range := PySem.W.mg_none_of X G z_range }
  have TFR : TxtFR mg := { tuple := PySem.W.mg_none_of X G z_tuple }
  have TRR : TxtRR mg := { len := PySem.W.mg_none_of X G z_len, range := PySem.W.mg_none_of X G z_range }
  have TL : TxtL mg := { repr := PySem.W.mg_none_of X G z_repr, isinstance := PySem.W.mg_none_of X G z_isinstance, tuple := PySem.W.mg_none_of X G z_tuple, list := PySem.W.mg_none_of X G z_list, len := PySem.W.mg_none_of X G z_len, min := PySem.W.mg_none_of X G z_min, range := PySem.W.mg_none_of X G z_range, enumerate := PySem.W.mg_none_of X G z_enumerate }
  have C_is_count : Cal l.prog w K mg base 1 "is_count" spCount := ⟨_, _, _, ok_is_count F_is_count TB, PySem.W.mg_of X G a_is_count, k_is_count, b_is_count⟩
  have C_is_command : Cal l.prog w K mg base 2 "is_command" (spIsCmd K) := ⟨_, _, _, ok_is_command F_is_command TB C_is_count, PySem.W.mg_of X G a_is_command, k_is_command, b_is_command⟩
  have C_check_commands : Cal l.prog w K mg base 3 "check_commands" (spCheck K) := ⟨_, _, _, ok_check_commands F_check_commands TB C_is_command, PySem.W.mg_of X G a_check_commands, k_check_commands, b_check_commands⟩
  have C_check_number : Cal l.prog w K mg base 1 "check_number" spNum := ⟨_, _, _, ok_check_number F_check_number, PySem.W.mg_of X G a_check_number, k_check_number, b_check_number⟩
  have C_row_change : Cal l.prog w K mg base 1 "row_change" (spRow K) := ⟨_, _, _, ok_row_change F_row_change, PySem.W.mg_of X G a_row_change, k_row_change, b_row_change⟩
  have C_reach : Cal l.prog w K mg base 4 "reach" (spReach K) := ⟨_, _, _, ok_reach F_reach TB C_check_commands C_row_change, PySem.W.mg_of X G a_reach, k_reach, b_reach⟩
  have C_require : Cal l.prog w K mg base 1 "require" spReq := ⟨_, _, _, ok_require F_require TB, PySem.W.mg_of X G a_require, k_require, b_require⟩
  have C_box : Cal l.prog w K mg base 5 "box" (spBox K) := ⟨_, _, _, ok_box F_box TB C_check_commands C_row_change C_reach C_check_number C_require, PySem.W.mg_of X G a_box, k_box, b_box⟩
  have C_add_piece : Cal l.prog w K mg base 1 "add_piece" (spAddP K) := ⟨_, _, _, ok_add_piece F_add_piece, PySem.W.mg_of X G a_add_piece, k_add_piece, b_add_piece⟩
  have C_pieces : Cal l.prog w K mg base 2 "pieces" (spPieces K) := ⟨_, _, _, ok_pieces F_pieces TB C_row_change C_require C_add_piece, PySem.W.mg_of X G a_pieces, k_pieces, b_pieces⟩
  have C_form : Cal l.prog w K mg base 5 "form" (spForm K) := ⟨_, _, _, ok_form F_form C_reach C_pieces, PySem.W.mg_of X G a_form, k_form, b_form⟩
  have TR := rd_mk (PySem.W.mg_of X G aNA) (PySem.W.mg_of X G aNB) (PySem.W.mg_of X G aMD) lNA lNB oNA oNB (PySem.W.mg_none_of X G z_int) (PySem.W.mg_none_of X G z_len) (PySem.W.mg_none_of X G z_all)
  have C_is_number : Cal l.prog w K mg base 1 "is_number" (spIsNum K) := ⟨_, _, _, ok_is_number F_is_number TR, PySem.W.mg_of X G a_is_number, k_is_number, b_is_number⟩
  have C_read_command : Cal l.prog w K mg base 2 "read_command" (spRead1 K) := ⟨_, _, _, ok_read_command F_read_command TR C_is_number, PySem.W.mg_of X G a_read_command, k_read_command, b_read_command⟩
  have C_read_commands : Cal l.prog w K mg base 3 "read_commands" (spRead K) := ⟨_, _, _, ok_read_commands F_read_commands C_read_command, PySem.W.mg_of X G a_read_commands, k_read_commands, b_read_commands⟩
  have C_law_rng : Cal l.prog w K mg base 1 "_law_rng" (spRng K) := ⟨_, _, _, ok_rng F_law_rng TA, PySem.W.mg_of X G a_law_rng, k_law_rng, b_law_rng⟩
  have C_law_draw : Cal l.prog w K mg base 1 "_law_draw" spDraw := ⟨_, _, _, ok_draw F_law_draw, PySem.W.mg_of X G a_law_draw, k_law_draw, b_law_draw⟩
  have C_law_list : Cal l.prog w K mg base 2 "_law_list" (spList K) := ⟨_, _, _, ok_list F_law_list TA C_law_draw, PySem.W.mg_of X G a_law_list, k_law_list, b_law_list⟩
  have C_law_lots : Cal l.prog w K mg base 3 "_law_lots" (spLots K) := ⟨_, _, _, ok_lots F_law_lots C_law_draw C_law_list, PySem.W.mg_of X G a_law_lots, k_law_lots, b_law_lots⟩
  have C_law_spread : Cal l.prog w K mg base 1 "_law_spread" (spSpread K) := ⟨_, _, _, ok_spread F_law_spread TA, PySem.W.mg_of X G a_law_spread, k_law_spread, b_law_spread⟩
  have C_law_data : Cal l.prog w K mg base 1 "_law_data" (spData K) := ⟨_, _, _, ok_data F_law_data, PySem.W.mg_of X G a_law_data, k_law_data, b_law_data⟩
  have C_law_written : Cal l.prog w K mg base 1 "_law_written" (spWritten K) := ⟨_, _, _, ok_written F_law_written TV, PySem.W.mg_of X G a_law_written, k_law_written, b_law_written⟩
  have C_law_read : Cal l.prog w K mg base 4 "_law_read" (spLRead K) := ⟨_, _, _, ok_lread F_law_read TV C_law_list C_law_written C_read_commands, PySem.W.mg_of X G a_law_read, k_law_read, b_law_read⟩
  have C_law_far : Cal l.prog w K mg base 1 "_law_far" (spFar K) := ⟨_, _, _, ok_far F_law_far, PySem.W.mg_of X G a_law_far, k_law_far, b_law_far⟩
  have Z_box : Cal l.prog w K mg base 5 "box" (zBox K) := by rw [zBox_eq]; exact C_box
  have Z_form : Cal l.prog w K mg base 5 "form" (zForm K) := by rw [zForm_eq]; exact C_form
  have K_form : CalK l.prog w K mg base 5 "form" ["commands"] (zForm K) := by
    rw [zForm_eq]
    exact ⟨_, _, _, ok_form F_form C_reach C_pieces, PySem.W.mg_of X G a_form, k_form, kb_form⟩
  have Z_data : Cal l.prog w K mg base 1 "_law_data" (zData K) := by rw [zData_eq]; exact C_law_data
  have Z_far : Cal l.prog w K mg base 1 "_law_far" (zFar K) := by rw [zFar_eq]; exact C_law_far
  have G_pright : CalG l.prog w K mg base 6 "_law_piece_right" (zPRight K) := by
    rw [zPRight_eq]
    exact ⟨_, _, _, ok_pright F_law_piece_right TP C_law_draw Z_box Z_data, PySem.W.mg_of X G a_law_piece_right, k_law_piece_right, b_law_piece_right⟩
  have Z_farR : Cal l.prog w K mg base 6 "_law_far_right" (zFarR K) := by
    rw [zFarR_eq]
    exact ⟨_, _, _, ok_farR F_law_far_right TFR Z_form Z_far, PySem.W.mg_of X G a_law_far_right, k_law_far_right, b_law_far_right⟩
  have G_readR : CalG l.prog w K mg base 7 "_law_read_right" (zReadR K) := by
    rw [zReadR_eq]
    exact ⟨_, _, _, ok_readR F_law_read_right TRR C_law_read Z_form C_law_spread G_pright, PySem.W.mg_of X G a_law_read_right, k_law_read_right, b_law_read_right⟩
  exact ok_law F_law TL C_law_rng C_law_draw C_law_lots C_law_spread Z_form K_form G_pright Z_farR G_readR
theorem walk {l : PySem.W.OpenLaw} {q : Program} {loose : List Str} {XP : (Str → Option Value) → Heap → Prop} {YP : World → Heap → Prop} {d : DefRec} {K : Params → PySem.W.Frag} (hn : l.most = some 63) (hdf : d.params.defaults = [])
    (hY : ∀ (w : World) (h : Heap), YP w h → (K w.params).In h)
    (F : ∀ (w : World) (mg : Str → Option Value) (fa : Addr) (h : Heap), (K w.params).In h → h.Ns mainGlobals mg → mg d.name = some (.ref fa) →
      ∃ fd : FuncData, (∀ (s : Shared) (u : Value), BindsTo s fd ⟨[u], []⟩ [("script", u)]) ∧ ∀ base : Heap, (K w.params).In base → base.Ns mainGlobals mg → FnG l.prog w (K w.params) mg base 8 fa fd ["script"] (spLaw (K w.params))) :
    PySem.W.WalkO q loose XP YP l.row.toRowW d [] (fun f vs => PySem.call f vs) :=
  walk_G (n := 63) (k := 8) (x := "script") (sp := fun w => spLaw (K w.params)) hn (by decide) hdf ⟨rfl, by decide, by decide⟩ hY F fun _ _ a ns hl _ hS => ⟨a, ns, rfl, hS, hl, fun _ => rfl⟩
end Gc

open PySem PySem.W PyProof.Rows in
set_option maxRecDepth 100000 in
set_option maxHeartbeats 0 in
theorem PySem.Challenge.cw_goalcolumn_k10_forms_are_boxes_holds : PySem.Challenge.rw_goalcolumn_k10_forms_are_boxes.Holds := by
  w_on; o_law; k_head; (case hw => w_witness2)
  k_fill
  refine Gc.walk (l := PySem.Challenge.rw_goalcolumn_k10_forms_are_boxes) rfl rfl (fun w h Y => PySem.W.kIn_of Y) ?F
  case F =>
    intro w mg fa h KX G hmg
    refine' Gc.all_mk KX G hmg ?aWN ?aWO ?lWN ?lWO ?a_is_count ?l_is_count ?c_is_count ?k_is_count ?a_is_command ?l_is_command ?c_is_command ?k_is_command ?a_check_commands ?l_check_commands ?c_check_commands ?k_check_commands ?a_check_number ?l_check_number ?c_check_number ?k_check_number ?a_row_change ?l_row_change ?c_row_change ?k_row_change ?a_reach ?l_reach ?c_reach ?k_reach ?a_require ?l_require ?c_require ?k_require ?a_box ?l_box ?c_box ?k_box ?a_add_piece ?l_add_piece ?c_add_piece ?k_add_piece ?a_pieces ?l_pieces ?c_pieces ?k_pieces ?a_form ?l_form ?c_form ?k_form ?a_is_number ?l_is_number ?c_is_number ?k_is_number ?a_read_command ?l_read_command ?c_read_command ?k_read_command ?a_read_commands ?l_read_commands ?c_read_commands ?k_read_commands ?a_law_rng ?l_law_rng ?c_law_rng ?k_law_rng ?a_law_draw ?l_law_draw ?c_law_draw ?k_law_draw ?a_law_list ?l_law_list ?c_law_list ?k_law_list ?a_law_lots ?l_law_lots ?c_law_lots ?k_law_lots ?a_law_spread ?l_law_spread ?c_law_spread ?k_law_spread ?a_law_data ?l_law_data ?c_law_data ?k_law_data ?a_law_piece_right ?l_law_piece_right ?c_law_piece_right ?k_law_piece_right ?a_law_written ?l_law_written ?c_law_written ?k_law_written ?a_law_read ?l_law_read ?c_law_read ?k_law_read ?a_law_far ?l_law_far ?c_law_far ?k_law_far ?a_law_far_right ?l_law_far_right ?c_law_far_right ?k_law_far_right ?a_law_read_right ?l_law_read_right ?c_law_read_right ?k_law_read_right ?a_law ?l_law ?c_law ?k_law ?z_isinstance ?z_int ?z_bool ?z_len ?z_enumerate ?z_reversed ?z_sorted ?z_max ?z_min ?z_abs ?z_range ?z_sum ?z_repr ?z_str ?z_all ?z_tuple ?z_list ?aNA ?aNB ?aMD ?lNA ?lNB ?oNA ?oNB
    (case aWN => k_is)
    (case aWO => k_is)
    (case lWN => k_is)
    (case lWO => k_is)
    (case a_is_count => k_is)
    (case l_is_count => k_is)
    (case c_is_count => k_is)
    (case k_is_count => k_is)
    (case a_is_command => k_is)
    (case l_is_command => k_is)
    (case c_is_command => k_is)
    (case k_is_command => k_is)
    (case a_check_commands => k_is)
    (case l_check_commands => k_is)
    (case c_check_commands => k_is)
    (case k_check_commands => k_is)
    (case a_check_number => k_is)
    (case l_check_number => k_is)
    (case c_check_number => k_is)
    (case k_check_number => k_is)
    (case a_row_change => k_is)
    (case l_row_change => k_is)
    (case c_row_change => k_is)
    (case k_row_change => k_is)
    (case a_reach => k_is)
    (case l_reach => k_is)
    (case c_reach => k_is)
    (case k_reach => k_is)
    (case a_require => k_is)
    (case l_require => k_is)
    (case c_require => k_is)
    (case k_require => k_is)
    (case a_box => k_is)
    (case l_box => k_is)
    (case c_box => k_is)
    (case k_box => k_is)
    (case a_add_piece => k_is)
    (case l_add_piece => k_is)
    (case c_add_piece => k_is)
    (case k_add_piece => k_is)
    (case a_pieces => k_is)
    (case l_pieces => k_is)
    (case c_pieces => k_is)
    (case k_pieces => k_is)
    (case a_form => k_is)
    (case l_form => k_is)
    (case c_form => k_is)
    (case k_form => k_is)
    (case a_is_number => k_is)
    (case l_is_number => k_is)
    (case c_is_number => k_is)
    (case k_is_number => k_is)
    (case a_read_command => k_is)
    (case l_read_command => k_is)
    (case c_read_command => k_is)
    (case k_read_command => k_is)
    (case a_read_commands => k_is)
    (case l_read_commands => k_is)
    (case c_read_commands => k_is)
    (case k_read_commands => k_is)
    (case a_law_rng => k_is)
    (case l_law_rng => k_is)
    (case c_law_rng => k_is)
    (case k_law_rng => k_is)
    (case a_law_draw => k_is)
    (case l_law_draw => k_is)
    (case c_law_draw => k_is)
    (case k_law_draw => k_is)
    (case a_law_list => k_is)
    (case l_law_list => k_is)
    (case c_law_list => k_is)
    (case k_law_list => k_is)
    (case a_law_lots => k_is)
    (case l_law_lots => k_is)
    (case c_law_lots => k_is)
    (case k_law_lots => k_is)
    (case a_law_spread => k_is)
    (case l_law_spread => k_is)
    (case c_law_spread => k_is)
    (case k_law_spread => k_is)
    (case a_law_data => k_is)
    (case l_law_data => k_is)
    (case c_law_data => k_is)
    (case k_law_data => k_is)
    (case a_law_piece_right => k_is)
    (case l_law_piece_right => k_is)
    (case c_law_piece_right => k_is)
    (case k_law_piece_right => k_is)
    (case a_law_written => k_is)
    (case l_law_written => k_is)
    (case c_law_written => k_is)
    (case k_law_written => k_is)
    (case a_law_read => k_is)
    (case l_law_read => k_is)
    (case c_law_read => k_is)
    (case k_law_read => k_is)
    (case a_law_far => k_is)
    (case l_law_far => k_is)
    (case c_law_far => k_is)
    (case k_law_far => k_is)
    (case a_law_far_right => k_is)
    (case l_law_far_right => k_is)
    (case c_law_far_right => k_is)
    (case k_law_far_right => k_is)
    (case a_law_read_right => k_is)
    (case l_law_read_right => k_is)
    (case c_law_read_right => k_is)
    (case k_law_read_right => k_is)
    (case a_law => k_is)
    (case l_law => k_is)
    (case c_law => k_is)
    (case k_law => k_is)
    (case z_isinstance => k_is)
    (case z_int => k_is)
    (case z_bool => k_is)
    (case z_len => k_is)
    (case z_enumerate => k_is)
    (case z_reversed => k_is)
    (case z_sorted => k_is)
    (case z_max => k_is)
    (case z_min => k_is)
    (case z_abs => k_is)
    (case z_range => k_is)
    (case z_sum => k_is)
    (case z_repr => k_is)
    (case z_str => k_is)
    (case z_all => k_is)
    (case z_tuple => k_is)
    (case z_list => k_is)
    (case aNA => k_is)
    (case aNB => k_is)
    (case aMD => k_is)
    (case lNA => k_is)
    (case lNB => k_is)
    (case oNA => rfl)
    (case oNB => rfl)
