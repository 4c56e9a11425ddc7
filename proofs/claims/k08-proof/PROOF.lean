import PyProof.Rows.All
import Wide.All
import OpenK.AllK
import Wide.FinOn
import KE.SortData
import HandS.Base
import HandS.Call
import HandS.List
import HandS.Dict
import HandS.Words
import HandS.DictTup
import PyProof.RulesMatch
import HandS.Comp
import HandS.Iter
import HandS.Flow
import HandS.Rev
import HandS.Walk
import HandS.WordsList
import HandS.WordsDict
import HandS.IsInst
import HandS.Wide
import HandS.Codes
import HandS.Style
import PySem.Challenge.RW_goalcolumn_k08_whole_boxes_of_joined_lis
set_option Elab.async false
set_option linter.all false
set_option maxRecDepth 100000
set_option maxHeartbeats 4000000
/-! boxes of lists of commands: what the program reckons, over plain lists; and the laws of it -/
namespace Gc
inductive Cmd where
  | down (n : Int) | up (n : Int) | right (n : Int) | left (n : Int) | home | stop
  deriving DecidableEq
def Cmd.dv : Cmd → Int
  | .down n => n
  | .up n => -n
  | _ => 0
def Cmd.ok : Cmd → Prop
  | .down n => 1 ≤ n
  | .up n => 1 ≤ n
  | .right n => 1 ≤ n
  | .left n => 1 ≤ n
  | _ => True
def last (cs : List Cmd) : Int := (cs.map Cmd.dv).sum
abbrev Ps := List (Int × Int)
def leK (p q : Int × Int) : Bool := decide (p.1 < q.1 ∨ (p.1 = q.1 ∧ p.2 ≤ q.2))
def look (b : Ps) (k : Int) : Option Int := (b.find? fun q => q.1 = k).map (·.2)
def put (b : Ps) (k v : Int) : Ps := if b.any (fun q => q.1 = k) then b.map (fun q => if q.1 = k then (q.1, v) else q) else b ++ [(k, v)]
def mx (i j : Int) : Int := if j > i then j else i
def req (b : Ps) (o v : Int) : Ps := put b o (mx v ((look b o).getD v))
def go : List Cmd → Int → Int → Ps → Option (Option Int × Ps)
  | [], _, need, b => some (some need, b)
  | .home :: _, _, _, _ => none
  | .stop :: _, _, _, b => some (none, b)
  | .right n :: r, off, need, b => if need > n then go r off (need - n) (req b off need) else some (none, req b off need)
  | .left n :: r, off, need, b => go r off (need + n) (req b off (need + n))
  | .down n :: r, off, need, b => go r (off - n) need b
  | .up n :: r, off, need, b => go r (off + n) need b
def srt (x : Option Int × Ps) : Option Int × Ps := (x.1, x.2.mergeSort leK)
def boxM (cs : List Cmd) (goal : Int) : Option (Option Int × Ps) := (go cs.reverse (last cs) goal []).map srt

/-! ### association lists as functions -/
def val (b : Ps) (k : Int) : Int := (look b k).getD 0
def keys (b : Ps) : List Int := b.map (·.1)
structure Good (b : Ps) : Prop where
  nd : (keys b).Nodup
  pos : ∀ q ∈ b, 1 ≤ q.2
theorem good_nil : Good [] := ⟨List.nodup_nil, fun _ h => nomatch h⟩
theorem look_nil (k : Int) : look [] k = none := rfl
theorem look_cons (q : Int × Int) (b : Ps) (k : Int) : look (q :: b) k = if q.1 = k then some q.2 else look b k := by
  unfold look
  rw [List.find?_cons]
  by_cases h : q.1 = k
  · simp [h]
  · simp [h]
theorem look_none {b : Ps} {k : Int} : look b k = none ↔ k ∉ keys b := by
  induction b with
  | nil => simp [look, keys]
  | cons q b ih =>
    rw [look_cons]
    by_cases h : q.1 = k
    · rw [if_pos h]
      simp [keys, h]
    · rw [if_neg h, ih]
      simp only [keys, List.map_cons, List.mem_cons, not_or]
      exact ⟨fun x => ⟨fun e => h e.symm, x⟩, fun x => x.2⟩
theorem look_mem {b : Ps} {k v : Int} (h : look b k = some v) : (k, v) ∈ b := by
  induction b with
  | nil => cases h
  | cons q b ih =>
    rw [look_cons] at h
    by_cases e : q.1 = k
    · rw [if_pos e] at h
      have e2 := Option.some.inj h
      rw [← e, ← e2]
      exact List.mem_cons_self
    · rw [if_neg e] at h
      exact List.mem_cons_of_mem _ (ih h)
theorem mem_look {b : Ps} {q : Int × Int} (n : (keys b).Nodup) (h : q ∈ b) : look b q.1 = some q.2 := by
  induction b with
  | nil => cases h
  | cons p b ih =>
    have n' : p.1 ∉ keys b ∧ (keys b).Nodup := List.nodup_cons.mp n
    rw [look_cons]
    rcases List.mem_cons.mp h with e | h
    · rw [e, if_pos rfl]
    · have ne : p.1 ≠ q.1 := fun e => n'.1 (by rw [e]; exact List.mem_map.mpr ⟨q, h, rfl⟩)
      rw [if_neg ne]
      exact ih n'.2 h
theorem any_key (b : Ps) (k : Int) : b.any (fun q => q.1 = k) = true ↔ k ∈ keys b := by
  simp [keys, List.any_eq_true]
theorem look_put (b : Ps) (k v j : Int) : look (put b k v) j = if k = j then some v else look b j := by
  unfold put
  by_cases h : b.any (fun q => q.1 = k) = true
  · rw [if_pos h]
    induction b with
    | nil => simp at h
    | cons q b ih =>
      rw [List.map_cons, look_cons, look_cons]
      by_cases e : q.1 = k
      · rw [if_pos e]
        by_cases e2 : k = j
        · simp [e, e2]
        · simp only [e, e2, if_false]
          by_cases hb : b.any (fun q => q.1 = k) = true
          · rw [ih hb, if_neg e2]
          · have nm : ∀ p ∈ b, ¬ p.1 = k := fun p hp z => hb (List.any_eq_true.mpr ⟨p, hp, by simpa using z⟩)
            have em : b.map (fun q => if q.1 = k then (q.1, v) else q) = b := by
              conv => rhs; rw [← List.map_id b]
              exact List.map_congr_left fun p hp => by simp [nm p hp]
            rw [em]
      · rw [if_neg e]
        have hb : b.any (fun q => q.1 = k) = true := by
          rw [List.any_cons] at h
          simpa [e] using h
        by_cases e2 : q.1 = j
        · have e3 : ¬ k = j := fun z => e (e2.trans z.symm)
          simp [e2, e3]
        · simp only [e2, if_false]
          exact ih hb
  · rw [if_neg h]
    have nk : k ∉ keys b := fun z => h ((any_key b k).mpr z)
    clear h
    induction b with
    | nil =>
      show look [(k, v)] j = _
      rw [look_cons]
    | cons q b ih =>
      have n1 : ¬ q.1 = k := fun z => nk (by simp [keys, z])
      have n2 : k ∉ keys b := fun z => nk (List.mem_cons_of_mem _ z)
      rw [List.cons_append, look_cons, look_cons]
      by_cases e2 : q.1 = j
      · have e3 : ¬ k = j := fun z => n1 (e2.trans z.symm)
        simp [e2, e3]
      · simp only [e2, if_false]
        exact ih n2
theorem keys_put (b : Ps) (k v : Int) : keys (put b k v) = if k ∈ keys b then keys b else keys b ++ [k] := by
  unfold put
  by_cases h : b.any (fun q => q.1 = k) = true
  · rw [if_pos h, if_pos ((any_key b k).mp h)]
    unfold keys
    rw [List.map_map]
    refine List.map_congr_left fun p _ => ?_
    show (if p.1 = k then (p.1, v) else p).1 = p.1
    split <;> rfl
  · rw [if_neg h, if_neg fun z => h ((any_key b k).mpr z)]
    simp [keys]
theorem good_put {b : Ps} {k v : Int} (g : Good b) (hv : 1 ≤ v) : Good (put b k v) := by
  have nd : (keys (put b k v)).Nodup := by
    rw [keys_put]
    split
    · exact g.nd
    · rename_i h
      rw [List.nodup_append]
      exact ⟨g.nd, by simp, fun a ha c hc => by
        rw [List.mem_singleton.mp hc]
        intro z
        exact h (z ▸ ha)⟩
  refine ⟨nd, fun q hq => ?_⟩
  have e := mem_look nd hq
  rw [look_put] at e
  split at e
  · rw [← Option.some.inj e]
    exact hv
  · exact g.pos (q.1, q.2) (look_mem e)
theorem val_nonneg {b : Ps} (g : Good b) (k : Int) : 0 ≤ val b k := by
  unfold val
  cases e : look b k with
  | none => exact Int.le_refl 0
  | some v =>
    have := g.pos _ (look_mem e)
    show 0 ≤ v
    have h : 1 ≤ v := this
    omega
theorem val_put (b : Ps) (k v j : Int) : val (put b k v) j = if k = j then v else val b j := by
  unfold val
  rw [look_put]
  split <;> rfl
/-- require, on functions -/
def reqF (f : Int → Int) (o v : Int) : Int → Int := fun k => if o = k then max v (f k) else f k
theorem val_req {b : Ps} (g : Good b) {o v : Int} (hv : 1 ≤ v) : val (req b o v) = reqF (val b) o v := by
  funext k
  unfold req reqF
  rw [val_put]
  by_cases h : o = k
  · subst h
    rw [if_pos rfl, if_pos rfl]
    unfold val mx
    cases e : look b o with
    | none =>
      show (if v > v then v else v) = max v 0
      rw [if_neg (by omega)]
      omega
    | some x =>
      show (if x > v then x else v) = max v x
      split <;> omega
  · rw [if_neg h, if_neg h]
theorem good_req {b : Ps} (g : Good b) {o v : Int} (hv : 1 ≤ v) : Good (req b o v) := by
  refine good_put g ?_
  unfold mx
  split <;> omega

/-! ### the walk, on functions -/
def goF : List Cmd → Int → Int → (Int → Int) → Option (Option Int × (Int → Int))
  | [], _, need, f => some (some need, f)
  | .home :: _, _, _, _ => none
  | .stop :: _, _, _, f => some (none, f)
  | .right n :: r, off, need, f => if need > n then goF r off (need - n) (reqF f off need) else some (none, reqF f off need)
  | .left n :: r, off, need, f => goF r off (need + n) (reqF f off (need + n))
  | .down n :: r, off, need, f => goF r (off - n) need f
  | .up n :: r, off, need, f => goF r (off + n) need f
def AllOk (cs : List Cmd) : Prop := ∀ c ∈ cs, c.ok
theorem go_goF : ∀ {r : List Cmd} {off need : Int} {b : Ps}, AllOk r → Good b → 1 ≤ need →
    (go r off need b = none ∧ goF r off need (val b) = none) ∨ ∃ st b', go r off need b = some (st, b') ∧ Good b' ∧ goF r off need (val b) = some (st, val b') ∧ ∀ n, st = some n → 1 ≤ n
  | [], off, need, b, _, g, hn => .inr ⟨_, _, rfl, g, rfl, fun n e => by rw [← Option.some.inj e]; exact hn⟩
  | .home :: r, off, need, b, _, g, hn => .inl ⟨rfl, rfl⟩
  | .stop :: r, off, need, b, _, g, hn => .inr ⟨_, _, rfl, g, rfl, fun n e => nomatch e⟩
  | .right n :: r, off, need, b, hk, g, hn => by
    have hk' : AllOk r := fun c hc => hk c (List.mem_cons_of_mem _ hc)
    simp only [go, goF]
    by_cases h : need > n
    · rw [if_pos h, if_pos h, ← val_req g hn]
      exact go_goF hk' (good_req g hn) (by omega)
    · rw [if_neg h, if_neg h, ← val_req g hn]
      exact .inr ⟨_, _, rfl, good_req g hn, rfl, fun n e => nomatch e⟩
  | .left n :: r, off, need, b, hk, g, hn => by
    have hk' : AllOk r := fun c hc => hk c (List.mem_cons_of_mem _ hc)
    have h1 : 1 ≤ n := hk _ List.mem_cons_self
    simp only [go, goF]
    rw [← val_req g (by omega)]
    exact go_goF hk' (good_req g (by omega)) (by omega)
  | .down n :: r, off, need, b, hk, g, hn => go_goF (r := r) (fun c hc => hk c (List.mem_cons_of_mem _ hc)) g hn
  | .up n :: r, off, need, b, hk, g, hn => go_goF (r := r) (fun c hc => hk c (List.mem_cons_of_mem _ hc)) g hn

/-! ### ascending lists are told by their functions -/
def Asc (b : Ps) : Prop := b.Pairwise fun p q => p.1 < q.1
theorem asc_nd {b : Ps} (h : Asc b) : (keys b).Nodup := by
  unfold keys
  rw [List.nodup_iff_pairwise_ne, List.pairwise_map]
  exact h.imp fun h => Int.ne_of_lt h
theorem leK_trans (a b c : Int × Int) (h1 : leK a b = true) (h2 : leK b c = true) : leK a c = true := by
  unfold leK at *
  have a1 := of_decide_eq_true h1
  have a2 := of_decide_eq_true h2
  exact decide_eq_true (by omega)
theorem leK_total (a b : Int × Int) : (leK a b || leK b a) = true := by
  unfold leK
  by_cases h : a.1 < b.1 ∨ (a.1 = b.1 ∧ a.2 ≤ b.2)
  · rw [decide_eq_true h]
    rfl
  · rw [decide_eq_true (show b.1 < a.1 ∨ (b.1 = a.1 ∧ b.2 ≤ a.2) by omega), Bool.or_true]
theorem asc_sort {b : Ps} (g : Good b) : Asc (b.mergeSort leK) := by
  have p := List.pairwise_mergeSort (le := leK) leK_trans leK_total b
  have pm := List.mergeSort_perm b leK
  have nd : (keys (b.mergeSort leK)).Nodup := (pm.map (fun q : Int × Int => q.1)).nodup_iff.mpr g.nd
  unfold keys at nd
  rw [List.nodup_iff_pairwise_ne, List.pairwise_map] at nd
  refine (p.and nd).imp fun h => ?_
  have a := of_decide_eq_true h.1
  have c := h.2
  omega
theorem good_perm {b c : Ps} (g : Good b) (p : c.Perm b) : Good c := ⟨(p.map (fun q : Int × Int => q.1)).nodup_iff.mpr g.nd, fun q hq => g.pos q (p.mem_iff.mp hq)⟩
theorem look_perm {b c : Ps} (g : Good b) (p : c.Perm b) (k : Int) : look c k = look b k := by
  have g' := good_perm g p
  cases e : look b k with
  | none =>
    rw [look_none] at e ⊢
    exact fun z => e ((p.map (fun q : Int × Int => q.1)).mem_iff.mp z)
  | some v => exact mem_look g'.nd (p.mem_iff.mpr (look_mem e))
theorem val_perm {b c : Ps} (g : Good b) (p : c.Perm b) : val c = val b := by
  funext k
  unfold val
  rw [look_perm g p]
theorem look_val {b c : Ps} (gb : Good b) (gc : Good c) (h : val b = val c) (k : Int) : look b k = look c k := by
  have e := congrFun h k
  unfold val at e
  cases e1 : look b k with
  | none =>
    cases e2 : look c k with
    | none => rfl
    | some v =>
      rw [e1, e2] at e
      have : 1 ≤ v := gc.pos _ (look_mem e2)
      have e' : (0 : Int) = v := e
      omega
  | some u =>
    cases e2 : look c k with
    | none =>
      rw [e1, e2] at e
      have : 1 ≤ u := gb.pos _ (look_mem e1)
      have e' : u = (0 : Int) := e
      omega
    | some v =>
      rw [e1, e2] at e
      have e' : u = v := e
      rw [e']
theorem asc_ext : ∀ {b c : Ps}, Asc b → Asc c → (∀ k, look b k = look c k) → b = c
  | [], [], _, _, _ => rfl
  | [], q :: c, _, _, h => by
    have e := h q.1
    rw [look_cons, if_pos rfl] at e
    cases e
  | q :: b, [], _, _, h => by
    have e := h q.1
    rw [look_cons, if_pos rfl] at e
    cases e
  | p :: b, q :: c, hb, hc, h => by
    have hb' := List.pairwise_cons.mp hb
    have hc' := List.pairwise_cons.mp hc
    have e1 := h p.1
    rw [look_cons, if_pos rfl, look_cons] at e1
    have e2 := h q.1
    rw [look_cons, look_cons, if_pos rfl] at e2
    have key : p.1 = q.1 := by
      by_cases x : q.1 = p.1
      · exact x.symm
      · rw [if_neg x] at e1
        rw [if_neg fun z => x z.symm] at e2
        have m1 := hc'.1 _ (look_mem e1.symm)
        have m2 := hb'.1 _ (look_mem e2)
        have m1' : q.1 < p.1 := m1
        have m2' : p.1 < q.1 := m2
        omega
    rw [if_pos key.symm] at e1
    have hpq : p = q := Prod.ext key (Option.some.inj e1)
    subst hpq
    rw [asc_ext hb'.2 hc'.2 fun k => ?_]
    have e := h k
    rw [look_cons, look_cons] at e
    by_cases x : p.1 = k
    · have n1 : look b k = none := look_none.mpr fun z => by
        obtain ⟨r, hr, er⟩ := List.mem_map.mp z
        have := hb'.1 r hr
        omega
      have n2 : look c k = none := look_none.mpr fun z => by
        obtain ⟨r, hr, er⟩ := List.mem_map.mp z
        have := hc'.1 r hr
        omega
      rw [n1, n2]
    · rw [if_neg x, if_neg x] at e
      exact e
theorem sort_ext {b c : Ps} (gb : Good b) (gc : Good c) (h : val b = val c) : b.mergeSort leK = c.mergeSort leK :=
  asc_ext (asc_sort gb) (asc_sort gc) fun k => by
    rw [look_perm gb (List.mergeSort_perm b leK), look_perm gc (List.mergeSort_perm c leK)]
    exact look_val gb gc h k
end Gc

/-! laws of boxes: joined lists, greater goals, multiplied moves -/
namespace Gc
abbrev BF := Option (Option Int × (Int → Int))
def boxF (cs : List Cmd) (goal : Int) : BF := goF cs.reverse (last cs) goal fun _ => 0
theorem val_nil : val [] = fun _ => 0 := rfl
theorem allOk_rev {cs : List Cmd} (h : AllOk cs) : AllOk cs.reverse := fun c hc => h c (List.mem_reverse.mp hc)
theorem box_spec {cs : List Cmd} {goal : Int} (h : AllOk cs) (hg : 1 ≤ goal) :
    (boxM cs goal = none ∧ boxF cs goal = none) ∨ ∃ st b, boxM cs goal = some (st, b.mergeSort leK) ∧ Good b ∧ boxF cs goal = some (st, val b) ∧ ∀ n, st = some n → 1 ≤ n := by
  unfold boxM boxF
  rw [← val_nil]
  rcases go_goF (off := last cs) (allOk_rev h) good_nil hg with ⟨e1, e2⟩ | ⟨st, b, e1, g, e2, p⟩
  · exact .inl ⟨by rw [e1]; rfl, e2⟩
  · exact .inr ⟨st, b, by rw [e1]; rfl, g, e2, p⟩
def thenF (x : BF) (k : Int → (Int → Int) → BF) : BF := match x with
  | none => none
  | some (none, g) => some (none, g)
  | some (some n, g) => k n g
theorem goF_app : ∀ (a b : List Cmd) (off need : Int) (f : Int → Int), goF (a ++ b) off need f = thenF (goF a off need f) fun n g => goF b (off - (a.map Cmd.dv).sum) n g
  | [], b, off, need, f => by
    show goF b off need f = goF b (off - 0) need f
    rw [Int.sub_zero]
  | .home :: a, b, off, need, f => rfl
  | .stop :: a, b, off, need, f => rfl
  | .right n :: a, b, off, need, f => by
    have e : off - (((Cmd.right n :: a).map Cmd.dv).sum) = off - (a.map Cmd.dv).sum := by
      rw [List.map_cons, List.sum_cons]
      show off - (0 + _) = _
      omega
    rw [e, List.cons_append]
    simp only [goF]
    by_cases h : need > n
    · rw [if_pos h, if_pos h]
      exact goF_app a b off (need - n) _
    · rw [if_neg h, if_neg h]
      rfl
  | .left n :: a, b, off, need, f => by
    have e : off - (((Cmd.left n :: a).map Cmd.dv).sum) = off - (a.map Cmd.dv).sum := by
      rw [List.map_cons, List.sum_cons]
      show off - (0 + _) = _
      omega
    rw [e, List.cons_append]
    exact goF_app a b off (need + n) _
  | .down n :: a, b, off, need, f => by
    have e : off - (((Cmd.down n :: a).map Cmd.dv).sum) = off - n - (a.map Cmd.dv).sum := by
      rw [List.map_cons, List.sum_cons]
      show off - (n + _) = _
      omega
    rw [e, List.cons_append]
    exact goF_app a b (off - n) need f
  | .up n :: a, b, off, need, f => by
    have e : off - (((Cmd.up n :: a).map Cmd.dv).sum) = off + n - (a.map Cmd.dv).sum := by
      rw [List.map_cons, List.sum_cons]
      show off - (-n + _) = _
      omega
    rw [e, List.cons_append]
    exact goF_app a b (off + n) need f
theorem goF_shift (d : Int) : ∀ (r : List Cmd) (off need : Int) (f : Int → Int), goF r (off + d) need (fun k => f (k - d)) = (goF r off need f).map fun x => (x.1, fun k => x.2 (k - d))
  | [], off, need, f => rfl
  | .home :: r, off, need, f => rfl
  | .stop :: r, off, need, f => rfl
  | .right n :: r, off, need, f => by
    have e : reqF (fun k => f (k - d)) (off + d) need = fun k => reqF f off need (k - d) := by
      funext k
      unfold reqF
      by_cases h : off + d = k
      · rw [if_pos h, if_pos (by omega)]
      · rw [if_neg h, if_neg (by omega)]
    simp only [goF]
    rw [e]
    by_cases h : need > n
    · rw [if_pos h, if_pos h]
      exact goF_shift d r off (need - n) _
    · rw [if_neg h, if_neg h]
      rfl
  | .left n :: r, off, need, f => by
    have e : reqF (fun k => f (k - d)) (off + d) (need + n) = fun k => reqF f off (need + n) (k - d) := by
      funext k
      unfold reqF
      by_cases h : off + d = k
      · rw [if_pos h, if_pos (by omega)]
      · rw [if_neg h, if_neg (by omega)]
    simp only [goF]
    rw [e]
    exact goF_shift d r off (need + n) _
  | .down n :: r, off, need, f => by
    simp only [goF]
    rw [show off + d - n = off - n + d by omega]
    exact goF_shift d r (off - n) need f
  | .up n :: r, off, need, f => by
    simp only [goF]
    rw [show off + d + n = off + n + d by omega]
    exact goF_shift d r (off + n) need f
theorem goF_max (h : Int → Int) : ∀ (r : List Cmd) (off need : Int) (f : Int → Int), goF r off need (fun k => max (f k) (h k)) = (goF r off need f).map fun x => (x.1, fun k => max (x.2 k) (h k))
  | [], off, need, f => rfl
  | .home :: r, off, need, f => rfl
  | .stop :: r, off, need, f => rfl
  | .right n :: r, off, need, f => by
    have e : reqF (fun k => max (f k) (h k)) off need = fun k => max (reqF f off need k) (h k) := by
      funext k
      unfold reqF
      show (if _ then _ else _) = _
      by_cases q : off = k
      · simp only [q, if_true]
        rw [Int.max_assoc]
      · simp only [q, if_false]
    simp only [goF]
    rw [e]
    by_cases c : need > n
    · rw [if_pos c, if_pos c]
      exact goF_max h r off (need - n) _
    · rw [if_neg c, if_neg c]
      rfl
  | .left n :: r, off, need, f => by
    have e : reqF (fun k => max (f k) (h k)) off (need + n) = fun k => max (reqF f off (need + n) k) (h k) := by
      funext k
      unfold reqF
      show (if _ then _ else _) = _
      by_cases q : off = k
      · simp only [q, if_true]
        rw [Int.max_assoc]
      · simp only [q, if_false]
    simp only [goF]
    rw [e]
    exact goF_max h r off (need + n) _
  | .down n :: r, off, need, f => goF_max h r (off - n) need f
  | .up n :: r, off, need, f => goF_max h r (off + n) need f
theorem last_app (a b : List Cmd) : last (a ++ b) = last a + last b := by
  unfold last
  rw [List.map_append, List.sum_append]
theorem sum_rev (l : List Int) : l.reverse.sum = l.sum := by
  induction l with
  | nil => rfl
  | cons a l ih =>
    rw [List.reverse_cons, List.sum_append, ih, List.sum_cons]
    simp
    omega
theorem boxF_app (early late : List Cmd) (aim : Int) (pos : ∀ st g, boxF late aim = some (st, g) → ∀ k, 0 ≤ g k) :
    boxF (early ++ late) aim = match boxF late aim with
      | none => none
      | some (none, g) => some (none, fun k => g (k - last early))
      | some (some n, g) => (boxF early n).map fun x => (x.1, fun k => max (x.2 k) (g (k - last early))) := by
  unfold boxF
  rw [List.reverse_append, goF_app, last_app, Int.add_comm (last early)]
  have sh : goF late.reverse (last late + last early) aim (fun _ => 0) = (goF late.reverse (last late) aim fun _ => 0).map fun x => (x.1, fun k => x.2 (k - last early)) :=
    goF_shift (last early) late.reverse (last late) aim fun _ => 0
  rw [sh]
  have pos' := pos
  unfold boxF at pos'
  cases e : goF late.reverse (last late) aim (fun _ => 0) with
  | none => rfl
  | some x =>
    obtain ⟨st, g⟩ := x
    cases st with
    | none => rfl
    | some n =>
      show goF early.reverse (last late + last early - (late.reverse.map Cmd.dv).sum) n (fun k => g (k - last early)) = _
      have es : (late.reverse.map Cmd.dv).sum = last late := by
        rw [List.map_reverse, sum_rev]
        rfl
      rw [es, show last late + last early - last late = last early by omega]
      have em : (fun k => g (k - last early)) = fun k => max ((fun _ => 0 : Int → Int) k) (g (k - last early)) := by
        funext k
        have := pos' _ _ e (k - last early)
        show g (k - last early) = max 0 (g (k - last early))
        omega
      rw [em, goF_max]

/-! ### the law's own joining -/
def shiftK (d : Int) (b : Ps) : Ps := b.map fun q => (q.1 + d, q.2)
def addAll (b : Ps) (l : Ps) : Ps := l.foldl (fun b q => put b q.1 (mx q.2 ((look b q.1).getD 0))) b
def joinedM (early late : List Cmd) (gone aim : Int) : Option (Option Int × Ps) := match boxM late aim with
  | none => none
  | some (none, l) => some (none, (shiftK gone l).mergeSort leK)
  | some (some n, l) => match boxM early n with
    | none => none
    | some (st, m) => some (st, (addAll (shiftK gone l) m).mergeSort leK)
theorem look_shift (d : Int) : ∀ (b : Ps) (k : Int), look (shiftK d b) k = look b (k - d)
  | [], _ => rfl
  | q :: b, k => by
    show look ((q.1 + d, q.2) :: shiftK d b) k = _
    rw [look_cons, look_cons, look_shift d b]
    by_cases h : q.1 + d = k
    · rw [if_pos h, if_pos (by omega)]
    · rw [if_neg h, if_neg (by omega)]
theorem good_shift (d : Int) {b : Ps} (g : Good b) : Good (shiftK d b) := by
  refine ⟨?_, fun q hq => ?_⟩
  · have e : keys (shiftK d b) = (keys b).map (· + d) := by
      unfold keys shiftK
      rw [List.map_map, List.map_map]
      rfl
    rw [e, List.nodup_iff_pairwise_ne, List.pairwise_map]
    exact (List.nodup_iff_pairwise_ne.mp g.nd).imp fun h => by omega
  · obtain ⟨p, hp, rfl⟩ := List.mem_map.mp hq
    exact g.pos p hp
theorem val_shift (d : Int) (b : Ps) : val (shiftK d b) = fun k => val b (k - d) := by
  funext k
  unfold val
  rw [look_shift]
theorem val_cons (q : Int × Int) (b : Ps) (k : Int) : val (q :: b) k = if q.1 = k then q.2 else val b k := by
  unfold val
  rw [look_cons]
  split <;> rfl
theorem val_out {b : Ps} {k : Int} (h : k ∉ keys b) : val b k = 0 := by
  unfold val
  rw [look_none.mpr h]
  rfl
theorem addAll_good : ∀ {l b : Ps}, Good b → Good l → Good (addAll b l) ∧ ∀ k, val (addAll b l) k = max (val l k) (val b k)
  | [], b, gb, _ => ⟨gb, fun k => by
      have := val_nonneg gb k
      show val b k = max 0 (val b k)
      omega⟩
  | q :: l, b, gb, gl => by
    have nq : q.1 ∉ keys l ∧ (keys l).Nodup := List.nodup_cons.mp gl.nd
    have p1 : 1 ≤ q.2 := gl.pos q List.mem_cons_self
    have gl' : Good l := ⟨nq.2, fun p hp => gl.pos p (List.mem_cons_of_mem _ hp)⟩
    have hv : 1 ≤ mx q.2 ((look b q.1).getD 0) := by
      unfold mx
      split <;> omega
    obtain ⟨g, v⟩ := addAll_good (b := put b q.1 (mx q.2 ((look b q.1).getD 0))) (good_put gb hv) gl'
    refine ⟨g, fun k => ?_⟩
    show val (addAll (put b q.1 (mx q.2 ((look b q.1).getD 0))) l) k = _
    rw [v k, val_put, val_cons]
    by_cases h : q.1 = k
    · subst h
      rw [if_pos rfl, if_pos rfl, val_out nq.1]
      have : mx q.2 ((look b q.1).getD 0) = max q.2 (val b q.1) := by
        unfold mx val
        split <;> omega
      rw [this]
      omega
    · rw [if_neg h, if_neg h]
theorem joined (early late : List Cmd) {aim : Int} (he : AllOk early) (hl : AllOk late) (ha : 1 ≤ aim) : boxM (early ++ late) aim = joinedM early late (last early) aim := by
  have hw : AllOk (early ++ late) := fun c hc => (List.mem_append.mp hc).elim (he c) (hl c)
  have srtd : ∀ {b c : Ps}, Good b → Good c → val b = val c → b.mergeSort leK = c.mergeSort leK := fun gb gc h => sort_ext gb gc h
  rcases box_spec hl ha with ⟨e1, e2⟩ | ⟨st, b, e1, gb, e2, pb⟩
  · have f := boxF_app early late aim fun st g h => by rw [e2] at h; cases h
    rw [e2] at f
    rcases box_spec hw ha with ⟨w1, _⟩ | ⟨_, _, _, _, w2, _⟩
    · rw [w1]
      unfold joinedM
      rw [e1]
    · rw [w2] at f
      cases f
  · have f := boxF_app early late aim fun st g h => by
      rw [e2] at h
      cases h
      exact val_nonneg gb
    rw [e2] at f
    have gs : Good (b.mergeSort leK) := good_perm gb (List.mergeSort_perm b leK)
    have vs : val (b.mergeSort leK) = val b := val_perm gb (List.mergeSort_perm b leK)
    cases st with
    | none =>
      rcases box_spec hw ha with ⟨_, w2⟩ | ⟨st', c, w1, gc, w2, _⟩
      · rw [w2] at f
        cases f
      · rw [w2] at f
        have f' := Option.some.inj f
        have f1 : st' = none := congrArg Prod.fst f'
        have f2 : val c = fun k => val b (k - last early) := congrArg Prod.snd f'
        rw [w1, f1]
        unfold joinedM
        rw [e1]
        show some ((none : Option Int), c.mergeSort leK) = some (none, (shiftK (last early) (b.mergeSort leK)).mergeSort leK)
        rw [srtd gc (good_shift _ gs) (by rw [f2, val_shift, vs])]
    | some n =>
      have hn := pb n rfl
      rcases box_spec he hn with ⟨x1, x2⟩ | ⟨st2, m, x1, gm, x2, _⟩
      · have f' : boxF (early ++ late) aim = (boxF early n).map fun x => (x.1, fun k => max (x.2 k) (val b (k - last early))) := f
        rw [x2] at f'
        rcases box_spec hw ha with ⟨w1, _⟩ | ⟨_, _, _, _, w2, _⟩
        · rw [w1]
          unfold joinedM
          rw [e1]
          show none = match boxM early n with | none => none | some (st, m) => _
          rw [x1]
        · rw [w2] at f'
          cases f'
      · have f' : boxF (early ++ late) aim = (boxF early n).map fun x => (x.1, fun k => max (x.2 k) (val b (k - last early))) := f
        rw [x2] at f'
        rcases box_spec hw ha with ⟨_, w2⟩ | ⟨st', c, w1, gc, w2, _⟩
        · rw [w2] at f'
          cases f'
        · rw [w2] at f'
          have f3 := Option.some.inj f'
          have f1 : st' = st2 := congrArg Prod.fst f3
          have f2 : val c = fun k => max (val m k) (val b (k - last early)) := congrArg Prod.snd f3
          rw [w1, f1]
          unfold joinedM
          rw [e1]
          show some (st2, c.mergeSort leK) = match boxM early n with | none => none | some (st, m) => _
          rw [x1]
          show some (st2, c.mergeSort leK) = some (st2, (addAll (shiftK (last early) (b.mergeSort leK)) (m.mergeSort leK)).mergeSort leK)
          have gms : Good (m.mergeSort leK) := good_perm gm (List.mergeSort_perm m leK)
          obtain ⟨ga, va⟩ := addAll_good (good_shift (last early) gs) gms
          rw [srtd gc ga (by
            funext k
            rw [f2, va k, val_perm gm (List.mergeSort_perm m leK), val_shift, vs])]

/-! ### a greater goal -/
theorem reqF_mono {f g : Int → Int} {o v u : Int} (h : ∀ k, f k ≤ g k) (hv : v ≤ u) (k : Int) : reqF f o v k ≤ reqF g o u k := by
  have := h k
  unfold reqF
  split <;> omega
theorem reqF_ge (f : Int → Int) (o v k : Int) : f k ≤ reqF f o v k := by
  unfold reqF
  split <;> omega
theorem goF_ge : ∀ {r : List Cmd} {off need : Int} {f : Int → Int} {st : Option Int} {g : Int → Int}, goF r off need f = some (st, g) → ∀ k, f k ≤ g k
  | [], off, need, f, st, g, h, k => by cases h; exact Int.le_refl _
  | .home :: r, off, need, f, st, g, h, k => by cases h
  | .stop :: r, off, need, f, st, g, h, k => by cases h; exact Int.le_refl _
  | .right n :: r, off, need, f, st, g, h, k => by
    simp only [goF] at h
    by_cases c : need > n
    · rw [if_pos c] at h
      exact Int.le_trans (reqF_ge f off need k) (goF_ge h k)
    · rw [if_neg c] at h
      cases h
      exact reqF_ge f off need k
  | .left n :: r, off, need, f, st, g, h, k => Int.le_trans (reqF_ge f off (need + n) k) (goF_ge (r := r) h k)
  | .down n :: r, off, need, f, st, g, h, k => goF_ge (r := r) h k
  | .up n :: r, off, need, f, st, g, h, k => goF_ge (r := r) h k
def Less (x y : BF) : Prop := y = none ∨ ∃ st g st' g', x = some (st, g) ∧ y = some (st', g') ∧ (∀ n, st = some n → ∃ n', st' = some n' ∧ n ≤ n') ∧ ∀ k, g k ≤ g' k
theorem goF_mono : ∀ {r : List Cmd} {off need need' : Int} {f f' : Int → Int}, need ≤ need' → (∀ k, f k ≤ f' k) → Less (goF r off need f) (goF r off need' f')
  | [], off, need, need', f, f', h, hf => .inr ⟨_, _, _, _, rfl, rfl, fun n e => ⟨need', rfl, by rw [← Option.some.inj e]; exact h⟩, hf⟩
  | .home :: r, off, need, need', f, f', h, hf => .inl rfl
  | .stop :: r, off, need, need', f, f', h, hf => .inr ⟨_, _, _, _, rfl, rfl, (fun n e => nomatch e), hf⟩
  | .right n :: r, off, need, need', f, f', h, hf => by
    simp only [goF]
    have m := reqF_mono (o := off) hf h
    by_cases c : need > n
    · rw [if_pos c, if_pos (by omega)]
      exact goF_mono (by omega) m
    · rw [if_neg c]
      by_cases c' : need' > n
      · rw [if_pos c']
        cases e : goF r off (need' - n) (reqF f' off need') with
        | none => exact .inl rfl
        | some x => exact .inr ⟨_, _, x.1, x.2, rfl, rfl, (fun n e => nomatch e), fun k => Int.le_trans (m k) (goF_ge e k)⟩
      · rw [if_neg c']
        exact .inr ⟨_, _, _, _, rfl, rfl, (fun n e => nomatch e), m⟩
  | .left n :: r, off, need, need', f, f', h, hf => goF_mono (r := r) (by omega) (reqF_mono (o := off) hf (by omega))
  | .down n :: r, off, need, need', f, f', h, hf => goF_mono (r := r) h hf
  | .up n :: r, off, need, need', f, f', h, hf => goF_mono (r := r) h hf
theorem box_mono {cs : List Cmd} {aim more : Int} (h : AllOk cs) (ha : 1 ≤ aim) (hm : aim ≤ more) :
    boxM cs more = none ∨ ∃ st l st' l', boxM cs aim = some (st, l) ∧ boxM cs more = some (st', l') ∧ (∀ n, st = some n → ∃ n', st' = some n' ∧ n ≤ n') ∧ ∀ q ∈ l, q.2 ≤ val l' q.1 := by
  have m : Less (boxF cs aim) (boxF cs more) := goF_mono hm fun _ => Int.le_refl _
  rcases box_spec h (show 1 ≤ more by omega) with ⟨e1, _⟩ | ⟨st', b', e1, g', e2, _⟩
  · exact .inl e1
  · rcases m with m | ⟨st, g, st2, g2, m1, m2, m3, m4⟩
    · rw [e2] at m
      cases m
    · rw [e2] at m2
      cases m2
      rcases box_spec h ha with ⟨_, x2⟩ | ⟨st3, b, x1, gb, x2, _⟩
      · rw [x2] at m1
        cases m1
      · rw [x2] at m1
        cases m1
        refine .inr ⟨st, _, st', _, x1, e1, m3, fun q hq => ?_⟩
        have gs : Good (b.mergeSort leK) := good_perm gb (List.mergeSort_perm b leK)
        have v : val (b.mergeSort leK) q.1 = q.2 := by
          unfold val
          rw [mem_look gs.nd hq]
          rfl
        rw [val_perm gb (List.mergeSort_perm b leK)] at v
        rw [val_perm g' (List.mergeSort_perm b' leK), ← v]
        exact m4 q.1

/-! ### moves multiplied -/
def Cmd.mul (F : Int) : Cmd → Cmd
  | .down n => .down (n * F)
  | .up n => .up (n * F)
  | c => c
def mulK (F : Int) (b : Ps) : Ps := b.map fun q => (q.1 * F, q.2)
theorem mul_inj {F a b : Int} (hF : 1 ≤ F) : a * F = b * F ↔ a = b := ⟨fun h => Int.eq_of_mul_eq_mul_right (by omega) h, fun h => by rw [h]⟩
theorem look_mul {F : Int} (hF : 1 ≤ F) : ∀ (b : Ps) (k : Int), look (mulK F b) (k * F) = look b k
  | [], _ => rfl
  | q :: b, k => by
    show look ((q.1 * F, q.2) :: mulK F b) (k * F) = _
    rw [look_cons, look_cons, look_mul hF b]
    by_cases h : q.1 = k
    · rw [if_pos h, if_pos (by rw [h])]
    · rw [if_neg h, if_neg fun z => h ((mul_inj hF).mp z)]
theorem put_mul {F : Int} (hF : 1 ≤ F) (b : Ps) (k v : Int) : put (mulK F b) (k * F) v = mulK F (put b k v) := by
  unfold put
  have ea : (mulK F b).any (fun q => decide (q.1 = k * F)) = b.any (fun q => decide (q.1 = k)) := by
    unfold mulK
    rw [List.any_map]
    congr 1
    funext q
    show decide (q.1 * F = k * F) = decide (q.1 = k)
    exact decide_eq_decide.mpr (mul_inj hF)
  rw [ea]
  by_cases h : b.any (fun q => decide (q.1 = k)) = true
  · rw [if_pos h, if_pos h]
    unfold mulK
    rw [List.map_map, List.map_map]
    refine List.map_congr_left fun q _ => ?_
    show (if q.1 * F = k * F then (q.1 * F, v) else (q.1 * F, q.2)) = ((if q.1 = k then (q.1, v) else q).1 * F, (if q.1 = k then (q.1, v) else q).2)
    by_cases e : q.1 = k
    · rw [if_pos e, if_pos (by rw [e])]
    · rw [if_neg e, if_neg fun z => e ((mul_inj hF).mp z)]
  · rw [if_neg h, if_neg h]
    unfold mulK
    rw [List.map_append]
    rfl
theorem req_mul {F : Int} (hF : 1 ≤ F) (b : Ps) (o v : Int) : req (mulK F b) (o * F) v = mulK F (req b o v) := by
  unfold req
  rw [look_mul hF, put_mul hF]
theorem go_mul {F : Int} (hF : 1 ≤ F) : ∀ (r : List Cmd) (off need : Int) (b : Ps), go (r.map (Cmd.mul F)) (off * F) need (mulK F b) = (go r off need b).map fun x => (x.1, mulK F x.2)
  | [], off, need, b => rfl
  | .home :: r, off, need, b => rfl
  | .stop :: r, off, need, b => rfl
  | .right n :: r, off, need, b => by
    show (if need > n then go (r.map (Cmd.mul F)) (off * F) (need - n) (req (mulK F b) (off * F) need) else some (none, req (mulK F b) (off * F) need)) = (if need > n then go r off (need - n) (req b off need) else some (none, req b off need)).map _
    rw [req_mul hF]
    by_cases c : need > n
    · rw [if_pos c, if_pos c]
      exact go_mul hF r off (need - n) _
    · rw [if_neg c, if_neg c]
      rfl
  | .left n :: r, off, need, b => by
    show go (r.map (Cmd.mul F)) (off * F) (need + n) (req (mulK F b) (off * F) (need + n)) = _
    rw [req_mul hF]
    exact go_mul hF r off (need + n) _
  | .down n :: r, off, need, b => by
    show go (r.map (Cmd.mul F)) (off * F - n * F) need (mulK F b) = _
    rw [← Int.sub_mul]
    exact go_mul hF r (off - n) need b
  | .up n :: r, off, need, b => by
    show go (r.map (Cmd.mul F)) (off * F + n * F) need (mulK F b) = _
    rw [← Int.add_mul]
    exact go_mul hF r (off + n) need b
theorem last_mul (F : Int) : ∀ cs : List Cmd, last (cs.map (Cmd.mul F)) = last cs * F
  | [] => by show (0 : Int) = 0 * F; omega
  | c :: cs => by
    have e : ∀ (c : Cmd) (cs : List Cmd), last (c :: cs) = c.dv + last cs := fun _ _ => rfl
    have d : (c.mul F).dv = c.dv * F := by
      cases c with
      | up n =>
        show -(n * F) = -n * F
        rw [Int.neg_mul]
      | down n => rfl
      | right n => show (0 : Int) = 0 * F; omega
      | left n => show (0 : Int) = 0 * F; omega
      | home => show (0 : Int) = 0 * F; omega
      | stop => show (0 : Int) = 0 * F; omega
    rw [List.map_cons, e, e, last_mul F cs, d, Int.add_mul]
theorem good_mul {F : Int} (hF : 1 ≤ F) {b : Ps} (g : Good b) : Good (mulK F b) := by
  refine ⟨?_, fun q hq => ?_⟩
  · have e : keys (mulK F b) = (keys b).map (· * F) := by
      unfold keys mulK
      rw [List.map_map, List.map_map]
      rfl
    rw [e, List.nodup_iff_pairwise_ne, List.pairwise_map]
    exact (List.nodup_iff_pairwise_ne.mp g.nd).imp fun h z => h ((mul_inj hF).mp z)
  · obtain ⟨p, hp, rfl⟩ := List.mem_map.mp hq
    exact g.pos p hp
theorem asc_mul {F : Int} (hF : 1 ≤ F) {b : Ps} (h : Asc b) : Asc (mulK F b) := by
  unfold Asc mulK
  rw [List.pairwise_map]
  exact h.imp fun h => Int.mul_lt_mul_of_pos_right h (by omega)
theorem box_mul {F : Int} (hF : 1 ≤ F) {cs : List Cmd} {goal : Int} (h : AllOk cs) (hg : 1 ≤ goal) :
    boxM (cs.map (Cmd.mul F)) goal = (boxM cs goal).map fun x => (x.1, mulK F x.2) := by
  unfold boxM
  rw [last_mul, ← List.map_reverse]
  have e := go_mul hF cs.reverse (last cs) goal []
  have e' : go (cs.reverse.map (Cmd.mul F)) (last cs * F) goal [] = (go cs.reverse (last cs) goal []).map fun x => (x.1, mulK F x.2) := e
  rw [e']
  rcases go_goF (off := last cs) (allOk_rev h) good_nil hg with ⟨e1, _⟩ | ⟨st, b, e1, g, _, _⟩
  · rw [e1]
    rfl
  · rw [e1]
    show some (st, (mulK F b).mergeSort leK) = some (st, mulK F (b.mergeSort leK))
    have gm := good_mul hF g
    have key : (mulK F b).mergeSort leK = mulK F (b.mergeSort leK) := by
      have p : (mulK F (b.mergeSort leK)).Perm (mulK F b) := (List.mergeSort_perm b leK).map _
      refine asc_ext (asc_sort gm) (asc_mul hF (asc_sort g)) fun k => ?_
      rw [look_perm gm (List.mergeSort_perm _ leK), look_perm gm p]
    rw [key]
def Cmd.vert : Cmd → Bool
  | .down _ => true
  | .up _ => true
  | _ => false
theorem go_plain : ∀ (r : List Cmd) (off need : Int) (b : Ps), (∀ c ∈ r, c.vert = true) → go r off need b = some (some need, b)
  | [], _, _, _, _ => rfl
  | .down n :: r, off, need, b, h => go_plain r (off - n) need b fun c hc => h c (List.mem_cons_of_mem _ hc)
  | .up n :: r, off, need, b, h => go_plain r (off + n) need b fun c hc => h c (List.mem_cons_of_mem _ hc)
  | .right n :: r, _, _, _, h => nomatch h _ List.mem_cons_self
  | .left n :: r, _, _, _, h => nomatch h _ List.mem_cons_self
  | .home :: r, _, _, _, h => nomatch h _ List.mem_cons_self
  | .stop :: r, _, _, _, h => nomatch h _ List.mem_cons_self
theorem box_plain (cs : List Cmd) (goal : Int) (h : ∀ c ∈ cs, c.vert = true) : boxM cs goal = some (some goal, []) := by
  unfold boxM
  rw [go_plain cs.reverse (last cs) goal [] fun c hc => h c (List.mem_reverse.mp hc)]
  show some (some goal, ([] : Ps).mergeSort leK) = _
  rw [List.mergeSort_nil]
end Gc

/-! sorted(d.items()), d a dict of ints by ints -/
namespace Gc
open PySem PySem.Spec PyProof.Rows L2
/-- what such a dict holds -/
def dkI (ps : List (Int × Int)) : List (L2.Key × V) := ps.map fun q => (Sum.inl q.1, V.int q.2)
def encP (q : Int × Int) : PyData := .tuple [.int q.1, .int q.2]
def leP (p q : Int × Int) : Bool := decide (p.1 < q.1 ∨ (p.1 = q.1 ∧ p.2 ≤ q.2))
theorem dkI_at {ps : List (Int × Int)} {j : Nat} {kv : L2.Key × V} (h : (dkI ps)[j]? = some kv) : ∃ q, ps[j]? = some q ∧ kv = (Sum.inl q.1, V.int q.2) := by
  unfold dkI at h
  rw [List.getElem?_map] at h
  cases e : ps[j]? with
  | none =>
    rw [e] at h
    cases h
  | some q =>
    rw [e] at h
    exact ⟨q, rfl, (Option.some.inj h).symm⟩
theorem pairs_at {P : Program} {w : World} : ∀ {es : List DictEntry} {vs : List (L2.Key × Value)} {j : Nat} {e : DictEntry}, Pairs (mixKind P w) es vs → es[j]? = some e →
    ∃ kv, vs[j]? = some kv ∧ keyIs kv.1 e.key = true ∧ e.val = kv.2
  | _, _, 0, e, .cons h1 h2 _, h => by
    obtain rfl := Option.some.inj h
    exact ⟨_, rfl, h1, h2⟩
  | _, _, j + 1, e, .cons _ _ t, h => pairs_at (j := j) t h
theorem pairs_len {P : Program} {w : World} : ∀ {es : List DictEntry} {vs : List (L2.Key × Value)}, Pairs (mixKind P w) es vs → es.length = vs.length
  | _, _, .nil => rfl
  | _, _, .cons _ _ t => by
    rw [List.length_cons, List.length_cons, pairs_len t]
def rSortItI : V → Hp → VK → Prop := fun x H Q => ∃ (d : Addr) (ps : List (Int × Int)), x = .ref d ∧ H d = some (.dK (dkI ps)) ∧
  ∀ (H' : Hp) (l : Addr) (ts : List Addr), Same H H' → H l = none → H' l = some (.lst (ts.map V.ref)) →
    Paired (fun (t : Addr) (q : Int × Int) => H' t = some (.tup [.int q.1, .int q.2])) ts (ps.mergeSort leP) → Q (.ref l) H'
theorem each_paired {R : Value → Int × Int → Prop} {F : Addr → Int × Int → Prop} (hR : ∀ v q, R v q → ∃ t, v = .ref t ∧ F t q) : ∀ {vs : List Value} {qs : List (Int × Int)}, PySem.W.EachIs R vs qs →
    ∃ ts : List Addr, vs = ts.map Value.ref ∧ Paired F ts qs
  | _, _, .nil => ⟨[], rfl, .nil⟩
  | _, _, .cons h t => by
    obtain ⟨t0, e0, f0⟩ := hR _ _ h
    obtain ⟨ts, e1, f1⟩ := each_paired hR t
    exact ⟨t0 :: ts, by rw [e0, e1]; rfl, .cons f0 f1⟩
theorem vals_refs : ∀ as : List Addr, Vals (as.map V.ref) (as.map Value.ref)
  | [] => .nil
  | _ :: as => .cons rfl (vals_refs as)
section
variable {X : Cx}
theorem sort_items_run {pins : List (Addr × Obj)} {σ : L2.St} {H : Hp} {s : Shared} {Q : VK} {p d : Addr} {ps : List (Int × Int)} (I : Inv X pins σ H s) (hh : X.A.handled = none)
    (hu : X.A.units + 64 < cLine) (hd : H d = some (.dK (dkI ps))) (view : s.heap.IsItemsView p d)
    (q : ∀ (H' : Hp) (l : Addr) (ts : List Addr), Same H H' → H l = none → H' l = some (.lst (ts.map V.ref)) →
      Paired (fun (t : Addr) (q : Int × Int) => H' t = some (.tup [.int q.1, .int q.2])) ts (ps.mergeSort leP) → Q (.ref l) H') :
    wpAny (model X.prog X.w) X.A (call (.builtin "sorted") [.ref p]) (EP X pins σ Q) X.xe s := by
  obtain ⟨hz, hs0, vs, kv, o, es, ep, ho, hx, hdat, hko, hpr, hnd⟩ := (show ObjOk X.prog X.w H s.heap d (.dK (dkI ps)) from I.hok d _ hd)
  have l1 : (dkI ps).length = vs.length := Paired.length kv
  have l2 : es.toList.length = vs.length := pairs_len hpr
  have l3 : (dkI ps).length = ps.length := List.length_map ..
  have l4 : es.toList.length = es.size := by simp
  have ent : ∀ (j : Nat) (e : DictEntry), es[j]? = some e → ∃ (q : Int × Int) (t1 t2 : Tok), ps[j]? = some q ∧ e.key = .int q.1 t1 ∧ e.val = .int q.2 t2 := by
    intro j e he
    obtain ⟨kv', e1, e2, e3⟩ := pairs_at hpr (show es.toList[j]? = some e by simpa using he)
    obtain ⟨y, f1, f2, f3⟩ := L2.DX.pget kv e1
    obtain ⟨q, g1, rfl⟩ := dkI_at f1
    have f2' : Sum.inl q.1 = kv'.1 := f2
    rw [← f2'] at e2
    obtain ⟨t1, k1⟩ := Value.isInt_shape (k := q.1) (v := e.key) e2
    obtain ⟨t2, k2⟩ : ∃ t, kv'.2 = Value.int q.2 t := f3
    exact ⟨q, t1, t2, g1, k1, e3.trans k2⟩
  refine DT.sortedI (es := es) (ep := ep) hh view ⟨o, ho, hx, hdat⟩ (by omega) fun h' tk as hk hlt hl hG => ?_
  have nd : as.Nodup := List.Pairwise.imp (fun h => Nat.ne_of_lt h) hG.rise
  have lap : as.length = ps.length := by omega
  have pr : ∀ (j : Nat) (b : Addr), as[j]? = some b → ∃ (q : Int × Int) (t1 t2 : Tok), ps[j]? = some q ∧
      h'.get? b = some { cls := .type "tuple", data := .seq #[Value.int q.1 t1, Value.int q.2 t2] } := by
    intro j b hj
    obtain ⟨e, he, hg⟩ := hG.pairs j b hj
    obtain ⟨q, t1, t2, e1, e2, e3⟩ := ent j e he
    rw [e2, e3] at hg
    exact ⟨q, t1, t2, e1, hg⟩
  have hob : (h'.push { cls := .type "list", data := .seq (as.map Value.ref).toArray }).get? h'.objs.size = some (seqObj "list" (as.map Value.ref).toArray 0) := Heap.get?_push_size _ rfl
  have ne0 : ∀ b o, h'.get? b = some o → b ≠ h'.objs.size := fun b o e => Nat.ne_of_lt (Heap.lt_size e)
  have ka : ∀ b o, h'.get? b = some o → (h'.push { cls := .type "list", data := .seq (as.map Value.ref).toArray }).get? b = some o := fun b o e => Heap.get?_push_of_some _ e
  generalize hh2 : h'.push { cls := .type "list", data := .seq (as.map Value.ref).toArray } = h2 at hob ka ⊢
  have kb : ∀ b o, s.heap.get? b = some o → h2.get? b = some o := fun b o e => ka b o (hk b o e)
  have zipR : ∀ z, z ∈ (as.map Value.ref).zip ps → ∃ (j : Nat) (t : Addr), z.1 = Value.ref t ∧ as[j]? = some t ∧ ps[j]? = some z.2 := by
    intro z hz'
    obtain ⟨j, hj⟩ := List.mem_iff_getElem?.mp hz'
    obtain ⟨j1, j2⟩ := List.getElem?_zip_eq_some.mp hj
    rw [List.getElem?_map] at j1
    cases e : as[j]? with
    | none =>
      rw [e] at j1
      cases j1
    | some t =>
      rw [e] at j1
      exact ⟨j, t, (Option.some.inj j1).symm, e, j2⟩
  have eR : PySem.W.EachIs (fun v (q : Int × Int) => ∃ (j : Nat) (t : Addr), v = Value.ref t ∧ as[j]? = some t ∧ ps[j]? = some q) (as.map Value.ref) ps :=
    PySem.W.EachIs.of_zip (by rw [List.length_map]; exact lap) zipR
  have er : PySem.W.EachIs (fun v (q : Int × Int) => ∃ bs, Reads h2 v (encP q) bs ∧ h'.objs.size ∉ bs) (as.map Value.ref) ps := by
    refine eR.mono fun v q h => ?_
    obtain ⟨j, t, rfl, e1, e2⟩ := h
    obtain ⟨q', t1, t2, g1, g2⟩ := pr j t e1
    obtain rfl : q' = q := Option.some.inj (g1.symm.trans e2)
    exact ⟨_, .tuple (ka _ _ g2) rfl rfl (.cons (.int _ _) (.cons (.int _ _) .nil)), by simp⟩
  refine PySem.W.list_sort_data (s := { s with heap := h2, toks := tk }) (A := X.A.in1) (enc := encP) (bs := ps) (vs := as.map Value.ref) hob eR er
    (PySem.W.AllAlike.of fun b b' => by simp [encP, PySem.W.alike, PySem.W.alikeAll]) (PySem.W.Sortable.tuples fun b => ⟨_, _, rfl⟩) (by omega)
    (fun b _ => by show X.A.units + 1 + 1 + 1 < cLine; omega) fun out ol oe => ?_
  have le_eq : PySem.W.dataLe false encP = leP := PySem.W.dataLe_ii (fun q : Int × Int => q.1) (fun q => q.2)
  rw [le_eq] at oe
  show EP X pins σ Q (.ref h'.objs.size) { s with heap := sortedHeap h2 h'.objs.size (as.map Value.ref) out.toArray, toks := tk }
  obtain ⟨ts, rfl, tp⟩ := each_paired (F := fun t q => ∃ j : Nat, as[j]? = some t ∧ ps[j]? = some q) (fun v q h => by
    obtain ⟨j, t, e1, e2, e3⟩ := h
    exact ⟨t, e1, j, e2, e3⟩) oe
  have kF : ∀ b o, b ≠ h'.objs.size → h2.get? b = some o → (sortedHeap h2 h'.objs.size (as.map Value.ref) (ts.map Value.ref).toArray).get? b = some o :=
    fun b o hb e => (PyProof.Rows.sortedHeap_old hb (Heap.lt_size e)).trans e
  have kS : ∀ b o, s.heap.get? b = some o → (sortedHeap h2 h'.objs.size (as.map Value.ref) (ts.map Value.ref).toArray).get? b = some o :=
    fun b o e => kF b o (ne0 _ _ (hk b o e)) (kb b o e)
  obtain ⟨eF, heF⟩ := PyProof.Rows.sortedHeap_at (vs := as.map Value.ref) (out := (ts.map Value.ref).toArray) hob
  generalize sortedHeap h2 h'.objs.size (as.map Value.ref) (ts.map Value.ref).toArray = hF at kF kS heF ⊢
  have I1 : Inv X pins σ H { s with heap := hF, toks := tk } := I.kept (t' := tk) kS
  have hn0 : H h'.objs.size = none := I.hok.fresh (Nat.le_of_lt hlt)
  have tl : ts.length = ps.length := by
    rw [← ol, List.length_map]
  have I2 : Inv X pins σ (upd H h'.objs.size (.lst (ts.map V.ref))) { s with heap := hF, toks := tk } :=
    I1.take (h' := hF) (t' := tk) (fun b ob _ e => e) (I.fpOk (Nat.le_of_lt hlt) hn0) ⟨by rw [List.length_map]; omega, ts.map Value.ref, eF, vals_refs ts, heF⟩
  obtain ⟨H2, I3, g, qt⟩ := L2.DX.takeT (P := fun b vs => ∃ (j : Nat) (q : Int × Int), as[j]? = some b ∧ ps[j]? = some q ∧ vs = [.int q.1, .int q.2]) I as _ I2 nd fun b hb => by
    obtain ⟨j, hj⟩ := List.mem_iff_getElem?.mp hb
    obtain ⟨q, t1, t2, e1, e2⟩ := pr j b hj
    have old : s.heap.objs.size ≤ b := Nat.le_of_lt (hG.above b hb)
    refine ⟨old, ?_, [.int q.1, .int q.2], ⟨j, q, hj, e1, rfl⟩, fun H3 => ⟨by show 2 ≤ sizeLine; decide, [Value.int q.1 t1, Value.int q.2 t2], .cons ⟨_, rfl⟩ (.cons ⟨_, rfl⟩ .nil), ⟨_, kF _ _ (ne0 _ _ e2) (ka _ _ e2), rfl, 0, rfl⟩⟩⟩
    rw [upd_ne (ne0 _ _ e2)]
    exact I.hok.fresh old
  refine ⟨.ref h'.objs.size, H2, I3, rfl, q H2 h'.objs.size ts (fun b o e => g b o (by rw [upd_ne (ne_of_none e hn0)]; exact e)) hn0 (g _ _ upd_same) ?_⟩
  refine Paired.mapP tp fun t q h => ?_
  obtain ⟨j, j1, j2⟩ := h
  obtain ⟨vs', ⟨i, q', i1, i2, ev⟩, hH⟩ := qt t (List.mem_of_getElem? j1)
  have eij : i = j := (List.getElem?_inj (List.getElem?_eq_some_iff.mp i1).1 nd).mp (i1.trans j1.symm)
  subst eij
  obtain rfl : q' = q := Option.some.inj (i2.symm.trans j2)
  rw [ev] at hH
  exact hH
def tSortItems (te : TE) : TE := fun σ H Q => te σ H fun x H1 => rSortItI x H1 Q
variable {e : Expr} {te : TE} {p apos cpos pos : Pos}
theorem pe_sortItems (hc : X.calm = true) (hu : X.A.units + 64 < cLine) (he : PE X e te) (hg : Gl X "sorted") (hm : X.mg "sorted" = none)
    (hv : bootBuiltins "sorted" = some (.builtin "sorted"))
    (hbase : attributeBase e "items" X.env (eval e X.env) = eval e X.env := by rfl) (hline : (apos.endLine == cpos.line) = true := by rfl)
    (hs : starEach [.Call (.Attribute e "items" apos) [] [] cpos] X.env = (false, eval (.Call (.Attribute e "items" apos) [] [] cpos) X.env) :: starEach [] X.env := by rfl) :
    PE X (.Call (.Name "sorted" p) [.Call (.Attribute e "items" apos) [] [] cpos] [] pos) (tSortItems te) := by
  refine ⟨fun pins s σ H Q I hq => ?_⟩
  refine wpAny_Call_Name_kw (ld_blt I hg hm hv ?_)
  refine PyProof.Rows.callWith_builtin1 ?_ hs rfl
  rw [hs]
  show wpAny _ _ (spliced ((false, eval (.Call (.Attribute e "items" apos) [] [] cpos) X.env) :: backTo pos (starEach [] X.env))) _ _ s
  refine Calls.spliced_cons ?_
  refine wpAny_Call_method (T := "dict") (id := "dict.items") hbase rfl hline F.plainAttrs_dict F.slot_dict_items F.type_dict_items
    (thn (he.run pins s σ H _ I hq) fun u s1 ⟨x, H1, I1, rx, d, ps, ex, hd, q⟩ => ?_)
  subst ex
  obtain rfl : u = Value.ref d := rx
  obtain ⟨hz, hs0, vs, kv, hdo⟩ := I1.hok d _ hd
  have I2 : Inv X pins σ H1 { s1 with heap := s1.heap.push { cls := .type "dict_items", data := .fields #[.ref d] } } :=
    I1.kept (t' := s1.toks) fun b ob z => Heap.get?_push_of_some _ z
  refine ⟨hdo.typeIs, hdo.mapOf.noDict, ?_⟩
  show wpAny _ _ (callWith cpos (.builtin "dict.items") [.ref d] [] []) _ X.xe s1
  refine method_meetsIn F.slot_dict_items F.entry_dict_items rfl (PySem.evalArgs_none ⟨rfl, hdo.typeIs, F.args_dict_items_1 _, _, meets_dict_items (mixKind X.prog X.w) d hs0, ⟨vs, hdo⟩, ?_⟩)
  refine Calls.spliced_nil ?_
  exact sort_items_run I2 (I1.ok.hd hc) hu hd ⟨_, Heap.get?_push_size _ rfl, rfl, rfl⟩ q
end
end Gc

/-! match over written texts, with a last case for the rest -/
namespace Gc
open PySem L2
/-- what is wanted of the cases, by the subject's value -/
abbrev TM := V → TS
structure MC (X : Cx) (cs : List MatchCase) (t : TM) : Prop where
  run : ∀ (first : Bool) (pins : List (Addr × Obj)) (s : Shared) (σ : L2.St) (H : Hp) (D : Ends) (x : V) (v : Value),
    Inv X pins σ H s → RelV x v → t x D σ H →
    wpAny (model X.prog X.w) X.A (matchCases cs X.env v first) (fun f s' => SP X pins D f s') X.xe s
def mNil : TM := fun _ D σ H => D.nx σ H
/-- case 'z': .. -/
def mStr (z : Str) (tb : TS) (r : TM) : TM := fun x D σ H => ∃ y, x = .str y ∧ if decide (y = z) = true then tb D σ H else r x D σ H
/-- case _: .. -/
def mAny (tb : TS) : TM := fun _ D σ H => tb D σ H
section
variable {X : Cx} {rest : List MatchCase} {body : List Stmt} {tb : TS} {r : TM} {z : Str} {k : Nat} {p1 p2 pos : Pos} {e : Expr} {te : TE}
theorem mc_nil : MC X [] mNil := ⟨fun _ pins s σ H D x v I _ h => wpAny_matchCases_nil ⟨σ, H, I, h⟩⟩
theorem mc_str (hb : PSs X body tb) (hr : MC X rest r) :
    MC X (⟨.MatchValue (.Constant (.str z) k p1) p2, none, body⟩ :: rest) (mStr z tb r) := by
  refine ⟨fun first pins s σ H D x v I rx h => ?_⟩
  obtain ⟨y, rfl, h⟩ := h
  refine wpAny_matchCases_cons (wpAny_matchPattern_Value ?_)
  have hq : PE X (.Constant (.str z) k p1) (tC (.str z)) := pe_str
  refine wpAny_mono (hq.run pins s σ H (fun w H' => w = .str z ∧ H' = H) I ⟨rfl, rfl⟩) (fun u s1 hu => ?_) fun _ _ q => q
  obtain ⟨w, H1, I1, rw1, rfl, rfl⟩ := hu
  refine wpAny_mono ((op_eq (X := X)) pins s1 σ _ (.str y) (.str z) v u (fun w H' => w = .bl (decide (y = z)) ∧ H' = _) I1 rx rw1 ⟨rfl, ?_, rfl⟩) (fun c s2 hc => ?_) fun _ _ q => q
  · by_cases q : y = z
    · subst q
      rw [decide_eq_true (Eq.refl _), decide_eq_true (Eq.refl _)]
    · rw [decide_eq_false q, decide_eq_false fun e => q (V.str.inj e)]
  · obtain ⟨w, H2, I2, rw2, rfl, rfl⟩ := hc
    obtain rfl : c = Value.bool (decide (y = z)) := rw2
    refine wpAny_pure ?_
    by_cases q : y = z
    · rw [decide_eq_true q] at h ⊢
      show wpAny _ _ (assignInOrder [] []) _ _ _
      refine wpAny_assignInOrder_none ?_
      exact hb.run pins s2 σ _ D I2 h
    · rw [decide_eq_false q] at h ⊢
      exact hr.run false pins s2 σ _ D (.str y) v I2 rx h
theorem mc_any (hb : PSs X body tb) : MC X (⟨.MatchAs none none p2, none, body⟩ :: rest) (mAny tb) := by
  refine ⟨fun first pins s σ H D x v I rx h => ?_⟩
  refine wpAny_matchCases_cons (wpAny_matchPattern_Capture ?_)
  show wpAny _ _ (assignInOrder [] []) _ _ _
  exact wpAny_assignInOrder_none (hb.run pins s σ H D I h)
def tMatch (te : TE) (t : TM) : TS := fun D σ H => te σ H fun x H1 => t x D σ H1
theorem ps_match {cs : List MatchCase} {t : TM} (he : PE X e te) (hc : MC X cs t) : PS X (.Match e cs pos) (tMatch te t) := by
  refine ⟨fun pins s σ H D I h => ?_⟩
  refine wpAny_Match (wpAny_mono (he.run pins s σ H _ I h) (fun v s1 hv => ?_) fun _ _ q => q)
  obtain ⟨x, H1, I1, rx, q⟩ := hv
  exact hc.run true pins s1 σ H1 D x v I1 rx q
end
end Gc

namespace Gc
open PySem PyProof.Rows L2
/-! ### heaps: all that stood but at two places -/
def Keep (a d : Addr) (H H' : Hp) : Prop := ∀ b o, b ≠ a → b ≠ d → H b = some o → H' b = some o
theorem Keep.refl {a d : Addr} (H : Hp) : Keep a d H H := fun _ _ _ _ h => h
theorem Keep.trans {a d : Addr} {H H1 H2 : Hp} (x : Keep a d H H1) (y : Keep a d H1 H2) : Keep a d H H2 := fun b o h1 h2 h => y b o h1 h2 (x b o h1 h2 h)
theorem Keep.of {a d : Addr} {H H' : Hp} (e : Same H H') : Keep a d H H' := fun b o _ _ h => e b o h
theorem same_upd {H H' : Hp} {p : Addr} {o : HO} (e : Same H H') (h : H' p = none) : Same H (upd H' p o) := fun b u hb => by
  rw [upd_ne (ne_of_none (e b u hb) h)]
  exact e b u hb
theorem Keep.upd1 {a d : Addr} {H H' : Hp} {o : HO} (e : Keep a d H H') : Keep a d H (upd H' a o) := fun b u h1 h2 h => by
  rw [upd_ne h1]
  exact e b u h1 h2 h
theorem Keep.upd2 {a d : Addr} {H H' : Hp} {o : HO} (e : Keep a d H H') : Keep a d H (upd H' d o) := fun b u h1 h2 h => by
  rw [upd_ne h2]
  exact e b u h1 h2 h
theorem Keep.new {a d p : Addr} {H H' : Hp} {o : HO} (e : Keep a d H H') (h : H' p = none) : Keep a d H (upd H' p o) := fun b u h1 h2 hb => by
  rw [upd_ne (ne_of_none (e b u h1 h2 hb) h)]
  exact e b u h1 h2 hb

theorem cpow {i j : Int} (h : (decide (0 ≤ j) && (decide (j ≤ 1000000) && decide (i.natAbs < 2 ^ 64))) = true) : CPow i j := by
  rw [Bool.and_eq_true, Bool.and_eq_true] at h
  exact ⟨of_decide_eq_true h.1, of_decide_eq_true h.2.1, of_decide_eq_true h.2.2⟩
theorem pow_small {x : Int} {a k b : Nat} (h : x.natAbs < 2 ^ a) (hb : a * k < b) : (x ^ k).natAbs < 2 ^ b := by
  rw [Int.natAbs_pow]
  have h1 : x.natAbs ^ k ≤ (2 ^ a) ^ k := Nat.pow_le_pow_left (Nat.le_of_lt h) k
  rw [← Nat.pow_mul] at h1
  exact Nat.lt_of_le_of_lt h1 (Nat.pow_lt_pow_right (by decide) hb)
theorem int_at {ns : List Int} {i : Nat} {y : V} (h : (ns.map V.int)[i]? = some y) : ∃ u, y = V.int u := by
  rw [List.getElem?_map] at h
  cases e : ns[i]? with
  | none =>
    rw [e] at h
    cases h
  | some u =>
    rw [e] at h
    exact ⟨u, (Option.some.inj h).symm⟩
theorem dp_ints {K : PySem.W.Frag} {H : Hp} : ∀ ns : List Int, DpAll K H (ns.map V.int) (ns.map PyData.int)
  | [] => .nil
  | x :: r => .cons (.int x) (dp_ints r)
/-- a def that is called by its name and lets nothing out -/
structure Cal (P : Program) (w : World) (K : PySem.W.Frag) (mg : Str → Option Value) (base : Heap) (k : Nat) (x : Str) (sp : Sp) : Prop where
  ex : ∃ (f : Addr) (fd : FuncData) (ps : List Str), FnOk P w K mg base CX0 k f fd ps sp ∧
    mg x = some (.ref f) ∧ PySem.W.keepIn K (.ref f) = true ∧ Binds K fd ps []
theorem pe_cal {X : Cx} {k j : Nat} {x : Str} {sp : Sp} {p pos : Pos} {e : Expr} {es : List Expr} {t : TA}
    (c : Cal X.prog X.w X.K X.mg X.base k x sp) (hr : Room j X.A) (hk : k ≤ j) (hg : Gl X x) (ha : PA X (e :: es) t)
    (hdb : (x == ("__debug__" : Str)) = false := by decide)
    (he : starEach (e :: es) X.env = (false, eval e X.env) :: starEach es X.env := by rfl)
    (hpl : (backTo pos (starEach es X.env)).any (·.1) = false := by rfl) :
    PE X (.Call (.Name x p) (e :: es) [] pos) (tCall sp [] E0 t) := by
  obtain ⟨f, fd, ps, F, hm, kp, b⟩ := c.ex
  exact pe_call F (hr.mono hk) hg hm kp b .nil pass0 ha hdb he hpl

/-! ### data carried along -/
theorem seq_t {K : PySem.W.Frag} {H H' : Hp} {a : Addr} {xs : List V} (e : Same H H') (h : SqT K H a xs) : SqT K H' a xs := by
  rcases h with (h | ⟨o, h⟩) | h
  · exact .inl (.inl (e _ _ h))
  · exact .inl (.inr ⟨o, e _ _ h⟩)
  · exact .inr h
mutual
theorem dp_same {K : PySem.W.Frag} {H H' : Hp} (e : Same H H') : ∀ (d : PyData) (v : V), Dp K H v d → Dp K H' v d
  | .none, _, h => by cases h; exact .non
  | .bool b, _, h => by cases h; exact .bl b
  | .int i, _, h => by cases h; exact .int i
  | .str x, _, h => by cases h; exact .str x
  | .list ds, _, h => by
    cases h with
    | lst q r => exact .lst (e.seq q) (dps_same e ds _ r)
  | .tuple ds, _, h => by
    cases h with
    | tup q r => exact .tup (seq_t e q) (dps_same e ds _ r)
  | .dict _, _, h => by cases h
theorem dps_same {K : PySem.W.Frag} {H H' : Hp} (e : Same H H') : ∀ (ds : List PyData) (vs : List V), DpAll K H vs ds → DpAll K H' vs ds
  | [], _, h => by cases h; exact .nil
  | d :: ds, _, h => by
    cases h with
    | cons a b => exact .cons (dp_same e d _ a) (dps_same e ds _ b)
end
theorem dps_len {K : PySem.W.Frag} {H : Hp} : ∀ {vs : List V} {ds : List PyData}, DpAll K H vs ds → vs.length = ds.length
  | [], _, h => by cases h; rfl
  | _ :: vs, _, h => by
    cases h with
    | cons a b => rw [List.length_cons, List.length_cons, dps_len b]
theorem dps_at {K : PySem.W.Frag} {H : Hp} : ∀ {vs : List V} {ds : List PyData} {i : Nat}, DpAll K H vs ds → i < ds.length → ∃ v d, vs[i]? = some v ∧ ds[i]? = some d ∧ Dp K H v d
  | _, _, 0, h, l => by
    cases h with
    | nil => exact absurd l (by decide)
    | cons a b => exact ⟨_, _, rfl, rfl, a⟩
  | _, _, i + 1, h, l => by
    cases h with
    | nil => exact absurd l (Nat.not_lt_zero _)
    | cons a b => exact dps_at (i := i) b (Nat.lt_of_succ_lt_succ l)
theorem depth_at : ∀ {ds : List PyData} {i : Nat} {d : PyData}, ds[i]? = some d → d.depth ≤ PyData.depthAll ds
  | [], i, d, h => by simp at h
  | x :: r, 0, d, h => by
    have e : x = d := Option.some.inj h
    subst e
    simp only [PyData.depthAll]
    exact Nat.le_max_left _ _
  | x :: r, i + 1, d, h => by
    have ih := depth_at (ds := r) (i := i) (d := d) h
    simp only [PyData.depthAll]
    exact Nat.le_trans ih (Nat.le_max_right _ _)
theorem ty_l {K : PySem.W.Frag} {H : Hp} {a : Addr} {xs : List V} (h : SqL K H a xs) : TyX K H (.ref a) (.type "list") := by
  rcases h with (h | ⟨o, h⟩) | h
  · exact .base (.lst h)
  · exact .base (.frz h)
  · obtain ⟨o, its, n, e, c, _⟩ := h
    exact .kList e c
theorem ty_t {K : PySem.W.Frag} {H : Hp} {a : Addr} {xs : List V} (h : SqT K H a xs) : TyX K H (.ref a) (.type "tuple") := by
  rcases h with (h | ⟨o, h⟩) | h
  · exact .base (.tup h)
  · exact .fTuple h
  · obtain ⟨o, its, n, e, c, _⟩ := h
    exact .kTuple e c
theorem isi_q {K : PySem.W.Frag} {H : Hp} {x : V} {t n : String} {b : Bool} {Q : VK} (ty : TyX K H x (.type t)) (k : kitB t n = some b) (q : Q (.bl b) H) : rIsi K [x, .ty n] H Q :=
  ⟨x, .ty n, .type t, .type n, b, rfl, .ty n, ty, kit_ty k, q⟩
theorem log9 {x : Int} {a : Nat} (h : x.natAbs < 2 ^ a) (ha : a < 9000) : x.natAbs.log2 < 9000 :=
  Nat.lt_of_le_of_lt (Nat.le_of_lt_succ (PySem.Flt.log2_lt_of (k := a + 1) (Nat.succ_pos _) (Nat.lt_trans h (Nat.pow_lt_pow_right (by decide) (Nat.lt_succ_self a))))) ha
/-- a power of any whole number, its size told -/
def CPowW (i j : Int) : Prop := 0 ≤ j ∧ j ≤ 64 ∧ i.natAbs.log2 < 100000
theorem op_powW {X : Cx} : OpR X (binaryOp .Pow) (rI CPowW fun i j => .int (i ^ j.toNat)) := opI fun i j _ _ _ _ _ hc q => by
  refine pow_int hc.1 ?_ q
  have h1 : Builtin.Int.intBits i ≤ i.natAbs.log2 + 1 := by
    unfold Builtin.Int.intBits
    split <;> omega
  have h2 := hc.2.1
  have h3 := hc.2.2
  have h4 : (Builtin.Int.intBits i : Int) ≤ 100000 := by omega
  calc (Builtin.Int.intBits i : Int) * j ≤ 100000 * 64 := Int.mul_le_mul h4 h2 hc.1 (by decide)
    _ ≤ 2 ^ 27 := by decide
theorem cpowW {i j : Int} {a : Nat} (hj : 0 ≤ j) (hj2 : j ≤ 64) (h : i.natAbs < 2 ^ a) (ha : a < 100000) : CPowW i j :=
  ⟨hj, hj2, Nat.lt_of_le_of_lt (Nat.le_of_lt_succ (PySem.Flt.log2_lt_of (k := a + 1) (Nat.succ_pos _) (Nat.lt_trans h (Nat.pow_lt_pow_right (by decide) (Nat.lt_succ_self a))))) ha⟩
def rLenQ (K : PySem.W.Frag) : List V → Hp → VK → Prop := fun xs H Q => ∃ p ys, xs = [.ref p] ∧ (SqL K H p ys ∨ SqT K H p ys) ∧ Q (.int ys.length) H
end Gc

namespace Gc
open PySem PyProof.Rows L2
/-! ### commands as tuples -/
def encC : Cmd → List V
  | .down n => [.str "down", .int n]
  | .up n => [.str "up", .int n]
  | .right n => [.str "right", .int n]
  | .left n => [.str "left", .int n]
  | .home => [.str "home"]
  | .stop => [.str "end"]
def CmdAt (K : PySem.W.Frag) (H : Hp) (v : V) (c : Cmd) : Prop := ∃ a, v = .ref a ∧ SqT K H a (encC c)
def CmdsOf (K : PySem.W.Frag) (H : Hp) (xs : List V) (cs : List Cmd) : Prop := Paired (CmdAt K H) xs cs
theorem CmdAt.same {K : PySem.W.Frag} {H H' : Hp} {v : V} {c : Cmd} (e : Same H H') (h : CmdAt K H v c) : CmdAt K H' v c := by
  obtain ⟨a, e1, h1⟩ := h
  exact ⟨a, e1, seq_t e h1⟩
theorem CmdsOf.same {K : PySem.W.Frag} {H H' : Hp} {xs : List V} {cs : List Cmd} (e : Same H H') (h : CmdsOf K H xs cs) : CmdsOf K H' xs cs := Paired.mapP h fun _ _ q => q.same e
theorem CmdsOf.len {K : PySem.W.Frag} {H : Hp} {xs : List V} {cs : List Cmd} (h : CmdsOf K H xs cs) : xs.length = cs.length := Paired.length h
theorem paired_at {α β : Type} {F : α → β → Prop} : ∀ {xs : List α} {ys : List β} {i : Nat} {x : α}, Paired F xs ys → xs[i]? = some x → ∃ y, ys[i]? = some y ∧ F x y
  | _, _, _, _, .nil, h => by simp at h
  | _, _, 0, x, .cons f _, h => by
    obtain rfl := Option.some.inj h
    exact ⟨_, rfl, f⟩
  | _, _, i + 1, x, .cons _ t, h => paired_at (i := i) t h
/-! ### dicts of ints by ints -/
theorem valV_dkI : ∀ (b : Ps) (k : Int), valV (dkI b) (Sum.inl k : L2.Key) = (look b k).map V.int
  | [], k => rfl
  | q :: b, k => by
    show valV (((Sum.inl q.1 : L2.Key), V.int q.2) :: dkI b) (Sum.inl k : L2.Key) = _
    rw [look_cons]
    by_cases h : q.1 = k
    · rw [if_pos h, valV_pos (by show (Sum.inl q.1 : L2.Key) = Sum.inl k; rw [h])]
      rfl
    · rw [if_neg h, valV_neg (by intro z; exact h (Sum.inl.inj z))]
      exact valV_dkI b k
theorem putK_dkI (b : Ps) (k v : Int) : putK (dkI b) (Sum.inl k : L2.Key) (V.int v) = dkI (put b k v) := by
  have ea : ((dkI b).any fun kv => decide (kv.1 = (Sum.inl k : L2.Key))) = b.any fun q => decide (q.1 = k) := by
    unfold dkI
    rw [List.any_map]
    congr 1
    funext q
    show decide ((Sum.inl q.1 : L2.Key) = Sum.inl k) = decide (q.1 = k)
    exact decide_eq_decide.mpr ⟨Sum.inl.inj, fun h => by rw [h]⟩
  unfold putK put
  rw [ea]
  by_cases h : (b.any fun q => decide (q.1 = k)) = true
  · rw [if_pos h, if_pos h]
    unfold dkI
    rw [List.map_map, List.map_map]
    refine List.map_congr_left fun q _ => ?_
    show (if (Sum.inl q.1 : L2.Key) = Sum.inl k then ((Sum.inl q.1 : L2.Key), V.int v) else (Sum.inl q.1, V.int q.2)) = (Sum.inl (if q.1 = k then (q.1, v) else q).1, V.int (if q.1 = k then (q.1, v) else q).2)
    by_cases e : q.1 = k
    · rw [if_pos e, if_pos (by rw [e])]
    · rw [if_neg e, if_neg fun z => e (Sum.inl.inj z)]
  · rw [if_neg h, if_neg h]
    unfold dkI
    rw [List.map_append]
    rfl
theorem put_len (b : Ps) (k v : Int) : (put b k v).length ≤ b.length + 1 := by
  unfold put
  split
  · rw [List.length_map]
    exact Nat.le_succ _
  · rw [List.length_append]
    exact Nat.le_refl _
theorem req_len (b : Ps) (o v : Int) : (req b o v).length ≤ b.length + 1 := put_len b o _
end Gc

namespace Gc
open PySem L2
def top (i : Nat) : Stmt := PySem.Challenge.pw_goalcolumn_k08_whole_boxes_of_joined_lis.main.body.getD i (.Pass ⟨0, 0, 0, 0⟩)
abbrev s_is_count : Stmt := top 9
abbrev s_is_command : Stmt := top 8
abbrev s_check_commands : Stmt := top 7
abbrev s_row_change : Stmt := top 13
structure TxtB (K : PySem.W.Frag) (mg : Str → Option Value) (wo wn : Addr) : Prop where
  g_WITHOUT_NUMBER : mg "WITHOUT_NUMBER" = some (.ref wo)
  g_WITH_NUMBER : mg "WITH_NUMBER" = some (.ref wn)
  tWO : ∀ H, SqT K H wo [.str "home", .str "end"]
  tWN : ∀ H, SqT K H wn [.str "down", .str "up", .str "right", .str "left"]
  isinstance : mg "isinstance" = none
  int : mg "int" = none
  bool : mg "bool" = none
  len : mg "len" = none
  enumerate : mg "enumerate" = none
  reversed : mg "reversed" = none
  sorted : mg "sorted" = none
  max : mg "max" = none
  min : mg "min" = none
def spCount : Sp := fun vs H Q _ => ∃ n : Int, vs = [.int n] ∧ 1 ≤ n ∧ Q (.bl true) H
def spIsCmd (K : PySem.W.Frag) : Sp := fun vs H Q _ => ∃ (v : V) (c : Cmd), vs = [v] ∧ CmdAt K H v c ∧ c.ok ∧ ∀ H', Same H H' → Q (.bl true) H'
def spCheck (K : PySem.W.Frag) : Sp := fun vs H Q _ => ∃ (l : Addr) (xs : List V) (cs : List Cmd), vs = [.ref l] ∧ SqL K H l xs ∧ CmdsOf K H xs cs ∧ AllOk cs ∧ cs.length ≤ 10000 ∧ ∀ H', Same H H' → Q .non H'
def spRow (K : PySem.W.Frag) : Sp := fun vs H Q _ => ∃ (v : V) (c : Cmd), vs = [v] ∧ CmdAt K H v c ∧ Q (.int c.dv) H
theorem q_in {H : Hp} {Q : VK} {x : V} {xs : List V} (h : inV x xs = true) (k : Q (.bl true) H) : Q (.bl (if (false : Bool) = true then !inV x xs else inV x xs)) H := by
  rw [if_neg Bool.false_ne_true, h]
  exact k
theorem take_snoc {α : Type} : ∀ {l : List α} {i : Nat} {x : α}, l[i]? = some x → l.take (i + 1) = l.take i ++ [x]
  | [], i, x, h => by simp at h
  | a :: l, 0, x, h => by
    obtain rfl := Option.some.inj h
    rfl
  | a :: l, i + 1, x, h => by
    have ih := take_snoc (l := l) (i := i) (x := x) h
    show a :: l.take (i + 1) = a :: l.take i ++ [x]
    rw [ih]
    rfl
def optV : Option Int → V
  | none => .non
  | some n => .int n
theorem m_no {y z : Str} {tb : TS} {r : TM} {D : Ends} {σ : L2.St} {H : Hp} (h : decide (y = z) = false) (q : r (.str y) D σ H) : mStr z tb r (.str y) D σ H := ⟨y, rfl, by rw [h]; exact iteF q⟩
theorem m_yes {y z : Str} {tb : TS} {r : TM} {D : Ends} {σ : L2.St} {H : Hp} (h : decide (y = z) = true) (q : tb D σ H) : mStr z tb r (.str y) D σ H := ⟨y, rfl, by rw [h]; exact iteT q⟩
section
variable {P : Program} {w : World} {K : PySem.W.Frag} {mg : Str → Option Value} {base : Heap} {wo wn : Addr}
theorem sc_is_count : FnScope ["number"] ["number"] (defScope s_is_count) := ⟨rfl, rfl, rfl, by decide +kernel, rfl, by decide +kernel, by decide +kernel⟩
theorem ok_is_count {f : Addr} {fd : FuncData} (F : Fun K "is_count" "is_count" s_is_count f fd) (T : TxtB K mg wo wn) : FnOk P w K mg base CX0 1 f fd ["number"] spCount := by
  refine F.ok sc_is_count (fun vs H Q E h => ?_) (fun cdv A outer s H vs Q E hr h => ?_)
  · obtain ⟨n, rfl, _⟩ := h
    rfl
  · obtain ⟨n, rfl, hn, k⟩ := h
    refine ⟨_, (pss_one (ps_ret (pe_and (pe_callB call_isi (by rfl) T.isinstance (by decide +kernel) (pa_cons (pv 0) (pa_cons (pe_bltn (v := .ty "int") (u := .type "int") (by rfl) T.int (by decide +kernel) rfl) pa_nil))) (pe_and (pe_not (pe_callB call_isi (by rfl) T.isinstance (by decide +kernel) (pa_cons (pv 0) (pa_cons (pe_bltn (v := .ty "bool") (u := .type "bool") (by rfl) T.bool (by decide +kernel) rfl) pa_nil)))) (pe_one (pe_cmpR op_ge (pv 0) pe_int (nomark _))))))), ?_⟩
    refine ⟨_, rfl, _, _, _, _, _, rfl, .ty "int", .base (.int n), kit_ty (show kitB "int" "int" = some true by decide +kernel), _, rfl, iteT ?_⟩
    refine ⟨_, rfl, _, _, _, _, _, rfl, .ty "bool", .base (.int n), kit_ty (show kitB "int" "bool" = some false by decide +kernel), _, rfl, _, rfl, iteT ?_⟩
    refine ⟨_, rfl, _, _, rfl, rfl, ?_⟩
    show Q (.bl (decide (1 ≤ n))) H
    rw [decide_eq_true hn]
    exact k
theorem sc_is_command : FnScope ["command"] ["command"] (defScope s_is_command) := ⟨rfl, rfl, rfl, by decide +kernel, rfl, by decide +kernel, by decide +kernel⟩
theorem ok_is_command {f : Addr} {fd : FuncData} (F : Fun K "is_command" "is_command" s_is_command f fd) (T : TxtB K mg wo wn) (c_is_count : Cal P w K mg base 1 "is_count" spCount) : FnOk P w K mg base CX0 2 f fd ["command"] (spIsCmd K) := by
  refine F.ok sc_is_command (fun vs H Q E h => ?_) (fun cdv A outer s H vs Q E hr h => ?_)
  · obtain ⟨v, c, rfl, _⟩ := h
    rfl
  · obtain ⟨v, c, rfl, ⟨a, rfl, ha⟩, hc, k⟩ := h
    refine ⟨_, (pss_cons (ps_if (pt_cmpR op_eq (pe_callB call_len_seq (by rfl) T.len (by decide +kernel) (pa_cons (pv 0) pa_nil)) pe_int (nomark _)) (pss_one (ps_ret (pe_cmpR op_in_seq (pe_ix ix_tup (pv 0) pe_int (fun _ _ => rfl)) (pe_glob (v := .ref wo) (by rfl) T.g_WITHOUT_NUMBER rfl) (by rfl)))) pss_nil)
      (pss_one (ps_ret (pe_and (pe_cmpR op_eq (pe_callB call_len_seq (by rfl) T.len (by decide +kernel) (pa_cons (pv 0) pa_nil)) pe_int (nomark _)) (pe_and (pe_cmpR op_in_seq (pe_ix ix_tup (pv 0) pe_int (fun _ _ => rfl)) (pe_glob (v := .ref wn) (by rfl) T.g_WITH_NUMBER rfl) (by rfl)) (pe_one (pe_cal c_is_count hr (by decide) (by rfl) (pa_cons (pe_ix ix_tup (pv 0) pe_int (fun _ _ => rfl)) pa_nil)))))))), ?_⟩
    have k0 := k H (Same.refl H)
    cases c with
    | down n =>
      refine ⟨_, rfl, a, _, rfl, .inr ha, rfl, _, rfl, iteF ?_⟩
      refine ⟨_, rfl, a, _, rfl, .inr ha, rfl, _, rfl, iteT ?_⟩
      refine ⟨_, rfl, a, _, 0, _, rfl, rfl, ha, rfl, wn, _, rfl, .inr (T.tWN _), rfl, rfl, true, by decide +kernel, iteT ?_⟩
      exact ⟨_, rfl, a, _, 1, _, rfl, rfl, ha, rfl, n, rfl, hc, k0⟩
    | up n =>
      refine ⟨_, rfl, a, _, rfl, .inr ha, rfl, _, rfl, iteF ?_⟩
      refine ⟨_, rfl, a, _, rfl, .inr ha, rfl, _, rfl, iteT ?_⟩
      refine ⟨_, rfl, a, _, 0, _, rfl, rfl, ha, rfl, wn, _, rfl, .inr (T.tWN _), rfl, rfl, true, by decide +kernel, iteT ?_⟩
      exact ⟨_, rfl, a, _, 1, _, rfl, rfl, ha, rfl, n, rfl, hc, k0⟩
    | right n =>
      refine ⟨_, rfl, a, _, rfl, .inr ha, rfl, _, rfl, iteF ?_⟩
      refine ⟨_, rfl, a, _, rfl, .inr ha, rfl, _, rfl, iteT ?_⟩
      refine ⟨_, rfl, a, _, 0, _, rfl, rfl, ha, rfl, wn, _, rfl, .inr (T.tWN _), rfl, rfl, true, by decide +kernel, iteT ?_⟩
      exact ⟨_, rfl, a, _, 1, _, rfl, rfl, ha, rfl, n, rfl, hc, k0⟩
    | left n =>
      refine ⟨_, rfl, a, _, rfl, .inr ha, rfl, _, rfl, iteF ?_⟩
      refine ⟨_, rfl, a, _, rfl, .inr ha, rfl, _, rfl, iteT ?_⟩
      refine ⟨_, rfl, a, _, 0, _, rfl, rfl, ha, rfl, wn, _, rfl, .inr (T.tWN _), rfl, rfl, true, by decide +kernel, iteT ?_⟩
      exact ⟨_, rfl, a, _, 1, _, rfl, rfl, ha, rfl, n, rfl, hc, k0⟩
    | home =>
      refine ⟨_, rfl, a, _, rfl, .inr ha, rfl, _, rfl, iteT ?_⟩
      refine ⟨_, rfl, a, _, 0, _, rfl, rfl, ha, rfl, wo, _, rfl, .inr (T.tWO _), rfl, rfl, ?_⟩
      exact q_in (by decide +kernel) k0
    | stop =>
      refine ⟨_, rfl, a, _, rfl, .inr ha, rfl, _, rfl, iteT ?_⟩
      refine ⟨_, rfl, a, _, 0, _, rfl, rfl, ha, rfl, wo, _, rfl, .inr (T.tWO _), rfl, rfl, ?_⟩
      exact q_in (by decide +kernel) k0
theorem sc_row_change : FnScope ["command"] ["command"] (defScope s_row_change) := ⟨rfl, rfl, rfl, by decide +kernel, rfl, by decide +kernel, by decide +kernel⟩
theorem ok_row_change {f : Addr} {fd : FuncData} (F : Fun K "row_change" "row_change" s_row_change f fd) : FnOk P w K mg base CX0 1 f fd ["command"] (spRow K) := by
  refine F.ok sc_row_change (fun vs H Q E h => ?_) (fun cdv A outer s H vs Q E hr h => ?_)
  · obtain ⟨v, c, rfl, _⟩ := h
    rfl
  · obtain ⟨v, c, rfl, ⟨a, rfl, ha⟩, k⟩ := h
    refine ⟨_, (pss_cons (ps_if (pt_cmpR op_eq (pe_ix ix_tup (pv 0) pe_int (fun _ _ => rfl)) pe_str (nomark _)) (pss_one (ps_ret (pe_ix ix_tup (pv 0) pe_int (fun _ _ => rfl)))) pss_nil)
      (pss_cons (ps_if (pt_cmpR op_eq (pe_ix ix_tup (pv 0) pe_int (fun _ _ => rfl)) pe_str (nomark _)) (pss_one (ps_ret (pe_un un_neg (pe_ix ix_tup (pv 0) pe_int (fun _ _ => rfl))))) pss_nil)
      (pss_one (ps_ret pe_int)))), ?_⟩
    cases c with
    | down n =>
      refine ⟨_, rfl, a, _, 0, _, rfl, rfl, ha, rfl, rfl, true, by decide +kernel, iteT ?_⟩
      exact ⟨_, rfl, a, _, 1, _, rfl, rfl, ha, rfl, k⟩
    | up n =>
      refine ⟨_, rfl, a, _, 0, _, rfl, rfl, ha, rfl, rfl, false, by decide +kernel, iteF ?_⟩
      refine ⟨_, rfl, a, _, 0, _, rfl, rfl, ha, rfl, rfl, true, by decide +kernel, iteT ?_⟩
      exact ⟨_, rfl, a, _, 1, _, rfl, rfl, ha, rfl, n, rfl, k⟩
    | right n =>
      refine ⟨_, rfl, a, _, 0, _, rfl, rfl, ha, rfl, rfl, false, by decide +kernel, iteF ?_⟩
      refine ⟨_, rfl, a, _, 0, _, rfl, rfl, ha, rfl, rfl, false, by decide +kernel, iteF ?_⟩
      exact k
    | left n =>
      refine ⟨_, rfl, a, _, 0, _, rfl, rfl, ha, rfl, rfl, false, by decide +kernel, iteF ?_⟩
      refine ⟨_, rfl, a, _, 0, _, rfl, rfl, ha, rfl, rfl, false, by decide +kernel, iteF ?_⟩
      exact k
    | home =>
      refine ⟨_, rfl, a, _, 0, _, rfl, rfl, ha, rfl, rfl, false, by decide +kernel, iteF ?_⟩
      refine ⟨_, rfl, a, _, 0, _, rfl, rfl, ha, rfl, rfl, false, by decide +kernel, iteF ?_⟩
      exact k
    | stop =>
      refine ⟨_, rfl, a, _, 0, _, rfl, rfl, ha, rfl, rfl, false, by decide +kernel, iteF ?_⟩
      refine ⟨_, rfl, a, _, 0, _, rfl, rfl, ha, rfl, rfl, false, by decide +kernel, iteF ?_⟩
      exact k
theorem sc_check_commands : FnScope ["commands", "index", "command"] ["commands"] (defScope s_check_commands) := ⟨rfl, rfl, rfl, by decide +kernel, rfl, by decide +kernel, by decide +kernel⟩
theorem ok_check_commands {f : Addr} {fd : FuncData} (F : Fun K "check_commands" "check_commands" s_check_commands f fd) (T : TxtB K mg wo wn) (c_is_command : Cal P w K mg base 2 "is_command" (spIsCmd K)) : FnOk P w K mg base CX0 3 f fd ["commands"] (spCheck K) := by
  refine F.ok sc_check_commands (fun vs H Q E h => ?_) (fun cdv A outer s H vs Q E hr h => ?_)
  · obtain ⟨l, xs, cs, rfl, _⟩ := h
    rfl
  · obtain ⟨l, xs, cs, rfl, hl, hcs, hk, hn, k⟩ := h
    refine ⟨_, (pss_one (ps_for PassesOwn.never rfl (pi_enum (by rfl) T.enumerate (pa_cons (pv 0) pa_nil)) (pg_tup rfl (pgs_cons (pg_name (i := 1) sc_check_commands.nd rfl (Or.inl rfl)) (pgs_cons (pg_name (i := 2) sc_check_commands.nd rfl (Or.inl rfl)) pgs_nil))) (pss_one (ps_if (pt_not (pt_val (pe_cal c_is_command hr (by decide) (by rfl) (pa_cons (pv 2) pa_nil)))) (pss_one ps_never) pss_nil)))), ?_⟩
    refine ⟨_, rfl, l, xs, rfl, hl, for_it (walk_enum (K := K) (a := l) (xs := xs)) (fun i σ H' => ∃ v1 v2 : Option V, σ = [some (.ref l), v1, v2] ∧ Same H H')
      ⟨none, none, rfl, Same.refl H⟩ (fun i σ H' _ ⟨_, _, _, e⟩ => e.seq hl) (fun i x σ H1 H2 hi h y => ?_) (fun σ H1 h => ?_)⟩
    · obtain ⟨v1, v2, rfl, e⟩ := h
      obtain ⟨T1, x1, y1, rfl, nT, rfl, e1, e2⟩ := y
      obtain ⟨c, hc, hca⟩ := paired_at hcs e2
      have eT : Same H (upd H1 T1 (.tup [x1, y1])) := same_upd e nT
      refine ⟨T1, _, rfl, SqT.of upd_same, rfl, _, _, rfl, _, _, rfl, rfl, ?_⟩
      refine ⟨_, rfl, y1, c, rfl, hca.same eT, hk c (List.mem_of_getElem? hc), fun H3 e3 => ⟨_, rfl, iteF ?_⟩⟩
      exact ⟨_, _, rfl, eT.trans e3⟩
    · obtain ⟨v1, v2, rfl, e⟩ := h
      exact k _ e
end
end Gc

namespace Gc
open PySem L2
abbrev s_reach : Stmt := top 12
abbrev s_check_number : Stmt := top 10
abbrev s_require : Stmt := top 16
abbrev s_box : Stmt := top 15
def rstep (s : Int × Int × Int) (c : Cmd) : Int × Int × Int :=
  (if s.2.2 + c.dv < s.1 then s.2.2 + c.dv else s.1, if s.2.2 + c.dv > s.2.1 then s.2.2 + c.dv else s.2.1, s.2.2 + c.dv)
def rchM (cs : List Cmd) : Int × Int × Int := cs.foldl rstep (0, 0, 0)
theorem rch_more {cs : List Cmd} {i : Nat} {c : Cmd} (h : cs[i]? = some c) : rchM (cs.take (i + 1)) = rstep (rchM (cs.take i)) c := by
  unfold rchM
  rw [take_snoc h, List.foldl_append]
  rfl
theorem rch_last : ∀ (cs : List Cmd) (s : Int × Int × Int), (cs.foldl rstep s).2.2 = s.2.2 + last cs
  | [], s => by show s.2.2 = s.2.2 + 0; omega
  | c :: cs, s => by
    show (cs.foldl rstep (rstep s c)).2.2 = s.2.2 + (c.dv + last cs)
    rw [rch_last cs]
    show s.2.2 + c.dv + last cs = _
    omega
def spReach (K : PySem.W.Frag) : Sp := fun vs H Q _ => ∃ (l : Addr) (xs : List V) (cs : List Cmd), vs = [.ref l] ∧ SqL K H l xs ∧ CmdsOf K H xs cs ∧ AllOk cs ∧ cs.length ≤ 10000 ∧
  ∀ (H' : Hp) (p : Addr), Same H H' → H p = none → H' p = some (.tup [.int (rchM cs).1, .int (rchM cs).2.1, .int (last cs)]) → Q (.ref p) H'
def spNum : Sp := fun vs H Q _ => ∃ n k : Int, vs = [.int n, .int k] ∧ k ≤ n ∧ Q .non H
def spReq : Sp := fun vs H Q _ => ∃ (d : Addr) (b : Ps) (o v : Int), vs = [.ref d, .int o, .int v] ∧ H d = some (.dK (dkI b)) ∧ b.length ≤ 10000 ∧ Q .non (upd H d (.dK (dkI (req b o v))))
/-- the tuple of a box, its list and its pairs, all new -/
def BoxAt (H H' : Hp) (p : Addr) (st : Option Int) (L : Ps) : Prop := ∃ (m : Addr) (ts : List Addr), H p = none ∧ H m = none ∧ H' p = some (.tup [optV st, .ref m]) ∧ H' m = some (.lst (ts.map V.ref)) ∧
  Paired (fun (t : Addr) (q : Int × Int) => H' t = some (.tup [.int q.1, .int q.2])) ts L
def spBox (K : PySem.W.Frag) : Sp := fun vs H Q _ => ∃ (l : Addr) (xs : List V) (cs : List Cmd) (goal : Int), vs = [.ref l, .int goal] ∧ SqL K H l xs ∧ CmdsOf K H xs cs ∧ AllOk cs ∧ cs.length ≤ 10000 ∧ 1 ≤ goal ∧
  (boxM cs goal = none → ∀ H', Same H H' → Q .non H') ∧ ∀ st L, boxM cs goal = some (st, L) → ∀ H' p, Same H H' → BoxAt H H' p st L → Q (.ref p) H'
section
variable {P : Program} {w : World} {K : PySem.W.Frag} {mg : Str → Option Value} {base : Heap} {wo wn : Addr}
theorem sc_reach : FnScope ["commands", "least", "greatest", "last", "command"] ["commands"] (defScope s_reach) := ⟨rfl, rfl, rfl, by decide +kernel, rfl, by decide +kernel, by decide +kernel⟩
theorem ok_reach {f : Addr} {fd : FuncData} (F : Fun K "reach" "reach" s_reach f fd) (T : TxtB K mg wo wn) (c_check_commands : Cal P w K mg base 3 "check_commands" (spCheck K)) (c_row_change : Cal P w K mg base 1 "row_change" (spRow K)) :
    FnOk P w K mg base CX0 4 f fd ["commands"] (spReach K) := by
  refine F.ok sc_reach (fun vs H Q E h => ?_) (fun cdv A outer s H vs Q E hr h => ?_)
  · obtain ⟨l, xs, cs, rfl, _⟩ := h
    rfl
  · obtain ⟨l, xs, cs, rfl, hl, hcs, hk, hn, k⟩ := h
    refine ⟨_, (pss_cons (ps_expr (pe_cal c_check_commands hr (by decide) (by rfl) (pa_cons (pv 0) pa_nil)))
      (pss_cons (ps_asg3 pe_int (pg_name (i := 1) sc_reach.nd rfl (Or.inl rfl)) (pg_name (i := 2) sc_reach.nd rfl (Or.inl rfl)) (pg_name (i := 3) sc_reach.nd rfl (Or.inl rfl)))
      (pss_cons (ps_for PassesOwn.never rfl (pi_list (pv 0)) (pg_name (i := 4) sc_reach.nd rfl (Or.inl rfl)) (pss_cons (ps_aug (i := 3) sc_reach.nd rfl (Or.inl rfl) (pe_cal c_row_change hr (by decide) (by rfl) (pa_cons (pv 4) pa_nil)) ip_add)
      (pss_cons (ps_set (i := 1) sc_reach.nd rfl (Or.inl rfl) (pe_callB (call_min2 rfl) (by rfl) T.min (by decide +kernel) (pa_cons (pv 1) (pa_cons (pv 3) pa_nil))))
      (pss_one (ps_set (i := 2) sc_reach.nd rfl (Or.inl rfl) (pe_callB (call_max2 rfl) (by rfl) T.max (by decide +kernel) (pa_cons (pv 2) (pa_cons (pv 3) pa_nil))))))))
      (pss_one (ps_ret (pe_tup (pa_cons (pv 1) (pa_cons (pv 2) (pa_cons (pv 3) pa_nil))))))))), ?_⟩
    refine ⟨_, rfl, l, xs, cs, rfl, hl, hcs, hk, hn, fun H1 e1 => ?_⟩
    refine ⟨_, rfl, l, rfl, ⟨_, e1.seq hl⟩, for_list (K := K) (a := l) (xs := xs) (fun i σ H' => ∃ v : Option V, σ = [some (.ref l), some (.int (rchM (cs.take i)).1), some (.int (rchM (cs.take i)).2.1), some (.int (rchM (cs.take i)).2.2), v] ∧ Same H H')
      ⟨none, rfl, e1⟩ (fun i σ H' _ ⟨_, _, e⟩ => e.seq hl) (fun i x σ H2 hi h => ?_) (fun σ H2 h => ?_)⟩
    · obtain ⟨v, rfl, e⟩ := h
      obtain ⟨c, hc, hca⟩ := paired_at hcs hi
      refine ⟨_, rfl, _, rfl, x, c, rfl, hca.same e, _, _, rfl, rfl, ?_⟩
      refine ⟨_, rfl, _, rfl, _, _, rfl, ?_⟩
      refine ⟨_, rfl, _, rfl, _, _, rfl, ?_⟩
      refine ⟨some x, ?_, e⟩
      rw [rch_more hc]
      rfl
    · obtain ⟨v, rfl, e⟩ := h
      have el : (rchM (cs.take xs.length)).2.2 = last cs := by
        rw [hcs.len, List.take_length]
        unfold rchM
        rw [rch_last]
        show (0 : Int) + last cs = last cs
        omega
      rw [el, hcs.len, List.take_length]
      refine ⟨_, rfl, _, rfl, _, rfl, (by show 3 ≤ sizeLine; decide), fun p hp => ?_⟩
      exact k _ p (same_upd e hp) (e.free hp) upd_same
theorem sc_check_number : FnScope ["number", "least"] ["number", "least"] (defScope s_check_number) := ⟨rfl, rfl, rfl, by decide +kernel, rfl, by decide +kernel, by decide +kernel⟩
theorem ok_check_number {f : Addr} {fd : FuncData} (F : Fun K "check_number" "check_number" s_check_number f fd) : FnOk P w K mg base CX0 1 f fd ["number", "least"] spNum := by
  refine F.ok sc_check_number (fun vs H Q E h => ?_) (fun cdv A outer s H vs Q E hr h => ?_)
  · obtain ⟨n, k, rfl, _⟩ := h
    rfl
  · obtain ⟨n, k, rfl, hn, q⟩ := h
    refine ⟨_, (pss_one (ps_if (pt_cmpR op_lt (pv 0) (pv 1) (nomark _)) (pss_one ps_never) pss_nil)), ?_⟩
    exact ⟨_, rfl, _, rfl, _, _, rfl, rfl, _, rfl, ite2 (fun c => absurd (of_decide_eq_true c) (by omega)) (fun _ => q)⟩
theorem sc_require : FnScope ["bounds", "offset", "bound"] ["bounds", "offset", "bound"] (defScope s_require) := ⟨rfl, rfl, rfl, by decide +kernel, rfl, by decide +kernel, by decide +kernel⟩
theorem ok_require {f : Addr} {fd : FuncData} (F : Fun K "require" "require" s_require f fd) (T : TxtB K mg wo wn) : FnOk P w K mg base CX0 1 f fd ["bounds", "offset", "bound"] spReq := by
  refine F.ok sc_require (fun vs H Q E h => ?_) (fun cdv A outer s H vs Q E hr h => ?_)
  · obtain ⟨d, b, o, v, rfl, _⟩ := h
    rfl
  · obtain ⟨d, b, o, v, rfl, hd, hz, k⟩ := h
    refine ⟨_, (pss_one (ps_dput (hu_of hr) (pv 0) (pv 1) (pe_callB (call_max2 rfl) (by rfl) T.max (by decide +kernel) (pa_cons (pv 2) (pa_cons (pe_dget2 (hu_of hr) (pv 0) (pv 1) (pv 2) ⟨rfl, rfl, rfl, rfl⟩) pa_nil))) rfl)), ?_⟩
    have eg : (valV (dkI b) (Sum.inl o : L2.Key)).getD (.int v) = .int ((look b o).getD v) := by
      rw [valV_dkI]
      cases look b o <;> rfl
    refine ⟨_, rfl, _, rfl, d, rfl, .inl ⟨_, .inl hd⟩, _, rfl, _, rfl, _, DGet.k (k := Sum.inl o) hd, v, (look b o).getD v, (by rw [eg]), ?_⟩
    refine ⟨_, rfl, _, rfl, d, _, rfl, DPut.k (k := Sum.inl o) hd ?_, ?_⟩
    · unfold dkI
      rw [List.length_map]
      exact Nat.lt_of_le_of_lt hz (by decide)
    · show Q .non (upd H d (.dK (putK (dkI b) (Sum.inl o : L2.Key) (.int (mx v ((look b o).getD v))))))
      rw [putK_dkI]
      exact k
theorem sc_box : FnScope ["commands", "goal", "bounds", "needed", "offset", "command"] ["commands", "goal"] (defScope s_box) := ⟨rfl, rfl, rfl, by decide +kernel, rfl, by decide +kernel, by decide +kernel⟩
theorem ok_box {f : Addr} {fd : FuncData} (F : Fun K "box" "box" s_box f fd) (T : TxtB K mg wo wn) (c_check_commands : Cal P w K mg base 3 "check_commands" (spCheck K)) (c_row_change : Cal P w K mg base 1 "row_change" (spRow K))
    (c_reach : Cal P w K mg base 4 "reach" (spReach K)) (c_check_number : Cal P w K mg base 1 "check_number" spNum) (c_require : Cal P w K mg base 1 "require" spReq) : FnOk P w K mg base CX0 5 f fd ["commands", "goal"] (spBox K) := by
  refine F.ok sc_box (fun vs H Q E h => ?_) (fun cdv A outer s H vs Q E hr h => ?_)
  · obtain ⟨l, xs, cs, goal, rfl, _⟩ := h
    rfl
  · obtain ⟨l, xs, cs, goal, rfl, hl, hcs, hk, hn, hg, kN, kS⟩ := h
    refine ⟨_, (pss_cons (ps_expr (pe_cal c_check_commands hr (by decide) (by rfl) (pa_cons (pv 0) pa_nil)))
      (pss_cons (ps_expr (pe_cal c_check_number hr (by decide) (by rfl) (pa_cons (pv 1) (pa_cons pe_int pa_nil))))
      (pss_cons (ps_set (i := 2) sc_box.nd rfl (Or.inl rfl) pe_dnewK)
      (pss_cons (ps_set (i := 3) sc_box.nd rfl (Or.inl rfl) (pv 1))
      (pss_cons (ps_set (i := 4) sc_box.nd rfl (Or.inl rfl) (pe_ix ix_tup (pe_cal c_reach hr (by decide) (by rfl) (pa_cons (pv 0) pa_nil)) pe_int (fun _ _ => rfl)))
      (C8.pss_cut (ps_for PassesOwn.never rfl (pi_reversed (by rfl) T.reversed (pa_cons (pv 0) pa_nil)) (pg_name (i := 5) sc_box.nd rfl (Or.inl rfl)) (pss_cons (ps_match (pe_ix ix_tup (pv 5) pe_int (fun _ _ => rfl)) (mc_str (pss_one (ps_ret pe_non)) (mc_str (pss_one (ps_set (i := 3) sc_box.nd rfl (Or.inl rfl) pe_non)) (mc_str (pss_cons (ps_expr (pe_cal c_require hr (by decide) (by rfl) (pa_cons (pv 2) (pa_cons (pv 4) (pa_cons (pv 3) pa_nil)))))
      (pss_one (ps_set (i := 3) sc_box.nd rfl (Or.inl rfl) (pe_ifExp (pt_cmpR op_gt (pv 3) (pe_ix ix_tup (pv 5) pe_int (fun _ _ => rfl)) (nomark _)) (pe_op op_sub (pv 3) (pe_ix ix_tup (pv 5) pe_int (fun _ _ => rfl))) pe_non)))) (mc_str (pss_cons (ps_aug (i := 3) sc_box.nd rfl (Or.inl rfl) (pe_ix ix_tup (pv 5) pe_int (fun _ _ => rfl)) ip_add)
      (pss_one (ps_expr (pe_cal c_require hr (by decide) (by rfl) (pa_cons (pv 2) (pa_cons (pv 4) (pa_cons (pv 3) pa_nil))))))) (mc_any (pss_one (ps_aug (i := 4) sc_box.nd rfl (Or.inl rfl) (pe_cal c_row_change hr (by decide) (by rfl) (pa_cons (pv 5) pa_nil)) ip_sub))))))))
      (pss_one (ps_if (pt_cmpR op_isN (pv 3) pe_non (nomark _)) (pss_one ps_break) pss_nil))))
      (pss_one (ps_ret (pe_tup (pa_cons (pv 3) (pa_cons (pe_sortItems rfl hr.units (pv 2) (by rfl) T.sorted (by decide +kernel)) pa_nil))))))))))), ?_⟩
    refine ⟨_, rfl, l, xs, cs, rfl, hl, hcs, hk, hn, fun H1 e1 => ?_⟩
    refine ⟨_, rfl, _, _, rfl, hg, ?_⟩
    -- bounds = {}; needed = goal; offset = reach(commands)[2]
    refine fun d hd => ?_
    have hd0 : H d = none := e1.free hd
    refine ⟨_, rfl, _, rfl, l, xs, cs, rfl, (same_upd e1 hd).seq hl, hcs.same (same_upd e1 hd), hk, hn, fun H2 p e2 np h2 => ⟨p, _, 2, _, rfl, rfl, SqT.of h2, rfl, ?_⟩⟩
    have e02 : Same H H2 := (same_upd e1 hd).trans e2
    have hd2 : H2 d = some (.dK (dkI [])) := e2 _ _ upd_same
    -- for command in reversed(commands)
    refine ⟨fun σ H' => ∃ (st : Option Int) (b : Ps) (v4 v5 : Option V), σ = [some (.ref l), some (.int goal), some (.ref d), some (optV st), v4, v5] ∧ go cs.reverse (last cs) goal [] = some (st, b) ∧ Same H H' ∧ H' d = some (.dK (dkI b)) ∧ b.length ≤ 10000, ?_, ?_⟩
    · refine ⟨_, rfl, l, xs, rfl, e02.seq hl, RT.for_Itv (K := K) (a := l) (xs := xs) (fun i σ H' => ∃ (off need : Int) (b : Ps) (v5 : Option V), σ = [some (.ref l), some (.int goal), some (.ref d), some (.int need), some (.int off), v5] ∧
          go cs.reverse (last cs) goal [] = go (cs.reverse.drop i) off need b ∧ Same H H' ∧ H' d = some (.dK (dkI b)) ∧ b.length ≤ i ∧ i ≤ cs.length)
        ⟨last cs, goal, [], none, rfl, rfl, e02, hd2, Nat.le_refl _, Nat.zero_le _⟩ (fun i σ H' ⟨_, _, _, _, _, _, e, _⟩ => e.seq hl) (fun i x σ H3 hi hx h => ?_) (fun σ H3 h => ?_)⟩
      · obtain ⟨off, need, b, v5, rfl, hgo, e3, hd3, hb, hil⟩ := h
        obtain ⟨c, hc, hca⟩ := paired_at hcs hx
        have hcl := hcs.len
        have hrev : cs.reverse[i]? = some c := by
          rw [List.getElem?_reverse (by omega), ← hcl]
          exact hc
        have hdrop : cs.reverse.drop i = c :: cs.reverse.drop (i + 1) := by
          obtain ⟨h1, h2⟩ := List.getElem?_eq_some_iff.mp hrev
          rw [List.drop_eq_getElem_cons h1, h2]
        rw [hdrop] at hgo
        obtain ⟨a, rfl, hca0⟩ := hca.same e3
        have hi' : i < cs.length := by omega
        have hb' : b.length ≤ 10000 := by omega
        have goR : ∀ o v, (req b o v).length ≤ i + 1 := fun o v => Nat.le_trans (req_len b o v) (by omega)
        have sameU : ∀ z, Same H (upd H3 d z) := fun z b' o' q => by
          rw [upd_ne (ne_of_none q hd0)]
          exact e3 _ _ q
        cases c with
        | home =>
          refine ⟨_, rfl, a, _, 0, _, rfl, rfl, hca0, rfl, m_yes (by decide +kernel) ?_⟩
          refine kN ?_ _ e3
          unfold boxM
          rw [hgo]
          rfl
        | stop =>
          refine ⟨_, rfl, a, _, 0, _, rfl, rfl, hca0, rfl, m_no (by decide +kernel) (m_yes (by decide +kernel) ?_)⟩
          refine ⟨_, rfl, rfl, _, rfl, iteT ?_⟩
          exact ⟨none, b, _, _, rfl, hgo, e3, hd3, hb'⟩
        | right n =>
          refine ⟨_, rfl, a, _, 0, _, rfl, rfl, hca0, rfl, m_no (by decide +kernel) (m_no (by decide +kernel) (m_yes (by decide +kernel) ?_))⟩
          refine ⟨_, rfl, _, rfl, _, rfl, d, b, off, need, rfl, hd3, hb', ?_⟩
          have hca1 : SqT K (upd H3 d (.dK (dkI (req b off need)))) a (encC (.right n)) := by
            rcases hca0 with (z | ⟨o, z⟩) | z
            · exact .inl (.inl (by rw [upd_ne (ne_of z hd3 (by intro q; cases q))]; exact z))
            · exact .inl (.inr ⟨o, by rw [upd_ne (ne_of z hd3 (by intro q; cases q))]; exact z⟩)
            · exact .inr z
          refine ⟨_, rfl, _, rfl, a, _, 1, _, rfl, rfl, hca1, rfl, _, _, rfl, rfl, _, rfl, ite2 (fun c => ?_) (fun c => ?_)⟩
          · have c' : n < need := of_decide_eq_true c
            refine ⟨_, rfl, _, rfl, a, _, 1, _, rfl, rfl, hca1, rfl, _, _, rfl, rfl, ?_⟩
            refine ⟨_, rfl, rfl, _, rfl, iteF ?_⟩
            refine ⟨off, need - n, req b off need, _, rfl, ?_, sameU _, upd_same, goR _ _, hi'⟩
            rw [hgo]
            simp only [go]
            rw [if_pos c']
          · have c' : ¬ n < need := fun z => c (decide_eq_true z)
            refine ⟨_, rfl, rfl, _, rfl, iteT ?_⟩
            refine ⟨none, req b off need, _, _, rfl, ?_, sameU _, upd_same, Nat.le_trans (goR _ _) (by omega)⟩
            rw [hgo]
            simp only [go]
            rw [if_neg c']
        | left n =>
          refine ⟨_, rfl, a, _, 0, _, rfl, rfl, hca0, rfl, m_no (by decide +kernel) (m_no (by decide +kernel) (m_no (by decide +kernel) (m_yes (by decide +kernel) ?_)))⟩
          refine ⟨_, rfl, _, rfl, a, _, 1, _, rfl, rfl, hca0, rfl, _, _, rfl, rfl, ?_⟩
          refine ⟨_, rfl, _, rfl, _, rfl, d, b, off, need + n, rfl, hd3, hb', ?_⟩
          refine ⟨_, rfl, rfl, _, rfl, iteF ?_⟩
          exact ⟨off, need + n, req b off (need + n), _, rfl, hgo, sameU _, upd_same, goR _ _, hi'⟩
        | down n =>
          refine ⟨_, rfl, a, _, 0, _, rfl, rfl, hca0, rfl, m_no (by decide +kernel) (m_no (by decide +kernel) (m_no (by decide +kernel) (m_no (by decide +kernel) ?_)))⟩
          refine ⟨_, rfl, _, rfl, .ref a, .down n, rfl, ⟨a, rfl, hca0⟩, _, _, rfl, rfl, ?_⟩
          refine ⟨_, rfl, rfl, _, rfl, iteF ?_⟩
          exact ⟨off - n, need, b, _, rfl, hgo, e3, hd3, by omega, hi'⟩
        | up n =>
          refine ⟨_, rfl, a, _, 0, _, rfl, rfl, hca0, rfl, m_no (by decide +kernel) (m_no (by decide +kernel) (m_no (by decide +kernel) (m_no (by decide +kernel) ?_)))⟩
          refine ⟨_, rfl, _, rfl, .ref a, .up n, rfl, ⟨a, rfl, hca0⟩, _, _, rfl, rfl, ?_⟩
          refine ⟨_, rfl, rfl, _, rfl, iteF ?_⟩
          refine ⟨off - -n, need, b, _, rfl, ?_, e3, hd3, by omega, hi'⟩
          rw [hgo]
          simp only [go]
          rw [show off - -n = off + n by omega]
      · obtain ⟨off, need, b, v5, rfl, hgo, e3, hd3, hb, hil⟩ := h
        refine ⟨some need, b, _, _, rfl, ?_, e3, hd3, by omega⟩
        rw [hgo, hcs.len, ← List.length_reverse, List.drop_length]
        rfl
    · rintro σ H3 ⟨st, b, v4, v5, rfl, hgo, e3, hd3, hb⟩
      refine ⟨_, rfl, _, rfl, d, b, rfl, hd3, fun H4 m ts e4 nm hm hp => ⟨(by show 2 ≤ sizeLine; decide), fun p np => ?_⟩⟩
      have e5 : Same H4 (upd H4 p (.tup [optV st, .ref m])) := same_upd (Same.refl _) np
      refine kS st (b.mergeSort leK) ?_ _ p ((e3.trans e4).trans e5) ⟨m, ts, (e3.trans e4).free np, e3.free nm, upd_same, e5 _ _ hm, Paired.mapP hp fun _ _ q => e5 _ _ q⟩
      unfold boxM
      rw [hgo]
      rfl
end
end Gc

namespace Gc
open PySem L2
abbrev s_rng : Stmt := top 18
abbrev s_draw : Stmt := top 19
abbrev s_list : Stmt := top 20
abbrev s_aim : Stmt := top 21
abbrev s_spread : Stmt := top 22
/-- the source of numbers; at most n draws were made -/
def Rng (H : Hp) (a : Addr) (n : Nat) : Prop := ∃ g s c : Int, H a = some (.lst [.int g, .int s, .int c]) ∧ 0 ≤ s ∧ s < 2 ^ 61 ∧ 0 ≤ c ∧ c ≤ n
theorem Rng.same {H H' : Hp} {a : Addr} {n : Nat} (e : Same H H') (h : Rng H a n) : Rng H' a n := by
  obtain ⟨g, s, c, h1, h2⟩ := h
  exact ⟨g, s, c, e _ _ h1, h2⟩
theorem Rng.more {H : Hp} {a : Addr} {n m : Nat} (h : Rng H a n) (l : n ≤ m) : Rng H a m := by
  obtain ⟨g, s, c, h1, h2, h3, h4, h5⟩ := h
  exact ⟨g, s, c, h1, h2, h3, h4, by omega⟩
def spRng (K : PySem.W.Frag) : Sp := fun vs H Q _ => ∃ (a : Addr) (ns : List Int), vs = [.ref a] ∧ SqL K H a (ns.map V.int) ∧ ns.length ≤ 63 ∧
  ∀ (H' : Hp) (p : Addr), Same H H' → H p = none → Rng H' p 0 → Q (.ref p) H'
def spDraw : Sp := fun vs H Q _ => ∃ (a : Addr) (n : Nat) (many : Int), vs = [.ref a, .int many] ∧ Rng H a n ∧ n < 2 ^ 40 ∧ 0 < many ∧ many.natAbs.log2 < 9000 ∧
  ∀ (H' : Hp) (r : Int), Keep a a H H' → Rng H' a (n + 1) → 0 ≤ r → r < many → Q (.int r) H'
structure TxtA (mg : Str → Option Value) : Prop where
  abs : mg "abs" = none
  range : mg "range" = none
  sum : mg "sum" = none
  len : mg "len" = none
  min : mg "min" = none
  max : mg "max" = none
  int : mg "int" = none
theorem cut_mem {xs : List V} {lo hi : Option Int} {i : Nat} {y : V} (h : (cutV xs lo hi)[i]? = some y) : ∃ j : Nat, xs[j]? = some y := by
  unfold cutV at h
  have m := List.mem_of_mem_drop (List.mem_of_mem_take (List.mem_of_getElem? h))
  exact List.mem_iff_getElem?.mp m
theorem dig_step {g c : Int} {i : Nat} (h0 : 0 ≤ g) (h1 : g < 2 ^ (200 * i)) (c0 : 0 ≤ c) (c1 : c < 10 ^ (60 : Int).toNat) : 0 ≤ g * 10 ^ (60 : Int).toNat + c ∧ g * 10 ^ (60 : Int).toNat + c < 2 ^ (200 * (i + 1)) := by
  have e : (2 : Int) ^ (200 * (i + 1)) = 2 ^ (200 * i) * 2 ^ 200 := by rw [← Int.pow_add, Nat.mul_succ]
  have t : (10 : Int) ^ (60 : Int).toNat ≤ 2 ^ 200 := by decide
  have t0 : (0 : Int) ≤ 10 ^ (60 : Int).toNat := by decide
  have m0 : 0 ≤ g * 10 ^ (60 : Int).toNat := Int.mul_nonneg h0 t0
  have m1 : (g + 1) * 10 ^ (60 : Int).toNat ≤ 2 ^ (200 * i) * 2 ^ 200 := Int.mul_le_mul (by omega) t t0 (by omega)
  rw [Int.add_mul] at m1
  rw [e]
  omega
theorem two_le {a b : Nat} (h : a ≤ b) : (2 : Int) ^ a ≤ 2 ^ b := by
  have e := Nat.pow_le_pow_right (n := 2) (by decide) h
  have e2 : ((2 ^ a : Nat) : Int) ≤ ((2 ^ b : Nat) : Int) := Int.ofNat_le.mpr e
  simpa using e2
theorem natAbs_lt2 {g : Int} {k : Nat} (h0 : 0 ≤ g) (h1 : g < 2 ^ k) : g.natAbs < 2 ^ k := by
  have e : ((2 ^ k : Nat) : Int) = 2 ^ k := by simp
  omega
section
variable {P : Program} {w : World} {K : PySem.W.Frag} {mg : Str → Option Value} {base : Heap}
theorem sc_law_rng : FnScope ["script", "digits", "seed", "cell", "size"] ["script"] (defScope s_rng) := ⟨rfl, rfl, rfl, by decide +kernel, rfl, by decide +kernel, by decide +kernel⟩
theorem ok_rng {f : Addr} {fd : FuncData} (F : Fun K "_law_rng" "_law_rng" s_rng f fd) (T : TxtA mg) : FnOk P w K mg base CX0 1 f fd ["script"] (spRng K) := by
  refine F.ok sc_law_rng (fun vs H Q E h => ?_) (fun cdv A outer s H vs Q E hr h => ?_)
  · obtain ⟨a, ns, rfl, _⟩ := h
    rfl
  · obtain ⟨a, ns, rfl, hS, hlen, k⟩ := h
    refine ⟨_, (pss_cons (ps_asg (pe_tup (pa_cons pe_int (pa_cons pe_int pa_nil))) (pg_tup rfl (pgs_cons (pg_name (i := 1) sc_law_rng.nd rfl (Or.inl rfl)) (pgs_cons (pg_name (i := 2) sc_law_rng.nd rfl (Or.inl rfl)) pgs_nil))))
      (pss_cons (ps_for PassesOwn.never rfl (pi_list (pe_slice sl_list (pv 0) po_none (po_some pe_int))) (pg_name (i := 3) sc_law_rng.nd rfl (Or.inl rfl)) (pss_cons (ps_set (i := 4) sc_law_rng.nd rfl (Or.inl rfl) (pe_callB call_abs (by rfl) T.abs (by decide +kernel) (pa_cons (pv 3) pa_nil)))
      (pss_cons (ps_if (pt_cmpR op_ge (pv 4) (pe_op op_pow pe_int pe_int) (nomark _)) (pss_one (ps_set (i := 1) sc_law_rng.nd rfl (Or.inl rfl) (pe_op op_add (pe_op op_mulW (pv 1) (pe_op op_pow pe_int pe_int)) (pe_op op_mod (pv 4) (pe_op op_pow pe_int pe_int))))) pss_nil)
      (pss_one (ps_set (i := 2) sc_law_rng.nd rfl (Or.inl rfl) (pe_op op_mod (pe_op op_add (pe_op op_add (pe_op op_mulW (pv 2) pe_int) (pe_op op_mod (pv 3) pe_int)) pe_int) pe_int))))))
      (pss_one (ps_ret (pe_lst (pa_cons (pv 1) (pa_cons (pv 2) (pa_cons pe_int pa_nil)))))))), ?_⟩
    refine ⟨(by show 2 ≤ sizeLine; decide), fun p0 hp0 => ?_⟩
    refine ⟨p0, _, rfl, SqT.of upd_same, rfl, _, _, rfl, _, _, rfl, rfl, ?_⟩
    generalize gH1 : upd H p0 (.tup [.int 0, .int 88675123]) = H1
    have e1 : Same H H1 := by rw [← gH1]; exact same_upd (Same.refl H) hp0
    refine ⟨_, rfl, _, rfl, a, _, rfl, e1.seq hS, fun b hb => ?_⟩
    generalize gxs : cutV (ns.map V.int) none (some 63) = xs
    have hxs : xs.length ≤ 63 := by
      rw [← gxs]
      exact Nat.le_trans (cutV_length _ _ _) (by rw [List.length_map]; exact hlen)
    have nums : ∀ {i : Nat} {y : V}, xs[i]? = some y → ∃ u, y = V.int u := fun h => by
      rw [← gxs] at h
      obtain ⟨j, hj⟩ := cut_mem h
      exact int_at hj
    generalize gH2 : upd H1 b (.lst xs) = H2
    have hb2 : H2 b = some (.lst xs) := by rw [← gH2]; exact upd_same
    have e2 : Same H H2 := by rw [← gH2]; exact same_upd e1 hb
    refine ⟨b, rfl, ⟨_, SqL.of hb2⟩, for_list (K := K) (a := b) (xs := xs) (fun i σ H' => ∃ (g sd : Int) (v1 v2 : Option V), σ = [some (.ref a), some (.int g), some (.int sd), v1, v2] ∧ Same H2 H' ∧ 0 ≤ g ∧ g < 2 ^ (200 * i) ∧ 0 ≤ sd ∧ sd < 2 ^ 61)
      ⟨0, 88675123, none, none, rfl, Same.refl H2, by decide, by decide, by decide, by decide⟩ (fun i σ H' _ ⟨_, _, _, _, _, e, _⟩ => SqL.of (e _ _ hb2)) ?_ ?_⟩
    · rintro i y σ H' hi ⟨g, sd, v1, v2, rfl, e, g0, g1, s0, s1⟩
      obtain ⟨u, rfl⟩ := nums hi
      have hi' : i < xs.length := (List.getElem?_eq_some_iff.mp hi).1
      refine ⟨_, rfl, _, rfl, ?_⟩
      generalize (if u < 0 then -u else u) = z
      refine ⟨_, rfl, _, _, rfl, rfl, cpow (by decide), _, _, rfl, rfl, _, rfl, ?_⟩
      have n1 := Int.emod_nonneg (sd * 1000003 + u % 2305843009213693921 + 7) (show (2305843009213693951 : Int) ≠ 0 by decide)
      have n2 := Int.emod_lt_of_pos (sd * 1000003 + u % 2305843009213693921 + 7) (show (0 : Int) < 2305843009213693951 by decide)
      have n3 : (2305843009213693951 : Int) < 2 ^ 61 := by decide
      refine ite2 (fun _ => ?_) (fun _ => ?_)
      · refine ⟨_, rfl, _, _, rfl, rfl, cpow (by decide), _, _, rfl, rfl, wide_mul (a := 200 * i + 1) (b := 201) ?_ ?_ (by omega) (by decide) (by omega), _, rfl, _, _, rfl, rfl, cpow (by decide), _, _, rfl, rfl, (show (0 : Int) < 10 ^ (60 : Int).toNat by decide), _, _, rfl, rfl, ?_⟩
        · exact Nat.lt_trans (natAbs_lt2 g0 g1) (Nat.pow_lt_pow_right (by decide) (Nat.lt_succ_self _))
        · decide
        · have d := dig_step g0 g1 (Int.emod_nonneg z (show (10 : Int) ^ (60 : Int).toNat ≠ 0 by decide)) (Int.emod_lt_of_pos z (show (0 : Int) < 10 ^ (60 : Int).toNat by decide))
          refine ⟨_, rfl, _, _, rfl, rfl, wide_mul (a := 61) (b := 61) (by omega) (by decide) (by decide) (by decide) (by decide), _, rfl, _, _, rfl, rfl, (show (0 : Int) < 2305843009213693921 by decide), _, _, rfl, rfl, _, _, rfl, rfl, _, _, rfl, rfl, (show (0 : Int) < 2305843009213693951 by decide), ?_⟩
          exact ⟨_, _, _, _, rfl, e, d.1, d.2, n1, by omega⟩
      · refine ⟨_, rfl, _, _, rfl, rfl, wide_mul (a := 61) (b := 61) (by omega) (by decide) (by decide) (by decide) (by decide), _, rfl, _, _, rfl, rfl, (show (0 : Int) < 2305843009213693921 by decide), _, _, rfl, rfl, _, _, rfl, rfl, _, _, rfl, rfl, (show (0 : Int) < 2305843009213693951 by decide), ?_⟩
        exact ⟨_, _, _, _, rfl, e, g0, Int.lt_of_lt_of_le g1 (two_le (by omega)), n1, by omega⟩
    · rintro σ H' ⟨g, sd, v1, v2, rfl, e, g0, g1, s0, s1⟩
      refine ⟨_, rfl, _, rfl, (by show 3 ≤ sizeLine; decide), fun p hp => ?_⟩
      exact k _ p (same_upd (e2.trans e) hp) ((e2.trans e).free hp) ⟨g, sd, 0, upd_same, s0, s1, by decide, by decide⟩
theorem sc_law_draw : FnScope ["rng", "limit", "found", "mixed"] ["rng", "limit"] (defScope s_draw) := ⟨rfl, rfl, rfl, by decide +kernel, rfl, by decide +kernel, by decide +kernel⟩
theorem ok_draw {f : Addr} {fd : FuncData} (F : Fun K "_law_draw" "_law_draw" s_draw f fd) : FnOk P w K mg base CX0 1 f fd ["rng", "limit"] spDraw := by
  refine F.ok sc_law_draw (fun vs H Q E h => ?_) (fun cdv A outer s H vs Q E hr h => ?_)
  · obtain ⟨a, n, many, rfl, _⟩ := h
    rfl
  · obtain ⟨a, n, many, rfl, hs, hn, m0, mb, k⟩ := h
    obtain ⟨g, sd, c, hA, s0, s1, c0, c1⟩ := hs
    refine ⟨_, (pss_cons (ps_if (pt_cmpR op_gt (pe_ix ix_list (pv 0) pe_int (fun _ _ => rfl)) pe_int (nomark _)) (pss_cons (ps_set (i := 2) sc_law_draw.nd rfl (Or.inl rfl) (pe_op op_mod (pe_ix ix_list (pv 0) pe_int (fun _ _ => rfl)) (pv 1)))
      (pss_cons (ps_asg (pe_op op_fdivW (pe_ix ix_list (pv 0) pe_int (fun _ _ => rfl)) (pv 1)) (pg_sub (pv 0) pe_int set_list))
      (pss_one (ps_ret (pv 2))))) pss_nil)
      (pss_cons (ps_asg (pe_op op_add (pe_ix ix_list (pv 0) pe_int (fun _ _ => rfl)) pe_int) (pg_sub (pv 0) pe_int set_list))
      (pss_cons (ps_set (i := 3) sc_law_draw.nd rfl (Or.inl rfl) (pe_op op_mod (pe_op op_powW (pe_op op_add (pe_ix ix_list (pv 0) pe_int (fun _ _ => rfl)) (pe_op op_mulW pe_int (pe_ix ix_list (pv 0) pe_int (fun _ _ => rfl)))) pe_int) pe_int))
      (pss_cons (ps_set (i := 3) sc_law_draw.nd rfl (Or.inl rfl) (pe_op op_mod (pe_op op_powW (pe_op op_add (pv 3) (pe_op op_mulW pe_int (pe_ix ix_list (pv 0) pe_int (fun _ _ => rfl)))) pe_int) pe_int))
      (pss_one (ps_ret (pe_op op_mod (pe_op op_fdivW (pv 3) pe_int) (pv 1)))))))), ?_⟩
    refine ⟨_, rfl, a, _, 0, _, rfl, rfl, SqL.of hA, rfl, _, _, rfl, rfl, _, rfl, ?_⟩
    refine ite2 (fun z => ?_) (fun z => ?_)
    · refine ⟨_, rfl, a, _, 0, _, rfl, rfl, SqL.of hA, rfl, _, rfl, _, _, rfl, rfl, m0, ?_⟩
      refine ⟨_, rfl, a, _, 0, _, rfl, rfl, SqL.of hA, rfl, _, rfl, _, _, rfl, rfl, ⟨m0, mb⟩, ?_⟩
      refine ⟨_, rfl, a, _, 0, 0, rfl, rfl, hA, rfl, ?_⟩
      exact ⟨_, rfl, k _ _ (Keep.refl H).upd1 ⟨_, sd, c, upd_same, s0, s1, c0, by omega⟩ (Int.emod_nonneg _ (by omega)) (Int.emod_lt_of_pos _ m0)⟩
    · refine ⟨_, rfl, a, _, 2, _, rfl, rfl, SqL.of hA, rfl, _, _, rfl, rfl, ?_⟩
      refine ⟨_, rfl, a, _, 2, 2, rfl, rfl, hA, rfl, ?_⟩
      have c2 : c + 1 < 2 ^ 41 := by omega
      generalize hH1 : upd H a (.lst ([V.int g, .int sd, .int c].set 2 (.int (c + 1)))) = H1
      have hA1 : H1 a = some (.lst [.int g, .int sd, .int (c + 1)]) := by rw [← hH1]; exact upd_same
      have kp : Keep a a H H1 := by rw [← hH1]; exact (Keep.refl H).upd1
      have mul1 : CMulW 998244353 (c + 1) := wide_mul (a := 61) (b := 61) (by decide) (by omega) (by decide) (by decide) (by decide)
      refine ⟨_, rfl, a, _, 1, _, rfl, rfl, SqL.of hA1, rfl, _, rfl, a, _, 2, _, rfl, rfl, SqL.of hA1, rfl, _, _, rfl, rfl, mul1, _, _, rfl, rfl, _, _, rfl, rfl, cpowW (a := 80) (by decide) (by decide) (by omega) (by decide), _, _, rfl, rfl, (show (0 : Int) < 162259276829213363391578010288127 by decide), ?_⟩
      have n1 := Int.emod_nonneg ((sd + 998244353 * (c + 1)) ^ (3 : Int).toNat) (show (162259276829213363391578010288127 : Int) ≠ 0 by decide)
      have n2 := Int.emod_lt_of_pos ((sd + 998244353 * (c + 1)) ^ (3 : Int).toNat) (show (0 : Int) < 162259276829213363391578010288127 by decide)
      generalize (sd + 998244353 * (c + 1)) ^ (3 : Int).toNat % 162259276829213363391578010288127 = mx1 at n1 n2 ⊢
      have mul2 : CMulW 32452843 (c + 1) := wide_mul (a := 61) (b := 61) (by decide) (by omega) (by decide) (by decide) (by decide)
      refine ⟨_, rfl, _, rfl, a, _, 2, _, rfl, rfl, SqL.of hA1, rfl, _, _, rfl, rfl, mul2, _, _, rfl, rfl, _, _, rfl, rfl, cpowW (a := 120) (by decide) (by decide) (by omega) (by decide), _, _, rfl, rfl, (show (0 : Int) < 170141183460469231731687303715884105727 by decide), ?_⟩
      generalize (mx1 + 32452843 * (c + 1)) ^ (3 : Int).toNat % 170141183460469231731687303715884105727 = mx2
      refine ⟨_, rfl, _, _, rfl, rfl, ⟨by decide, by decide⟩, _, rfl, _, _, rfl, rfl, m0, ?_⟩
      exact k _ _ kp ⟨g, sd, c + 1, hA1, s0, s1, by omega, by omega⟩ (Int.emod_nonneg _ (by omega)) (Int.emod_lt_of_pos _ m0)
end
end Gc

namespace Gc
open PySem L2
def Cmd.num : Cmd → Int
  | .down n => n
  | .up n => n
  | .right n => n
  | .left n => n
  | _ => 0
def AllSmall (cs : List Cmd) : Prop := ∀ c ∈ cs, c.num ≤ 10 ^ 29
theorem CmdAt.keep {K : PySem.W.Frag} {H H' : Hp} {v : V} {c : Cmd} {a : Addr} {ys : List V} (e : Keep a a H H') (ha : H a = some (.lst ys)) (h : CmdAt K H v c) : CmdAt K H' v c := by
  obtain ⟨b, e1, h1⟩ := h
  refine ⟨b, e1, ?_⟩
  rcases h1 with (z | ⟨o, z⟩) | z
  · have n := ne_of z ha (by intro q; cases q)
    exact .inl (.inl (e _ _ n n z))
  · have n := ne_of z ha (by intro q; cases q)
    exact .inl (.inr ⟨o, e _ _ n n z⟩)
  · exact .inr z
theorem CmdsOf.keep {K : PySem.W.Frag} {H H' : Hp} {xs : List V} {cs : List Cmd} {a : Addr} {ys : List V} (e : Keep a a H H') (ha : H a = some (.lst ys)) (h : CmdsOf K H xs cs) : CmdsOf K H' xs cs := Paired.mapP h fun _ _ q => q.keep e ha
theorem Paired.snoc {α β : Type} {F : α → β → Prop} : ∀ {xs : List α} {ys : List β} {x : α} {y : β}, Paired F xs ys → F x y → Paired F (xs ++ [x]) (ys ++ [y])
  | _, _, _, _, .nil, h => .cons h .nil
  | _, _, _, _, .cons f t, h => .cons f (Paired.snoc t h)
def spList (K : PySem.W.Frag) : Sp := fun vs H Q _ => ∃ (r : Addr) (n : Nat) (most size : Int), vs = [.ref r, .int most, .int size] ∧ Rng H r n ∧ n < 2 ^ 39 ∧ 0 ≤ most ∧ most ≤ 10 ∧ 1 ≤ size ∧ size ≤ 10 ^ 29 ∧
  ∀ (H' : Hp) (l : Addr) (xs : List V) (cs : List Cmd), Keep r r H H' → Rng H' r (n + 40) → H l = none → H' l = some (.lst xs) → CmdsOf K H' xs cs → AllOk cs → AllSmall cs → cs.length ≤ 10 → Q (.ref l) H'
theorem Keep.free {a l : Addr} {H H' : Hp} {o : HO} (e : Keep a a H H') (h : H l = none) : Keep a a H (upd H' l o) := fun b u h1 h2 hb => by
  rw [upd_ne (ne_of_none hb h)]
  exact e b u h1 h2 hb
theorem Keep.seq {K : PySem.W.Frag} {H H' : Hp} {a l : Addr} {xs : List V} (e : Keep a a H H') (n : l ≠ a) (h : SqL K H l xs) : SqL K H' l xs := by
  rcases h with (h | ⟨o, h⟩) | h
  · exact .inl (.inl (e _ _ n n h))
  · exact .inl (.inr ⟨o, e _ _ n n h⟩)
  · exact .inr h
def LI (K : PySem.W.Frag) (H : Hp) (r l : Addr) (n i : Nat) (H' : Hp) (xs : List V) (cs : List Cmd) : Prop := Keep r r H H' ∧ Rng H' r (n + 1 + 3 * i) ∧ H' l = some (.lst xs) ∧ CmdsOf K H' xs cs ∧ AllOk cs ∧ AllSmall cs ∧ cs.length ≤ i
theorem li_step {K : PySem.W.Frag} {H H1 H6 : Hp} {r l t : Addr} {n i : Nat} {xs : List V} {cs : List Cmd} {c : Cmd} (lr : l ≠ r) (hl0 : H l = none) (h : LI K H r l n i H1 xs cs) (k : Keep r r H1 H6) (g : Rng H6 r (n + 1 + 3 * i + 3))
    (ht : H6 t = none) (ok : c.ok) (sm : c.num ≤ 10 ^ 29) : LI K H r l n (i + 1) (upd (upd H6 t (.tup (encC c))) l (.lst (xs ++ [.ref t]))) (xs ++ [.ref t]) (cs ++ [c]) := by
  obtain ⟨a1, ⟨_, _, _, a2, _⟩, a3, a4, a5, a6, a7⟩ := h
  obtain ⟨x, y, z, g1, g2⟩ := g
  have b3 := k _ _ lr lr a3
  have tl : t ≠ l := (ne_of_none b3 ht).symm
  have tr : t ≠ r := (ne_of_none g1 ht).symm
  have s1 : Same H6 (upd H6 t (.tup (encC c))) := same_upd (Same.refl H6) ht
  have b3' := s1 _ _ b3
  have kl : Keep l l (upd H6 t (.tup (encC c))) (upd (upd H6 t (.tup (encC c))) l (.lst (xs ++ [.ref t]))) := (Keep.refl _).upd1
  refine ⟨((a1.trans k).new ht).free hl0, ⟨x, y, z, ?_, ?_⟩, upd_same, Paired.snoc (((a4.keep k a2).same s1).keep kl b3') ⟨t, rfl, SqT.of ?_⟩, ?_, ?_, ?_⟩
  · rw [upd_ne lr.symm, upd_ne tr.symm]
    exact g1
  · obtain ⟨g3, g4, g5, g6⟩ := g2
    exact ⟨g3, g4, g5, by omega⟩
  · rw [upd_ne tl]
    exact upd_same
  · intro d hd
    rcases List.mem_append.mp hd with q | q
    · exact a5 d q
    · rw [List.mem_singleton.mp q]
      exact ok
  · intro d hd
    rcases List.mem_append.mp hd with q | q
    · exact a6 d q
    · rw [List.mem_singleton.mp q]
      exact sm
  · rw [List.length_append, List.length_singleton]
    omega
theorem small_len {n : Nat} (h : n ≤ 1000) : n < sizeLine := by rw [sizeLine_eq]; omega
section
variable {P : Program} {w : World} {K : PySem.W.Frag} {mg : Str → Option Value} {base : Heap}
theorem sc_law_list : FnScope ["rng", "most", "size", "found", "turn", "kind"] ["rng", "most", "size"] (defScope s_list) := ⟨rfl, rfl, rfl, by decide +kernel, rfl, by decide +kernel, by decide +kernel⟩
theorem ok_list {f : Addr} {fd : FuncData} (F : Fun K "_law_list" "_law_list" s_list f fd) (T : TxtA mg) (c_law_draw : Cal P w K mg base 1 "_law_draw" spDraw) : FnOk P w K mg base CX0 2 f fd ["rng", "most", "size"] (spList K) := by
  refine F.ok sc_law_list (fun vs H Q E h => ?_) (fun cdv A outer s H vs Q E hr h => ?_)
  · obtain ⟨r, n, most, size, rfl, _⟩ := h
    rfl
  · obtain ⟨r, n, most, size, rfl, hR, hn, m0, m1, z0, z1, k⟩ := h
    refine ⟨_, (pss_cons (ps_set (i := 3) sc_law_list.nd rfl (Or.inl rfl) (pe_lst pa_nil))
      (pss_cons (ps_for PassesOwn.never rfl (pi_range1 rfl T.range (pa_cons (pe_cal c_law_draw hr (by decide) (by rfl) (pa_cons (pv 0) (pa_cons (pe_op op_add (pv 1) pe_int) pa_nil))) pa_nil)) (pg_name (i := 4) sc_law_list.nd rfl (Or.inl rfl)) (pss_cons (ps_set (i := 5) sc_law_list.nd rfl (Or.inl rfl) (pe_cal c_law_draw hr (by decide) (by rfl) (pa_cons (pv 0) (pa_cons pe_int pa_nil))))
      (pss_one (ps_if (pt_cmpR op_lt (pv 5) pe_int (nomark _)) (pss_one (ps_expr (pe_bm PySem.F.plainAttrs_list PySem.F.slot_list_append PySem.F.type_list_append mt_append (pv 3) (pa_cons (pe_tup (pa_cons (pe_ix ix_list (pe_lst (pa_cons pe_str (pa_cons pe_str pa_nil))) (pv 5) (fun _ _ => rfl)) (pa_cons (pe_op op_add pe_int (pe_cal c_law_draw hr (by decide) (by rfl) (pa_cons (pv 0) (pa_cons pe_int pa_nil)))) pa_nil))) pa_nil)))) (pss_one (ps_if (pt_cmpR op_lt (pv 5) pe_int (nomark _)) (pss_one (ps_expr (pe_bm PySem.F.plainAttrs_list PySem.F.slot_list_append PySem.F.type_list_append mt_append (pv 3) (pa_cons (pe_tup (pa_cons (pe_ix ix_list (pe_lst (pa_cons pe_str (pa_cons pe_str pa_nil))) (pe_op op_mod (pv 5) pe_int) (fun _ _ => rfl)) (pa_cons (pe_op op_add pe_int (pe_cal c_law_draw hr (by decide) (by rfl) (pa_cons (pv 0) (pa_cons (pv 2) pa_nil)))) pa_nil))) pa_nil)))) (pss_one (ps_expr (pe_bm PySem.F.plainAttrs_list PySem.F.slot_list_append PySem.F.type_list_append mt_append (pv 3) (pa_cons (pe_tup (pa_cons (pe_ix ix_list (pe_lst (pa_cons pe_str (pa_cons pe_str pa_nil))) (pe_cal c_law_draw hr (by decide) (by rfl) (pa_cons (pv 0) (pa_cons pe_int pa_nil))) (fun _ _ => rfl)) pa_nil)) pa_nil))))))))))
      (pss_one (ps_ret (pv 3))))), ?_⟩
    -- found = []
    refine ⟨Nat.zero_le _, fun l hl => ?_⟩
    have hr0 : ∃ o, H r = some o := by
      obtain ⟨_, _, _, q, _⟩ := hR
      exact ⟨_, q⟩
    have lr : l ≠ r := by
      obtain ⟨o, q⟩ := hr0
      exact (ne_of_none q hl).symm
    have eA : Same H (upd H l (.lst [])) := same_upd (Same.refl H) hl
    refine ⟨_, rfl, _, rfl, _, _, rfl, rfl, r, n, _, rfl, hR.same eA, by omega, by omega, log9 (a := 10) (by omega) (by decide), fun H1 turns kp1 rg1 t0 t1 => ?_⟩
    have kH : Keep r r H H1 := (Keep.of eA).trans kp1
    have hl1 : H1 l = some (.lst []) := kp1 _ _ lr lr upd_same
    refine ⟨_, rfl, by omega, by omega, for_range (lo := 0) (fun i σ H' => ∃ (v4 v5 : Option V) (xs : List V) (cs : List Cmd), σ = [some (.ref r), some (.int most), some (.int size), some (.ref l), v4, v5] ∧ LI K H r l n i H' xs cs)
      ⟨none, none, [], [], rfl, kH, rg1, hl1, .nil, (fun _ h => nomatch h), (fun _ h => nomatch h), Nat.le_refl _⟩ (fun i σ H2 hi h => ?_) (fun σ H2 h => ?_)⟩
    · obtain ⟨v4, v5, xs, cs, rfl, h⟩ := h
      have hi' : i < 11 := by omega
      obtain ⟨a1, a2, a3, a4, a5, a6, a7⟩ := id h
      have xl : xs.length ≤ 1000 := by
        rw [a4.len]
        omega
      refine ⟨_, rfl, r, _, 9, rfl, a2, by omega, by decide, by decide, fun H3 kd kp3 rg3 k0 k1 => ?_⟩
      have l3 := kp3 _ _ lr lr a3
      refine ⟨_, rfl, _, _, rfl, rfl, _, rfl, ite2 (fun c => ?_) (fun c => ?_)⟩
      · have c' : kd < 2 := of_decide_eq_true c
        refine ⟨_, rfl, .inl ⟨rfl, _, SqL.of l3⟩, (by show 2 ≤ sizeLine; decide), fun q hq => ?_⟩
        have s4 : Same H3 (upd H3 q (.lst [.str "down", .str "up"])) := same_upd (Same.refl _) hq
        rcases (show kd = 0 ∨ kd = 1 by omega) with rfl | rfl
        · refine ⟨_, rfl, q, _, _, _, rfl, rfl, SqL.of upd_same, rfl, _, rfl, r, _, 2, rfl, rg3.same s4, by omega, by decide, by decide, fun H5 d kp5 rg5 d0 d1 => ?_⟩
          refine ⟨_, _, rfl, rfl, (by show 2 ≤ sizeLine; decide), fun t ht => ?_⟩
          have k16 : Keep r r H2 H5 := (kp3.trans (Keep.of s4)).trans kp5
          refine ⟨l, _, _, rfl, rfl, (same_upd (Same.refl H5) ht) _ _ (k16 _ _ lr lr a3), small_len xl, ?_⟩
          exact ⟨_, _, _, _, rfl, li_step (c := .down (1 + d)) lr hl h k16 (rg5.more (by omega)) ht (by show 1 ≤ 1 + d; omega) (by show 1 + d ≤ 10 ^ 29; omega)⟩
        · refine ⟨_, rfl, q, _, _, _, rfl, rfl, SqL.of upd_same, rfl, _, rfl, r, _, 2, rfl, rg3.same s4, by omega, by decide, by decide, fun H5 d kp5 rg5 d0 d1 => ?_⟩
          refine ⟨_, _, rfl, rfl, (by show 2 ≤ sizeLine; decide), fun t ht => ?_⟩
          have k16 : Keep r r H2 H5 := (kp3.trans (Keep.of s4)).trans kp5
          refine ⟨l, _, _, rfl, rfl, (same_upd (Same.refl H5) ht) _ _ (k16 _ _ lr lr a3), small_len xl, ?_⟩
          exact ⟨_, _, _, _, rfl, li_step (c := .up (1 + d)) lr hl h k16 (rg5.more (by omega)) ht (by show 1 ≤ 1 + d; omega) (by show 1 + d ≤ 10 ^ 29; omega)⟩
      · refine ⟨_, rfl, _, _, rfl, rfl, _, rfl, ite2 (fun c2 => ?_) (fun c2 => ?_)⟩
        · refine ⟨_, rfl, .inl ⟨rfl, _, SqL.of l3⟩, (by show 2 ≤ sizeLine; decide), fun q hq => ?_⟩
          have s4 : Same H3 (upd H3 q (.lst [.str "left", .str "right"])) := same_upd (Same.refl _) hq
          refine ⟨_, rfl, _, _, rfl, rfl, (show (0 : Int) < 2 by decide), ?_⟩
          rcases (show kd % 2 = 0 ∨ kd % 2 = 1 by omega) with e0 | e0
          · refine ⟨q, _, _, _, rfl, rfl, SqL.of upd_same, (by rw [e0]; rfl), _, rfl, _, rfl, r, _, size, rfl, rg3.same s4, by omega, by omega, log9 (a := 100) (by omega) (by decide), fun H5 d kp5 rg5 d0 d1 => ?_⟩
            refine ⟨_, _, rfl, rfl, (by show 2 ≤ sizeLine; decide), fun t ht => ?_⟩
            have k16 : Keep r r H2 H5 := (kp3.trans (Keep.of s4)).trans kp5
            refine ⟨l, _, _, rfl, rfl, (same_upd (Same.refl H5) ht) _ _ (k16 _ _ lr lr a3), small_len xl, ?_⟩
            exact ⟨_, _, _, _, rfl, li_step (c := .left (1 + d)) lr hl h k16 (rg5.more (by omega)) ht (by show 1 ≤ 1 + d; omega) (by show 1 + d ≤ 10 ^ 29; omega)⟩
          · refine ⟨q, _, _, _, rfl, rfl, SqL.of upd_same, (by rw [e0]; rfl), _, rfl, _, rfl, r, _, size, rfl, rg3.same s4, by omega, by omega, log9 (a := 100) (by omega) (by decide), fun H5 d kp5 rg5 d0 d1 => ?_⟩
            refine ⟨_, _, rfl, rfl, (by show 2 ≤ sizeLine; decide), fun t ht => ?_⟩
            have k16 : Keep r r H2 H5 := (kp3.trans (Keep.of s4)).trans kp5
            refine ⟨l, _, _, rfl, rfl, (same_upd (Same.refl H5) ht) _ _ (k16 _ _ lr lr a3), small_len xl, ?_⟩
            exact ⟨_, _, _, _, rfl, li_step (c := .right (1 + d)) lr hl h k16 (rg5.more (by omega)) ht (by show 1 ≤ 1 + d; omega) (by show 1 + d ≤ 10 ^ 29; omega)⟩
        · refine ⟨_, rfl, .inl ⟨rfl, _, SqL.of l3⟩, (by show 2 ≤ sizeLine; decide), fun q hq => ?_⟩
          have s4 : Same H3 (upd H3 q (.lst [.str "home", .str "end"])) := same_upd (Same.refl _) hq
          have q4 : upd H3 q (.lst [.str "home", .str "end"]) q = some (.lst [.str "home", .str "end"]) := upd_same
          have qr : q ≠ r := by
            obtain ⟨_, _, _, z, _⟩ := rg3
            exact (ne_of_none z hq).symm
          refine ⟨_, rfl, r, _, 2, rfl, rg3.same s4, by omega, by decide, by decide, fun H5 d kp5 rg5 d0 d1 => ?_⟩
          have k16 : Keep r r H2 H5 := (kp3.trans (Keep.of s4)).trans kp5
          rcases (show d = 0 ∨ d = 1 by omega) with rfl | rfl
          · refine ⟨q, _, _, _, rfl, rfl, SqL.of (kp5 _ _ qr qr q4), rfl, (by show 1 ≤ sizeLine; decide), fun t ht => ?_⟩
            refine ⟨l, _, _, rfl, rfl, (same_upd (Same.refl H5) ht) _ _ (k16 _ _ lr lr a3), small_len xl, ?_⟩
            exact ⟨_, _, _, _, rfl, li_step (c := .home) lr hl h k16 (rg5.more (by omega)) ht trivial (by show (0 : Int) ≤ 10 ^ 29; decide)⟩
          · refine ⟨q, _, _, _, rfl, rfl, SqL.of (kp5 _ _ qr qr q4), rfl, (by show 1 ≤ sizeLine; decide), fun t ht => ?_⟩
            refine ⟨l, _, _, rfl, rfl, (same_upd (Same.refl H5) ht) _ _ (k16 _ _ lr lr a3), small_len xl, ?_⟩
            exact ⟨_, _, _, _, rfl, li_step (c := .stop) lr hl h k16 (rg5.more (by omega)) ht trivial (by show (0 : Int) ≤ 10 ^ 29; decide)⟩
    · obtain ⟨v4, v5, xs, cs, rfl, a1, a2, a3, a4, a5, a6, a7⟩ := h
      exact ⟨_, rfl, k _ l xs cs a1 (a2.more (by omega)) hl a3 a4 a5 a6 (by omega)⟩
end
end Gc

namespace Gc
open PySem L2
def spSpread (K : PySem.W.Frag) : Sp := fun vs H Q _ => ∃ (l : Addr) (xs : List V) (cs : List Cmd), vs = [.ref l] ∧ SqL K H l xs ∧ CmdsOf K H xs cs ∧
  ∀ (H' : Hp) (p : Addr) (a b : Int), Same H H' → H' p = some (.tup [.int a, .int b, .int (last cs)]) → Q (.ref p) H'
def spAim (K : PySem.W.Frag) : Sp := fun vs H Q _ => ∃ (r l : Addr) (n : Nat) (xs : List V) (cs : List Cmd), vs = [.ref r, .ref l] ∧ Rng H r n ∧ n < 2 ^ 39 ∧ SqL K H l xs ∧ l ≠ r ∧ CmdsOf K H xs cs ∧ AllOk cs ∧ AllSmall cs ∧ cs.length ≤ 20 ∧
  ∀ (H' : Hp) (a : Int), Keep r r H H' → Rng H' r (n + 10) → 1 ≤ a → a ≤ 10 ^ 30 - 1 → Q (.int a) H'
theorem at_t {u v : V} {b : Bool} (h : b = true) : atI [u, v] (if b = true then (1 : Int) else 0) = some v := by
  subst h
  rfl
theorem at_f {u v : V} {b : Bool} (h : b = false) : atI [u, v] (if b = true then (1 : Int) else 0) = some u := by
  subst h
  rfl
theorem cut_ints (ns : List Int) (lo hi : Option Int) : ∃ ms : List Int, cutV (ns.map V.int) lo hi = ms.map V.int :=
  ⟨_, by unfold cutV; rw [← List.map_drop, ← List.map_take]⟩
theorem last_more {cs : List Cmd} {i : Nat} {c : Cmd} (h : cs[i]? = some c) : last (cs.take (i + 1)) = last (cs.take i) + c.dv := by
  rw [take_snoc h, last_app]
  show _ + (c.dv + 0) = _
  omega
section
variable {P : Program} {w : World} {K : PySem.W.Frag} {mg : Str → Option Value} {base : Heap}
theorem sc_law_spread : FnScope ["steps", "here", "least", "greatest", "step"] ["steps"] (defScope s_spread) := ⟨rfl, rfl, rfl, by decide +kernel, rfl, by decide +kernel, by decide +kernel⟩
theorem ok_spread {f : Addr} {fd : FuncData} (F : Fun K "_law_spread" "_law_spread" s_spread f fd) (T : TxtA mg) : FnOk P w K mg base CX0 1 f fd ["steps"] (spSpread K) := by
  refine F.ok sc_law_spread (fun vs H Q E h => ?_) (fun cdv A outer s H vs Q E hr h => ?_)
  · obtain ⟨l, xs, cs, rfl, _⟩ := h
    rfl
  · obtain ⟨l, xs, cs, rfl, hl, hcs, k⟩ := h
    refine ⟨_, (pss_cons (ps_asg (pe_tup (pa_cons pe_int (pa_cons pe_int (pa_cons pe_int pa_nil)))) (pg_tup rfl (pgs_cons (pg_name (i := 1) sc_law_spread.nd rfl (Or.inl rfl)) (pgs_cons (pg_name (i := 2) sc_law_spread.nd rfl (Or.inl rfl)) (pgs_cons (pg_name (i := 3) sc_law_spread.nd rfl (Or.inl rfl)) pgs_nil)))))
      (pss_cons (ps_for PassesOwn.never rfl (pi_list (pv 0)) (pg_name (i := 4) sc_law_spread.nd rfl (Or.inl rfl)) (pss_one (ps_if (pt_cmpR op_in_seq (pe_ix ix_tup (pv 4) pe_int (fun _ _ => rfl)) (pe_tup (pa_cons pe_str (pa_cons pe_str pa_nil))) (by rfl)) (pss_cons (ps_set (i := 1) sc_law_spread.nd rfl (Or.inl rfl) (pe_op op_add (pv 1) (pe_ix ix_list (pe_lst (pa_cons (pe_ix ix_tup (pv 4) pe_int (fun _ _ => rfl)) (pa_cons (pe_op op_sub pe_int (pe_ix ix_tup (pv 4) pe_int (fun _ _ => rfl))) pa_nil))) (pe_callTy call_int1 (by rfl) T.int (by decide +kernel) (pa_cons (pe_cmpR op_eq (pe_ix ix_tup (pv 4) pe_int (fun _ _ => rfl)) pe_str (nomark _)) pa_nil)) (fun _ _ => rfl))))
      (pss_one (ps_par (i := 2) (j := 3) rfl sc_law_spread.nd rfl rfl (by decide) rfl rfl (pa_cons (pe_callB (call_min2 rfl) (by rfl) T.min (by decide +kernel) (pa_cons (pv 2) (pa_cons (pv 1) pa_nil))) (pa_cons (pe_callB (call_max2 rfl) (by rfl) T.max (by decide +kernel) (pa_cons (pv 3) (pa_cons (pv 1) pa_nil))) pa_nil)) (by rfl)))) pss_nil)))
      (pss_one (ps_ret (pe_tup (pa_cons (pv 2) (pa_cons (pv 3) (pa_cons (pv 1) pa_nil)))))))), ?_⟩
    refine ⟨(by show 3 ≤ sizeLine; decide), fun p0 hp0 => ?_⟩
    refine ⟨p0, _, rfl, SqT.of upd_same, rfl, _, _, rfl, _, _, rfl, _, _, rfl, rfl, ?_⟩
    generalize gH1 : upd H p0 (.tup [.int 0, .int 0, .int 0]) = H1
    have e1 : Same H H1 := by rw [← gH1]; exact same_upd (Same.refl H) hp0
    refine ⟨_, rfl, l, rfl, ⟨_, e1.seq hl⟩, for_list (K := K) (a := l) (xs := xs) (fun i σ H' => ∃ (a b : Int) (v4 : Option V), σ = [some (.ref l), some (.int (last (cs.take i))), some (.int a), some (.int b), v4] ∧ Same H H')
      ⟨0, 0, none, rfl, e1⟩ (fun i σ H' _ ⟨_, _, _, _, e⟩ => e.seq hl) (fun i y σ H2 hi h => ?_) (fun σ H2 h => ?_)⟩
    · obtain ⟨a, b, v4, rfl, e2⟩ := h
      obtain ⟨c, hc, t, rfl, ht0⟩ := paired_at hcs hi
      have ht := seq_t e2 ht0
      have lm := last_more hc
      cases c with
      | down n =>
        refine ⟨_, rfl, t, _, 0, _, rfl, rfl, ht, rfl, (by show 2 ≤ sizeLine; decide), fun p1 hp1 => ?_⟩
        have s1 := same_upd (Same.refl H2) hp1 (o := .tup [.str "down", .str "up"])
        refine ⟨p1, _, rfl, .inr (SqT.of upd_same), rfl, rfl, true, by decide +kernel, iteT ?_⟩
        refine ⟨_, rfl, _, rfl, t, _, 1, _, rfl, rfl, seq_t s1 ht, rfl, _, rfl, t, _, 1, _, rfl, rfl, seq_t s1 ht, rfl, _, _, rfl, rfl, (by show 2 ≤ sizeLine; decide), fun q hq => ?_⟩
        have s2 := same_upd s1 hq (o := .lst [.int n, .int (0 - n)])
        refine ⟨_, rfl, t, _, 0, _, rfl, rfl, seq_t s2 ht, rfl, rfl, .inr ⟨_, rfl, q, _, _, _, rfl, rfl, SqL.of upd_same, at_f (by decide +kernel), _, _, rfl, rfl, ?_⟩⟩
        refine ⟨_, rfl, _, rfl, _, _, rfl, _, rfl, _, rfl, _, _, rfl, _, _, rfl, ?_⟩
        have e9 : last (cs.take (i + 1)) = last (cs.take i) + n := lm
        refine ⟨if last (cs.take i) + n < a then last (cs.take i) + n else a, if last (cs.take i) + n > b then last (cs.take i) + n else b, some (.ref t), ?_, e2.trans s2⟩
        rw [e9]
        rfl
      | up n =>
        refine ⟨_, rfl, t, _, 0, _, rfl, rfl, ht, rfl, (by show 2 ≤ sizeLine; decide), fun p1 hp1 => ?_⟩
        have s1 := same_upd (Same.refl H2) hp1 (o := .tup [.str "down", .str "up"])
        refine ⟨p1, _, rfl, .inr (SqT.of upd_same), rfl, rfl, true, by decide +kernel, iteT ?_⟩
        refine ⟨_, rfl, _, rfl, t, _, 1, _, rfl, rfl, seq_t s1 ht, rfl, _, rfl, t, _, 1, _, rfl, rfl, seq_t s1 ht, rfl, _, _, rfl, rfl, (by show 2 ≤ sizeLine; decide), fun q hq => ?_⟩
        have s2 := same_upd s1 hq (o := .lst [.int n, .int (0 - n)])
        refine ⟨_, rfl, t, _, 0, _, rfl, rfl, seq_t s2 ht, rfl, rfl, .inr ⟨_, rfl, q, _, _, _, rfl, rfl, SqL.of upd_same, at_t (by decide +kernel), _, _, rfl, rfl, ?_⟩⟩
        refine ⟨_, rfl, _, rfl, _, _, rfl, _, rfl, _, rfl, _, _, rfl, _, _, rfl, ?_⟩
        have e9 : last (cs.take (i + 1)) = last (cs.take i) + (0 - n) := by
          rw [lm]
          show _ + -n = _
          omega
        refine ⟨if last (cs.take i) + (0 - n) < a then last (cs.take i) + (0 - n) else a, if last (cs.take i) + (0 - n) > b then last (cs.take i) + (0 - n) else b, some (.ref t), ?_, e2.trans s2⟩
        rw [e9]
        rfl
      | right n =>
        refine ⟨_, rfl, t, _, 0, _, rfl, rfl, ht, rfl, (by show 2 ≤ sizeLine; decide), fun p1 hp1 => ?_⟩
        have s1 := same_upd (Same.refl H2) hp1 (o := .tup [.str "down", .str "up"])
        refine ⟨p1, _, rfl, .inr (SqT.of upd_same), rfl, rfl, false, by decide +kernel, iteF ?_⟩
        have e9 : last (cs.take (i + 1)) = last (cs.take i) := lm.trans (Int.add_zero _)
        refine ⟨a, b, some (.ref t), ?_, e2.trans s1⟩
        rw [e9]
        rfl
      | left n =>
        refine ⟨_, rfl, t, _, 0, _, rfl, rfl, ht, rfl, (by show 2 ≤ sizeLine; decide), fun p1 hp1 => ?_⟩
        have s1 := same_upd (Same.refl H2) hp1 (o := .tup [.str "down", .str "up"])
        refine ⟨p1, _, rfl, .inr (SqT.of upd_same), rfl, rfl, false, by decide +kernel, iteF ?_⟩
        have e9 : last (cs.take (i + 1)) = last (cs.take i) := lm.trans (Int.add_zero _)
        refine ⟨a, b, some (.ref t), ?_, e2.trans s1⟩
        rw [e9]
        rfl
      | home =>
        refine ⟨_, rfl, t, _, 0, _, rfl, rfl, ht, rfl, (by show 2 ≤ sizeLine; decide), fun p1 hp1 => ?_⟩
        have s1 := same_upd (Same.refl H2) hp1 (o := .tup [.str "down", .str "up"])
        refine ⟨p1, _, rfl, .inr (SqT.of upd_same), rfl, rfl, false, by decide +kernel, iteF ?_⟩
        have e9 : last (cs.take (i + 1)) = last (cs.take i) := lm.trans (Int.add_zero _)
        refine ⟨a, b, some (.ref t), ?_, e2.trans s1⟩
        rw [e9]
        rfl
      | stop =>
        refine ⟨_, rfl, t, _, 0, _, rfl, rfl, ht, rfl, (by show 2 ≤ sizeLine; decide), fun p1 hp1 => ?_⟩
        have s1 := same_upd (Same.refl H2) hp1 (o := .tup [.str "down", .str "up"])
        refine ⟨p1, _, rfl, .inr (SqT.of upd_same), rfl, rfl, false, by decide +kernel, iteF ?_⟩
        have e9 : last (cs.take (i + 1)) = last (cs.take i) := lm.trans (Int.add_zero _)
        refine ⟨a, b, some (.ref t), ?_, e2.trans s1⟩
        rw [e9]
        rfl
    · obtain ⟨a, b, v4, rfl, e2⟩ := h
      refine ⟨_, rfl, _, rfl, _, rfl, (by show 3 ≤ sizeLine; decide), fun p hp => ?_⟩
      refine k _ p a b (same_upd e2 hp) ?_
      rw [upd_same, hcs.len, List.take_length]
theorem sc_law_aim : FnScope ["rng", "steps", "some", "lefts", "near", "found", "step"] ["rng", "steps"] (defScope s_aim) := ⟨rfl, rfl, rfl, by decide +kernel, rfl, by decide +kernel, by decide +kernel⟩
theorem ok_aim {f : Addr} {fd : FuncData} (F : Fun K "_law_aim" "_law_aim" s_aim f fd) (T : TxtA mg) (c_law_draw : Cal P w K mg base 1 "_law_draw" spDraw) : FnOk P w K mg base CX0 2 f fd ["rng", "steps"] (spAim K) := by
  refine F.ok sc_law_aim (fun vs H Q E h => ?_) (fun cdv A outer s H vs Q E hr h => ?_)
  · obtain ⟨r, l, n, xs, cs, rfl, _⟩ := h
    rfl
  · obtain ⟨r, l, n, xs, cs, rfl, hR, hn, hl, lr, hcs, ok, sm, ln, k⟩ := h
    refine ⟨_, (pss_cons (ps_setLc (i := 2) (own := [("step", 6)]) rfl sc_law_aim.nd rfl rfl (sw_true rfl rfl rfl (by decide +kernel)) (pi_list (pv 1)) (blkOk_by (N := ["rng", "steps", "some", "lefts", "near", "found", "step"]) (sc := defScope s_aim) (by decide +kernel)) (fun _ _ _ _ _ => (pg_name (i := 6) sc_law_aim.nd rfl (Or.inl rfl))) (fun _ _ _ _ _ => (pts_one (pt_cmpR op_eq (pe_ix (show IxR _ (rIxT K) from ix_tup) (pv 6) pe_int (fun _ _ => rfl)) pe_str (nomark _)))) (fun _ _ _ _ _ => (pe_ix (show IxR _ (rIxT K) from ix_tup) (pv 6) pe_int (fun _ _ => rfl))))
      (pss_cons (ps_set (i := 3) sc_law_aim.nd rfl (Or.inl rfl) (pe_callB (cr_sum rfl) (by rfl) T.sum (by decide +kernel) (pa_cons (pe_lc (own := [("step", 6)]) rfl sc_law_aim.nd (pi_list (pv 1)) (blkOk_by (N := ["rng", "steps", "some", "lefts", "near", "found", "step"]) (sc := defScope s_aim) (by decide +kernel)) (fun _ _ _ _ _ => (pg_name (i := 6) sc_law_aim.nd rfl (Or.inl rfl))) (fun _ _ _ _ _ => (pts_one (pt_cmpR op_eq (pe_ix (show IxR _ (rIxT K) from ix_tup) (pv 6) pe_int (fun _ _ => rfl)) pe_str (nomark _)))) (fun _ _ _ _ _ => (pe_ix (show IxR _ (rIxT K) from ix_tup) (pv 6) pe_int (fun _ _ => rfl)))) pa_nil)))
      (pss_cons (ps_set (i := 4) sc_law_aim.nd rfl (Or.inl rfl) (pe_op op_sub (pe_op op_add (pe_op op_sub (pe_callB (cr_sum rfl) (by rfl) T.sum (by decide +kernel) (pa_cons (pe_slice sl_list (pv 2) (po_some (pe_cal c_law_draw hr (by decide) (by rfl) (pa_cons (pv 0) (pa_cons (pe_op op_add (pe_callB call_len_seq (by rfl) T.len (by decide +kernel) (pa_cons (pv 2) pa_nil)) pe_int) pa_nil)))) po_none) pa_nil)) (pe_op op_mulW (pv 3) (pe_cal c_law_draw hr (by decide) (by rfl) (pa_cons (pv 0) (pa_cons pe_int pa_nil))))) (pe_cal c_law_draw hr (by decide) (by rfl) (pa_cons (pv 0) (pa_cons pe_int pa_nil)))) pe_int))
      (pss_cons (ps_set (i := 5) sc_law_aim.nd rfl (Or.inl rfl) (pe_ix ix_list (pe_lst (pa_cons (pe_op op_add pe_int (pe_cal c_law_draw hr (by decide) (by rfl) (pa_cons (pv 0) (pa_cons pe_int pa_nil)))) (pa_cons (pv 4) (pa_cons (pv 4) (pa_cons (pe_op op_add pe_int (pe_cal c_law_draw hr (by decide) (by rfl) (pa_cons (pv 0) (pa_cons (pe_op op_sub (pe_op op_pow pe_int pe_int) pe_int) pa_nil)))) pa_nil))))) (pe_cal c_law_draw hr (by decide) (by rfl) (pa_cons (pv 0) (pa_cons pe_int pa_nil))) (fun _ _ => rfl)))
      (pss_one (ps_ret (pe_callB (call_min2 rfl) (by rfl) T.min (by decide +kernel) (pa_cons (pe_callB (call_max2 rfl) (by rfl) T.max (by decide +kernel) (pa_cons pe_int (pa_cons (pv 5) pa_nil))) (pa_cons (pe_op op_sub (pe_op op_pow pe_int pe_int) pe_int) pa_nil))))))))), ?_⟩
    -- some = [step[1] for step in steps if step[0] == 'right']
    refine ⟨_, rfl, l, rfl, ⟨_, hl⟩, fun D hD => ?_⟩
    have hr0 : ∃ o, H r = some o := by
      obtain ⟨_, _, _, q, _⟩ := hR
      exact ⟨_, q⟩
    refine lc_list (K := K) (a := l) (xs := xs) (fun i H' => ∃ ns : List Int, Same H H' ∧ H' D = some (.lst (ns.map V.int)) ∧ ns.length ≤ i) ⟨[], same_upd (Same.refl H) hD, upd_same, Nat.le_refl _⟩ (fun i H' _ ⟨_, e, _⟩ => e.seq hl) (fun i x H' hi h => ?_) (fun H1 h => ?_)
    · obtain ⟨ns, e, hd, ln1⟩ := h
      obtain ⟨c, hc, t, rfl, ht0⟩ := paired_at hcs hi
      have ht := seq_t e ht0
      have li := (List.getElem?_eq_some_iff.mp hc).1
      cases c with
      | right n =>
        refine ⟨rfl, _, rfl, t, _, 0, _, rfl, rfl, ht, rfl, rfl, true, by decide +kernel, iteT ?_⟩
        refine ⟨_, rfl, t, _, 1, _, rfl, rfl, ht, rfl, _, hd, small_len (by rw [List.length_map]; omega), ns ++ [n], fun b o hb => ?_, ?_, ?_⟩
        · rw [upd_ne (ne_of_none hb hD)]
          exact e b o hb
        · rw [upd_same, List.map_append]
          rfl
        · rw [List.length_append, List.length_singleton]
          omega
      | left n => exact ⟨rfl, _, rfl, t, _, 0, _, rfl, rfl, ht, rfl, rfl, false, by decide +kernel, iteF ⟨ns, e, hd, Nat.le_succ_of_le ln1⟩⟩
      | down n => exact ⟨rfl, _, rfl, t, _, 0, _, rfl, rfl, ht, rfl, rfl, false, by decide +kernel, iteF ⟨ns, e, hd, Nat.le_succ_of_le ln1⟩⟩
      | up n => exact ⟨rfl, _, rfl, t, _, 0, _, rfl, rfl, ht, rfl, rfl, false, by decide +kernel, iteF ⟨ns, e, hd, Nat.le_succ_of_le ln1⟩⟩
      | home => exact ⟨rfl, _, rfl, t, _, 0, _, rfl, rfl, ht, rfl, rfl, false, by decide +kernel, iteF ⟨ns, e, hd, Nat.le_succ_of_le ln1⟩⟩
      | stop => exact ⟨rfl, _, rfl, t, _, 0, _, rfl, rfl, ht, rfl, rfl, false, by decide +kernel, iteF ⟨ns, e, hd, Nat.le_succ_of_le ln1⟩⟩
    obtain ⟨ns, e1, hd, ln1⟩ := h
    -- lefts = sum([...])
    refine ⟨_, rfl, l, rfl, ⟨_, e1.seq hl⟩, fun D2 hD2 => ?_⟩
    refine lc_list (K := K) (a := l) (xs := xs) (fun i H' => ∃ ms : List Int, Same H1 H' ∧ H' D2 = some (.lst (ms.map V.int)) ∧ ms.length ≤ i ∧ 0 ≤ ms.sum ∧ ms.sum ≤ i * 10 ^ 29) ⟨[], same_upd (Same.refl H1) hD2, upd_same, Nat.le_refl _, by decide, by decide⟩ (fun i H' _ ⟨_, e, _⟩ => (e1.trans e).seq hl) (fun i x H' hi h => ?_) (fun H2 h => ?_)
    · obtain ⟨ms, e, hd2, ln2, u0, u1⟩ := h
      obtain ⟨c, hc, t, rfl, ht0⟩ := paired_at hcs hi
      have ht := seq_t (e1.trans e) ht0
      have li := (List.getElem?_eq_some_iff.mp hc).1
      have okc := ok c (List.mem_of_getElem? hc)
      have smc := sm c (List.mem_of_getElem? hc)
      cases c with
      | left n =>
        have ok1 : 1 ≤ n := okc
        have sm1 : n ≤ 10 ^ 29 := smc
        refine ⟨rfl, _, rfl, t, _, 0, _, rfl, rfl, ht, rfl, rfl, true, by decide +kernel, iteT ?_⟩
        refine ⟨_, rfl, t, _, 1, _, rfl, rfl, ht, rfl, _, hd2, small_len (by rw [List.length_map]; omega), ms ++ [n], fun b o hb => ?_, ?_, ?_, ?_, ?_⟩
        · rw [upd_ne (ne_of_none hb hD2)]
          exact e b o hb
        · rw [upd_same, List.map_append]
          rfl
        · rw [List.length_append, List.length_singleton]
          omega
        · rw [List.sum_append, List.sum_singleton]
          omega
        · rw [List.sum_append, List.sum_singleton]
          omega
      | right n => exact ⟨rfl, _, rfl, t, _, 0, _, rfl, rfl, ht, rfl, rfl, false, by decide +kernel, iteF ⟨ms, e, hd2, Nat.le_succ_of_le ln2, u0, by omega⟩⟩
      | down n => exact ⟨rfl, _, rfl, t, _, 0, _, rfl, rfl, ht, rfl, rfl, false, by decide +kernel, iteF ⟨ms, e, hd2, Nat.le_succ_of_le ln2, u0, by omega⟩⟩
      | up n => exact ⟨rfl, _, rfl, t, _, 0, _, rfl, rfl, ht, rfl, rfl, false, by decide +kernel, iteF ⟨ms, e, hd2, Nat.le_succ_of_le ln2, u0, by omega⟩⟩
      | home => exact ⟨rfl, _, rfl, t, _, 0, _, rfl, rfl, ht, rfl, rfl, false, by decide +kernel, iteF ⟨ms, e, hd2, Nat.le_succ_of_le ln2, u0, by omega⟩⟩
      | stop => exact ⟨rfl, _, rfl, t, _, 0, _, rfl, rfl, ht, rfl, rfl, false, by decide +kernel, iteF ⟨ms, e, hd2, Nat.le_succ_of_le ln2, u0, by omega⟩⟩
    obtain ⟨ms, e2, hd2, ln2, u0, u1⟩ := h
    have xl : xs.length ≤ 20 := by rw [hcs.len]; exact ln
    refine ⟨D2, ms, rfl, SqL.of hd2, ?_⟩
    have hR2 : Rng H2 r n := hR.same (e1.trans e2)
    have Dr : D ≠ r := by
      obtain ⟨o, q⟩ := hr0
      exact (ne_of_none q hD).symm
    -- near
    have hd' := e2 _ _ hd
    refine ⟨_, rfl, _, rfl, _, rfl, D, _, rfl, .inl (SqL.of hd'), _, _, rfl, rfl, r, n, _, rfl, hR2, by omega, by rw [List.length_map]; omega, log9 (a := 100) (by rw [List.length_map]; omega) (by decide), fun H3 d1 kp3 rg3 a0 a1 => ?_⟩
    obtain ⟨cn, hcn⟩ := cut_ints ns (some d1) none
    refine ⟨_, rfl, D, _, rfl, SqL.of (kp3 _ _ Dr Dr hd'), fun p hp => ?_⟩
    rw [hcn]
    have s3 : Same H3 (upd H3 p (.lst (cn.map V.int))) := same_upd (Same.refl _) hp
    refine ⟨p, cn, rfl, SqL.of upd_same, ?_⟩
    refine ⟨_, rfl, _, rfl, r, _, 2, rfl, rg3.same s3, by omega, by decide, by decide, fun H4 d2 kp4 rg4 b0 b1 => ?_⟩
    refine ⟨_, _, rfl, rfl, wide_mul (a := 120) (b := 10) (by omega) (by omega) (by decide) (by decide) (by decide), _, _, rfl, rfl, ?_⟩
    refine ⟨_, rfl, r, _, 5, rfl, rg4, by omega, by decide, by decide, fun H5 d3 kp5 rg5 _ _ => ?_⟩
    refine ⟨_, _, rfl, rfl, _, _, rfl, rfl, ?_⟩
    -- found
    refine ⟨_, rfl, r, _, 9, rfl, rg5, by omega, by decide, by decide, fun H6 d4 kp6 rg6 _ _ => ?_⟩
    refine ⟨_, _, rfl, rfl, _, rfl, _, rfl, _, rfl, _, _, rfl, rfl, cpow (by decide), _, _, rfl, rfl, r, _, _, rfl, rg6, by omega, (by decide), log9 (a := 110) (by decide) (by decide), fun H7 d5 kp7 rg7 _ _ => ?_⟩
    refine ⟨_, _, rfl, rfl, (by show 4 ≤ sizeLine; decide), fun q hq => ?_⟩
    have s7 : ∀ o, Same H7 (upd H7 q o) := fun o => same_upd (Same.refl H7) hq
    have qr : q ≠ r := by
      obtain ⟨_, _, _, z, _⟩ := rg7
      exact (ne_of_none z hq).symm
    refine ⟨_, rfl, r, _, 4, rfl, rg7.same (s7 _), by omega, by decide, by decide, fun H8 d6 kp8 rg8 g0 g1 => ?_⟩
    obtain ⟨v, hv⟩ : ∃ v : Int, atI [V.int (1 + d4), .int (cn.sum - ms.sum * d2 + d3 - 2), .int (cn.sum - ms.sum * d2 + d3 - 2), .int (1 + d5)] d6 = some (.int v) := by
      rcases (show d6 = 0 ∨ d6 = 1 ∨ d6 = 2 ∨ d6 = 3 by omega) with rfl | rfl | rfl | rfl
      · exact ⟨_, rfl⟩
      · exact ⟨_, rfl⟩
      · exact ⟨_, rfl⟩
      · exact ⟨_, rfl⟩
    refine ⟨q, _, _, _, rfl, rfl, SqL.of (kp8 _ _ qr qr upd_same), hv, ?_⟩
    refine ⟨_, rfl, _, _, rfl, _, _, rfl, rfl, cpow (by decide), _, _, rfl, rfl, _, _, rfl, ?_⟩
    have p30 : (10 : Int) ^ (30 : Int).toNat - 1 = 10 ^ 30 - 1 := rfl
    refine k _ _ ?_ (rg8.more (by omega)) ?_ ?_
    · exact (Keep.of (e1.trans e2)).trans (kp3.trans ((Keep.of s3).trans (kp4.trans (kp5.trans (kp6.trans (kp7.trans ((Keep.of (s7 _)).trans kp8)))))))
    · show 1 ≤ if (10 : Int) ^ 30 - 1 < (if v > 1 then v else 1) then (10 : Int) ^ 30 - 1 else (if v > 1 then v else 1)
      have hm : 1 ≤ (if v > 1 then v else 1) := by split <;> omega
      generalize (if v > 1 then v else 1) = m at hm ⊢
      split <;> omega
    · show (if (10 : Int) ^ 30 - 1 < (if v > 1 then v else 1) then (10 : Int) ^ 30 - 1 else (if v > 1 then v else 1)) ≤ 10 ^ 30 - 1
      generalize (if v > 1 then v else 1) = m
      split <;> omega
end
end Gc

namespace Gc
open PySem L2
abbrev s_joined : Stmt := top 23
abbrev s_contains : Stmt := top 24
structure TxtD (mg : Str → Option Value) : Prop where
  dict : mg "dict" = none
  sorted : mg "sorted" = none
  max : mg "max" = none
def spJoined (K : PySem.W.Frag) : Sp := fun vs H Q _ => ∃ (le ll : Addr) (xe xl : List V) (ce cl : List Cmd) (gone aim : Int), vs = [.ref le, .ref ll, .int gone, .int aim] ∧ SqL K H le xe ∧ CmdsOf K H xe ce ∧ AllOk ce ∧ ce.length ≤ 100 ∧
  SqL K H ll xl ∧ CmdsOf K H xl cl ∧ AllOk cl ∧ cl.length ≤ 100 ∧ 1 ≤ aim ∧
  (joinedM ce cl gone aim = none → ∀ H', Same H H' → Q .non H') ∧ ∀ st L, joinedM ce cl gone aim = some (st, L) → ∀ H' p, Same H H' → BoxAt H H' p st L → Q (.ref p) H'
theorem same_freeU {H H' : Hp} {d : Addr} {o : HO} (e : Same H H') (h : H d = none) : Same H (upd H' d o) := fun b u hb => by
  rw [upd_ne (ne_of_none hb h)]
  exact e b u hb
theorem go_len : ∀ {r : List Cmd} {off need : Int} {b : Ps} {st : Option Int} {b' : Ps}, go r off need b = some (st, b') → b'.length ≤ b.length + r.length
  | [], _, _, b, _, _, h => by cases h; exact Nat.le_refl _
  | .home :: r, _, _, b, _, _, h => by cases h
  | .stop :: r, _, _, b, _, _, h => by cases h; exact Nat.le_add_right _ _
  | .right n :: r, off, need, b, st, b', h => by
    have q := req_len b off need
    rw [List.length_cons]
    simp only [go] at h
    split at h
    · have := go_len h
      omega
    · cases h
      omega
  | .left n :: r, off, need, b, st, b', h => by
    have q := req_len b off (need + n)
    rw [List.length_cons]
    simp only [go] at h
    have := go_len h
    omega
  | .down n :: r, off, need, b, st, b', h => by
    rw [List.length_cons]
    simp only [go] at h
    have := go_len h
    omega
  | .up n :: r, off, need, b, st, b', h => by
    rw [List.length_cons]
    simp only [go] at h
    have := go_len h
    omega
theorem box_len {cs : List Cmd} {goal : Int} {st : Option Int} {L : Ps} (h : boxM cs goal = some (st, L)) : L.length ≤ cs.length := by
  unfold boxM at h
  cases e : go cs.reverse (last cs) goal [] with
  | none =>
    rw [e] at h
    cases h
  | some x =>
    rw [e] at h
    obtain ⟨st', b'⟩ := x
    have q := go_len e
    have h' : (st', b'.mergeSort leK) = (st, L) := Option.some.inj h
    cases h'
    rw [List.length_mergeSort]
    rw [List.length_reverse, List.length_nil] at q
    omega
theorem addAll_more {b l : Ps} {i : Nat} {q : Int × Int} (h : l[i]? = some q) : addAll b (l.take (i + 1)) = put (addAll b (l.take i)) q.1 (mx q.2 ((look (addAll b (l.take i)) q.1).getD 0)) := by
  unfold addAll
  rw [take_snoc h, List.foldl_append]
  rfl
theorem addAll_len : ∀ (l b : Ps), (addAll b l).length ≤ b.length + l.length
  | [], b => Nat.le_refl _
  | q :: l, b => by
    have h := addAll_len l (put b q.1 (mx q.2 ((look b q.1).getD 0)))
    have h2 := put_len b q.1 (mx q.2 ((look b q.1).getD 0))
    rw [List.length_cons]
    show (addAll (put b q.1 (mx q.2 ((look b q.1).getD 0))) l).length ≤ _
    omega
theorem merge_dkI : ∀ (b acc : Ps), (keys acc ++ keys b).Nodup → mergeK (dkI acc) (dkI b) = dkI (acc ++ b)
  | [], acc, _ => by rw [List.append_nil]; rfl
  | q :: b, acc, h => by
    have nq : q.1 ∉ keys acc := fun z => by
      have := (List.nodup_append.mp h).2.2 q.1 z q.1 List.mem_cons_self
      exact this rfl
    show mergeK (putK (dkI acc) (Sum.inl q.1 : L2.Key) (.int q.2)) (dkI b) = _
    rw [putK_dkI]
    have e : put acc q.1 q.2 = acc ++ [q] := by
      unfold put
      rw [if_neg fun z => nq ((any_key acc q.1).mp z)]
    rw [e, merge_dkI b (acc ++ [q]) (by
      have e2 : keys (acc ++ [q]) ++ keys b = keys acc ++ keys (q :: b) := by
        unfold keys
        simp
      rw [e2]
      exact h), List.append_assoc]
    rfl
theorem paired_dkI {K : PySem.W.Frag} {H : Hp} : ∀ {ps : List Addr} {qs : Ps}, Paired (fun (p : Addr) (q : Int × Int) => H p = some (.tup [.int q.1, .int q.2])) ps qs → Paired (fun (p : Addr) (kv : L2.Key × V) => SqT K H p [kV kv.1, kv.2]) ps (dkI qs)
  | _, _, .nil => .nil
  | _, _, .cons h t => .cons (SqT.of h) (paired_dkI t)
theorem ref_at {ts : List Addr} {i : Nat} {x : V} (h : (ts.map V.ref)[i]? = some x) : ∃ t, ts[i]? = some t ∧ x = .ref t := by
  rw [List.getElem?_map] at h
  cases e : ts[i]? with
  | none =>
    rw [e] at h
    cases h
  | some t =>
    rw [e] at h
    exact ⟨t, rfl, (Option.some.inj h).symm⟩
theorem dki_len (b : Ps) : (dkI b).length = b.length := List.length_map ..
section
variable {P : Program} {w : World} {K : PySem.W.Frag} {mg : Str → Option Value} {base : Heap}
theorem sc_law_joined : FnScope ["early", "late", "gone", "aim", "needed", "lines_here", "before", "offset", "bound"] ["early", "late", "gone", "aim"] (defScope s_joined) := ⟨rfl, rfl, rfl, by decide +kernel, rfl, by decide +kernel, by decide +kernel⟩
theorem ok_joined {f : Addr} {fd : FuncData} (F : Fun K "_law_joined" "_law_joined" s_joined f fd) (T : TxtD mg) (c_box : Cal P w K mg base 5 "box" (spBox K)) : FnOk P w K mg base CX0 6 f fd ["early", "late", "gone", "aim"] (spJoined K) := by
  refine F.ok sc_law_joined (fun vs H Q E h => ?_) (fun cdv A outer s H vs Q E hr h => ?_)
  · obtain ⟨le, ll, xe, xl, ce, cl, gone, aim, rfl, _⟩ := h
    rfl
  · obtain ⟨le, ll, xe, xl, ce, cl, gone, aim, rfl, hle, hce, oke, lne, hll, hcl, okl, lnl, ha, kn, ks⟩ := h
    refine ⟨_, (pss_cons (ps_set (i := 4) sc_law_joined.nd rfl (Or.inl rfl) (pe_cal c_box hr (by decide) (by rfl) (pa_cons (pv 1) (pa_cons (pv 3) pa_nil))))
      (pss_cons (ps_if (pt_cmpR op_isN (pv 4) pe_non (nomark _)) (pss_one (ps_ret pe_non)) pss_nil)
      (pss_cons (ps_set (i := 5) sc_law_joined.nd rfl (Or.inl rfl) (pe_callTy (call_dictP rfl) (by rfl) T.dict (by decide +kernel) (pa_cons (pe_lc (own := [("offset", 7), ("bound", 8)]) rfl sc_law_joined.nd (pi_list (pe_ix ix_tup (pv 4) pe_int (fun _ _ => rfl))) (blkOk_by (N := ["early", "late", "gone", "aim", "needed", "lines_here", "before", "offset", "bound"]) (sc := defScope s_joined) (by decide +kernel)) (fun _ _ _ _ _ => (show PG _ _ (gTup K 2 _) from pg_tup rfl (pgs_cons (pg_name (i := 7) sc_law_joined.nd rfl (Or.inl rfl)) (pgs_cons (pg_name (i := 8) sc_law_joined.nd rfl (Or.inl rfl)) pgs_nil)))) (fun _ _ _ _ _ => pts_nil) (fun _ _ _ _ _ => (pe_tup (pa_cons (pe_op op_add (pv 7) (pv 2)) (pa_cons (pv 8) pa_nil))))) pa_nil)))
      (pss_cons (ps_if (pt_cmpR op_isN (pe_ix ix_tup (pv 4) pe_int (fun _ _ => rfl)) pe_non (nomark _)) (pss_one (ps_ret (pe_tup (pa_cons pe_non (pa_cons (pe_sortItems rfl hr.units (pv 5) (by rfl) T.sorted (by decide +kernel)) pa_nil))))) pss_nil)
      (pss_cons (ps_set (i := 6) sc_law_joined.nd rfl (Or.inl rfl) (pe_cal c_box hr (by decide) (by rfl) (pa_cons (pv 0) (pa_cons (pe_ix ix_tup (pv 4) pe_int (fun _ _ => rfl)) pa_nil))))
      (pss_cons (ps_if (pt_cmpR op_isN (pv 6) pe_non (nomark _)) (pss_one (ps_ret pe_non)) pss_nil)
      (pss_cons (ps_for PassesOwn.never rfl (pi_list (pe_ix ix_tup (pv 6) pe_int (fun _ _ => rfl))) (pg_tup rfl (pgs_cons (pg_name (i := 7) sc_law_joined.nd rfl (Or.inl rfl)) (pgs_cons (pg_name (i := 8) sc_law_joined.nd rfl (Or.inl rfl)) pgs_nil))) (pss_one (ps_dput (hu_of hr) (pv 5) (pv 7) (pe_callB (call_max2 rfl) (by rfl) T.max (by decide +kernel) (pa_cons (pv 8) (pa_cons (pe_dget2 (hu_of hr) (pv 5) (pv 7) pe_int ⟨rfl, rfl, rfl, rfl⟩) pa_nil))) rfl)))
      (pss_one (ps_ret (pe_tup (pa_cons (pe_ix ix_tup (pv 6) pe_int (fun _ _ => rfl)) (pa_cons (pe_sortItems rfl hr.units (pv 5) (by rfl) T.sorted (by decide +kernel)) pa_nil)))))))))))), ?_⟩
    rcases box_spec okl ha with ⟨b1, _⟩ | ⟨st, b, b1, gb, _, pb⟩
    · refine ⟨_, rfl, _, rfl, ll, xl, cl, aim, rfl, hll, hcl, okl, by omega, ha, fun _ H1 e1 => ?_, fun st L z => absurd (b1.symm.trans z) (by intro q; cases q)⟩
      refine ⟨_, rfl, rfl, _, rfl, iteT ?_⟩
      exact kn (by unfold joinedM; rw [b1]) _ e1
    refine ⟨_, rfl, _, rfl, ll, xl, cl, aim, rfl, hll, hcl, okl, by omega, ha, fun z => absurd (b1.symm.trans z) (by intro q; cases q), fun st' L' z H1 np e1 bx => ?_⟩
    have z' : (st, b.mergeSort leK) = (st', L') := Option.some.inj (b1.symm.trans z)
    cases z'
    have gL := good_perm gb (List.mergeSort_perm b leK)
    have lL := box_len b1
    generalize hL : b.mergeSort leK = L at *
    obtain ⟨m, ts, n1, n2, h1, h2, hp⟩ := bx
    have tl : ts.length = L.length := Paired.length hp
    refine ⟨_, rfl, rfl, _, rfl, iteF ?_⟩
    -- the dict
    refine ⟨_, rfl, np, _, 1, _, rfl, rfl, SqT.of h1, rfl, m, rfl, ⟨_, SqL.of h2⟩, fun D hD => ?_⟩
    refine lc_list (K := K) (a := m) (xs := ts.map V.ref) (fun i H' => ∃ ps : List Addr, Same H1 H' ∧ H' D = some (.lst (ps.map V.ref)) ∧ Paired (fun (p : Addr) (q : Int × Int) => H' p = some (.tup [.int q.1, .int q.2])) ps ((shiftK gone L).take i))
      ⟨[], same_upd (Same.refl H1) hD, upd_same, .nil⟩ (fun i H' _ ⟨_, e, _⟩ => SqL.of (e _ _ h2)) (fun i x H' hi h => ?_) (fun H2 h => ?_)
    · obtain ⟨ps, e, hd, pp⟩ := h
      obtain ⟨t, ht, rfl⟩ := ref_at hi
      obtain ⟨q, hq, ht1⟩ := paired_at hp ht
      have li := (List.getElem?_eq_some_iff.mp hq).1
      have pl : ps.length ≤ i := by
        have := Paired.length pp
        rw [List.length_take] at this
        omega
      refine ⟨t, _, rfl, SqT.of (e _ _ ht1), rfl, _, _, rfl, _, _, rfl, rfl, rfl, ?_⟩
      refine ⟨_, rfl, _, rfl, _, _, rfl, rfl, _, rfl, (by show 2 ≤ sizeLine; decide), fun p hp' => ?_⟩
      have s1 : Same H' (upd H' p (.tup [.int (q.1 + gone), .int q.2])) := same_upd (Same.refl H') hp'
      have pD : p ≠ D := (ne_of_none hd hp').symm
      refine ⟨_, s1 _ _ hd, small_len (by rw [List.length_map]; omega), ps ++ [p], same_freeU (e.trans s1) hD, ?_, ?_⟩
      · rw [upd_same, List.map_append]
        rfl
      · have sq : (shiftK gone L)[i]? = some (q.1 + gone, q.2) := by
          unfold shiftK
          rw [List.getElem?_map, hq]
          rfl
        rw [take_snoc sq]
        refine Paired.snoc (Paired.mapP pp fun y u w => ?_) ?_
        · rw [upd_ne (ne_of w hd (by intro q; cases q))]
          exact s1 _ _ w
        · rw [upd_ne pD]
          exact upd_same
    obtain ⟨ps, e2, hd2, pp⟩ := h
    have sl : (shiftK gone L).length = L.length := by
      unfold shiftK
      rw [List.length_map]
    rw [List.length_map, tl, ← sl, List.take_length] at pp
    have gs := good_shift gone gL
    refine ⟨D, ps, dkI (shiftK gone L), rfl, SqL.of hd2, paired_dkI pp, fun d hd => ?_⟩
    rw [show mergeK [] (dkI (shiftK gone L)) = dkI (shiftK gone L) from merge_dkI (shiftK gone L) [] gs.nd]
    generalize gH3 : upd H2 d (.dK (dkI (shiftK gone L))) = H3
    have hd3 : H3 d = some (.dK (dkI (shiftK gone L))) := by rw [← gH3]; exact upd_same
    have e13 : Same H1 H3 := by rw [← gH3]; exact same_upd e2 hd
    have dH1 : H1 d = none := e2.free hd
    refine ⟨_, rfl, np, _, 0, _, rfl, rfl, SqT.of (e13 _ _ h1), rfl, rfl, _, rfl, ?_⟩
    cases st with
    | none =>
      refine iteT ?_
      refine ⟨_, rfl, d, _, rfl, hd3, fun H4 m4 ts4 e4 nm hm hp4 => ⟨(by show 2 ≤ sizeLine; decide), fun p np4 => ?_⟩⟩
      have e5 : Same H4 (upd H4 p (.tup [.non, .ref m4])) := same_upd (Same.refl _) np4
      have e03 := e1.trans e13
      refine ks none ((shiftK gone L).mergeSort leK) ?_ _ p ((e03.trans e4).trans e5) ⟨m4, ts4, (e03.trans e4).free np4, e03.free nm, upd_same, e5 _ _ hm, Paired.mapP hp4 fun _ _ q => e5 _ _ q⟩
      unfold joinedM
      rw [b1]
    | some n =>
      refine iteF ?_
      have pn := pb n rfl
      have e03 := e1.trans e13
      rcases box_spec oke pn with ⟨c1, _⟩ | ⟨st2, b2, c1, gb2, _, _⟩
      · refine ⟨_, rfl, _, rfl, np, _, 0, _, rfl, rfl, SqT.of (e13 _ _ h1), rfl, le, xe, ce, n, rfl, e03.seq hle, hce.same e03, oke, by omega, pn, fun _ H4 e4 => ?_, fun st L z => absurd (c1.symm.trans z) (by intro q; cases q)⟩
        refine ⟨_, rfl, rfl, _, rfl, iteT ?_⟩
        exact kn (by unfold joinedM; rw [b1]; show (match boxM ce n with | none => none | some (st, m) => some (st, (addAll (shiftK gone L) m).mergeSort leK)) = none; rw [c1]) _ (e03.trans e4)
      refine ⟨_, rfl, _, rfl, np, _, 0, _, rfl, rfl, SqT.of (e13 _ _ h1), rfl, le, xe, ce, n, rfl, e03.seq hle, hce.same e03, oke, by omega, pn, fun z => absurd (c1.symm.trans z) (by intro q; cases q), fun st' L' z H4 np2 e4 bx => ?_⟩
      have z' : (st2, b2.mergeSort leK) = (st', L') := Option.some.inj (c1.symm.trans z)
      cases z'
      have lM := box_len c1
      generalize hM : b2.mergeSort leK = M at *
      obtain ⟨m2, ts2, n3, n4, h3, h4, hp2⟩ := bx
      have tl2 : ts2.length = M.length := Paired.length hp2
      have hd4 := e4 _ _ hd3
      refine ⟨_, rfl, rfl, _, rfl, iteF ?_⟩
      have nd : ∀ {x : Addr} {o : HO}, H4 x = some o → o ≠ .dK (dkI (shiftK gone L)) → x ≠ d := fun h1 h2 => ne_of h1 hd4 h2
      refine ⟨_, rfl, np2, _, 1, _, rfl, rfl, SqT.of h3, rfl, m2, rfl, ⟨_, SqL.of h4⟩, for_list (K := K) (a := m2) (xs := ts2.map V.ref) (fun i σ H' => ∃ v7 v8 : Option V, σ = [some (.ref le), some (.ref ll), some (.int gone), some (.int aim), some (.ref np), some (.ref d), some (.ref np2), v7, v8] ∧
        Keep d d H4 H' ∧ H' d = some (.dK (dkI (addAll (shiftK gone L) (M.take i)))))
        ⟨none, none, rfl, Keep.refl H4, hd4⟩ (fun i σ H' _ ⟨_, _, _, e, _⟩ => SqL.of (e _ _ (nd h4 (by intro q; cases q)) (nd h4 (by intro q; cases q)) h4)) (fun i x σ H5 hi h => ?_) (fun σ H5 h => ?_)⟩
      · obtain ⟨v7, v8, rfl, kp, hd5⟩ := h
        obtain ⟨t, ht, rfl⟩ := ref_at hi
        obtain ⟨q, hq, ht1⟩ := paired_at hp2 ht
        have li := (List.getElem?_eq_some_iff.mp hq).1
        have nt := nd ht1 (by intro q; cases q)
        have am := addAll_more (b := shiftK gone L) hq
        have al := addAll_len (M.take i) (shiftK gone L)
        rw [List.length_take] at al
        generalize addAll (shiftK gone L) (M.take i) = B at *
        have eg : (valV (dkI B) (Sum.inl q.1 : L2.Key)).getD (.int 0) = .int ((look B q.1).getD 0) := by
          rw [valV_dkI]
          cases look B q.1 <;> rfl
        refine ⟨t, _, rfl, SqT.of (kp _ _ nt nt ht1), rfl, _, _, rfl, _, _, rfl, rfl, ?_⟩
        refine ⟨_, rfl, _, rfl, d, rfl, .inl ⟨_, .inl hd5⟩, _, rfl, _, DGet.k (k := Sum.inl q.1) hd5, q.2, (look B q.1).getD 0, (by rw [eg]), ?_⟩
        refine ⟨_, rfl, _, rfl, d, _, rfl, DPut.k (k := Sum.inl q.1) hd5 ?_, ?_⟩
        · rw [dki_len]
          exact small_len (n := B.length) (by omega)
        · refine ⟨_, _, rfl, kp.upd1, ?_⟩
          rw [am, upd_same, ← putK_dkI]
          rfl
      · obtain ⟨v7, v8, rfl, kp, hd5⟩ := h
        rw [List.length_map, tl2, List.take_length] at hd5
        have ed : H4 d = some (.dK (dkI (shiftK gone L))) := hd4
        have hdH : H d = none := e1.free dH1
        have e05 : Same H H5 := fun b o hb => kp b o (ne_of_none hb hdH) (ne_of_none hb hdH) ((e03.trans e4) b o hb)
        have nn2 := nd h3 (by intro q; cases q)
        refine ⟨_, rfl, np2, _, 0, _, rfl, rfl, SqT.of (kp _ _ nn2 nn2 h3), rfl, _, rfl, d, _, rfl, hd5, fun H6 m6 ts6 e6 nm hm hp6 => ⟨(by show 2 ≤ sizeLine; decide), fun p np6 => ?_⟩⟩
        have e7 : Same H6 (upd H6 p (.tup [optV st2, .ref m6])) := same_upd (Same.refl _) np6
        refine ks st2 ((addAll (shiftK gone L) M).mergeSort leK) ?_ _ p ((e05.trans e6).trans e7) ⟨m6, ts6, (e05.trans e6).free np6, e05.free nm, upd_same, e7 _ _ hm, Paired.mapP hp6 fun _ _ q => e7 _ _ q⟩
        unfold joinedM
        rw [b1]
        show (match boxM ce n with | none => none | some (st, m) => some (st, (addAll (shiftK gone L) m).mergeSort leK)) = _
        rw [c1]
end
end Gc

namespace Gc
open PySem L2
def BoxHere (H : Hp) (p : Addr) (st : Option Int) (L : Ps) : Prop := ∃ (m : Addr) (ts : List Addr), H p = some (.tup [optV st, .ref m]) ∧ H m = some (.lst (ts.map V.ref)) ∧
  Paired (fun (t : Addr) (q : Int × Int) => H t = some (.tup [.int q.1, .int q.2])) ts L
theorem BoxAt.here {H H' : Hp} {p : Addr} {st : Option Int} {L : Ps} (h : BoxAt H H' p st L) : BoxHere H' p st L := by
  obtain ⟨m, ts, _, _, h1, h2, h3⟩ := h
  exact ⟨m, ts, h1, h2, h3⟩
theorem BoxHere.same {H H' : Hp} {p : Addr} {st : Option Int} {L : Ps} (e : Same H H') (h : BoxHere H p st L) : BoxHere H' p st L := by
  obtain ⟨m, ts, h1, h2, h3⟩ := h
  exact ⟨m, ts, e _ _ h1, e _ _ h2, Paired.mapP h3 fun _ _ q => e _ _ q⟩
def spContains : Sp := fun vs H Q _ => ∃ (g l : V), vs = [g, l] ∧ (g = .non ∨ ∃ (pg pl : Addr) (sg sl : Option Int) (G L : Ps), g = .ref pg ∧ l = .ref pl ∧ BoxHere H pg sg G ∧ BoxHere H pl sl L ∧
  (∀ n, sl = some n → ∃ n', sg = some n' ∧ n ≤ n') ∧ (∀ q ∈ L, q.2 ≤ val G q.1) ∧ (keys G).Nodup ∧ L.length ≤ 1000) ∧ ∀ H', Same H H' → Q (.bl true) H'
section
variable {P : Program} {w : World} {K : PySem.W.Frag} {mg : Str → Option Value} {base : Heap}
theorem sc_law_contains : FnScope ["great", "little", "bounds", "offset", "bound"] ["great", "little"] (defScope s_contains) := ⟨rfl, rfl, rfl, by decide +kernel, rfl, by decide +kernel, by decide +kernel⟩
theorem ok_contains {f : Addr} {fd : FuncData} (F : Fun K "_law_contains" "_law_contains" s_contains f fd) (T : TxtD mg) : FnOk P w K mg base CX0 1 f fd ["great", "little"] spContains := by
  refine F.ok sc_law_contains (fun vs H Q E h => ?_) (fun cdv A outer s H vs Q E hr h => ?_)
  · obtain ⟨g, l, rfl, _⟩ := h
    rfl
  · obtain ⟨g, l, rfl, h, k⟩ := h
    refine ⟨_, (pss_cons (ps_if (PW.pt (pw_or (pt_cmpR op_isN (pv 0) pe_non (nomark _)) (pw_or1 (pt_cmpR op_isN (pv 1) pe_non (nomark _))))) (pss_one (ps_ret (pe_cmpR op_isN (pv 0) pe_non (nomark _)))) pss_nil)
      (pss_cons (ps_if (PW.pt (pw_and (pt_cmpR op_notN (pe_ix ix_tup (pv 1) pe_int (fun _ _ => rfl)) pe_non (nomark _)) (pw_and1 (PW.pt (pw_or (pt_cmpR op_isN (pe_ix ix_tup (pv 0) pe_int (fun _ _ => rfl)) pe_non (nomark _)) (pw_or1 (pt_cmpR op_lt (pe_ix ix_tup (pv 0) pe_int (fun _ _ => rfl)) (pe_ix ix_tup (pv 1) pe_int (fun _ _ => rfl)) (nomark _)))))))) (pss_one (ps_ret pe_bl)) pss_nil)
      (pss_cons (ps_set (i := 2) sc_law_contains.nd rfl (Or.inr rfl) (pe_callTy (call_dictP rfl) (by rfl) T.dict (by decide +kernel) (pa_cons (pe_ix ix_tup (pv 0) pe_int (fun _ _ => rfl)) pa_nil)))
      (pss_one (ps_ret (pe_cmpR (op_eqD hr.units) (pe_lc (own := [("offset", 3), ("bound", 4)]) rfl sc_law_contains.nd (pi_list (pe_ix ix_tup (pv 1) pe_int (fun _ _ => rfl))) (blkOk_by (N := ["great", "little", "bounds", "offset", "bound"]) (sc := defScope s_contains) (by decide +kernel)) (fun _ _ _ _ _ => (show PG _ _ (gTup K 2 _) from pg_tup rfl (pgs_cons (pg_name (i := 3) sc_law_contains.nd rfl (Or.inl rfl)) (pgs_cons (pg_name (i := 4) sc_law_contains.nd rfl (Or.inl rfl)) pgs_nil)))) (fun _ _ _ _ _ => (pts_one (pt_cmpR op_lt (pe_dget2 (hu_of hr) (pv 2) (pv 3) pe_int ⟨rfl, rfl, rfl, rfl⟩) (pv 4) (nomark _)))) (fun _ _ _ _ _ => (pv 3))) (pe_lst pa_nil) (nomark _))))))), ?_⟩
    rcases h with rfl | ⟨pg, pl, sg, sl, G, L, rfl, rfl, hg, hl, m1, m2, nd, len⟩
    · refine ⟨_, rfl, rfl, _, rfl, iteT ?_⟩
      refine iteT (B := _) ?_
      exact ⟨_, rfl, rfl, k H (Same.refl H)⟩
    obtain ⟨mg1, tg, g1, g2, g3⟩ := hg
    obtain ⟨ml, tl, l1, l2, l3⟩ := hl
    have tll : tl.length = L.length := Paired.length l3
    refine ⟨_, rfl, rfl, _, rfl, iteF ?_⟩
    refine ⟨_, rfl, rfl, _, rfl, iteF ?_⟩
    refine ⟨_, rfl, pl, _, 0, _, rfl, rfl, SqT.of l1, rfl, rfl, _, rfl, ?_⟩
    have key : sl = none ∨ ∃ n n', sl = some n ∧ sg = some n' ∧ n ≤ n' := by
      cases sl with
      | none => exact .inl rfl
      | some n =>
        obtain ⟨n', e, h⟩ := m1 n rfl
        exact .inr ⟨n, n', rfl, e, h⟩
    rcases key with rfl | ⟨n, n', rfl, rfl, hn⟩
    refine iteF ?_
    rotate_left 1
    refine iteT ?_
    refine ⟨_, rfl, pg, _, 0, _, rfl, rfl, SqT.of g1, rfl, rfl, _, rfl, iteF ?_⟩
    refine ⟨_, rfl, pg, _, 0, _, rfl, rfl, SqT.of g1, rfl, _, rfl, pl, _, 0, _, rfl, rfl, SqT.of l1, rfl, _, _, rfl, rfl, _, rfl, ite2 (fun c => absurd (of_decide_eq_true c) (by omega)) (fun _ => ?_)⟩
    rotate_left 1
    refine iteF ?_
    all_goals
      refine ⟨_, rfl, pg, _, 1, _, rfl, rfl, SqT.of g1, rfl, mg1, tg, dkI G, rfl, SqL.of g2, paired_dkI g3, fun d hd => ?_⟩
      rw [show mergeK [] (dkI G) = dkI G from merge_dkI G [] nd]
      generalize gH1 : upd H d (.dK (dkI G)) = H1
      have hd1 : H1 d = some (.dK (dkI G)) := by rw [← gH1]; exact upd_same
      have e1 : Same H H1 := by rw [← gH1]; exact same_upd (Same.refl H) hd
      refine ⟨_, rfl, pl, _, 1, _, rfl, rfl, SqT.of (e1 _ _ l1), rfl, ml, rfl, ⟨_, SqL.of (e1 _ _ l2)⟩, fun D hD => ?_⟩
      refine lc_list (K := K) (a := ml) (xs := tl.map V.ref) (fun i H' => Same H1 H' ∧ H' D = some (.lst [])) ⟨same_upd (Same.refl H1) hD, upd_same⟩ (fun i H' _ ⟨e, _⟩ => SqL.of (e _ _ (e1 _ _ l2))) (fun i x H' hi h => ?_) (fun H2 h => ?_)
      · obtain ⟨e, eD⟩ := h
        obtain ⟨t, ht, rfl⟩ := ref_at hi
        obtain ⟨q, hq, ht1⟩ := paired_at l3 ht
        have qm := m2 q (List.mem_of_getElem? hq)
        have eg : (valV (dkI G) (Sum.inl q.1 : L2.Key)).getD (.int 0) = .int (val G q.1) := by
          rw [valV_dkI]
          unfold val
          cases look G q.1 <;> rfl
        refine ⟨t, _, rfl, SqT.of (e _ _ (e1 _ _ ht1)), rfl, _, _, rfl, _, _, rfl, rfl, rfl, ?_⟩
        refine ⟨_, rfl, d, rfl, .inl ⟨_, .inl (e _ _ hd1)⟩, _, rfl, _, DGet.k (k := Sum.inl q.1) (e _ _ hd1), _, rfl, val G q.1, q.2, eg, rfl, _, rfl, ?_⟩
        exact ite2 (fun c => absurd (of_decide_eq_true c) (by omega)) (fun _ => ⟨e, eD⟩)
      · obtain ⟨e, eD⟩ := h
        refine ⟨Nat.zero_le _, fun p hp => ⟨.list [], .list [], .lst (SqL.of (by rw [upd_ne (ne_of_none eD hp)]; exact eD)) .nil, .lst (SqL.of upd_same) .nil, rfl, rfl, k _ (same_upd (e1.trans e) hp)⟩⟩
end
end Gc

namespace Gc
open PySem L2
abbrev s_law : Stmt := top 25
def spLaw (K : PySem.W.Frag) : Sp := fun vs H Q _ => ∃ (a : Addr) (ns : List Int), vs = [.ref a] ∧ SqL K H a (ns.map V.int) ∧ ns.length ≤ 63 ∧ ∀ H', Q (.bl true) H'
/-! ### boxes as data -/
def optD : Option Int → PyData
  | none => .none
  | some n => .int n
def encB : Option (Option Int × Ps) → PyData
  | none => .none
  | some x => .tuple [optD x.1, .list (x.2.map encP)]
def BoxV (H : Hp) (v : V) : Option (Option Int × Ps) → Prop
  | none => v = .non
  | some x => ∃ p, v = .ref p ∧ BoxHere H p x.1 x.2
theorem BoxV.same {H H' : Hp} {v : V} {o : Option (Option Int × Ps)} (e : Same H H') (h : BoxV H v o) : BoxV H' v o := by
  cases o with
  | none => exact h
  | some x =>
    obtain ⟨p, e1, h1⟩ := h
    exact ⟨p, e1, h1.same e⟩
theorem dp_pairs {K : PySem.W.Frag} {H : Hp} : ∀ {ts : List Addr} {L : Ps}, Paired (fun (t : Addr) (q : Int × Int) => H t = some (.tup [.int q.1, .int q.2])) ts L → DpAll K H (ts.map V.ref) (L.map encP)
  | _, _, .nil => .nil
  | _, _, .cons h t => .cons (.tup (SqT.of h) (.cons (.int _) (.cons (.int _) .nil))) (dp_pairs t)
theorem dp_opt {K : PySem.W.Frag} {H : Hp} : ∀ st : Option Int, Dp K H (optV st) (optD st)
  | none => .non
  | some n => .int n
theorem BoxV.dp {K : PySem.W.Frag} {H : Hp} {v : V} {o : Option (Option Int × Ps)} (h : BoxV H v o) : Dp K H v (encB o) := by
  cases o with
  | none =>
    have h' : v = .non := h
    rw [h']
    exact .non
  | some x =>
    obtain ⟨p, rfl, m, ts, h1, h2, h3⟩ := h
    exact .tup (SqT.of h1) (.cons (dp_opt x.1) (.cons (.lst (SqL.of h2) (dp_pairs h3)) .nil))
theorem lay_pairs : ∀ L : Ps, PyData.canLayAll0 (L.map encP) = true
  | [] => rfl
  | q :: L => by simp [PyData.canLayAll0, PyData.canLay0, encP, lay_pairs L]
theorem deep_pairs : ∀ L : Ps, PyData.depthAll (L.map encP) ≤ 1
  | [] => Nat.zero_le _
  | q :: L => by
    have h := deep_pairs L
    simp only [List.map_cons, PyData.depthAll, encP, PyData.depth]
    omega
theorem encB_lay (o : Option (Option Int × Ps)) : (encB o).canLay0 = true := by
  cases o with
  | none => rfl
  | some x =>
    obtain ⟨st, L⟩ := x
    cases st <;> simp [encB, optD, PyData.canLay0, PyData.canLayAll0, lay_pairs L]
theorem encB_shaped (o : Option (Option Int × Ps)) : SeqAt.shaped (encB o) = true := by
  have hd : (encB o).depth ≤ 64 := by
    cases o with
    | none => exact Nat.zero_le _
    | some x =>
      obtain ⟨st, L⟩ := x
      have h := deep_pairs L
      cases st <;> simp only [encB, optD, PyData.depth, PyData.depthAll] <;> omega
  unfold SeqAt.shaped
  rw [encB_lay, decide_eq_true hd]
  rfl
theorem ite_ne {d : PyData} {A B : Prop} (e : PyData.eqv d d = true) (h : B) : if (!PyData.eqv d d) = true then A else B := by
  rw [e]
  exact iteF h
theorem encB_eqv (o : Option (Option Int × Ps)) : PyData.eqv (encB o) (encB o) = true := SeqAt.eqv_refl _ (encB_lay o)
/-- two boxes that are alike, compared -/
theorem ask_ne {K : PySem.W.Frag} {H : Hp} {v u : V} {o : Option (Option Int × Ps)} {A f : Hp → Prop} (h1 : BoxV H v o) (h2 : Dp K H u (encB o)) (h : f H) :
    rNeD K v u H fun x H1 => ∃ b, x = .bl b ∧ if b = true then A H1 else f H1 := ⟨_, _, h1.dp, h2, encB_shaped o, encB_shaped o, _, rfl, ite_ne (encB_eqv o) h⟩
/-! ### the calls, asked: the promises closed, so that a call's words are opened first -/
@[irreducible] def zBox (K : PySem.W.Frag) : Sp := spBox K
theorem zBox_eq (K : PySem.W.Frag) : zBox K = spBox K := by unfold zBox; rfl
@[irreducible] def zJoined (K : PySem.W.Frag) : Sp := spJoined K
theorem zJoined_eq (K : PySem.W.Frag) : zJoined K = spJoined K := by unfold zJoined; rfl
@[irreducible] def zContains : Sp := spContains
theorem zContains_eq : zContains = spContains := by unfold zContains; rfl
theorem ask_box {K : PySem.W.Frag} {H : Hp} {Q : VK} {E : XK} {l : Addr} {xs : List V} {cs : List Cmd} {goal : Int} (hl : SqL K H l xs) (hc : CmdsOf K H xs cs) (ok : AllOk cs) (ln : cs.length ≤ 10000) (hg : 1 ≤ goal)
    (k : ∀ H' v, Same H H' → BoxV H' v (boxM cs goal) → Q v H') : zBox K [.ref l, .int goal] H Q E := by
  rw [zBox_eq]
  exact ⟨l, xs, cs, goal, rfl, hl, hc, ok, ln, hg, fun e H' s => k H' .non s (by rw [e]; rfl), fun st L e H' p s b => k H' (.ref p) s (by rw [e]; exact ⟨p, rfl, b.here⟩)⟩
theorem ask_joined {K : PySem.W.Frag} {H : Hp} {Q : VK} {E : XK} {le ll : Addr} {xe xl : List V} {ce cl : List Cmd} {gone aim : Int} (he : SqL K H le xe) (hce : CmdsOf K H xe ce) (oke : AllOk ce) (lne : ce.length ≤ 100)
    (hl : SqL K H ll xl) (hcl : CmdsOf K H xl cl) (okl : AllOk cl) (lnl : cl.length ≤ 100) (ha : 1 ≤ aim) (hg : gone = last ce)
    (k : ∀ H' v, Same H H' → BoxV H' v (boxM (ce ++ cl) aim) → Q v H') : zJoined K [.ref le, .ref ll, .int gone, .int aim] H Q E := by
  rw [zJoined_eq]
  have j := joined ce cl oke okl ha
  rw [← hg] at j
  exact ⟨le, ll, xe, xl, ce, cl, gone, aim, rfl, he, hce, oke, lne, hl, hcl, okl, lnl, ha, fun e H' s => k H' .non s (by rw [j, e]; rfl), fun st L e H' p s b => k H' (.ref p) s (by rw [j, e]; exact ⟨p, rfl, b.here⟩)⟩
theorem ask_contains {H : Hp} {Q : VK} {E : XK} {g l : V} {cs : List Cmd} {aim more : Int} (hg : BoxV H g (boxM cs more)) (hl : BoxV H l (boxM cs aim)) (ok : AllOk cs) (ln : cs.length ≤ 1000) (ha : 1 ≤ aim) (hm : aim ≤ more)
    (k : ∀ H', Same H H' → Q (.bl true) H') : zContains [g, l] H Q E := by
  rw [zContains_eq]
  refine ⟨g, l, rfl, ?_, k⟩
  rcases box_mono ok ha hm with e | ⟨st, L, st', L', e1, e2, h1, h2⟩
  · rw [e] at hg
    exact .inl hg
  · rw [e1] at hl
    rw [e2] at hg
    obtain ⟨pg, rfl, hg⟩ := hg
    obtain ⟨pl, rfl, hl⟩ := hl
    refine .inr ⟨pg, pl, st', st, L', L, rfl, rfl, hg, hl, h1, h2, ?_, Nat.le_trans (box_len e1) ln⟩
    rcases box_spec ok (show 1 ≤ more by omega) with ⟨c, _⟩ | ⟨_, b, c, gb, _, _⟩
    · rw [c] at e2
      cases e2
    · rw [c] at e2
      have e3 := Option.some.inj e2
      cases e3
      exact (good_perm gb (List.mergeSort_perm b leK)).nd
/-! ### parts of lists -/
theorem Paired.take {α β : Type} {F : α → β → Prop} : ∀ {xs : List α} {ys : List β} (n : Nat), Paired F xs ys → Paired F (xs.take n) (ys.take n)
  | _, _, 0, _ => .nil
  | _, _, _ + 1, .nil => .nil
  | _, _, n + 1, .cons f t => .cons f (Paired.take n t)
theorem Paired.drop {α β : Type} {F : α → β → Prop} : ∀ {xs : List α} {ys : List β} (n : Nat), Paired F xs ys → Paired F (xs.drop n) (ys.drop n)
  | _, _, 0, h => h
  | _, _, _ + 1, .nil => .nil
  | _, _, n + 1, .cons _ t => Paired.drop n t
theorem Paired.app {α β : Type} {F : α → β → Prop} : ∀ {xs : List α} {ys : List β} {xs' : List α} {ys' : List β}, Paired F xs ys → Paired F xs' ys' → Paired F (xs ++ xs') (ys ++ ys')
  | _, _, _, _, .nil, h => h
  | _, _, _, _, .cons f t, h => .cons f (Paired.app t h)
theorem cut_lo {xs : List V} {n : Nat} (h : n ≤ xs.length) : cutV xs none (some (n : Int)) = xs.take n := by
  unfold cutV
  rw [HT.sIx_none, HT.sIx_nat, Nat.min_eq_left h, List.drop_zero, Nat.sub_zero]
theorem cut_hi {xs : List V} {n : Nat} (h : n ≤ xs.length) : cutV xs (some (n : Int)) none = xs.drop n := by
  unfold cutV
  rw [HT.sIx_none, HT.sIx_nat, Nat.min_eq_left h, List.take_of_length_le]
  rw [List.length_drop]
  exact Nat.le_refl _
theorem mul_ok {F : Int} (hF : 1 ≤ F) {cs : List Cmd} (h : AllOk cs) : AllOk (cs.map (Cmd.mul F)) := by
  intro c hc
  obtain ⟨d, hd, rfl⟩ := List.mem_map.mp hc
  have o := h d hd
  have m : ∀ n : Int, 1 ≤ n → 1 ≤ n * F := fun n hn => by
    have := Int.mul_le_mul hn hF (by decide) (by omega)
    omega
  cases d with
  | down n => exact m n o
  | up n => exact m n o
  | right n => exact o
  | left n => exact o
  | home => exact o
  | stop => exact o
/-! ### the offsets are no larger than the moves -/
def absum (r : List Cmd) : Nat := (r.map fun c => c.dv.natAbs).sum
theorem absum_cons (c : Cmd) (r : List Cmd) : absum (c :: r) = c.dv.natAbs + absum r := by
  unfold absum
  rw [List.map_cons, List.sum_cons]
theorem keys_req {b : Ps} {o v k : Int} (h : k ∈ keys (req b o v)) : k = o ∨ k ∈ keys b := by
  unfold req at h
  rw [keys_put] at h
  split at h
  · exact .inr h
  · rcases List.mem_append.mp h with q | q
    · exact .inr q
    · exact .inl (List.mem_singleton.mp q)
theorem go_keys {B : Nat} : ∀ {r : List Cmd} {off need : Int} {b : Ps} {st : Option Int} {b' : Ps}, go r off need b = some (st, b') → (∀ k ∈ keys b, k.natAbs ≤ B) → off.natAbs + absum r ≤ B → ∀ k ∈ keys b', k.natAbs ≤ B
  | [], _, _, b, _, _, h, hb, _ => by cases h; exact hb
  | .home :: r, _, _, b, _, _, h, _, _ => by cases h
  | .stop :: r, _, _, b, _, _, h, hb, _ => by cases h; exact hb
  | .right n :: r, off, need, b, st, b', h, hb, l => by
    rw [absum_cons] at l
    have hr : ∀ v, ∀ k ∈ keys (req b off v), k.natAbs ≤ B := fun v k hk => by
      rcases keys_req hk with q | q
      · rw [q]
        omega
      · exact hb k q
    simp only [go] at h
    split at h
    · exact go_keys h (hr _) (by omega)
    · cases h
      exact hr _
  | .left n :: r, off, need, b, st, b', h, hb, l => by
    rw [absum_cons] at l
    have hr : ∀ v, ∀ k ∈ keys (req b off v), k.natAbs ≤ B := fun v k hk => by
      rcases keys_req hk with q | q
      · rw [q]
        omega
      · exact hb k q
    simp only [go] at h
    exact go_keys h (hr _) (by omega)
  | .down n :: r, off, need, b, st, b', h, hb, l => by
    rw [absum_cons] at l
    have e : (Cmd.down n).dv.natAbs = n.natAbs := rfl
    simp only [go] at h
    exact go_keys h hb (by omega)
  | .up n :: r, off, need, b, st, b', h, hb, l => by
    rw [absum_cons] at l
    have e : (Cmd.up n).dv.natAbs = (-n).natAbs := rfl
    simp only [go] at h
    exact go_keys h hb (by omega)
theorem absum_rev (r : List Cmd) : absum r.reverse = absum r := by
  unfold absum
  rw [List.map_reverse]
  exact (List.reverse_perm _).sum_nat
theorem last_abs : ∀ cs : List Cmd, (last cs).natAbs ≤ absum cs
  | [] => Nat.le_refl _
  | c :: cs => by
    have h := last_abs cs
    rw [absum_cons]
    have e : last (c :: cs) = c.dv + last cs := rfl
    rw [e]
    omega
theorem absum_le : ∀ {cs : List Cmd}, AllOk cs → AllSmall cs → absum cs ≤ cs.length * 10 ^ 29
  | [], _, _ => Nat.zero_le _
  | c :: cs, ok, sm => by
    have h := absum_le (cs := cs) (fun d hd => ok d (List.mem_cons_of_mem _ hd)) (fun d hd => sm d (List.mem_cons_of_mem _ hd))
    have o := ok c List.mem_cons_self
    have s := sm c List.mem_cons_self
    have d : c.dv.natAbs ≤ 10 ^ 29 := by
      cases c with
      | down n =>
        have o' : 1 ≤ n := o
        have s' : n ≤ 10 ^ 29 := s
        show n.natAbs ≤ _
        omega
      | up n =>
        have o' : 1 ≤ n := o
        have s' : n ≤ 10 ^ 29 := s
        show (-n).natAbs ≤ _
        omega
      | right n => exact Nat.zero_le _
      | left n => exact Nat.zero_le _
      | home => exact Nat.zero_le _
      | stop => exact Nat.zero_le _
    rw [absum_cons, List.length_cons]
    omega
theorem box_keys {cs : List Cmd} {goal : Int} {st : Option Int} {L : Ps} (h : boxM cs goal = some (st, L)) (ok : AllOk cs) (sm : AllSmall cs) (ln : cs.length ≤ 20) : ∀ q ∈ L, q.1.natAbs < 2 ^ 120 := by
  unfold boxM at h
  cases e : go cs.reverse (last cs) goal [] with
  | none =>
    rw [e] at h
    cases h
  | some x =>
    rw [e] at h
    obtain ⟨st', b'⟩ := x
    have h' : (st', b'.mergeSort leK) = (st, L) := Option.some.inj h
    cases h'
    have a1 := last_abs cs
    have a2 := absum_le ok sm
    have k := go_keys (B := 40 * 10 ^ 29) e (fun k h => nomatch h) (by rw [absum_rev]; omega)
    intro q hq
    have m : q ∈ b' := (List.mergeSort_perm b' leK).mem_iff.mp hq
    have := k q.1 (List.mem_map.mpr ⟨q, m, rfl⟩)
    omega
/-! ### what stands through one lap -/
def Sit (K : PySem.W.Frag) (r le ll lw : Addr) (xe xl : List V) (ce cl : List Cmd) (H : Hp) : Prop := (∃ ys, H r = some (.lst ys)) ∧ le ≠ r ∧ ll ≠ r ∧ lw ≠ r ∧ H le = some (.lst xe) ∧ H ll = some (.lst xl) ∧ H lw = some (.lst (xe ++ xl)) ∧ CmdsOf K H xe ce ∧ CmdsOf K H xl cl
theorem Sit.keep {K : PySem.W.Frag} {r le ll lw : Addr} {xe xl : List V} {ce cl : List Cmd} {H H' : Hp} {n : Nat} (h : Sit K r le ll lw xe xl ce cl H) (k : Keep r r H H') (g : Rng H' r n) : Sit K r le ll lw xe xl ce cl H' := by
  obtain ⟨⟨ys, h0⟩, h1, h2, h3, h4, h5, h6, h7, h8⟩ := h
  obtain ⟨_, _, _, g1, _⟩ := g
  exact ⟨⟨_, g1⟩, h1, h2, h3, k _ _ h1 h1 h4, k _ _ h2 h2 h5, k _ _ h3 h3 h6, h7.keep k h0, h8.keep k h0⟩
theorem Sit.same {K : PySem.W.Frag} {r le ll lw : Addr} {xe xl : List V} {ce cl : List Cmd} {H H' : Hp} (h : Sit K r le ll lw xe xl ce cl H) (e : Same H H') : Sit K r le ll lw xe xl ce cl H' := by
  obtain ⟨⟨ys, h0⟩, h1, h2, h3, h4, h5, h6, h7, h8⟩ := h
  exact ⟨⟨_, e _ _ h0⟩, h1, h2, h3, e _ _ h4, e _ _ h5, e _ _ h6, h7.same e, h8.same e⟩
end Gc

namespace Gc
open PySem L2
section
variable {P : Program} {w : World} {K : PySem.W.Frag} {mg : Str → Option Value} {base : Heap}
theorem sc_law : FnScope ["script", "rng", "lap", "size", "early", "late", "whole", "turn", "aim", "cut", "more", "factor", "far", "told", "due", "plain", "step", "offset", "bound"] ["script"] (defScope s_law) := ⟨rfl, rfl, rfl, by decide +kernel, rfl, by decide +kernel, by decide +kernel⟩
theorem ok_law {f : Addr} {fd : FuncData} (F : Fun K "law" "law" s_law f fd) (T : TxtA mg) (c_law_rng : Cal P w K mg base 1 "_law_rng" (spRng K)) (c_law_draw : Cal P w K mg base 1 "_law_draw" spDraw)
    (c_law_list : Cal P w K mg base 2 "_law_list" (spList K)) (c_law_aim : Cal P w K mg base 2 "_law_aim" (spAim K)) (c_law_spread : Cal P w K mg base 1 "_law_spread" (spSpread K))
    (c_law_joined : Cal P w K mg base 6 "_law_joined" (zJoined K)) (c_law_contains : Cal P w K mg base 1 "_law_contains" zContains) (c_box : Cal P w K mg base 5 "box" (zBox K)) :
    FnOk P w K mg base CX0 7 f fd ["script"] (spLaw K) := by
  refine F.ok sc_law (fun vs H Q E h => ?_) (fun cdv A outer s H vs Q E hr h => ?_)
  · obtain ⟨a, ns, rfl, _⟩ := h
    rfl
  · obtain ⟨a, ns, rfl, hS, hlen, k⟩ := h
    refine ⟨_, (pss_cons (ps_set (i := 1) sc_law.nd rfl (Or.inl rfl) (pe_cal c_law_rng hr (by decide) (by rfl) (pa_cons (pv 0) pa_nil)))
      (pss_cons (ps_for PassesOwn.never rfl (pi_range1 rfl T.range (pa_cons (pe_op op_add pe_int (pe_callB (call_min2 rfl) (by rfl) T.min (by decide +kernel) (pa_cons pe_int (pa_cons (pe_callB call_len_seq (by rfl) T.len (by decide +kernel) (pa_cons (pv 0) pa_nil)) pa_nil)))) pa_nil)) (pg_name (i := 2) sc_law.nd rfl (Or.inl rfl)) (pss_cons (ps_set (i := 3) sc_law.nd rfl (Or.inl rfl) (pe_ix ix_list (pe_lst (pa_cons pe_int (pa_cons pe_int (pa_cons (pe_op op_pow pe_int pe_int) pa_nil)))) (pe_cal c_law_draw hr (by decide) (by rfl) (pa_cons (pv 1) (pa_cons pe_int pa_nil))) (fun _ _ => rfl)))
      (pss_cons (ps_par (i := 4) (j := 5) rfl sc_law.nd rfl rfl (by decide) rfl rfl (pa_cons (pe_cal c_law_list hr (by decide) (by rfl) (pa_cons (pv 1) (pa_cons pe_int (pa_cons (pv 3) pa_nil)))) (pa_cons (pe_cal c_law_list hr (by decide) (by rfl) (pa_cons (pv 1) (pa_cons pe_int (pa_cons (pv 3) pa_nil)))) pa_nil)) (by rfl))
      (pss_cons (ps_set (i := 6) sc_law.nd rfl (Or.inl rfl) (pe_op op_cat (pv 4) (pv 5)))
      (pss_one (ps_for PassesOwn.never rfl (pi_range1 rfl T.range (pa_cons pe_int pa_nil)) (pg_name (i := 7) sc_law.nd rfl (Or.inl rfl)) (pss_cons (ps_set (i := 8) sc_law.nd rfl (Or.inl rfl) (pe_cal c_law_aim hr (by decide) (by rfl) (pa_cons (pv 1) (pa_cons (pv 6) pa_nil))))
      (pss_cons (ps_if (pt_cmpR (op_neD hr.units) (pe_cal c_box hr (by decide) (by rfl) (pa_cons (pv 6) (pa_cons (pv 8) pa_nil))) (pe_cal c_law_joined hr (by decide) (by rfl) (pa_cons (pv 4) (pa_cons (pv 5) (pa_cons (pe_ix ix_tup (pe_cal c_law_spread hr (by decide) (by rfl) (pa_cons (pv 4) pa_nil)) pe_int (fun _ _ => rfl)) (pa_cons (pv 8) pa_nil))))) (nomark _)) (pss_one (ps_ret pe_bl)) pss_nil)
      (pss_cons (ps_set (i := 9) sc_law.nd rfl (Or.inl rfl) (pe_cal c_law_draw hr (by decide) (by rfl) (pa_cons (pv 1) (pa_cons (pe_op op_add (pe_callB call_len_seq (by rfl) T.len (by decide +kernel) (pa_cons (pv 6) pa_nil)) pe_int) pa_nil))))
      (pss_cons (ps_if (pt_cmpR (op_neD hr.units) (pe_cal c_box hr (by decide) (by rfl) (pa_cons (pv 6) (pa_cons (pv 8) pa_nil))) (pe_cal c_law_joined hr (by decide) (by rfl) (pa_cons (pe_slice sl_list (pv 6) po_none (po_some (pv 9))) (pa_cons (pe_slice sl_list (pv 6) (po_some (pv 9)) po_none) (pa_cons (pe_ix ix_tup (pe_cal c_law_spread hr (by decide) (by rfl) (pa_cons (pe_slice sl_list (pv 6) po_none (po_some (pv 9))) pa_nil)) pe_int (fun _ _ => rfl)) (pa_cons (pv 8) pa_nil))))) (nomark _)) (pss_one (ps_ret pe_bl)) pss_nil)
      (pss_cons (ps_set (i := 10) sc_law.nd rfl (Or.inl rfl) (pe_callB (call_min2 rfl) (by rfl) T.min (by decide +kernel) (pa_cons (pe_op op_sub (pe_op op_pow pe_int pe_int) pe_int) (pa_cons (pe_op op_add (pe_op op_add (pv 8) pe_int) (pe_cal c_law_draw hr (by decide) (by rfl) (pa_cons (pv 1) (pa_cons (pe_ix ix_list (pe_lst (pa_cons pe_int (pa_cons pe_int (pa_cons (pe_op op_pow pe_int pe_int) pa_nil)))) (pe_cal c_law_draw hr (by decide) (by rfl) (pa_cons (pv 1) (pa_cons pe_int pa_nil))) (fun _ _ => rfl)) pa_nil)))) pa_nil))))
      (pss_cons (ps_if (PW.pt (pw_and (pt_not (pt_val (pe_cal c_law_contains hr (by decide) (by rfl) (pa_cons (pe_cal c_box hr (by decide) (by rfl) (pa_cons (pv 6) (pa_cons (pv 10) pa_nil))) (pa_cons (pe_cal c_box hr (by decide) (by rfl) (pa_cons (pv 6) (pa_cons (pv 8) pa_nil))) pa_nil))))) (pw_and1 (pt_cmpR op_gt (pv 10) (pv 8) (nomark _))))) (pss_one (ps_ret pe_bl)) pss_nil)
      (pss_cons (ps_set (i := 11) sc_law.nd rfl (Or.inr rfl) (pe_ix ix_list (pe_lst (pa_cons pe_int (pa_cons (pe_op op_pow pe_int pe_int) pa_nil))) (pe_cal c_law_draw hr (by decide) (by rfl) (pa_cons (pv 1) (pa_cons pe_int pa_nil))) (fun _ _ => rfl)))
      (pss_cons (ps_setLc (i := 12) (own := [("step", 16)]) rfl sc_law.nd rfl rfl (sw_true rfl rfl rfl (by decide +kernel)) (pi_list (pv 6)) (blkOk_by (N := ["script", "rng", "lap", "size", "early", "late", "whole", "turn", "aim", "cut", "more", "factor", "far", "told", "due", "plain", "step", "offset", "bound"]) (sc := defScope s_law) (by decide +kernel)) (fun _ _ _ _ _ => (pg_name (i := 16) sc_law.nd rfl (Or.inl rfl))) (fun _ _ _ _ _ => pts_nil) (fun _ _ _ _ _ => (pe_ifExp (pt_cmpR (show OpR _ _ (rIn K false) from op_in_seq) (pe_ix (show IxR _ (rIxT K) from ix_tup) (pv 16) pe_int (fun _ _ => rfl)) (pe_tup (pa_cons pe_str (pa_cons pe_str pa_nil))) (by rfl)) (pe_tup (pa_cons (pe_ix (show IxR _ (rIxT K) from ix_tup) (pv 16) pe_int (fun _ _ => rfl)) (pa_cons (pe_op op_mulW (pe_ix (show IxR _ (rIxT K) from ix_tup) (pv 16) pe_int (fun _ _ => rfl)) (pv 11)) pa_nil))) (pv 16))))
      (pss_cons (ps_par (i := 13) (j := 14) rfl sc_law.nd rfl rfl (by decide) rfl rfl (pa_cons (pe_cal c_box hr (by decide) (by rfl) (pa_cons (pv 12) (pa_cons (pv 8) pa_nil))) (pa_cons (pe_cal c_box hr (by decide) (by rfl) (pa_cons (pv 6) (pa_cons (pv 8) pa_nil))) pa_nil)) (by rfl))
      (C8.pss_cut (ps_if (pt_cmpR op_notN (pv 14) pe_non (nomark _)) (pss_one (ps_set (i := 14) sc_law.nd rfl (Or.inl rfl) (pe_tup (pa_cons (pe_ix ix_tup (pv 14) pe_int (fun _ _ => rfl)) (pa_cons (pe_lc (own := [("offset", 17), ("bound", 18)]) rfl sc_law.nd (pi_list (pe_ix ix_tup (pv 14) pe_int (fun _ _ => rfl))) (blkOk_by (N := ["script", "rng", "lap", "size", "early", "late", "whole", "turn", "aim", "cut", "more", "factor", "far", "told", "due", "plain", "step", "offset", "bound"]) (sc := defScope s_law) (by decide +kernel)) (fun _ _ _ _ _ => (show PG _ _ (gTup K 2 _) from pg_tup rfl (pgs_cons (pg_name (i := 17) sc_law.nd rfl (Or.inl rfl)) (pgs_cons (pg_name (i := 18) sc_law.nd rfl (Or.inl rfl)) pgs_nil)))) (fun _ _ _ _ _ => pts_nil) (fun _ _ _ _ _ => (pe_tup (pa_cons (pe_op op_mulW (pv 17) (pv 11)) (pa_cons (pv 18) pa_nil))))) pa_nil))))) pss_nil)
      (pss_cons (ps_if (pt_cmpR (op_neD hr.units) (pv 13) (pv 14) (nomark _)) (pss_one (ps_ret pe_bl)) pss_nil)
      (pss_cons (ps_setLc (i := 15) (own := [("step", 16)]) rfl sc_law.nd rfl rfl (sw_true rfl rfl rfl (by decide +kernel)) (pi_list (pv 6)) (blkOk_by (N := ["script", "rng", "lap", "size", "early", "late", "whole", "turn", "aim", "cut", "more", "factor", "far", "told", "due", "plain", "step", "offset", "bound"]) (sc := defScope s_law) (by decide +kernel)) (fun _ _ _ _ _ => (pg_name (i := 16) sc_law.nd rfl (Or.inl rfl))) (fun _ _ _ _ _ => (pts_one (pt_cmpR (show OpR _ _ (rIn K false) from op_in_seq) (pe_ix (show IxR _ (rIxT K) from ix_tup) (pv 16) pe_int (fun _ _ => rfl)) (pe_tup (pa_cons pe_str (pa_cons pe_str pa_nil))) (by rfl)))) (fun _ _ _ _ _ => (pv 16)))
      (pss_one (ps_if (pt_cmpR (op_neD hr.units) (pe_cal c_box hr (by decide) (by rfl) (pa_cons (pv 15) (pa_cons (pv 8) pa_nil))) (pe_tup (pa_cons (pv 8) (pa_cons (pe_lst pa_nil) pa_nil))) (nomark _)) (pss_one (ps_ret pe_bl)) pss_nil))))))))))))))))))))
      (pss_one (ps_ret pe_bl)))), ?_⟩
    refine ⟨_, rfl, a, ns, rfl, hS, hlen, fun H1 r e1 nr rg1 => ?_⟩
    refine ⟨_, rfl, a, _, rfl, .inl (e1.seq hS), _, _, rfl, _, _, rfl, rfl, _, rfl, ?_, ?_, ?_⟩
    · omega
    · omega
    refine for_range (lo := 0) (fun i σ H' => ∃ v2 v3 v4 v5 v6 v7 v8 v9 v10 v11 v12 v13 v14 v15 : Option V, σ = [some (.ref a), some (.ref r), v2, v3, v4, v5, v6, v7, v8, v9, v10, v11, v12, v13, v14, v15, none, none, none] ∧ Rng H' r (1000 * i))
      ⟨none, none, none, none, none, none, none, none, none, none, none, none, none, none, rfl, rg1⟩ (fun i σ H2 hi h => ?_) (fun σ H2 h => ?_)
    · obtain ⟨v2, v3, v4, v5, v6, v7, v8, v9, v10, v11, v12, v13, v14, v15, rfl, rg2⟩ := h
      have hi' : i < 2 ^ 20 := by
        rw [List.length_map] at hi
        omega
      -- size
      refine ⟨_, _, rfl, rfl, cpow (by decide), (by show 3 ≤ sizeLine; decide), fun q hq => ?_⟩
      have s2 : ∀ o, Same H2 (upd H2 q o) := fun o => same_upd (Same.refl H2) hq
      have qr : q ≠ r := by
        obtain ⟨_, _, _, z, _⟩ := rg2
        exact (ne_of_none z hq).symm
      refine ⟨_, rfl, r, _, 3, rfl, rg2.same (s2 _), by omega, by decide, by decide, fun H3 d kp3 rg3 d0 d1 => ?_⟩
      obtain ⟨size, hv, z0, z1⟩ : ∃ v : Int, atI [V.int 3, .int 40, .int (10 ^ (29 : Int).toNat)] d = some (.int v) ∧ 1 ≤ v ∧ v ≤ 10 ^ 29 := by
        rcases (show d = 0 ∨ d = 1 ∨ d = 2 by omega) with rfl | rfl | rfl
        · exact ⟨_, rfl, by decide, by decide⟩
        · exact ⟨_, rfl, by decide, by decide⟩
        · exact ⟨_, rfl, by decide, by decide⟩
      refine ⟨q, _, _, _, rfl, rfl, SqL.of (kp3 _ _ qr qr upd_same), hv, ?_⟩
      -- early, late
      refine ⟨_, rfl, _, rfl, r, _, 10, size, rfl, rg3, by omega, by decide, by decide, z0, z1, fun H4 le xe ce kp4 rg4 nle hle hce oke sme lne => ?_⟩
      have ler : le ≠ r := by
        obtain ⟨_, _, _, z, _⟩ := rg3
        exact (ne_of_none z nle).symm
      refine ⟨_, rfl, _, rfl, r, _, 10, size, rfl, rg4, by omega, by decide, by decide, z0, z1, fun H5 ll xl cl kp5 rg5 nll hll hcl okl sml lnl => ?_⟩
      have llr : ll ≠ r := by
        obtain ⟨_, _, _, z, _⟩ := rg4
        exact (ne_of_none z nll).symm
      refine ⟨_, _, rfl, ?_⟩
      have hle5 := kp5 _ _ ler ler hle
      have hce5 : CmdsOf K H5 xe ce := by
        obtain ⟨_, _, _, z, _⟩ := rg4
        exact hce.keep kp5 z
      have xel := hce.len
      have xll := hcl.len
      refine ⟨_, rfl, _, rfl, le, ll, xe, xl, rfl, rfl, hle5, hll, (Nat.le_of_lt (small_len (by omega))), fun lw hw => ?_⟩
      have lwr : lw ≠ r := by
        obtain ⟨_, _, _, z, _⟩ := rg5
        exact (ne_of_none z hw).symm
      have s5 : Same H5 (upd H5 lw (.lst (xe ++ xl))) := same_upd (Same.refl H5) hw
      have sit0 : Sit K r le ll lw xe xl ce cl (upd H5 lw (.lst (xe ++ xl))) := by
        obtain ⟨_, _, _, z, _⟩ := rg5
        exact ⟨⟨_, s5 _ _ z⟩, ler, llr, lwr, s5 _ _ hle5, s5 _ _ hll, upd_same, hce5.same s5, hcl.same s5⟩
      have rg6 := rg5.same s5
      generalize upd H5 lw (.lst (xe ++ xl)) = H6 at sit0 rg6 ⊢
      have okw : AllOk (ce ++ cl) := fun c hc => (List.mem_append.mp hc).elim (oke c) (okl c)
      have smw : AllSmall (ce ++ cl) := fun c hc => (List.mem_append.mp hc).elim (sme c) (sml c)
      have lnw : (ce ++ cl).length ≤ 20 := by
        rw [List.length_append]
        omega
      have xwl : (xe ++ xl).length = (ce ++ cl).length := by
        rw [List.length_append, List.length_append]
        omega
      -- for turn in range(4)
      refine ⟨_, rfl, by decide, by decide, for_range (lo := 0) (n := 4) (fun j σ H' => ∃ v7 v8 v9 v10 v11 v12 v13 v14 v15 : Option V,
          σ = [some (.ref a), some (.ref r), some (.int (0 + (i : Int))), some (.int size), some (.ref le), some (.ref ll), some (.ref lw), v7, v8, v9, v10, v11, v12, v13, v14, v15, none, none, none] ∧
          Sit K r le ll lw xe xl ce cl H' ∧ Rng H' r (1000 * i + 200 + 100 * j))
        ⟨_, _, _, _, _, _, _, _, _, rfl, sit0, rg6.more (by omega)⟩ (fun j σ H7 hj h => ?_) (fun σ H7 h => ?_)⟩
      · obtain ⟨v7, v8, v9, v10, v11, v12, v13, v14, v15, rfl, st7, rg7⟩ := h
        obtain ⟨_, _, _, _, hle7, hll7, hw7, hce7, hcl7⟩ := id st7
        -- aim
        refine ⟨_, rfl, _, rfl, r, lw, _, xe ++ xl, ce ++ cl, rfl, rg7, by omega, SqL.of hw7, lwr, Paired.app hce7 hcl7, okw, smw, lnw, fun H8 aim kp8 rg8 a0 a1 => ?_⟩
        have st8 := st7.keep kp8 rg8
        obtain ⟨_, _, _, _, hle8, hll8, hw8, hce8, hcl8⟩ := id st8
        have hcw8 := Paired.app hce8 hcl8
        -- box(whole, aim) != _law_joined(early, late, _law_spread(early)[2], aim)
        refine ⟨_, rfl, _, rfl, ?_⟩
        refine ask_box (SqL.of hw8) hcw8 okw (by omega) a0 (fun H9 u1 e9 b9 => ?_)
        refine ⟨_, rfl, _, rfl, _, rfl, le, xe, ce, rfl, SqL.of (e9 _ _ hle8), hce8.same e9, fun H10 p sx sy e10 hp => ?_⟩
        refine ⟨p, _, 2, _, rfl, rfl, SqT.of hp, rfl, _, rfl, ?_⟩
        have e810 := e9.trans e10
        refine ask_joined (SqL.of (e810 _ _ hle8)) (hce8.same e810) oke (by omega) (SqL.of (e810 _ _ hll8)) (hcl8.same e810) okl (by omega) a0 rfl (fun H11 u2 e11 b11 => ?_)
        refine ask_ne (b9.same (e10.trans e11)) b11.dp ?_
        have e811 := e810.trans e11
        have st11 := st8.same e811
        have rg11 := rg8.same e811
        clear b9 b11 hp e9 e10 e11 e810 e811
        -- cut
        obtain ⟨_, _, _, _, hle11, hll11, hw11, hce11, hcl11⟩ := id st11
        refine ⟨_, rfl, _, rfl, lw, _, rfl, .inl (SqL.of hw11), _, _, rfl, rfl, r, _, _, rfl, rg11, by omega, by omega, log9 (a := 10) (by omega) (by decide), fun H12 ci kp12 rg12 c0 c1 => ?_⟩
        obtain ⟨cn, rfl⟩ : ∃ n : Nat, ci = n := ⟨ci.toNat, by omega⟩
        have cnl : cn ≤ (xe ++ xl).length := by omega
        have st12 := st11.keep kp12 rg12
        obtain ⟨_, _, _, _, hle12, hll12, hw12, hce12, hcl12⟩ := id st12
        have hcw12 := Paired.app hce12 hcl12
        refine ⟨_, rfl, _, rfl, ask_box (SqL.of hw12) hcw12 okw (by omega) a0 (fun H13 u3 e13 b13 => ?_)⟩
        refine ⟨_, rfl, _, rfl, _, rfl, lw, _, rfl, SqL.of (e13 _ _ hw12), fun p1 hp1 => ?_⟩
        rw [cut_lo cnl]
        generalize gHa : upd H13 p1 (.lst ((xe ++ xl).take cn)) = Ha
        have ea : Same H13 Ha := by rw [← gHa]; exact same_upd (Same.refl _) hp1
        have fa : Ha p1 = some (.lst ((xe ++ xl).take cn)) := by rw [← gHa]; exact upd_same
        refine ⟨_, rfl, _, rfl, _, rfl, lw, _, rfl, SqL.of ((e13.trans ea) _ _ hw12), fun p2 hp2 => ?_⟩
        rw [cut_hi cnl]
        generalize gHb : upd Ha p2 (.lst ((xe ++ xl).drop cn)) = Hb
        have eb : Same Ha Hb := by rw [← gHb]; exact same_upd (Same.refl _) hp2
        have fb : Hb p2 = some (.lst ((xe ++ xl).drop cn)) := by rw [← gHb]; exact upd_same
        have e12b := (e13.trans ea).trans eb
        refine ⟨_, rfl, _, rfl, _, rfl, lw, _, rfl, SqL.of (e12b _ _ hw12), fun p3 hp3 => ?_⟩
        rw [cut_lo cnl]
        generalize gHc : upd Hb p3 (.lst ((xe ++ xl).take cn)) = Hc
        have ec : Same Hb Hc := by rw [← gHc]; exact same_upd (Same.refl _) hp3
        have fc : Hc p3 = some (.lst ((xe ++ xl).take cn)) := by rw [← gHc]; exact upd_same
        have e12c := e12b.trans ec
        refine ⟨p3, _, _, rfl, SqL.of fc, CmdsOf.same e12c (Paired.take cn hcw12), fun Hd pp sx2 sy2 ed hpp => ?_⟩
        refine ⟨pp, _, 2, _, rfl, rfl, SqT.of hpp, rfl, _, rfl, ?_⟩
        have ebd := ec.trans ed
        have okt : AllOk ((ce ++ cl).take cn) := fun c hc => okw c (List.mem_of_mem_take hc)
        have okd : AllOk ((ce ++ cl).drop cn) := fun c hc => okw c (List.mem_of_mem_drop hc)
        refine ask_joined (SqL.of ((eb.trans ebd) _ _ fa)) (CmdsOf.same (e12c.trans ed) (Paired.take cn hcw12)) okt (by rw [List.length_take]; omega) (SqL.of (ebd _ _ fb)) (CmdsOf.same (e12c.trans ed) (Paired.drop cn hcw12)) okd (by rw [List.length_drop]; omega) a0 rfl (fun He u4 ee b14 => ?_)
        rw [List.take_append_drop] at b14
        refine ask_ne (b13.same ((ea.trans (eb.trans ebd)).trans ee)) b14.dp ?_
        have e12e := (e12c.trans ed).trans ee
        have st14 := st12.same e12e
        have rg14 := rg12.same e12e
        clear b13 b14 hpp ea eb ec ed ee ebd e12b e12c e12e e13 fa fb fc gHa gHb gHc hp1 hp2 hp3
        -- more
        refine ⟨_, _, rfl, rfl, cpow (by decide), _, _, rfl, rfl, _, rfl, _, _, rfl, rfl, _, rfl, _, _, rfl, rfl, cpow (by decide), (by show 3 ≤ sizeLine; decide), fun q2 hq2 => ?_⟩
        have s14 : ∀ o, Same He (upd He q2 o) := fun o => same_upd (Same.refl He) hq2
        have q2r : q2 ≠ r := by
          obtain ⟨_, _, _, z, _⟩ := rg14
          exact (ne_of_none z hq2).symm
        refine ⟨_, rfl, r, _, 3, rfl, rg14.same (s14 _), by omega, by decide, by decide, fun H15 d2 kp15 rg15 f0 f1 => ?_⟩
        obtain ⟨mv, hmv, m0, m1⟩ : ∃ v : Int, atI [V.int 2, .int 50, .int (10 ^ (29 : Int).toNat)] d2 = some (.int v) ∧ 1 ≤ v ∧ v ≤ 10 ^ 29 := by
          rcases (show d2 = 0 ∨ d2 = 1 ∨ d2 = 2 by omega) with rfl | rfl | rfl
          · exact ⟨_, rfl, by decide, by decide⟩
          · exact ⟨_, rfl, by decide, by decide⟩
          · exact ⟨_, rfl, by decide, by decide⟩
        refine ⟨q2, _, _, _, rfl, rfl, SqL.of (kp15 _ _ q2r q2r upd_same), hmv, ?_⟩
        refine ⟨r, _, _, rfl, rg15, by omega, by omega, log9 (a := 110) (by omega) (by decide), fun H16 md kp16 rg16 g0 g1 => ?_⟩
        refine ⟨_, _, rfl, rfl, _, _, rfl, ?_⟩
        have hmore : aim ≤ (if aim + 1 + md < (10 : Int) ^ (30 : Int).toNat - 1 then aim + 1 + md else (10 : Int) ^ (30 : Int).toNat - 1) := by
          have e30 : (10 : Int) ^ (30 : Int).toNat - 1 = 10 ^ 30 - 1 := rfl
          rw [e30]
          split <;> omega
        have st16 := (st14.same (s14 _)).keep (kp15.trans kp16) rg16
        generalize (if aim + 1 + md < (10 : Int) ^ (30 : Int).toNat - 1 then aim + 1 + md else (10 : Int) ^ (30 : Int).toNat - 1) = more at hmore ⊢
        obtain ⟨_, _, _, _, hle16, hll16, hw16, hce16, hcl16⟩ := id st16
        have hcw16 := Paired.app hce16 hcl16
        -- if not _law_contains(box(whole, more), box(whole, aim)) and more > aim
        refine ⟨_, rfl, _, rfl, ?_⟩
        refine ask_box (goal := more) (SqL.of hw16) hcw16 okw (by omega) (by omega) (fun H17 u5 e17 b17 => ?_)
        refine ⟨_, rfl, _, rfl, ?_⟩
        refine ask_box (goal := aim) (SqL.of (e17 _ _ hw16)) (CmdsOf.same e17 hcw16) okw (by omega) a0 (fun H18 u6 e18 b18 => ?_)
        refine ask_contains (cs := ce ++ cl) (b17.same e18) b18 okw (by omega) a0 hmore (fun H19 e19 => ?_)
        refine ⟨_, rfl, iteF ?_⟩
        have e1619 := (e17.trans e18).trans e19
        have st19 := st16.same e1619
        have rg19 := rg16.same e1619
        clear b17 b18 e17 e18 e19 e1619
        refine iteF ?_
        -- factor
        refine ⟨_, _, rfl, rfl, cpow (by decide), (by show 2 ≤ sizeLine; decide), fun q3 hq3 => ?_⟩
        have s19 : ∀ o, Same H19 (upd H19 q3 o) := fun o => same_upd (Same.refl H19) hq3
        have q3r : q3 ≠ r := by
          obtain ⟨_, _, _, z, _⟩ := rg19
          exact (ne_of_none z hq3).symm
        refine ⟨_, rfl, r, _, 2, rfl, rg19.same (s19 _), by omega, by decide, by decide, fun H20 d3 kp20 rg20 i0 i1 => ?_⟩
        obtain ⟨fv, hfv, w0, w1⟩ : ∃ v : Int, atI [V.int 7, .int (10 ^ (29 : Int).toNat)] d3 = some (.int v) ∧ 1 ≤ v ∧ v ≤ 10 ^ 29 := by
          rcases (show d3 = 0 ∨ d3 = 1 by omega) with rfl | rfl
          · exact ⟨_, rfl, by decide, by decide⟩
          · exact ⟨_, rfl, by decide, by decide⟩
        refine ⟨q3, _, _, _, rfl, rfl, SqL.of (kp20 _ _ q3r q3r upd_same), hfv, ?_⟩
        have st20 := (st19.same (s19 _)).keep kp20 rg20
        obtain ⟨_, _, _, _, hle20, hll20, hw20, hce20, hcl20⟩ := id st20
        have hcw20 := Paired.app hce20 hcl20
        -- far
        refine ⟨_, rfl, lw, rfl, ⟨_, SqL.of hw20⟩, fun D hD => ?_⟩
        refine lc_list (K := K) (a := lw) (xs := xe ++ xl) (fun i H' => ∃ ps : List V, Same H20 H' ∧ H' D = some (.lst ps) ∧ CmdsOf K H' ps (((ce ++ cl).take i).map (Cmd.mul fv)))
          ⟨[], same_upd (Same.refl H20) hD, upd_same, .nil⟩ (fun i H' _ ⟨_, e, _⟩ => SqL.of (e _ _ hw20)) (fun i x H' hi h => ?_) (fun H21 h => ?_)
        · obtain ⟨ps, e, hd, pp⟩ := h
          obtain ⟨c, hc, t, rfl, ht0⟩ := paired_at hcw20 hi
          have ht := seq_t e ht0
          have li := (List.getElem?_eq_some_iff.mp hc).1
          have smc := smw c (List.mem_of_getElem? hc)
          have okc := okw c (List.mem_of_getElem? hc)
          have pl : ps.length ≤ 1000 := by
            rw [pp.len, List.length_map, List.length_take]
            omega
          rw [take_snoc hc, List.map_append]
          refine ⟨rfl, ?_⟩
          have stay : ∀ (p1 : Addr) (hp1 : H' p1 = none), c.mul fv = c → ∃ acc, upd H' p1 (.tup [.str "down", .str "up"]) D = some (.lst acc) ∧ acc.length < sizeLine ∧ ∃ qs : List V, Same H20 (upd (upd H' p1 (.tup [.str "down", .str "up"])) D (.lst (acc ++ [.ref t]))) ∧
              upd (upd H' p1 (.tup [.str "down", .str "up"])) D (.lst (acc ++ [.ref t])) D = some (.lst qs) ∧ CmdsOf K (upd (upd H' p1 (.tup [.str "down", .str "up"])) D (.lst (acc ++ [.ref t]))) qs (((ce ++ cl).take i).map (Cmd.mul fv) ++ [c].map (Cmd.mul fv)) := fun p1 hp1 ec => by
            have s1 := same_upd (Same.refl H') hp1 (o := .tup [.str "down", .str "up"])
            refine ⟨ps, s1 _ _ hd, small_len pl, ps ++ [.ref t], same_freeU (e.trans s1) hD, upd_same, ?_⟩
            refine Paired.snoc ((pp.same s1).keep (Keep.refl _).upd1 (s1 _ _ hd)) ?_
            rw [ec]
            exact CmdAt.keep (Keep.refl _).upd1 (s1 _ _ hd) ⟨t, rfl, seq_t s1 ht⟩
          have moved : ∀ (p1 p : Addr) (hp1 : H' p1 = none) (hp : upd H' p1 (.tup [.str "down", .str "up"]) p = none) (es : List V), es = encC (c.mul fv) → ∃ acc, upd (upd H' p1 (.tup [.str "down", .str "up"])) p (.tup es) D = some (.lst acc) ∧ acc.length < sizeLine ∧
              ∃ qs : List V, Same H20 (upd (upd (upd H' p1 (.tup [.str "down", .str "up"])) p (.tup es)) D (.lst (acc ++ [.ref p]))) ∧
              upd (upd (upd H' p1 (.tup [.str "down", .str "up"])) p (.tup es)) D (.lst (acc ++ [.ref p])) D = some (.lst qs) ∧ CmdsOf K (upd (upd (upd H' p1 (.tup [.str "down", .str "up"])) p (.tup es)) D (.lst (acc ++ [.ref p]))) qs (((ce ++ cl).take i).map (Cmd.mul fv) ++ [c].map (Cmd.mul fv)) := fun p1 p hp1 hp es ee => by
            have s1 := same_upd (Same.refl H') hp1 (o := .tup [.str "down", .str "up"])
            have s2 := same_upd s1 hp (o := .tup es)
            refine ⟨ps, s2 _ _ hd, small_len pl, ps ++ [.ref p], same_freeU (e.trans s2) hD, upd_same, ?_⟩
            refine Paired.snoc ((pp.same s2).keep (Keep.refl _).upd1 (s2 _ _ hd)) ?_
            refine CmdAt.keep (Keep.refl _).upd1 (s2 _ _ hd) ⟨p, rfl, ?_⟩
            rw [← ee]
            exact SqT.of upd_same
          cases c with
          | down n =>
            have o1 : 1 ≤ n := okc
            have o2 : n ≤ 10 ^ 29 := smc
            refine ⟨_, rfl, t, _, 0, _, rfl, rfl, ht, rfl, (by show 2 ≤ sizeLine; decide), fun p1 hp1 => ?_⟩
            have s1 := same_upd (Same.refl H') hp1 (o := .tup [.str "down", .str "up"])
            refine ⟨p1, _, rfl, .inr (SqT.of upd_same), rfl, rfl, true, by decide +kernel, iteT ?_⟩
            refine ⟨_, rfl, t, _, 0, _, rfl, rfl, seq_t s1 ht, rfl, _, rfl, t, _, 1, _, rfl, rfl, seq_t s1 ht, rfl, _, rfl, _, _, rfl, rfl, wide_mul (a := 100) (b := 100) (by omega) (by omega) (by decide) (by decide) (by decide), (by show 2 ≤ sizeLine; decide), fun p hp => ?_⟩
            exact moved p1 p hp1 hp _ rfl
          | up n =>
            have o1 : 1 ≤ n := okc
            have o2 : n ≤ 10 ^ 29 := smc
            refine ⟨_, rfl, t, _, 0, _, rfl, rfl, ht, rfl, (by show 2 ≤ sizeLine; decide), fun p1 hp1 => ?_⟩
            have s1 := same_upd (Same.refl H') hp1 (o := .tup [.str "down", .str "up"])
            refine ⟨p1, _, rfl, .inr (SqT.of upd_same), rfl, rfl, true, by decide +kernel, iteT ?_⟩
            refine ⟨_, rfl, t, _, 0, _, rfl, rfl, seq_t s1 ht, rfl, _, rfl, t, _, 1, _, rfl, rfl, seq_t s1 ht, rfl, _, rfl, _, _, rfl, rfl, wide_mul (a := 100) (b := 100) (by omega) (by omega) (by decide) (by decide) (by decide), (by show 2 ≤ sizeLine; decide), fun p hp => ?_⟩
            exact moved p1 p hp1 hp _ rfl
          | right n =>
            refine ⟨_, rfl, t, _, 0, _, rfl, rfl, ht, rfl, (by show 2 ≤ sizeLine; decide), fun p1 hp1 => ?_⟩
            refine ⟨p1, _, rfl, .inr (SqT.of upd_same), rfl, rfl, false, by decide +kernel, iteF ?_⟩
            exact ⟨_, rfl, stay p1 hp1 rfl⟩
          | left n =>
            refine ⟨_, rfl, t, _, 0, _, rfl, rfl, ht, rfl, (by show 2 ≤ sizeLine; decide), fun p1 hp1 => ?_⟩
            refine ⟨p1, _, rfl, .inr (SqT.of upd_same), rfl, rfl, false, by decide +kernel, iteF ?_⟩
            exact ⟨_, rfl, stay p1 hp1 rfl⟩
          | home =>
            refine ⟨_, rfl, t, _, 0, _, rfl, rfl, ht, rfl, (by show 2 ≤ sizeLine; decide), fun p1 hp1 => ?_⟩
            refine ⟨p1, _, rfl, .inr (SqT.of upd_same), rfl, rfl, false, by decide +kernel, iteF ?_⟩
            exact ⟨_, rfl, stay p1 hp1 rfl⟩
          | stop =>
            refine ⟨_, rfl, t, _, 0, _, rfl, rfl, ht, rfl, (by show 2 ≤ sizeLine; decide), fun p1 hp1 => ?_⟩
            refine ⟨p1, _, rfl, .inr (SqT.of upd_same), rfl, rfl, false, by decide +kernel, iteF ?_⟩
            exact ⟨_, rfl, stay p1 hp1 rfl⟩
        obtain ⟨far, e21, hd21, pp21⟩ := h
        rw [xwl, List.take_length] at pp21
        have st21 := st20.same e21
        have rg21 := rg20.same e21
        obtain ⟨_, _, _, _, hle21, hll21, hw21, hce21, hcl21⟩ := id st21
        have hcw21 := Paired.app hce21 hcl21
        -- told, due
        refine ⟨_, rfl, _, rfl, ?_⟩
        refine ask_box (goal := aim) (SqL.of hd21) pp21 (mul_ok w0 okw) (by rw [List.length_map]; omega) a0 (fun H22 u7 e22 b22 => ?_)
        refine ⟨_, rfl, _, rfl, ?_⟩
        refine ask_box (goal := aim) (SqL.of (e22 _ _ hw21)) (CmdsOf.same e22 hcw21) okw (by omega) a0 (fun H23 u8 e23 b23 => ?_)
        refine ⟨_, _, rfl, ?_⟩
        rw [box_mul w0 okw a0] at b22
        have b22' := b22.same e23
        have st23 := st21.same (e22.trans e23)
        have rg23 := rg21.same (e22.trans e23)
        clear e21 e22 b22
        refine ⟨fun σ H' => ∃ (v9 v10 v11 v12 : Option V) (u8 : V), σ = [some (.ref a), some (.ref r), some (.int (0 + (i : Int))), some (.int size), some (.ref le), some (.ref ll), some (.ref lw), some (.int (0 + (j : Int))), some (.int aim), v9, v10, v11, v12, some u7, some u8, v15, none, none, none] ∧
          Sit K r le ll lw xe xl ce cl H' ∧ Rng H' r (1000 * i + 200 + 100 * j + 90) ∧ BoxV H' u7 ((boxM (ce ++ cl) aim).map fun x => (x.1, mulK fv x.2)) ∧ BoxV H' u8 ((boxM (ce ++ cl) aim).map fun x => (x.1, mulK fv x.2)), ?_, ?_⟩
        · -- if due is not None
          cases hbx : boxM (ce ++ cl) aim with
          | none =>
            rw [hbx] at b23 b22'
            obtain rfl : u8 = .non := b23
            refine ⟨_, rfl, rfl, _, rfl, iteF ?_⟩
            exact ⟨_, _, _, _, _, rfl, st23, rg23.more (by omega), b22', rfl⟩
          | some x =>
            obtain ⟨st, L⟩ := x
            rw [hbx] at b23 b22'
            have lb := box_len hbx
            have kb := box_keys hbx okw smw lnw
            obtain ⟨p, rfl, m, ts, h1, h2, hp0⟩ := b23
            have hp : Paired (fun (t : Addr) (q : Int × Int) => H23 t = some (.tup [.int q.1, .int q.2])) ts L := hp0
            have tl : ts.length = L.length := Paired.length hp
            refine ⟨_, rfl, rfl, _, rfl, iteT ?_⟩
            refine ⟨_, rfl, p, _, 0, _, rfl, rfl, SqT.of h1, rfl, ?_⟩
            refine ⟨_, rfl, p, _, 1, _, rfl, rfl, SqT.of h1, rfl, m, rfl, ⟨_, SqL.of h2⟩, fun D2 hD2 => ?_⟩
            refine lc_list (K := K) (a := m) (xs := ts.map V.ref) (fun i H' => ∃ ps : List Addr, Same H23 H' ∧ H' D2 = some (.lst (ps.map V.ref)) ∧ Paired (fun (p : Addr) (q : Int × Int) => H' p = some (.tup [.int q.1, .int q.2])) ps ((mulK fv L).take i))
              ⟨[], same_upd (Same.refl H23) hD2, upd_same, .nil⟩ (fun i H' _ ⟨_, e, _⟩ => SqL.of (e _ _ h2)) (fun i x H' hi h => ?_) (fun H24 h => ?_)
            · obtain ⟨ps, e, hd, pp⟩ := h
              obtain ⟨t, ht, rfl⟩ := ref_at hi
              obtain ⟨q, hq, ht1⟩ := paired_at hp ht
              have li := (List.getElem?_eq_some_iff.mp hq).1
              have kq := kb q (List.mem_of_getElem? hq)
              have pl : ps.length ≤ i := by
                have := Paired.length pp
                rw [List.length_take] at this
                omega
              refine ⟨t, _, rfl, SqT.of (e _ _ ht1), rfl, _, _, rfl, _, _, rfl, rfl, rfl, ?_⟩
              refine ⟨_, rfl, _, rfl, _, _, rfl, rfl, wide_mul (a := 120) (b := 100) kq (by omega) (by decide) (by decide) (by decide), _, rfl, (by show 2 ≤ sizeLine; decide), fun p' hp' => ?_⟩
              have s1 : Same H' (upd H' p' (.tup [.int (q.1 * fv), .int q.2])) := same_upd (Same.refl H') hp'
              have pD : p' ≠ D2 := (ne_of_none hd hp').symm
              refine ⟨_, s1 _ _ hd, small_len (by rw [List.length_map]; omega), ps ++ [p'], same_freeU (e.trans s1) hD2, ?_, ?_⟩
              · rw [upd_same, List.map_append]
                rfl
              · have sq : (mulK fv L)[i]? = some (q.1 * fv, q.2) := by
                  unfold mulK
                  rw [List.getElem?_map, hq]
                  rfl
                rw [take_snoc sq]
                refine Paired.snoc (Paired.mapP pp fun y u w => ?_) ?_
                · rw [upd_ne (ne_of w hd (by intro q; cases q))]
                  exact s1 _ _ w
                · rw [upd_ne pD]
                  exact upd_same
            obtain ⟨ps, e24, hd24, pp24⟩ := h
            have sl : (mulK fv L).length = L.length := by
              unfold mulK
              rw [List.length_map]
            rw [List.length_map, tl, ← sl, List.take_length] at pp24
            refine ⟨(by show 2 ≤ sizeLine; decide), fun pd hpd => ?_⟩
            have s24 : Same H24 (upd H24 pd (.tup [optV st, .ref D2])) := same_upd (Same.refl _) hpd
            have e25 := e24.trans s24
            exact ⟨_, _, _, _, _, rfl, st23.same e25, (rg23.same e25).more (by omega), b22'.same e25, pd, rfl, D2, ps, upd_same, s24 _ _ hd24, Paired.mapP pp24 fun _ _ q => s24 _ _ q⟩
        · rintro σ H26 ⟨w9, w10, w11, w12, u9, rfl, st26, rg26, b26, c26⟩
          refine ⟨_, rfl, _, rfl, ask_ne b26 c26.dp ?_⟩
          obtain ⟨_, _, _, _, hle26, hll26, hw26, hce26, hcl26⟩ := id st26
          have hcw26 := Paired.app hce26 hcl26
          -- plain
          refine ⟨_, rfl, lw, rfl, ⟨_, SqL.of hw26⟩, fun D3 hD3 => ?_⟩
          refine lc_list (K := K) (a := lw) (xs := xe ++ xl) (fun i H' => ∃ ps : List V, Same H26 H' ∧ H' D3 = some (.lst ps) ∧ CmdsOf K H' ps (((ce ++ cl).take i).filter Cmd.vert))
            ⟨[], same_upd (Same.refl H26) hD3, upd_same, .nil⟩ (fun i H' _ ⟨_, e, _⟩ => SqL.of (e _ _ hw26)) (fun i x H' hi h => ?_) (fun H27 h => ?_)
          · obtain ⟨ps, e, hd, pp⟩ := h
            obtain ⟨c, hc, t, rfl, ht0⟩ := paired_at hcw26 hi
            have ht := seq_t e ht0
            have pl : ps.length ≤ 1000 := by
              rw [pp.len]
              refine Nat.le_trans (List.length_filter_le _ _) ?_
              rw [List.length_take]
              omega
            rw [take_snoc hc, List.filter_append]
            have no : ∀ (p1 : Addr) (hp1 : H' p1 = none), c.vert = false → ∃ qs : List V, Same H26 (upd H' p1 (.tup [.str "down", .str "up"])) ∧ upd H' p1 (.tup [.str "down", .str "up"]) D3 = some (.lst qs) ∧
                CmdsOf K (upd H' p1 (.tup [.str "down", .str "up"])) qs (((ce ++ cl).take i).filter Cmd.vert ++ [c].filter Cmd.vert) := fun p1 hp1 ec => by
              have s1 := same_upd (Same.refl H') hp1 (o := .tup [.str "down", .str "up"])
              refine ⟨ps, e.trans s1, s1 _ _ hd, ?_⟩
              rw [List.filter_cons_of_neg (by rw [ec]; exact Bool.false_ne_true), List.filter_nil, List.append_nil]
              exact pp.same s1
            have yes : ∀ (p1 : Addr) (hp1 : H' p1 = none), c.vert = true → ∃ acc, upd H' p1 (.tup [.str "down", .str "up"]) D3 = some (.lst acc) ∧ acc.length < sizeLine ∧ ∃ qs : List V, Same H26 (upd (upd H' p1 (.tup [.str "down", .str "up"])) D3 (.lst (acc ++ [.ref t]))) ∧
                upd (upd H' p1 (.tup [.str "down", .str "up"])) D3 (.lst (acc ++ [.ref t])) D3 = some (.lst qs) ∧ CmdsOf K (upd (upd H' p1 (.tup [.str "down", .str "up"])) D3 (.lst (acc ++ [.ref t]))) qs (((ce ++ cl).take i).filter Cmd.vert ++ [c].filter Cmd.vert) := fun p1 hp1 ec => by
              have s1 := same_upd (Same.refl H') hp1 (o := .tup [.str "down", .str "up"])
              refine ⟨ps, s1 _ _ hd, small_len pl, ps ++ [.ref t], same_freeU (e.trans s1) hD3, upd_same, ?_⟩
              rw [List.filter_cons_of_pos ec, List.filter_nil]
              exact Paired.snoc ((pp.same s1).keep (Keep.refl _).upd1 (s1 _ _ hd)) (CmdAt.keep (Keep.refl _).upd1 (s1 _ _ hd) ⟨t, rfl, seq_t s1 ht⟩)
            refine ⟨rfl, ?_⟩
            cases c with
            | down n =>
              refine ⟨_, rfl, t, _, 0, _, rfl, rfl, ht, rfl, (by show 2 ≤ sizeLine; decide), fun p1 hp1 => ?_⟩
              refine ⟨p1, _, rfl, .inr (SqT.of upd_same), rfl, rfl, true, by decide +kernel, iteT ?_⟩
              exact ⟨_, rfl, yes p1 hp1 rfl⟩
            | up n =>
              refine ⟨_, rfl, t, _, 0, _, rfl, rfl, ht, rfl, (by show 2 ≤ sizeLine; decide), fun p1 hp1 => ?_⟩
              refine ⟨p1, _, rfl, .inr (SqT.of upd_same), rfl, rfl, true, by decide +kernel, iteT ?_⟩
              exact ⟨_, rfl, yes p1 hp1 rfl⟩
            | right n =>
              refine ⟨_, rfl, t, _, 0, _, rfl, rfl, ht, rfl, (by show 2 ≤ sizeLine; decide), fun p1 hp1 => ?_⟩
              exact ⟨p1, _, rfl, .inr (SqT.of upd_same), rfl, rfl, false, by decide +kernel, iteF (no p1 hp1 rfl)⟩
            | left n =>
              refine ⟨_, rfl, t, _, 0, _, rfl, rfl, ht, rfl, (by show 2 ≤ sizeLine; decide), fun p1 hp1 => ?_⟩
              exact ⟨p1, _, rfl, .inr (SqT.of upd_same), rfl, rfl, false, by decide +kernel, iteF (no p1 hp1 rfl)⟩
            | home =>
              refine ⟨_, rfl, t, _, 0, _, rfl, rfl, ht, rfl, (by show 2 ≤ sizeLine; decide), fun p1 hp1 => ?_⟩
              exact ⟨p1, _, rfl, .inr (SqT.of upd_same), rfl, rfl, false, by decide +kernel, iteF (no p1 hp1 rfl)⟩
            | stop =>
              refine ⟨_, rfl, t, _, 0, _, rfl, rfl, ht, rfl, (by show 2 ≤ sizeLine; decide), fun p1 hp1 => ?_⟩
              exact ⟨p1, _, rfl, .inr (SqT.of upd_same), rfl, rfl, false, by decide +kernel, iteF (no p1 hp1 rfl)⟩
          obtain ⟨plain, e27, hd27, pp27⟩ := h
          rw [xwl, List.take_length] at pp27
          have st27 := st26.same e27
          have rg27 := rg26.same e27
          refine ⟨_, rfl, _, rfl, ?_⟩
          refine ask_box (goal := aim) (SqL.of hd27) pp27 (fun c hc => okw c (List.mem_filter.mp hc).1) (Nat.le_trans (List.length_filter_le _ _) (by omega)) a0 (fun H28 u10 e28 b28 => ?_)
          rw [box_plain _ aim fun c hc => (List.mem_filter.mp hc).2] at b28
          refine ⟨_, rfl, Nat.zero_le _, fun l0 hl0 => ⟨(by show 2 ≤ sizeLine; decide), fun p0 hp0 => ?_⟩⟩
          have s28 : Same H28 (upd H28 l0 (.lst [])) := same_upd (Same.refl _) hl0
          have s29 : Same (upd H28 l0 (.lst [])) (upd (upd H28 l0 (.lst [])) p0 (.tup [.int aim, .ref l0])) := same_upd (Same.refl _) hp0
          refine ask_ne (b28.same (s28.trans s29)) (.tup (SqT.of upd_same) (.cons (.int aim) (.cons (.lst (SqL.of (s29 _ _ upd_same)) .nil) .nil))) ?_
          have e30 := (e28.trans s28).trans s29
          exact ⟨_, _, _, _, _, _, _, _, _, rfl, st27.same e30, (rg27.same e30).more (by omega)⟩
      · obtain ⟨v7, v8, v9, v10, v11, v12, v13, v14, v15, rfl, st7, rg7⟩ := h
        exact ⟨_, _, _, _, _, _, _, _, _, _, _, _, _, _, rfl, rg7.more (by omega)⟩
    · obtain ⟨v2, v3, v4, v5, v6, v7, v8, v9, v10, v11, v12, v13, v14, v15, rfl, _⟩ := h
      exact k H2
end
end Gc

namespace Gc
open PySem L2
theorem all_mk {l : PySem.W.OpenLaw} {w : World} {K : PySem.W.Frag} {h : Heap} {mg : Str → Option Value} {fa : Addr} (X : K.In h) (G : h.Ns mainGlobals mg) (hfa : mg "law" = some (.ref fa))
    {wn wo : Addr} {odN odO : Option Addr} {nN nO : Nat} {slN slO : Array (Option Value)} {tn0 tn1 tn2 tn3 to0 to1 : Tok}
    {f_is_count : Addr} {oc_is_count kV_is_count dc_is_count pm_is_count cd_is_count ct_is_count : Value} {od_is_count an_is_count : Option Addr} {sl_is_count : Array (Option Value)}
    {f_is_command : Addr} {oc_is_command kV_is_command dc_is_command pm_is_command cd_is_command ct_is_command : Value} {od_is_command an_is_command : Option Addr} {sl_is_command : Array (Option Value)}
    {f_check_commands : Addr} {oc_check_commands kV_check_commands dc_check_commands pm_check_commands cd_check_commands ct_check_commands : Value} {od_check_commands an_check_commands : Option Addr} {sl_check_commands : Array (Option Value)}
    {f_check_number : Addr} {oc_check_number kV_check_number dc_check_number pm_check_number cd_check_number ct_check_number : Value} {od_check_number an_check_number : Option Addr} {sl_check_number : Array (Option Value)}
    {f_row_change : Addr} {oc_row_change kV_row_change dc_row_change pm_row_change cd_row_change ct_row_change : Value} {od_row_change an_row_change : Option Addr} {sl_row_change : Array (Option Value)}
    {f_reach : Addr} {oc_reach kV_reach dc_reach pm_reach cd_reach ct_reach : Value} {od_reach an_reach : Option Addr} {sl_reach : Array (Option Value)}
    {f_require : Addr} {oc_require kV_require dc_require pm_require cd_require ct_require : Value} {od_require an_require : Option Addr} {sl_require : Array (Option Value)}
    {f_box : Addr} {oc_box kV_box dc_box pm_box cd_box ct_box : Value} {od_box an_box : Option Addr} {sl_box : Array (Option Value)}
    {f_law_rng : Addr} {oc_law_rng kV_law_rng dc_law_rng pm_law_rng cd_law_rng ct_law_rng : Value} {od_law_rng an_law_rng : Option Addr} {sl_law_rng : Array (Option Value)}
    {f_law_draw : Addr} {oc_law_draw kV_law_draw dc_law_draw pm_law_draw cd_law_draw ct_law_draw : Value} {od_law_draw an_law_draw : Option Addr} {sl_law_draw : Array (Option Value)}
    {f_law_list : Addr} {oc_law_list kV_law_list dc_law_list pm_law_list cd_law_list ct_law_list : Value} {od_law_list an_law_list : Option Addr} {sl_law_list : Array (Option Value)}
    {f_law_aim : Addr} {oc_law_aim kV_law_aim dc_law_aim pm_law_aim cd_law_aim ct_law_aim : Value} {od_law_aim an_law_aim : Option Addr} {sl_law_aim : Array (Option Value)}
    {f_law_spread : Addr} {oc_law_spread kV_law_spread dc_law_spread pm_law_spread cd_law_spread ct_law_spread : Value} {od_law_spread an_law_spread : Option Addr} {sl_law_spread : Array (Option Value)}
    {f_law_joined : Addr} {oc_law_joined kV_law_joined dc_law_joined pm_law_joined cd_law_joined ct_law_joined : Value} {od_law_joined an_law_joined : Option Addr} {sl_law_joined : Array (Option Value)}
    {f_law_contains : Addr} {oc_law_contains kV_law_contains dc_law_contains pm_law_contains cd_law_contains ct_law_contains : Value} {od_law_contains an_law_contains : Option Addr} {sl_law_contains : Array (Option Value)}
    {f_law : Addr} {oc_law kV_law dc_law pm_law cd_law ct_law : Value} {od_law an_law : Option Addr} {sl_law : Array (Option Value)}
    (aWN : PySem.W.nsIn K mainGlobals "WITH_NUMBER" = some (some (.ref wn)))
    (aWO : PySem.W.nsIn K mainGlobals "WITHOUT_NUMBER" = some (some (.ref wo)))
    (lWN : K.lookup wn = some ⟨.type "tuple", odN, .seq #[.str "down" tn0, .str "up" tn1, .str "right" tn2, .str "left" tn3] nN, slN⟩)
    (lWO : K.lookup wo = some ⟨.type "tuple", odO, .seq #[.str "home" to0, .str "end" to1] nO, slO⟩)
    (a_is_count : PySem.W.nsIn K mainGlobals "is_count" = some (some (.ref f_is_count)))
    (l_is_count : K.lookup f_is_count = some ⟨oc_is_count, od_is_count, .func (PySem.W.fnOf "is_count" "is_count" (defArgs s_is_count) (defBody s_is_count) (defScope s_is_count) .none kV_is_count dc_is_count pm_is_count an_is_count cd_is_count ct_is_count), sl_is_count⟩)
    (c_is_count : PySem.W.codeIn K cd_is_count "is_count" = true)
    (k_is_count : PySem.W.keepIn K (.ref f_is_count) = true)
    (a_is_command : PySem.W.nsIn K mainGlobals "is_command" = some (some (.ref f_is_command)))
    (l_is_command : K.lookup f_is_command = some ⟨oc_is_command, od_is_command, .func (PySem.W.fnOf "is_command" "is_command" (defArgs s_is_command) (defBody s_is_command) (defScope s_is_command) .none kV_is_command dc_is_command pm_is_command an_is_command cd_is_command ct_is_command), sl_is_command⟩)
    (c_is_command : PySem.W.codeIn K cd_is_command "is_command" = true)
    (k_is_command : PySem.W.keepIn K (.ref f_is_command) = true)
    (a_check_commands : PySem.W.nsIn K mainGlobals "check_commands" = some (some (.ref f_check_commands)))
    (l_check_commands : K.lookup f_check_commands = some ⟨oc_check_commands, od_check_commands, .func (PySem.W.fnOf "check_commands" "check_commands" (defArgs s_check_commands) (defBody s_check_commands) (defScope s_check_commands) .none kV_check_commands dc_check_commands pm_check_commands an_check_commands cd_check_commands ct_check_commands), sl_check_commands⟩)
    (c_check_commands : PySem.W.codeIn K cd_check_commands "check_commands" = true)
    (k_check_commands : PySem.W.keepIn K (.ref f_check_commands) = true)
    (a_check_number : PySem.W.nsIn K mainGlobals "check_number" = some (some (.ref f_check_number)))
    (l_check_number : K.lookup f_check_number = some ⟨oc_check_number, od_check_number, .func (PySem.W.fnOf "check_number" "check_number" (defArgs s_check_number) (defBody s_check_number) (defScope s_check_number) .none kV_check_number dc_check_number pm_check_number an_check_number cd_check_number ct_check_number), sl_check_number⟩)
    (c_check_number : PySem.W.codeIn K cd_check_number "check_number" = true)
    (k_check_number : PySem.W.keepIn K (.ref f_check_number) = true)
    (a_row_change : PySem.W.nsIn K mainGlobals "row_change" = some (some (.ref f_row_change)))
    (l_row_change : K.lookup f_row_change = some ⟨oc_row_change, od_row_change, .func (PySem.W.fnOf "row_change" "row_change" (defArgs s_row_change) (defBody s_row_change) (defScope s_row_change) .none kV_row_change dc_row_change pm_row_change an_row_change cd_row_change ct_row_change), sl_row_change⟩)
    (c_row_change : PySem.W.codeIn K cd_row_change "row_change" = true)
    (k_row_change : PySem.W.keepIn K (.ref f_row_change) = true)
    (a_reach : PySem.W.nsIn K mainGlobals "reach" = some (some (.ref f_reach)))
    (l_reach : K.lookup f_reach = some ⟨oc_reach, od_reach, .func (PySem.W.fnOf "reach" "reach" (defArgs s_reach) (defBody s_reach) (defScope s_reach) .none kV_reach dc_reach pm_reach an_reach cd_reach ct_reach), sl_reach⟩)
    (c_reach : PySem.W.codeIn K cd_reach "reach" = true)
    (k_reach : PySem.W.keepIn K (.ref f_reach) = true)
    (a_require : PySem.W.nsIn K mainGlobals "require" = some (some (.ref f_require)))
    (l_require : K.lookup f_require = some ⟨oc_require, od_require, .func (PySem.W.fnOf "require" "require" (defArgs s_require) (defBody s_require) (defScope s_require) .none kV_require dc_require pm_require an_require cd_require ct_require), sl_require⟩)
    (c_require : PySem.W.codeIn K cd_require "require" = true)
    (k_require : PySem.W.keepIn K (.ref f_require) = true)
    (a_box : PySem.W.nsIn K mainGlobals "box" = some (some (.ref f_box)))
    (l_box : K.lookup f_box = some ⟨oc_box, od_box, .func (PySem.W.fnOf "box" "box" (defArgs s_box) (defBody s_box) (defScope s_box) .none kV_box dc_box pm_box an_box cd_box ct_box), sl_box⟩)
    (c_box : PySem.W.codeIn K cd_box "box" = true)
    (k_box : PySem.W.keepIn K (.ref f_box) = true)
    (a_law_rng : PySem.W.nsIn K mainGlobals "_law_rng" = some (some (.ref f_law_rng)))
    (l_law_rng : K.lookup f_law_rng = some ⟨oc_law_rng, od_law_rng, .func (PySem.W.fnOf "_law_rng" "_law_rng" (defArgs s_rng) (defBody s_rng) (defScope s_rng) .none kV_law_rng dc_law_rng pm_law_rng an_law_rng cd_law_rng ct_law_rng), sl_law_rng⟩)
    (c_law_rng : PySem.W.codeIn K cd_law_rng "_law_rng" = true)
    (k_law_rng : PySem.W.keepIn K (.ref f_law_rng) = true)
    (a_law_draw : PySem.W.nsIn K mainGlobals "_law_draw" = some (some (.ref f_law_draw)))
    (l_law_draw : K.lookup f_law_draw = some ⟨oc_law_draw, od_law_draw, .func (PySem.W.fnOf "_law_draw" "_law_draw" (defArgs s_draw) (defBody s_draw) (defScope s_draw) .none kV_law_draw dc_law_draw pm_law_draw an_law_draw cd_law_draw ct_law_draw), sl_law_draw⟩)
    (c_law_draw : PySem.W.codeIn K cd_law_draw "_law_draw" = true)
    (k_law_draw : PySem.W.keepIn K (.ref f_law_draw) = true)
    (a_law_list : PySem.W.nsIn K mainGlobals "_law_list" = some (some (.ref f_law_list)))
    (l_law_list : K.lookup f_law_list = some ⟨oc_law_list, od_law_list, .func (PySem.W.fnOf "_law_list" "_law_list" (defArgs s_list) (defBody s_list) (defScope s_list) .none kV_law_list dc_law_list pm_law_list an_law_list cd_law_list ct_law_list), sl_law_list⟩)
    (c_law_list : PySem.W.codeIn K cd_law_list "_law_list" = true)
    (k_law_list : PySem.W.keepIn K (.ref f_law_list) = true)
    (a_law_aim : PySem.W.nsIn K mainGlobals "_law_aim" = some (some (.ref f_law_aim)))
    (l_law_aim : K.lookup f_law_aim = some ⟨oc_law_aim, od_law_aim, .func (PySem.W.fnOf "_law_aim" "_law_aim" (defArgs s_aim) (defBody s_aim) (defScope s_aim) .none kV_law_aim dc_law_aim pm_law_aim an_law_aim cd_law_aim ct_law_aim), sl_law_aim⟩)
    (c_law_aim : PySem.W.codeIn K cd_law_aim "_law_aim" = true)
    (k_law_aim : PySem.W.keepIn K (.ref f_law_aim) = true)
    (a_law_spread : PySem.W.nsIn K mainGlobals "_law_spread" = some (some (.ref f_law_spread)))
    (l_law_spread : K.lookup f_law_spread = some ⟨oc_law_spread, od_law_spread, .func (PySem.W.fnOf "_law_spread" "_law_spread" (defArgs s_spread) (defBody s_spread) (defScope s_spread) .none kV_law_spread dc_law_spread pm_law_spread an_law_spread cd_law_spread ct_law_spread), sl_law_spread⟩)
    (c_law_spread : PySem.W.codeIn K cd_law_spread "_law_spread" = true)
    (k_law_spread : PySem.W.keepIn K (.ref f_law_spread) = true)
    (a_law_joined : PySem.W.nsIn K mainGlobals "_law_joined" = some (some (.ref f_law_joined)))
    (l_law_joined : K.lookup f_law_joined = some ⟨oc_law_joined, od_law_joined, .func (PySem.W.fnOf "_law_joined" "_law_joined" (defArgs s_joined) (defBody s_joined) (defScope s_joined) .none kV_law_joined dc_law_joined pm_law_joined an_law_joined cd_law_joined ct_law_joined), sl_law_joined⟩)
    (c_law_joined : PySem.W.codeIn K cd_law_joined "_law_joined" = true)
    (k_law_joined : PySem.W.keepIn K (.ref f_law_joined) = true)
    (a_law_contains : PySem.W.nsIn K mainGlobals "_law_contains" = some (some (.ref f_law_contains)))
    (l_law_contains : K.lookup f_law_contains = some ⟨oc_law_contains, od_law_contains, .func (PySem.W.fnOf "_law_contains" "_law_contains" (defArgs s_contains) (defBody s_contains) (defScope s_contains) .none kV_law_contains dc_law_contains pm_law_contains an_law_contains cd_law_contains ct_law_contains), sl_law_contains⟩)
    (c_law_contains : PySem.W.codeIn K cd_law_contains "_law_contains" = true)
    (k_law_contains : PySem.W.keepIn K (.ref f_law_contains) = true)
    (a_law : PySem.W.nsIn K mainGlobals "law" = some (some (.ref f_law)))
    (l_law : K.lookup f_law = some ⟨oc_law, od_law, .func (PySem.W.fnOf "law" "law" (defArgs s_law) (defBody s_law) (defScope s_law) .none kV_law dc_law pm_law an_law cd_law ct_law), sl_law⟩)
    (c_law : PySem.W.codeIn K cd_law "law" = true)
    (k_law : PySem.W.keepIn K (.ref f_law) = true)
    (z_isinstance : PySem.W.nsIn K mainGlobals "isinstance" = some none)
    (z_int : PySem.W.nsIn K mainGlobals "int" = some none)
    (z_bool : PySem.W.nsIn K mainGlobals "bool" = some none)
    (z_len : PySem.W.nsIn K mainGlobals "len" = some none)
    (z_enumerate : PySem.W.nsIn K mainGlobals "enumerate" = some none)
    (z_reversed : PySem.W.nsIn K mainGlobals "reversed" = some none)
    (z_sorted : PySem.W.nsIn K mainGlobals "sorted" = some none)
    (z_max : PySem.W.nsIn K mainGlobals "max" = some none)
    (z_min : PySem.W.nsIn K mainGlobals "min" = some none)
    (z_abs : PySem.W.nsIn K mainGlobals "abs" = some none)
    (z_range : PySem.W.nsIn K mainGlobals "range" = some none)
    (z_sum : PySem.W.nsIn K mainGlobals "sum" = some none)
    (z_dict : PySem.W.nsIn K mainGlobals "dict" = some none) :
    ∃ fd : FuncData, (∀ (s : Shared) (v : Value), BindsTo s fd ⟨[v], []⟩ [("script", v)]) ∧ ∀ base : Heap, K.In base → base.Ns mainGlobals mg → FnOk l.prog w K mg base CX0 7 fa fd ["script"] (spLaw K) := by
  have e := hfa.symm.trans (PySem.W.mg_of X G a_law)
  cases e
  have F_is_count := fun_mk (st := s_is_count) l_is_count c_is_count k_is_count
  have F_is_command := fun_mk (st := s_is_command) l_is_command c_is_command k_is_command
  have F_check_commands := fun_mk (st := s_check_commands) l_check_commands c_check_commands k_check_commands
  have F_check_number := fun_mk (st := s_check_number) l_check_number c_check_number k_check_number
  have F_row_change := fun_mk (st := s_row_change) l_row_change c_row_change k_row_change
  have F_reach := fun_mk (st := s_reach) l_reach c_reach k_reach
  have F_require := fun_mk (st := s_require) l_require c_require k_require
  have F_box := fun_mk (st := s_box) l_box c_box k_box
  have F_law_rng := fun_mk (st := s_rng) l_law_rng c_law_rng k_law_rng
  have F_law_draw := fun_mk (st := s_draw) l_law_draw c_law_draw k_law_draw
  have F_law_list := fun_mk (st := s_list) l_law_list c_law_list k_law_list
  have F_law_aim := fun_mk (st := s_aim) l_law_aim c_law_aim k_law_aim
  have F_law_spread := fun_mk (st := s_spread) l_law_spread c_law_spread k_law_spread
  have F_law_joined := fun_mk (st := s_joined) l_law_joined c_law_joined k_law_joined
  have F_law_contains := fun_mk (st := s_contains) l_law_contains c_law_contains k_law_contains
  have F_law := fun_mk (st := s_law) l_law c_law k_law
  have b_is_count := F_is_count.binds (ps := ["number"]) fun _ _ _ _ _ _ us hl => match us, hl with | [_], _ => rfl
  have b_is_command := F_is_command.binds (ps := ["command"]) fun _ _ _ _ _ _ us hl => match us, hl with | [_], _ => rfl
  have b_check_commands := F_check_commands.binds (ps := ["commands"]) fun _ _ _ _ _ _ us hl => match us, hl with | [_], _ => rfl
  have b_check_number := F_check_number.binds (ps := ["number", "least"]) fun _ _ _ _ _ _ us hl => match us, hl with | [_, _], _ => rfl
  have b_row_change := F_row_change.binds (ps := ["command"]) fun _ _ _ _ _ _ us hl => match us, hl with | [_], _ => rfl
  have b_reach := F_reach.binds (ps := ["commands"]) fun _ _ _ _ _ _ us hl => match us, hl with | [_], _ => rfl
  have b_require := F_require.binds (ps := ["bounds", "offset", "bound"]) fun _ _ _ _ _ _ us hl => match us, hl with | [_, _, _], _ => rfl
  have b_box := F_box.binds (ps := ["commands", "goal"]) fun _ _ _ _ _ _ us hl => match us, hl with | [_, _], _ => rfl
  have b_law_rng := F_law_rng.binds (ps := ["script"]) fun _ _ _ _ _ _ us hl => match us, hl with | [_], _ => rfl
  have b_law_draw := F_law_draw.binds (ps := ["rng", "limit"]) fun _ _ _ _ _ _ us hl => match us, hl with | [_, _], _ => rfl
  have b_law_list := F_law_list.binds (ps := ["rng", "most", "size"]) fun _ _ _ _ _ _ us hl => match us, hl with | [_, _, _], _ => rfl
  have b_law_aim := F_law_aim.binds (ps := ["rng", "steps"]) fun _ _ _ _ _ _ us hl => match us, hl with | [_, _], _ => rfl
  have b_law_spread := F_law_spread.binds (ps := ["steps"]) fun _ _ _ _ _ _ us hl => match us, hl with | [_], _ => rfl
  have b_law_joined := F_law_joined.binds (ps := ["early", "late", "gone", "aim"]) fun _ _ _ _ _ _ us hl => match us, hl with | [_, _, _, _], _ => rfl
  have b_law_contains := F_law_contains.binds (ps := ["great", "little"]) fun _ _ _ _ _ _ us hl => match us, hl with | [_, _], _ => rfl
  refine ⟨PySem.W.fnOf "law" "law" (defArgs s_law) (defBody s_law) (defScope s_law) .none kV_law dc_law pm_law an_law cd_law ct_law, fun s v => .of_eq rfl, fun base hb gb => ?_⟩
  have TB : TxtB K mg wo wn := {
    g_WITHOUT_NUMBER := PySem.W.mg_of X G aWO
    g_WITH_NUMBER := PySem.W.mg_of X G aWN
    tWO := fun H => .inr ⟨_, _, _, lWO, rfl, rfl, (by show 2 ≤ sizeLine; decide), .cons ⟨_, rfl⟩ (.cons ⟨_, rfl⟩ .nil)⟩
    tWN := fun H => .inr ⟨_, _, _, lWN, rfl, rfl, (by show 4 ≤ sizeLine; decide), .cons ⟨_, rfl⟩ (.cons ⟨_, rfl⟩ (.cons ⟨_, rfl⟩ (.cons ⟨_, rfl⟩ .nil)))⟩
    isinstance := PySem.W.mg_none_of X G z_isinstance
    int := PySem.W.mg_none_of X G z_int
    bool := PySem.W.mg_none_of X G z_bool
    len := PySem.W.mg_none_of X G z_len
    enumerate := PySem.W.mg_none_of X G z_enumerate
    reversed := PySem.W.mg_none_of X G z_reversed
    sorted := PySem.W.mg_none_of X G z_sorted
    max := PySem.W.mg_none_of X G z_max
    min := PySem.W.mg_none_of X G z_min }
  have TA : TxtA mg := { abs := PySem.W.mg_none_of X G z_abs, range := PySem.W.mg_none_of X G z_range, sum := PySem.W.mg_none_of X G z_sum, len := PySem.W.mg_none_of X G z_len, min := PySem.W.mg_none_of X G z_min, max := PySem.W.mg_none_of X G z_max, int := PySem.W.mg_none_of X G z_int }
  have TD : TxtD mg := { dict := PySem.W.mg_none_of X G z_dict, sorted := PySem.W.mg_none_of X G z_sorted, max := PySem.W.mg_none_of X G z_max }
  have C_is_count : Cal l.prog w K mg base 1 "is_count" spCount := ⟨_, _, _, ok_is_count F_is_count TB, PySem.W.mg_of X G a_is_count, k_is_count, b_is_count⟩
  have C_is_command : Cal l.prog w K mg base 2 "is_command" (spIsCmd K) := ⟨_, _, _, ok_is_command F_is_command TB C_is_count, PySem.W.mg_of X G a_is_command, k_is_command, b_is_command⟩
  have C_check_commands : Cal l.prog w K mg base 3 "check_commands" (spCheck K) := ⟨_, _, _, ok_check_commands F_check_commands TB C_is_command, PySem.W.mg_of X G a_check_commands, k_check_commands, b_check_commands⟩
  have C_check_number : Cal l.prog w K mg base 1 "check_number" spNum := ⟨_, _, _, ok_check_number F_check_number, PySem.W.mg_of X G a_check_number, k_check_number, b_check_number⟩
  have C_row_change : Cal l.prog w K mg base 1 "row_change" (spRow K) := ⟨_, _, _, ok_row_change F_row_change, PySem.W.mg_of X G a_row_change, k_row_change, b_row_change⟩
  have C_reach : Cal l.prog w K mg base 4 "reach" (spReach K) := ⟨_, _, _, ok_reach F_reach TB C_check_commands C_row_change, PySem.W.mg_of X G a_reach, k_reach, b_reach⟩
  have C_require : Cal l.prog w K mg base 1 "require" spReq := ⟨_, _, _, ok_require F_require TB, PySem.W.mg_of X G a_require, k_require, b_require⟩
  have C_box : Cal l.prog w K mg base 5 "box" (spBox K) := ⟨_, _, _, ok_box F_box TB C_check_commands C_row_change C_reach C_check_number C_require, PySem.W.mg_of X G a_box, k_box, b_box⟩
  have C_law_rng : Cal l.prog w K mg base 1 "_law_rng" (spRng K) := ⟨_, _, _, ok_rng F_law_rng TA, PySem.W.mg_of X G a_law_rng, k_law_rng, b_law_rng⟩
  have C_law_draw : Cal l.prog w K mg base 1 "_law_draw" spDraw := ⟨_, _, _, ok_draw F_law_draw, PySem.W.mg_of X G a_law_draw, k_law_draw, b_law_draw⟩
  have C_law_list : Cal l.prog w K mg base 2 "_law_list" (spList K) := ⟨_, _, _, ok_list F_law_list TA C_law_draw, PySem.W.mg_of X G a_law_list, k_law_list, b_law_list⟩
  have C_law_aim : Cal l.prog w K mg base 2 "_law_aim" (spAim K) := ⟨_, _, _, ok_aim F_law_aim TA C_law_draw, PySem.W.mg_of X G a_law_aim, k_law_aim, b_law_aim⟩
  have C_law_spread : Cal l.prog w K mg base 1 "_law_spread" (spSpread K) := ⟨_, _, _, ok_spread F_law_spread TA, PySem.W.mg_of X G a_law_spread, k_law_spread, b_law_spread⟩
  have C_law_joined : Cal l.prog w K mg base 6 "_law_joined" (spJoined K) := ⟨_, _, _, ok_joined F_law_joined TD C_box, PySem.W.mg_of X G a_law_joined, k_law_joined, b_law_joined⟩
  have C_law_contains : Cal l.prog w K mg base 1 "_law_contains" spContains := ⟨_, _, _, ok_contains F_law_contains TD, PySem.W.mg_of X G a_law_contains, k_law_contains, b_law_contains⟩
  have Z_box : Cal l.prog w K mg base 5 "box" (zBox K) := by rw [zBox_eq]; exact C_box
  have Z_joined : Cal l.prog w K mg base 6 "_law_joined" (zJoined K) := by rw [zJoined_eq]; exact C_law_joined
  have Z_contains : Cal l.prog w K mg base 1 "_law_contains" zContains := by rw [zContains_eq]; exact C_law_contains
  exact ok_law F_law TA C_law_rng C_law_draw C_law_list C_law_aim C_law_spread Z_joined Z_contains Z_box
theorem walk {l : PySem.W.OpenLaw} {q : Program} {loose : List Str} {XP : (Str → Option Value) → Heap → Prop} {YP : World → Heap → Prop} {d : DefRec} {K : Params → PySem.W.Frag} (hn : l.most = some 63) (hdf : d.params.defaults = [])
    (hY : ∀ (w : World) (h : Heap), YP w h → (K w.params).In h)
    (F : ∀ (w : World) (mg : Str → Option Value) (fa : Addr) (h : Heap), (K w.params).In h → h.Ns mainGlobals mg → mg d.name = some (.ref fa) →
      ∃ fd : FuncData, (∀ (s : Shared) (u : Value), BindsTo s fd ⟨[u], []⟩ [("script", u)]) ∧ ∀ base : Heap, (K w.params).In base → base.Ns mainGlobals mg → FnOk l.prog w (K w.params) mg base CX0 7 fa fd ["script"] (spLaw (K w.params))) :
    PySem.W.WalkO q loose XP YP l.row.toRowW d [] (fun f vs => PySem.call f vs) :=
  L2.walk_of (n := 63) (k := 7) (x := "script") (CX := fun _ => CX0) (sp := fun w => spLaw (K w.params)) hn (by decide) hdf ⟨rfl, by decide, by decide⟩ hY F (fun _ _ a ns hl _ hS => ⟨a, ns, rfl, hS, hl, fun _ => rfl⟩) fun _ _ _ _ _ z => z
end Gc

open PySem PySem.W PyProof.Rows in
set_option maxRecDepth 100000 in
set_option maxHeartbeats 0 in
theorem PySem.Challenge.cw_goalcolumn_k08_whole_boxes_of_joined_lis_holds : PySem.Challenge.rw_goalcolumn_k08_whole_boxes_of_joined_lis.Holds := by
  w_on; o_law; k_head; (case hw => w_witness2)
  k_fill
  refine Gc.walk (l := PySem.Challenge.rw_goalcolumn_k08_whole_boxes_of_joined_lis) rfl rfl (fun w h Y => PySem.W.kIn_of Y) ?F
  case F =>
    intro w mg fa h KX G hmg
    refine' Gc.all_mk KX G hmg ?aWN ?aWO ?lWN ?lWO ?a_is_count ?l_is_count ?c_is_count ?k_is_count ?a_is_command ?l_is_command ?c_is_command ?k_is_command ?a_check_commands ?l_check_commands ?c_check_commands ?k_check_commands ?a_check_number ?l_check_number ?c_check_number ?k_check_number ?a_row_change ?l_row_change ?c_row_change ?k_row_change ?a_reach ?l_reach ?c_reach ?k_reach ?a_require ?l_require ?c_require ?k_require ?a_box ?l_box ?c_box ?k_box ?a_law_rng ?l_law_rng ?c_law_rng ?k_law_rng ?a_law_draw ?l_law_draw ?c_law_draw ?k_law_draw ?a_law_list ?l_law_list ?c_law_list ?k_law_list ?a_law_aim ?l_law_aim ?c_law_aim ?k_law_aim ?a_law_spread ?l_law_spread ?c_law_spread ?k_law_spread ?a_law_joined ?l_law_joined ?c_law_joined ?k_law_joined ?a_law_contains ?l_law_contains ?c_law_contains ?k_law_contains ?a_law ?l_law ?c_law ?k_law ?z_isinstance ?z_int ?z_bool ?z_len ?z_enumerate ?z_reversed ?z_sorted ?z_max ?z_min ?z_abs ?z_range ?z_sum ?z_dict
    (case aWN => k_is)
    (case aWO => k_is)
    (case lWN => k_is)
    (case lWO => k_is)
    (case a_is_count => k_is)
    (case l_is_count => k_is)
    (case c_is_count => k_is)
    (case k_is_count => k_is)
    (case a_is_command => k_is)
    (case l_is_command => k_is)
    (case c_is_command => k_is)
    (case k_is_command => k_is)
    (case a_check_commands => k_is)
    (case l_check_commands => k_is)
    (case c_check_commands => k_is)
    (case k_check_commands => k_is)
    (case a_check_number => k_is)
    (case l_check_number => k_is)
    (case c_check_number => k_is)
    (case k_check_number => k_is)
    (case a_row_change => k_is)
    (case l_row_change => k_is)
    (case c_row_change => k_is)
    (case k_row_change => k_is)
    (case a_reach => k_is)
    (case l_reach => k_is)
    (case c_reach => k_is)
    (case k_reach => k_is)
    (case a_require => k_is)
    (case l_require => k_is)
    (case c_require => k_is)
    (case k_require => k_is)
    (case a_box => k_is)
    (case l_box => k_is)
    (case c_box => k_is)
    (case k_box => k_is)
    (case a_law_rng => k_is)
    (case l_law_rng => k_is)
    (case c_law_rng => k_is)
    (case k_law_rng => k_is)
    (case a_law_draw => k_is)
    (case l_law_draw => k_is)
    (case c_law_draw => k_is)
    (case k_law_draw => k_is)
    (case a_law_list => k_is)
    (case l_law_list => k_is)
    (case c_law_list => k_is)
    (case k_law_list => k_is)
    (case a_law_aim => k_is)
    (case l_law_aim => k_is)
    (case c_law_aim => k_is)
    (case k_law_aim => k_is)
    (case a_law_spread => k_is)
    (case l_law_spread => k_is)
    (case c_law_spread => k_is)
    (case k_law_spread => k_is)
    (case a_law_joined => k_is)
    (case l_law_joined => k_is)
    (case c_law_joined => k_is)
    (case k_law_joined => k_is)
    (case a_law_contains => k_is)
    (case l_law_contains => k_is)
    (case c_law_contains => k_is)
    (case k_law_contains => k_is)
    (case a_law => k_is)
    (case l_law => k_is)
    (case c_law => k_is)
    (case k_law => k_is)
    (case z_isinstance => k_is)
    (case z_int => k_is)
    (case z_bool => k_is)
    (case z_len => k_is)
    (case z_enumerate => k_is)
    (case z_reversed => k_is)
    (case z_sorted => k_is)
    (case z_max => k_is)
    (case z_min => k_is)
    (case z_abs => k_is)
    (case z_range => k_is)
    (case z_sum => k_is)
    (case z_dict => k_is)
