import PyProof.Rows.All
import Wide.All
import OpenK.AllK
import Wide.FinOn
import KE.SortData
import HandS.Base
import HandS.Call
import HandS.List
import HandS.Dict
import HandS.Words
import HandS.DictTup
import PyProof.RulesMatch
import HandS.Comp
import HandS.Iter
import HandS.Flow
import HandS.Rev
import HandS.Walk
import HandS.WordsList
import HandS.WordsDict
import HandS.IsInst
import HandS.Wide
import HandS.Codes
import HandS.Style
import HandS.RaiseMore
import PySem.Challenge.RW_goalcolumn_k28_whole_numbers_of_large_te
set_option Elab.async false
set_option linter.all false
set_option maxRecDepth 100000
set_option maxHeartbeats 4000000
/-! boxes of lists of commands: what the program reckons, over plain lists; and the laws of it -/
namespace Gc
inductive Cmd where
  | down (n : Int) | up (n : Int) | right (n : Int) | left (n : Int) | home | stop
  deriving DecidableEq
def Cmd.dv : Cmd → Int
  | .down n => n
  | .up n => -n
  | _ => 0
def Cmd.ok : Cmd → Prop
  | .down n => 1 ≤ n
  | .up n => 1 ≤ n
  | .right n => 1 ≤ n
  | .left n => 1 ≤ n
  | _ => True
def last (cs : List Cmd) : Int := (cs.map Cmd.dv).sum
abbrev Ps := List (Int × Int)
def leK (p q : Int × Int) : Bool := decide (p.1 < q.1 ∨ (p.1 = q.1 ∧ p.2 ≤ q.2))
def look (b : Ps) (k : Int) : Option Int := (b.find? fun q => q.1 = k).map (·.2)
def put (b : Ps) (k v : Int) : Ps := if b.any (fun q => q.1 = k) then b.map (fun q => if q.1 = k then (q.1, v) else q) else b ++ [(k, v)]
def mx (i j : Int) : Int := if j > i then j else i
def req (b : Ps) (o v : Int) : Ps := put b o (mx v ((look b o).getD v))
def go : List Cmd → Int → Int → Ps → Option (Option Int × Ps)
  | [], _, need, b => some (some need, b)
  | .home :: _, _, _, _ => none
  | .stop :: _, _, _, b => some (none, b)
  | .right n :: r, off, need, b => if need > n then go r off (need - n) (req b off need) else some (none, req b off need)
  | .left n :: r, off, need, b => go r off (need + n) (req b off (need + n))
  | .down n :: r, off, need, b => go r (off - n) need b
  | .up n :: r, off, need, b => go r (off + n) need b
def srt (x : Option Int × Ps) : Option Int × Ps := (x.1, x.2.mergeSort leK)
def boxM (cs : List Cmd) (goal : Int) : Option (Option Int × Ps) := (go cs.reverse (last cs) goal []).map srt

/-! ### association lists as functions -/
def val (b : Ps) (k : Int) : Int := (look b k).getD 0
def keys (b : Ps) : List Int := b.map (·.1)
structure Good (b : Ps) : Prop where
  nd : (keys b).Nodup
  pos : ∀ q ∈ b, 1 ≤ q.2
theorem good_nil : Good [] := ⟨List.nodup_nil, fun _ h => nomatch h⟩
theorem look_nil (k : Int) : look [] k = none := rfl
theorem look_cons (q : Int × Int) (b : Ps) (k : Int) : look (q :: b) k = if q.1 = k then some q.2 else look b k := by
  unfold look
  rw [List.find?_cons]
  by_cases h : q.1 = k
  · simp [h]
  · simp [h]
theorem look_none {b : Ps} {k : Int} : look b k = none ↔ k ∉ keys b := by
  induction b with
  | nil => simp [look, keys]
  | cons q b ih =>
    rw [look_cons]
    by_cases h : q.1 = k
    · rw [if_pos h]
      simp [keys, h]
    · rw [if_neg h, ih]
      simp only [keys, List.map_cons, List.mem_cons, not_or]
      exact ⟨fun x => ⟨fun e => h e.symm, x⟩, fun x => x.2⟩
theorem look_mem {b : Ps} {k v : Int} (h : look b k = some v) : (k, v) ∈ b := by
  induction b with
  | nil => cases h
  | cons q b ih =>
    rw [look_cons] at h
    by_cases e : q.1 = k
    · rw [if_pos e] at h
      have e2 := Option.some.inj h
      rw [← e, ← e2]
      exact List.mem_cons_self
    · rw [if_neg e] at h
      exact List.mem_cons_of_mem _ (ih h)
theorem mem_look {b : Ps} {q : Int × Int} (n : (keys b).Nodup) (h : q ∈ b) : look b q.1 = some q.2 := by
  induction b with
  | nil => cases h
  | cons p b ih =>
    have n' : p.1 ∉ keys b ∧ (keys b).Nodup := List.nodup_cons.mp n
    rw [look_cons]
    rcases List.mem_cons.mp h with e | h
    · rw [e, if_pos rfl]
    · have ne : p.1 ≠ q.1 := fun e => n'.1 (by rw [e]; exact List.mem_map.mpr ⟨q, h, rfl⟩)
      rw [if_neg ne]
      exact ih n'.2 h
theorem any_key (b : Ps) (k : Int) : b.any (fun q => q.1 = k) = true ↔ k ∈ keys b := by
  simp [keys, List.any_eq_true]
theorem look_put (b : Ps) (k v j : Int) : look (put b k v) j = if k = j then some v else look b j := by
  unfold put
  by_cases h : b.any (fun q => q.1 = k) = true
  · rw [if_pos h]
    induction b with
    | nil => simp at h
    | cons q b ih =>
      rw [List.map_cons, look_cons, look_cons]
      by_cases e : q.1 = k
      · rw [if_pos e]
        by_cases e2 : k = j
        · simp [e, e2]
        · simp only [e, e2, if_false]
          by_cases hb : b.any (fun q => q.1 = k) = true
          · rw [ih hb, if_neg e2]
          · have nm : ∀ p ∈ b, ¬ p.1 = k := fun p hp z => hb (List.any_eq_true.mpr ⟨p, hp, by simpa using z⟩)
            have em : b.map (fun q => if q.1 = k then (q.1, v) else q) = b := by
              conv => rhs; rw [← List.map_id b]
              exact List.map_congr_left fun p hp => by simp [nm p hp]
            rw [em]
      · rw [if_neg e]
        have hb : b.any (fun q => q.1 = k) = true := by
          rw [List.any_cons] at h
          simpa [e] using h
        by_cases e2 : q.1 = j
        · have e3 : ¬ k = j := fun z => e (e2.trans z.symm)
          simp [e2, e3]
        · simp only [e2, if_false]
          exact ih hb
  · rw [if_neg h]
    have nk : k ∉ keys b := fun z => h ((any_key b k).mpr z)
    clear h
    induction b with
    | nil =>
      show look [(k, v)] j = _
      rw [look_cons]
    | cons q b ih =>
      have n1 : ¬ q.1 = k := fun z => nk (by simp [keys, z])
      have n2 : k ∉ keys b := fun z => nk (List.mem_cons_of_mem _ z)
      rw [List.cons_append, look_cons, look_cons]
      by_cases e2 : q.1 = j
      · have e3 : ¬ k = j := fun z => n1 (e2.trans z.symm)
        simp [e2, e3]
      · simp only [e2, if_false]
        exact ih n2
theorem keys_put (b : Ps) (k v : Int) : keys (put b k v) = if k ∈ keys b then keys b else keys b ++ [k] := by
  unfold put
  by_cases h : b.any (fun q => q.1 = k) = true
  · rw [if_pos h, if_pos ((any_key b k).mp h)]
    unfold keys
    rw [List.map_map]
    refine List.map_congr_left fun p _ => ?_
    show (if p.1 = k then (p.1, v) else p).1 = p.1
    split <;> rfl
  · rw [if_neg h, if_neg fun z => h ((any_key b k).mpr z)]
    simp [keys]
theorem good_put {b : Ps} {k v : Int} (g : Good b) (hv : 1 ≤ v) : Good (put b k v) := by
  have nd : (keys (put b k v)).Nodup := by
    rw [keys_put]
    split
    · exact g.nd
    · rename_i h
      rw [List.nodup_append]
      exact ⟨g.nd, by simp, fun a ha c hc => by
        rw [List.mem_singleton.mp hc]
        intro z
        exact h (z ▸ ha)⟩
  refine ⟨nd, fun q hq => ?_⟩
  have e := mem_look nd hq
  rw [look_put] at e
  split at e
  · rw [← Option.some.inj e]
    exact hv
  · exact g.pos (q.1, q.2) (look_mem e)
theorem val_nonneg {b : Ps} (g : Good b) (k : Int) : 0 ≤ val b k := by
  unfold val
  cases e : look b k with
  | none => exact Int.le_refl 0
  | some v =>
    have := g.pos _ (look_mem e)
    show 0 ≤ v
    have h : 1 ≤ v := this
    omega
theorem val_put (b : Ps) (k v j : Int) : val (put b k v) j = if k = j then v else val b j := by
  unfold val
  rw [look_put]
  split <;> rfl
/-- require, on functions -/
def reqF (f : Int → Int) (o v : Int) : Int → Int := fun k => if o = k then max v (f k) else f k
theorem val_req {b : Ps} (g : Good b) {o v : Int} (hv : 1 ≤ v) : val (req b o v) = reqF (val b) o v := by
  funext k
  unfold req reqF
  rw [val_put]
  by_cases h : o = k
  · subst h
    rw [if_pos rfl, if_pos rfl]
    unfold val mx
    cases e : look b o with
    | none =>
      show (if v > v then v else v) = max v 0
      rw [if_neg (by omega)]
      omega
    | some x =>
      show (if x > v then x else v) = max v x
      split <;> omega
  · rw [if_neg h, if_neg h]
theorem good_req {b : Ps} (g : Good b) {o v : Int} (hv : 1 ≤ v) : Good (req b o v) := by
  refine good_put g ?_
  unfold mx
  split <;> omega

/-! ### the walk, on functions -/
def goF : List Cmd → Int → Int → (Int → Int) → Option (Option Int × (Int → Int))
  | [], _, need, f => some (some need, f)
  | .home :: _, _, _, _ => none
  | .stop :: _, _, _, f => some (none, f)
  | .right n :: r, off, need, f => if need > n then goF r off (need - n) (reqF f off need) else some (none, reqF f off need)
  | .left n :: r, off, need, f => goF r off (need + n) (reqF f off (need + n))
  | .down n :: r, off, need, f => goF r (off - n) need f
  | .up n :: r, off, need, f => goF r (off + n) need f
def AllOk (cs : List Cmd) : Prop := ∀ c ∈ cs, c.ok
theorem go_goF : ∀ {r : List Cmd} {off need : Int} {b : Ps}, AllOk r → Good b → 1 ≤ need →
    (go r off need b = none ∧ goF r off need (val b) = none) ∨ ∃ st b', go r off need b = some (st, b') ∧ Good b' ∧ goF r off need (val b) = some (st, val b') ∧ ∀ n, st = some n → 1 ≤ n
  | [], off, need, b, _, g, hn => .inr ⟨_, _, rfl, g, rfl, fun n e => by rw [← Option.some.inj e]; exact hn⟩
  | .home :: r, off, need, b, _, g, hn => .inl ⟨rfl, rfl⟩
  | .stop :: r, off, need, b, _, g, hn => .inr ⟨_, _, rfl, g, rfl, fun n e => nomatch e⟩
  | .right n :: r, off, need, b, hk, g, hn => by
    have hk' : AllOk r := fun c hc => hk c (List.mem_cons_of_mem _ hc)
    simp only [go, goF]
    by_cases h : need > n
    · rw [if_pos h, if_pos h, ← val_req g hn]
      exact go_goF hk' (good_req g hn) (by omega)
    · rw [if_neg h, if_neg h, ← val_req g hn]
      exact .inr ⟨_, _, rfl, good_req g hn, rfl, fun n e => nomatch e⟩
  | .left n :: r, off, need, b, hk, g, hn => by
    have hk' : AllOk r := fun c hc => hk c (List.mem_cons_of_mem _ hc)
    have h1 : 1 ≤ n := hk _ List.mem_cons_self
    simp only [go, goF]
    rw [← val_req g (by omega)]
    exact go_goF hk' (good_req g (by omega)) (by omega)
  | .down n :: r, off, need, b, hk, g, hn => go_goF (r := r) (fun c hc => hk c (List.mem_cons_of_mem _ hc)) g hn
  | .up n :: r, off, need, b, hk, g, hn => go_goF (r := r) (fun c hc => hk c (List.mem_cons_of_mem _ hc)) g hn

/-! ### ascending lists are told by their functions -/
def Asc (b : Ps) : Prop := b.Pairwise fun p q => p.1 < q.1
theorem asc_nd {b : Ps} (h : Asc b) : (keys b).Nodup := by
  unfold keys
  rw [List.nodup_iff_pairwise_ne, List.pairwise_map]
  exact h.imp fun h => Int.ne_of_lt h
theorem leK_trans (a b c : Int × Int) (h1 : leK a b = true) (h2 : leK b c = true) : leK a c = true := by
  unfold leK at *
  have a1 := of_decide_eq_true h1
  have a2 := of_decide_eq_true h2
  exact decide_eq_true (by omega)
theorem leK_total (a b : Int × Int) : (leK a b || leK b a) = true := by
  unfold leK
  by_cases h : a.1 < b.1 ∨ (a.1 = b.1 ∧ a.2 ≤ b.2)
  · rw [decide_eq_true h]
    rfl
  · rw [decide_eq_true (show b.1 < a.1 ∨ (b.1 = a.1 ∧ b.2 ≤ a.2) by omega), Bool.or_true]
theorem asc_sort {b : Ps} (g : Good b) : Asc (b.mergeSort leK) := by
  have p := List.pairwise_mergeSort (le := leK) leK_trans leK_total b
  have pm := List.mergeSort_perm b leK
  have nd : (keys (b.mergeSort leK)).Nodup := (pm.map (fun q : Int × Int => q.1)).nodup_iff.mpr g.nd
  unfold keys at nd
  rw [List.nodup_iff_pairwise_ne, List.pairwise_map] at nd
  refine (p.and nd).imp fun h => ?_
  have a := of_decide_eq_true h.1
  have c := h.2
  omega
theorem good_perm {b c : Ps} (g : Good b) (p : c.Perm b) : Good c := ⟨(p.map (fun q : Int × Int => q.1)).nodup_iff.mpr g.nd, fun q hq => g.pos q (p.mem_iff.mp hq)⟩
theorem look_perm {b c : Ps} (g : Good b) (p : c.Perm b) (k : Int) : look c k = look b k := by
  have g' := good_perm g p
  cases e : look b k with
  | none =>
    rw [look_none] at e ⊢
    exact fun z => e ((p.map (fun q : Int × Int => q.1)).mem_iff.mp z)
  | some v => exact mem_look g'.nd (p.mem_iff.mpr (look_mem e))
theorem val_perm {b c : Ps} (g : Good b) (p : c.Perm b) : val c = val b := by
  funext k
  unfold val
  rw [look_perm g p]
theorem look_val {b c : Ps} (gb : Good b) (gc : Good c) (h : val b = val c) (k : Int) : look b k = look c k := by
  have e := congrFun h k
  unfold val at e
  cases e1 : look b k with
  | none =>
    cases e2 : look c k with
    | none => rfl
    | some v =>
      rw [e1, e2] at e
      have : 1 ≤ v := gc.pos _ (look_mem e2)
      have e' : (0 : Int) = v := e
      omega
  | some u =>
    cases e2 : look c k with
    | none =>
      rw [e1, e2] at e
      have : 1 ≤ u := gb.pos _ (look_mem e1)
      have e' : u = (0 : Int) := e
      omega
    | some v =>
      rw [e1, e2] at e
      have e' : u = v := e
      rw [e']
theorem asc_ext : ∀ {b c : Ps}, Asc b → Asc c → (∀ k, look b k = look c k) → b = c
  | [], [], _, _, _ => rfl
  | [], q :: c, _, _, h => by
    have e := h q.1
    rw [look_cons, if_pos rfl] at e
    cases e
  | q :: b, [], _, _, h => by
    have e := h q.1
    rw [look_cons, if_pos rfl] at e
    cases e
  | p :: b, q :: c, hb, hc, h => by
    have hb' := List.pairwise_cons.mp hb
    have hc' := List.pairwise_cons.mp hc
    have e1 := h p.1
    rw [look_cons, if_pos rfl, look_cons] at e1
    have e2 := h q.1
    rw [look_cons, look_cons, if_pos rfl] at e2
    have key : p.1 = q.1 := by
      by_cases x : q.1 = p.1
      · exact x.symm
      · rw [if_neg x] at e1
        rw [if_neg fun z => x z.symm] at e2
        have m1 := hc'.1 _ (look_mem e1.symm)
        have m2 := hb'.1 _ (look_mem e2)
        have m1' : q.1 < p.1 := m1
        have m2' : p.1 < q.1 := m2
        omega
    rw [if_pos key.symm] at e1
    have hpq : p = q := Prod.ext key (Option.some.inj e1)
    subst hpq
    rw [asc_ext hb'.2 hc'.2 fun k => ?_]
    have e := h k
    rw [look_cons, look_cons] at e
    by_cases x : p.1 = k
    · have n1 : look b k = none := look_none.mpr fun z => by
        obtain ⟨r, hr, er⟩ := List.mem_map.mp z
        have := hb'.1 r hr
        omega
      have n2 : look c k = none := look_none.mpr fun z => by
        obtain ⟨r, hr, er⟩ := List.mem_map.mp z
        have := hc'.1 r hr
        omega
      rw [n1, n2]
    · rw [if_neg x, if_neg x] at e
      exact e
theorem sort_ext {b c : Ps} (gb : Good b) (gc : Good c) (h : val b = val c) : b.mergeSort leK = c.mergeSort leK :=
  asc_ext (asc_sort gb) (asc_sort gc) fun k => by
    rw [look_perm gb (List.mergeSort_perm b leK), look_perm gc (List.mergeSort_perm c leK)]
    exact look_val gb gc h k
end Gc

/-! laws of boxes: joined lists, greater goals, multiplied moves -/
namespace Gc
abbrev BF := Option (Option Int × (Int → Int))
def boxF (cs : List Cmd) (goal : Int) : BF := goF cs.reverse (last cs) goal fun _ => 0
theorem val_nil : val [] = fun _ => 0 := rfl
theorem allOk_rev {cs : List Cmd} (h : AllOk cs) : AllOk cs.reverse := fun c hc => h c (List.mem_reverse.mp hc)
theorem box_spec {cs : List Cmd} {goal : Int} (h : AllOk cs) (hg : 1 ≤ goal) :
    (boxM cs goal = none ∧ boxF cs goal = none) ∨ ∃ st b, boxM cs goal = some (st, b.mergeSort leK) ∧ Good b ∧ boxF cs goal = some (st, val b) ∧ ∀ n, st = some n → 1 ≤ n := by
  unfold boxM boxF
  rw [← val_nil]
  rcases go_goF (off := last cs) (allOk_rev h) good_nil hg with ⟨e1, e2⟩ | ⟨st, b, e1, g, e2, p⟩
  · exact .inl ⟨by rw [e1]; rfl, e2⟩
  · exact .inr ⟨st, b, by rw [e1]; rfl, g, e2, p⟩
def thenF (x : BF) (k : Int → (Int → Int) → BF) : BF := match x with
  | none => none
  | some (none, g) => some (none, g)
  | some (some n, g) => k n g
theorem goF_app : ∀ (a b : List Cmd) (off need : Int) (f : Int → Int), goF (a ++ b) off need f = thenF (goF a off need f) fun n g => goF b (off - (a.map Cmd.dv).sum) n g
  | [], b, off, need, f => by
    show goF b off need f = goF b (off - 0) need f
    rw [Int.sub_zero]
  | .home :: a, b, off, need, f => rfl
  | .stop :: a, b, off, need, f => rfl
  | .right n :: a, b, off, need, f => by
    have e : off - (((Cmd.right n :: a).map Cmd.dv).sum) = off - (a.map Cmd.dv).sum := by
      rw [List.map_cons, List.sum_cons]
      show off - (0 + _) = _
      omega
    rw [e, List.cons_append]
    simp only [goF]
    by_cases h : need > n
    · rw [if_pos h, if_pos h]
      exact goF_app a b off (need - n) _
    · rw [if_neg h, if_neg h]
      rfl
  | .left n :: a, b, off, need, f => by
    have e : off - (((Cmd.left n :: a).map Cmd.dv).sum) = off - (a.map Cmd.dv).sum := by
      rw [List.map_cons, List.sum_cons]
      show off - (0 + _) = _
      omega
    rw [e, List.cons_append]
    exact goF_app a b off (need + n) _
  | .down n :: a, b, off, need, f => by
    have e : off - (((Cmd.down n :: a).map Cmd.dv).sum) = off - n - (a.map Cmd.dv).sum := by
      rw [List.map_cons, List.sum_cons]
      show off - (n + _) = _
      omega
    rw [e, List.cons_append]
    exact goF_app a b (off - n) need f
  | .up n :: a, b, off, need, f => by
    have e : off - (((Cmd.up n :: a).map Cmd.dv).sum) = off + n - (a.map Cmd.dv).sum := by
      rw [List.map_cons, List.sum_cons]
      show off - (-n + _) = _
      omega
    rw [e, List.cons_append]
    exact goF_app a b (off + n) need f
theorem goF_shift (d : Int) : ∀ (r : List Cmd) (off need : Int) (f : Int → Int), goF r (off + d) need (fun k => f (k - d)) = (goF r off need f).map fun x => (x.1, fun k => x.2 (k - d))
  | [], off, need, f => rfl
  | .home :: r, off, need, f => rfl
  | .stop :: r, off, need, f => rfl
  | .right n :: r, off, need, f => by
    have e : reqF (fun k => f (k - d)) (off + d) need = fun k => reqF f off need (k - d) := by
      funext k
      unfold reqF
      by_cases h : off + d = k
      · rw [if_pos h, if_pos (by omega)]
      · rw [if_neg h, if_neg (by omega)]
    simp only [goF]
    rw [e]
    by_cases h : need > n
    · rw [if_pos h, if_pos h]
      exact goF_shift d r off (need - n) _
    · rw [if_neg h, if_neg h]
      rfl
  | .left n :: r, off, need, f => by
    have e : reqF (fun k => f (k - d)) (off + d) (need + n) = fun k => reqF f off (need + n) (k - d) := by
      funext k
      unfold reqF
      by_cases h : off + d = k
      · rw [if_pos h, if_pos (by omega)]
      · rw [if_neg h, if_neg (by omega)]
    simp only [goF]
    rw [e]
    exact goF_shift d r off (need + n) _
  | .down n :: r, off, need, f => by
    simp only [goF]
    rw [show off + d - n = off - n + d by omega]
    exact goF_shift d r (off - n) need f
  | .up n :: r, off, need, f => by
    simp only [goF]
    rw [show off + d + n = off + n + d by omega]
    exact goF_shift d r (off + n) need f
theorem goF_max (h : Int → Int) : ∀ (r : List Cmd) (off need : Int) (f : Int → Int), goF r off need (fun k => max (f k) (h k)) = (goF r off need f).map fun x => (x.1, fun k => max (x.2 k) (h k))
  | [], off, need, f => rfl
  | .home :: r, off, need, f => rfl
  | .stop :: r, off, need, f => rfl
  | .right n :: r, off, need, f => by
    have e : reqF (fun k => max (f k) (h k)) off need = fun k => max (reqF f off need k) (h k) := by
      funext k
      unfold reqF
      show (if _ then _ else _) = _
      by_cases q : off = k
      · simp only [q, if_true]
        rw [Int.max_assoc]
      · simp only [q, if_false]
    simp only [goF]
    rw [e]
    by_cases c : need > n
    · rw [if_pos c, if_pos c]
      exact goF_max h r off (need - n) _
    · rw [if_neg c, if_neg c]
      rfl
  | .left n :: r, off, need, f => by
    have e : reqF (fun k => max (f k) (h k)) off (need + n) = fun k => max (reqF f off (need + n) k) (h k) := by
      funext k
      unfold reqF
      show (if _ then _ else _) = _
      by_cases q : off = k
      · simp only [q, if_true]
        rw [Int.max_assoc]
      · simp only [q, if_false]
    simp only [goF]
    rw [e]
    exact goF_max h r off (need + n) _
  | .down n :: r, off, need, f => goF_max h r (off - n) need f
  | .up n :: r, off, need, f => goF_max h r (off + n) need f
theorem last_app (a b : List Cmd) : last (a ++ b) = last a + last b := by
  unfold last
  rw [List.map_append, List.sum_append]
theorem sum_rev (l : List Int) : l.reverse.sum = l.sum := by
  induction l with
  | nil => rfl
  | cons a l ih =>
    rw [List.reverse_cons, List.sum_append, ih, List.sum_cons]
    simp
    omega
theorem boxF_app (early late : List Cmd) (aim : Int) (pos : ∀ st g, boxF late aim = some (st, g) → ∀ k, 0 ≤ g k) :
    boxF (early ++ late) aim = match boxF late aim with
      | none => none
      | some (none, g) => some (none, fun k => g (k - last early))
      | some (some n, g) => (boxF early n).map fun x => (x.1, fun k => max (x.2 k) (g (k - last early))) := by
  unfold boxF
  rw [List.reverse_append, goF_app, last_app, Int.add_comm (last early)]
  have sh : goF late.reverse (last late + last early) aim (fun _ => 0) = (goF late.reverse (last late) aim fun _ => 0).map fun x => (x.1, fun k => x.2 (k - last early)) :=
    goF_shift (last early) late.reverse (last late) aim fun _ => 0
  rw [sh]
  have pos' := pos
  unfold boxF at pos'
  cases e : goF late.reverse (last late) aim (fun _ => 0) with
  | none => rfl
  | some x =>
    obtain ⟨st, g⟩ := x
    cases st with
    | none => rfl
    | some n =>
      show goF early.reverse (last late + last early - (late.reverse.map Cmd.dv).sum) n (fun k => g (k - last early)) = _
      have es : (late.reverse.map Cmd.dv).sum = last late := by
        rw [List.map_reverse, sum_rev]
        rfl
      rw [es, show last late + last early - last late = last early by omega]
      have em : (fun k => g (k - last early)) = fun k => max ((fun _ => 0 : Int → Int) k) (g (k - last early)) := by
        funext k
        have := pos' _ _ e (k - last early)
        show g (k - last early) = max 0 (g (k - last early))
        omega
      rw [em, goF_max]

/-! ### the law's own joining -/
def shiftK (d : Int) (b : Ps) : Ps := b.map fun q => (q.1 + d, q.2)
def addAll (b : Ps) (l : Ps) : Ps := l.foldl (fun b q => put b q.1 (mx q.2 ((look b q.1).getD 0))) b
def joinedM (early late : List Cmd) (gone aim : Int) : Option (Option Int × Ps) := match boxM late aim with
  | none => none
  | some (none, l) => some (none, (shiftK gone l).mergeSort leK)
  | some (some n, l) => match boxM early n with
    | none => none
    | some (st, m) => some (st, (addAll (shiftK gone l) m).mergeSort leK)
theorem look_shift (d : Int) : ∀ (b : Ps) (k : Int), look (shiftK d b) k = look b (k - d)
  | [], _ => rfl
  | q :: b, k => by
    show look ((q.1 + d, q.2) :: shiftK d b) k = _
    rw [look_cons, look_cons, look_shift d b]
    by_cases h : q.1 + d = k
    · rw [if_pos h, if_pos (by omega)]
    · rw [if_neg h, if_neg (by omega)]
theorem good_shift (d : Int) {b : Ps} (g : Good b) : Good (shiftK d b) := by
  refine ⟨?_, fun q hq => ?_⟩
  · have e : keys (shiftK d b) = (keys b).map (· + d) := by
      unfold keys shiftK
      rw [List.map_map, List.map_map]
      rfl
    rw [e, List.nodup_iff_pairwise_ne, List.pairwise_map]
    exact (List.nodup_iff_pairwise_ne.mp g.nd).imp fun h => by omega
  · obtain ⟨p, hp, rfl⟩ := List.mem_map.mp hq
    exact g.pos p hp
theorem val_shift (d : Int) (b : Ps) : val (shiftK d b) = fun k => val b (k - d) := by
  funext k
  unfold val
  rw [look_shift]
theorem val_cons (q : Int × Int) (b : Ps) (k : Int) : val (q :: b) k = if q.1 = k then q.2 else val b k := by
  unfold val
  rw [look_cons]
  split <;> rfl
theorem val_out {b : Ps} {k : Int} (h : k ∉ keys b) : val b k = 0 := by
  unfold val
  rw [look_none.mpr h]
  rfl
theorem addAll_good : ∀ {l b : Ps}, Good b → Good l → Good (addAll b l) ∧ ∀ k, val (addAll b l) k = max (val l k) (val b k)
  | [], b, gb, _ => ⟨gb, fun k => by
      have := val_nonneg gb k
      show val b k = max 0 (val b k)
      omega⟩
  | q :: l, b, gb, gl => by
    have nq : q.1 ∉ keys l ∧ (keys l).Nodup := List.nodup_cons.mp gl.nd
    have p1 : 1 ≤ q.2 := gl.pos q List.mem_cons_self
    have gl' : Good l := ⟨nq.2, fun p hp => gl.pos p (List.mem_cons_of_mem _ hp)⟩
    have hv : 1 ≤ mx q.2 ((look b q.1).getD 0) := by
      unfold mx
      split <;> omega
    obtain ⟨g, v⟩ := addAll_good (b := put b q.1 (mx q.2 ((look b q.1).getD 0))) (good_put gb hv) gl'
    refine ⟨g, fun k => ?_⟩
    show val (addAll (put b q.1 (mx q.2 ((look b q.1).getD 0))) l) k = _
    rw [v k, val_put, val_cons]
    by_cases h : q.1 = k
    · subst h
      rw [if_pos rfl, if_pos rfl, val_out nq.1]
      have : mx q.2 ((look b q.1).getD 0) = max q.2 (val b q.1) := by
        unfold mx val
        split <;> omega
      rw [this]
      omega
    · rw [if_neg h, if_neg h]
theorem joined (early late : List Cmd) {aim : Int} (he : AllOk early) (hl : AllOk late) (ha : 1 ≤ aim) : boxM (early ++ late) aim = joinedM early late (last early) aim := by
  have hw : AllOk (early ++ late) := fun c hc => (List.mem_append.mp hc).elim (he c) (hl c)
  have srtd : ∀ {b c : Ps}, Good b → Good c → val b = val c → b.mergeSort leK = c.mergeSort leK := fun gb gc h => sort_ext gb gc h
  rcases box_spec hl ha with ⟨e1, e2⟩ | ⟨st, b, e1, gb, e2, pb⟩
  · have f := boxF_app early late aim fun st g h => by rw [e2] at h; cases h
    rw [e2] at f
    rcases box_spec hw ha with ⟨w1, _⟩ | ⟨_, _, _, _, w2, _⟩
    · rw [w1]
      unfold joinedM
      rw [e1]
    · rw [w2] at f
      cases f
  · have f := boxF_app early late aim fun st g h => by
      rw [e2] at h
      cases h
      exact val_nonneg gb
    rw [e2] at f
    have gs : Good (b.mergeSort leK) := good_perm gb (List.mergeSort_perm b leK)
    have vs : val (b.mergeSort leK) = val b := val_perm gb (List.mergeSort_perm b leK)
    cases st with
    | none =>
      rcases box_spec hw ha with ⟨_, w2⟩ | ⟨st', c, w1, gc, w2, _⟩
      · rw [w2] at f
        cases f
      · rw [w2] at f
        have f' := Option.some.inj f
        have f1 : st' = none := congrArg Prod.fst f'
        have f2 : val c = fun k => val b (k - last early) := congrArg Prod.snd f'
        rw [w1, f1]
        unfold joinedM
        rw [e1]
        show some ((none : Option Int), c.mergeSort leK) = some (none, (shiftK (last early) (b.mergeSort leK)).mergeSort leK)
        rw [srtd gc (good_shift _ gs) (by rw [f2, val_shift, vs])]
    | some n =>
      have hn := pb n rfl
      rcases box_spec he hn with ⟨x1, x2⟩ | ⟨st2, m, x1, gm, x2, _⟩
      · have f' : boxF (early ++ late) aim = (boxF early n).map fun x => (x.1, fun k => max (x.2 k) (val b (k - last early))) := f
        rw [x2] at f'
        rcases box_spec hw ha with ⟨w1, _⟩ | ⟨_, _, _, _, w2, _⟩
        · rw [w1]
          unfold joinedM
          rw [e1]
          show none = match boxM early n with | none => none | some (st, m) => _
          rw [x1]
        · rw [w2] at f'
          cases f'
      · have f' : boxF (early ++ late) aim = (boxF early n).map fun x => (x.1, fun k => max (x.2 k) (val b (k - last early))) := f
        rw [x2] at f'
        rcases box_spec hw ha with ⟨_, w2⟩ | ⟨st', c, w1, gc, w2, _⟩
        · rw [w2] at f'
          cases f'
        · rw [w2] at f'
          have f3 := Option.some.inj f'
          have f1 : st' = st2 := congrArg Prod.fst f3
          have f2 : val c = fun k => max (val m k) (val b (k - last early)) := congrArg Prod.snd f3
          rw [w1, f1]
          unfold joinedM
          rw [e1]
          show some (st2, c.mergeSort leK) = match boxM early n with | none => none | some (st, m) => _
          rw [x1]
          show some (st2, c.mergeSort leK) = some (st2, (addAll (shiftK (last early) (b.mergeSort leK)) (m.mergeSort leK)).mergeSort leK)
          have gms : Good (m.mergeSort leK) := good_perm gm (List.mergeSort_perm m leK)
          obtain ⟨ga, va⟩ := addAll_good (good_shift (last early) gs) gms
          rw [srtd gc ga (by
            funext k
            rw [f2, va k, val_perm gm (List.mergeSort_perm m leK), val_shift, vs])]

/-! ### a greater goal -/
theorem reqF_mono {f g : Int → Int} {o v u : Int} (h : ∀ k, f k ≤ g k) (hv : v ≤ u) (k : Int) : reqF f o v k ≤ reqF g o u k := by
  have := h k
  unfold reqF
  split <;> omega
theorem reqF_ge (f : Int → Int) (o v k : Int) : f k ≤ reqF f o v k := by
  unfold reqF
  split <;> omega
theorem goF_ge : ∀ {r : List Cmd} {off need : Int} {f : Int → Int} {st : Option Int} {g : Int → Int}, goF r off need f = some (st, g) → ∀ k, f k ≤ g k
  | [], off, need, f, st, g, h, k => by cases h; exact Int.le_refl _
  | .home :: r, off, need, f, st, g, h, k => by cases h
  | .stop :: r, off, need, f, st, g, h, k => by cases h; exact Int.le_refl _
  | .right n :: r, off, need, f, st, g, h, k => by
    simp only [goF] at h
    by_cases c : need > n
    · rw [if_pos c] at h
      exact Int.le_trans (reqF_ge f off need k) (goF_ge h k)
    · rw [if_neg c] at h
      cases h
      exact reqF_ge f off need k
  | .left n :: r, off, need, f, st, g, h, k => Int.le_trans (reqF_ge f off (need + n) k) (goF_ge (r := r) h k)
  | .down n :: r, off, need, f, st, g, h, k => goF_ge (r := r) h k
  | .up n :: r, off, need, f, st, g, h, k => goF_ge (r := r) h k
def Less (x y : BF) : Prop := y = none ∨ ∃ st g st' g', x = some (st, g) ∧ y = some (st', g') ∧ (∀ n, st = some n → ∃ n', st' = some n' ∧ n ≤ n') ∧ ∀ k, g k ≤ g' k
theorem goF_mono : ∀ {r : List Cmd} {off need need' : Int} {f f' : Int → Int}, need ≤ need' → (∀ k, f k ≤ f' k) → Less (goF r off need f) (goF r off need' f')
  | [], off, need, need', f, f', h, hf => .inr ⟨_, _, _, _, rfl, rfl, fun n e => ⟨need', rfl, by rw [← Option.some.inj e]; exact h⟩, hf⟩
  | .home :: r, off, need, need', f, f', h, hf => .inl rfl
  | .stop :: r, off, need, need', f, f', h, hf => .inr ⟨_, _, _, _, rfl, rfl, (fun n e => nomatch e), hf⟩
  | .right n :: r, off, need, need', f, f', h, hf => by
    simp only [goF]
    have m := reqF_mono (o := off) hf h
    by_cases c : need > n
    · rw [if_pos c, if_pos (by omega)]
      exact goF_mono (by omega) m
    · rw [if_neg c]
      by_cases c' : need' > n
      · rw [if_pos c']
        cases e : goF r off (need' - n) (reqF f' off need') with
        | none => exact .inl rfl
        | some x => exact .inr ⟨_, _, x.1, x.2, rfl, rfl, (fun n e => nomatch e), fun k => Int.le_trans (m k) (goF_ge e k)⟩
      · rw [if_neg c']
        exact .inr ⟨_, _, _, _, rfl, rfl, (fun n e => nomatch e), m⟩
  | .left n :: r, off, need, need', f, f', h, hf => goF_mono (r := r) (by omega) (reqF_mono (o := off) hf (by omega))
  | .down n :: r, off, need, need', f, f', h, hf => goF_mono (r := r) h hf
  | .up n :: r, off, need, need', f, f', h, hf => goF_mono (r := r) h hf
theorem box_mono {cs : List Cmd} {aim more : Int} (h : AllOk cs) (ha : 1 ≤ aim) (hm : aim ≤ more) :
    boxM cs more = none ∨ ∃ st l st' l', boxM cs aim = some (st, l) ∧ boxM cs more = some (st', l') ∧ (∀ n, st = some n → ∃ n', st' = some n' ∧ n ≤ n') ∧ ∀ q ∈ l, q.2 ≤ val l' q.1 := by
  have m : Less (boxF cs aim) (boxF cs more) := goF_mono hm fun _ => Int.le_refl _
  rcases box_spec h (show 1 ≤ more by omega) with ⟨e1, _⟩ | ⟨st', b', e1, g', e2, _⟩
  · exact .inl e1
  · rcases m with m | ⟨st, g, st2, g2, m1, m2, m3, m4⟩
    · rw [e2] at m
      cases m
    · rw [e2] at m2
      cases m2
      rcases box_spec h ha with ⟨_, x2⟩ | ⟨st3, b, x1, gb, x2, _⟩
      · rw [x2] at m1
        cases m1
      · rw [x2] at m1
        cases m1
        refine .inr ⟨st, _, st', _, x1, e1, m3, fun q hq => ?_⟩
        have gs : Good (b.mergeSort leK) := good_perm gb (List.mergeSort_perm b leK)
        have v : val (b.mergeSort leK) q.1 = q.2 := by
          unfold val
          rw [mem_look gs.nd hq]
          rfl
        rw [val_perm gb (List.mergeSort_perm b leK)] at v
        rw [val_perm g' (List.mergeSort_perm b' leK), ← v]
        exact m4 q.1

/-! ### moves multiplied -/
def Cmd.mul (F : Int) : Cmd → Cmd
  | .down n => .down (n * F)
  | .up n => .up (n * F)
  | c => c
def mulK (F : Int) (b : Ps) : Ps := b.map fun q => (q.1 * F, q.2)
theorem mul_inj {F a b : Int} (hF : 1 ≤ F) : a * F = b * F ↔ a = b := ⟨fun h => Int.eq_of_mul_eq_mul_right (by omega) h, fun h => by rw [h]⟩
theorem look_mul {F : Int} (hF : 1 ≤ F) : ∀ (b : Ps) (k : Int), look (mulK F b) (k * F) = look b k
  | [], _ => rfl
  | q :: b, k => by
    show look ((q.1 * F, q.2) :: mulK F b) (k * F) = _
    rw [look_cons, look_cons, look_mul hF b]
    by_cases h : q.1 = k
    · rw [if_pos h, if_pos (by rw [h])]
    · rw [if_neg h, if_neg fun z => h ((mul_inj hF).mp z)]
theorem put_mul {F : Int} (hF : 1 ≤ F) (b : Ps) (k v : Int) : put (mulK F b) (k * F) v = mulK F (put b k v) := by
  unfold put
  have ea : (mulK F b).any (fun q => decide (q.1 = k * F)) = b.any (fun q => decide (q.1 = k)) := by
    unfold mulK
    rw [List.any_map]
    congr 1
    funext q
    show decide (q.1 * F = k * F) = decide (q.1 = k)
    exact decide_eq_decide.mpr (mul_inj hF)
  rw [ea]
  by_cases h : b.any (fun q => decide (q.1 = k)) = true
  · rw [if_pos h, if_pos h]
    unfold mulK
    rw [List.map_map, List.map_map]
    refine List.map_congr_left fun q _ => ?_
    show (if q.1 * F = k * F then (q.1 * F, v) else (q.1 * F, q.2)) = ((if q.1 = k then (q.1, v) else q).1 * F, (if q.1 = k then (q.1, v) else q).2)
    by_cases e : q.1 = k
    · rw [if_pos e, if_pos (by rw [e])]
    · rw [if_neg e, if_neg fun z => e ((mul_inj hF).mp z)]
  · rw [if_neg h, if_neg h]
    unfold mulK
    rw [List.map_append]
    rfl
theorem req_mul {F : Int} (hF : 1 ≤ F) (b : Ps) (o v : Int) : req (mulK F b) (o * F) v = mulK F (req b o v) := by
  unfold req
  rw [look_mul hF, put_mul hF]
theorem go_mul {F : Int} (hF : 1 ≤ F) : ∀ (r : List Cmd) (off need : Int) (b : Ps), go (r.map (Cmd.mul F)) (off * F) need (mulK F b) = (go r off need b).map fun x => (x.1, mulK F x.2)
  | [], off, need, b => rfl
  | .home :: r, off, need, b => rfl
  | .stop :: r, off, need, b => rfl
  | .right n :: r, off, need, b => by
    show (if need > n then go (r.map (Cmd.mul F)) (off * F) (need - n) (req (mulK F b) (off * F) need) else some (none, req (mulK F b) (off * F) need)) = (if need > n then go r off (need - n) (req b off need) else some (none, req b off need)).map _
    rw [req_mul hF]
    by_cases c : need > n
    · rw [if_pos c, if_pos c]
      exact go_mul hF r off (need - n) _
    · rw [if_neg c, if_neg c]
      rfl
  | .left n :: r, off, need, b => by
    show go (r.map (Cmd.mul F)) (off * F) (need + n) (req (mulK F b) (off * F) (need + n)) = _
    rw [req_mul hF]
    exact go_mul hF r off (need + n) _
  | .down n :: r, off, need, b => by
    show go (r.map (Cmd.mul F)) (off * F - n * F) need (mulK F b) = _
    rw [← Int.sub_mul]
    exact go_mul hF r (off - n) need b
  | .up n :: r, off, need, b => by
    show go (r.map (Cmd.mul F)) (off * F + n * F) need (mulK F b) = _
    rw [← Int.add_mul]
    exact go_mul hF r (off + n) need b
theorem last_mul (F : Int) : ∀ cs : List Cmd, last (cs.map (Cmd.mul F)) = last cs * F
  | [] => by show (0 : Int) = 0 * F; omega
  | c :: cs => by
    have e : ∀ (c : Cmd) (cs : List Cmd), last (c :: cs) = c.dv + last cs := fun _ _ => rfl
    have d : (c.mul F).dv = c.dv * F := by
      cases c with
      | up n =>
        show -(n * F) = -n * F
        rw [Int.neg_mul]
      | down n => rfl
      | right n => show (0 : Int) = 0 * F; omega
      | left n => show (0 : Int) = 0 * F; omega
      | home => show (0 : Int) = 0 * F; omega
      | stop => show (0 : Int) = 0 * F; omega
    rw [List.map_cons, e, e, last_mul F cs, d, Int.add_mul]
theorem good_mul {F : Int} (hF : 1 ≤ F) {b : Ps} (g : Good b) : Good (mulK F b) := by
  refine ⟨?_, fun q hq => ?_⟩
  · have e : keys (mulK F b) = (keys b).map (· * F) := by
      unfold keys mulK
      rw [List.map_map, List.map_map]
      rfl
    rw [e, List.nodup_iff_pairwise_ne, List.pairwise_map]
    exact (List.nodup_iff_pairwise_ne.mp g.nd).imp fun h z => h ((mul_inj hF).mp z)
  · obtain ⟨p, hp, rfl⟩ := List.mem_map.mp hq
    exact g.pos p hp
theorem asc_mul {F : Int} (hF : 1 ≤ F) {b : Ps} (h : Asc b) : Asc (mulK F b) := by
  unfold Asc mulK
  rw [List.pairwise_map]
  exact h.imp fun h => Int.mul_lt_mul_of_pos_right h (by omega)
theorem box_mul {F : Int} (hF : 1 ≤ F) {cs : List Cmd} {goal : Int} (h : AllOk cs) (hg : 1 ≤ goal) :
    boxM (cs.map (Cmd.mul F)) goal = (boxM cs goal).map fun x => (x.1, mulK F x.2) := by
  unfold boxM
  rw [last_mul, ← List.map_reverse]
  have e := go_mul hF cs.reverse (last cs) goal []
  have e' : go (cs.reverse.map (Cmd.mul F)) (last cs * F) goal [] = (go cs.reverse (last cs) goal []).map fun x => (x.1, mulK F x.2) := e
  rw [e']
  rcases go_goF (off := last cs) (allOk_rev h) good_nil hg with ⟨e1, _⟩ | ⟨st, b, e1, g, _, _⟩
  · rw [e1]
    rfl
  · rw [e1]
    show some (st, (mulK F b).mergeSort leK) = some (st, mulK F (b.mergeSort leK))
    have gm := good_mul hF g
    have key : (mulK F b).mergeSort leK = mulK F (b.mergeSort leK) := by
      have p : (mulK F (b.mergeSort leK)).Perm (mulK F b) := (List.mergeSort_perm b leK).map _
      refine asc_ext (asc_sort gm) (asc_mul hF (asc_sort g)) fun k => ?_
      rw [look_perm gm (List.mergeSort_perm _ leK), look_perm gm p]
    rw [key]
def Cmd.vert : Cmd → Bool
  | .down _ => true
  | .up _ => true
  | _ => false
theorem go_plain : ∀ (r : List Cmd) (off need : Int) (b : Ps), (∀ c ∈ r, c.vert = true) → go r off need b = some (some need, b)
  | [], _, _, _, _ => rfl
  | .down n :: r, off, need, b, h => go_plain r (off - n) need b fun c hc => h c (List.mem_cons_of_mem _ hc)
  | .up n :: r, off, need, b, h => go_plain r (off + n) need b fun c hc => h c (List.mem_cons_of_mem _ hc)
  | .right n :: r, _, _, _, h => nomatch h _ List.mem_cons_self
  | .left n :: r, _, _, _, h => nomatch h _ List.mem_cons_self
  | .home :: r, _, _, _, h => nomatch h _ List.mem_cons_self
  | .stop :: r, _, _, _, h => nomatch h _ List.mem_cons_self
theorem box_plain (cs : List Cmd) (goal : Int) (h : ∀ c ∈ cs, c.vert = true) : boxM cs goal = some (some goal, []) := by
  unfold boxM
  rw [go_plain cs.reverse (last cs) goal [] fun c hc => h c (List.mem_reverse.mp hc)]
  show some (some goal, ([] : Ps).mergeSort leK) = _
  rw [List.mergeSort_nil]
end Gc

/-! sorted(d.items()), d a dict of ints by ints -/
namespace Gc
open PySem PySem.Spec PyProof.Rows L2
/-- what such a dict holds -/
def dkI (ps : List (Int × Int)) : List (L2.Key × V) := ps.map fun q => (Sum.inl q.1, V.int q.2)
def encP (q : Int × Int) : PyData := .tuple [.int q.1, .int q.2]
def leP (p q : Int × Int) : Bool := decide (p.1 < q.1 ∨ (p.1 = q.1 ∧ p.2 ≤ q.2))
theorem dkI_at {ps : List (Int × Int)} {j : Nat} {kv : L2.Key × V} (h : (dkI ps)[j]? = some kv) : ∃ q, ps[j]? = some q ∧ kv = (Sum.inl q.1, V.int q.2) := by
  unfold dkI at h
  rw [List.getElem?_map] at h
  cases e : ps[j]? with
  | none =>
    rw [e] at h
    cases h
  | some q =>
    rw [e] at h
    exact ⟨q, rfl, (Option.some.inj h).symm⟩
theorem pairs_at {P : Program} {w : World} : ∀ {es : List DictEntry} {vs : List (L2.Key × Value)} {j : Nat} {e : DictEntry}, Pairs (mixKind P w) es vs → es[j]? = some e →
    ∃ kv, vs[j]? = some kv ∧ keyIs kv.1 e.key = true ∧ e.val = kv.2
  | _, _, 0, e, .cons h1 h2 _, h => by
    obtain rfl := Option.some.inj h
    exact ⟨_, rfl, h1, h2⟩
  | _, _, j + 1, e, .cons _ _ t, h => pairs_at (j := j) t h
theorem pairs_len {P : Program} {w : World} : ∀ {es : List DictEntry} {vs : List (L2.Key × Value)}, Pairs (mixKind P w) es vs → es.length = vs.length
  | _, _, .nil => rfl
  | _, _, .cons _ _ t => by
    rw [List.length_cons, List.length_cons, pairs_len t]
def rSortItI : V → Hp → VK → Prop := fun x H Q => ∃ (d : Addr) (ps : List (Int × Int)), x = .ref d ∧ H d = some (.dK (dkI ps)) ∧
  ∀ (H' : Hp) (l : Addr) (ts : List Addr), Same H H' → H l = none → H' l = some (.lst (ts.map V.ref)) →
    Paired (fun (t : Addr) (q : Int × Int) => H' t = some (.tup [.int q.1, .int q.2])) ts (ps.mergeSort leP) → Q (.ref l) H'
theorem each_paired {R : Value → Int × Int → Prop} {F : Addr → Int × Int → Prop} (hR : ∀ v q, R v q → ∃ t, v = .ref t ∧ F t q) : ∀ {vs : List Value} {qs : List (Int × Int)}, PySem.W.EachIs R vs qs →
    ∃ ts : List Addr, vs = ts.map Value.ref ∧ Paired F ts qs
  | _, _, .nil => ⟨[], rfl, .nil⟩
  | _, _, .cons h t => by
    obtain ⟨t0, e0, f0⟩ := hR _ _ h
    obtain ⟨ts, e1, f1⟩ := each_paired hR t
    exact ⟨t0 :: ts, by rw [e0, e1]; rfl, .cons f0 f1⟩
theorem vals_refs : ∀ as : List Addr, Vals (as.map V.ref) (as.map Value.ref)
  | [] => .nil
  | _ :: as => .cons rfl (vals_refs as)
section
variable {X : Cx}
theorem sort_items_run {pins : List (Addr × Obj)} {σ : L2.St} {H : Hp} {s : Shared} {Q : VK} {p d : Addr} {ps : List (Int × Int)} (I : Inv X pins σ H s) (hh : X.A.handled = none)
    (hu : X.A.units + 64 < cLine) (hd : H d = some (.dK (dkI ps))) (view : s.heap.IsItemsView p d)
    (q : ∀ (H' : Hp) (l : Addr) (ts : List Addr), Same H H' → H l = none → H' l = some (.lst (ts.map V.ref)) →
      Paired (fun (t : Addr) (q : Int × Int) => H' t = some (.tup [.int q.1, .int q.2])) ts (ps.mergeSort leP) → Q (.ref l) H') :
    wpAny (model X.prog X.w) X.A (call (.builtin "sorted") [.ref p]) (EP X pins σ Q) X.xe s := by
  obtain ⟨hz, hs0, vs, kv, o, es, ep, ho, hx, hdat, hko, hpr, hnd⟩ := (show ObjOk X.prog X.w H s.heap d (.dK (dkI ps)) from I.hok d _ hd)
  have l1 : (dkI ps).length = vs.length := Paired.length kv
  have l2 : es.toList.length = vs.length := pairs_len hpr
  have l3 : (dkI ps).length = ps.length := List.length_map ..
  have l4 : es.toList.length = es.size := by simp
  have ent : ∀ (j : Nat) (e : DictEntry), es[j]? = some e → ∃ (q : Int × Int) (t1 t2 : Tok), ps[j]? = some q ∧ e.key = .int q.1 t1 ∧ e.val = .int q.2 t2 := by
    intro j e he
    obtain ⟨kv', e1, e2, e3⟩ := pairs_at hpr (show es.toList[j]? = some e by simpa using he)
    obtain ⟨y, f1, f2, f3⟩ := L2.DX.pget kv e1
    obtain ⟨q, g1, rfl⟩ := dkI_at f1
    have f2' : Sum.inl q.1 = kv'.1 := f2
    rw [← f2'] at e2
    obtain ⟨t1, k1⟩ := Value.isInt_shape (k := q.1) (v := e.key) e2
    obtain ⟨t2, k2⟩ : ∃ t, kv'.2 = Value.int q.2 t := f3
    exact ⟨q, t1, t2, g1, k1, e3.trans k2⟩
  refine DT.sortedI (es := es) (ep := ep) hh view ⟨o, ho, hx, hdat⟩ (by omega) fun h' tk as hk hlt hl hG => ?_
  have nd : as.Nodup := List.Pairwise.imp (fun h => Nat.ne_of_lt h) hG.rise
  have lap : as.length = ps.length := by omega
  have pr : ∀ (j : Nat) (b : Addr), as[j]? = some b → ∃ (q : Int × Int) (t1 t2 : Tok), ps[j]? = some q ∧
      h'.get? b = some { cls := .type "tuple", data := .seq #[Value.int q.1 t1, Value.int q.2 t2] } := by
    intro j b hj
    obtain ⟨e, he, hg⟩ := hG.pairs j b hj
    obtain ⟨q, t1, t2, e1, e2, e3⟩ := ent j e he
    rw [e2, e3] at hg
    exact ⟨q, t1, t2, e1, hg⟩
  have hob : (h'.push { cls := .type "list", data := .seq (as.map Value.ref).toArray }).get? h'.objs.size = some (seqObj "list" (as.map Value.ref).toArray 0) := Heap.get?_push_size _ rfl
  have ne0 : ∀ b o, h'.get? b = some o → b ≠ h'.objs.size := fun b o e => Nat.ne_of_lt (Heap.lt_size e)
  have ka : ∀ b o, h'.get? b = some o → (h'.push { cls := .type "list", data := .seq (as.map Value.ref).toArray }).get? b = some o := fun b o e => Heap.get?_push_of_some _ e
  generalize hh2 : h'.push { cls := .type "list", data := .seq (as.map Value.ref).toArray } = h2 at hob ka ⊢
  have kb : ∀ b o, s.heap.get? b = some o → h2.get? b = some o := fun b o e => ka b o (hk b o e)
  have zipR : ∀ z, z ∈ (as.map Value.ref).zip ps → ∃ (j : Nat) (t : Addr), z.1 = Value.ref t ∧ as[j]? = some t ∧ ps[j]? = some z.2 := by
    intro z hz'
    obtain ⟨j, hj⟩ := List.mem_iff_getElem?.mp hz'
    obtain ⟨j1, j2⟩ := List.getElem?_zip_eq_some.mp hj
    rw [List.getElem?_map] at j1
    cases e : as[j]? with
    | none =>
      rw [e] at j1
      cases j1
    | some t =>
      rw [e] at j1
      exact ⟨j, t, (Option.some.inj j1).symm, e, j2⟩
  have eR : PySem.W.EachIs (fun v (q : Int × Int) => ∃ (j : Nat) (t : Addr), v = Value.ref t ∧ as[j]? = some t ∧ ps[j]? = some q) (as.map Value.ref) ps :=
    PySem.W.EachIs.of_zip (by rw [List.length_map]; exact lap) zipR
  have er : PySem.W.EachIs (fun v (q : Int × Int) => ∃ bs, Reads h2 v (encP q) bs ∧ h'.objs.size ∉ bs) (as.map Value.ref) ps := by
    refine eR.mono fun v q h => ?_
    obtain ⟨j, t, rfl, e1, e2⟩ := h
    obtain ⟨q', t1, t2, g1, g2⟩ := pr j t e1
    obtain rfl : q' = q := Option.some.inj (g1.symm.trans e2)
    exact ⟨_, .tuple (ka _ _ g2) rfl rfl (.cons (.int _ _) (.cons (.int _ _) .nil)), by simp⟩
  refine PySem.W.list_sort_data (s := { s with heap := h2, toks := tk }) (A := X.A.in1) (enc := encP) (bs := ps) (vs := as.map Value.ref) hob eR er
    (PySem.W.AllAlike.of fun b b' => by simp [encP, PySem.W.alike, PySem.W.alikeAll]) (PySem.W.Sortable.tuples fun b => ⟨_, _, rfl⟩) (by omega)
    (fun b _ => by show X.A.units + 1 + 1 + 1 < cLine; omega) fun out ol oe => ?_
  have le_eq : PySem.W.dataLe false encP = leP := PySem.W.dataLe_ii (fun q : Int × Int => q.1) (fun q => q.2)
  rw [le_eq] at oe
  show EP X pins σ Q (.ref h'.objs.size) { s with heap := sortedHeap h2 h'.objs.size (as.map Value.ref) out.toArray, toks := tk }
  obtain ⟨ts, rfl, tp⟩ := each_paired (F := fun t q => ∃ j : Nat, as[j]? = some t ∧ ps[j]? = some q) (fun v q h => by
    obtain ⟨j, t, e1, e2, e3⟩ := h
    exact ⟨t, e1, j, e2, e3⟩) oe
  have kF : ∀ b o, b ≠ h'.objs.size → h2.get? b = some o → (sortedHeap h2 h'.objs.size (as.map Value.ref) (ts.map Value.ref).toArray).get? b = some o :=
    fun b o hb e => (PyProof.Rows.sortedHeap_old hb (Heap.lt_size e)).trans e
  have kS : ∀ b o, s.heap.get? b = some o → (sortedHeap h2 h'.objs.size (as.map Value.ref) (ts.map Value.ref).toArray).get? b = some o :=
    fun b o e => kF b o (ne0 _ _ (hk b o e)) (kb b o e)
  obtain ⟨eF, heF⟩ := PyProof.Rows.sortedHeap_at (vs := as.map Value.ref) (out := (ts.map Value.ref).toArray) hob
  generalize sortedHeap h2 h'.objs.size (as.map Value.ref) (ts.map Value.ref).toArray = hF at kF kS heF ⊢
  have I1 : Inv X pins σ H { s with heap := hF, toks := tk } := I.kept (t' := tk) kS
  have hn0 : H h'.objs.size = none := I.hok.fresh (Nat.le_of_lt hlt)
  have tl : ts.length = ps.length := by
    rw [← ol, List.length_map]
  have I2 : Inv X pins σ (upd H h'.objs.size (.lst (ts.map V.ref))) { s with heap := hF, toks := tk } :=
    I1.take (h' := hF) (t' := tk) (fun b ob _ e => e) (I.fpOk (Nat.le_of_lt hlt) hn0) ⟨by rw [List.length_map]; omega, ts.map Value.ref, eF, vals_refs ts, heF⟩
  obtain ⟨H2, I3, g, qt⟩ := L2.DX.takeT (P := fun b vs => ∃ (j : Nat) (q : Int × Int), as[j]? = some b ∧ ps[j]? = some q ∧ vs = [.int q.1, .int q.2]) I as _ I2 nd fun b hb => by
    obtain ⟨j, hj⟩ := List.mem_iff_getElem?.mp hb
    obtain ⟨q, t1, t2, e1, e2⟩ := pr j b hj
    have old : s.heap.objs.size ≤ b := Nat.le_of_lt (hG.above b hb)
    refine ⟨old, ?_, [.int q.1, .int q.2], ⟨j, q, hj, e1, rfl⟩, fun H3 => ⟨by show 2 ≤ sizeLine; decide, [Value.int q.1 t1, Value.int q.2 t2], .cons ⟨_, rfl⟩ (.cons ⟨_, rfl⟩ .nil), ⟨_, kF _ _ (ne0 _ _ e2) (ka _ _ e2), rfl, 0, rfl⟩⟩⟩
    rw [upd_ne (ne0 _ _ e2)]
    exact I.hok.fresh old
  refine ⟨.ref h'.objs.size, H2, I3, rfl, q H2 h'.objs.size ts (fun b o e => g b o (by rw [upd_ne (ne_of_none e hn0)]; exact e)) hn0 (g _ _ upd_same) ?_⟩
  refine Paired.mapP tp fun t q h => ?_
  obtain ⟨j, j1, j2⟩ := h
  obtain ⟨vs', ⟨i, q', i1, i2, ev⟩, hH⟩ := qt t (List.mem_of_getElem? j1)
  have eij : i = j := (List.getElem?_inj (List.getElem?_eq_some_iff.mp i1).1 nd).mp (i1.trans j1.symm)
  subst eij
  obtain rfl : q' = q := Option.some.inj (i2.symm.trans j2)
  rw [ev] at hH
  exact hH
def tSortItems (te : TE) : TE := fun σ H Q => te σ H fun x H1 => rSortItI x H1 Q
variable {e : Expr} {te : TE} {p apos cpos pos : Pos}
theorem pe_sortItems (hc : X.calm = true) (hu : X.A.units + 64 < cLine) (he : PE X e te) (hg : Gl X "sorted") (hm : X.mg "sorted" = none)
    (hv : bootBuiltins "sorted" = some (.builtin "sorted"))
    (hbase : attributeBase e "items" X.env (eval e X.env) = eval e X.env := by rfl) (hline : (apos.endLine == cpos.line) = true := by rfl)
    (hs : starEach [.Call (.Attribute e "items" apos) [] [] cpos] X.env = (false, eval (.Call (.Attribute e "items" apos) [] [] cpos) X.env) :: starEach [] X.env := by rfl) :
    PE X (.Call (.Name "sorted" p) [.Call (.Attribute e "items" apos) [] [] cpos] [] pos) (tSortItems te) := by
  refine ⟨fun pins s σ H Q I hq => ?_⟩
  refine wpAny_Call_Name_kw (ld_blt I hg hm hv ?_)
  refine PyProof.Rows.callWith_builtin1 ?_ hs rfl
  rw [hs]
  show wpAny _ _ (spliced ((false, eval (.Call (.Attribute e "items" apos) [] [] cpos) X.env) :: backTo pos (starEach [] X.env))) _ _ s
  refine Calls.spliced_cons ?_
  refine wpAny_Call_method (T := "dict") (id := "dict.items") hbase rfl hline F.plainAttrs_dict F.slot_dict_items F.type_dict_items
    (thn (he.run pins s σ H _ I hq) fun u s1 ⟨x, H1, I1, rx, d, ps, ex, hd, q⟩ => ?_)
  subst ex
  obtain rfl : u = Value.ref d := rx
  obtain ⟨hz, hs0, vs, kv, hdo⟩ := I1.hok d _ hd
  have I2 : Inv X pins σ H1 { s1 with heap := s1.heap.push { cls := .type "dict_items", data := .fields #[.ref d] } } :=
    I1.kept (t' := s1.toks) fun b ob z => Heap.get?_push_of_some _ z
  refine ⟨hdo.typeIs, hdo.mapOf.noDict, ?_⟩
  show wpAny _ _ (callWith cpos (.builtin "dict.items") [.ref d] [] []) _ X.xe s1
  refine method_meetsIn F.slot_dict_items F.entry_dict_items rfl (PySem.evalArgs_none ⟨rfl, hdo.typeIs, F.args_dict_items_1 _, _, meets_dict_items (mixKind X.prog X.w) d hs0, ⟨vs, hdo⟩, ?_⟩)
  refine Calls.spliced_nil ?_
  exact sort_items_run I2 (I1.ok.hd hc) hu hd ⟨_, Heap.get?_push_size _ rfl, rfl, rfl⟩ q
end
end Gc

/-! match over written texts, with a last case for the rest -/
namespace Gc
open PySem L2
/-- what is wanted of the cases, by the subject's value -/
abbrev TM := V → TS
structure MC (X : Cx) (cs : List MatchCase) (t : TM) : Prop where
  run : ∀ (first : Bool) (pins : List (Addr × Obj)) (s : Shared) (σ : L2.St) (H : Hp) (D : Ends) (x : V) (v : Value),
    Inv X pins σ H s → RelV x v → t x D σ H →
    wpAny (model X.prog X.w) X.A (matchCases cs X.env v first) (fun f s' => SP X pins D f s') X.xe s
def mNil : TM := fun _ D σ H => D.nx σ H
/-- case 'z': .. -/
def mStr (z : Str) (tb : TS) (r : TM) : TM := fun x D σ H => ∃ y, x = .str y ∧ if decide (y = z) = true then tb D σ H else r x D σ H
/-- case _: .. -/
def mAny (tb : TS) : TM := fun _ D σ H => tb D σ H
section
variable {X : Cx} {rest : List MatchCase} {body : List Stmt} {tb : TS} {r : TM} {z : Str} {k : Nat} {p1 p2 pos : Pos} {e : Expr} {te : TE}
theorem mc_nil : MC X [] mNil := ⟨fun _ pins s σ H D x v I _ h => wpAny_matchCases_nil ⟨σ, H, I, h⟩⟩
theorem mc_str (hb : PSs X body tb) (hr : MC X rest r) :
    MC X (⟨.MatchValue (.Constant (.str z) k p1) p2, none, body⟩ :: rest) (mStr z tb r) := by
  refine ⟨fun first pins s σ H D x v I rx h => ?_⟩
  obtain ⟨y, rfl, h⟩ := h
  refine wpAny_matchCases_cons (wpAny_matchPattern_Value ?_)
  have hq : PE X (.Constant (.str z) k p1) (tC (.str z)) := pe_str
  refine wpAny_mono (hq.run pins s σ H (fun w H' => w = .str z ∧ H' = H) I ⟨rfl, rfl⟩) (fun u s1 hu => ?_) fun _ _ q => q
  obtain ⟨w, H1, I1, rw1, rfl, rfl⟩ := hu
  refine wpAny_mono ((op_eq (X := X)) pins s1 σ _ (.str y) (.str z) v u (fun w H' => w = .bl (decide (y = z)) ∧ H' = _) I1 rx rw1 ⟨rfl, ?_, rfl⟩) (fun c s2 hc => ?_) fun _ _ q => q
  · by_cases q : y = z
    · subst q
      rw [decide_eq_true (Eq.refl _), decide_eq_true (Eq.refl _)]
    · rw [decide_eq_false q, decide_eq_false fun e => q (V.str.inj e)]
  · obtain ⟨w, H2, I2, rw2, rfl, rfl⟩ := hc
    obtain rfl : c = Value.bool (decide (y = z)) := rw2
    refine wpAny_pure ?_
    by_cases q : y = z
    · rw [decide_eq_true q] at h ⊢
      show wpAny _ _ (assignInOrder [] []) _ _ _
      refine wpAny_assignInOrder_none ?_
      exact hb.run pins s2 σ _ D I2 h
    · rw [decide_eq_false q] at h ⊢
      exact hr.run false pins s2 σ _ D (.str y) v I2 rx h
theorem mc_any (hb : PSs X body tb) : MC X (⟨.MatchAs none none p2, none, body⟩ :: rest) (mAny tb) := by
  refine ⟨fun first pins s σ H D x v I rx h => ?_⟩
  refine wpAny_matchCases_cons (wpAny_matchPattern_Capture ?_)
  show wpAny _ _ (assignInOrder [] []) _ _ _
  exact wpAny_assignInOrder_none (hb.run pins s σ H D I h)
def tMatch (te : TE) (t : TM) : TS := fun D σ H => te σ H fun x H1 => t x D σ H1
theorem ps_match {cs : List MatchCase} {t : TM} (he : PE X e te) (hc : MC X cs t) : PS X (.Match e cs pos) (tMatch te t) := by
  refine ⟨fun pins s σ H D I h => ?_⟩
  refine wpAny_Match (wpAny_mono (he.run pins s σ H _ I h) (fun v s1 hv => ?_) fun _ _ q => q)
  obtain ⟨x, H1, I1, rx, q⟩ := hv
  exact hc.run true pins s1 σ H1 D x v I1 rx q
end
end Gc

namespace Gc
open PySem PyProof.Rows L2
/-! ### heaps: all that stood but at two places -/
def Keep (a d : Addr) (H H' : Hp) : Prop := ∀ b o, b ≠ a → b ≠ d → H b = some o → H' b = some o
theorem Keep.refl {a d : Addr} (H : Hp) : Keep a d H H := fun _ _ _ _ h => h
theorem Keep.trans {a d : Addr} {H H1 H2 : Hp} (x : Keep a d H H1) (y : Keep a d H1 H2) : Keep a d H H2 := fun b o h1 h2 h => y b o h1 h2 (x b o h1 h2 h)
theorem Keep.of {a d : Addr} {H H' : Hp} (e : Same H H') : Keep a d H H' := fun b o _ _ h => e b o h
theorem same_upd {H H' : Hp} {p : Addr} {o : HO} (e : Same H H') (h : H' p = none) : Same H (upd H' p o) := fun b u hb => by
  rw [upd_ne (ne_of_none (e b u hb) h)]
  exact e b u hb
theorem Keep.upd1 {a d : Addr} {H H' : Hp} {o : HO} (e : Keep a d H H') : Keep a d H (upd H' a o) := fun b u h1 h2 h => by
  rw [upd_ne h1]
  exact e b u h1 h2 h
theorem Keep.upd2 {a d : Addr} {H H' : Hp} {o : HO} (e : Keep a d H H') : Keep a d H (upd H' d o) := fun b u h1 h2 h => by
  rw [upd_ne h2]
  exact e b u h1 h2 h
theorem Keep.new {a d p : Addr} {H H' : Hp} {o : HO} (e : Keep a d H H') (h : H' p = none) : Keep a d H (upd H' p o) := fun b u h1 h2 hb => by
  rw [upd_ne (ne_of_none (e b u h1 h2 hb) h)]
  exact e b u h1 h2 hb

theorem cpow {i j : Int} (h : (decide (0 ≤ j) && (decide (j ≤ 1000000) && decide (i.natAbs < 2 ^ 64))) = true) : CPow i j := by
  rw [Bool.and_eq_true, Bool.and_eq_true] at h
  exact ⟨of_decide_eq_true h.1, of_decide_eq_true h.2.1, of_decide_eq_true h.2.2⟩
theorem pow_small {x : Int} {a k b : Nat} (h : x.natAbs < 2 ^ a) (hb : a * k < b) : (x ^ k).natAbs < 2 ^ b := by
  rw [Int.natAbs_pow]
  have h1 : x.natAbs ^ k ≤ (2 ^ a) ^ k := Nat.pow_le_pow_left (Nat.le_of_lt h) k
  rw [← Nat.pow_mul] at h1
  exact Nat.lt_of_le_of_lt h1 (Nat.pow_lt_pow_right (by decide) hb)
theorem int_at {ns : List Int} {i : Nat} {y : V} (h : (ns.map V.int)[i]? = some y) : ∃ u, y = V.int u := by
  rw [List.getElem?_map] at h
  cases e : ns[i]? with
  | none =>
    rw [e] at h
    cases h
  | some u =>
    rw [e] at h
    exact ⟨u, (Option.some.inj h).symm⟩
theorem dp_ints {K : PySem.W.Frag} {H : Hp} : ∀ ns : List Int, DpAll K H (ns.map V.int) (ns.map PyData.int)
  | [] => .nil
  | x :: r => .cons (.int x) (dp_ints r)
/-- a def that is called by its name and lets nothing out -/
structure Cal (P : Program) (w : World) (K : PySem.W.Frag) (mg : Str → Option Value) (base : Heap) (k : Nat) (x : Str) (sp : Sp) : Prop where
  ex : ∃ (f : Addr) (fd : FuncData) (ps : List Str), FnOk P w K mg base CX0 k f fd ps sp ∧
    mg x = some (.ref f) ∧ PySem.W.keepIn K (.ref f) = true ∧ Binds K fd ps []
theorem pe_cal {X : Cx} {k j : Nat} {x : Str} {sp : Sp} {p pos : Pos} {e : Expr} {es : List Expr} {t : TA}
    (c : Cal X.prog X.w X.K X.mg X.base k x sp) (hr : Room j X.A) (hk : k ≤ j) (hg : Gl X x) (ha : PA X (e :: es) t)
    (hdb : (x == ("__debug__" : Str)) = false := by decide)
    (he : starEach (e :: es) X.env = (false, eval e X.env) :: starEach es X.env := by rfl)
    (hpl : (backTo pos (starEach es X.env)).any (·.1) = false := by rfl) :
    PE X (.Call (.Name x p) (e :: es) [] pos) (tCall sp [] E0 t) := by
  obtain ⟨f, fd, ps, F, hm, kp, b⟩ := c.ex
  exact pe_call F (hr.mono hk) hg hm kp b .nil pass0 ha hdb he hpl

/-! ### data carried along -/
theorem seq_t {K : PySem.W.Frag} {H H' : Hp} {a : Addr} {xs : List V} (e : Same H H') (h : SqT K H a xs) : SqT K H' a xs := by
  rcases h with (h | ⟨o, h⟩) | h
  · exact .inl (.inl (e _ _ h))
  · exact .inl (.inr ⟨o, e _ _ h⟩)
  · exact .inr h
mutual
theorem dp_same {K : PySem.W.Frag} {H H' : Hp} (e : Same H H') : ∀ (d : PyData) (v : V), Dp K H v d → Dp K H' v d
  | .none, _, h => by cases h; exact .non
  | .bool b, _, h => by cases h; exact .bl b
  | .int i, _, h => by cases h; exact .int i
  | .str x, _, h => by cases h; exact .str x
  | .list ds, _, h => by
    cases h with
    | lst q r => exact .lst (e.seq q) (dps_same e ds _ r)
  | .tuple ds, _, h => by
    cases h with
    | tup q r => exact .tup (seq_t e q) (dps_same e ds _ r)
  | .dict _, _, h => by cases h
theorem dps_same {K : PySem.W.Frag} {H H' : Hp} (e : Same H H') : ∀ (ds : List PyData) (vs : List V), DpAll K H vs ds → DpAll K H' vs ds
  | [], _, h => by cases h; exact .nil
  | d :: ds, _, h => by
    cases h with
    | cons a b => exact .cons (dp_same e d _ a) (dps_same e ds _ b)
end
theorem dps_len {K : PySem.W.Frag} {H : Hp} : ∀ {vs : List V} {ds : List PyData}, DpAll K H vs ds → vs.length = ds.length
  | [], _, h => by cases h; rfl
  | _ :: vs, _, h => by
    cases h with
    | cons a b => rw [List.length_cons, List.length_cons, dps_len b]
theorem dps_at {K : PySem.W.Frag} {H : Hp} : ∀ {vs : List V} {ds : List PyData} {i : Nat}, DpAll K H vs ds → i < ds.length → ∃ v d, vs[i]? = some v ∧ ds[i]? = some d ∧ Dp K H v d
  | _, _, 0, h, l => by
    cases h with
    | nil => exact absurd l (by decide)
    | cons a b => exact ⟨_, _, rfl, rfl, a⟩
  | _, _, i + 1, h, l => by
    cases h with
    | nil => exact absurd l (Nat.not_lt_zero _)
    | cons a b => exact dps_at (i := i) b (Nat.lt_of_succ_lt_succ l)
theorem depth_at : ∀ {ds : List PyData} {i : Nat} {d : PyData}, ds[i]? = some d → d.depth ≤ PyData.depthAll ds
  | [], i, d, h => by simp at h
  | x :: r, 0, d, h => by
    have e : x = d := Option.some.inj h
    subst e
    simp only [PyData.depthAll]
    exact Nat.le_max_left _ _
  | x :: r, i + 1, d, h => by
    have ih := depth_at (ds := r) (i := i) (d := d) h
    simp only [PyData.depthAll]
    exact Nat.le_trans ih (Nat.le_max_right _ _)
theorem ty_l {K : PySem.W.Frag} {H : Hp} {a : Addr} {xs : List V} (h : SqL K H a xs) : TyX K H (.ref a) (.type "list") := by
  rcases h with (h | ⟨o, h⟩) | h
  · exact .base (.lst h)
  · exact .base (.frz h)
  · obtain ⟨o, its, n, e, c, _⟩ := h
    exact .kList e c
theorem ty_t {K : PySem.W.Frag} {H : Hp} {a : Addr} {xs : List V} (h : SqT K H a xs) : TyX K H (.ref a) (.type "tuple") := by
  rcases h with (h | ⟨o, h⟩) | h
  · exact .base (.tup h)
  · exact .fTuple h
  · obtain ⟨o, its, n, e, c, _⟩ := h
    exact .kTuple e c
theorem isi_q {K : PySem.W.Frag} {H : Hp} {x : V} {t n : String} {b : Bool} {Q : VK} (ty : TyX K H x (.type t)) (k : kitB t n = some b) (q : Q (.bl b) H) : rIsi K [x, .ty n] H Q :=
  ⟨x, .ty n, .type t, .type n, b, rfl, .ty n, ty, kit_ty k, q⟩
theorem log9 {x : Int} {a : Nat} (h : x.natAbs < 2 ^ a) (ha : a < 9000) : x.natAbs.log2 < 9000 :=
  Nat.lt_of_le_of_lt (Nat.le_of_lt_succ (PySem.Flt.log2_lt_of (k := a + 1) (Nat.succ_pos _) (Nat.lt_trans h (Nat.pow_lt_pow_right (by decide) (Nat.lt_succ_self a))))) ha
/-- a power of any whole number, its size told -/
def CPowW (i j : Int) : Prop := 0 ≤ j ∧ j ≤ 64 ∧ i.natAbs.log2 < 100000
theorem op_powW {X : Cx} : OpR X (binaryOp .Pow) (rI CPowW fun i j => .int (i ^ j.toNat)) := opI fun i j _ _ _ _ _ hc q => by
  refine pow_int hc.1 ?_ q
  have h1 : Builtin.Int.intBits i ≤ i.natAbs.log2 + 1 := by
    unfold Builtin.Int.intBits
    split <;> omega
  have h2 := hc.2.1
  have h3 := hc.2.2
  have h4 : (Builtin.Int.intBits i : Int) ≤ 100000 := by omega
  calc (Builtin.Int.intBits i : Int) * j ≤ 100000 * 64 := Int.mul_le_mul h4 h2 hc.1 (by decide)
    _ ≤ 2 ^ 27 := by decide
theorem cpowW {i j : Int} {a : Nat} (hj : 0 ≤ j) (hj2 : j ≤ 64) (h : i.natAbs < 2 ^ a) (ha : a < 100000) : CPowW i j :=
  ⟨hj, hj2, Nat.lt_of_le_of_lt (Nat.le_of_lt_succ (PySem.Flt.log2_lt_of (k := a + 1) (Nat.succ_pos _) (Nat.lt_trans h (Nat.pow_lt_pow_right (by decide) (Nat.lt_succ_self a))))) ha⟩
def rLenQ (K : PySem.W.Frag) : List V → Hp → VK → Prop := fun xs H Q => ∃ p ys, xs = [.ref p] ∧ (SqL K H p ys ∨ SqT K H p ys) ∧ Q (.int ys.length) H
end Gc

namespace Gc
open PySem PyProof.Rows L2
/-! ### commands as tuples -/
def encC : Cmd → List V
  | .down n => [.str "down", .int n]
  | .up n => [.str "up", .int n]
  | .right n => [.str "right", .int n]
  | .left n => [.str "left", .int n]
  | .home => [.str "home"]
  | .stop => [.str "end"]
def CmdAt (K : PySem.W.Frag) (H : Hp) (v : V) (c : Cmd) : Prop := ∃ a, v = .ref a ∧ SqT K H a (encC c)
def CmdsOf (K : PySem.W.Frag) (H : Hp) (xs : List V) (cs : List Cmd) : Prop := Paired (CmdAt K H) xs cs
theorem CmdAt.same {K : PySem.W.Frag} {H H' : Hp} {v : V} {c : Cmd} (e : Same H H') (h : CmdAt K H v c) : CmdAt K H' v c := by
  obtain ⟨a, e1, h1⟩ := h
  exact ⟨a, e1, seq_t e h1⟩
theorem CmdsOf.same {K : PySem.W.Frag} {H H' : Hp} {xs : List V} {cs : List Cmd} (e : Same H H') (h : CmdsOf K H xs cs) : CmdsOf K H' xs cs := Paired.mapP h fun _ _ q => q.same e
theorem CmdsOf.len {K : PySem.W.Frag} {H : Hp} {xs : List V} {cs : List Cmd} (h : CmdsOf K H xs cs) : xs.length = cs.length := Paired.length h
theorem paired_at {α β : Type} {F : α → β → Prop} : ∀ {xs : List α} {ys : List β} {i : Nat} {x : α}, Paired F xs ys → xs[i]? = some x → ∃ y, ys[i]? = some y ∧ F x y
  | _, _, _, _, .nil, h => by simp at h
  | _, _, 0, x, .cons f _, h => by
    obtain rfl := Option.some.inj h
    exact ⟨_, rfl, f⟩
  | _, _, i + 1, x, .cons _ t, h => paired_at (i := i) t h
/-! ### dicts of ints by ints -/
theorem valV_dkI : ∀ (b : Ps) (k : Int), valV (dkI b) (Sum.inl k : L2.Key) = (look b k).map V.int
  | [], k => rfl
  | q :: b, k => by
    show valV (((Sum.inl q.1 : L2.Key), V.int q.2) :: dkI b) (Sum.inl k : L2.Key) = _
    rw [look_cons]
    by_cases h : q.1 = k
    · rw [if_pos h, valV_pos (by show (Sum.inl q.1 : L2.Key) = Sum.inl k; rw [h])]
      rfl
    · rw [if_neg h, valV_neg (by intro z; exact h (Sum.inl.inj z))]
      exact valV_dkI b k
theorem putK_dkI (b : Ps) (k v : Int) : putK (dkI b) (Sum.inl k : L2.Key) (V.int v) = dkI (put b k v) := by
  have ea : ((dkI b).any fun kv => decide (kv.1 = (Sum.inl k : L2.Key))) = b.any fun q => decide (q.1 = k) := by
    unfold dkI
    rw [List.any_map]
    congr 1
    funext q
    show decide ((Sum.inl q.1 : L2.Key) = Sum.inl k) = decide (q.1 = k)
    exact decide_eq_decide.mpr ⟨Sum.inl.inj, fun h => by rw [h]⟩
  unfold putK put
  rw [ea]
  by_cases h : (b.any fun q => decide (q.1 = k)) = true
  · rw [if_pos h, if_pos h]
    unfold dkI
    rw [List.map_map, List.map_map]
    refine List.map_congr_left fun q _ => ?_
    show (if (Sum.inl q.1 : L2.Key) = Sum.inl k then ((Sum.inl q.1 : L2.Key), V.int v) else (Sum.inl q.1, V.int q.2)) = (Sum.inl (if q.1 = k then (q.1, v) else q).1, V.int (if q.1 = k then (q.1, v) else q).2)
    by_cases e : q.1 = k
    · rw [if_pos e, if_pos (by rw [e])]
    · rw [if_neg e, if_neg fun z => e (Sum.inl.inj z)]
  · rw [if_neg h, if_neg h]
    unfold dkI
    rw [List.map_append]
    rfl
theorem put_len (b : Ps) (k v : Int) : (put b k v).length ≤ b.length + 1 := by
  unfold put
  split
  · rw [List.length_map]
    exact Nat.le_succ _
  · rw [List.length_append]
    exact Nat.le_refl _
theorem req_len (b : Ps) (o v : Int) : (req b o v).length ≤ b.length + 1 := put_len b o _
end Gc

/-! running commands over plain texts: the goal is reached exactly if the box is fulfilled -/
namespace Gc
def seen (t : Int) : Option Int → Int
  | none => t
  | some a => min a t
/-- the goal of the cursor after one command in a row of length t -/
def aim1 (t : Int) (a : Option Int) : Cmd → Option Int
  | .down _ => a
  | .up _ => a
  | .right n => some (min (seen t a + n) t)
  | .left n => some (max 0 (seen t a - n))
  | .home => some 0
  | .stop => none
def aimF (T : Int → Int) : Int → Option Int → List Cmd → Option Int
  | _, a, [] => a
  | r, a, c :: cs => aimF T (r + c.dv) (aim1 (T r) a c) cs
theorem aimF_app (T : Int → Int) : ∀ (xs ys : List Cmd) (r : Int) (a : Option Int), aimF T r a (xs ++ ys) = aimF T (r + last xs) (aimF T r a xs) ys
  | [], ys, r, a => by
    show aimF T r a ys = aimF T (r + 0) a ys
    rw [Int.add_zero]
  | c :: xs, ys, r, a => by
    show aimF T (r + c.dv) (aim1 (T r) a c) (xs ++ ys) = aimF T (r + (c.dv + last xs)) _ ys
    rw [aimF_app T xs ys, Int.add_assoc]
    rfl
theorem aimF_snoc (T : Int → Int) (cs : List Cmd) (c : Cmd) (r : Int) (a : Option Int) : aimF T r a (cs ++ [c]) = aim1 (T (r + last cs)) (aimF T r a cs) c := aimF_app T cs [c] r a
def ge (a : Option Int) (n : Int) : Prop := ∀ x, a = some x → n ≤ x
theorem ge_none (n : Int) : ge none n := fun _ h => nomatch h
theorem ge_some {x n : Int} : ge (some x) n ↔ n ≤ x := ⟨fun h => h x rfl, fun h y e => by rw [← Option.some.inj e]; exact h⟩
theorem seen_ge {t n : Int} {a : Option Int} : n ≤ seen t a ↔ n ≤ t ∧ ge a n := by
  cases a with
  | none => exact ⟨fun h => ⟨h, ge_none n⟩, fun h => h.1⟩
  | some x =>
    rw [ge_some]
    show n ≤ min x t ↔ _
    omega
theorem aim1_nn {t : Int} {a : Option Int} {c : Cmd} (ht : 0 ≤ t) (ha : ge a 0) (ok : c.ok) : ge (aim1 t a c) 0 := by
  have hs : 0 ≤ seen t a := seen_ge.mpr ⟨ht, ha⟩
  cases c with
  | down n => exact ha
  | up n => exact ha
  | right n =>
    have o : 1 ≤ n := ok
    refine ge_some.mpr ?_
    omega
  | left n =>
    refine ge_some.mpr ?_
    omega
  | home => exact ge_some.mpr (Int.le_refl 0)
  | stop => exact ge_none 0
theorem aimF_nn {T : Int → Int} (hT : ∀ k, 0 ≤ T k) : ∀ {cs : List Cmd} {r : Int} {a : Option Int}, AllOk cs → ge a 0 → ge (aimF T r a cs) 0
  | [], _, _, _, h => h
  | c :: cs, r, a, ok, h => aimF_nn hT (cs := cs) (fun d hd => ok d (List.mem_cons_of_mem _ hd)) (aim1_nn (hT r) h (ok c List.mem_cons_self))
theorem last_snoc (cs : List Cmd) (c : Cmd) : last (cs ++ [c]) = last cs + c.dv := by
  rw [last_app]
  show _ + (c.dv + 0) = _
  omega
theorem reqF_le {f : Int → Int} {o v : Int} {T : Int → Int} {r : Int} : (∀ k, reqF f o v k ≤ T (r + k)) ↔ (∀ k, f k ≤ T (r + k)) ∧ v ≤ T (r + o) := by
  constructor
  · intro h
    refine ⟨fun k => Int.le_trans (reqF_ge f o v k) (h k), ?_⟩
    have := h o
    unfold reqF at this
    rw [if_pos rfl] at this
    omega
  · rintro ⟨h1, h2⟩ k
    unfold reqF
    have := h1 k
    split
    · rename_i e
      subst e
      omega
    · exact this
/-- the box's walk, and the run -/
theorem go_char {T : Int → Int} (hT : ∀ k, 0 ≤ T k) {r : Int} {a : Option Int} (ha : ge a 0) : ∀ (rs : List Cmd) (need : Int) (f : Int → Int), AllOk rs → 1 ≤ need →
    ((∃ st g, goF rs (last rs.reverse) need f = some (st, g) ∧ (∀ n, st = some n → ge a n) ∧ ∀ k, g k ≤ T (r + k)) ↔ (∀ k, f k ≤ T (r + k)) ∧ ge (aimF T r a rs.reverse) need)
  | [], need, f, _, _ => by
    constructor
    · rintro ⟨st, g, e, h1, h2⟩
      cases e
      exact ⟨h2, h1 need rfl⟩
    · rintro ⟨h1, h2⟩
      exact ⟨_, _, rfl, fun n e => by rw [← Option.some.inj e]; exact h2, h1⟩
  | .home :: rs, need, f, ok, hn => by
    rw [List.reverse_cons, aimF_snoc]
    constructor
    · rintro ⟨st, g, e, _⟩
      cases e
    · rintro ⟨_, h2⟩
      have : need ≤ 0 := ge_some.mp h2
      omega
  | .stop :: rs, need, f, ok, hn => by
    rw [List.reverse_cons, aimF_snoc]
    constructor
    · rintro ⟨st, g, e, _, h2⟩
      cases e
      exact ⟨h2, ge_none _⟩
    · rintro ⟨h1, _⟩
      exact ⟨_, _, rfl, (fun n e => nomatch e), h1⟩
  | .down n :: rs, need, f, ok, hn => by
    rw [List.reverse_cons, aimF_snoc, last_snoc]
    have ih := go_char hT (r := r) ha rs need f (fun d hd => ok d (List.mem_cons_of_mem _ hd)) hn
    have e : last rs.reverse + (Cmd.down n).dv - n = last rs.reverse := by
      show last rs.reverse + n - n = _
      omega
    simp only [goF]
    rw [e]
    exact ih
  | .up n :: rs, need, f, ok, hn => by
    rw [List.reverse_cons, aimF_snoc, last_snoc]
    have ih := go_char hT (r := r) ha rs need f (fun d hd => ok d (List.mem_cons_of_mem _ hd)) hn
    have e : last rs.reverse + (Cmd.up n).dv + n = last rs.reverse := by
      show last rs.reverse + -n + n = _
      omega
    simp only [goF]
    rw [e]
    exact ih
  | .left n :: rs, need, f, ok, hn => by
    have o : 1 ≤ n := ok _ List.mem_cons_self
    rw [List.reverse_cons, aimF_snoc, last_snoc]
    have ih := go_char hT (r := r) ha rs (need + n) (reqF f (last rs.reverse) (need + n)) (fun d hd => ok d (List.mem_cons_of_mem _ hd)) (by omega)
    have e : last rs.reverse + (Cmd.left n).dv = last rs.reverse := Int.add_zero _
    simp only [goF]
    rw [e, ih, reqF_le]
    have s : ge (aim1 (T (r + last rs.reverse)) (aimF T r a rs.reverse) (.left n)) need ↔ need + n ≤ T (r + last rs.reverse) ∧ ge (aimF T r a rs.reverse) (need + n) := by
      rw [← seen_ge]
      show ge (some _) need ↔ _
      rw [ge_some]
      omega
    rw [s]
    exact ⟨fun h => ⟨h.1.1, h.1.2, h.2⟩, fun h => ⟨⟨h.1, h.2.1⟩, h.2.2⟩⟩
  | .right n :: rs, need, f, ok, hn => by
    have o : 1 ≤ n := ok _ List.mem_cons_self
    have okr : AllOk rs := fun d hd => ok d (List.mem_cons_of_mem _ hd)
    rw [List.reverse_cons, aimF_snoc, last_snoc]
    have e : last rs.reverse + (Cmd.right n).dv = last rs.reverse := Int.add_zero _
    have nn : 0 ≤ seen (T (r + last rs.reverse)) (aimF T r a rs.reverse) := seen_ge.mpr ⟨hT _, aimF_nn hT (fun d hd => okr d (List.mem_reverse.mp hd)) ha⟩
    simp only [goF]
    rw [e]
    have s : ge (aim1 (T (r + last rs.reverse)) (aimF T r a rs.reverse) (.right n)) need ↔ need ≤ T (r + last rs.reverse) ∧ need - n ≤ seen (T (r + last rs.reverse)) (aimF T r a rs.reverse) := by
      show ge (some _) need ↔ _
      rw [ge_some]
      omega
    rw [s]
    by_cases c : need > n
    · rw [if_pos c]
      have ih := go_char hT (r := r) ha rs (need - n) (reqF f (last rs.reverse) need) okr (by omega)
      rw [ih, reqF_le, seen_ge]
      exact ⟨fun h => ⟨h.1.1, h.1.2, by omega, h.2⟩, fun h => ⟨⟨h.1, h.2.1⟩, h.2.2.2⟩⟩
    · rw [if_neg c]
      constructor
      · rintro ⟨st, g, e, _, h2⟩
        cases e
        have h3 := reqF_le.mp h2
        exact ⟨h3.1, h3.2, by omega⟩
      · rintro ⟨h1, h2, _⟩
        exact ⟨_, _, rfl, (fun n e => nomatch e), reqF_le.mpr ⟨h1, h2⟩⟩
/-- the goal is reached exactly if the start fulfils the box -/
theorem box_char {T : Int → Int} (hT : ∀ k, 0 ≤ T k) {r : Int} {a : Option Int} (ha : ge a 0) {cs : List Cmd} {goal : Int} (ok : AllOk cs) (hg : 1 ≤ goal) :
    ge (aimF T r a cs) goal ↔ ∃ st L, boxM cs goal = some (st, L) ∧ (∀ n, st = some n → ge a n) ∧ ∀ k, val L k ≤ T (r + k) := by
  have h := go_char hT (r := r) ha cs.reverse goal (fun _ => 0) (allOk_rev ok) hg
  rw [List.reverse_reverse] at h
  have h0 : (∀ k : Int, (fun _ : Int => (0 : Int)) k ≤ T (r + k)) := fun k => hT _
  have h' : (∃ st g, boxF cs goal = some (st, g) ∧ (∀ n, st = some n → ge a n) ∧ ∀ k, g k ≤ T (r + k)) ↔ ge (aimF T r a cs) goal := h.trans ⟨fun x => x.2, fun x => ⟨h0, x⟩⟩
  rw [← h']
  rcases box_spec ok hg with ⟨e1, e2⟩ | ⟨st, b, e1, gb, e2, _⟩
  · rw [e1, e2]
    constructor
    · rintro ⟨_, _, z, _⟩
      cases z
    · rintro ⟨_, _, z, _⟩
      cases z
  · rw [e1, e2]
    have vp := val_perm gb (List.mergeSort_perm b leK)
    constructor
    · rintro ⟨st', g, z, h1, h2⟩
      cases z
      exact ⟨_, _, rfl, h1, fun k => by rw [vp]; exact h2 k⟩
    · rintro ⟨st', L, z, h1, h2⟩
      cases z
      exact ⟨_, _, rfl, h1, fun k => by rw [← vp]; exact h2 k⟩
end Gc

/-! rows that are visited; the least text -/
namespace Gc
def Within (cs : List Cmd) (lo hi : Int) : Prop := ∀ i, lo ≤ last (cs.take i) ∧ last (cs.take i) ≤ hi
theorem Within.tail {c : Cmd} {cs : List Cmd} {lo hi : Int} (h : Within (c :: cs) lo hi) : Within cs (lo - c.dv) (hi - c.dv) := fun i => by
  have q := h (i + 1)
  have e : last ((c :: cs).take (i + 1)) = c.dv + last (cs.take i) := rfl
  rw [e] at q
  omega
theorem Within.init {cs : List Cmd} {c : Cmd} {lo hi : Int} (h : Within (cs ++ [c]) lo hi) : Within cs lo hi := fun i => by
  by_cases l : i ≤ cs.length
  · have q := h i
    rw [List.take_append_of_le_length l] at q
    exact q
  · have q := h cs.length
    rw [List.take_append_of_le_length (Nat.le_refl _)] at q
    rw [List.take_of_length_le (by omega)]
    rw [List.take_length] at q
    exact q
theorem Within.whole {cs : List Cmd} {lo hi : Int} (h : Within cs lo hi) : lo ≤ last cs ∧ last cs ≤ hi := by
  have q := h cs.length
  rw [List.take_length] at q
  exact q
theorem Within.zero {cs : List Cmd} {lo hi : Int} (h : Within cs lo hi) : lo ≤ 0 ∧ 0 ≤ hi := h 0
theorem keys_req' {b : Ps} {o v k : Int} (h : k ∈ keys (req b o v)) : k = o ∨ k ∈ keys b := by
  unfold req at h
  rw [keys_put] at h
  split at h
  · exact .inr h
  · rcases List.mem_append.mp h with q | q
    · exact .inr q
    · exact .inl (List.mem_singleton.mp q)
/-- the offsets of a box are rows that are visited -/
theorem go_within {lo hi : Int} : ∀ {rs : List Cmd} {need : Int} {b : Ps} {st : Option Int} {b' : Ps}, go rs (last rs.reverse) need b = some (st, b') → Within rs.reverse lo hi → (∀ k ∈ keys b, lo ≤ k ∧ k ≤ hi) → ∀ k ∈ keys b', lo ≤ k ∧ k ≤ hi
  | [], need, b, st, b', h, _, hb => by cases h; exact hb
  | .home :: rs, need, b, st, b', h, _, _ => by cases h
  | .stop :: rs, need, b, st, b', h, _, hb => by cases h; exact hb
  | .down n :: rs, need, b, st, b', h, w, hb => by
    rw [List.reverse_cons] at h w
    rw [last_snoc] at h
    have e : last rs.reverse + (Cmd.down n).dv - n = last rs.reverse := by
      show last rs.reverse + n - n = _
      omega
    simp only [go] at h
    rw [e] at h
    exact go_within h w.init hb
  | .up n :: rs, need, b, st, b', h, w, hb => by
    rw [List.reverse_cons] at h w
    rw [last_snoc] at h
    have e : last rs.reverse + (Cmd.up n).dv + n = last rs.reverse := by
      show last rs.reverse + -n + n = _
      omega
    simp only [go] at h
    rw [e] at h
    exact go_within h w.init hb
  | .left n :: rs, need, b, st, b', h, w, hb => by
    rw [List.reverse_cons] at h w
    rw [last_snoc, show last rs.reverse + (Cmd.left n).dv = last rs.reverse from Int.add_zero _] at h
    simp only [go] at h
    refine go_within h w.init fun k hk => ?_
    rcases keys_req' hk with q | q
    · rw [q]
      exact w.init.whole
    · exact hb k q
  | .right n :: rs, need, b, st, b', h, w, hb => by
    rw [List.reverse_cons] at h w
    rw [last_snoc, show last rs.reverse + (Cmd.right n).dv = last rs.reverse from Int.add_zero _] at h
    have hr : ∀ k ∈ keys (req b (last rs.reverse) need), lo ≤ k ∧ k ≤ hi := fun k hk => by
      rcases keys_req' hk with q | q
      · rw [q]
        exact w.init.whole
      · exact hb k q
    simp only [go] at h
    split at h
    · exact go_within h w.init hr
    · cases h
      exact hr
theorem box_within {lo hi : Int} {cs : List Cmd} {goal : Int} {st : Option Int} {L : Ps} (h : boxM cs goal = some (st, L)) (w : Within cs lo hi) : ∀ q ∈ L, lo ≤ q.1 ∧ q.1 ≤ hi := by
  unfold boxM at h
  cases e : go cs.reverse (last cs) goal [] with
  | none =>
    rw [e] at h
    cases h
  | some x =>
    rw [e] at h
    obtain ⟨st', b'⟩ := x
    have h' : (st', b'.mergeSort leK) = (st, L) := Option.some.inj h
    cases h'
    have k := go_within (rs := cs.reverse) (lo := lo) (hi := hi) (by rw [List.reverse_reverse]; exact e) (by rw [List.reverse_reverse]; exact w) (fun k hk => by cases hk)
    intro q hq
    exact k q.1 (List.mem_map.mpr ⟨q, (List.mergeSort_perm b' leK).mem_iff.mp hq, rfl⟩)
/-! ### a text from a box -/
def setAll (lo : Int) (T : List Int) (L : Ps) : List Int := L.foldl (fun T q => T.set (q.1 - lo).toNat q.2) T
theorem setAll_len (lo : Int) : ∀ (L : Ps) (T : List Int), (setAll lo T L).length = T.length
  | [], _ => rfl
  | q :: L, T => by
    show (setAll lo (T.set (q.1 - lo).toNat q.2) L).length = _
    rw [setAll_len lo L, List.length_set]
theorem setAll_get {lo : Int} : ∀ {L : Ps} {T : List Int} {k : Int}, (keys L).Nodup → (∀ q ∈ L, lo ≤ q.1 ∧ q.1 - lo < T.length) → lo ≤ k → k - lo < T.length →
    (setAll lo T L).getD (k - lo).toNat 0 = match look L k with | some v => v | none => T.getD (k - lo).toNat 0
  | [], T, k, _, _, _, _ => rfl
  | q :: L, T, k, nd, hq, h0, h1 => by
    have nd' : q.1 ∉ keys L ∧ (keys L).Nodup := List.nodup_cons.mp nd
    have q0 := hq q List.mem_cons_self
    show (setAll lo (T.set (q.1 - lo).toNat q.2) L).getD (k - lo).toNat 0 = _
    rw [setAll_get (L := L) nd'.2 (fun p hp => by rw [List.length_set]; exact hq p (List.mem_cons_of_mem _ hp)) h0 (by rw [List.length_set]; exact h1), look_cons]
    by_cases e : q.1 = k
    · subst e
      rw [if_pos rfl, look_none.mpr nd'.1]
      show (T.set (q.1 - lo).toNat q.2).getD (q.1 - lo).toNat 0 = q.2
      rw [List.getD_eq_getElem?_getD, List.getElem?_set_self (by omega)]
      rfl
    · rw [if_neg e]
      cases look L k with
      | some v => rfl
      | none =>
        show (T.set (q.1 - lo).toNat q.2).getD (k - lo).toNat 0 = T.getD (k - lo).toNat 0
        rw [List.getD_eq_getElem?_getD, List.getD_eq_getElem?_getD, List.getElem?_set_ne (by omega)]
/-! ### the run over a list of lengths -/
def lenAt (T : List Int) (r : Int) : Int := T.getD r.toNat 0
/-- the run over a text: the row must stand -/
def afterL (T : List Int) : Int → Option Int → List Cmd → Option (Int × Option Int)
  | r, a, [] => some (r, a)
  | r, a, c :: cs => if c.vert = true then (if 0 ≤ r + c.dv ∧ r + c.dv < T.length then afterL T (r + c.dv) a cs else none) else afterL T r (aim1 (lenAt T r) a c) cs
theorem Within.le {cs : List Cmd} {lo hi lo' hi' : Int} (h : Within cs lo hi) (h1 : lo' ≤ lo) (h2 : hi ≤ hi') : Within cs lo' hi' := fun i => by
  have := h i
  omega
theorem afterL_in {T : List Int} : ∀ {cs : List Cmd} {r : Int} {a : Option Int}, Within cs (-r) (T.length - 1 - r) → afterL T r a cs = some (r + last cs, aimF (lenAt T) r a cs)
  | [], r, a, _ => by
    show some (r, a) = some (r + 0, a)
    rw [Int.add_zero]
  | c :: cs, r, a, w => by
    have w1 := w 1
    have e1 : last ((c :: cs).take 1) = c.dv + 0 := rfl
    rw [e1] at w1
    have wt : Within cs (-(r + c.dv)) (T.length - 1 - (r + c.dv)) := w.tail.le (by omega) (by omega)
    have ih := afterL_in (a := aim1 (lenAt T r) a c) wt
    have el : last (c :: cs) = c.dv + last cs := rfl
    have ea : aimF (lenAt T) r a (c :: cs) = aimF (lenAt T) (r + c.dv) (aim1 (lenAt T r) a c) cs := rfl
    rw [ea, el, ← Int.add_assoc]
    by_cases v : c.vert = true
    · have ia : aim1 (lenAt T r) a c = a := by
        cases c with
        | down n => rfl
        | up n => rfl
        | right n => cases v
        | left n => cases v
        | home => cases v
        | stop => cases v
      rw [ia] at ih ⊢
      simp only [afterL]
      rw [if_pos v, if_pos ⟨by omega, by omega⟩, ih]
    · have d0 : c.dv = 0 := by
        cases c with
        | down n => exact absurd rfl v
        | up n => exact absurd rfl v
        | right n => rfl
        | left n => rfl
        | home => rfl
        | stop => rfl
      simp only [afterL]
      rw [if_neg v]
      rw [d0, Int.add_zero] at ih ⊢
      exact ih
theorem lenAt_nn {T : List Int} (h : ∀ x ∈ T, 0 ≤ x) (r : Int) : 0 ≤ lenAt T r := by
  unfold lenAt
  rw [List.getD_eq_getElem?_getD]
  cases e : T[r.toNat]? with
  | none => exact Int.le_refl 0
  | some x => exact h x (List.mem_of_getElem? e)
/-- over a text whose rows are all there: the goal is reached exactly if the box is fulfilled -/
theorem after_char {T : List Int} (hT : ∀ x ∈ T, 0 ≤ x) {r : Int} {a : Option Int} (ha : ge a 0) {cs : List Cmd} {goal : Int} (ok : AllOk cs) (hg : 1 ≤ goal) (w : Within cs (-r) (T.length - 1 - r)) :
    ∃ a', afterL T r a cs = some (r + last cs, a') ∧ ge a' 0 ∧ (ge a' goal ↔ ∃ st L, boxM cs goal = some (st, L) ∧ (∀ n, st = some n → ge a n) ∧ ∀ k, val L k ≤ lenAt T (r + k)) :=
  ⟨_, afterL_in w, aimF_nn (lenAt_nn hT) ok ha, box_char (lenAt_nn hT) ha ok hg⟩
/-! ### the least text -/
def textM (lo hi : Int) (L : Ps) : List Int := setAll lo (List.replicate (hi - lo + 1).toNat 0) L
theorem textM_len {lo hi : Int} (h : lo ≤ hi) (L : Ps) : ((textM lo hi L).length : Int) = hi - lo + 1 := by
  unfold textM
  rw [setAll_len, List.length_replicate]
  omega
theorem textM_at {lo hi : Int} {L : Ps} (g : Good L) (hL : ∀ q ∈ L, lo ≤ q.1 ∧ q.1 ≤ hi) {k : Int} (h0 : lo ≤ k) (h1 : k ≤ hi) : lenAt (textM lo hi L) (k - lo) = val L k := by
  unfold lenAt textM
  have hr : ((List.replicate (hi - lo + 1).toNat (0 : Int)).length : Int) = hi - lo + 1 := by
    rw [List.length_replicate]
    omega
  rw [setAll_get g.nd (fun q hq => by have := hL q hq; omega) h0 (by omega)]
  unfold val
  cases look L k with
  | some v => rfl
  | none =>
    show (List.replicate _ (0 : Int)).getD _ 0 = 0
    rw [List.getD_eq_getElem?_getD, List.getElem?_replicate]
    split <;> rfl
theorem val_off {lo hi : Int} {L : Ps} (hL : ∀ q ∈ L, lo ≤ q.1 ∧ q.1 ≤ hi) {k : Int} (h : ¬ (lo ≤ k ∧ k ≤ hi)) : val L k = 0 := by
  refine val_out fun z => ?_
  obtain ⟨q, hq, e⟩ := List.mem_map.mp z
  rw [← e] at h
  exact h (hL q hq)
theorem textM_nn {lo hi : Int} {L : Ps} (g : Good L) (hL : ∀ q ∈ L, lo ≤ q.1 ∧ q.1 ≤ hi) : ∀ x ∈ textM lo hi L, 0 ≤ x := by
  intro x hx
  obtain ⟨i, hi'⟩ := List.mem_iff_getElem?.mp hx
  have l := (List.getElem?_eq_some_iff.mp hi').1
  have l2 : (textM lo hi L).length = (hi - lo + 1).toNat := by
    unfold textM
    rw [setAll_len, List.length_replicate]
  have e := textM_at g hL (k := i + lo) (by omega) (by omega)
  unfold lenAt at e
  rw [show ((i : Int) + lo - lo).toNat = i by omega, List.getD_eq_getElem?_getD, hi'] at e
  have e' : x = val L (i + lo) := e
  rw [e']
  exact val_nonneg g _
section
variable {cs : List Cmd} {goal lo hi : Int} {st : Option Int} {L : Ps}
/-- from it, and just its goal, the goal is reached -/
theorem least_gets (g : Good L) (w : Within cs lo hi) (ok : AllOk cs) (hg : 1 ≤ goal) (e : boxM cs goal = some (st, L)) (pos : ∀ n, st = some n → 1 ≤ n) :
    ∃ a', afterL (textM lo hi L) (-lo) (some (st.getD 0)) cs = some (-lo + last cs, a') ∧ ge a' goal := by
  have hL := box_within e w
  have z := w.zero
  have tl := textM_len (lo := lo) (hi := hi) (by omega) L
  have a0 : ge (some (st.getD 0)) 0 := ge_some.mpr (by
    cases st with
    | none => exact Int.le_refl 0
    | some n =>
      have := pos n rfl
      show 0 ≤ n
      omega)
  obtain ⟨a', h1, _, h2⟩ := after_char (textM_nn g hL) a0 ok hg (w.le (show -(-lo) ≤ lo by omega) (show hi ≤ (textM lo hi L).length - 1 - (-lo) by omega))
  refine ⟨a', h1, h2.mpr ⟨st, L, e, fun n en => ge_some.mpr (by rw [en]; exact Int.le_refl n), fun k => ?_⟩⟩
  by_cases h : lo ≤ k ∧ k ≤ hi
  · rw [show -lo + k = k - lo by omega, textM_at g hL h.1 h.2]
    exact Int.le_refl _
  · rw [val_off hL h]
    exact lenAt_nn (textM_nn g hL) _
/-- with a goal less by one it is not -/
theorem least_goal (g : Good L) (w : Within cs lo hi) (ok : AllOk cs) (hg : 1 ≤ goal) (e : boxM cs goal = some (st, L)) {n : Int} (es : st = some n) (hn : 1 ≤ n) :
    ∃ a', afterL (textM lo hi L) (-lo) (some (n - 1)) cs = some (-lo + last cs, a') ∧ ¬ ge a' goal := by
  have hL := box_within e w
  have z := w.zero
  have tl := textM_len (lo := lo) (hi := hi) (by omega) L
  obtain ⟨a', h1, _, h2⟩ := after_char (textM_nn g hL) (ge_some.mpr (show 0 ≤ n - 1 by omega)) ok hg (w.le (show -(-lo) ≤ lo by omega) (show hi ≤ (textM lo hi L).length - 1 - (-lo) by omega))
  refine ⟨a', h1, fun x => ?_⟩
  obtain ⟨st', L', e', h3, _⟩ := h2.mp x
  rw [e] at e'
  cases e'
  have := ge_some.mp (h3 n es)
  omega
/-- with a length less by one it is not -/
theorem least_row (g : Good L) (w : Within cs lo hi) (ok : AllOk cs) (hg : 1 ≤ goal) (e : boxM cs goal = some (st, L)) (pos : ∀ n, st = some n → 1 ≤ n) {i : Nat} (li : i < (textM lo hi L).length) (h : 0 < lenAt (textM lo hi L) i) :
    ∃ a', afterL ((textM lo hi L).set i (lenAt (textM lo hi L) i - 1)) (-lo) (some (st.getD 0)) cs = some (-lo + last cs, a') ∧ ¬ ge a' goal := by
  have hL := box_within e w
  have z := w.zero
  have tl := textM_len (lo := lo) (hi := hi) (by omega) L
  have a0 : ge (some (st.getD 0)) 0 := ge_some.mpr (by
    cases st with
    | none => exact Int.le_refl 0
    | some n =>
      have := pos n rfl
      show 0 ≤ n
      omega)
  have nn : ∀ x ∈ (textM lo hi L).set i (lenAt (textM lo hi L) i - 1), 0 ≤ x := fun x hx => by
    rcases List.mem_or_eq_of_mem_set hx with q | q
    · exact textM_nn g hL x q
    · omega
  obtain ⟨a', h1, _, h2⟩ := after_char (r := -lo) nn a0 ok hg (w.le (show -(-lo) ≤ lo by omega) (by rw [List.length_set]; omega))
  refine ⟨a', h1, fun x => ?_⟩
  obtain ⟨st', L', e', _, h4⟩ := h2.mp x
  rw [e] at e'
  cases e'
  have q := h4 (i + lo)
  rw [show -lo + (i + lo) = (i : Int) by omega] at q
  have ev := textM_at g hL (k := i + lo) (by omega) (by omega)
  rw [show (i : Int) + lo - lo = i by omega] at ev
  rw [← ev] at q
  have es : lenAt ((textM lo hi L).set i (lenAt (textM lo hi L) i - 1)) i = lenAt (textM lo hi L) i - 1 := by
    conv => lhs; unfold lenAt
    rw [Int.toNat_natCast, List.getD_eq_getElem?_getD, List.getElem?_set_self li]
    rfl
  rw [es] at q
  omega
end
end Gc

/-! heaps, lengths of boxes, dicts out of pairs -/
namespace Gc
open PySem L2
theorem same_freeU {H H' : Hp} {d : Addr} {o : HO} (e : Same H H') (h : H d = none) : Same H (upd H' d o) := fun b u hb => by
  rw [upd_ne (ne_of_none hb h)]
  exact e b u hb
theorem go_len : ∀ {r : List Cmd} {off need : Int} {b : Ps} {st : Option Int} {b' : Ps}, go r off need b = some (st, b') → b'.length ≤ b.length + r.length
  | [], _, _, b, _, _, h => by cases h; exact Nat.le_refl _
  | .home :: r, _, _, b, _, _, h => by cases h
  | .stop :: r, _, _, b, _, _, h => by cases h; exact Nat.le_add_right _ _
  | .right n :: r, off, need, b, st, b', h => by
    have q := req_len b off need
    rw [List.length_cons]
    simp only [go] at h
    split at h
    · have := go_len h
      omega
    · cases h
      omega
  | .left n :: r, off, need, b, st, b', h => by
    have q := req_len b off (need + n)
    rw [List.length_cons]
    simp only [go] at h
    have := go_len h
    omega
  | .down n :: r, off, need, b, st, b', h => by
    rw [List.length_cons]
    simp only [go] at h
    have := go_len h
    omega
  | .up n :: r, off, need, b, st, b', h => by
    rw [List.length_cons]
    simp only [go] at h
    have := go_len h
    omega
theorem box_len {cs : List Cmd} {goal : Int} {st : Option Int} {L : Ps} (h : boxM cs goal = some (st, L)) : L.length ≤ cs.length := by
  unfold boxM at h
  cases e : go cs.reverse (last cs) goal [] with
  | none =>
    rw [e] at h
    cases h
  | some x =>
    rw [e] at h
    obtain ⟨st', b'⟩ := x
    have q := go_len e
    have h' : (st', b'.mergeSort leK) = (st, L) := Option.some.inj h
    cases h'
    rw [List.length_mergeSort]
    rw [List.length_reverse, List.length_nil] at q
    omega
theorem merge_dkI : ∀ (b acc : Ps), (keys acc ++ keys b).Nodup → mergeK (dkI acc) (dkI b) = dkI (acc ++ b)
  | [], acc, _ => by rw [List.append_nil]; rfl
  | q :: b, acc, h => by
    have nq : q.1 ∉ keys acc := fun z => by
      have := (List.nodup_append.mp h).2.2 q.1 z q.1 List.mem_cons_self
      exact this rfl
    show mergeK (putK (dkI acc) (Sum.inl q.1 : L2.Key) (.int q.2)) (dkI b) = _
    rw [putK_dkI]
    have e : put acc q.1 q.2 = acc ++ [q] := by
      unfold put
      rw [if_neg fun z => nq ((any_key acc q.1).mp z)]
    rw [e, merge_dkI b (acc ++ [q]) (by
      have e2 : keys (acc ++ [q]) ++ keys b = keys acc ++ keys (q :: b) := by
        unfold keys
        simp
      rw [e2]
      exact h), List.append_assoc]
    rfl
theorem paired_dkI {K : PySem.W.Frag} {H : Hp} : ∀ {ps : List Addr} {qs : Ps}, Paired (fun (p : Addr) (q : Int × Int) => H p = some (.tup [.int q.1, .int q.2])) ps qs → Paired (fun (p : Addr) (kv : L2.Key × V) => SqT K H p [kV kv.1, kv.2]) ps (dkI qs)
  | _, _, .nil => .nil
  | _, _, .cons h t => .cons (SqT.of h) (paired_dkI t)
theorem ref_at {ts : List Addr} {i : Nat} {x : V} (h : (ts.map V.ref)[i]? = some x) : ∃ t, ts[i]? = some t ∧ x = .ref t := by
  rw [List.getElem?_map] at h
  cases e : ts[i]? with
  | none =>
    rw [e] at h
    cases h
  | some t =>
    rw [e] at h
    exact ⟨t, rfl, (Option.some.inj h).symm⟩
theorem dki_len (b : Ps) : (dkI b).length = b.length := List.length_map ..
end Gc

/-! what repr wants of the data that the laws show -/
namespace Gc
open PySem PySem.Spec PyProof.Rows L2
def Sml (x : Int) : Prop := x.natAbs < 2 ^ 120
theorem sml_log {x : Int} (h : Sml x) : x.natAbs.log2 < 121 := Nat.lt_of_lt_of_le (PySem.Flt.log2_lt_of (k := 121) (by decide) (Nat.lt_trans h (by decide))) (Nat.le_refl _)
theorem sml_show {x : Int} (h : Sml x) : (PyData.int x).showable = true := by
  have := sml_log h
  simp only [PyData.showable, decide_eq_true_eq]
  omega
theorem sml_short {x : Int} (h : Sml x) : (PyData.int x).leavesShort 130 = true := by
  have e := int_text_length_le (k := 121) (by decide) (sml_log h)
  have e' : (PyData.shown (.int x)).length ≤ 130 := by
    have e2 : (PyData.shown (.int x)).length = (toString x).length := by
      show (Str.ofString (toString x)).length = _
      rw [PySem.ofString_length]
    omega
  simpa only [PyData.leavesShort, decide_eq_true_eq] using e'
theorem sml_weight {x : Int} (h : Sml x) : (PyData.int x).weight ≤ 122 := by
  have := sml_log h
  simp only [PyData.weight]
  split <;> omega
def Ok0 (d : PyData) : Prop := d.showable = true ∧ d.hasDict = false ∧ d.leavesShort 130 = true
def Ok0s (ds : List PyData) : Prop := PyData.showableAll ds = true ∧ PyData.hasDictAll ds = false ∧ PyData.leavesShortAll 130 ds = true
theorem ok0_int {x : Int} (h : Sml x) : Ok0 (.int x) := ⟨sml_show h, by simp only [PyData.hasDict], sml_short h⟩
theorem ok0_nil : Ok0s [] := ⟨by simp only [PyData.showableAll], by simp only [PyData.hasDictAll], by simp only [PyData.leavesShortAll]⟩
theorem ok0_cons {d : PyData} {ds : List PyData} (h : Ok0 d) (t : Ok0s ds) : Ok0s (d :: ds) := by
  obtain ⟨a1, a2, a3⟩ := h
  obtain ⟨b1, b2, b3⟩ := t
  refine ⟨?_, ?_, ?_⟩
  · simp only [PyData.showableAll, a1, b1, Bool.and_self]
  · simp only [PyData.hasDictAll, a2, b2, Bool.or_self]
  · simp only [PyData.leavesShortAll, a3, b3, Bool.and_self]
theorem ok0_list {ds : List PyData} (h : Ok0s ds) : Ok0 (.list ds) := by
  obtain ⟨b1, b2, b3⟩ := h
  refine ⟨?_, ?_, ?_⟩
  · simpa only [PyData.showable] using b1
  · simpa only [PyData.hasDict] using b2
  · simpa only [PyData.leavesShort] using b3
theorem ok0_tup {ds : List PyData} (h : Ok0s ds) : Ok0 (.tuple ds) := by
  obtain ⟨b1, b2, b3⟩ := h
  refine ⟨?_, ?_, ?_⟩
  · simpa only [PyData.showable] using b1
  · simpa only [PyData.hasDict] using b2
  · simpa only [PyData.leavesShort] using b3
theorem ok0_len {d : PyData} (h : Ok0 d) (w : d.weight ≤ 100000) : d.shown.length ≤ sizeLine := by
  have e := PyData.shown_le 130 (by decide) d h.2.2
  rw [sizeLine_eq]
  have : (130 + 2) * d.weight ≤ (130 + 2) * 100000 := Nat.mul_le_mul_left _ w
  omega
theorem ok0_ints : ∀ {T : List Int}, (∀ x ∈ T, Sml x) → Ok0s (T.map PyData.int)
  | [], _ => ok0_nil
  | x :: T, h => ok0_cons (ok0_int (h x List.mem_cons_self)) (ok0_ints fun y hy => h y (List.mem_cons_of_mem _ hy))
theorem weight_ints : ∀ {T : List Int}, (∀ x ∈ T, Sml x) → PyData.weightAll (T.map PyData.int) ≤ 123 * T.length
  | [], _ => by simp [PyData.weightAll]
  | x :: T, h => by
    have a := sml_weight (h x List.mem_cons_self)
    have b := weight_ints (T := T) fun y hy => h y (List.mem_cons_of_mem _ hy)
    simp only [List.map_cons, PyData.weightAll, List.length_cons]
    omega
theorem deep_ints : ∀ T : List Int, PyData.depthAll (T.map PyData.int) = 0
  | [] => by simp [PyData.depthAll]
  | x :: T => by simp [PyData.depthAll, PyData.depth, deep_ints T]
/-- a text and a cursor -/
def textD (T : List Int) (r a : Int) : PyData := .tuple [.list (T.map PyData.int), .tuple [.int r, .int a]]
theorem textD_ok {T : List Int} {r a : Int} (hT : ∀ x ∈ T, Sml x) (hr : Sml r) (ha : Sml a) (l : T.length ≤ 500) : (textD T r a).showable = true ∧ (textD T r a).hasDict = false ∧ (textD T r a).depth ≤ 60 ∧ (textD T r a).shown.length ≤ sizeLine := by
  have o : Ok0 (textD T r a) := ok0_tup (ok0_cons (ok0_list (ok0_ints hT)) (ok0_cons (ok0_tup (ok0_cons (ok0_int hr) (ok0_cons (ok0_int ha) ok0_nil))) ok0_nil))
  refine ⟨o.1, o.2.1, ?_, ok0_len o ?_⟩
  · simp only [textD, PyData.depth, PyData.depthAll, deep_ints]
    omega
  · have a1 := weight_ints hT
    have a2 := sml_weight hr
    have a3 := sml_weight ha
    simp only [PyData.weight] at a2 a3
    simp only [textD, PyData.weight, PyData.weightAll]
    omega
/-! ### commands as data -/
def cmdD : Cmd → PyData
  | .down n => .tuple [.str "down", .int n]
  | .up n => .tuple [.str "up", .int n]
  | .right n => .tuple [.str "right", .int n]
  | .left n => .tuple [.str "left", .int n]
  | .home => .tuple [.str "home"]
  | .stop => .tuple [.str "end"]
theorem CmdAt.dp {K : PySem.W.Frag} {H : Hp} {v : V} {c : Cmd} (h : CmdAt K H v c) : Dp K H v (cmdD c) := by
  obtain ⟨a, rfl, h⟩ := h
  cases c with
  | down n => exact .tup h (.cons (.str _) (.cons (.int n) .nil))
  | up n => exact .tup h (.cons (.str _) (.cons (.int n) .nil))
  | right n => exact .tup h (.cons (.str _) (.cons (.int n) .nil))
  | left n => exact .tup h (.cons (.str _) (.cons (.int n) .nil))
  | home => exact .tup h (.cons (.str _) .nil)
  | stop => exact .tup h (.cons (.str _) .nil)
theorem CmdsOf.dp {K : PySem.W.Frag} {H : Hp} : ∀ {xs : List V} {cs : List Cmd}, CmdsOf K H xs cs → DpAll K H xs (cs.map cmdD)
  | _, _, .nil => .nil
  | _, _, .cons h t => .cons h.dp (CmdsOf.dp t)
def CSml : Cmd → Prop
  | .down n => Sml n
  | .up n => Sml n
  | .right n => Sml n
  | .left n => Sml n
  | _ => True
theorem ok0_str {x : Str} (h : (PyData.str x).leavesShort 130 = true) : Ok0 (.str x) := ⟨by simp only [PyData.showable], by simp only [PyData.hasDict], h⟩
theorem cmdD_ok {c : Cmd} (h : CSml c) : Ok0 (cmdD c) ∧ (cmdD c).weight ≤ 200 ∧ (cmdD c).depth ≤ 5 := by
  cases c with
  | down n =>
    have w := sml_weight h
    refine ⟨ok0_tup (ok0_cons (ok0_str (by decide +kernel)) (ok0_cons (ok0_int h) ok0_nil)), ?_, by simp [cmdD, PyData.depth, PyData.depthAll]⟩
    have e : (PyData.str "down").weight = 4 := by decide +kernel
    simp only [cmdD, PyData.weight, PyData.weightAll] at w e ⊢
    omega
  | up n =>
    have w := sml_weight h
    refine ⟨ok0_tup (ok0_cons (ok0_str (by decide +kernel)) (ok0_cons (ok0_int h) ok0_nil)), ?_, by simp [cmdD, PyData.depth, PyData.depthAll]⟩
    have e : (PyData.str "up").weight = 2 := by decide +kernel
    simp only [cmdD, PyData.weight, PyData.weightAll] at w e ⊢
    omega
  | right n =>
    have w := sml_weight h
    refine ⟨ok0_tup (ok0_cons (ok0_str (by decide +kernel)) (ok0_cons (ok0_int h) ok0_nil)), ?_, by simp [cmdD, PyData.depth, PyData.depthAll]⟩
    have e : (PyData.str "right").weight = 5 := by decide +kernel
    simp only [cmdD, PyData.weight, PyData.weightAll] at w e ⊢
    omega
  | left n =>
    have w := sml_weight h
    refine ⟨ok0_tup (ok0_cons (ok0_str (by decide +kernel)) (ok0_cons (ok0_int h) ok0_nil)), ?_, by simp [cmdD, PyData.depth, PyData.depthAll]⟩
    have e : (PyData.str "left").weight = 4 := by decide +kernel
    simp only [cmdD, PyData.weight, PyData.weightAll] at w e ⊢
    omega
  | home => exact ⟨ok0_tup (ok0_cons (ok0_str (by decide +kernel)) ok0_nil), by decide +kernel, by simp [cmdD, PyData.depth, PyData.depthAll]⟩
  | stop => exact ⟨ok0_tup (ok0_cons (ok0_str (by decide +kernel)) ok0_nil), by decide +kernel, by simp [cmdD, PyData.depth, PyData.depthAll]⟩
theorem cmds_ok0 : ∀ {cs : List Cmd}, (∀ c ∈ cs, CSml c) → Ok0s (cs.map cmdD) ∧ PyData.weightAll (cs.map cmdD) ≤ 201 * cs.length ∧ PyData.depthAll (cs.map cmdD) ≤ 5
  | [], _ => ⟨ok0_nil, by simp [PyData.weightAll], by simp [PyData.depthAll]⟩
  | c :: cs, h => by
    obtain ⟨a1, a2, a3⟩ := cmdD_ok (h c List.mem_cons_self)
    obtain ⟨b1, b2, b3⟩ := cmds_ok0 (cs := cs) fun d hd => h d (List.mem_cons_of_mem _ hd)
    refine ⟨ok0_cons a1 b1, ?_, ?_⟩
    · simp only [List.map_cons, PyData.weightAll, List.length_cons]
      omega
    · simp only [List.map_cons, PyData.depthAll]
      omega
theorem cmds_ok {cs : List Cmd} (h : ∀ c ∈ cs, CSml c) (l : cs.length ≤ 300) : (PyData.list (cs.map cmdD)).showable = true ∧ (PyData.list (cs.map cmdD)).hasDict = false ∧ (PyData.list (cs.map cmdD)).depth ≤ 60 ∧ (PyData.list (cs.map cmdD)).shown.length ≤ sizeLine := by
  obtain ⟨a1, a2, a3⟩ := cmds_ok0 h
  have o := ok0_list a1
  refine ⟨o.1, o.2.1, ?_, ok0_len o ?_⟩
  · simp only [PyData.depth]
    omega
  · simp only [PyData.weight]
    omega
/-! ### boxes as data -/
def optD : Option Int → PyData
  | none => .none
  | some n => .int n
def pairD (q : Int × Int) : PyData := .tuple [.int q.1, .int q.2]
def boxD : Option (Option Int × Ps) → PyData
  | none => .none
  | some x => .tuple [optD x.1, .list (x.2.map pairD)]
def BSml : Option (Option Int × Ps) → Prop
  | none => True
  | some x => (∀ n, x.1 = some n → Sml n) ∧ ∀ q ∈ x.2, Sml q.1 ∧ Sml q.2
theorem ok0_none : Ok0 .none := ⟨by simp only [PyData.showable], by simp only [PyData.hasDict], by simp only [PyData.leavesShort]⟩
theorem pairs_ok0 : ∀ {L : Ps}, (∀ q ∈ L, Sml q.1 ∧ Sml q.2) → Ok0s (L.map pairD) ∧ PyData.weightAll (L.map pairD) ≤ 247 * L.length ∧ PyData.depthAll (L.map pairD) ≤ 5
  | [], _ => ⟨ok0_nil, by simp [PyData.weightAll], by simp [PyData.depthAll]⟩
  | q :: L, h => by
    obtain ⟨a, b⟩ := h q List.mem_cons_self
    obtain ⟨c1, c2, c3⟩ := pairs_ok0 (L := L) fun p hp => h p (List.mem_cons_of_mem _ hp)
    have wa := sml_weight a
    have wb := sml_weight b
    refine ⟨ok0_cons (ok0_tup (ok0_cons (ok0_int a) (ok0_cons (ok0_int b) ok0_nil))) c1, ?_, ?_⟩
    · simp only [PyData.weight] at wa wb
      simp only [List.map_cons, pairD, PyData.weight, PyData.weightAll, List.length_cons] at c2 ⊢
      omega
    · simp only [List.map_cons, pairD, PyData.depth, PyData.depthAll] at c3 ⊢
      omega
theorem boxD_ok0 {o : Option (Option Int × Ps)} {n : Nat} (h : BSml o) (l : ∀ x, o = some x → x.2.length ≤ n) : Ok0 (boxD o) ∧ (boxD o).weight ≤ 247 * n + 200 ∧ (boxD o).depth ≤ 10 := by
  cases o with
  | none => exact ⟨ok0_none, by simp [boxD, PyData.weight], by simp [boxD, PyData.depth]⟩
  | some x =>
    obtain ⟨st, L⟩ := x
    obtain ⟨h1, h2⟩ := h
    have h2' : ∀ q ∈ L, Sml q.1 ∧ Sml q.2 := h2
    obtain ⟨c1, c2, c3⟩ := pairs_ok0 h2'
    have ln : L.length ≤ n := l _ rfl
    have o1 : Ok0 (optD st) ∧ (optD st).weight ≤ 122 ∧ (optD st).depth = 0 := by
      cases st with
      | none => exact ⟨ok0_none, by simp [optD, PyData.weight], by simp [optD, PyData.depth]⟩
      | some n => exact ⟨ok0_int (h1 n rfl), sml_weight (h1 n rfl), by simp [optD, PyData.depth]⟩
    obtain ⟨d1, d2, d3⟩ := o1
    refine ⟨ok0_tup (ok0_cons d1 (ok0_cons (ok0_list c1) ok0_nil)), ?_, ?_⟩
    · have m : 247 * L.length ≤ 247 * n := Nat.mul_le_mul_left _ ln
      simp only [boxD, PyData.weight, PyData.weightAll]
      omega
    · simp only [boxD, PyData.depth, PyData.depthAll]
      omega
theorem boxes_ok0 {n : Nat} : ∀ {os : List (Option (Option Int × Ps))}, (∀ o ∈ os, BSml o ∧ ∀ x, o = some x → x.2.length ≤ n) → Ok0s (os.map boxD) ∧ PyData.weightAll (os.map boxD) ≤ (247 * n + 201) * os.length ∧ PyData.depthAll (os.map boxD) ≤ 10
  | [], _ => ⟨ok0_nil, by simp [PyData.weightAll], by simp [PyData.depthAll]⟩
  | o :: os, h => by
    obtain ⟨a, b⟩ := h o List.mem_cons_self
    obtain ⟨c1, c2, c3⟩ := boxD_ok0 a b
    obtain ⟨d1, d2, d3⟩ := boxes_ok0 (os := os) fun p hp => h p (List.mem_cons_of_mem _ hp)
    refine ⟨ok0_cons c1 d1, ?_, ?_⟩
    · rw [List.map_cons, List.length_cons, Nat.mul_succ]
      simp only [PyData.weightAll]
      omega
    · simp only [List.map_cons, PyData.depthAll]
      omega
/-- a list of at most ten boxes of at most thirty lines each -/
theorem boxes_ok {os : List (Option (Option Int × Ps))} (h : ∀ o ∈ os, BSml o ∧ ∀ x, o = some x → x.2.length ≤ 30) (l : os.length ≤ 10) :
    (PyData.list (os.map boxD)).showable = true ∧ (PyData.list (os.map boxD)).hasDict = false ∧ (PyData.list (os.map boxD)).depth ≤ 60 ∧ (PyData.list (os.map boxD)).shown.length ≤ sizeLine := by
  obtain ⟨a1, a2, a3⟩ := boxes_ok0 h
  have o := ok0_list a1
  refine ⟨o.1, o.2.1, ?_, ok0_len o ?_⟩
  · simp only [PyData.depth]
    omega
  · have m : (247 * 30 + 201) * os.length ≤ (247 * 30 + 201) * 10 := Nat.mul_le_mul_left _ l
    simp only [PyData.weight]
    omega
end Gc

/-! how many texts of n lines of at most so many letters fulfil bounds -/
namespace Gc
def texts (most : Nat) : Nat → List (List Int)
  | 0 => [[]]
  | n + 1 => (texts most n).flatMap fun T => (List.range (most + 1)).map fun (s : Nat) => T ++ [(s : Int)]
theorem texts_ok {most : Nat} : ∀ {n : Nat} {T : List Int}, T ∈ texts most n → T.length = n ∧ ∀ x ∈ T, 0 ≤ x ∧ x ≤ most
  | 0, T, h => by
    rw [List.mem_singleton.mp h]
    exact ⟨rfl, fun x hx => nomatch hx⟩
  | n + 1, T, h => by
    obtain ⟨U, hU, hT⟩ := List.mem_flatMap.mp h
    obtain ⟨s, hs, rfl⟩ := List.mem_map.mp hT
    obtain ⟨l, b⟩ := texts_ok hU
    have := List.mem_range.mp hs
    refine ⟨by rw [List.length_append, List.length_singleton, l], fun x hx => ?_⟩
    rcases List.mem_append.mp hx with q | q
    · exact b x q
    · rw [List.mem_singleton.mp q]
      omega
/-- factors: how many letters a line may have -/
def fac (M b : Int) : Int := max (M - b) 0
def prodF (M : Int) (f : Nat → Int) : Nat → Int
  | 0 => 1
  | n + 1 => prodF M f n * fac M (f n)
def meets (f : Nat → Int) (n : Nat) (T : List Int) : Bool := (List.range n).all fun i => decide (f i ≤ T.getD i 0)
theorem meets_iff {f : Nat → Int} {n : Nat} {T : List Int} : meets f n T = true ↔ ∀ i, i < n → f i ≤ T.getD i 0 := by
  unfold meets
  rw [List.all_eq_true]
  exact ⟨fun h i hi => of_decide_eq_true (h i (List.mem_range.mpr hi)), fun h i hi => decide_eq_true (h i (List.mem_range.mp hi))⟩
theorem meets_snoc {f : Nat → Int} {n : Nat} {T : List Int} {s : Int} (l : T.length = n) : meets f (n + 1) (T ++ [s]) = (meets f n T && decide (f n ≤ s)) := by
  rw [Bool.eq_iff_iff, Bool.and_eq_true, meets_iff, meets_iff, decide_eq_true_iff]
  have low : ∀ i, i < n → (T ++ [s]).getD i 0 = T.getD i 0 := fun i hi => by
    rw [List.getD_eq_getElem?_getD, List.getD_eq_getElem?_getD, List.getElem?_append_left (by omega)]
  have top : (T ++ [s]).getD n 0 = s := by
    rw [List.getD_eq_getElem?_getD, List.getElem?_append_right (by omega), l, Nat.sub_self]
    rfl
  constructor
  · intro h
    refine ⟨fun i hi => ?_, ?_⟩
    · rw [← low i hi]
      exact h i (by omega)
    · have := h n (by omega)
      rwa [top] at this
  · rintro ⟨h1, h2⟩ i hi
    by_cases e : i = n
    · subst e
      rw [top]
      exact h2
    · rw [low i (by omega)]
      exact h1 i (by omega)
theorem count_up {v : Int} (v0 : 0 ≤ v) : ∀ m : Nat, (((List.range m).countP fun (s : Nat) => decide (v ≤ (s : Int)) : Nat) : Int) = fac m v
  | 0 => by
    show (0 : Int) = max (0 - v) 0
    omega
  | m + 1 => by
    have ih := count_up v0 m
    rw [List.range_succ, List.countP_append, List.countP_singleton]
    unfold fac at *
    by_cases h : v ≤ (m : Int)
    · rw [if_pos (decide_eq_true h)]
      omega
    · rw [if_neg (fun z => h (of_decide_eq_true z))]
      omega
theorem count_lines {M : Int} {f : Nat → Int} {n : Nat} (c : Nat) (hc : (c : Int) = fac M (f n)) (q : List Int → Bool) (hq : ∀ T, q T = meets f n T) (g : List Int → Nat) (hg : ∀ T, g T = if meets f n T = true then c else 0) : ∀ l : List (List Int), (((l.map g).sum : Nat) : Int) = ((l.countP q : Nat) : Int) * fac M (f n)
  | [] => by
    show (0 : Int) = 0 * _
    rw [Int.zero_mul]
  | T :: l => by
    have ih := count_lines c hc q hq g hg l
    rw [List.map_cons, List.sum_cons, List.countP_cons, hg T, hq T]
    by_cases h : meets f n T = true
    · rw [if_pos h, if_pos h, Int.natCast_add, ih, hc, Int.natCast_add]
      show fac M (f n) + _ = (_ + 1) * _
      rw [Int.add_mul, Int.one_mul, Int.add_comm]
    · rw [if_neg h, if_neg h, Nat.zero_add, Nat.add_zero]
      exact ih
theorem count_texts {most : Nat} {f : Nat → Int} (f0 : ∀ i, 0 ≤ f i) : ∀ n : Nat, (((texts most n).countP (meets f n) : Nat) : Int) = prodF ((most : Int) + 1) f n
  | 0 => rfl
  | n + 1 => by
    have ih := count_texts (most := most) f0 n
    show ((List.countP _ ((texts most n).flatMap _) : Nat) : Int) = prodF _ f n * fac _ (f n)
    rw [List.countP_flatMap, ← ih]
    have hc := count_up (f0 n) (most + 1)
    have inner : ∀ T ∈ texts most n, List.countP (meets f (n + 1)) ((List.range (most + 1)).map fun (s : Nat) => T ++ [(s : Int)]) = if meets f n T = true then (List.range (most + 1)).countP (fun (s : Nat) => decide (f n ≤ (s : Int))) else 0 := fun T hT => by
      rw [List.countP_map]
      have l := (texts_ok hT).1
      by_cases h : meets f n T = true
      · rw [if_pos h]
        refine List.countP_congr fun s _ => ?_
        show meets f (n + 1) (T ++ [(s : Int)]) = true ↔ _
        rw [meets_snoc l, h, Bool.true_and]
      · rw [if_neg h, List.countP_eq_zero]
        intro s _
        show ¬ meets f (n + 1) (T ++ [(s : Int)]) = true
        rw [meets_snoc l, Bool.eq_false_iff.mpr h, Bool.false_and]
        exact Bool.false_ne_true
    have e : (texts most n).map (fun T => List.countP (meets f (n + 1)) ((List.range (most + 1)).map fun (s : Nat) => T ++ [(s : Int)])) = (texts most n).map (fun T => if meets f n T = true then (List.range (most + 1)).countP (fun (s : Nat) => decide (f n ≤ (s : Int))) else 0) := List.map_congr_left inner
    have fin := count_lines (M := (most : Int) + 1) (f := f) (n := n) ((List.range (most + 1)).countP (fun (s : Nat) => decide (f n ≤ (s : Int)))) (by rw [hc]; rfl) (meets f n) (fun _ => rfl) (fun T => if meets f n T = true then (List.range (most + 1)).countP (fun (s : Nat) => decide (f n ≤ (s : Int))) else 0) (fun _ => rfl) (texts most n)
    rw [← fin]
    exact congrArg (fun l : List Nat => ((l.sum : Nat) : Int)) e
theorem prodF_congr {M : Int} {f g : Nat → Int} : ∀ {n : Nat}, (∀ i, i < n → f i = g i) → prodF M f n = prodF M g n
  | 0, _ => rfl
  | n + 1, h => by
    show prodF M f n * fac M (f n) = prodF M g n * fac M (g n)
    rw [prodF_congr fun i hi => h i (by omega), h n (by omega)]
theorem prodF_put {M : Int} {f g : Nat → Int} {i0 : Nat} {v : Int} (hf : f i0 = 0) (hg : g i0 = v) (hs : ∀ i, i ≠ i0 → g i = f i) (M0 : 0 ≤ M) : ∀ {n : Nat}, i0 < n → prodF M g n * M = prodF M f n * fac M v
  | 0, h => by omega
  | n + 1, h => by
    show prodF M g n * fac M (g n) * M = prodF M f n * fac M (f n) * fac M v
    by_cases e : i0 = n
    · subst e
      have fm : fac M 0 = M := by
        unfold fac
        omega
      rw [hf, hg, fm, prodF_congr (f := g) (g := f) fun i hi => hs i (by omega), Int.mul_right_comm]
    · have ih := prodF_put hf hg hs M0 (n := n) (by omega)
      rw [hs n (by omega), Int.mul_right_comm, ih, Int.mul_right_comm]
/-- the product over the lines of a box -/
def prodL (M : Int) (L : Ps) : Int := L.foldl (fun c q => c * fac M q.2) 1
theorem prodL_from (M : Int) : ∀ (L : Ps) (c : Int), L.foldl (fun c q => c * fac M q.2) c = c * prodL M L
  | [], c => by
    show c = c * 1
    rw [Int.mul_one]
  | q :: L, c => by
    show L.foldl _ (c * fac M q.2) = c * L.foldl _ (1 * fac M q.2)
    rw [prodL_from M L, prodL_from M L (1 * fac M q.2), Int.one_mul, Int.mul_assoc]
theorem prodL_cons (M : Int) (q : Int × Int) (L : Ps) : prodL M (q :: L) = fac M q.2 * prodL M L := by
  show L.foldl _ (1 * fac M q.2) = _
  rw [prodL_from, Int.one_mul]
theorem asc_len {L : Ps} : ∀ {lo hi : Int}, Asc L → (∀ q ∈ L, lo ≤ q.1 ∧ q.1 ≤ hi) → lo ≤ hi + 1 → (L.length : Int) ≤ hi - lo + 1 := by
  induction L with
  | nil =>
    intro lo hi _ _ h
    show ((0 : Nat) : Int) ≤ _
    omega
  | cons q L ih =>
    intro lo hi ha hb _
    obtain ⟨a1, a2⟩ := List.pairwise_cons.mp ha
    have b1 := hb q List.mem_cons_self
    have := ih (lo := q.1 + 1) (hi := hi) a2 (fun p hp => ⟨by have := a1 p hp; omega, (hb p (List.mem_cons_of_mem _ hp)).2⟩) (by omega)
    rw [List.length_cons]
    omega
theorem prod_all {M row : Int} (M0 : 0 < M) {n : Nat} : ∀ {L : Ps}, Asc L → (∀ q ∈ L, 0 ≤ row + q.1 ∧ row + q.1 < n) → prodL M L * M ^ (n - L.length) = prodF M (fun i => val L ((i : Int) - row)) n
  | [], _, _ => by
    show 1 * M ^ (n - 0) = _
    rw [Int.one_mul, Nat.sub_zero]
    have zero : ∀ m : Nat, M ^ m = prodF M (fun _ => 0) m := fun m => by
      induction m with
      | zero => exact Int.pow_zero M
      | succ m ih =>
        show M ^ (m + 1) = prodF M (fun _ => 0) m * fac M 0
        rw [← ih, Int.pow_succ, show fac M 0 = M from by unfold fac; omega]
    exact zero n
  | q :: L, ha, hb => by
    obtain ⟨a1, a2⟩ := List.pairwise_cons.mp ha
    have b1 := hb q List.mem_cons_self
    have ih := prod_all M0 (row := row) (n := n) a2 fun p hp => hb p (List.mem_cons_of_mem _ hp)
    have ln := asc_len (lo := -row) (hi := n - 1 - row) ha (fun p hp => by have := hb p hp; omega) (by omega)
    rw [List.length_cons] at ln
    have no : look L q.1 = none := look_none.mpr fun z => by
      obtain ⟨r, hr, er⟩ := List.mem_map.mp z
      have := a1 r hr
      omega
    have put := prodF_put (M := M) (f := fun i => val L ((i : Int) - row)) (g := fun i => val (q :: L) ((i : Int) - row)) (i0 := (row + q.1).toNat) (v := q.2) (n := n)
      (by show val L (((row + q.1).toNat : Int) - row) = 0; rw [show (((row + q.1).toNat : Nat) : Int) - row = q.1 by omega]; unfold val; rw [no]; rfl)
      (by show val (q :: L) (((row + q.1).toNat : Int) - row) = q.2; rw [show (((row + q.1).toNat : Nat) : Int) - row = q.1 by omega]; unfold val; rw [look_cons, if_pos rfl]; rfl)
      (fun i hi => by show val (q :: L) ((i : Int) - row) = val L ((i : Int) - row); unfold val; rw [look_cons, if_neg (by omega)]) (by omega) (by omega)
    have pw : M ^ (n - L.length) = M ^ (n - (q :: L).length) * M := by
      rw [← Int.pow_succ, List.length_cons]
      congr 1
      omega
    refine Int.eq_of_mul_eq_mul_right (show M ≠ 0 by omega) ?_
    rw [put, prodL_cons, ← ih, pw]
    simp only [Int.mul_assoc, Int.mul_comm, Int.mul_left_comm]
end Gc

/-! x *= y of great numbers; xs[i] += y -/
namespace Gc
open PySem PySem.Spec PyProof.Rows L2
section
variable {X : Cx}
def ipC (C : Int → Int → Prop) (f : Int → Int → Int) : TIp := fun x y H Q => ∃ i j, x = .int i ∧ y = .int j ∧ C i j ∧ Q (.int (f i j)) H
theorem ip_mulW : PIp X .Mult (ipC CMulW fun i j => i * j) := by
  intro pins s σ H x y v u Q I rx ry h
  obtain ⟨i, j, rfl, rfl, hc, q⟩ := h
  obtain ⟨t, rfl⟩ := rx
  obtain ⟨t', rfl⟩ := ry
  exact PySem.P.imul_int (⟨.int (i * j), H, I.tok _, ⟨_, rfl⟩, q⟩) hc.ok
/-- an item of a list by its place from the front, within an augmented assignment -/
def rGetL : V → V → Hp → VK → Prop := fun o i H Q => ∃ (p : Addr) (xs : List V) (j : Nat) (v : V), o = .ref p ∧ i = .int j ∧ H p = some (.lst xs) ∧ xs.length ≤ 1000000 ∧ xs[j]? = some v ∧ Q v H
theorem get_list : PGet X rGetL := by
  intro pins s σ H o i ov iv Q I ro ri h
  obtain ⟨p, xs, j, z, rfl, rfl, hp, hl, hj, q⟩ := h
  cases ro
  obtain ⟨t, rfl⟩ := ri
  obtain ⟨its, r, pl, hz⟩ := I.list (.inl (.inl hp))
  obtain ⟨w, ew, rw'⟩ := r.get hj
  have lj := (List.getElem?_eq_some_iff.mp hj).1
  have l63 := line63
  refine wpAny_getItem_list (x := w) pl.isList (by omega) (by omega) (by simpa using ew) ⟨z, H, I, rw', q⟩
end
end Gc

/-! repr of ints of some thousand digits, where no other limit was set -/
namespace Gc
open PySem PySem.Spec PyProof.Rows L2
def NoMax (h : Heap) : Prop := ∃ mc, h.Ns cStatics mc ∧ mc "sys.int_max_str_digits" = none
theorem over_big {M : Model} {A : Around} {E : Value → Shared → Prop} {s : Shared} {a : Int} {Q : Option Nat → Shared → Prop} (n : NoMax s.heap) (h : a.natAbs.log2 < 12900) (q : Q none s) : wpAny M A (Builtin.overDigitLimit? a) Q E s := by
  unfold Builtin.overDigitLimit?
  by_cases c : a.natAbs.log2 < 1920
  · rw [if_pos c]
    exact wpAny_pure q
  · rw [if_neg c]
    obtain ⟨mc, hn, hm⟩ := n
    refine wpAny_bind (m := Builtin.intMaxStrDigits) ?_
    unfold Builtin.intMaxStrDigits
    refine wpAny_bind (wpAny_nsGet hn ?_)
    rw [hm]
    refine wpAny_pure ?_
    rw [if_neg (by omega), if_pos (by rw [Bool.or_eq_true]; exact .inr (decide_eq_true (by omega)))]
    exact wpAny_pure q
theorem big_fits {a : Int} (h : a.natAbs.log2 < 12900) : (Str.ofString (toString a)).length ≤ sizeLine := by
  have e := int_text_length_le (k := 12900) (by decide) h
  rw [PySem.ofString_length, sizeLine_eq]
  omega
theorem gives_big (a : Int) (t : Tok) (h : a.natAbs.log2 < 12900) : GivesAt (fun s => NoMax s.heap) (Builtin.«int.__repr__» ⟨[.int a t], []⟩) (.str (toString a)) := by
  intro prog w A R s n q
  unfold Builtin.«int.__repr__»
  refine wpAny_bind (m := Builtin.Int.intSlot0 "__repr__" _) (wpAny_pure ?_)
  refine wpAny_bind (over_big n h ?_)
  refine wpAny_bind (wpAny_mkStr ?_ (big_fits h))
  exact wpAny_pure q.2
section
variable {X : Cx}
theorem ns_none {K : PySem.W.Frag} {h : Heap} {a : Addr} {m : Str → Option Value} {n : Str} (X : K.In h) (G : h.Ns a m) (e : PySem.W.nsIn K a n = some none) : m n = none := by
  obtain ⟨o, es, ep, ho, hd, _, hf⟩ := G
  unfold PySem.W.nsIn at e
  split at e
  · rename_i c d es' n' sl q
    have z := X _ _ q
    rw [ho] at z
    cases z
    cases hd
    split at e
    · cases e
    · rename_i he
      rw [← hf]
      unfold nsFind findBy
      rw [← Array.find?_toList, he]
      rfl
  · cases e
/-- repr of a great int -/
theorem cr_reprBig (hst : PySem.W.nsIn X.K cStatics "sys.int_max_str_digits" = some none) : CallR X (.builtin "repr") (fun xs H Q => ∃ i, xs = [.int i] ∧ i.natAbs.log2 < 12900 ∧ Q (.str (toString i)) H) := by
  intro pins s σ H xs us Q I r h
  obtain ⟨i, rfl, hz, q⟩ := h
  obtain ⟨u, rfl, t, rfl⟩ := vals1 r
  have n : NoMax s.heap := by
    obtain ⟨mc, h1, _⟩ := I.nolimit
    exact ⟨mc, h1, ns_none I.kIn h1 hst⟩
  refine Calls.call_function_entry F.kind_repr F.plain_repr F.entry_repr (F.args_repr1 _) ?_
  unfold Builtin.«repr»
  refine wpAny_bind (m := oneArg "repr" _) (wpAny_pure ?_)
  have hv : [Value.int i t].any Value.onHeap = false := rfl
  simp only [cRoomFor, hv, Bool.false_eq_true, if_false, pure_bind]
  refine wpAny_bind (wpAny_specialOf (name := Str.ofString "__repr__") (typeIs_int s i t) F.slot_int_repr.lookup ?_)
  refine wpAny_bind (m := callSpecialIfBound? (.int i t) (Str.ofString "__repr__")) (wpAny_callSpecialIfBound?_slot (name := Str.ofString "__repr__") (typeIs_int s i t) F.slot_int_repr
    (call_givesAt F.slot_int_repr (typeIs_int s i t) F.entry_int_repr (F.args_int_repr_1 _) (gives_big i t hz) n ⟨big_fits hz, ?_⟩))
  refine wpAny_bind (wpAny_isInstance (T := "str") (b := true) rfl isSubtype_str_str ?_)
  exact wpAny_pure ⟨_, rfl, ⟨.str (toString i), H, I.tok _, ⟨_, rfl⟩, q⟩⟩
end
end Gc

/-! one scan from the last command back, with a dict of its own; it tells the same as the box -/
namespace Gc
def putMax (b : Ps) (k v : Int) : Ps := put b k (max ((look b k).getD 0) v)
theorem val_putMax (b : Ps) (k v j : Int) : val (putMax b k v) j = if k = j then max v (val b j) else val b j := by
  unfold putMax
  rw [val_put]
  by_cases h : k = j
  · subst h
    rw [if_pos rfl, if_pos rfl, Int.max_comm]
    rfl
  · rw [if_neg h, if_neg h]
def scan : List Cmd → Int → Int → Ps → Option (Int × Ps)
  | [], _, need, b => some (max 0 need, b)
  | c :: rs, off, need, b => if need < 1 then some (0, b) else match c with
    | .home => none
    | .stop => some (0, b)
    | .down n => scan rs (off - n) need b
    | .up n => scan rs (off + n) need b
    | .right n => scan rs off (need - n) (putMax b off need)
    | .left n => scan rs off (need + n) (putMax b off (need + n))
theorem scan_low {need : Int} (h : need < 1) : ∀ (rs : List Cmd) (off : Int) (b : Ps), scan rs off need b = some (0, b)
  | [], _, b => by
    unfold scan
    rw [show max 0 need = 0 by omega]
  | c :: rs, _, b => by
    unfold scan
    rw [if_pos h]
theorem scan_go {sh : Int} : ∀ (rs : List Cmd) (off need : Int) (b : Ps) (f : Int → Int), AllOk rs → 1 ≤ need → (∀ k, val b (k - sh) = f k) →
    (goF rs (off + sh) need f = none ∧ scan rs off need b = none) ∨ ∃ st g b', goF rs (off + sh) need f = some (st, g) ∧ scan rs off need b = some (st.getD 0, b') ∧ ∀ k, val b' (k - sh) = g k
  | [], off, need, b, f, _, hn, hf => .inr ⟨some need, f, b, rfl, by unfold scan; rw [show max 0 need = need by omega]; rfl, hf⟩
  | c :: rs, off, need, b, f, ok, hn, hf => by
    have ok' : AllOk rs := fun d hd => ok d (List.mem_cons_of_mem _ hd)
    have okc := ok c List.mem_cons_self
    have no : ¬ need < 1 := by omega
    have putf : ∀ v k, val (putMax b off v) (k - sh) = reqF f (off + sh) v k := fun v k => by
      rw [val_putMax, hf]
      unfold reqF
      by_cases e : off = k - sh
      · rw [if_pos e, if_pos (by omega)]
      · rw [if_neg e, if_neg (by omega)]
    cases c with
    | home => exact .inl ⟨rfl, by unfold scan; rw [if_neg no]⟩
    | stop => exact .inr ⟨none, f, b, rfl, by unfold scan; rw [if_neg no]; rfl, hf⟩
    | down n =>
      have ih := scan_go (sh := sh) rs (off - n) need b f ok' hn hf
      unfold scan goF
      rw [if_neg no, show off + sh - n = off - n + sh by omega]
      exact ih
    | up n =>
      have ih := scan_go (sh := sh) rs (off + n) need b f ok' hn hf
      unfold scan goF
      rw [if_neg no, show off + sh + n = off + n + sh by omega]
      exact ih
    | right n =>
      unfold scan goF
      rw [if_neg no]
      by_cases e : need > n
      · have ih := scan_go (sh := sh) rs off (need - n) (putMax b off need) (reqF f (off + sh) need) ok' (by omega) (putf need)
        rw [if_pos e]
        exact ih
      · rw [if_neg e]
        exact .inr ⟨none, _, putMax b off need, rfl, scan_low (by omega) _ _ _, putf need⟩
    | left n =>
      have o : 1 ≤ n := okc
      have ih := scan_go (sh := sh) rs off (need + n) (putMax b off (need + n)) (reqF f (off + sh) (need + n)) ok' (by omega) (putf (need + n))
      unfold scan goF
      rw [if_neg no]
      exact ih
def under : Option Int → Int → Bool
  | some y, n => decide (y < n)
  | none, _ => false
/-- the law's number of texts -/
def atLeast (n : Nat) (M : Int) (row : Int) (start : Option Int) (cs : List Cmd) (aim : Int) : Int :=
  if aim < 1 then M ^ n else match scan cs.reverse 0 aim [] with
    | none => 0
    | some x => if under start x.1 = true then 0 else prodF M (fun i => val x.2 ((i : Int) - (row + last cs))) n
theorem putMax_len (b : Ps) (k v : Int) : (putMax b k v).length ≤ b.length + 1 := by
  unfold putMax put
  split
  · rw [List.length_map]
    exact Nat.le_succ _
  · rw [List.length_append, List.length_singleton]
    exact Nat.le_refl _
/-- finals are None on all texts, or on none -/
theorem none_all {T U : Int → Int} : ∀ {cs : List Cmd} {r s : Int} {a b : Option Int}, (a = none ↔ b = none) → (aimF T r a cs = none ↔ aimF U s b cs = none)
  | [], _, _, _, _, h => h
  | c :: cs, r, s, a, b, h => by
    refine none_all (cs := cs) (r := r + c.dv) (s := s + c.dv) ?_
    cases c with
    | down n => exact h
    | up n => exact h
    | right n => exact ⟨fun z => (nomatch z), fun z => (nomatch z)⟩
    | left n => exact ⟨fun z => (nomatch z), fun z => (nomatch z)⟩
    | home => exact ⟨fun z => (nomatch z), fun z => (nomatch z)⟩
    | stop => exact ⟨fun _ => rfl, fun _ => rfl⟩
end Gc

namespace Gc
open PySem L2
def top (i : Nat) : Stmt := PySem.Challenge.pw_goalcolumn_k28_whole_numbers_of_large_te.main.body.getD i (.Pass ⟨0, 0, 0, 0⟩)
abbrev s_is_count : Stmt := top 11
abbrev s_is_command : Stmt := top 10
abbrev s_check_commands : Stmt := top 9
abbrev s_row_change : Stmt := top 15
structure TxtB (K : PySem.W.Frag) (mg : Str → Option Value) (wo wn : Addr) : Prop where
  g_WITHOUT_NUMBER : mg "WITHOUT_NUMBER" = some (.ref wo)
  g_WITH_NUMBER : mg "WITH_NUMBER" = some (.ref wn)
  tWO : ∀ H, SqT K H wo [.str "home", .str "end"]
  tWN : ∀ H, SqT K H wn [.str "down", .str "up", .str "right", .str "left"]
  isinstance : mg "isinstance" = none
  int : mg "int" = none
  bool : mg "bool" = none
  len : mg "len" = none
  enumerate : mg "enumerate" = none
  reversed : mg "reversed" = none
  sorted : mg "sorted" = none
  max : mg "max" = none
  min : mg "min" = none
def spCount : Sp := fun vs H Q _ => ∃ n : Int, vs = [.int n] ∧ 1 ≤ n ∧ Q (.bl true) H
def spIsCmd (K : PySem.W.Frag) : Sp := fun vs H Q _ => ∃ (v : V) (c : Cmd), vs = [v] ∧ CmdAt K H v c ∧ c.ok ∧ ∀ H', Same H H' → Q (.bl true) H'
def spCheck (K : PySem.W.Frag) : Sp := fun vs H Q _ => ∃ (l : Addr) (xs : List V) (cs : List Cmd), vs = [.ref l] ∧ SqL K H l xs ∧ CmdsOf K H xs cs ∧ AllOk cs ∧ cs.length ≤ 10000 ∧ ∀ H', Same H H' → Q .non H'
def spRow (K : PySem.W.Frag) : Sp := fun vs H Q _ => ∃ (v : V) (c : Cmd), vs = [v] ∧ CmdAt K H v c ∧ Q (.int c.dv) H
theorem q_in {H : Hp} {Q : VK} {x : V} {xs : List V} (h : inV x xs = true) (k : Q (.bl true) H) : Q (.bl (if (false : Bool) = true then !inV x xs else inV x xs)) H := by
  rw [if_neg Bool.false_ne_true, h]
  exact k
theorem take_snoc {α : Type} : ∀ {l : List α} {i : Nat} {x : α}, l[i]? = some x → l.take (i + 1) = l.take i ++ [x]
  | [], i, x, h => by simp at h
  | a :: l, 0, x, h => by
    obtain rfl := Option.some.inj h
    rfl
  | a :: l, i + 1, x, h => by
    have ih := take_snoc (l := l) (i := i) (x := x) h
    show a :: l.take (i + 1) = a :: l.take i ++ [x]
    rw [ih]
    rfl
def optV : Option Int → V
  | none => .non
  | some n => .int n
theorem m_no {y z : Str} {tb : TS} {r : TM} {D : Ends} {σ : L2.St} {H : Hp} (h : decide (y = z) = false) (q : r (.str y) D σ H) : mStr z tb r (.str y) D σ H := ⟨y, rfl, by rw [h]; exact iteF q⟩
theorem m_yes {y z : Str} {tb : TS} {r : TM} {D : Ends} {σ : L2.St} {H : Hp} (h : decide (y = z) = true) (q : tb D σ H) : mStr z tb r (.str y) D σ H := ⟨y, rfl, by rw [h]; exact iteT q⟩
section
variable {P : Program} {w : World} {K : PySem.W.Frag} {mg : Str → Option Value} {base : Heap} {wo wn : Addr}
theorem sc_is_count : FnScope ["number"] ["number"] (defScope s_is_count) := ⟨rfl, rfl, rfl, by decide +kernel, rfl, by decide +kernel, by decide +kernel⟩
theorem ok_is_count {f : Addr} {fd : FuncData} (F : Fun K "is_count" "is_count" s_is_count f fd) (T : TxtB K mg wo wn) : FnOk P w K mg base CX0 1 f fd ["number"] spCount := by
  refine F.ok sc_is_count (fun vs H Q E h => ?_) (fun cdv A outer s H vs Q E hr h => ?_)
  · obtain ⟨n, rfl, _⟩ := h
    rfl
  · obtain ⟨n, rfl, hn, k⟩ := h
    refine ⟨_, (pss_one (ps_ret (pe_and (pe_callB call_isi (by rfl) T.isinstance (by decide +kernel) (pa_cons (pv 0) (pa_cons (pe_bltn (v := .ty "int") (u := .type "int") (by rfl) T.int (by decide +kernel) rfl) pa_nil))) (pe_and (pe_not (pe_callB call_isi (by rfl) T.isinstance (by decide +kernel) (pa_cons (pv 0) (pa_cons (pe_bltn (v := .ty "bool") (u := .type "bool") (by rfl) T.bool (by decide +kernel) rfl) pa_nil)))) (pe_one (pe_cmpR op_ge (pv 0) pe_int (nomark _))))))), ?_⟩
    refine ⟨_, rfl, _, _, _, _, _, rfl, .ty "int", .base (.int n), kit_ty (show kitB "int" "int" = some true by decide +kernel), _, rfl, iteT ?_⟩
    refine ⟨_, rfl, _, _, _, _, _, rfl, .ty "bool", .base (.int n), kit_ty (show kitB "int" "bool" = some false by decide +kernel), _, rfl, _, rfl, iteT ?_⟩
    refine ⟨_, rfl, _, _, rfl, rfl, ?_⟩
    show Q (.bl (decide (1 ≤ n))) H
    rw [decide_eq_true hn]
    exact k
theorem sc_is_command : FnScope ["command"] ["command"] (defScope s_is_command) := ⟨rfl, rfl, rfl, by decide +kernel, rfl, by decide +kernel, by decide +kernel⟩
theorem ok_is_command {f : Addr} {fd : FuncData} (F : Fun K "is_command" "is_command" s_is_command f fd) (T : TxtB K mg wo wn) (c_is_count : Cal P w K mg base 1 "is_count" spCount) : FnOk P w K mg base CX0 2 f fd ["command"] (spIsCmd K) := by
  refine F.ok sc_is_command (fun vs H Q E h => ?_) (fun cdv A outer s H vs Q E hr h => ?_)
  · obtain ⟨v, c, rfl, _⟩ := h
    rfl
  · obtain ⟨v, c, rfl, ⟨a, rfl, ha⟩, hc, k⟩ := h
    refine ⟨_, (pss_cons (ps_if (pt_cmpR op_eq (pe_callB call_len_seq (by rfl) T.len (by decide +kernel) (pa_cons (pv 0) pa_nil)) pe_int (nomark _)) (pss_one (ps_ret (pe_cmpR op_in_seq (pe_ix ix_tup (pv 0) pe_int (fun _ _ => rfl)) (pe_glob (v := .ref wo) (by rfl) T.g_WITHOUT_NUMBER rfl) (by rfl)))) pss_nil)
      (pss_one (ps_ret (pe_and (pe_cmpR op_eq (pe_callB call_len_seq (by rfl) T.len (by decide +kernel) (pa_cons (pv 0) pa_nil)) pe_int (nomark _)) (pe_and (pe_cmpR op_in_seq (pe_ix ix_tup (pv 0) pe_int (fun _ _ => rfl)) (pe_glob (v := .ref wn) (by rfl) T.g_WITH_NUMBER rfl) (by rfl)) (pe_one (pe_cal c_is_count hr (by decide) (by rfl) (pa_cons (pe_ix ix_tup (pv 0) pe_int (fun _ _ => rfl)) pa_nil)))))))), ?_⟩
    have k0 := k H (Same.refl H)
    cases c with
    | down n =>
      refine ⟨_, rfl, a, _, rfl, .inr ha, rfl, _, rfl, iteF ?_⟩
      refine ⟨_, rfl, a, _, rfl, .inr ha, rfl, _, rfl, iteT ?_⟩
      refine ⟨_, rfl, a, _, 0, _, rfl, rfl, ha, rfl, wn, _, rfl, .inr (T.tWN _), rfl, rfl, true, by decide +kernel, iteT ?_⟩
      exact ⟨_, rfl, a, _, 1, _, rfl, rfl, ha, rfl, n, rfl, hc, k0⟩
    | up n =>
      refine ⟨_, rfl, a, _, rfl, .inr ha, rfl, _, rfl, iteF ?_⟩
      refine ⟨_, rfl, a, _, rfl, .inr ha, rfl, _, rfl, iteT ?_⟩
      refine ⟨_, rfl, a, _, 0, _, rfl, rfl, ha, rfl, wn, _, rfl, .inr (T.tWN _), rfl, rfl, true, by decide +kernel, iteT ?_⟩
      exact ⟨_, rfl, a, _, 1, _, rfl, rfl, ha, rfl, n, rfl, hc, k0⟩
    | right n =>
      refine ⟨_, rfl, a, _, rfl, .inr ha, rfl, _, rfl, iteF ?_⟩
      refine ⟨_, rfl, a, _, rfl, .inr ha, rfl, _, rfl, iteT ?_⟩
      refine ⟨_, rfl, a, _, 0, _, rfl, rfl, ha, rfl, wn, _, rfl, .inr (T.tWN _), rfl, rfl, true, by decide +kernel, iteT ?_⟩
      exact ⟨_, rfl, a, _, 1, _, rfl, rfl, ha, rfl, n, rfl, hc, k0⟩
    | left n =>
      refine ⟨_, rfl, a, _, rfl, .inr ha, rfl, _, rfl, iteF ?_⟩
      refine ⟨_, rfl, a, _, rfl, .inr ha, rfl, _, rfl, iteT ?_⟩
      refine ⟨_, rfl, a, _, 0, _, rfl, rfl, ha, rfl, wn, _, rfl, .inr (T.tWN _), rfl, rfl, true, by decide +kernel, iteT ?_⟩
      exact ⟨_, rfl, a, _, 1, _, rfl, rfl, ha, rfl, n, rfl, hc, k0⟩
    | home =>
      refine ⟨_, rfl, a, _, rfl, .inr ha, rfl, _, rfl, iteT ?_⟩
      refine ⟨_, rfl, a, _, 0, _, rfl, rfl, ha, rfl, wo, _, rfl, .inr (T.tWO _), rfl, rfl, ?_⟩
      exact q_in (by decide +kernel) k0
    | stop =>
      refine ⟨_, rfl, a, _, rfl, .inr ha, rfl, _, rfl, iteT ?_⟩
      refine ⟨_, rfl, a, _, 0, _, rfl, rfl, ha, rfl, wo, _, rfl, .inr (T.tWO _), rfl, rfl, ?_⟩
      exact q_in (by decide +kernel) k0
theorem sc_row_change : FnScope ["command"] ["command"] (defScope s_row_change) := ⟨rfl, rfl, rfl, by decide +kernel, rfl, by decide +kernel, by decide +kernel⟩
theorem ok_row_change {f : Addr} {fd : FuncData} (F : Fun K "row_change" "row_change" s_row_change f fd) : FnOk P w K mg base CX0 1 f fd ["command"] (spRow K) := by
  refine F.ok sc_row_change (fun vs H Q E h => ?_) (fun cdv A outer s H vs Q E hr h => ?_)
  · obtain ⟨v, c, rfl, _⟩ := h
    rfl
  · obtain ⟨v, c, rfl, ⟨a, rfl, ha⟩, k⟩ := h
    refine ⟨_, (pss_cons (ps_if (pt_cmpR op_eq (pe_ix ix_tup (pv 0) pe_int (fun _ _ => rfl)) pe_str (nomark _)) (pss_one (ps_ret (pe_ix ix_tup (pv 0) pe_int (fun _ _ => rfl)))) pss_nil)
      (pss_cons (ps_if (pt_cmpR op_eq (pe_ix ix_tup (pv 0) pe_int (fun _ _ => rfl)) pe_str (nomark _)) (pss_one (ps_ret (pe_un un_neg (pe_ix ix_tup (pv 0) pe_int (fun _ _ => rfl))))) pss_nil)
      (pss_one (ps_ret pe_int)))), ?_⟩
    cases c with
    | down n =>
      refine ⟨_, rfl, a, _, 0, _, rfl, rfl, ha, rfl, rfl, true, by decide +kernel, iteT ?_⟩
      exact ⟨_, rfl, a, _, 1, _, rfl, rfl, ha, rfl, k⟩
    | up n =>
      refine ⟨_, rfl, a, _, 0, _, rfl, rfl, ha, rfl, rfl, false, by decide +kernel, iteF ?_⟩
      refine ⟨_, rfl, a, _, 0, _, rfl, rfl, ha, rfl, rfl, true, by decide +kernel, iteT ?_⟩
      exact ⟨_, rfl, a, _, 1, _, rfl, rfl, ha, rfl, n, rfl, k⟩
    | right n =>
      refine ⟨_, rfl, a, _, 0, _, rfl, rfl, ha, rfl, rfl, false, by decide +kernel, iteF ?_⟩
      refine ⟨_, rfl, a, _, 0, _, rfl, rfl, ha, rfl, rfl, false, by decide +kernel, iteF ?_⟩
      exact k
    | left n =>
      refine ⟨_, rfl, a, _, 0, _, rfl, rfl, ha, rfl, rfl, false, by decide +kernel, iteF ?_⟩
      refine ⟨_, rfl, a, _, 0, _, rfl, rfl, ha, rfl, rfl, false, by decide +kernel, iteF ?_⟩
      exact k
    | home =>
      refine ⟨_, rfl, a, _, 0, _, rfl, rfl, ha, rfl, rfl, false, by decide +kernel, iteF ?_⟩
      refine ⟨_, rfl, a, _, 0, _, rfl, rfl, ha, rfl, rfl, false, by decide +kernel, iteF ?_⟩
      exact k
    | stop =>
      refine ⟨_, rfl, a, _, 0, _, rfl, rfl, ha, rfl, rfl, false, by decide +kernel, iteF ?_⟩
      refine ⟨_, rfl, a, _, 0, _, rfl, rfl, ha, rfl, rfl, false, by decide +kernel, iteF ?_⟩
      exact k
theorem sc_check_commands : FnScope ["commands", "index", "command"] ["commands"] (defScope s_check_commands) := ⟨rfl, rfl, rfl, by decide +kernel, rfl, by decide +kernel, by decide +kernel⟩
theorem ok_check_commands {f : Addr} {fd : FuncData} (F : Fun K "check_commands" "check_commands" s_check_commands f fd) (T : TxtB K mg wo wn) (c_is_command : Cal P w K mg base 2 "is_command" (spIsCmd K)) : FnOk P w K mg base CX0 3 f fd ["commands"] (spCheck K) := by
  refine F.ok sc_check_commands (fun vs H Q E h => ?_) (fun cdv A outer s H vs Q E hr h => ?_)
  · obtain ⟨l, xs, cs, rfl, _⟩ := h
    rfl
  · obtain ⟨l, xs, cs, rfl, hl, hcs, hk, hn, k⟩ := h
    refine ⟨_, (pss_one (ps_for PassesOwn.never rfl (pi_enum (by rfl) T.enumerate (pa_cons (pv 0) pa_nil)) (pg_tup rfl (pgs_cons (pg_name (i := 1) sc_check_commands.nd rfl (Or.inl rfl)) (pgs_cons (pg_name (i := 2) sc_check_commands.nd rfl (Or.inl rfl)) pgs_nil))) (pss_one (ps_if (pt_not (pt_val (pe_cal c_is_command hr (by decide) (by rfl) (pa_cons (pv 2) pa_nil)))) (pss_one ps_never) pss_nil)))), ?_⟩
    refine ⟨_, rfl, l, xs, rfl, hl, for_it (walk_enum (K := K) (a := l) (xs := xs)) (fun i σ H' => ∃ v1 v2 : Option V, σ = [some (.ref l), v1, v2] ∧ Same H H')
      ⟨none, none, rfl, Same.refl H⟩ (fun i σ H' _ ⟨_, _, _, e⟩ => e.seq hl) (fun i x σ H1 H2 hi h y => ?_) (fun σ H1 h => ?_)⟩
    · obtain ⟨v1, v2, rfl, e⟩ := h
      obtain ⟨T1, x1, y1, rfl, nT, rfl, e1, e2⟩ := y
      obtain ⟨c, hc, hca⟩ := paired_at hcs e2
      have eT : Same H (upd H1 T1 (.tup [x1, y1])) := same_upd e nT
      refine ⟨T1, _, rfl, SqT.of upd_same, rfl, _, _, rfl, _, _, rfl, rfl, ?_⟩
      refine ⟨_, rfl, y1, c, rfl, hca.same eT, hk c (List.mem_of_getElem? hc), fun H3 e3 => ⟨_, rfl, iteF ?_⟩⟩
      exact ⟨_, _, rfl, eT.trans e3⟩
    · obtain ⟨v1, v2, rfl, e⟩ := h
      exact k _ e
end
end Gc

namespace Gc
open PySem L2
abbrev s_reach : Stmt := top 14
abbrev s_check_number : Stmt := top 12
abbrev s_require : Stmt := top 18
abbrev s_box : Stmt := top 17
def rstep (s : Int × Int × Int) (c : Cmd) : Int × Int × Int :=
  (if s.2.2 + c.dv < s.1 then s.2.2 + c.dv else s.1, if s.2.2 + c.dv > s.2.1 then s.2.2 + c.dv else s.2.1, s.2.2 + c.dv)
def rchM (cs : List Cmd) : Int × Int × Int := cs.foldl rstep (0, 0, 0)
theorem rch_more {cs : List Cmd} {i : Nat} {c : Cmd} (h : cs[i]? = some c) : rchM (cs.take (i + 1)) = rstep (rchM (cs.take i)) c := by
  unfold rchM
  rw [take_snoc h, List.foldl_append]
  rfl
theorem rch_last : ∀ (cs : List Cmd) (s : Int × Int × Int), (cs.foldl rstep s).2.2 = s.2.2 + last cs
  | [], s => by show s.2.2 = s.2.2 + 0; omega
  | c :: cs, s => by
    show (cs.foldl rstep (rstep s c)).2.2 = s.2.2 + (c.dv + last cs)
    rw [rch_last cs]
    show s.2.2 + c.dv + last cs = _
    omega
def spReach (K : PySem.W.Frag) : Sp := fun vs H Q _ => ∃ (l : Addr) (xs : List V) (cs : List Cmd), vs = [.ref l] ∧ SqL K H l xs ∧ CmdsOf K H xs cs ∧ AllOk cs ∧ cs.length ≤ 10000 ∧
  ∀ (H' : Hp) (p : Addr), Same H H' → H p = none → H' p = some (.tup [.int (rchM cs).1, .int (rchM cs).2.1, .int (last cs)]) → Q (.ref p) H'
def spNum : Sp := fun vs H Q _ => ∃ n k : Int, vs = [.int n, .int k] ∧ k ≤ n ∧ Q .non H
def spReq : Sp := fun vs H Q _ => ∃ (d : Addr) (b : Ps) (o v : Int), vs = [.ref d, .int o, .int v] ∧ H d = some (.dK (dkI b)) ∧ b.length ≤ 10000 ∧ Q .non (upd H d (.dK (dkI (req b o v))))
/-- the tuple of a box, its list and its pairs, all new -/
def BoxAt (H H' : Hp) (p : Addr) (st : Option Int) (L : Ps) : Prop := ∃ (m : Addr) (ts : List Addr), H p = none ∧ H m = none ∧ H' p = some (.tup [optV st, .ref m]) ∧ H' m = some (.lst (ts.map V.ref)) ∧
  Paired (fun (t : Addr) (q : Int × Int) => H' t = some (.tup [.int q.1, .int q.2])) ts L
def spBox (K : PySem.W.Frag) : Sp := fun vs H Q _ => ∃ (l : Addr) (xs : List V) (cs : List Cmd) (goal : Int), vs = [.ref l, .int goal] ∧ SqL K H l xs ∧ CmdsOf K H xs cs ∧ AllOk cs ∧ cs.length ≤ 10000 ∧ 1 ≤ goal ∧
  (boxM cs goal = none → ∀ H', Same H H' → Q .non H') ∧ ∀ st L, boxM cs goal = some (st, L) → ∀ H' p, Same H H' → BoxAt H H' p st L → Q (.ref p) H'
section
variable {P : Program} {w : World} {K : PySem.W.Frag} {mg : Str → Option Value} {base : Heap} {wo wn : Addr}
theorem sc_reach : FnScope ["commands", "least", "greatest", "last", "command"] ["commands"] (defScope s_reach) := ⟨rfl, rfl, rfl, by decide +kernel, rfl, by decide +kernel, by decide +kernel⟩
theorem ok_reach {f : Addr} {fd : FuncData} (F : Fun K "reach" "reach" s_reach f fd) (T : TxtB K mg wo wn) (c_check_commands : Cal P w K mg base 3 "check_commands" (spCheck K)) (c_row_change : Cal P w K mg base 1 "row_change" (spRow K)) :
    FnOk P w K mg base CX0 4 f fd ["commands"] (spReach K) := by
  refine F.ok sc_reach (fun vs H Q E h => ?_) (fun cdv A outer s H vs Q E hr h => ?_)
  · obtain ⟨l, xs, cs, rfl, _⟩ := h
    rfl
  · obtain ⟨l, xs, cs, rfl, hl, hcs, hk, hn, k⟩ := h
    refine ⟨_, (pss_cons (ps_expr (pe_cal c_check_commands hr (by decide) (by rfl) (pa_cons (pv 0) pa_nil)))
      (pss_cons (ps_asg3 pe_int (pg_name (i := 1) sc_reach.nd rfl (Or.inl rfl)) (pg_name (i := 2) sc_reach.nd rfl (Or.inl rfl)) (pg_name (i := 3) sc_reach.nd rfl (Or.inl rfl)))
      (pss_cons (ps_for PassesOwn.never rfl (pi_list (pv 0)) (pg_name (i := 4) sc_reach.nd rfl (Or.inl rfl)) (pss_cons (ps_aug (i := 3) sc_reach.nd rfl (Or.inl rfl) (pe_cal c_row_change hr (by decide) (by rfl) (pa_cons (pv 4) pa_nil)) ip_add)
      (pss_cons (ps_set (i := 1) sc_reach.nd rfl (Or.inl rfl) (pe_callB (call_min2 rfl) (by rfl) T.min (by decide +kernel) (pa_cons (pv 1) (pa_cons (pv 3) pa_nil))))
      (pss_one (ps_set (i := 2) sc_reach.nd rfl (Or.inl rfl) (pe_callB (call_max2 rfl) (by rfl) T.max (by decide +kernel) (pa_cons (pv 2) (pa_cons (pv 3) pa_nil))))))))
      (pss_one (ps_ret (pe_tup (pa_cons (pv 1) (pa_cons (pv 2) (pa_cons (pv 3) pa_nil))))))))), ?_⟩
    refine ⟨_, rfl, l, xs, cs, rfl, hl, hcs, hk, hn, fun H1 e1 => ?_⟩
    refine ⟨_, rfl, l, rfl, ⟨_, e1.seq hl⟩, for_list (K := K) (a := l) (xs := xs) (fun i σ H' => ∃ v : Option V, σ = [some (.ref l), some (.int (rchM (cs.take i)).1), some (.int (rchM (cs.take i)).2.1), some (.int (rchM (cs.take i)).2.2), v] ∧ Same H H')
      ⟨none, rfl, e1⟩ (fun i σ H' _ ⟨_, _, e⟩ => e.seq hl) (fun i x σ H2 hi h => ?_) (fun σ H2 h => ?_)⟩
    · obtain ⟨v, rfl, e⟩ := h
      obtain ⟨c, hc, hca⟩ := paired_at hcs hi
      refine ⟨_, rfl, _, rfl, x, c, rfl, hca.same e, _, _, rfl, rfl, ?_⟩
      refine ⟨_, rfl, _, rfl, _, _, rfl, ?_⟩
      refine ⟨_, rfl, _, rfl, _, _, rfl, ?_⟩
      refine ⟨some x, ?_, e⟩
      rw [rch_more hc]
      rfl
    · obtain ⟨v, rfl, e⟩ := h
      have el : (rchM (cs.take xs.length)).2.2 = last cs := by
        rw [hcs.len, List.take_length]
        unfold rchM
        rw [rch_last]
        show (0 : Int) + last cs = last cs
        omega
      rw [el, hcs.len, List.take_length]
      refine ⟨_, rfl, _, rfl, _, rfl, (by show 3 ≤ sizeLine; decide), fun p hp => ?_⟩
      exact k _ p (same_upd e hp) (e.free hp) upd_same
theorem sc_check_number : FnScope ["number", "least"] ["number", "least"] (defScope s_check_number) := ⟨rfl, rfl, rfl, by decide +kernel, rfl, by decide +kernel, by decide +kernel⟩
theorem ok_check_number {f : Addr} {fd : FuncData} (F : Fun K "check_number" "check_number" s_check_number f fd) : FnOk P w K mg base CX0 1 f fd ["number", "least"] spNum := by
  refine F.ok sc_check_number (fun vs H Q E h => ?_) (fun cdv A outer s H vs Q E hr h => ?_)
  · obtain ⟨n, k, rfl, _⟩ := h
    rfl
  · obtain ⟨n, k, rfl, hn, q⟩ := h
    refine ⟨_, (pss_one (ps_if (pt_cmpR op_lt (pv 0) (pv 1) (nomark _)) (pss_one ps_never) pss_nil)), ?_⟩
    exact ⟨_, rfl, _, rfl, _, _, rfl, rfl, _, rfl, ite2 (fun c => absurd (of_decide_eq_true c) (by omega)) (fun _ => q)⟩
theorem sc_require : FnScope ["bounds", "offset", "bound"] ["bounds", "offset", "bound"] (defScope s_require) := ⟨rfl, rfl, rfl, by decide +kernel, rfl, by decide +kernel, by decide +kernel⟩
theorem ok_require {f : Addr} {fd : FuncData} (F : Fun K "require" "require" s_require f fd) (T : TxtB K mg wo wn) : FnOk P w K mg base CX0 1 f fd ["bounds", "offset", "bound"] spReq := by
  refine F.ok sc_require (fun vs H Q E h => ?_) (fun cdv A outer s H vs Q E hr h => ?_)
  · obtain ⟨d, b, o, v, rfl, _⟩ := h
    rfl
  · obtain ⟨d, b, o, v, rfl, hd, hz, k⟩ := h
    refine ⟨_, (pss_one (ps_dput (hu_of hr) (pv 0) (pv 1) (pe_callB (call_max2 rfl) (by rfl) T.max (by decide +kernel) (pa_cons (pv 2) (pa_cons (pe_dget2 (hu_of hr) (pv 0) (pv 1) (pv 2) ⟨rfl, rfl, rfl, rfl⟩) pa_nil))) rfl)), ?_⟩
    have eg : (valV (dkI b) (Sum.inl o : L2.Key)).getD (.int v) = .int ((look b o).getD v) := by
      rw [valV_dkI]
      cases look b o <;> rfl
    refine ⟨_, rfl, _, rfl, d, rfl, .inl ⟨_, .inl hd⟩, _, rfl, _, rfl, _, DGet.k (k := Sum.inl o) hd, v, (look b o).getD v, (by rw [eg]), ?_⟩
    refine ⟨_, rfl, _, rfl, d, _, rfl, DPut.k (k := Sum.inl o) hd ?_, ?_⟩
    · unfold dkI
      rw [List.length_map]
      exact Nat.lt_of_le_of_lt hz (by decide)
    · show Q .non (upd H d (.dK (putK (dkI b) (Sum.inl o : L2.Key) (.int (mx v ((look b o).getD v))))))
      rw [putK_dkI]
      exact k
theorem sc_box : FnScope ["commands", "goal", "bounds", "needed", "offset", "command"] ["commands", "goal"] (defScope s_box) := ⟨rfl, rfl, rfl, by decide +kernel, rfl, by decide +kernel, by decide +kernel⟩
theorem ok_box {f : Addr} {fd : FuncData} (F : Fun K "box" "box" s_box f fd) (T : TxtB K mg wo wn) (c_check_commands : Cal P w K mg base 3 "check_commands" (spCheck K)) (c_row_change : Cal P w K mg base 1 "row_change" (spRow K))
    (c_reach : Cal P w K mg base 4 "reach" (spReach K)) (c_check_number : Cal P w K mg base 1 "check_number" spNum) (c_require : Cal P w K mg base 1 "require" spReq) : FnOk P w K mg base CX0 5 f fd ["commands", "goal"] (spBox K) := by
  refine F.ok sc_box (fun vs H Q E h => ?_) (fun cdv A outer s H vs Q E hr h => ?_)
  · obtain ⟨l, xs, cs, goal, rfl, _⟩ := h
    rfl
  · obtain ⟨l, xs, cs, goal, rfl, hl, hcs, hk, hn, hg, kN, kS⟩ := h
    refine ⟨_, (pss_cons (ps_expr (pe_cal c_check_commands hr (by decide) (by rfl) (pa_cons (pv 0) pa_nil)))
      (pss_cons (ps_expr (pe_cal c_check_number hr (by decide) (by rfl) (pa_cons (pv 1) (pa_cons pe_int pa_nil))))
      (pss_cons (ps_set (i := 2) sc_box.nd rfl (Or.inl rfl) pe_dnewK)
      (pss_cons (ps_set (i := 3) sc_box.nd rfl (Or.inl rfl) (pv 1))
      (pss_cons (ps_set (i := 4) sc_box.nd rfl (Or.inl rfl) (pe_ix ix_tup (pe_cal c_reach hr (by decide) (by rfl) (pa_cons (pv 0) pa_nil)) pe_int (fun _ _ => rfl)))
      (C8.pss_cut (ps_for PassesOwn.never rfl (pi_reversed (by rfl) T.reversed (pa_cons (pv 0) pa_nil)) (pg_name (i := 5) sc_box.nd rfl (Or.inl rfl)) (pss_cons (ps_match (pe_ix ix_tup (pv 5) pe_int (fun _ _ => rfl)) (mc_str (pss_one (ps_ret pe_non)) (mc_str (pss_one (ps_set (i := 3) sc_box.nd rfl (Or.inl rfl) pe_non)) (mc_str (pss_cons (ps_expr (pe_cal c_require hr (by decide) (by rfl) (pa_cons (pv 2) (pa_cons (pv 4) (pa_cons (pv 3) pa_nil)))))
      (pss_one (ps_set (i := 3) sc_box.nd rfl (Or.inl rfl) (pe_ifExp (pt_cmpR op_gt (pv 3) (pe_ix ix_tup (pv 5) pe_int (fun _ _ => rfl)) (nomark _)) (pe_op op_sub (pv 3) (pe_ix ix_tup (pv 5) pe_int (fun _ _ => rfl))) pe_non)))) (mc_str (pss_cons (ps_aug (i := 3) sc_box.nd rfl (Or.inl rfl) (pe_ix ix_tup (pv 5) pe_int (fun _ _ => rfl)) ip_add)
      (pss_one (ps_expr (pe_cal c_require hr (by decide) (by rfl) (pa_cons (pv 2) (pa_cons (pv 4) (pa_cons (pv 3) pa_nil))))))) (mc_any (pss_one (ps_aug (i := 4) sc_box.nd rfl (Or.inl rfl) (pe_cal c_row_change hr (by decide) (by rfl) (pa_cons (pv 5) pa_nil)) ip_sub))))))))
      (pss_one (ps_if (pt_cmpR op_isN (pv 3) pe_non (nomark _)) (pss_one ps_break) pss_nil))))
      (pss_one (ps_ret (pe_tup (pa_cons (pv 3) (pa_cons (pe_sortItems rfl hr.units (pv 2) (by rfl) T.sorted (by decide +kernel)) pa_nil))))))))))), ?_⟩
    refine ⟨_, rfl, l, xs, cs, rfl, hl, hcs, hk, hn, fun H1 e1 => ?_⟩
    refine ⟨_, rfl, _, _, rfl, hg, ?_⟩
    -- bounds = {}; needed = goal; offset = reach(commands)[2]
    refine fun d hd => ?_
    have hd0 : H d = none := e1.free hd
    refine ⟨_, rfl, _, rfl, l, xs, cs, rfl, (same_upd e1 hd).seq hl, hcs.same (same_upd e1 hd), hk, hn, fun H2 p e2 np h2 => ⟨p, _, 2, _, rfl, rfl, SqT.of h2, rfl, ?_⟩⟩
    have e02 : Same H H2 := (same_upd e1 hd).trans e2
    have hd2 : H2 d = some (.dK (dkI [])) := e2 _ _ upd_same
    -- for command in reversed(commands)
    refine ⟨fun σ H' => ∃ (st : Option Int) (b : Ps) (v4 v5 : Option V), σ = [some (.ref l), some (.int goal), some (.ref d), some (optV st), v4, v5] ∧ go cs.reverse (last cs) goal [] = some (st, b) ∧ Same H H' ∧ H' d = some (.dK (dkI b)) ∧ b.length ≤ 10000, ?_, ?_⟩
    · refine ⟨_, rfl, l, xs, rfl, e02.seq hl, RT.for_Itv (K := K) (a := l) (xs := xs) (fun i σ H' => ∃ (off need : Int) (b : Ps) (v5 : Option V), σ = [some (.ref l), some (.int goal), some (.ref d), some (.int need), some (.int off), v5] ∧
          go cs.reverse (last cs) goal [] = go (cs.reverse.drop i) off need b ∧ Same H H' ∧ H' d = some (.dK (dkI b)) ∧ b.length ≤ i ∧ i ≤ cs.length)
        ⟨last cs, goal, [], none, rfl, rfl, e02, hd2, Nat.le_refl _, Nat.zero_le _⟩ (fun i σ H' ⟨_, _, _, _, _, _, e, _⟩ => e.seq hl) (fun i x σ H3 hi hx h => ?_) (fun σ H3 h => ?_)⟩
      · obtain ⟨off, need, b, v5, rfl, hgo, e3, hd3, hb, hil⟩ := h
        obtain ⟨c, hc, hca⟩ := paired_at hcs hx
        have hcl := hcs.len
        have hrev : cs.reverse[i]? = some c := by
          rw [List.getElem?_reverse (by omega), ← hcl]
          exact hc
        have hdrop : cs.reverse.drop i = c :: cs.reverse.drop (i + 1) := by
          obtain ⟨h1, h2⟩ := List.getElem?_eq_some_iff.mp hrev
          rw [List.drop_eq_getElem_cons h1, h2]
        rw [hdrop] at hgo
        obtain ⟨a, rfl, hca0⟩ := hca.same e3
        have hi' : i < cs.length := by omega
        have hb' : b.length ≤ 10000 := by omega
        have goR : ∀ o v, (req b o v).length ≤ i + 1 := fun o v => Nat.le_trans (req_len b o v) (by omega)
        have sameU : ∀ z, Same H (upd H3 d z) := fun z b' o' q => by
          rw [upd_ne (ne_of_none q hd0)]
          exact e3 _ _ q
        cases c with
        | home =>
          refine ⟨_, rfl, a, _, 0, _, rfl, rfl, hca0, rfl, m_yes (by decide +kernel) ?_⟩
          refine kN ?_ _ e3
          unfold boxM
          rw [hgo]
          rfl
        | stop =>
          refine ⟨_, rfl, a, _, 0, _, rfl, rfl, hca0, rfl, m_no (by decide +kernel) (m_yes (by decide +kernel) ?_)⟩
          refine ⟨_, rfl, rfl, _, rfl, iteT ?_⟩
          exact ⟨none, b, _, _, rfl, hgo, e3, hd3, hb'⟩
        | right n =>
          refine ⟨_, rfl, a, _, 0, _, rfl, rfl, hca0, rfl, m_no (by decide +kernel) (m_no (by decide +kernel) (m_yes (by decide +kernel) ?_))⟩
          refine ⟨_, rfl, _, rfl, _, rfl, d, b, off, need, rfl, hd3, hb', ?_⟩
          have hca1 : SqT K (upd H3 d (.dK (dkI (req b off need)))) a (encC (.right n)) := by
            rcases hca0 with (z | ⟨o, z⟩) | z
            · exact .inl (.inl (by rw [upd_ne (ne_of z hd3 (by intro q; cases q))]; exact z))
            · exact .inl (.inr ⟨o, by rw [upd_ne (ne_of z hd3 (by intro q; cases q))]; exact z⟩)
            · exact .inr z
          refine ⟨_, rfl, _, rfl, a, _, 1, _, rfl, rfl, hca1, rfl, _, _, rfl, rfl, _, rfl, ite2 (fun c => ?_) (fun c => ?_)⟩
          · have c' : n < need := of_decide_eq_true c
            refine ⟨_, rfl, _, rfl, a, _, 1, _, rfl, rfl, hca1, rfl, _, _, rfl, rfl, ?_⟩
            refine ⟨_, rfl, rfl, _, rfl, iteF ?_⟩
            refine ⟨off, need - n, req b off need, _, rfl, ?_, sameU _, upd_same, goR _ _, hi'⟩
            rw [hgo]
            simp only [go]
            rw [if_pos c']
          · have c' : ¬ n < need := fun z => c (decide_eq_true z)
            refine ⟨_, rfl, rfl, _, rfl, iteT ?_⟩
            refine ⟨none, req b off need, _, _, rfl, ?_, sameU _, upd_same, Nat.le_trans (goR _ _) (by omega)⟩
            rw [hgo]
            simp only [go]
            rw [if_neg c']
        | left n =>
          refine ⟨_, rfl, a, _, 0, _, rfl, rfl, hca0, rfl, m_no (by decide +kernel) (m_no (by decide +kernel) (m_no (by decide +kernel) (m_yes (by decide +kernel) ?_)))⟩
          refine ⟨_, rfl, _, rfl, a, _, 1, _, rfl, rfl, hca0, rfl, _, _, rfl, rfl, ?_⟩
          refine ⟨_, rfl, _, rfl, _, rfl, d, b, off, need + n, rfl, hd3, hb', ?_⟩
          refine ⟨_, rfl, rfl, _, rfl, iteF ?_⟩
          exact ⟨off, need + n, req b off (need + n), _, rfl, hgo, sameU _, upd_same, goR _ _, hi'⟩
        | down n =>
          refine ⟨_, rfl, a, _, 0, _, rfl, rfl, hca0, rfl, m_no (by decide +kernel) (m_no (by decide +kernel) (m_no (by decide +kernel) (m_no (by decide +kernel) ?_)))⟩
          refine ⟨_, rfl, _, rfl, .ref a, .down n, rfl, ⟨a, rfl, hca0⟩, _, _, rfl, rfl, ?_⟩
          refine ⟨_, rfl, rfl, _, rfl, iteF ?_⟩
          exact ⟨off - n, need, b, _, rfl, hgo, e3, hd3, by omega, hi'⟩
        | up n =>
          refine ⟨_, rfl, a, _, 0, _, rfl, rfl, hca0, rfl, m_no (by decide +kernel) (m_no (by decide +kernel) (m_no (by decide +kernel) (m_no (by decide +kernel) ?_)))⟩
          refine ⟨_, rfl, _, rfl, .ref a, .up n, rfl, ⟨a, rfl, hca0⟩, _, _, rfl, rfl, ?_⟩
          refine ⟨_, rfl, rfl, _, rfl, iteF ?_⟩
          refine ⟨off - -n, need, b, _, rfl, ?_, e3, hd3, by omega, hi'⟩
          rw [hgo]
          simp only [go]
          rw [show off - -n = off + n by omega]
      · obtain ⟨off, need, b, v5, rfl, hgo, e3, hd3, hb, hil⟩ := h
        refine ⟨some need, b, _, _, rfl, ?_, e3, hd3, by omega⟩
        rw [hgo, hcs.len, ← List.length_reverse, List.drop_length]
        rfl
    · rintro σ H3 ⟨st, b, v4, v5, rfl, hgo, e3, hd3, hb⟩
      refine ⟨_, rfl, _, rfl, d, b, rfl, hd3, fun H4 m ts e4 nm hm hp => ⟨(by show 2 ≤ sizeLine; decide), fun p np => ?_⟩⟩
      have e5 : Same H4 (upd H4 p (.tup [optV st, .ref m])) := same_upd (Same.refl _) np
      refine kS st (b.mergeSort leK) ?_ _ p ((e3.trans e4).trans e5) ⟨m, ts, (e3.trans e4).free np, e3.free nm, upd_same, e5 _ _ hm, Paired.mapP hp fun _ _ q => e5 _ _ q⟩
      unfold boxM
      rw [hgo]
      rfl
end
end Gc

/-! running, where nothing is raised -/
namespace Gc
open PySem L2
abbrev s_check_text : Stmt := top 9999
abbrev s_check_cursor : Stmt := top 8
abbrev s_run : Stmt := top 9999
abbrev s_shown_column : Stmt := top 9999
abbrev s_moved : Stmt := top 9999
abbrev s_new_goal : Stmt := top 9999
theorem at_len' {T : List Int} {r : Int} (h0 : 0 ≤ r) (h1 : r < T.length) : atI (T.map V.int) r = some (.int (lenAt T r)) := by
  have e : r = (r.toNat : Int) := by omega
  refine at_of (j := r.toNat) e ?_
  have l : r.toNat < T.length := by omega
  unfold lenAt
  rw [List.getElem?_map, List.getD_eq_getElem?_getD, List.getElem?_eq_getElem l]
  rfl
theorem minI (i j : Int) : (if j < i then j else i) = min i j := by split <;> omega
theorem maxI (i j : Int) : (if j > i then j else i) = max i j := by split <;> omega
theorem iteN1 {c A B : Prop} [Decidable c] (hc : c) (h : B) : if (!decide c) = true then A else B := by
  rw [decide_eq_true hc]
  exact iteF h
theorem iteN0 {c A B : Prop} [Decidable c] (hc : ¬ c) (h : A) : if (!decide c) = true then A else B := by
  rw [decide_eq_false hc]
  exact iteT h
def spText (K : PySem.W.Frag) : Sp := fun vs H Q _ => ∃ (t : Addr) (T : List Int), vs = [.ref t] ∧ SqL K H t (T.map V.int) ∧ T ≠ [] ∧ (∀ x ∈ T, 0 ≤ x) ∧ ∀ H', Same H H' → Q .non H'
def spCursor (K : PySem.W.Frag) : Sp := fun vs H Q _ => ∃ (n r : Int) (g : Option Int) (c : Addr), vs = [.int n, .ref c] ∧ SqT K H c [.int r, optV g] ∧ 0 ≤ r ∧ r < n ∧ ge g 0 ∧ Q .non H
def spShown : Sp := fun vs H Q _ => ∃ (t : Int) (g : Option Int), vs = [.int t, optV g] ∧ Q (.int (seen t g)) H
def spGoal (K : PySem.W.Frag) : Sp := fun vs H Q _ => ∃ (t : Int) (g : Option Int) (v : V) (c : Cmd), vs = [.int t, optV g, v] ∧ CmdAt K H v c ∧ Q (optV (aim1 t g c)) H
/-- one command: None, or the new cursor -/
def step1 (T : List Int) (r : Int) (g : Option Int) (c : Cmd) : Option (Int × Option Int) := if 0 ≤ r + c.dv ∧ r + c.dv < T.length then some (r + c.dv, aim1 (lenAt T (r + c.dv)) g c) else none
def spMoved (K : PySem.W.Frag) : Sp := fun vs H Q _ => ∃ (t b : Addr) (T : List Int) (r : Int) (g : Option Int) (v : V) (c : Cmd), vs = [.ref t, .ref b, v] ∧ SqL K H t (T.map V.int) ∧ SqT K H b [.int r, optV g] ∧ CmdAt K H v c ∧
  (step1 T r g c = none → Q .non H) ∧ ∀ r' g', step1 T r g c = some (r', g') → ∀ p, H p = none → Q (.ref p) (upd H p (.tup [.int r', optV g']))
def spRun (K : PySem.W.Frag) : Sp := fun vs H Q _ => ∃ (t b l : Addr) (T : List Int) (r : Int) (g : Option Int) (xs : List V) (cs : List Cmd) (r' : Int) (g' : Option Int), vs = [.ref t, .ref b, .ref l] ∧ SqL K H t (T.map V.int) ∧ SqT K H b [.int r, optV g] ∧ SqL K H l xs ∧ CmdsOf K H xs cs ∧
  (∀ x ∈ T, 0 ≤ x) ∧ 0 ≤ r ∧ r < T.length ∧ ge g 0 ∧ AllOk cs ∧ cs.length ≤ 10000 ∧ afterL T r g cs = some (r', g') ∧ ∀ (H' : Hp) (p : Addr), Same H H' → SqT K H' p [.int r', optV g'] → Q (.ref p) H'
theorem aim1_vert {t t' : Int} {g : Option Int} {c : Cmd} (h : c.vert = true) : aim1 t g c = g := by cases c <;> first | rfl | cases h
theorem dv_flat {c : Cmd} (h : ¬ c.vert = true) : c.dv = 0 := by cases c <;> first | rfl | exact absurd rfl h
theorem afterL_cons {T : List Int} {r : Int} {g : Option Int} {c : Cmd} {cs : List Cmd} (h0 : 0 ≤ r) (h1 : r < T.length) : afterL T r g (c :: cs) = (step1 T r g c).bind fun q => afterL T q.1 q.2 cs := by
  unfold step1
  simp only [afterL]
  by_cases v : c.vert = true
  · rw [if_pos v]
    by_cases i : 0 ≤ r + c.dv ∧ r + c.dv < T.length
    · rw [if_pos i, if_pos i, aim1_vert (t' := 0) v]
      rfl
    · rw [if_neg i, if_neg i]
      rfl
  · rw [if_neg v, dv_flat v, Int.add_zero, if_pos ⟨h0, h1⟩]
    rfl
theorem step1_in {T : List Int} {r r' : Int} {g g' : Option Int} {c : Cmd} (h : step1 T r g c = some (r', g')) : 0 ≤ r' ∧ r' < T.length := by
  unfold step1 at h
  split at h
  · rename_i i
    cases h
    exact i
  · cases h
section
variable {P : Program} {w : World} {K : PySem.W.Frag} {mg : Str → Option Value} {base : Heap} {wo wn : Addr}
theorem sc_check_cursor : FnScope ["lines", "cursor", "row", "goal"] ["lines", "cursor"] (defScope s_check_cursor) := ⟨rfl, rfl, rfl, by decide +kernel, rfl, by decide +kernel, by decide +kernel⟩
theorem ok_check_cursor {f : Addr} {fd : FuncData} (F : Fun K "check_cursor" "check_cursor" s_check_cursor f fd) : FnOk P w K mg base CX0 1 f fd ["lines", "cursor"] (spCursor K) := by
  refine F.ok sc_check_cursor (fun vs H Q E h => ?_) (fun cdv A outer s H vs Q E hr h => ?_)
  · obtain ⟨n, r, g, c, rfl, _⟩ := h
    rfl
  · obtain ⟨n, r, g, c, rfl, hc, r0, r1, g0, k⟩ := h
    refine ⟨_, (pss_cons (ps_asg (pv 1) (pg_tup rfl (pgs_cons (pg_name (i := 2) sc_check_cursor.nd rfl (Or.inl rfl)) (pgs_cons (pg_name (i := 3) sc_check_cursor.nd rfl (Or.inl rfl)) pgs_nil))))
      (pss_one (ps_if (PW.pt (pw_or (pt_not (pt_chain op_le op_lt pe_int (pv 2) (pv 0))) (pw_or1 (PW.pt (pw_and (pt_cmpR op_notN (pv 3) pe_non (nomark _)) (pw_and1 (pt_cmpR op_lt (pv 3) pe_int (nomark _)))))))) (pss_one ps_never) pss_nil))), ?_⟩
    refine ⟨_, rfl, c, _, rfl, hc, rfl, _, _, rfl, _, _, rfl, rfl, ?_⟩
    refine ⟨_, rfl, _, _, rfl, rfl, _, rfl, ite2 (fun _ => ?_) (fun c => absurd (decide_eq_true r0) c)⟩
    refine ⟨_, rfl, _, _, rfl, rfl, _, rfl, ?_⟩
    refine iteN1 r1 ?_
    cases g with
    | none => exact ⟨_, rfl, rfl, _, rfl, iteF (iteF k)⟩
    | some y =>
      have y0 := ge_some.mp g0
      refine ⟨_, rfl, rfl, _, rfl, iteT ?_⟩
      refine ⟨_, rfl, _, _, rfl, rfl, _, rfl, ite2 (fun c => absurd (of_decide_eq_true c) (by omega)) (fun _ => k)⟩
end
end Gc

/-! the source of numbers of the laws over origins and counts: a dict -/
namespace Gc
open PySem L2
abbrev s_bag : Stmt := top 23
abbrev s_bdraw : Stmt := top 24
def bagK (g : Addr) (lf tn bl : Int) : List (L2.Key × V) := [(.inr "great", .ref g), (.inr "left", .int lf), (.inr "turn", .int tn), (.inr "blend", .int bl)]
def Bag (H : Hp) (b g : Addr) (n : Nat) : Prop := ∃ (gs : List Int) (lf tn bl : Int), H b = some (.dK (bagK g lf tn bl)) ∧ H g = some (.lst (gs.map V.int)) ∧ gs.length ≤ 63 ∧ 0 ≤ tn ∧ tn ≤ n ∧ 0 ≤ bl ∧ bl < 2 ^ 61
theorem Bag.ne {H : Hp} {b g : Addr} {n : Nat} (h : Bag H b g n) : b ≠ g := by
  obtain ⟨_, _, _, _, h1, h2, _⟩ := h
  exact ne_of h1 h2 (by intro q; cases q)
theorem Bag.same {H H' : Hp} {b g : Addr} {n : Nat} (e : Same H H') (h : Bag H b g n) : Bag H' b g n := by
  obtain ⟨gs, lf, tn, bl, h1, h2, h3⟩ := h
  exact ⟨gs, lf, tn, bl, e _ _ h1, e _ _ h2, h3⟩
theorem Bag.more {H : Hp} {b g : Addr} {n m : Nat} (h : Bag H b g n) (l : n ≤ m) : Bag H b g m := by
  obtain ⟨gs, lf, tn, bl, h1, h2, h3, h4, h5, h6⟩ := h
  exact ⟨gs, lf, tn, bl, h1, h2, h3, h4, by omega, h6⟩
theorem n_gl : ¬ (Sum.inr "great" : L2.Key) = .inr "left" := by decide +kernel
theorem n_gt : ¬ (Sum.inr "great" : L2.Key) = .inr "turn" := by decide +kernel
theorem n_lt : ¬ (Sum.inr "left" : L2.Key) = .inr "turn" := by decide +kernel
theorem n_gb : ¬ (Sum.inr "great" : L2.Key) = .inr "blend" := by decide +kernel
theorem n_lb : ¬ (Sum.inr "left" : L2.Key) = .inr "blend" := by decide +kernel
theorem n_tb : ¬ (Sum.inr "turn" : L2.Key) = .inr "blend" := by decide +kernel
theorem small_n {n : Nat} (h : n ≤ 1000) : n < sizeLine := by
  rw [sizeLine_eq]
  omega
theorem val_great (g : Addr) (lf tn bl : Int) : valV (bagK g lf tn bl) (.inr "great" : L2.Key) = some (.ref g) := valV_pos rfl
theorem val_left (g : Addr) (lf tn bl : Int) : valV (bagK g lf tn bl) (.inr "left" : L2.Key) = some (.int lf) := (valV_neg n_gl).trans (valV_pos rfl)
theorem val_turn (g : Addr) (lf tn bl : Int) : valV (bagK g lf tn bl) (.inr "turn" : L2.Key) = some (.int tn) := (valV_neg n_gt).trans ((valV_neg n_lt).trans (valV_pos rfl))
theorem val_blend (g : Addr) (lf tn bl : Int) : valV (bagK g lf tn bl) (.inr "blend" : L2.Key) = some (.int bl) :=
  (valV_neg n_gb).trans ((valV_neg n_lb).trans ((valV_neg n_tb).trans (valV_pos rfl)))
theorem get_great {H : Hp} {b g : Addr} {lf tn bl : Int} (h : H b = some (.dK (bagK g lf tn bl))) : DGet H b (.str "great") (some (.ref g)) := val_great g lf tn bl ▸ DGet.k (k := .inr "great") h
theorem get_left {H : Hp} {b g : Addr} {lf tn bl : Int} (h : H b = some (.dK (bagK g lf tn bl))) : DGet H b (.str "left") (some (.int lf)) := val_left g lf tn bl ▸ DGet.k (k := .inr "left") h
theorem get_turn {H : Hp} {b g : Addr} {lf tn bl : Int} (h : H b = some (.dK (bagK g lf tn bl))) : DGet H b (.str "turn") (some (.int tn)) := val_turn g lf tn bl ▸ DGet.k (k := .inr "turn") h
theorem get_blend {H : Hp} {b g : Addr} {lf tn bl : Int} (h : H b = some (.dK (bagK g lf tn bl))) : DGet H b (.str "blend") (some (.int bl)) := val_blend g lf tn bl ▸ DGet.k (k := .inr "blend") h
theorem put_left (g : Addr) (lf tn bl v : Int) : putK (bagK g lf tn bl) (.inr "left" : L2.Key) (.int v) = bagK g v tn bl := by
  unfold putK bagK
  rfl
theorem put_turn (g : Addr) (lf tn bl v : Int) : putK (bagK g lf tn bl) (.inr "turn" : L2.Key) (.int v) = bagK g lf v bl := by
  unfold putK bagK
  rfl
theorem dput_left {H : Hp} {b g : Addr} {lf tn bl : Int} (v : Int) (h : H b = some (.dK (bagK g lf tn bl))) : DPut H b (.str "left") (.int v) (upd H b (.dK (bagK g v tn bl))) := put_left g lf tn bl v ▸ DPut.k (k := .inr "left") h (by show 4 < sizeLine; decide)
theorem dput_turn {H : Hp} {b g : Addr} {lf tn bl : Int} (v : Int) (h : H b = some (.dK (bagK g lf tn bl))) : DPut H b (.str "turn") (.int v) (upd H b (.dK (bagK g lf v bl))) := put_turn g lf tn bl v ▸ DPut.k (k := .inr "turn") h (by show 4 < sizeLine; decide)
def spBag (K : PySem.W.Frag) : Sp := fun vs H Q _ => ∃ (a : Addr) (ns : List Int), vs = [.ref a] ∧ SqL K H a (ns.map V.int) ∧ ns.length ≤ 63 ∧
  ∀ (H' : Hp) (b g : Addr), Same H H' → H b = none → H g = none → Bag H' b g 0 → Q (.ref b) H'
def spBdraw : Sp := fun vs H Q _ => ∃ (b g : Addr) (n : Nat) (many : Int), vs = [.ref b, .int many] ∧ Bag H b g n ∧ n < 2 ^ 40 ∧ 0 < many ∧ many.natAbs.log2 < 9000 ∧
  ∀ (H' : Hp) (r : Int), Keep b g H H' → Bag H' b g (n + 1) → 0 ≤ r → r < many → Q (.int r) H'
structure TxtC (mg : Str → Option Value) : Prop where
  abs : mg "abs" = none
  len : mg "len" = none
  range : mg "range" = none
  min : mg "min" = none
  max : mg "max" = none
  int : mg "int" = none
  list : mg "list" = none
section
variable {P : Program} {w : World} {K : PySem.W.Frag} {mg : Str → Option Value} {base : Heap}
theorem sc_law_bag : FnScope ["script", "blend", "great", "cell"] ["script"] (defScope s_bag) := ⟨rfl, rfl, rfl, by decide +kernel, rfl, by decide +kernel, by decide +kernel⟩
theorem ok_bag {f : Addr} {fd : FuncData} (F : Fun K "_law_bag" "_law_bag" s_bag f fd) (T : TxtC mg) : FnOk P w K mg base CX0 1 f fd ["script"] (spBag K) := by
  refine F.ok sc_law_bag (fun vs H Q E h => ?_) (fun cdv A outer s H vs Q E hr h => ?_)
  · obtain ⟨a, ns, rfl, _⟩ := h
    rfl
  · obtain ⟨a, ns, rfl, hS, hlen, k⟩ := h
    refine ⟨_, (pss_cons (ps_par (i := 1) (j := 2) rfl sc_law_bag.nd rfl rfl (by decide) rfl rfl (pa_cons pe_int (pa_cons (pe_lst pa_nil) pa_nil)) (by rfl))
      (pss_cons (ps_for PassesOwn.never rfl (pi_list (pv 0)) (pg_name (i := 3) sc_law_bag.nd rfl (Or.inl rfl)) (pss_cons (ps_set (i := 1) sc_law_bag.nd rfl (Or.inl rfl) (pe_op op_mod (pe_op op_add (pe_op op_mulW (pv 1) pe_int) (pv 3)) pe_int))
      (pss_one (ps_if (pt_cmpR op_ge (pe_callB call_abs (by rfl) T.abs (by decide +kernel) (pa_cons (pv 3) pa_nil)) (pe_op op_pow pe_int pe_int) (nomark _)) (pss_one (ps_expr (pe_bm PySem.F.plainAttrs_list PySem.F.slot_list_append PySem.F.type_list_append mt_append (pv 2) (pa_cons (pe_callB call_abs (by rfl) T.abs (by decide +kernel) (pa_cons (pv 3) pa_nil)) pa_nil)))) pss_nil))))
      (pss_one (ps_ret (pe_disp (pps_cons pe_str (pv 2) (pps_cons pe_str pe_int (pps_cons pe_str pe_int (pps_cons pe_str (pv 1) pps_nil)))) rfl rfl (by simp) (by decide)))))), ?_⟩
    refine ⟨Nat.zero_le _, fun g hg => ?_⟩
    have s0 : Same H (upd H g (.lst [])) := same_upd (Same.refl _) hg
    refine ⟨_, _, rfl, ?_⟩
    refine ⟨_, rfl, a, rfl, ⟨_, s0.seq hS⟩, for_list (K := K) (a := a) (xs := ns.map V.int) (fun i σ H' => ∃ (bl : Int) (gs : List Int) (v3 : Option V), σ = [some (.ref a), some (.int bl), some (.ref g), v3] ∧ Same H H' ∧ H' g = some (.lst (gs.map V.int)) ∧ gs.length ≤ i ∧ 0 ≤ bl ∧ bl < 2 ^ 61)
      ⟨11, [], none, rfl, s0, upd_same, Nat.le_refl _, by decide, by decide⟩ (fun i σ H' _ ⟨_, _, _, _, e, _⟩ => e.seq hS) (fun i y σ H1 hi h => ?_) (fun σ H1 h => ?_)⟩
    · obtain ⟨bl, gs, v3, rfl, e1, hg1, gl, b0, b1⟩ := h
      obtain ⟨u, rfl⟩ := int_at hi
      have li := (List.getElem?_eq_some_iff.mp hi).1
      rw [List.length_map] at li
      have n1 := Int.emod_nonneg (bl * 1000003 + u) (show (2305843009213693951 : Int) ≠ 0 by decide)
      have n2 := Int.emod_lt_of_pos (bl * 1000003 + u) (show (0 : Int) < 2305843009213693951 by decide)
      have n3 : (2305843009213693951 : Int) < 2 ^ 61 := by decide
      refine ⟨_, rfl, _, _, rfl, rfl, wide_mul (a := 61) (b := 61) (by omega) (by decide) (by decide) (by decide) (by decide), _, rfl, _, _, rfl, rfl, _, _, rfl, rfl, (show (0 : Int) < 2305843009213693951 by decide), ?_⟩
      refine ⟨_, rfl, _, rfl, ?_⟩
      generalize (if u < 0 then -u else u) = z
      refine ⟨_, _, rfl, rfl, cpow (by decide), _, _, rfl, rfl, _, rfl, ite2 (fun _ => ?_) (fun _ => ?_)⟩
      · refine ⟨_, rfl, .inl ⟨rfl, _, SqL.of hg1⟩, _, rfl, _, rfl, g, _, _, rfl, rfl, hg1, small_n (by rw [List.length_map]; omega), ?_⟩
        generalize (if u < 0 then -u else u) = z2
        refine ⟨_, gs ++ [z2], _, rfl, same_freeU e1 hg, ?_, ?_, n1, by omega⟩
        · rw [upd_same, List.map_append]
          rfl
        · rw [List.length_append, List.length_singleton]
          omega
      · exact ⟨_, gs, _, rfl, e1, hg1, by omega, n1, by omega⟩
    · obtain ⟨bl, gs, v3, rfl, e1, hg1, gl, b0, b1⟩ := h
      refine fun p hp => ⟨_, rfl, _, rfl, upd_same, bagK g 0 0 bl, rfl, (by show 4 ≤ 15; decide), ?_⟩
      have gp : g ≠ p := ne_of_none hg1 hp
      refine k _ p g ?_ (e1.free hp) hg ⟨gs, 0, 0, bl, upd_same, ?_, ?_, by decide, by decide, b0, b1⟩
      · exact same_freeU (same_upd e1 hp) (e1.free hp)
      · rw [upd_ne gp, upd_ne gp]
        exact hg1
      · rw [List.length_map] at gl
        omega
theorem sc_law_draw : FnScope ["bag", "many", "drawn", "turn", "mixed"] ["bag", "many"] (defScope s_bdraw) := ⟨rfl, rfl, rfl, by decide +kernel, rfl, by decide +kernel, by decide +kernel⟩
theorem ok_bdraw {f : Addr} {fd : FuncData} (F : Fun K "_law_draw" "_law_draw" s_bdraw f fd) (T : TxtC mg) : FnOk P w K mg base CX0 1 f fd ["bag", "many"] spBdraw := by
  refine F.ok sc_law_draw (fun vs H Q E h => ?_) (fun cdv A outer s H vs Q E hr h => ?_)
  · obtain ⟨b, g, n, many, rfl, _⟩ := h
    rfl
  · obtain ⟨b, g, n, many, rfl, hs, hn, m0, mb, k⟩ := h
    have bg := hs.ne
    obtain ⟨gs, lf, tn, bl, hb, hg, gl, t0, t1, b0, b1⟩ := hs
    refine ⟨_, (C8.pss_cut (ps_if (PW.pt (pw_and (pt_cmpR op_lt (pe_dget (hu_of hr) (pv 0) pe_str (fun _ _ => rfl)) (pv 1) (nomark _)) (pw_and1 (pt_cmpR op_gt (pe_callB call_len_seq (by rfl) T.len (by decide +kernel) (pa_cons (pe_dget (hu_of hr) (pv 0) pe_str (fun _ _ => rfl)) pa_nil)) pe_int (nomark _))))) (pss_one (ps_dput (hu_of hr) (pv 0) pe_str (pe_bm PySem.F.plainAttrs_list PySem.F.slot_list_pop PySem.F.type_list_pop mt_popAt (pe_dget (hu_of hr) (pv 0) pe_str (fun _ _ => rfl)) (pa_cons pe_int pa_nil)) rfl)) pss_nil)
      (pss_cons (ps_if (pt_cmpR op_ge (pe_dget (hu_of hr) (pv 0) pe_str (fun _ _ => rfl)) (pv 1) (nomark _)) (pss_cons (ps_set (i := 2) sc_law_draw.nd rfl (Or.inl rfl) (pe_op op_mod (pe_dget (hu_of hr) (pv 0) pe_str (fun _ _ => rfl)) (pv 1)))
      (pss_cons (ps_dput (hu_of hr) (pv 0) pe_str (pe_op op_fdivW (pe_dget (hu_of hr) (pv 0) pe_str (fun _ _ => rfl)) (pv 1)) rfl)
      (pss_one (ps_ret (pv 2))))) pss_nil)
      (pss_cons (ps_daug (hu_of hr) (pv 0) pe_str pe_int in_add (fun _ _ _ => rfl))
      (pss_cons (ps_set (i := 3) sc_law_draw.nd rfl (Or.inl rfl) (pe_dget (hu_of hr) (pv 0) pe_str (fun _ _ => rfl)))
      (pss_cons (ps_set (i := 4) sc_law_draw.nd rfl (Or.inl rfl) (pe_op op_add (pe_op op_mulW (pe_op op_add (pe_dget (hu_of hr) (pv 0) pe_str (fun _ _ => rfl)) (pe_op op_mulW pe_int (pv 3))) (pe_op op_pow (pe_op op_add (pv 3) pe_int) pe_int)) (pe_op op_mulW pe_int (pv 3))))
      (pss_one (ps_ret (pe_op op_mod (pe_op op_fdivW (pe_op op_mod (pe_op op_pow (pe_op op_mod (pv 4) pe_int) pe_int) (pe_op op_add (pe_op op_pow pe_int pe_int) pe_int)) pe_int) (pv 1))))))))), ?_⟩
    refine ⟨fun σ H' => σ = [some (.ref b), some (.int many), none, none, none] ∧ Keep b g H H' ∧ ∃ (gs : List Int) (lf : Int), H' b = some (.dK (bagK g lf tn bl)) ∧ H' g = some (.lst (gs.map V.int)) ∧ gs.length ≤ 63, ?_, ?_⟩
    · refine ⟨_, rfl, b, _, rfl, get_left hb, _, rfl, _, _, rfl, rfl, _, rfl, ite2 (fun c => ?_) (fun c => ?_)⟩
      · refine ⟨_, rfl, b, _, rfl, get_great hb, g, _, rfl, .inl (SqL.of hg), _, _, rfl, rfl, _, rfl, ite2 (fun c2 => ?_) (fun c2 => ?_)⟩
        · cases gs with
          | nil => simp at c2
          | cons g0 gr =>
            refine ⟨_, rfl, b, _, rfl, get_great hb, .inl ⟨rfl, _, SqL.of hg⟩, g, _, 0, 0, V.int g0, rfl, rfl, hg, by decide, by decide, seqIndex_of (by decide) (by simp), rfl, ?_⟩
            have hb1 : upd H g (.lst (((g0 :: gr).map V.int).eraseIdx 0)) b = some (.dK (bagK g lf tn bl)) := by
              rw [upd_ne bg]
              exact hb
            refine ⟨_, rfl, b, _, rfl, dput_left g0 hb1, ?_⟩
            refine ⟨rfl, ?_, gr, g0, upd_same, ?_, ?_⟩
            · exact fun x o n1 n2 hx => by rw [upd_ne n1, upd_ne n2]; exact hx
            · rw [upd_ne bg.symm, upd_same]
              rfl
            · rw [List.length_cons] at gl
              omega
        · exact ⟨rfl, Keep.refl H, gs, lf, hb, hg, gl⟩
      · exact iteF ⟨rfl, Keep.refl H, gs, lf, hb, hg, gl⟩
    · rintro σ H1 ⟨rfl, kp, gs1, lf1, hb1, hg1, gl1⟩
      refine ⟨_, rfl, b, _, rfl, get_left hb1, _, rfl, _, _, rfl, rfl, _, rfl, ite2 (fun c => ?_) (fun c => ?_)⟩
      · refine ⟨_, rfl, b, _, rfl, get_left hb1, _, rfl, _, _, rfl, rfl, m0, ?_⟩
        refine ⟨_, rfl, b, _, rfl, get_left hb1, _, rfl, _, _, rfl, rfl, ⟨m0, mb⟩, ?_⟩
        refine ⟨_, rfl, b, _, rfl, dput_left _ hb1, ?_⟩
        refine ⟨_, rfl, k _ _ (kp.trans ((Keep.refl H1).upd1 (a := b) (d := g))) ⟨gs1, _, tn, bl, upd_same, ?_, gl1, t0, by omega, b0, b1⟩ (Int.emod_nonneg _ (by omega)) (Int.emod_lt_of_pos _ m0)⟩
        rw [upd_ne bg.symm]
        exact hg1
      · -- bag['turn'] += 1
        refine ⟨_, rfl, b, _, rfl, get_turn hb1, _, _, rfl, rfl, _, dput_turn _ hb1, ?_⟩
        have hb2 : upd H1 b (.dK (bagK g lf1 (tn + 1) bl)) b = some (.dK (bagK g lf1 (tn + 1) bl)) := upd_same
        have hg2 : upd H1 b (.dK (bagK g lf1 (tn + 1) bl)) g = some (.lst (gs1.map V.int)) := by
          rw [upd_ne bg.symm]
          exact hg1
        have kp2 : Keep b g H (upd H1 b (.dK (bagK g lf1 (tn + 1) bl))) := kp.trans ((Keep.refl H1).upd1 (a := b) (d := g))
        generalize upd H1 b (.dK (bagK g lf1 (tn + 1) bl)) = H2 at hb2 hg2 kp2 ⊢
        refine ⟨_, rfl, b, _, rfl, get_turn hb2, ?_⟩
        have t2 : tn + 1 < 2 ^ 41 := by omega
        refine ⟨_, rfl, b, _, rfl, get_blend hb2, _, rfl, _, _, rfl, rfl, wide_mul (a := 61) (b := 61) (by decide) (by omega) (by decide) (by decide) (by decide), _, _, rfl, rfl, _, rfl, _, _, rfl, rfl, _, _, rfl, rfl, ⟨by decide, by decide, by omega⟩,
          _, _, rfl, rfl, wide_mul (a := 64) (b := 128) (by omega) (pow_small (a := 42) (k := 2) (b := 128) (by omega) (by decide)) (by decide) (by decide) (by decide), _, rfl, _, _, rfl, rfl, wide_mul (a := 61) (b := 61) (by decide) (by omega) (by decide) (by decide) (by decide), _, _, rfl, rfl, ?_⟩
        generalize (bl + 17 * (tn + 1)) * (tn + 1 + 29) ^ (2 : Int).toNat + 7919 * (tn + 1) = mx
        have n1 := Int.emod_nonneg mx (show (2305843009213693951 : Int) ≠ 0 by decide)
        have n2 := Int.emod_lt_of_pos mx (show (0 : Int) < 2305843009213693951 by decide)
        refine ⟨_, rfl, _, _, rfl, rfl, (show (0 : Int) < 2305843009213693951 by decide), _, _, rfl, rfl, ⟨by decide, by decide, by omega⟩, _, _, rfl, rfl, cpow (by decide), _, _, rfl, rfl, _, _, rfl, rfl, (show (0 : Int) < 10 ^ (18 : Int).toNat + 9 by decide), _, _, rfl, rfl, ⟨by decide, by decide⟩, _, rfl, _, _, rfl, rfl, m0, ?_⟩
        exact k _ _ kp2 ⟨gs1, lf1, tn + 1, bl, hb2, hg2, gl1, by omega, by omega, b0, b1⟩ (Int.emod_nonneg _ (by omega)) (Int.emod_lt_of_pos _ m0)
end
end Gc

/-! lists of commands drawn from the bag -/
namespace Gc
open PySem L2
abbrev s_moves : Stmt := top 25
theorem Keep.freeB {a d l : Addr} {H H' : Hp} {o : HO} (e : Keep a d H H') (h : H l = none) : Keep a d H (upd H' l o) := fun b u h1 h2 hb => by
  rw [upd_ne (ne_of_none hb h)]
  exact e b u h1 h2 hb
theorem Keep.tup {K : PySem.W.Frag} {H H' : Hp} {b g a : Addr} {n : Nat} {ys : List V} (e : Keep b g H H') (B : Bag H b g n) (h : SqT K H a ys) : SqT K H' a ys := by
  obtain ⟨_, _, _, _, h1, h2, _⟩ := B
  rcases h with (z | ⟨o, z⟩) | z
  · exact .inl (.inl (e _ _ (ne_of z h1 (by intro q; cases q)) (ne_of z h2 (by intro q; cases q)) z))
  · exact .inl (.inr ⟨o, e _ _ (ne_of z h1 (by intro q; cases q)) (ne_of z h2 (by intro q; cases q)) z⟩)
  · exact .inr z
theorem CmdAt.keepB {K : PySem.W.Frag} {H H' : Hp} {b g : Addr} {n : Nat} {v : V} {c : Cmd} (e : Keep b g H H') (B : Bag H b g n) (h : CmdAt K H v c) : CmdAt K H' v c := by
  obtain ⟨a, e1, h1⟩ := h
  exact ⟨a, e1, e.tup B h1⟩
theorem CmdsOf.keepB {K : PySem.W.Frag} {H H' : Hp} {b g : Addr} {n : Nat} {xs : List V} {cs : List Cmd} (e : Keep b g H H') (B : Bag H b g n) (h : CmdsOf K H xs cs) : CmdsOf K H' xs cs := Paired.mapP h fun _ _ q => q.keepB e B
theorem CmdsOf.lput {K : PySem.W.Frag} {H : Hp} {l : Addr} {ys zs : List V} {xs : List V} {cs : List Cmd} (hl : H l = some (.lst ys)) (h : CmdsOf K H xs cs) : CmdsOf K (upd H l (.lst zs)) xs cs := Paired.mapP h fun _ _ q => by
  obtain ⟨a, e1, h1⟩ := q
  refine ⟨a, e1, ?_⟩
  rcases h1 with (z | ⟨o, z⟩) | z
  · exact .inl (.inl (by rw [upd_ne (ne_of z hl (by intro q; cases q))]; exact z))
  · exact .inl (.inr ⟨o, by rw [upd_ne (ne_of z hl (by intro q; cases q))]; exact z⟩)
  · exact .inr z
theorem Paired.snocB {α β : Type} {F : α → β → Prop} : ∀ {xs : List α} {ys : List β} {x : α} {y : β}, Paired F xs ys → F x y → Paired F (xs ++ [x]) (ys ++ [y])
  | _, _, _, _, .nil, h => .cons h .nil
  | _, _, _, _, .cons f t, h => .cons f (Paired.snocB t h)
/-- H l = none before the bag's address was taken: they differ -/
theorem Bag.off {H : Hp} {b g l : Addr} {n : Nat} (B : Bag H b g n) (h : H l = none) : l ≠ b ∧ l ≠ g := by
  obtain ⟨_, _, _, _, h1, h2, _⟩ := B
  exact ⟨(ne_of_none h1 h).symm, (ne_of_none h2 h).symm⟩
def spMoves (K : PySem.W.Frag) : Sp := fun vs H Q _ => ∃ (b g : Addr) (n : Nat) (many far : Int), vs = [.ref b, .int many, .int far] ∧ Bag H b g n ∧ n < 2 ^ 39 ∧ 0 ≤ many ∧ many ≤ 20 ∧ 1 ≤ far ∧ far ≤ 10 ^ 30 ∧
  ∀ (H' : Hp) (l : Addr) (xs : List V) (cs : List Cmd), Keep b g H H' → Bag H' b g (n + 130) → H l = none → H' l = some (.lst xs) → CmdsOf K H' xs cs → AllOk cs → (∀ c ∈ cs, CSml c) → (cs.length : Int) ≤ many → Q (.ref l) H'
theorem log9B {x : Int} {k : Nat} (h : x.natAbs < 2 ^ k) (hk : k < 9000) : x.natAbs.log2 < 9000 := by
  have := PySem.Flt.log2_lt_of (k := k + 1) (Nat.succ_pos _) (Nat.lt_trans h (Nat.pow_lt_pow_right (by decide) (Nat.lt_succ_self k)))
  omega
def MI (K : PySem.W.Frag) (H : Hp) (b g l : Addr) (n i : Nat) (H' : Hp) (xs : List V) (cs : List Cmd) : Prop := Keep b g H H' ∧ Bag H' b g (n + 1 + 6 * i) ∧ H' l = some (.lst xs) ∧ CmdsOf K H' xs cs ∧ AllOk cs ∧ cs.length ≤ i ∧ ∀ c ∈ cs, CSml c
theorem mi_step {K : PySem.W.Frag} {H H1 H6 : Hp} {b g l t : Addr} {n i : Nat} {xs : List V} {cs : List Cmd} {c : Cmd} (lb : l ≠ b) (lg : l ≠ g) (hl0 : H l = none) (h : MI K H b g l n i H1 xs cs) (k : Keep b g H1 H6) (B : Bag H6 b g (n + 1 + 6 * i + 6))
    (ht : H6 t = none) (ok : c.ok) (sm : CSml c) : MI K H b g l n (i + 1) (upd (upd H6 t (.tup (encC c))) l (.lst (xs ++ [.ref t]))) (xs ++ [.ref t]) (cs ++ [c]) := by
  obtain ⟨a1, a2, a3, a4, a5, a6, a7⟩ := h
  have b3 := k _ _ lb lg a3
  have tl : t ≠ l := (ne_of_none b3 ht).symm
  have s1 : Same H6 (upd H6 t (.tup (encC c))) := same_upd (Same.refl H6) ht
  have b3' := s1 _ _ b3
  refine ⟨fun x o n1 n2 hx => ?_, ?_, upd_same, Paired.snocB (((a4.keepB k a2).same s1).lput b3') ⟨t, rfl, SqT.of ?_⟩, ?_, ?_, ?_⟩
  · rw [upd_ne (ne_of_none hx hl0)]
    exact s1 _ _ (k _ _ n1 n2 (a1 _ _ n1 n2 hx))
  · obtain ⟨gs, lf, tn, bl, h1, h2, h3, h4, h5, h6⟩ := B
    exact ⟨gs, lf, tn, bl, by rw [upd_ne lb.symm]; exact s1 _ _ h1, by rw [upd_ne lg.symm]; exact s1 _ _ h2, h3, h4, by omega, h6⟩
  · rw [upd_ne tl]
    exact upd_same
  · intro d hd
    rcases List.mem_append.mp hd with q | q
    · exact a5 d q
    · rw [List.mem_singleton.mp q]
      exact ok
  · rw [List.length_append, List.length_singleton]
    omega
  · intro d hd
    rcases List.mem_append.mp hd with q | q
    · exact a7 d q
    · rw [List.mem_singleton.mp q]
      exact sm
section
variable {P : Program} {w : World} {K : PySem.W.Frag} {mg : Str → Option Value} {base : Heap}
theorem sc_law_moves : FnScope ["bag", "many", "far", "found", "number", "way", "size"] ["bag", "many", "far"] (defScope s_moves) := ⟨rfl, rfl, rfl, by decide +kernel, rfl, by decide +kernel, by decide +kernel⟩
theorem ok_moves {f : Addr} {fd : FuncData} (F : Fun K "_law_moves" "_law_moves" s_moves f fd) (T : TxtC mg) (c_law_draw : Cal P w K mg base 1 "_law_draw" spBdraw) : FnOk P w K mg base CX0 2 f fd ["bag", "many", "far"] (spMoves K) := by
  refine F.ok sc_law_moves (fun vs H Q E h => ?_) (fun cdv A outer s H vs Q E hr h => ?_)
  · obtain ⟨b, g, n, many, far, rfl, _⟩ := h
    rfl
  · obtain ⟨b, g, n, many, far, rfl, B, hn, m0, m1, z0, z1, k⟩ := h
    refine ⟨_, (pss_cons (ps_set (i := 3) sc_law_moves.nd rfl (Or.inl rfl) (pe_lst pa_nil))
      (pss_cons (ps_for PassesOwn.never rfl (pi_range1 rfl T.range (pa_cons (pe_cal c_law_draw hr (by decide) (by rfl) (pa_cons (pv 0) (pa_cons (pe_op op_add (pv 1) pe_int) pa_nil))) pa_nil)) (pg_name (i := 4) sc_law_moves.nd rfl (Or.inl rfl)) (pss_cons (ps_set (i := 5) sc_law_moves.nd rfl (Or.inl rfl) (pe_cal c_law_draw hr (by decide) (by rfl) (pa_cons (pv 0) (pa_cons pe_int pa_nil))))
      (pss_cons (ps_set (i := 6) sc_law_moves.nd rfl (Or.inl rfl) (pe_op op_add pe_int (pe_ix ix_tup (pe_tup (pa_cons (pe_cal c_law_draw hr (by decide) (by rfl) (pa_cons (pv 0) (pa_cons pe_int pa_nil))) (pa_cons (pe_cal c_law_draw hr (by decide) (by rfl) (pa_cons (pv 0) (pa_cons (pv 2) pa_nil))) pa_nil))) (pe_cal c_law_draw hr (by decide) (by rfl) (pa_cons (pv 0) (pa_cons pe_int pa_nil))) (fun _ _ => rfl))))
      (pss_one (ps_if (pt_cmpR op_lt (pv 5) pe_int (nomark _)) (pss_one (ps_expr (pe_bm PySem.F.plainAttrs_list PySem.F.slot_list_append PySem.F.type_list_append mt_append (pv 3) (pa_cons (pe_tup (pa_cons pe_str (pa_cons (pv 6) pa_nil))) pa_nil)))) (pss_one (ps_if (pt_cmpR op_lt (pv 5) pe_int (nomark _)) (pss_one (ps_expr (pe_bm PySem.F.plainAttrs_list PySem.F.slot_list_append PySem.F.type_list_append mt_append (pv 3) (pa_cons (pe_tup (pa_cons pe_str (pa_cons (pv 6) pa_nil))) pa_nil)))) (pss_one (ps_if (pt_cmpR op_lt (pv 5) pe_int (nomark _)) (pss_one (ps_expr (pe_bm PySem.F.plainAttrs_list PySem.F.slot_list_append PySem.F.type_list_append mt_append (pv 3) (pa_cons (pe_tup (pa_cons (pe_ix ix_tup (pe_tup (pa_cons pe_str (pa_cons pe_str pa_nil))) (pe_op op_mod (pv 5) pe_int) (fun _ _ => rfl)) (pa_cons (pe_op op_add pe_int (pe_cal c_law_draw hr (by decide) (by rfl) (pa_cons (pv 0) (pa_cons (pe_ix ix_tup (pe_tup (pa_cons pe_int (pa_cons pe_int (pa_cons pe_int pa_nil)))) (pe_cal c_law_draw hr (by decide) (by rfl) (pa_cons (pv 0) (pa_cons pe_int pa_nil))) (fun _ _ => rfl)) pa_nil)))) pa_nil))) pa_nil)))) (pss_one (ps_expr (pe_bm PySem.F.plainAttrs_list PySem.F.slot_list_append PySem.F.type_list_append mt_append (pv 3) (pa_cons (pe_ix ix_tup (pe_tup (pa_cons (pe_tup (pa_cons pe_str pa_nil)) (pa_cons (pe_tup (pa_cons pe_str pa_nil)) pa_nil))) (pe_op op_sub (pv 5) pe_int) (fun _ _ => rfl)) pa_nil)))))))))))))
      (pss_one (ps_ret (pv 3))))), ?_⟩
    refine ⟨Nat.zero_le _, fun l hl => ?_⟩
    obtain ⟨lb, lg⟩ := B.off hl
    have eA : Same H (upd H l (.lst [])) := same_upd (Same.refl H) hl
    refine ⟨_, rfl, _, rfl, _, _, rfl, rfl, b, g, n, _, rfl, B.same eA, by omega, by omega, log9B (k := 10) (by omega) (by decide), fun H1 turns kp1 B1 t0 t1 => ?_⟩
    have kH : Keep b g H H1 := (Keep.of eA).trans kp1
    have hl1 : H1 l = some (.lst []) := kp1 _ _ lb lg upd_same
    refine ⟨_, rfl, by omega, by omega, for_range (lo := 0) (fun i σ H' => ∃ (v4 v5 v6 : Option V) (xs : List V) (cs : List Cmd), σ = [some (.ref b), some (.int many), some (.int far), some (.ref l), v4, v5, v6] ∧ MI K H b g l n i H' xs cs)
      ⟨none, none, none, [], [], rfl, kH, B1, hl1, .nil, (fun _ h => nomatch h), Nat.le_refl _, (fun _ h => nomatch h)⟩ (fun i σ H2 hi h => ?_) (fun σ H2 h => ?_)⟩
    · obtain ⟨v4, v5, v6, xs, cs, rfl, h⟩ := h
      have hi' : i < 21 := by omega
      obtain ⟨a1, a2, a3, a4, a5, a6, a7⟩ := id h
      have xl : xs.length ≤ 1000 := by
        rw [a4.len]
        omega
      -- way
      refine ⟨_, rfl, b, g, _, 12, rfl, a2, by omega, by decide, by decide, fun H3 kd kp3 B3 k0 k1 => ?_⟩
      -- size
      refine ⟨_, rfl, b, g, _, 3, rfl, B3, by omega, by decide, by decide, fun H4 d4 kp4 B4 d40 d41 => ?_⟩
      refine ⟨_, rfl, _, rfl, b, g, _, far, rfl, B4, by omega, by omega, log9B (k := 110) (by omega) (by decide), fun H5 d5 kp5 B5 d50 d51 => ?_⟩
      refine ⟨(by show 2 ≤ sizeLine; decide), fun q hq => ?_⟩
      have sq : Same H5 (upd H5 q (.tup [.int d4, .int d5])) := same_upd (Same.refl _) hq
      obtain ⟨qb, qg⟩ := B5.off hq
      refine ⟨_, rfl, b, g, _, 2, rfl, B5.same sq, by omega, by decide, by decide, fun H6 d6 kp6 B6 d60 d61 => ?_⟩
      have hq6 := kp6 _ _ qb qg (upd_same (H := H5) (a := q) (o := .tup [.int d4, .int d5]))
      obtain ⟨sz, hsz, s1, s1b⟩ : ∃ sz : Int, atI [V.int d4, .int d5] d6 = some (.int sz) ∧ 0 ≤ sz ∧ sz ≤ 10 ^ 30 := by
        rcases (show d6 = 0 ∨ d6 = 1 by omega) with rfl | rfl
        · exact ⟨d4, rfl, d40, by omega⟩
        · exact ⟨d5, rfl, d50, by omega⟩
      refine ⟨q, _, d6, _, rfl, rfl, SqT.of hq6, hsz, _, _, rfl, rfl, ?_⟩
      have k26 : Keep b g H2 H6 := (((kp3.trans kp4).trans kp5).trans (Keep.of sq)).trans kp6
      have l6 := k26 _ _ lb lg a3
      refine ⟨_, rfl, _, _, rfl, rfl, _, rfl, ite2 (fun c => ?_) (fun c => ?_)⟩
      · refine ⟨_, rfl, .inl ⟨rfl, _, SqL.of l6⟩, _, rfl, (by show 2 ≤ sizeLine; decide), fun t ht => ?_⟩
        refine ⟨l, _, _, rfl, rfl, (same_upd (Same.refl H6) ht) _ _ l6, small_n xl, ?_⟩
        exact ⟨_, _, _, _, _, rfl, mi_step (c := .right (1 + sz)) lb lg hl h k26 (B6.more (by omega)) ht (by show 1 ≤ 1 + sz; omega) (by show (1 + sz).natAbs < 2 ^ 120; omega)⟩
      refine ⟨_, rfl, _, _, rfl, rfl, _, rfl, ite2 (fun c2 => ?_) (fun c2 => ?_)⟩
      · refine ⟨_, rfl, .inl ⟨rfl, _, SqL.of l6⟩, _, rfl, (by show 2 ≤ sizeLine; decide), fun t ht => ?_⟩
        refine ⟨l, _, _, rfl, rfl, (same_upd (Same.refl H6) ht) _ _ l6, small_n xl, ?_⟩
        exact ⟨_, _, _, _, _, rfl, mi_step (c := .left (1 + sz)) lb lg hl h k26 (B6.more (by omega)) ht (by show 1 ≤ 1 + sz; omega) (by show (1 + sz).natAbs < 2 ^ 120; omega)⟩
      have kd4 : ¬ kd < 4 := fun z => c (decide_eq_true z)
      have kd7 : ¬ kd < 7 := fun z => c2 (decide_eq_true z)
      refine ⟨_, rfl, _, _, rfl, rfl, _, rfl, ite2 (fun c3 => ?_) (fun c3 => ?_)⟩
      · refine ⟨_, rfl, .inl ⟨rfl, _, SqL.of l6⟩, (by show 2 ≤ sizeLine; decide), fun q2 hq2 => ?_⟩
        have s2 : Same H6 (upd H6 q2 (.tup [.str "down", .str "up"])) := same_upd (Same.refl _) hq2
        refine ⟨_, rfl, _, _, rfl, rfl, (show (0 : Int) < 2 by decide), ?_⟩
        rcases (show kd % 2 = 0 ∨ kd % 2 = 1 by omega) with e0 | e0
        · refine ⟨q2, _, _, _, rfl, rfl, SqT.of upd_same, (by rw [e0]; rfl), ?_⟩
          refine ⟨_, rfl, (by show 3 ≤ sizeLine; decide), fun q3 hq3 => ⟨_, rfl, b, g, _, 3, rfl, (B6.same s2).same (same_upd (Same.refl _) hq3), by omega, by decide, by decide, fun H7 d7 kp7 B7 d70 d71 => ?_⟩⟩
          obtain ⟨q3b, q3g⟩ := (B6.same s2).off hq3
          have hq37 := kp7 _ _ q3b q3g upd_same
          obtain ⟨lim, hlim, lim1, lim2⟩ : ∃ z : Int, atI [V.int 2, .int 2, .int 12] d7 = some (.int z) ∧ 1 ≤ z ∧ z ≤ 12 := by
            rcases (show d7 = 0 ∨ d7 = 1 ∨ d7 = 2 by omega) with rfl | rfl | rfl
            · exact ⟨2, rfl, by decide, by decide⟩
            · exact ⟨2, rfl, by decide, by decide⟩
            · exact ⟨12, rfl, by decide, by decide⟩
          refine ⟨q3, _, d7, _, rfl, rfl, SqT.of hq37, hlim, b, g, _, lim, rfl, B7, by omega, by omega, log9B (k := 10) (by omega) (by decide), fun H8 d8 kp8 B8 d80 d81 => ?_⟩
          have k28 : Keep b g H2 H8 := (((k26.trans (Keep.of s2)).trans (Keep.of (same_upd (Same.refl _) hq3))).trans kp7).trans kp8
          have l8 := k28 _ _ lb lg a3
          refine ⟨_, _, rfl, rfl, (by show 2 ≤ sizeLine; decide), fun t ht => ?_⟩
          refine ⟨l, _, _, rfl, rfl, (same_upd (Same.refl H8) ht) _ _ l8, small_n xl, ?_⟩
          exact ⟨_, _, _, _, _, rfl, mi_step (c := .down (1 + d8)) lb lg hl h k28 (B8.more (by omega)) ht (by show 1 ≤ 1 + d8; omega) (by show (1 + d8).natAbs < 2 ^ 120; omega)⟩
        · refine ⟨q2, _, _, _, rfl, rfl, SqT.of upd_same, (by rw [e0]; rfl), ?_⟩
          refine ⟨_, rfl, (by show 3 ≤ sizeLine; decide), fun q3 hq3 => ⟨_, rfl, b, g, _, 3, rfl, (B6.same s2).same (same_upd (Same.refl _) hq3), by omega, by decide, by decide, fun H7 d7 kp7 B7 d70 d71 => ?_⟩⟩
          obtain ⟨q3b, q3g⟩ := (B6.same s2).off hq3
          have hq37 := kp7 _ _ q3b q3g upd_same
          obtain ⟨lim, hlim, lim1, lim2⟩ : ∃ z : Int, atI [V.int 2, .int 2, .int 12] d7 = some (.int z) ∧ 1 ≤ z ∧ z ≤ 12 := by
            rcases (show d7 = 0 ∨ d7 = 1 ∨ d7 = 2 by omega) with rfl | rfl | rfl
            · exact ⟨2, rfl, by decide, by decide⟩
            · exact ⟨2, rfl, by decide, by decide⟩
            · exact ⟨12, rfl, by decide, by decide⟩
          refine ⟨q3, _, d7, _, rfl, rfl, SqT.of hq37, hlim, b, g, _, lim, rfl, B7, by omega, by omega, log9B (k := 10) (by omega) (by decide), fun H8 d8 kp8 B8 d80 d81 => ?_⟩
          have k28 : Keep b g H2 H8 := (((k26.trans (Keep.of s2)).trans (Keep.of (same_upd (Same.refl _) hq3))).trans kp7).trans kp8
          have l8 := k28 _ _ lb lg a3
          refine ⟨_, _, rfl, rfl, (by show 2 ≤ sizeLine; decide), fun t ht => ?_⟩
          refine ⟨l, _, _, rfl, rfl, (same_upd (Same.refl H8) ht) _ _ l8, small_n xl, ?_⟩
          exact ⟨_, _, _, _, _, rfl, mi_step (c := .up (1 + d8)) lb lg hl h k28 (B8.more (by omega)) ht (by show 1 ≤ 1 + d8; omega) (by show (1 + d8).natAbs < 2 ^ 120; omega)⟩
      · have kd10 : ¬ kd < 10 := fun z => c3 (decide_eq_true z)
        refine ⟨_, rfl, .inl ⟨rfl, _, SqL.of l6⟩, (by show 1 ≤ sizeLine; decide), fun t1 ht1 => ⟨(by show 1 ≤ sizeLine; decide), fun t2 ht2 => ⟨(by show 2 ≤ sizeLine; decide), fun q2 hq2 => ?_⟩⟩⟩
        have s1' : Same H6 (upd H6 t1 (.tup [.str "home"])) := same_upd (Same.refl _) ht1
        have s2' := s1'.trans (same_upd (Same.refl _) ht2 (o := .tup [.str "end"]))
        have s3' := s2'.trans (same_upd (Same.refl _) hq2 (o := .tup [.ref t1, .ref t2]))
        have h1e : upd (upd (upd H6 t1 (.tup [.str "home"])) t2 (.tup [.str "end"])) q2 (.tup [.ref t1, .ref t2]) t1 = some (.tup [.str "home"]) := (same_upd (same_upd (Same.refl _) ht2) hq2) _ _ upd_same
        have h2e : upd (upd (upd H6 t1 (.tup [.str "home"])) t2 (.tup [.str "end"])) q2 (.tup [.ref t1, .ref t2]) t2 = some (.tup [.str "end"]) := (same_upd (Same.refl _) hq2) _ _ upd_same
        have hqe : upd (upd (upd H6 t1 (.tup [.str "home"])) t2 (.tup [.str "end"])) q2 (.tup [.ref t1, .ref t2]) q2 = some (.tup [.ref t1, .ref t2]) := upd_same
        generalize upd (upd (upd H6 t1 (.tup [.str "home"])) t2 (.tup [.str "end"])) q2 (.tup [.ref t1, .ref t2]) = H7 at s3' h1e h2e hqe ⊢
        have k27 : Keep b g H2 H7 := k26.trans (Keep.of s3')
        have B7 := B6.same s3'
        have l7 := s3' _ _ l6
        have fin : ∀ (t : Addr) (c : Cmd), c.ok → CSml c → H7 t = some (.tup (encC c)) → t ≠ l → MI K H b g l n (i + 1) (upd H7 l (.lst (xs ++ [.ref t]))) (xs ++ [.ref t]) (cs ++ [c]) := fun t c ok sm ht tl => by
          refine ⟨fun x o n1 n2 hx => ?_, ?_, upd_same, Paired.snocB ((a4.keepB k27 a2).lput l7) ⟨t, rfl, SqT.of ?_⟩, ?_, ?_, ?_⟩
          · rw [upd_ne (ne_of_none hx hl)]
            exact k27 _ _ n1 n2 (a1 _ _ n1 n2 hx)
          · obtain ⟨gs, lf, tn, bl, g1, g2, g3, g4, g5, g6⟩ := B7
            exact ⟨gs, lf, tn, bl, by rw [upd_ne lb.symm]; exact g1, by rw [upd_ne lg.symm]; exact g2, g3, g4, by omega, g6⟩
          · rw [upd_ne tl]
            exact ht
          · intro d hd
            rcases List.mem_append.mp hd with q | q
            · exact a5 d q
            · rw [List.mem_singleton.mp q]
              exact ok
          · rw [List.length_append, List.length_singleton]
            omega
          · intro d hd
            rcases List.mem_append.mp hd with q | q
            · exact a7 d q
            · rw [List.mem_singleton.mp q]
              exact sm
        have t1l : t1 ≠ l := (ne_of_none l6 ht1).symm
        have t2l : t2 ≠ l := (ne_of_none (s1' _ _ l6) ht2).symm
        rcases (show kd - 10 = 0 ∨ kd - 10 = 1 by omega) with e0 | e0
        · refine ⟨_, rfl, _, _, rfl, rfl, q2, _, _, _, rfl, rfl, SqT.of hqe, (by rw [e0]; rfl), ?_⟩
          refine ⟨l, _, _, rfl, rfl, l7, small_n xl, ?_⟩
          exact ⟨_, _, _, _, _, rfl, fin t1 .home trivial trivial h1e t1l⟩
        · refine ⟨_, rfl, _, _, rfl, rfl, q2, _, _, _, rfl, rfl, SqT.of hqe, (by rw [e0]; rfl), ?_⟩
          refine ⟨l, _, _, rfl, rfl, l7, small_n xl, ?_⟩
          exact ⟨_, _, _, _, _, rfl, fin t2 .stop trivial trivial h2e t2l⟩
    · obtain ⟨v4, v5, v6, xs, cs, rfl, a1, a2, a3, a4, a5, a6, a7⟩ := h
      exact ⟨_, rfl, k _ l xs cs a1 (a2.more (by omega)) hl a3 a4 a5 a7 (by omega)⟩
end
end Gc

/-! the law's own running; the commands that stay in the text -/
namespace Gc
open PySem L2
abbrev s_end : Stmt := top 27
abbrev s_kept : Stmt := top 28
theorem atI_t {u v : V} {b : Bool} (h : b = true) : atI [u, v] (if b = true then (1 : Int) else 0) = some v := by
  subst h
  rfl
theorem atI_f {u v : V} {b : Bool} (h : b = false) : atI [u, v] (if b = true then (1 : Int) else 0) = some u := by
  subst h
  rfl
def spEnd (K : PySem.W.Frag) : Sp := fun vs H Q _ => ∃ (t b l : Addr) (T : List Int) (r : Int) (a : Option Int) (xs : List V) (cs : List Cmd), vs = [.ref t, .ref b, .ref l] ∧ SqL K H t (T.map V.int) ∧ SqT K H b [.int r, optV a] ∧ SqL K H l xs ∧ CmdsOf K H xs cs ∧ (∀ c ∈ cs, CSml c) ∧ 0 ≤ r ∧ r < T.length ∧
  (afterL T r a cs = none → ∀ H', Same H H' → Q .non H') ∧ ∀ r' a', afterL T r a cs = some (r', a') → ∀ (H' : Hp) (p : Addr), Same H H' → H p = none → H' p = some (.tup [.int r', optV a']) → Q (.ref p) H'
def spKept (K : PySem.W.Frag) : Sp := fun vs H Q _ => ∃ (spot many : Int) (l : Addr) (xs : List V) (cs : List Cmd), vs = [.int spot, .int many, .ref l] ∧ SqL K H l xs ∧ CmdsOf K H xs cs ∧ AllOk cs ∧ (∀ c ∈ cs, CSml c) ∧ cs.length ≤ 100 ∧ 0 ≤ spot ∧ spot < many ∧
  ∀ (H' : Hp) (p : Addr) (ys : List V) (ds : List Cmd), Same H H' → H p = none → H' p = some (.lst ys) → CmdsOf K H' ys ds → AllOk ds → (∀ c ∈ ds, CSml c) → ds.length ≤ cs.length → Within ds (-spot) (many - 1 - spot) → Q (.ref p) H'
theorem Within.snoc {cs : List Cmd} {c : Cmd} {lo hi : Int} (h : Within cs lo hi) (h0 : lo ≤ last cs + c.dv) (h1 : last cs + c.dv ≤ hi) : Within (cs ++ [c]) lo hi := fun i => by
  by_cases l : i ≤ cs.length
  · rw [List.take_append_of_le_length l]
    exact h i
  · rw [List.take_of_length_le (by rw [List.length_append, List.length_singleton]; omega), last_snoc]
    exact ⟨h0, h1⟩
section
variable {P : Program} {w : World} {K : PySem.W.Frag} {mg : Str → Option Value} {base : Heap}
theorem sc_law_end : FnScope ["page", "start", "moves", "spot", "aim", "command", "seen"] ["page", "start", "moves"] (defScope s_end) := ⟨rfl, rfl, rfl, by decide +kernel, rfl, by decide +kernel, by decide +kernel⟩
theorem ok_end {f : Addr} {fd : FuncData} (F : Fun K "_law_end" "_law_end" s_end f fd) (T : TxtC mg) : FnOk P w K mg base CX0 1 f fd ["page", "start", "moves"] (spEnd K) := by
  refine F.ok sc_law_end (fun vs H Q E h => ?_) (fun cdv A outer s H vs Q E hr h => ?_)
  · obtain ⟨t, b, l, T, r, a, xs, cs, rfl, _⟩ := h
    rfl
  · obtain ⟨t, b, l, tx, r, a, xs, cs, rfl, ht, hb, hl, hcs, sm, r0, r1, kn, ks⟩ := h
    refine ⟨_, (pss_cons (ps_asg (pv 1) (pg_tup rfl (pgs_cons (pg_name (i := 3) sc_law_end.nd rfl (Or.inl rfl)) (pgs_cons (pg_name (i := 4) sc_law_end.nd rfl (Or.inl rfl)) pgs_nil))))
      (pss_cons (ps_for PassesOwn.never rfl (pi_list (pv 2)) (pg_name (i := 5) sc_law_end.nd rfl (Or.inl rfl)) (pss_one (ps_if (pt_cmpR op_in_seq (pe_ix ix_tup (pv 5) pe_int (fun _ _ => rfl)) (pe_tup (pa_cons pe_str (pa_cons pe_str pa_nil))) (by rfl)) (pss_cons (ps_aug (i := 3) sc_law_end.nd rfl (Or.inl rfl) (pe_op op_mulW (pe_ix ix_tup (pe_tup (pa_cons pe_int (pa_cons (pe_un un_neg pe_int) pa_nil))) (pe_callTy call_int1 (by rfl) T.int (by decide +kernel) (pa_cons (pe_cmpR op_eq (pe_ix ix_tup (pv 5) pe_int (fun _ _ => rfl)) pe_str (nomark _)) pa_nil)) (fun _ _ => rfl)) (pe_ix ix_tup (pv 5) pe_int (fun _ _ => rfl))) ip_add)
      (pss_one (ps_if (pt_not (pt_chain op_le op_lt pe_int (pv 3) (pe_callB call_len_seq (by rfl) T.len (by decide +kernel) (pa_cons (pv 0) pa_nil)))) (pss_one (ps_ret pe_non)) pss_nil))) (pss_one (ps_if (pt_cmpR op_eq (pe_ix ix_tup (pv 5) pe_int (fun _ _ => rfl)) pe_str (nomark _)) (pss_one (ps_set (i := 4) sc_law_end.nd rfl (Or.inl rfl) pe_int)) (pss_one (ps_if (pt_cmpR op_eq (pe_ix ix_tup (pv 5) pe_int (fun _ _ => rfl)) pe_str (nomark _)) (pss_one (ps_set (i := 4) sc_law_end.nd rfl (Or.inl rfl) pe_non)) (pss_cons (ps_set (i := 6) sc_law_end.nd rfl (Or.inl rfl) (pe_ix ix_list (pv 0) (pv 3) (fun _ _ => rfl)))
      (C8.pss_cut (ps_if (pt_cmpR op_notN (pv 4) pe_non (nomark _)) (pss_one (ps_set (i := 6) sc_law_end.nd rfl (Or.inl rfl) (pe_callB (call_min2 rfl) (by rfl) T.min (by decide +kernel) (pa_cons (pv 4) (pa_cons (pv 6) pa_nil))))) pss_nil)
      (pss_cons (ps_set (i := 4) sc_law_end.nd rfl (Or.inl rfl) (pe_callB (call_max2 rfl) (by rfl) T.max (by decide +kernel) (pa_cons pe_int (pa_cons (pe_op op_sub (pv 6) (pe_ix ix_tup (pv 5) pe_int (fun _ _ => rfl))) pa_nil))))
      (pss_one (ps_if (pt_cmpR op_eq (pe_ix ix_tup (pv 5) pe_int (fun _ _ => rfl)) pe_str (nomark _)) (pss_one (ps_set (i := 4) sc_law_end.nd rfl (Or.inl rfl) (pe_callB (call_min2 rfl) (by rfl) T.min (by decide +kernel) (pa_cons (pe_op op_add (pv 6) (pe_ix ix_tup (pv 5) pe_int (fun _ _ => rfl))) (pa_cons (pe_ix ix_list (pv 0) (pv 3) (fun _ _ => rfl)) pa_nil))))) pss_nil))))))))))))
      (pss_one (ps_ret (pe_tup (pa_cons (pv 3) (pa_cons (pv 4) pa_nil))))))), ?_⟩
    refine ⟨_, rfl, b, _, rfl, hb, rfl, _, _, rfl, _, _, rfl, rfl, ?_⟩
    refine ⟨_, rfl, l, rfl, ⟨_, hl⟩, for_list (K := K) (a := l) (xs := xs) (fun i σ H' => ∃ (r' : Int) (a' : Option Int) (v5 v6 : Option V), σ = [some (.ref t), some (.ref b), some (.ref l), some (.int r'), some (optV a'), v5, v6] ∧ Same H H' ∧
        0 ≤ r' ∧ r' < tx.length ∧ afterL tx r a cs = afterL tx r' a' (cs.drop i))
      ⟨r, a, none, none, rfl, Same.refl H, r0, r1, rfl⟩ (fun i σ H' _ ⟨_, _, _, _, _, e, _⟩ => e.seq hl) (fun i y σ H2 hi h => ?_) (fun σ H2 h => ?_)⟩
    · obtain ⟨r', a', v5, v6, rfl, e2, q0, q1, hgo⟩ := h
      obtain ⟨c, hc, q, rfl, hq0⟩ := paired_at hcs hi
      have hq := seq_t e2 hq0
      have htx := e2.seq ht
      have hdrop : cs.drop i = c :: cs.drop (i + 1) := by
        obtain ⟨h1, h2⟩ := List.getElem?_eq_some_iff.mp hc
        rw [List.drop_eq_getElem_cons h1, h2]
      rw [hdrop, afterL_cons q0 q1] at hgo
      have smc := sm c (List.mem_of_getElem? hc)
      have al := at_len' q0 q1
      have hin : ∀ r2 a2, step1 tx r' a' c = some (r2, a2) → afterL tx r a cs = afterL tx r2 a2 (cs.drop (i + 1)) := fun r2 a2 z => by
        rw [hgo, z]
        rfl
      have hout : step1 tx r' a' c = none → afterL tx r a cs = none := fun z => by
        rw [hgo, z]
        rfl
      have flat : c.dv = 0 → step1 tx r' a' c = some (r', aim1 (lenAt tx r') a' c) := fun z => by
        unfold step1
        rw [z, Int.add_zero, if_pos ⟨q0, q1⟩]
      cases c with
      | down n =>
        refine ⟨_, rfl, q, _, 0, _, rfl, rfl, hq, rfl, (by show 2 ≤ sizeLine; decide), fun p1 hp1 => ?_⟩
        have m1 := same_upd (Same.refl H2) hp1 (o := .tup [.str "down", .str "up"])
        refine ⟨p1, _, rfl, .inr (SqT.of upd_same), rfl, rfl, true, by decide +kernel, iteT ?_⟩
        refine ⟨_, rfl, _, rfl, (by show 2 ≤ sizeLine; decide), fun p2 hp2 => ?_⟩
        have m2 := same_upd m1 hp2 (o := .tup [.int 1, .int (-1)])
        have nb : n.natAbs < 2 ^ 120 := smc
        refine ⟨_, rfl, q, _, 0, _, rfl, rfl, seq_t m2 hq, rfl, rfl, .inr ⟨_, rfl, p2, _, _, _, rfl, rfl, SqT.of upd_same, atI_f (by decide +kernel), _, rfl, q, _, 1, _, rfl, rfl, seq_t m2 hq, rfl, _, _, rfl, rfl, wide_mul (a := 61) (b := 120) (by decide) nb (by decide) (by decide) (by decide), _, _, rfl, rfl, ?_⟩⟩
        rw [show (1 : Int) * n = n from Int.one_mul n]
        refine ⟨_, rfl, _, _, rfl, rfl, _, rfl, ite2 (fun c0 => ?_) (fun c0 => ?_)⟩
        · have c0' : 0 ≤ r' + (n) := of_decide_eq_true c0
          refine ⟨_, rfl, t, _, rfl, .inl (m2.seq htx), _, _, rfl, rfl, _, rfl, ?_⟩
          by_cases c1 : r' + (n) < tx.length
          · refine iteN1 (by rw [List.length_map]; exact c1) ?_
            exact ⟨r' + (n), a', _, _, rfl, e2.trans m2, c0', c1, hin _ _ (by unfold step1; rw [if_pos (show 0 ≤ r' + (Cmd.down n).dv ∧ r' + (Cmd.down n).dv < tx.length from ⟨c0', c1⟩)]; rfl)⟩
          · refine iteN0 (by rw [List.length_map]; exact c1) ?_
            exact kn (hout (by unfold step1; rw [if_neg (show ¬ (0 ≤ r' + (Cmd.down n).dv ∧ r' + (Cmd.down n).dv < tx.length) from fun z => c1 z.2)])) _ (e2.trans m2)
        · refine ⟨_, rfl, ?_⟩
          refine iteT (B := _) ?_
          exact kn (hout (by unfold step1; rw [if_neg (show ¬ (0 ≤ r' + (Cmd.down n).dv ∧ r' + (Cmd.down n).dv < tx.length) from fun z => c0 (decide_eq_true z.1))])) _ (e2.trans m2)
      | up n =>
        refine ⟨_, rfl, q, _, 0, _, rfl, rfl, hq, rfl, (by show 2 ≤ sizeLine; decide), fun p1 hp1 => ?_⟩
        have m1 := same_upd (Same.refl H2) hp1 (o := .tup [.str "down", .str "up"])
        refine ⟨p1, _, rfl, .inr (SqT.of upd_same), rfl, rfl, true, by decide +kernel, iteT ?_⟩
        refine ⟨_, rfl, _, rfl, (by show 2 ≤ sizeLine; decide), fun p2 hp2 => ?_⟩
        have m2 := same_upd m1 hp2 (o := .tup [.int 1, .int (-1)])
        have nb : n.natAbs < 2 ^ 120 := smc
        refine ⟨_, rfl, q, _, 0, _, rfl, rfl, seq_t m2 hq, rfl, rfl, .inr ⟨_, rfl, p2, _, _, _, rfl, rfl, SqT.of upd_same, atI_t (by decide +kernel), _, rfl, q, _, 1, _, rfl, rfl, seq_t m2 hq, rfl, _, _, rfl, rfl, wide_mul (a := 61) (b := 120) (by decide) nb (by decide) (by decide) (by decide), _, _, rfl, rfl, ?_⟩⟩
        rw [show (-1 : Int) * n = -n by omega]
        refine ⟨_, rfl, _, _, rfl, rfl, _, rfl, ite2 (fun c0 => ?_) (fun c0 => ?_)⟩
        · have c0' : 0 ≤ r' + (-n) := of_decide_eq_true c0
          refine ⟨_, rfl, t, _, rfl, .inl (m2.seq htx), _, _, rfl, rfl, _, rfl, ?_⟩
          by_cases c1 : r' + (-n) < tx.length
          · refine iteN1 (by rw [List.length_map]; exact c1) ?_
            exact ⟨r' + (-n), a', _, _, rfl, e2.trans m2, c0', c1, hin _ _ (by unfold step1; rw [if_pos (show 0 ≤ r' + (Cmd.up n).dv ∧ r' + (Cmd.up n).dv < tx.length from ⟨c0', c1⟩)]; rfl)⟩
          · refine iteN0 (by rw [List.length_map]; exact c1) ?_
            exact kn (hout (by unfold step1; rw [if_neg (show ¬ (0 ≤ r' + (Cmd.up n).dv ∧ r' + (Cmd.up n).dv < tx.length) from fun z => c1 z.2)])) _ (e2.trans m2)
        · refine ⟨_, rfl, ?_⟩
          refine iteT (B := _) ?_
          exact kn (hout (by unfold step1; rw [if_neg (show ¬ (0 ≤ r' + (Cmd.up n).dv ∧ r' + (Cmd.up n).dv < tx.length) from fun z => c0 (decide_eq_true z.1))])) _ (e2.trans m2)
      | home =>
        refine ⟨_, rfl, q, _, 0, _, rfl, rfl, hq, rfl, (by show 2 ≤ sizeLine; decide), fun p1 hp1 => ?_⟩
        have m1 := same_upd (Same.refl H2) hp1 (o := .tup [.str "down", .str "up"])
        refine ⟨p1, _, rfl, .inr (SqT.of upd_same), rfl, rfl, false, by decide +kernel, iteF ?_⟩
        refine ⟨_, rfl, q, _, 0, _, rfl, rfl, seq_t m1 hq, rfl, rfl, true, by decide +kernel, iteT ?_⟩
        exact ⟨r', some 0, _, _, rfl, e2.trans m1, q0, q1, hin _ _ (flat rfl)⟩
      | stop =>
        refine ⟨_, rfl, q, _, 0, _, rfl, rfl, hq, rfl, (by show 2 ≤ sizeLine; decide), fun p1 hp1 => ?_⟩
        have m1 := same_upd (Same.refl H2) hp1 (o := .tup [.str "down", .str "up"])
        refine ⟨p1, _, rfl, .inr (SqT.of upd_same), rfl, rfl, false, by decide +kernel, iteF ?_⟩
        refine ⟨_, rfl, q, _, 0, _, rfl, rfl, seq_t m1 hq, rfl, rfl, false, by decide +kernel, iteF ?_⟩
        refine ⟨_, rfl, q, _, 0, _, rfl, rfl, seq_t m1 hq, rfl, rfl, true, by decide +kernel, iteT ?_⟩
        exact ⟨r', none, _, _, rfl, e2.trans m1, q0, q1, hin _ _ (flat rfl)⟩
      | left n =>
        refine ⟨_, rfl, q, _, 0, _, rfl, rfl, hq, rfl, (by show 2 ≤ sizeLine; decide), fun p1 hp1 => ?_⟩
        have m1 := same_upd (Same.refl H2) hp1 (o := .tup [.str "down", .str "up"])
        refine ⟨p1, _, rfl, .inr (SqT.of upd_same), rfl, rfl, false, by decide +kernel, iteF ?_⟩
        refine ⟨_, rfl, q, _, 0, _, rfl, rfl, seq_t m1 hq, rfl, rfl, false, by decide +kernel, iteF ?_⟩
        refine ⟨_, rfl, q, _, 0, _, rfl, rfl, seq_t m1 hq, rfl, rfl, false, by decide +kernel, iteF ?_⟩
        have ht1 := m1.seq htx
        have hq1 := seq_t m1 hq
        refine ⟨_, rfl, _, rfl, t, _, _, _, rfl, rfl, ht1, al, ?_⟩
        refine ⟨fun σ H' => σ = [some (.ref t), some (.ref b), some (.ref l), some (.int r'), some (optV a'), some (.ref q), some (.int (seen (lenAt tx r') a'))] ∧ Same H2 H' ∧ SqT K H' q (encC (.left n)), ?_, ?_⟩
        · cases a' with
          | none => exact ⟨_, rfl, rfl, _, rfl, iteF ⟨rfl, m1, hq1⟩⟩
          | some x =>
            refine ⟨_, rfl, rfl, _, rfl, iteT ?_⟩
            refine ⟨_, rfl, _, rfl, _, _, rfl, ?_⟩
            rw [minI]
            exact ⟨rfl, m1, hq1⟩
        · rintro σ H3 ⟨rfl, e3, hq3⟩
          refine ⟨_, rfl, _, rfl, q, _, 1, _, rfl, rfl, hq3, rfl, _, _, rfl, rfl, _, _, rfl, ?_⟩
          rw [maxI]
          refine ⟨_, rfl, q, _, 0, _, rfl, rfl, hq3, rfl, rfl, false, by decide +kernel, iteF ?_⟩
          exact ⟨r', _, _, _, rfl, e2.trans e3, q0, q1, hin _ _ (flat rfl)⟩
      | right n =>
        refine ⟨_, rfl, q, _, 0, _, rfl, rfl, hq, rfl, (by show 2 ≤ sizeLine; decide), fun p1 hp1 => ?_⟩
        have m1 := same_upd (Same.refl H2) hp1 (o := .tup [.str "down", .str "up"])
        refine ⟨p1, _, rfl, .inr (SqT.of upd_same), rfl, rfl, false, by decide +kernel, iteF ?_⟩
        refine ⟨_, rfl, q, _, 0, _, rfl, rfl, seq_t m1 hq, rfl, rfl, false, by decide +kernel, iteF ?_⟩
        refine ⟨_, rfl, q, _, 0, _, rfl, rfl, seq_t m1 hq, rfl, rfl, false, by decide +kernel, iteF ?_⟩
        have ht1 := m1.seq htx
        have hq1 := seq_t m1 hq
        refine ⟨_, rfl, _, rfl, t, _, _, _, rfl, rfl, ht1, al, ?_⟩
        refine ⟨fun σ H' => σ = [some (.ref t), some (.ref b), some (.ref l), some (.int r'), some (optV a'), some (.ref q), some (.int (seen (lenAt tx r') a'))] ∧ Same H2 H' ∧ SqT K H' q (encC (.right n)), ?_, ?_⟩
        · cases a' with
          | none => exact ⟨_, rfl, rfl, _, rfl, iteF ⟨rfl, m1, hq1⟩⟩
          | some x =>
            refine ⟨_, rfl, rfl, _, rfl, iteT ?_⟩
            refine ⟨_, rfl, _, rfl, _, _, rfl, ?_⟩
            rw [minI]
            exact ⟨rfl, m1, hq1⟩
        · rintro σ H3 ⟨rfl, e3, hq3⟩
          refine ⟨_, rfl, _, rfl, q, _, 1, _, rfl, rfl, hq3, rfl, _, _, rfl, rfl, _, _, rfl, ?_⟩
          refine ⟨_, rfl, q, _, 0, _, rfl, rfl, hq3, rfl, rfl, true, by decide +kernel, iteT ?_⟩
          refine ⟨_, rfl, _, rfl, q, _, 1, _, rfl, rfl, hq3, rfl, _, _, rfl, rfl, _, rfl, _, rfl, t, _, _, _, rfl, rfl, (e2.trans e3).seq ht, al, _, _, rfl, ?_⟩
          rw [minI]
          exact ⟨r', _, _, _, rfl, e2.trans e3, q0, q1, hin _ _ (flat rfl)⟩
    · obtain ⟨r', a', v5, v6, rfl, e2, q0, q1, hgo⟩ := h
      rw [hcs.len, List.drop_length] at hgo
      refine ⟨_, rfl, _, rfl, (by show 2 ≤ sizeLine; decide), fun p hp => ?_⟩
      exact ks r' a' hgo _ p (same_upd e2 hp) (e2.free hp) upd_same
theorem sc_law_kept : FnScope ["spot", "many", "moves", "found", "command", "later"] ["spot", "many", "moves"] (defScope s_kept) := ⟨rfl, rfl, rfl, by decide +kernel, rfl, by decide +kernel, by decide +kernel⟩
theorem ok_kept {f : Addr} {fd : FuncData} (F : Fun K "_law_kept" "_law_kept" s_kept f fd) : FnOk P w K mg base CX0 1 f fd ["spot", "many", "moves"] (spKept K) := by
  refine F.ok sc_law_kept (fun vs H Q E h => ?_) (fun cdv A outer s H vs Q E hr h => ?_)
  · obtain ⟨spot, many, l, xs, cs, rfl, _⟩ := h
    rfl
  · obtain ⟨spot, many, l, xs, cs, rfl, hl, hcs, ok, sm, ln, s0, s1, k⟩ := h
    refine ⟨_, (pss_cons (ps_set (i := 3) sc_law_kept.nd rfl (Or.inl rfl) (pe_lst pa_nil))
      (pss_cons (ps_for PassesOwn.never rfl (pi_list (pv 2)) (pg_name (i := 4) sc_law_kept.nd rfl (Or.inl rfl)) (pss_cons (ps_set (i := 5) sc_law_kept.nd rfl (Or.inl rfl) (pv 0))
      (C8.pss_cut (ps_if (pt_cmpR op_eq (pe_ix ix_tup (pv 4) pe_int (fun _ _ => rfl)) pe_str (nomark _)) (pss_one (ps_aug (i := 5) sc_law_kept.nd rfl (Or.inl rfl) (pe_ix ix_tup (pv 4) pe_int (fun _ _ => rfl)) ip_add)) pss_nil)
      (C8.pss_cut (ps_if (pt_cmpR op_eq (pe_ix ix_tup (pv 4) pe_int (fun _ _ => rfl)) pe_str (nomark _)) (pss_one (ps_aug (i := 5) sc_law_kept.nd rfl (Or.inl rfl) (pe_ix ix_tup (pv 4) pe_int (fun _ _ => rfl)) ip_sub)) pss_nil)
      (pss_one (ps_if (pt_chain op_le op_lt pe_int (pv 5) (pv 1)) (pss_cons (ps_set (i := 0) sc_law_kept.nd rfl (Or.inl rfl) (pv 5))
      (pss_one (ps_expr (pe_bm PySem.F.plainAttrs_list PySem.F.slot_list_append PySem.F.type_list_append mt_append (pv 3) (pa_cons (pv 4) pa_nil))))) pss_nil))))))
      (pss_one (ps_ret (pv 3))))), ?_⟩
    refine ⟨Nat.zero_le _, fun D hD => ?_⟩
    have eD : Same H (upd H D (.lst [])) := same_upd (Same.refl H) hD
    refine ⟨_, rfl, l, rfl, ⟨_, eD.seq hl⟩, for_list (K := K) (a := l) (xs := xs) (fun i σ H' => ∃ (v4 v5 : Option V) (ys : List V) (ds : List Cmd), σ = [some (.int (spot + last ds)), some (.int many), some (.ref l), some (.ref D), v4, v5] ∧ Same H H' ∧ H' D = some (.lst ys) ∧ CmdsOf K H' ys ds ∧
        AllOk ds ∧ (∀ c ∈ ds, CSml c) ∧ ds.length ≤ i ∧ Within ds (-spot) (many - 1 - spot))
      ⟨none, none, [], [], by show _ = [some (V.int (spot + 0)), _, _, _, _, _]; rw [Int.add_zero]; rfl, eD, upd_same, .nil, (fun _ h => nomatch h), (fun _ h => nomatch h), Nat.le_refl _, fun i => by rw [List.take_nil]; show _ ≤ (0 : Int) ∧ (0 : Int) ≤ _; omega⟩
      (fun i σ H' _ ⟨_, _, _, _, _, e, _⟩ => e.seq hl) (fun i y σ H2 hi h => ?_) (fun σ H2 h => ?_)⟩
    · obtain ⟨v4, v5, ys, ds, rfl, e2, hd, hds, okd, smd, lnd, wd⟩ := h
      obtain ⟨c, hc, q, rfl, hq0⟩ := paired_at hcs hi
      have li := (List.getElem?_eq_some_iff.mp hc).1
      have hq := seq_t e2 hq0
      have okc := ok c (List.mem_of_getElem? hc)
      have smc := sm c (List.mem_of_getElem? hc)
      have yl := hds.len
      refine ⟨_, rfl, ?_⟩
      refine ⟨fun σ H' => σ = [some (.int (spot + last ds)), some (.int many), some (.ref l), some (.ref D), some (.ref q), some (.int (spot + last ds + (if 0 < c.dv then c.dv else 0)))] ∧ H' = H2, ?_, ?_⟩
      · cases c with
        | down n =>
          have o : 1 ≤ n := okc
          refine ⟨_, rfl, q, _, 0, _, rfl, rfl, hq, rfl, rfl, true, by decide +kernel, iteT ?_⟩
          refine ⟨_, rfl, _, rfl, q, _, 1, _, rfl, rfl, hq, rfl, _, _, rfl, rfl, ?_⟩
          rw [if_pos (show 0 < (Cmd.down n).dv from by show 0 < n; omega)]
          exact ⟨rfl, rfl⟩
        | up n =>
          have o : 1 ≤ n := okc
          refine ⟨_, rfl, q, _, 0, _, rfl, rfl, hq, rfl, rfl, false, by decide +kernel, iteF ?_⟩
          rw [if_neg (show ¬ 0 < (Cmd.up n).dv from by show ¬ 0 < -n; omega), Int.add_zero]
          exact ⟨rfl, rfl⟩
        | left n =>
          refine ⟨_, rfl, q, _, 0, _, rfl, rfl, hq, rfl, rfl, false, by decide +kernel, iteF ?_⟩
          rw [if_neg (show ¬ 0 < (Cmd.left n).dv from Int.lt_irrefl 0), Int.add_zero]
          exact ⟨rfl, rfl⟩
        | right n =>
          refine ⟨_, rfl, q, _, 0, _, rfl, rfl, hq, rfl, rfl, false, by decide +kernel, iteF ?_⟩
          rw [if_neg (show ¬ 0 < (Cmd.right n).dv from Int.lt_irrefl 0), Int.add_zero]
          exact ⟨rfl, rfl⟩
        | home =>
          refine ⟨_, rfl, q, _, 0, _, rfl, rfl, hq, rfl, rfl, false, by decide +kernel, iteF ?_⟩
          rw [if_neg (show ¬ 0 < (Cmd.home).dv from by decide), Int.add_zero]
          exact ⟨rfl, rfl⟩
        | stop =>
          refine ⟨_, rfl, q, _, 0, _, rfl, rfl, hq, rfl, rfl, false, by decide +kernel, iteF ?_⟩
          rw [if_neg (show ¬ 0 < (Cmd.stop).dv from by decide), Int.add_zero]
          exact ⟨rfl, rfl⟩
      · rintro σ H3 ⟨rfl, rfl⟩
        refine ⟨fun σ H' => σ = [some (.int (spot + last ds)), some (.int many), some (.ref l), some (.ref D), some (.ref q), some (.int (spot + last ds + c.dv))] ∧ H' = H3, ?_, ?_⟩
        · cases c with
          | down n =>
            have o : 1 ≤ n := okc
            refine ⟨_, rfl, q, _, 0, _, rfl, rfl, hq, rfl, rfl, false, by decide +kernel, iteF ?_⟩
            rw [if_pos (show 0 < (Cmd.down n).dv from by show 0 < n; omega)]
            exact ⟨rfl, rfl⟩
          | up n =>
            have o : 1 ≤ n := okc
            refine ⟨_, rfl, q, _, 0, _, rfl, rfl, hq, rfl, rfl, true, by decide +kernel, iteT ?_⟩
            refine ⟨_, rfl, _, rfl, q, _, 1, _, rfl, rfl, hq, rfl, _, _, rfl, rfl, ?_⟩
            rw [if_neg (show ¬ 0 < (Cmd.up n).dv from by show ¬ 0 < -n; omega), Int.add_zero]
            exact ⟨rfl, rfl⟩
          | left n =>
            refine ⟨_, rfl, q, _, 0, _, rfl, rfl, hq, rfl, rfl, false, by decide +kernel, iteF ?_⟩
            exact ⟨rfl, rfl⟩
          | right n =>
            refine ⟨_, rfl, q, _, 0, _, rfl, rfl, hq, rfl, rfl, false, by decide +kernel, iteF ?_⟩
            exact ⟨rfl, rfl⟩
          | home =>
            refine ⟨_, rfl, q, _, 0, _, rfl, rfl, hq, rfl, rfl, false, by decide +kernel, iteF ?_⟩
            exact ⟨rfl, rfl⟩
          | stop =>
            refine ⟨_, rfl, q, _, 0, _, rfl, rfl, hq, rfl, rfl, false, by decide +kernel, iteF ?_⟩
            exact ⟨rfl, rfl⟩
        · rintro σ H4 ⟨rfl, rfl⟩
          refine ⟨_, rfl, _, _, rfl, rfl, _, rfl, ite2 (fun c0 => ?_) (fun c0 => ?_)⟩
          · have c0' : 0 ≤ spot + last ds + c.dv := of_decide_eq_true c0
            refine ⟨_, rfl, _, _, rfl, rfl, _, rfl, ite2 (fun c1 => ?_) (fun c1 => ?_)⟩
            · have c1' : spot + last ds + c.dv < many := of_decide_eq_true c1
              refine ⟨_, rfl, ?_⟩
              refine ⟨_, rfl, .inl ⟨rfl, _, SqL.of hd⟩, _, rfl, D, _, _, rfl, rfl, hd, small_n (by omega), ?_⟩
              refine ⟨some (.ref q), some (.int (spot + last ds + c.dv)), ys ++ [.ref q], ds ++ [c], ?_, same_freeU e2 hD, upd_same, Paired.snocB (hds.lput hd) ?_, ?_, ?_, ?_, wd.snoc (by omega) (by omega)⟩
              · rw [last_snoc, ← Int.add_assoc]
                rfl
              · refine ⟨q, rfl, ?_⟩
                rcases hq with (z | ⟨o, z⟩) | z
                · exact .inl (.inl (by rw [upd_ne (ne_of z hd (by intro q; cases q))]; exact z))
                · exact .inl (.inr ⟨o, by rw [upd_ne (ne_of z hd (by intro q; cases q))]; exact z⟩)
                · exact .inr z
              · intro d h
                rcases List.mem_append.mp h with z | z
                · exact okd d z
                · rw [List.mem_singleton.mp z]
                  exact okc
              · intro d h
                rcases List.mem_append.mp h with z | z
                · exact smd d z
                · rw [List.mem_singleton.mp z]
                  exact smc
              · rw [List.length_append, List.length_singleton]
                omega
            · exact ⟨_, _, ys, ds, rfl, e2, hd, hds, okd, smd, by omega, wd⟩
          · exact ⟨_, rfl, iteF ⟨_, _, ys, ds, rfl, e2, hd, hds, okd, smd, by omega, wd⟩⟩
    · obtain ⟨v4, v5, ys, ds, rfl, e2, hd, hds, okd, smd, lnd, wd⟩ := h
      have xl := hcs.len
      exact ⟨_, rfl, k _ D ys ds e2 hD hd hds okd smd (by omega) wd⟩
end
end Gc

/-! the program's counts of texts, where nothing is raised -/
namespace Gc
open PySem L2
abbrev s_count_texts : Stmt := top 20
abbrev s_count_reaching : Stmt := top 21
@[irreducible] def zBox (K : PySem.W.Frag) : Sp := spBox K
theorem zBox_eq (K : PySem.W.Frag) : zBox K = spBox K := by unfold zBox; rfl
structure TxtN (mg : Str → Option Value) : Prop where
  range : mg "range" = none
  len : mg "len" = none
  max : mg "max" = none
/-- a box that is met with: its tuple, its list, its pairs -/
def BoxW (H : Hp) (v : V) : Option (Option Int × Ps) → Prop
  | none => v = .non
  | some x => ∃ (p m : Addr) (ts : List Addr), v = .ref p ∧ H p = some (.tup [optV x.1, .ref m]) ∧ H m = some (.lst (ts.map V.ref)) ∧ Paired (fun (t : Addr) (q : Int × Int) => H t = some (.tup [.int q.1, .int q.2])) ts x.2
theorem ask_boxW {K : PySem.W.Frag} {H : Hp} {Q : VK} {E : XK} {l : Addr} {xs : List V} {cs : List Cmd} {goal : Int} (hl : SqL K H l xs) (hc : CmdsOf K H xs cs) (ok : AllOk cs) (ln : cs.length ≤ 10000) (hg : 1 ≤ goal)
    (k : ∀ H' v, Same H H' → BoxW H' v (boxM cs goal) → Q v H') : zBox K [.ref l, .int goal] H Q E := by
  rw [zBox_eq]
  refine ⟨l, xs, cs, goal, rfl, hl, hc, ok, ln, hg, fun e H' s => k H' .non s (by rw [e]; rfl), fun st L e H' p s b => k H' (.ref p) s ?_⟩
  rw [e]
  obtain ⟨m, ts, np, nm, h1, h2, h3⟩ := b
  exact ⟨p, m, ts, rfl, h1, h2, h3⟩
/-- the number of texts on which at least a goal is reached -/
def boxFor (cs : List Cmd) (goal : Int) : Option (Option Int × Ps) := if goal = 0 then some (none, []) else boxM cs goal
def tooSmall : Option Int → Option Int → Bool
  | some n, some x => decide (x < n)
  | _, _ => false
def reachN (lines : Nat) (M : Int) (start : Option Int) (cs : List Cmd) (goal : Int) : Int := match boxFor cs goal with
  | none => 0
  | some x => if tooSmall x.1 start = true then 0 else prodL M x.2 * M ^ (lines - x.2.length)
def CmdsIn (K : PySem.W.Frag) (H : Hp) (l : Addr) (xs : List V) (cs : List Cmd) : Prop := SqL K H l xs ∧ CmdsOf K H xs cs ∧ AllOk cs ∧ cs.length ≤ 100
def spReaching (K : PySem.W.Frag) : Sp := fun vs H Q _ => ∃ (lines : Nat) (longest : Int) (start : Option Int) (l : Addr) (xs : List V) (cs : List Cmd) (goal : Int), vs = [.int lines, .int longest, optV start, .ref l, .int goal] ∧ CmdsIn K H l xs cs ∧ lines ≤ 40 ∧ 0 ≤ longest ∧ longest < 2 ^ 110 ∧ 0 ≤ goal ∧
  (∀ x, boxFor cs goal = some x → x.2.length ≤ lines ∧ ∀ q ∈ x.2, 1 ≤ q.2) ∧ ∀ H', Same H H' → Q (.int (reachN lines (longest + 1) start cs goal)) H'
def countN (lines : Nat) (longest row : Int) (start : Option Int) (cs : List Cmd) (goal : Option Int) : Int :=
  if row + (rchM cs).1 < 0 ∨ (lines : Int) ≤ row + (rchM cs).2.1 then 0 else match goal with
    | none => reachN lines (longest + 1) start cs (max longest (start.getD 0) + 1)
    | some v => reachN lines (longest + 1) start cs v - reachN lines (longest + 1) start cs (v + 1)
def spCountT (K : PySem.W.Frag) : Sp := fun vs H Q _ => ∃ (lines : Nat) (longest row : Int) (start : Option Int) (c l : Addr) (xs : List V) (cs : List Cmd) (goal : Option Int), vs = [.int lines, .int longest, .ref c, .ref l, optV goal] ∧ SqT K H c [.int row, optV start] ∧ CmdsIn K H l xs cs ∧
  1 ≤ lines ∧ lines ≤ 40 ∧ 0 ≤ longest ∧ longest < 2 ^ 110 ∧ 0 ≤ row ∧ row < lines ∧ ge start 0 ∧ ge goal 0 ∧ ∀ H', Same H H' → Q (.int (countN lines longest row start cs goal)) H'
theorem rch_in2 (cs : List Cmd) : Within cs (rchM cs).1 (rchM cs).2.1 ∧ (rchM cs).2.2 = last cs := by
  have key : ∀ n, n ≤ cs.length → (∀ i, i ≤ n → (rchM (cs.take n)).1 ≤ last (cs.take i) ∧ last (cs.take i) ≤ (rchM (cs.take n)).2.1) ∧ (rchM (cs.take n)).2.2 = last (cs.take n) := by
    intro n
    induction n with
    | zero =>
      intro _
      refine ⟨fun i hi => ?_, rfl⟩
      obtain rfl : i = 0 := by omega
      exact ⟨Int.le_refl 0, Int.le_refl 0⟩
    | succ n ih =>
      intro hn
      obtain ⟨h1, h2⟩ := ih (by omega)
      have hc : cs[n]? = some cs[n] := List.getElem?_eq_getElem (by omega)
      rw [rch_more hc]
      have lm : last (cs.take (n + 1)) = last (cs.take n) + cs[n].dv := by rw [take_snoc hc, last_snoc]
      unfold rstep
      refine ⟨fun i hi => ?_, by rw [h2, lm]⟩
      have top : (if (rchM (cs.take n)).2.2 + cs[n].dv < (rchM (cs.take n)).1 then (rchM (cs.take n)).2.2 + cs[n].dv else (rchM (cs.take n)).1) ≤ (rchM (cs.take n)).1 ∧ (if (rchM (cs.take n)).2.2 + cs[n].dv < (rchM (cs.take n)).1 then (rchM (cs.take n)).2.2 + cs[n].dv else (rchM (cs.take n)).1) ≤ (rchM (cs.take n)).2.2 + cs[n].dv := by
        split <;> omega
      have bot : (rchM (cs.take n)).2.1 ≤ (if (rchM (cs.take n)).2.2 + cs[n].dv > (rchM (cs.take n)).2.1 then (rchM (cs.take n)).2.2 + cs[n].dv else (rchM (cs.take n)).2.1) ∧ (rchM (cs.take n)).2.2 + cs[n].dv ≤ (if (rchM (cs.take n)).2.2 + cs[n].dv > (rchM (cs.take n)).2.1 then (rchM (cs.take n)).2.2 + cs[n].dv else (rchM (cs.take n)).2.1) := by
        split <;> omega
      by_cases e : i = n + 1
      · subst e
        rw [lm, ← h2]
        exact ⟨top.2, bot.2⟩
      · have q := h1 i (by omega)
        exact ⟨Int.le_trans top.1 q.1, Int.le_trans q.2 bot.1⟩
  have kl := key cs.length (Nat.le_refl _)
  rw [List.take_length] at kl
  refine ⟨fun i => ?_, kl.2⟩
  by_cases l : i ≤ cs.length
  · exact kl.1 i l
  · rw [List.take_of_length_le (by omega)]
    have := kl.1 cs.length (Nat.le_refl _)
    rw [List.take_length] at this
    exact this
theorem rch_in (cs : List Cmd) : Within cs (rchM cs).1 (rchM cs).2.1 := (rch_in2 cs).1
theorem boxFor_fit {cs : List Cmd} {goal row : Int} {lines : Nat} (ok : AllOk cs) (g0 : 0 ≤ goal) (w : Within cs (-row) (lines - 1 - row)) (x : Option Int × Ps) (h : boxFor cs goal = some x) :
    Asc x.2 ∧ (∀ q ∈ x.2, 0 ≤ row + q.1 ∧ row + q.1 < lines) ∧ x.2.length ≤ lines ∧ ∀ q ∈ x.2, 1 ≤ q.2 := by
  unfold boxFor at h
  by_cases e : goal = 0
  · rw [if_pos e] at h
    cases h
    exact ⟨List.Pairwise.nil, (fun _ h => nomatch h), Nat.zero_le _, (fun _ h => nomatch h)⟩
  · rw [if_neg e] at h
    obtain ⟨st, L⟩ := x
    have bw := box_within h w
    rcases box_spec ok (show 1 ≤ goal by omega) with ⟨b1, _⟩ | ⟨st', b, b1, gb, _, pb⟩
    · rw [b1] at h
      cases h
    · rw [b1] at h
      cases h
      have g := good_perm gb (List.mergeSort_perm b leK)
      have a := asc_sort gb
      have inn : ∀ q ∈ b.mergeSort leK, 0 ≤ row + q.1 ∧ row + q.1 < lines := fun q hq => by
        have := bw q hq
        omega
      have z := w.zero
      have ln := asc_len (lo := -row) (hi := lines - 1 - row) a (fun q hq => bw q hq) (by omega)
      exact ⟨a, inn, by show (b.mergeSort leK).length ≤ lines; omega, g.pos⟩
@[irreducible] def zReach (K : PySem.W.Frag) : Sp := spReach K
theorem zReach_eq (K : PySem.W.Frag) : zReach K = spReach K := by unfold zReach; rfl
@[irreducible] def zReaching (K : PySem.W.Frag) : Sp := spReaching K
theorem zReaching_eq (K : PySem.W.Frag) : zReaching K = spReaching K := by unfold zReaching; rfl
theorem ask_reach {K : PySem.W.Frag} {H : Hp} {Q : VK} {E : XK} {l : Addr} {xs : List V} {cs : List Cmd} (ci : CmdsIn K H l xs cs) (k : ∀ (H' : Hp) (p : Addr), Same H H' → H' p = some (.tup [.int (rchM cs).1, .int (rchM cs).2.1, .int (last cs)]) → Q (.ref p) H') : zReach K [.ref l] H Q E := by
  rw [zReach_eq]
  obtain ⟨hl, hcs, ok, ln⟩ := ci
  exact ⟨l, xs, cs, rfl, hl, hcs, ok, by omega, fun H' p e _ hp => k H' p e hp⟩
theorem CmdsIn.same {K : PySem.W.Frag} {H H' : Hp} {l : Addr} {xs : List V} {cs : List Cmd} (e : Same H H') (h : CmdsIn K H l xs cs) : CmdsIn K H' l xs cs := ⟨e.seq h.1, h.2.1.same e, h.2.2⟩
theorem ask_reaching {K : PySem.W.Frag} {H : Hp} {Q : VK} {E : XK} {lines : Nat} {longest row goal : Int} {start : Option Int} {l : Addr} {xs : List V} {cs : List Cmd} (ci : CmdsIn K H l xs cs) (ll : lines ≤ 40) (z0 : 0 ≤ longest) (z1 : longest < 2 ^ 110) (g0 : 0 ≤ goal)
    (w : Within cs (-row) (lines - 1 - row)) (k : ∀ H', Same H H' → Q (.int (reachN lines (longest + 1) start cs goal)) H') : zReaching K [.int lines, .int longest, optV start, .ref l, .int goal] H Q E := by
  rw [zReaching_eq]
  refine ⟨lines, longest, start, l, xs, cs, goal, rfl, ci, ll, z0, z1, g0, fun x hx => ?_, k⟩
  obtain ⟨_, _, h3, h4⟩ := boxFor_fit ci.2.2.1 g0 w x hx
  exact ⟨h3, h4⟩
theorem fac_size {M b : Int} (h0 : 0 ≤ M) (h : M < 2 ^ 111) (b0 : 0 ≤ b) : (fac M b).natAbs < 2 ^ 111 := by
  unfold fac
  omega
theorem grow_size {c d : Int} {i : Nat} (hc : c.natAbs < 2 ^ (112 * i + 1)) (hd : d.natAbs < 2 ^ 111) : (c * d).natAbs < 2 ^ (112 * (i + 1) + 1) := by
  have := wide_lt hc hd
  exact Nat.lt_of_lt_of_le this (Nat.pow_le_pow_right (by decide) (by omega))
theorem prodL_snoc (M : Int) (L : Ps) (q : Int × Int) : prodL M (L ++ [q]) = prodL M L * fac M q.2 := by
  unfold prodL
  rw [List.foldl_append]
  rfl
section
variable {P : Program} {w : World} {K : PySem.W.Frag} {mg : Str → Option Value} {base : Heap} {wo wn : Addr}
theorem sc_count_reaching : FnScope ["lines", "longest", "start", "commands", "goal", "found", "least", "bounds", "count", "_", "bound"] ["lines", "longest", "start", "commands", "goal"] (defScope s_count_reaching) := ⟨rfl, rfl, rfl, by decide +kernel, rfl, by decide +kernel, by decide +kernel⟩
theorem ok_count_reaching {f : Addr} {fd : FuncData} (F : Fun K "count_reaching" "count_reaching" s_count_reaching f fd) (T : TxtN mg) (c_box : Cal P w K mg base 5 "box" (zBox K)) : FnOk P w K mg base CX0 6 f fd ["lines", "longest", "start", "commands", "goal"] (spReaching K) := by
  refine F.ok sc_count_reaching (fun vs H Q E h => ?_) (fun cdv A outer s H vs Q E hr h => ?_)
  · obtain ⟨lines, longest, start, l, xs, cs, goal, rfl, _⟩ := h
    rfl
  · obtain ⟨lines, longest, start, l, xs, cs, goal, rfl, ⟨hl, hcs, ok, ln⟩, ll, z0, z1, g0, hb, k⟩ := h
    refine ⟨_, (C8.pss_cut (ps_set (i := 5) sc_count_reaching.nd rfl (Or.inl rfl) (pe_ifExp (pt_cmpR op_eq (pv 4) pe_int (nomark _)) (pe_tup (pa_cons pe_non (pa_cons (pe_lst pa_nil) pa_nil))) (pe_cal c_box hr (by decide) (by rfl) (pa_cons (pv 3) (pa_cons (pv 4) pa_nil)))))
      (pss_cons (ps_if (pt_cmpR op_isN (pv 5) pe_non (nomark _)) (pss_one (ps_ret pe_int)) pss_nil)
      (pss_cons (ps_asg (pv 5) (pg_tup rfl (pgs_cons (pg_name (i := 6) sc_count_reaching.nd rfl (Or.inl rfl)) (pgs_cons (pg_name (i := 7) sc_count_reaching.nd rfl (Or.inl rfl)) pgs_nil))))
      (C8.pss_cut (ps_if (PW.pt (pw_and (pt_cmpR op_notN (pv 6) pe_non (nomark _)) (pw_and (pt_cmpR op_notN (pv 2) pe_non (nomark _)) (pw_and1 (pt_cmpR op_lt (pv 2) (pv 6) (nomark _)))))) (pss_one (ps_ret pe_int)) pss_nil)
      (pss_cons (ps_set (i := 8) sc_count_reaching.nd rfl (Or.inl rfl) pe_int)
      (pss_cons (ps_for PassesOwn.never rfl (pi_list (pv 7)) (pg_tup rfl (pgs_cons (pg_name (i := 9) sc_count_reaching.nd rfl (Or.inl rfl)) (pgs_cons (pg_name (i := 10) sc_count_reaching.nd rfl (Or.inl rfl)) pgs_nil))) (pss_one (ps_aug (i := 8) sc_count_reaching.nd rfl (Or.inl rfl) (pe_callB (call_max2 rfl) (by rfl) T.max (by decide +kernel) (pa_cons (pe_op op_sub (pe_op op_add (pv 1) pe_int) (pv 10)) (pa_cons pe_int pa_nil))) ip_mulW)))
      (pss_cons (ps_for PassesOwn.never rfl (pi_range1 rfl T.range (pa_cons (pe_op op_sub (pv 0) (pe_callB call_len_seq (by rfl) T.len (by decide +kernel) (pa_cons (pv 7) pa_nil))) pa_nil)) (pg_name (i := 9) sc_count_reaching.nd rfl (Or.inl rfl)) (pss_one (ps_aug (i := 8) sc_count_reaching.nd rfl (Or.inl rfl) (pe_op op_add (pv 1) pe_int) ip_mulW)))
      (pss_one (ps_ret (pv 8)))))))))), ?_⟩
    refine ⟨fun σ H' => ∃ v : V, σ = [some (.int lines), some (.int longest), some (optV start), some (.ref l), some (.int goal), some v, none, none, none, none, none] ∧ Same H H' ∧ BoxW H' v (boxFor cs goal), ?_, ?_⟩
    · refine ⟨_, rfl, rfl, _, rfl, ?_⟩
      by_cases e : goal = 0
      · subst e
        refine iteT ?_
        refine ⟨Nat.zero_le _, fun q hq => ⟨(by show 2 ≤ sizeLine; decide), fun p hp => ?_⟩⟩
        have s1 : Same H (upd H q (.lst [])) := same_upd (Same.refl _) hq
        have s2 : Same (upd H q (.lst [])) (upd (upd H q (.lst [])) p (.tup [.non, .ref q])) := same_upd (Same.refl _) hp
        exact ⟨_, rfl, s1.trans s2, p, q, [], rfl, upd_same, s2 _ _ upd_same, .nil⟩
      · rw [decide_eq_false (show ¬ V.int goal = V.int 0 from fun z => e (V.int.inj z))]
        refine iteF ?_
        refine ⟨_, rfl, _, rfl, ?_⟩
        refine ask_boxW hl hcs ok (by omega) (show 1 ≤ goal by omega) (fun H1 v e1 b1 => ?_)
        refine ⟨v, rfl, e1, ?_⟩
        unfold boxFor
        rw [if_neg e]
        exact b1
    · rintro σ H1 ⟨v, rfl, e1, hv⟩
      cases hbx : boxFor cs goal with
      | none =>
        rw [hbx] at hv
        obtain rfl : v = .non := hv
        refine ⟨_, rfl, rfl, _, rfl, iteT ?_⟩
        have e0 : reachN lines (longest + 1) start cs goal = 0 := by
          unfold reachN
          rw [hbx]
        rw [e0] at k
        exact k H1 e1
      | some x =>
        rw [hbx] at hv
        obtain ⟨st, L⟩ := x
        obtain ⟨Ll, Lp⟩ := hb _ hbx
        have Ll' : L.length ≤ lines := Ll
        obtain ⟨p, m, ts, rfl, h1, h2, h3⟩ := hv
        have h3' : Paired (fun (t : Addr) (q : Int × Int) => H1 t = some (.tup [.int q.1, .int q.2])) ts L := h3
        have tl : ts.length = L.length := Paired.length h3'
        refine ⟨_, rfl, rfl, _, rfl, iteF ?_⟩
        refine ⟨_, rfl, p, _, rfl, SqT.of h1, rfl, _, _, rfl, _, _, rfl, rfl, ?_⟩
        refine ⟨fun σ H' => σ = [some (.int lines), some (.int longest), some (optV start), some (.ref l), some (.int goal), some (.ref p), some (optV st), some (.ref m), none, none, none] ∧ H' = H1 ∧ tooSmall st start = false, ?_, ?_⟩
        · cases st with
          | none => exact ⟨_, rfl, rfl, _, rfl, iteF (iteF ⟨rfl, rfl, rfl⟩)⟩
          | some n =>
            refine ⟨_, rfl, rfl, _, rfl, iteT ?_⟩
            cases start with
            | none => exact ⟨_, rfl, rfl, _, rfl, iteF (iteF ⟨rfl, rfl, rfl⟩)⟩
            | some y =>
              refine ⟨_, rfl, rfl, _, rfl, iteT ?_⟩
              refine ⟨_, rfl, _, rfl, _, _, rfl, rfl, _, rfl, ite2 (fun c => ?_) (fun c => ?_)⟩
              · have e0 : reachN lines (longest + 1) (some y) cs goal = 0 := by
                  unfold reachN
                  rw [hbx]
                  exact if_pos c
                rw [e0] at k
                exact k H1 e1
              · exact ⟨rfl, rfl, Bool.eq_false_iff.mpr c⟩
        · rintro σ H2 ⟨rfl, rfl, hts⟩
          have eN : reachN lines (longest + 1) start cs goal = prodL (longest + 1) L * (longest + 1) ^ (lines - L.length) := by
            unfold reachN
            rw [hbx]
            show (if tooSmall st start = true then (0 : Int) else _) = _
            rw [if_neg (by rw [hts]; exact Bool.false_ne_true)]
          rw [eN] at k
          have M0 : 0 ≤ longest + 1 := by omega
          have M1 : longest + 1 < 2 ^ 111 := by omega
          refine ⟨_, rfl, m, rfl, ⟨_, SqL.of h2⟩, for_list (K := K) (a := m) (xs := ts.map V.ref) (fun i σ H' => ∃ v9 v10 : Option V, σ = [some (.int lines), some (.int longest), some (optV start), some (.ref l), some (.int goal), some (.ref p), some (optV st), some (.ref m), some (.int (prodL (longest + 1) (L.take i))), v9, v10] ∧ H' = H2 ∧
              (prodL (longest + 1) (L.take i)).natAbs < 2 ^ (112 * i + 1))
            ⟨none, none, rfl, rfl, by show (1 : Int).natAbs < 2 ^ (112 * 0 + 1); decide⟩ (fun i σ H' _ ⟨_, _, _, e, _⟩ => e ▸ SqL.of h2) (fun i y σ H3 hi h => ?_) (fun σ H3 h => ?_)⟩
          · obtain ⟨v9, v10, rfl, rfl, sz⟩ := h
            obtain ⟨u, hu, rfl⟩ := ref_at hi
            obtain ⟨q, hq, ht1⟩ := paired_at h3' hu
            have li := (List.getElem?_eq_some_iff.mp hq).1
            have q1 := Lp q (List.mem_of_getElem? hq)
            have fs := fac_size M0 M1 (show 0 ≤ q.2 by omega)
            refine ⟨u, _, rfl, SqT.of ht1, rfl, _, _, rfl, _, _, rfl, rfl, ?_⟩
            refine ⟨_, rfl, _, rfl, _, _, rfl, rfl, _, rfl, _, _, rfl, rfl, _, _, rfl, ?_⟩
            have em : (if 0 > longest + 1 - q.2 then 0 else longest + 1 - q.2) = fac (longest + 1) q.2 := by
              unfold fac
              rw [maxI]
            rw [em]
            refine ⟨_, _, rfl, rfl, wide_mul (a := 112 * i + 1) (b := 111) sz fs (by omega) (by decide) (by omega), ?_⟩
            refine ⟨some (.int q.1), some (.int q.2), ?_, rfl, ?_⟩
            · rw [take_snoc hq, prodL_snoc]
              rfl
            · rw [take_snoc hq, prodL_snoc]
              exact grow_size sz fs
          · obtain ⟨v9, v10, rfl, rfl, sz⟩ := h
            rw [List.length_map, tl, List.take_length]
            rw [List.length_map, tl, List.take_length] at sz
            refine ⟨_, rfl, _, rfl, m, _, rfl, .inl (SqL.of h2), _, _, rfl, rfl, _, rfl, ?_, ?_, ?_⟩
            · rw [List.length_map]
              omega
            · rw [List.length_map]
              omega
            refine for_range (lo := 0) (fun j σ H' => ∃ v9 v10 : Option V, σ = [some (.int lines), some (.int longest), some (optV start), some (.ref l), some (.int goal), some (.ref p), some (optV st), some (.ref m), some (.int (prodL (longest + 1) L * (longest + 1) ^ j)), v9, v10] ∧ H' = H3 ∧
                (prodL (longest + 1) L * (longest + 1) ^ j).natAbs < 2 ^ (112 * (L.length + j) + 1))
              ⟨v9, v10, by rw [Int.pow_zero, Int.mul_one], rfl, by rw [Int.pow_zero, Int.mul_one]; exact sz⟩ (fun j σ H4 hj h => ?_) (fun σ H4 h => ?_)
            · obtain ⟨w9, w10, rfl, rfl, sz4⟩ := h
              rw [List.length_map, tl] at hj
              have ms : (longest + 1).natAbs < 2 ^ 111 := by omega
              refine ⟨_, rfl, _, rfl, _, _, rfl, rfl, _, _, rfl, rfl, wide_mul (a := 112 * (L.length + j) + 1) (b := 111) sz4 ms (by omega) (by decide) (by omega), ?_⟩
              refine ⟨some (.int (0 + (j : Int))), w10, ?_, rfl, ?_⟩
              · rw [Int.pow_succ, ← Int.mul_assoc]
                rfl
              · rw [Int.pow_succ, ← Int.mul_assoc]
                exact grow_size sz4 ms
            · obtain ⟨w9, w10, rfl, rfl, sz4⟩ := h
              rw [List.length_map, tl, show ((lines : Int) - (L.length : Nat)).toNat = lines - L.length by omega]
              exact ⟨_, rfl, k _ e1⟩
theorem sc_count_texts : FnScope ["lines", "longest", "cursor", "commands", "goal", "row", "start", "least", "greatest", "_", "beyond", "reaching"] ["lines", "longest", "cursor", "commands", "goal"] (defScope s_count_texts) := ⟨rfl, rfl, rfl, by decide +kernel, rfl, by decide +kernel, by decide +kernel⟩
theorem ok_count_texts {f : Addr} {fd : FuncData} (F : Fun K "count_texts" "count_texts" s_count_texts f fd) (T : TxtN mg) (c_check_number : Cal P w K mg base 1 "check_number" spNum) (c_check_cursor : Cal P w K mg base 1 "check_cursor" (spCursor K))
    (c_check_commands : Cal P w K mg base 3 "check_commands" (spCheck K)) (c_reach : Cal P w K mg base 4 "reach" (zReach K)) (c_count_reaching : Cal P w K mg base 6 "count_reaching" (zReaching K)) :
    FnOk P w K mg base CX0 7 f fd ["lines", "longest", "cursor", "commands", "goal"] (spCountT K) := by
  refine F.ok sc_count_texts (fun vs H Q E h => ?_) (fun cdv A outer s H vs Q E hr h => ?_)
  · obtain ⟨lines, longest, row, start, c, l, xs, cs, goal, rfl, _⟩ := h
    rfl
  · obtain ⟨lines, longest, row, start, c, l, xs, cs, goal, rfl, hc, ci, l1, ll, z0, z1, r0, r1, s0, g0, k⟩ := h
    obtain ⟨hl, hcs, ok, ln⟩ := id ci
    refine ⟨_, (pss_cons (ps_expr (pe_cal c_check_number hr (by decide) (by rfl) (pa_cons (pv 0) (pa_cons pe_int pa_nil))))
      (pss_cons (ps_expr (pe_cal c_check_number hr (by decide) (by rfl) (pa_cons (pv 1) (pa_cons pe_int pa_nil))))
      (pss_cons (ps_expr (pe_cal c_check_cursor hr (by decide) (by rfl) (pa_cons (pv 0) (pa_cons (pv 2) pa_nil))))
      (pss_cons (ps_expr (pe_cal c_check_commands hr (by decide) (by rfl) (pa_cons (pv 3) pa_nil)))
      (C8.pss_cut (ps_if (pt_cmpR op_notN (pv 4) pe_non (nomark _)) (pss_one (ps_expr (pe_cal c_check_number hr (by decide) (by rfl) (pa_cons (pv 4) (pa_cons pe_int pa_nil))))) pss_nil)
      (pss_cons (ps_asg (pv 2) (pg_tup rfl (pgs_cons (pg_name (i := 5) sc_count_texts.nd rfl (Or.inl rfl)) (pgs_cons (pg_name (i := 6) sc_count_texts.nd rfl (Or.inl rfl)) pgs_nil))))
      (pss_cons (ps_asg (pe_cal c_reach hr (by decide) (by rfl) (pa_cons (pv 3) pa_nil)) (pg_tup rfl (pgs_cons (pg_name (i := 7) sc_count_texts.nd rfl (Or.inl rfl)) (pgs_cons (pg_name (i := 8) sc_count_texts.nd rfl (Or.inl rfl)) (pgs_cons (pg_name (i := 9) sc_count_texts.nd rfl (Or.inl rfl)) pgs_nil)))))
      (pss_cons (ps_if (PW.pt (pw_or (pt_cmpR op_lt (pe_op op_add (pv 5) (pv 7)) pe_int (nomark _)) (pw_or1 (pt_cmpR op_ge (pe_op op_add (pv 5) (pv 8)) (pv 0) (nomark _))))) (pss_one (ps_ret pe_int)) pss_nil)
      (pss_cons (ps_if (pt_cmpR op_isN (pv 4) pe_non (nomark _)) (pss_cons (ps_set (i := 10) sc_count_texts.nd rfl (Or.inl rfl) (pe_op op_add (pe_callB (call_max2 rfl) (by rfl) T.max (by decide +kernel) (pa_cons (pv 1) (pa_cons (pe_ifExp (pt_cmpR op_isN (pv 6) pe_non (nomark _)) pe_int (pv 6)) pa_nil))) pe_int))
      (pss_one (ps_ret (pe_cal c_count_reaching hr (by decide) (by rfl) (pa_cons (pv 0) (pa_cons (pv 1) (pa_cons (pv 6) (pa_cons (pv 3) (pa_cons (pv 10) pa_nil))))))))) pss_nil)
      (pss_cons (ps_set (i := 11) sc_count_texts.nd rfl (Or.inl rfl) (pe_cal c_count_reaching hr (by decide) (by rfl) (pa_cons (pv 0) (pa_cons (pv 1) (pa_cons (pv 6) (pa_cons (pv 3) (pa_cons (pv 4) pa_nil)))))))
      (pss_one (ps_ret (pe_op op_sub (pv 11) (pe_cal c_count_reaching hr (by decide) (by rfl) (pa_cons (pv 0) (pa_cons (pv 1) (pa_cons (pv 6) (pa_cons (pv 3) (pa_cons (pe_op op_add (pv 4) pe_int) pa_nil))))))))))))))))))), ?_⟩
    refine ⟨_, rfl, lines, 1, rfl, by omega, ?_⟩
    refine ⟨_, rfl, longest, 0, rfl, z0, ?_⟩
    refine ⟨_, rfl, _, rfl, lines, row, start, c, rfl, hc, r0, r1, s0, ?_⟩
    refine ⟨_, rfl, l, xs, cs, rfl, hl, hcs, ok, by omega, fun H1 e1 => ?_⟩
    refine ⟨fun σ H' => σ = [some (.int lines), some (.int longest), some (.ref c), some (.ref l), some (optV goal), none, none, none, none, none, none, none] ∧ H' = H1, ?_, ?_⟩
    · cases goal with
      | none => exact ⟨_, rfl, rfl, _, rfl, iteF ⟨rfl, rfl⟩⟩
      | some v =>
        have v0 := ge_some.mp g0
        exact ⟨_, rfl, rfl, _, rfl, iteT ⟨_, rfl, v, 0, rfl, v0, rfl, rfl⟩⟩
    · rintro σ H2 ⟨rfl, rfl⟩
      refine ⟨_, rfl, c, _, rfl, seq_t e1 hc, rfl, _, _, rfl, _, _, rfl, rfl, ?_⟩
      refine ⟨_, rfl, ?_⟩
      refine ask_reach (ci.same e1) (fun H3 p3 e3 hp3 => ?_)
      have e13 := e1.trans e3
      refine ⟨p3, _, rfl, SqT.of hp3, rfl, _, _, rfl, _, _, rfl, _, _, rfl, rfl, ?_⟩
      have out : (row + (rchM cs).1 < 0 ∨ (lines : Int) ≤ row + (rchM cs).2.1) → Q (.int 0) H3 := fun z => by
        have e0 : countN lines longest row start cs goal = 0 := by
          unfold countN
          rw [if_pos z]
        rw [e0] at k
        exact k H3 e13
      refine ⟨_, rfl, _, rfl, _, _, rfl, rfl, _, _, rfl, rfl, _, rfl, ite2 (fun c0 => out (.inl (of_decide_eq_true c0))) (fun c0 => ?_)⟩
      refine ⟨_, rfl, _, rfl, _, _, rfl, rfl, _, rfl, _, _, rfl, rfl, _, rfl, ite2 (fun c1 => out (.inr (of_decide_eq_true c1))) (fun c1 => ?_)⟩
      have c0' : ¬ row + (rchM cs).1 < 0 := fun z => c0 (decide_eq_true z)
      have c1' : ¬ (lines : Int) ≤ row + (rchM cs).2.1 := fun z => c1 (decide_eq_true z)
      have wi : Within cs (-row) (lines - 1 - row) := fun i => by
        have := rch_in cs i
        omega
      cases goal with
      | none =>
        refine ⟨_, rfl, rfl, _, rfl, iteT ?_⟩
        have s1 : 0 ≤ start.getD 0 := by
          cases start with
          | none => exact Int.le_refl 0
          | some x => exact ge_some.mp s0
        have eN : countN lines longest row start cs none = reachN lines (longest + 1) start cs (max longest (start.getD 0) + 1) := by
          unfold countN
          rw [if_neg (by omega)]
        rw [eN] at k
        cases start with
        | none =>
          refine ⟨_, rfl, _, rfl, rfl, _, rfl, iteT ⟨_, _, rfl, _, _, rfl, rfl, ?_⟩⟩
          rw [maxI]
          refine ⟨_, rfl, _, rfl, _, rfl, _, rfl, _, rfl, ?_⟩
          exact ask_reaching (start := none) (goal := max longest 0 + 1) (row := row) (ci.same e13) ll z0 z1 (by omega) wi fun H4 e4 => k _ (e13.trans e4)
        | some x =>
          have x0 := ge_some.mp s0
          refine ⟨_, rfl, _, rfl, rfl, _, rfl, iteF ⟨_, rfl, _, _, rfl, _, _, rfl, rfl, ?_⟩⟩
          rw [maxI]
          refine ⟨_, rfl, _, rfl, _, rfl, _, rfl, _, rfl, ?_⟩
          exact ask_reaching (start := some x) (goal := max longest x + 1) (row := row) (ci.same e13) ll z0 z1 (by omega) wi fun H4 e4 => k _ (e13.trans e4)
      | some v =>
        have v0 := ge_some.mp g0
        have eN : countN lines longest row start cs (some v) = reachN lines (longest + 1) start cs v - reachN lines (longest + 1) start cs (v + 1) := by
          unfold countN
          rw [if_neg (by omega)]
        rw [eN] at k
        refine ⟨_, rfl, rfl, _, rfl, iteF ?_⟩
        refine ⟨_, rfl, _, rfl, _, rfl, _, rfl, _, rfl, ?_⟩
        refine ask_reaching (start := start) (goal := v) (row := row) (ci.same e13) ll z0 z1 v0 wi (fun H4 e4 => ?_)
        refine ⟨_, rfl, _, rfl, _, rfl, _, rfl, _, rfl, _, rfl, _, _, rfl, rfl, ?_⟩
        refine ask_reaching (start := start) (goal := v + 1) (row := row) (ci.same (e13.trans e4)) ll z0 z1 (by omega) wi (fun H5 e5 => ?_)
        exact ⟨_, _, rfl, rfl, k _ ((e13.trans e4).trans e5)⟩
end
end Gc

/-! the counts, over all texts -/
namespace Gc
def geB (a : Option Int) (n : Int) : Bool := match a with
  | none => true
  | some x => decide (n ≤ x)
theorem geB_iff {a : Option Int} {n : Int} : geB a n = true ↔ ge a n := by
  cases a with
  | none => exact ⟨fun _ => ge_none n, fun _ => rfl⟩
  | some x => exact decide_eq_true_iff.trans ge_some.symm
theorem afterL_out {T : List Int} : ∀ {cs : List Cmd} {r : Int} {a : Option Int} {x : Int × Option Int}, 0 ≤ r → r < T.length → afterL T r a cs = some x → Within cs (-r) (T.length - 1 - r)
  | [], r, a, x, h0, h1, _ => fun i => by
    rw [List.take_nil]
    show -r ≤ (0 : Int) ∧ (0 : Int) ≤ _
    omega
  | c :: cs, r, a, x, h0, h1, h => by
    rw [afterL_cons h0 h1] at h
    obtain ⟨⟨r2, g2⟩, hst, hrest⟩ := Option.bind_eq_some_iff.mp h
    have hin := step1_in hst
    have er : r2 = r + c.dv := by
      unfold step1 at hst
      split at hst
      · cases hst
        rfl
      · cases hst
    have ih := afterL_out hin.1 hin.2 hrest
    intro i
    cases i with
    | zero =>
      show -r ≤ (0 : Int) ∧ (0 : Int) ≤ _
      omega
    | succ i =>
      have q := ih i
      show -r ≤ c.dv + last (cs.take i) ∧ c.dv + last (cs.take i) ≤ _
      omega
/-- the reach is reached -/
theorem rch_hit (cs : List Cmd) : (∃ i, last (cs.take i) = (rchM cs).1) ∧ ∃ i, last (cs.take i) = (rchM cs).2.1 := by
  have key : ∀ n, n ≤ cs.length → (∃ i, last (cs.take i) = (rchM (cs.take n)).1) ∧ ∃ i, last (cs.take i) = (rchM (cs.take n)).2.1 := by
    intro n
    induction n with
    | zero => exact fun _ => ⟨⟨0, rfl⟩, ⟨0, rfl⟩⟩
    | succ n ih =>
      intro hn
      obtain ⟨⟨i, hi⟩, ⟨j, hj⟩⟩ := ih (by omega)
      have hc : cs[n]? = some cs[n] := List.getElem?_eq_getElem (by omega)
      have lm : last (cs.take (n + 1)) = last (cs.take n) + cs[n].dv := by rw [take_snoc hc, last_snoc]
      have lt := (rch_in2 (cs.take n)).2
      rw [rch_more hc]
      unfold rstep
      rw [lt, ← lm]
      constructor
      · by_cases z : last (cs.take (n + 1)) < (rchM (cs.take n)).1
        · exact ⟨n + 1, by rw [if_pos z]⟩
        · exact ⟨i, by rw [if_neg z]; exact hi⟩
      · by_cases z : last (cs.take (n + 1)) > (rchM (cs.take n)).2.1
        · exact ⟨n + 1, by rw [if_pos z]⟩
        · exact ⟨j, by rw [if_neg z]; exact hj⟩
  have q := key cs.length (Nat.le_refl _)
  rw [List.take_length] at q
  exact q
theorem rch_le {cs : List Cmd} {lo hi : Int} (w : Within cs lo hi) : lo ≤ (rchM cs).1 ∧ (rchM cs).2.1 ≤ hi := by
  obtain ⟨⟨i, hi1⟩, ⟨j, hj⟩⟩ := rch_hit cs
  have a := w i
  have b := w j
  omega
theorem aimF_le {T : Int → Int} {B : Int} (hB : ∀ k, T k ≤ B) (b0 : 0 ≤ B) : ∀ {cs : List Cmd} {r : Int} {a : Option Int}, AllOk cs → (∀ x, a = some x → x ≤ B) → ∀ x, aimF T r a cs = some x → x ≤ B
  | [], r, a, _, h => h
  | c :: cs, r, a, ok, h => by
    refine aimF_le hB b0 (cs := cs) (r := r + c.dv) (fun d hd => ok d (List.mem_cons_of_mem _ hd)) fun x hx => ?_
    have okc := ok c List.mem_cons_self
    have tb := hB r
    have sb : seen (T r) a ≤ B := by
      cases a with
      | none => exact tb
      | some y =>
        show min y (T r) ≤ B
        omega
    cases c with
    | down n => exact h x hx
    | up n => exact h x hx
    | home => cases hx; exact b0
    | stop => cases hx
    | right n =>
      cases hx
      omega
    | left n =>
      have o : 1 ≤ n := okc
      cases hx
      omega
theorem reach_count {most n : Nat} {row : Int} {start : Option Int} {cs : List Cmd} {goal : Int} (ok : AllOk cs) (s0 : ge start 0) (g0 : 0 ≤ goal) (w : Within cs (-row) (n - 1 - row)) :
    (((texts most n).countP (fun T => geB (aimF (lenAt T) row start cs) goal) : Nat) : Int) = reachN n ((most : Int) + 1) start cs goal := by
  have pos : ∀ T ∈ texts most n, ∀ k, 0 ≤ lenAt T k := fun T hT => lenAt_nn fun x hx => ((texts_ok hT).2 x hx).1
  by_cases e : goal = 0
  · subst e
    have all : (texts most n).countP (fun T => geB (aimF (lenAt T) row start cs) 0) = (texts most n).countP (meets (fun _ => 0) n) := List.countP_congr fun T hT => by
      rw [geB_iff, meets_iff]
      exact ⟨fun _ i hi => by have := pos T hT (i : Int); unfold lenAt at this; simpa using this, fun _ => aimF_nn (pos T hT) ok s0⟩
    rw [all, count_texts (fun _ => Int.le_refl 0)]
    have z := prod_all (M := (most : Int) + 1) (row := 0) (by omega) (n := n) (L := []) List.Pairwise.nil (fun _ h => nomatch h)
    unfold reachN boxFor
    rw [if_pos rfl]
    show _ = (if tooSmall none start = true then (0 : Int) else prodL ((most : Int) + 1) [] * ((most : Int) + 1) ^ (n - 0))
    rw [if_neg (show ¬ tooSmall none start = true from Bool.false_ne_true)]
    exact z.symm
  · have g1 : 1 ≤ goal := by omega
    have fit := boxFor_fit (goal := goal) ok g0 w
    have char := fun T (hT : T ∈ texts most n) => box_char (pos T hT) (r := row) s0 ok g1
    unfold reachN
    have eb : boxFor cs goal = boxM cs goal := by
      unfold boxFor
      rw [if_neg e]
    rw [eb] at fit ⊢
    cases hb : boxM cs goal with
    | none =>
      show _ = (0 : Int)
      have : (texts most n).countP (fun T => geB (aimF (lenAt T) row start cs) goal) = 0 := List.countP_eq_zero.mpr fun T hT z => by
        obtain ⟨st, L, q, _⟩ := (char T hT).mp (geB_iff.mp z)
        rw [hb] at q
        cases q
      rw [this]
      rfl
    | some x =>
      obtain ⟨st, L⟩ := x
      obtain ⟨asc, inn, _, _⟩ := fit _ hb
      show _ = (if tooSmall st start = true then (0 : Int) else prodL ((most : Int) + 1) L * ((most : Int) + 1) ^ (n - L.length))
      have small : tooSmall st start = true ↔ ¬ ∀ m, st = some m → ge start m := by
        cases st with
        | none => exact ⟨fun z => (nomatch (show false = true from z)), fun z => absurd (fun m h => nomatch h) z⟩
        | some m =>
          cases start with
          | none => exact ⟨fun z => (nomatch (show false = true from z)), fun z => absurd (fun m h => ge_none m) z⟩
          | some y =>
            show decide (y < m) = true ↔ _
            rw [decide_eq_true_iff]
            constructor
            · intro h z
              have := ge_some.mp (z m rfl)
              omega
            · intro z
              by_cases q : y < m
              · exact q
              · exact absurd (fun m' h => by cases h; exact ge_some.mpr (by omega)) z
      by_cases ts : tooSmall st start = true
      · rw [if_pos ts]
        have : (texts most n).countP (fun T => geB (aimF (lenAt T) row start cs) goal) = 0 := List.countP_eq_zero.mpr fun T hT z => by
          obtain ⟨st', L', q, q2, _⟩ := (char T hT).mp (geB_iff.mp z)
          rw [hb] at q
          cases q
          exact small.mp ts q2
        rw [this]
        rfl
      · rw [if_neg ts]
        have okst : ∀ m, st = some m → ge start m := Classical.byContradiction fun z => ts (small.mpr z)
        have nn : ∀ k, 0 ≤ val L k := fun k => by
          unfold val
          cases hk : look L k with
          | none => exact Int.le_refl 0
          | some v =>
            have := (fit _ hb).2.2.2 _ (look_mem hk)
            show 0 ≤ v
            have t : 1 ≤ v := this
            omega
        have all : (texts most n).countP (fun T => geB (aimF (lenAt T) row start cs) goal) = (texts most n).countP (meets (fun i => val L ((i : Int) - row)) n) := List.countP_congr fun T hT => by
          rw [geB_iff, meets_iff, char T hT]
          constructor
          · rintro ⟨st', L', q, _, q3⟩ i hi
            rw [hb] at q
            cases q
            have := q3 ((i : Int) - row)
            rw [show row + ((i : Int) - row) = i by omega] at this
            unfold lenAt at this
            simpa using this
          · intro h
            refine ⟨st, L, hb, okst, fun k => ?_⟩
            cases hk : look L k with
            | none =>
              unfold val
              rw [hk]
              exact pos T hT _
            | some v =>
              have bnd := inn _ (look_mem hk)
              have bnd' : 0 ≤ row + k ∧ row + k < n := bnd
              have := h (row + k).toNat (by omega)
              have this' : val L ((((row + k).toNat : Nat) : Int) - row) ≤ T.getD (row + k).toNat 0 := this
              rw [show (((row + k).toNat : Nat) : Int) - row = k by omega] at this'
              unfold lenAt
              exact this'
        rw [all, count_texts fun i => nn _]
        exact (prod_all (by omega) asc inn).symm
/-! ### goals, counted -/
theorem count_some {v : Int} : ∀ as : List (Option Int), ((as.count (some v) : Nat) : Int) = ((as.countP (fun a => geB a v) : Nat) : Int) - ((as.countP (fun a => geB a (v + 1)) : Nat) : Int)
  | [] => by rfl
  | a :: as => by
    have ih := count_some (v := v) as
    rw [List.count_cons, List.countP_cons, List.countP_cons, Int.natCast_add, Int.natCast_add, Int.natCast_add, ih]
    cases a with
    | none =>
      show _ + ((if (none == some v) = true then 1 else 0 : Nat) : Int) = _ + ((1 : Nat) : Int) - (_ + ((1 : Nat) : Int))
      rw [if_neg (show ¬ ((none : Option Int) == some v) = true from Bool.false_ne_true)]
      omega
    | some x =>
      show _ + ((if (some x == some v) = true then 1 else 0 : Nat) : Int) = _ + ((if decide (v ≤ x) = true then 1 else 0 : Nat) : Int) - (_ + ((if decide (v + 1 ≤ x) = true then 1 else 0 : Nat) : Int))
      have e1 : ((some x == some v) = true) ↔ x = v := by simp
      by_cases h : x = v
      · rw [if_pos (e1.mpr h), if_pos (decide_eq_true (show v ≤ x by omega)), if_neg (fun z => absurd (of_decide_eq_true z) (by omega))]
        omega
      · rw [if_neg (fun z => h (e1.mp z))]
        by_cases h2 : v ≤ x
        · rw [if_pos (decide_eq_true h2), if_pos (decide_eq_true (show v + 1 ≤ x by omega))]
          omega
        · rw [if_neg (fun z => h2 (of_decide_eq_true z)), if_neg (fun z => absurd (of_decide_eq_true z) (by omega))]
          omega
theorem count_none {B : Int} : ∀ as : List (Option Int), (∀ a ∈ as, ∀ x, a = some x → x < B) → as.count none = as.countP (fun a => geB a B)
  | [], _ => rfl
  | a :: as, h => by
    rw [List.count_cons, List.countP_cons, count_none as fun b hb => h b (List.mem_cons_of_mem _ hb)]
    cases a with
    | none => rfl
    | some x =>
      have := h _ List.mem_cons_self x rfl
      have e : geB (some x) B = false := decide_eq_false (by omega)
      rw [e]
      rfl
/-- the goals that the law finds -/
def aimsOf (most n : Nat) (row : Int) (start : Option Int) (cs : List Cmd) : List (Option Int) := if row + (rchM cs).1 < 0 ∨ (n : Int) ≤ row + (rchM cs).2.1 then [] else (texts most n).map fun T => aimF (lenAt T) row start cs
theorem told {most n : Nat} {row : Int} {start : Option Int} {cs : List Cmd} {goal : Option Int} (ok : AllOk cs) (s0 : ge start 0) (g0 : ge goal 0) : (((aimsOf most n row start cs).count goal : Nat) : Int) = countN n most row start cs goal := by
  unfold aimsOf countN
  by_cases out : row + (rchM cs).1 < 0 ∨ (n : Int) ≤ row + (rchM cs).2.1
  · rw [if_pos out, if_pos out]
    rfl
  · rw [if_neg out, if_neg out]
    have w : Within cs (-row) (n - 1 - row) := fun i => by
      have := rch_in cs i
      omega
    cases goal with
    | some v =>
      have v0 := ge_some.mp g0
      rw [count_some, List.countP_map, List.countP_map]
      show _ = reachN n ((most : Int) + 1) start cs v - reachN n ((most : Int) + 1) start cs (v + 1)
      rw [← reach_count ok s0 v0 w, ← reach_count ok s0 (by omega) w]
      rfl
    | none =>
      have sg : 0 ≤ start.getD 0 := by
        cases start with
        | none => exact Int.le_refl 0
        | some x => exact ge_some.mp s0
      rw [count_none (B := max (most : Int) (start.getD 0) + 1) _ fun a ha x hx => ?_, List.countP_map]
      · show _ = reachN n ((most : Int) + 1) start cs (max (most : Int) (start.getD 0) + 1)
        rw [← reach_count ok s0 (by omega) w]
        rfl
      · obtain ⟨T, hT, rfl⟩ := List.mem_map.mp ha
        have := aimF_le (T := lenAt T) (B := max (most : Int) (start.getD 0)) (fun k => ?_) (by omega) ok (fun y hy => by rw [hy]; show y ≤ max _ y; omega) x hx
        · omega
        · unfold lenAt
          rw [List.getD_eq_getElem?_getD]
          cases e : T[k.toNat]? with
          | none =>
            show (0 : Int) ≤ _
            omega
          | some y =>
            have := ((texts_ok hT).2 y (List.mem_of_getElem? e)).2
            show y ≤ _
            omega
/-- every goal is one of those that are asked -/
def asked : List (Option Int) := (List.range 12).map (fun (j : Nat) => some (j : Int)) ++ [none]
theorem asked_once {a : Option Int} (h : ∀ x, a = some x → 0 ≤ x ∧ x ≤ 11) : (asked.map fun o => if a = o then 1 else 0).sum = 1 := by
  cases a with
  | none => decide
  | some x =>
    obtain ⟨h0, h1⟩ := h x rfl
    have : ∀ i : Fin 12, (asked.map fun o => if some ((i.val : Nat) : Int) = o then 1 else 0).sum = 1 := by decide
    have e := this ⟨x.toNat, by omega⟩
    rw [show ((x.toNat : Nat) : Int) = x by omega] at e
    exact e
theorem sum_add (f g : Option Int → Nat) : ∀ l : List (Option Int), (l.map fun o => f o + g o).sum = (l.map f).sum + (l.map g).sum
  | [] => rfl
  | o :: l => by
    rw [List.map_cons, List.sum_cons, List.map_cons, List.sum_cons, List.map_cons, List.sum_cons, sum_add f g l]
    omega
theorem asked_all : ∀ as : List (Option Int), (∀ a ∈ as, ∀ x, a = some x → 0 ≤ x ∧ x ≤ 11) → (asked.map fun o => as.count o).sum = as.length
  | [], _ => by decide
  | a :: as, h => by
    have ih := asked_all as fun b hb => h b (List.mem_cons_of_mem _ hb)
    have e : (asked.map fun o => (a :: as).count o) = asked.map fun o => as.count o + (if a = o then 1 else 0) := List.map_congr_left fun o _ => by
      rw [List.count_cons]
      by_cases q : a = o
      · subst q
        simp
      · simp [q]
    rw [e, sum_add, ih, asked_once (h a List.mem_cons_self), List.length_cons]
end Gc

/-! the law's own counts -/
namespace Gc
open PySem L2
abbrev s_great : Stmt := top 26
abbrev s_scanned : Stmt := top 29
abbrev s_at_least : Stmt := top 30
def spGreat : Sp := fun vs H Q _ => ∃ (b g : Addr) (n : Nat), vs = [.ref b] ∧ Bag H b g n ∧ n < 2 ^ 39 ∧ ∀ (H' : Hp) (r : Int), Keep b g H H' → Bag H' b g (n + 2) → 0 ≤ r → r < 10 ^ 29 → Q (.int r) H'
def spScan (K : PySem.W.Frag) : Sp := fun vs H Q _ => ∃ (l : Addr) (xs : List V) (cs : List Cmd) (aim : Int), vs = [.ref l, .int aim] ∧ SqL K H l xs ∧ CmdsOf K H xs cs ∧ (∀ c ∈ cs, CSml c) ∧ cs.length ≤ 100 ∧
  (scan cs.reverse 0 aim [] = none → ∀ H', Same H H' → Q .non H') ∧ ∀ s b, scan cs.reverse 0 aim [] = some (s, b) → ∀ (H' : Hp) (p d : Addr), Same H H' → H' p = some (.tup [.int s, .ref d]) → H' d = some (.dK (dkI b)) → Q (.ref p) H'
theorem scan_nn : ∀ {rs : List Cmd} {off need s : Int} {b b' : Ps}, scan rs off need b = some (s, b') → (∀ k, 0 ≤ val b k) → ∀ k, 0 ≤ val b' k
  | [], off, need, s, b, b', h, hb => by
    unfold scan at h
    cases h
    exact hb
  | c :: rs, off, need, s, b, b', h, hb => by
    unfold scan at h
    have put : ∀ v k, 0 ≤ val (putMax b off v) k := fun v k => by
      rw [val_putMax]
      have := hb k
      split <;> omega
    split at h
    · cases h
      exact hb
    · cases c with
      | home => cases h
      | stop =>
        cases h
        exact hb
      | down n => exact scan_nn h hb
      | up n => exact scan_nn h hb
      | right n => exact scan_nn h (put _)
      | left n => exact scan_nn h (put _)
theorem scan_step {c : Cmd} {rs : List Cmd} {off need : Int} {b : Ps} (h : ¬ need < 1) : scan (c :: rs) off need b = (match c with
    | .home => none
    | .stop => some (0, b)
    | .down n => scan rs (off - n) need b
    | .up n => scan rs (off + n) need b
    | .right n => scan rs off (need - n) (putMax b off need)
    | .left n => scan rs off (need + n) (putMax b off (need + n))) := by
  cases c <;> rw [scan, if_neg h]
theorem Paired.rev {α β : Type} {F : α → β → Prop} : ∀ {xs : List α} {ys : List β}, Paired F xs ys → Paired F xs.reverse ys.reverse
  | _, _, .nil => .nil
  | _, _, .cons f t => by
    rw [List.reverse_cons, List.reverse_cons]
    exact Paired.snocB (Paired.rev t) f
@[irreducible] def zScan (K : PySem.W.Frag) : Sp := spScan K
theorem zScan_eq (K : PySem.W.Frag) : zScan K = spScan K := by unfold zScan; rfl
@[irreducible] def zEnd (K : PySem.W.Frag) : Sp := spEnd K
theorem zEnd_eq (K : PySem.W.Frag) : zEnd K = spEnd K := by unfold zEnd; rfl
theorem ask_scan {K : PySem.W.Frag} {H : Hp} {Q : VK} {E : XK} {l : Addr} {xs : List V} {cs : List Cmd} {aim : Int} (hl : SqL K H l xs) (hc : CmdsOf K H xs cs) (sm : ∀ c ∈ cs, CSml c) (ln : cs.length ≤ 100) (kn : scan cs.reverse 0 aim [] = none → ∀ H', Same H H' → Q .non H')
    (ks : ∀ s b, scan cs.reverse 0 aim [] = some (s, b) → ∀ (H' : Hp) (p d : Addr), Same H H' → H' p = some (.tup [.int s, .ref d]) → H' d = some (.dK (dkI b)) → Q (.ref p) H') : zScan K [.ref l, .int aim] H Q E := by
  rw [zScan_eq]
  exact ⟨l, xs, cs, aim, rfl, hl, hc, sm, ln, kn, ks⟩
def EndV (H : Hp) (v : V) : Option (Int × Option Int) → Prop
  | none => v = .non
  | some x => ∃ p, v = .ref p ∧ H p = some (.tup [.int x.1, optV x.2])
theorem ask_end2 {K : PySem.W.Frag} {H : Hp} {Q : VK} {E : XK} {t b l : Addr} {T : List Int} {row : Int} {g : Option Int} {xs : List V} {cs : List Cmd} (ht : SqL K H t (T.map V.int)) (hb : SqT K H b [.int row, optV g]) (hl : SqL K H l xs) (hc : CmdsOf K H xs cs) (sm : ∀ c ∈ cs, CSml c) (r0 : 0 ≤ row) (r1 : row < T.length)
    (k : ∀ (H' : Hp) (v : V), Same H H' → EndV H' v (afterL T row g cs) → Q v H') : zEnd K [.ref t, .ref b, .ref l] H Q E := by
  rw [zEnd_eq]
  exact ⟨t, b, l, T, row, g, xs, cs, rfl, ht, hb, hl, hc, sm, r0, r1, fun e H' s => k H' .non s (by rw [e]; rfl), fun r' a' e H' p s _ hp => k H' (.ref p) s (by rw [e]; exact ⟨p, rfl, hp⟩)⟩
theorem rep_zero : ∀ n : Nat, (List.replicate n [V.int 0]).flatten = (List.replicate n (0 : Int)).map V.int
  | 0 => rfl
  | n + 1 => by
    rw [List.replicate_succ, List.flatten_cons, rep_zero n, List.replicate_succ]
    rfl
def spAtLeast (K : PySem.W.Frag) : Sp := fun vs H Q _ => ∃ (many : Nat) (most row : Int) (start : Option Int) (c l : Addr) (xs : List V) (cs : List Cmd) (aim : Int), vs = [.int many, .int most, .ref c, .ref l, .int aim] ∧ SqT K H c [.int row, optV start] ∧ CmdsIn K H l xs cs ∧ (∀ c ∈ cs, CSml c) ∧
  many ≤ 40 ∧ 0 ≤ most ∧ most < 2 ^ 110 ∧ 0 ≤ row ∧ row < many ∧ (1 ≤ aim → Within cs (-row) (many - 1 - row)) ∧ ∀ H', Same H H' → Q (.int (atLeast many (most + 1) row start cs aim)) H'
theorem max0 (x : Int) : (if x > 0 then x else 0) = max 0 x := by split <;> omega
section
variable {P : Program} {w : World} {K : PySem.W.Frag} {mg : Str → Option Value} {base : Heap}
theorem sc_law_great : FnScope ["bag"] ["bag"] (defScope s_great) := ⟨rfl, rfl, rfl, by decide +kernel, rfl, by decide +kernel, by decide +kernel⟩
theorem ok_great {f : Addr} {fd : FuncData} (F : Fun K "_law_great" "_law_great" s_great f fd) (c_law_draw : Cal P w K mg base 1 "_law_draw" spBdraw) : FnOk P w K mg base CX0 2 f fd ["bag"] spGreat := by
  refine F.ok sc_law_great (fun vs H Q E h => ?_) (fun cdv A outer s H vs Q E hr h => ?_)
  · obtain ⟨b, g, n, rfl, _⟩ := h
    rfl
  · obtain ⟨b, g, n, rfl, B, hn, k⟩ := h
    refine ⟨_, (pss_one (ps_ret (pe_op op_add (pe_op op_mulW (pe_cal c_law_draw hr (by decide) (by rfl) (pa_cons (pv 0) (pa_cons (pe_op op_pow pe_int pe_int) pa_nil))) (pe_op op_pow pe_int pe_int)) (pe_cal c_law_draw hr (by decide) (by rfl) (pa_cons (pv 0) (pa_cons (pe_op op_pow pe_int pe_int) pa_nil)))))), ?_⟩
    refine ⟨_, rfl, _, _, rfl, rfl, cpow (by decide), b, g, n, _, rfl, B, by omega, by decide, by decide, fun H1 d1 kp1 B1 d10 d11 => ?_⟩
    have d11' : d1 < 10 ^ 14 := d11
    refine ⟨_, _, rfl, rfl, cpow (by decide), _, _, rfl, rfl, wide_mul (a := 61) (b := 61) (by omega) (by decide) (by decide) (by decide) (by decide), _, rfl, _, _, rfl, rfl, cpow (by decide), b, g, _, _, rfl, B1, by omega, by decide, by decide, fun H2 d2 kp2 B2 d20 d21 => ?_⟩
    have d21' : d2 < 10 ^ 14 := d21
    refine ⟨_, _, rfl, rfl, k _ _ (kp1.trans kp2) B2 ?_ ?_⟩
    · show 0 ≤ d1 * 10 ^ 14 + d2
      omega
    · show d1 * 10 ^ 14 + d2 < 10 ^ 29
      omega
theorem sc_law_scanned : FnScope ["moves", "aim", "bounds", "offset", "need", "command", "bound"] ["moves", "aim"] (defScope s_scanned) := ⟨rfl, rfl, rfl, by decide +kernel, rfl, by decide +kernel, by decide +kernel⟩
theorem ok_scanned {f : Addr} {fd : FuncData} (F : Fun K "_law_scanned" "_law_scanned" s_scanned f fd) (T : TxtC mg) : FnOk P w K mg base CX0 1 f fd ["moves", "aim"] (spScan K) := by
  refine F.ok sc_law_scanned (fun vs H Q E h => ?_) (fun cdv A outer s H vs Q E hr h => ?_)
  · obtain ⟨l, xs, cs, aim, rfl, _⟩ := h
    rfl
  · obtain ⟨l, xs, cs, aim, rfl, hl, hcs, sm, ln, kn, ks⟩ := h
    refine ⟨_, (pss_cons (ps_par3 (i := 2) (j := 3) (l := 4) rfl sc_law_scanned.nd rfl rfl rfl (by decide) (by decide) (by decide) rfl rfl rfl (pa_cons pe_dnewK (pa_cons pe_int (pa_cons (pv 1) pa_nil))) (by rfl))
      (pss_cons (ps_for PassesOwn.never rfl (pi_list (pe_revL (pv 0))) (pg_name (i := 5) sc_law_scanned.nd rfl (Or.inl rfl)) (pss_cons (ps_if (pt_cmpR op_lt (pv 4) pe_int (nomark _)) (pss_one (ps_ret (pe_tup (pa_cons pe_int (pa_cons (pv 2) pa_nil))))) pss_nil)
      (pss_cons (ps_if (pt_cmpR op_eq (pe_ix ix_tup (pv 5) pe_int (fun _ _ => rfl)) pe_str (nomark _)) (pss_one (ps_ret pe_non)) pss_nil)
      (pss_cons (ps_if (pt_cmpR op_eq (pe_ix ix_tup (pv 5) pe_int (fun _ _ => rfl)) pe_str (nomark _)) (pss_one (ps_ret (pe_tup (pa_cons pe_int (pa_cons (pv 2) pa_nil))))) pss_nil)
      (pss_one (ps_if (pt_cmpR op_in_seq (pe_ix ix_tup (pv 5) pe_int (fun _ _ => rfl)) (pe_tup (pa_cons pe_str (pa_cons pe_str pa_nil))) (by rfl)) (pss_one (ps_aug (i := 3) sc_law_scanned.nd rfl (Or.inl rfl) (pe_op op_mulW (pe_ix ix_tup (pe_tup (pa_cons pe_int (pa_cons (pe_un un_neg pe_int) pa_nil))) (pe_callTy call_int1 (by rfl) T.int (by decide +kernel) (pa_cons (pe_cmpR op_eq (pe_ix ix_tup (pv 5) pe_int (fun _ _ => rfl)) pe_str (nomark _)) pa_nil)) (fun _ _ => rfl)) (pe_ix ix_tup (pv 5) pe_int (fun _ _ => rfl))) ip_sub)) (pss_cons (ps_set (i := 6) sc_law_scanned.nd rfl (Or.inl rfl) (pe_op op_add (pv 4) (pe_op op_mulW (pe_ix ix_tup (pv 5) pe_int (fun _ _ => rfl)) (pe_callTy call_int1 (by rfl) T.int (by decide +kernel) (pa_cons (pe_cmpR op_eq (pe_ix ix_tup (pv 5) pe_int (fun _ _ => rfl)) pe_str (nomark _)) pa_nil)))))
      (pss_cons (ps_dput (hu_of hr) (pv 2) (pv 3) (pe_callB (call_max2 rfl) (by rfl) T.max (by decide +kernel) (pa_cons (pe_dget2 (hu_of hr) (pv 2) (pv 3) pe_int ⟨rfl, rfl, rfl, rfl⟩) (pa_cons (pv 6) pa_nil))) rfl)
      (pss_one (ps_aug (i := 4) sc_law_scanned.nd rfl (Or.inl rfl) (pe_op op_mulW (pe_ix ix_tup (pe_tup (pa_cons pe_int (pa_cons (pe_un un_neg pe_int) pa_nil))) (pe_callTy call_int1 (by rfl) T.int (by decide +kernel) (pa_cons (pe_cmpR op_eq (pe_ix ix_tup (pv 5) pe_int (fun _ _ => rfl)) pe_str (nomark _)) pa_nil)) (fun _ _ => rfl)) (pe_ix ix_tup (pv 5) pe_int (fun _ _ => rfl))) ip_add))))))))))
      (pss_one (ps_ret (pe_tup (pa_cons (pe_callB (call_max2 rfl) (by rfl) T.max (by decide +kernel) (pa_cons pe_int (pa_cons (pv 4) pa_nil))) (pa_cons (pv 2) pa_nil))))))), ?_⟩
    refine fun d hd => ⟨_, rfl, ?_⟩
    have sd : Same H (upd H d (.dK [])) := same_upd (Same.refl _) hd
    have hdd : upd H d (.dK []) d = some (.dK (dkI [])) := upd_same
    refine ⟨_, _, _, rfl, ?_⟩
    refine ⟨_, rfl, l, xs, rfl, sd.seq hl, fun q hq => ?_⟩
    have sq : Same (upd H d (.dK [])) (upd (upd H d (.dK [])) q (.lst xs.reverse)) := same_upd (Same.refl _) hq
    have rev := Paired.rev hcs
    have lr : cs.reverse.length = cs.length := List.length_reverse
    refine ⟨q, rfl, ⟨_, SqL.of upd_same⟩, for_list (K := K) (a := q) (xs := xs.reverse) (fun i σ H' => ∃ (off need : Int) (b : Ps) (v5 v6 : Option V), σ = [some (.ref l), some (.int aim), some (.ref d), some (.int off), some (.int need), v5, v6] ∧ scan cs.reverse 0 aim [] = scan (cs.reverse.drop i) off need b ∧ Same H H' ∧ H' d = some (.dK (dkI b)) ∧
        H' q = some (.lst xs.reverse) ∧ b.length ≤ i)
      ⟨0, aim, [], none, none, rfl, rfl, sd.trans sq, sq _ _ hdd, upd_same, Nat.le_refl _⟩ (fun i σ H' _ ⟨_, _, _, _, _, _, _, _, _, z, _⟩ => SqL.of z) (fun i y σ H2 hi h => ?_) (fun σ H2 h => ?_)⟩
    · obtain ⟨off, need, b, v5, v6, rfl, hgo, e2, hd2, hq2, bl⟩ := h
      obtain ⟨c, hc, qq, rfl, hq0⟩ := paired_at rev hi
      have li := (List.getElem?_eq_some_iff.mp hc).1
      have hq := seq_t e2 hq0
      have smc := sm c (List.mem_reverse.mp (List.mem_of_getElem? hc))
      have hdrop : cs.reverse.drop i = c :: cs.reverse.drop (i + 1) := by
        obtain ⟨h1, h2⟩ := List.getElem?_eq_some_iff.mp hc
        rw [List.drop_eq_getElem_cons h1, h2]
      rw [hdrop] at hgo
      refine ⟨_, rfl, _, _, rfl, rfl, _, rfl, ite2 (fun c1 => ?_) (fun c1 => ?_)⟩
      · rw [scan_low (of_decide_eq_true c1)] at hgo
        refine ⟨_, rfl, (by show 2 ≤ sizeLine; decide), fun p hp => ?_⟩
        have s1 : Same H2 (upd H2 p (.tup [.int 0, .ref d])) := same_upd (Same.refl _) hp
        exact ks 0 b hgo _ p d (e2.trans s1) upd_same (s1 _ _ hd2)
      have no : ¬ need < 1 := fun z => c1 (decide_eq_true z)
      rw [scan_step no] at hgo
      have eg : (valV (dkI b) (Sum.inl off : L2.Key)).getD (.int 0) = .int ((look b off).getD 0) := by
        rw [valV_dkI]
        cases look b off <;> rfl
      cases c with
      | home =>
        refine ⟨_, rfl, qq, _, 0, _, rfl, rfl, hq, rfl, rfl, true, by decide +kernel, iteT ?_⟩
        exact kn hgo _ e2
      | stop =>
        refine ⟨_, rfl, qq, _, 0, _, rfl, rfl, hq, rfl, rfl, false, by decide +kernel, iteF ?_⟩
        refine ⟨_, rfl, qq, _, 0, _, rfl, rfl, hq, rfl, rfl, true, by decide +kernel, iteT ?_⟩
        refine ⟨_, rfl, (by show 2 ≤ sizeLine; decide), fun p hp => ?_⟩
        have s1 : Same H2 (upd H2 p (.tup [.int 0, .ref d])) := same_upd (Same.refl _) hp
        exact ks 0 b hgo _ p d (e2.trans s1) upd_same (s1 _ _ hd2)
      | down n =>
        have nb : n.natAbs < 2 ^ 120 := smc
        refine ⟨_, rfl, qq, _, 0, _, rfl, rfl, hq, rfl, rfl, false, by decide +kernel, iteF ?_⟩
        refine ⟨_, rfl, qq, _, 0, _, rfl, rfl, hq, rfl, rfl, false, by decide +kernel, iteF ?_⟩
        refine ⟨_, rfl, qq, _, 0, _, rfl, rfl, hq, rfl, (by show 2 ≤ sizeLine; decide), fun p1 hp1 => ?_⟩
        have m1 := same_upd (Same.refl H2) hp1 (o := .tup [.str "down", .str "up"])
        refine ⟨p1, _, rfl, .inr (SqT.of upd_same), rfl, rfl, true, by decide +kernel, iteT ?_⟩
        refine ⟨_, rfl, _, rfl, (by show 2 ≤ sizeLine; decide), fun p2 hp2 => ?_⟩
        have m2 := same_upd m1 hp2 (o := .tup [.int 1, .int (-1)])
        refine ⟨_, rfl, qq, _, 0, _, rfl, rfl, seq_t m2 hq, rfl, rfl, .inr ⟨_, rfl, p2, _, _, _, rfl, rfl, SqT.of upd_same, atI_f (by decide +kernel), _, rfl, qq, _, 1, _, rfl, rfl, seq_t m2 hq, rfl, _, _, rfl, rfl, wide_mul (a := 61) (b := 120) (by decide) nb (by decide) (by decide) (by decide), _, _, rfl, rfl, ?_⟩⟩
        rw [show (1 : Int) * n = n from Int.one_mul n]
        refine ⟨off - (n), need, b, _, v6, rfl, ?_, e2.trans m2, m2 _ _ hd2, m2 _ _ hq2, by omega⟩
        exact hgo
      | up n =>
        have nb : n.natAbs < 2 ^ 120 := smc
        refine ⟨_, rfl, qq, _, 0, _, rfl, rfl, hq, rfl, rfl, false, by decide +kernel, iteF ?_⟩
        refine ⟨_, rfl, qq, _, 0, _, rfl, rfl, hq, rfl, rfl, false, by decide +kernel, iteF ?_⟩
        refine ⟨_, rfl, qq, _, 0, _, rfl, rfl, hq, rfl, (by show 2 ≤ sizeLine; decide), fun p1 hp1 => ?_⟩
        have m1 := same_upd (Same.refl H2) hp1 (o := .tup [.str "down", .str "up"])
        refine ⟨p1, _, rfl, .inr (SqT.of upd_same), rfl, rfl, true, by decide +kernel, iteT ?_⟩
        refine ⟨_, rfl, _, rfl, (by show 2 ≤ sizeLine; decide), fun p2 hp2 => ?_⟩
        have m2 := same_upd m1 hp2 (o := .tup [.int 1, .int (-1)])
        refine ⟨_, rfl, qq, _, 0, _, rfl, rfl, seq_t m2 hq, rfl, rfl, .inr ⟨_, rfl, p2, _, _, _, rfl, rfl, SqT.of upd_same, atI_t (by decide +kernel), _, rfl, qq, _, 1, _, rfl, rfl, seq_t m2 hq, rfl, _, _, rfl, rfl, wide_mul (a := 61) (b := 120) (by decide) nb (by decide) (by decide) (by decide), _, _, rfl, rfl, ?_⟩⟩
        rw [show (-1 : Int) * n = -n by omega]
        refine ⟨off - (-n), need, b, _, v6, rfl, ?_, e2.trans m2, m2 _ _ hd2, m2 _ _ hq2, by omega⟩
        rw [show off - -n = off + n by omega]
        exact hgo
      | left n =>
        have nb : n.natAbs < 2 ^ 120 := smc
        refine ⟨_, rfl, qq, _, 0, _, rfl, rfl, hq, rfl, rfl, false, by decide +kernel, iteF ?_⟩
        refine ⟨_, rfl, qq, _, 0, _, rfl, rfl, hq, rfl, rfl, false, by decide +kernel, iteF ?_⟩
        refine ⟨_, rfl, qq, _, 0, _, rfl, rfl, hq, rfl, (by show 2 ≤ sizeLine; decide), fun p1 hp1 => ?_⟩
        have m1 := same_upd (Same.refl H2) hp1 (o := .tup [.str "down", .str "up"])
        refine ⟨p1, _, rfl, .inr (SqT.of upd_same), rfl, rfl, false, by decide +kernel, iteF ?_⟩
        -- bound
        refine ⟨_, rfl, _, rfl, qq, _, 1, _, rfl, rfl, seq_t m1 hq, rfl, _, rfl, qq, _, 0, _, rfl, rfl, seq_t m1 hq, rfl, rfl, .inr ⟨_, rfl, _, _, rfl, rfl, wide_mul (a := 120) (b := 61) nb (by split <;> decide) (by decide) (by decide) (by decide), _, _, rfl, rfl, ?_⟩⟩
        rw [if_pos (show (decide (V.str "left" = V.str "left")) = true by decide +kernel), Int.mul_one]
        -- bounds[offset]
        have hd3 := m1 _ _ hd2
        refine ⟨_, rfl, d, rfl, .inl ⟨_, .inl hd3⟩, _, rfl, _, DGet.k (k := Sum.inl off) hd3, _, rfl, (look b off).getD 0, need + n, (by rw [eg]), ?_⟩
        refine ⟨_, rfl, _, rfl, d, _, rfl, DPut.k (k := Sum.inl off) hd3 (by unfold dkI; rw [List.length_map]; exact small_n (by omega)), ?_⟩
        have ep : putK (dkI b) (Sum.inl off : L2.Key) (.int (if need + n > (look b off).getD 0 then need + n else (look b off).getD 0)) = dkI (putMax b off (need + n)) := by
          rw [maxI, putK_dkI]
          rfl
        rw [ep]
        have dq : q ≠ d := ne_of hq2 hd2 (by intro z; cases z)
        have qd : ∀ o : HO, SqT K (upd (upd H2 p1 (.tup [.str "down", .str "up"])) d (.dK (dkI (putMax b off (need + n))))) qq (encC (.left n)) := fun _ => by
          rcases seq_t m1 hq with (z | ⟨o, z⟩) | z
          · exact .inl (.inl (by rw [upd_ne (ne_of z hd3 (by intro y; cases y))]; exact z))
          · exact .inl (.inr ⟨o, by rw [upd_ne (ne_of z hd3 (by intro y; cases y))]; exact z⟩)
          · exact .inr z
        have hq3 := qd (.lst [])
        have e3 : Same H (upd (upd H2 p1 (.tup [.str "down", .str "up"])) d (.dK (dkI (putMax b off (need + n))))) := same_freeU (e2.trans m1) hd
        have hd4 : upd (upd H2 p1 (.tup [.str "down", .str "up"])) d (.dK (dkI (putMax b off (need + n)))) d = some (.dK (dkI (putMax b off (need + n)))) := upd_same
        have hq4 : upd (upd H2 p1 (.tup [.str "down", .str "up"])) d (.dK (dkI (putMax b off (need + n)))) q = some (.lst xs.reverse) := by
          rw [upd_ne dq]
          exact m1 _ _ hq2
        generalize upd (upd H2 p1 (.tup [.str "down", .str "up"])) d (.dK (dkI (putMax b off (need + n)))) = H3 at hq3 e3 hd4 hq4 ⊢
        -- need
        refine ⟨_, rfl, _, rfl, (by show 2 ≤ sizeLine; decide), fun p2 hp2 => ?_⟩
        have m2 := same_upd (Same.refl H3) hp2 (o := .tup [.int 1, .int (-1)])
        refine ⟨_, rfl, qq, _, 0, _, rfl, rfl, seq_t m2 hq3, rfl, rfl, .inr ⟨_, rfl, p2, _, _, _, rfl, rfl, SqT.of upd_same, atI_f (by decide +kernel), _, rfl, qq, _, 1, _, rfl, rfl, seq_t m2 hq3, rfl, _, _, rfl, rfl, wide_mul (a := 61) (b := 120) (by decide) nb (by decide) (by decide) (by decide), _, _, rfl, rfl, ?_⟩⟩
        rw [show (1 : Int) * n = n from Int.one_mul n]
        have pl := putMax_len b off (need + n)
        refine ⟨off, need + (n), putMax b off (need + n), _, some (.int (need + n)), rfl, ?_, e3.trans m2, m2 _ _ hd4, m2 _ _ hq4, by omega⟩
        exact hgo
      | right n =>
        have nb : n.natAbs < 2 ^ 120 := smc
        refine ⟨_, rfl, qq, _, 0, _, rfl, rfl, hq, rfl, rfl, false, by decide +kernel, iteF ?_⟩
        refine ⟨_, rfl, qq, _, 0, _, rfl, rfl, hq, rfl, rfl, false, by decide +kernel, iteF ?_⟩
        refine ⟨_, rfl, qq, _, 0, _, rfl, rfl, hq, rfl, (by show 2 ≤ sizeLine; decide), fun p1 hp1 => ?_⟩
        have m1 := same_upd (Same.refl H2) hp1 (o := .tup [.str "down", .str "up"])
        refine ⟨p1, _, rfl, .inr (SqT.of upd_same), rfl, rfl, false, by decide +kernel, iteF ?_⟩
        -- bound
        refine ⟨_, rfl, _, rfl, qq, _, 1, _, rfl, rfl, seq_t m1 hq, rfl, _, rfl, qq, _, 0, _, rfl, rfl, seq_t m1 hq, rfl, rfl, .inr ⟨_, rfl, _, _, rfl, rfl, wide_mul (a := 120) (b := 61) nb (by split <;> decide) (by decide) (by decide) (by decide), _, _, rfl, rfl, ?_⟩⟩
        rw [if_neg (show ¬ (decide (V.str "right" = V.str "left")) = true by decide +kernel), Int.mul_zero]
        simp only [Int.add_zero]
        -- bounds[offset]
        have hd3 := m1 _ _ hd2
        refine ⟨_, rfl, d, rfl, .inl ⟨_, .inl hd3⟩, _, rfl, _, DGet.k (k := Sum.inl off) hd3, _, rfl, (look b off).getD 0, need, (by rw [eg]), ?_⟩
        refine ⟨_, rfl, _, rfl, d, _, rfl, DPut.k (k := Sum.inl off) hd3 (by unfold dkI; rw [List.length_map]; exact small_n (by omega)), ?_⟩
        have ep : putK (dkI b) (Sum.inl off : L2.Key) (.int (if need > (look b off).getD 0 then need else (look b off).getD 0)) = dkI (putMax b off (need)) := by
          rw [maxI, putK_dkI]
          rfl
        rw [ep]
        have dq : q ≠ d := ne_of hq2 hd2 (by intro z; cases z)
        have qd : ∀ o : HO, SqT K (upd (upd H2 p1 (.tup [.str "down", .str "up"])) d (.dK (dkI (putMax b off (need))))) qq (encC (.right n)) := fun _ => by
          rcases seq_t m1 hq with (z | ⟨o, z⟩) | z
          · exact .inl (.inl (by rw [upd_ne (ne_of z hd3 (by intro y; cases y))]; exact z))
          · exact .inl (.inr ⟨o, by rw [upd_ne (ne_of z hd3 (by intro y; cases y))]; exact z⟩)
          · exact .inr z
        have hq3 := qd (.lst [])
        have e3 : Same H (upd (upd H2 p1 (.tup [.str "down", .str "up"])) d (.dK (dkI (putMax b off (need))))) := same_freeU (e2.trans m1) hd
        have hd4 : upd (upd H2 p1 (.tup [.str "down", .str "up"])) d (.dK (dkI (putMax b off (need)))) d = some (.dK (dkI (putMax b off (need)))) := upd_same
        have hq4 : upd (upd H2 p1 (.tup [.str "down", .str "up"])) d (.dK (dkI (putMax b off (need)))) q = some (.lst xs.reverse) := by
          rw [upd_ne dq]
          exact m1 _ _ hq2
        generalize upd (upd H2 p1 (.tup [.str "down", .str "up"])) d (.dK (dkI (putMax b off (need)))) = H3 at hq3 e3 hd4 hq4 ⊢
        -- need
        refine ⟨_, rfl, _, rfl, (by show 2 ≤ sizeLine; decide), fun p2 hp2 => ?_⟩
        have m2 := same_upd (Same.refl H3) hp2 (o := .tup [.int 1, .int (-1)])
        refine ⟨_, rfl, qq, _, 0, _, rfl, rfl, seq_t m2 hq3, rfl, rfl, .inr ⟨_, rfl, p2, _, _, _, rfl, rfl, SqT.of upd_same, atI_t (by decide +kernel), _, rfl, qq, _, 1, _, rfl, rfl, seq_t m2 hq3, rfl, _, _, rfl, rfl, wide_mul (a := 61) (b := 120) (by decide) nb (by decide) (by decide) (by decide), _, _, rfl, rfl, ?_⟩⟩
        rw [show (-1 : Int) * n = -n by omega]
        have pl := putMax_len b off (need)
        refine ⟨off, need + (-n), putMax b off (need), _, some (.int (need)), rfl, ?_, e3.trans m2, m2 _ _ hd4, m2 _ _ hq4, by omega⟩
        exact hgo
    · obtain ⟨off, need, b, v5, v6, rfl, hgo, e2, hd2, hq2, bl⟩ := h
      rw [List.length_reverse, hcs.len, ← lr, List.drop_length] at hgo
      refine ⟨_, rfl, _, _, rfl, ?_⟩
      rw [maxI]
      refine ⟨_, rfl, (by show 2 ≤ sizeLine; decide), fun p hp => ?_⟩
      have s1 : Same H2 (upd H2 p (.tup [.int (max 0 need), .ref d])) := same_upd (Same.refl _) hp
      exact ks (max 0 need) b (hgo.trans (by rw [scan])) _ p d (e2.trans s1) upd_same (s1 _ _ hd2)
theorem sc_law_at_least : FnScope ["many", "most", "start", "moves", "aim", "found", "number", "told", "last", "spot"] ["many", "most", "start", "moves", "aim"] (defScope s_at_least) := ⟨rfl, rfl, rfl, by decide +kernel, rfl, by decide +kernel, by decide +kernel⟩
theorem ok_at_least {f : Addr} {fd : FuncData} (F : Fun K "_law_at_least" "_law_at_least" s_at_least f fd) (T : TxtC mg) (c_law_scanned : Cal P w K mg base 1 "_law_scanned" (zScan K)) (c_law_end : Cal P w K mg base 1 "_law_end" (zEnd K)) : FnOk P w K mg base CX0 2 f fd ["many", "most", "start", "moves", "aim"] (spAtLeast K) := by
  refine F.ok sc_law_at_least (fun vs H Q E h => ?_) (fun cdv A outer s H vs Q E hr h => ?_)
  · obtain ⟨many, most, row, start, c, l, xs, cs, aim, rfl, _⟩ := h
    rfl
  · obtain ⟨many, most, row, start, c, l, xs, cs, aim, rfl, hc, ci, sm, ll, z0, z1, r0, r1, wi, k⟩ := h
    obtain ⟨hl, hcs, ok, ln⟩ := id ci
    have M0 : 0 ≤ most + 1 := by omega
    have M1 : most + 1 < 2 ^ 111 := by omega
    have ms : (most + 1).natAbs < 2 ^ 111 := by omega
    refine ⟨_, (pss_cons (ps_set (i := 5) sc_law_at_least.nd rfl (Or.inl rfl) pe_int)
      (pss_cons (ps_if (pt_cmpR op_lt (pv 4) pe_int (nomark _)) (pss_cons (ps_for PassesOwn.never rfl (pi_range1 rfl T.range (pa_cons (pv 0) pa_nil)) (pg_name (i := 6) sc_law_at_least.nd rfl (Or.inl rfl)) (pss_one (ps_set (i := 5) sc_law_at_least.nd rfl (Or.inl rfl) (pe_op op_mulW (pv 5) (pe_op op_add (pv 1) pe_int)))))
      (pss_one (ps_ret (pv 5)))) pss_nil)
      (pss_cons (ps_set (i := 7) sc_law_at_least.nd rfl (Or.inl rfl) (pe_cal c_law_scanned hr (by decide) (by rfl) (pa_cons (pv 3) (pa_cons (pv 4) pa_nil))))
      (C8.pss_cut (ps_if (PW.pt (pw_or (pt_cmpR op_isN (pv 7) pe_non (nomark _)) (pw_or1 (PW.pt (pw_and (pt_cmpR op_notN (pe_ix ix_tup (pv 2) pe_int (fun _ _ => rfl)) pe_non (nomark _)) (pw_and1 (pt_cmpR op_lt (pe_ix ix_tup (pv 2) pe_int (fun _ _ => rfl)) (pe_ix ix_tup (pv 7) pe_int (fun _ _ => rfl)) (nomark _)))))))) (pss_one (ps_ret pe_int)) pss_nil)
      (pss_cons (ps_set (i := 8) sc_law_at_least.nd rfl (Or.inl rfl) (pe_ix ix_tup (pe_cal c_law_end hr (by decide) (by rfl) (pa_cons (pe_op op_rep (pe_lst (pa_cons pe_int pa_nil)) (pv 0)) (pa_cons (pv 2) (pa_cons (pv 3) pa_nil)))) pe_int (fun _ _ => rfl)))
      (pss_cons (ps_for PassesOwn.never rfl (pi_range1 rfl T.range (pa_cons (pv 0) pa_nil)) (pg_name (i := 9) sc_law_at_least.nd rfl (Or.inl rfl)) (pss_one (ps_set (i := 5) sc_law_at_least.nd rfl (Or.inl rfl) (pe_op op_mulW (pv 5) (pe_callB (call_max2 rfl) (by rfl) T.max (by decide +kernel) (pa_cons pe_int (pa_cons (pe_op op_sub (pe_op op_add (pv 1) pe_int) (pe_dget2 (hu_of hr) (pe_ix ix_tup (pv 7) pe_int (fun _ _ => rfl)) (pe_op op_sub (pv 9) (pv 8)) pe_int ⟨rfl, rfl, rfl, rfl⟩)) pa_nil)))))))
      (pss_one (ps_ret (pv 5))))))))), ?_⟩
    refine ⟨_, rfl, _, _, rfl, rfl, _, rfl, ite2 (fun c0 => ?_) (fun c0 => ?_)⟩
    · have e0 : atLeast many (most + 1) row start cs aim = (most + 1) ^ many := by
        unfold atLeast
        rw [if_pos (of_decide_eq_true c0)]
      rw [e0] at k
      refine ⟨_, rfl, _, rfl, by omega, by omega, for_range (lo := 0) (n := many) (fun j σ H' => ∃ v6 v7 v8 v9 : Option V, σ = [some (.int many), some (.int most), some (.ref c), some (.ref l), some (.int aim), some (.int ((most + 1) ^ j)), v6, v7, v8, v9] ∧ H' = H ∧ ((most + 1) ^ j).natAbs < 2 ^ (112 * j + 1))
        ⟨none, none, none, none, by rw [Int.pow_zero]; rfl, rfl, by rw [Int.pow_zero]; decide⟩ (fun j σ H1 hj h => ?_) (fun σ H1 h => ?_)⟩
      · obtain ⟨v6, v7, v8, v9, rfl, rfl, sz⟩ := h
        refine ⟨_, rfl, _, rfl, _, _, rfl, rfl, _, _, rfl, rfl, wide_mul (a := 112 * j + 1) (b := 111) sz ms (by omega) (by decide) (by omega), ?_⟩
        refine ⟨some (.int (0 + (j : Int))), v7, v8, v9, ?_, rfl, ?_⟩
        · rw [Int.pow_succ]
          rfl
        · rw [Int.pow_succ]
          exact grow_size sz ms
      · obtain ⟨v6, v7, v8, v9, rfl, rfl, sz⟩ := h
        exact ⟨_, rfl, k _ (Same.refl _)⟩
    · have c0' : ¬ aim < 1 := fun z => c0 (decide_eq_true z)
      refine ⟨_, rfl, _, rfl, ?_⟩
      refine ask_scan hl hcs sm ln (aim := aim) (fun e H1 e1 => ?_) (fun sv b e H1 p d e1 hp hd => ?_)
      · have eA : atLeast many (most + 1) row start cs aim = 0 := by
          unfold atLeast
          rw [if_neg c0', e]
        rw [eA] at k
        refine ⟨fun _ _ => False, ?_, fun _ _ z => z.elim⟩
        exact ⟨_, rfl, rfl, _, rfl, iteT (k _ e1)⟩
      · have hcH := seq_t e1 hc
        refine ⟨fun σ H' => σ = [some (.int many), some (.int most), some (.ref c), some (.ref l), some (.int aim), some (.int 1), none, some (.ref p), none, none] ∧ H' = H1 ∧ under start sv = false, ?_, ?_⟩
        · refine ⟨_, rfl, rfl, _, rfl, iteF ?_⟩
          cases start with
          | none => exact ⟨_, rfl, c, _, 1, _, rfl, rfl, hcH, rfl, rfl, _, rfl, iteF (iteF ⟨rfl, rfl, rfl⟩)⟩
          | some y =>
            refine ⟨_, rfl, c, _, 1, _, rfl, rfl, hcH, rfl, rfl, _, rfl, iteT ?_⟩
            refine ⟨_, rfl, c, _, 1, _, rfl, rfl, hcH, rfl, _, rfl, p, _, 0, _, rfl, rfl, SqT.of hp, rfl, _, _, rfl, rfl, _, rfl, ite2 (fun c2 => ?_) (fun c2 => ?_)⟩
            · have eA : atLeast many (most + 1) row (some y) cs aim = 0 := by
                unfold atLeast
                rw [if_neg c0', e]
                exact if_pos c2
              rw [eA] at k
              exact k _ e1
            · exact ⟨rfl, rfl, Bool.eq_false_iff.mpr c2⟩
        · rintro σ H2 ⟨rfl, rfl, hsm⟩
          have w := wi (by omega)
          have eA : atLeast many (most + 1) row start cs aim = prodF (most + 1) (fun i => val b ((i : Int) - (row + last cs))) many := by
            unfold atLeast
            rw [if_neg c0', e]
            exact if_neg (by rw [hsm]; exact Bool.false_ne_true)
          rw [eA] at k
          have bn := scan_nn e fun j => by
            show 0 ≤ val [] j
            exact Int.le_refl 0
          -- last
          refine ⟨(by show 1 ≤ sizeLine; decide), fun q1 hq1 => ⟨_, rfl, q1, many, [.int 0], rfl, rfl, upd_same, by omega, by omega, ?_, fun q2 hq2 => ?_⟩⟩
          · show 1 * ((many : Nat) : Int).toNat ≤ sizeLine
            rw [sizeLine_eq]
            omega
          rw [show (List.replicate ((many : Nat) : Int).toNat [V.int 0]).flatten = (List.replicate many (0 : Int)).map V.int from rep_zero many]
          have s1 : Same H2 (upd H2 q1 (.lst [.int 0])) := same_upd (Same.refl _) hq1
          have s2 : Same (upd H2 q1 (.lst [.int 0])) (upd (upd H2 q1 (.lst [.int 0])) q2 (.lst ((List.replicate many (0 : Int)).map V.int))) := same_upd (Same.refl _) hq2
          have s12 := s1.trans s2
          have hq2' : upd (upd H2 q1 (.lst [.int 0])) q2 (.lst ((List.replicate many (0 : Int)).map V.int)) q2 = some (.lst ((List.replicate many (0 : Int)).map V.int)) := upd_same
          generalize upd (upd H2 q1 (.lst [.int 0])) q2 (.lst ((List.replicate many (0 : Int)).map V.int)) = H3 at s12 hq2' ⊢
          have e13 := e1.trans s12
          have lT : (List.replicate many (0 : Int)).length = many := List.length_replicate
          refine ⟨_, rfl, _, rfl, ?_⟩
          refine ask_end2 (T := List.replicate many 0) (row := row) (g := start) (SqL.of hq2') (seq_t e13 hc) (e13.seq hl) (hcs.same e13) sm r0 (by rw [lT]; exact r1) (fun H4 v4 e4 hv4 => ?_)
          rw [afterL_in (T := List.replicate many 0) (by rw [lT]; exact w)] at hv4
          obtain ⟨p4, rfl, hp4⟩ := hv4
          refine ⟨p4, _, 0, _, rfl, rfl, SqT.of hp4, rfl, ?_⟩
          have e24 := s12.trans e4
          have hp4' := e24 _ _ hp
          have hd4' := e24 _ _ hd
          refine ⟨_, rfl, _, rfl, by omega, by omega, for_range (lo := 0) (n := many) (fun j σ H' => ∃ v9 : Option V, σ = [some (.int many), some (.int most), some (.ref c), some (.ref l), some (.int aim), some (.int (prodF (most + 1) (fun i => val b ((i : Int) - (row + last cs))) j)), none, some (.ref p), some (.int (row + last cs)), v9] ∧ H' = H4 ∧
              (prodF (most + 1) (fun i => val b ((i : Int) - (row + last cs))) j).natAbs < 2 ^ (112 * j + 1))
            ⟨none, rfl, rfl, by show (1 : Int).natAbs < 2 ^ (112 * 0 + 1); decide⟩ (fun j σ H5 hj h => ?_) (fun σ H5 h => ?_)⟩
          · obtain ⟨v9, rfl, rfl, sz⟩ := h
            have eg : (valV (dkI b) (Sum.inl (0 + (j : Int) - (row + last cs)) : L2.Key)).getD (.int 0) = .int (val b (0 + (j : Int) - (row + last cs))) := by
              rw [valV_dkI]
              unfold val
              cases look b (0 + (j : Int) - (row + last cs)) <;> rfl
            have fs := fac_size M0 M1 (bn (0 + (j : Int) - (row + last cs)))
            refine ⟨_, rfl, _, rfl, _, _, rfl, rfl, _, rfl, p, _, 1, _, rfl, rfl, SqT.of hp4', rfl, d, rfl, .inl ⟨_, .inl hd4'⟩, _, rfl, _, rfl, _, _, rfl, rfl, _, DGet.k (k := Sum.inl (0 + (j : Int) - (row + last cs))) hd4', _, _, rfl, (by rw [eg]), _, _, rfl, ?_⟩
            have em : (if most + 1 - val b (0 + (j : Int) - (row + last cs)) > 0 then most + 1 - val b (0 + (j : Int) - (row + last cs)) else 0) = fac (most + 1) (val b (0 + (j : Int) - (row + last cs))) := by
              unfold fac
              rw [maxI, Int.max_comm]
            rw [em]
            refine ⟨_, _, rfl, rfl, wide_mul (a := 112 * j + 1) (b := 111) sz fs (by omega) (by decide) (by omega), ?_⟩
            have ej : prodF (most + 1) (fun i => val b ((i : Int) - (row + last cs))) (j + 1) = prodF (most + 1) (fun i => val b ((i : Int) - (row + last cs))) j * fac (most + 1) (val b (0 + (j : Int) - (row + last cs))) := by
              show _ * fac (most + 1) (val b ((j : Int) - (row + last cs))) = _
              rw [Int.zero_add]
            refine ⟨some (.int (0 + (j : Int))), ?_, rfl, ?_⟩
            · rw [ej]
              rfl
            · rw [ej]
              exact grow_size sz fs
          · obtain ⟨v9, rfl, rfl, sz⟩ := h
            exact ⟨_, rfl, k _ (e13.trans e4)⟩
end
end Gc

/-! the law's counts are the program's -/
namespace Gc
open PySem L2
theorem under_small {st start : Option Int} (s0 : ge start 0) : under start (st.getD 0) = tooSmall st start := by
  cases st with
  | none =>
    cases start with
    | none => rfl
    | some y =>
      have := ge_some.mp s0
      exact decide_eq_false (show ¬ y < 0 by omega)
  | some n => cases start <;> rfl
theorem boxFor_pos {cs : List Cmd} {aim : Int} (h : 1 ≤ aim) : boxFor cs aim = boxM cs aim := by
  unfold boxFor
  rw [if_neg (by omega)]
theorem atLeast_reach {n : Nat} {M row : Int} {start : Option Int} {cs : List Cmd} {aim : Int} (M0 : 0 < M) (ok : AllOk cs) (s0 : ge start 0) (a0 : 0 ≤ aim) (w : Within cs (-row) (n - 1 - row)) : atLeast n M row start cs aim = reachN n M start cs aim := by
  by_cases e : aim = 0
  · subst e
    unfold atLeast reachN boxFor
    rw [if_pos (by decide), if_pos rfl]
    show M ^ n = if tooSmall none start = true then (0 : Int) else prodL M [] * M ^ (n - 0)
    rw [if_neg (show ¬ tooSmall none start = true from Bool.false_ne_true)]
    show M ^ n = 1 * M ^ (n - 0)
    rw [Int.one_mul, Nat.sub_zero]
  · have a1 : 1 ≤ aim := by omega
    have fit := boxFor_fit (goal := aim) ok a0 w
    have sg := scan_go (sh := last cs) cs.reverse 0 aim [] (fun _ => 0) (allOk_rev ok) a1 fun _ => rfl
    rw [Int.zero_add] at sg
    have eF : goF cs.reverse (last cs) aim (fun _ => 0) = boxF cs aim := rfl
    rw [eF] at sg
    unfold atLeast reachN
    rw [if_neg (by omega), boxFor_pos a1]
    rw [boxFor_pos a1] at fit
    rcases box_spec ok a1 with ⟨b1, b2⟩ | ⟨st, b, b1, gb, b2, _⟩
    · rcases sg with ⟨_, s2⟩ | ⟨st', g', b', s1, _, _⟩
      · rw [b1, s2]
      · rw [b2] at s1
        cases s1
    · rcases sg with ⟨s1, _⟩ | ⟨st', g', b', s1, s2, s3⟩
      · rw [b2] at s1
        cases s1
      · rw [b2] at s1
        cases s1
        rw [s2, b1]
        show (if under start (st.getD 0) = true then (0 : Int) else _) = if tooSmall st start = true then 0 else _
        rw [under_small s0]
        by_cases ts : tooSmall st start = true
        · rw [if_pos ts, if_pos ts]
        · rw [if_neg ts, if_neg ts]
          obtain ⟨asc, inn, _, _⟩ := fit _ b1
          show _ = prodL M (b.mergeSort leK) * M ^ (n - (b.mergeSort leK).length)
          rw [prod_all M0 asc inn]
          refine prodF_congr fun i _ => ?_
          show val b' ((i : Int) - (row + last cs)) = val (b.mergeSort leK) ((i : Int) - row)
          rw [val_perm gb (List.mergeSort_perm b leK), ← s3 ((i : Int) - row)]
          congr 1
          omega
theorem len_pow {most n : Nat} : (((texts most n).length : Nat) : Int) = ((most : Int) + 1) ^ n := by
  have e := count_texts (most := most) (f := fun _ => 0) (fun _ => Int.le_refl 0) n
  have z := prod_all (M := (most : Int) + 1) (row := 0) (by omega) (n := n) (L := []) List.Pairwise.nil (fun _ h => nomatch h)
  have z' : 1 * ((most : Int) + 1) ^ (n - 0) = prodF ((most : Int) + 1) (fun _ => 0) n := z
  rw [Int.one_mul, Nat.sub_zero] at z'
  rw [z', ← e]
  congr 1
  symm
  rw [List.countP_eq_length]
  intro T hT
  rw [meets_iff]
  intro i hi
  obtain ⟨l, b⟩ := texts_ok hT
  rw [List.getD_eq_getElem?_getD]
  cases q : T[i]? with
  | none => exact Int.le_refl 0
  | some y => exact (b y (List.mem_of_getElem? q)).1
/-- what the law computes, from its own run on lines without letters -/
def dueL (n : Nat) (M row : Int) (start : Option Int) (cs : List Cmd) (goal : Option Int) : Int := match afterL (List.replicate n 0) row start cs, goal with
  | none, _ => 0
  | some (_, none), g => M ^ n * (if g = none then 1 else 0)
  | some (_, some _), none => 0
  | some (_, some _), some v => atLeast n M row start cs v - atLeast n M row start cs (v + 1)
theorem due_told {n most : Nat} {row : Int} {start : Option Int} {cs : List Cmd} {goal : Option Int} (ok : AllOk cs) (s0 : ge start 0) (g0 : ge goal 0) (r0 : 0 ≤ row) (r1 : row < n) :
    dueL n ((most : Int) + 1) row start cs goal = countN n most row start cs goal := by
  have lT : (List.replicate n (0 : Int)).length = n := List.length_replicate
  unfold dueL
  cases e : afterL (List.replicate n 0) row start cs with
  | none =>
    have out : row + (rchM cs).1 < 0 ∨ (n : Int) ≤ row + (rchM cs).2.1 := by
      by_cases z : row + (rchM cs).1 < 0 ∨ (n : Int) ≤ row + (rchM cs).2.1
      · exact z
      · have w : Within cs (-row) ((List.replicate n (0 : Int)).length - 1 - row) := fun i => by
          have := rch_in cs i
          rw [lT]
          omega
        rw [afterL_in w] at e
        cases e
    unfold countN
    rw [if_pos out]
  | some x =>
    have w := afterL_out r0 (by rw [lT]; exact r1) e
    have ea := afterL_in (a := start) w
    rw [lT] at w
    have w' : Within cs (-row) (n - 1 - row) := w
    have inn : ¬ (row + (rchM cs).1 < 0 ∨ (n : Int) ≤ row + (rchM cs).2.1) := by
      have := rch_le w'
      omega
    rw [e] at ea
    obtain rfl := Option.some.inj ea
    have fin0 : ∀ T ∈ texts most n, (aimF (lenAt T) row start cs = none ↔ aimF (lenAt (List.replicate n 0)) row start cs = none) := fun T _ => none_all Iff.rfl
    generalize aimF (lenAt (List.replicate n 0)) row start cs = a0 at fin0
    have as : aimsOf most n row start cs = (texts most n).map fun T => aimF (lenAt T) row start cs := by
      unfold aimsOf
      rw [if_neg inn]
    have tl := told (most := most) (n := n) (row := row) (start := start) (goal := goal) ok s0 g0
    rw [as] at tl
    cases a0 with
    | none =>
      show ((most : Int) + 1) ^ n * (if goal = none then 1 else 0) = _
      have all : (texts most n).map (fun T => aimF (lenAt T) row start cs) = List.replicate (texts most n).length none := by
        rw [List.eq_replicate_iff]
        refine ⟨List.length_map _, fun a ha => ?_⟩
        obtain ⟨T, hT, rfl⟩ := List.mem_map.mp ha
        exact (fin0 T hT).mpr rfl
      rw [all] at tl
      cases goal with
      | none =>
        rw [if_pos rfl, Int.mul_one, ← tl, ← len_pow, List.count_replicate_self]
      | some v =>
        rw [if_neg (fun z => nomatch z), Int.mul_zero, ← tl, List.count_replicate, if_neg (by simp)]
        rfl
    | some y =>
      cases goal with
      | none =>
        show (0 : Int) = _
        rw [← tl]
        have z : ((texts most n).map fun T => aimF (lenAt T) row start cs).count none = 0 := by
          rw [List.count_eq_zero]
          intro h
          obtain ⟨T, hT, e2⟩ := List.mem_map.mp h
          cases (fin0 T hT).mp e2
        rw [z]
        rfl
      | some v =>
        have v0 := ge_some.mp g0
        show atLeast n ((most : Int) + 1) row start cs v - atLeast n ((most : Int) + 1) row start cs (v + 1) = _
        rw [atLeast_reach (by omega) ok s0 v0 w', atLeast_reach (by omega) ok s0 (by omega) w']
        unfold countN
        rw [if_neg inn]
theorem count_size {n most : Nat} {row : Int} {start : Option Int} {cs : List Cmd} {goal : Option Int} (ok : AllOk cs) (s0 : ge start 0) (g0 : ge goal 0) (ln : n ≤ 40) (hm : (most : Int) < 2 ^ 110) : (countN n most row start cs goal).natAbs.log2 < 12900 := by
  have tl := told (most := most) (n := n) (row := row) (start := start) (goal := goal) ok s0 g0
  have c1 : (aimsOf most n row start cs).count goal ≤ (texts most n).length := by
    refine Nat.le_trans List.count_le_length ?_
    unfold aimsOf
    split
    · exact Nat.zero_le _
    · rw [List.length_map]
      exact Nat.le_refl _
  have lp := len_pow (most := most) (n := n)
  have ps := pow_small (x := (most : Int) + 1) (a := 111) (k := n) (b := 5000) (by omega) (by omega)
  rw [← lp] at ps
  have ps' : (texts most n).length < 2 ^ 5000 := ps
  rw [← tl]
  have := PySem.Flt.log2_lt_of (k := 5000) (by decide) (show ((((aimsOf most n row start cs).count goal : Nat) : Int)).natAbs < 2 ^ 5000 from Nat.lt_of_le_of_lt c1 ps')
  omega
end Gc

namespace Gc
open PySem L2
abbrev s_law : Stmt := top 31
structure TxtL (mg : Str → Option Value) : Prop where
  len : mg "len" = none
  range : mg "range" = none
  min : mg "min" = none
  int : mg "int" = none
  repr : mg "repr" = none
def spLaw (K : PySem.W.Frag) : Sp := fun vs H Q _ => ∃ (a : Addr) (ns : List Int), vs = [.ref a] ∧ SqL K H a (ns.map V.int) ∧ ns.length ≤ 63 ∧ ∀ H', Q (.bl true) H'
@[irreducible] def zCountT (K : PySem.W.Frag) : Sp := spCountT K
theorem zCountT_eq (K : PySem.W.Frag) : zCountT K = spCountT K := by unfold zCountT; rfl
@[irreducible] def zAtLeast (K : PySem.W.Frag) : Sp := spAtLeast K
theorem zAtLeast_eq (K : PySem.W.Frag) : zAtLeast K = spAtLeast K := by unfold zAtLeast; rfl
theorem EndV.same {H H' : Hp} {v : V} {o : Option (Int × Option Int)} (e : Same H H') (h : EndV H v o) : EndV H' v o := by
  cases o with
  | none => exact h
  | some x =>
    obtain ⟨p, rfl, h1⟩ := h
    exact ⟨p, rfl, e _ _ h1⟩
theorem EndV.keepB {H H' : Hp} {b g : Addr} {n : Nat} {v : V} {o : Option (Int × Option Int)} (e : Keep b g H H') (B : Bag H b g n) (h : EndV H v o) : EndV H' v o := by
  cases o with
  | none => exact h
  | some x =>
    obtain ⟨p, rfl, h1⟩ := h
    obtain ⟨_, _, _, _, z1, z2, _⟩ := B
    exact ⟨p, rfl, e _ _ (ne_of h1 z1 (by intro q; cases q)) (ne_of h1 z2 (by intro q; cases q)) h1⟩
theorem CmdsIn.keepB {K : PySem.W.Frag} {H H' : Hp} {b g l : Addr} {n : Nat} {xs : List V} {cs : List Cmd} (e : Keep b g H H') (B : Bag H b g n) (lb : l ≠ b) (lg : l ≠ g) (h : CmdsIn K H l xs cs) : CmdsIn K H' l xs cs := by
  refine ⟨?_, h.2.1.keepB e B, h.2.2⟩
  rcases h.1 with (z | ⟨o, z⟩) | z
  · exact .inl (.inl (e _ _ lb lg z))
  · exact .inl (.inr ⟨o, e _ _ lb lg z⟩)
  · exact .inr z
theorem ask_count {K : PySem.W.Frag} {H : Hp} {Q : VK} {E : XK} {lines : Nat} {longest row : Int} {start : Option Int} {c l : Addr} {xs : List V} {cs : List Cmd} {goal : Option Int} (hc : SqT K H c [.int row, optV start]) (ci : CmdsIn K H l xs cs) (l1 : 1 ≤ lines) (ll : lines ≤ 40) (z0 : 0 ≤ longest) (z1 : longest < 2 ^ 110)
    (r0 : 0 ≤ row) (r1 : row < lines) (s0 : ge start 0) (g0 : ge goal 0) (k : ∀ H', Same H H' → Q (.int (countN lines longest row start cs goal)) H') : zCountT K [.int lines, .int longest, .ref c, .ref l, optV goal] H Q E := by
  rw [zCountT_eq]
  exact ⟨lines, longest, row, start, c, l, xs, cs, goal, rfl, hc, ci, l1, ll, z0, z1, r0, r1, s0, g0, k⟩
theorem ask_least {K : PySem.W.Frag} {H : Hp} {Q : VK} {E : XK} {lines : Nat} {longest row aim : Int} {start : Option Int} {c l : Addr} {xs : List V} {cs : List Cmd} (hc : SqT K H c [.int row, optV start]) (ci : CmdsIn K H l xs cs) (sm : ∀ c ∈ cs, CSml c) (ll : lines ≤ 40) (z0 : 0 ≤ longest) (z1 : longest < 2 ^ 110)
    (r0 : 0 ≤ row) (r1 : row < lines) (w : 1 ≤ aim → Within cs (-row) (lines - 1 - row)) (k : ∀ H', Same H H' → Q (.int (atLeast lines (longest + 1) row start cs aim)) H') : zAtLeast K [.int lines, .int longest, .ref c, .ref l, .int aim] H Q E := by
  rw [zAtLeast_eq]
  exact ⟨lines, longest, row, start, c, l, xs, cs, aim, rfl, hc, ci, sm, ll, z0, z1, r0, r1, w, k⟩
section
variable {P : Program} {w : World} {K : PySem.W.Frag} {mg : Str → Option Value} {base : Heap}
theorem sc_law : FnScope ["script", "bag", "turn", "many", "most", "start", "moves", "whole", "end", "aim", "due"] ["script"] (defScope s_law) := ⟨rfl, rfl, rfl, by decide +kernel, rfl, by decide +kernel, by decide +kernel⟩
theorem ok_law {f : Addr} {fd : FuncData} (F : Fun K "law" "law" s_law f fd) (T : TxtL mg) (hst : PySem.W.nsIn K cStatics "sys.int_max_str_digits" = some none) (c_law_bag : Cal P w K mg base 1 "_law_bag" (spBag K)) (c_law_draw : Cal P w K mg base 1 "_law_draw" spBdraw) (c_law_moves : Cal P w K mg base 2 "_law_moves" (spMoves K))
    (c_law_great : Cal P w K mg base 2 "_law_great" spGreat) (c_law_kept : Cal P w K mg base 1 "_law_kept" (spKept K)) (c_law_end : Cal P w K mg base 1 "_law_end" (zEnd K)) (c_law_at_least : Cal P w K mg base 2 "_law_at_least" (zAtLeast K)) (c_count_texts : Cal P w K mg base 7 "count_texts" (zCountT K)) :
    FnOk P w K mg base CX0 8 f fd ["script"] (spLaw K) := by
  refine F.ok sc_law (fun vs H Q E h => ?_) (fun cdv A outer s H vs Q E hr h => ?_)
  · obtain ⟨a, ns, rfl, _⟩ := h
    rfl
  · obtain ⟨a, ns, rfl, hS, hlen, k⟩ := h
    refine ⟨_, (pss_cons (ps_set (i := 1) sc_law.nd rfl (Or.inl rfl) (pe_cal c_law_bag hr (by decide) (by rfl) (pa_cons (pv 0) pa_nil)))
      (pss_cons (ps_for PassesOwn.never rfl (pi_range1 rfl T.range (pa_cons (pe_op op_add pe_int (pe_callB (call_min2 rfl) (by rfl) T.min (by decide +kernel) (pa_cons pe_int (pa_cons (pe_callB call_len_seq (by rfl) T.len (by decide +kernel) (pa_cons (pv 0) pa_nil)) pa_nil)))) pa_nil)) (pg_name (i := 2) sc_law.nd rfl (Or.inl rfl)) (pss_cons (ps_set (i := 3) sc_law.nd rfl (Or.inl rfl) (pe_ix ix_tup (pe_tup (pa_cons (pe_op op_add pe_int (pe_cal c_law_draw hr (by decide) (by rfl) (pa_cons (pv 1) (pa_cons pe_int pa_nil)))) (pa_cons (pe_op op_add pe_int (pe_cal c_law_draw hr (by decide) (by rfl) (pa_cons (pv 1) (pa_cons pe_int pa_nil)))) pa_nil))) (pe_cal c_law_draw hr (by decide) (by rfl) (pa_cons (pv 1) (pa_cons pe_int pa_nil))) (fun _ _ => rfl)))
      (pss_cons (ps_set (i := 4) sc_law.nd rfl (Or.inl rfl) (pe_ix ix_tup (pe_tup (pa_cons (pe_cal c_law_draw hr (by decide) (by rfl) (pa_cons (pv 1) (pa_cons pe_int pa_nil))) (pa_cons (pe_cal c_law_draw hr (by decide) (by rfl) (pa_cons (pv 1) (pa_cons pe_int pa_nil))) (pa_cons (pe_cal c_law_great hr (by decide) (by rfl) (pa_cons (pv 1) pa_nil)) (pa_cons (pe_op op_sub (pe_op op_pow pe_int pe_int) pe_int) pa_nil))))) (pe_cal c_law_draw hr (by decide) (by rfl) (pa_cons (pv 1) (pa_cons pe_int pa_nil))) (fun _ _ => rfl)))
      (pss_cons (ps_set (i := 5) sc_law.nd rfl (Or.inl rfl) (pe_tup (pa_cons (pe_cal c_law_draw hr (by decide) (by rfl) (pa_cons (pv 1) (pa_cons (pv 3) pa_nil))) (pa_cons (pe_ix ix_tup (pe_tup (pa_cons (pe_cal c_law_draw hr (by decide) (by rfl) (pa_cons (pv 1) (pa_cons pe_int pa_nil))) (pa_cons (pe_cal c_law_great hr (by decide) (by rfl) (pa_cons (pv 1) pa_nil)) (pa_cons pe_non pa_nil)))) (pe_cal c_law_draw hr (by decide) (by rfl) (pa_cons (pv 1) (pa_cons pe_int pa_nil))) (fun _ _ => rfl)) pa_nil))))
      (pss_cons (ps_set (i := 6) sc_law.nd rfl (Or.inl rfl) (pe_cal c_law_moves hr (by decide) (by rfl) (pa_cons (pv 1) (pa_cons pe_int (pa_cons (pe_ix ix_tup (pe_tup (pa_cons pe_int (pa_cons (pe_op op_pow pe_int pe_int) (pa_cons (pe_op op_sub (pe_op op_pow pe_int pe_int) pe_int) pa_nil)))) (pe_cal c_law_draw hr (by decide) (by rfl) (pa_cons (pv 1) (pa_cons pe_int pa_nil))) (fun _ _ => rfl)) pa_nil)))))
      (C8.pss_cut (ps_if (pt_cmpR op_gt (pe_cal c_law_draw hr (by decide) (by rfl) (pa_cons (pv 1) (pa_cons pe_int pa_nil))) pe_int (nomark _)) (pss_one (ps_set (i := 6) sc_law.nd rfl (Or.inl rfl) (pe_cal c_law_kept hr (by decide) (by rfl) (pa_cons (pe_ix ix_tup (pv 5) pe_int (fun _ _ => rfl)) (pa_cons (pv 3) (pa_cons (pv 6) pa_nil)))))) pss_nil)
      (pss_cons (ps_set (i := 7) sc_law.nd rfl (Or.inl rfl) (pe_cal c_law_at_least hr (by decide) (by rfl) (pa_cons (pv 3) (pa_cons (pv 4) (pa_cons (pv 5) (pa_cons (pv 6) (pa_cons pe_int pa_nil)))))))
      (pss_cons (ps_set (i := 8) sc_law.nd rfl (Or.inl rfl) (pe_cal c_law_end hr (by decide) (by rfl) (pa_cons (pe_op op_rep (pe_lst (pa_cons pe_int pa_nil)) (pv 3)) (pa_cons (pv 5) (pa_cons (pv 6) pa_nil)))))
      (pss_one (ps_for PassesOwn.never rfl (pi_tup (pe_tup (pa_cons pe_int (pa_cons pe_int (pa_cons (pe_op op_add pe_int (pe_cal c_law_draw hr (by decide) (by rfl) (pa_cons (pv 1) (pa_cons pe_int pa_nil)))) (pa_cons (pe_callB (call_min2 rfl) (by rfl) T.min (by decide +kernel) (pa_cons (pe_op op_sub (pe_op op_pow pe_int pe_int) pe_int) (pa_cons (pe_op op_add pe_int (pe_cal c_law_draw hr (by decide) (by rfl) (pa_cons (pv 1) (pa_cons (pe_op op_add (pv 4) pe_int) pa_nil)))) pa_nil))) (pa_cons pe_non pa_nil))))))) (pg_name (i := 9) sc_law.nd rfl (Or.inl rfl)) (pss_cons (ps_set (i := 10) sc_law.nd rfl (Or.inl rfl) pe_int)
      (C8.pss_cut (ps_if (PW.pt (pw_and (pt_cmpR op_notN (pv 8) pe_non (nomark _)) (pw_and1 (pt_cmpR op_isN (pe_ix ix_tup (pv 8) pe_int (fun _ _ => rfl)) pe_non (nomark _))))) (pss_one (ps_set (i := 10) sc_law.nd rfl (Or.inl rfl) (pe_op op_mulW (pv 7) (pe_callTy call_int1 (by rfl) T.int (by decide +kernel) (pa_cons (pe_cmpR op_isN (pv 9) pe_non (nomark _)) pa_nil))))) (pss_one (ps_if (PW.pt (pw_and (pt_cmpR op_notN (pv 8) pe_non (nomark _)) (pw_and1 (pt_cmpR op_notN (pv 9) pe_non (nomark _))))) (pss_one (ps_set (i := 10) sc_law.nd rfl (Or.inl rfl) (pe_op op_sub (pe_cal c_law_at_least hr (by decide) (by rfl) (pa_cons (pv 3) (pa_cons (pv 4) (pa_cons (pv 5) (pa_cons (pv 6) (pa_cons (pv 9) pa_nil)))))) (pe_cal c_law_at_least hr (by decide) (by rfl) (pa_cons (pv 3) (pa_cons (pv 4) (pa_cons (pv 5) (pa_cons (pv 6) (pa_cons (pe_op op_add (pv 9) pe_int) pa_nil))))))))) pss_nil)))
      (pss_one (ps_if (pt_cmpR op_ne (pe_callB (cr_reprBig hst) (by rfl) T.repr (by decide +kernel) (pa_cons (pe_cal c_count_texts hr (by decide) (by rfl) (pa_cons (pv 3) (pa_cons (pv 4) (pa_cons (pv 5) (pa_cons (pv 6) (pa_cons (pv 9) pa_nil)))))) pa_nil)) (pe_callB (cr_reprBig hst) (by rfl) T.repr (by decide +kernel) (pa_cons (pv 10) pa_nil)) (nomark _)) (pss_one (ps_ret pe_bl)) pss_nil))))))))))))))
      (pss_one (ps_ret pe_bl)))), ?_⟩
    refine ⟨_, rfl, a, ns, rfl, hS, hlen, fun H1 b g e1 nb ng B1 => ?_⟩
    refine ⟨_, rfl, a, _, rfl, .inl (e1.seq hS), _, _, rfl, _, _, rfl, rfl, _, rfl, ?_, ?_, ?_⟩
    · omega
    · omega
    refine for_range (lo := 0) (fun i σ H' => ∃ v2 v3 v4 v5 v6 v7 v8 v9 v10 : Option V, σ = [some (.ref a), some (.ref b), v2, v3, v4, v5, v6, v7, v8, v9, v10] ∧ Bag H' b g (1000 * i)) ⟨none, none, none, none, none, none, none, none, none, rfl, B1⟩ (fun i σ H2 hi h => ?_) (fun σ H2 h => ?_)
    · obtain ⟨v2, v3, v4, v5, v6, v7, v8, v9, v10, rfl, B2⟩ := h
      have hi' : i < 2 ^ 20 := by
        rw [List.length_map] at hi
        omega
      -- many
      refine ⟨_, rfl, b, g, _, 4, rfl, B2, by omega, by decide, by decide, fun H3 d3 kp3 B3 d30 d31 => ⟨_, _, rfl, rfl, _, rfl, b, g, _, 40, rfl, B3, by omega, by decide, by decide, fun H4 d4 kp4 B4 d40 d41 => ⟨_, _, rfl, rfl, (by show 2 ≤ sizeLine; decide), fun q hq => ?_⟩⟩⟩
      have sq : Same H4 (upd H4 q (.tup [.int (1 + d3), .int (1 + d4)])) := same_upd (Same.refl _) hq
      obtain ⟨qb, qg⟩ := B4.off hq
      refine ⟨_, rfl, b, g, _, 2, rfl, B4.same sq, by omega, by decide, by decide, fun H5 d5 kp5 B5 d50 d51 => ?_⟩
      have hq5 := kp5 _ _ qb qg (upd_same (H := H4) (a := q) (o := .tup [.int (1 + d3), .int (1 + d4)]))
      obtain ⟨n, hn, n1, n40⟩ : ∃ n : Nat, atI [V.int (1 + d3), .int (1 + d4)] d5 = some (.int (n : Int)) ∧ 1 ≤ n ∧ n ≤ 40 := by
        rcases (show d5 = 0 ∨ d5 = 1 by omega) with rfl | rfl
        · exact ⟨(1 + d3).toNat, by rw [show (((1 + d3).toNat : Nat) : Int) = 1 + d3 by omega]; rfl, by omega, by omega⟩
        · exact ⟨(1 + d4).toNat, by rw [show (((1 + d4).toNat : Nat) : Int) = 1 + d4 by omega]; rfl, by omega, by omega⟩
      refine ⟨q, _, d5, _, rfl, rfl, SqT.of hq5, hn, ?_⟩
      -- most
      refine ⟨_, rfl, b, g, _, 11, rfl, B5, by omega, by decide, by decide, fun H6 d6 kp6 B6 d60 d61 => ⟨_, rfl, b, g, _, 101, rfl, B6, by omega, by decide, by decide, fun H7 d7 kp7 B7 d70 d71 => ⟨_, rfl, b, g, _, rfl, B7, by omega, fun H8 d8 kp8 B8 d80 d81 => ?_⟩⟩⟩
      refine ⟨_, _, rfl, rfl, cpow (by decide), _, _, rfl, rfl, (by show 4 ≤ sizeLine; decide), fun q2 hq2 => ?_⟩
      have sq2 : Same H8 (upd H8 q2 (.tup [.int d6, .int d7, .int d8, .int (10 ^ (30 : Int).toNat - 1)])) := same_upd (Same.refl _) hq2
      obtain ⟨q2b, q2g⟩ := B8.off hq2
      refine ⟨_, rfl, b, g, _, 4, rfl, B8.same sq2, by omega, by decide, by decide, fun H9 d9 kp9 B9 d90 d91 => ?_⟩
      have hq9 := kp9 _ _ q2b q2g (upd_same (H := H8) (a := q2) (o := .tup [.int d6, .int d7, .int d8, .int (10 ^ (30 : Int).toNat - 1)]))
      obtain ⟨m, hm, m30⟩ : ∃ m : Nat, atI [V.int d6, .int d7, .int d8, .int (10 ^ (30 : Int).toNat - 1)] d9 = some (.int (m : Int)) ∧ (m : Int) < 10 ^ 30 := by
        rcases (show d9 = 0 ∨ d9 = 1 ∨ d9 = 2 ∨ d9 = 3 by omega) with rfl | rfl | rfl | rfl
        · exact ⟨d6.toNat, by rw [show ((d6.toNat : Nat) : Int) = d6 by omega]; rfl, by omega⟩
        · exact ⟨d7.toNat, by rw [show ((d7.toNat : Nat) : Int) = d7 by omega]; rfl, by omega⟩
        · exact ⟨d8.toNat, by rw [show ((d8.toNat : Nat) : Int) = d8 by omega]; rfl, by omega⟩
        · exact ⟨10 ^ 30 - 1, congrArg (fun z => some (V.int z)) (by decide : (10 : Int) ^ (30 : Int).toNat - 1 = ((10 ^ 30 - 1 : Nat) : Int)), by decide⟩
      refine ⟨q2, _, d9, _, rfl, rfl, SqT.of hq9, hm, ?_⟩
      have m110 : (m : Int) < 2 ^ 110 := by omega
      -- start
      refine ⟨_, rfl, _, rfl, b, g, _, n, rfl, B9, by omega, by omega, log9B (k := 10) (by omega) (by decide), fun Ha row kpa Ba r0 r1 => ?_⟩
      refine ⟨_, rfl, b, g, _, 12, rfl, Ba, by omega, by decide, by decide, fun Hb db kpb Bb db0 db1 => ⟨_, rfl, b, g, _, rfl, Bb, by omega, fun Hc dc kpc Bc dc0 dc1 => ⟨(by show 3 ≤ sizeLine; decide), fun q3 hq3 => ?_⟩⟩⟩
      have sq3 : Same Hc (upd Hc q3 (.tup [.int db, .int dc, .non])) := same_upd (Same.refl _) hq3
      obtain ⟨q3b, q3g⟩ := Bc.off hq3
      refine ⟨_, rfl, b, g, _, 3, rfl, Bc.same sq3, by omega, by decide, by decide, fun Hd dd kpd Bd dd0 dd1 => ?_⟩
      have hqd := kpd _ _ q3b q3g (upd_same (H := Hc) (a := q3) (o := .tup [.int db, .int dc, .non]))
      obtain ⟨start, hst0, s0⟩ : ∃ o : Option Int, atI [V.int db, .int dc, .non] dd = some (optV o) ∧ ge o 0 := by
        rcases (show dd = 0 ∨ dd = 1 ∨ dd = 2 by omega) with rfl | rfl | rfl
        · exact ⟨some db, rfl, ge_some.mpr db0⟩
        · exact ⟨some dc, rfl, ge_some.mpr dc0⟩
        · exact ⟨none, rfl, ge_none 0⟩
      refine ⟨q3, _, _, _, rfl, rfl, SqT.of hqd, hst0, (by show 2 ≤ sizeLine; decide), fun c hc => ?_⟩
      have sc : Same Hd (upd Hd c (.tup [.int row, optV start])) := same_upd (Same.refl _) hc
      have hcc : upd Hd c (.tup [.int row, optV start]) c = some (.tup [.int row, optV start]) := upd_same
      obtain ⟨cb, cg⟩ := Bd.off hc
      have Be := Bd.same sc
      generalize upd Hd c (.tup [.int row, optV start]) = He at sc hcc Be ⊢
      -- moves
      refine ⟨_, rfl, _, _, rfl, rfl, cpow (by decide), _, _, rfl, rfl, cpow (by decide), _, _, rfl, rfl, (by show 3 ≤ sizeLine; decide), fun q4 hq4 => ?_⟩
      have sq4 : Same He (upd He q4 (.tup [.int 9, .int (10 ^ (14 : Int).toNat), .int (10 ^ (30 : Int).toNat - 1)])) := same_upd (Same.refl _) hq4
      obtain ⟨q4b, q4g⟩ := Be.off hq4
      refine ⟨_, rfl, b, g, _, 3, rfl, Be.same sq4, by omega, by decide, by decide, fun Hf df kpf Bf df0 df1 => ?_⟩
      have hqf := kpf _ _ q4b q4g (upd_same (H := He) (a := q4) (o := .tup [.int 9, .int (10 ^ (14 : Int).toNat), .int (10 ^ (30 : Int).toNat - 1)]))
      obtain ⟨far, hfar, far1, far2⟩ : ∃ z : Int, atI [V.int 9, .int (10 ^ (14 : Int).toNat), .int (10 ^ (30 : Int).toNat - 1)] df = some (.int z) ∧ 1 ≤ z ∧ z ≤ 10 ^ 30 := by
        rcases (show df = 0 ∨ df = 1 ∨ df = 2 by omega) with rfl | rfl | rfl
        · exact ⟨_, rfl, by decide, by decide⟩
        · exact ⟨_, rfl, by decide, by decide⟩
        · exact ⟨_, rfl, by decide, by decide⟩
      refine ⟨q4, _, df, _, rfl, rfl, SqT.of hqf, hfar, b, g, _, 20, far, rfl, Bf, by omega, by decide, by decide, far1, far2, fun Hg l0 xs0 cs0 kpg Bg nl0 hl0 hcs0 ok0 sm0 ln0 => ?_⟩
      have hcg := kpg _ _ cb cg (kpf _ _ cb cg (sq4 _ _ hcc))
      obtain ⟨l0b, l0g⟩ := Bf.off nl0
      -- kept
      refine ⟨fun σ H' => ∃ (l : Addr) (xs : List V) (cs : List Cmd), σ = [some (.ref a), some (.ref b), some (.int (0 + (i : Int))), some (.int n), some (.int m), some (.ref c), some (.ref l), v7, v8, v9, v10] ∧ l ≠ b ∧ l ≠ g ∧ CmdsIn K H' l xs cs ∧ (∀ d ∈ cs, CSml d) ∧ H' c = some (.tup [.int row, optV start]) ∧
          Bag H' b g (1000 * i + 500), ?_, ?_⟩
      · refine ⟨_, rfl, b, g, _, 3, rfl, Bg, by omega, by decide, by decide, fun Hh dh kph Bh dh0 dh1 => ⟨_, _, rfl, rfl, _, rfl, ite2 (fun _ => ?_) (fun _ => ?_)⟩⟩
        · have hch := kph _ _ cb cg hcg
          have hlh := kph _ _ l0b l0g hl0
          have hcsh := hcs0.keepB kph Bg
          refine ⟨_, rfl, c, _, 0, _, rfl, rfl, SqT.of hch, rfl, _, rfl, _, rfl, row, n, l0, xs0, cs0, rfl, SqL.of hlh, hcsh, ok0, sm0, by omega, r0, r1, fun Hi p ys ds ei np hp hds okd smd lnd _ => ?_⟩
          exact ⟨p, ys, ds, rfl, (Bh.off np).1, (Bh.off np).2, ⟨SqL.of hp, hds, okd, by omega⟩, smd, ei _ _ hch, (Bh.same ei).more (by omega)⟩
        · exact ⟨l0, xs0, cs0, rfl, l0b, l0g, ⟨SqL.of (kph _ _ l0b l0g hl0), hcs0.keepB kph Bg, ok0, by omega⟩, sm0, kph _ _ cb cg hcg, Bh.more (by omega)⟩
      · rintro σ Hj ⟨l, xs, cs, rfl, lb, lg, ci, sm, hcj, Bj⟩
        have ok := ci.2.2.1
        -- whole
        refine ⟨_, rfl, _, rfl, _, rfl, _, rfl, ?_⟩
        refine ask_least (row := row) (start := start) (aim := 0) (SqT.of hcj) ci sm n40 (by omega) m110 r0 r1 (fun z => absurd z (by decide)) (fun Hk ek => ?_)
        have eW : atLeast n ((m : Int) + 1) row start cs 0 = ((m : Int) + 1) ^ n := if_pos (by decide)
        rw [eW]
        -- end
        refine ⟨(by show 1 ≤ sizeLine; decide), fun q5 hq5 => ⟨_, rfl, q5, n, [.int 0], rfl, rfl, upd_same, by omega, by omega, ?_, fun q6 hq6 => ?_⟩⟩
        · show 1 * ((n : Nat) : Int).toNat ≤ sizeLine
          rw [sizeLine_eq]
          omega
        rw [show (List.replicate ((n : Nat) : Int).toNat [V.int 0]).flatten = (List.replicate n (0 : Int)).map V.int from rep_zero n]
        have s56 : Same Hk (upd (upd Hk q5 (.lst [.int 0])) q6 (.lst ((List.replicate n (0 : Int)).map V.int))) := same_upd (same_upd (Same.refl _) hq5) hq6
        have hq6' : upd (upd Hk q5 (.lst [.int 0])) q6 (.lst ((List.replicate n (0 : Int)).map V.int)) q6 = some (.lst ((List.replicate n (0 : Int)).map V.int)) := upd_same
        generalize upd (upd Hk q5 (.lst [.int 0])) q6 (.lst ((List.replicate n (0 : Int)).map V.int)) = Hl at s56 hq6' ⊢
        have ejl := ek.trans s56
        have lT : (List.replicate n (0 : Int)).length = n := List.length_replicate
        refine ⟨_, rfl, _, rfl, ?_⟩
        refine ask_end2 (T := List.replicate n 0) (row := row) (g := start) (SqL.of hq6') (SqT.of (ejl _ _ hcj)) (ci.same ejl).1 (ci.same ejl).2.1 sm r0 (by rw [lT]; exact r1) (fun Hm ev em hev => ?_)
        have ejm := ejl.trans em
        have Bm := Bj.same ejm
        -- the goals that are asked
        refine ⟨_, rfl, b, g, _, 12, rfl, Bm, by omega, by decide, by decide, fun Hn dn kpn Bn dn0 dn1 => ⟨_, _, rfl, rfl, ?_⟩⟩
        refine ⟨_, _, rfl, rfl, cpow (by decide), _, _, rfl, rfl, _, rfl, _, rfl, _, _, rfl, rfl, b, g, _, _, rfl, Bn, by omega, by omega, log9B (k := 120) (by omega) (by decide), fun Ho dz kpo Bo dz0 dz1 => ⟨_, _, rfl, rfl, _, _, rfl, (by show 5 ≤ sizeLine; decide), fun qt hqt => ?_⟩⟩
        have kmo := kpn.trans kpo
        have cio := (ci.same ejm).keepB kmo Bm lb lg
        have hco := kmo _ _ cb cg (ejm _ _ hcj)
        have hevo := hev.keepB kmo Bm
        have so : ∀ o : HO, Same Ho (upd Ho qt o) := fun o => same_upd (Same.refl _) hqt
        refine ⟨qt, rfl, ⟨_, SqT.of upd_same⟩, for_tup (K := K) (a := qt) (xs := [.int 0, .int 1, .int (1 + dn), .int (if 1 + dz < 10 ^ (30 : Int).toNat - 1 then 1 + dz else 10 ^ (30 : Int).toNat - 1), .non]) (fun j σ H' => ∃ v9 v10 : Option V,
            σ = [some (.ref a), some (.ref b), some (.int (0 + (i : Int))), some (.int n), some (.int m), some (.ref c), some (.ref l), some (.int (((m : Int) + 1) ^ n)), some ev, v9, v10] ∧
            Same (upd Ho qt (.tup [.int 0, .int 1, .int (1 + dn), .int (if 1 + dz < 10 ^ (30 : Int).toNat - 1 then 1 + dz else 10 ^ (30 : Int).toNat - 1), .non])) H')
          ⟨v9, v10, rfl, Same.refl _⟩ (fun j σ H' _ ⟨_, _, _, e⟩ => SqT.of (e _ _ upd_same)) (fun j y σ Hp hy h => ?_) (fun σ Hp h => ?_)⟩
        · obtain ⟨u9, u10, rfl, ep⟩ := h
          have eop := (so _).trans ep
          obtain ⟨o, rfl, o0⟩ : ∃ o : Option Int, y = optV o ∧ ge o 0 := by
            rcases j with _ | _ | _ | _ | _ | j
            · exact ⟨some 0, (Option.some.inj hy).symm, ge_some.mpr (by decide)⟩
            · exact ⟨some 1, (Option.some.inj hy).symm, ge_some.mpr (by decide)⟩
            · exact ⟨some (1 + dn), (Option.some.inj hy).symm, ge_some.mpr (by omega)⟩
            · refine ⟨some _, (Option.some.inj hy).symm, ge_some.mpr ?_⟩
              have t : (0 : Int) ≤ 10 ^ (30 : Int).toNat - 1 := by decide
              split <;> omega
            · exact ⟨none, (Option.some.inj hy).symm, ge_none 0⟩
            · cases hy
          have told28 := due_told (n := n) (most := m) (row := row) (start := start) (goal := o) ok s0 o0 r0 r1
          have lg28 := count_size (n := n) (most := m) (row := row) (start := start) (goal := o) ok s0 o0 n40 m110
          have cip := cio.same eop
          have hcp := eop _ _ hco
          have hevp := hevo.same eop
          -- due
          refine ⟨fun σ H' => σ = [some (.ref a), some (.ref b), some (.int (0 + (i : Int))), some (.int n), some (.int m), some (.ref c), some (.ref l), some (.int (((m : Int) + 1) ^ n)), some ev, some (optV o), some (.int (countN n m row start cs o))] ∧ Same Hp H', ?_, ?_⟩
          · unfold dueL at told28
            cases haf : afterL (List.replicate n 0) row start cs with
            | none =>
              rw [haf] at hevp told28
              obtain rfl : ev = .non := hevp
              have z : countN n m row start cs o = 0 := by
                rw [← told28]
              rw [z]
              exact ⟨_, rfl, rfl, _, rfl, iteF (iteF ⟨_, rfl, rfl, _, rfl, iteF (iteF ⟨rfl, Same.refl _⟩)⟩)⟩
            | some x =>
              have wi := afterL_out r0 (by rw [lT]; exact r1) haf
              rw [lT] at wi
              rw [haf] at hevp told28
              obtain ⟨p, rfl, hp⟩ := hevp
              obtain ⟨r2, a2⟩ := x
              cases a2 with
              | none =>
                refine ⟨_, rfl, rfl, _, rfl, iteT ?_⟩
                refine ⟨_, rfl, p, _, 1, _, rfl, rfl, SqT.of hp, rfl, rfl, _, rfl, iteT ?_⟩
                have ps := pow_small (x := (m : Int) + 1) (a := 111) (k := n) (b := 5000) (by omega) (by omega)
                refine ⟨_, rfl, _, rfl, rfl, .inr ⟨_, rfl, _, _, rfl, rfl, wide_mul (a := 5000) (b := 61) ps (by split <;> decide) (by decide) (by decide) (by decide), ?_⟩⟩
                have z : ((m : Int) + 1) ^ n * (if decide (optV o = V.non) = true then 1 else 0) = countN n m row start cs o := by
                  rw [← told28]
                  cases o with
                  | none => rfl
                  | some v => rfl
                exact ⟨by rw [← z]; rfl, Same.refl _⟩
              | some y =>
                refine ⟨_, rfl, rfl, _, rfl, iteT ?_⟩
                refine ⟨_, rfl, p, _, 1, _, rfl, rfl, SqT.of hp, rfl, rfl, _, rfl, iteF ?_⟩
                refine ⟨_, rfl, rfl, _, rfl, iteT ?_⟩
                cases o with
                | none =>
                  have z : countN n m row start cs none = 0 := by
                    rw [← told28]
                  rw [z]
                  exact ⟨_, rfl, rfl, _, rfl, iteF ⟨rfl, Same.refl _⟩⟩
                | some v =>
                  refine ⟨_, rfl, rfl, _, rfl, iteT ?_⟩
                  refine ⟨_, rfl, _, rfl, _, rfl, _, rfl, _, rfl, ?_⟩
                  refine ask_least (row := row) (start := start) (aim := v) (SqT.of hcp) cip sm n40 (by omega) m110 r0 r1 (fun _ => wi) (fun Hq eq => ?_)
                  refine ⟨_, rfl, _, rfl, _, rfl, _, rfl, _, rfl, _, _, rfl, rfl, ?_⟩
                  refine ask_least (row := row) (start := start) (aim := v + 1) (SqT.of (eq _ _ hcp)) (cip.same eq) sm n40 (by omega) m110 r0 r1 (fun _ => wi) (fun Hr er => ?_)
                  refine ⟨_, _, rfl, rfl, ?_⟩
                  have z : atLeast n ((m : Int) + 1) row start cs v - atLeast n ((m : Int) + 1) row start cs (v + 1) = countN n m row start cs (some v) := told28
                  exact ⟨by rw [← z]; rfl, eq.trans er⟩
          · rintro σ Hs ⟨rfl, es⟩
            refine ⟨_, rfl, _, rfl, _, rfl, _, rfl, _, rfl, ?_⟩
            refine ask_count (row := row) (start := start) (goal := o) (SqT.of (es _ _ hcp)) (cip.same es) n1 n40 (by omega) m110 r0 r1 s0 o0 (fun Ht et => ?_)
            refine ⟨_, rfl, lg28, _, rfl, _, rfl, lg28, rfl, false, by simp, iteF ?_⟩
            exact ⟨_, _, rfl, (ep.trans es).trans et⟩
        · obtain ⟨u9, u10, rfl, ep⟩ := h
          exact ⟨_, _, _, _, _, _, _, _, _, rfl, ((Bo.same (so _)).same ep).more (by omega)⟩
    · obtain ⟨v2, v3, v4, v5, v6, v7, v8, v9, v10, rfl, B2⟩ := h
      exact k _
end
end Gc

namespace Gc
open PySem L2
theorem all_mk {l : PySem.W.OpenLaw} {w : World} {K : PySem.W.Frag} {h : Heap} {mg : Str → Option Value} {fa : Addr} (X : K.In h) (G : h.Ns mainGlobals mg) (hfa : mg "law" = some (.ref fa))
    {wn wo : Addr} {odN odO : Option Addr} {nN nO : Nat} {slN slO : Array (Option Value)} {tn0 tn1 tn2 tn3 to0 to1 : Tok}
    {f_is_count : Addr} {oc_is_count kV_is_count dc_is_count pm_is_count cd_is_count ct_is_count : Value} {od_is_count an_is_count : Option Addr} {sl_is_count : Array (Option Value)}
    {f_is_command : Addr} {oc_is_command kV_is_command dc_is_command pm_is_command cd_is_command ct_is_command : Value} {od_is_command an_is_command : Option Addr} {sl_is_command : Array (Option Value)}
    {f_check_commands : Addr} {oc_check_commands kV_check_commands dc_check_commands pm_check_commands cd_check_commands ct_check_commands : Value} {od_check_commands an_check_commands : Option Addr} {sl_check_commands : Array (Option Value)}
    {f_check_number : Addr} {oc_check_number kV_check_number dc_check_number pm_check_number cd_check_number ct_check_number : Value} {od_check_number an_check_number : Option Addr} {sl_check_number : Array (Option Value)}
    {f_row_change : Addr} {oc_row_change kV_row_change dc_row_change pm_row_change cd_row_change ct_row_change : Value} {od_row_change an_row_change : Option Addr} {sl_row_change : Array (Option Value)}
    {f_reach : Addr} {oc_reach kV_reach dc_reach pm_reach cd_reach ct_reach : Value} {od_reach an_reach : Option Addr} {sl_reach : Array (Option Value)}
    {f_require : Addr} {oc_require kV_require dc_require pm_require cd_require ct_require : Value} {od_require an_require : Option Addr} {sl_require : Array (Option Value)}
    {f_box : Addr} {oc_box kV_box dc_box pm_box cd_box ct_box : Value} {od_box an_box : Option Addr} {sl_box : Array (Option Value)}
    {f_check_cursor : Addr} {oc_check_cursor kV_check_cursor dc_check_cursor pm_check_cursor cd_check_cursor ct_check_cursor : Value} {od_check_cursor an_check_cursor : Option Addr} {sl_check_cursor : Array (Option Value)}
    {f_count_texts : Addr} {oc_count_texts kV_count_texts dc_count_texts pm_count_texts cd_count_texts ct_count_texts : Value} {od_count_texts an_count_texts : Option Addr} {sl_count_texts : Array (Option Value)}
    {f_count_reaching : Addr} {oc_count_reaching kV_count_reaching dc_count_reaching pm_count_reaching cd_count_reaching ct_count_reaching : Value} {od_count_reaching an_count_reaching : Option Addr} {sl_count_reaching : Array (Option Value)}
    {f_law_bag : Addr} {oc_law_bag kV_law_bag dc_law_bag pm_law_bag cd_law_bag ct_law_bag : Value} {od_law_bag an_law_bag : Option Addr} {sl_law_bag : Array (Option Value)}
    {f_law_draw : Addr} {oc_law_draw kV_law_draw dc_law_draw pm_law_draw cd_law_draw ct_law_draw : Value} {od_law_draw an_law_draw : Option Addr} {sl_law_draw : Array (Option Value)}
    {f_law_moves : Addr} {oc_law_moves kV_law_moves dc_law_moves pm_law_moves cd_law_moves ct_law_moves : Value} {od_law_moves an_law_moves : Option Addr} {sl_law_moves : Array (Option Value)}
    {f_law_great : Addr} {oc_law_great kV_law_great dc_law_great pm_law_great cd_law_great ct_law_great : Value} {od_law_great an_law_great : Option Addr} {sl_law_great : Array (Option Value)}
    {f_law_end : Addr} {oc_law_end kV_law_end dc_law_end pm_law_end cd_law_end ct_law_end : Value} {od_law_end an_law_end : Option Addr} {sl_law_end : Array (Option Value)}
    {f_law_kept : Addr} {oc_law_kept kV_law_kept dc_law_kept pm_law_kept cd_law_kept ct_law_kept : Value} {od_law_kept an_law_kept : Option Addr} {sl_law_kept : Array (Option Value)}
    {f_law_scanned : Addr} {oc_law_scanned kV_law_scanned dc_law_scanned pm_law_scanned cd_law_scanned ct_law_scanned : Value} {od_law_scanned an_law_scanned : Option Addr} {sl_law_scanned : Array (Option Value)}
    {f_law_at_least : Addr} {oc_law_at_least kV_law_at_least dc_law_at_least pm_law_at_least cd_law_at_least ct_law_at_least : Value} {od_law_at_least an_law_at_least : Option Addr} {sl_law_at_least : Array (Option Value)}
    {f_law : Addr} {oc_law kV_law dc_law pm_law cd_law ct_law : Value} {od_law an_law : Option Addr} {sl_law : Array (Option Value)}
    (aWN : PySem.W.nsIn K mainGlobals "WITH_NUMBER" = some (some (.ref wn)))
    (aWO : PySem.W.nsIn K mainGlobals "WITHOUT_NUMBER" = some (some (.ref wo)))
    (lWN : K.lookup wn = some ⟨.type "tuple", odN, .seq #[.str "down" tn0, .str "up" tn1, .str "right" tn2, .str "left" tn3] nN, slN⟩)
    (lWO : K.lookup wo = some ⟨.type "tuple", odO, .seq #[.str "home" to0, .str "end" to1] nO, slO⟩)
    (a_is_count : PySem.W.nsIn K mainGlobals "is_count" = some (some (.ref f_is_count)))
    (l_is_count : K.lookup f_is_count = some ⟨oc_is_count, od_is_count, .func (PySem.W.fnOf "is_count" "is_count" (defArgs s_is_count) (defBody s_is_count) (defScope s_is_count) .none kV_is_count dc_is_count pm_is_count an_is_count cd_is_count ct_is_count), sl_is_count⟩)
    (c_is_count : PySem.W.codeIn K cd_is_count "is_count" = true)
    (k_is_count : PySem.W.keepIn K (.ref f_is_count) = true)
    (a_is_command : PySem.W.nsIn K mainGlobals "is_command" = some (some (.ref f_is_command)))
    (l_is_command : K.lookup f_is_command = some ⟨oc_is_command, od_is_command, .func (PySem.W.fnOf "is_command" "is_command" (defArgs s_is_command) (defBody s_is_command) (defScope s_is_command) .none kV_is_command dc_is_command pm_is_command an_is_command cd_is_command ct_is_command), sl_is_command⟩)
    (c_is_command : PySem.W.codeIn K cd_is_command "is_command" = true)
    (k_is_command : PySem.W.keepIn K (.ref f_is_command) = true)
    (a_check_commands : PySem.W.nsIn K mainGlobals "check_commands" = some (some (.ref f_check_commands)))
    (l_check_commands : K.lookup f_check_commands = some ⟨oc_check_commands, od_check_commands, .func (PySem.W.fnOf "check_commands" "check_commands" (defArgs s_check_commands) (defBody s_check_commands) (defScope s_check_commands) .none kV_check_commands dc_check_commands pm_check_commands an_check_commands cd_check_commands ct_check_commands), sl_check_commands⟩)
    (c_check_commands : PySem.W.codeIn K cd_check_commands "check_commands" = true)
    (k_check_commands : PySem.W.keepIn K (.ref f_check_commands) = true)
    (a_check_number : PySem.W.nsIn K mainGlobals "check_number" = some (some (.ref f_check_number)))
    (l_check_number : K.lookup f_check_number = some ⟨oc_check_number, od_check_number, .func (PySem.W.fnOf "check_number" "check_number" (defArgs s_check_number) (defBody s_check_number) (defScope s_check_number) .none kV_check_number dc_check_number pm_check_number an_check_number cd_check_number ct_check_number), sl_check_number⟩)
    (c_check_number : PySem.W.codeIn K cd_check_number "check_number" = true)
    (k_check_number : PySem.W.keepIn K (.ref f_check_number) = true)
    (a_row_change : PySem.W.nsIn K mainGlobals "row_change" = some (some (.ref f_row_change)))
    (l_row_change : K.lookup f_row_change = some ⟨oc_row_change, od_row_change, .func (PySem.W.fnOf "row_change" "row_change" (defArgs s_row_change) (defBody s_row_change) (defScope s_row_change) .none kV_row_change dc_row_change pm_row_change an_row_change cd_row_change ct_row_change), sl_row_change⟩)
    (c_row_change : PySem.W.codeIn K cd_row_change "row_change" = true)
    (k_row_change : PySem.W.keepIn K (.ref f_row_change) = true)
    (a_reach : PySem.W.nsIn K mainGlobals "reach" = some (some (.ref f_reach)))
    (l_reach : K.lookup f_reach = some ⟨oc_reach, od_reach, .func (PySem.W.fnOf "reach" "reach" (defArgs s_reach) (defBody s_reach) (defScope s_reach) .none kV_reach dc_reach pm_reach an_reach cd_reach ct_reach), sl_reach⟩)
    (c_reach : PySem.W.codeIn K cd_reach "reach" = true)
    (k_reach : PySem.W.keepIn K (.ref f_reach) = true)
    (a_require : PySem.W.nsIn K mainGlobals "require" = some (some (.ref f_require)))
    (l_require : K.lookup f_require = some ⟨oc_require, od_require, .func (PySem.W.fnOf "require" "require" (defArgs s_require) (defBody s_require) (defScope s_require) .none kV_require dc_require pm_require an_require cd_require ct_require), sl_require⟩)
    (c_require : PySem.W.codeIn K cd_require "require" = true)
    (k_require : PySem.W.keepIn K (.ref f_require) = true)
    (a_box : PySem.W.nsIn K mainGlobals "box" = some (some (.ref f_box)))
    (l_box : K.lookup f_box = some ⟨oc_box, od_box, .func (PySem.W.fnOf "box" "box" (defArgs s_box) (defBody s_box) (defScope s_box) .none kV_box dc_box pm_box an_box cd_box ct_box), sl_box⟩)
    (c_box : PySem.W.codeIn K cd_box "box" = true)
    (k_box : PySem.W.keepIn K (.ref f_box) = true)
    (a_check_cursor : PySem.W.nsIn K mainGlobals "check_cursor" = some (some (.ref f_check_cursor)))
    (l_check_cursor : K.lookup f_check_cursor = some ⟨oc_check_cursor, od_check_cursor, .func (PySem.W.fnOf "check_cursor" "check_cursor" (defArgs s_check_cursor) (defBody s_check_cursor) (defScope s_check_cursor) .none kV_check_cursor dc_check_cursor pm_check_cursor an_check_cursor cd_check_cursor ct_check_cursor), sl_check_cursor⟩)
    (c_check_cursor : PySem.W.codeIn K cd_check_cursor "check_cursor" = true)
    (k_check_cursor : PySem.W.keepIn K (.ref f_check_cursor) = true)
    (a_count_texts : PySem.W.nsIn K mainGlobals "count_texts" = some (some (.ref f_count_texts)))
    (l_count_texts : K.lookup f_count_texts = some ⟨oc_count_texts, od_count_texts, .func (PySem.W.fnOf "count_texts" "count_texts" (defArgs s_count_texts) (defBody s_count_texts) (defScope s_count_texts) .none kV_count_texts dc_count_texts pm_count_texts an_count_texts cd_count_texts ct_count_texts), sl_count_texts⟩)
    (c_count_texts : PySem.W.codeIn K cd_count_texts "count_texts" = true)
    (k_count_texts : PySem.W.keepIn K (.ref f_count_texts) = true)
    (a_count_reaching : PySem.W.nsIn K mainGlobals "count_reaching" = some (some (.ref f_count_reaching)))
    (l_count_reaching : K.lookup f_count_reaching = some ⟨oc_count_reaching, od_count_reaching, .func (PySem.W.fnOf "count_reaching" "count_reaching" (defArgs s_count_reaching) (defBody s_count_reaching) (defScope s_count_reaching) .none kV_count_reaching dc_count_reaching pm_count_reaching an_count_reaching cd_count_reaching ct_count_reaching), sl_count_reaching⟩)
    (c_count_reaching : PySem.W.codeIn K cd_count_reaching "count_reaching" = true)
    (k_count_reaching : PySem.W.keepIn K (.ref f_count_reaching) = true)
    (a_law_bag : PySem.W.nsIn K mainGlobals "_law_bag" = some (some (.ref f_law_bag)))
    (l_law_bag : K.lookup f_law_bag = some ⟨oc_law_bag, od_law_bag, .func (PySem.W.fnOf "_law_bag" "_law_bag" (defArgs s_bag) (defBody s_bag) (defScope s_bag) .none kV_law_bag dc_law_bag pm_law_bag an_law_bag cd_law_bag ct_law_bag), sl_law_bag⟩)
    (c_law_bag : PySem.W.codeIn K cd_law_bag "_law_bag" = true)
    (k_law_bag : PySem.W.keepIn K (.ref f_law_bag) = true)
    (a_law_draw : PySem.W.nsIn K mainGlobals "_law_draw" = some (some (.ref f_law_draw)))
    (l_law_draw : K.lookup f_law_draw = some ⟨oc_law_draw, od_law_draw, .func (PySem.W.fnOf "_law_draw" "_law_draw" (defArgs s_bdraw) (defBody s_bdraw) (defScope s_bdraw) .none kV_law_draw dc_law_draw pm_law_draw an_law_draw cd_law_draw ct_law_draw), sl_law_draw⟩)
    (c_law_draw : PySem.W.codeIn K cd_law_draw "_law_draw" = true)
    (k_law_draw : PySem.W.keepIn K (.ref f_law_draw) = true)
    (a_law_moves : PySem.W.nsIn K mainGlobals "_law_moves" = some (some (.ref f_law_moves)))
    (l_law_moves : K.lookup f_law_moves = some ⟨oc_law_moves, od_law_moves, .func (PySem.W.fnOf "_law_moves" "_law_moves" (defArgs s_moves) (defBody s_moves) (defScope s_moves) .none kV_law_moves dc_law_moves pm_law_moves an_law_moves cd_law_moves ct_law_moves), sl_law_moves⟩)
    (c_law_moves : PySem.W.codeIn K cd_law_moves "_law_moves" = true)
    (k_law_moves : PySem.W.keepIn K (.ref f_law_moves) = true)
    (a_law_great : PySem.W.nsIn K mainGlobals "_law_great" = some (some (.ref f_law_great)))
    (l_law_great : K.lookup f_law_great = some ⟨oc_law_great, od_law_great, .func (PySem.W.fnOf "_law_great" "_law_great" (defArgs s_great) (defBody s_great) (defScope s_great) .none kV_law_great dc_law_great pm_law_great an_law_great cd_law_great ct_law_great), sl_law_great⟩)
    (c_law_great : PySem.W.codeIn K cd_law_great "_law_great" = true)
    (k_law_great : PySem.W.keepIn K (.ref f_law_great) = true)
    (a_law_end : PySem.W.nsIn K mainGlobals "_law_end" = some (some (.ref f_law_end)))
    (l_law_end : K.lookup f_law_end = some ⟨oc_law_end, od_law_end, .func (PySem.W.fnOf "_law_end" "_law_end" (defArgs s_end) (defBody s_end) (defScope s_end) .none kV_law_end dc_law_end pm_law_end an_law_end cd_law_end ct_law_end), sl_law_end⟩)
    (c_law_end : PySem.W.codeIn K cd_law_end "_law_end" = true)
    (k_law_end : PySem.W.keepIn K (.ref f_law_end) = true)
    (a_law_kept : PySem.W.nsIn K mainGlobals "_law_kept" = some (some (.ref f_law_kept)))
    (l_law_kept : K.lookup f_law_kept = some ⟨oc_law_kept, od_law_kept, .func (PySem.W.fnOf "_law_kept" "_law_kept" (defArgs s_kept) (defBody s_kept) (defScope s_kept) .none kV_law_kept dc_law_kept pm_law_kept an_law_kept cd_law_kept ct_law_kept), sl_law_kept⟩)
    (c_law_kept : PySem.W.codeIn K cd_law_kept "_law_kept" = true)
    (k_law_kept : PySem.W.keepIn K (.ref f_law_kept) = true)
    (a_law_scanned : PySem.W.nsIn K mainGlobals "_law_scanned" = some (some (.ref f_law_scanned)))
    (l_law_scanned : K.lookup f_law_scanned = some ⟨oc_law_scanned, od_law_scanned, .func (PySem.W.fnOf "_law_scanned" "_law_scanned" (defArgs s_scanned) (defBody s_scanned) (defScope s_scanned) .none kV_law_scanned dc_law_scanned pm_law_scanned an_law_scanned cd_law_scanned ct_law_scanned), sl_law_scanned⟩)
    (c_law_scanned : PySem.W.codeIn K cd_law_scanned "_law_scanned" = true)
    (k_law_scanned : PySem.W.keepIn K (.ref f_law_scanned) = true)
    (a_law_at_least : PySem.W.nsIn K mainGlobals "_law_at_least" = some (some (.ref f_law_at_least)))
    (l_law_at_least : K.lookup f_law_at_least = some ⟨oc_law_at_least, od_law_at_least, .func (PySem.W.fnOf "_law_at_least" "_law_at_least" (defArgs s_at_least) (defBody s_at_least) (defScope s_at_least) .none kV_law_at_least dc_law_at_least pm_law_at_least an_law_at_least cd_law_at_least ct_law_at_least), sl_law_at_least⟩)
    (c_law_at_least : PySem.W.codeIn K cd_law_at_least "_law_at_least" = true)
    (k_law_at_least : PySem.W.keepIn K (.ref f_law_at_least) = true)
    (a_law : PySem.W.nsIn K mainGlobals "law" = some (some (.ref f_law)))
    (l_law : K.lookup f_law = some ⟨oc_law, od_law, .func (PySem.W.fnOf "law" "law" (defArgs s_law) (defBody s_law) (defScope s_law) .none kV_law dc_law pm_law an_law cd_law ct_law), sl_law⟩)
    (c_law : PySem.W.codeIn K cd_law "law" = true)
    (k_law : PySem.W.keepIn K (.ref f_law) = true)
    (z_isinstance : PySem.W.nsIn K mainGlobals "isinstance" = some none)
    (z_int : PySem.W.nsIn K mainGlobals "int" = some none)
    (z_bool : PySem.W.nsIn K mainGlobals "bool" = some none)
    (z_len : PySem.W.nsIn K mainGlobals "len" = some none)
    (z_enumerate : PySem.W.nsIn K mainGlobals "enumerate" = some none)
    (z_reversed : PySem.W.nsIn K mainGlobals "reversed" = some none)
    (z_sorted : PySem.W.nsIn K mainGlobals "sorted" = some none)
    (z_max : PySem.W.nsIn K mainGlobals "max" = some none)
    (z_min : PySem.W.nsIn K mainGlobals "min" = some none)
    (z_abs : PySem.W.nsIn K mainGlobals "abs" = some none)
    (z_range : PySem.W.nsIn K mainGlobals "range" = some none)
    (z_list : PySem.W.nsIn K mainGlobals "list" = some none)
    (z_repr : PySem.W.nsIn K mainGlobals "repr" = some none)
    (aST : PySem.W.nsIn K cStatics "sys.int_max_str_digits" = some none) :
    ∃ fd : FuncData, (∀ (s : Shared) (v : Value), BindsTo s fd ⟨[v], []⟩ [("script", v)]) ∧ ∀ base : Heap, K.In base → base.Ns mainGlobals mg → FnOk l.prog w K mg base CX0 8 fa fd ["script"] (spLaw K) := by
  have e := hfa.symm.trans (PySem.W.mg_of X G a_law)
  cases e
  have F_is_count := fun_mk (st := s_is_count) l_is_count c_is_count k_is_count
  have F_is_command := fun_mk (st := s_is_command) l_is_command c_is_command k_is_command
  have F_check_commands := fun_mk (st := s_check_commands) l_check_commands c_check_commands k_check_commands
  have F_check_number := fun_mk (st := s_check_number) l_check_number c_check_number k_check_number
  have F_row_change := fun_mk (st := s_row_change) l_row_change c_row_change k_row_change
  have F_reach := fun_mk (st := s_reach) l_reach c_reach k_reach
  have F_require := fun_mk (st := s_require) l_require c_require k_require
  have F_box := fun_mk (st := s_box) l_box c_box k_box
  have F_check_cursor := fun_mk (st := s_check_cursor) l_check_cursor c_check_cursor k_check_cursor
  have F_count_texts := fun_mk (st := s_count_texts) l_count_texts c_count_texts k_count_texts
  have F_count_reaching := fun_mk (st := s_count_reaching) l_count_reaching c_count_reaching k_count_reaching
  have F_law_bag := fun_mk (st := s_bag) l_law_bag c_law_bag k_law_bag
  have F_law_draw := fun_mk (st := s_bdraw) l_law_draw c_law_draw k_law_draw
  have F_law_moves := fun_mk (st := s_moves) l_law_moves c_law_moves k_law_moves
  have F_law_great := fun_mk (st := s_great) l_law_great c_law_great k_law_great
  have F_law_end := fun_mk (st := s_end) l_law_end c_law_end k_law_end
  have F_law_kept := fun_mk (st := s_kept) l_law_kept c_law_kept k_law_kept
  have F_law_scanned := fun_mk (st := s_scanned) l_law_scanned c_law_scanned k_law_scanned
  have F_law_at_least := fun_mk (st := s_at_least) l_law_at_least c_law_at_least k_law_at_least
  have F_law := fun_mk (st := s_law) l_law c_law k_law
  have b_is_count := F_is_count.binds (ps := ["number"]) fun _ _ _ _ _ _ us hl => match us, hl with | [_], _ => rfl
  have b_is_command := F_is_command.binds (ps := ["command"]) fun _ _ _ _ _ _ us hl => match us, hl with | [_], _ => rfl
  have b_check_commands := F_check_commands.binds (ps := ["commands"]) fun _ _ _ _ _ _ us hl => match us, hl with | [_], _ => rfl
  have b_check_number := F_check_number.binds (ps := ["number", "least"]) fun _ _ _ _ _ _ us hl => match us, hl with | [_, _], _ => rfl
  have b_row_change := F_row_change.binds (ps := ["command"]) fun _ _ _ _ _ _ us hl => match us, hl with | [_], _ => rfl
  have b_reach := F_reach.binds (ps := ["commands"]) fun _ _ _ _ _ _ us hl => match us, hl with | [_], _ => rfl
  have b_require := F_require.binds (ps := ["bounds", "offset", "bound"]) fun _ _ _ _ _ _ us hl => match us, hl with | [_, _, _], _ => rfl
  have b_box := F_box.binds (ps := ["commands", "goal"]) fun _ _ _ _ _ _ us hl => match us, hl with | [_, _], _ => rfl
  have b_check_cursor := F_check_cursor.binds (ps := ["lines", "cursor"]) fun _ _ _ _ _ _ us hl => match us, hl with | [_, _], _ => rfl
  have b_count_texts := F_count_texts.binds (ps := ["lines", "longest", "cursor", "commands", "goal"]) fun _ _ _ _ _ _ us hl => match us, hl with | [_, _, _, _, _], _ => rfl
  have b_count_reaching := F_count_reaching.binds (ps := ["lines", "longest", "start", "commands", "goal"]) fun _ _ _ _ _ _ us hl => match us, hl with | [_, _, _, _, _], _ => rfl
  have b_law_bag := F_law_bag.binds (ps := ["script"]) fun _ _ _ _ _ _ us hl => match us, hl with | [_], _ => rfl
  have b_law_draw := F_law_draw.binds (ps := ["bag", "many"]) fun _ _ _ _ _ _ us hl => match us, hl with | [_, _], _ => rfl
  have b_law_moves := F_law_moves.binds (ps := ["bag", "many", "far"]) fun _ _ _ _ _ _ us hl => match us, hl with | [_, _, _], _ => rfl
  have b_law_great := F_law_great.binds (ps := ["bag"]) fun _ _ _ _ _ _ us hl => match us, hl with | [_], _ => rfl
  have b_law_end := F_law_end.binds (ps := ["page", "start", "moves"]) fun _ _ _ _ _ _ us hl => match us, hl with | [_, _, _], _ => rfl
  have b_law_kept := F_law_kept.binds (ps := ["spot", "many", "moves"]) fun _ _ _ _ _ _ us hl => match us, hl with | [_, _, _], _ => rfl
  have b_law_scanned := F_law_scanned.binds (ps := ["moves", "aim"]) fun _ _ _ _ _ _ us hl => match us, hl with | [_, _], _ => rfl
  have b_law_at_least := F_law_at_least.binds (ps := ["many", "most", "start", "moves", "aim"]) fun _ _ _ _ _ _ us hl => match us, hl with | [_, _, _, _, _], _ => rfl
  refine ⟨PySem.W.fnOf "law" "law" (defArgs s_law) (defBody s_law) (defScope s_law) .none kV_law dc_law pm_law an_law cd_law ct_law, fun s v => .of_eq rfl, fun base hb gb => ?_⟩
  have TB : TxtB K mg wo wn := {
    g_WITHOUT_NUMBER := PySem.W.mg_of X G aWO
    g_WITH_NUMBER := PySem.W.mg_of X G aWN
    tWO := fun H => .inr ⟨_, _, _, lWO, rfl, rfl, (by show 2 ≤ sizeLine; decide), .cons ⟨_, rfl⟩ (.cons ⟨_, rfl⟩ .nil)⟩
    tWN := fun H => .inr ⟨_, _, _, lWN, rfl, rfl, (by show 4 ≤ sizeLine; decide), .cons ⟨_, rfl⟩ (.cons ⟨_, rfl⟩ (.cons ⟨_, rfl⟩ (.cons ⟨_, rfl⟩ .nil)))⟩
    isinstance := PySem.W.mg_none_of X G z_isinstance
    int := PySem.W.mg_none_of X G z_int
    bool := PySem.W.mg_none_of X G z_bool
    len := PySem.W.mg_none_of X G z_len
    enumerate := PySem.W.mg_none_of X G z_enumerate
    reversed := PySem.W.mg_none_of X G z_reversed
    sorted := PySem.W.mg_none_of X G z_sorted
    max := PySem.W.mg_none_of X G z_max
    min := PySem.W.mg_none_of X G z_min }
  have TC : TxtC mg := { abs := PySem.W.mg_none_of X G z_abs, len := PySem.W.mg_none_of X G z_len, range := PySem.W.mg_none_of X G z_range, min := PySem.W.mg_none_of X G z_min, max := PySem.W.mg_none_of X G z_max, int := PySem.W.mg_none_of X G z_int, list := PySem.W.mg_none_of X G z_list }
  have TN : TxtN mg := { range := PySem.W.mg_none_of X G z_range, len := PySem.W.mg_none_of X G z_len, max := PySem.W.mg_none_of X G z_max }
  have TL : TxtL mg := { len := PySem.W.mg_none_of X G z_len, range := PySem.W.mg_none_of X G z_range, min := PySem.W.mg_none_of X G z_min, int := PySem.W.mg_none_of X G z_int, repr := PySem.W.mg_none_of X G z_repr }
  have C_is_count : Cal l.prog w K mg base 1 "is_count" spCount := ⟨_, _, _, ok_is_count F_is_count TB, PySem.W.mg_of X G a_is_count, k_is_count, b_is_count⟩
  have C_is_command : Cal l.prog w K mg base 2 "is_command" (spIsCmd K) := ⟨_, _, _, ok_is_command F_is_command TB C_is_count, PySem.W.mg_of X G a_is_command, k_is_command, b_is_command⟩
  have C_check_commands : Cal l.prog w K mg base 3 "check_commands" (spCheck K) := ⟨_, _, _, ok_check_commands F_check_commands TB C_is_command, PySem.W.mg_of X G a_check_commands, k_check_commands, b_check_commands⟩
  have C_check_number : Cal l.prog w K mg base 1 "check_number" spNum := ⟨_, _, _, ok_check_number F_check_number, PySem.W.mg_of X G a_check_number, k_check_number, b_check_number⟩
  have C_row_change : Cal l.prog w K mg base 1 "row_change" (spRow K) := ⟨_, _, _, ok_row_change F_row_change, PySem.W.mg_of X G a_row_change, k_row_change, b_row_change⟩
  have C_check_cursor : Cal l.prog w K mg base 1 "check_cursor" (spCursor K) := ⟨_, _, _, ok_check_cursor F_check_cursor, PySem.W.mg_of X G a_check_cursor, k_check_cursor, b_check_cursor⟩
  have C_reach : Cal l.prog w K mg base 4 "reach" (spReach K) := ⟨_, _, _, ok_reach F_reach TB C_check_commands C_row_change, PySem.W.mg_of X G a_reach, k_reach, b_reach⟩
  have C_require : Cal l.prog w K mg base 1 "require" spReq := ⟨_, _, _, ok_require F_require TB, PySem.W.mg_of X G a_require, k_require, b_require⟩
  have Z_box : Cal l.prog w K mg base 5 "box" (zBox K) := by
    rw [zBox_eq]
    exact ⟨_, _, _, ok_box F_box TB C_check_commands C_row_change C_reach C_check_number C_require, PySem.W.mg_of X G a_box, k_box, b_box⟩
  have Z_reach : Cal l.prog w K mg base 4 "reach" (zReach K) := by
    rw [zReach_eq]
    exact C_reach
  have Z_reaching : Cal l.prog w K mg base 6 "count_reaching" (zReaching K) := by
    rw [zReaching_eq]
    exact ⟨_, _, _, ok_count_reaching F_count_reaching TN Z_box, PySem.W.mg_of X G a_count_reaching, k_count_reaching, b_count_reaching⟩
  have C_law_bag : Cal l.prog w K mg base 1 "_law_bag" (spBag K) := ⟨_, _, _, ok_bag F_law_bag TC, PySem.W.mg_of X G a_law_bag, k_law_bag, b_law_bag⟩
  have C_law_draw : Cal l.prog w K mg base 1 "_law_draw" spBdraw := ⟨_, _, _, ok_bdraw F_law_draw TC, PySem.W.mg_of X G a_law_draw, k_law_draw, b_law_draw⟩
  have C_law_moves : Cal l.prog w K mg base 2 "_law_moves" (spMoves K) := ⟨_, _, _, ok_moves F_law_moves TC C_law_draw, PySem.W.mg_of X G a_law_moves, k_law_moves, b_law_moves⟩
  have C_law_great : Cal l.prog w K mg base 2 "_law_great" spGreat := ⟨_, _, _, ok_great F_law_great C_law_draw, PySem.W.mg_of X G a_law_great, k_law_great, b_law_great⟩
  have C_law_kept : Cal l.prog w K mg base 1 "_law_kept" (spKept K) := ⟨_, _, _, ok_kept F_law_kept, PySem.W.mg_of X G a_law_kept, k_law_kept, b_law_kept⟩
  have Z_end : Cal l.prog w K mg base 1 "_law_end" (zEnd K) := by
    rw [zEnd_eq]
    exact ⟨_, _, _, ok_end F_law_end TC, PySem.W.mg_of X G a_law_end, k_law_end, b_law_end⟩
  have Z_scan : Cal l.prog w K mg base 1 "_law_scanned" (zScan K) := by
    rw [zScan_eq]
    exact ⟨_, _, _, ok_scanned F_law_scanned TC, PySem.W.mg_of X G a_law_scanned, k_law_scanned, b_law_scanned⟩
  have Z_least : Cal l.prog w K mg base 2 "_law_at_least" (zAtLeast K) := by
    rw [zAtLeast_eq]
    exact ⟨_, _, _, ok_at_least F_law_at_least TC Z_scan Z_end, PySem.W.mg_of X G a_law_at_least, k_law_at_least, b_law_at_least⟩
  have Z_count : Cal l.prog w K mg base 7 "count_texts" (zCountT K) := by
    rw [zCountT_eq]
    exact ⟨_, _, _, ok_count_texts F_count_texts TN C_check_number C_check_cursor C_check_commands Z_reach Z_reaching, PySem.W.mg_of X G a_count_texts, k_count_texts, b_count_texts⟩
  exact ok_law F_law TL aST C_law_bag C_law_draw C_law_moves C_law_great C_law_kept Z_end Z_least Z_count
theorem walk {l : PySem.W.OpenLaw} {q : Program} {loose : List Str} {XP : (Str → Option Value) → Heap → Prop} {YP : World → Heap → Prop} {d : DefRec} {K : Params → PySem.W.Frag} (hn : l.most = some 63) (hdf : d.params.defaults = [])
    (hY : ∀ (w : World) (h : Heap), YP w h → (K w.params).In h)
    (F : ∀ (w : World) (mg : Str → Option Value) (fa : Addr) (h : Heap), (K w.params).In h → h.Ns mainGlobals mg → mg d.name = some (.ref fa) →
      ∃ fd : FuncData, (∀ (s : Shared) (u : Value), BindsTo s fd ⟨[u], []⟩ [("script", u)]) ∧ ∀ base : Heap, (K w.params).In base → base.Ns mainGlobals mg → FnOk l.prog w (K w.params) mg base CX0 8 fa fd ["script"] (spLaw (K w.params))) :
    PySem.W.WalkO q loose XP YP l.row.toRowW d [] (fun f vs => PySem.call f vs) :=
  L2.walk_of (n := 63) (k := 8) (x := "script") (CX := fun _ => CX0) (sp := fun w => spLaw (K w.params)) hn (by decide) hdf ⟨rfl, by decide, by decide⟩ hY F (fun _ _ a ns hl _ hS => ⟨a, ns, rfl, hS, hl, fun _ => rfl⟩) fun _ _ _ _ _ z => z
end Gc

open PySem PySem.W PyProof.Rows in
set_option maxRecDepth 100000 in
set_option maxHeartbeats 0 in
theorem PySem.Challenge.cw_goalcolumn_k28_whole_numbers_of_large_te_holds : PySem.Challenge.rw_goalcolumn_k28_whole_numbers_of_large_te.Holds := by
  w_on; o_law; k_head; (case hw => w_witness2)
  k_fill
  refine Gc.walk (l := PySem.Challenge.rw_goalcolumn_k28_whole_numbers_of_large_te) rfl rfl (fun w h Y => PySem.W.kIn_of Y) ?F
  case F =>
    intro w mg fa h KX G hmg
    refine' Gc.all_mk KX G hmg ?aWN ?aWO ?lWN ?lWO ?a_is_count ?l_is_count ?c_is_count ?k_is_count ?a_is_command ?l_is_command ?c_is_command ?k_is_command ?a_check_commands ?l_check_commands ?c_check_commands ?k_check_commands ?a_check_number ?l_check_number ?c_check_number ?k_check_number ?a_row_change ?l_row_change ?c_row_change ?k_row_change ?a_reach ?l_reach ?c_reach ?k_reach ?a_require ?l_require ?c_require ?k_require ?a_box ?l_box ?c_box ?k_box ?a_check_cursor ?l_check_cursor ?c_check_cursor ?k_check_cursor ?a_count_texts ?l_count_texts ?c_count_texts ?k_count_texts ?a_count_reaching ?l_count_reaching ?c_count_reaching ?k_count_reaching ?a_law_bag ?l_law_bag ?c_law_bag ?k_law_bag ?a_law_draw ?l_law_draw ?c_law_draw ?k_law_draw ?a_law_moves ?l_law_moves ?c_law_moves ?k_law_moves ?a_law_great ?l_law_great ?c_law_great ?k_law_great ?a_law_end ?l_law_end ?c_law_end ?k_law_end ?a_law_kept ?l_law_kept ?c_law_kept ?k_law_kept ?a_law_scanned ?l_law_scanned ?c_law_scanned ?k_law_scanned ?a_law_at_least ?l_law_at_least ?c_law_at_least ?k_law_at_least ?a_law ?l_law ?c_law ?k_law ?z_isinstance ?z_int ?z_bool ?z_len ?z_enumerate ?z_reversed ?z_sorted ?z_max ?z_min ?z_abs ?z_range ?z_list ?z_repr ?aST
    (case aWN => k_is)
    (case aWO => k_is)
    (case lWN => k_is)
    (case lWO => k_is)
    (case a_is_count => k_is)
    (case l_is_count => k_is)
    (case c_is_count => k_is)
    (case k_is_count => k_is)
    (case a_is_command => k_is)
    (case l_is_command => k_is)
    (case c_is_command => k_is)
    (case k_is_command => k_is)
    (case a_check_commands => k_is)
    (case l_check_commands => k_is)
    (case c_check_commands => k_is)
    (case k_check_commands => k_is)
    (case a_check_number => k_is)
    (case l_check_number => k_is)
    (case c_check_number => k_is)
    (case k_check_number => k_is)
    (case a_row_change => k_is)
    (case l_row_change => k_is)
    (case c_row_change => k_is)
    (case k_row_change => k_is)
    (case a_reach => k_is)
    (case l_reach => k_is)
    (case c_reach => k_is)
    (case k_reach => k_is)
    (case a_require => k_is)
    (case l_require => k_is)
    (case c_require => k_is)
    (case k_require => k_is)
    (case a_box => k_is)
    (case l_box => k_is)
    (case c_box => k_is)
    (case k_box => k_is)
    (case a_check_cursor => k_is)
    (case l_check_cursor => k_is)
    (case c_check_cursor => k_is)
    (case k_check_cursor => k_is)
    (case a_count_texts => k_is)
    (case l_count_texts => k_is)
    (case c_count_texts => k_is)
    (case k_count_texts => k_is)
    (case a_count_reaching => k_is)
    (case l_count_reaching => k_is)
    (case c_count_reaching => k_is)
    (case k_count_reaching => k_is)
    (case a_law_bag => k_is)
    (case l_law_bag => k_is)
    (case c_law_bag => k_is)
    (case k_law_bag => k_is)
    (case a_law_draw => k_is)
    (case l_law_draw => k_is)
    (case c_law_draw => k_is)
    (case k_law_draw => k_is)
    (case a_law_moves => k_is)
    (case l_law_moves => k_is)
    (case c_law_moves => k_is)
    (case k_law_moves => k_is)
    (case a_law_great => k_is)
    (case l_law_great => k_is)
    (case c_law_great => k_is)
    (case k_law_great => k_is)
    (case a_law_end => k_is)
    (case l_law_end => k_is)
    (case c_law_end => k_is)
    (case k_law_end => k_is)
    (case a_law_kept => k_is)
    (case l_law_kept => k_is)
    (case c_law_kept => k_is)
    (case k_law_kept => k_is)
    (case a_law_scanned => k_is)
    (case l_law_scanned => k_is)
    (case c_law_scanned => k_is)
    (case k_law_scanned => k_is)
    (case a_law_at_least => k_is)
    (case l_law_at_least => k_is)
    (case c_law_at_least => k_is)
    (case k_law_at_least => k_is)
    (case a_law => k_is)
    (case l_law => k_is)
    (case c_law => k_is)
    (case k_law => k_is)
    (case z_isinstance => k_is)
    (case z_int => k_is)
    (case z_bool => k_is)
    (case z_len => k_is)
    (case z_enumerate => k_is)
    (case z_reversed => k_is)
    (case z_sorted => k_is)
    (case z_max => k_is)
    (case z_min => k_is)
    (case z_abs => k_is)
    (case z_range => k_is)
    (case z_list => k_is)
    (case z_repr => k_is)
    (case aST => k_is)
