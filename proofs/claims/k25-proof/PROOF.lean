import PyProof.Rows.All
import Wide.All
import OpenK.AllK
import Wide.FinOn
import KE.SortData
import HandS.Base
import HandS.Call
import HandS.List
import HandS.Dict
import HandS.Words
import HandS.DictTup
import PyProof.RulesMatch
import HandS.Comp
import HandS.Iter
import HandS.Flow
import HandS.Rev
import HandS.Walk
import HandS.WordsList
import HandS.WordsDict
import HandS.IsInst
import HandS.Wide
import HandS.Codes
import HandS.Style
import HandS.Conv
import HandS.TupAny
import PySem.Challenge.RW_goalcolumn_k25_origins_on_short_texts
set_option Elab.async false
set_option linter.all false
set_option maxRecDepth 100000
set_option maxHeartbeats 4000000
/-! boxes of lists of commands: what the program reckons, over plain lists; and the laws of it -/
namespace Gc
inductive Cmd where
  | down (n : Int) | up (n : Int) | right (n : Int) | left (n : Int) | home | stop
  deriving DecidableEq
def Cmd.dv : Cmd → Int
  | .down n => n
  | .up n => -n
  | _ => 0
def Cmd.ok : Cmd → Prop
  | .down n => 1 ≤ n
  | .up n => 1 ≤ n
  | .right n => 1 ≤ n
  | .left n => 1 ≤ n
  | _ => True
def last (cs : List Cmd) : Int := (cs.map Cmd.dv).sum
abbrev Ps := List (Int × Int)
def leK (p q : Int × Int) : Bool := decide (p.1 < q.1 ∨ (p.1 = q.1 ∧ p.2 ≤ q.2))
def look (b : Ps) (k : Int) : Option Int := (b.find? fun q => q.1 = k).map (·.2)
def put (b : Ps) (k v : Int) : Ps := if b.any (fun q => q.1 = k) then b.map (fun q => if q.1 = k then (q.1, v) else q) else b ++ [(k, v)]
def mx (i j : Int) : Int := if j > i then j else i
def req (b : Ps) (o v : Int) : Ps := put b o (mx v ((look b o).getD v))
def go : List Cmd → Int → Int → Ps → Option (Option Int × Ps)
  | [], _, need, b => some (some need, b)
  | .home :: _, _, _, _ => none
  | .stop :: _, _, _, b => some (none, b)
  | .right n :: r, off, need, b => if need > n then go r off (need - n) (req b off need) else some (none, req b off need)
  | .left n :: r, off, need, b => go r off (need + n) (req b off (need + n))
  | .down n :: r, off, need, b => go r (off - n) need b
  | .up n :: r, off, need, b => go r (off + n) need b
def srt (x : Option Int × Ps) : Option Int × Ps := (x.1, x.2.mergeSort leK)
def boxM (cs : List Cmd) (goal : Int) : Option (Option Int × Ps) := (go cs.reverse (last cs) goal []).map srt

/-! ### association lists as functions -/
def val (b : Ps) (k : Int) : Int := (look b k).getD 0
def keys (b : Ps) : List Int := b.map (·.1)
structure Good (b : Ps) : Prop where
  nd : (keys b).Nodup
  pos : ∀ q ∈ b, 1 ≤ q.2
theorem good_nil : Good [] := ⟨List.nodup_nil, fun _ h => nomatch h⟩
theorem look_nil (k : Int) : look [] k = none := rfl
theorem look_cons (q : Int × Int) (b : Ps) (k : Int) : look (q :: b) k = if q.1 = k then some q.2 else look b k := by
  unfold look
  rw [List.find?_cons]
  by_cases h : q.1 = k
  · simp [h]
  · simp [h]
theorem look_none {b : Ps} {k : Int} : look b k = none ↔ k ∉ keys b := by
  induction b with
  | nil => simp [look, keys]
  | cons q b ih =>
    rw [look_cons]
    by_cases h : q.1 = k
    · rw [if_pos h]
      simp [keys, h]
    · rw [if_neg h, ih]
      simp only [keys, List.map_cons, List.mem_cons, not_or]
      exact ⟨fun x => ⟨fun e => h e.symm, x⟩, fun x => x.2⟩
theorem look_mem {b : Ps} {k v : Int} (h : look b k = some v) : (k, v) ∈ b := by
  induction b with
  | nil => cases h
  | cons q b ih =>
    rw [look_cons] at h
    by_cases e : q.1 = k
    · rw [if_pos e] at h
      have e2 := Option.some.inj h
      rw [← e, ← e2]
      exact List.mem_cons_self
    · rw [if_neg e] at h
      exact List.mem_cons_of_mem _ (ih h)
theorem mem_look {b : Ps} {q : Int × Int} (n : (keys b).Nodup) (h : q ∈ b) : look b q.1 = some q.2 := by
  induction b with
  | nil => cases h
  | cons p b ih =>
    have n' : p.1 ∉ keys b ∧ (keys b).Nodup := List.nodup_cons.mp n
    rw [look_cons]
    rcases List.mem_cons.mp h with e | h
    · rw [e, if_pos rfl]
    · have ne : p.1 ≠ q.1 := fun e => n'.1 (by rw [e]; exact List.mem_map.mpr ⟨q, h, rfl⟩)
      rw [if_neg ne]
      exact ih n'.2 h
theorem any_key (b : Ps) (k : Int) : b.any (fun q => q.1 = k) = true ↔ k ∈ keys b := by
  simp [keys, List.any_eq_true]
theorem look_put (b : Ps) (k v j : Int) : look (put b k v) j = if k = j then some v else look b j := by
  unfold put
  by_cases h : b.any (fun q => q.1 = k) = true
  · rw [if_pos h]
    induction b with
    | nil => simp at h
    | cons q b ih =>
      rw [List.map_cons, look_cons, look_cons]
      by_cases e : q.1 = k
      · rw [if_pos e]
        by_cases e2 : k = j
        · simp [e, e2]
        · simp only [e, e2, if_false]
          by_cases hb : b.any (fun q => q.1 = k) = true
          · rw [ih hb, if_neg e2]
          · have nm : ∀ p ∈ b, ¬ p.1 = k := fun p hp z => hb (List.any_eq_true.mpr ⟨p, hp, by simpa using z⟩)
            have em : b.map (fun q => if q.1 = k then (q.1, v) else q) = b := by
              conv => rhs; rw [← List.map_id b]
              exact List.map_congr_left fun p hp => by simp [nm p hp]
            rw [em]
      · rw [if_neg e]
        have hb : b.any (fun q => q.1 = k) = true := by
          rw [List.any_cons] at h
          simpa [e] using h
        by_cases e2 : q.1 = j
        · have e3 : ¬ k = j := fun z => e (e2.trans z.symm)
          simp [e2, e3]
        · simp only [e2, if_false]
          exact ih hb
  · rw [if_neg h]
    have nk : k ∉ keys b := fun z => h ((any_key b k).mpr z)
    clear h
    induction b with
    | nil =>
      show look [(k, v)] j = _
      rw [look_cons]
    | cons q b ih =>
      have n1 : ¬ q.1 = k := fun z => nk (by simp [keys, z])
      have n2 : k ∉ keys b := fun z => nk (List.mem_cons_of_mem _ z)
      rw [List.cons_append, look_cons, look_cons]
      by_cases e2 : q.1 = j
      · have e3 : ¬ k = j := fun z => n1 (e2.trans z.symm)
        simp [e2, e3]
      · simp only [e2, if_false]
        exact ih n2
theorem keys_put (b : Ps) (k v : Int) : keys (put b k v) = if k ∈ keys b then keys b else keys b ++ [k] := by
  unfold put
  by_cases h : b.any (fun q => q.1 = k) = true
  · rw [if_pos h, if_pos ((any_key b k).mp h)]
    unfold keys
    rw [List.map_map]
    refine List.map_congr_left fun p _ => ?_
    show (if p.1 = k then (p.1, v) else p).1 = p.1
    split <;> rfl
  · rw [if_neg h, if_neg fun z => h ((any_key b k).mpr z)]
    simp [keys]
theorem good_put {b : Ps} {k v : Int} (g : Good b) (hv : 1 ≤ v) : Good (put b k v) := by
  have nd : (keys (put b k v)).Nodup := by
    rw [keys_put]
    split
    · exact g.nd
    · rename_i h
      rw [List.nodup_append]
      exact ⟨g.nd, by simp, fun a ha c hc => by
        rw [List.mem_singleton.mp hc]
        intro z
        exact h (z ▸ ha)⟩
  refine ⟨nd, fun q hq => ?_⟩
  have e := mem_look nd hq
  rw [look_put] at e
  split at e
  · rw [← Option.some.inj e]
    exact hv
  · exact g.pos (q.1, q.2) (look_mem e)
theorem val_nonneg {b : Ps} (g : Good b) (k : Int) : 0 ≤ val b k := by
  unfold val
  cases e : look b k with
  | none => exact Int.le_refl 0
  | some v =>
    have := g.pos _ (look_mem e)
    show 0 ≤ v
    have h : 1 ≤ v := this
    omega
theorem val_put (b : Ps) (k v j : Int) : val (put b k v) j = if k = j then v else val b j := by
  unfold val
  rw [look_put]
  split <;> rfl
/-- require, on functions -/
def reqF (f : Int → Int) (o v : Int) : Int → Int := fun k => if o = k then max v (f k) else f k
theorem val_req {b : Ps} (g : Good b) {o v : Int} (hv : 1 ≤ v) : val (req b o v) = reqF (val b) o v := by
  funext k
  unfold req reqF
  rw [val_put]
  by_cases h : o = k
  · subst h
    rw [if_pos rfl, if_pos rfl]
    unfold val mx
    cases e : look b o with
    | none =>
      show (if v > v then v else v) = max v 0
      rw [if_neg (by omega)]
      omega
    | some x =>
      show (if x > v then x else v) = max v x
      split <;> omega
  · rw [if_neg h, if_neg h]
theorem good_req {b : Ps} (g : Good b) {o v : Int} (hv : 1 ≤ v) : Good (req b o v) := by
  refine good_put g ?_
  unfold mx
  split <;> omega

/-! ### the walk, on functions -/
def goF : List Cmd → Int → Int → (Int → Int) → Option (Option Int × (Int → Int))
  | [], _, need, f => some (some need, f)
  | .home :: _, _, _, _ => none
  | .stop :: _, _, _, f => some (none, f)
  | .right n :: r, off, need, f => if need > n then goF r off (need - n) (reqF f off need) else some (none, reqF f off need)
  | .left n :: r, off, need, f => goF r off (need + n) (reqF f off (need + n))
  | .down n :: r, off, need, f => goF r (off - n) need f
  | .up n :: r, off, need, f => goF r (off + n) need f
def AllOk (cs : List Cmd) : Prop := ∀ c ∈ cs, c.ok
theorem go_goF : ∀ {r : List Cmd} {off need : Int} {b : Ps}, AllOk r → Good b → 1 ≤ need →
    (go r off need b = none ∧ goF r off need (val b) = none) ∨ ∃ st b', go r off need b = some (st, b') ∧ Good b' ∧ goF r off need (val b) = some (st, val b') ∧ ∀ n, st = some n → 1 ≤ n
  | [], off, need, b, _, g, hn => .inr ⟨_, _, rfl, g, rfl, fun n e => by rw [← Option.some.inj e]; exact hn⟩
  | .home :: r, off, need, b, _, g, hn => .inl ⟨rfl, rfl⟩
  | .stop :: r, off, need, b, _, g, hn => .inr ⟨_, _, rfl, g, rfl, fun n e => nomatch e⟩
  | .right n :: r, off, need, b, hk, g, hn => by
    have hk' : AllOk r := fun c hc => hk c (List.mem_cons_of_mem _ hc)
    simp only [go, goF]
    by_cases h : need > n
    · rw [if_pos h, if_pos h, ← val_req g hn]
      exact go_goF hk' (good_req g hn) (by omega)
    · rw [if_neg h, if_neg h, ← val_req g hn]
      exact .inr ⟨_, _, rfl, good_req g hn, rfl, fun n e => nomatch e⟩
  | .left n :: r, off, need, b, hk, g, hn => by
    have hk' : AllOk r := fun c hc => hk c (List.mem_cons_of_mem _ hc)
    have h1 : 1 ≤ n := hk _ List.mem_cons_self
    simp only [go, goF]
    rw [← val_req g (by omega)]
    exact go_goF hk' (good_req g (by omega)) (by omega)
  | .down n :: r, off, need, b, hk, g, hn => go_goF (r := r) (fun c hc => hk c (List.mem_cons_of_mem _ hc)) g hn
  | .up n :: r, off, need, b, hk, g, hn => go_goF (r := r) (fun c hc => hk c (List.mem_cons_of_mem _ hc)) g hn

/-! ### ascending lists are told by their functions -/
def Asc (b : Ps) : Prop := b.Pairwise fun p q => p.1 < q.1
theorem asc_nd {b : Ps} (h : Asc b) : (keys b).Nodup := by
  unfold keys
  rw [List.nodup_iff_pairwise_ne, List.pairwise_map]
  exact h.imp fun h => Int.ne_of_lt h
theorem leK_trans (a b c : Int × Int) (h1 : leK a b = true) (h2 : leK b c = true) : leK a c = true := by
  unfold leK at *
  have a1 := of_decide_eq_true h1
  have a2 := of_decide_eq_true h2
  exact decide_eq_true (by omega)
theorem leK_total (a b : Int × Int) : (leK a b || leK b a) = true := by
  unfold leK
  by_cases h : a.1 < b.1 ∨ (a.1 = b.1 ∧ a.2 ≤ b.2)
  · rw [decide_eq_true h]
    rfl
  · rw [decide_eq_true (show b.1 < a.1 ∨ (b.1 = a.1 ∧ b.2 ≤ a.2) by omega), Bool.or_true]
theorem asc_sort {b : Ps} (g : Good b) : Asc (b.mergeSort leK) := by
  have p := List.pairwise_mergeSort (le := leK) leK_trans leK_total b
  have pm := List.mergeSort_perm b leK
  have nd : (keys (b.mergeSort leK)).Nodup := (pm.map (fun q : Int × Int => q.1)).nodup_iff.mpr g.nd
  unfold keys at nd
  rw [List.nodup_iff_pairwise_ne, List.pairwise_map] at nd
  refine (p.and nd).imp fun h => ?_
  have a := of_decide_eq_true h.1
  have c := h.2
  omega
theorem good_perm {b c : Ps} (g : Good b) (p : c.Perm b) : Good c := ⟨(p.map (fun q : Int × Int => q.1)).nodup_iff.mpr g.nd, fun q hq => g.pos q (p.mem_iff.mp hq)⟩
theorem look_perm {b c : Ps} (g : Good b) (p : c.Perm b) (k : Int) : look c k = look b k := by
  have g' := good_perm g p
  cases e : look b k with
  | none =>
    rw [look_none] at e ⊢
    exact fun z => e ((p.map (fun q : Int × Int => q.1)).mem_iff.mp z)
  | some v => exact mem_look g'.nd (p.mem_iff.mpr (look_mem e))
theorem val_perm {b c : Ps} (g : Good b) (p : c.Perm b) : val c = val b := by
  funext k
  unfold val
  rw [look_perm g p]
theorem look_val {b c : Ps} (gb : Good b) (gc : Good c) (h : val b = val c) (k : Int) : look b k = look c k := by
  have e := congrFun h k
  unfold val at e
  cases e1 : look b k with
  | none =>
    cases e2 : look c k with
    | none => rfl
    | some v =>
      rw [e1, e2] at e
      have : 1 ≤ v := gc.pos _ (look_mem e2)
      have e' : (0 : Int) = v := e
      omega
  | some u =>
    cases e2 : look c k with
    | none =>
      rw [e1, e2] at e
      have : 1 ≤ u := gb.pos _ (look_mem e1)
      have e' : u = (0 : Int) := e
      omega
    | some v =>
      rw [e1, e2] at e
      have e' : u = v := e
      rw [e']
theorem asc_ext : ∀ {b c : Ps}, Asc b → Asc c → (∀ k, look b k = look c k) → b = c
  | [], [], _, _, _ => rfl
  | [], q :: c, _, _, h => by
    have e := h q.1
    rw [look_cons, if_pos rfl] at e
    cases e
  | q :: b, [], _, _, h => by
    have e := h q.1
    rw [look_cons, if_pos rfl] at e
    cases e
  | p :: b, q :: c, hb, hc, h => by
    have hb' := List.pairwise_cons.mp hb
    have hc' := List.pairwise_cons.mp hc
    have e1 := h p.1
    rw [look_cons, if_pos rfl, look_cons] at e1
    have e2 := h q.1
    rw [look_cons, look_cons, if_pos rfl] at e2
    have key : p.1 = q.1 := by
      by_cases x : q.1 = p.1
      · exact x.symm
      · rw [if_neg x] at e1
        rw [if_neg fun z => x z.symm] at e2
        have m1 := hc'.1 _ (look_mem e1.symm)
        have m2 := hb'.1 _ (look_mem e2)
        have m1' : q.1 < p.1 := m1
        have m2' : p.1 < q.1 := m2
        omega
    rw [if_pos key.symm] at e1
    have hpq : p = q := Prod.ext key (Option.some.inj e1)
    subst hpq
    rw [asc_ext hb'.2 hc'.2 fun k => ?_]
    have e := h k
    rw [look_cons, look_cons] at e
    by_cases x : p.1 = k
    · have n1 : look b k = none := look_none.mpr fun z => by
        obtain ⟨r, hr, er⟩ := List.mem_map.mp z
        have := hb'.1 r hr
        omega
      have n2 : look c k = none := look_none.mpr fun z => by
        obtain ⟨r, hr, er⟩ := List.mem_map.mp z
        have := hc'.1 r hr
        omega
      rw [n1, n2]
    · rw [if_neg x, if_neg x] at e
      exact e
theorem sort_ext {b c : Ps} (gb : Good b) (gc : Good c) (h : val b = val c) : b.mergeSort leK = c.mergeSort leK :=
  asc_ext (asc_sort gb) (asc_sort gc) fun k => by
    rw [look_perm gb (List.mergeSort_perm b leK), look_perm gc (List.mergeSort_perm c leK)]
    exact look_val gb gc h k
end Gc

/-! laws of boxes: joined lists, greater goals, multiplied moves -/
namespace Gc
abbrev BF := Option (Option Int × (Int → Int))
def boxF (cs : List Cmd) (goal : Int) : BF := goF cs.reverse (last cs) goal fun _ => 0
theorem val_nil : val [] = fun _ => 0 := rfl
theorem allOk_rev {cs : List Cmd} (h : AllOk cs) : AllOk cs.reverse := fun c hc => h c (List.mem_reverse.mp hc)
theorem box_spec {cs : List Cmd} {goal : Int} (h : AllOk cs) (hg : 1 ≤ goal) :
    (boxM cs goal = none ∧ boxF cs goal = none) ∨ ∃ st b, boxM cs goal = some (st, b.mergeSort leK) ∧ Good b ∧ boxF cs goal = some (st, val b) ∧ ∀ n, st = some n → 1 ≤ n := by
  unfold boxM boxF
  rw [← val_nil]
  rcases go_goF (off := last cs) (allOk_rev h) good_nil hg with ⟨e1, e2⟩ | ⟨st, b, e1, g, e2, p⟩
  · exact .inl ⟨by rw [e1]; rfl, e2⟩
  · exact .inr ⟨st, b, by rw [e1]; rfl, g, e2, p⟩
def thenF (x : BF) (k : Int → (Int → Int) → BF) : BF := match x with
  | none => none
  | some (none, g) => some (none, g)
  | some (some n, g) => k n g
theorem goF_app : ∀ (a b : List Cmd) (off need : Int) (f : Int → Int), goF (a ++ b) off need f = thenF (goF a off need f) fun n g => goF b (off - (a.map Cmd.dv).sum) n g
  | [], b, off, need, f => by
    show goF b off need f = goF b (off - 0) need f
    rw [Int.sub_zero]
  | .home :: a, b, off, need, f => rfl
  | .stop :: a, b, off, need, f => rfl
  | .right n :: a, b, off, need, f => by
    have e : off - (((Cmd.right n :: a).map Cmd.dv).sum) = off - (a.map Cmd.dv).sum := by
      rw [List.map_cons, List.sum_cons]
      show off - (0 + _) = _
      omega
    rw [e, List.cons_append]
    simp only [goF]
    by_cases h : need > n
    · rw [if_pos h, if_pos h]
      exact goF_app a b off (need - n) _
    · rw [if_neg h, if_neg h]
      rfl
  | .left n :: a, b, off, need, f => by
    have e : off - (((Cmd.left n :: a).map Cmd.dv).sum) = off - (a.map Cmd.dv).sum := by
      rw [List.map_cons, List.sum_cons]
      show off - (0 + _) = _
      omega
    rw [e, List.cons_append]
    exact goF_app a b off (need + n) _
  | .down n :: a, b, off, need, f => by
    have e : off - (((Cmd.down n :: a).map Cmd.dv).sum) = off - n - (a.map Cmd.dv).sum := by
      rw [List.map_cons, List.sum_cons]
      show off - (n + _) = _
      omega
    rw [e, List.cons_append]
    exact goF_app a b (off - n) need f
  | .up n :: a, b, off, need, f => by
    have e : off - (((Cmd.up n :: a).map Cmd.dv).sum) = off + n - (a.map Cmd.dv).sum := by
      rw [List.map_cons, List.sum_cons]
      show off - (-n + _) = _
      omega
    rw [e, List.cons_append]
    exact goF_app a b (off + n) need f
theorem goF_shift (d : Int) : ∀ (r : List Cmd) (off need : Int) (f : Int → Int), goF r (off + d) need (fun k => f (k - d)) = (goF r off need f).map fun x => (x.1, fun k => x.2 (k - d))
  | [], off, need, f => rfl
  | .home :: r, off, need, f => rfl
  | .stop :: r, off, need, f => rfl
  | .right n :: r, off, need, f => by
    have e : reqF (fun k => f (k - d)) (off + d) need = fun k => reqF f off need (k - d) := by
      funext k
      unfold reqF
      by_cases h : off + d = k
      · rw [if_pos h, if_pos (by omega)]
      · rw [if_neg h, if_neg (by omega)]
    simp only [goF]
    rw [e]
    by_cases h : need > n
    · rw [if_pos h, if_pos h]
      exact goF_shift d r off (need - n) _
    · rw [if_neg h, if_neg h]
      rfl
  | .left n :: r, off, need, f => by
    have e : reqF (fun k => f (k - d)) (off + d) (need + n) = fun k => reqF f off (need + n) (k - d) := by
      funext k
      unfold reqF
      by_cases h : off + d = k
      · rw [if_pos h, if_pos (by omega)]
      · rw [if_neg h, if_neg (by omega)]
    simp only [goF]
    rw [e]
    exact goF_shift d r off (need + n) _
  | .down n :: r, off, need, f => by
    simp only [goF]
    rw [show off + d - n = off - n + d by omega]
    exact goF_shift d r (off - n) need f
  | .up n :: r, off, need, f => by
    simp only [goF]
    rw [show off + d + n = off + n + d by omega]
    exact goF_shift d r (off + n) need f
theorem goF_max (h : Int → Int) : ∀ (r : List Cmd) (off need : Int) (f : Int → Int), goF r off need (fun k => max (f k) (h k)) = (goF r off need f).map fun x => (x.1, fun k => max (x.2 k) (h k))
  | [], off, need, f => rfl
  | .home :: r, off, need, f => rfl
  | .stop :: r, off, need, f => rfl
  | .right n :: r, off, need, f => by
    have e : reqF (fun k => max (f k) (h k)) off need = fun k => max (reqF f off need k) (h k) := by
      funext k
      unfold reqF
      show (if _ then _ else _) = _
      by_cases q : off = k
      · simp only [q, if_true]
        rw [Int.max_assoc]
      · simp only [q, if_false]
    simp only [goF]
    rw [e]
    by_cases c : need > n
    · rw [if_pos c, if_pos c]
      exact goF_max h r off (need - n) _
    · rw [if_neg c, if_neg c]
      rfl
  | .left n :: r, off, need, f => by
    have e : reqF (fun k => max (f k) (h k)) off (need + n) = fun k => max (reqF f off (need + n) k) (h k) := by
      funext k
      unfold reqF
      show (if _ then _ else _) = _
      by_cases q : off = k
      · simp only [q, if_true]
        rw [Int.max_assoc]
      · simp only [q, if_false]
    simp only [goF]
    rw [e]
    exact goF_max h r off (need + n) _
  | .down n :: r, off, need, f => goF_max h r (off - n) need f
  | .up n :: r, off, need, f => goF_max h r (off + n) need f
theorem last_app (a b : List Cmd) : last (a ++ b) = last a + last b := by
  unfold last
  rw [List.map_append, List.sum_append]
theorem sum_rev (l : List Int) : l.reverse.sum = l.sum := by
  induction l with
  | nil => rfl
  | cons a l ih =>
    rw [List.reverse_cons, List.sum_append, ih, List.sum_cons]
    simp
    omega
theorem boxF_app (early late : List Cmd) (aim : Int) (pos : ∀ st g, boxF late aim = some (st, g) → ∀ k, 0 ≤ g k) :
    boxF (early ++ late) aim = match boxF late aim with
      | none => none
      | some (none, g) => some (none, fun k => g (k - last early))
      | some (some n, g) => (boxF early n).map fun x => (x.1, fun k => max (x.2 k) (g (k - last early))) := by
  unfold boxF
  rw [List.reverse_append, goF_app, last_app, Int.add_comm (last early)]
  have sh : goF late.reverse (last late + last early) aim (fun _ => 0) = (goF late.reverse (last late) aim fun _ => 0).map fun x => (x.1, fun k => x.2 (k - last early)) :=
    goF_shift (last early) late.reverse (last late) aim fun _ => 0
  rw [sh]
  have pos' := pos
  unfold boxF at pos'
  cases e : goF late.reverse (last late) aim (fun _ => 0) with
  | none => rfl
  | some x =>
    obtain ⟨st, g⟩ := x
    cases st with
    | none => rfl
    | some n =>
      show goF early.reverse (last late + last early - (late.reverse.map Cmd.dv).sum) n (fun k => g (k - last early)) = _
      have es : (late.reverse.map Cmd.dv).sum = last late := by
        rw [List.map_reverse, sum_rev]
        rfl
      rw [es, show last late + last early - last late = last early by omega]
      have em : (fun k => g (k - last early)) = fun k => max ((fun _ => 0 : Int → Int) k) (g (k - last early)) := by
        funext k
        have := pos' _ _ e (k - last early)
        show g (k - last early) = max 0 (g (k - last early))
        omega
      rw [em, goF_max]

/-! ### the law's own joining -/
def shiftK (d : Int) (b : Ps) : Ps := b.map fun q => (q.1 + d, q.2)
def addAll (b : Ps) (l : Ps) : Ps := l.foldl (fun b q => put b q.1 (mx q.2 ((look b q.1).getD 0))) b
def joinedM (early late : List Cmd) (gone aim : Int) : Option (Option Int × Ps) := match boxM late aim with
  | none => none
  | some (none, l) => some (none, (shiftK gone l).mergeSort leK)
  | some (some n, l) => match boxM early n with
    | none => none
    | some (st, m) => some (st, (addAll (shiftK gone l) m).mergeSort leK)
theorem look_shift (d : Int) : ∀ (b : Ps) (k : Int), look (shiftK d b) k = look b (k - d)
  | [], _ => rfl
  | q :: b, k => by
    show look ((q.1 + d, q.2) :: shiftK d b) k = _
    rw [look_cons, look_cons, look_shift d b]
    by_cases h : q.1 + d = k
    · rw [if_pos h, if_pos (by omega)]
    · rw [if_neg h, if_neg (by omega)]
theorem good_shift (d : Int) {b : Ps} (g : Good b) : Good (shiftK d b) := by
  refine ⟨?_, fun q hq => ?_⟩
  · have e : keys (shiftK d b) = (keys b).map (· + d) := by
      unfold keys shiftK
      rw [List.map_map, List.map_map]
      rfl
    rw [e, List.nodup_iff_pairwise_ne, List.pairwise_map]
    exact (List.nodup_iff_pairwise_ne.mp g.nd).imp fun h => by omega
  · obtain ⟨p, hp, rfl⟩ := List.mem_map.mp hq
    exact g.pos p hp
theorem val_shift (d : Int) (b : Ps) : val (shiftK d b) = fun k => val b (k - d) := by
  funext k
  unfold val
  rw [look_shift]
theorem val_cons (q : Int × Int) (b : Ps) (k : Int) : val (q :: b) k = if q.1 = k then q.2 else val b k := by
  unfold val
  rw [look_cons]
  split <;> rfl
theorem val_out {b : Ps} {k : Int} (h : k ∉ keys b) : val b k = 0 := by
  unfold val
  rw [look_none.mpr h]
  rfl
theorem addAll_good : ∀ {l b : Ps}, Good b → Good l → Good (addAll b l) ∧ ∀ k, val (addAll b l) k = max (val l k) (val b k)
  | [], b, gb, _ => ⟨gb, fun k => by
      have := val_nonneg gb k
      show val b k = max 0 (val b k)
      omega⟩
  | q :: l, b, gb, gl => by
    have nq : q.1 ∉ keys l ∧ (keys l).Nodup := List.nodup_cons.mp gl.nd
    have p1 : 1 ≤ q.2 := gl.pos q List.mem_cons_self
    have gl' : Good l := ⟨nq.2, fun p hp => gl.pos p (List.mem_cons_of_mem _ hp)⟩
    have hv : 1 ≤ mx q.2 ((look b q.1).getD 0) := by
      unfold mx
      split <;> omega
    obtain ⟨g, v⟩ := addAll_good (b := put b q.1 (mx q.2 ((look b q.1).getD 0))) (good_put gb hv) gl'
    refine ⟨g, fun k => ?_⟩
    show val (addAll (put b q.1 (mx q.2 ((look b q.1).getD 0))) l) k = _
    rw [v k, val_put, val_cons]
    by_cases h : q.1 = k
    · subst h
      rw [if_pos rfl, if_pos rfl, val_out nq.1]
      have : mx q.2 ((look b q.1).getD 0) = max q.2 (val b q.1) := by
        unfold mx val
        split <;> omega
      rw [this]
      omega
    · rw [if_neg h, if_neg h]
theorem joined (early late : List Cmd) {aim : Int} (he : AllOk early) (hl : AllOk late) (ha : 1 ≤ aim) : boxM (early ++ late) aim = joinedM early late (last early) aim := by
  have hw : AllOk (early ++ late) := fun c hc => (List.mem_append.mp hc).elim (he c) (hl c)
  have srtd : ∀ {b c : Ps}, Good b → Good c → val b = val c → b.mergeSort leK = c.mergeSort leK := fun gb gc h => sort_ext gb gc h
  rcases box_spec hl ha with ⟨e1, e2⟩ | ⟨st, b, e1, gb, e2, pb⟩
  · have f := boxF_app early late aim fun st g h => by rw [e2] at h; cases h
    rw [e2] at f
    rcases box_spec hw ha with ⟨w1, _⟩ | ⟨_, _, _, _, w2, _⟩
    · rw [w1]
      unfold joinedM
      rw [e1]
    · rw [w2] at f
      cases f
  · have f := boxF_app early late aim fun st g h => by
      rw [e2] at h
      cases h
      exact val_nonneg gb
    rw [e2] at f
    have gs : Good (b.mergeSort leK) := good_perm gb (List.mergeSort_perm b leK)
    have vs : val (b.mergeSort leK) = val b := val_perm gb (List.mergeSort_perm b leK)
    cases st with
    | none =>
      rcases box_spec hw ha with ⟨_, w2⟩ | ⟨st', c, w1, gc, w2, _⟩
      · rw [w2] at f
        cases f
      · rw [w2] at f
        have f' := Option.some.inj f
        have f1 : st' = none := congrArg Prod.fst f'
        have f2 : val c = fun k => val b (k - last early) := congrArg Prod.snd f'
        rw [w1, f1]
        unfold joinedM
        rw [e1]
        show some ((none : Option Int), c.mergeSort leK) = some (none, (shiftK (last early) (b.mergeSort leK)).mergeSort leK)
        rw [srtd gc (good_shift _ gs) (by rw [f2, val_shift, vs])]
    | some n =>
      have hn := pb n rfl
      rcases box_spec he hn with ⟨x1, x2⟩ | ⟨st2, m, x1, gm, x2, _⟩
      · have f' : boxF (early ++ late) aim = (boxF early n).map fun x => (x.1, fun k => max (x.2 k) (val b (k - last early))) := f
        rw [x2] at f'
        rcases box_spec hw ha with ⟨w1, _⟩ | ⟨_, _, _, _, w2, _⟩
        · rw [w1]
          unfold joinedM
          rw [e1]
          show none = match boxM early n with | none => none | some (st, m) => _
          rw [x1]
        · rw [w2] at f'
          cases f'
      · have f' : boxF (early ++ late) aim = (boxF early n).map fun x => (x.1, fun k => max (x.2 k) (val b (k - last early))) := f
        rw [x2] at f'
        rcases box_spec hw ha with ⟨_, w2⟩ | ⟨st', c, w1, gc, w2, _⟩
        · rw [w2] at f'
          cases f'
        · rw [w2] at f'
          have f3 := Option.some.inj f'
          have f1 : st' = st2 := congrArg Prod.fst f3
          have f2 : val c = fun k => max (val m k) (val b (k - last early)) := congrArg Prod.snd f3
          rw [w1, f1]
          unfold joinedM
          rw [e1]
          show some (st2, c.mergeSort leK) = match boxM early n with | none => none | some (st, m) => _
          rw [x1]
          show some (st2, c.mergeSort leK) = some (st2, (addAll (shiftK (last early) (b.mergeSort leK)) (m.mergeSort leK)).mergeSort leK)
          have gms : Good (m.mergeSort leK) := good_perm gm (List.mergeSort_perm m leK)
          obtain ⟨ga, va⟩ := addAll_good (good_shift (last early) gs) gms
          rw [srtd gc ga (by
            funext k
            rw [f2, va k, val_perm gm (List.mergeSort_perm m leK), val_shift, vs])]

/-! ### a greater goal -/
theorem reqF_mono {f g : Int → Int} {o v u : Int} (h : ∀ k, f k ≤ g k) (hv : v ≤ u) (k : Int) : reqF f o v k ≤ reqF g o u k := by
  have := h k
  unfold reqF
  split <;> omega
theorem reqF_ge (f : Int → Int) (o v k : Int) : f k ≤ reqF f o v k := by
  unfold reqF
  split <;> omega
theorem goF_ge : ∀ {r : List Cmd} {off need : Int} {f : Int → Int} {st : Option Int} {g : Int → Int}, goF r off need f = some (st, g) → ∀ k, f k ≤ g k
  | [], off, need, f, st, g, h, k => by cases h; exact Int.le_refl _
  | .home :: r, off, need, f, st, g, h, k => by cases h
  | .stop :: r, off, need, f, st, g, h, k => by cases h; exact Int.le_refl _
  | .right n :: r, off, need, f, st, g, h, k => by
    simp only [goF] at h
    by_cases c : need > n
    · rw [if_pos c] at h
      exact Int.le_trans (reqF_ge f off need k) (goF_ge h k)
    · rw [if_neg c] at h
      cases h
      exact reqF_ge f off need k
  | .left n :: r, off, need, f, st, g, h, k => Int.le_trans (reqF_ge f off (need + n) k) (goF_ge (r := r) h k)
  | .down n :: r, off, need, f, st, g, h, k => goF_ge (r := r) h k
  | .up n :: r, off, need, f, st, g, h, k => goF_ge (r := r) h k
def Less (x y : BF) : Prop := y = none ∨ ∃ st g st' g', x = some (st, g) ∧ y = some (st', g') ∧ (∀ n, st = some n → ∃ n', st' = some n' ∧ n ≤ n') ∧ ∀ k, g k ≤ g' k
theorem goF_mono : ∀ {r : List Cmd} {off need need' : Int} {f f' : Int → Int}, need ≤ need' → (∀ k, f k ≤ f' k) → Less (goF r off need f) (goF r off need' f')
  | [], off, need, need', f, f', h, hf => .inr ⟨_, _, _, _, rfl, rfl, fun n e => ⟨need', rfl, by rw [← Option.some.inj e]; exact h⟩, hf⟩
  | .home :: r, off, need, need', f, f', h, hf => .inl rfl
  | .stop :: r, off, need, need', f, f', h, hf => .inr ⟨_, _, _, _, rfl, rfl, (fun n e => nomatch e), hf⟩
  | .right n :: r, off, need, need', f, f', h, hf => by
    simp only [goF]
    have m := reqF_mono (o := off) hf h
    by_cases c : need > n
    · rw [if_pos c, if_pos (by omega)]
      exact goF_mono (by omega) m
    · rw [if_neg c]
      by_cases c' : need' > n
      · rw [if_pos c']
        cases e : goF r off (need' - n) (reqF f' off need') with
        | none => exact .inl rfl
        | some x => exact .inr ⟨_, _, x.1, x.2, rfl, rfl, (fun n e => nomatch e), fun k => Int.le_trans (m k) (goF_ge e k)⟩
      · rw [if_neg c']
        exact .inr ⟨_, _, _, _, rfl, rfl, (fun n e => nomatch e), m⟩
  | .left n :: r, off, need, need', f, f', h, hf => goF_mono (r := r) (by omega) (reqF_mono (o := off) hf (by omega))
  | .down n :: r, off, need, need', f, f', h, hf => goF_mono (r := r) h hf
  | .up n :: r, off, need, need', f, f', h, hf => goF_mono (r := r) h hf
theorem box_mono {cs : List Cmd} {aim more : Int} (h : AllOk cs) (ha : 1 ≤ aim) (hm : aim ≤ more) :
    boxM cs more = none ∨ ∃ st l st' l', boxM cs aim = some (st, l) ∧ boxM cs more = some (st', l') ∧ (∀ n, st = some n → ∃ n', st' = some n' ∧ n ≤ n') ∧ ∀ q ∈ l, q.2 ≤ val l' q.1 := by
  have m : Less (boxF cs aim) (boxF cs more) := goF_mono hm fun _ => Int.le_refl _
  rcases box_spec h (show 1 ≤ more by omega) with ⟨e1, _⟩ | ⟨st', b', e1, g', e2, _⟩
  · exact .inl e1
  · rcases m with m | ⟨st, g, st2, g2, m1, m2, m3, m4⟩
    · rw [e2] at m
      cases m
    · rw [e2] at m2
      cases m2
      rcases box_spec h ha with ⟨_, x2⟩ | ⟨st3, b, x1, gb, x2, _⟩
      · rw [x2] at m1
        cases m1
      · rw [x2] at m1
        cases m1
        refine .inr ⟨st, _, st', _, x1, e1, m3, fun q hq => ?_⟩
        have gs : Good (b.mergeSort leK) := good_perm gb (List.mergeSort_perm b leK)
        have v : val (b.mergeSort leK) q.1 = q.2 := by
          unfold val
          rw [mem_look gs.nd hq]
          rfl
        rw [val_perm gb (List.mergeSort_perm b leK)] at v
        rw [val_perm g' (List.mergeSort_perm b' leK), ← v]
        exact m4 q.1

/-! ### moves multiplied -/
def Cmd.mul (F : Int) : Cmd → Cmd
  | .down n => .down (n * F)
  | .up n => .up (n * F)
  | c => c
def mulK (F : Int) (b : Ps) : Ps := b.map fun q => (q.1 * F, q.2)
theorem mul_inj {F a b : Int} (hF : 1 ≤ F) : a * F = b * F ↔ a = b := ⟨fun h => Int.eq_of_mul_eq_mul_right (by omega) h, fun h => by rw [h]⟩
theorem look_mul {F : Int} (hF : 1 ≤ F) : ∀ (b : Ps) (k : Int), look (mulK F b) (k * F) = look b k
  | [], _ => rfl
  | q :: b, k => by
    show look ((q.1 * F, q.2) :: mulK F b) (k * F) = _
    rw [look_cons, look_cons, look_mul hF b]
    by_cases h : q.1 = k
    · rw [if_pos h, if_pos (by rw [h])]
    · rw [if_neg h, if_neg fun z => h ((mul_inj hF).mp z)]
theorem put_mul {F : Int} (hF : 1 ≤ F) (b : Ps) (k v : Int) : put (mulK F b) (k * F) v = mulK F (put b k v) := by
  unfold put
  have ea : (mulK F b).any (fun q => decide (q.1 = k * F)) = b.any (fun q => decide (q.1 = k)) := by
    unfold mulK
    rw [List.any_map]
    congr 1
    funext q
    show decide (q.1 * F = k * F) = decide (q.1 = k)
    exact decide_eq_decide.mpr (mul_inj hF)
  rw [ea]
  by_cases h : b.any (fun q => decide (q.1 = k)) = true
  · rw [if_pos h, if_pos h]
    unfold mulK
    rw [List.map_map, List.map_map]
    refine List.map_congr_left fun q _ => ?_
    show (if q.1 * F = k * F then (q.1 * F, v) else (q.1 * F, q.2)) = ((if q.1 = k then (q.1, v) else q).1 * F, (if q.1 = k then (q.1, v) else q).2)
    by_cases e : q.1 = k
    · rw [if_pos e, if_pos (by rw [e])]
    · rw [if_neg e, if_neg fun z => e ((mul_inj hF).mp z)]
  · rw [if_neg h, if_neg h]
    unfold mulK
    rw [List.map_append]
    rfl
theorem req_mul {F : Int} (hF : 1 ≤ F) (b : Ps) (o v : Int) : req (mulK F b) (o * F) v = mulK F (req b o v) := by
  unfold req
  rw [look_mul hF, put_mul hF]
theorem go_mul {F : Int} (hF : 1 ≤ F) : ∀ (r : List Cmd) (off need : Int) (b : Ps), go (r.map (Cmd.mul F)) (off * F) need (mulK F b) = (go r off need b).map fun x => (x.1, mulK F x.2)
  | [], off, need, b => rfl
  | .home :: r, off, need, b => rfl
  | .stop :: r, off, need, b => rfl
  | .right n :: r, off, need, b => by
    show (if need > n then go (r.map (Cmd.mul F)) (off * F) (need - n) (req (mulK F b) (off * F) need) else some (none, req (mulK F b) (off * F) need)) = (if need > n then go r off (need - n) (req b off need) else some (none, req b off need)).map _
    rw [req_mul hF]
    by_cases c : need > n
    · rw [if_pos c, if_pos c]
      exact go_mul hF r off (need - n) _
    · rw [if_neg c, if_neg c]
      rfl
  | .left n :: r, off, need, b => by
    show go (r.map (Cmd.mul F)) (off * F) (need + n) (req (mulK F b) (off * F) (need + n)) = _
    rw [req_mul hF]
    exact go_mul hF r off (need + n) _
  | .down n :: r, off, need, b => by
    show go (r.map (Cmd.mul F)) (off * F - n * F) need (mulK F b) = _
    rw [← Int.sub_mul]
    exact go_mul hF r (off - n) need b
  | .up n :: r, off, need, b => by
    show go (r.map (Cmd.mul F)) (off * F + n * F) need (mulK F b) = _
    rw [← Int.add_mul]
    exact go_mul hF r (off + n) need b
theorem last_mul (F : Int) : ∀ cs : List Cmd, last (cs.map (Cmd.mul F)) = last cs * F
  | [] => by show (0 : Int) = 0 * F; omega
  | c :: cs => by
    have e : ∀ (c : Cmd) (cs : List Cmd), last (c :: cs) = c.dv + last cs := fun _ _ => rfl
    have d : (c.mul F).dv = c.dv * F := by
      cases c with
      | up n =>
        show -(n * F) = -n * F
        rw [Int.neg_mul]
      | down n => rfl
      | right n => show (0 : Int) = 0 * F; omega
      | left n => show (0 : Int) = 0 * F; omega
      | home => show (0 : Int) = 0 * F; omega
      | stop => show (0 : Int) = 0 * F; omega
    rw [List.map_cons, e, e, last_mul F cs, d, Int.add_mul]
theorem good_mul {F : Int} (hF : 1 ≤ F) {b : Ps} (g : Good b) : Good (mulK F b) := by
  refine ⟨?_, fun q hq => ?_⟩
  · have e : keys (mulK F b) = (keys b).map (· * F) := by
      unfold keys mulK
      rw [List.map_map, List.map_map]
      rfl
    rw [e, List.nodup_iff_pairwise_ne, List.pairwise_map]
    exact (List.nodup_iff_pairwise_ne.mp g.nd).imp fun h z => h ((mul_inj hF).mp z)
  · obtain ⟨p, hp, rfl⟩ := List.mem_map.mp hq
    exact g.pos p hp
theorem asc_mul {F : Int} (hF : 1 ≤ F) {b : Ps} (h : Asc b) : Asc (mulK F b) := by
  unfold Asc mulK
  rw [List.pairwise_map]
  exact h.imp fun h => Int.mul_lt_mul_of_pos_right h (by omega)
theorem box_mul {F : Int} (hF : 1 ≤ F) {cs : List Cmd} {goal : Int} (h : AllOk cs) (hg : 1 ≤ goal) :
    boxM (cs.map (Cmd.mul F)) goal = (boxM cs goal).map fun x => (x.1, mulK F x.2) := by
  unfold boxM
  rw [last_mul, ← List.map_reverse]
  have e := go_mul hF cs.reverse (last cs) goal []
  have e' : go (cs.reverse.map (Cmd.mul F)) (last cs * F) goal [] = (go cs.reverse (last cs) goal []).map fun x => (x.1, mulK F x.2) := e
  rw [e']
  rcases go_goF (off := last cs) (allOk_rev h) good_nil hg with ⟨e1, _⟩ | ⟨st, b, e1, g, _, _⟩
  · rw [e1]
    rfl
  · rw [e1]
    show some (st, (mulK F b).mergeSort leK) = some (st, mulK F (b.mergeSort leK))
    have gm := good_mul hF g
    have key : (mulK F b).mergeSort leK = mulK F (b.mergeSort leK) := by
      have p : (mulK F (b.mergeSort leK)).Perm (mulK F b) := (List.mergeSort_perm b leK).map _
      refine asc_ext (asc_sort gm) (asc_mul hF (asc_sort g)) fun k => ?_
      rw [look_perm gm (List.mergeSort_perm _ leK), look_perm gm p]
    rw [key]
def Cmd.vert : Cmd → Bool
  | .down _ => true
  | .up _ => true
  | _ => false
theorem go_plain : ∀ (r : List Cmd) (off need : Int) (b : Ps), (∀ c ∈ r, c.vert = true) → go r off need b = some (some need, b)
  | [], _, _, _, _ => rfl
  | .down n :: r, off, need, b, h => go_plain r (off - n) need b fun c hc => h c (List.mem_cons_of_mem _ hc)
  | .up n :: r, off, need, b, h => go_plain r (off + n) need b fun c hc => h c (List.mem_cons_of_mem _ hc)
  | .right n :: r, _, _, _, h => nomatch h _ List.mem_cons_self
  | .left n :: r, _, _, _, h => nomatch h _ List.mem_cons_self
  | .home :: r, _, _, _, h => nomatch h _ List.mem_cons_self
  | .stop :: r, _, _, _, h => nomatch h _ List.mem_cons_self
theorem box_plain (cs : List Cmd) (goal : Int) (h : ∀ c ∈ cs, c.vert = true) : boxM cs goal = some (some goal, []) := by
  unfold boxM
  rw [go_plain cs.reverse (last cs) goal [] fun c hc => h c (List.mem_reverse.mp hc)]
  show some (some goal, ([] : Ps).mergeSort leK) = _
  rw [List.mergeSort_nil]
end Gc

/-! sorted(d.items()), d a dict of ints by ints -/
namespace Gc
open PySem PySem.Spec PyProof.Rows L2
/-- what such a dict holds -/
def dkI (ps : List (Int × Int)) : List (L2.Key × V) := ps.map fun q => (Sum.inl q.1, V.int q.2)
def encP (q : Int × Int) : PyData := .tuple [.int q.1, .int q.2]
def leP (p q : Int × Int) : Bool := decide (p.1 < q.1 ∨ (p.1 = q.1 ∧ p.2 ≤ q.2))
theorem dkI_at {ps : List (Int × Int)} {j : Nat} {kv : L2.Key × V} (h : (dkI ps)[j]? = some kv) : ∃ q, ps[j]? = some q ∧ kv = (Sum.inl q.1, V.int q.2) := by
  unfold dkI at h
  rw [List.getElem?_map] at h
  cases e : ps[j]? with
  | none =>
    rw [e] at h
    cases h
  | some q =>
    rw [e] at h
    exact ⟨q, rfl, (Option.some.inj h).symm⟩
theorem pairs_at {P : Program} {w : World} : ∀ {es : List DictEntry} {vs : List (L2.Key × Value)} {j : Nat} {e : DictEntry}, Pairs (mixKind P w) es vs → es[j]? = some e →
    ∃ kv, vs[j]? = some kv ∧ keyIs kv.1 e.key = true ∧ e.val = kv.2
  | _, _, 0, e, .cons h1 h2 _, h => by
    obtain rfl := Option.some.inj h
    exact ⟨_, rfl, h1, h2⟩
  | _, _, j + 1, e, .cons _ _ t, h => pairs_at (j := j) t h
theorem pairs_len {P : Program} {w : World} : ∀ {es : List DictEntry} {vs : List (L2.Key × Value)}, Pairs (mixKind P w) es vs → es.length = vs.length
  | _, _, .nil => rfl
  | _, _, .cons _ _ t => by
    rw [List.length_cons, List.length_cons, pairs_len t]
def rSortItI : V → Hp → VK → Prop := fun x H Q => ∃ (d : Addr) (ps : List (Int × Int)), x = .ref d ∧ H d = some (.dK (dkI ps)) ∧
  ∀ (H' : Hp) (l : Addr) (ts : List Addr), Same H H' → H l = none → H' l = some (.lst (ts.map V.ref)) →
    Paired (fun (t : Addr) (q : Int × Int) => H' t = some (.tup [.int q.1, .int q.2])) ts (ps.mergeSort leP) → Q (.ref l) H'
theorem each_paired {R : Value → Int × Int → Prop} {F : Addr → Int × Int → Prop} (hR : ∀ v q, R v q → ∃ t, v = .ref t ∧ F t q) : ∀ {vs : List Value} {qs : List (Int × Int)}, PySem.W.EachIs R vs qs →
    ∃ ts : List Addr, vs = ts.map Value.ref ∧ Paired F ts qs
  | _, _, .nil => ⟨[], rfl, .nil⟩
  | _, _, .cons h t => by
    obtain ⟨t0, e0, f0⟩ := hR _ _ h
    obtain ⟨ts, e1, f1⟩ := each_paired hR t
    exact ⟨t0 :: ts, by rw [e0, e1]; rfl, .cons f0 f1⟩
theorem vals_refs : ∀ as : List Addr, Vals (as.map V.ref) (as.map Value.ref)
  | [] => .nil
  | _ :: as => .cons rfl (vals_refs as)
section
variable {X : Cx}
theorem sort_items_run {pins : List (Addr × Obj)} {σ : L2.St} {H : Hp} {s : Shared} {Q : VK} {p d : Addr} {ps : List (Int × Int)} (I : Inv X pins σ H s) (hh : X.A.handled = none)
    (hu : X.A.units + 64 < cLine) (hd : H d = some (.dK (dkI ps))) (view : s.heap.IsItemsView p d)
    (q : ∀ (H' : Hp) (l : Addr) (ts : List Addr), Same H H' → H l = none → H' l = some (.lst (ts.map V.ref)) →
      Paired (fun (t : Addr) (q : Int × Int) => H' t = some (.tup [.int q.1, .int q.2])) ts (ps.mergeSort leP) → Q (.ref l) H') :
    wpAny (model X.prog X.w) X.A (call (.builtin "sorted") [.ref p]) (EP X pins σ Q) X.xe s := by
  obtain ⟨hz, hs0, vs, kv, o, es, ep, ho, hx, hdat, hko, hpr, hnd⟩ := (show ObjOk X.prog X.w H s.heap d (.dK (dkI ps)) from I.hok d _ hd)
  have l1 : (dkI ps).length = vs.length := Paired.length kv
  have l2 : es.toList.length = vs.length := pairs_len hpr
  have l3 : (dkI ps).length = ps.length := List.length_map ..
  have l4 : es.toList.length = es.size := by simp
  have ent : ∀ (j : Nat) (e : DictEntry), es[j]? = some e → ∃ (q : Int × Int) (t1 t2 : Tok), ps[j]? = some q ∧ e.key = .int q.1 t1 ∧ e.val = .int q.2 t2 := by
    intro j e he
    obtain ⟨kv', e1, e2, e3⟩ := pairs_at hpr (show es.toList[j]? = some e by simpa using he)
    obtain ⟨y, f1, f2, f3⟩ := L2.DX.pget kv e1
    obtain ⟨q, g1, rfl⟩ := dkI_at f1
    have f2' : Sum.inl q.1 = kv'.1 := f2
    rw [← f2'] at e2
    obtain ⟨t1, k1⟩ := Value.isInt_shape (k := q.1) (v := e.key) e2
    obtain ⟨t2, k2⟩ : ∃ t, kv'.2 = Value.int q.2 t := f3
    exact ⟨q, t1, t2, g1, k1, e3.trans k2⟩
  refine DT.sortedI (es := es) (ep := ep) hh view ⟨o, ho, hx, hdat⟩ (by omega) fun h' tk as hk hlt hl hG => ?_
  have nd : as.Nodup := List.Pairwise.imp (fun h => Nat.ne_of_lt h) hG.rise
  have lap : as.length = ps.length := by omega
  have pr : ∀ (j : Nat) (b : Addr), as[j]? = some b → ∃ (q : Int × Int) (t1 t2 : Tok), ps[j]? = some q ∧
      h'.get? b = some { cls := .type "tuple", data := .seq #[Value.int q.1 t1, Value.int q.2 t2] } := by
    intro j b hj
    obtain ⟨e, he, hg⟩ := hG.pairs j b hj
    obtain ⟨q, t1, t2, e1, e2, e3⟩ := ent j e he
    rw [e2, e3] at hg
    exact ⟨q, t1, t2, e1, hg⟩
  have hob : (h'.push { cls := .type "list", data := .seq (as.map Value.ref).toArray }).get? h'.objs.size = some (seqObj "list" (as.map Value.ref).toArray 0) := Heap.get?_push_size _ rfl
  have ne0 : ∀ b o, h'.get? b = some o → b ≠ h'.objs.size := fun b o e => Nat.ne_of_lt (Heap.lt_size e)
  have ka : ∀ b o, h'.get? b = some o → (h'.push { cls := .type "list", data := .seq (as.map Value.ref).toArray }).get? b = some o := fun b o e => Heap.get?_push_of_some _ e
  generalize hh2 : h'.push { cls := .type "list", data := .seq (as.map Value.ref).toArray } = h2 at hob ka ⊢
  have kb : ∀ b o, s.heap.get? b = some o → h2.get? b = some o := fun b o e => ka b o (hk b o e)
  have zipR : ∀ z, z ∈ (as.map Value.ref).zip ps → ∃ (j : Nat) (t : Addr), z.1 = Value.ref t ∧ as[j]? = some t ∧ ps[j]? = some z.2 := by
    intro z hz'
    obtain ⟨j, hj⟩ := List.mem_iff_getElem?.mp hz'
    obtain ⟨j1, j2⟩ := List.getElem?_zip_eq_some.mp hj
    rw [List.getElem?_map] at j1
    cases e : as[j]? with
    | none =>
      rw [e] at j1
      cases j1
    | some t =>
      rw [e] at j1
      exact ⟨j, t, (Option.some.inj j1).symm, e, j2⟩
  have eR : PySem.W.EachIs (fun v (q : Int × Int) => ∃ (j : Nat) (t : Addr), v = Value.ref t ∧ as[j]? = some t ∧ ps[j]? = some q) (as.map Value.ref) ps :=
    PySem.W.EachIs.of_zip (by rw [List.length_map]; exact lap) zipR
  have er : PySem.W.EachIs (fun v (q : Int × Int) => ∃ bs, Reads h2 v (encP q) bs ∧ h'.objs.size ∉ bs) (as.map Value.ref) ps := by
    refine eR.mono fun v q h => ?_
    obtain ⟨j, t, rfl, e1, e2⟩ := h
    obtain ⟨q', t1, t2, g1, g2⟩ := pr j t e1
    obtain rfl : q' = q := Option.some.inj (g1.symm.trans e2)
    exact ⟨_, .tuple (ka _ _ g2) rfl rfl (.cons (.int _ _) (.cons (.int _ _) .nil)), by simp⟩
  refine PySem.W.list_sort_data (s := { s with heap := h2, toks := tk }) (A := X.A.in1) (enc := encP) (bs := ps) (vs := as.map Value.ref) hob eR er
    (PySem.W.AllAlike.of fun b b' => by simp [encP, PySem.W.alike, PySem.W.alikeAll]) (PySem.W.Sortable.tuples fun b => ⟨_, _, rfl⟩) (by omega)
    (fun b _ => by show X.A.units + 1 + 1 + 1 < cLine; omega) fun out ol oe => ?_
  have le_eq : PySem.W.dataLe false encP = leP := PySem.W.dataLe_ii (fun q : Int × Int => q.1) (fun q => q.2)
  rw [le_eq] at oe
  show EP X pins σ Q (.ref h'.objs.size) { s with heap := sortedHeap h2 h'.objs.size (as.map Value.ref) out.toArray, toks := tk }
  obtain ⟨ts, rfl, tp⟩ := each_paired (F := fun t q => ∃ j : Nat, as[j]? = some t ∧ ps[j]? = some q) (fun v q h => by
    obtain ⟨j, t, e1, e2, e3⟩ := h
    exact ⟨t, e1, j, e2, e3⟩) oe
  have kF : ∀ b o, b ≠ h'.objs.size → h2.get? b = some o → (sortedHeap h2 h'.objs.size (as.map Value.ref) (ts.map Value.ref).toArray).get? b = some o :=
    fun b o hb e => (PyProof.Rows.sortedHeap_old hb (Heap.lt_size e)).trans e
  have kS : ∀ b o, s.heap.get? b = some o → (sortedHeap h2 h'.objs.size (as.map Value.ref) (ts.map Value.ref).toArray).get? b = some o :=
    fun b o e => kF b o (ne0 _ _ (hk b o e)) (kb b o e)
  obtain ⟨eF, heF⟩ := PyProof.Rows.sortedHeap_at (vs := as.map Value.ref) (out := (ts.map Value.ref).toArray) hob
  generalize sortedHeap h2 h'.objs.size (as.map Value.ref) (ts.map Value.ref).toArray = hF at kF kS heF ⊢
  have I1 : Inv X pins σ H { s with heap := hF, toks := tk } := I.kept (t' := tk) kS
  have hn0 : H h'.objs.size = none := I.hok.fresh (Nat.le_of_lt hlt)
  have tl : ts.length = ps.length := by
    rw [← ol, List.length_map]
  have I2 : Inv X pins σ (upd H h'.objs.size (.lst (ts.map V.ref))) { s with heap := hF, toks := tk } :=
    I1.take (h' := hF) (t' := tk) (fun b ob _ e => e) (I.fpOk (Nat.le_of_lt hlt) hn0) ⟨by rw [List.length_map]; omega, ts.map Value.ref, eF, vals_refs ts, heF⟩
  obtain ⟨H2, I3, g, qt⟩ := L2.DX.takeT (P := fun b vs => ∃ (j : Nat) (q : Int × Int), as[j]? = some b ∧ ps[j]? = some q ∧ vs = [.int q.1, .int q.2]) I as _ I2 nd fun b hb => by
    obtain ⟨j, hj⟩ := List.mem_iff_getElem?.mp hb
    obtain ⟨q, t1, t2, e1, e2⟩ := pr j b hj
    have old : s.heap.objs.size ≤ b := Nat.le_of_lt (hG.above b hb)
    refine ⟨old, ?_, [.int q.1, .int q.2], ⟨j, q, hj, e1, rfl⟩, fun H3 => ⟨by show 2 ≤ sizeLine; decide, [Value.int q.1 t1, Value.int q.2 t2], .cons ⟨_, rfl⟩ (.cons ⟨_, rfl⟩ .nil), ⟨_, kF _ _ (ne0 _ _ e2) (ka _ _ e2), rfl, 0, rfl⟩⟩⟩
    rw [upd_ne (ne0 _ _ e2)]
    exact I.hok.fresh old
  refine ⟨.ref h'.objs.size, H2, I3, rfl, q H2 h'.objs.size ts (fun b o e => g b o (by rw [upd_ne (ne_of_none e hn0)]; exact e)) hn0 (g _ _ upd_same) ?_⟩
  refine Paired.mapP tp fun t q h => ?_
  obtain ⟨j, j1, j2⟩ := h
  obtain ⟨vs', ⟨i, q', i1, i2, ev⟩, hH⟩ := qt t (List.mem_of_getElem? j1)
  have eij : i = j := (List.getElem?_inj (List.getElem?_eq_some_iff.mp i1).1 nd).mp (i1.trans j1.symm)
  subst eij
  obtain rfl : q' = q := Option.some.inj (i2.symm.trans j2)
  rw [ev] at hH
  exact hH
def tSortItems (te : TE) : TE := fun σ H Q => te σ H fun x H1 => rSortItI x H1 Q
variable {e : Expr} {te : TE} {p apos cpos pos : Pos}
theorem pe_sortItems (hc : X.calm = true) (hu : X.A.units + 64 < cLine) (he : PE X e te) (hg : Gl X "sorted") (hm : X.mg "sorted" = none)
    (hv : bootBuiltins "sorted" = some (.builtin "sorted"))
    (hbase : attributeBase e "items" X.env (eval e X.env) = eval e X.env := by rfl) (hline : (apos.endLine == cpos.line) = true := by rfl)
    (hs : starEach [.Call (.Attribute e "items" apos) [] [] cpos] X.env = (false, eval (.Call (.Attribute e "items" apos) [] [] cpos) X.env) :: starEach [] X.env := by rfl) :
    PE X (.Call (.Name "sorted" p) [.Call (.Attribute e "items" apos) [] [] cpos] [] pos) (tSortItems te) := by
  refine ⟨fun pins s σ H Q I hq => ?_⟩
  refine wpAny_Call_Name_kw (ld_blt I hg hm hv ?_)
  refine PyProof.Rows.callWith_builtin1 ?_ hs rfl
  rw [hs]
  show wpAny _ _ (spliced ((false, eval (.Call (.Attribute e "items" apos) [] [] cpos) X.env) :: backTo pos (starEach [] X.env))) _ _ s
  refine Calls.spliced_cons ?_
  refine wpAny_Call_method (T := "dict") (id := "dict.items") hbase rfl hline F.plainAttrs_dict F.slot_dict_items F.type_dict_items
    (thn (he.run pins s σ H _ I hq) fun u s1 ⟨x, H1, I1, rx, d, ps, ex, hd, q⟩ => ?_)
  subst ex
  obtain rfl : u = Value.ref d := rx
  obtain ⟨hz, hs0, vs, kv, hdo⟩ := I1.hok d _ hd
  have I2 : Inv X pins σ H1 { s1 with heap := s1.heap.push { cls := .type "dict_items", data := .fields #[.ref d] } } :=
    I1.kept (t' := s1.toks) fun b ob z => Heap.get?_push_of_some _ z
  refine ⟨hdo.typeIs, hdo.mapOf.noDict, ?_⟩
  show wpAny _ _ (callWith cpos (.builtin "dict.items") [.ref d] [] []) _ X.xe s1
  refine method_meetsIn F.slot_dict_items F.entry_dict_items rfl (PySem.evalArgs_none ⟨rfl, hdo.typeIs, F.args_dict_items_1 _, _, meets_dict_items (mixKind X.prog X.w) d hs0, ⟨vs, hdo⟩, ?_⟩)
  refine Calls.spliced_nil ?_
  exact sort_items_run I2 (I1.ok.hd hc) hu hd ⟨_, Heap.get?_push_size _ rfl, rfl, rfl⟩ q
end
end Gc

/-! match over written texts, with a last case for the rest -/
namespace Gc
open PySem L2
/-- what is wanted of the cases, by the subject's value -/
abbrev TM := V → TS
structure MC (X : Cx) (cs : List MatchCase) (t : TM) : Prop where
  run : ∀ (first : Bool) (pins : List (Addr × Obj)) (s : Shared) (σ : L2.St) (H : Hp) (D : Ends) (x : V) (v : Value),
    Inv X pins σ H s → RelV x v → t x D σ H →
    wpAny (model X.prog X.w) X.A (matchCases cs X.env v first) (fun f s' => SP X pins D f s') X.xe s
def mNil : TM := fun _ D σ H => D.nx σ H
/-- case 'z': .. -/
def mStr (z : Str) (tb : TS) (r : TM) : TM := fun x D σ H => ∃ y, x = .str y ∧ if decide (y = z) = true then tb D σ H else r x D σ H
/-- case _: .. -/
def mAny (tb : TS) : TM := fun _ D σ H => tb D σ H
section
variable {X : Cx} {rest : List MatchCase} {body : List Stmt} {tb : TS} {r : TM} {z : Str} {k : Nat} {p1 p2 pos : Pos} {e : Expr} {te : TE}
theorem mc_nil : MC X [] mNil := ⟨fun _ pins s σ H D x v I _ h => wpAny_matchCases_nil ⟨σ, H, I, h⟩⟩
theorem mc_str (hb : PSs X body tb) (hr : MC X rest r) :
    MC X (⟨.MatchValue (.Constant (.str z) k p1) p2, none, body⟩ :: rest) (mStr z tb r) := by
  refine ⟨fun first pins s σ H D x v I rx h => ?_⟩
  obtain ⟨y, rfl, h⟩ := h
  refine wpAny_matchCases_cons (wpAny_matchPattern_Value ?_)
  have hq : PE X (.Constant (.str z) k p1) (tC (.str z)) := pe_str
  refine wpAny_mono (hq.run pins s σ H (fun w H' => w = .str z ∧ H' = H) I ⟨rfl, rfl⟩) (fun u s1 hu => ?_) fun _ _ q => q
  obtain ⟨w, H1, I1, rw1, rfl, rfl⟩ := hu
  refine wpAny_mono ((op_eq (X := X)) pins s1 σ _ (.str y) (.str z) v u (fun w H' => w = .bl (decide (y = z)) ∧ H' = _) I1 rx rw1 ⟨rfl, ?_, rfl⟩) (fun c s2 hc => ?_) fun _ _ q => q
  · by_cases q : y = z
    · subst q
      rw [decide_eq_true (Eq.refl _), decide_eq_true (Eq.refl _)]
    · rw [decide_eq_false q, decide_eq_false fun e => q (V.str.inj e)]
  · obtain ⟨w, H2, I2, rw2, rfl, rfl⟩ := hc
    obtain rfl : c = Value.bool (decide (y = z)) := rw2
    refine wpAny_pure ?_
    by_cases q : y = z
    · rw [decide_eq_true q] at h ⊢
      show wpAny _ _ (assignInOrder [] []) _ _ _
      refine wpAny_assignInOrder_none ?_
      exact hb.run pins s2 σ _ D I2 h
    · rw [decide_eq_false q] at h ⊢
      exact hr.run false pins s2 σ _ D (.str y) v I2 rx h
theorem mc_any (hb : PSs X body tb) : MC X (⟨.MatchAs none none p2, none, body⟩ :: rest) (mAny tb) := by
  refine ⟨fun first pins s σ H D x v I rx h => ?_⟩
  refine wpAny_matchCases_cons (wpAny_matchPattern_Capture ?_)
  show wpAny _ _ (assignInOrder [] []) _ _ _
  exact wpAny_assignInOrder_none (hb.run pins s σ H D I h)
def tMatch (te : TE) (t : TM) : TS := fun D σ H => te σ H fun x H1 => t x D σ H1
theorem ps_match {cs : List MatchCase} {t : TM} (he : PE X e te) (hc : MC X cs t) : PS X (.Match e cs pos) (tMatch te t) := by
  refine ⟨fun pins s σ H D I h => ?_⟩
  refine wpAny_Match (wpAny_mono (he.run pins s σ H _ I h) (fun v s1 hv => ?_) fun _ _ q => q)
  obtain ⟨x, H1, I1, rx, q⟩ := hv
  exact hc.run true pins s1 σ H1 D x v I1 rx q
end
end Gc

namespace Gc
open PySem PyProof.Rows L2
/-! ### heaps: all that stood but at two places -/
def Keep (a d : Addr) (H H' : Hp) : Prop := ∀ b o, b ≠ a → b ≠ d → H b = some o → H' b = some o
theorem Keep.refl {a d : Addr} (H : Hp) : Keep a d H H := fun _ _ _ _ h => h
theorem Keep.trans {a d : Addr} {H H1 H2 : Hp} (x : Keep a d H H1) (y : Keep a d H1 H2) : Keep a d H H2 := fun b o h1 h2 h => y b o h1 h2 (x b o h1 h2 h)
theorem Keep.of {a d : Addr} {H H' : Hp} (e : Same H H') : Keep a d H H' := fun b o _ _ h => e b o h
theorem same_upd {H H' : Hp} {p : Addr} {o : HO} (e : Same H H') (h : H' p = none) : Same H (upd H' p o) := fun b u hb => by
  rw [upd_ne (ne_of_none (e b u hb) h)]
  exact e b u hb
theorem Keep.upd1 {a d : Addr} {H H' : Hp} {o : HO} (e : Keep a d H H') : Keep a d H (upd H' a o) := fun b u h1 h2 h => by
  rw [upd_ne h1]
  exact e b u h1 h2 h
theorem Keep.upd2 {a d : Addr} {H H' : Hp} {o : HO} (e : Keep a d H H') : Keep a d H (upd H' d o) := fun b u h1 h2 h => by
  rw [upd_ne h2]
  exact e b u h1 h2 h
theorem Keep.new {a d p : Addr} {H H' : Hp} {o : HO} (e : Keep a d H H') (h : H' p = none) : Keep a d H (upd H' p o) := fun b u h1 h2 hb => by
  rw [upd_ne (ne_of_none (e b u h1 h2 hb) h)]
  exact e b u h1 h2 hb

theorem cpow {i j : Int} (h : (decide (0 ≤ j) && (decide (j ≤ 1000000) && decide (i.natAbs < 2 ^ 64))) = true) : CPow i j := by
  rw [Bool.and_eq_true, Bool.and_eq_true] at h
  exact ⟨of_decide_eq_true h.1, of_decide_eq_true h.2.1, of_decide_eq_true h.2.2⟩
theorem pow_small {x : Int} {a k b : Nat} (h : x.natAbs < 2 ^ a) (hb : a * k < b) : (x ^ k).natAbs < 2 ^ b := by
  rw [Int.natAbs_pow]
  have h1 : x.natAbs ^ k ≤ (2 ^ a) ^ k := Nat.pow_le_pow_left (Nat.le_of_lt h) k
  rw [← Nat.pow_mul] at h1
  exact Nat.lt_of_le_of_lt h1 (Nat.pow_lt_pow_right (by decide) hb)
theorem int_at {ns : List Int} {i : Nat} {y : V} (h : (ns.map V.int)[i]? = some y) : ∃ u, y = V.int u := by
  rw [List.getElem?_map] at h
  cases e : ns[i]? with
  | none =>
    rw [e] at h
    cases h
  | some u =>
    rw [e] at h
    exact ⟨u, (Option.some.inj h).symm⟩
theorem dp_ints {K : PySem.W.Frag} {H : Hp} : ∀ ns : List Int, DpAll K H (ns.map V.int) (ns.map PyData.int)
  | [] => .nil
  | x :: r => .cons (.int x) (dp_ints r)
/-- a def that is called by its name and lets nothing out -/
structure Cal (P : Program) (w : World) (K : PySem.W.Frag) (mg : Str → Option Value) (base : Heap) (k : Nat) (x : Str) (sp : Sp) : Prop where
  ex : ∃ (f : Addr) (fd : FuncData) (ps : List Str), FnOk P w K mg base CX0 k f fd ps sp ∧
    mg x = some (.ref f) ∧ PySem.W.keepIn K (.ref f) = true ∧ Binds K fd ps []
theorem pe_cal {X : Cx} {k j : Nat} {x : Str} {sp : Sp} {p pos : Pos} {e : Expr} {es : List Expr} {t : TA}
    (c : Cal X.prog X.w X.K X.mg X.base k x sp) (hr : Room j X.A) (hk : k ≤ j) (hg : Gl X x) (ha : PA X (e :: es) t)
    (hdb : (x == ("__debug__" : Str)) = false := by decide)
    (he : starEach (e :: es) X.env = (false, eval e X.env) :: starEach es X.env := by rfl)
    (hpl : (backTo pos (starEach es X.env)).any (·.1) = false := by rfl) :
    PE X (.Call (.Name x p) (e :: es) [] pos) (tCall sp [] E0 t) := by
  obtain ⟨f, fd, ps, F, hm, kp, b⟩ := c.ex
  exact pe_call F (hr.mono hk) hg hm kp b .nil pass0 ha hdb he hpl

/-! ### data carried along -/
theorem seq_t {K : PySem.W.Frag} {H H' : Hp} {a : Addr} {xs : List V} (e : Same H H') (h : SqT K H a xs) : SqT K H' a xs := by
  rcases h with (h | ⟨o, h⟩) | h
  · exact .inl (.inl (e _ _ h))
  · exact .inl (.inr ⟨o, e _ _ h⟩)
  · exact .inr h
mutual
theorem dp_same {K : PySem.W.Frag} {H H' : Hp} (e : Same H H') : ∀ (d : PyData) (v : V), Dp K H v d → Dp K H' v d
  | .none, _, h => by cases h; exact .non
  | .bool b, _, h => by cases h; exact .bl b
  | .int i, _, h => by cases h; exact .int i
  | .str x, _, h => by cases h; exact .str x
  | .list ds, _, h => by
    cases h with
    | lst q r => exact .lst (e.seq q) (dps_same e ds _ r)
  | .tuple ds, _, h => by
    cases h with
    | tup q r => exact .tup (seq_t e q) (dps_same e ds _ r)
  | .dict _, _, h => by cases h
theorem dps_same {K : PySem.W.Frag} {H H' : Hp} (e : Same H H') : ∀ (ds : List PyData) (vs : List V), DpAll K H vs ds → DpAll K H' vs ds
  | [], _, h => by cases h; exact .nil
  | d :: ds, _, h => by
    cases h with
    | cons a b => exact .cons (dp_same e d _ a) (dps_same e ds _ b)
end
theorem dps_len {K : PySem.W.Frag} {H : Hp} : ∀ {vs : List V} {ds : List PyData}, DpAll K H vs ds → vs.length = ds.length
  | [], _, h => by cases h; rfl
  | _ :: vs, _, h => by
    cases h with
    | cons a b => rw [List.length_cons, List.length_cons, dps_len b]
theorem dps_at {K : PySem.W.Frag} {H : Hp} : ∀ {vs : List V} {ds : List PyData} {i : Nat}, DpAll K H vs ds → i < ds.length → ∃ v d, vs[i]? = some v ∧ ds[i]? = some d ∧ Dp K H v d
  | _, _, 0, h, l => by
    cases h with
    | nil => exact absurd l (by decide)
    | cons a b => exact ⟨_, _, rfl, rfl, a⟩
  | _, _, i + 1, h, l => by
    cases h with
    | nil => exact absurd l (Nat.not_lt_zero _)
    | cons a b => exact dps_at (i := i) b (Nat.lt_of_succ_lt_succ l)
theorem depth_at : ∀ {ds : List PyData} {i : Nat} {d : PyData}, ds[i]? = some d → d.depth ≤ PyData.depthAll ds
  | [], i, d, h => by simp at h
  | x :: r, 0, d, h => by
    have e : x = d := Option.some.inj h
    subst e
    simp only [PyData.depthAll]
    exact Nat.le_max_left _ _
  | x :: r, i + 1, d, h => by
    have ih := depth_at (ds := r) (i := i) (d := d) h
    simp only [PyData.depthAll]
    exact Nat.le_trans ih (Nat.le_max_right _ _)
theorem ty_l {K : PySem.W.Frag} {H : Hp} {a : Addr} {xs : List V} (h : SqL K H a xs) : TyX K H (.ref a) (.type "list") := by
  rcases h with (h | ⟨o, h⟩) | h
  · exact .base (.lst h)
  · exact .base (.frz h)
  · obtain ⟨o, its, n, e, c, _⟩ := h
    exact .kList e c
theorem ty_t {K : PySem.W.Frag} {H : Hp} {a : Addr} {xs : List V} (h : SqT K H a xs) : TyX K H (.ref a) (.type "tuple") := by
  rcases h with (h | ⟨o, h⟩) | h
  · exact .base (.tup h)
  · exact .fTuple h
  · obtain ⟨o, its, n, e, c, _⟩ := h
    exact .kTuple e c
theorem isi_q {K : PySem.W.Frag} {H : Hp} {x : V} {t n : String} {b : Bool} {Q : VK} (ty : TyX K H x (.type t)) (k : kitB t n = some b) (q : Q (.bl b) H) : rIsi K [x, .ty n] H Q :=
  ⟨x, .ty n, .type t, .type n, b, rfl, .ty n, ty, kit_ty k, q⟩
theorem log9 {x : Int} {a : Nat} (h : x.natAbs < 2 ^ a) (ha : a < 9000) : x.natAbs.log2 < 9000 :=
  Nat.lt_of_le_of_lt (Nat.le_of_lt_succ (PySem.Flt.log2_lt_of (k := a + 1) (Nat.succ_pos _) (Nat.lt_trans h (Nat.pow_lt_pow_right (by decide) (Nat.lt_succ_self a))))) ha
/-- a power of any whole number, its size told -/
def CPowW (i j : Int) : Prop := 0 ≤ j ∧ j ≤ 64 ∧ i.natAbs.log2 < 100000
theorem op_powW {X : Cx} : OpR X (binaryOp .Pow) (rI CPowW fun i j => .int (i ^ j.toNat)) := opI fun i j _ _ _ _ _ hc q => by
  refine pow_int hc.1 ?_ q
  have h1 : Builtin.Int.intBits i ≤ i.natAbs.log2 + 1 := by
    unfold Builtin.Int.intBits
    split <;> omega
  have h2 := hc.2.1
  have h3 := hc.2.2
  have h4 : (Builtin.Int.intBits i : Int) ≤ 100000 := by omega
  calc (Builtin.Int.intBits i : Int) * j ≤ 100000 * 64 := Int.mul_le_mul h4 h2 hc.1 (by decide)
    _ ≤ 2 ^ 27 := by decide
theorem cpowW {i j : Int} {a : Nat} (hj : 0 ≤ j) (hj2 : j ≤ 64) (h : i.natAbs < 2 ^ a) (ha : a < 100000) : CPowW i j :=
  ⟨hj, hj2, Nat.lt_of_le_of_lt (Nat.le_of_lt_succ (PySem.Flt.log2_lt_of (k := a + 1) (Nat.succ_pos _) (Nat.lt_trans h (Nat.pow_lt_pow_right (by decide) (Nat.lt_succ_self a))))) ha⟩
def rLenQ (K : PySem.W.Frag) : List V → Hp → VK → Prop := fun xs H Q => ∃ p ys, xs = [.ref p] ∧ (SqL K H p ys ∨ SqT K H p ys) ∧ Q (.int ys.length) H
end Gc

namespace Gc
open PySem PyProof.Rows L2
/-! ### commands as tuples -/
def encC : Cmd → List V
  | .down n => [.str "down", .int n]
  | .up n => [.str "up", .int n]
  | .right n => [.str "right", .int n]
  | .left n => [.str "left", .int n]
  | .home => [.str "home"]
  | .stop => [.str "end"]
def CmdAt (K : PySem.W.Frag) (H : Hp) (v : V) (c : Cmd) : Prop := ∃ a, v = .ref a ∧ SqT K H a (encC c)
def CmdsOf (K : PySem.W.Frag) (H : Hp) (xs : List V) (cs : List Cmd) : Prop := Paired (CmdAt K H) xs cs
theorem CmdAt.same {K : PySem.W.Frag} {H H' : Hp} {v : V} {c : Cmd} (e : Same H H') (h : CmdAt K H v c) : CmdAt K H' v c := by
  obtain ⟨a, e1, h1⟩ := h
  exact ⟨a, e1, seq_t e h1⟩
theorem CmdsOf.same {K : PySem.W.Frag} {H H' : Hp} {xs : List V} {cs : List Cmd} (e : Same H H') (h : CmdsOf K H xs cs) : CmdsOf K H' xs cs := Paired.mapP h fun _ _ q => q.same e
theorem CmdsOf.len {K : PySem.W.Frag} {H : Hp} {xs : List V} {cs : List Cmd} (h : CmdsOf K H xs cs) : xs.length = cs.length := Paired.length h
theorem paired_at {α β : Type} {F : α → β → Prop} : ∀ {xs : List α} {ys : List β} {i : Nat} {x : α}, Paired F xs ys → xs[i]? = some x → ∃ y, ys[i]? = some y ∧ F x y
  | _, _, _, _, .nil, h => by simp at h
  | _, _, 0, x, .cons f _, h => by
    obtain rfl := Option.some.inj h
    exact ⟨_, rfl, f⟩
  | _, _, i + 1, x, .cons _ t, h => paired_at (i := i) t h
/-! ### dicts of ints by ints -/
theorem valV_dkI : ∀ (b : Ps) (k : Int), valV (dkI b) (Sum.inl k : L2.Key) = (look b k).map V.int
  | [], k => rfl
  | q :: b, k => by
    show valV (((Sum.inl q.1 : L2.Key), V.int q.2) :: dkI b) (Sum.inl k : L2.Key) = _
    rw [look_cons]
    by_cases h : q.1 = k
    · rw [if_pos h, valV_pos (by show (Sum.inl q.1 : L2.Key) = Sum.inl k; rw [h])]
      rfl
    · rw [if_neg h, valV_neg (by intro z; exact h (Sum.inl.inj z))]
      exact valV_dkI b k
theorem putK_dkI (b : Ps) (k v : Int) : putK (dkI b) (Sum.inl k : L2.Key) (V.int v) = dkI (put b k v) := by
  have ea : ((dkI b).any fun kv => decide (kv.1 = (Sum.inl k : L2.Key))) = b.any fun q => decide (q.1 = k) := by
    unfold dkI
    rw [List.any_map]
    congr 1
    funext q
    show decide ((Sum.inl q.1 : L2.Key) = Sum.inl k) = decide (q.1 = k)
    exact decide_eq_decide.mpr ⟨Sum.inl.inj, fun h => by rw [h]⟩
  unfold putK put
  rw [ea]
  by_cases h : (b.any fun q => decide (q.1 = k)) = true
  · rw [if_pos h, if_pos h]
    unfold dkI
    rw [List.map_map, List.map_map]
    refine List.map_congr_left fun q _ => ?_
    show (if (Sum.inl q.1 : L2.Key) = Sum.inl k then ((Sum.inl q.1 : L2.Key), V.int v) else (Sum.inl q.1, V.int q.2)) = (Sum.inl (if q.1 = k then (q.1, v) else q).1, V.int (if q.1 = k then (q.1, v) else q).2)
    by_cases e : q.1 = k
    · rw [if_pos e, if_pos (by rw [e])]
    · rw [if_neg e, if_neg fun z => e (Sum.inl.inj z)]
  · rw [if_neg h, if_neg h]
    unfold dkI
    rw [List.map_append]
    rfl
theorem put_len (b : Ps) (k v : Int) : (put b k v).length ≤ b.length + 1 := by
  unfold put
  split
  · rw [List.length_map]
    exact Nat.le_succ _
  · rw [List.length_append]
    exact Nat.le_refl _
theorem req_len (b : Ps) (o v : Int) : (req b o v).length ≤ b.length + 1 := put_len b o _
end Gc

/-! running commands over plain texts: the goal is reached exactly if the box is fulfilled -/
namespace Gc
def seen (t : Int) : Option Int → Int
  | none => t
  | some a => min a t
/-- the goal of the cursor after one command in a row of length t -/
def aim1 (t : Int) (a : Option Int) : Cmd → Option Int
  | .down _ => a
  | .up _ => a
  | .right n => some (min (seen t a + n) t)
  | .left n => some (max 0 (seen t a - n))
  | .home => some 0
  | .stop => none
def aimF (T : Int → Int) : Int → Option Int → List Cmd → Option Int
  | _, a, [] => a
  | r, a, c :: cs => aimF T (r + c.dv) (aim1 (T r) a c) cs
theorem aimF_app (T : Int → Int) : ∀ (xs ys : List Cmd) (r : Int) (a : Option Int), aimF T r a (xs ++ ys) = aimF T (r + last xs) (aimF T r a xs) ys
  | [], ys, r, a => by
    show aimF T r a ys = aimF T (r + 0) a ys
    rw [Int.add_zero]
  | c :: xs, ys, r, a => by
    show aimF T (r + c.dv) (aim1 (T r) a c) (xs ++ ys) = aimF T (r + (c.dv + last xs)) _ ys
    rw [aimF_app T xs ys, Int.add_assoc]
    rfl
theorem aimF_snoc (T : Int → Int) (cs : List Cmd) (c : Cmd) (r : Int) (a : Option Int) : aimF T r a (cs ++ [c]) = aim1 (T (r + last cs)) (aimF T r a cs) c := aimF_app T cs [c] r a
def ge (a : Option Int) (n : Int) : Prop := ∀ x, a = some x → n ≤ x
theorem ge_none (n : Int) : ge none n := fun _ h => nomatch h
theorem ge_some {x n : Int} : ge (some x) n ↔ n ≤ x := ⟨fun h => h x rfl, fun h y e => by rw [← Option.some.inj e]; exact h⟩
theorem seen_ge {t n : Int} {a : Option Int} : n ≤ seen t a ↔ n ≤ t ∧ ge a n := by
  cases a with
  | none => exact ⟨fun h => ⟨h, ge_none n⟩, fun h => h.1⟩
  | some x =>
    rw [ge_some]
    show n ≤ min x t ↔ _
    omega
theorem aim1_nn {t : Int} {a : Option Int} {c : Cmd} (ht : 0 ≤ t) (ha : ge a 0) (ok : c.ok) : ge (aim1 t a c) 0 := by
  have hs : 0 ≤ seen t a := seen_ge.mpr ⟨ht, ha⟩
  cases c with
  | down n => exact ha
  | up n => exact ha
  | right n =>
    have o : 1 ≤ n := ok
    refine ge_some.mpr ?_
    omega
  | left n =>
    refine ge_some.mpr ?_
    omega
  | home => exact ge_some.mpr (Int.le_refl 0)
  | stop => exact ge_none 0
theorem aimF_nn {T : Int → Int} (hT : ∀ k, 0 ≤ T k) : ∀ {cs : List Cmd} {r : Int} {a : Option Int}, AllOk cs → ge a 0 → ge (aimF T r a cs) 0
  | [], _, _, _, h => h
  | c :: cs, r, a, ok, h => aimF_nn hT (cs := cs) (fun d hd => ok d (List.mem_cons_of_mem _ hd)) (aim1_nn (hT r) h (ok c List.mem_cons_self))
theorem last_snoc (cs : List Cmd) (c : Cmd) : last (cs ++ [c]) = last cs + c.dv := by
  rw [last_app]
  show _ + (c.dv + 0) = _
  omega
theorem reqF_le {f : Int → Int} {o v : Int} {T : Int → Int} {r : Int} : (∀ k, reqF f o v k ≤ T (r + k)) ↔ (∀ k, f k ≤ T (r + k)) ∧ v ≤ T (r + o) := by
  constructor
  · intro h
    refine ⟨fun k => Int.le_trans (reqF_ge f o v k) (h k), ?_⟩
    have := h o
    unfold reqF at this
    rw [if_pos rfl] at this
    omega
  · rintro ⟨h1, h2⟩ k
    unfold reqF
    have := h1 k
    split
    · rename_i e
      subst e
      omega
    · exact this
/-- the box's walk, and the run -/
theorem go_char {T : Int → Int} (hT : ∀ k, 0 ≤ T k) {r : Int} {a : Option Int} (ha : ge a 0) : ∀ (rs : List Cmd) (need : Int) (f : Int → Int), AllOk rs → 1 ≤ need →
    ((∃ st g, goF rs (last rs.reverse) need f = some (st, g) ∧ (∀ n, st = some n → ge a n) ∧ ∀ k, g k ≤ T (r + k)) ↔ (∀ k, f k ≤ T (r + k)) ∧ ge (aimF T r a rs.reverse) need)
  | [], need, f, _, _ => by
    constructor
    · rintro ⟨st, g, e, h1, h2⟩
      cases e
      exact ⟨h2, h1 need rfl⟩
    · rintro ⟨h1, h2⟩
      exact ⟨_, _, rfl, fun n e => by rw [← Option.some.inj e]; exact h2, h1⟩
  | .home :: rs, need, f, ok, hn => by
    rw [List.reverse_cons, aimF_snoc]
    constructor
    · rintro ⟨st, g, e, _⟩
      cases e
    · rintro ⟨_, h2⟩
      have : need ≤ 0 := ge_some.mp h2
      omega
  | .stop :: rs, need, f, ok, hn => by
    rw [List.reverse_cons, aimF_snoc]
    constructor
    · rintro ⟨st, g, e, _, h2⟩
      cases e
      exact ⟨h2, ge_none _⟩
    · rintro ⟨h1, _⟩
      exact ⟨_, _, rfl, (fun n e => nomatch e), h1⟩
  | .down n :: rs, need, f, ok, hn => by
    rw [List.reverse_cons, aimF_snoc, last_snoc]
    have ih := go_char hT (r := r) ha rs need f (fun d hd => ok d (List.mem_cons_of_mem _ hd)) hn
    have e : last rs.reverse + (Cmd.down n).dv - n = last rs.reverse := by
      show last rs.reverse + n - n = _
      omega
    simp only [goF]
    rw [e]
    exact ih
  | .up n :: rs, need, f, ok, hn => by
    rw [List.reverse_cons, aimF_snoc, last_snoc]
    have ih := go_char hT (r := r) ha rs need f (fun d hd => ok d (List.mem_cons_of_mem _ hd)) hn
    have e : last rs.reverse + (Cmd.up n).dv + n = last rs.reverse := by
      show last rs.reverse + -n + n = _
      omega
    simp only [goF]
    rw [e]
    exact ih
  | .left n :: rs, need, f, ok, hn => by
    have o : 1 ≤ n := ok _ List.mem_cons_self
    rw [List.reverse_cons, aimF_snoc, last_snoc]
    have ih := go_char hT (r := r) ha rs (need + n) (reqF f (last rs.reverse) (need + n)) (fun d hd => ok d (List.mem_cons_of_mem _ hd)) (by omega)
    have e : last rs.reverse + (Cmd.left n).dv = last rs.reverse := Int.add_zero _
    simp only [goF]
    rw [e, ih, reqF_le]
    have s : ge (aim1 (T (r + last rs.reverse)) (aimF T r a rs.reverse) (.left n)) need ↔ need + n ≤ T (r + last rs.reverse) ∧ ge (aimF T r a rs.reverse) (need + n) := by
      rw [← seen_ge]
      show ge (some _) need ↔ _
      rw [ge_some]
      omega
    rw [s]
    exact ⟨fun h => ⟨h.1.1, h.1.2, h.2⟩, fun h => ⟨⟨h.1, h.2.1⟩, h.2.2⟩⟩
  | .right n :: rs, need, f, ok, hn => by
    have o : 1 ≤ n := ok _ List.mem_cons_self
    have okr : AllOk rs := fun d hd => ok d (List.mem_cons_of_mem _ hd)
    rw [List.reverse_cons, aimF_snoc, last_snoc]
    have e : last rs.reverse + (Cmd.right n).dv = last rs.reverse := Int.add_zero _
    have nn : 0 ≤ seen (T (r + last rs.reverse)) (aimF T r a rs.reverse) := seen_ge.mpr ⟨hT _, aimF_nn hT (fun d hd => okr d (List.mem_reverse.mp hd)) ha⟩
    simp only [goF]
    rw [e]
    have s : ge (aim1 (T (r + last rs.reverse)) (aimF T r a rs.reverse) (.right n)) need ↔ need ≤ T (r + last rs.reverse) ∧ need - n ≤ seen (T (r + last rs.reverse)) (aimF T r a rs.reverse) := by
      show ge (some _) need ↔ _
      rw [ge_some]
      omega
    rw [s]
    by_cases c : need > n
    · rw [if_pos c]
      have ih := go_char hT (r := r) ha rs (need - n) (reqF f (last rs.reverse) need) okr (by omega)
      rw [ih, reqF_le, seen_ge]
      exact ⟨fun h => ⟨h.1.1, h.1.2, by omega, h.2⟩, fun h => ⟨⟨h.1, h.2.1⟩, h.2.2.2⟩⟩
    · rw [if_neg c]
      constructor
      · rintro ⟨st, g, e, _, h2⟩
        cases e
        have h3 := reqF_le.mp h2
        exact ⟨h3.1, h3.2, by omega⟩
      · rintro ⟨h1, h2, _⟩
        exact ⟨_, _, rfl, (fun n e => nomatch e), reqF_le.mpr ⟨h1, h2⟩⟩
/-- the goal is reached exactly if the start fulfils the box -/
theorem box_char {T : Int → Int} (hT : ∀ k, 0 ≤ T k) {r : Int} {a : Option Int} (ha : ge a 0) {cs : List Cmd} {goal : Int} (ok : AllOk cs) (hg : 1 ≤ goal) :
    ge (aimF T r a cs) goal ↔ ∃ st L, boxM cs goal = some (st, L) ∧ (∀ n, st = some n → ge a n) ∧ ∀ k, val L k ≤ T (r + k) := by
  have h := go_char hT (r := r) ha cs.reverse goal (fun _ => 0) (allOk_rev ok) hg
  rw [List.reverse_reverse] at h
  have h0 : (∀ k : Int, (fun _ : Int => (0 : Int)) k ≤ T (r + k)) := fun k => hT _
  have h' : (∃ st g, boxF cs goal = some (st, g) ∧ (∀ n, st = some n → ge a n) ∧ ∀ k, g k ≤ T (r + k)) ↔ ge (aimF T r a cs) goal := h.trans ⟨fun x => x.2, fun x => ⟨h0, x⟩⟩
  rw [← h']
  rcases box_spec ok hg with ⟨e1, e2⟩ | ⟨st, b, e1, gb, e2, _⟩
  · rw [e1, e2]
    constructor
    · rintro ⟨_, _, z, _⟩
      cases z
    · rintro ⟨_, _, z, _⟩
      cases z
  · rw [e1, e2]
    have vp := val_perm gb (List.mergeSort_perm b leK)
    constructor
    · rintro ⟨st', g, z, h1, h2⟩
      cases z
      exact ⟨_, _, rfl, h1, fun k => by rw [vp]; exact h2 k⟩
    · rintro ⟨st', L, z, h1, h2⟩
      cases z
      exact ⟨_, _, rfl, h1, fun k => by rw [← vp]; exact h2 k⟩
end Gc

/-! rows that are visited; the least text -/
namespace Gc
def Within (cs : List Cmd) (lo hi : Int) : Prop := ∀ i, lo ≤ last (cs.take i) ∧ last (cs.take i) ≤ hi
theorem Within.tail {c : Cmd} {cs : List Cmd} {lo hi : Int} (h : Within (c :: cs) lo hi) : Within cs (lo - c.dv) (hi - c.dv) := fun i => by
  have q := h (i + 1)
  have e : last ((c :: cs).take (i + 1)) = c.dv + last (cs.take i) := rfl
  rw [e] at q
  omega
theorem Within.init {cs : List Cmd} {c : Cmd} {lo hi : Int} (h : Within (cs ++ [c]) lo hi) : Within cs lo hi := fun i => by
  by_cases l : i ≤ cs.length
  · have q := h i
    rw [List.take_append_of_le_length l] at q
    exact q
  · have q := h cs.length
    rw [List.take_append_of_le_length (Nat.le_refl _)] at q
    rw [List.take_of_length_le (by omega)]
    rw [List.take_length] at q
    exact q
theorem Within.whole {cs : List Cmd} {lo hi : Int} (h : Within cs lo hi) : lo ≤ last cs ∧ last cs ≤ hi := by
  have q := h cs.length
  rw [List.take_length] at q
  exact q
theorem Within.zero {cs : List Cmd} {lo hi : Int} (h : Within cs lo hi) : lo ≤ 0 ∧ 0 ≤ hi := h 0
theorem keys_req' {b : Ps} {o v k : Int} (h : k ∈ keys (req b o v)) : k = o ∨ k ∈ keys b := by
  unfold req at h
  rw [keys_put] at h
  split at h
  · exact .inr h
  · rcases List.mem_append.mp h with q | q
    · exact .inr q
    · exact .inl (List.mem_singleton.mp q)
/-- the offsets of a box are rows that are visited -/
theorem go_within {lo hi : Int} : ∀ {rs : List Cmd} {need : Int} {b : Ps} {st : Option Int} {b' : Ps}, go rs (last rs.reverse) need b = some (st, b') → Within rs.reverse lo hi → (∀ k ∈ keys b, lo ≤ k ∧ k ≤ hi) → ∀ k ∈ keys b', lo ≤ k ∧ k ≤ hi
  | [], need, b, st, b', h, _, hb => by cases h; exact hb
  | .home :: rs, need, b, st, b', h, _, _ => by cases h
  | .stop :: rs, need, b, st, b', h, _, hb => by cases h; exact hb
  | .down n :: rs, need, b, st, b', h, w, hb => by
    rw [List.reverse_cons] at h w
    rw [last_snoc] at h
    have e : last rs.reverse + (Cmd.down n).dv - n = last rs.reverse := by
      show last rs.reverse + n - n = _
      omega
    simp only [go] at h
    rw [e] at h
    exact go_within h w.init hb
  | .up n :: rs, need, b, st, b', h, w, hb => by
    rw [List.reverse_cons] at h w
    rw [last_snoc] at h
    have e : last rs.reverse + (Cmd.up n).dv + n = last rs.reverse := by
      show last rs.reverse + -n + n = _
      omega
    simp only [go] at h
    rw [e] at h
    exact go_within h w.init hb
  | .left n :: rs, need, b, st, b', h, w, hb => by
    rw [List.reverse_cons] at h w
    rw [last_snoc, show last rs.reverse + (Cmd.left n).dv = last rs.reverse from Int.add_zero _] at h
    simp only [go] at h
    refine go_within h w.init fun k hk => ?_
    rcases keys_req' hk with q | q
    · rw [q]
      exact w.init.whole
    · exact hb k q
  | .right n :: rs, need, b, st, b', h, w, hb => by
    rw [List.reverse_cons] at h w
    rw [last_snoc, show last rs.reverse + (Cmd.right n).dv = last rs.reverse from Int.add_zero _] at h
    have hr : ∀ k ∈ keys (req b (last rs.reverse) need), lo ≤ k ∧ k ≤ hi := fun k hk => by
      rcases keys_req' hk with q | q
      · rw [q]
        exact w.init.whole
      · exact hb k q
    simp only [go] at h
    split at h
    · exact go_within h w.init hr
    · cases h
      exact hr
theorem box_within {lo hi : Int} {cs : List Cmd} {goal : Int} {st : Option Int} {L : Ps} (h : boxM cs goal = some (st, L)) (w : Within cs lo hi) : ∀ q ∈ L, lo ≤ q.1 ∧ q.1 ≤ hi := by
  unfold boxM at h
  cases e : go cs.reverse (last cs) goal [] with
  | none =>
    rw [e] at h
    cases h
  | some x =>
    rw [e] at h
    obtain ⟨st', b'⟩ := x
    have h' : (st', b'.mergeSort leK) = (st, L) := Option.some.inj h
    cases h'
    have k := go_within (rs := cs.reverse) (lo := lo) (hi := hi) (by rw [List.reverse_reverse]; exact e) (by rw [List.reverse_reverse]; exact w) (fun k hk => by cases hk)
    intro q hq
    exact k q.1 (List.mem_map.mpr ⟨q, (List.mergeSort_perm b' leK).mem_iff.mp hq, rfl⟩)
/-! ### a text from a box -/
def setAll (lo : Int) (T : List Int) (L : Ps) : List Int := L.foldl (fun T q => T.set (q.1 - lo).toNat q.2) T
theorem setAll_len (lo : Int) : ∀ (L : Ps) (T : List Int), (setAll lo T L).length = T.length
  | [], _ => rfl
  | q :: L, T => by
    show (setAll lo (T.set (q.1 - lo).toNat q.2) L).length = _
    rw [setAll_len lo L, List.length_set]
theorem setAll_get {lo : Int} : ∀ {L : Ps} {T : List Int} {k : Int}, (keys L).Nodup → (∀ q ∈ L, lo ≤ q.1 ∧ q.1 - lo < T.length) → lo ≤ k → k - lo < T.length →
    (setAll lo T L).getD (k - lo).toNat 0 = match look L k with | some v => v | none => T.getD (k - lo).toNat 0
  | [], T, k, _, _, _, _ => rfl
  | q :: L, T, k, nd, hq, h0, h1 => by
    have nd' : q.1 ∉ keys L ∧ (keys L).Nodup := List.nodup_cons.mp nd
    have q0 := hq q List.mem_cons_self
    show (setAll lo (T.set (q.1 - lo).toNat q.2) L).getD (k - lo).toNat 0 = _
    rw [setAll_get (L := L) nd'.2 (fun p hp => by rw [List.length_set]; exact hq p (List.mem_cons_of_mem _ hp)) h0 (by rw [List.length_set]; exact h1), look_cons]
    by_cases e : q.1 = k
    · subst e
      rw [if_pos rfl, look_none.mpr nd'.1]
      show (T.set (q.1 - lo).toNat q.2).getD (q.1 - lo).toNat 0 = q.2
      rw [List.getD_eq_getElem?_getD, List.getElem?_set_self (by omega)]
      rfl
    · rw [if_neg e]
      cases look L k with
      | some v => rfl
      | none =>
        show (T.set (q.1 - lo).toNat q.2).getD (k - lo).toNat 0 = T.getD (k - lo).toNat 0
        rw [List.getD_eq_getElem?_getD, List.getD_eq_getElem?_getD, List.getElem?_set_ne (by omega)]
/-! ### the run over a list of lengths -/
def lenAt (T : List Int) (r : Int) : Int := T.getD r.toNat 0
/-- the run over a text: the row must stand -/
def afterL (T : List Int) : Int → Option Int → List Cmd → Option (Int × Option Int)
  | r, a, [] => some (r, a)
  | r, a, c :: cs => if c.vert = true then (if 0 ≤ r + c.dv ∧ r + c.dv < T.length then afterL T (r + c.dv) a cs else none) else afterL T r (aim1 (lenAt T r) a c) cs
theorem Within.le {cs : List Cmd} {lo hi lo' hi' : Int} (h : Within cs lo hi) (h1 : lo' ≤ lo) (h2 : hi ≤ hi') : Within cs lo' hi' := fun i => by
  have := h i
  omega
theorem afterL_in {T : List Int} : ∀ {cs : List Cmd} {r : Int} {a : Option Int}, Within cs (-r) (T.length - 1 - r) → afterL T r a cs = some (r + last cs, aimF (lenAt T) r a cs)
  | [], r, a, _ => by
    show some (r, a) = some (r + 0, a)
    rw [Int.add_zero]
  | c :: cs, r, a, w => by
    have w1 := w 1
    have e1 : last ((c :: cs).take 1) = c.dv + 0 := rfl
    rw [e1] at w1
    have wt : Within cs (-(r + c.dv)) (T.length - 1 - (r + c.dv)) := w.tail.le (by omega) (by omega)
    have ih := afterL_in (a := aim1 (lenAt T r) a c) wt
    have el : last (c :: cs) = c.dv + last cs := rfl
    have ea : aimF (lenAt T) r a (c :: cs) = aimF (lenAt T) (r + c.dv) (aim1 (lenAt T r) a c) cs := rfl
    rw [ea, el, ← Int.add_assoc]
    by_cases v : c.vert = true
    · have ia : aim1 (lenAt T r) a c = a := by
        cases c with
        | down n => rfl
        | up n => rfl
        | right n => cases v
        | left n => cases v
        | home => cases v
        | stop => cases v
      rw [ia] at ih ⊢
      simp only [afterL]
      rw [if_pos v, if_pos ⟨by omega, by omega⟩, ih]
    · have d0 : c.dv = 0 := by
        cases c with
        | down n => exact absurd rfl v
        | up n => exact absurd rfl v
        | right n => rfl
        | left n => rfl
        | home => rfl
        | stop => rfl
      simp only [afterL]
      rw [if_neg v]
      rw [d0, Int.add_zero] at ih ⊢
      exact ih
theorem lenAt_nn {T : List Int} (h : ∀ x ∈ T, 0 ≤ x) (r : Int) : 0 ≤ lenAt T r := by
  unfold lenAt
  rw [List.getD_eq_getElem?_getD]
  cases e : T[r.toNat]? with
  | none => exact Int.le_refl 0
  | some x => exact h x (List.mem_of_getElem? e)
/-- over a text whose rows are all there: the goal is reached exactly if the box is fulfilled -/
theorem after_char {T : List Int} (hT : ∀ x ∈ T, 0 ≤ x) {r : Int} {a : Option Int} (ha : ge a 0) {cs : List Cmd} {goal : Int} (ok : AllOk cs) (hg : 1 ≤ goal) (w : Within cs (-r) (T.length - 1 - r)) :
    ∃ a', afterL T r a cs = some (r + last cs, a') ∧ ge a' 0 ∧ (ge a' goal ↔ ∃ st L, boxM cs goal = some (st, L) ∧ (∀ n, st = some n → ge a n) ∧ ∀ k, val L k ≤ lenAt T (r + k)) :=
  ⟨_, afterL_in w, aimF_nn (lenAt_nn hT) ok ha, box_char (lenAt_nn hT) ha ok hg⟩
/-! ### the least text -/
def textM (lo hi : Int) (L : Ps) : List Int := setAll lo (List.replicate (hi - lo + 1).toNat 0) L
theorem textM_len {lo hi : Int} (h : lo ≤ hi) (L : Ps) : ((textM lo hi L).length : Int) = hi - lo + 1 := by
  unfold textM
  rw [setAll_len, List.length_replicate]
  omega
theorem textM_at {lo hi : Int} {L : Ps} (g : Good L) (hL : ∀ q ∈ L, lo ≤ q.1 ∧ q.1 ≤ hi) {k : Int} (h0 : lo ≤ k) (h1 : k ≤ hi) : lenAt (textM lo hi L) (k - lo) = val L k := by
  unfold lenAt textM
  have hr : ((List.replicate (hi - lo + 1).toNat (0 : Int)).length : Int) = hi - lo + 1 := by
    rw [List.length_replicate]
    omega
  rw [setAll_get g.nd (fun q hq => by have := hL q hq; omega) h0 (by omega)]
  unfold val
  cases look L k with
  | some v => rfl
  | none =>
    show (List.replicate _ (0 : Int)).getD _ 0 = 0
    rw [List.getD_eq_getElem?_getD, List.getElem?_replicate]
    split <;> rfl
theorem val_off {lo hi : Int} {L : Ps} (hL : ∀ q ∈ L, lo ≤ q.1 ∧ q.1 ≤ hi) {k : Int} (h : ¬ (lo ≤ k ∧ k ≤ hi)) : val L k = 0 := by
  refine val_out fun z => ?_
  obtain ⟨q, hq, e⟩ := List.mem_map.mp z
  rw [← e] at h
  exact h (hL q hq)
theorem textM_nn {lo hi : Int} {L : Ps} (g : Good L) (hL : ∀ q ∈ L, lo ≤ q.1 ∧ q.1 ≤ hi) : ∀ x ∈ textM lo hi L, 0 ≤ x := by
  intro x hx
  obtain ⟨i, hi'⟩ := List.mem_iff_getElem?.mp hx
  have l := (List.getElem?_eq_some_iff.mp hi').1
  have l2 : (textM lo hi L).length = (hi - lo + 1).toNat := by
    unfold textM
    rw [setAll_len, List.length_replicate]
  have e := textM_at g hL (k := i + lo) (by omega) (by omega)
  unfold lenAt at e
  rw [show ((i : Int) + lo - lo).toNat = i by omega, List.getD_eq_getElem?_getD, hi'] at e
  have e' : x = val L (i + lo) := e
  rw [e']
  exact val_nonneg g _
section
variable {cs : List Cmd} {goal lo hi : Int} {st : Option Int} {L : Ps}
/-- from it, and just its goal, the goal is reached -/
theorem least_gets (g : Good L) (w : Within cs lo hi) (ok : AllOk cs) (hg : 1 ≤ goal) (e : boxM cs goal = some (st, L)) (pos : ∀ n, st = some n → 1 ≤ n) :
    ∃ a', afterL (textM lo hi L) (-lo) (some (st.getD 0)) cs = some (-lo + last cs, a') ∧ ge a' goal := by
  have hL := box_within e w
  have z := w.zero
  have tl := textM_len (lo := lo) (hi := hi) (by omega) L
  have a0 : ge (some (st.getD 0)) 0 := ge_some.mpr (by
    cases st with
    | none => exact Int.le_refl 0
    | some n =>
      have := pos n rfl
      show 0 ≤ n
      omega)
  obtain ⟨a', h1, _, h2⟩ := after_char (textM_nn g hL) a0 ok hg (w.le (show -(-lo) ≤ lo by omega) (show hi ≤ (textM lo hi L).length - 1 - (-lo) by omega))
  refine ⟨a', h1, h2.mpr ⟨st, L, e, fun n en => ge_some.mpr (by rw [en]; exact Int.le_refl n), fun k => ?_⟩⟩
  by_cases h : lo ≤ k ∧ k ≤ hi
  · rw [show -lo + k = k - lo by omega, textM_at g hL h.1 h.2]
    exact Int.le_refl _
  · rw [val_off hL h]
    exact lenAt_nn (textM_nn g hL) _
/-- with a goal less by one it is not -/
theorem least_goal (g : Good L) (w : Within cs lo hi) (ok : AllOk cs) (hg : 1 ≤ goal) (e : boxM cs goal = some (st, L)) {n : Int} (es : st = some n) (hn : 1 ≤ n) :
    ∃ a', afterL (textM lo hi L) (-lo) (some (n - 1)) cs = some (-lo + last cs, a') ∧ ¬ ge a' goal := by
  have hL := box_within e w
  have z := w.zero
  have tl := textM_len (lo := lo) (hi := hi) (by omega) L
  obtain ⟨a', h1, _, h2⟩ := after_char (textM_nn g hL) (ge_some.mpr (show 0 ≤ n - 1 by omega)) ok hg (w.le (show -(-lo) ≤ lo by omega) (show hi ≤ (textM lo hi L).length - 1 - (-lo) by omega))
  refine ⟨a', h1, fun x => ?_⟩
  obtain ⟨st', L', e', h3, _⟩ := h2.mp x
  rw [e] at e'
  cases e'
  have := ge_some.mp (h3 n es)
  omega
/-- with a length less by one it is not -/
theorem least_row (g : Good L) (w : Within cs lo hi) (ok : AllOk cs) (hg : 1 ≤ goal) (e : boxM cs goal = some (st, L)) (pos : ∀ n, st = some n → 1 ≤ n) {i : Nat} (li : i < (textM lo hi L).length) (h : 0 < lenAt (textM lo hi L) i) :
    ∃ a', afterL ((textM lo hi L).set i (lenAt (textM lo hi L) i - 1)) (-lo) (some (st.getD 0)) cs = some (-lo + last cs, a') ∧ ¬ ge a' goal := by
  have hL := box_within e w
  have z := w.zero
  have tl := textM_len (lo := lo) (hi := hi) (by omega) L
  have a0 : ge (some (st.getD 0)) 0 := ge_some.mpr (by
    cases st with
    | none => exact Int.le_refl 0
    | some n =>
      have := pos n rfl
      show 0 ≤ n
      omega)
  have nn : ∀ x ∈ (textM lo hi L).set i (lenAt (textM lo hi L) i - 1), 0 ≤ x := fun x hx => by
    rcases List.mem_or_eq_of_mem_set hx with q | q
    · exact textM_nn g hL x q
    · omega
  obtain ⟨a', h1, _, h2⟩ := after_char (r := -lo) nn a0 ok hg (w.le (show -(-lo) ≤ lo by omega) (by rw [List.length_set]; omega))
  refine ⟨a', h1, fun x => ?_⟩
  obtain ⟨st', L', e', _, h4⟩ := h2.mp x
  rw [e] at e'
  cases e'
  have q := h4 (i + lo)
  rw [show -lo + (i + lo) = (i : Int) by omega] at q
  have ev := textM_at g hL (k := i + lo) (by omega) (by omega)
  rw [show (i : Int) + lo - lo = i by omega] at ev
  rw [← ev] at q
  have es : lenAt ((textM lo hi L).set i (lenAt (textM lo hi L) i - 1)) i = lenAt (textM lo hi L) i - 1 := by
    conv => lhs; unfold lenAt
    rw [Int.toNat_natCast, List.getD_eq_getElem?_getD, List.getElem?_set_self li]
    rfl
  rw [es] at q
  omega
end
end Gc

/-! heaps, lengths of boxes, dicts out of pairs -/
namespace Gc
open PySem L2
theorem same_freeU {H H' : Hp} {d : Addr} {o : HO} (e : Same H H') (h : H d = none) : Same H (upd H' d o) := fun b u hb => by
  rw [upd_ne (ne_of_none hb h)]
  exact e b u hb
theorem go_len : ∀ {r : List Cmd} {off need : Int} {b : Ps} {st : Option Int} {b' : Ps}, go r off need b = some (st, b') → b'.length ≤ b.length + r.length
  | [], _, _, b, _, _, h => by cases h; exact Nat.le_refl _
  | .home :: r, _, _, b, _, _, h => by cases h
  | .stop :: r, _, _, b, _, _, h => by cases h; exact Nat.le_add_right _ _
  | .right n :: r, off, need, b, st, b', h => by
    have q := req_len b off need
    rw [List.length_cons]
    simp only [go] at h
    split at h
    · have := go_len h
      omega
    · cases h
      omega
  | .left n :: r, off, need, b, st, b', h => by
    have q := req_len b off (need + n)
    rw [List.length_cons]
    simp only [go] at h
    have := go_len h
    omega
  | .down n :: r, off, need, b, st, b', h => by
    rw [List.length_cons]
    simp only [go] at h
    have := go_len h
    omega
  | .up n :: r, off, need, b, st, b', h => by
    rw [List.length_cons]
    simp only [go] at h
    have := go_len h
    omega
theorem box_len {cs : List Cmd} {goal : Int} {st : Option Int} {L : Ps} (h : boxM cs goal = some (st, L)) : L.length ≤ cs.length := by
  unfold boxM at h
  cases e : go cs.reverse (last cs) goal [] with
  | none =>
    rw [e] at h
    cases h
  | some x =>
    rw [e] at h
    obtain ⟨st', b'⟩ := x
    have q := go_len e
    have h' : (st', b'.mergeSort leK) = (st, L) := Option.some.inj h
    cases h'
    rw [List.length_mergeSort]
    rw [List.length_reverse, List.length_nil] at q
    omega
theorem merge_dkI : ∀ (b acc : Ps), (keys acc ++ keys b).Nodup → mergeK (dkI acc) (dkI b) = dkI (acc ++ b)
  | [], acc, _ => by rw [List.append_nil]; rfl
  | q :: b, acc, h => by
    have nq : q.1 ∉ keys acc := fun z => by
      have := (List.nodup_append.mp h).2.2 q.1 z q.1 List.mem_cons_self
      exact this rfl
    show mergeK (putK (dkI acc) (Sum.inl q.1 : L2.Key) (.int q.2)) (dkI b) = _
    rw [putK_dkI]
    have e : put acc q.1 q.2 = acc ++ [q] := by
      unfold put
      rw [if_neg fun z => nq ((any_key acc q.1).mp z)]
    rw [e, merge_dkI b (acc ++ [q]) (by
      have e2 : keys (acc ++ [q]) ++ keys b = keys acc ++ keys (q :: b) := by
        unfold keys
        simp
      rw [e2]
      exact h), List.append_assoc]
    rfl
theorem paired_dkI {K : PySem.W.Frag} {H : Hp} : ∀ {ps : List Addr} {qs : Ps}, Paired (fun (p : Addr) (q : Int × Int) => H p = some (.tup [.int q.1, .int q.2])) ps qs → Paired (fun (p : Addr) (kv : L2.Key × V) => SqT K H p [kV kv.1, kv.2]) ps (dkI qs)
  | _, _, .nil => .nil
  | _, _, .cons h t => .cons (SqT.of h) (paired_dkI t)
theorem ref_at {ts : List Addr} {i : Nat} {x : V} (h : (ts.map V.ref)[i]? = some x) : ∃ t, ts[i]? = some t ∧ x = .ref t := by
  rw [List.getElem?_map] at h
  cases e : ts[i]? with
  | none =>
    rw [e] at h
    cases h
  | some t =>
    rw [e] at h
    exact ⟨t, rfl, (Option.some.inj h).symm⟩
theorem dki_len (b : Ps) : (dkI b).length = b.length := List.length_map ..
end Gc

/-! calls by names alone, the names in the other order: f(b=.., a=..) of def f(a, b) -/
namespace Gc
open PySem PySem.Spec PyProof.Rows L2
def gRev {α : Type} (us ws : List α) : List α := us ++ ws.reverse
theorem vals_rev : ∀ {vs : List V} {us : List Value}, Vals vs us → Vals vs.reverse us.reverse
  | _, _, .nil => .nil
  | v :: vs, u :: us, .cons h t => by
    rw [List.reverse_cons, List.reverse_cons]
    exact (vals_rev t).append (.cons h .nil)
structure CalK (P : Program) (w : World) (K : PySem.W.Frag) (mg : Str → Option Value) (base : Heap) (k : Nat) (x : Str) (ks : List Str) (sp : Sp) : Prop where
  ex : ∃ (f : Addr) (fd : FuncData) (ps : List Str), FnOk P w K mg base CX0 k f fd ps sp ∧ mg x = some (.ref f) ∧ PySem.W.keepIn K (.ref f) = true ∧ KBinds K fd ps ks gRev gRev
/-- how it binds: h is «fun _ _ _ _ _ _ us ws hl => match us, ws, hl with | [], [_, _], _ => rfl | [_], [_], _ => rfl | [_, _], [], _ => rfl» -/
theorem bindsK {K : PySem.W.Frag} {x qual : Str} {st : Stmt} {f : Addr} {fd : FuncData} {ps ks : List Str} (F : Fun K x qual st f fd)
    (h : ∀ (kV doc pm : Value) (an : Option Addr) (cdv ct : Value) (us ws : List Value), (gRev us ws).length = ps.length → bindArgs (PySem.W.fnOf x qual (defArgs st) (defBody st) (defScope st) .none kV doc pm an cdv ct) ⟨us, ks.zip ws⟩ = pure (ps.zip (gRev us ws))) : KBinds K fd ps ks gRev gRev := by
  obtain ⟨oc, od, kV, doc, pm, an, cdv, ct, osl, rfl, lk, hcd⟩ := F.ex
  exact ⟨fun s us ws _ hl => .of_eq (h kV doc pm an cdv ct us ws hl), fun a b => a.append (vals_rev b)⟩
theorem pe_calK {X : Cx} {k j : Nat} {x : Str} {ks : List Str} {sp : Sp} {p pos : Pos} {kws : List Keyword} {tk : TA} (c : CalK X.prog X.w X.K X.mg X.base k x ks sp) (hr : Room j X.A) (hk : k ≤ j) (hg : Gl X x) (hkw : PK X kws tk)
    (hdb : (x == ("__debug__" : Str)) = false := by decide) (hall : (backToKw pos (keywordEach kws X.env)).all (·.1.isSome) = true := by rfl) (hks : (backToKw pos (keywordEach kws X.env)).filterMap (·.1) = ks := by rfl)
    (hpn : ((backTo pos (starEach [] X.env)).any (·.1) || (backToKw pos (keywordEach kws X.env)).any (·.1.isNone)) = false := by rfl) :
    PE X (.Call (.Name x p) [] kws pos) (tCallK sp gRev E0 tNil tk) := by
  obtain ⟨f, fd, ps, F, hm, kp, b⟩ := c.ex
  refine ⟨fun pins s σ H Q I h => ?_⟩
  refine wpAny_Call_Name_kw (ld_glob I hg hm ?_ hdb)
  refine PySem.W.callWith_KW0 (h₀ := X.base) I.ok.mod.kin kp hall ?_ hpn
  refine thn (hkw.run pos pins s σ H _ I h) fun ws s1 ⟨zs, H1, I1, rz, q⟩ => ⟨I1.kIn, ?_⟩
  rw [hks]
  exact run_fnk (us := []) (vs := []) F (hr.mono hk) b pass0 I1 .nil rz q
end Gc

/-! what repr wants of the data that the laws show -/
namespace Gc
open PySem PySem.Spec PyProof.Rows L2
def Sml (x : Int) : Prop := x.natAbs < 2 ^ 120
theorem sml_log {x : Int} (h : Sml x) : x.natAbs.log2 < 121 := Nat.lt_of_lt_of_le (PySem.Flt.log2_lt_of (k := 121) (by decide) (Nat.lt_trans h (by decide))) (Nat.le_refl _)
theorem sml_show {x : Int} (h : Sml x) : (PyData.int x).showable = true := by
  have := sml_log h
  simp only [PyData.showable, decide_eq_true_eq]
  omega
theorem sml_short {x : Int} (h : Sml x) : (PyData.int x).leavesShort 130 = true := by
  have e := int_text_length_le (k := 121) (by decide) (sml_log h)
  have e' : (PyData.shown (.int x)).length ≤ 130 := by
    have e2 : (PyData.shown (.int x)).length = (toString x).length := by
      show (Str.ofString (toString x)).length = _
      rw [PySem.ofString_length]
    omega
  simpa only [PyData.leavesShort, decide_eq_true_eq] using e'
theorem sml_weight {x : Int} (h : Sml x) : (PyData.int x).weight ≤ 122 := by
  have := sml_log h
  simp only [PyData.weight]
  split <;> omega
def Ok0 (d : PyData) : Prop := d.showable = true ∧ d.hasDict = false ∧ d.leavesShort 130 = true
def Ok0s (ds : List PyData) : Prop := PyData.showableAll ds = true ∧ PyData.hasDictAll ds = false ∧ PyData.leavesShortAll 130 ds = true
theorem ok0_int {x : Int} (h : Sml x) : Ok0 (.int x) := ⟨sml_show h, by simp only [PyData.hasDict], sml_short h⟩
theorem ok0_nil : Ok0s [] := ⟨by simp only [PyData.showableAll], by simp only [PyData.hasDictAll], by simp only [PyData.leavesShortAll]⟩
theorem ok0_cons {d : PyData} {ds : List PyData} (h : Ok0 d) (t : Ok0s ds) : Ok0s (d :: ds) := by
  obtain ⟨a1, a2, a3⟩ := h
  obtain ⟨b1, b2, b3⟩ := t
  refine ⟨?_, ?_, ?_⟩
  · simp only [PyData.showableAll, a1, b1, Bool.and_self]
  · simp only [PyData.hasDictAll, a2, b2, Bool.or_self]
  · simp only [PyData.leavesShortAll, a3, b3, Bool.and_self]
theorem ok0_list {ds : List PyData} (h : Ok0s ds) : Ok0 (.list ds) := by
  obtain ⟨b1, b2, b3⟩ := h
  refine ⟨?_, ?_, ?_⟩
  · simpa only [PyData.showable] using b1
  · simpa only [PyData.hasDict] using b2
  · simpa only [PyData.leavesShort] using b3
theorem ok0_tup {ds : List PyData} (h : Ok0s ds) : Ok0 (.tuple ds) := by
  obtain ⟨b1, b2, b3⟩ := h
  refine ⟨?_, ?_, ?_⟩
  · simpa only [PyData.showable] using b1
  · simpa only [PyData.hasDict] using b2
  · simpa only [PyData.leavesShort] using b3
theorem ok0_len {d : PyData} (h : Ok0 d) (w : d.weight ≤ 100000) : d.shown.length ≤ sizeLine := by
  have e := PyData.shown_le 130 (by decide) d h.2.2
  rw [sizeLine_eq]
  have : (130 + 2) * d.weight ≤ (130 + 2) * 100000 := Nat.mul_le_mul_left _ w
  omega
theorem ok0_ints : ∀ {T : List Int}, (∀ x ∈ T, Sml x) → Ok0s (T.map PyData.int)
  | [], _ => ok0_nil
  | x :: T, h => ok0_cons (ok0_int (h x List.mem_cons_self)) (ok0_ints fun y hy => h y (List.mem_cons_of_mem _ hy))
theorem weight_ints : ∀ {T : List Int}, (∀ x ∈ T, Sml x) → PyData.weightAll (T.map PyData.int) ≤ 123 * T.length
  | [], _ => by simp [PyData.weightAll]
  | x :: T, h => by
    have a := sml_weight (h x List.mem_cons_self)
    have b := weight_ints (T := T) fun y hy => h y (List.mem_cons_of_mem _ hy)
    simp only [List.map_cons, PyData.weightAll, List.length_cons]
    omega
theorem deep_ints : ∀ T : List Int, PyData.depthAll (T.map PyData.int) = 0
  | [] => by simp [PyData.depthAll]
  | x :: T => by simp [PyData.depthAll, PyData.depth, deep_ints T]
/-- a text and a cursor -/
def textD (T : List Int) (r a : Int) : PyData := .tuple [.list (T.map PyData.int), .tuple [.int r, .int a]]
theorem textD_ok {T : List Int} {r a : Int} (hT : ∀ x ∈ T, Sml x) (hr : Sml r) (ha : Sml a) (l : T.length ≤ 500) : (textD T r a).showable = true ∧ (textD T r a).hasDict = false ∧ (textD T r a).depth ≤ 60 ∧ (textD T r a).shown.length ≤ sizeLine := by
  have o : Ok0 (textD T r a) := ok0_tup (ok0_cons (ok0_list (ok0_ints hT)) (ok0_cons (ok0_tup (ok0_cons (ok0_int hr) (ok0_cons (ok0_int ha) ok0_nil))) ok0_nil))
  refine ⟨o.1, o.2.1, ?_, ok0_len o ?_⟩
  · simp only [textD, PyData.depth, PyData.depthAll, deep_ints]
    omega
  · have a1 := weight_ints hT
    have a2 := sml_weight hr
    have a3 := sml_weight ha
    simp only [PyData.weight] at a2 a3
    simp only [textD, PyData.weight, PyData.weightAll]
    omega
/-! ### commands as data -/
def cmdD : Cmd → PyData
  | .down n => .tuple [.str "down", .int n]
  | .up n => .tuple [.str "up", .int n]
  | .right n => .tuple [.str "right", .int n]
  | .left n => .tuple [.str "left", .int n]
  | .home => .tuple [.str "home"]
  | .stop => .tuple [.str "end"]
theorem CmdAt.dp {K : PySem.W.Frag} {H : Hp} {v : V} {c : Cmd} (h : CmdAt K H v c) : Dp K H v (cmdD c) := by
  obtain ⟨a, rfl, h⟩ := h
  cases c with
  | down n => exact .tup h (.cons (.str _) (.cons (.int n) .nil))
  | up n => exact .tup h (.cons (.str _) (.cons (.int n) .nil))
  | right n => exact .tup h (.cons (.str _) (.cons (.int n) .nil))
  | left n => exact .tup h (.cons (.str _) (.cons (.int n) .nil))
  | home => exact .tup h (.cons (.str _) .nil)
  | stop => exact .tup h (.cons (.str _) .nil)
theorem CmdsOf.dp {K : PySem.W.Frag} {H : Hp} : ∀ {xs : List V} {cs : List Cmd}, CmdsOf K H xs cs → DpAll K H xs (cs.map cmdD)
  | _, _, .nil => .nil
  | _, _, .cons h t => .cons h.dp (CmdsOf.dp t)
def CSml : Cmd → Prop
  | .down n => Sml n
  | .up n => Sml n
  | .right n => Sml n
  | .left n => Sml n
  | _ => True
theorem ok0_str {x : Str} (h : (PyData.str x).leavesShort 130 = true) : Ok0 (.str x) := ⟨by simp only [PyData.showable], by simp only [PyData.hasDict], h⟩
theorem cmdD_ok {c : Cmd} (h : CSml c) : Ok0 (cmdD c) ∧ (cmdD c).weight ≤ 200 ∧ (cmdD c).depth ≤ 5 := by
  cases c with
  | down n =>
    have w := sml_weight h
    refine ⟨ok0_tup (ok0_cons (ok0_str (by decide +kernel)) (ok0_cons (ok0_int h) ok0_nil)), ?_, by simp [cmdD, PyData.depth, PyData.depthAll]⟩
    have e : (PyData.str "down").weight = 4 := by decide +kernel
    simp only [cmdD, PyData.weight, PyData.weightAll] at w e ⊢
    omega
  | up n =>
    have w := sml_weight h
    refine ⟨ok0_tup (ok0_cons (ok0_str (by decide +kernel)) (ok0_cons (ok0_int h) ok0_nil)), ?_, by simp [cmdD, PyData.depth, PyData.depthAll]⟩
    have e : (PyData.str "up").weight = 2 := by decide +kernel
    simp only [cmdD, PyData.weight, PyData.weightAll] at w e ⊢
    omega
  | right n =>
    have w := sml_weight h
    refine ⟨ok0_tup (ok0_cons (ok0_str (by decide +kernel)) (ok0_cons (ok0_int h) ok0_nil)), ?_, by simp [cmdD, PyData.depth, PyData.depthAll]⟩
    have e : (PyData.str "right").weight = 5 := by decide +kernel
    simp only [cmdD, PyData.weight, PyData.weightAll] at w e ⊢
    omega
  | left n =>
    have w := sml_weight h
    refine ⟨ok0_tup (ok0_cons (ok0_str (by decide +kernel)) (ok0_cons (ok0_int h) ok0_nil)), ?_, by simp [cmdD, PyData.depth, PyData.depthAll]⟩
    have e : (PyData.str "left").weight = 4 := by decide +kernel
    simp only [cmdD, PyData.weight, PyData.weightAll] at w e ⊢
    omega
  | home => exact ⟨ok0_tup (ok0_cons (ok0_str (by decide +kernel)) ok0_nil), by decide +kernel, by simp [cmdD, PyData.depth, PyData.depthAll]⟩
  | stop => exact ⟨ok0_tup (ok0_cons (ok0_str (by decide +kernel)) ok0_nil), by decide +kernel, by simp [cmdD, PyData.depth, PyData.depthAll]⟩
theorem cmds_ok0 : ∀ {cs : List Cmd}, (∀ c ∈ cs, CSml c) → Ok0s (cs.map cmdD) ∧ PyData.weightAll (cs.map cmdD) ≤ 201 * cs.length ∧ PyData.depthAll (cs.map cmdD) ≤ 5
  | [], _ => ⟨ok0_nil, by simp [PyData.weightAll], by simp [PyData.depthAll]⟩
  | c :: cs, h => by
    obtain ⟨a1, a2, a3⟩ := cmdD_ok (h c List.mem_cons_self)
    obtain ⟨b1, b2, b3⟩ := cmds_ok0 (cs := cs) fun d hd => h d (List.mem_cons_of_mem _ hd)
    refine ⟨ok0_cons a1 b1, ?_, ?_⟩
    · simp only [List.map_cons, PyData.weightAll, List.length_cons]
      omega
    · simp only [List.map_cons, PyData.depthAll]
      omega
theorem cmds_ok {cs : List Cmd} (h : ∀ c ∈ cs, CSml c) (l : cs.length ≤ 300) : (PyData.list (cs.map cmdD)).showable = true ∧ (PyData.list (cs.map cmdD)).hasDict = false ∧ (PyData.list (cs.map cmdD)).depth ≤ 60 ∧ (PyData.list (cs.map cmdD)).shown.length ≤ sizeLine := by
  obtain ⟨a1, a2, a3⟩ := cmds_ok0 h
  have o := ok0_list a1
  refine ⟨o.1, o.2.1, ?_, ok0_len o ?_⟩
  · simp only [PyData.depth]
    omega
  · simp only [PyData.weight]
    omega
/-! ### boxes as data -/
def optD : Option Int → PyData
  | none => .none
  | some n => .int n
def pairD (q : Int × Int) : PyData := .tuple [.int q.1, .int q.2]
def boxD : Option (Option Int × Ps) → PyData
  | none => .none
  | some x => .tuple [optD x.1, .list (x.2.map pairD)]
def BSml : Option (Option Int × Ps) → Prop
  | none => True
  | some x => (∀ n, x.1 = some n → Sml n) ∧ ∀ q ∈ x.2, Sml q.1 ∧ Sml q.2
theorem ok0_none : Ok0 .none := ⟨by simp only [PyData.showable], by simp only [PyData.hasDict], by simp only [PyData.leavesShort]⟩
theorem pairs_ok0 : ∀ {L : Ps}, (∀ q ∈ L, Sml q.1 ∧ Sml q.2) → Ok0s (L.map pairD) ∧ PyData.weightAll (L.map pairD) ≤ 247 * L.length ∧ PyData.depthAll (L.map pairD) ≤ 5
  | [], _ => ⟨ok0_nil, by simp [PyData.weightAll], by simp [PyData.depthAll]⟩
  | q :: L, h => by
    obtain ⟨a, b⟩ := h q List.mem_cons_self
    obtain ⟨c1, c2, c3⟩ := pairs_ok0 (L := L) fun p hp => h p (List.mem_cons_of_mem _ hp)
    have wa := sml_weight a
    have wb := sml_weight b
    refine ⟨ok0_cons (ok0_tup (ok0_cons (ok0_int a) (ok0_cons (ok0_int b) ok0_nil))) c1, ?_, ?_⟩
    · simp only [PyData.weight] at wa wb
      simp only [List.map_cons, pairD, PyData.weight, PyData.weightAll, List.length_cons] at c2 ⊢
      omega
    · simp only [List.map_cons, pairD, PyData.depth, PyData.depthAll] at c3 ⊢
      omega
theorem boxD_ok0 {o : Option (Option Int × Ps)} {n : Nat} (h : BSml o) (l : ∀ x, o = some x → x.2.length ≤ n) : Ok0 (boxD o) ∧ (boxD o).weight ≤ 247 * n + 200 ∧ (boxD o).depth ≤ 10 := by
  cases o with
  | none => exact ⟨ok0_none, by simp [boxD, PyData.weight], by simp [boxD, PyData.depth]⟩
  | some x =>
    obtain ⟨st, L⟩ := x
    obtain ⟨h1, h2⟩ := h
    have h2' : ∀ q ∈ L, Sml q.1 ∧ Sml q.2 := h2
    obtain ⟨c1, c2, c3⟩ := pairs_ok0 h2'
    have ln : L.length ≤ n := l _ rfl
    have o1 : Ok0 (optD st) ∧ (optD st).weight ≤ 122 ∧ (optD st).depth = 0 := by
      cases st with
      | none => exact ⟨ok0_none, by simp [optD, PyData.weight], by simp [optD, PyData.depth]⟩
      | some n => exact ⟨ok0_int (h1 n rfl), sml_weight (h1 n rfl), by simp [optD, PyData.depth]⟩
    obtain ⟨d1, d2, d3⟩ := o1
    refine ⟨ok0_tup (ok0_cons d1 (ok0_cons (ok0_list c1) ok0_nil)), ?_, ?_⟩
    · have m : 247 * L.length ≤ 247 * n := Nat.mul_le_mul_left _ ln
      simp only [boxD, PyData.weight, PyData.weightAll]
      omega
    · simp only [boxD, PyData.depth, PyData.depthAll]
      omega
theorem boxes_ok0 {n : Nat} : ∀ {os : List (Option (Option Int × Ps))}, (∀ o ∈ os, BSml o ∧ ∀ x, o = some x → x.2.length ≤ n) → Ok0s (os.map boxD) ∧ PyData.weightAll (os.map boxD) ≤ (247 * n + 201) * os.length ∧ PyData.depthAll (os.map boxD) ≤ 10
  | [], _ => ⟨ok0_nil, by simp [PyData.weightAll], by simp [PyData.depthAll]⟩
  | o :: os, h => by
    obtain ⟨a, b⟩ := h o List.mem_cons_self
    obtain ⟨c1, c2, c3⟩ := boxD_ok0 a b
    obtain ⟨d1, d2, d3⟩ := boxes_ok0 (os := os) fun p hp => h p (List.mem_cons_of_mem _ hp)
    refine ⟨ok0_cons c1 d1, ?_, ?_⟩
    · rw [List.map_cons, List.length_cons, Nat.mul_succ]
      simp only [PyData.weightAll]
      omega
    · simp only [List.map_cons, PyData.depthAll]
      omega
/-- a list of at most ten boxes of at most thirty lines each -/
theorem boxes_ok {os : List (Option (Option Int × Ps))} (h : ∀ o ∈ os, BSml o ∧ ∀ x, o = some x → x.2.length ≤ 30) (l : os.length ≤ 10) :
    (PyData.list (os.map boxD)).showable = true ∧ (PyData.list (os.map boxD)).hasDict = false ∧ (PyData.list (os.map boxD)).depth ≤ 60 ∧ (PyData.list (os.map boxD)).shown.length ≤ sizeLine := by
  obtain ⟨a1, a2, a3⟩ := boxes_ok0 h
  have o := ok0_list a1
  refine ⟨o.1, o.2.1, ?_, ok0_len o ?_⟩
  · simp only [PyData.depth]
    omega
  · have m : (247 * 30 + 201) * os.length ≤ (247 * 30 + 201) * 10 := Nat.mul_le_mul_left _ l
    simp only [PyData.weight]
    omega
end Gc

/-! what a list of commands does to all goals on one text: a number added, kept between two bounds -/
namespace Gc
/-- the goal None is the greatest -/
def chg1 : Cmd → Int
  | .right n => n
  | .left n => -n
  | _ => 0
def chg : List Cmd → Int
  | [] => 0
  | c :: cs => chg1 c + chg cs
theorem chg_snoc (cs : List Cmd) (c : Cmd) : chg (cs ++ [c]) = chg cs + chg1 c := by
  induction cs with
  | nil => show chg1 c + 0 = 0 + chg1 c; omega
  | cons d cs ih => show chg1 d + chg (cs ++ [c]) = chg1 d + chg cs + chg1 c; rw [ih]; omega
/-- where the goal x goes, if 0 goes to lo, None to hi, and d is added -/
def Clamp (lo hi : Option Int) (d x : Int) (g : Option Int) : Prop := match lo, hi, g with
  | none, none, none => True
  | some l, none, some y => y = max l (x + d)
  | some l, some h, some y => l ≤ h ∧ y = max l (min h (x + d))
  | _, _, _ => False
theorem clamp1 {t : Int} (ht : 0 ≤ t) {lo hi : Option Int} {d x : Int} {g : Option Int} (h : Clamp lo hi d x g) (c : Cmd) (ok : c.ok) : Clamp (aim1 t lo c) (aim1 t hi c) (d + chg1 c) x (aim1 t g c) := by
  unfold Clamp at h
  cases c with
  | down n =>
    show Clamp lo hi (d + 0) x g
    rw [Int.add_zero]
    exact h
  | up n =>
    show Clamp lo hi (d + 0) x g
    rw [Int.add_zero]
    exact h
  | home => exact ⟨Int.le_refl 0, by omega⟩
  | stop => trivial
  | right n =>
    have o : 1 ≤ n := ok
    match lo, hi, g, h with
    | none, none, none, _ =>
      show min (t + n) t ≤ min (t + n) t ∧ min (t + n) t = max (min (t + n) t) (min (min (t + n) t) (x + (d + n)))
      omega
    | some l, none, some y, h =>
      have h' : y = max l (x + d) := h
      show min (min l t + n) t ≤ min (t + n) t ∧ min (min y t + n) t = max (min (min l t + n) t) (min (min (t + n) t) (x + (d + n)))
      omega
    | some l, some e, some y, h =>
      obtain ⟨h1, h2⟩ : l ≤ e ∧ y = max l (min e (x + d)) := h
      show min (min l t + n) t ≤ min (min e t + n) t ∧ min (min y t + n) t = max (min (min l t + n) t) (min (min (min e t + n) t) (x + (d + n)))
      omega
  | left n =>
    have o : 1 ≤ n := ok
    match lo, hi, g, h with
    | none, none, none, _ =>
      show max 0 (t - n) ≤ max 0 (t - n) ∧ max 0 (t - n) = max (max 0 (t - n)) (min (max 0 (t - n)) (x + (d + -n)))
      omega
    | some l, none, some y, h =>
      have h' : y = max l (x + d) := h
      show max 0 (min l t - n) ≤ max 0 (t - n) ∧ max 0 (min y t - n) = max (max 0 (min l t - n)) (min (max 0 (t - n)) (x + (d + -n)))
      omega
    | some l, some e, some y, h =>
      obtain ⟨h1, h2⟩ : l ≤ e ∧ y = max l (min e (x + d)) := h
      show max 0 (min l t - n) ≤ max 0 (min e t - n) ∧ max 0 (min y t - n) = max (max 0 (min l t - n)) (min (max 0 (min e t - n)) (x + (d + -n)))
      omega
theorem clampF {T : Int → Int} (hT : ∀ k, 0 ≤ T k) {x : Int} (x0 : 0 ≤ x) : ∀ {cs : List Cmd} {r : Int} {lo hi : Option Int} {d : Int} {g : Option Int}, AllOk cs → Clamp lo hi d x g → Clamp (aimF T r lo cs) (aimF T r hi cs) (d + chg cs) x (aimF T r g cs)
  | [], r, lo, hi, d, g, _, h => by
    show Clamp lo hi (d + 0) x g
    rw [Int.add_zero]
    exact h
  | c :: cs, r, lo, hi, d, g, ok, h => by
    have q := clampF hT x0 (cs := cs) (r := r + c.dv) (fun e he => ok e (List.mem_cons_of_mem _ he)) (clamp1 (hT r) h c (ok c List.mem_cons_self))
    rw [show d + chg (c :: cs) = d + chg1 c + chg cs from by show d + (chg1 c + chg cs) = _; omega]
    exact q
theorem clamp_all {T : Int → Int} (hT : ∀ k, 0 ≤ T k) {cs : List Cmd} (ok : AllOk cs) (r : Int) {x : Int} (x0 : 0 ≤ x) : Clamp (aimF T r (some 0) cs) (aimF T r none cs) (chg cs) x (aimF T r (some x) cs) := by
  have q := clampF hT x0 (cs := cs) (r := r) (lo := some 0) (hi := none) (d := 0) (g := some x) ok (by show x = max 0 (x + 0); omega)
  rw [Int.zero_add] at q
  exact q
/-- from a goal of at least all lines on, it is as from None, if that leads to a column -/
theorem aimF_far {T : Int → Int} {B : Int} (hB : ∀ k, T k ≤ B) {x : Int} (hx : B ≤ x) : ∀ {cs : List Cmd} {r : Int}, (aimF T r (some x) cs = aimF T r none cs) ∨ (aimF T r (some x) cs = some x ∧ aimF T r none cs = none ∧ chg cs = 0)
  | [], r => .inr ⟨rfl, rfl, rfl⟩
  | c :: cs, r => by
    have same : ∀ a : Option Int, aim1 (T r) (some x) c = a → aim1 (T r) none c = a → (aimF T r (some x) (c :: cs) = aimF T r none (c :: cs)) := fun a e1 e2 => by
      show aimF T (r + c.dv) (aim1 (T r) (some x) c) cs = aimF T (r + c.dv) (aim1 (T r) none c) cs
      rw [e1, e2]
    have sx : seen (T r) (some x) = seen (T r) none := by
      have := hB r
      show min x (T r) = T r
      omega
    cases c with
    | right n => exact .inl (same _ rfl (by show some (min (seen (T r) none + n) (T r)) = some (min (seen (T r) (some x) + n) (T r)); rw [sx]))
    | left n => exact .inl (same _ rfl (by show some (max 0 (seen (T r) none - n)) = some (max 0 (seen (T r) (some x) - n)); rw [sx]))
    | home => exact .inl (same _ rfl rfl)
    | stop => exact .inl (same _ rfl rfl)
    | down n =>
      rcases aimF_far hB hx (cs := cs) (r := r + n) with e | ⟨e1, e2, e3⟩
      · exact .inl e
      · exact .inr ⟨e1, e2, by show 0 + chg cs = 0; omega⟩
    | up n =>
      rcases aimF_far hB hx (cs := cs) (r := r + -n) with e | ⟨e1, e2, e3⟩
      · exact .inl e
      · exact .inr ⟨e1, e2, by show 0 + chg cs = 0; omega⟩
end Gc

/-! the goals from which a goal is reached, among 0 to 20 and None: the first and the last -/
namespace Gc
def cands : List (Option Int) := (List.range 21).map (fun (j : Nat) => some (j : Int)) ++ [none]
theorem cands_mem {o : Option Int} (h : o ∈ cands) : o = none ∨ ∃ x : Int, o = some x ∧ 0 ≤ x ∧ x ≤ 20 := by
  rcases List.mem_append.mp h with m | m
  · obtain ⟨j, hj, rfl⟩ := List.mem_map.mp m
    have := List.mem_range.mp hj
    exact .inr ⟨j, rfl, by omega, by omega⟩
  · exact .inl (List.mem_singleton.mp m)
def TwoEnds (f : List (Option Int)) (a b : Option Int) : Prop := f.head? = some a ∧ f.getLast? = some b
theorem cands_eq {p q : Option Int → Bool} (hn : p none = q none) (hs : ∀ x : Int, 0 ≤ x → x ≤ 20 → p (some x) = q (some x)) : cands.filter p = cands.filter q := by
  refine List.filter_congr fun o ho => ?_
  rcases cands_mem ho with rfl | ⟨x, rfl, h0, h1⟩
  · exact hn
  · exact hs x h0 h1
def qI (a b : Int) : Option Int → Bool
  | none => false
  | some x => decide (a ≤ x ∧ x ≤ b)
def qU (a : Int) : Option Int → Bool
  | none => true
  | some x => decide (a ≤ x)
instance (f : List (Option Int)) (a b : Option Int) : Decidable (TwoEnds f a b) := by unfold TwoEnds; exact inferInstance
theorem all_I : ∀ a b : Fin 21, a ≤ b → TwoEnds (cands.filter (qI (a.val : Int) (b.val : Int))) (some (a.val : Int)) (some (b.val : Int)) := by decide +kernel
theorem all_U : ∀ a : Fin 21, TwoEnds (cands.filter (qU (a.val : Int))) (some (a.val : Int)) none := by decide +kernel
theorem ends_I {p : Option Int → Bool} {a b : Int} (h0 : 0 ≤ a) (h1 : a ≤ b) (h2 : b ≤ 20) (hn : p none = false) (hs : ∀ x : Int, 0 ≤ x → x ≤ 20 → (p (some x) = true ↔ a ≤ x ∧ x ≤ b)) : TwoEnds (cands.filter p) (some a) (some b) := by
  have e := all_I ⟨a.toNat, by omega⟩ ⟨b.toNat, by omega⟩ (by show a.toNat ≤ b.toNat; omega)
  have ea : ((a.toNat : Nat) : Int) = a := by omega
  have eb : ((b.toNat : Nat) : Int) = b := by omega
  simp only [ea, eb] at e
  rw [cands_eq (q := qI a b) hn fun x x0 x1 => ?_]
  · exact e
  · show p (some x) = decide (a ≤ x ∧ x ≤ b)
    rw [Bool.eq_iff_iff, hs x x0 x1, decide_eq_true_iff]
theorem ends_U {p : Option Int → Bool} {a : Int} (h0 : 0 ≤ a) (h1 : a ≤ 20) (hn : p none = true) (hs : ∀ x : Int, 0 ≤ x → x ≤ 20 → (p (some x) = true ↔ a ≤ x)) : TwoEnds (cands.filter p) (some a) none := by
  have e := all_U ⟨a.toNat, by omega⟩
  have ea : ((a.toNat : Nat) : Int) = a := by omega
  simp only [ea] at e
  rw [cands_eq (q := qU a) hn fun x x0 x1 => ?_]
  · exact e
  · show p (some x) = decide (a ≤ x)
    rw [Bool.eq_iff_iff, hs x x0 x1, decide_eq_true_iff]
theorem ends_N {p : Option Int → Bool} (hn : p none = true) (hs : ∀ x : Int, 0 ≤ x → x ≤ 20 → p (some x) = false) : TwoEnds (cands.filter p) none none := by
  rw [cands_eq (q := fun o => match o with | none => true | some _ => false) hn fun x x0 x1 => hs x x0 x1]
  exact ⟨by decide +kernel, by decide +kernel⟩
theorem ends_0 {p : Option Int → Bool} (hn : p none = false) (hs : ∀ x : Int, 0 ≤ x → x ≤ 20 → p (some x) = false) : cands.filter p = [] := by
  rw [cands_eq (q := fun _ => false) hn fun x x0 x1 => hs x x0 x1]
  decide +kernel
def lessB : Option Int → Option Int → Bool
  | none, _ => false
  | some _, none => true
  | some x, some y => decide (x < y)
theorem less_y {x y : Int} (h : x < y) : lessB (some x) (some y) = true := decide_eq_true h
theorem less_n {x y : Int} (h : ¬ x < y) : lessB (some x) (some y) = false := decide_eq_false h
def originsM (lo hi : Option Int) (d : Int) (goal : Option Int) : Option (Option Int × Option Int) :=
  if lessB goal lo = true ∨ lessB hi goal = true then none else some (if goal = lo then some 0 else goal.map (· - d), if goal = hi then none else goal.map (· - d))
/-- what the law finds is what is told -/
def Told (f : List (Option Int)) : Option (Option Int × Option Int) → Prop
  | none => f = []
  | some x => TwoEnds f x.1 x.2
theorem origins_no {lo hi : Option Int} {d : Int} {goal : Option Int} (h : lessB goal lo = true ∨ lessB hi goal = true) : originsM lo hi d goal = none := if_pos h
theorem origins_yes {lo hi : Option Int} {d : Int} {goal a b : Option Int} (h1 : lessB goal lo = false) (h2 : lessB hi goal = false) (ha : (if goal = lo then some 0 else goal.map (· - d)) = a) (hb : (if goal = hi then none else goal.map (· - d)) = b) :
    originsM lo hi d goal = some (a, b) := by
  unfold originsM
  rw [if_neg (by rw [h1, h2]; simp), ha, hb]
theorem due_eq {T : Int → Int} (hT : ∀ k, 0 ≤ T k) (hB : ∀ k, T k ≤ 20) {cs : List Cmd} (ok : AllOk cs) (r : Int) {goal : Option Int} (g0 : ge goal 0) (g1 : ∀ v, goal = some v → v ≤ 20) :
    Told (cands.filter fun o => decide (aimF T r o cs = goal)) (originsM (aimF T r (some 0) cs) (aimF T r none cs) (chg cs) goal) := by
  have cl := fun (x : Int) (x0 : 0 ≤ x) => clamp_all hT ok r x0
  have far := aimF_far hB (Int.le_refl 20) (cs := cs) (r := r)
  have c0 := cl 0 (Int.le_refl 0)
  have c20 := cl 20 (by decide)
  generalize hF : (fun o => aimF T r o cs) = F
  have eF : ∀ o, aimF T r o cs = F o := fun o => by rw [← hF]
  simp only [eF] at cl far c0 c20 ⊢
  generalize hlo : F (some 0) = lo at *
  generalize hhi : F none = hi at *
  generalize chg cs = d at *
  -- p, read
  have pn : decide (F none = goal) = decide (hi = goal) := by rw [hhi]
  match goal, g0, g1, pn with
  | none, _, _, pn =>
    match lo, hi, cl, c0, c20, far, pn, hlo, hhi with
    | none, none, cl, _, _, _, pn, _, hhi =>
      have all : ∀ x : Int, 0 ≤ x → F (some x) = none := fun x x0 => by
        have := cl x x0
        revert this
        cases F (some x) with
        | none => exact fun _ => rfl
        | some y => exact fun h => h.elim
      rw [origins_yes (a := some 0) (b := none) rfl rfl (if_pos rfl) (if_pos rfl)]
      exact ends_U (Int.le_refl 0) (by decide) (by rw [pn]; simp) fun x x0 _ => by simp [all x x0, x0]
    | some l, none, cl, _, _, _, pn, _, hhi =>
      have all : ∀ x : Int, 0 ≤ x → F (some x) ≠ none := fun x x0 z => by
        have := cl x x0
        rw [z] at this
        exact this
      rw [origins_yes (a := none) (b := none) rfl rfl (by simp) (if_pos rfl)]
      exact ends_N (by rw [pn]; simp) fun x x0 _ => by simp [all x x0]
    | some l, some h, cl, _, _, _, pn, _, hhi =>
      have all : ∀ x : Int, 0 ≤ x → F (some x) ≠ none := fun x x0 z => by
        have := cl x x0
        rw [z] at this
        exact this
      rw [origins_no (.inr rfl)]
      exact ends_0 (by rw [pn]; simp) fun x x0 _ => by simp [all x x0]
    | none, some h, cl, c0, _, _, _, _, _ => exact (by revert c0; cases F (some 0) <;> exact fun h => h.elim)
  | some v, g0, g1, pn =>
    have v0 := ge_some.mp g0
    have v1 := g1 v rfl
    match lo, hi, cl, c0, c20, far, pn, hlo, hhi with
    | none, none, cl, _, _, _, pn, _, _ =>
      have all : ∀ x : Int, 0 ≤ x → F (some x) = none := fun x x0 => by
        have := cl x x0
        revert this
        cases F (some x) with
        | none => exact fun _ => rfl
        | some y => exact fun h => h.elim
      rw [origins_no (.inl rfl)]
      exact ends_0 (by rw [pn]; simp) fun x x0 _ => by simp [all x x0]
    | none, some h, cl, c0, _, _, _, _, _ => exact (by revert c0; cases F (some 0) <;> exact fun h => h.elim)
    | some l, none, cl, c0, c20, far, pn, hlo, _ =>
      have val : ∀ x : Int, 0 ≤ x → F (some x) = some (max l (x + d)) := fun x x0 => by
        have := cl x x0
        revert this
        cases F (some x) with
        | none => exact fun h => h.elim
        | some y => exact fun h => by rw [show y = max l (x + d) from h]
      obtain ⟨f1, d0⟩ : max l (20 + d) = 20 ∧ d = 0 := by
        rcases far with e | ⟨e1, _, e3⟩
        · rw [val 20 (by decide)] at e
          cases e
        · rw [val 20 (by decide)] at e1
          exact ⟨Option.some.inj e1, e3⟩
      have l0 : max l (0 + d) = l := by
        have := val 0 (Int.le_refl 0)
        rw [hlo] at this
        exact (Option.some.inj this).symm
      by_cases h1 : v < l
      · rw [origins_no (.inl (less_y h1))]
        exact ends_0 (by rw [pn]; simp) fun x x0 _ => by rw [val x x0]; simp; omega
      by_cases h2 : v = l
      · subst h2
        rw [origins_yes (a := some 0) (b := some (v - d)) (less_n h1) rfl (if_pos rfl) (by simp)]
        exact ends_I (by omega) (by omega) (by omega) (by rw [pn]; simp) fun x x0 _ => by rw [val x x0]; simp; omega
      · rw [origins_yes (a := some (v - d)) (b := some (v - d)) (less_n h1) rfl (by simp [h2]) (by simp)]
        exact ends_I (by omega) (by omega) (by omega) (by rw [pn]; simp) fun x x0 _ => by rw [val x x0]; simp; omega
    | some l, some h, cl, c0, c20, far, pn, hlo, hhi =>
      have val : ∀ x : Int, 0 ≤ x → F (some x) = some (max l (min h (x + d))) ∧ l ≤ h := fun x x0 => by
        have := cl x x0
        revert this
        cases F (some x) with
        | none => exact fun h => h.elim
        | some y =>
          intro z
          obtain ⟨z1, z2⟩ : l ≤ h ∧ y = max l (min h (x + d)) := z
          exact ⟨by rw [z2], z1⟩
      have lh := (val 0 (Int.le_refl 0)).2
      have f1 : max l (min h (20 + d)) = h := by
        rcases far with e | ⟨e1, e2, e3⟩
        · rw [(val 20 (by decide)).1] at e
          exact Option.some.inj e
        · cases e2
      have l0 : max l (min h (0 + d)) = l := by
        have := (val 0 (Int.le_refl 0)).1
        rw [hlo] at this
        exact (Option.some.inj this).symm
      by_cases h1 : v < l
      · rw [origins_no (.inl (less_y h1))]
        exact ends_0 (by rw [pn]; simp; omega) fun x x0 _ => by rw [(val x x0).1]; simp; omega
      by_cases h3 : h < v
      · rw [origins_no (.inr (less_y h3))]
        exact ends_0 (by rw [pn]; simp; omega) fun x x0 _ => by rw [(val x x0).1]; simp; omega
      have no1 : lessB (some v) (some l) = false := less_n h1
      have no2 : lessB (some h) (some v) = false := less_n h3
      by_cases h2 : v = l
      · by_cases h4 : v = h
        · rw [origins_yes (a := some 0) (b := none) no1 no2 (if_pos (by rw [h2])) (if_pos (by rw [h4]))]
          exact ends_U (Int.le_refl 0) (by decide) (by rw [pn]; simp [h4]) fun x x0 _ => by rw [(val x x0).1]; simp; omega
        · rw [origins_yes (a := some 0) (b := some (v - d)) no1 no2 (if_pos (by rw [h2])) (by simp [h4])]
          exact ends_I (by omega) (by omega) (by omega) (by rw [pn]; simp; omega) fun x x0 _ => by rw [(val x x0).1]; simp; omega
      · by_cases h4 : v = h
        · rw [origins_yes (a := some (v - d)) (b := none) no1 no2 (by simp [h2]) (if_pos (by rw [h4]))]
          exact ends_U (by omega) (by omega) (by rw [pn]; simp [h4]) fun x x0 _ => by rw [(val x x0).1]; simp; omega
        · rw [origins_yes (a := some (v - d)) (b := some (v - d)) no1 no2 (by simp [h2]) (by simp [h4])]
          exact ends_I (by omega) (by omega) (by omega) (by rw [pn]; simp; omega) fun x x0 _ => by rw [(val x x0).1]; simp; omega
end Gc

/-! x *= y of great numbers; xs[i] += y -/
namespace Gc
open PySem PySem.Spec PyProof.Rows L2
section
variable {X : Cx}
def ipC (C : Int → Int → Prop) (f : Int → Int → Int) : TIp := fun x y H Q => ∃ i j, x = .int i ∧ y = .int j ∧ C i j ∧ Q (.int (f i j)) H
theorem ip_mulW : PIp X .Mult (ipC CMulW fun i j => i * j) := by
  intro pins s σ H x y v u Q I rx ry h
  obtain ⟨i, j, rfl, rfl, hc, q⟩ := h
  obtain ⟨t, rfl⟩ := rx
  obtain ⟨t', rfl⟩ := ry
  exact PySem.P.imul_int (⟨.int (i * j), H, I.tok _, ⟨_, rfl⟩, q⟩) hc.ok
/-- an item of a list by its place from the front, within an augmented assignment -/
def rGetL : V → V → Hp → VK → Prop := fun o i H Q => ∃ (p : Addr) (xs : List V) (j : Nat) (v : V), o = .ref p ∧ i = .int j ∧ H p = some (.lst xs) ∧ xs.length ≤ 1000000 ∧ xs[j]? = some v ∧ Q v H
theorem get_list : PGet X rGetL := by
  intro pins s σ H o i ov iv Q I ro ri h
  obtain ⟨p, xs, j, z, rfl, rfl, hp, hl, hj, q⟩ := h
  cases ro
  obtain ⟨t, rfl⟩ := ri
  obtain ⟨its, r, pl, hz⟩ := I.list (.inl (.inl hp))
  obtain ⟨w, ew, rw'⟩ := r.get hj
  have lj := (List.getElem?_eq_some_iff.mp hj).1
  have l63 := line63
  refine wpAny_getItem_list (x := w) pl.isList (by omega) (by omega) (by simpa using ew) ⟨z, H, I, rw', q⟩
end
end Gc

namespace Gc
open PySem L2
def top (i : Nat) : Stmt := PySem.Challenge.pw_goalcolumn_k25_origins_on_short_texts.main.body.getD i (.Pass ⟨0, 0, 0, 0⟩)
abbrev s_is_count : Stmt := top 13
abbrev s_is_command : Stmt := top 12
abbrev s_check_commands : Stmt := top 11
abbrev s_row_change : Stmt := top 17
structure TxtB (K : PySem.W.Frag) (mg : Str → Option Value) (wo wn : Addr) : Prop where
  g_WITHOUT_NUMBER : mg "WITHOUT_NUMBER" = some (.ref wo)
  g_WITH_NUMBER : mg "WITH_NUMBER" = some (.ref wn)
  tWO : ∀ H, SqT K H wo [.str "home", .str "end"]
  tWN : ∀ H, SqT K H wn [.str "down", .str "up", .str "right", .str "left"]
  isinstance : mg "isinstance" = none
  int : mg "int" = none
  bool : mg "bool" = none
  len : mg "len" = none
  enumerate : mg "enumerate" = none
  reversed : mg "reversed" = none
  sorted : mg "sorted" = none
  max : mg "max" = none
  min : mg "min" = none
def spCount : Sp := fun vs H Q _ => ∃ n : Int, vs = [.int n] ∧ 1 ≤ n ∧ Q (.bl true) H
def spIsCmd (K : PySem.W.Frag) : Sp := fun vs H Q _ => ∃ (v : V) (c : Cmd), vs = [v] ∧ CmdAt K H v c ∧ c.ok ∧ ∀ H', Same H H' → Q (.bl true) H'
def spCheck (K : PySem.W.Frag) : Sp := fun vs H Q _ => ∃ (l : Addr) (xs : List V) (cs : List Cmd), vs = [.ref l] ∧ SqL K H l xs ∧ CmdsOf K H xs cs ∧ AllOk cs ∧ cs.length ≤ 10000 ∧ ∀ H', Same H H' → Q .non H'
def spRow (K : PySem.W.Frag) : Sp := fun vs H Q _ => ∃ (v : V) (c : Cmd), vs = [v] ∧ CmdAt K H v c ∧ Q (.int c.dv) H
theorem q_in {H : Hp} {Q : VK} {x : V} {xs : List V} (h : inV x xs = true) (k : Q (.bl true) H) : Q (.bl (if (false : Bool) = true then !inV x xs else inV x xs)) H := by
  rw [if_neg Bool.false_ne_true, h]
  exact k
theorem take_snoc {α : Type} : ∀ {l : List α} {i : Nat} {x : α}, l[i]? = some x → l.take (i + 1) = l.take i ++ [x]
  | [], i, x, h => by simp at h
  | a :: l, 0, x, h => by
    obtain rfl := Option.some.inj h
    rfl
  | a :: l, i + 1, x, h => by
    have ih := take_snoc (l := l) (i := i) (x := x) h
    show a :: l.take (i + 1) = a :: l.take i ++ [x]
    rw [ih]
    rfl
def optV : Option Int → V
  | none => .non
  | some n => .int n
theorem m_no {y z : Str} {tb : TS} {r : TM} {D : Ends} {σ : L2.St} {H : Hp} (h : decide (y = z) = false) (q : r (.str y) D σ H) : mStr z tb r (.str y) D σ H := ⟨y, rfl, by rw [h]; exact iteF q⟩
theorem m_yes {y z : Str} {tb : TS} {r : TM} {D : Ends} {σ : L2.St} {H : Hp} (h : decide (y = z) = true) (q : tb D σ H) : mStr z tb r (.str y) D σ H := ⟨y, rfl, by rw [h]; exact iteT q⟩
section
variable {P : Program} {w : World} {K : PySem.W.Frag} {mg : Str → Option Value} {base : Heap} {wo wn : Addr}
theorem sc_is_count : FnScope ["number"] ["number"] (defScope s_is_count) := ⟨rfl, rfl, rfl, by decide +kernel, rfl, by decide +kernel, by decide +kernel⟩
theorem ok_is_count {f : Addr} {fd : FuncData} (F : Fun K "is_count" "is_count" s_is_count f fd) (T : TxtB K mg wo wn) : FnOk P w K mg base CX0 1 f fd ["number"] spCount := by
  refine F.ok sc_is_count (fun vs H Q E h => ?_) (fun cdv A outer s H vs Q E hr h => ?_)
  · obtain ⟨n, rfl, _⟩ := h
    rfl
  · obtain ⟨n, rfl, hn, k⟩ := h
    refine ⟨_, (pss_one (ps_ret (pe_and (pe_callB call_isi (by rfl) T.isinstance (by decide +kernel) (pa_cons (pv 0) (pa_cons (pe_bltn (v := .ty "int") (u := .type "int") (by rfl) T.int (by decide +kernel) rfl) pa_nil))) (pe_and (pe_not (pe_callB call_isi (by rfl) T.isinstance (by decide +kernel) (pa_cons (pv 0) (pa_cons (pe_bltn (v := .ty "bool") (u := .type "bool") (by rfl) T.bool (by decide +kernel) rfl) pa_nil)))) (pe_one (pe_cmpR op_ge (pv 0) pe_int (nomark _))))))), ?_⟩
    refine ⟨_, rfl, _, _, _, _, _, rfl, .ty "int", .base (.int n), kit_ty (show kitB "int" "int" = some true by decide +kernel), _, rfl, iteT ?_⟩
    refine ⟨_, rfl, _, _, _, _, _, rfl, .ty "bool", .base (.int n), kit_ty (show kitB "int" "bool" = some false by decide +kernel), _, rfl, _, rfl, iteT ?_⟩
    refine ⟨_, rfl, _, _, rfl, rfl, ?_⟩
    show Q (.bl (decide (1 ≤ n))) H
    rw [decide_eq_true hn]
    exact k
theorem sc_is_command : FnScope ["command"] ["command"] (defScope s_is_command) := ⟨rfl, rfl, rfl, by decide +kernel, rfl, by decide +kernel, by decide +kernel⟩
theorem ok_is_command {f : Addr} {fd : FuncData} (F : Fun K "is_command" "is_command" s_is_command f fd) (T : TxtB K mg wo wn) (c_is_count : Cal P w K mg base 1 "is_count" spCount) : FnOk P w K mg base CX0 2 f fd ["command"] (spIsCmd K) := by
  refine F.ok sc_is_command (fun vs H Q E h => ?_) (fun cdv A outer s H vs Q E hr h => ?_)
  · obtain ⟨v, c, rfl, _⟩ := h
    rfl
  · obtain ⟨v, c, rfl, ⟨a, rfl, ha⟩, hc, k⟩ := h
    refine ⟨_, (pss_cons (ps_if (pt_cmpR op_eq (pe_callB call_len_seq (by rfl) T.len (by decide +kernel) (pa_cons (pv 0) pa_nil)) pe_int (nomark _)) (pss_one (ps_ret (pe_cmpR op_in_seq (pe_ix ix_tup (pv 0) pe_int (fun _ _ => rfl)) (pe_glob (v := .ref wo) (by rfl) T.g_WITHOUT_NUMBER rfl) (by rfl)))) pss_nil)
      (pss_one (ps_ret (pe_and (pe_cmpR op_eq (pe_callB call_len_seq (by rfl) T.len (by decide +kernel) (pa_cons (pv 0) pa_nil)) pe_int (nomark _)) (pe_and (pe_cmpR op_in_seq (pe_ix ix_tup (pv 0) pe_int (fun _ _ => rfl)) (pe_glob (v := .ref wn) (by rfl) T.g_WITH_NUMBER rfl) (by rfl)) (pe_one (pe_cal c_is_count hr (by decide) (by rfl) (pa_cons (pe_ix ix_tup (pv 0) pe_int (fun _ _ => rfl)) pa_nil)))))))), ?_⟩
    have k0 := k H (Same.refl H)
    cases c with
    | down n =>
      refine ⟨_, rfl, a, _, rfl, .inr ha, rfl, _, rfl, iteF ?_⟩
      refine ⟨_, rfl, a, _, rfl, .inr ha, rfl, _, rfl, iteT ?_⟩
      refine ⟨_, rfl, a, _, 0, _, rfl, rfl, ha, rfl, wn, _, rfl, .inr (T.tWN _), rfl, rfl, true, by decide +kernel, iteT ?_⟩
      exact ⟨_, rfl, a, _, 1, _, rfl, rfl, ha, rfl, n, rfl, hc, k0⟩
    | up n =>
      refine ⟨_, rfl, a, _, rfl, .inr ha, rfl, _, rfl, iteF ?_⟩
      refine ⟨_, rfl, a, _, rfl, .inr ha, rfl, _, rfl, iteT ?_⟩
      refine ⟨_, rfl, a, _, 0, _, rfl, rfl, ha, rfl, wn, _, rfl, .inr (T.tWN _), rfl, rfl, true, by decide +kernel, iteT ?_⟩
      exact ⟨_, rfl, a, _, 1, _, rfl, rfl, ha, rfl, n, rfl, hc, k0⟩
    | right n =>
      refine ⟨_, rfl, a, _, rfl, .inr ha, rfl, _, rfl, iteF ?_⟩
      refine ⟨_, rfl, a, _, rfl, .inr ha, rfl, _, rfl, iteT ?_⟩
      refine ⟨_, rfl, a, _, 0, _, rfl, rfl, ha, rfl, wn, _, rfl, .inr (T.tWN _), rfl, rfl, true, by decide +kernel, iteT ?_⟩
      exact ⟨_, rfl, a, _, 1, _, rfl, rfl, ha, rfl, n, rfl, hc, k0⟩
    | left n =>
      refine ⟨_, rfl, a, _, rfl, .inr ha, rfl, _, rfl, iteF ?_⟩
      refine ⟨_, rfl, a, _, rfl, .inr ha, rfl, _, rfl, iteT ?_⟩
      refine ⟨_, rfl, a, _, 0, _, rfl, rfl, ha, rfl, wn, _, rfl, .inr (T.tWN _), rfl, rfl, true, by decide +kernel, iteT ?_⟩
      exact ⟨_, rfl, a, _, 1, _, rfl, rfl, ha, rfl, n, rfl, hc, k0⟩
    | home =>
      refine ⟨_, rfl, a, _, rfl, .inr ha, rfl, _, rfl, iteT ?_⟩
      refine ⟨_, rfl, a, _, 0, _, rfl, rfl, ha, rfl, wo, _, rfl, .inr (T.tWO _), rfl, rfl, ?_⟩
      exact q_in (by decide +kernel) k0
    | stop =>
      refine ⟨_, rfl, a, _, rfl, .inr ha, rfl, _, rfl, iteT ?_⟩
      refine ⟨_, rfl, a, _, 0, _, rfl, rfl, ha, rfl, wo, _, rfl, .inr (T.tWO _), rfl, rfl, ?_⟩
      exact q_in (by decide +kernel) k0
theorem sc_row_change : FnScope ["command"] ["command"] (defScope s_row_change) := ⟨rfl, rfl, rfl, by decide +kernel, rfl, by decide +kernel, by decide +kernel⟩
theorem ok_row_change {f : Addr} {fd : FuncData} (F : Fun K "row_change" "row_change" s_row_change f fd) : FnOk P w K mg base CX0 1 f fd ["command"] (spRow K) := by
  refine F.ok sc_row_change (fun vs H Q E h => ?_) (fun cdv A outer s H vs Q E hr h => ?_)
  · obtain ⟨v, c, rfl, _⟩ := h
    rfl
  · obtain ⟨v, c, rfl, ⟨a, rfl, ha⟩, k⟩ := h
    refine ⟨_, (pss_cons (ps_if (pt_cmpR op_eq (pe_ix ix_tup (pv 0) pe_int (fun _ _ => rfl)) pe_str (nomark _)) (pss_one (ps_ret (pe_ix ix_tup (pv 0) pe_int (fun _ _ => rfl)))) pss_nil)
      (pss_cons (ps_if (pt_cmpR op_eq (pe_ix ix_tup (pv 0) pe_int (fun _ _ => rfl)) pe_str (nomark _)) (pss_one (ps_ret (pe_un un_neg (pe_ix ix_tup (pv 0) pe_int (fun _ _ => rfl))))) pss_nil)
      (pss_one (ps_ret pe_int)))), ?_⟩
    cases c with
    | down n =>
      refine ⟨_, rfl, a, _, 0, _, rfl, rfl, ha, rfl, rfl, true, by decide +kernel, iteT ?_⟩
      exact ⟨_, rfl, a, _, 1, _, rfl, rfl, ha, rfl, k⟩
    | up n =>
      refine ⟨_, rfl, a, _, 0, _, rfl, rfl, ha, rfl, rfl, false, by decide +kernel, iteF ?_⟩
      refine ⟨_, rfl, a, _, 0, _, rfl, rfl, ha, rfl, rfl, true, by decide +kernel, iteT ?_⟩
      exact ⟨_, rfl, a, _, 1, _, rfl, rfl, ha, rfl, n, rfl, k⟩
    | right n =>
      refine ⟨_, rfl, a, _, 0, _, rfl, rfl, ha, rfl, rfl, false, by decide +kernel, iteF ?_⟩
      refine ⟨_, rfl, a, _, 0, _, rfl, rfl, ha, rfl, rfl, false, by decide +kernel, iteF ?_⟩
      exact k
    | left n =>
      refine ⟨_, rfl, a, _, 0, _, rfl, rfl, ha, rfl, rfl, false, by decide +kernel, iteF ?_⟩
      refine ⟨_, rfl, a, _, 0, _, rfl, rfl, ha, rfl, rfl, false, by decide +kernel, iteF ?_⟩
      exact k
    | home =>
      refine ⟨_, rfl, a, _, 0, _, rfl, rfl, ha, rfl, rfl, false, by decide +kernel, iteF ?_⟩
      refine ⟨_, rfl, a, _, 0, _, rfl, rfl, ha, rfl, rfl, false, by decide +kernel, iteF ?_⟩
      exact k
    | stop =>
      refine ⟨_, rfl, a, _, 0, _, rfl, rfl, ha, rfl, rfl, false, by decide +kernel, iteF ?_⟩
      refine ⟨_, rfl, a, _, 0, _, rfl, rfl, ha, rfl, rfl, false, by decide +kernel, iteF ?_⟩
      exact k
theorem sc_check_commands : FnScope ["commands", "index", "command"] ["commands"] (defScope s_check_commands) := ⟨rfl, rfl, rfl, by decide +kernel, rfl, by decide +kernel, by decide +kernel⟩
theorem ok_check_commands {f : Addr} {fd : FuncData} (F : Fun K "check_commands" "check_commands" s_check_commands f fd) (T : TxtB K mg wo wn) (c_is_command : Cal P w K mg base 2 "is_command" (spIsCmd K)) : FnOk P w K mg base CX0 3 f fd ["commands"] (spCheck K) := by
  refine F.ok sc_check_commands (fun vs H Q E h => ?_) (fun cdv A outer s H vs Q E hr h => ?_)
  · obtain ⟨l, xs, cs, rfl, _⟩ := h
    rfl
  · obtain ⟨l, xs, cs, rfl, hl, hcs, hk, hn, k⟩ := h
    refine ⟨_, (pss_one (ps_for PassesOwn.never rfl (pi_enum (by rfl) T.enumerate (pa_cons (pv 0) pa_nil)) (pg_tup rfl (pgs_cons (pg_name (i := 1) sc_check_commands.nd rfl (Or.inl rfl)) (pgs_cons (pg_name (i := 2) sc_check_commands.nd rfl (Or.inl rfl)) pgs_nil))) (pss_one (ps_if (pt_not (pt_val (pe_cal c_is_command hr (by decide) (by rfl) (pa_cons (pv 2) pa_nil)))) (pss_one ps_never) pss_nil)))), ?_⟩
    refine ⟨_, rfl, l, xs, rfl, hl, for_it (walk_enum (K := K) (a := l) (xs := xs)) (fun i σ H' => ∃ v1 v2 : Option V, σ = [some (.ref l), v1, v2] ∧ Same H H')
      ⟨none, none, rfl, Same.refl H⟩ (fun i σ H' _ ⟨_, _, _, e⟩ => e.seq hl) (fun i x σ H1 H2 hi h y => ?_) (fun σ H1 h => ?_)⟩
    · obtain ⟨v1, v2, rfl, e⟩ := h
      obtain ⟨T1, x1, y1, rfl, nT, rfl, e1, e2⟩ := y
      obtain ⟨c, hc, hca⟩ := paired_at hcs e2
      have eT : Same H (upd H1 T1 (.tup [x1, y1])) := same_upd e nT
      refine ⟨T1, _, rfl, SqT.of upd_same, rfl, _, _, rfl, _, _, rfl, rfl, ?_⟩
      refine ⟨_, rfl, y1, c, rfl, hca.same eT, hk c (List.mem_of_getElem? hc), fun H3 e3 => ⟨_, rfl, iteF ?_⟩⟩
      exact ⟨_, _, rfl, eT.trans e3⟩
    · obtain ⟨v1, v2, rfl, e⟩ := h
      exact k _ e
end
end Gc

/-! running, where nothing is raised -/
namespace Gc
open PySem L2
abbrev s_check_text : Stmt := top 9
abbrev s_check_cursor : Stmt := top 10
abbrev s_run : Stmt := top 15
abbrev s_shown_column : Stmt := top 16
abbrev s_moved : Stmt := top 18
abbrev s_new_goal : Stmt := top 19
theorem at_len' {T : List Int} {r : Int} (h0 : 0 ≤ r) (h1 : r < T.length) : atI (T.map V.int) r = some (.int (lenAt T r)) := by
  have e : r = (r.toNat : Int) := by omega
  refine at_of (j := r.toNat) e ?_
  have l : r.toNat < T.length := by omega
  unfold lenAt
  rw [List.getElem?_map, List.getD_eq_getElem?_getD, List.getElem?_eq_getElem l]
  rfl
theorem minI (i j : Int) : (if j < i then j else i) = min i j := by split <;> omega
theorem maxI (i j : Int) : (if j > i then j else i) = max i j := by split <;> omega
theorem iteN1 {c A B : Prop} [Decidable c] (hc : c) (h : B) : if (!decide c) = true then A else B := by
  rw [decide_eq_true hc]
  exact iteF h
theorem iteN0 {c A B : Prop} [Decidable c] (hc : ¬ c) (h : A) : if (!decide c) = true then A else B := by
  rw [decide_eq_false hc]
  exact iteT h
def spText (K : PySem.W.Frag) : Sp := fun vs H Q _ => ∃ (t : Addr) (T : List Int), vs = [.ref t] ∧ SqL K H t (T.map V.int) ∧ T ≠ [] ∧ (∀ x ∈ T, 0 ≤ x) ∧ ∀ H', Same H H' → Q .non H'
def spCursor (K : PySem.W.Frag) : Sp := fun vs H Q _ => ∃ (n r : Int) (g : Option Int) (c : Addr), vs = [.int n, .ref c] ∧ SqT K H c [.int r, optV g] ∧ 0 ≤ r ∧ r < n ∧ ge g 0 ∧ Q .non H
def spShown : Sp := fun vs H Q _ => ∃ (t : Int) (g : Option Int), vs = [.int t, optV g] ∧ Q (.int (seen t g)) H
def spGoal (K : PySem.W.Frag) : Sp := fun vs H Q _ => ∃ (t : Int) (g : Option Int) (v : V) (c : Cmd), vs = [.int t, optV g, v] ∧ CmdAt K H v c ∧ Q (optV (aim1 t g c)) H
/-- one command: None, or the new cursor -/
def step1 (T : List Int) (r : Int) (g : Option Int) (c : Cmd) : Option (Int × Option Int) := if 0 ≤ r + c.dv ∧ r + c.dv < T.length then some (r + c.dv, aim1 (lenAt T (r + c.dv)) g c) else none
def spMoved (K : PySem.W.Frag) : Sp := fun vs H Q _ => ∃ (t b : Addr) (T : List Int) (r : Int) (g : Option Int) (v : V) (c : Cmd), vs = [.ref t, .ref b, v] ∧ SqL K H t (T.map V.int) ∧ SqT K H b [.int r, optV g] ∧ CmdAt K H v c ∧
  (step1 T r g c = none → Q .non H) ∧ ∀ r' g', step1 T r g c = some (r', g') → ∀ p, H p = none → Q (.ref p) (upd H p (.tup [.int r', optV g']))
def spRun (K : PySem.W.Frag) : Sp := fun vs H Q _ => ∃ (t b l : Addr) (T : List Int) (r : Int) (g : Option Int) (xs : List V) (cs : List Cmd) (r' : Int) (g' : Option Int), vs = [.ref t, .ref b, .ref l] ∧ SqL K H t (T.map V.int) ∧ SqT K H b [.int r, optV g] ∧ SqL K H l xs ∧ CmdsOf K H xs cs ∧
  (∀ x ∈ T, 0 ≤ x) ∧ 0 ≤ r ∧ r < T.length ∧ ge g 0 ∧ AllOk cs ∧ cs.length ≤ 10000 ∧ afterL T r g cs = some (r', g') ∧ ∀ (H' : Hp) (p : Addr), Same H H' → SqT K H' p [.int r', optV g'] → Q (.ref p) H'
theorem aim1_vert {t t' : Int} {g : Option Int} {c : Cmd} (h : c.vert = true) : aim1 t g c = g := by cases c <;> first | rfl | cases h
theorem dv_flat {c : Cmd} (h : ¬ c.vert = true) : c.dv = 0 := by cases c <;> first | rfl | exact absurd rfl h
theorem afterL_cons {T : List Int} {r : Int} {g : Option Int} {c : Cmd} {cs : List Cmd} (h0 : 0 ≤ r) (h1 : r < T.length) : afterL T r g (c :: cs) = (step1 T r g c).bind fun q => afterL T q.1 q.2 cs := by
  unfold step1
  simp only [afterL]
  by_cases v : c.vert = true
  · rw [if_pos v]
    by_cases i : 0 ≤ r + c.dv ∧ r + c.dv < T.length
    · rw [if_pos i, if_pos i, aim1_vert (t' := 0) v]
      rfl
    · rw [if_neg i, if_neg i]
      rfl
  · rw [if_neg v, dv_flat v, Int.add_zero, if_pos ⟨h0, h1⟩]
    rfl
theorem step1_in {T : List Int} {r r' : Int} {g g' : Option Int} {c : Cmd} (h : step1 T r g c = some (r', g')) : 0 ≤ r' ∧ r' < T.length := by
  unfold step1 at h
  split at h
  · rename_i i
    cases h
    exact i
  · cases h
section
variable {P : Program} {w : World} {K : PySem.W.Frag} {mg : Str → Option Value} {base : Heap} {wo wn : Addr}
theorem sc_check_text : FnScope ["text", "index", "length"] ["text"] (defScope s_check_text) := ⟨rfl, rfl, rfl, by decide +kernel, rfl, by decide +kernel, by decide +kernel⟩
theorem ok_check_text {f : Addr} {fd : FuncData} (F : Fun K "check_text" "check_text" s_check_text f fd) (T : TxtB K mg wo wn) : FnOk P w K mg base CX0 1 f fd ["text"] (spText K) := by
  refine F.ok sc_check_text (fun vs H Q E h => ?_) (fun cdv A outer s H vs Q E hr h => ?_)
  · obtain ⟨t, T, rfl, _⟩ := h
    rfl
  · obtain ⟨t, tx, rfl, ht, ne, nn, k⟩ := h
    refine ⟨_, (pss_cons (ps_if (pt_not (pt_truth (pv 0) (fun _ => rfl))) (pss_one ps_never) pss_nil)
      (pss_one (ps_for PassesOwn.never rfl (pi_enum (by rfl) T.enumerate (pa_cons (pv 0) pa_nil)) (pg_tup rfl (pgs_cons (pg_name (i := 1) sc_check_text.nd rfl (Or.inl rfl)) (pgs_cons (pg_name (i := 2) sc_check_text.nd rfl (Or.inl rfl)) pgs_nil))) (pss_one (ps_if (pt_cmpR op_lt (pv 2) pe_int (nomark _)) (pss_one ps_never) pss_nil))))), ?_⟩
    refine ⟨_, rfl, true, .inl ⟨_, ht, ?_⟩, iteF ?_⟩
    · cases tx with
      | nil => exact absurd rfl ne
      | cons x r => rfl
    refine ⟨_, rfl, t, _, rfl, ht, for_it (walk_enum (K := K) (a := t) (xs := tx.map V.int)) (fun i σ H' => ∃ v1 v2 : Option V, σ = [some (.ref t), v1, v2] ∧ Same H H')
      ⟨none, none, rfl, Same.refl H⟩ (fun i σ H' _ ⟨_, _, _, e⟩ => e.seq ht) (fun i x σ H1 H2 hi h y => ?_) (fun σ H1 h => ?_)⟩
    · obtain ⟨v1, v2, rfl, e⟩ := h
      obtain ⟨T1, x1, y1, rfl, nT, rfl, e1, e2⟩ := y
      obtain ⟨z, hz, rfl⟩ : ∃ z, tx[i]? = some z ∧ y1 = .int z := by
        have e3 : (tx.map V.int)[i]? = some y1 := e2
        rw [List.getElem?_map] at e3
        cases q : tx[i]? with
        | none =>
          rw [q] at e3
          cases e3
        | some z =>
          rw [q] at e3
          exact ⟨z, rfl, (Option.some.inj e3).symm⟩
      have z0 := nn z (List.mem_of_getElem? hz)
      refine ⟨T1, _, rfl, SqT.of upd_same, rfl, _, _, rfl, _, _, rfl, rfl, ?_⟩
      refine ⟨_, rfl, _, _, rfl, rfl, _, rfl, ite2 (fun c => absurd (of_decide_eq_true c) (by omega)) (fun _ => ?_)⟩
      exact ⟨_, _, rfl, same_upd e nT⟩
    · obtain ⟨v1, v2, rfl, e⟩ := h
      exact k _ e
theorem sc_check_cursor : FnScope ["lines", "cursor", "row", "goal"] ["lines", "cursor"] (defScope s_check_cursor) := ⟨rfl, rfl, rfl, by decide +kernel, rfl, by decide +kernel, by decide +kernel⟩
theorem ok_check_cursor {f : Addr} {fd : FuncData} (F : Fun K "check_cursor" "check_cursor" s_check_cursor f fd) : FnOk P w K mg base CX0 1 f fd ["lines", "cursor"] (spCursor K) := by
  refine F.ok sc_check_cursor (fun vs H Q E h => ?_) (fun cdv A outer s H vs Q E hr h => ?_)
  · obtain ⟨n, r, g, c, rfl, _⟩ := h
    rfl
  · obtain ⟨n, r, g, c, rfl, hc, r0, r1, g0, k⟩ := h
    refine ⟨_, (pss_cons (ps_asg (pv 1) (pg_tup rfl (pgs_cons (pg_name (i := 2) sc_check_cursor.nd rfl (Or.inl rfl)) (pgs_cons (pg_name (i := 3) sc_check_cursor.nd rfl (Or.inl rfl)) pgs_nil))))
      (pss_one (ps_if (PW.pt (pw_or (pt_not (pt_chain op_le op_lt pe_int (pv 2) (pv 0))) (pw_or1 (PW.pt (pw_and (pt_cmpR op_notN (pv 3) pe_non (nomark _)) (pw_and1 (pt_cmpR op_lt (pv 3) pe_int (nomark _)))))))) (pss_one ps_never) pss_nil))), ?_⟩
    refine ⟨_, rfl, c, _, rfl, hc, rfl, _, _, rfl, _, _, rfl, rfl, ?_⟩
    refine ⟨_, rfl, _, _, rfl, rfl, _, rfl, ite2 (fun _ => ?_) (fun c => absurd (decide_eq_true r0) c)⟩
    refine ⟨_, rfl, _, _, rfl, rfl, _, rfl, ?_⟩
    refine iteN1 r1 ?_
    cases g with
    | none => exact ⟨_, rfl, rfl, _, rfl, iteF (iteF k)⟩
    | some y =>
      have y0 := ge_some.mp g0
      refine ⟨_, rfl, rfl, _, rfl, iteT ?_⟩
      refine ⟨_, rfl, _, _, rfl, rfl, _, rfl, ite2 (fun c => absurd (of_decide_eq_true c) (by omega)) (fun _ => k)⟩
theorem sc_shown_column : FnScope ["length", "goal"] ["length", "goal"] (defScope s_shown_column) := ⟨rfl, rfl, rfl, by decide +kernel, rfl, by decide +kernel, by decide +kernel⟩
theorem ok_shown_column {f : Addr} {fd : FuncData} (F : Fun K "shown_column" "shown_column" s_shown_column f fd) (T : TxtB K mg wo wn) : FnOk P w K mg base CX0 1 f fd ["length", "goal"] spShown := by
  refine F.ok sc_shown_column (fun vs H Q E h => ?_) (fun cdv A outer s H vs Q E hr h => ?_)
  · obtain ⟨t, g, rfl, _⟩ := h
    rfl
  · obtain ⟨t, g, rfl, k⟩ := h
    refine ⟨_, (pss_one (ps_ret (pe_ifExp (pt_cmpR op_isN (pv 1) pe_non (nomark _)) (pv 0) (pe_callB (call_min2 rfl) (by rfl) T.min (by decide +kernel) (pa_cons (pv 1) (pa_cons (pv 0) pa_nil)))))), ?_⟩
    cases g with
    | none => exact ⟨_, rfl, rfl, _, rfl, iteT ⟨_, rfl, k⟩⟩
    | some y =>
      refine ⟨_, rfl, rfl, _, rfl, iteF ?_⟩
      refine ⟨_, rfl, _, rfl, _, _, rfl, ?_⟩
      show Q (.int (if t < y then t else y)) H
      rw [minI]
      exact k
theorem sc_new_goal : FnScope ["length", "goal", "command"] ["length", "goal", "command"] (defScope s_new_goal) := ⟨rfl, rfl, rfl, by decide +kernel, rfl, by decide +kernel, by decide +kernel⟩
theorem ok_new_goal {f : Addr} {fd : FuncData} (F : Fun K "new_goal" "new_goal" s_new_goal f fd) (T : TxtB K mg wo wn) (c_shown_column : Cal P w K mg base 1 "shown_column" spShown) : FnOk P w K mg base CX0 2 f fd ["length", "goal", "command"] (spGoal K) := by
  refine F.ok sc_new_goal (fun vs H Q E h => ?_) (fun cdv A outer s H vs Q E hr h => ?_)
  · obtain ⟨t, g, v, c, rfl, _⟩ := h
    rfl
  · obtain ⟨t, g, v, c, rfl, ⟨a, rfl, hc⟩, k⟩ := h
    refine ⟨_, (pss_one (ps_match (pe_ix ix_tup (pv 2) pe_int (fun _ _ => rfl)) (mc_str (pss_one (ps_ret pe_int)) (mc_str (pss_one (ps_ret pe_non)) (mc_str (pss_one (ps_ret (pe_callB (call_min2 rfl) (by rfl) T.min (by decide +kernel) (pa_cons (pe_op op_add (pe_cal c_shown_column hr (by decide) (by rfl) (pa_cons (pv 0) (pa_cons (pv 1) pa_nil))) (pe_ix ix_tup (pv 2) pe_int (fun _ _ => rfl))) (pa_cons (pv 0) pa_nil))))) (mc_str (pss_one (ps_ret (pe_callB (call_max2 rfl) (by rfl) T.max (by decide +kernel) (pa_cons (pe_op op_sub (pe_cal c_shown_column hr (by decide) (by rfl) (pa_cons (pv 0) (pa_cons (pv 1) pa_nil))) (pe_ix ix_tup (pv 2) pe_int (fun _ _ => rfl))) (pa_cons pe_int pa_nil))))) (mc_any (pss_one (ps_ret (pv 1)))))))))), ?_⟩
    cases c with
    | home => exact ⟨_, rfl, a, _, 0, _, rfl, rfl, hc, rfl, m_yes (by decide +kernel) k⟩
    | stop => exact ⟨_, rfl, a, _, 0, _, rfl, rfl, hc, rfl, m_no (by decide +kernel) (m_yes (by decide +kernel) k)⟩
    | right n =>
      refine ⟨_, rfl, a, _, 0, _, rfl, rfl, hc, rfl, m_no (by decide +kernel) (m_no (by decide +kernel) (m_yes (by decide +kernel) ?_))⟩
      refine ⟨_, rfl, _, rfl, t, g, rfl, _, rfl, a, _, 1, _, rfl, rfl, hc, rfl, _, _, rfl, rfl, _, rfl, _, _, rfl, ?_⟩
      show Q (.int (if t < seen t g + n then t else seen t g + n)) H
      rw [minI]
      exact k
    | left n =>
      refine ⟨_, rfl, a, _, 0, _, rfl, rfl, hc, rfl, m_no (by decide +kernel) (m_no (by decide +kernel) (m_no (by decide +kernel) (m_yes (by decide +kernel) ?_)))⟩
      refine ⟨_, rfl, _, rfl, t, g, rfl, _, rfl, a, _, 1, _, rfl, rfl, hc, rfl, _, _, rfl, rfl, _, _, rfl, ?_⟩
      show Q (.int (if 0 > seen t g - n then 0 else seen t g - n)) H
      rw [maxI, Int.max_comm]
      exact k
    | down n => exact ⟨_, rfl, a, _, 0, _, rfl, rfl, hc, rfl, m_no (by decide +kernel) (m_no (by decide +kernel) (m_no (by decide +kernel) (m_no (by decide +kernel) ⟨_, rfl, k⟩)))⟩
    | up n => exact ⟨_, rfl, a, _, 0, _, rfl, rfl, hc, rfl, m_no (by decide +kernel) (m_no (by decide +kernel) (m_no (by decide +kernel) (m_no (by decide +kernel) ⟨_, rfl, k⟩)))⟩
theorem sc_moved : FnScope ["text", "cursor", "command", "row"] ["text", "cursor", "command"] (defScope s_moved) := ⟨rfl, rfl, rfl, by decide +kernel, rfl, by decide +kernel, by decide +kernel⟩
theorem ok_moved {f : Addr} {fd : FuncData} (F : Fun K "moved" "moved" s_moved f fd) (T : TxtB K mg wo wn) (c_row_change : Cal P w K mg base 1 "row_change" (spRow K)) (c_new_goal : Cal P w K mg base 2 "new_goal" (spGoal K)) : FnOk P w K mg base CX0 3 f fd ["text", "cursor", "command"] (spMoved K) := by
  refine F.ok sc_moved (fun vs H Q E h => ?_) (fun cdv A outer s H vs Q E hr h => ?_)
  · obtain ⟨t, b, tx, r, g, v, c, rfl, _⟩ := h
    rfl
  · obtain ⟨t, b, tx, r, g, v, c, rfl, ht, hb, hv, kn, ks⟩ := h
    refine ⟨_, (pss_cons (ps_set (i := 3) sc_moved.nd rfl (Or.inl rfl) (pe_op op_add (pe_ix ix_tup (pv 1) pe_int (fun _ _ => rfl)) (pe_cal c_row_change hr (by decide) (by rfl) (pa_cons (pv 2) pa_nil))))
      (pss_cons (ps_if (pt_not (pt_chain op_le op_lt pe_int (pv 3) (pe_callB call_len_seq (by rfl) T.len (by decide +kernel) (pa_cons (pv 0) pa_nil)))) (pss_one (ps_ret pe_non)) pss_nil)
      (pss_one (ps_ret (pe_tup (pa_cons (pv 3) (pa_cons (pe_cal c_new_goal hr (by decide) (by rfl) (pa_cons (pe_ix ix_list (pv 0) (pv 3) (fun _ _ => rfl)) (pa_cons (pe_ix ix_tup (pv 1) pe_int (fun _ _ => rfl)) (pa_cons (pv 2) pa_nil)))) pa_nil))))))), ?_⟩
    refine ⟨_, rfl, b, _, 0, _, rfl, rfl, hb, rfl, _, rfl, v, c, rfl, hv, _, _, rfl, rfl, ?_⟩
    have out : ¬ (0 ≤ r + c.dv ∧ r + c.dv < tx.length) → Q .non H := fun z => kn (by unfold step1; rw [if_neg z])
    refine ⟨_, rfl, _, _, rfl, rfl, _, rfl, ite2 (fun c0 => ?_) (fun c0 => ?_)⟩
    · have c0' : 0 ≤ r + c.dv := of_decide_eq_true c0
      refine ⟨_, rfl, t, _, rfl, .inl ht, _, _, rfl, rfl, _, rfl, ?_⟩
      by_cases c1 : r + c.dv < tx.length
      · refine iteN1 (by rw [List.length_map]; exact c1) ?_
        refine ⟨_, rfl, _, rfl, _, rfl, t, _, _, _, rfl, rfl, ht, at_len' c0' c1, _, rfl, b, _, 1, _, rfl, rfl, hb, rfl, _, rfl, lenAt tx (r + c.dv), g, v, c, rfl, hv, (by show 2 ≤ sizeLine; decide), fun p hp => ?_⟩
        exact ks _ _ (by unfold step1; rw [if_pos ⟨c0', c1⟩]) p hp
      · refine iteN0 (by rw [List.length_map]; exact c1) ?_
        exact out fun z => c1 z.2
    · refine ⟨_, rfl, ?_⟩
      refine iteT (B := _) ?_
      exact out fun z => c0 (decide_eq_true z.1)
theorem sc_run : FnScope ["text", "cursor", "commands", "place", "index", "command"] ["text", "cursor", "commands"] (defScope s_run) := ⟨rfl, rfl, rfl, by decide +kernel, rfl, by decide +kernel, by decide +kernel⟩
theorem ok_run {f : Addr} {fd : FuncData} (F : Fun K "run" "run" s_run f fd) (T : TxtB K mg wo wn) (c_check_text : Cal P w K mg base 1 "check_text" (spText K)) (c_check_cursor : Cal P w K mg base 1 "check_cursor" (spCursor K))
    (c_check_commands : Cal P w K mg base 3 "check_commands" (spCheck K)) (c_moved : Cal P w K mg base 3 "moved" (spMoved K)) : FnOk P w K mg base CX0 4 f fd ["text", "cursor", "commands"] (spRun K) := by
  refine F.ok sc_run (fun vs H Q E h => ?_) (fun cdv A outer s H vs Q E hr h => ?_)
  · obtain ⟨t, b, l, tx, r, g, xs, cs, r', g', rfl, _⟩ := h
    rfl
  · obtain ⟨t, b, l, tx, r, g, xs, cs, r', g', rfl, ht, hb, hl, hcs, nn, r0, r1, g0, ok, ln, hrun, k⟩ := h
    refine ⟨_, (pss_cons (ps_expr (pe_cal c_check_text hr (by decide) (by rfl) (pa_cons (pv 0) pa_nil)))
      (pss_cons (ps_expr (pe_cal c_check_cursor hr (by decide) (by rfl) (pa_cons (pe_callB call_len_seq (by rfl) T.len (by decide +kernel) (pa_cons (pv 0) pa_nil)) (pa_cons (pv 1) pa_nil))))
      (pss_cons (ps_expr (pe_cal c_check_commands hr (by decide) (by rfl) (pa_cons (pv 2) pa_nil)))
      (pss_cons (ps_set (i := 3) sc_run.nd rfl (Or.inl rfl) (pv 1))
      (pss_cons (ps_for PassesOwn.never rfl (pi_enum (by rfl) T.enumerate (pa_cons (pv 2) pa_nil)) (pg_tup rfl (pgs_cons (pg_name (i := 4) sc_run.nd rfl (Or.inl rfl)) (pgs_cons (pg_name (i := 5) sc_run.nd rfl (Or.inl rfl)) pgs_nil))) (pss_cons (ps_set (i := 3) sc_run.nd rfl (Or.inl rfl) (pe_cal c_moved hr (by decide) (by rfl) (pa_cons (pv 0) (pa_cons (pv 3) (pa_cons (pv 5) pa_nil)))))
      (pss_one (ps_if (pt_cmpR op_isN (pv 3) pe_non (nomark _)) (pss_one ps_never) pss_nil))))
      (pss_one (ps_ret (pv 3)))))))), ?_⟩
    refine ⟨_, rfl, t, tx, rfl, ht, (by intro z; subst z; simp at r1; omega), nn, fun H1 e1 => ?_⟩
    refine ⟨_, rfl, t, _, rfl, .inl (e1.seq ht), _, rfl, (tx.map V.int).length, r, g, b, rfl, seq_t e1 hb, r0, by rw [List.length_map]; exact r1, g0, ?_⟩
    refine ⟨_, rfl, l, xs, cs, rfl, e1.seq hl, hcs.same e1, ok, ln, fun H2 e2 => ?_⟩
    have e12 := e1.trans e2
    refine ⟨_, rfl, ?_⟩
    refine ⟨_, rfl, l, _, rfl, e12.seq hl, for_it (walk_enum (K := K) (a := l) (xs := xs)) (fun i σ H' => ∃ (p : Addr) (rr : Int) (gg : Option Int) (v1 v2 : Option V), σ = [some (.ref t), some (.ref b), some (.ref l), some (.ref p), v1, v2] ∧ Same H H' ∧ SqT K H' p [.int rr, optV gg] ∧ 0 ≤ rr ∧ rr < tx.length ∧ afterL tx rr gg (cs.drop i) = some (r', g'))
      ⟨b, r, g, none, none, rfl, e12, seq_t e12 hb, r0, r1, hrun⟩ (fun i σ H' _ ⟨_, _, _, _, _, _, e, _⟩ => e.seq hl) (fun i x σ H3 H4 hi h y => ?_) (fun σ H3 h => ?_)⟩
    · obtain ⟨p, rr, gg, v1, v2, rfl, e3, hp, q0, q1, hgo⟩ := h
      obtain ⟨T1, x1, y1, rfl, nT, rfl, ex1, ex2⟩ := y
      obtain ⟨c, hc, hca⟩ := paired_at hcs ex2
      have hdrop : cs.drop i = c :: cs.drop (i + 1) := by
        obtain ⟨h1, h2⟩ := List.getElem?_eq_some_iff.mp hc
        rw [List.drop_eq_getElem_cons h1, h2]
      rw [hdrop, afterL_cons q0 q1] at hgo
      have eT : Same H3 (upd H3 T1 (.tup [x1, y1])) := same_upd (Same.refl _) nT
      have eHT := e3.trans eT
      obtain ⟨⟨r2, g2⟩, hst, hrest⟩ := Option.bind_eq_some_iff.mp hgo
      have hin := step1_in hst
      refine ⟨T1, _, rfl, SqT.of upd_same, rfl, _, _, rfl, _, _, rfl, rfl, ?_⟩
      refine ⟨_, rfl, _, rfl, _, rfl, t, p, tx, rr, gg, y1, c, rfl, eHT.seq ht, seq_t eT hp, hca.same eHT, (fun z => by rw [hst] at z; cases z), fun r3 g3 z p3 np3 => ?_⟩
      rw [hst] at z
      cases z
      have e4 : Same (upd H3 T1 (.tup [x1, y1])) (upd (upd H3 T1 (.tup [x1, y1])) p3 (.tup [.int r2, optV g2])) := same_upd (Same.refl _) np3
      refine ⟨_, rfl, rfl, _, rfl, iteF ?_⟩
      exact ⟨p3, r2, g2, _, _, rfl, eHT.trans e4, SqT.of upd_same, hin.1, hin.2, hrest⟩
    · obtain ⟨p, rr, gg, v1, v2, rfl, e3, hp, q0, q1, hgo⟩ := h
      rw [hcs.len, List.drop_length] at hgo
      have z : (rr, gg) = (r', g') := Option.some.inj hgo
      cases z
      exact ⟨_, rfl, k _ p e3 hp⟩
end
end Gc

/-! the source of numbers of the laws over origins and counts: a dict -/
namespace Gc
open PySem L2
abbrev s_bag : Stmt := top 27
abbrev s_bdraw : Stmt := top 28
def bagK (g : Addr) (lf tn bl : Int) : List (L2.Key × V) := [(.inr "great", .ref g), (.inr "left", .int lf), (.inr "turn", .int tn), (.inr "blend", .int bl)]
def Bag (H : Hp) (b g : Addr) (n : Nat) : Prop := ∃ (gs : List Int) (lf tn bl : Int), H b = some (.dK (bagK g lf tn bl)) ∧ H g = some (.lst (gs.map V.int)) ∧ gs.length ≤ 63 ∧ 0 ≤ tn ∧ tn ≤ n ∧ 0 ≤ bl ∧ bl < 2 ^ 61
theorem Bag.ne {H : Hp} {b g : Addr} {n : Nat} (h : Bag H b g n) : b ≠ g := by
  obtain ⟨_, _, _, _, h1, h2, _⟩ := h
  exact ne_of h1 h2 (by intro q; cases q)
theorem Bag.same {H H' : Hp} {b g : Addr} {n : Nat} (e : Same H H') (h : Bag H b g n) : Bag H' b g n := by
  obtain ⟨gs, lf, tn, bl, h1, h2, h3⟩ := h
  exact ⟨gs, lf, tn, bl, e _ _ h1, e _ _ h2, h3⟩
theorem Bag.more {H : Hp} {b g : Addr} {n m : Nat} (h : Bag H b g n) (l : n ≤ m) : Bag H b g m := by
  obtain ⟨gs, lf, tn, bl, h1, h2, h3, h4, h5, h6⟩ := h
  exact ⟨gs, lf, tn, bl, h1, h2, h3, h4, by omega, h6⟩
theorem n_gl : ¬ (Sum.inr "great" : L2.Key) = .inr "left" := by decide +kernel
theorem n_gt : ¬ (Sum.inr "great" : L2.Key) = .inr "turn" := by decide +kernel
theorem n_lt : ¬ (Sum.inr "left" : L2.Key) = .inr "turn" := by decide +kernel
theorem n_gb : ¬ (Sum.inr "great" : L2.Key) = .inr "blend" := by decide +kernel
theorem n_lb : ¬ (Sum.inr "left" : L2.Key) = .inr "blend" := by decide +kernel
theorem n_tb : ¬ (Sum.inr "turn" : L2.Key) = .inr "blend" := by decide +kernel
theorem small_n {n : Nat} (h : n ≤ 1000) : n < sizeLine := by
  rw [sizeLine_eq]
  omega
theorem val_great (g : Addr) (lf tn bl : Int) : valV (bagK g lf tn bl) (.inr "great" : L2.Key) = some (.ref g) := valV_pos rfl
theorem val_left (g : Addr) (lf tn bl : Int) : valV (bagK g lf tn bl) (.inr "left" : L2.Key) = some (.int lf) := (valV_neg n_gl).trans (valV_pos rfl)
theorem val_turn (g : Addr) (lf tn bl : Int) : valV (bagK g lf tn bl) (.inr "turn" : L2.Key) = some (.int tn) := (valV_neg n_gt).trans ((valV_neg n_lt).trans (valV_pos rfl))
theorem val_blend (g : Addr) (lf tn bl : Int) : valV (bagK g lf tn bl) (.inr "blend" : L2.Key) = some (.int bl) :=
  (valV_neg n_gb).trans ((valV_neg n_lb).trans ((valV_neg n_tb).trans (valV_pos rfl)))
theorem get_great {H : Hp} {b g : Addr} {lf tn bl : Int} (h : H b = some (.dK (bagK g lf tn bl))) : DGet H b (.str "great") (some (.ref g)) := val_great g lf tn bl ▸ DGet.k (k := .inr "great") h
theorem get_left {H : Hp} {b g : Addr} {lf tn bl : Int} (h : H b = some (.dK (bagK g lf tn bl))) : DGet H b (.str "left") (some (.int lf)) := val_left g lf tn bl ▸ DGet.k (k := .inr "left") h
theorem get_turn {H : Hp} {b g : Addr} {lf tn bl : Int} (h : H b = some (.dK (bagK g lf tn bl))) : DGet H b (.str "turn") (some (.int tn)) := val_turn g lf tn bl ▸ DGet.k (k := .inr "turn") h
theorem get_blend {H : Hp} {b g : Addr} {lf tn bl : Int} (h : H b = some (.dK (bagK g lf tn bl))) : DGet H b (.str "blend") (some (.int bl)) := val_blend g lf tn bl ▸ DGet.k (k := .inr "blend") h
theorem put_left (g : Addr) (lf tn bl v : Int) : putK (bagK g lf tn bl) (.inr "left" : L2.Key) (.int v) = bagK g v tn bl := by
  unfold putK bagK
  rfl
theorem put_turn (g : Addr) (lf tn bl v : Int) : putK (bagK g lf tn bl) (.inr "turn" : L2.Key) (.int v) = bagK g lf v bl := by
  unfold putK bagK
  rfl
theorem dput_left {H : Hp} {b g : Addr} {lf tn bl : Int} (v : Int) (h : H b = some (.dK (bagK g lf tn bl))) : DPut H b (.str "left") (.int v) (upd H b (.dK (bagK g v tn bl))) := put_left g lf tn bl v ▸ DPut.k (k := .inr "left") h (by show 4 < sizeLine; decide)
theorem dput_turn {H : Hp} {b g : Addr} {lf tn bl : Int} (v : Int) (h : H b = some (.dK (bagK g lf tn bl))) : DPut H b (.str "turn") (.int v) (upd H b (.dK (bagK g lf v bl))) := put_turn g lf tn bl v ▸ DPut.k (k := .inr "turn") h (by show 4 < sizeLine; decide)
def spBag (K : PySem.W.Frag) : Sp := fun vs H Q _ => ∃ (a : Addr) (ns : List Int), vs = [.ref a] ∧ SqL K H a (ns.map V.int) ∧ ns.length ≤ 63 ∧
  ∀ (H' : Hp) (b g : Addr), Same H H' → H b = none → H g = none → Bag H' b g 0 → Q (.ref b) H'
def spBdraw : Sp := fun vs H Q _ => ∃ (b g : Addr) (n : Nat) (many : Int), vs = [.ref b, .int many] ∧ Bag H b g n ∧ n < 2 ^ 40 ∧ 0 < many ∧ many.natAbs.log2 < 9000 ∧
  ∀ (H' : Hp) (r : Int), Keep b g H H' → Bag H' b g (n + 1) → 0 ≤ r → r < many → Q (.int r) H'
structure TxtC (mg : Str → Option Value) : Prop where
  abs : mg "abs" = none
  len : mg "len" = none
  range : mg "range" = none
  min : mg "min" = none
  max : mg "max" = none
  int : mg "int" = none
  list : mg "list" = none
section
variable {P : Program} {w : World} {K : PySem.W.Frag} {mg : Str → Option Value} {base : Heap}
theorem sc_law_bag : FnScope ["script", "blend", "great", "cell"] ["script"] (defScope s_bag) := ⟨rfl, rfl, rfl, by decide +kernel, rfl, by decide +kernel, by decide +kernel⟩
theorem ok_bag {f : Addr} {fd : FuncData} (F : Fun K "_law_bag" "_law_bag" s_bag f fd) (T : TxtC mg) : FnOk P w K mg base CX0 1 f fd ["script"] (spBag K) := by
  refine F.ok sc_law_bag (fun vs H Q E h => ?_) (fun cdv A outer s H vs Q E hr h => ?_)
  · obtain ⟨a, ns, rfl, _⟩ := h
    rfl
  · obtain ⟨a, ns, rfl, hS, hlen, k⟩ := h
    refine ⟨_, (pss_cons (ps_par (i := 1) (j := 2) rfl sc_law_bag.nd rfl rfl (by decide) rfl rfl (pa_cons pe_int (pa_cons (pe_lst pa_nil) pa_nil)) (by rfl))
      (pss_cons (ps_for PassesOwn.never rfl (pi_list (pv 0)) (pg_name (i := 3) sc_law_bag.nd rfl (Or.inl rfl)) (pss_cons (ps_set (i := 1) sc_law_bag.nd rfl (Or.inl rfl) (pe_op op_mod (pe_op op_add (pe_op op_mulW (pv 1) pe_int) (pv 3)) pe_int))
      (pss_one (ps_if (pt_cmpR op_ge (pe_callB call_abs (by rfl) T.abs (by decide +kernel) (pa_cons (pv 3) pa_nil)) (pe_op op_pow pe_int pe_int) (nomark _)) (pss_one (ps_expr (pe_bm PySem.F.plainAttrs_list PySem.F.slot_list_append PySem.F.type_list_append mt_append (pv 2) (pa_cons (pe_callB call_abs (by rfl) T.abs (by decide +kernel) (pa_cons (pv 3) pa_nil)) pa_nil)))) pss_nil))))
      (pss_one (ps_ret (pe_disp (pps_cons pe_str (pv 2) (pps_cons pe_str pe_int (pps_cons pe_str pe_int (pps_cons pe_str (pv 1) pps_nil)))) rfl rfl (by simp) (by decide)))))), ?_⟩
    refine ⟨Nat.zero_le _, fun g hg => ?_⟩
    have s0 : Same H (upd H g (.lst [])) := same_upd (Same.refl _) hg
    refine ⟨_, _, rfl, ?_⟩
    refine ⟨_, rfl, a, rfl, ⟨_, s0.seq hS⟩, for_list (K := K) (a := a) (xs := ns.map V.int) (fun i σ H' => ∃ (bl : Int) (gs : List Int) (v3 : Option V), σ = [some (.ref a), some (.int bl), some (.ref g), v3] ∧ Same H H' ∧ H' g = some (.lst (gs.map V.int)) ∧ gs.length ≤ i ∧ 0 ≤ bl ∧ bl < 2 ^ 61)
      ⟨11, [], none, rfl, s0, upd_same, Nat.le_refl _, by decide, by decide⟩ (fun i σ H' _ ⟨_, _, _, _, e, _⟩ => e.seq hS) (fun i y σ H1 hi h => ?_) (fun σ H1 h => ?_)⟩
    · obtain ⟨bl, gs, v3, rfl, e1, hg1, gl, b0, b1⟩ := h
      obtain ⟨u, rfl⟩ := int_at hi
      have li := (List.getElem?_eq_some_iff.mp hi).1
      rw [List.length_map] at li
      have n1 := Int.emod_nonneg (bl * 1000003 + u) (show (2305843009213693951 : Int) ≠ 0 by decide)
      have n2 := Int.emod_lt_of_pos (bl * 1000003 + u) (show (0 : Int) < 2305843009213693951 by decide)
      have n3 : (2305843009213693951 : Int) < 2 ^ 61 := by decide
      refine ⟨_, rfl, _, _, rfl, rfl, wide_mul (a := 61) (b := 61) (by omega) (by decide) (by decide) (by decide) (by decide), _, rfl, _, _, rfl, rfl, _, _, rfl, rfl, (show (0 : Int) < 2305843009213693951 by decide), ?_⟩
      refine ⟨_, rfl, _, rfl, ?_⟩
      generalize (if u < 0 then -u else u) = z
      refine ⟨_, _, rfl, rfl, cpow (by decide), _, _, rfl, rfl, _, rfl, ite2 (fun _ => ?_) (fun _ => ?_)⟩
      · refine ⟨_, rfl, .inl ⟨rfl, _, SqL.of hg1⟩, _, rfl, _, rfl, g, _, _, rfl, rfl, hg1, small_n (by rw [List.length_map]; omega), ?_⟩
        generalize (if u < 0 then -u else u) = z2
        refine ⟨_, gs ++ [z2], _, rfl, same_freeU e1 hg, ?_, ?_, n1, by omega⟩
        · rw [upd_same, List.map_append]
          rfl
        · rw [List.length_append, List.length_singleton]
          omega
      · exact ⟨_, gs, _, rfl, e1, hg1, by omega, n1, by omega⟩
    · obtain ⟨bl, gs, v3, rfl, e1, hg1, gl, b0, b1⟩ := h
      refine fun p hp => ⟨_, rfl, _, rfl, upd_same, bagK g 0 0 bl, rfl, (by show 4 ≤ 15; decide), ?_⟩
      have gp : g ≠ p := ne_of_none hg1 hp
      refine k _ p g ?_ (e1.free hp) hg ⟨gs, 0, 0, bl, upd_same, ?_, ?_, by decide, by decide, b0, b1⟩
      · exact same_freeU (same_upd e1 hp) (e1.free hp)
      · rw [upd_ne gp, upd_ne gp]
        exact hg1
      · rw [List.length_map] at gl
        omega
theorem sc_law_draw : FnScope ["bag", "many", "drawn", "turn", "mixed"] ["bag", "many"] (defScope s_bdraw) := ⟨rfl, rfl, rfl, by decide +kernel, rfl, by decide +kernel, by decide +kernel⟩
theorem ok_bdraw {f : Addr} {fd : FuncData} (F : Fun K "_law_draw" "_law_draw" s_bdraw f fd) (T : TxtC mg) : FnOk P w K mg base CX0 1 f fd ["bag", "many"] spBdraw := by
  refine F.ok sc_law_draw (fun vs H Q E h => ?_) (fun cdv A outer s H vs Q E hr h => ?_)
  · obtain ⟨b, g, n, many, rfl, _⟩ := h
    rfl
  · obtain ⟨b, g, n, many, rfl, hs, hn, m0, mb, k⟩ := h
    have bg := hs.ne
    obtain ⟨gs, lf, tn, bl, hb, hg, gl, t0, t1, b0, b1⟩ := hs
    refine ⟨_, (C8.pss_cut (ps_if (PW.pt (pw_and (pt_cmpR op_lt (pe_dget (hu_of hr) (pv 0) pe_str (fun _ _ => rfl)) (pv 1) (nomark _)) (pw_and1 (pt_cmpR op_gt (pe_callB call_len_seq (by rfl) T.len (by decide +kernel) (pa_cons (pe_dget (hu_of hr) (pv 0) pe_str (fun _ _ => rfl)) pa_nil)) pe_int (nomark _))))) (pss_one (ps_dput (hu_of hr) (pv 0) pe_str (pe_bm PySem.F.plainAttrs_list PySem.F.slot_list_pop PySem.F.type_list_pop mt_popAt (pe_dget (hu_of hr) (pv 0) pe_str (fun _ _ => rfl)) (pa_cons pe_int pa_nil)) rfl)) pss_nil)
      (pss_cons (ps_if (pt_cmpR op_ge (pe_dget (hu_of hr) (pv 0) pe_str (fun _ _ => rfl)) (pv 1) (nomark _)) (pss_cons (ps_set (i := 2) sc_law_draw.nd rfl (Or.inl rfl) (pe_op op_mod (pe_dget (hu_of hr) (pv 0) pe_str (fun _ _ => rfl)) (pv 1)))
      (pss_cons (ps_dput (hu_of hr) (pv 0) pe_str (pe_op op_fdivW (pe_dget (hu_of hr) (pv 0) pe_str (fun _ _ => rfl)) (pv 1)) rfl)
      (pss_one (ps_ret (pv 2))))) pss_nil)
      (pss_cons (ps_daug (hu_of hr) (pv 0) pe_str pe_int in_add (fun _ _ _ => rfl))
      (pss_cons (ps_set (i := 3) sc_law_draw.nd rfl (Or.inl rfl) (pe_dget (hu_of hr) (pv 0) pe_str (fun _ _ => rfl)))
      (pss_cons (ps_set (i := 4) sc_law_draw.nd rfl (Or.inl rfl) (pe_op op_add (pe_op op_mulW (pe_op op_add (pe_dget (hu_of hr) (pv 0) pe_str (fun _ _ => rfl)) (pe_op op_mulW pe_int (pv 3))) (pe_op op_pow (pe_op op_add (pv 3) pe_int) pe_int)) (pe_op op_mulW pe_int (pv 3))))
      (pss_one (ps_ret (pe_op op_mod (pe_op op_fdivW (pe_op op_mod (pe_op op_pow (pe_op op_mod (pv 4) pe_int) pe_int) (pe_op op_add (pe_op op_pow pe_int pe_int) pe_int)) pe_int) (pv 1))))))))), ?_⟩
    refine ⟨fun σ H' => σ = [some (.ref b), some (.int many), none, none, none] ∧ Keep b g H H' ∧ ∃ (gs : List Int) (lf : Int), H' b = some (.dK (bagK g lf tn bl)) ∧ H' g = some (.lst (gs.map V.int)) ∧ gs.length ≤ 63, ?_, ?_⟩
    · refine ⟨_, rfl, b, _, rfl, get_left hb, _, rfl, _, _, rfl, rfl, _, rfl, ite2 (fun c => ?_) (fun c => ?_)⟩
      · refine ⟨_, rfl, b, _, rfl, get_great hb, g, _, rfl, .inl (SqL.of hg), _, _, rfl, rfl, _, rfl, ite2 (fun c2 => ?_) (fun c2 => ?_)⟩
        · cases gs with
          | nil => simp at c2
          | cons g0 gr =>
            refine ⟨_, rfl, b, _, rfl, get_great hb, .inl ⟨rfl, _, SqL.of hg⟩, g, _, 0, 0, V.int g0, rfl, rfl, hg, by decide, by decide, seqIndex_of (by decide) (by simp), rfl, ?_⟩
            have hb1 : upd H g (.lst (((g0 :: gr).map V.int).eraseIdx 0)) b = some (.dK (bagK g lf tn bl)) := by
              rw [upd_ne bg]
              exact hb
            refine ⟨_, rfl, b, _, rfl, dput_left g0 hb1, ?_⟩
            refine ⟨rfl, ?_, gr, g0, upd_same, ?_, ?_⟩
            · exact fun x o n1 n2 hx => by rw [upd_ne n1, upd_ne n2]; exact hx
            · rw [upd_ne bg.symm, upd_same]
              rfl
            · rw [List.length_cons] at gl
              omega
        · exact ⟨rfl, Keep.refl H, gs, lf, hb, hg, gl⟩
      · exact iteF ⟨rfl, Keep.refl H, gs, lf, hb, hg, gl⟩
    · rintro σ H1 ⟨rfl, kp, gs1, lf1, hb1, hg1, gl1⟩
      refine ⟨_, rfl, b, _, rfl, get_left hb1, _, rfl, _, _, rfl, rfl, _, rfl, ite2 (fun c => ?_) (fun c => ?_)⟩
      · refine ⟨_, rfl, b, _, rfl, get_left hb1, _, rfl, _, _, rfl, rfl, m0, ?_⟩
        refine ⟨_, rfl, b, _, rfl, get_left hb1, _, rfl, _, _, rfl, rfl, ⟨m0, mb⟩, ?_⟩
        refine ⟨_, rfl, b, _, rfl, dput_left _ hb1, ?_⟩
        refine ⟨_, rfl, k _ _ (kp.trans ((Keep.refl H1).upd1 (a := b) (d := g))) ⟨gs1, _, tn, bl, upd_same, ?_, gl1, t0, by omega, b0, b1⟩ (Int.emod_nonneg _ (by omega)) (Int.emod_lt_of_pos _ m0)⟩
        rw [upd_ne bg.symm]
        exact hg1
      · -- bag['turn'] += 1
        refine ⟨_, rfl, b, _, rfl, get_turn hb1, _, _, rfl, rfl, _, dput_turn _ hb1, ?_⟩
        have hb2 : upd H1 b (.dK (bagK g lf1 (tn + 1) bl)) b = some (.dK (bagK g lf1 (tn + 1) bl)) := upd_same
        have hg2 : upd H1 b (.dK (bagK g lf1 (tn + 1) bl)) g = some (.lst (gs1.map V.int)) := by
          rw [upd_ne bg.symm]
          exact hg1
        have kp2 : Keep b g H (upd H1 b (.dK (bagK g lf1 (tn + 1) bl))) := kp.trans ((Keep.refl H1).upd1 (a := b) (d := g))
        generalize upd H1 b (.dK (bagK g lf1 (tn + 1) bl)) = H2 at hb2 hg2 kp2 ⊢
        refine ⟨_, rfl, b, _, rfl, get_turn hb2, ?_⟩
        have t2 : tn + 1 < 2 ^ 41 := by omega
        refine ⟨_, rfl, b, _, rfl, get_blend hb2, _, rfl, _, _, rfl, rfl, wide_mul (a := 61) (b := 61) (by decide) (by omega) (by decide) (by decide) (by decide), _, _, rfl, rfl, _, rfl, _, _, rfl, rfl, _, _, rfl, rfl, ⟨by decide, by decide, by omega⟩,
          _, _, rfl, rfl, wide_mul (a := 64) (b := 128) (by omega) (pow_small (a := 42) (k := 2) (b := 128) (by omega) (by decide)) (by decide) (by decide) (by decide), _, rfl, _, _, rfl, rfl, wide_mul (a := 61) (b := 61) (by decide) (by omega) (by decide) (by decide) (by decide), _, _, rfl, rfl, ?_⟩
        generalize (bl + 17 * (tn + 1)) * (tn + 1 + 29) ^ (2 : Int).toNat + 7919 * (tn + 1) = mx
        have n1 := Int.emod_nonneg mx (show (2305843009213693951 : Int) ≠ 0 by decide)
        have n2 := Int.emod_lt_of_pos mx (show (0 : Int) < 2305843009213693951 by decide)
        refine ⟨_, rfl, _, _, rfl, rfl, (show (0 : Int) < 2305843009213693951 by decide), _, _, rfl, rfl, ⟨by decide, by decide, by omega⟩, _, _, rfl, rfl, cpow (by decide), _, _, rfl, rfl, _, _, rfl, rfl, (show (0 : Int) < 10 ^ (18 : Int).toNat + 9 by decide), _, _, rfl, rfl, ⟨by decide, by decide⟩, _, rfl, _, _, rfl, rfl, m0, ?_⟩
        exact k _ _ kp2 ⟨gs1, lf1, tn + 1, bl, hb2, hg2, gl1, by omega, by omega, b0, b1⟩ (Int.emod_nonneg _ (by omega)) (Int.emod_lt_of_pos _ m0)
end
end Gc

/-! lists of commands drawn from the bag -/
namespace Gc
open PySem L2
abbrev s_moves : Stmt := top 29
theorem Keep.freeB {a d l : Addr} {H H' : Hp} {o : HO} (e : Keep a d H H') (h : H l = none) : Keep a d H (upd H' l o) := fun b u h1 h2 hb => by
  rw [upd_ne (ne_of_none hb h)]
  exact e b u h1 h2 hb
theorem Keep.tup {K : PySem.W.Frag} {H H' : Hp} {b g a : Addr} {n : Nat} {ys : List V} (e : Keep b g H H') (B : Bag H b g n) (h : SqT K H a ys) : SqT K H' a ys := by
  obtain ⟨_, _, _, _, h1, h2, _⟩ := B
  rcases h with (z | ⟨o, z⟩) | z
  · exact .inl (.inl (e _ _ (ne_of z h1 (by intro q; cases q)) (ne_of z h2 (by intro q; cases q)) z))
  · exact .inl (.inr ⟨o, e _ _ (ne_of z h1 (by intro q; cases q)) (ne_of z h2 (by intro q; cases q)) z⟩)
  · exact .inr z
theorem CmdAt.keepB {K : PySem.W.Frag} {H H' : Hp} {b g : Addr} {n : Nat} {v : V} {c : Cmd} (e : Keep b g H H') (B : Bag H b g n) (h : CmdAt K H v c) : CmdAt K H' v c := by
  obtain ⟨a, e1, h1⟩ := h
  exact ⟨a, e1, e.tup B h1⟩
theorem CmdsOf.keepB {K : PySem.W.Frag} {H H' : Hp} {b g : Addr} {n : Nat} {xs : List V} {cs : List Cmd} (e : Keep b g H H') (B : Bag H b g n) (h : CmdsOf K H xs cs) : CmdsOf K H' xs cs := Paired.mapP h fun _ _ q => q.keepB e B
theorem CmdsOf.lput {K : PySem.W.Frag} {H : Hp} {l : Addr} {ys zs : List V} {xs : List V} {cs : List Cmd} (hl : H l = some (.lst ys)) (h : CmdsOf K H xs cs) : CmdsOf K (upd H l (.lst zs)) xs cs := Paired.mapP h fun _ _ q => by
  obtain ⟨a, e1, h1⟩ := q
  refine ⟨a, e1, ?_⟩
  rcases h1 with (z | ⟨o, z⟩) | z
  · exact .inl (.inl (by rw [upd_ne (ne_of z hl (by intro q; cases q))]; exact z))
  · exact .inl (.inr ⟨o, by rw [upd_ne (ne_of z hl (by intro q; cases q))]; exact z⟩)
  · exact .inr z
theorem Paired.snocB {α β : Type} {F : α → β → Prop} : ∀ {xs : List α} {ys : List β} {x : α} {y : β}, Paired F xs ys → F x y → Paired F (xs ++ [x]) (ys ++ [y])
  | _, _, _, _, .nil, h => .cons h .nil
  | _, _, _, _, .cons f t, h => .cons f (Paired.snocB t h)
/-- H l = none before the bag's address was taken: they differ -/
theorem Bag.off {H : Hp} {b g l : Addr} {n : Nat} (B : Bag H b g n) (h : H l = none) : l ≠ b ∧ l ≠ g := by
  obtain ⟨_, _, _, _, h1, h2, _⟩ := B
  exact ⟨(ne_of_none h1 h).symm, (ne_of_none h2 h).symm⟩
def spMoves (K : PySem.W.Frag) : Sp := fun vs H Q _ => ∃ (b g : Addr) (n : Nat) (many far : Int), vs = [.ref b, .int many, .int far] ∧ Bag H b g n ∧ n < 2 ^ 39 ∧ 0 ≤ many ∧ many ≤ 20 ∧ 1 ≤ far ∧ far ≤ 10 ^ 30 ∧
  ∀ (H' : Hp) (l : Addr) (xs : List V) (cs : List Cmd), Keep b g H H' → Bag H' b g (n + 130) → H l = none → H' l = some (.lst xs) → CmdsOf K H' xs cs → AllOk cs → (∀ c ∈ cs, CSml c) → (cs.length : Int) ≤ many → Q (.ref l) H'
theorem log9B {x : Int} {k : Nat} (h : x.natAbs < 2 ^ k) (hk : k < 9000) : x.natAbs.log2 < 9000 := by
  have := PySem.Flt.log2_lt_of (k := k + 1) (Nat.succ_pos _) (Nat.lt_trans h (Nat.pow_lt_pow_right (by decide) (Nat.lt_succ_self k)))
  omega
def MI (K : PySem.W.Frag) (H : Hp) (b g l : Addr) (n i : Nat) (H' : Hp) (xs : List V) (cs : List Cmd) : Prop := Keep b g H H' ∧ Bag H' b g (n + 1 + 6 * i) ∧ H' l = some (.lst xs) ∧ CmdsOf K H' xs cs ∧ AllOk cs ∧ cs.length ≤ i ∧ ∀ c ∈ cs, CSml c
theorem mi_step {K : PySem.W.Frag} {H H1 H6 : Hp} {b g l t : Addr} {n i : Nat} {xs : List V} {cs : List Cmd} {c : Cmd} (lb : l ≠ b) (lg : l ≠ g) (hl0 : H l = none) (h : MI K H b g l n i H1 xs cs) (k : Keep b g H1 H6) (B : Bag H6 b g (n + 1 + 6 * i + 6))
    (ht : H6 t = none) (ok : c.ok) (sm : CSml c) : MI K H b g l n (i + 1) (upd (upd H6 t (.tup (encC c))) l (.lst (xs ++ [.ref t]))) (xs ++ [.ref t]) (cs ++ [c]) := by
  obtain ⟨a1, a2, a3, a4, a5, a6, a7⟩ := h
  have b3 := k _ _ lb lg a3
  have tl : t ≠ l := (ne_of_none b3 ht).symm
  have s1 : Same H6 (upd H6 t (.tup (encC c))) := same_upd (Same.refl H6) ht
  have b3' := s1 _ _ b3
  refine ⟨fun x o n1 n2 hx => ?_, ?_, upd_same, Paired.snocB (((a4.keepB k a2).same s1).lput b3') ⟨t, rfl, SqT.of ?_⟩, ?_, ?_, ?_⟩
  · rw [upd_ne (ne_of_none hx hl0)]
    exact s1 _ _ (k _ _ n1 n2 (a1 _ _ n1 n2 hx))
  · obtain ⟨gs, lf, tn, bl, h1, h2, h3, h4, h5, h6⟩ := B
    exact ⟨gs, lf, tn, bl, by rw [upd_ne lb.symm]; exact s1 _ _ h1, by rw [upd_ne lg.symm]; exact s1 _ _ h2, h3, h4, by omega, h6⟩
  · rw [upd_ne tl]
    exact upd_same
  · intro d hd
    rcases List.mem_append.mp hd with q | q
    · exact a5 d q
    · rw [List.mem_singleton.mp q]
      exact ok
  · rw [List.length_append, List.length_singleton]
    omega
  · intro d hd
    rcases List.mem_append.mp hd with q | q
    · exact a7 d q
    · rw [List.mem_singleton.mp q]
      exact sm
section
variable {P : Program} {w : World} {K : PySem.W.Frag} {mg : Str → Option Value} {base : Heap}
theorem sc_law_moves : FnScope ["bag", "many", "far", "found", "number", "way", "size"] ["bag", "many", "far"] (defScope s_moves) := ⟨rfl, rfl, rfl, by decide +kernel, rfl, by decide +kernel, by decide +kernel⟩
theorem ok_moves {f : Addr} {fd : FuncData} (F : Fun K "_law_moves" "_law_moves" s_moves f fd) (T : TxtC mg) (c_law_draw : Cal P w K mg base 1 "_law_draw" spBdraw) : FnOk P w K mg base CX0 2 f fd ["bag", "many", "far"] (spMoves K) := by
  refine F.ok sc_law_moves (fun vs H Q E h => ?_) (fun cdv A outer s H vs Q E hr h => ?_)
  · obtain ⟨b, g, n, many, far, rfl, _⟩ := h
    rfl
  · obtain ⟨b, g, n, many, far, rfl, B, hn, m0, m1, z0, z1, k⟩ := h
    refine ⟨_, (pss_cons (ps_set (i := 3) sc_law_moves.nd rfl (Or.inl rfl) (pe_lst pa_nil))
      (pss_cons (ps_for PassesOwn.never rfl (pi_range1 rfl T.range (pa_cons (pe_cal c_law_draw hr (by decide) (by rfl) (pa_cons (pv 0) (pa_cons (pe_op op_add (pv 1) pe_int) pa_nil))) pa_nil)) (pg_name (i := 4) sc_law_moves.nd rfl (Or.inl rfl)) (pss_cons (ps_set (i := 5) sc_law_moves.nd rfl (Or.inl rfl) (pe_cal c_law_draw hr (by decide) (by rfl) (pa_cons (pv 0) (pa_cons pe_int pa_nil))))
      (pss_cons (ps_set (i := 6) sc_law_moves.nd rfl (Or.inl rfl) (pe_op op_add pe_int (pe_ix ix_tup (pe_tup (pa_cons (pe_cal c_law_draw hr (by decide) (by rfl) (pa_cons (pv 0) (pa_cons pe_int pa_nil))) (pa_cons (pe_cal c_law_draw hr (by decide) (by rfl) (pa_cons (pv 0) (pa_cons (pv 2) pa_nil))) pa_nil))) (pe_cal c_law_draw hr (by decide) (by rfl) (pa_cons (pv 0) (pa_cons pe_int pa_nil))) (fun _ _ => rfl))))
      (pss_one (ps_if (pt_cmpR op_lt (pv 5) pe_int (nomark _)) (pss_one (ps_expr (pe_bm PySem.F.plainAttrs_list PySem.F.slot_list_append PySem.F.type_list_append mt_append (pv 3) (pa_cons (pe_tup (pa_cons pe_str (pa_cons (pv 6) pa_nil))) pa_nil)))) (pss_one (ps_if (pt_cmpR op_lt (pv 5) pe_int (nomark _)) (pss_one (ps_expr (pe_bm PySem.F.plainAttrs_list PySem.F.slot_list_append PySem.F.type_list_append mt_append (pv 3) (pa_cons (pe_tup (pa_cons pe_str (pa_cons (pv 6) pa_nil))) pa_nil)))) (pss_one (ps_if (pt_cmpR op_lt (pv 5) pe_int (nomark _)) (pss_one (ps_expr (pe_bm PySem.F.plainAttrs_list PySem.F.slot_list_append PySem.F.type_list_append mt_append (pv 3) (pa_cons (pe_tup (pa_cons (pe_ix ix_tup (pe_tup (pa_cons pe_str (pa_cons pe_str pa_nil))) (pe_op op_mod (pv 5) pe_int) (fun _ _ => rfl)) (pa_cons (pe_op op_add pe_int (pe_cal c_law_draw hr (by decide) (by rfl) (pa_cons (pv 0) (pa_cons (pe_ix ix_tup (pe_tup (pa_cons pe_int (pa_cons pe_int (pa_cons pe_int pa_nil)))) (pe_cal c_law_draw hr (by decide) (by rfl) (pa_cons (pv 0) (pa_cons pe_int pa_nil))) (fun _ _ => rfl)) pa_nil)))) pa_nil))) pa_nil)))) (pss_one (ps_expr (pe_bm PySem.F.plainAttrs_list PySem.F.slot_list_append PySem.F.type_list_append mt_append (pv 3) (pa_cons (pe_ix ix_tup (pe_tup (pa_cons (pe_tup (pa_cons pe_str pa_nil)) (pa_cons (pe_tup (pa_cons pe_str pa_nil)) pa_nil))) (pe_op op_sub (pv 5) pe_int) (fun _ _ => rfl)) pa_nil)))))))))))))
      (pss_one (ps_ret (pv 3))))), ?_⟩
    refine ⟨Nat.zero_le _, fun l hl => ?_⟩
    obtain ⟨lb, lg⟩ := B.off hl
    have eA : Same H (upd H l (.lst [])) := same_upd (Same.refl H) hl
    refine ⟨_, rfl, _, rfl, _, _, rfl, rfl, b, g, n, _, rfl, B.same eA, by omega, by omega, log9B (k := 10) (by omega) (by decide), fun H1 turns kp1 B1 t0 t1 => ?_⟩
    have kH : Keep b g H H1 := (Keep.of eA).trans kp1
    have hl1 : H1 l = some (.lst []) := kp1 _ _ lb lg upd_same
    refine ⟨_, rfl, by omega, by omega, for_range (lo := 0) (fun i σ H' => ∃ (v4 v5 v6 : Option V) (xs : List V) (cs : List Cmd), σ = [some (.ref b), some (.int many), some (.int far), some (.ref l), v4, v5, v6] ∧ MI K H b g l n i H' xs cs)
      ⟨none, none, none, [], [], rfl, kH, B1, hl1, .nil, (fun _ h => nomatch h), Nat.le_refl _, (fun _ h => nomatch h)⟩ (fun i σ H2 hi h => ?_) (fun σ H2 h => ?_)⟩
    · obtain ⟨v4, v5, v6, xs, cs, rfl, h⟩ := h
      have hi' : i < 21 := by omega
      obtain ⟨a1, a2, a3, a4, a5, a6, a7⟩ := id h
      have xl : xs.length ≤ 1000 := by
        rw [a4.len]
        omega
      -- way
      refine ⟨_, rfl, b, g, _, 12, rfl, a2, by omega, by decide, by decide, fun H3 kd kp3 B3 k0 k1 => ?_⟩
      -- size
      refine ⟨_, rfl, b, g, _, 3, rfl, B3, by omega, by decide, by decide, fun H4 d4 kp4 B4 d40 d41 => ?_⟩
      refine ⟨_, rfl, _, rfl, b, g, _, far, rfl, B4, by omega, by omega, log9B (k := 110) (by omega) (by decide), fun H5 d5 kp5 B5 d50 d51 => ?_⟩
      refine ⟨(by show 2 ≤ sizeLine; decide), fun q hq => ?_⟩
      have sq : Same H5 (upd H5 q (.tup [.int d4, .int d5])) := same_upd (Same.refl _) hq
      obtain ⟨qb, qg⟩ := B5.off hq
      refine ⟨_, rfl, b, g, _, 2, rfl, B5.same sq, by omega, by decide, by decide, fun H6 d6 kp6 B6 d60 d61 => ?_⟩
      have hq6 := kp6 _ _ qb qg (upd_same (H := H5) (a := q) (o := .tup [.int d4, .int d5]))
      obtain ⟨sz, hsz, s1, s1b⟩ : ∃ sz : Int, atI [V.int d4, .int d5] d6 = some (.int sz) ∧ 0 ≤ sz ∧ sz ≤ 10 ^ 30 := by
        rcases (show d6 = 0 ∨ d6 = 1 by omega) with rfl | rfl
        · exact ⟨d4, rfl, d40, by omega⟩
        · exact ⟨d5, rfl, d50, by omega⟩
      refine ⟨q, _, d6, _, rfl, rfl, SqT.of hq6, hsz, _, _, rfl, rfl, ?_⟩
      have k26 : Keep b g H2 H6 := (((kp3.trans kp4).trans kp5).trans (Keep.of sq)).trans kp6
      have l6 := k26 _ _ lb lg a3
      refine ⟨_, rfl, _, _, rfl, rfl, _, rfl, ite2 (fun c => ?_) (fun c => ?_)⟩
      · refine ⟨_, rfl, .inl ⟨rfl, _, SqL.of l6⟩, _, rfl, (by show 2 ≤ sizeLine; decide), fun t ht => ?_⟩
        refine ⟨l, _, _, rfl, rfl, (same_upd (Same.refl H6) ht) _ _ l6, small_n xl, ?_⟩
        exact ⟨_, _, _, _, _, rfl, mi_step (c := .right (1 + sz)) lb lg hl h k26 (B6.more (by omega)) ht (by show 1 ≤ 1 + sz; omega) (by show (1 + sz).natAbs < 2 ^ 120; omega)⟩
      refine ⟨_, rfl, _, _, rfl, rfl, _, rfl, ite2 (fun c2 => ?_) (fun c2 => ?_)⟩
      · refine ⟨_, rfl, .inl ⟨rfl, _, SqL.of l6⟩, _, rfl, (by show 2 ≤ sizeLine; decide), fun t ht => ?_⟩
        refine ⟨l, _, _, rfl, rfl, (same_upd (Same.refl H6) ht) _ _ l6, small_n xl, ?_⟩
        exact ⟨_, _, _, _, _, rfl, mi_step (c := .left (1 + sz)) lb lg hl h k26 (B6.more (by omega)) ht (by show 1 ≤ 1 + sz; omega) (by show (1 + sz).natAbs < 2 ^ 120; omega)⟩
      have kd4 : ¬ kd < 4 := fun z => c (decide_eq_true z)
      have kd7 : ¬ kd < 7 := fun z => c2 (decide_eq_true z)
      refine ⟨_, rfl, _, _, rfl, rfl, _, rfl, ite2 (fun c3 => ?_) (fun c3 => ?_)⟩
      · refine ⟨_, rfl, .inl ⟨rfl, _, SqL.of l6⟩, (by show 2 ≤ sizeLine; decide), fun q2 hq2 => ?_⟩
        have s2 : Same H6 (upd H6 q2 (.tup [.str "down", .str "up"])) := same_upd (Same.refl _) hq2
        refine ⟨_, rfl, _, _, rfl, rfl, (show (0 : Int) < 2 by decide), ?_⟩
        rcases (show kd % 2 = 0 ∨ kd % 2 = 1 by omega) with e0 | e0
        · refine ⟨q2, _, _, _, rfl, rfl, SqT.of upd_same, (by rw [e0]; rfl), ?_⟩
          refine ⟨_, rfl, (by show 3 ≤ sizeLine; decide), fun q3 hq3 => ⟨_, rfl, b, g, _, 3, rfl, (B6.same s2).same (same_upd (Same.refl _) hq3), by omega, by decide, by decide, fun H7 d7 kp7 B7 d70 d71 => ?_⟩⟩
          obtain ⟨q3b, q3g⟩ := (B6.same s2).off hq3
          have hq37 := kp7 _ _ q3b q3g upd_same
          obtain ⟨lim, hlim, lim1, lim2⟩ : ∃ z : Int, atI [V.int 2, .int 2, .int 12] d7 = some (.int z) ∧ 1 ≤ z ∧ z ≤ 12 := by
            rcases (show d7 = 0 ∨ d7 = 1 ∨ d7 = 2 by omega) with rfl | rfl | rfl
            · exact ⟨2, rfl, by decide, by decide⟩
            · exact ⟨2, rfl, by decide, by decide⟩
            · exact ⟨12, rfl, by decide, by decide⟩
          refine ⟨q3, _, d7, _, rfl, rfl, SqT.of hq37, hlim, b, g, _, lim, rfl, B7, by omega, by omega, log9B (k := 10) (by omega) (by decide), fun H8 d8 kp8 B8 d80 d81 => ?_⟩
          have k28 : Keep b g H2 H8 := (((k26.trans (Keep.of s2)).trans (Keep.of (same_upd (Same.refl _) hq3))).trans kp7).trans kp8
          have l8 := k28 _ _ lb lg a3
          refine ⟨_, _, rfl, rfl, (by show 2 ≤ sizeLine; decide), fun t ht => ?_⟩
          refine ⟨l, _, _, rfl, rfl, (same_upd (Same.refl H8) ht) _ _ l8, small_n xl, ?_⟩
          exact ⟨_, _, _, _, _, rfl, mi_step (c := .down (1 + d8)) lb lg hl h k28 (B8.more (by omega)) ht (by show 1 ≤ 1 + d8; omega) (by show (1 + d8).natAbs < 2 ^ 120; omega)⟩
        · refine ⟨q2, _, _, _, rfl, rfl, SqT.of upd_same, (by rw [e0]; rfl), ?_⟩
          refine ⟨_, rfl, (by show 3 ≤ sizeLine; decide), fun q3 hq3 => ⟨_, rfl, b, g, _, 3, rfl, (B6.same s2).same (same_upd (Same.refl _) hq3), by omega, by decide, by decide, fun H7 d7 kp7 B7 d70 d71 => ?_⟩⟩
          obtain ⟨q3b, q3g⟩ := (B6.same s2).off hq3
          have hq37 := kp7 _ _ q3b q3g upd_same
          obtain ⟨lim, hlim, lim1, lim2⟩ : ∃ z : Int, atI [V.int 2, .int 2, .int 12] d7 = some (.int z) ∧ 1 ≤ z ∧ z ≤ 12 := by
            rcases (show d7 = 0 ∨ d7 = 1 ∨ d7 = 2 by omega) with rfl | rfl | rfl
            · exact ⟨2, rfl, by decide, by decide⟩
            · exact ⟨2, rfl, by decide, by decide⟩
            · exact ⟨12, rfl, by decide, by decide⟩
          refine ⟨q3, _, d7, _, rfl, rfl, SqT.of hq37, hlim, b, g, _, lim, rfl, B7, by omega, by omega, log9B (k := 10) (by omega) (by decide), fun H8 d8 kp8 B8 d80 d81 => ?_⟩
          have k28 : Keep b g H2 H8 := (((k26.trans (Keep.of s2)).trans (Keep.of (same_upd (Same.refl _) hq3))).trans kp7).trans kp8
          have l8 := k28 _ _ lb lg a3
          refine ⟨_, _, rfl, rfl, (by show 2 ≤ sizeLine; decide), fun t ht => ?_⟩
          refine ⟨l, _, _, rfl, rfl, (same_upd (Same.refl H8) ht) _ _ l8, small_n xl, ?_⟩
          exact ⟨_, _, _, _, _, rfl, mi_step (c := .up (1 + d8)) lb lg hl h k28 (B8.more (by omega)) ht (by show 1 ≤ 1 + d8; omega) (by show (1 + d8).natAbs < 2 ^ 120; omega)⟩
      · have kd10 : ¬ kd < 10 := fun z => c3 (decide_eq_true z)
        refine ⟨_, rfl, .inl ⟨rfl, _, SqL.of l6⟩, (by show 1 ≤ sizeLine; decide), fun t1 ht1 => ⟨(by show 1 ≤ sizeLine; decide), fun t2 ht2 => ⟨(by show 2 ≤ sizeLine; decide), fun q2 hq2 => ?_⟩⟩⟩
        have s1' : Same H6 (upd H6 t1 (.tup [.str "home"])) := same_upd (Same.refl _) ht1
        have s2' := s1'.trans (same_upd (Same.refl _) ht2 (o := .tup [.str "end"]))
        have s3' := s2'.trans (same_upd (Same.refl _) hq2 (o := .tup [.ref t1, .ref t2]))
        have h1e : upd (upd (upd H6 t1 (.tup [.str "home"])) t2 (.tup [.str "end"])) q2 (.tup [.ref t1, .ref t2]) t1 = some (.tup [.str "home"]) := (same_upd (same_upd (Same.refl _) ht2) hq2) _ _ upd_same
        have h2e : upd (upd (upd H6 t1 (.tup [.str "home"])) t2 (.tup [.str "end"])) q2 (.tup [.ref t1, .ref t2]) t2 = some (.tup [.str "end"]) := (same_upd (Same.refl _) hq2) _ _ upd_same
        have hqe : upd (upd (upd H6 t1 (.tup [.str "home"])) t2 (.tup [.str "end"])) q2 (.tup [.ref t1, .ref t2]) q2 = some (.tup [.ref t1, .ref t2]) := upd_same
        generalize upd (upd (upd H6 t1 (.tup [.str "home"])) t2 (.tup [.str "end"])) q2 (.tup [.ref t1, .ref t2]) = H7 at s3' h1e h2e hqe ⊢
        have k27 : Keep b g H2 H7 := k26.trans (Keep.of s3')
        have B7 := B6.same s3'
        have l7 := s3' _ _ l6
        have fin : ∀ (t : Addr) (c : Cmd), c.ok → CSml c → H7 t = some (.tup (encC c)) → t ≠ l → MI K H b g l n (i + 1) (upd H7 l (.lst (xs ++ [.ref t]))) (xs ++ [.ref t]) (cs ++ [c]) := fun t c ok sm ht tl => by
          refine ⟨fun x o n1 n2 hx => ?_, ?_, upd_same, Paired.snocB ((a4.keepB k27 a2).lput l7) ⟨t, rfl, SqT.of ?_⟩, ?_, ?_, ?_⟩
          · rw [upd_ne (ne_of_none hx hl)]
            exact k27 _ _ n1 n2 (a1 _ _ n1 n2 hx)
          · obtain ⟨gs, lf, tn, bl, g1, g2, g3, g4, g5, g6⟩ := B7
            exact ⟨gs, lf, tn, bl, by rw [upd_ne lb.symm]; exact g1, by rw [upd_ne lg.symm]; exact g2, g3, g4, by omega, g6⟩
          · rw [upd_ne tl]
            exact ht
          · intro d hd
            rcases List.mem_append.mp hd with q | q
            · exact a5 d q
            · rw [List.mem_singleton.mp q]
              exact ok
          · rw [List.length_append, List.length_singleton]
            omega
          · intro d hd
            rcases List.mem_append.mp hd with q | q
            · exact a7 d q
            · rw [List.mem_singleton.mp q]
              exact sm
        have t1l : t1 ≠ l := (ne_of_none l6 ht1).symm
        have t2l : t2 ≠ l := (ne_of_none (s1' _ _ l6) ht2).symm
        rcases (show kd - 10 = 0 ∨ kd - 10 = 1 by omega) with e0 | e0
        · refine ⟨_, rfl, _, _, rfl, rfl, q2, _, _, _, rfl, rfl, SqT.of hqe, (by rw [e0]; rfl), ?_⟩
          refine ⟨l, _, _, rfl, rfl, l7, small_n xl, ?_⟩
          exact ⟨_, _, _, _, _, rfl, fin t1 .home trivial trivial h1e t1l⟩
        · refine ⟨_, rfl, _, _, rfl, rfl, q2, _, _, _, rfl, rfl, SqT.of hqe, (by rw [e0]; rfl), ?_⟩
          refine ⟨l, _, _, rfl, rfl, l7, small_n xl, ?_⟩
          exact ⟨_, _, _, _, _, rfl, fin t2 .stop trivial trivial h2e t2l⟩
    · obtain ⟨v4, v5, v6, xs, cs, rfl, a1, a2, a3, a4, a5, a6, a7⟩ := h
      exact ⟨_, rfl, k _ l xs cs a1 (a2.more (by omega)) hl a3 a4 a5 a7 (by omega)⟩
end
end Gc

/-! the law's own running; the commands that stay in the text -/
namespace Gc
open PySem L2
abbrev s_end : Stmt := top 31
abbrev s_kept : Stmt := top 32
theorem atI_t {u v : V} {b : Bool} (h : b = true) : atI [u, v] (if b = true then (1 : Int) else 0) = some v := by
  subst h
  rfl
theorem atI_f {u v : V} {b : Bool} (h : b = false) : atI [u, v] (if b = true then (1 : Int) else 0) = some u := by
  subst h
  rfl
def spEnd (K : PySem.W.Frag) : Sp := fun vs H Q _ => ∃ (t b l : Addr) (T : List Int) (r : Int) (a : Option Int) (xs : List V) (cs : List Cmd), vs = [.ref t, .ref b, .ref l] ∧ SqL K H t (T.map V.int) ∧ SqT K H b [.int r, optV a] ∧ SqL K H l xs ∧ CmdsOf K H xs cs ∧ (∀ c ∈ cs, CSml c) ∧ 0 ≤ r ∧ r < T.length ∧
  (afterL T r a cs = none → ∀ H', Same H H' → Q .non H') ∧ ∀ r' a', afterL T r a cs = some (r', a') → ∀ (H' : Hp) (p : Addr), Same H H' → H p = none → H' p = some (.tup [.int r', optV a']) → Q (.ref p) H'
def spKept (K : PySem.W.Frag) : Sp := fun vs H Q _ => ∃ (spot many : Int) (l : Addr) (xs : List V) (cs : List Cmd), vs = [.int spot, .int many, .ref l] ∧ SqL K H l xs ∧ CmdsOf K H xs cs ∧ AllOk cs ∧ (∀ c ∈ cs, CSml c) ∧ cs.length ≤ 100 ∧ 0 ≤ spot ∧ spot < many ∧
  ∀ (H' : Hp) (p : Addr) (ys : List V) (ds : List Cmd), Same H H' → H p = none → H' p = some (.lst ys) → CmdsOf K H' ys ds → AllOk ds → (∀ c ∈ ds, CSml c) → ds.length ≤ cs.length → Within ds (-spot) (many - 1 - spot) → Q (.ref p) H'
theorem Within.snoc {cs : List Cmd} {c : Cmd} {lo hi : Int} (h : Within cs lo hi) (h0 : lo ≤ last cs + c.dv) (h1 : last cs + c.dv ≤ hi) : Within (cs ++ [c]) lo hi := fun i => by
  by_cases l : i ≤ cs.length
  · rw [List.take_append_of_le_length l]
    exact h i
  · rw [List.take_of_length_le (by rw [List.length_append, List.length_singleton]; omega), last_snoc]
    exact ⟨h0, h1⟩
section
variable {P : Program} {w : World} {K : PySem.W.Frag} {mg : Str → Option Value} {base : Heap}
theorem sc_law_end : FnScope ["page", "start", "moves", "spot", "aim", "command", "seen"] ["page", "start", "moves"] (defScope s_end) := ⟨rfl, rfl, rfl, by decide +kernel, rfl, by decide +kernel, by decide +kernel⟩
theorem ok_end {f : Addr} {fd : FuncData} (F : Fun K "_law_end" "_law_end" s_end f fd) (T : TxtC mg) : FnOk P w K mg base CX0 1 f fd ["page", "start", "moves"] (spEnd K) := by
  refine F.ok sc_law_end (fun vs H Q E h => ?_) (fun cdv A outer s H vs Q E hr h => ?_)
  · obtain ⟨t, b, l, T, r, a, xs, cs, rfl, _⟩ := h
    rfl
  · obtain ⟨t, b, l, tx, r, a, xs, cs, rfl, ht, hb, hl, hcs, sm, r0, r1, kn, ks⟩ := h
    refine ⟨_, (pss_cons (ps_asg (pv 1) (pg_tup rfl (pgs_cons (pg_name (i := 3) sc_law_end.nd rfl (Or.inl rfl)) (pgs_cons (pg_name (i := 4) sc_law_end.nd rfl (Or.inl rfl)) pgs_nil))))
      (pss_cons (ps_for PassesOwn.never rfl (pi_list (pv 2)) (pg_name (i := 5) sc_law_end.nd rfl (Or.inl rfl)) (pss_one (ps_if (pt_cmpR op_in_seq (pe_ix ix_tup (pv 5) pe_int (fun _ _ => rfl)) (pe_tup (pa_cons pe_str (pa_cons pe_str pa_nil))) (by rfl)) (pss_cons (ps_aug (i := 3) sc_law_end.nd rfl (Or.inl rfl) (pe_op op_mulW (pe_ix ix_tup (pe_tup (pa_cons pe_int (pa_cons (pe_un un_neg pe_int) pa_nil))) (pe_callTy call_int1 (by rfl) T.int (by decide +kernel) (pa_cons (pe_cmpR op_eq (pe_ix ix_tup (pv 5) pe_int (fun _ _ => rfl)) pe_str (nomark _)) pa_nil)) (fun _ _ => rfl)) (pe_ix ix_tup (pv 5) pe_int (fun _ _ => rfl))) ip_add)
      (pss_one (ps_if (pt_not (pt_chain op_le op_lt pe_int (pv 3) (pe_callB call_len_seq (by rfl) T.len (by decide +kernel) (pa_cons (pv 0) pa_nil)))) (pss_one (ps_ret pe_non)) pss_nil))) (pss_one (ps_if (pt_cmpR op_eq (pe_ix ix_tup (pv 5) pe_int (fun _ _ => rfl)) pe_str (nomark _)) (pss_one (ps_set (i := 4) sc_law_end.nd rfl (Or.inl rfl) pe_int)) (pss_one (ps_if (pt_cmpR op_eq (pe_ix ix_tup (pv 5) pe_int (fun _ _ => rfl)) pe_str (nomark _)) (pss_one (ps_set (i := 4) sc_law_end.nd rfl (Or.inl rfl) pe_non)) (pss_cons (ps_set (i := 6) sc_law_end.nd rfl (Or.inl rfl) (pe_ix ix_list (pv 0) (pv 3) (fun _ _ => rfl)))
      (C8.pss_cut (ps_if (pt_cmpR op_notN (pv 4) pe_non (nomark _)) (pss_one (ps_set (i := 6) sc_law_end.nd rfl (Or.inl rfl) (pe_callB (call_min2 rfl) (by rfl) T.min (by decide +kernel) (pa_cons (pv 4) (pa_cons (pv 6) pa_nil))))) pss_nil)
      (pss_cons (ps_set (i := 4) sc_law_end.nd rfl (Or.inl rfl) (pe_callB (call_max2 rfl) (by rfl) T.max (by decide +kernel) (pa_cons pe_int (pa_cons (pe_op op_sub (pv 6) (pe_ix ix_tup (pv 5) pe_int (fun _ _ => rfl))) pa_nil))))
      (pss_one (ps_if (pt_cmpR op_eq (pe_ix ix_tup (pv 5) pe_int (fun _ _ => rfl)) pe_str (nomark _)) (pss_one (ps_set (i := 4) sc_law_end.nd rfl (Or.inl rfl) (pe_callB (call_min2 rfl) (by rfl) T.min (by decide +kernel) (pa_cons (pe_op op_add (pv 6) (pe_ix ix_tup (pv 5) pe_int (fun _ _ => rfl))) (pa_cons (pe_ix ix_list (pv 0) (pv 3) (fun _ _ => rfl)) pa_nil))))) pss_nil))))))))))))
      (pss_one (ps_ret (pe_tup (pa_cons (pv 3) (pa_cons (pv 4) pa_nil))))))), ?_⟩
    refine ⟨_, rfl, b, _, rfl, hb, rfl, _, _, rfl, _, _, rfl, rfl, ?_⟩
    refine ⟨_, rfl, l, rfl, ⟨_, hl⟩, for_list (K := K) (a := l) (xs := xs) (fun i σ H' => ∃ (r' : Int) (a' : Option Int) (v5 v6 : Option V), σ = [some (.ref t), some (.ref b), some (.ref l), some (.int r'), some (optV a'), v5, v6] ∧ Same H H' ∧
        0 ≤ r' ∧ r' < tx.length ∧ afterL tx r a cs = afterL tx r' a' (cs.drop i))
      ⟨r, a, none, none, rfl, Same.refl H, r0, r1, rfl⟩ (fun i σ H' _ ⟨_, _, _, _, _, e, _⟩ => e.seq hl) (fun i y σ H2 hi h => ?_) (fun σ H2 h => ?_)⟩
    · obtain ⟨r', a', v5, v6, rfl, e2, q0, q1, hgo⟩ := h
      obtain ⟨c, hc, q, rfl, hq0⟩ := paired_at hcs hi
      have hq := seq_t e2 hq0
      have htx := e2.seq ht
      have hdrop : cs.drop i = c :: cs.drop (i + 1) := by
        obtain ⟨h1, h2⟩ := List.getElem?_eq_some_iff.mp hc
        rw [List.drop_eq_getElem_cons h1, h2]
      rw [hdrop, afterL_cons q0 q1] at hgo
      have smc := sm c (List.mem_of_getElem? hc)
      have al := at_len' q0 q1
      have hin : ∀ r2 a2, step1 tx r' a' c = some (r2, a2) → afterL tx r a cs = afterL tx r2 a2 (cs.drop (i + 1)) := fun r2 a2 z => by
        rw [hgo, z]
        rfl
      have hout : step1 tx r' a' c = none → afterL tx r a cs = none := fun z => by
        rw [hgo, z]
        rfl
      have flat : c.dv = 0 → step1 tx r' a' c = some (r', aim1 (lenAt tx r') a' c) := fun z => by
        unfold step1
        rw [z, Int.add_zero, if_pos ⟨q0, q1⟩]
      cases c with
      | down n =>
        refine ⟨_, rfl, q, _, 0, _, rfl, rfl, hq, rfl, (by show 2 ≤ sizeLine; decide), fun p1 hp1 => ?_⟩
        have m1 := same_upd (Same.refl H2) hp1 (o := .tup [.str "down", .str "up"])
        refine ⟨p1, _, rfl, .inr (SqT.of upd_same), rfl, rfl, true, by decide +kernel, iteT ?_⟩
        refine ⟨_, rfl, _, rfl, (by show 2 ≤ sizeLine; decide), fun p2 hp2 => ?_⟩
        have m2 := same_upd m1 hp2 (o := .tup [.int 1, .int (-1)])
        have nb : n.natAbs < 2 ^ 120 := smc
        refine ⟨_, rfl, q, _, 0, _, rfl, rfl, seq_t m2 hq, rfl, rfl, .inr ⟨_, rfl, p2, _, _, _, rfl, rfl, SqT.of upd_same, atI_f (by decide +kernel), _, rfl, q, _, 1, _, rfl, rfl, seq_t m2 hq, rfl, _, _, rfl, rfl, wide_mul (a := 61) (b := 120) (by decide) nb (by decide) (by decide) (by decide), _, _, rfl, rfl, ?_⟩⟩
        rw [show (1 : Int) * n = n from Int.one_mul n]
        refine ⟨_, rfl, _, _, rfl, rfl, _, rfl, ite2 (fun c0 => ?_) (fun c0 => ?_)⟩
        · have c0' : 0 ≤ r' + (n) := of_decide_eq_true c0
          refine ⟨_, rfl, t, _, rfl, .inl (m2.seq htx), _, _, rfl, rfl, _, rfl, ?_⟩
          by_cases c1 : r' + (n) < tx.length
          · refine iteN1 (by rw [List.length_map]; exact c1) ?_
            exact ⟨r' + (n), a', _, _, rfl, e2.trans m2, c0', c1, hin _ _ (by unfold step1; rw [if_pos (show 0 ≤ r' + (Cmd.down n).dv ∧ r' + (Cmd.down n).dv < tx.length from ⟨c0', c1⟩)]; rfl)⟩
          · refine iteN0 (by rw [List.length_map]; exact c1) ?_
            exact kn (hout (by unfold step1; rw [if_neg (show ¬ (0 ≤ r' + (Cmd.down n).dv ∧ r' + (Cmd.down n).dv < tx.length) from fun z => c1 z.2)])) _ (e2.trans m2)
        · refine ⟨_, rfl, ?_⟩
          refine iteT (B := _) ?_
          exact kn (hout (by unfold step1; rw [if_neg (show ¬ (0 ≤ r' + (Cmd.down n).dv ∧ r' + (Cmd.down n).dv < tx.length) from fun z => c0 (decide_eq_true z.1))])) _ (e2.trans m2)
      | up n =>
        refine ⟨_, rfl, q, _, 0, _, rfl, rfl, hq, rfl, (by show 2 ≤ sizeLine; decide), fun p1 hp1 => ?_⟩
        have m1 := same_upd (Same.refl H2) hp1 (o := .tup [.str "down", .str "up"])
        refine ⟨p1, _, rfl, .inr (SqT.of upd_same), rfl, rfl, true, by decide +kernel, iteT ?_⟩
        refine ⟨_, rfl, _, rfl, (by show 2 ≤ sizeLine; decide), fun p2 hp2 => ?_⟩
        have m2 := same_upd m1 hp2 (o := .tup [.int 1, .int (-1)])
        have nb : n.natAbs < 2 ^ 120 := smc
        refine ⟨_, rfl, q, _, 0, _, rfl, rfl, seq_t m2 hq, rfl, rfl, .inr ⟨_, rfl, p2, _, _, _, rfl, rfl, SqT.of upd_same, atI_t (by decide +kernel), _, rfl, q, _, 1, _, rfl, rfl, seq_t m2 hq, rfl, _, _, rfl, rfl, wide_mul (a := 61) (b := 120) (by decide) nb (by decide) (by decide) (by decide), _, _, rfl, rfl, ?_⟩⟩
        rw [show (-1 : Int) * n = -n by omega]
        refine ⟨_, rfl, _, _, rfl, rfl, _, rfl, ite2 (fun c0 => ?_) (fun c0 => ?_)⟩
        · have c0' : 0 ≤ r' + (-n) := of_decide_eq_true c0
          refine ⟨_, rfl, t, _, rfl, .inl (m2.seq htx), _, _, rfl, rfl, _, rfl, ?_⟩
          by_cases c1 : r' + (-n) < tx.length
          · refine iteN1 (by rw [List.length_map]; exact c1) ?_
            exact ⟨r' + (-n), a', _, _, rfl, e2.trans m2, c0', c1, hin _ _ (by unfold step1; rw [if_pos (show 0 ≤ r' + (Cmd.up n).dv ∧ r' + (Cmd.up n).dv < tx.length from ⟨c0', c1⟩)]; rfl)⟩
          · refine iteN0 (by rw [List.length_map]; exact c1) ?_
            exact kn (hout (by unfold step1; rw [if_neg (show ¬ (0 ≤ r' + (Cmd.up n).dv ∧ r' + (Cmd.up n).dv < tx.length) from fun z => c1 z.2)])) _ (e2.trans m2)
        · refine ⟨_, rfl, ?_⟩
          refine iteT (B := _) ?_
          exact kn (hout (by unfold step1; rw [if_neg (show ¬ (0 ≤ r' + (Cmd.up n).dv ∧ r' + (Cmd.up n).dv < tx.length) from fun z => c0 (decide_eq_true z.1))])) _ (e2.trans m2)
      | home =>
        refine ⟨_, rfl, q, _, 0, _, rfl, rfl, hq, rfl, (by show 2 ≤ sizeLine; decide), fun p1 hp1 => ?_⟩
        have m1 := same_upd (Same.refl H2) hp1 (o := .tup [.str "down", .str "up"])
        refine ⟨p1, _, rfl, .inr (SqT.of upd_same), rfl, rfl, false, by decide +kernel, iteF ?_⟩
        refine ⟨_, rfl, q, _, 0, _, rfl, rfl, seq_t m1 hq, rfl, rfl, true, by decide +kernel, iteT ?_⟩
        exact ⟨r', some 0, _, _, rfl, e2.trans m1, q0, q1, hin _ _ (flat rfl)⟩
      | stop =>
        refine ⟨_, rfl, q, _, 0, _, rfl, rfl, hq, rfl, (by show 2 ≤ sizeLine; decide), fun p1 hp1 => ?_⟩
        have m1 := same_upd (Same.refl H2) hp1 (o := .tup [.str "down", .str "up"])
        refine ⟨p1, _, rfl, .inr (SqT.of upd_same), rfl, rfl, false, by decide +kernel, iteF ?_⟩
        refine ⟨_, rfl, q, _, 0, _, rfl, rfl, seq_t m1 hq, rfl, rfl, false, by decide +kernel, iteF ?_⟩
        refine ⟨_, rfl, q, _, 0, _, rfl, rfl, seq_t m1 hq, rfl, rfl, true, by decide +kernel, iteT ?_⟩
        exact ⟨r', none, _, _, rfl, e2.trans m1, q0, q1, hin _ _ (flat rfl)⟩
      | left n =>
        refine ⟨_, rfl, q, _, 0, _, rfl, rfl, hq, rfl, (by show 2 ≤ sizeLine; decide), fun p1 hp1 => ?_⟩
        have m1 := same_upd (Same.refl H2) hp1 (o := .tup [.str "down", .str "up"])
        refine ⟨p1, _, rfl, .inr (SqT.of upd_same), rfl, rfl, false, by decide +kernel, iteF ?_⟩
        refine ⟨_, rfl, q, _, 0, _, rfl, rfl, seq_t m1 hq, rfl, rfl, false, by decide +kernel, iteF ?_⟩
        refine ⟨_, rfl, q, _, 0, _, rfl, rfl, seq_t m1 hq, rfl, rfl, false, by decide +kernel, iteF ?_⟩
        have ht1 := m1.seq htx
        have hq1 := seq_t m1 hq
        refine ⟨_, rfl, _, rfl, t, _, _, _, rfl, rfl, ht1, al, ?_⟩
        refine ⟨fun σ H' => σ = [some (.ref t), some (.ref b), some (.ref l), some (.int r'), some (optV a'), some (.ref q), some (.int (seen (lenAt tx r') a'))] ∧ Same H2 H' ∧ SqT K H' q (encC (.left n)), ?_, ?_⟩
        · cases a' with
          | none => exact ⟨_, rfl, rfl, _, rfl, iteF ⟨rfl, m1, hq1⟩⟩
          | some x =>
            refine ⟨_, rfl, rfl, _, rfl, iteT ?_⟩
            refine ⟨_, rfl, _, rfl, _, _, rfl, ?_⟩
            rw [minI]
            exact ⟨rfl, m1, hq1⟩
        · rintro σ H3 ⟨rfl, e3, hq3⟩
          refine ⟨_, rfl, _, rfl, q, _, 1, _, rfl, rfl, hq3, rfl, _, _, rfl, rfl, _, _, rfl, ?_⟩
          rw [maxI]
          refine ⟨_, rfl, q, _, 0, _, rfl, rfl, hq3, rfl, rfl, false, by decide +kernel, iteF ?_⟩
          exact ⟨r', _, _, _, rfl, e2.trans e3, q0, q1, hin _ _ (flat rfl)⟩
      | right n =>
        refine ⟨_, rfl, q, _, 0, _, rfl, rfl, hq, rfl, (by show 2 ≤ sizeLine; decide), fun p1 hp1 => ?_⟩
        have m1 := same_upd (Same.refl H2) hp1 (o := .tup [.str "down", .str "up"])
        refine ⟨p1, _, rfl, .inr (SqT.of upd_same), rfl, rfl, false, by decide +kernel, iteF ?_⟩
        refine ⟨_, rfl, q, _, 0, _, rfl, rfl, seq_t m1 hq, rfl, rfl, false, by decide +kernel, iteF ?_⟩
        refine ⟨_, rfl, q, _, 0, _, rfl, rfl, seq_t m1 hq, rfl, rfl, false, by decide +kernel, iteF ?_⟩
        have ht1 := m1.seq htx
        have hq1 := seq_t m1 hq
        refine ⟨_, rfl, _, rfl, t, _, _, _, rfl, rfl, ht1, al, ?_⟩
        refine ⟨fun σ H' => σ = [some (.ref t), some (.ref b), some (.ref l), some (.int r'), some (optV a'), some (.ref q), some (.int (seen (lenAt tx r') a'))] ∧ Same H2 H' ∧ SqT K H' q (encC (.right n)), ?_, ?_⟩
        · cases a' with
          | none => exact ⟨_, rfl, rfl, _, rfl, iteF ⟨rfl, m1, hq1⟩⟩
          | some x =>
            refine ⟨_, rfl, rfl, _, rfl, iteT ?_⟩
            refine ⟨_, rfl, _, rfl, _, _, rfl, ?_⟩
            rw [minI]
            exact ⟨rfl, m1, hq1⟩
        · rintro σ H3 ⟨rfl, e3, hq3⟩
          refine ⟨_, rfl, _, rfl, q, _, 1, _, rfl, rfl, hq3, rfl, _, _, rfl, rfl, _, _, rfl, ?_⟩
          refine ⟨_, rfl, q, _, 0, _, rfl, rfl, hq3, rfl, rfl, true, by decide +kernel, iteT ?_⟩
          refine ⟨_, rfl, _, rfl, q, _, 1, _, rfl, rfl, hq3, rfl, _, _, rfl, rfl, _, rfl, _, rfl, t, _, _, _, rfl, rfl, (e2.trans e3).seq ht, al, _, _, rfl, ?_⟩
          rw [minI]
          exact ⟨r', _, _, _, rfl, e2.trans e3, q0, q1, hin _ _ (flat rfl)⟩
    · obtain ⟨r', a', v5, v6, rfl, e2, q0, q1, hgo⟩ := h
      rw [hcs.len, List.drop_length] at hgo
      refine ⟨_, rfl, _, rfl, (by show 2 ≤ sizeLine; decide), fun p hp => ?_⟩
      exact ks r' a' hgo _ p (same_upd e2 hp) (e2.free hp) upd_same
theorem sc_law_kept : FnScope ["spot", "many", "moves", "found", "command", "later"] ["spot", "many", "moves"] (defScope s_kept) := ⟨rfl, rfl, rfl, by decide +kernel, rfl, by decide +kernel, by decide +kernel⟩
theorem ok_kept {f : Addr} {fd : FuncData} (F : Fun K "_law_kept" "_law_kept" s_kept f fd) : FnOk P w K mg base CX0 1 f fd ["spot", "many", "moves"] (spKept K) := by
  refine F.ok sc_law_kept (fun vs H Q E h => ?_) (fun cdv A outer s H vs Q E hr h => ?_)
  · obtain ⟨spot, many, l, xs, cs, rfl, _⟩ := h
    rfl
  · obtain ⟨spot, many, l, xs, cs, rfl, hl, hcs, ok, sm, ln, s0, s1, k⟩ := h
    refine ⟨_, (pss_cons (ps_set (i := 3) sc_law_kept.nd rfl (Or.inl rfl) (pe_lst pa_nil))
      (pss_cons (ps_for PassesOwn.never rfl (pi_list (pv 2)) (pg_name (i := 4) sc_law_kept.nd rfl (Or.inl rfl)) (pss_cons (ps_set (i := 5) sc_law_kept.nd rfl (Or.inl rfl) (pv 0))
      (C8.pss_cut (ps_if (pt_cmpR op_eq (pe_ix ix_tup (pv 4) pe_int (fun _ _ => rfl)) pe_str (nomark _)) (pss_one (ps_aug (i := 5) sc_law_kept.nd rfl (Or.inl rfl) (pe_ix ix_tup (pv 4) pe_int (fun _ _ => rfl)) ip_add)) pss_nil)
      (C8.pss_cut (ps_if (pt_cmpR op_eq (pe_ix ix_tup (pv 4) pe_int (fun _ _ => rfl)) pe_str (nomark _)) (pss_one (ps_aug (i := 5) sc_law_kept.nd rfl (Or.inl rfl) (pe_ix ix_tup (pv 4) pe_int (fun _ _ => rfl)) ip_sub)) pss_nil)
      (pss_one (ps_if (pt_chain op_le op_lt pe_int (pv 5) (pv 1)) (pss_cons (ps_set (i := 0) sc_law_kept.nd rfl (Or.inl rfl) (pv 5))
      (pss_one (ps_expr (pe_bm PySem.F.plainAttrs_list PySem.F.slot_list_append PySem.F.type_list_append mt_append (pv 3) (pa_cons (pv 4) pa_nil))))) pss_nil))))))
      (pss_one (ps_ret (pv 3))))), ?_⟩
    refine ⟨Nat.zero_le _, fun D hD => ?_⟩
    have eD : Same H (upd H D (.lst [])) := same_upd (Same.refl H) hD
    refine ⟨_, rfl, l, rfl, ⟨_, eD.seq hl⟩, for_list (K := K) (a := l) (xs := xs) (fun i σ H' => ∃ (v4 v5 : Option V) (ys : List V) (ds : List Cmd), σ = [some (.int (spot + last ds)), some (.int many), some (.ref l), some (.ref D), v4, v5] ∧ Same H H' ∧ H' D = some (.lst ys) ∧ CmdsOf K H' ys ds ∧
        AllOk ds ∧ (∀ c ∈ ds, CSml c) ∧ ds.length ≤ i ∧ Within ds (-spot) (many - 1 - spot))
      ⟨none, none, [], [], by show _ = [some (V.int (spot + 0)), _, _, _, _, _]; rw [Int.add_zero]; rfl, eD, upd_same, .nil, (fun _ h => nomatch h), (fun _ h => nomatch h), Nat.le_refl _, fun i => by rw [List.take_nil]; show _ ≤ (0 : Int) ∧ (0 : Int) ≤ _; omega⟩
      (fun i σ H' _ ⟨_, _, _, _, _, e, _⟩ => e.seq hl) (fun i y σ H2 hi h => ?_) (fun σ H2 h => ?_)⟩
    · obtain ⟨v4, v5, ys, ds, rfl, e2, hd, hds, okd, smd, lnd, wd⟩ := h
      obtain ⟨c, hc, q, rfl, hq0⟩ := paired_at hcs hi
      have li := (List.getElem?_eq_some_iff.mp hc).1
      have hq := seq_t e2 hq0
      have okc := ok c (List.mem_of_getElem? hc)
      have smc := sm c (List.mem_of_getElem? hc)
      have yl := hds.len
      refine ⟨_, rfl, ?_⟩
      refine ⟨fun σ H' => σ = [some (.int (spot + last ds)), some (.int many), some (.ref l), some (.ref D), some (.ref q), some (.int (spot + last ds + (if 0 < c.dv then c.dv else 0)))] ∧ H' = H2, ?_, ?_⟩
      · cases c with
        | down n =>
          have o : 1 ≤ n := okc
          refine ⟨_, rfl, q, _, 0, _, rfl, rfl, hq, rfl, rfl, true, by decide +kernel, iteT ?_⟩
          refine ⟨_, rfl, _, rfl, q, _, 1, _, rfl, rfl, hq, rfl, _, _, rfl, rfl, ?_⟩
          rw [if_pos (show 0 < (Cmd.down n).dv from by show 0 < n; omega)]
          exact ⟨rfl, rfl⟩
        | up n =>
          have o : 1 ≤ n := okc
          refine ⟨_, rfl, q, _, 0, _, rfl, rfl, hq, rfl, rfl, false, by decide +kernel, iteF ?_⟩
          rw [if_neg (show ¬ 0 < (Cmd.up n).dv from by show ¬ 0 < -n; omega), Int.add_zero]
          exact ⟨rfl, rfl⟩
        | left n =>
          refine ⟨_, rfl, q, _, 0, _, rfl, rfl, hq, rfl, rfl, false, by decide +kernel, iteF ?_⟩
          rw [if_neg (show ¬ 0 < (Cmd.left n).dv from Int.lt_irrefl 0), Int.add_zero]
          exact ⟨rfl, rfl⟩
        | right n =>
          refine ⟨_, rfl, q, _, 0, _, rfl, rfl, hq, rfl, rfl, false, by decide +kernel, iteF ?_⟩
          rw [if_neg (show ¬ 0 < (Cmd.right n).dv from Int.lt_irrefl 0), Int.add_zero]
          exact ⟨rfl, rfl⟩
        | home =>
          refine ⟨_, rfl, q, _, 0, _, rfl, rfl, hq, rfl, rfl, false, by decide +kernel, iteF ?_⟩
          rw [if_neg (show ¬ 0 < (Cmd.home).dv from by decide), Int.add_zero]
          exact ⟨rfl, rfl⟩
        | stop =>
          refine ⟨_, rfl, q, _, 0, _, rfl, rfl, hq, rfl, rfl, false, by decide +kernel, iteF ?_⟩
          rw [if_neg (show ¬ 0 < (Cmd.stop).dv from by decide), Int.add_zero]
          exact ⟨rfl, rfl⟩
      · rintro σ H3 ⟨rfl, rfl⟩
        refine ⟨fun σ H' => σ = [some (.int (spot + last ds)), some (.int many), some (.ref l), some (.ref D), some (.ref q), some (.int (spot + last ds + c.dv))] ∧ H' = H3, ?_, ?_⟩
        · cases c with
          | down n =>
            have o : 1 ≤ n := okc
            refine ⟨_, rfl, q, _, 0, _, rfl, rfl, hq, rfl, rfl, false, by decide +kernel, iteF ?_⟩
            rw [if_pos (show 0 < (Cmd.down n).dv from by show 0 < n; omega)]
            exact ⟨rfl, rfl⟩
          | up n =>
            have o : 1 ≤ n := okc
            refine ⟨_, rfl, q, _, 0, _, rfl, rfl, hq, rfl, rfl, true, by decide +kernel, iteT ?_⟩
            refine ⟨_, rfl, _, rfl, q, _, 1, _, rfl, rfl, hq, rfl, _, _, rfl, rfl, ?_⟩
            rw [if_neg (show ¬ 0 < (Cmd.up n).dv from by show ¬ 0 < -n; omega), Int.add_zero]
            exact ⟨rfl, rfl⟩
          | left n =>
            refine ⟨_, rfl, q, _, 0, _, rfl, rfl, hq, rfl, rfl, false, by decide +kernel, iteF ?_⟩
            exact ⟨rfl, rfl⟩
          | right n =>
            refine ⟨_, rfl, q, _, 0, _, rfl, rfl, hq, rfl, rfl, false, by decide +kernel, iteF ?_⟩
            exact ⟨rfl, rfl⟩
          | home =>
            refine ⟨_, rfl, q, _, 0, _, rfl, rfl, hq, rfl, rfl, false, by decide +kernel, iteF ?_⟩
            exact ⟨rfl, rfl⟩
          | stop =>
            refine ⟨_, rfl, q, _, 0, _, rfl, rfl, hq, rfl, rfl, false, by decide +kernel, iteF ?_⟩
            exact ⟨rfl, rfl⟩
        · rintro σ H4 ⟨rfl, rfl⟩
          refine ⟨_, rfl, _, _, rfl, rfl, _, rfl, ite2 (fun c0 => ?_) (fun c0 => ?_)⟩
          · have c0' : 0 ≤ spot + last ds + c.dv := of_decide_eq_true c0
            refine ⟨_, rfl, _, _, rfl, rfl, _, rfl, ite2 (fun c1 => ?_) (fun c1 => ?_)⟩
            · have c1' : spot + last ds + c.dv < many := of_decide_eq_true c1
              refine ⟨_, rfl, ?_⟩
              refine ⟨_, rfl, .inl ⟨rfl, _, SqL.of hd⟩, _, rfl, D, _, _, rfl, rfl, hd, small_n (by omega), ?_⟩
              refine ⟨some (.ref q), some (.int (spot + last ds + c.dv)), ys ++ [.ref q], ds ++ [c], ?_, same_freeU e2 hD, upd_same, Paired.snocB (hds.lput hd) ?_, ?_, ?_, ?_, wd.snoc (by omega) (by omega)⟩
              · rw [last_snoc, ← Int.add_assoc]
                rfl
              · refine ⟨q, rfl, ?_⟩
                rcases hq with (z | ⟨o, z⟩) | z
                · exact .inl (.inl (by rw [upd_ne (ne_of z hd (by intro q; cases q))]; exact z))
                · exact .inl (.inr ⟨o, by rw [upd_ne (ne_of z hd (by intro q; cases q))]; exact z⟩)
                · exact .inr z
              · intro d h
                rcases List.mem_append.mp h with z | z
                · exact okd d z
                · rw [List.mem_singleton.mp z]
                  exact okc
              · intro d h
                rcases List.mem_append.mp h with z | z
                · exact smd d z
                · rw [List.mem_singleton.mp z]
                  exact smc
              · rw [List.length_append, List.length_singleton]
                omega
            · exact ⟨_, _, ys, ds, rfl, e2, hd, hds, okd, smd, by omega, wd⟩
          · exact ⟨_, rfl, iteF ⟨_, _, ys, ds, rfl, e2, hd, hds, okd, smd, by omega, wd⟩⟩
    · obtain ⟨v4, v5, ys, ds, rfl, e2, hd, hds, okd, smd, lnd, wd⟩ := h
      have xl := hcs.len
      exact ⟨_, rfl, k _ D ys ds e2 hD hd hds okd smd (by omega) wd⟩
end
end Gc

/-! the program's origins, where nothing is raised -/
namespace Gc
open PySem L2
abbrev s_effect : Stmt := top 21
abbrev s_total_change : Stmt := top 22
abbrev s_origins : Stmt := top 24
abbrev s_is_less : Stmt := top 25
def OrgV (H : Hp) (v : V) : Option (Option Int × Option Int) → Prop
  | none => v = .non
  | some x => ∃ p, v = .ref p ∧ H p = some (.tup [optV x.1, optV x.2])
def spTotal (K : PySem.W.Frag) : Sp := fun vs H Q _ => ∃ (l : Addr) (xs : List V) (cs : List Cmd), vs = [.ref l] ∧ SqL K H l xs ∧ CmdsOf K H xs cs ∧ Q (.int (chg cs)) H
def Fits (K : PySem.W.Frag) (H : Hp) (t l : Addr) (T : List Int) (row : Int) (xs : List V) (cs : List Cmd) : Prop :=
  SqL K H t (T.map V.int) ∧ SqL K H l xs ∧ CmdsOf K H xs cs ∧ (∀ x ∈ T, 0 ≤ x) ∧ 0 ≤ row ∧ row < T.length ∧ AllOk cs ∧ cs.length ≤ 10000 ∧ Within cs (-row) (T.length - 1 - row)
def spEffect (K : PySem.W.Frag) : Sp := fun vs H Q _ => ∃ (t l : Addr) (T : List Int) (row : Int) (xs : List V) (cs : List Cmd), vs = [.ref t, .int row, .ref l] ∧ Fits K H t l T row xs cs ∧
  ∀ (H' : Hp) (p : Addr), Same H H' → H' p = some (.tup [optV (aimF (lenAt T) row (some 0) cs), optV (aimF (lenAt T) row none cs), .int (chg cs)]) → Q (.ref p) H'
def spLess : Sp := fun vs H Q _ => ∃ a b : Option Int, vs = [optV a, optV b] ∧ Q (.bl (lessB a b)) H
def spOrigins (K : PySem.W.Frag) : Sp := fun vs H Q _ => ∃ (t l : Addr) (T : List Int) (row : Int) (goal : Option Int) (xs : List V) (cs : List Cmd), vs = [.ref t, .int row, .ref l, optV goal] ∧ Fits K H t l T row xs cs ∧ ge goal 0 ∧
  ∀ (H' : Hp) (v : V), Same H H' → OrgV H' v (originsM (aimF (lenAt T) row (some 0) cs) (aimF (lenAt T) row none cs) (chg cs) goal) → Q v H'
theorem Fits.same {K : PySem.W.Frag} {H H' : Hp} {t l : Addr} {T : List Int} {row : Int} {xs : List V} {cs : List Cmd} (e : Same H H') (h : Fits K H t l T row xs cs) : Fits K H' t l T row xs cs := by
  obtain ⟨h1, h2, h3, h4⟩ := h
  exact ⟨e.seq h1, e.seq h2, h3.same e, h4⟩
@[irreducible] def zRun (K : PySem.W.Frag) : Sp := spRun K
theorem zRun_eq (K : PySem.W.Frag) : zRun K = spRun K := by unfold zRun; rfl
theorem ask_run {K : PySem.W.Frag} {H : Hp} {Q : VK} {E : XK} {t b l : Addr} {T : List Int} {row : Int} {g : Option Int} {xs : List V} {cs : List Cmd} (f : Fits K H t l T row xs cs) (hb : SqT K H b [.int row, optV g]) (g0 : ge g 0)
    (k : ∀ (H' : Hp) (p : Addr), Same H H' → SqT K H' p [.int (row + last cs), optV (aimF (lenAt T) row g cs)] → Q (.ref p) H') : zRun K [.ref t, .ref b, .ref l] H Q E := by
  rw [zRun_eq]
  obtain ⟨h1, h2, h3, h4, h5, h6, h7, h8, h9⟩ := f
  exact ⟨t, b, l, T, row, g, xs, cs, _, _, rfl, h1, hb, h2, h3, h4, h5, h6, g0, h7, h8, afterL_in h9, k⟩
section
variable {P : Program} {w : World} {K : PySem.W.Frag} {mg : Str → Option Value} {base : Heap} {wo wn : Addr}
theorem sc_total_change : FnScope ["commands", "change", "command"] ["commands"] (defScope s_total_change) := ⟨rfl, rfl, rfl, by decide +kernel, rfl, by decide +kernel, by decide +kernel⟩
theorem ok_total_change {f : Addr} {fd : FuncData} (F : Fun K "total_change" "total_change" s_total_change f fd) : FnOk P w K mg base CX0 1 f fd ["commands"] (spTotal K) := by
  refine F.ok sc_total_change (fun vs H Q E h => ?_) (fun cdv A outer s H vs Q E hr h => ?_)
  · obtain ⟨l, xs, cs, rfl, _⟩ := h
    rfl
  · obtain ⟨l, xs, cs, rfl, hl, hcs, k⟩ := h
    refine ⟨_, (pss_cons (ps_set (i := 1) sc_total_change.nd rfl (Or.inl rfl) pe_int)
      (pss_cons (ps_for PassesOwn.never rfl (pi_list (pv 0)) (pg_name (i := 2) sc_total_change.nd rfl (Or.inl rfl)) (pss_one (ps_if (pt_cmpR op_eq (pe_ix ix_tup (pv 2) pe_int (fun _ _ => rfl)) pe_str (nomark _)) (pss_one (ps_aug (i := 1) sc_total_change.nd rfl (Or.inl rfl) (pe_ix ix_tup (pv 2) pe_int (fun _ _ => rfl)) ip_add)) (pss_one (ps_if (pt_cmpR op_eq (pe_ix ix_tup (pv 2) pe_int (fun _ _ => rfl)) pe_str (nomark _)) (pss_one (ps_aug (i := 1) sc_total_change.nd rfl (Or.inl rfl) (pe_ix ix_tup (pv 2) pe_int (fun _ _ => rfl)) ip_sub)) pss_nil)))))
      (pss_one (ps_ret (pv 1))))), ?_⟩
    refine ⟨_, rfl, l, rfl, ⟨_, hl⟩, for_list (K := K) (a := l) (xs := xs) (fun i σ H' => ∃ v2 : Option V, σ = [some (.ref l), some (.int (chg (cs.take i))), v2] ∧ H' = H) ⟨none, rfl, rfl⟩ (fun i σ H' _ ⟨_, _, e⟩ => e ▸ hl) (fun i y σ H2 hi h => ?_) (fun σ H2 h => ?_)⟩
    · obtain ⟨v2, rfl, rfl⟩ := h
      obtain ⟨c, hc, q, rfl, hq⟩ := paired_at hcs hi
      have e : chg (cs.take (i + 1)) = chg (cs.take i) + chg1 c := by rw [take_snoc hc, chg_snoc]
      cases c with
      | right n =>
        refine ⟨_, rfl, q, _, 0, _, rfl, rfl, hq, rfl, rfl, true, by decide +kernel, iteT ?_⟩
        refine ⟨_, rfl, _, rfl, q, _, 1, _, rfl, rfl, hq, rfl, _, _, rfl, rfl, ?_⟩
        exact ⟨_, by rw [e]; rfl, rfl⟩
      | left n =>
        refine ⟨_, rfl, q, _, 0, _, rfl, rfl, hq, rfl, rfl, false, by decide +kernel, iteF ?_⟩
        refine ⟨_, rfl, q, _, 0, _, rfl, rfl, hq, rfl, rfl, true, by decide +kernel, iteT ?_⟩
        refine ⟨_, rfl, _, rfl, q, _, 1, _, rfl, rfl, hq, rfl, _, _, rfl, rfl, ?_⟩
        exact ⟨_, by rw [e, show chg (cs.take i) + chg1 (Cmd.left n) = chg (cs.take i) - n from Int.sub_eq_add_neg.symm]; rfl, rfl⟩
      | down n =>
        refine ⟨_, rfl, q, _, 0, _, rfl, rfl, hq, rfl, rfl, false, by decide +kernel, iteF ?_⟩
        refine ⟨_, rfl, q, _, 0, _, rfl, rfl, hq, rfl, rfl, false, by decide +kernel, iteF ?_⟩
        exact ⟨_, by rw [e, show chg (cs.take i) + chg1 (Cmd.down n) = chg (cs.take i) from Int.add_zero _]; rfl, rfl⟩
      | up n =>
        refine ⟨_, rfl, q, _, 0, _, rfl, rfl, hq, rfl, rfl, false, by decide +kernel, iteF ?_⟩
        refine ⟨_, rfl, q, _, 0, _, rfl, rfl, hq, rfl, rfl, false, by decide +kernel, iteF ?_⟩
        exact ⟨_, by rw [e, show chg (cs.take i) + chg1 (Cmd.up n) = chg (cs.take i) from Int.add_zero _]; rfl, rfl⟩
      | home =>
        refine ⟨_, rfl, q, _, 0, _, rfl, rfl, hq, rfl, rfl, false, by decide +kernel, iteF ?_⟩
        refine ⟨_, rfl, q, _, 0, _, rfl, rfl, hq, rfl, rfl, false, by decide +kernel, iteF ?_⟩
        exact ⟨_, by rw [e, show chg (cs.take i) + chg1 Cmd.home = chg (cs.take i) from Int.add_zero _]; rfl, rfl⟩
      | stop =>
        refine ⟨_, rfl, q, _, 0, _, rfl, rfl, hq, rfl, rfl, false, by decide +kernel, iteF ?_⟩
        refine ⟨_, rfl, q, _, 0, _, rfl, rfl, hq, rfl, rfl, false, by decide +kernel, iteF ?_⟩
        exact ⟨_, by rw [e, show chg (cs.take i) + chg1 Cmd.stop = chg (cs.take i) from Int.add_zero _]; rfl, rfl⟩
    · obtain ⟨v2, rfl, rfl⟩ := h
      rw [hcs.len, List.take_length]
      exact ⟨_, rfl, k⟩
theorem sc_effect : FnScope ["text", "row", "commands", "low", "high"] ["text", "row", "commands"] (defScope s_effect) := ⟨rfl, rfl, rfl, by decide +kernel, rfl, by decide +kernel, by decide +kernel⟩
theorem ok_effect {f : Addr} {fd : FuncData} (F : Fun K "effect" "effect" s_effect f fd) (c_run : Cal P w K mg base 4 "run" (zRun K)) (c_total_change : Cal P w K mg base 1 "total_change" (spTotal K)) : FnOk P w K mg base CX0 5 f fd ["text", "row", "commands"] (spEffect K) := by
  refine F.ok sc_effect (fun vs H Q E h => ?_) (fun cdv A outer s H vs Q E hr h => ?_)
  · obtain ⟨t, l, T, row, xs, cs, rfl, _⟩ := h
    rfl
  · obtain ⟨t, l, tx, row, xs, cs, rfl, ft, k⟩ := h
    refine ⟨_, (pss_cons (ps_set (i := 3) sc_effect.nd rfl (Or.inl rfl) (pe_ix ix_tup (pe_cal c_run hr (by decide) (by rfl) (pa_cons (pv 0) (pa_cons (pe_tup (pa_cons (pv 1) (pa_cons pe_int pa_nil))) (pa_cons (pv 2) pa_nil)))) pe_int (fun _ _ => rfl)))
      (pss_cons (ps_set (i := 4) sc_effect.nd rfl (Or.inl rfl) (pe_ix ix_tup (pe_cal c_run hr (by decide) (by rfl) (pa_cons (pv 0) (pa_cons (pe_tup (pa_cons (pv 1) (pa_cons pe_non pa_nil))) (pa_cons (pv 2) pa_nil)))) pe_int (fun _ _ => rfl)))
      (pss_one (ps_ret (pe_tup (pa_cons (pv 3) (pa_cons (pv 4) (pa_cons (pe_cal c_total_change hr (by decide) (by rfl) (pa_cons (pv 2) pa_nil)) pa_nil)))))))), ?_⟩
    refine ⟨_, rfl, _, rfl, (by show 2 ≤ sizeLine; decide), fun p1 hp1 => ⟨_, rfl, ?_⟩⟩
    have s1 : Same H (upd H p1 (.tup [.int row, .int 0])) := same_upd (Same.refl _) hp1
    refine ask_run (g := some 0) (ft.same s1) (SqT.of upd_same) (ge_some.mpr (Int.le_refl 0)) (fun H2 q2 e2 hq2 => ?_)
    refine ⟨q2, _, 1, _, rfl, rfl, hq2, rfl, ?_⟩
    have e12 := s1.trans e2
    refine ⟨_, rfl, _, rfl, (by show 2 ≤ sizeLine; decide), fun p3 hp3 => ⟨_, rfl, ?_⟩⟩
    have s3 : Same H2 (upd H2 p3 (.tup [.int row, .non])) := same_upd (Same.refl _) hp3
    refine ask_run (g := none) (ft.same (e12.trans s3)) (SqT.of upd_same) (ge_none 0) (fun H4 q4 e4 hq4 => ?_)
    refine ⟨q4, _, 1, _, rfl, rfl, hq4, rfl, ?_⟩
    have e14 := (e12.trans s3).trans e4
    obtain ⟨_, hl, hcs, _⟩ := ft.same e14
    refine ⟨_, rfl, _, rfl, _, rfl, l, xs, cs, rfl, hl, hcs, (by show 3 ≤ sizeLine; decide), fun p5 hp5 => ?_⟩
    exact k _ p5 (same_upd e14 hp5) upd_same
theorem sc_is_less : FnScope ["goal", "other"] ["goal", "other"] (defScope s_is_less) := ⟨rfl, rfl, rfl, by decide +kernel, rfl, by decide +kernel, by decide +kernel⟩
theorem ok_is_less {f : Addr} {fd : FuncData} (F : Fun K "is_less" "is_less" s_is_less f fd) : FnOk P w K mg base CX0 1 f fd ["goal", "other"] spLess := by
  refine F.ok sc_is_less (fun vs H Q E h => ?_) (fun cdv A outer s H vs Q E hr h => ?_)
  · obtain ⟨a, b, rfl, _⟩ := h
    rfl
  · obtain ⟨a, b, rfl, k⟩ := h
    refine ⟨_, (pss_one (ps_ret (pe_and (pe_cmpR op_notN (pv 0) pe_non (nomark _)) (pe_one (pe_or (pe_cmpR op_isN (pv 1) pe_non (nomark _)) (pe_one (pe_cmpR op_lt (pv 0) (pv 1) (nomark _)))))))), ?_⟩
    cases a with
    | none => exact ⟨_, rfl, rfl, _, rfl, iteF k⟩
    | some x =>
      refine ⟨_, rfl, rfl, _, rfl, iteT ?_⟩
      cases b with
      | none => exact ⟨_, rfl, rfl, _, rfl, iteT k⟩
      | some y => exact ⟨_, rfl, rfl, _, rfl, iteF ⟨_, rfl, _, rfl, _, _, rfl, rfl, k⟩⟩
theorem sc_origins : FnScope ["text", "row", "commands", "goal", "low", "high", "change", "before"] ["text", "row", "commands", "goal"] (defScope s_origins) := ⟨rfl, rfl, rfl, by decide +kernel, rfl, by decide +kernel, by decide +kernel⟩
theorem ok_origins {f : Addr} {fd : FuncData} (F : Fun K "origins" "origins" s_origins f fd) (c_run : Cal P w K mg base 4 "run" (zRun K)) (c_effect : Cal P w K mg base 5 "effect" (spEffect K)) (c_is_less : Cal P w K mg base 1 "is_less" spLess) :
    FnOk P w K mg base CX0 6 f fd ["text", "row", "commands", "goal"] (spOrigins K) := by
  refine F.ok sc_origins (fun vs H Q E h => ?_) (fun cdv A outer s H vs Q E hr h => ?_)
  · obtain ⟨t, l, T, row, goal, xs, cs, rfl, _⟩ := h
    rfl
  · obtain ⟨t, l, tx, row, goal, xs, cs, rfl, ft, g0, k⟩ := h
    refine ⟨_, (pss_cons (ps_expr (pe_cal c_run hr (by decide) (by rfl) (pa_cons (pv 0) (pa_cons (pe_tup (pa_cons (pv 1) (pa_cons (pv 3) pa_nil))) (pa_cons (pv 2) pa_nil)))))
      (pss_cons (ps_asg (pe_cal c_effect hr (by decide) (by rfl) (pa_cons (pv 0) (pa_cons (pv 1) (pa_cons (pv 2) pa_nil)))) (pg_tup rfl (pgs_cons (pg_name (i := 4) sc_origins.nd rfl (Or.inl rfl)) (pgs_cons (pg_name (i := 5) sc_origins.nd rfl (Or.inl rfl)) (pgs_cons (pg_name (i := 6) sc_origins.nd rfl (Or.inl rfl)) pgs_nil)))))
      (C8.pss_cut (ps_if (PW.pt (pw_or (pt_val (pe_cal c_is_less hr (by decide) (by rfl) (pa_cons (pv 3) (pa_cons (pv 4) pa_nil)))) (pw_or1 (pt_val (pe_cal c_is_less hr (by decide) (by rfl) (pa_cons (pv 5) (pa_cons (pv 3) pa_nil))))))) (pss_one (ps_ret pe_non)) pss_nil)
      (C8.pss_cut (ps_set (i := 7) sc_origins.nd rfl (Or.inl rfl) (pe_ifExp (pt_cmpR op_isN (pv 3) pe_non (nomark _)) pe_non (pe_op op_sub (pv 3) (pv 6))))
      (pss_one (ps_ret (pe_tup (pa_cons (pe_ifExp (pt_cmpR op_eq (pv 3) (pv 4) (nomark _)) pe_int (pv 7)) (pa_cons (pe_ifExp (pt_cmpR op_eq (pv 3) (pv 5) (nomark _)) pe_non (pv 7)) pa_nil))))))))), ?_⟩
    refine ⟨_, rfl, _, rfl, _, rfl, (by show 2 ≤ sizeLine; decide), fun p1 hp1 => ⟨_, rfl, ?_⟩⟩
    have s1 : Same H (upd H p1 (.tup [.int row, optV goal])) := same_upd (Same.refl _) hp1
    refine ask_run (g := goal) (ft.same s1) (SqT.of upd_same) g0 (fun H2 q2 e2 hq2 => ?_)
    have e12 := s1.trans e2
    refine ⟨_, rfl, _, rfl, _, rfl, t, l, tx, row, xs, cs, rfl, ft.same e12, fun H3 p3 e3 hp3 => ?_⟩
    have e13 := e12.trans e3
    refine ⟨p3, _, rfl, SqT.of hp3, rfl, _, _, rfl, _, _, rfl, _, _, rfl, rfl, ?_⟩
    generalize glo : aimF (lenAt tx) row (some 0) cs = lo at *
    generalize ghi : aimF (lenAt tx) row none cs = hi at *
    refine ⟨fun σ H' => σ = [some (.ref t), some (.int row), some (.ref l), some (optV goal), some (optV lo), some (optV hi), some (.int (chg cs)), none] ∧ H' = H3 ∧ lessB goal lo = false ∧ lessB hi goal = false, ?_, ?_⟩
    · refine ⟨_, rfl, _, rfl, goal, lo, rfl, _, rfl, ?_⟩
      cases h1 : lessB goal lo with
      | true => exact iteT (k _ .non e13 (by unfold originsM; rw [if_pos (.inl h1)]; rfl))
      | false =>
        refine iteF ⟨_, rfl, _, rfl, hi, goal, rfl, _, rfl, ?_⟩
        cases h2 : lessB hi goal with
        | true => exact iteT (k _ .non e13 (by unfold originsM; rw [if_pos (.inr h2)]; rfl))
        | false => exact iteF ⟨rfl, rfl, rfl, rfl⟩
    · rintro σ H4 ⟨rfl, rfl, h1, h2⟩
      have hM : originsM lo hi (chg cs) goal = some (if goal = lo then some 0 else goal.map (· - chg cs), if goal = hi then none else goal.map (· - chg cs)) := by
        unfold originsM
        rw [if_neg (by rw [h1, h2]; simp)]
      rw [hM] at k
      refine ⟨fun σ H' => σ = [some (.ref t), some (.int row), some (.ref l), some (optV goal), some (optV lo), some (optV hi), some (.int (chg cs)), some (optV (goal.map (· - chg cs)))] ∧ H' = H4, ?_, ?_⟩
      · cases goal with
        | none => exact ⟨_, rfl, rfl, _, rfl, iteT ⟨rfl, rfl⟩⟩
        | some x => exact ⟨_, rfl, rfl, _, rfl, iteF ⟨_, rfl, _, rfl, _, _, rfl, rfl, rfl, rfl⟩⟩
      · rintro σ H5 ⟨rfl, rfl⟩
        have seq : ∀ a b : Option Int, scal (optV a) (optV b) = true ∧ decide (optV a = optV b) = decide (a = b) := fun a b => by
          cases a <;> cases b <;> simp [scal, optV]
        refine ⟨_, rfl, _, rfl, (seq goal lo).1, _, rfl, ?_⟩
        have fin : ∀ a : Option Int, (goal = lo → a = some 0) → (goal ≠ lo → a = goal.map (· - chg cs)) → ∀ b : Option Int, (goal = hi → b = none) → (goal ≠ hi → b = goal.map (· - chg cs)) → ∀ (H' : Hp) (p : Addr), Same H H' → H' p = some (.tup [optV a, optV b]) → Q (.ref p) H' := fun a a1 a2 b b1 b2 H' p e hp => by
          refine k H' (.ref p) e ⟨p, rfl, ?_⟩
          have ea : a = if goal = lo then some 0 else goal.map (· - chg cs) := by
            by_cases z : goal = lo
            · rw [if_pos z, a1 z]
            · rw [if_neg z, a2 z]
          have eb : b = if goal = hi then none else goal.map (· - chg cs) := by
            by_cases z : goal = hi
            · rw [if_pos z, b1 z]
            · rw [if_neg z, b2 z]
          rw [← ea, ← eb]
          exact hp
        rw [(seq goal lo).2]
        have last : ∀ a : Option Int, (goal = lo → a = some 0) → (goal ≠ lo → a = goal.map (· - chg cs)) → ∀ (b : Option Int), (goal = hi → b = none) → (goal ≠ hi → b = goal.map (· - chg cs)) → ∀ p, H5 p = none → Q (.ref p) (upd H5 p (.tup [optV a, optV b])) := fun a a1 a2 b b1 b2 p hp =>
          fin a a1 a2 b b1 b2 _ p (same_upd e13 hp) upd_same
        refine ite2 (fun c => ?_) (fun c => ?_)
        · have c' : goal = lo := of_decide_eq_true c
          refine ⟨_, rfl, _, rfl, (seq goal hi).1, _, rfl, ?_⟩
          rw [(seq goal hi).2]
          refine ite2 (fun d => ?_) (fun d => ?_)
          · have d' : goal = hi := of_decide_eq_true d
            exact ⟨(by show 2 ≤ sizeLine; decide), last (some 0) (fun _ => rfl) (fun z => absurd c' z) none (fun _ => rfl) (fun z => absurd d' z)⟩
          · have d' : goal ≠ hi := fun z => d (decide_eq_true z)
            exact ⟨_, rfl, (by show 2 ≤ sizeLine; decide), last (some 0) (fun _ => rfl) (fun z => absurd c' z) _ (fun z => absurd z d') (fun _ => rfl)⟩
        · have c' : goal ≠ lo := fun z => c (decide_eq_true z)
          refine ⟨_, rfl, _, rfl, _, rfl, (seq goal hi).1, _, rfl, ?_⟩
          rw [(seq goal hi).2]
          refine ite2 (fun d => ?_) (fun d => ?_)
          · have d' : goal = hi := of_decide_eq_true d
            exact ⟨(by show 2 ≤ sizeLine; decide), last _ (fun z => absurd z c') (fun _ => rfl) none (fun _ => rfl) (fun z => absurd d' z)⟩
          · have d' : goal ≠ hi := fun z => d (decide_eq_true z)
            exact ⟨_, rfl, (by show 2 ≤ sizeLine; decide), last _ (fun z => absurd z c') (fun _ => rfl) _ (fun z => absurd z d') (fun _ => rfl)⟩
end
end Gc

/-! what the law says of origins -/
namespace Gc
open PySem L2
abbrev s_due : Stmt := top 33
def spDue (K : PySem.W.Frag) : Sp := fun vs H Q _ => ∃ (t l : Addr) (T : List Int) (row : Int) (goal : Option Int) (xs : List V) (cs : List Cmd), vs = [.ref t, .int row, .ref l, optV goal] ∧ Fits K H t l T row xs cs ∧ (∀ c ∈ cs, CSml c) ∧ (∀ x ∈ T, x ≤ 20) ∧ ge goal 0 ∧ (∀ v, goal = some v → v ≤ 20) ∧
  ∀ (H' : Hp) (v : V), Same H H' → OrgV H' v (originsM (aimF (lenAt T) row (some 0) cs) (aimF (lenAt T) row none cs) (chg cs) goal) → Q v H'
@[irreducible] def zEnd (K : PySem.W.Frag) : Sp := spEnd K
theorem zEnd_eq (K : PySem.W.Frag) : zEnd K = spEnd K := by unfold zEnd; rfl
theorem ask_end {K : PySem.W.Frag} {H : Hp} {Q : VK} {E : XK} {t b l : Addr} {T : List Int} {row : Int} {g : Option Int} {xs : List V} {cs : List Cmd} (f : Fits K H t l T row xs cs) (sm : ∀ c ∈ cs, CSml c) (hb : SqT K H b [.int row, optV g])
    (k : ∀ (H' : Hp) (p : Addr), Same H H' → H p = none → H' p = some (.tup [.int (row + last cs), optV (aimF (lenAt T) row g cs)]) → Q (.ref p) H') : zEnd K [.ref t, .ref b, .ref l] H Q E := by
  rw [zEnd_eq]
  obtain ⟨h1, h2, h3, h4, h5, h6, h7, h8, h9⟩ := f
  have e := afterL_in (T := T) (r := row) (a := g) h9
  exact ⟨t, b, l, T, row, g, xs, cs, rfl, h1, hb, h2, h3, sm, h5, h6, (fun z => by rw [e] at z; cases z), fun r' a' z => by rw [e] at z; cases z; exact k⟩
theorem lenAt_le {T : List Int} {B : Int} (b0 : 0 ≤ B) (h : ∀ x ∈ T, x ≤ B) (k : Int) : lenAt T k ≤ B := by
  unfold lenAt
  rw [List.getD_eq_getElem?_getD]
  cases e : T[k.toNat]? with
  | none => exact b0
  | some x => exact h x (List.mem_of_getElem? e)
theorem atI_last {xs : List V} {y : V} (h : xs.getLast? = some y) : atI xs (-1) = some y := by
  rw [List.getLast?_eq_getElem?] at h
  have hl : xs.length ≠ 0 := fun z => by
    rw [List.length_eq_zero_iff] at z
    subst z
    cases h
  unfold atI ixN
  rw [if_neg (by decide), if_pos (by omega)]
  show xs[(-1 + (xs.length : Int)).toNat]? = some y
  rw [show (-1 + (xs.length : Int)).toNat = xs.length - 1 by omega]
  exact h
theorem atI_first {xs : List V} {y : V} (h : xs.head? = some y) : atI xs 0 = some y := by
  cases xs with
  | nil => cases h
  | cons x r =>
    have e : x = y := Option.some.inj h
    subst e
    unfold atI ixN
    rw [if_pos (by decide), if_pos (by rw [List.length_cons]; omega)]
    rfl
theorem cands_v : rgV 0 21 ++ [V.non] = cands.map optV := by rfl
theorem cands_at {i : Nat} {y : V} (h : (cands.map optV)[i]? = some y) : ∃ o, cands[i]? = some o ∧ y = optV o ∧ ge o 0 := by
  rw [List.getElem?_map] at h
  cases e : cands[i]? with
  | none =>
    rw [e] at h
    cases h
  | some o =>
    rw [e] at h
    refine ⟨o, rfl, (Option.some.inj h).symm, ?_⟩
    rcases cands_mem (List.mem_of_getElem? e) with rfl | ⟨x, rfl, x0, _⟩
    · exact ge_none 0
    · exact ge_some.mpr x0
theorem filter_more {p : Option Int → Bool} {i : Nat} {o : Option Int} (h : cands[i]? = some o) : (cands.take (i + 1)).filter p = (cands.take i).filter p ++ (if p o = true then [o] else []) := by
  rw [take_snoc h, List.filter_append]
  congr 1
  by_cases z : p o = true
  · rw [if_pos z, List.filter_cons_of_pos z]
    rfl
  · rw [if_neg z, List.filter_cons_of_neg z]
    rfl
theorem head_map {f : List (Option Int)} {a : Option Int} (h : f.head? = some a) : (f.map optV).head? = some (optV a) := by
  rw [List.head?_map, h]
  rfl
theorem last_map {f : List (Option Int)} {a : Option Int} (h : f.getLast? = some a) : (f.map optV).getLast? = some (optV a) := by
  rw [List.getLast?_map, h]
  rfl
theorem scal_opt (a b : Option Int) : scal (optV a) (optV b) = true ∧ decide (optV a = optV b) = decide (a = b) := by
  cases a <;> cases b <;> simp [scal, optV]
section
variable {P : Program} {w : World} {K : PySem.W.Frag} {mg : Str → Option Value} {base : Heap}
theorem sc_law_due : FnScope ["page", "spot", "moves", "aim", "found", "one"] ["page", "spot", "moves", "aim"] (defScope s_due) := ⟨rfl, rfl, rfl, by decide +kernel, rfl, by decide +kernel, by decide +kernel⟩
theorem ok_due {f : Addr} {fd : FuncData} (F : Fun K "_law_due" "_law_due" s_due f fd) (T : TxtC mg) (c_law_end : Cal P w K mg base 1 "_law_end" (zEnd K)) : FnOk P w K mg base CX0 2 f fd ["page", "spot", "moves", "aim"] (spDue K) := by
  refine F.ok sc_law_due (fun vs H Q E h => ?_) (fun cdv A outer s H vs Q E hr h => ?_)
  · obtain ⟨t, l, tx, row, goal, xs, cs, rfl, _⟩ := h
    rfl
  · obtain ⟨t, l, tx, row, goal, xs, cs, rfl, ft, sm, tb, g0, g1, k⟩ := h
    refine ⟨_, (pss_cons (ps_setLc (i := 4) (own := [("one", 5)]) rfl sc_law_due.nd rfl rfl (sw_true rfl rfl rfl (by decide +kernel)) (pi_list (pe_op op_cat (pe_listRg rfl (by rfl) T.list (prg_1 (by rfl) T.range pe_int)) (pe_lst (pa_cons pe_non pa_nil)))) (blkOk_by (N := ["page", "spot", "moves", "aim", "found", "one"]) (sc := defScope s_due) (by decide +kernel)) (fun _ _ _ _ _ => (pg_name (i := 5) sc_law_due.nd rfl (Or.inl rfl))) (fun _ _ _ _ _ => (pts_one (pt_cmpR op_eq (pe_ix (show IxR _ (rIxT K) from ix_tup) (pe_cal c_law_end hr (by decide) (by rfl) (pa_cons (pv 0) (pa_cons (pe_tup (pa_cons (pv 1) (pa_cons (pv 5) pa_nil))) (pa_cons (pv 2) pa_nil)))) pe_int (fun _ _ => rfl)) (pv 3) (nomark _)))) (fun _ _ _ _ _ => (pv 5)))
      (pss_cons (ps_if (pt_cmpR op_eq (pe_callB call_len_seq (by rfl) T.len (by decide +kernel) (pa_cons (pv 4) pa_nil)) pe_int (nomark _)) (pss_one (ps_ret pe_non)) pss_nil)
      (pss_one (ps_ret (pe_tup (pa_cons (pe_ix ix_list (pv 4) pe_int (fun _ _ => rfl)) (pa_cons (pe_ix ix_list (pv 4) (pe_un un_neg pe_int) (fun _ _ => rfl)) pa_nil))))))), ?_⟩
    -- the goals that are tried
    refine ⟨_, rfl, RgOk.of_le (by decide) (by decide) (by decide) (by decide), fun q1 hq1 => ⟨(by show 1 ≤ sizeLine; decide), fun q2 hq2 => ?_⟩⟩
    have s1 : Same H (upd H q1 (.lst (rgV 0 21))) := same_upd (Same.refl _) hq1
    have s2 : Same (upd H q1 (.lst (rgV 0 21))) (upd (upd H q1 (.lst (rgV 0 21))) q2 (.lst [.non])) := same_upd (Same.refl _) hq2
    refine ⟨q1, q2, _, _, rfl, rfl, s2 _ _ upd_same, upd_same, (by rw [rgV_length]; show 21 + 1 ≤ sizeLine; decide), fun q3 hq3 => ?_⟩
    rw [cands_v]
    have s3 : Same H (upd (upd (upd H q1 (.lst (rgV 0 21))) q2 (.lst [.non])) q3 (.lst (cands.map optV))) := (s1.trans s2).trans (same_upd (Same.refl _) hq3)
    have h3 : upd (upd (upd H q1 (.lst (rgV 0 21))) q2 (.lst [.non])) q3 (.lst (cands.map optV)) q3 = some (.lst (cands.map optV)) := upd_same
    generalize upd (upd (upd H q1 (.lst (rgV 0 21))) q2 (.lst [.non])) q3 (.lst (cands.map optV)) = H3 at s3 h3 ⊢
    refine ⟨q3, rfl, ⟨_, SqL.of h3⟩, fun D hD => ?_⟩
    have due := due_eq (T := lenAt tx) (lenAt_nn ft.2.2.2.1) (lenAt_le (by decide) tb) ft.2.2.2.2.2.2.1 row g0 g1
    generalize hp : (fun o => decide (aimF (lenAt tx) row o cs = goal)) = p at due
    refine lc_list (K := K) (a := q3) (xs := cands.map optV) (fun i H' => Same H3 H' ∧ H' D = some (.lst (((cands.take i).filter p).map optV)))
      ⟨same_upd (Same.refl _) hD, upd_same⟩ (fun i H' _ ⟨e, _⟩ => SqL.of (e _ _ h3)) (fun i y H4 hx h => ?_) (fun H4 h => ?_)
    · obtain ⟨e, hd⟩ := h
      obtain ⟨o, ho, rfl, o0⟩ := cands_at hx
      have li : i < 22 := by
        have := (List.getElem?_eq_some_iff.mp ho).1
        have e22 : cands.length = 22 := by decide
        omega
      refine ⟨rfl, ?_⟩
      refine ⟨_, rfl, _, rfl, _, rfl, (by show 2 ≤ sizeLine; decide), fun b1 hb1 => ⟨_, rfl, ?_⟩⟩
      have sb : Same H4 (upd H4 b1 (.tup [.int row, optV o])) := same_upd (Same.refl _) hb1
      have e3b := (s3.trans e).trans sb
      refine ask_end (g := o) (ft.same e3b) sm (SqT.of upd_same) (fun H5 p5 e5 np5 hp5 => ?_)
      refine ⟨p5, _, 1, _, rfl, rfl, SqT.of hp5, rfl, _, rfl, (scal_opt _ _).1, _, rfl, ?_⟩
      rw [(scal_opt _ _).2]
      have hpo : decide (aimF (lenAt tx) row o cs = goal) = p o := by rw [← hp]
      rw [hpo]
      have hd5 := e5 _ _ (sb _ _ hd)
      have more := filter_more (p := p) ho
      cases hz : p o with
      | true =>
        rw [hz, if_pos rfl] at more
        refine iteT ⟨_, rfl, _, hd5, small_n ?_, same_freeU ((e.trans sb).trans e5) hD, ?_⟩
        · rw [List.length_map]
          refine Nat.le_trans (List.length_filter_le _ _) ?_
          rw [List.length_take]
          omega
        · rw [upd_same, more, List.map_append]
          rfl
      | false =>
        rw [hz, if_neg Bool.false_ne_true, List.append_nil] at more
        refine iteF ⟨(e.trans sb).trans e5, ?_⟩
        rw [more]
        exact hd5
    · obtain ⟨e, hd⟩ := h
      rw [List.length_map, List.take_length] at hd
      have e3 := s3.trans e
      have hp2 : cands.filter (fun o => decide (aimF (lenAt tx) row o cs = goal)) = cands.filter p := by rw [hp]
      generalize hM : originsM (aimF (lenAt tx) row (some 0) cs) (aimF (lenAt tx) row none cs) (chg cs) goal = M at *
      generalize hf : cands.filter p = f at *
      refine ⟨_, rfl, D, _, rfl, .inl (SqL.of hd), rfl, _, rfl, ?_⟩
      cases M with
      | none =>
        have e0 : f = [] := due
        subst e0
        exact iteT (k H4 .non e3 rfl)
      | some x =>
        obtain ⟨d1, d2⟩ : TwoEnds f x.1 x.2 := due
        have ne : ¬ (V.int ((f.map optV).length : Nat) = V.int 0) := fun z => by
          cases f with
          | nil => cases d1
          | cons y r =>
            have z' : (((y :: r).map optV).length : Int) = 0 := V.int.inj z
            rw [List.length_map, List.length_cons] at z'
            omega
        rw [decide_eq_false ne]
        refine iteF ?_
        refine ⟨_, rfl, D, _, 0, _, rfl, rfl, SqL.of hd, atI_first (head_map d1), _, rfl, _, rfl, D, _, -1, _, rfl, rfl, SqL.of hd, atI_last (last_map d2), (by show 2 ≤ sizeLine; decide), fun p6 hp6 => ?_⟩
        exact k _ (.ref p6) (same_upd e3 hp6) ⟨p6, rfl, upd_same⟩
end
end Gc

namespace Gc
open PySem L2
abbrev s_law : Stmt := top 34
def spLaw (K : PySem.W.Frag) : Sp := fun vs H Q _ => ∃ (a : Addr) (ns : List Int), vs = [.ref a] ∧ SqL K H a (ns.map V.int) ∧ ns.length ≤ 63 ∧ ∀ H', Q (.bl true) H'
@[irreducible] def zOrigins (K : PySem.W.Frag) : Sp := spOrigins K
theorem zOrigins_eq (K : PySem.W.Frag) : zOrigins K = spOrigins K := by unfold zOrigins; rfl
@[irreducible] def zDue (K : PySem.W.Frag) : Sp := spDue K
theorem zDue_eq (K : PySem.W.Frag) : zDue K = spDue K := by unfold zDue; rfl
abbrev orgOf (T : List Int) (row : Int) (cs : List Cmd) (goal : Option Int) : Option (Option Int × Option Int) := originsM (aimF (lenAt T) row (some 0) cs) (aimF (lenAt T) row none cs) (chg cs) goal
theorem ask_org {K : PySem.W.Frag} {H : Hp} {Q : VK} {E : XK} {t l : Addr} {T : List Int} {row : Int} {goal : Option Int} {xs : List V} {cs : List Cmd} (f : Fits K H t l T row xs cs) (g0 : ge goal 0) (k : ∀ (H' : Hp) (v : V), Same H H' → OrgV H' v (orgOf T row cs goal) → Q v H') :
    zOrigins K [.ref t, .int row, .ref l, optV goal] H Q E := by
  rw [zOrigins_eq]
  exact ⟨t, l, T, row, goal, xs, cs, rfl, f, g0, k⟩
theorem ask_due {K : PySem.W.Frag} {H : Hp} {Q : VK} {E : XK} {t l : Addr} {T : List Int} {row : Int} {goal : Option Int} {xs : List V} {cs : List Cmd} (f : Fits K H t l T row xs cs) (sm : ∀ c ∈ cs, CSml c) (tb : ∀ x ∈ T, x ≤ 20) (g0 : ge goal 0) (g1 : ∀ v, goal = some v → v ≤ 20)
    (k : ∀ (H' : Hp) (v : V), Same H H' → OrgV H' v (orgOf T row cs goal) → Q v H') : zDue K [.ref t, .int row, .ref l, optV goal] H Q E := by
  rw [zDue_eq]
  exact ⟨t, l, T, row, goal, xs, cs, rfl, f, sm, tb, g0, g1, k⟩
theorem OrgV.same {H H' : Hp} {v : V} {o : Option (Option Int × Option Int)} (e : Same H H') (h : OrgV H v o) : OrgV H' v o := by
  cases o with
  | none => exact h
  | some x =>
    obtain ⟨p, rfl, h1⟩ := h
    exact ⟨p, rfl, e _ _ h1⟩
def orgD : Option (Option Int × Option Int) → PyData
  | none => .none
  | some x => .tuple [optD x.1, optD x.2]
theorem dp_optO {K : PySem.W.Frag} {H : Hp} (o : Option Int) : Dp K H (optV o) (optD o) := by
  cases o with
  | none => exact .non
  | some n => exact .int n
theorem OrgV.dp {K : PySem.W.Frag} {H : Hp} {v : V} {o : Option (Option Int × Option Int)} (h : OrgV H v o) : Dp K H v (orgD o) := by
  cases o with
  | none =>
    obtain rfl : v = .non := h
    exact .non
  | some x =>
    obtain ⟨p, rfl, h1⟩ := h
    exact .tup (SqT.of h1) (.cons (dp_optO x.1) (.cons (dp_optO x.2) .nil))
theorem orgD_lay (o : Option (Option Int × Option Int)) : (orgD o).canLay0 = true := by
  rcases o with _ | ⟨_ | a, _ | b⟩ <;> rfl
theorem orgD_shaped (o : Option (Option Int × Option Int)) : SeqAt.shaped (orgD o) = true := by
  rcases o with _ | ⟨_ | a, _ | b⟩ <;> rfl
theorem orgD_eqv (o : Option (Option Int × Option Int)) : PyData.eqv (orgD o) (orgD o) = true := SeqAt.eqv_refl _ (orgD_lay o)
theorem ite_ne {d : PyData} {A B : Prop} (e : PyData.eqv d d = true) (h : B) : if (!PyData.eqv d d) = true then A else B := by
  rw [e]
  exact iteF h
theorem cmds_lay : ∀ cs : List Cmd, PyData.canLayAll0 (cs.map cmdD) = true
  | [] => by simp [PyData.canLayAll0]
  | c :: cs => by
    have h1 : PyData.strOk "down" = true := by decide +kernel
    have h2 : PyData.strOk "up" = true := by decide +kernel
    have h3 : PyData.strOk "right" = true := by decide +kernel
    have h4 : PyData.strOk "left" = true := by decide +kernel
    have h5 : PyData.strOk "home" = true := by decide +kernel
    have h6 : PyData.strOk "end" = true := by decide +kernel
    cases c <;> simp [PyData.canLayAll0, PyData.canLay0, cmdD, cmds_lay cs, h1, h2, h3, h4, h5, h6]
/-- a text and its commands, as the law compares them -/
def bothD (T : List Int) (cs : List Cmd) : PyData := .list [.list (T.map PyData.int), .list (cs.map cmdD)]
theorem both_lay (T : List Int) (cs : List Cmd) : (bothD T cs).canLay0 = true := by
  have h1 : PyData.canLayAll0 (T.map PyData.int) = true := PySem.W.ke_canLayAll0 T
  simp [bothD, PyData.canLay0, PyData.canLayAll0, h1, cmds_lay cs]
theorem both_shaped (T : List Int) {cs : List Cmd} (sm : ∀ c ∈ cs, CSml c) : SeqAt.shaped (bothD T cs) = true := by
  have h2 := (cmds_ok0 sm).2.2
  have hd : (bothD T cs).depth ≤ 64 := by
    simp only [bothD, PyData.depth, PyData.depthAll, deep_ints]
    omega
  unfold SeqAt.shaped
  rw [both_lay, decide_eq_true hd]
  rfl
theorem both_eqv (T : List Int) (cs : List Cmd) : PyData.eqv (bothD T cs) (bothD T cs) = true := SeqAt.eqv_refl _ (both_lay T cs)
theorem Keep.lst {H H' : Hp} {b g p : Addr} {ys : List V} (e : Keep b g H H') (n1 : p ≠ b) (n2 : p ≠ g) (h : H p = some (.lst ys)) : H' p = some (.lst ys) := e _ _ n1 n2 h
theorem aims_v : rgV 0 10 ++ [V.non] = ((List.range 10).map (fun (j : Nat) => some (j : Int)) ++ [none]).map optV := by rfl
theorem aims_at {i : Nat} {y : V} (h : (((List.range 10).map (fun (j : Nat) => some (j : Int)) ++ [none]).map optV)[i]? = some y) : ∃ o, y = optV o ∧ ge o 0 ∧ (∀ v, o = some v → v ≤ 20) ∧ i < 11 := by
  have li := (List.getElem?_eq_some_iff.mp h).1
  have l11 : (((List.range 10).map (fun (j : Nat) => some (j : Int)) ++ [none]).map optV).length = 11 := by rfl
  obtain ⟨o, ho, rfl⟩ := List.mem_map.mp (List.mem_of_getElem? h)
  refine ⟨o, rfl, ?_, ?_, by omega⟩
  · rcases List.mem_append.mp ho with m | m
    · obtain ⟨j, hj, rfl⟩ := List.mem_map.mp m
      exact ge_some.mpr (by omega)
    · rw [List.mem_singleton.mp m]
      exact ge_none 0
  · rcases List.mem_append.mp ho with m | m
    · obtain ⟨j, hj, rfl⟩ := List.mem_map.mp m
      have := List.mem_range.mp hj
      intro v e
      cases e
      omega
    · rw [List.mem_singleton.mp m]
      exact fun v e => nomatch e
section
variable {P : Program} {w : World} {K : PySem.W.Frag} {mg : Str → Option Value} {base : Heap}
theorem sc_law : FnScope ["script", "bag", "turn", "page", "spot", "moves", "aim", "handed", "due", "number"] ["script"] (defScope s_law) := ⟨rfl, rfl, rfl, by decide +kernel, rfl, by decide +kernel, by decide +kernel⟩
theorem ok_law {f : Addr} {fd : FuncData} (F : Fun K "law" "law" s_law f fd) (T : TxtC mg) (c_law_bag : Cal P w K mg base 1 "_law_bag" (spBag K)) (c_law_draw : Cal P w K mg base 1 "_law_draw" spBdraw) (c_law_moves : Cal P w K mg base 2 "_law_moves" (spMoves K))
    (c_law_kept : Cal P w K mg base 1 "_law_kept" (spKept K)) (c_law_due : Cal P w K mg base 2 "_law_due" (zDue K)) (c_origins : Cal P w K mg base 6 "origins" (zOrigins K)) (k_origins : CalK P w K mg base 6 "origins" ["goal", "commands", "row", "text"] (zOrigins K)) :
    FnOk P w K mg base CX0 7 f fd ["script"] (spLaw K) := by
  refine F.ok sc_law (fun vs H Q E h => ?_) (fun cdv A outer s H vs Q E hr h => ?_)
  · obtain ⟨a, ns, rfl, _⟩ := h
    rfl
  · obtain ⟨a, ns, rfl, hS, hlen, k⟩ := h
    refine ⟨_, (pss_cons (ps_set (i := 1) sc_law.nd rfl (Or.inr rfl) (pe_cal c_law_bag hr (by decide) (by rfl) (pa_cons (pv 0) pa_nil)))
      (pss_cons (ps_for PassesOwn.never rfl (pi_range1 rfl T.range (pa_cons (pe_op op_add pe_int (pe_callB (call_min2 rfl) (by rfl) T.min (by decide +kernel) (pa_cons pe_int (pa_cons (pe_callB call_len_seq (by rfl) T.len (by decide +kernel) (pa_cons (pv 0) pa_nil)) pa_nil)))) pa_nil)) (pg_name (i := 2) sc_law.nd rfl (Or.inl rfl)) (pss_cons (ps_setLc (i := 3) (own := [("number", 9)]) rfl sc_law.nd rfl rfl (sw_true rfl rfl rfl (by decide +kernel)) (pi_range1 rfl T.range (pa_cons (pe_op op_add pe_int (pe_cal c_law_draw hr (by decide) (by rfl) (pa_cons (pv 1) (pa_cons pe_int pa_nil)))) pa_nil)) (blkOk_by (N := ["script", "bag", "turn", "page", "spot", "moves", "aim", "handed", "due", "number"]) (sc := defScope s_law) (by decide +kernel)) (fun _ _ _ _ _ => (pg_name (i := 9) sc_law.nd rfl (Or.inl rfl))) (fun _ _ _ _ _ => pts_nil) (fun _ _ _ _ _ => (pe_cal c_law_draw hr (by decide) (by rfl) (pa_cons (pv 1) (pa_cons pe_int pa_nil)))))
      (pss_cons (ps_par (i := 4) (j := 5) rfl sc_law.nd rfl rfl (by decide) rfl rfl (pa_cons (pe_cal c_law_draw hr (by decide) (by rfl) (pa_cons (pv 1) (pa_cons (pe_callB call_len_seq (by rfl) T.len (by decide +kernel) (pa_cons (pv 3) pa_nil)) pa_nil))) (pa_cons (pe_cal c_law_moves hr (by decide) (by rfl) (pa_cons (pv 1) (pa_cons pe_int (pa_cons pe_int pa_nil)))) pa_nil)) (by rfl))
      (pss_cons (ps_set (i := 5) sc_law.nd rfl (Or.inl rfl) (pe_cal c_law_kept hr (by decide) (by rfl) (pa_cons (pv 4) (pa_cons (pe_callB call_len_seq (by rfl) T.len (by decide +kernel) (pa_cons (pv 3) pa_nil)) (pa_cons (pv 5) pa_nil)))))
      (pss_one (ps_for PassesOwn.never rfl (pi_list (pe_op op_cat (pe_listRg rfl (by rfl) T.list (prg_1 (by rfl) T.range pe_int)) (pe_lst (pa_cons pe_non pa_nil)))) (pg_name (i := 6) sc_law.nd rfl (Or.inl rfl)) (pss_cons (ps_set (i := 7) sc_law.nd rfl (Or.inl rfl) (pe_lst (pa_cons (pe_callTy call_list_of (by rfl) T.list (by decide +kernel) (pa_cons (pv 3) pa_nil)) (pa_cons (pe_callTy call_list_of (by rfl) T.list (by decide +kernel) (pa_cons (pv 5) pa_nil)) pa_nil))))
      (pss_cons (ps_set (i := 8) sc_law.nd rfl (Or.inl rfl) (pe_cal c_law_due hr (by decide) (by rfl) (pa_cons (pv 3) (pa_cons (pv 4) (pa_cons (pv 5) (pa_cons (pv 6) pa_nil))))))
      (pss_cons (ps_if (PW.pt (pw_or (pt_cmpR (op_neD hr.units) (pe_cal c_origins hr (by decide) (by rfl) (pa_cons (pe_ix ix_list (pv 7) pe_int (fun _ _ => rfl)) (pa_cons (pv 4) (pa_cons (pe_ix ix_list (pv 7) pe_int (fun _ _ => rfl)) (pa_cons (pv 6) pa_nil))))) (pv 8) (nomark _)) (pw_or1 (pt_cmpR (op_neD hr.units) (pv 7) (pe_lst (pa_cons (pv 3) (pa_cons (pv 5) pa_nil))) (nomark _))))) (pss_one (ps_ret pe_bl)) pss_nil)
      (pss_cons (ps_if (pt_cmpR (op_neD hr.units) (pe_calK k_origins hr (by decide) (by rfl) (pk_cons (pv 6) (pk_cons (pv 5) (pk_cons (pv 4) (pk_cons (pv 3) pk_nil))))) (pv 8) (nomark _)) (pss_one (ps_ret pe_bl)) pss_nil)
      (pss_cons (ps_augS (pe_ix ix_list (pv 7) pe_int (fun _ _ => rfl)) pe_int get_list pe_int ip_add set_list)
      (C8.pss_cut (ps_expr (pe_bm PySem.F.plainAttrs_list PySem.F.slot_list_append PySem.F.type_list_append mt_append (pe_ix ix_list (pv 7) pe_int (fun _ _ => rfl)) (pa_cons (pe_slice sl_tupA (pe_slice sl_tupA (pe_tup (pa_cons pe_str (pa_cons pe_str pa_nil))) (po_some (pe_cal c_law_draw hr (by decide) (by rfl) (pa_cons (pv 1) (pa_cons pe_int pa_nil)))) po_none) po_none (po_some pe_int)) pa_nil)))
      (pss_one (ps_if (pt_cmpR (op_neD hr.units) (pe_cal c_origins hr (by decide) (by rfl) (pa_cons (pe_ix ix_list (pv 7) pe_int (fun _ _ => rfl)) (pa_cons (pv 4) (pa_cons (pe_ix ix_list (pv 7) pe_int (fun _ _ => rfl)) (pa_cons (pv 6) pa_nil))))) (pe_cal c_law_due hr (by decide) (by rfl) (pa_cons (pe_ix ix_list (pv 7) pe_int (fun _ _ => rfl)) (pa_cons (pv 4) (pa_cons (pe_ix ix_list (pv 7) pe_int (fun _ _ => rfl)) (pa_cons (pv 6) pa_nil))))) (nomark _)) (pss_one (ps_ret pe_bl)) pss_nil))))))))))))))
      (pss_one (ps_ret pe_bl)))), ?_⟩
    refine ⟨_, rfl, a, ns, rfl, hS, hlen, fun H1 b g e1 nb ng B1 => ?_⟩
    refine ⟨_, rfl, a, _, rfl, .inl (e1.seq hS), _, _, rfl, _, _, rfl, rfl, _, rfl, ?_, ?_, ?_⟩
    · omega
    · omega
    refine for_range (lo := 0) (fun i σ H' => ∃ v2 v3 v4 v5 v6 v7 v8 : Option V, σ = [some (.ref a), some (.ref b), v2, v3, v4, v5, v6, v7, v8, none] ∧ Bag H' b g (1000 * i)) ⟨none, none, none, none, none, none, none, rfl, B1⟩ (fun i σ H2 hi h => ?_) (fun σ H2 h => ?_)
    · obtain ⟨v2, v3, v4, v5, v6, v7, v8, rfl, B2⟩ := h
      have hi' : i < 2 ^ 20 := by
        rw [List.length_map] at hi
        omega
      -- page
      refine ⟨_, rfl, b, g, _, 5, rfl, B2, by omega, by decide, by decide, fun H3 d3 kp3 B3 d30 d31 => ⟨_, _, rfl, rfl, _, rfl, by omega, by omega, fun D hD => ?_⟩⟩
      obtain ⟨Db, Dg⟩ := B3.off hD
      refine lc_range (lo := 0) (fun j H' => ∃ pg : List Int, Keep b g H3 H' ∧ Bag H' b g (1000 * i + 1 + j) ∧ H' D = some (.lst (pg.map V.int)) ∧ pg.length = j ∧ ∀ x ∈ pg, 0 ≤ x ∧ x ≤ 6)
        ⟨[], Keep.of (same_upd (Same.refl _) hD), B3.same (same_upd (Same.refl _) hD), upd_same, rfl, (fun _ h => nomatch h)⟩ (fun j H' hj h => ?_) (fun H4 h => ?_)
      · obtain ⟨pg, kp, B, hd, pl, pb⟩ := h
        refine ⟨rfl, ?_⟩
        refine ⟨_, rfl, b, g, _, 7, rfl, B, by omega, by decide, by decide, fun H6 v kp6 B6 v0 v1 => ?_⟩
        refine ⟨_, kp6 _ _ Db Dg hd, small_n (by rw [List.length_map]; omega), pg ++ [v], fun x o n1 n2 hx => ?_, ?_, ?_, ?_, ?_⟩
        · rw [upd_ne (ne_of_none hx hD)]
          exact kp6 _ _ n1 n2 (kp _ _ n1 n2 hx)
        · obtain ⟨gs, lf, tn, bl, g1, g2, g3, g4, g5, g6⟩ := B6
          exact ⟨gs, lf, tn, bl, by rw [upd_ne Db.symm]; exact g1, by rw [upd_ne Dg.symm]; exact g2, g3, g4, by omega, g6⟩
        · rw [upd_same, List.map_append]
          rfl
        · rw [List.length_append, List.length_singleton, pl]
        · intro x hx
          rcases List.mem_append.mp hx with q | q
          · exact pb x q
          · rw [List.mem_singleton.mp q]
            omega
      obtain ⟨pg, kp4, B4, hd4, pl, pb⟩ := h
      -- spot, moves
      refine ⟨_, rfl, _, rfl, D, _, rfl, .inl (SqL.of hd4), b, g, _, _, rfl, B4, by omega, by rw [List.length_map]; omega, log9B (k := 10) (by rw [List.length_map]; omega) (by decide), fun H5 spot kp5 B5 sp0 sp1 => ?_⟩
      rw [List.length_map] at sp1
      refine ⟨_, rfl, b, g, _, 8, 6, rfl, B5, by omega, by decide, by decide, by decide, by decide, fun H6 l0 xs0 cs0 kp6 B6 nl0 hl0 hc0 ok0 sm0 ln0 => ⟨_, _, rfl, ?_⟩⟩
      have kp46 := kp5.trans kp6
      have hd6 := kp46 _ _ Db Dg hd4
      refine ⟨_, rfl, _, rfl, D, _, rfl, .inl (SqL.of hd6), _, rfl, spot, _, l0, xs0, cs0, rfl, SqL.of hl0, hc0, ok0, sm0, by omega, sp0, by rw [List.length_map]; exact sp1, fun H7 p ys ds e7 np hp hds okd smd lnd wd => ?_⟩
      rw [List.length_map] at wd
      have B7 := B6.same e7
      obtain ⟨pb0, pg0⟩ := B6.off np
      have hd7 := e7 _ _ hd6
      have fit7 : Fits K H7 D p pg spot ys ds := ⟨SqL.of hd7, SqL.of hp, hds, fun x hx => (pb x hx).1, sp0, sp1, okd, by omega, wd⟩
      -- for aim in list(range(10)) + [None]
      refine ⟨_, rfl, RgOk.of_le (by decide) (by decide) (by decide) (by decide), fun q1 hq1 => ⟨(by show 1 ≤ sizeLine; decide), fun q2 hq2 => ?_⟩⟩
      have s1 : Same H7 (upd H7 q1 (.lst (rgV 0 10))) := same_upd (Same.refl _) hq1
      have s2 : Same (upd H7 q1 (.lst (rgV 0 10))) (upd (upd H7 q1 (.lst (rgV 0 10))) q2 (.lst [.non])) := same_upd (Same.refl _) hq2
      refine ⟨q1, q2, _, _, rfl, rfl, s2 _ _ upd_same, upd_same, (by rw [rgV_length]; show 10 + 1 ≤ sizeLine; decide), fun q3 hq3 => ?_⟩
      rw [aims_v]
      have s3 : Same H7 (upd (upd (upd H7 q1 (.lst (rgV 0 10))) q2 (.lst [.non])) q3 (.lst (((List.range 10).map (fun (j : Nat) => some (j : Int)) ++ [none]).map optV))) := (s1.trans s2).trans (same_upd (Same.refl _) hq3)
      have h9 : upd (upd (upd H7 q1 (.lst (rgV 0 10))) q2 (.lst [.non])) q3 (.lst (((List.range 10).map (fun (j : Nat) => some (j : Int)) ++ [none]).map optV)) q3 = some (.lst (((List.range 10).map (fun (j : Nat) => some (j : Int)) ++ [none]).map optV)) := upd_same
      generalize upd (upd (upd H7 q1 (.lst (rgV 0 10))) q2 (.lst [.non])) q3 (.lst (((List.range 10).map (fun (j : Nat) => some (j : Int)) ++ [none]).map optV)) = H9 at s3 h9 ⊢
      have B9 := B7.same s3
      have fit9 := fit7.same s3
      have q3bg : q3 ≠ b ∧ q3 ≠ g := by
        obtain ⟨_, _, _, _, g1, g2, _⟩ := B7
        exact ⟨(ne_of_none (s2 _ _ (s1 _ _ g1)) hq3).symm, (ne_of_none (s2 _ _ (s1 _ _ g2)) hq3).symm⟩
      refine ⟨q3, rfl, ⟨_, SqL.of h9⟩, for_list (K := K) (a := q3) (xs := ((List.range 10).map (fun (j : Nat) => some (j : Int)) ++ [none]).map optV) (fun j σ H' => ∃ v6 v7 v8 : Option V,
          σ = [some (.ref a), some (.ref b), some (.int (0 + (i : Int))), some (.ref D), some (.int spot), some (.ref p), v6, v7, v8, none] ∧ Keep b g H9 H' ∧ Bag H' b g (1000 * i + 200 + j))
        ⟨v6, v7, v8, rfl, Keep.refl _, B9.more (by omega)⟩ (fun j σ H' _ ⟨_, _, _, _, kp, _⟩ => SqL.of (kp _ _ q3bg.1 q3bg.2 h9)) (fun j y σ Ha hy h => ?_) (fun σ Ha h => ?_)⟩
      · obtain ⟨u6, u7, u8, rfl, kpa, Ba⟩ := h
        obtain ⟨o, rfl, o0, o1, lj⟩ := aims_at hy
        have hDa := kpa _ _ Db Dg (s3 _ _ hd7)
        have hpa := kpa _ _ pb0 pg0 (s3 _ _ hp)
        have hdsa : CmdsOf K Ha ys ds := (hds.same s3).keepB kpa B9
        have fita : Fits K Ha D p pg spot ys ds := ⟨SqL.of hDa, SqL.of hpa, hdsa, fit7.2.2.2⟩
        -- handed
        refine ⟨_, rfl, D, _, rfl, .inl (SqL.of hDa), fun c1 hc1 => ⟨_, rfl, p, _, rfl, .inl (SqL.of ((same_upd (Same.refl _) hc1) _ _ hpa)), fun c2 hc2 => ⟨(by show 2 ≤ sizeLine; decide), fun hq hhq => ?_⟩⟩⟩
        have t1 : Same Ha (upd Ha c1 (.lst (pg.map V.int))) := same_upd (Same.refl _) hc1
        have t2 : Same (upd Ha c1 (.lst (pg.map V.int))) (upd (upd Ha c1 (.lst (pg.map V.int))) c2 (.lst ys)) := same_upd (Same.refl _) hc2
        have t3 : Same (upd (upd Ha c1 (.lst (pg.map V.int))) c2 (.lst ys)) (upd (upd (upd Ha c1 (.lst (pg.map V.int))) c2 (.lst ys)) hq (.lst [.ref c1, .ref c2])) := same_upd (Same.refl _) hhq
        have c1c2 : c1 ≠ c2 := ne_of_none (upd_same (H := Ha) (a := c1)) hc2
        have hc1b : upd (upd (upd Ha c1 (.lst (pg.map V.int))) c2 (.lst ys)) hq (.lst [.ref c1, .ref c2]) c1 = some (.lst (pg.map V.int)) := t3 _ _ (t2 _ _ upd_same)
        have hc2b : upd (upd (upd Ha c1 (.lst (pg.map V.int))) c2 (.lst ys)) hq (.lst [.ref c1, .ref c2]) c2 = some (.lst ys) := t3 _ _ upd_same
        have hqb : upd (upd (upd Ha c1 (.lst (pg.map V.int))) c2 (.lst ys)) hq (.lst [.ref c1, .ref c2]) hq = some (.lst [.ref c1, .ref c2]) := upd_same
        have hqc1 : hq ≠ c1 := (ne_of_none (t2 _ _ upd_same) hhq).symm
        have hqc2 : hq ≠ c2 := (ne_of_none (upd_same (H := upd Ha c1 (.lst (pg.map V.int))) (a := c2)) hhq).symm
        have tb : Same Ha (upd (upd (upd Ha c1 (.lst (pg.map V.int))) c2 (.lst ys)) hq (.lst [.ref c1, .ref c2])) := (t1.trans t2).trans t3
        have n2a : Ha c2 = none := t1.free hc2
        have nqa : Ha hq = none := (t1.trans t2).free hhq
        generalize upd (upd (upd Ha c1 (.lst (pg.map V.int))) c2 (.lst ys)) hq (.lst [.ref c1, .ref c2]) = Hb at hc1b hc2b hqb tb ⊢
        clear t1 t2 t3 hc2 hhq
        have fitb := fita.same tb
        -- due
        refine ⟨_, rfl, _, rfl, _, rfl, _, rfl, ?_⟩
        refine ask_due (goal := o) fitb smd (fun x hx => by have := (pb x hx).2; omega) o0 o1 (fun Hc dv ec hdv => ?_)
        -- origins of the copies
        refine ⟨_, rfl, hq, _, 0, _, rfl, rfl, SqL.of (ec _ _ hqb), rfl, _, rfl, _, rfl, hq, _, 1, _, rfl, rfl, SqL.of (ec _ _ hqb), rfl, _, rfl, ?_⟩
        have fitc : Fits K Hc c1 c2 pg spot ys ds := ⟨SqL.of (ec _ _ hc1b), SqL.of (ec _ _ hc2b), hdsa.same (tb.trans ec), fit7.2.2.2⟩
        refine ask_org (goal := o) fitc o0 (fun Hd ov ed hov => ?_)
        refine ⟨_, rfl, orgD _, orgD _, hov.dp, (hdv.same ed).dp, orgD_shaped _, orgD_shaped _, _, rfl, ite_ne (orgD_eqv _) ?_⟩
        have tbd := (tb.trans ec).trans ed
        -- handed != [page, moves]
        refine ⟨_, rfl, _, rfl, _, rfl, (by show 2 ≤ sizeLine; decide), fun q5 hq5 => ?_⟩
        have s5 : Same Hd (upd Hd q5 (.lst [.ref D, .ref p])) := same_upd (Same.refl _) hq5
        have bd5 := (ec.trans ed).trans s5
        have tb5 := tbd.trans s5
        refine ⟨bothD pg ds, bothD pg ds, .lst (SqL.of (bd5 _ _ hqb)) (.cons (.lst (SqL.of (bd5 _ _ hc1b)) (dp_ints pg)) (.cons (.lst (SqL.of (bd5 _ _ hc2b)) (hdsa.same tb5).dp) .nil)),
          .lst (SqL.of upd_same) (.cons (.lst (SqL.of (tb5 _ _ hDa)) (dp_ints pg)) (.cons (.lst (SqL.of (tb5 _ _ hpa)) (hdsa.same tb5).dp) .nil)), both_shaped pg smd, both_shaped pg smd, _, rfl, ite_ne (both_eqv _ _) ?_⟩
        generalize upd Hd q5 (.lst [.ref D, .ref p]) = He at s5 bd5 tb5 ⊢
        -- by names
        refine ⟨_, rfl, _, rfl, _, rfl, _, rfl, ?_⟩
        refine ask_org (goal := o) (fita.same tb5) o0 (fun Hf ov2 ef hov2 => ?_)
        refine ⟨_, rfl, orgD _, orgD _, hov2.dp, (((hdv.same ed).same s5).same ef).dp, orgD_shaped _, orgD_shaped _, _, rfl, ite_ne (orgD_eqv _) ?_⟩
        have bf := bd5.trans ef
        have tf := tb5.trans ef
        -- handed[0][0] += 1
        obtain ⟨x0, pr, rfl⟩ : ∃ x r, pg = x :: r := by
          cases pg with
          | nil => simp at pl; omega
          | cons x r => exact ⟨x, r, rfl⟩
        have x00 := pb x0 List.mem_cons_self
        refine ⟨_, rfl, hq, _, 0, _, rfl, rfl, SqL.of (bf _ _ hqb), rfl, c1, _, 0, V.int x0, rfl, rfl, bf _ _ hc1b, (by rw [List.length_map]; omega), rfl, _, _, rfl, rfl, c1, _, 0, 0, rfl, rfl, bf _ _ hc1b, (by unfold ixN; rw [if_pos (by decide), if_pos (by rw [List.length_map, List.length_cons]; omega)]; rfl), ?_⟩
        have tg : Same Ha (upd Hf c1 (.lst (((x0 :: pr).map V.int).set 0 (V.int (x0 + 1))))) := same_freeU tf hc1
        have g1 : upd Hf c1 (.lst (((x0 :: pr).map V.int).set 0 (V.int (x0 + 1)))) c1 = some (.lst (((x0 + 1) :: pr).map V.int)) := upd_same
        have g2 : upd Hf c1 (.lst (((x0 :: pr).map V.int).set 0 (V.int (x0 + 1)))) c2 = some (.lst ys) := by
          rw [upd_ne c1c2.symm]
          exact bf _ _ hc2b
        have gq : upd Hf c1 (.lst (((x0 :: pr).map V.int).set 0 (V.int (x0 + 1)))) hq = some (.lst [.ref c1, .ref c2]) := by
          rw [upd_ne hqc1]
          exact bf _ _ hqb
        generalize upd Hf c1 (.lst (((x0 :: pr).map V.int).set 0 (V.int (x0 + 1)))) = Hg at tg g1 g2 gq ⊢
        have Bg := Ba.same tg
        obtain ⟨c1b, c1g⟩ := Ba.off hc1
        obtain ⟨c2b, c2g⟩ := Ba.off n2a
        obtain ⟨qb, qg⟩ := Ba.off nqa
        refine ⟨fun σ H' => ∃ (tc : Addr) (c : Cmd), σ = [some (.ref a), some (.ref b), some (.int (0 + (i : Int))), some (.ref D), some (.int spot), some (.ref p), some (optV o), some (.ref hq), some dv, none] ∧ c.dv = 0 ∧ c.ok ∧ CSml c ∧
            H' c1 = some (.lst (((x0 + 1) :: pr).map V.int)) ∧ H' c2 = some (.lst (ys ++ [.ref tc])) ∧ H' hq = some (.lst [.ref c1, .ref c2]) ∧ CmdAt K H' (.ref tc) c ∧ CmdsOf K H' ys ds ∧ Keep b g Ha H' ∧ Bag H' b g (1000 * i + 200 + j + 1), ?_, ?_⟩
        · have fin : ∀ (Hx : Hp) (tc : Addr) (c : Cmd), Keep b g Hg Hx → Bag Hx b g (1000 * i + 200 + j + 1) → Hx tc = some (.tup (encC c)) → Hx c2 = some (.lst ys) ∧ (upd Hx c2 (.lst (ys ++ [.ref tc])) c1 = some (.lst (((x0 + 1) :: pr).map V.int)) ∧ upd Hx c2 (.lst (ys ++ [.ref tc])) c2 = some (.lst (ys ++ [.ref tc])) ∧
              upd Hx c2 (.lst (ys ++ [.ref tc])) hq = some (.lst [.ref c1, .ref c2]) ∧ CmdAt K (upd Hx c2 (.lst (ys ++ [.ref tc]))) (.ref tc) c ∧ CmdsOf K (upd Hx c2 (.lst (ys ++ [.ref tc]))) ys ds ∧ Keep b g Ha (upd Hx c2 (.lst (ys ++ [.ref tc]))) ∧ Bag (upd Hx c2 (.lst (ys ++ [.ref tc]))) b g (1000 * i + 200 + j + 1)) := fun Hx tc c kp B htc => by
            have x2 := kp _ _ c2b c2g g2
            refine ⟨x2, ?_, upd_same, ?_, ⟨tc, rfl, SqT.of ?_⟩, (((hdsa.same tg).keepB kp Bg).lput x2), fun x o n1 n2 hx => ?_, ?_⟩
            · rw [upd_ne c1c2]
              exact kp _ _ c1b c1g g1
            · rw [upd_ne hqc2]
              exact kp _ _ qb qg gq
            · rw [upd_ne (ne_of htc x2 (by intro q; cases q))]
              exact htc
            · rw [upd_ne (ne_of_none hx n2a)]
              exact kp _ _ n1 n2 (tg _ _ hx)
            · obtain ⟨gs, lf, tn, bl, z1, z2, z3⟩ := B
              exact ⟨gs, lf, tn, bl, by rw [upd_ne c2b.symm]; exact z1, by rw [upd_ne c2g.symm]; exact z2, z3⟩
          have yl : ys.length ≤ 100 := by
            rw [hdsa.len]
            omega
          refine ⟨_, rfl, hq, _, 1, _, rfl, rfl, SqL.of gq, rfl, .inl ⟨rfl, _, SqL.of g2⟩, (by show 2 ≤ sizeLine; decide), fun tt htt => ?_⟩
          have st : Same Hg (upd Hg tt (.tup [.str "home", .str "end"])) := same_upd (Same.refl _) htt
          obtain ⟨ttb, ttg⟩ := Bg.off htt
          refine ⟨_, rfl, b, g, _, 2, rfl, Bg.same st, by omega, by decide, by decide, fun Hh d8 kp8 B8 d80 d81 => ?_⟩
          have kgh : Keep b g Hg Hh := (Keep.of st).trans kp8
          have htt8 := kp8 _ _ ttb ttg (upd_same (H := Hg) (a := tt) (o := .tup [.str "home", .str "end"]))
          rcases (show d8 = 0 ∨ d8 = 1 by omega) with rfl | rfl
          · refine ⟨_, rfl, tt, _, rfl, SqT.of htt8, fun _ => ?_, fun n => absurd ⟨rfl, rfl⟩ n⟩
            refine ⟨_, rfl, tt, _, rfl, SqT.of htt8, fun z => absurd z.2 (by decide), fun _ t2 ht2 => ?_⟩
            have s2t : Same Hh (upd Hh t2 (.tup [.str "home"])) := same_upd (Same.refl _) ht2
            obtain ⟨y2, yr⟩ := fin (upd Hh t2 (.tup [.str "home"])) t2 .home (kgh.trans (Keep.of s2t)) (B8.same s2t) upd_same
            exact ⟨c2, _, _, rfl, rfl, y2, small_n (by omega), t2, .home, rfl, rfl, trivial, trivial, yr⟩
          · refine ⟨_, rfl, tt, _, rfl, SqT.of htt8, fun z => absurd z.1 (by decide), fun _ t2 ht2 => ?_⟩
            have s2t : Same Hh (upd Hh t2 (.tup [.str "end"])) := same_upd (Same.refl _) ht2
            refine ⟨_, rfl, t2, _, rfl, SqT.of upd_same, fun _ => ?_, fun n => absurd ⟨rfl, rfl⟩ n⟩
            obtain ⟨y2, yr⟩ := fin (upd Hh t2 (.tup [.str "end"])) t2 .stop (kgh.trans (Keep.of s2t)) (B8.same s2t) upd_same
            exact ⟨c2, _, _, rfl, rfl, y2, small_n (by omega), t2, .stop, rfl, rfl, trivial, trivial, yr⟩
        · rintro σ Hi ⟨tc, c, rfl, c0, cok, csm, z1, z2, zq, zc, zds, kpi, Bi⟩
          have fiti : Fits K Hi c1 c2 ((x0 + 1) :: pr) spot (ys ++ [.ref tc]) (ds ++ [c]) := by
            refine ⟨SqL.of z1, SqL.of z2, Paired.snocB zds zc, fun x hx => ?_, sp0, sp1, fun d hd => ?_, ?_, ?_⟩
            · rcases List.mem_cons.mp hx with q | q
              · omega
              · exact (pb x (List.mem_cons_of_mem _ q)).1
            · rcases List.mem_append.mp hd with q | q
              · exact okd d q
              · rw [List.mem_singleton.mp q]
                exact cok
            · rw [List.length_append, List.length_singleton]
              omega
            · have wh := wd.whole
              refine wd.snoc ?_ ?_
              · rw [c0]
                omega
              · rw [c0]
                show last ds + 0 ≤ ((((x0 + 1) :: pr).length : Nat) : Int) - 1 - spot
                rw [List.length_cons]
                rw [List.length_cons] at wh
                omega
          refine ⟨_, rfl, hq, _, 0, _, rfl, rfl, SqL.of zq, rfl, _, rfl, _, rfl, hq, _, 1, _, rfl, rfl, SqL.of zq, rfl, _, rfl, ?_⟩
          refine ask_org (goal := o) fiti o0 (fun Hj ov3 ej hov3 => ?_)
          refine ⟨_, rfl, hq, _, 0, _, rfl, rfl, SqL.of (ej _ _ zq), rfl, _, rfl, _, rfl, hq, _, 1, _, rfl, rfl, SqL.of (ej _ _ zq), rfl, _, rfl, ?_⟩
          refine ask_due (goal := o) (fiti.same ej) (fun d hd => ?_) (fun x hx => ?_) o0 o1 (fun Hk dv2 ek hdv2 => ?_)
          · rcases List.mem_append.mp hd with q | q
            · exact smd d q
            · rw [List.mem_singleton.mp q]
              exact csm
          · rcases List.mem_cons.mp hx with q | q
            · omega
            · have := (pb x (List.mem_cons_of_mem _ q)).2
              omega
          refine ⟨orgD _, orgD _, (hov3.same ek).dp, hdv2.dp, orgD_shaped _, orgD_shaped _, _, rfl, ite_ne (orgD_eqv _) ?_⟩
          exact ⟨_, _, _, rfl, (kpa.trans kpi).trans (Keep.of (ej.trans ek)), (Bi.same (ej.trans ek)).more (by omega)⟩
      · obtain ⟨u6, u7, u8, rfl, kpa, Ba⟩ := h
        refine ⟨_, _, _, _, _, _, _, rfl, Ba.more ?_⟩
        have l11 : (((List.range 10).map (fun (j : Nat) => some (j : Int)) ++ [none]).map optV).length = 11 := rfl
        omega
    · obtain ⟨v2, v3, v4, v5, v6, v7, v8, rfl, B2⟩ := h
      exact k _
end
end Gc

namespace Gc
open PySem L2
theorem two_cases {us ws : List Value} (h : (gRev us ws).length = 2) : (∃ a b, us = [] ∧ ws = [a, b]) ∨ (∃ a b, us = [a] ∧ ws = [b]) ∨ ∃ a b, us = [a, b] ∧ ws = [] := by
  have h' : us.length + ws.length = 2 := by
    unfold gRev at h
    rw [List.length_append, List.length_reverse] at h
    exact h
  match us, ws, h' with
  | [], [], h => exact absurd h (by decide)
  | [], [_], h => exact absurd h (show ¬ (0 + 1 = 2) by decide)
  | [], [a, b], _ => exact .inl ⟨a, b, rfl, rfl⟩
  | [], _ :: _ :: _ :: _, h => simp only [List.length_cons, List.length_nil] at h; omega
  | [_], [], h => exact absurd h (show ¬ (1 + 0 = 2) by decide)
  | [a], [b], _ => exact .inr (.inl ⟨a, b, rfl, rfl⟩)
  | [_], _ :: _ :: _, h => simp only [List.length_cons, List.length_nil] at h; omega
  | [a, b], [], _ => exact .inr (.inr ⟨a, b, rfl, rfl⟩)
  | [_, _], _ :: _, h => simp only [List.length_cons, List.length_nil] at h; omega
  | _ :: _ :: _ :: _, _, h => simp only [List.length_cons] at h; omega
theorem all_mk {l : PySem.W.OpenLaw} {w : World} {K : PySem.W.Frag} {h : Heap} {mg : Str → Option Value} {fa : Addr} (X : K.In h) (G : h.Ns mainGlobals mg) (hfa : mg "law" = some (.ref fa))
    {wn wo : Addr} {odN odO : Option Addr} {nN nO : Nat} {slN slO : Array (Option Value)} {tn0 tn1 tn2 tn3 to0 to1 : Tok}
    {f_is_count : Addr} {oc_is_count kV_is_count dc_is_count pm_is_count cd_is_count ct_is_count : Value} {od_is_count an_is_count : Option Addr} {sl_is_count : Array (Option Value)}
    {f_is_command : Addr} {oc_is_command kV_is_command dc_is_command pm_is_command cd_is_command ct_is_command : Value} {od_is_command an_is_command : Option Addr} {sl_is_command : Array (Option Value)}
    {f_check_commands : Addr} {oc_check_commands kV_check_commands dc_check_commands pm_check_commands cd_check_commands ct_check_commands : Value} {od_check_commands an_check_commands : Option Addr} {sl_check_commands : Array (Option Value)}
    {f_row_change : Addr} {oc_row_change kV_row_change dc_row_change pm_row_change cd_row_change ct_row_change : Value} {od_row_change an_row_change : Option Addr} {sl_row_change : Array (Option Value)}
    {f_check_text : Addr} {oc_check_text kV_check_text dc_check_text pm_check_text cd_check_text ct_check_text : Value} {od_check_text an_check_text : Option Addr} {sl_check_text : Array (Option Value)}
    {f_check_cursor : Addr} {oc_check_cursor kV_check_cursor dc_check_cursor pm_check_cursor cd_check_cursor ct_check_cursor : Value} {od_check_cursor an_check_cursor : Option Addr} {sl_check_cursor : Array (Option Value)}
    {f_run : Addr} {oc_run kV_run dc_run pm_run cd_run ct_run : Value} {od_run an_run : Option Addr} {sl_run : Array (Option Value)}
    {f_shown_column : Addr} {oc_shown_column kV_shown_column dc_shown_column pm_shown_column cd_shown_column ct_shown_column : Value} {od_shown_column an_shown_column : Option Addr} {sl_shown_column : Array (Option Value)}
    {f_moved : Addr} {oc_moved kV_moved dc_moved pm_moved cd_moved ct_moved : Value} {od_moved an_moved : Option Addr} {sl_moved : Array (Option Value)}
    {f_new_goal : Addr} {oc_new_goal kV_new_goal dc_new_goal pm_new_goal cd_new_goal ct_new_goal : Value} {od_new_goal an_new_goal : Option Addr} {sl_new_goal : Array (Option Value)}
    {f_effect : Addr} {oc_effect kV_effect dc_effect pm_effect cd_effect ct_effect : Value} {od_effect an_effect : Option Addr} {sl_effect : Array (Option Value)}
    {f_total_change : Addr} {oc_total_change kV_total_change dc_total_change pm_total_change cd_total_change ct_total_change : Value} {od_total_change an_total_change : Option Addr} {sl_total_change : Array (Option Value)}
    {f_origins : Addr} {oc_origins kV_origins dc_origins pm_origins cd_origins ct_origins : Value} {od_origins an_origins : Option Addr} {sl_origins : Array (Option Value)}
    {f_is_less : Addr} {oc_is_less kV_is_less dc_is_less pm_is_less cd_is_less ct_is_less : Value} {od_is_less an_is_less : Option Addr} {sl_is_less : Array (Option Value)}
    {f_law_bag : Addr} {oc_law_bag kV_law_bag dc_law_bag pm_law_bag cd_law_bag ct_law_bag : Value} {od_law_bag an_law_bag : Option Addr} {sl_law_bag : Array (Option Value)}
    {f_law_draw : Addr} {oc_law_draw kV_law_draw dc_law_draw pm_law_draw cd_law_draw ct_law_draw : Value} {od_law_draw an_law_draw : Option Addr} {sl_law_draw : Array (Option Value)}
    {f_law_moves : Addr} {oc_law_moves kV_law_moves dc_law_moves pm_law_moves cd_law_moves ct_law_moves : Value} {od_law_moves an_law_moves : Option Addr} {sl_law_moves : Array (Option Value)}
    {f_law_end : Addr} {oc_law_end kV_law_end dc_law_end pm_law_end cd_law_end ct_law_end : Value} {od_law_end an_law_end : Option Addr} {sl_law_end : Array (Option Value)}
    {f_law_kept : Addr} {oc_law_kept kV_law_kept dc_law_kept pm_law_kept cd_law_kept ct_law_kept : Value} {od_law_kept an_law_kept : Option Addr} {sl_law_kept : Array (Option Value)}
    {f_law_due : Addr} {oc_law_due kV_law_due dc_law_due pm_law_due cd_law_due ct_law_due : Value} {od_law_due an_law_due : Option Addr} {sl_law_due : Array (Option Value)}
    {f_law : Addr} {oc_law kV_law dc_law pm_law cd_law ct_law : Value} {od_law an_law : Option Addr} {sl_law : Array (Option Value)}
    (aWN : PySem.W.nsIn K mainGlobals "WITH_NUMBER" = some (some (.ref wn)))
    (aWO : PySem.W.nsIn K mainGlobals "WITHOUT_NUMBER" = some (some (.ref wo)))
    (lWN : K.lookup wn = some ⟨.type "tuple", odN, .seq #[.str "down" tn0, .str "up" tn1, .str "right" tn2, .str "left" tn3] nN, slN⟩)
    (lWO : K.lookup wo = some ⟨.type "tuple", odO, .seq #[.str "home" to0, .str "end" to1] nO, slO⟩)
    (a_is_count : PySem.W.nsIn K mainGlobals "is_count" = some (some (.ref f_is_count)))
    (l_is_count : K.lookup f_is_count = some ⟨oc_is_count, od_is_count, .func (PySem.W.fnOf "is_count" "is_count" (defArgs s_is_count) (defBody s_is_count) (defScope s_is_count) .none kV_is_count dc_is_count pm_is_count an_is_count cd_is_count ct_is_count), sl_is_count⟩)
    (c_is_count : PySem.W.codeIn K cd_is_count "is_count" = true)
    (k_is_count : PySem.W.keepIn K (.ref f_is_count) = true)
    (a_is_command : PySem.W.nsIn K mainGlobals "is_command" = some (some (.ref f_is_command)))
    (l_is_command : K.lookup f_is_command = some ⟨oc_is_command, od_is_command, .func (PySem.W.fnOf "is_command" "is_command" (defArgs s_is_command) (defBody s_is_command) (defScope s_is_command) .none kV_is_command dc_is_command pm_is_command an_is_command cd_is_command ct_is_command), sl_is_command⟩)
    (c_is_command : PySem.W.codeIn K cd_is_command "is_command" = true)
    (k_is_command : PySem.W.keepIn K (.ref f_is_command) = true)
    (a_check_commands : PySem.W.nsIn K mainGlobals "check_commands" = some (some (.ref f_check_commands)))
    (l_check_commands : K.lookup f_check_commands = some ⟨oc_check_commands, od_check_commands, .func (PySem.W.fnOf "check_commands" "check_commands" (defArgs s_check_commands) (defBody s_check_commands) (defScope s_check_commands) .none kV_check_commands dc_check_commands pm_check_commands an_check_commands cd_check_commands ct_check_commands), sl_check_commands⟩)
    (c_check_commands : PySem.W.codeIn K cd_check_commands "check_commands" = true)
    (k_check_commands : PySem.W.keepIn K (.ref f_check_commands) = true)
    (a_row_change : PySem.W.nsIn K mainGlobals "row_change" = some (some (.ref f_row_change)))
    (l_row_change : K.lookup f_row_change = some ⟨oc_row_change, od_row_change, .func (PySem.W.fnOf "row_change" "row_change" (defArgs s_row_change) (defBody s_row_change) (defScope s_row_change) .none kV_row_change dc_row_change pm_row_change an_row_change cd_row_change ct_row_change), sl_row_change⟩)
    (c_row_change : PySem.W.codeIn K cd_row_change "row_change" = true)
    (k_row_change : PySem.W.keepIn K (.ref f_row_change) = true)
    (a_check_text : PySem.W.nsIn K mainGlobals "check_text" = some (some (.ref f_check_text)))
    (l_check_text : K.lookup f_check_text = some ⟨oc_check_text, od_check_text, .func (PySem.W.fnOf "check_text" "check_text" (defArgs s_check_text) (defBody s_check_text) (defScope s_check_text) .none kV_check_text dc_check_text pm_check_text an_check_text cd_check_text ct_check_text), sl_check_text⟩)
    (c_check_text : PySem.W.codeIn K cd_check_text "check_text" = true)
    (k_check_text : PySem.W.keepIn K (.ref f_check_text) = true)
    (a_check_cursor : PySem.W.nsIn K mainGlobals "check_cursor" = some (some (.ref f_check_cursor)))
    (l_check_cursor : K.lookup f_check_cursor = some ⟨oc_check_cursor, od_check_cursor, .func (PySem.W.fnOf "check_cursor" "check_cursor" (defArgs s_check_cursor) (defBody s_check_cursor) (defScope s_check_cursor) .none kV_check_cursor dc_check_cursor pm_check_cursor an_check_cursor cd_check_cursor ct_check_cursor), sl_check_cursor⟩)
    (c_check_cursor : PySem.W.codeIn K cd_check_cursor "check_cursor" = true)
    (k_check_cursor : PySem.W.keepIn K (.ref f_check_cursor) = true)
    (a_run : PySem.W.nsIn K mainGlobals "run" = some (some (.ref f_run)))
    (l_run : K.lookup f_run = some ⟨oc_run, od_run, .func (PySem.W.fnOf "run" "run" (defArgs s_run) (defBody s_run) (defScope s_run) .none kV_run dc_run pm_run an_run cd_run ct_run), sl_run⟩)
    (c_run : PySem.W.codeIn K cd_run "run" = true)
    (k_run : PySem.W.keepIn K (.ref f_run) = true)
    (a_shown_column : PySem.W.nsIn K mainGlobals "shown_column" = some (some (.ref f_shown_column)))
    (l_shown_column : K.lookup f_shown_column = some ⟨oc_shown_column, od_shown_column, .func (PySem.W.fnOf "shown_column" "shown_column" (defArgs s_shown_column) (defBody s_shown_column) (defScope s_shown_column) .none kV_shown_column dc_shown_column pm_shown_column an_shown_column cd_shown_column ct_shown_column), sl_shown_column⟩)
    (c_shown_column : PySem.W.codeIn K cd_shown_column "shown_column" = true)
    (k_shown_column : PySem.W.keepIn K (.ref f_shown_column) = true)
    (a_moved : PySem.W.nsIn K mainGlobals "moved" = some (some (.ref f_moved)))
    (l_moved : K.lookup f_moved = some ⟨oc_moved, od_moved, .func (PySem.W.fnOf "moved" "moved" (defArgs s_moved) (defBody s_moved) (defScope s_moved) .none kV_moved dc_moved pm_moved an_moved cd_moved ct_moved), sl_moved⟩)
    (c_moved : PySem.W.codeIn K cd_moved "moved" = true)
    (k_moved : PySem.W.keepIn K (.ref f_moved) = true)
    (a_new_goal : PySem.W.nsIn K mainGlobals "new_goal" = some (some (.ref f_new_goal)))
    (l_new_goal : K.lookup f_new_goal = some ⟨oc_new_goal, od_new_goal, .func (PySem.W.fnOf "new_goal" "new_goal" (defArgs s_new_goal) (defBody s_new_goal) (defScope s_new_goal) .none kV_new_goal dc_new_goal pm_new_goal an_new_goal cd_new_goal ct_new_goal), sl_new_goal⟩)
    (c_new_goal : PySem.W.codeIn K cd_new_goal "new_goal" = true)
    (k_new_goal : PySem.W.keepIn K (.ref f_new_goal) = true)
    (a_effect : PySem.W.nsIn K mainGlobals "effect" = some (some (.ref f_effect)))
    (l_effect : K.lookup f_effect = some ⟨oc_effect, od_effect, .func (PySem.W.fnOf "effect" "effect" (defArgs s_effect) (defBody s_effect) (defScope s_effect) .none kV_effect dc_effect pm_effect an_effect cd_effect ct_effect), sl_effect⟩)
    (c_effect : PySem.W.codeIn K cd_effect "effect" = true)
    (k_effect : PySem.W.keepIn K (.ref f_effect) = true)
    (a_total_change : PySem.W.nsIn K mainGlobals "total_change" = some (some (.ref f_total_change)))
    (l_total_change : K.lookup f_total_change = some ⟨oc_total_change, od_total_change, .func (PySem.W.fnOf "total_change" "total_change" (defArgs s_total_change) (defBody s_total_change) (defScope s_total_change) .none kV_total_change dc_total_change pm_total_change an_total_change cd_total_change ct_total_change), sl_total_change⟩)
    (c_total_change : PySem.W.codeIn K cd_total_change "total_change" = true)
    (k_total_change : PySem.W.keepIn K (.ref f_total_change) = true)
    (a_origins : PySem.W.nsIn K mainGlobals "origins" = some (some (.ref f_origins)))
    (l_origins : K.lookup f_origins = some ⟨oc_origins, od_origins, .func (PySem.W.fnOf "origins" "origins" (defArgs s_origins) (defBody s_origins) (defScope s_origins) .none kV_origins dc_origins pm_origins an_origins cd_origins ct_origins), sl_origins⟩)
    (c_origins : PySem.W.codeIn K cd_origins "origins" = true)
    (k_origins : PySem.W.keepIn K (.ref f_origins) = true)
    (a_is_less : PySem.W.nsIn K mainGlobals "is_less" = some (some (.ref f_is_less)))
    (l_is_less : K.lookup f_is_less = some ⟨oc_is_less, od_is_less, .func (PySem.W.fnOf "is_less" "is_less" (defArgs s_is_less) (defBody s_is_less) (defScope s_is_less) .none kV_is_less dc_is_less pm_is_less an_is_less cd_is_less ct_is_less), sl_is_less⟩)
    (c_is_less : PySem.W.codeIn K cd_is_less "is_less" = true)
    (k_is_less : PySem.W.keepIn K (.ref f_is_less) = true)
    (a_law_bag : PySem.W.nsIn K mainGlobals "_law_bag" = some (some (.ref f_law_bag)))
    (l_law_bag : K.lookup f_law_bag = some ⟨oc_law_bag, od_law_bag, .func (PySem.W.fnOf "_law_bag" "_law_bag" (defArgs s_bag) (defBody s_bag) (defScope s_bag) .none kV_law_bag dc_law_bag pm_law_bag an_law_bag cd_law_bag ct_law_bag), sl_law_bag⟩)
    (c_law_bag : PySem.W.codeIn K cd_law_bag "_law_bag" = true)
    (k_law_bag : PySem.W.keepIn K (.ref f_law_bag) = true)
    (a_law_draw : PySem.W.nsIn K mainGlobals "_law_draw" = some (some (.ref f_law_draw)))
    (l_law_draw : K.lookup f_law_draw = some ⟨oc_law_draw, od_law_draw, .func (PySem.W.fnOf "_law_draw" "_law_draw" (defArgs s_bdraw) (defBody s_bdraw) (defScope s_bdraw) .none kV_law_draw dc_law_draw pm_law_draw an_law_draw cd_law_draw ct_law_draw), sl_law_draw⟩)
    (c_law_draw : PySem.W.codeIn K cd_law_draw "_law_draw" = true)
    (k_law_draw : PySem.W.keepIn K (.ref f_law_draw) = true)
    (a_law_moves : PySem.W.nsIn K mainGlobals "_law_moves" = some (some (.ref f_law_moves)))
    (l_law_moves : K.lookup f_law_moves = some ⟨oc_law_moves, od_law_moves, .func (PySem.W.fnOf "_law_moves" "_law_moves" (defArgs s_moves) (defBody s_moves) (defScope s_moves) .none kV_law_moves dc_law_moves pm_law_moves an_law_moves cd_law_moves ct_law_moves), sl_law_moves⟩)
    (c_law_moves : PySem.W.codeIn K cd_law_moves "_law_moves" = true)
    (k_law_moves : PySem.W.keepIn K (.ref f_law_moves) = true)
    (a_law_end : PySem.W.nsIn K mainGlobals "_law_end" = some (some (.ref f_law_end)))
    (l_law_end : K.lookup f_law_end = some ⟨oc_law_end, od_law_end, .func (PySem.W.fnOf "_law_end" "_law_end" (defArgs s_end) (defBody s_end) (defScope s_end) .none kV_law_end dc_law_end pm_law_end an_law_end cd_law_end ct_law_end), sl_law_end⟩)
    (c_law_end : PySem.W.codeIn K cd_law_end "_law_end" = true)
    (k_law_end : PySem.W.keepIn K (.ref f_law_end) = true)
    (a_law_kept : PySem.W.nsIn K mainGlobals "_law_kept" = some (some (.ref f_law_kept)))
    (l_law_kept : K.lookup f_law_kept = some ⟨oc_law_kept, od_law_kept, .func (PySem.W.fnOf "_law_kept" "_law_kept" (defArgs s_kept) (defBody s_kept) (defScope s_kept) .none kV_law_kept dc_law_kept pm_law_kept an_law_kept cd_law_kept ct_law_kept), sl_law_kept⟩)
    (c_law_kept : PySem.W.codeIn K cd_law_kept "_law_kept" = true)
    (k_law_kept : PySem.W.keepIn K (.ref f_law_kept) = true)
    (a_law_due : PySem.W.nsIn K mainGlobals "_law_due" = some (some (.ref f_law_due)))
    (l_law_due : K.lookup f_law_due = some ⟨oc_law_due, od_law_due, .func (PySem.W.fnOf "_law_due" "_law_due" (defArgs s_due) (defBody s_due) (defScope s_due) .none kV_law_due dc_law_due pm_law_due an_law_due cd_law_due ct_law_due), sl_law_due⟩)
    (c_law_due : PySem.W.codeIn K cd_law_due "_law_due" = true)
    (k_law_due : PySem.W.keepIn K (.ref f_law_due) = true)
    (a_law : PySem.W.nsIn K mainGlobals "law" = some (some (.ref f_law)))
    (l_law : K.lookup f_law = some ⟨oc_law, od_law, .func (PySem.W.fnOf "law" "law" (defArgs s_law) (defBody s_law) (defScope s_law) .none kV_law dc_law pm_law an_law cd_law ct_law), sl_law⟩)
    (c_law : PySem.W.codeIn K cd_law "law" = true)
    (k_law : PySem.W.keepIn K (.ref f_law) = true)
    (z_isinstance : PySem.W.nsIn K mainGlobals "isinstance" = some none)
    (z_int : PySem.W.nsIn K mainGlobals "int" = some none)
    (z_bool : PySem.W.nsIn K mainGlobals "bool" = some none)
    (z_len : PySem.W.nsIn K mainGlobals "len" = some none)
    (z_enumerate : PySem.W.nsIn K mainGlobals "enumerate" = some none)
    (z_reversed : PySem.W.nsIn K mainGlobals "reversed" = some none)
    (z_sorted : PySem.W.nsIn K mainGlobals "sorted" = some none)
    (z_max : PySem.W.nsIn K mainGlobals "max" = some none)
    (z_min : PySem.W.nsIn K mainGlobals "min" = some none)
    (z_abs : PySem.W.nsIn K mainGlobals "abs" = some none)
    (z_range : PySem.W.nsIn K mainGlobals "range" = some none)
    (z_list : PySem.W.nsIn K mainGlobals "list" = some none) :
    ∃ fd : FuncData, (∀ (s : Shared) (v : Value), BindsTo s fd ⟨[v], []⟩ [("script", v)]) ∧ ∀ base : Heap, K.In base → base.Ns mainGlobals mg → FnOk l.prog w K mg base CX0 7 fa fd ["script"] (spLaw K) := by
  have e := hfa.symm.trans (PySem.W.mg_of X G a_law)
  cases e
  have F_is_count := fun_mk (st := s_is_count) l_is_count c_is_count k_is_count
  have F_is_command := fun_mk (st := s_is_command) l_is_command c_is_command k_is_command
  have F_check_commands := fun_mk (st := s_check_commands) l_check_commands c_check_commands k_check_commands
  have F_row_change := fun_mk (st := s_row_change) l_row_change c_row_change k_row_change
  have F_check_text := fun_mk (st := s_check_text) l_check_text c_check_text k_check_text
  have F_check_cursor := fun_mk (st := s_check_cursor) l_check_cursor c_check_cursor k_check_cursor
  have F_run := fun_mk (st := s_run) l_run c_run k_run
  have F_shown_column := fun_mk (st := s_shown_column) l_shown_column c_shown_column k_shown_column
  have F_moved := fun_mk (st := s_moved) l_moved c_moved k_moved
  have F_new_goal := fun_mk (st := s_new_goal) l_new_goal c_new_goal k_new_goal
  have F_effect := fun_mk (st := s_effect) l_effect c_effect k_effect
  have F_total_change := fun_mk (st := s_total_change) l_total_change c_total_change k_total_change
  have F_origins := fun_mk (st := s_origins) l_origins c_origins k_origins
  have F_is_less := fun_mk (st := s_is_less) l_is_less c_is_less k_is_less
  have F_law_bag := fun_mk (st := s_bag) l_law_bag c_law_bag k_law_bag
  have F_law_draw := fun_mk (st := s_bdraw) l_law_draw c_law_draw k_law_draw
  have F_law_moves := fun_mk (st := s_moves) l_law_moves c_law_moves k_law_moves
  have F_law_end := fun_mk (st := s_end) l_law_end c_law_end k_law_end
  have F_law_kept := fun_mk (st := s_kept) l_law_kept c_law_kept k_law_kept
  have F_law_due := fun_mk (st := s_due) l_law_due c_law_due k_law_due
  have F_law := fun_mk (st := s_law) l_law c_law k_law
  have b_is_count := F_is_count.binds (ps := ["number"]) fun _ _ _ _ _ _ us hl => match us, hl with | [_], _ => rfl
  have b_is_command := F_is_command.binds (ps := ["command"]) fun _ _ _ _ _ _ us hl => match us, hl with | [_], _ => rfl
  have b_check_commands := F_check_commands.binds (ps := ["commands"]) fun _ _ _ _ _ _ us hl => match us, hl with | [_], _ => rfl
  have b_row_change := F_row_change.binds (ps := ["command"]) fun _ _ _ _ _ _ us hl => match us, hl with | [_], _ => rfl
  have b_check_text := F_check_text.binds (ps := ["text"]) fun _ _ _ _ _ _ us hl => match us, hl with | [_], _ => rfl
  have b_check_cursor := F_check_cursor.binds (ps := ["lines", "cursor"]) fun _ _ _ _ _ _ us hl => match us, hl with | [_, _], _ => rfl
  have b_run := F_run.binds (ps := ["text", "cursor", "commands"]) fun _ _ _ _ _ _ us hl => match us, hl with | [_, _, _], _ => rfl
  have b_shown_column := F_shown_column.binds (ps := ["length", "goal"]) fun _ _ _ _ _ _ us hl => match us, hl with | [_, _], _ => rfl
  have b_moved := F_moved.binds (ps := ["text", "cursor", "command"]) fun _ _ _ _ _ _ us hl => match us, hl with | [_, _, _], _ => rfl
  have b_new_goal := F_new_goal.binds (ps := ["length", "goal", "command"]) fun _ _ _ _ _ _ us hl => match us, hl with | [_, _, _], _ => rfl
  have b_effect := F_effect.binds (ps := ["text", "row", "commands"]) fun _ _ _ _ _ _ us hl => match us, hl with | [_, _, _], _ => rfl
  have b_total_change := F_total_change.binds (ps := ["commands"]) fun _ _ _ _ _ _ us hl => match us, hl with | [_], _ => rfl
  have b_origins := F_origins.binds (ps := ["text", "row", "commands", "goal"]) fun _ _ _ _ _ _ us hl => match us, hl with | [_, _, _, _], _ => rfl
  have b_is_less := F_is_less.binds (ps := ["goal", "other"]) fun _ _ _ _ _ _ us hl => match us, hl with | [_, _], _ => rfl
  have b_law_bag := F_law_bag.binds (ps := ["script"]) fun _ _ _ _ _ _ us hl => match us, hl with | [_], _ => rfl
  have b_law_draw := F_law_draw.binds (ps := ["bag", "many"]) fun _ _ _ _ _ _ us hl => match us, hl with | [_, _], _ => rfl
  have b_law_moves := F_law_moves.binds (ps := ["bag", "many", "far"]) fun _ _ _ _ _ _ us hl => match us, hl with | [_, _, _], _ => rfl
  have b_law_end := F_law_end.binds (ps := ["page", "start", "moves"]) fun _ _ _ _ _ _ us hl => match us, hl with | [_, _, _], _ => rfl
  have b_law_kept := F_law_kept.binds (ps := ["spot", "many", "moves"]) fun _ _ _ _ _ _ us hl => match us, hl with | [_, _, _], _ => rfl
  have b_law_due := F_law_due.binds (ps := ["page", "spot", "moves", "aim"]) fun _ _ _ _ _ _ us hl => match us, hl with | [_, _, _, _], _ => rfl
  have kb_origins := bindsK (ps := ["text", "row", "commands", "goal"]) (ks := ["goal", "commands", "row", "text"]) F_origins fun _ _ _ _ _ _ us ws hl => by
    have hl2 : us.length + ws.length = 4 := by
      unfold gRev at hl
      rw [List.length_append, List.length_reverse] at hl
      exact hl
    match us, ws, hl2 with
    | [], [], h => simp only [List.length_cons, List.length_nil] at h; omega
    | [], [_], h => simp only [List.length_cons, List.length_nil] at h; omega
    | [], [_, _], h => simp only [List.length_cons, List.length_nil] at h; omega
    | [], [_, _, _], h => simp only [List.length_cons, List.length_nil] at h; omega
    | [], [_, _, _, _], _ => rfl
    | [], _ :: _ :: _ :: _ :: _ :: _, h => simp only [List.length_cons, List.length_nil] at h; omega
    | [_], [], h => simp only [List.length_cons, List.length_nil] at h; omega
    | [_], [_], h => simp only [List.length_cons, List.length_nil] at h; omega
    | [_], [_, _], h => simp only [List.length_cons, List.length_nil] at h; omega
    | [_], [_, _, _], _ => rfl
    | [_], _ :: _ :: _ :: _ :: _, h => simp only [List.length_cons, List.length_nil] at h; omega
    | [_, _], [], h => simp only [List.length_cons, List.length_nil] at h; omega
    | [_, _], [_], h => simp only [List.length_cons, List.length_nil] at h; omega
    | [_, _], [_, _], _ => rfl
    | [_, _], _ :: _ :: _ :: _, h => simp only [List.length_cons, List.length_nil] at h; omega
    | [_, _, _], [], h => simp only [List.length_cons, List.length_nil] at h; omega
    | [_, _, _], [_], _ => rfl
    | [_, _, _], _ :: _ :: _, h => simp only [List.length_cons, List.length_nil] at h; omega
    | [_, _, _, _], [], _ => rfl
    | [_, _, _, _], _ :: _, h => simp only [List.length_cons, List.length_nil] at h; omega
    | _ :: _ :: _ :: _ :: _ :: _, _, h => simp only [List.length_cons] at h; omega
  refine ⟨PySem.W.fnOf "law" "law" (defArgs s_law) (defBody s_law) (defScope s_law) .none kV_law dc_law pm_law an_law cd_law ct_law, fun s v => .of_eq rfl, fun base hb gb => ?_⟩
  have TB : TxtB K mg wo wn := {
    g_WITHOUT_NUMBER := PySem.W.mg_of X G aWO
    g_WITH_NUMBER := PySem.W.mg_of X G aWN
    tWO := fun H => .inr ⟨_, _, _, lWO, rfl, rfl, (by show 2 ≤ sizeLine; decide), .cons ⟨_, rfl⟩ (.cons ⟨_, rfl⟩ .nil)⟩
    tWN := fun H => .inr ⟨_, _, _, lWN, rfl, rfl, (by show 4 ≤ sizeLine; decide), .cons ⟨_, rfl⟩ (.cons ⟨_, rfl⟩ (.cons ⟨_, rfl⟩ (.cons ⟨_, rfl⟩ .nil)))⟩
    isinstance := PySem.W.mg_none_of X G z_isinstance
    int := PySem.W.mg_none_of X G z_int
    bool := PySem.W.mg_none_of X G z_bool
    len := PySem.W.mg_none_of X G z_len
    enumerate := PySem.W.mg_none_of X G z_enumerate
    reversed := PySem.W.mg_none_of X G z_reversed
    sorted := PySem.W.mg_none_of X G z_sorted
    max := PySem.W.mg_none_of X G z_max
    min := PySem.W.mg_none_of X G z_min }
  have TC : TxtC mg := { abs := PySem.W.mg_none_of X G z_abs, len := PySem.W.mg_none_of X G z_len, range := PySem.W.mg_none_of X G z_range, min := PySem.W.mg_none_of X G z_min, max := PySem.W.mg_none_of X G z_max, int := PySem.W.mg_none_of X G z_int, list := PySem.W.mg_none_of X G z_list }
  have C_is_count : Cal l.prog w K mg base 1 "is_count" spCount := ⟨_, _, _, ok_is_count F_is_count TB, PySem.W.mg_of X G a_is_count, k_is_count, b_is_count⟩
  have C_is_command : Cal l.prog w K mg base 2 "is_command" (spIsCmd K) := ⟨_, _, _, ok_is_command F_is_command TB C_is_count, PySem.W.mg_of X G a_is_command, k_is_command, b_is_command⟩
  have C_check_commands : Cal l.prog w K mg base 3 "check_commands" (spCheck K) := ⟨_, _, _, ok_check_commands F_check_commands TB C_is_command, PySem.W.mg_of X G a_check_commands, k_check_commands, b_check_commands⟩
  have C_row_change : Cal l.prog w K mg base 1 "row_change" (spRow K) := ⟨_, _, _, ok_row_change F_row_change, PySem.W.mg_of X G a_row_change, k_row_change, b_row_change⟩
  have C_check_text : Cal l.prog w K mg base 1 "check_text" (spText K) := ⟨_, _, _, ok_check_text F_check_text TB, PySem.W.mg_of X G a_check_text, k_check_text, b_check_text⟩
  have C_check_cursor : Cal l.prog w K mg base 1 "check_cursor" (spCursor K) := ⟨_, _, _, ok_check_cursor F_check_cursor, PySem.W.mg_of X G a_check_cursor, k_check_cursor, b_check_cursor⟩
  have C_shown_column : Cal l.prog w K mg base 1 "shown_column" spShown := ⟨_, _, _, ok_shown_column F_shown_column TB, PySem.W.mg_of X G a_shown_column, k_shown_column, b_shown_column⟩
  have C_new_goal : Cal l.prog w K mg base 2 "new_goal" (spGoal K) := ⟨_, _, _, ok_new_goal F_new_goal TB C_shown_column, PySem.W.mg_of X G a_new_goal, k_new_goal, b_new_goal⟩
  have C_moved : Cal l.prog w K mg base 3 "moved" (spMoved K) := ⟨_, _, _, ok_moved F_moved TB C_row_change C_new_goal, PySem.W.mg_of X G a_moved, k_moved, b_moved⟩
  have Z_run : Cal l.prog w K mg base 4 "run" (zRun K) := by
    rw [zRun_eq]
    exact ⟨_, _, _, ok_run F_run TB C_check_text C_check_cursor C_check_commands C_moved, PySem.W.mg_of X G a_run, k_run, b_run⟩
  have C_total_change : Cal l.prog w K mg base 1 "total_change" (spTotal K) := ⟨_, _, _, ok_total_change F_total_change, PySem.W.mg_of X G a_total_change, k_total_change, b_total_change⟩
  have C_effect : Cal l.prog w K mg base 5 "effect" (spEffect K) := ⟨_, _, _, ok_effect F_effect Z_run C_total_change, PySem.W.mg_of X G a_effect, k_effect, b_effect⟩
  have C_is_less : Cal l.prog w K mg base 1 "is_less" spLess := ⟨_, _, _, ok_is_less F_is_less, PySem.W.mg_of X G a_is_less, k_is_less, b_is_less⟩
  have C_law_bag : Cal l.prog w K mg base 1 "_law_bag" (spBag K) := ⟨_, _, _, ok_bag F_law_bag TC, PySem.W.mg_of X G a_law_bag, k_law_bag, b_law_bag⟩
  have C_law_draw : Cal l.prog w K mg base 1 "_law_draw" spBdraw := ⟨_, _, _, ok_bdraw F_law_draw TC, PySem.W.mg_of X G a_law_draw, k_law_draw, b_law_draw⟩
  have C_law_moves : Cal l.prog w K mg base 2 "_law_moves" (spMoves K) := ⟨_, _, _, ok_moves F_law_moves TC C_law_draw, PySem.W.mg_of X G a_law_moves, k_law_moves, b_law_moves⟩
  have C_law_kept : Cal l.prog w K mg base 1 "_law_kept" (spKept K) := ⟨_, _, _, ok_kept F_law_kept, PySem.W.mg_of X G a_law_kept, k_law_kept, b_law_kept⟩
  have Z_end : Cal l.prog w K mg base 1 "_law_end" (zEnd K) := by
    rw [zEnd_eq]
    exact ⟨_, _, _, ok_end F_law_end TC, PySem.W.mg_of X G a_law_end, k_law_end, b_law_end⟩
  have Z_due : Cal l.prog w K mg base 2 "_law_due" (zDue K) := by
    rw [zDue_eq]
    exact ⟨_, _, _, ok_due F_law_due TC Z_end, PySem.W.mg_of X G a_law_due, k_law_due, b_law_due⟩
  have okO := ok_origins (P := l.prog) (w := w) (base := base) F_origins Z_run C_effect C_is_less
  have Z_origins : Cal l.prog w K mg base 6 "origins" (zOrigins K) := by
    rw [zOrigins_eq]
    exact ⟨_, _, _, okO, PySem.W.mg_of X G a_origins, k_origins, b_origins⟩
  have K_origins : CalK l.prog w K mg base 6 "origins" ["goal", "commands", "row", "text"] (zOrigins K) := by
    rw [zOrigins_eq]
    exact ⟨_, _, _, okO, PySem.W.mg_of X G a_origins, k_origins, kb_origins⟩
  exact ok_law F_law TC C_law_bag C_law_draw C_law_moves C_law_kept Z_due Z_origins K_origins
theorem walk {l : PySem.W.OpenLaw} {q : Program} {loose : List Str} {XP : (Str → Option Value) → Heap → Prop} {YP : World → Heap → Prop} {d : DefRec} {K : Params → PySem.W.Frag} (hn : l.most = some 63) (hdf : d.params.defaults = [])
    (hY : ∀ (w : World) (h : Heap), YP w h → (K w.params).In h)
    (F : ∀ (w : World) (mg : Str → Option Value) (fa : Addr) (h : Heap), (K w.params).In h → h.Ns mainGlobals mg → mg d.name = some (.ref fa) →
      ∃ fd : FuncData, (∀ (s : Shared) (u : Value), BindsTo s fd ⟨[u], []⟩ [("script", u)]) ∧ ∀ base : Heap, (K w.params).In base → base.Ns mainGlobals mg → FnOk l.prog w (K w.params) mg base CX0 7 fa fd ["script"] (spLaw (K w.params))) :
    PySem.W.WalkO q loose XP YP l.row.toRowW d [] (fun f vs => PySem.call f vs) :=
  L2.walk_of (n := 63) (k := 7) (x := "script") (CX := fun _ => CX0) (sp := fun w => spLaw (K w.params)) hn (by decide) hdf ⟨rfl, by decide, by decide⟩ hY F (fun _ _ a ns hl _ hS => ⟨a, ns, rfl, hS, hl, fun _ => rfl⟩) fun _ _ _ _ _ z => z
end Gc

open PySem PySem.W PyProof.Rows in
set_option maxRecDepth 100000 in
set_option maxHeartbeats 0 in
theorem PySem.Challenge.cw_goalcolumn_k25_origins_on_short_texts_holds : PySem.Challenge.rw_goalcolumn_k25_origins_on_short_texts.Holds := by
  w_on; o_law; k_head; (case hw => w_witness2)
  k_fill
  refine Gc.walk (l := PySem.Challenge.rw_goalcolumn_k25_origins_on_short_texts) rfl rfl (fun w h Y => PySem.W.kIn_of Y) ?F
  case F =>
    intro w mg fa h KX G hmg
    refine' Gc.all_mk KX G hmg ?aWN ?aWO ?lWN ?lWO ?a_is_count ?l_is_count ?c_is_count ?k_is_count ?a_is_command ?l_is_command ?c_is_command ?k_is_command ?a_check_commands ?l_check_commands ?c_check_commands ?k_check_commands ?a_row_change ?l_row_change ?c_row_change ?k_row_change ?a_check_text ?l_check_text ?c_check_text ?k_check_text ?a_check_cursor ?l_check_cursor ?c_check_cursor ?k_check_cursor ?a_run ?l_run ?c_run ?k_run ?a_shown_column ?l_shown_column ?c_shown_column ?k_shown_column ?a_moved ?l_moved ?c_moved ?k_moved ?a_new_goal ?l_new_goal ?c_new_goal ?k_new_goal ?a_effect ?l_effect ?c_effect ?k_effect ?a_total_change ?l_total_change ?c_total_change ?k_total_change ?a_origins ?l_origins ?c_origins ?k_origins ?a_is_less ?l_is_less ?c_is_less ?k_is_less ?a_law_bag ?l_law_bag ?c_law_bag ?k_law_bag ?a_law_draw ?l_law_draw ?c_law_draw ?k_law_draw ?a_law_moves ?l_law_moves ?c_law_moves ?k_law_moves ?a_law_end ?l_law_end ?c_law_end ?k_law_end ?a_law_kept ?l_law_kept ?c_law_kept ?k_law_kept ?a_law_due ?l_law_due ?c_law_due ?k_law_due ?a_law ?l_law ?c_law ?k_law ?z_isinstance ?z_int ?z_bool ?z_len ?z_enumerate ?z_reversed ?z_sorted ?z_max ?z_min ?z_abs ?z_range ?z_list
    (case aWN => k_is)
    (case aWO => k_is)
    (case lWN => k_is)
    (case lWO => k_is)
    (case a_is_count => k_is)
    (case l_is_count => k_is)
    (case c_is_count => k_is)
    (case k_is_count => k_is)
    (case a_is_command => k_is)
    (case l_is_command => k_is)
    (case c_is_command => k_is)
    (case k_is_command => k_is)
    (case a_check_commands => k_is)
    (case l_check_commands => k_is)
    (case c_check_commands => k_is)
    (case k_check_commands => k_is)
    (case a_row_change => k_is)
    (case l_row_change => k_is)
    (case c_row_change => k_is)
    (case k_row_change => k_is)
    (case a_check_text => k_is)
    (case l_check_text => k_is)
    (case c_check_text => k_is)
    (case k_check_text => k_is)
    (case a_check_cursor => k_is)
    (case l_check_cursor => k_is)
    (case c_check_cursor => k_is)
    (case k_check_cursor => k_is)
    (case a_run => k_is)
    (case l_run => k_is)
    (case c_run => k_is)
    (case k_run => k_is)
    (case a_shown_column => k_is)
    (case l_shown_column => k_is)
    (case c_shown_column => k_is)
    (case k_shown_column => k_is)
    (case a_moved => k_is)
    (case l_moved => k_is)
    (case c_moved => k_is)
    (case k_moved => k_is)
    (case a_new_goal => k_is)
    (case l_new_goal => k_is)
    (case c_new_goal => k_is)
    (case k_new_goal => k_is)
    (case a_effect => k_is)
    (case l_effect => k_is)
    (case c_effect => k_is)
    (case k_effect => k_is)
    (case a_total_change => k_is)
    (case l_total_change => k_is)
    (case c_total_change => k_is)
    (case k_total_change => k_is)
    (case a_origins => k_is)
    (case l_origins => k_is)
    (case c_origins => k_is)
    (case k_origins => k_is)
    (case a_is_less => k_is)
    (case l_is_less => k_is)
    (case c_is_less => k_is)
    (case k_is_less => k_is)
    (case a_law_bag => k_is)
    (case l_law_bag => k_is)
    (case c_law_bag => k_is)
    (case k_law_bag => k_is)
    (case a_law_draw => k_is)
    (case l_law_draw => k_is)
    (case c_law_draw => k_is)
    (case k_law_draw => k_is)
    (case a_law_moves => k_is)
    (case l_law_moves => k_is)
    (case c_law_moves => k_is)
    (case k_law_moves => k_is)
    (case a_law_end => k_is)
    (case l_law_end => k_is)
    (case c_law_end => k_is)
    (case k_law_end => k_is)
    (case a_law_kept => k_is)
    (case l_law_kept => k_is)
    (case c_law_kept => k_is)
    (case k_law_kept => k_is)
    (case a_law_due => k_is)
    (case l_law_due => k_is)
    (case c_law_due => k_is)
    (case k_law_due => k_is)
    (case a_law => k_is)
    (case l_law => k_is)
    (case c_law => k_is)
    (case k_law => k_is)
    (case z_isinstance => k_is)
    (case z_int => k_is)
    (case z_bool => k_is)
    (case z_len => k_is)
    (case z_enumerate => k_is)
    (case z_reversed => k_is)
    (case z_sorted => k_is)
    (case z_max => k_is)
    (case z_min => k_is)
    (case z_abs => k_is)
    (case z_range => k_is)
    (case z_list => k_is)
