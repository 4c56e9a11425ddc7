import PyProof.Rows.All
import Wide.All
import OpenK.AllK
import Wide.FinOn
import KE.SortData
import HandS.Base
import HandS.Call
import HandS.List
import HandS.Dict
import HandS.Words
import HandS.DictTup
import PyProof.RulesMatch
import HandS.Comp
import HandS.Iter
import HandS.Flow
import HandS.Rev
import HandS.Walk
import HandS.WordsList
import HandS.WordsDict
import HandS.IsInst
import HandS.Wide
import HandS.Codes
import HandS.Style
import HandS.Exc
import HandS.ExcOwn
import HandS.ExcInit
import HandS.ExcField
import HandS.WordsExc
import HandS.HotCalls
import KE.KIsAll
import KE.KExcIs
import HandS.ExcIs
import PySem.Challenge.RW_goalcolumn_k29_origins_and_counting_erro
set_option Elab.async false
set_option linter.all false
set_option maxRecDepth 100000
set_option maxHeartbeats 4000000
/-! boxes of lists of commands: what the program reckons, over plain lists; and the laws of it -/
namespace Gc
inductive Cmd where
  | down (n : Int) | up (n : Int) | right (n : Int) | left (n : Int) | home | stop
  deriving DecidableEq
def Cmd.dv : Cmd → Int
  | .down n => n
  | .up n => -n
  | _ => 0
def Cmd.ok : Cmd → Prop
  | .down n => 1 ≤ n
  | .up n => 1 ≤ n
  | .right n => 1 ≤ n
  | .left n => 1 ≤ n
  | _ => True
def last (cs : List Cmd) : Int := (cs.map Cmd.dv).sum
abbrev Ps := List (Int × Int)
def leK (p q : Int × Int) : Bool := decide (p.1 < q.1 ∨ (p.1 = q.1 ∧ p.2 ≤ q.2))
def look (b : Ps) (k : Int) : Option Int := (b.find? fun q => q.1 = k).map (·.2)
def put (b : Ps) (k v : Int) : Ps := if b.any (fun q => q.1 = k) then b.map (fun q => if q.1 = k then (q.1, v) else q) else b ++ [(k, v)]
def mx (i j : Int) : Int := if j > i then j else i
def req (b : Ps) (o v : Int) : Ps := put b o (mx v ((look b o).getD v))
def go : List Cmd → Int → Int → Ps → Option (Option Int × Ps)
  | [], _, need, b => some (some need, b)
  | .home :: _, _, _, _ => none
  | .stop :: _, _, _, b => some (none, b)
  | .right n :: r, off, need, b => if need > n then go r off (need - n) (req b off need) else some (none, req b off need)
  | .left n :: r, off, need, b => go r off (need + n) (req b off (need + n))
  | .down n :: r, off, need, b => go r (off - n) need b
  | .up n :: r, off, need, b => go r (off + n) need b
def srt (x : Option Int × Ps) : Option Int × Ps := (x.1, x.2.mergeSort leK)
def boxM (cs : List Cmd) (goal : Int) : Option (Option Int × Ps) := (go cs.reverse (last cs) goal []).map srt

/-! ### association lists as functions -/
def val (b : Ps) (k : Int) : Int := (look b k).getD 0
def keys (b : Ps) : List Int := b.map (·.1)
structure Good (b : Ps) : Prop where
  nd : (keys b).Nodup
  pos : ∀ q ∈ b, 1 ≤ q.2
theorem good_nil : Good [] := ⟨List.nodup_nil, fun _ h => nomatch h⟩
theorem look_nil (k : Int) : look [] k = none := rfl
theorem look_cons (q : Int × Int) (b : Ps) (k : Int) : look (q :: b) k = if q.1 = k then some q.2 else look b k := by
  unfold look
  rw [List.find?_cons]
  by_cases h : q.1 = k
  · simp [h]
  · simp [h]
theorem look_none {b : Ps} {k : Int} : look b k = none ↔ k ∉ keys b := by
  induction b with
  | nil => simp [look, keys]
  | cons q b ih =>
    rw [look_cons]
    by_cases h : q.1 = k
    · rw [if_pos h]
      simp [keys, h]
    · rw [if_neg h, ih]
      simp only [keys, List.map_cons, List.mem_cons, not_or]
      exact ⟨fun x => ⟨fun e => h e.symm, x⟩, fun x => x.2⟩
theorem look_mem {b : Ps} {k v : Int} (h : look b k = some v) : (k, v) ∈ b := by
  induction b with
  | nil => cases h
  | cons q b ih =>
    rw [look_cons] at h
    by_cases e : q.1 = k
    · rw [if_pos e] at h
      have e2 := Option.some.inj h
      rw [← e, ← e2]
      exact List.mem_cons_self
    · rw [if_neg e] at h
      exact List.mem_cons_of_mem _ (ih h)
theorem mem_look {b : Ps} {q : Int × Int} (n : (keys b).Nodup) (h : q ∈ b) : look b q.1 = some q.2 := by
  induction b with
  | nil => cases h
  | cons p b ih =>
    have n' : p.1 ∉ keys b ∧ (keys b).Nodup := List.nodup_cons.mp n
    rw [look_cons]
    rcases List.mem_cons.mp h with e | h
    · rw [e, if_pos rfl]
    · have ne : p.1 ≠ q.1 := fun e => n'.1 (by rw [e]; exact List.mem_map.mpr ⟨q, h, rfl⟩)
      rw [if_neg ne]
      exact ih n'.2 h
theorem any_key (b : Ps) (k : Int) : b.any (fun q => q.1 = k) = true ↔ k ∈ keys b := by
  simp [keys, List.any_eq_true]
theorem look_put (b : Ps) (k v j : Int) : look (put b k v) j = if k = j then some v else look b j := by
  unfold put
  by_cases h : b.any (fun q => q.1 = k) = true
  · rw [if_pos h]
    induction b with
    | nil => simp at h
    | cons q b ih =>
      rw [List.map_cons, look_cons, look_cons]
      by_cases e : q.1 = k
      · rw [if_pos e]
        by_cases e2 : k = j
        · simp [e, e2]
        · simp only [e, e2, if_false]
          by_cases hb : b.any (fun q => q.1 = k) = true
          · rw [ih hb, if_neg e2]
          · have nm : ∀ p ∈ b, ¬ p.1 = k := fun p hp z => hb (List.any_eq_true.mpr ⟨p, hp, by simpa using z⟩)
            have em : b.map (fun q => if q.1 = k then (q.1, v) else q) = b := by
              conv => rhs; rw [← List.map_id b]
              exact List.map_congr_left fun p hp => by simp [nm p hp]
            rw [em]
      · rw [if_neg e]
        have hb : b.any (fun q => q.1 = k) = true := by
          rw [List.any_cons] at h
          simpa [e] using h
        by_cases e2 : q.1 = j
        · have e3 : ¬ k = j := fun z => e (e2.trans z.symm)
          simp [e2, e3]
        · simp only [e2, if_false]
          exact ih hb
  · rw [if_neg h]
    have nk : k ∉ keys b := fun z => h ((any_key b k).mpr z)
    clear h
    induction b with
    | nil =>
      show look [(k, v)] j = _
      rw [look_cons]
    | cons q b ih =>
      have n1 : ¬ q.1 = k := fun z => nk (by simp [keys, z])
      have n2 : k ∉ keys b := fun z => nk (List.mem_cons_of_mem _ z)
      rw [List.cons_append, look_cons, look_cons]
      by_cases e2 : q.1 = j
      · have e3 : ¬ k = j := fun z => n1 (e2.trans z.symm)
        simp [e2, e3]
      · simp only [e2, if_false]
        exact ih n2
theorem keys_put (b : Ps) (k v : Int) : keys (put b k v) = if k ∈ keys b then keys b else keys b ++ [k] := by
  unfold put
  by_cases h : b.any (fun q => q.1 = k) = true
  · rw [if_pos h, if_pos ((any_key b k).mp h)]
    unfold keys
    rw [List.map_map]
    refine List.map_congr_left fun p _ => ?_
    show (if p.1 = k then (p.1, v) else p).1 = p.1
    split <;> rfl
  · rw [if_neg h, if_neg fun z => h ((any_key b k).mpr z)]
    simp [keys]
theorem good_put {b : Ps} {k v : Int} (g : Good b) (hv : 1 ≤ v) : Good (put b k v) := by
  have nd : (keys (put b k v)).Nodup := by
    rw [keys_put]
    split
    · exact g.nd
    · rename_i h
      rw [List.nodup_append]
      exact ⟨g.nd, by simp, fun a ha c hc => by
        rw [List.mem_singleton.mp hc]
        intro z
        exact h (z ▸ ha)⟩
  refine ⟨nd, fun q hq => ?_⟩
  have e := mem_look nd hq
  rw [look_put] at e
  split at e
  · rw [← Option.some.inj e]
    exact hv
  · exact g.pos (q.1, q.2) (look_mem e)
theorem val_nonneg {b : Ps} (g : Good b) (k : Int) : 0 ≤ val b k := by
  unfold val
  cases e : look b k with
  | none => exact Int.le_refl 0
  | some v =>
    have := g.pos _ (look_mem e)
    show 0 ≤ v
    have h : 1 ≤ v := this
    omega
theorem val_put (b : Ps) (k v j : Int) : val (put b k v) j = if k = j then v else val b j := by
  unfold val
  rw [look_put]
  split <;> rfl
/-- require, on functions -/
def reqF (f : Int → Int) (o v : Int) : Int → Int := fun k => if o = k then max v (f k) else f k
theorem val_req {b : Ps} (g : Good b) {o v : Int} (hv : 1 ≤ v) : val (req b o v) = reqF (val b) o v := by
  funext k
  unfold req reqF
  rw [val_put]
  by_cases h : o = k
  · subst h
    rw [if_pos rfl, if_pos rfl]
    unfold val mx
    cases e : look b o with
    | none =>
      show (if v > v then v else v) = max v 0
      rw [if_neg (by omega)]
      omega
    | some x =>
      show (if x > v then x else v) = max v x
      split <;> omega
  · rw [if_neg h, if_neg h]
theorem good_req {b : Ps} (g : Good b) {o v : Int} (hv : 1 ≤ v) : Good (req b o v) := by
  refine good_put g ?_
  unfold mx
  split <;> omega

/-! ### the walk, on functions -/
def goF : List Cmd → Int → Int → (Int → Int) → Option (Option Int × (Int → Int))
  | [], _, need, f => some (some need, f)
  | .home :: _, _, _, _ => none
  | .stop :: _, _, _, f => some (none, f)
  | .right n :: r, off, need, f => if need > n then goF r off (need - n) (reqF f off need) else some (none, reqF f off need)
  | .left n :: r, off, need, f => goF r off (need + n) (reqF f off (need + n))
  | .down n :: r, off, need, f => goF r (off - n) need f
  | .up n :: r, off, need, f => goF r (off + n) need f
def AllOk (cs : List Cmd) : Prop := ∀ c ∈ cs, c.ok
theorem go_goF : ∀ {r : List Cmd} {off need : Int} {b : Ps}, AllOk r → Good b → 1 ≤ need →
    (go r off need b = none ∧ goF r off need (val b) = none) ∨ ∃ st b', go r off need b = some (st, b') ∧ Good b' ∧ goF r off need (val b) = some (st, val b') ∧ ∀ n, st = some n → 1 ≤ n
  | [], off, need, b, _, g, hn => .inr ⟨_, _, rfl, g, rfl, fun n e => by rw [← Option.some.inj e]; exact hn⟩
  | .home :: r, off, need, b, _, g, hn => .inl ⟨rfl, rfl⟩
  | .stop :: r, off, need, b, _, g, hn => .inr ⟨_, _, rfl, g, rfl, fun n e => nomatch e⟩
  | .right n :: r, off, need, b, hk, g, hn => by
    have hk' : AllOk r := fun c hc => hk c (List.mem_cons_of_mem _ hc)
    simp only [go, goF]
    by_cases h : need > n
    · rw [if_pos h, if_pos h, ← val_req g hn]
      exact go_goF hk' (good_req g hn) (by omega)
    · rw [if_neg h, if_neg h, ← val_req g hn]
      exact .inr ⟨_, _, rfl, good_req g hn, rfl, fun n e => nomatch e⟩
  | .left n :: r, off, need, b, hk, g, hn => by
    have hk' : AllOk r := fun c hc => hk c (List.mem_cons_of_mem _ hc)
    have h1 : 1 ≤ n := hk _ List.mem_cons_self
    simp only [go, goF]
    rw [← val_req g (by omega)]
    exact go_goF hk' (good_req g (by omega)) (by omega)
  | .down n :: r, off, need, b, hk, g, hn => go_goF (r := r) (fun c hc => hk c (List.mem_cons_of_mem _ hc)) g hn
  | .up n :: r, off, need, b, hk, g, hn => go_goF (r := r) (fun c hc => hk c (List.mem_cons_of_mem _ hc)) g hn

/-! ### ascending lists are told by their functions -/
def Asc (b : Ps) : Prop := b.Pairwise fun p q => p.1 < q.1
theorem asc_nd {b : Ps} (h : Asc b) : (keys b).Nodup := by
  unfold keys
  rw [List.nodup_iff_pairwise_ne, List.pairwise_map]
  exact h.imp fun h => Int.ne_of_lt h
theorem leK_trans (a b c : Int × Int) (h1 : leK a b = true) (h2 : leK b c = true) : leK a c = true := by
  unfold leK at *
  have a1 := of_decide_eq_true h1
  have a2 := of_decide_eq_true h2
  exact decide_eq_true (by omega)
theorem leK_total (a b : Int × Int) : (leK a b || leK b a) = true := by
  unfold leK
  by_cases h : a.1 < b.1 ∨ (a.1 = b.1 ∧ a.2 ≤ b.2)
  · rw [decide_eq_true h]
    rfl
  · rw [decide_eq_true (show b.1 < a.1 ∨ (b.1 = a.1 ∧ b.2 ≤ a.2) by omega), Bool.or_true]
theorem asc_sort {b : Ps} (g : Good b) : Asc (b.mergeSort leK) := by
  have p := List.pairwise_mergeSort (le := leK) leK_trans leK_total b
  have pm := List.mergeSort_perm b leK
  have nd : (keys (b.mergeSort leK)).Nodup := (pm.map (fun q : Int × Int => q.1)).nodup_iff.mpr g.nd
  unfold keys at nd
  rw [List.nodup_iff_pairwise_ne, List.pairwise_map] at nd
  refine (p.and nd).imp fun h => ?_
  have a := of_decide_eq_true h.1
  have c := h.2
  omega
theorem good_perm {b c : Ps} (g : Good b) (p : c.Perm b) : Good c := ⟨(p.map (fun q : Int × Int => q.1)).nodup_iff.mpr g.nd, fun q hq => g.pos q (p.mem_iff.mp hq)⟩
theorem look_perm {b c : Ps} (g : Good b) (p : c.Perm b) (k : Int) : look c k = look b k := by
  have g' := good_perm g p
  cases e : look b k with
  | none =>
    rw [look_none] at e ⊢
    exact fun z => e ((p.map (fun q : Int × Int => q.1)).mem_iff.mp z)
  | some v => exact mem_look g'.nd (p.mem_iff.mpr (look_mem e))
theorem val_perm {b c : Ps} (g : Good b) (p : c.Perm b) : val c = val b := by
  funext k
  unfold val
  rw [look_perm g p]
theorem look_val {b c : Ps} (gb : Good b) (gc : Good c) (h : val b = val c) (k : Int) : look b k = look c k := by
  have e := congrFun h k
  unfold val at e
  cases e1 : look b k with
  | none =>
    cases e2 : look c k with
    | none => rfl
    | some v =>
      rw [e1, e2] at e
      have : 1 ≤ v := gc.pos _ (look_mem e2)
      have e' : (0 : Int) = v := e
      omega
  | some u =>
    cases e2 : look c k with
    | none =>
      rw [e1, e2] at e
      have : 1 ≤ u := gb.pos _ (look_mem e1)
      have e' : u = (0 : Int) := e
      omega
    | some v =>
      rw [e1, e2] at e
      have e' : u = v := e
      rw [e']
theorem asc_ext : ∀ {b c : Ps}, Asc b → Asc c → (∀ k, look b k = look c k) → b = c
  | [], [], _, _, _ => rfl
  | [], q :: c, _, _, h => by
    have e := h q.1
    rw [look_cons, if_pos rfl] at e
    cases e
  | q :: b, [], _, _, h => by
    have e := h q.1
    rw [look_cons, if_pos rfl] at e
    cases e
  | p :: b, q :: c, hb, hc, h => by
    have hb' := List.pairwise_cons.mp hb
    have hc' := List.pairwise_cons.mp hc
    have e1 := h p.1
    rw [look_cons, if_pos rfl, look_cons] at e1
    have e2 := h q.1
    rw [look_cons, look_cons, if_pos rfl] at e2
    have key : p.1 = q.1 := by
      by_cases x : q.1 = p.1
      · exact x.symm
      · rw [if_neg x] at e1
        rw [if_neg fun z => x z.symm] at e2
        have m1 := hc'.1 _ (look_mem e1.symm)
        have m2 := hb'.1 _ (look_mem e2)
        have m1' : q.1 < p.1 := m1
        have m2' : p.1 < q.1 := m2
        omega
    rw [if_pos key.symm] at e1
    have hpq : p = q := Prod.ext key (Option.some.inj e1)
    subst hpq
    rw [asc_ext hb'.2 hc'.2 fun k => ?_]
    have e := h k
    rw [look_cons, look_cons] at e
    by_cases x : p.1 = k
    · have n1 : look b k = none := look_none.mpr fun z => by
        obtain ⟨r, hr, er⟩ := List.mem_map.mp z
        have := hb'.1 r hr
        omega
      have n2 : look c k = none := look_none.mpr fun z => by
        obtain ⟨r, hr, er⟩ := List.mem_map.mp z
        have := hc'.1 r hr
        omega
      rw [n1, n2]
    · rw [if_neg x, if_neg x] at e
      exact e
theorem sort_ext {b c : Ps} (gb : Good b) (gc : Good c) (h : val b = val c) : b.mergeSort leK = c.mergeSort leK :=
  asc_ext (asc_sort gb) (asc_sort gc) fun k => by
    rw [look_perm gb (List.mergeSort_perm b leK), look_perm gc (List.mergeSort_perm c leK)]
    exact look_val gb gc h k
end Gc

/-! laws of boxes: joined lists, greater goals, multiplied moves -/
namespace Gc
abbrev BF := Option (Option Int × (Int → Int))
def boxF (cs : List Cmd) (goal : Int) : BF := goF cs.reverse (last cs) goal fun _ => 0
theorem val_nil : val [] = fun _ => 0 := rfl
theorem allOk_rev {cs : List Cmd} (h : AllOk cs) : AllOk cs.reverse := fun c hc => h c (List.mem_reverse.mp hc)
theorem box_spec {cs : List Cmd} {goal : Int} (h : AllOk cs) (hg : 1 ≤ goal) :
    (boxM cs goal = none ∧ boxF cs goal = none) ∨ ∃ st b, boxM cs goal = some (st, b.mergeSort leK) ∧ Good b ∧ boxF cs goal = some (st, val b) ∧ ∀ n, st = some n → 1 ≤ n := by
  unfold boxM boxF
  rw [← val_nil]
  rcases go_goF (off := last cs) (allOk_rev h) good_nil hg with ⟨e1, e2⟩ | ⟨st, b, e1, g, e2, p⟩
  · exact .inl ⟨by rw [e1]; rfl, e2⟩
  · exact .inr ⟨st, b, by rw [e1]; rfl, g, e2, p⟩
def thenF (x : BF) (k : Int → (Int → Int) → BF) : BF := match x with
  | none => none
  | some (none, g) => some (none, g)
  | some (some n, g) => k n g
theorem goF_app : ∀ (a b : List Cmd) (off need : Int) (f : Int → Int), goF (a ++ b) off need f = thenF (goF a off need f) fun n g => goF b (off - (a.map Cmd.dv).sum) n g
  | [], b, off, need, f => by
    show goF b off need f = goF b (off - 0) need f
    rw [Int.sub_zero]
  | .home :: a, b, off, need, f => rfl
  | .stop :: a, b, off, need, f => rfl
  | .right n :: a, b, off, need, f => by
    have e : off - (((Cmd.right n :: a).map Cmd.dv).sum) = off - (a.map Cmd.dv).sum := by
      rw [List.map_cons, List.sum_cons]
      show off - (0 + _) = _
      omega
    rw [e, List.cons_append]
    simp only [goF]
    by_cases h : need > n
    · rw [if_pos h, if_pos h]
      exact goF_app a b off (need - n) _
    · rw [if_neg h, if_neg h]
      rfl
  | .left n :: a, b, off, need, f => by
    have e : off - (((Cmd.left n :: a).map Cmd.dv).sum) = off - (a.map Cmd.dv).sum := by
      rw [List.map_cons, List.sum_cons]
      show off - (0 + _) = _
      omega
    rw [e, List.cons_append]
    exact goF_app a b off (need + n) _
  | .down n :: a, b, off, need, f => by
    have e : off - (((Cmd.down n :: a).map Cmd.dv).sum) = off - n - (a.map Cmd.dv).sum := by
      rw [List.map_cons, List.sum_cons]
      show off - (n + _) = _
      omega
    rw [e, List.cons_append]
    exact goF_app a b (off - n) need f
  | .up n :: a, b, off, need, f => by
    have e : off - (((Cmd.up n :: a).map Cmd.dv).sum) = off + n - (a.map Cmd.dv).sum := by
      rw [List.map_cons, List.sum_cons]
      show off - (-n + _) = _
      omega
    rw [e, List.cons_append]
    exact goF_app a b (off + n) need f
theorem goF_shift (d : Int) : ∀ (r : List Cmd) (off need : Int) (f : Int → Int), goF r (off + d) need (fun k => f (k - d)) = (goF r off need f).map fun x => (x.1, fun k => x.2 (k - d))
  | [], off, need, f => rfl
  | .home :: r, off, need, f => rfl
  | .stop :: r, off, need, f => rfl
  | .right n :: r, off, need, f => by
    have e : reqF (fun k => f (k - d)) (off + d) need = fun k => reqF f off need (k - d) := by
      funext k
      unfold reqF
      by_cases h : off + d = k
      · rw [if_pos h, if_pos (by omega)]
      · rw [if_neg h, if_neg (by omega)]
    simp only [goF]
    rw [e]
    by_cases h : need > n
    · rw [if_pos h, if_pos h]
      exact goF_shift d r off (need - n) _
    · rw [if_neg h, if_neg h]
      rfl
  | .left n :: r, off, need, f => by
    have e : reqF (fun k => f (k - d)) (off + d) (need + n) = fun k => reqF f off (need + n) (k - d) := by
      funext k
      unfold reqF
      by_cases h : off + d = k
      · rw [if_pos h, if_pos (by omega)]
      · rw [if_neg h, if_neg (by omega)]
    simp only [goF]
    rw [e]
    exact goF_shift d r off (need + n) _
  | .down n :: r, off, need, f => by
    simp only [goF]
    rw [show off + d - n = off - n + d by omega]
    exact goF_shift d r (off - n) need f
  | .up n :: r, off, need, f => by
    simp only [goF]
    rw [show off + d + n = off + n + d by omega]
    exact goF_shift d r (off + n) need f
theorem goF_max (h : Int → Int) : ∀ (r : List Cmd) (off need : Int) (f : Int → Int), goF r off need (fun k => max (f k) (h k)) = (goF r off need f).map fun x => (x.1, fun k => max (x.2 k) (h k))
  | [], off, need, f => rfl
  | .home :: r, off, need, f => rfl
  | .stop :: r, off, need, f => rfl
  | .right n :: r, off, need, f => by
    have e : reqF (fun k => max (f k) (h k)) off need = fun k => max (reqF f off need k) (h k) := by
      funext k
      unfold reqF
      show (if _ then _ else _) = _
      by_cases q : off = k
      · simp only [q, if_true]
        rw [Int.max_assoc]
      · simp only [q, if_false]
    simp only [goF]
    rw [e]
    by_cases c : need > n
    · rw [if_pos c, if_pos c]
      exact goF_max h r off (need - n) _
    · rw [if_neg c, if_neg c]
      rfl
  | .left n :: r, off, need, f => by
    have e : reqF (fun k => max (f k) (h k)) off (need + n) = fun k => max (reqF f off (need + n) k) (h k) := by
      funext k
      unfold reqF
      show (if _ then _ else _) = _
      by_cases q : off = k
      · simp only [q, if_true]
        rw [Int.max_assoc]
      · simp only [q, if_false]
    simp only [goF]
    rw [e]
    exact goF_max h r off (need + n) _
  | .down n :: r, off, need, f => goF_max h r (off - n) need f
  | .up n :: r, off, need, f => goF_max h r (off + n) need f
theorem last_app (a b : List Cmd) : last (a ++ b) = last a + last b := by
  unfold last
  rw [List.map_append, List.sum_append]
theorem sum_rev (l : List Int) : l.reverse.sum = l.sum := by
  induction l with
  | nil => rfl
  | cons a l ih =>
    rw [List.reverse_cons, List.sum_append, ih, List.sum_cons]
    simp
    omega
theorem boxF_app (early late : List Cmd) (aim : Int) (pos : ∀ st g, boxF late aim = some (st, g) → ∀ k, 0 ≤ g k) :
    boxF (early ++ late) aim = match boxF late aim with
      | none => none
      | some (none, g) => some (none, fun k => g (k - last early))
      | some (some n, g) => (boxF early n).map fun x => (x.1, fun k => max (x.2 k) (g (k - last early))) := by
  unfold boxF
  rw [List.reverse_append, goF_app, last_app, Int.add_comm (last early)]
  have sh : goF late.reverse (last late + last early) aim (fun _ => 0) = (goF late.reverse (last late) aim fun _ => 0).map fun x => (x.1, fun k => x.2 (k - last early)) :=
    goF_shift (last early) late.reverse (last late) aim fun _ => 0
  rw [sh]
  have pos' := pos
  unfold boxF at pos'
  cases e : goF late.reverse (last late) aim (fun _ => 0) with
  | none => rfl
  | some x =>
    obtain ⟨st, g⟩ := x
    cases st with
    | none => rfl
    | some n =>
      show goF early.reverse (last late + last early - (late.reverse.map Cmd.dv).sum) n (fun k => g (k - last early)) = _
      have es : (late.reverse.map Cmd.dv).sum = last late := by
        rw [List.map_reverse, sum_rev]
        rfl
      rw [es, show last late + last early - last late = last early by omega]
      have em : (fun k => g (k - last early)) = fun k => max ((fun _ => 0 : Int → Int) k) (g (k - last early)) := by
        funext k
        have := pos' _ _ e (k - last early)
        show g (k - last early) = max 0 (g (k - last early))
        omega
      rw [em, goF_max]

/-! ### the law's own joining -/
def shiftK (d : Int) (b : Ps) : Ps := b.map fun q => (q.1 + d, q.2)
def addAll (b : Ps) (l : Ps) : Ps := l.foldl (fun b q => put b q.1 (mx q.2 ((look b q.1).getD 0))) b
def joinedM (early late : List Cmd) (gone aim : Int) : Option (Option Int × Ps) := match boxM late aim with
  | none => none
  | some (none, l) => some (none, (shiftK gone l).mergeSort leK)
  | some (some n, l) => match boxM early n with
    | none => none
    | some (st, m) => some (st, (addAll (shiftK gone l) m).mergeSort leK)
theorem look_shift (d : Int) : ∀ (b : Ps) (k : Int), look (shiftK d b) k = look b (k - d)
  | [], _ => rfl
  | q :: b, k => by
    show look ((q.1 + d, q.2) :: shiftK d b) k = _
    rw [look_cons, look_cons, look_shift d b]
    by_cases h : q.1 + d = k
    · rw [if_pos h, if_pos (by omega)]
    · rw [if_neg h, if_neg (by omega)]
theorem good_shift (d : Int) {b : Ps} (g : Good b) : Good (shiftK d b) := by
  refine ⟨?_, fun q hq => ?_⟩
  · have e : keys (shiftK d b) = (keys b).map (· + d) := by
      unfold keys shiftK
      rw [List.map_map, List.map_map]
      rfl
    rw [e, List.nodup_iff_pairwise_ne, List.pairwise_map]
    exact (List.nodup_iff_pairwise_ne.mp g.nd).imp fun h => by omega
  · obtain ⟨p, hp, rfl⟩ := List.mem_map.mp hq
    exact g.pos p hp
theorem val_shift (d : Int) (b : Ps) : val (shiftK d b) = fun k => val b (k - d) := by
  funext k
  unfold val
  rw [look_shift]
theorem val_cons (q : Int × Int) (b : Ps) (k : Int) : val (q :: b) k = if q.1 = k then q.2 else val b k := by
  unfold val
  rw [look_cons]
  split <;> rfl
theorem val_out {b : Ps} {k : Int} (h : k ∉ keys b) : val b k = 0 := by
  unfold val
  rw [look_none.mpr h]
  rfl
theorem addAll_good : ∀ {l b : Ps}, Good b → Good l → Good (addAll b l) ∧ ∀ k, val (addAll b l) k = max (val l k) (val b k)
  | [], b, gb, _ => ⟨gb, fun k => by
      have := val_nonneg gb k
      show val b k = max 0 (val b k)
      omega⟩
  | q :: l, b, gb, gl => by
    have nq : q.1 ∉ keys l ∧ (keys l).Nodup := List.nodup_cons.mp gl.nd
    have p1 : 1 ≤ q.2 := gl.pos q List.mem_cons_self
    have gl' : Good l := ⟨nq.2, fun p hp => gl.pos p (List.mem_cons_of_mem _ hp)⟩
    have hv : 1 ≤ mx q.2 ((look b q.1).getD 0) := by
      unfold mx
      split <;> omega
    obtain ⟨g, v⟩ := addAll_good (b := put b q.1 (mx q.2 ((look b q.1).getD 0))) (good_put gb hv) gl'
    refine ⟨g, fun k => ?_⟩
    show val (addAll (put b q.1 (mx q.2 ((look b q.1).getD 0))) l) k = _
    rw [v k, val_put, val_cons]
    by_cases h : q.1 = k
    · subst h
      rw [if_pos rfl, if_pos rfl, val_out nq.1]
      have : mx q.2 ((look b q.1).getD 0) = max q.2 (val b q.1) := by
        unfold mx val
        split <;> omega
      rw [this]
      omega
    · rw [if_neg h, if_neg h]
theorem joined (early late : List Cmd) {aim : Int} (he : AllOk early) (hl : AllOk late) (ha : 1 ≤ aim) : boxM (early ++ late) aim = joinedM early late (last early) aim := by
  have hw : AllOk (early ++ late) := fun c hc => (List.mem_append.mp hc).elim (he c) (hl c)
  have srtd : ∀ {b c : Ps}, Good b → Good c → val b = val c → b.mergeSort leK = c.mergeSort leK := fun gb gc h => sort_ext gb gc h
  rcases box_spec hl ha with ⟨e1, e2⟩ | ⟨st, b, e1, gb, e2, pb⟩
  · have f := boxF_app early late aim fun st g h => by rw [e2] at h; cases h
    rw [e2] at f
    rcases box_spec hw ha with ⟨w1, _⟩ | ⟨_, _, _, _, w2, _⟩
    · rw [w1]
      unfold joinedM
      rw [e1]
    · rw [w2] at f
      cases f
  · have f := boxF_app early late aim fun st g h => by
      rw [e2] at h
      cases h
      exact val_nonneg gb
    rw [e2] at f
    have gs : Good (b.mergeSort leK) := good_perm gb (List.mergeSort_perm b leK)
    have vs : val (b.mergeSort leK) = val b := val_perm gb (List.mergeSort_perm b leK)
    cases st with
    | none =>
      rcases box_spec hw ha with ⟨_, w2⟩ | ⟨st', c, w1, gc, w2, _⟩
      · rw [w2] at f
        cases f
      · rw [w2] at f
        have f' := Option.some.inj f
        have f1 : st' = none := congrArg Prod.fst f'
        have f2 : val c = fun k => val b (k - last early) := congrArg Prod.snd f'
        rw [w1, f1]
        unfold joinedM
        rw [e1]
        show some ((none : Option Int), c.mergeSort leK) = some (none, (shiftK (last early) (b.mergeSort leK)).mergeSort leK)
        rw [srtd gc (good_shift _ gs) (by rw [f2, val_shift, vs])]
    | some n =>
      have hn := pb n rfl
      rcases box_spec he hn with ⟨x1, x2⟩ | ⟨st2, m, x1, gm, x2, _⟩
      · have f' : boxF (early ++ late) aim = (boxF early n).map fun x => (x.1, fun k => max (x.2 k) (val b (k - last early))) := f
        rw [x2] at f'
        rcases box_spec hw ha with ⟨w1, _⟩ | ⟨_, _, _, _, w2, _⟩
        · rw [w1]
          unfold joinedM
          rw [e1]
          show none = match boxM early n with | none => none | some (st, m) => _
          rw [x1]
        · rw [w2] at f'
          cases f'
      · have f' : boxF (early ++ late) aim = (boxF early n).map fun x => (x.1, fun k => max (x.2 k) (val b (k - last early))) := f
        rw [x2] at f'
        rcases box_spec hw ha with ⟨_, w2⟩ | ⟨st', c, w1, gc, w2, _⟩
        · rw [w2] at f'
          cases f'
        · rw [w2] at f'
          have f3 := Option.some.inj f'
          have f1 : st' = st2 := congrArg Prod.fst f3
          have f2 : val c = fun k => max (val m k) (val b (k - last early)) := congrArg Prod.snd f3
          rw [w1, f1]
          unfold joinedM
          rw [e1]
          show some (st2, c.mergeSort leK) = match boxM early n with | none => none | some (st, m) => _
          rw [x1]
          show some (st2, c.mergeSort leK) = some (st2, (addAll (shiftK (last early) (b.mergeSort leK)) (m.mergeSort leK)).mergeSort leK)
          have gms : Good (m.mergeSort leK) := good_perm gm (List.mergeSort_perm m leK)
          obtain ⟨ga, va⟩ := addAll_good (good_shift (last early) gs) gms
          rw [srtd gc ga (by
            funext k
            rw [f2, va k, val_perm gm (List.mergeSort_perm m leK), val_shift, vs])]

/-! ### a greater goal -/
theorem reqF_mono {f g : Int → Int} {o v u : Int} (h : ∀ k, f k ≤ g k) (hv : v ≤ u) (k : Int) : reqF f o v k ≤ reqF g o u k := by
  have := h k
  unfold reqF
  split <;> omega
theorem reqF_ge (f : Int → Int) (o v k : Int) : f k ≤ reqF f o v k := by
  unfold reqF
  split <;> omega
theorem goF_ge : ∀ {r : List Cmd} {off need : Int} {f : Int → Int} {st : Option Int} {g : Int → Int}, goF r off need f = some (st, g) → ∀ k, f k ≤ g k
  | [], off, need, f, st, g, h, k => by cases h; exact Int.le_refl _
  | .home :: r, off, need, f, st, g, h, k => by cases h
  | .stop :: r, off, need, f, st, g, h, k => by cases h; exact Int.le_refl _
  | .right n :: r, off, need, f, st, g, h, k => by
    simp only [goF] at h
    by_cases c : need > n
    · rw [if_pos c] at h
      exact Int.le_trans (reqF_ge f off need k) (goF_ge h k)
    · rw [if_neg c] at h
      cases h
      exact reqF_ge f off need k
  | .left n :: r, off, need, f, st, g, h, k => Int.le_trans (reqF_ge f off (need + n) k) (goF_ge (r := r) h k)
  | .down n :: r, off, need, f, st, g, h, k => goF_ge (r := r) h k
  | .up n :: r, off, need, f, st, g, h, k => goF_ge (r := r) h k
def Less (x y : BF) : Prop := y = none ∨ ∃ st g st' g', x = some (st, g) ∧ y = some (st', g') ∧ (∀ n, st = some n → ∃ n', st' = some n' ∧ n ≤ n') ∧ ∀ k, g k ≤ g' k
theorem goF_mono : ∀ {r : List Cmd} {off need need' : Int} {f f' : Int → Int}, need ≤ need' → (∀ k, f k ≤ f' k) → Less (goF r off need f) (goF r off need' f')
  | [], off, need, need', f, f', h, hf => .inr ⟨_, _, _, _, rfl, rfl, fun n e => ⟨need', rfl, by rw [← Option.some.inj e]; exact h⟩, hf⟩
  | .home :: r, off, need, need', f, f', h, hf => .inl rfl
  | .stop :: r, off, need, need', f, f', h, hf => .inr ⟨_, _, _, _, rfl, rfl, (fun n e => nomatch e), hf⟩
  | .right n :: r, off, need, need', f, f', h, hf => by
    simp only [goF]
    have m := reqF_mono (o := off) hf h
    by_cases c : need > n
    · rw [if_pos c, if_pos (by omega)]
      exact goF_mono (by omega) m
    · rw [if_neg c]
      by_cases c' : need' > n
      · rw [if_pos c']
        cases e : goF r off (need' - n) (reqF f' off need') with
        | none => exact .inl rfl
        | some x => exact .inr ⟨_, _, x.1, x.2, rfl, rfl, (fun n e => nomatch e), fun k => Int.le_trans (m k) (goF_ge e k)⟩
      · rw [if_neg c']
        exact .inr ⟨_, _, _, _, rfl, rfl, (fun n e => nomatch e), m⟩
  | .left n :: r, off, need, need', f, f', h, hf => goF_mono (r := r) (by omega) (reqF_mono (o := off) hf (by omega))
  | .down n :: r, off, need, need', f, f', h, hf => goF_mono (r := r) h hf
  | .up n :: r, off, need, need', f, f', h, hf => goF_mono (r := r) h hf
theorem box_mono {cs : List Cmd} {aim more : Int} (h : AllOk cs) (ha : 1 ≤ aim) (hm : aim ≤ more) :
    boxM cs more = none ∨ ∃ st l st' l', boxM cs aim = some (st, l) ∧ boxM cs more = some (st', l') ∧ (∀ n, st = some n → ∃ n', st' = some n' ∧ n ≤ n') ∧ ∀ q ∈ l, q.2 ≤ val l' q.1 := by
  have m : Less (boxF cs aim) (boxF cs more) := goF_mono hm fun _ => Int.le_refl _
  rcases box_spec h (show 1 ≤ more by omega) with ⟨e1, _⟩ | ⟨st', b', e1, g', e2, _⟩
  · exact .inl e1
  · rcases m with m | ⟨st, g, st2, g2, m1, m2, m3, m4⟩
    · rw [e2] at m
      cases m
    · rw [e2] at m2
      cases m2
      rcases box_spec h ha with ⟨_, x2⟩ | ⟨st3, b, x1, gb, x2, _⟩
      · rw [x2] at m1
        cases m1
      · rw [x2] at m1
        cases m1
        refine .inr ⟨st, _, st', _, x1, e1, m3, fun q hq => ?_⟩
        have gs : Good (b.mergeSort leK) := good_perm gb (List.mergeSort_perm b leK)
        have v : val (b.mergeSort leK) q.1 = q.2 := by
          unfold val
          rw [mem_look gs.nd hq]
          rfl
        rw [val_perm gb (List.mergeSort_perm b leK)] at v
        rw [val_perm g' (List.mergeSort_perm b' leK), ← v]
        exact m4 q.1

/-! ### moves multiplied -/
def Cmd.mul (F : Int) : Cmd → Cmd
  | .down n => .down (n * F)
  | .up n => .up (n * F)
  | c => c
def mulK (F : Int) (b : Ps) : Ps := b.map fun q => (q.1 * F, q.2)
theorem mul_inj {F a b : Int} (hF : 1 ≤ F) : a * F = b * F ↔ a = b := ⟨fun h => Int.eq_of_mul_eq_mul_right (by omega) h, fun h => by rw [h]⟩
theorem look_mul {F : Int} (hF : 1 ≤ F) : ∀ (b : Ps) (k : Int), look (mulK F b) (k * F) = look b k
  | [], _ => rfl
  | q :: b, k => by
    show look ((q.1 * F, q.2) :: mulK F b) (k * F) = _
    rw [look_cons, look_cons, look_mul hF b]
    by_cases h : q.1 = k
    · rw [if_pos h, if_pos (by rw [h])]
    · rw [if_neg h, if_neg fun z => h ((mul_inj hF).mp z)]
theorem put_mul {F : Int} (hF : 1 ≤ F) (b : Ps) (k v : Int) : put (mulK F b) (k * F) v = mulK F (put b k v) := by
  unfold put
  have ea : (mulK F b).any (fun q => decide (q.1 = k * F)) = b.any (fun q => decide (q.1 = k)) := by
    unfold mulK
    rw [List.any_map]
    congr 1
    funext q
    show decide (q.1 * F = k * F) = decide (q.1 = k)
    exact decide_eq_decide.mpr (mul_inj hF)
  rw [ea]
  by_cases h : b.any (fun q => decide (q.1 = k)) = true
  · rw [if_pos h, if_pos h]
    unfold mulK
    rw [List.map_map, List.map_map]
    refine List.map_congr_left fun q _ => ?_
    show (if q.1 * F = k * F then (q.1 * F, v) else (q.1 * F, q.2)) = ((if q.1 = k then (q.1, v) else q).1 * F, (if q.1 = k then (q.1, v) else q).2)
    by_cases e : q.1 = k
    · rw [if_pos e, if_pos (by rw [e])]
    · rw [if_neg e, if_neg fun z => e ((mul_inj hF).mp z)]
  · rw [if_neg h, if_neg h]
    unfold mulK
    rw [List.map_append]
    rfl
theorem req_mul {F : Int} (hF : 1 ≤ F) (b : Ps) (o v : Int) : req (mulK F b) (o * F) v = mulK F (req b o v) := by
  unfold req
  rw [look_mul hF, put_mul hF]
theorem go_mul {F : Int} (hF : 1 ≤ F) : ∀ (r : List Cmd) (off need : Int) (b : Ps), go (r.map (Cmd.mul F)) (off * F) need (mulK F b) = (go r off need b).map fun x => (x.1, mulK F x.2)
  | [], off, need, b => rfl
  | .home :: r, off, need, b => rfl
  | .stop :: r, off, need, b => rfl
  | .right n :: r, off, need, b => by
    show (if need > n then go (r.map (Cmd.mul F)) (off * F) (need - n) (req (mulK F b) (off * F) need) else some (none, req (mulK F b) (off * F) need)) = (if need > n then go r off (need - n) (req b off need) else some (none, req b off need)).map _
    rw [req_mul hF]
    by_cases c : need > n
    · rw [if_pos c, if_pos c]
      exact go_mul hF r off (need - n) _
    · rw [if_neg c, if_neg c]
      rfl
  | .left n :: r, off, need, b => by
    show go (r.map (Cmd.mul F)) (off * F) (need + n) (req (mulK F b) (off * F) (need + n)) = _
    rw [req_mul hF]
    exact go_mul hF r off (need + n) _
  | .down n :: r, off, need, b => by
    show go (r.map (Cmd.mul F)) (off * F - n * F) need (mulK F b) = _
    rw [← Int.sub_mul]
    exact go_mul hF r (off - n) need b
  | .up n :: r, off, need, b => by
    show go (r.map (Cmd.mul F)) (off * F + n * F) need (mulK F b) = _
    rw [← Int.add_mul]
    exact go_mul hF r (off + n) need b
theorem last_mul (F : Int) : ∀ cs : List Cmd, last (cs.map (Cmd.mul F)) = last cs * F
  | [] => by show (0 : Int) = 0 * F; omega
  | c :: cs => by
    have e : ∀ (c : Cmd) (cs : List Cmd), last (c :: cs) = c.dv + last cs := fun _ _ => rfl
    have d : (c.mul F).dv = c.dv * F := by
      cases c with
      | up n =>
        show -(n * F) = -n * F
        rw [Int.neg_mul]
      | down n => rfl
      | right n => show (0 : Int) = 0 * F; omega
      | left n => show (0 : Int) = 0 * F; omega
      | home => show (0 : Int) = 0 * F; omega
      | stop => show (0 : Int) = 0 * F; omega
    rw [List.map_cons, e, e, last_mul F cs, d, Int.add_mul]
theorem good_mul {F : Int} (hF : 1 ≤ F) {b : Ps} (g : Good b) : Good (mulK F b) := by
  refine ⟨?_, fun q hq => ?_⟩
  · have e : keys (mulK F b) = (keys b).map (· * F) := by
      unfold keys mulK
      rw [List.map_map, List.map_map]
      rfl
    rw [e, List.nodup_iff_pairwise_ne, List.pairwise_map]
    exact (List.nodup_iff_pairwise_ne.mp g.nd).imp fun h z => h ((mul_inj hF).mp z)
  · obtain ⟨p, hp, rfl⟩ := List.mem_map.mp hq
    exact g.pos p hp
theorem asc_mul {F : Int} (hF : 1 ≤ F) {b : Ps} (h : Asc b) : Asc (mulK F b) := by
  unfold Asc mulK
  rw [List.pairwise_map]
  exact h.imp fun h => Int.mul_lt_mul_of_pos_right h (by omega)
theorem box_mul {F : Int} (hF : 1 ≤ F) {cs : List Cmd} {goal : Int} (h : AllOk cs) (hg : 1 ≤ goal) :
    boxM (cs.map (Cmd.mul F)) goal = (boxM cs goal).map fun x => (x.1, mulK F x.2) := by
  unfold boxM
  rw [last_mul, ← List.map_reverse]
  have e := go_mul hF cs.reverse (last cs) goal []
  have e' : go (cs.reverse.map (Cmd.mul F)) (last cs * F) goal [] = (go cs.reverse (last cs) goal []).map fun x => (x.1, mulK F x.2) := e
  rw [e']
  rcases go_goF (off := last cs) (allOk_rev h) good_nil hg with ⟨e1, _⟩ | ⟨st, b, e1, g, _, _⟩
  · rw [e1]
    rfl
  · rw [e1]
    show some (st, (mulK F b).mergeSort leK) = some (st, mulK F (b.mergeSort leK))
    have gm := good_mul hF g
    have key : (mulK F b).mergeSort leK = mulK F (b.mergeSort leK) := by
      have p : (mulK F (b.mergeSort leK)).Perm (mulK F b) := (List.mergeSort_perm b leK).map _
      refine asc_ext (asc_sort gm) (asc_mul hF (asc_sort g)) fun k => ?_
      rw [look_perm gm (List.mergeSort_perm _ leK), look_perm gm p]
    rw [key]
def Cmd.vert : Cmd → Bool
  | .down _ => true
  | .up _ => true
  | _ => false
theorem go_plain : ∀ (r : List Cmd) (off need : Int) (b : Ps), (∀ c ∈ r, c.vert = true) → go r off need b = some (some need, b)
  | [], _, _, _, _ => rfl
  | .down n :: r, off, need, b, h => go_plain r (off - n) need b fun c hc => h c (List.mem_cons_of_mem _ hc)
  | .up n :: r, off, need, b, h => go_plain r (off + n) need b fun c hc => h c (List.mem_cons_of_mem _ hc)
  | .right n :: r, _, _, _, h => nomatch h _ List.mem_cons_self
  | .left n :: r, _, _, _, h => nomatch h _ List.mem_cons_self
  | .home :: r, _, _, _, h => nomatch h _ List.mem_cons_self
  | .stop :: r, _, _, _, h => nomatch h _ List.mem_cons_self
theorem box_plain (cs : List Cmd) (goal : Int) (h : ∀ c ∈ cs, c.vert = true) : boxM cs goal = some (some goal, []) := by
  unfold boxM
  rw [go_plain cs.reverse (last cs) goal [] fun c hc => h c (List.mem_reverse.mp hc)]
  show some (some goal, ([] : Ps).mergeSort leK) = _
  rw [List.mergeSort_nil]
end Gc

/-! sorted(d.items()), d a dict of ints by ints -/
namespace Gc
open PySem PySem.Spec PyProof.Rows L2
/-- what such a dict holds -/
def dkI (ps : List (Int × Int)) : List (L2.Key × V) := ps.map fun q => (Sum.inl q.1, V.int q.2)
def encP (q : Int × Int) : PyData := .tuple [.int q.1, .int q.2]
def leP (p q : Int × Int) : Bool := decide (p.1 < q.1 ∨ (p.1 = q.1 ∧ p.2 ≤ q.2))
theorem dkI_at {ps : List (Int × Int)} {j : Nat} {kv : L2.Key × V} (h : (dkI ps)[j]? = some kv) : ∃ q, ps[j]? = some q ∧ kv = (Sum.inl q.1, V.int q.2) := by
  unfold dkI at h
  rw [List.getElem?_map] at h
  cases e : ps[j]? with
  | none =>
    rw [e] at h
    cases h
  | some q =>
    rw [e] at h
    exact ⟨q, rfl, (Option.some.inj h).symm⟩
theorem pairs_at {P : Program} {w : World} : ∀ {es : List DictEntry} {vs : List (L2.Key × Value)} {j : Nat} {e : DictEntry}, Pairs (mixKind P w) es vs → es[j]? = some e →
    ∃ kv, vs[j]? = some kv ∧ keyIs kv.1 e.key = true ∧ e.val = kv.2
  | _, _, 0, e, .cons h1 h2 _, h => by
    obtain rfl := Option.some.inj h
    exact ⟨_, rfl, h1, h2⟩
  | _, _, j + 1, e, .cons _ _ t, h => pairs_at (j := j) t h
theorem pairs_len {P : Program} {w : World} : ∀ {es : List DictEntry} {vs : List (L2.Key × Value)}, Pairs (mixKind P w) es vs → es.length = vs.length
  | _, _, .nil => rfl
  | _, _, .cons _ _ t => by
    rw [List.length_cons, List.length_cons, pairs_len t]
def rSortItI : V → Hp → VK → Prop := fun x H Q => ∃ (d : Addr) (ps : List (Int × Int)), x = .ref d ∧ H d = some (.dK (dkI ps)) ∧
  ∀ (H' : Hp) (l : Addr) (ts : List Addr), Same H H' → H l = none → H' l = some (.lst (ts.map V.ref)) →
    Paired (fun (t : Addr) (q : Int × Int) => H' t = some (.tup [.int q.1, .int q.2])) ts (ps.mergeSort leP) → Q (.ref l) H'
theorem each_paired {R : Value → Int × Int → Prop} {F : Addr → Int × Int → Prop} (hR : ∀ v q, R v q → ∃ t, v = .ref t ∧ F t q) : ∀ {vs : List Value} {qs : List (Int × Int)}, PySem.W.EachIs R vs qs →
    ∃ ts : List Addr, vs = ts.map Value.ref ∧ Paired F ts qs
  | _, _, .nil => ⟨[], rfl, .nil⟩
  | _, _, .cons h t => by
    obtain ⟨t0, e0, f0⟩ := hR _ _ h
    obtain ⟨ts, e1, f1⟩ := each_paired hR t
    exact ⟨t0 :: ts, by rw [e0, e1]; rfl, .cons f0 f1⟩
theorem vals_refs : ∀ as : List Addr, Vals (as.map V.ref) (as.map Value.ref)
  | [] => .nil
  | _ :: as => .cons rfl (vals_refs as)
section
variable {X : Cx}
theorem sort_items_run {pins : List (Addr × Obj)} {σ : L2.St} {H : Hp} {s : Shared} {Q : VK} {p d : Addr} {ps : List (Int × Int)} (I : Inv X pins σ H s) (hh : X.A.handled = none)
    (hu : X.A.units + 64 < cLine) (hd : H d = some (.dK (dkI ps))) (view : s.heap.IsItemsView p d)
    (q : ∀ (H' : Hp) (l : Addr) (ts : List Addr), Same H H' → H l = none → H' l = some (.lst (ts.map V.ref)) →
      Paired (fun (t : Addr) (q : Int × Int) => H' t = some (.tup [.int q.1, .int q.2])) ts (ps.mergeSort leP) → Q (.ref l) H') :
    wpAny (model X.prog X.w) X.A (call (.builtin "sorted") [.ref p]) (EP X pins σ Q) X.xe s := by
  obtain ⟨hz, hs0, vs, kv, o, es, ep, ho, hx, hdat, hko, hpr, hnd⟩ := (show ObjOk X.prog X.w H s.heap d (.dK (dkI ps)) from I.hok d _ hd)
  have l1 : (dkI ps).length = vs.length := Paired.length kv
  have l2 : es.toList.length = vs.length := pairs_len hpr
  have l3 : (dkI ps).length = ps.length := List.length_map ..
  have l4 : es.toList.length = es.size := by simp
  have ent : ∀ (j : Nat) (e : DictEntry), es[j]? = some e → ∃ (q : Int × Int) (t1 t2 : Tok), ps[j]? = some q ∧ e.key = .int q.1 t1 ∧ e.val = .int q.2 t2 := by
    intro j e he
    obtain ⟨kv', e1, e2, e3⟩ := pairs_at hpr (show es.toList[j]? = some e by simpa using he)
    obtain ⟨y, f1, f2, f3⟩ := L2.DX.pget kv e1
    obtain ⟨q, g1, rfl⟩ := dkI_at f1
    have f2' : Sum.inl q.1 = kv'.1 := f2
    rw [← f2'] at e2
    obtain ⟨t1, k1⟩ := Value.isInt_shape (k := q.1) (v := e.key) e2
    obtain ⟨t2, k2⟩ : ∃ t, kv'.2 = Value.int q.2 t := f3
    exact ⟨q, t1, t2, g1, k1, e3.trans k2⟩
  refine DT.sortedI (es := es) (ep := ep) hh view ⟨o, ho, hx, hdat⟩ (by omega) fun h' tk as hk hlt hl hG => ?_
  have nd : as.Nodup := List.Pairwise.imp (fun h => Nat.ne_of_lt h) hG.rise
  have lap : as.length = ps.length := by omega
  have pr : ∀ (j : Nat) (b : Addr), as[j]? = some b → ∃ (q : Int × Int) (t1 t2 : Tok), ps[j]? = some q ∧
      h'.get? b = some { cls := .type "tuple", data := .seq #[Value.int q.1 t1, Value.int q.2 t2] } := by
    intro j b hj
    obtain ⟨e, he, hg⟩ := hG.pairs j b hj
    obtain ⟨q, t1, t2, e1, e2, e3⟩ := ent j e he
    rw [e2, e3] at hg
    exact ⟨q, t1, t2, e1, hg⟩
  have hob : (h'.push { cls := .type "list", data := .seq (as.map Value.ref).toArray }).get? h'.objs.size = some (seqObj "list" (as.map Value.ref).toArray 0) := Heap.get?_push_size _ rfl
  have ne0 : ∀ b o, h'.get? b = some o → b ≠ h'.objs.size := fun b o e => Nat.ne_of_lt (Heap.lt_size e)
  have ka : ∀ b o, h'.get? b = some o → (h'.push { cls := .type "list", data := .seq (as.map Value.ref).toArray }).get? b = some o := fun b o e => Heap.get?_push_of_some _ e
  generalize hh2 : h'.push { cls := .type "list", data := .seq (as.map Value.ref).toArray } = h2 at hob ka ⊢
  have kb : ∀ b o, s.heap.get? b = some o → h2.get? b = some o := fun b o e => ka b o (hk b o e)
  have zipR : ∀ z, z ∈ (as.map Value.ref).zip ps → ∃ (j : Nat) (t : Addr), z.1 = Value.ref t ∧ as[j]? = some t ∧ ps[j]? = some z.2 := by
    intro z hz'
    obtain ⟨j, hj⟩ := List.mem_iff_getElem?.mp hz'
    obtain ⟨j1, j2⟩ := List.getElem?_zip_eq_some.mp hj
    rw [List.getElem?_map] at j1
    cases e : as[j]? with
    | none =>
      rw [e] at j1
      cases j1
    | some t =>
      rw [e] at j1
      exact ⟨j, t, (Option.some.inj j1).symm, e, j2⟩
  have eR : PySem.W.EachIs (fun v (q : Int × Int) => ∃ (j : Nat) (t : Addr), v = Value.ref t ∧ as[j]? = some t ∧ ps[j]? = some q) (as.map Value.ref) ps :=
    PySem.W.EachIs.of_zip (by rw [List.length_map]; exact lap) zipR
  have er : PySem.W.EachIs (fun v (q : Int × Int) => ∃ bs, Reads h2 v (encP q) bs ∧ h'.objs.size ∉ bs) (as.map Value.ref) ps := by
    refine eR.mono fun v q h => ?_
    obtain ⟨j, t, rfl, e1, e2⟩ := h
    obtain ⟨q', t1, t2, g1, g2⟩ := pr j t e1
    obtain rfl : q' = q := Option.some.inj (g1.symm.trans e2)
    exact ⟨_, .tuple (ka _ _ g2) rfl rfl (.cons (.int _ _) (.cons (.int _ _) .nil)), by simp⟩
  refine PySem.W.list_sort_data (s := { s with heap := h2, toks := tk }) (A := X.A.in1) (enc := encP) (bs := ps) (vs := as.map Value.ref) hob eR er
    (PySem.W.AllAlike.of fun b b' => by simp [encP, PySem.W.alike, PySem.W.alikeAll]) (PySem.W.Sortable.tuples fun b => ⟨_, _, rfl⟩) (by omega)
    (fun b _ => by show X.A.units + 1 + 1 + 1 < cLine; omega) fun out ol oe => ?_
  have le_eq : PySem.W.dataLe false encP = leP := PySem.W.dataLe_ii (fun q : Int × Int => q.1) (fun q => q.2)
  rw [le_eq] at oe
  show EP X pins σ Q (.ref h'.objs.size) { s with heap := sortedHeap h2 h'.objs.size (as.map Value.ref) out.toArray, toks := tk }
  obtain ⟨ts, rfl, tp⟩ := each_paired (F := fun t q => ∃ j : Nat, as[j]? = some t ∧ ps[j]? = some q) (fun v q h => by
    obtain ⟨j, t, e1, e2, e3⟩ := h
    exact ⟨t, e1, j, e2, e3⟩) oe
  have kF : ∀ b o, b ≠ h'.objs.size → h2.get? b = some o → (sortedHeap h2 h'.objs.size (as.map Value.ref) (ts.map Value.ref).toArray).get? b = some o :=
    fun b o hb e => (PyProof.Rows.sortedHeap_old hb (Heap.lt_size e)).trans e
  have kS : ∀ b o, s.heap.get? b = some o → (sortedHeap h2 h'.objs.size (as.map Value.ref) (ts.map Value.ref).toArray).get? b = some o :=
    fun b o e => kF b o (ne0 _ _ (hk b o e)) (kb b o e)
  obtain ⟨eF, heF⟩ := PyProof.Rows.sortedHeap_at (vs := as.map Value.ref) (out := (ts.map Value.ref).toArray) hob
  generalize sortedHeap h2 h'.objs.size (as.map Value.ref) (ts.map Value.ref).toArray = hF at kF kS heF ⊢
  have I1 : Inv X pins σ H { s with heap := hF, toks := tk } := I.kept (t' := tk) kS
  have hn0 : H h'.objs.size = none := I.hok.fresh (Nat.le_of_lt hlt)
  have tl : ts.length = ps.length := by
    rw [← ol, List.length_map]
  have I2 : Inv X pins σ (upd H h'.objs.size (.lst (ts.map V.ref))) { s with heap := hF, toks := tk } :=
    I1.take (h' := hF) (t' := tk) (fun b ob _ e => e) (I.fpOk (Nat.le_of_lt hlt) hn0) ⟨by rw [List.length_map]; omega, ts.map Value.ref, eF, vals_refs ts, heF⟩
  obtain ⟨H2, I3, g, qt⟩ := L2.DX.takeT (P := fun b vs => ∃ (j : Nat) (q : Int × Int), as[j]? = some b ∧ ps[j]? = some q ∧ vs = [.int q.1, .int q.2]) I as _ I2 nd fun b hb => by
    obtain ⟨j, hj⟩ := List.mem_iff_getElem?.mp hb
    obtain ⟨q, t1, t2, e1, e2⟩ := pr j b hj
    have old : s.heap.objs.size ≤ b := Nat.le_of_lt (hG.above b hb)
    refine ⟨old, ?_, [.int q.1, .int q.2], ⟨j, q, hj, e1, rfl⟩, fun H3 => ⟨by show 2 ≤ sizeLine; decide, [Value.int q.1 t1, Value.int q.2 t2], .cons ⟨_, rfl⟩ (.cons ⟨_, rfl⟩ .nil), ⟨_, kF _ _ (ne0 _ _ e2) (ka _ _ e2), rfl, 0, rfl⟩⟩⟩
    rw [upd_ne (ne0 _ _ e2)]
    exact I.hok.fresh old
  refine ⟨.ref h'.objs.size, H2, I3, rfl, q H2 h'.objs.size ts (fun b o e => g b o (by rw [upd_ne (ne_of_none e hn0)]; exact e)) hn0 (g _ _ upd_same) ?_⟩
  refine Paired.mapP tp fun t q h => ?_
  obtain ⟨j, j1, j2⟩ := h
  obtain ⟨vs', ⟨i, q', i1, i2, ev⟩, hH⟩ := qt t (List.mem_of_getElem? j1)
  have eij : i = j := (List.getElem?_inj (List.getElem?_eq_some_iff.mp i1).1 nd).mp (i1.trans j1.symm)
  subst eij
  obtain rfl : q' = q := Option.some.inj (i2.symm.trans j2)
  rw [ev] at hH
  exact hH
def tSortItems (te : TE) : TE := fun σ H Q => te σ H fun x H1 => rSortItI x H1 Q
variable {e : Expr} {te : TE} {p apos cpos pos : Pos}
theorem pe_sortItems (hc : X.calm = true) (hu : X.A.units + 64 < cLine) (he : PE X e te) (hg : Gl X "sorted") (hm : X.mg "sorted" = none)
    (hv : bootBuiltins "sorted" = some (.builtin "sorted"))
    (hbase : attributeBase e "items" X.env (eval e X.env) = eval e X.env := by rfl) (hline : (apos.endLine == cpos.line) = true := by rfl)
    (hs : starEach [.Call (.Attribute e "items" apos) [] [] cpos] X.env = (false, eval (.Call (.Attribute e "items" apos) [] [] cpos) X.env) :: starEach [] X.env := by rfl) :
    PE X (.Call (.Name "sorted" p) [.Call (.Attribute e "items" apos) [] [] cpos] [] pos) (tSortItems te) := by
  refine ⟨fun pins s σ H Q I hq => ?_⟩
  refine wpAny_Call_Name_kw (ld_blt I hg hm hv ?_)
  refine PyProof.Rows.callWith_builtin1 ?_ hs rfl
  rw [hs]
  show wpAny _ _ (spliced ((false, eval (.Call (.Attribute e "items" apos) [] [] cpos) X.env) :: backTo pos (starEach [] X.env))) _ _ s
  refine Calls.spliced_cons ?_
  refine wpAny_Call_method (T := "dict") (id := "dict.items") hbase rfl hline F.plainAttrs_dict F.slot_dict_items F.type_dict_items
    (thn (he.run pins s σ H _ I hq) fun u s1 ⟨x, H1, I1, rx, d, ps, ex, hd, q⟩ => ?_)
  subst ex
  obtain rfl : u = Value.ref d := rx
  obtain ⟨hz, hs0, vs, kv, hdo⟩ := I1.hok d _ hd
  have I2 : Inv X pins σ H1 { s1 with heap := s1.heap.push { cls := .type "dict_items", data := .fields #[.ref d] } } :=
    I1.kept (t' := s1.toks) fun b ob z => Heap.get?_push_of_some _ z
  refine ⟨hdo.typeIs, hdo.mapOf.noDict, ?_⟩
  show wpAny _ _ (callWith cpos (.builtin "dict.items") [.ref d] [] []) _ X.xe s1
  refine method_meetsIn F.slot_dict_items F.entry_dict_items rfl (PySem.evalArgs_none ⟨rfl, hdo.typeIs, F.args_dict_items_1 _, _, meets_dict_items (mixKind X.prog X.w) d hs0, ⟨vs, hdo⟩, ?_⟩)
  refine Calls.spliced_nil ?_
  exact sort_items_run I2 (I1.ok.hd hc) hu hd ⟨_, Heap.get?_push_size _ rfl, rfl, rfl⟩ q
end
end Gc

/-! match over written texts, with a last case for the rest -/
namespace Gc
open PySem L2
/-- what is wanted of the cases, by the subject's value -/
abbrev TM := V → TS
structure MC (X : Cx) (cs : List MatchCase) (t : TM) : Prop where
  run : ∀ (first : Bool) (pins : List (Addr × Obj)) (s : Shared) (σ : L2.St) (H : Hp) (D : Ends) (x : V) (v : Value),
    Inv X pins σ H s → RelV x v → t x D σ H →
    wpAny (model X.prog X.w) X.A (matchCases cs X.env v first) (fun f s' => SP X pins D f s') X.xe s
def mNil : TM := fun _ D σ H => D.nx σ H
/-- case 'z': .. -/
def mStr (z : Str) (tb : TS) (r : TM) : TM := fun x D σ H => ∃ y, x = .str y ∧ if decide (y = z) = true then tb D σ H else r x D σ H
/-- case _: .. -/
def mAny (tb : TS) : TM := fun _ D σ H => tb D σ H
section
variable {X : Cx} {rest : List MatchCase} {body : List Stmt} {tb : TS} {r : TM} {z : Str} {k : Nat} {p1 p2 pos : Pos} {e : Expr} {te : TE}
theorem mc_nil : MC X [] mNil := ⟨fun _ pins s σ H D x v I _ h => wpAny_matchCases_nil ⟨σ, H, I, h⟩⟩
theorem mc_str (hb : PSs X body tb) (hr : MC X rest r) :
    MC X (⟨.MatchValue (.Constant (.str z) k p1) p2, none, body⟩ :: rest) (mStr z tb r) := by
  refine ⟨fun first pins s σ H D x v I rx h => ?_⟩
  obtain ⟨y, rfl, h⟩ := h
  refine wpAny_matchCases_cons (wpAny_matchPattern_Value ?_)
  have hq : PE X (.Constant (.str z) k p1) (tC (.str z)) := pe_str
  refine wpAny_mono (hq.run pins s σ H (fun w H' => w = .str z ∧ H' = H) I ⟨rfl, rfl⟩) (fun u s1 hu => ?_) fun _ _ q => q
  obtain ⟨w, H1, I1, rw1, rfl, rfl⟩ := hu
  refine wpAny_mono ((op_eq (X := X)) pins s1 σ _ (.str y) (.str z) v u (fun w H' => w = .bl (decide (y = z)) ∧ H' = _) I1 rx rw1 ⟨rfl, ?_, rfl⟩) (fun c s2 hc => ?_) fun _ _ q => q
  · by_cases q : y = z
    · subst q
      rw [decide_eq_true (Eq.refl _), decide_eq_true (Eq.refl _)]
    · rw [decide_eq_false q, decide_eq_false fun e => q (V.str.inj e)]
  · obtain ⟨w, H2, I2, rw2, rfl, rfl⟩ := hc
    obtain rfl : c = Value.bool (decide (y = z)) := rw2
    refine wpAny_pure ?_
    by_cases q : y = z
    · rw [decide_eq_true q] at h ⊢
      show wpAny _ _ (assignInOrder [] []) _ _ _
      refine wpAny_assignInOrder_none ?_
      exact hb.run pins s2 σ _ D I2 h
    · rw [decide_eq_false q] at h ⊢
      exact hr.run false pins s2 σ _ D (.str y) v I2 rx h
theorem mc_any (hb : PSs X body tb) : MC X (⟨.MatchAs none none p2, none, body⟩ :: rest) (mAny tb) := by
  refine ⟨fun first pins s σ H D x v I rx h => ?_⟩
  refine wpAny_matchCases_cons (wpAny_matchPattern_Capture ?_)
  show wpAny _ _ (assignInOrder [] []) _ _ _
  exact wpAny_assignInOrder_none (hb.run pins s σ H D I h)
def tMatch (te : TE) (t : TM) : TS := fun D σ H => te σ H fun x H1 => t x D σ H1
theorem ps_match {cs : List MatchCase} {t : TM} (he : PE X e te) (hc : MC X cs t) : PS X (.Match e cs pos) (tMatch te t) := by
  refine ⟨fun pins s σ H D I h => ?_⟩
  refine wpAny_Match (wpAny_mono (he.run pins s σ H _ I h) (fun v s1 hv => ?_) fun _ _ q => q)
  obtain ⟨x, H1, I1, rx, q⟩ := hv
  exact hc.run true pins s1 σ H1 D x v I1 rx q
end
end Gc

namespace Gc
open PySem PyProof.Rows L2
/-! ### heaps: all that stood but at two places -/
def Keep (a d : Addr) (H H' : Hp) : Prop := ∀ b o, b ≠ a → b ≠ d → H b = some o → H' b = some o
theorem Keep.refl {a d : Addr} (H : Hp) : Keep a d H H := fun _ _ _ _ h => h
theorem Keep.trans {a d : Addr} {H H1 H2 : Hp} (x : Keep a d H H1) (y : Keep a d H1 H2) : Keep a d H H2 := fun b o h1 h2 h => y b o h1 h2 (x b o h1 h2 h)
theorem Keep.of {a d : Addr} {H H' : Hp} (e : Same H H') : Keep a d H H' := fun b o _ _ h => e b o h
theorem same_upd {H H' : Hp} {p : Addr} {o : HO} (e : Same H H') (h : H' p = none) : Same H (upd H' p o) := fun b u hb => by
  rw [upd_ne (ne_of_none (e b u hb) h)]
  exact e b u hb
theorem Keep.upd1 {a d : Addr} {H H' : Hp} {o : HO} (e : Keep a d H H') : Keep a d H (upd H' a o) := fun b u h1 h2 h => by
  rw [upd_ne h1]
  exact e b u h1 h2 h
theorem Keep.upd2 {a d : Addr} {H H' : Hp} {o : HO} (e : Keep a d H H') : Keep a d H (upd H' d o) := fun b u h1 h2 h => by
  rw [upd_ne h2]
  exact e b u h1 h2 h
theorem Keep.new {a d p : Addr} {H H' : Hp} {o : HO} (e : Keep a d H H') (h : H' p = none) : Keep a d H (upd H' p o) := fun b u h1 h2 hb => by
  rw [upd_ne (ne_of_none (e b u h1 h2 hb) h)]
  exact e b u h1 h2 hb

theorem cpow {i j : Int} (h : (decide (0 ≤ j) && (decide (j ≤ 1000000) && decide (i.natAbs < 2 ^ 64))) = true) : CPow i j := by
  rw [Bool.and_eq_true, Bool.and_eq_true] at h
  exact ⟨of_decide_eq_true h.1, of_decide_eq_true h.2.1, of_decide_eq_true h.2.2⟩
theorem pow_small {x : Int} {a k b : Nat} (h : x.natAbs < 2 ^ a) (hb : a * k < b) : (x ^ k).natAbs < 2 ^ b := by
  rw [Int.natAbs_pow]
  have h1 : x.natAbs ^ k ≤ (2 ^ a) ^ k := Nat.pow_le_pow_left (Nat.le_of_lt h) k
  rw [← Nat.pow_mul] at h1
  exact Nat.lt_of_le_of_lt h1 (Nat.pow_lt_pow_right (by decide) hb)
theorem int_at {ns : List Int} {i : Nat} {y : V} (h : (ns.map V.int)[i]? = some y) : ∃ u, y = V.int u := by
  rw [List.getElem?_map] at h
  cases e : ns[i]? with
  | none =>
    rw [e] at h
    cases h
  | some u =>
    rw [e] at h
    exact ⟨u, (Option.some.inj h).symm⟩
theorem dp_ints {K : PySem.W.Frag} {H : Hp} : ∀ ns : List Int, DpAll K H (ns.map V.int) (ns.map PyData.int)
  | [] => .nil
  | x :: r => .cons (.int x) (dp_ints r)
/-- a def that is called by its name and lets nothing out -/
structure Cal (P : Program) (w : World) (K : PySem.W.Frag) (mg : Str → Option Value) (base : Heap) (k : Nat) (x : Str) (sp : Sp) : Prop where
  ex : ∃ (f : Addr) (fd : FuncData) (ps : List Str), FnOk P w K mg base CX0 k f fd ps sp ∧
    mg x = some (.ref f) ∧ PySem.W.keepIn K (.ref f) = true ∧ Binds K fd ps []
theorem pe_cal {X : Cx} {k j : Nat} {x : Str} {sp : Sp} {p pos : Pos} {e : Expr} {es : List Expr} {t : TA}
    (c : Cal X.prog X.w X.K X.mg X.base k x sp) (hr : Room j X.A) (hk : k ≤ j) (hg : Gl X x) (ha : PA X (e :: es) t)
    (hdb : (x == ("__debug__" : Str)) = false := by decide)
    (he : starEach (e :: es) X.env = (false, eval e X.env) :: starEach es X.env := by rfl)
    (hpl : (backTo pos (starEach es X.env)).any (·.1) = false := by rfl) :
    PE X (.Call (.Name x p) (e :: es) [] pos) (tCall sp [] E0 t) := by
  obtain ⟨f, fd, ps, F, hm, kp, b⟩ := c.ex
  exact pe_call F (hr.mono hk) hg hm kp b .nil pass0 ha hdb he hpl

/-! ### data carried along -/
theorem seq_t {K : PySem.W.Frag} {H H' : Hp} {a : Addr} {xs : List V} (e : Same H H') (h : SqT K H a xs) : SqT K H' a xs := by
  rcases h with (h | ⟨o, h⟩) | h
  · exact .inl (.inl (e _ _ h))
  · exact .inl (.inr ⟨o, e _ _ h⟩)
  · exact .inr h
mutual
theorem dp_same {K : PySem.W.Frag} {H H' : Hp} (e : Same H H') : ∀ (d : PyData) (v : V), Dp K H v d → Dp K H' v d
  | .none, _, h => by cases h; exact .non
  | .bool b, _, h => by cases h; exact .bl b
  | .int i, _, h => by cases h; exact .int i
  | .str x, _, h => by cases h; exact .str x
  | .list ds, _, h => by
    cases h with
    | lst q r => exact .lst (e.seq q) (dps_same e ds _ r)
  | .tuple ds, _, h => by
    cases h with
    | tup q r => exact .tup (seq_t e q) (dps_same e ds _ r)
  | .dict _, _, h => by cases h
theorem dps_same {K : PySem.W.Frag} {H H' : Hp} (e : Same H H') : ∀ (ds : List PyData) (vs : List V), DpAll K H vs ds → DpAll K H' vs ds
  | [], _, h => by cases h; exact .nil
  | d :: ds, _, h => by
    cases h with
    | cons a b => exact .cons (dp_same e d _ a) (dps_same e ds _ b)
end
theorem dps_len {K : PySem.W.Frag} {H : Hp} : ∀ {vs : List V} {ds : List PyData}, DpAll K H vs ds → vs.length = ds.length
  | [], _, h => by cases h; rfl
  | _ :: vs, _, h => by
    cases h with
    | cons a b => rw [List.length_cons, List.length_cons, dps_len b]
theorem dps_at {K : PySem.W.Frag} {H : Hp} : ∀ {vs : List V} {ds : List PyData} {i : Nat}, DpAll K H vs ds → i < ds.length → ∃ v d, vs[i]? = some v ∧ ds[i]? = some d ∧ Dp K H v d
  | _, _, 0, h, l => by
    cases h with
    | nil => exact absurd l (by decide)
    | cons a b => exact ⟨_, _, rfl, rfl, a⟩
  | _, _, i + 1, h, l => by
    cases h with
    | nil => exact absurd l (Nat.not_lt_zero _)
    | cons a b => exact dps_at (i := i) b (Nat.lt_of_succ_lt_succ l)
theorem depth_at : ∀ {ds : List PyData} {i : Nat} {d : PyData}, ds[i]? = some d → d.depth ≤ PyData.depthAll ds
  | [], i, d, h => by simp at h
  | x :: r, 0, d, h => by
    have e : x = d := Option.some.inj h
    subst e
    simp only [PyData.depthAll]
    exact Nat.le_max_left _ _
  | x :: r, i + 1, d, h => by
    have ih := depth_at (ds := r) (i := i) (d := d) h
    simp only [PyData.depthAll]
    exact Nat.le_trans ih (Nat.le_max_right _ _)
theorem ty_l {K : PySem.W.Frag} {H : Hp} {a : Addr} {xs : List V} (h : SqL K H a xs) : TyX K H (.ref a) (.type "list") := by
  rcases h with (h | ⟨o, h⟩) | h
  · exact .base (.lst h)
  · exact .base (.frz h)
  · obtain ⟨o, its, n, e, c, _⟩ := h
    exact .kList e c
theorem ty_t {K : PySem.W.Frag} {H : Hp} {a : Addr} {xs : List V} (h : SqT K H a xs) : TyX K H (.ref a) (.type "tuple") := by
  rcases h with (h | ⟨o, h⟩) | h
  · exact .base (.tup h)
  · exact .fTuple h
  · obtain ⟨o, its, n, e, c, _⟩ := h
    exact .kTuple e c
theorem isi_q {K : PySem.W.Frag} {H : Hp} {x : V} {t n : String} {b : Bool} {Q : VK} (ty : TyX K H x (.type t)) (k : kitB t n = some b) (q : Q (.bl b) H) : rIsi K [x, .ty n] H Q :=
  ⟨x, .ty n, .type t, .type n, b, rfl, .ty n, ty, kit_ty k, q⟩
theorem log9 {x : Int} {a : Nat} (h : x.natAbs < 2 ^ a) (ha : a < 9000) : x.natAbs.log2 < 9000 :=
  Nat.lt_of_le_of_lt (Nat.le_of_lt_succ (PySem.Flt.log2_lt_of (k := a + 1) (Nat.succ_pos _) (Nat.lt_trans h (Nat.pow_lt_pow_right (by decide) (Nat.lt_succ_self a))))) ha
/-- a power of any whole number, its size told -/
def CPowW (i j : Int) : Prop := 0 ≤ j ∧ j ≤ 64 ∧ i.natAbs.log2 < 100000
theorem op_powW {X : Cx} : OpR X (binaryOp .Pow) (rI CPowW fun i j => .int (i ^ j.toNat)) := opI fun i j _ _ _ _ _ hc q => by
  refine pow_int hc.1 ?_ q
  have h1 : Builtin.Int.intBits i ≤ i.natAbs.log2 + 1 := by
    unfold Builtin.Int.intBits
    split <;> omega
  have h2 := hc.2.1
  have h3 := hc.2.2
  have h4 : (Builtin.Int.intBits i : Int) ≤ 100000 := by omega
  calc (Builtin.Int.intBits i : Int) * j ≤ 100000 * 64 := Int.mul_le_mul h4 h2 hc.1 (by decide)
    _ ≤ 2 ^ 27 := by decide
theorem cpowW {i j : Int} {a : Nat} (hj : 0 ≤ j) (hj2 : j ≤ 64) (h : i.natAbs < 2 ^ a) (ha : a < 100000) : CPowW i j :=
  ⟨hj, hj2, Nat.lt_of_le_of_lt (Nat.le_of_lt_succ (PySem.Flt.log2_lt_of (k := a + 1) (Nat.succ_pos _) (Nat.lt_trans h (Nat.pow_lt_pow_right (by decide) (Nat.lt_succ_self a))))) ha⟩
def rLenQ (K : PySem.W.Frag) : List V → Hp → VK → Prop := fun xs H Q => ∃ p ys, xs = [.ref p] ∧ (SqL K H p ys ∨ SqT K H p ys) ∧ Q (.int ys.length) H
end Gc

namespace Gc
open PySem PyProof.Rows L2
/-! ### commands as tuples -/
def encC : Cmd → List V
  | .down n => [.str "down", .int n]
  | .up n => [.str "up", .int n]
  | .right n => [.str "right", .int n]
  | .left n => [.str "left", .int n]
  | .home => [.str "home"]
  | .stop => [.str "end"]
def CmdAt (K : PySem.W.Frag) (H : Hp) (v : V) (c : Cmd) : Prop := ∃ a, v = .ref a ∧ SqT K H a (encC c)
def CmdsOf (K : PySem.W.Frag) (H : Hp) (xs : List V) (cs : List Cmd) : Prop := Paired (CmdAt K H) xs cs
theorem CmdAt.same {K : PySem.W.Frag} {H H' : Hp} {v : V} {c : Cmd} (e : Same H H') (h : CmdAt K H v c) : CmdAt K H' v c := by
  obtain ⟨a, e1, h1⟩ := h
  exact ⟨a, e1, seq_t e h1⟩
theorem CmdsOf.same {K : PySem.W.Frag} {H H' : Hp} {xs : List V} {cs : List Cmd} (e : Same H H') (h : CmdsOf K H xs cs) : CmdsOf K H' xs cs := Paired.mapP h fun _ _ q => q.same e
theorem CmdsOf.len {K : PySem.W.Frag} {H : Hp} {xs : List V} {cs : List Cmd} (h : CmdsOf K H xs cs) : xs.length = cs.length := Paired.length h
theorem paired_at {α β : Type} {F : α → β → Prop} : ∀ {xs : List α} {ys : List β} {i : Nat} {x : α}, Paired F xs ys → xs[i]? = some x → ∃ y, ys[i]? = some y ∧ F x y
  | _, _, _, _, .nil, h => by simp at h
  | _, _, 0, x, .cons f _, h => by
    obtain rfl := Option.some.inj h
    exact ⟨_, rfl, f⟩
  | _, _, i + 1, x, .cons _ t, h => paired_at (i := i) t h
/-! ### dicts of ints by ints -/
theorem valV_dkI : ∀ (b : Ps) (k : Int), valV (dkI b) (Sum.inl k : L2.Key) = (look b k).map V.int
  | [], k => rfl
  | q :: b, k => by
    show valV (((Sum.inl q.1 : L2.Key), V.int q.2) :: dkI b) (Sum.inl k : L2.Key) = _
    rw [look_cons]
    by_cases h : q.1 = k
    · rw [if_pos h, valV_pos (by show (Sum.inl q.1 : L2.Key) = Sum.inl k; rw [h])]
      rfl
    · rw [if_neg h, valV_neg (by intro z; exact h (Sum.inl.inj z))]
      exact valV_dkI b k
theorem putK_dkI (b : Ps) (k v : Int) : putK (dkI b) (Sum.inl k : L2.Key) (V.int v) = dkI (put b k v) := by
  have ea : ((dkI b).any fun kv => decide (kv.1 = (Sum.inl k : L2.Key))) = b.any fun q => decide (q.1 = k) := by
    unfold dkI
    rw [List.any_map]
    congr 1
    funext q
    show decide ((Sum.inl q.1 : L2.Key) = Sum.inl k) = decide (q.1 = k)
    exact decide_eq_decide.mpr ⟨Sum.inl.inj, fun h => by rw [h]⟩
  unfold putK put
  rw [ea]
  by_cases h : (b.any fun q => decide (q.1 = k)) = true
  · rw [if_pos h, if_pos h]
    unfold dkI
    rw [List.map_map, List.map_map]
    refine List.map_congr_left fun q _ => ?_
    show (if (Sum.inl q.1 : L2.Key) = Sum.inl k then ((Sum.inl q.1 : L2.Key), V.int v) else (Sum.inl q.1, V.int q.2)) = (Sum.inl (if q.1 = k then (q.1, v) else q).1, V.int (if q.1 = k then (q.1, v) else q).2)
    by_cases e : q.1 = k
    · rw [if_pos e, if_pos (by rw [e])]
    · rw [if_neg e, if_neg fun z => e (Sum.inl.inj z)]
  · rw [if_neg h, if_neg h]
    unfold dkI
    rw [List.map_append]
    rfl
theorem put_len (b : Ps) (k v : Int) : (put b k v).length ≤ b.length + 1 := by
  unfold put
  split
  · rw [List.length_map]
    exact Nat.le_succ _
  · rw [List.length_append]
    exact Nat.le_refl _
theorem req_len (b : Ps) (o v : Int) : (req b o v).length ≤ b.length + 1 := put_len b o _
end Gc

/-! running commands over plain texts: the goal is reached exactly if the box is fulfilled -/
namespace Gc
def seen (t : Int) : Option Int → Int
  | none => t
  | some a => min a t
/-- the goal of the cursor after one command in a row of length t -/
def aim1 (t : Int) (a : Option Int) : Cmd → Option Int
  | .down _ => a
  | .up _ => a
  | .right n => some (min (seen t a + n) t)
  | .left n => some (max 0 (seen t a - n))
  | .home => some 0
  | .stop => none
def aimF (T : Int → Int) : Int → Option Int → List Cmd → Option Int
  | _, a, [] => a
  | r, a, c :: cs => aimF T (r + c.dv) (aim1 (T r) a c) cs
theorem aimF_app (T : Int → Int) : ∀ (xs ys : List Cmd) (r : Int) (a : Option Int), aimF T r a (xs ++ ys) = aimF T (r + last xs) (aimF T r a xs) ys
  | [], ys, r, a => by
    show aimF T r a ys = aimF T (r + 0) a ys
    rw [Int.add_zero]
  | c :: xs, ys, r, a => by
    show aimF T (r + c.dv) (aim1 (T r) a c) (xs ++ ys) = aimF T (r + (c.dv + last xs)) _ ys
    rw [aimF_app T xs ys, Int.add_assoc]
    rfl
theorem aimF_snoc (T : Int → Int) (cs : List Cmd) (c : Cmd) (r : Int) (a : Option Int) : aimF T r a (cs ++ [c]) = aim1 (T (r + last cs)) (aimF T r a cs) c := aimF_app T cs [c] r a
def ge (a : Option Int) (n : Int) : Prop := ∀ x, a = some x → n ≤ x
theorem ge_none (n : Int) : ge none n := fun _ h => nomatch h
theorem ge_some {x n : Int} : ge (some x) n ↔ n ≤ x := ⟨fun h => h x rfl, fun h y e => by rw [← Option.some.inj e]; exact h⟩
theorem seen_ge {t n : Int} {a : Option Int} : n ≤ seen t a ↔ n ≤ t ∧ ge a n := by
  cases a with
  | none => exact ⟨fun h => ⟨h, ge_none n⟩, fun h => h.1⟩
  | some x =>
    rw [ge_some]
    show n ≤ min x t ↔ _
    omega
theorem aim1_nn {t : Int} {a : Option Int} {c : Cmd} (ht : 0 ≤ t) (ha : ge a 0) (ok : c.ok) : ge (aim1 t a c) 0 := by
  have hs : 0 ≤ seen t a := seen_ge.mpr ⟨ht, ha⟩
  cases c with
  | down n => exact ha
  | up n => exact ha
  | right n =>
    have o : 1 ≤ n := ok
    refine ge_some.mpr ?_
    omega
  | left n =>
    refine ge_some.mpr ?_
    omega
  | home => exact ge_some.mpr (Int.le_refl 0)
  | stop => exact ge_none 0
theorem aimF_nn {T : Int → Int} (hT : ∀ k, 0 ≤ T k) : ∀ {cs : List Cmd} {r : Int} {a : Option Int}, AllOk cs → ge a 0 → ge (aimF T r a cs) 0
  | [], _, _, _, h => h
  | c :: cs, r, a, ok, h => aimF_nn hT (cs := cs) (fun d hd => ok d (List.mem_cons_of_mem _ hd)) (aim1_nn (hT r) h (ok c List.mem_cons_self))
theorem last_snoc (cs : List Cmd) (c : Cmd) : last (cs ++ [c]) = last cs + c.dv := by
  rw [last_app]
  show _ + (c.dv + 0) = _
  omega
theorem reqF_le {f : Int → Int} {o v : Int} {T : Int → Int} {r : Int} : (∀ k, reqF f o v k ≤ T (r + k)) ↔ (∀ k, f k ≤ T (r + k)) ∧ v ≤ T (r + o) := by
  constructor
  · intro h
    refine ⟨fun k => Int.le_trans (reqF_ge f o v k) (h k), ?_⟩
    have := h o
    unfold reqF at this
    rw [if_pos rfl] at this
    omega
  · rintro ⟨h1, h2⟩ k
    unfold reqF
    have := h1 k
    split
    · rename_i e
      subst e
      omega
    · exact this
/-- the box's walk, and the run -/
theorem go_char {T : Int → Int} (hT : ∀ k, 0 ≤ T k) {r : Int} {a : Option Int} (ha : ge a 0) : ∀ (rs : List Cmd) (need : Int) (f : Int → Int), AllOk rs → 1 ≤ need →
    ((∃ st g, goF rs (last rs.reverse) need f = some (st, g) ∧ (∀ n, st = some n → ge a n) ∧ ∀ k, g k ≤ T (r + k)) ↔ (∀ k, f k ≤ T (r + k)) ∧ ge (aimF T r a rs.reverse) need)
  | [], need, f, _, _ => by
    constructor
    · rintro ⟨st, g, e, h1, h2⟩
      cases e
      exact ⟨h2, h1 need rfl⟩
    · rintro ⟨h1, h2⟩
      exact ⟨_, _, rfl, fun n e => by rw [← Option.some.inj e]; exact h2, h1⟩
  | .home :: rs, need, f, ok, hn => by
    rw [List.reverse_cons, aimF_snoc]
    constructor
    · rintro ⟨st, g, e, _⟩
      cases e
    · rintro ⟨_, h2⟩
      have : need ≤ 0 := ge_some.mp h2
      omega
  | .stop :: rs, need, f, ok, hn => by
    rw [List.reverse_cons, aimF_snoc]
    constructor
    · rintro ⟨st, g, e, _, h2⟩
      cases e
      exact ⟨h2, ge_none _⟩
    · rintro ⟨h1, _⟩
      exact ⟨_, _, rfl, (fun n e => nomatch e), h1⟩
  | .down n :: rs, need, f, ok, hn => by
    rw [List.reverse_cons, aimF_snoc, last_snoc]
    have ih := go_char hT (r := r) ha rs need f (fun d hd => ok d (List.mem_cons_of_mem _ hd)) hn
    have e : last rs.reverse + (Cmd.down n).dv - n = last rs.reverse := by
      show last rs.reverse + n - n = _
      omega
    simp only [goF]
    rw [e]
    exact ih
  | .up n :: rs, need, f, ok, hn => by
    rw [List.reverse_cons, aimF_snoc, last_snoc]
    have ih := go_char hT (r := r) ha rs need f (fun d hd => ok d (List.mem_cons_of_mem _ hd)) hn
    have e : last rs.reverse + (Cmd.up n).dv + n = last rs.reverse := by
      show last rs.reverse + -n + n = _
      omega
    simp only [goF]
    rw [e]
    exact ih
  | .left n :: rs, need, f, ok, hn => by
    have o : 1 ≤ n := ok _ List.mem_cons_self
    rw [List.reverse_cons, aimF_snoc, last_snoc]
    have ih := go_char hT (r := r) ha rs (need + n) (reqF f (last rs.reverse) (need + n)) (fun d hd => ok d (List.mem_cons_of_mem _ hd)) (by omega)
    have e : last rs.reverse + (Cmd.left n).dv = last rs.reverse := Int.add_zero _
    simp only [goF]
    rw [e, ih, reqF_le]
    have s : ge (aim1 (T (r + last rs.reverse)) (aimF T r a rs.reverse) (.left n)) need ↔ need + n ≤ T (r + last rs.reverse) ∧ ge (aimF T r a rs.reverse) (need + n) := by
      rw [← seen_ge]
      show ge (some _) need ↔ _
      rw [ge_some]
      omega
    rw [s]
    exact ⟨fun h => ⟨h.1.1, h.1.2, h.2⟩, fun h => ⟨⟨h.1, h.2.1⟩, h.2.2⟩⟩
  | .right n :: rs, need, f, ok, hn => by
    have o : 1 ≤ n := ok _ List.mem_cons_self
    have okr : AllOk rs := fun d hd => ok d (List.mem_cons_of_mem _ hd)
    rw [List.reverse_cons, aimF_snoc, last_snoc]
    have e : last rs.reverse + (Cmd.right n).dv = last rs.reverse := Int.add_zero _
    have nn : 0 ≤ seen (T (r + last rs.reverse)) (aimF T r a rs.reverse) := seen_ge.mpr ⟨hT _, aimF_nn hT (fun d hd => okr d (List.mem_reverse.mp hd)) ha⟩
    simp only [goF]
    rw [e]
    have s : ge (aim1 (T (r + last rs.reverse)) (aimF T r a rs.reverse) (.right n)) need ↔ need ≤ T (r + last rs.reverse) ∧ need - n ≤ seen (T (r + last rs.reverse)) (aimF T r a rs.reverse) := by
      show ge (some _) need ↔ _
      rw [ge_some]
      omega
    rw [s]
    by_cases c : need > n
    · rw [if_pos c]
      have ih := go_char hT (r := r) ha rs (need - n) (reqF f (last rs.reverse) need) okr (by omega)
      rw [ih, reqF_le, seen_ge]
      exact ⟨fun h => ⟨h.1.1, h.1.2, by omega, h.2⟩, fun h => ⟨⟨h.1, h.2.1⟩, h.2.2.2⟩⟩
    · rw [if_neg c]
      constructor
      · rintro ⟨st, g, e, _, h2⟩
        cases e
        have h3 := reqF_le.mp h2
        exact ⟨h3.1, h3.2, by omega⟩
      · rintro ⟨h1, h2, _⟩
        exact ⟨_, _, rfl, (fun n e => nomatch e), reqF_le.mpr ⟨h1, h2⟩⟩
/-- the goal is reached exactly if the start fulfils the box -/
theorem box_char {T : Int → Int} (hT : ∀ k, 0 ≤ T k) {r : Int} {a : Option Int} (ha : ge a 0) {cs : List Cmd} {goal : Int} (ok : AllOk cs) (hg : 1 ≤ goal) :
    ge (aimF T r a cs) goal ↔ ∃ st L, boxM cs goal = some (st, L) ∧ (∀ n, st = some n → ge a n) ∧ ∀ k, val L k ≤ T (r + k) := by
  have h := go_char hT (r := r) ha cs.reverse goal (fun _ => 0) (allOk_rev ok) hg
  rw [List.reverse_reverse] at h
  have h0 : (∀ k : Int, (fun _ : Int => (0 : Int)) k ≤ T (r + k)) := fun k => hT _
  have h' : (∃ st g, boxF cs goal = some (st, g) ∧ (∀ n, st = some n → ge a n) ∧ ∀ k, g k ≤ T (r + k)) ↔ ge (aimF T r a cs) goal := h.trans ⟨fun x => x.2, fun x => ⟨h0, x⟩⟩
  rw [← h']
  rcases box_spec ok hg with ⟨e1, e2⟩ | ⟨st, b, e1, gb, e2, _⟩
  · rw [e1, e2]
    constructor
    · rintro ⟨_, _, z, _⟩
      cases z
    · rintro ⟨_, _, z, _⟩
      cases z
  · rw [e1, e2]
    have vp := val_perm gb (List.mergeSort_perm b leK)
    constructor
    · rintro ⟨st', g, z, h1, h2⟩
      cases z
      exact ⟨_, _, rfl, h1, fun k => by rw [vp]; exact h2 k⟩
    · rintro ⟨st', L, z, h1, h2⟩
      cases z
      exact ⟨_, _, rfl, h1, fun k => by rw [← vp]; exact h2 k⟩
end Gc

/-! rows that are visited; the least text -/
namespace Gc
def Within (cs : List Cmd) (lo hi : Int) : Prop := ∀ i, lo ≤ last (cs.take i) ∧ last (cs.take i) ≤ hi
theorem Within.tail {c : Cmd} {cs : List Cmd} {lo hi : Int} (h : Within (c :: cs) lo hi) : Within cs (lo - c.dv) (hi - c.dv) := fun i => by
  have q := h (i + 1)
  have e : last ((c :: cs).take (i + 1)) = c.dv + last (cs.take i) := rfl
  rw [e] at q
  omega
theorem Within.init {cs : List Cmd} {c : Cmd} {lo hi : Int} (h : Within (cs ++ [c]) lo hi) : Within cs lo hi := fun i => by
  by_cases l : i ≤ cs.length
  · have q := h i
    rw [List.take_append_of_le_length l] at q
    exact q
  · have q := h cs.length
    rw [List.take_append_of_le_length (Nat.le_refl _)] at q
    rw [List.take_of_length_le (by omega)]
    rw [List.take_length] at q
    exact q
theorem Within.whole {cs : List Cmd} {lo hi : Int} (h : Within cs lo hi) : lo ≤ last cs ∧ last cs ≤ hi := by
  have q := h cs.length
  rw [List.take_length] at q
  exact q
theorem Within.zero {cs : List Cmd} {lo hi : Int} (h : Within cs lo hi) : lo ≤ 0 ∧ 0 ≤ hi := h 0
theorem keys_req' {b : Ps} {o v k : Int} (h : k ∈ keys (req b o v)) : k = o ∨ k ∈ keys b := by
  unfold req at h
  rw [keys_put] at h
  split at h
  · exact .inr h
  · rcases List.mem_append.mp h with q | q
    · exact .inr q
    · exact .inl (List.mem_singleton.mp q)
/-- the offsets of a box are rows that are visited -/
theorem go_within {lo hi : Int} : ∀ {rs : List Cmd} {need : Int} {b : Ps} {st : Option Int} {b' : Ps}, go rs (last rs.reverse) need b = some (st, b') → Within rs.reverse lo hi → (∀ k ∈ keys b, lo ≤ k ∧ k ≤ hi) → ∀ k ∈ keys b', lo ≤ k ∧ k ≤ hi
  | [], need, b, st, b', h, _, hb => by cases h; exact hb
  | .home :: rs, need, b, st, b', h, _, _ => by cases h
  | .stop :: rs, need, b, st, b', h, _, hb => by cases h; exact hb
  | .down n :: rs, need, b, st, b', h, w, hb => by
    rw [List.reverse_cons] at h w
    rw [last_snoc] at h
    have e : last rs.reverse + (Cmd.down n).dv - n = last rs.reverse := by
      show last rs.reverse + n - n = _
      omega
    simp only [go] at h
    rw [e] at h
    exact go_within h w.init hb
  | .up n :: rs, need, b, st, b', h, w, hb => by
    rw [List.reverse_cons] at h w
    rw [last_snoc] at h
    have e : last rs.reverse + (Cmd.up n).dv + n = last rs.reverse := by
      show last rs.reverse + -n + n = _
      omega
    simp only [go] at h
    rw [e] at h
    exact go_within h w.init hb
  | .left n :: rs, need, b, st, b', h, w, hb => by
    rw [List.reverse_cons] at h w
    rw [last_snoc, show last rs.reverse + (Cmd.left n).dv = last rs.reverse from Int.add_zero _] at h
    simp only [go] at h
    refine go_within h w.init fun k hk => ?_
    rcases keys_req' hk with q | q
    · rw [q]
      exact w.init.whole
    · exact hb k q
  | .right n :: rs, need, b, st, b', h, w, hb => by
    rw [List.reverse_cons] at h w
    rw [last_snoc, show last rs.reverse + (Cmd.right n).dv = last rs.reverse from Int.add_zero _] at h
    have hr : ∀ k ∈ keys (req b (last rs.reverse) need), lo ≤ k ∧ k ≤ hi := fun k hk => by
      rcases keys_req' hk with q | q
      · rw [q]
        exact w.init.whole
      · exact hb k q
    simp only [go] at h
    split at h
    · exact go_within h w.init hr
    · cases h
      exact hr
theorem box_within {lo hi : Int} {cs : List Cmd} {goal : Int} {st : Option Int} {L : Ps} (h : boxM cs goal = some (st, L)) (w : Within cs lo hi) : ∀ q ∈ L, lo ≤ q.1 ∧ q.1 ≤ hi := by
  unfold boxM at h
  cases e : go cs.reverse (last cs) goal [] with
  | none =>
    rw [e] at h
    cases h
  | some x =>
    rw [e] at h
    obtain ⟨st', b'⟩ := x
    have h' : (st', b'.mergeSort leK) = (st, L) := Option.some.inj h
    cases h'
    have k := go_within (rs := cs.reverse) (lo := lo) (hi := hi) (by rw [List.reverse_reverse]; exact e) (by rw [List.reverse_reverse]; exact w) (fun k hk => by cases hk)
    intro q hq
    exact k q.1 (List.mem_map.mpr ⟨q, (List.mergeSort_perm b' leK).mem_iff.mp hq, rfl⟩)
/-! ### a text from a box -/
def setAll (lo : Int) (T : List Int) (L : Ps) : List Int := L.foldl (fun T q => T.set (q.1 - lo).toNat q.2) T
theorem setAll_len (lo : Int) : ∀ (L : Ps) (T : List Int), (setAll lo T L).length = T.length
  | [], _ => rfl
  | q :: L, T => by
    show (setAll lo (T.set (q.1 - lo).toNat q.2) L).length = _
    rw [setAll_len lo L, List.length_set]
theorem setAll_get {lo : Int} : ∀ {L : Ps} {T : List Int} {k : Int}, (keys L).Nodup → (∀ q ∈ L, lo ≤ q.1 ∧ q.1 - lo < T.length) → lo ≤ k → k - lo < T.length →
    (setAll lo T L).getD (k - lo).toNat 0 = match look L k with | some v => v | none => T.getD (k - lo).toNat 0
  | [], T, k, _, _, _, _ => rfl
  | q :: L, T, k, nd, hq, h0, h1 => by
    have nd' : q.1 ∉ keys L ∧ (keys L).Nodup := List.nodup_cons.mp nd
    have q0 := hq q List.mem_cons_self
    show (setAll lo (T.set (q.1 - lo).toNat q.2) L).getD (k - lo).toNat 0 = _
    rw [setAll_get (L := L) nd'.2 (fun p hp => by rw [List.length_set]; exact hq p (List.mem_cons_of_mem _ hp)) h0 (by rw [List.length_set]; exact h1), look_cons]
    by_cases e : q.1 = k
    · subst e
      rw [if_pos rfl, look_none.mpr nd'.1]
      show (T.set (q.1 - lo).toNat q.2).getD (q.1 - lo).toNat 0 = q.2
      rw [List.getD_eq_getElem?_getD, List.getElem?_set_self (by omega)]
      rfl
    · rw [if_neg e]
      cases look L k with
      | some v => rfl
      | none =>
        show (T.set (q.1 - lo).toNat q.2).getD (k - lo).toNat 0 = T.getD (k - lo).toNat 0
        rw [List.getD_eq_getElem?_getD, List.getD_eq_getElem?_getD, List.getElem?_set_ne (by omega)]
/-! ### the run over a list of lengths -/
def lenAt (T : List Int) (r : Int) : Int := T.getD r.toNat 0
/-- the run over a text: the row must stand -/
def afterL (T : List Int) : Int → Option Int → List Cmd → Option (Int × Option Int)
  | r, a, [] => some (r, a)
  | r, a, c :: cs => if c.vert = true then (if 0 ≤ r + c.dv ∧ r + c.dv < T.length then afterL T (r + c.dv) a cs else none) else afterL T r (aim1 (lenAt T r) a c) cs
theorem Within.le {cs : List Cmd} {lo hi lo' hi' : Int} (h : Within cs lo hi) (h1 : lo' ≤ lo) (h2 : hi ≤ hi') : Within cs lo' hi' := fun i => by
  have := h i
  omega
theorem afterL_in {T : List Int} : ∀ {cs : List Cmd} {r : Int} {a : Option Int}, Within cs (-r) (T.length - 1 - r) → afterL T r a cs = some (r + last cs, aimF (lenAt T) r a cs)
  | [], r, a, _ => by
    show some (r, a) = some (r + 0, a)
    rw [Int.add_zero]
  | c :: cs, r, a, w => by
    have w1 := w 1
    have e1 : last ((c :: cs).take 1) = c.dv + 0 := rfl
    rw [e1] at w1
    have wt : Within cs (-(r + c.dv)) (T.length - 1 - (r + c.dv)) := w.tail.le (by omega) (by omega)
    have ih := afterL_in (a := aim1 (lenAt T r) a c) wt
    have el : last (c :: cs) = c.dv + last cs := rfl
    have ea : aimF (lenAt T) r a (c :: cs) = aimF (lenAt T) (r + c.dv) (aim1 (lenAt T r) a c) cs := rfl
    rw [ea, el, ← Int.add_assoc]
    by_cases v : c.vert = true
    · have ia : aim1 (lenAt T r) a c = a := by
        cases c with
        | down n => rfl
        | up n => rfl
        | right n => cases v
        | left n => cases v
        | home => cases v
        | stop => cases v
      rw [ia] at ih ⊢
      simp only [afterL]
      rw [if_pos v, if_pos ⟨by omega, by omega⟩, ih]
    · have d0 : c.dv = 0 := by
        cases c with
        | down n => exact absurd rfl v
        | up n => exact absurd rfl v
        | right n => rfl
        | left n => rfl
        | home => rfl
        | stop => rfl
      simp only [afterL]
      rw [if_neg v]
      rw [d0, Int.add_zero] at ih ⊢
      exact ih
theorem lenAt_nn {T : List Int} (h : ∀ x ∈ T, 0 ≤ x) (r : Int) : 0 ≤ lenAt T r := by
  unfold lenAt
  rw [List.getD_eq_getElem?_getD]
  cases e : T[r.toNat]? with
  | none => exact Int.le_refl 0
  | some x => exact h x (List.mem_of_getElem? e)
/-- over a text whose rows are all there: the goal is reached exactly if the box is fulfilled -/
theorem after_char {T : List Int} (hT : ∀ x ∈ T, 0 ≤ x) {r : Int} {a : Option Int} (ha : ge a 0) {cs : List Cmd} {goal : Int} (ok : AllOk cs) (hg : 1 ≤ goal) (w : Within cs (-r) (T.length - 1 - r)) :
    ∃ a', afterL T r a cs = some (r + last cs, a') ∧ ge a' 0 ∧ (ge a' goal ↔ ∃ st L, boxM cs goal = some (st, L) ∧ (∀ n, st = some n → ge a n) ∧ ∀ k, val L k ≤ lenAt T (r + k)) :=
  ⟨_, afterL_in w, aimF_nn (lenAt_nn hT) ok ha, box_char (lenAt_nn hT) ha ok hg⟩
/-! ### the least text -/
def textM (lo hi : Int) (L : Ps) : List Int := setAll lo (List.replicate (hi - lo + 1).toNat 0) L
theorem textM_len {lo hi : Int} (h : lo ≤ hi) (L : Ps) : ((textM lo hi L).length : Int) = hi - lo + 1 := by
  unfold textM
  rw [setAll_len, List.length_replicate]
  omega
theorem textM_at {lo hi : Int} {L : Ps} (g : Good L) (hL : ∀ q ∈ L, lo ≤ q.1 ∧ q.1 ≤ hi) {k : Int} (h0 : lo ≤ k) (h1 : k ≤ hi) : lenAt (textM lo hi L) (k - lo) = val L k := by
  unfold lenAt textM
  have hr : ((List.replicate (hi - lo + 1).toNat (0 : Int)).length : Int) = hi - lo + 1 := by
    rw [List.length_replicate]
    omega
  rw [setAll_get g.nd (fun q hq => by have := hL q hq; omega) h0 (by omega)]
  unfold val
  cases look L k with
  | some v => rfl
  | none =>
    show (List.replicate _ (0 : Int)).getD _ 0 = 0
    rw [List.getD_eq_getElem?_getD, List.getElem?_replicate]
    split <;> rfl
theorem val_off {lo hi : Int} {L : Ps} (hL : ∀ q ∈ L, lo ≤ q.1 ∧ q.1 ≤ hi) {k : Int} (h : ¬ (lo ≤ k ∧ k ≤ hi)) : val L k = 0 := by
  refine val_out fun z => ?_
  obtain ⟨q, hq, e⟩ := List.mem_map.mp z
  rw [← e] at h
  exact h (hL q hq)
theorem textM_nn {lo hi : Int} {L : Ps} (g : Good L) (hL : ∀ q ∈ L, lo ≤ q.1 ∧ q.1 ≤ hi) : ∀ x ∈ textM lo hi L, 0 ≤ x := by
  intro x hx
  obtain ⟨i, hi'⟩ := List.mem_iff_getElem?.mp hx
  have l := (List.getElem?_eq_some_iff.mp hi').1
  have l2 : (textM lo hi L).length = (hi - lo + 1).toNat := by
    unfold textM
    rw [setAll_len, List.length_replicate]
  have e := textM_at g hL (k := i + lo) (by omega) (by omega)
  unfold lenAt at e
  rw [show ((i : Int) + lo - lo).toNat = i by omega, List.getD_eq_getElem?_getD, hi'] at e
  have e' : x = val L (i + lo) := e
  rw [e']
  exact val_nonneg g _
section
variable {cs : List Cmd} {goal lo hi : Int} {st : Option Int} {L : Ps}
/-- from it, and just its goal, the goal is reached -/
theorem least_gets (g : Good L) (w : Within cs lo hi) (ok : AllOk cs) (hg : 1 ≤ goal) (e : boxM cs goal = some (st, L)) (pos : ∀ n, st = some n → 1 ≤ n) :
    ∃ a', afterL (textM lo hi L) (-lo) (some (st.getD 0)) cs = some (-lo + last cs, a') ∧ ge a' goal := by
  have hL := box_within e w
  have z := w.zero
  have tl := textM_len (lo := lo) (hi := hi) (by omega) L
  have a0 : ge (some (st.getD 0)) 0 := ge_some.mpr (by
    cases st with
    | none => exact Int.le_refl 0
    | some n =>
      have := pos n rfl
      show 0 ≤ n
      omega)
  obtain ⟨a', h1, _, h2⟩ := after_char (textM_nn g hL) a0 ok hg (w.le (show -(-lo) ≤ lo by omega) (show hi ≤ (textM lo hi L).length - 1 - (-lo) by omega))
  refine ⟨a', h1, h2.mpr ⟨st, L, e, fun n en => ge_some.mpr (by rw [en]; exact Int.le_refl n), fun k => ?_⟩⟩
  by_cases h : lo ≤ k ∧ k ≤ hi
  · rw [show -lo + k = k - lo by omega, textM_at g hL h.1 h.2]
    exact Int.le_refl _
  · rw [val_off hL h]
    exact lenAt_nn (textM_nn g hL) _
/-- with a goal less by one it is not -/
theorem least_goal (g : Good L) (w : Within cs lo hi) (ok : AllOk cs) (hg : 1 ≤ goal) (e : boxM cs goal = some (st, L)) {n : Int} (es : st = some n) (hn : 1 ≤ n) :
    ∃ a', afterL (textM lo hi L) (-lo) (some (n - 1)) cs = some (-lo + last cs, a') ∧ ¬ ge a' goal := by
  have hL := box_within e w
  have z := w.zero
  have tl := textM_len (lo := lo) (hi := hi) (by omega) L
  obtain ⟨a', h1, _, h2⟩ := after_char (textM_nn g hL) (ge_some.mpr (show 0 ≤ n - 1 by omega)) ok hg (w.le (show -(-lo) ≤ lo by omega) (show hi ≤ (textM lo hi L).length - 1 - (-lo) by omega))
  refine ⟨a', h1, fun x => ?_⟩
  obtain ⟨st', L', e', h3, _⟩ := h2.mp x
  rw [e] at e'
  cases e'
  have := ge_some.mp (h3 n es)
  omega
/-- with a length less by one it is not -/
theorem least_row (g : Good L) (w : Within cs lo hi) (ok : AllOk cs) (hg : 1 ≤ goal) (e : boxM cs goal = some (st, L)) (pos : ∀ n, st = some n → 1 ≤ n) {i : Nat} (li : i < (textM lo hi L).length) (h : 0 < lenAt (textM lo hi L) i) :
    ∃ a', afterL ((textM lo hi L).set i (lenAt (textM lo hi L) i - 1)) (-lo) (some (st.getD 0)) cs = some (-lo + last cs, a') ∧ ¬ ge a' goal := by
  have hL := box_within e w
  have z := w.zero
  have tl := textM_len (lo := lo) (hi := hi) (by omega) L
  have a0 : ge (some (st.getD 0)) 0 := ge_some.mpr (by
    cases st with
    | none => exact Int.le_refl 0
    | some n =>
      have := pos n rfl
      show 0 ≤ n
      omega)
  have nn : ∀ x ∈ (textM lo hi L).set i (lenAt (textM lo hi L) i - 1), 0 ≤ x := fun x hx => by
    rcases List.mem_or_eq_of_mem_set hx with q | q
    · exact textM_nn g hL x q
    · omega
  obtain ⟨a', h1, _, h2⟩ := after_char (r := -lo) nn a0 ok hg (w.le (show -(-lo) ≤ lo by omega) (by rw [List.length_set]; omega))
  refine ⟨a', h1, fun x => ?_⟩
  obtain ⟨st', L', e', _, h4⟩ := h2.mp x
  rw [e] at e'
  cases e'
  have q := h4 (i + lo)
  rw [show -lo + (i + lo) = (i : Int) by omega] at q
  have ev := textM_at g hL (k := i + lo) (by omega) (by omega)
  rw [show (i : Int) + lo - lo = i by omega] at ev
  rw [← ev] at q
  have es : lenAt ((textM lo hi L).set i (lenAt (textM lo hi L) i - 1)) i = lenAt (textM lo hi L) i - 1 := by
    conv => lhs; unfold lenAt
    rw [Int.toNat_natCast, List.getD_eq_getElem?_getD, List.getElem?_set_self li]
    rfl
  rw [es] at q
  omega
end
end Gc

/-! heaps, lengths of boxes, dicts out of pairs -/
namespace Gc
open PySem L2
theorem same_freeU {H H' : Hp} {d : Addr} {o : HO} (e : Same H H') (h : H d = none) : Same H (upd H' d o) := fun b u hb => by
  rw [upd_ne (ne_of_none hb h)]
  exact e b u hb
theorem go_len : ∀ {r : List Cmd} {off need : Int} {b : Ps} {st : Option Int} {b' : Ps}, go r off need b = some (st, b') → b'.length ≤ b.length + r.length
  | [], _, _, b, _, _, h => by cases h; exact Nat.le_refl _
  | .home :: r, _, _, b, _, _, h => by cases h
  | .stop :: r, _, _, b, _, _, h => by cases h; exact Nat.le_add_right _ _
  | .right n :: r, off, need, b, st, b', h => by
    have q := req_len b off need
    rw [List.length_cons]
    simp only [go] at h
    split at h
    · have := go_len h
      omega
    · cases h
      omega
  | .left n :: r, off, need, b, st, b', h => by
    have q := req_len b off (need + n)
    rw [List.length_cons]
    simp only [go] at h
    have := go_len h
    omega
  | .down n :: r, off, need, b, st, b', h => by
    rw [List.length_cons]
    simp only [go] at h
    have := go_len h
    omega
  | .up n :: r, off, need, b, st, b', h => by
    rw [List.length_cons]
    simp only [go] at h
    have := go_len h
    omega
theorem box_len {cs : List Cmd} {goal : Int} {st : Option Int} {L : Ps} (h : boxM cs goal = some (st, L)) : L.length ≤ cs.length := by
  unfold boxM at h
  cases e : go cs.reverse (last cs) goal [] with
  | none =>
    rw [e] at h
    cases h
  | some x =>
    rw [e] at h
    obtain ⟨st', b'⟩ := x
    have q := go_len e
    have h' : (st', b'.mergeSort leK) = (st, L) := Option.some.inj h
    cases h'
    rw [List.length_mergeSort]
    rw [List.length_reverse, List.length_nil] at q
    omega
theorem merge_dkI : ∀ (b acc : Ps), (keys acc ++ keys b).Nodup → mergeK (dkI acc) (dkI b) = dkI (acc ++ b)
  | [], acc, _ => by rw [List.append_nil]; rfl
  | q :: b, acc, h => by
    have nq : q.1 ∉ keys acc := fun z => by
      have := (List.nodup_append.mp h).2.2 q.1 z q.1 List.mem_cons_self
      exact this rfl
    show mergeK (putK (dkI acc) (Sum.inl q.1 : L2.Key) (.int q.2)) (dkI b) = _
    rw [putK_dkI]
    have e : put acc q.1 q.2 = acc ++ [q] := by
      unfold put
      rw [if_neg fun z => nq ((any_key acc q.1).mp z)]
    rw [e, merge_dkI b (acc ++ [q]) (by
      have e2 : keys (acc ++ [q]) ++ keys b = keys acc ++ keys (q :: b) := by
        unfold keys
        simp
      rw [e2]
      exact h), List.append_assoc]
    rfl
theorem paired_dkI {K : PySem.W.Frag} {H : Hp} : ∀ {ps : List Addr} {qs : Ps}, Paired (fun (p : Addr) (q : Int × Int) => H p = some (.tup [.int q.1, .int q.2])) ps qs → Paired (fun (p : Addr) (kv : L2.Key × V) => SqT K H p [kV kv.1, kv.2]) ps (dkI qs)
  | _, _, .nil => .nil
  | _, _, .cons h t => .cons (SqT.of h) (paired_dkI t)
theorem ref_at {ts : List Addr} {i : Nat} {x : V} (h : (ts.map V.ref)[i]? = some x) : ∃ t, ts[i]? = some t ∧ x = .ref t := by
  rw [List.getElem?_map] at h
  cases e : ts[i]? with
  | none =>
    rw [e] at h
    cases h
  | some t =>
    rw [e] at h
    exact ⟨t, rfl, (Option.some.inj h).symm⟩
theorem dki_len (b : Ps) : (dkI b).length = b.length := List.length_map ..
end Gc

/-! calls by names alone, the names in the other order: f(b=.., a=..) of def f(a, b) -/
namespace Gc
open PySem PySem.Spec PyProof.Rows L2
def gRev {α : Type} (us ws : List α) : List α := us ++ ws.reverse
theorem vals_rev : ∀ {vs : List V} {us : List Value}, Vals vs us → Vals vs.reverse us.reverse
  | _, _, .nil => .nil
  | v :: vs, u :: us, .cons h t => by
    rw [List.reverse_cons, List.reverse_cons]
    exact (vals_rev t).append (.cons h .nil)
structure CalK (P : Program) (w : World) (K : PySem.W.Frag) (mg : Str → Option Value) (base : Heap) (k : Nat) (x : Str) (ks : List Str) (sp : Sp) : Prop where
  ex : ∃ (f : Addr) (fd : FuncData) (ps : List Str), FnOk P w K mg base CX0 k f fd ps sp ∧ mg x = some (.ref f) ∧ PySem.W.keepIn K (.ref f) = true ∧ KBinds K fd ps ks gRev gRev
/-- how it binds: h is «fun _ _ _ _ _ _ us ws hl => match us, ws, hl with | [], [_, _], _ => rfl | [_], [_], _ => rfl | [_, _], [], _ => rfl» -/
theorem bindsK {K : PySem.W.Frag} {x qual : Str} {st : Stmt} {f : Addr} {fd : FuncData} {ps ks : List Str} (F : Fun K x qual st f fd)
    (h : ∀ (kV doc pm : Value) (an : Option Addr) (cdv ct : Value) (us ws : List Value), (gRev us ws).length = ps.length → bindArgs (PySem.W.fnOf x qual (defArgs st) (defBody st) (defScope st) .none kV doc pm an cdv ct) ⟨us, ks.zip ws⟩ = pure (ps.zip (gRev us ws))) : KBinds K fd ps ks gRev gRev := by
  obtain ⟨oc, od, kV, doc, pm, an, cdv, ct, osl, rfl, lk, hcd⟩ := F.ex
  exact ⟨fun s us ws _ hl => .of_eq (h kV doc pm an cdv ct us ws hl), fun a b => a.append (vals_rev b)⟩
theorem pe_calK {X : Cx} {k j : Nat} {x : Str} {ks : List Str} {sp : Sp} {p pos : Pos} {kws : List Keyword} {tk : TA} (c : CalK X.prog X.w X.K X.mg X.base k x ks sp) (hr : Room j X.A) (hk : k ≤ j) (hg : Gl X x) (hkw : PK X kws tk)
    (hdb : (x == ("__debug__" : Str)) = false := by decide) (hall : (backToKw pos (keywordEach kws X.env)).all (·.1.isSome) = true := by rfl) (hks : (backToKw pos (keywordEach kws X.env)).filterMap (·.1) = ks := by rfl)
    (hpn : ((backTo pos (starEach [] X.env)).any (·.1) || (backToKw pos (keywordEach kws X.env)).any (·.1.isNone)) = false := by rfl) :
    PE X (.Call (.Name x p) [] kws pos) (tCallK sp gRev E0 tNil tk) := by
  obtain ⟨f, fd, ps, F, hm, kp, b⟩ := c.ex
  refine ⟨fun pins s σ H Q I h => ?_⟩
  refine wpAny_Call_Name_kw (ld_glob I hg hm ?_ hdb)
  refine PySem.W.callWith_KW0 (h₀ := X.base) I.ok.mod.kin kp hall ?_ hpn
  refine thn (hkw.run pos pins s σ H _ I h) fun ws s1 ⟨zs, H1, I1, rz, q⟩ => ⟨I1.kIn, ?_⟩
  rw [hks]
  exact run_fnk (us := []) (vs := []) F (hr.mono hk) b pass0 I1 .nil rz q
end Gc

/-! what repr wants of the data that the laws show -/
namespace Gc
open PySem PySem.Spec PyProof.Rows L2
def Sml (x : Int) : Prop := x.natAbs < 2 ^ 120
theorem sml_log {x : Int} (h : Sml x) : x.natAbs.log2 < 121 := Nat.lt_of_lt_of_le (PySem.Flt.log2_lt_of (k := 121) (by decide) (Nat.lt_trans h (by decide))) (Nat.le_refl _)
theorem sml_show {x : Int} (h : Sml x) : (PyData.int x).showable = true := by
  have := sml_log h
  simp only [PyData.showable, decide_eq_true_eq]
  omega
theorem sml_short {x : Int} (h : Sml x) : (PyData.int x).leavesShort 130 = true := by
  have e := int_text_length_le (k := 121) (by decide) (sml_log h)
  have e' : (PyData.shown (.int x)).length ≤ 130 := by
    have e2 : (PyData.shown (.int x)).length = (toString x).length := by
      show (Str.ofString (toString x)).length = _
      rw [PySem.ofString_length]
    omega
  simpa only [PyData.leavesShort, decide_eq_true_eq] using e'
theorem sml_weight {x : Int} (h : Sml x) : (PyData.int x).weight ≤ 122 := by
  have := sml_log h
  simp only [PyData.weight]
  split <;> omega
def Ok0 (d : PyData) : Prop := d.showable = true ∧ d.hasDict = false ∧ d.leavesShort 130 = true
def Ok0s (ds : List PyData) : Prop := PyData.showableAll ds = true ∧ PyData.hasDictAll ds = false ∧ PyData.leavesShortAll 130 ds = true
theorem ok0_int {x : Int} (h : Sml x) : Ok0 (.int x) := ⟨sml_show h, by simp only [PyData.hasDict], sml_short h⟩
theorem ok0_nil : Ok0s [] := ⟨by simp only [PyData.showableAll], by simp only [PyData.hasDictAll], by simp only [PyData.leavesShortAll]⟩
theorem ok0_cons {d : PyData} {ds : List PyData} (h : Ok0 d) (t : Ok0s ds) : Ok0s (d :: ds) := by
  obtain ⟨a1, a2, a3⟩ := h
  obtain ⟨b1, b2, b3⟩ := t
  refine ⟨?_, ?_, ?_⟩
  · simp only [PyData.showableAll, a1, b1, Bool.and_self]
  · simp only [PyData.hasDictAll, a2, b2, Bool.or_self]
  · simp only [PyData.leavesShortAll, a3, b3, Bool.and_self]
theorem ok0_list {ds : List PyData} (h : Ok0s ds) : Ok0 (.list ds) := by
  obtain ⟨b1, b2, b3⟩ := h
  refine ⟨?_, ?_, ?_⟩
  · simpa only [PyData.showable] using b1
  · simpa only [PyData.hasDict] using b2
  · simpa only [PyData.leavesShort] using b3
theorem ok0_tup {ds : List PyData} (h : Ok0s ds) : Ok0 (.tuple ds) := by
  obtain ⟨b1, b2, b3⟩ := h
  refine ⟨?_, ?_, ?_⟩
  · simpa only [PyData.showable] using b1
  · simpa only [PyData.hasDict] using b2
  · simpa only [PyData.leavesShort] using b3
theorem ok0_len {d : PyData} (h : Ok0 d) (w : d.weight ≤ 100000) : d.shown.length ≤ sizeLine := by
  have e := PyData.shown_le 130 (by decide) d h.2.2
  rw [sizeLine_eq]
  have : (130 + 2) * d.weight ≤ (130 + 2) * 100000 := Nat.mul_le_mul_left _ w
  omega
theorem ok0_ints : ∀ {T : List Int}, (∀ x ∈ T, Sml x) → Ok0s (T.map PyData.int)
  | [], _ => ok0_nil
  | x :: T, h => ok0_cons (ok0_int (h x List.mem_cons_self)) (ok0_ints fun y hy => h y (List.mem_cons_of_mem _ hy))
theorem weight_ints : ∀ {T : List Int}, (∀ x ∈ T, Sml x) → PyData.weightAll (T.map PyData.int) ≤ 123 * T.length
  | [], _ => by simp [PyData.weightAll]
  | x :: T, h => by
    have a := sml_weight (h x List.mem_cons_self)
    have b := weight_ints (T := T) fun y hy => h y (List.mem_cons_of_mem _ hy)
    simp only [List.map_cons, PyData.weightAll, List.length_cons]
    omega
theorem deep_ints : ∀ T : List Int, PyData.depthAll (T.map PyData.int) = 0
  | [] => by simp [PyData.depthAll]
  | x :: T => by simp [PyData.depthAll, PyData.depth, deep_ints T]
/-- a text and a cursor -/
def textD (T : List Int) (r a : Int) : PyData := .tuple [.list (T.map PyData.int), .tuple [.int r, .int a]]
theorem textD_ok {T : List Int} {r a : Int} (hT : ∀ x ∈ T, Sml x) (hr : Sml r) (ha : Sml a) (l : T.length ≤ 500) : (textD T r a).showable = true ∧ (textD T r a).hasDict = false ∧ (textD T r a).depth ≤ 60 ∧ (textD T r a).shown.length ≤ sizeLine := by
  have o : Ok0 (textD T r a) := ok0_tup (ok0_cons (ok0_list (ok0_ints hT)) (ok0_cons (ok0_tup (ok0_cons (ok0_int hr) (ok0_cons (ok0_int ha) ok0_nil))) ok0_nil))
  refine ⟨o.1, o.2.1, ?_, ok0_len o ?_⟩
  · simp only [textD, PyData.depth, PyData.depthAll, deep_ints]
    omega
  · have a1 := weight_ints hT
    have a2 := sml_weight hr
    have a3 := sml_weight ha
    simp only [PyData.weight] at a2 a3
    simp only [textD, PyData.weight, PyData.weightAll]
    omega
/-! ### commands as data -/
def cmdD : Cmd → PyData
  | .down n => .tuple [.str "down", .int n]
  | .up n => .tuple [.str "up", .int n]
  | .right n => .tuple [.str "right", .int n]
  | .left n => .tuple [.str "left", .int n]
  | .home => .tuple [.str "home"]
  | .stop => .tuple [.str "end"]
theorem CmdAt.dp {K : PySem.W.Frag} {H : Hp} {v : V} {c : Cmd} (h : CmdAt K H v c) : Dp K H v (cmdD c) := by
  obtain ⟨a, rfl, h⟩ := h
  cases c with
  | down n => exact .tup h (.cons (.str _) (.cons (.int n) .nil))
  | up n => exact .tup h (.cons (.str _) (.cons (.int n) .nil))
  | right n => exact .tup h (.cons (.str _) (.cons (.int n) .nil))
  | left n => exact .tup h (.cons (.str _) (.cons (.int n) .nil))
  | home => exact .tup h (.cons (.str _) .nil)
  | stop => exact .tup h (.cons (.str _) .nil)
theorem CmdsOf.dp {K : PySem.W.Frag} {H : Hp} : ∀ {xs : List V} {cs : List Cmd}, CmdsOf K H xs cs → DpAll K H xs (cs.map cmdD)
  | _, _, .nil => .nil
  | _, _, .cons h t => .cons h.dp (CmdsOf.dp t)
def CSml : Cmd → Prop
  | .down n => Sml n
  | .up n => Sml n
  | .right n => Sml n
  | .left n => Sml n
  | _ => True
theorem ok0_str {x : Str} (h : (PyData.str x).leavesShort 130 = true) : Ok0 (.str x) := ⟨by simp only [PyData.showable], by simp only [PyData.hasDict], h⟩
theorem cmdD_ok {c : Cmd} (h : CSml c) : Ok0 (cmdD c) ∧ (cmdD c).weight ≤ 200 ∧ (cmdD c).depth ≤ 5 := by
  cases c with
  | down n =>
    have w := sml_weight h
    refine ⟨ok0_tup (ok0_cons (ok0_str (by decide +kernel)) (ok0_cons (ok0_int h) ok0_nil)), ?_, by simp [cmdD, PyData.depth, PyData.depthAll]⟩
    have e : (PyData.str "down").weight = 4 := by decide +kernel
    simp only [cmdD, PyData.weight, PyData.weightAll] at w e ⊢
    omega
  | up n =>
    have w := sml_weight h
    refine ⟨ok0_tup (ok0_cons (ok0_str (by decide +kernel)) (ok0_cons (ok0_int h) ok0_nil)), ?_, by simp [cmdD, PyData.depth, PyData.depthAll]⟩
    have e : (PyData.str "up").weight = 2 := by decide +kernel
    simp only [cmdD, PyData.weight, PyData.weightAll] at w e ⊢
    omega
  | right n =>
    have w := sml_weight h
    refine ⟨ok0_tup (ok0_cons (ok0_str (by decide +kernel)) (ok0_cons (ok0_int h) ok0_nil)), ?_, by simp [cmdD, PyData.depth, PyData.depthAll]⟩
    have e : (PyData.str "right").weight = 5 := by decide +kernel
    simp only [cmdD, PyData.weight, PyData.weightAll] at w e ⊢
    omega
  | left n =>
    have w := sml_weight h
    refine ⟨ok0_tup (ok0_cons (ok0_str (by decide +kernel)) (ok0_cons (ok0_int h) ok0_nil)), ?_, by simp [cmdD, PyData.depth, PyData.depthAll]⟩
    have e : (PyData.str "left").weight = 4 := by decide +kernel
    simp only [cmdD, PyData.weight, PyData.weightAll] at w e ⊢
    omega
  | home => exact ⟨ok0_tup (ok0_cons (ok0_str (by decide +kernel)) ok0_nil), by decide +kernel, by simp [cmdD, PyData.depth, PyData.depthAll]⟩
  | stop => exact ⟨ok0_tup (ok0_cons (ok0_str (by decide +kernel)) ok0_nil), by decide +kernel, by simp [cmdD, PyData.depth, PyData.depthAll]⟩
theorem cmds_ok0 : ∀ {cs : List Cmd}, (∀ c ∈ cs, CSml c) → Ok0s (cs.map cmdD) ∧ PyData.weightAll (cs.map cmdD) ≤ 201 * cs.length ∧ PyData.depthAll (cs.map cmdD) ≤ 5
  | [], _ => ⟨ok0_nil, by simp [PyData.weightAll], by simp [PyData.depthAll]⟩
  | c :: cs, h => by
    obtain ⟨a1, a2, a3⟩ := cmdD_ok (h c List.mem_cons_self)
    obtain ⟨b1, b2, b3⟩ := cmds_ok0 (cs := cs) fun d hd => h d (List.mem_cons_of_mem _ hd)
    refine ⟨ok0_cons a1 b1, ?_, ?_⟩
    · simp only [List.map_cons, PyData.weightAll, List.length_cons]
      omega
    · simp only [List.map_cons, PyData.depthAll]
      omega
theorem cmds_ok {cs : List Cmd} (h : ∀ c ∈ cs, CSml c) (l : cs.length ≤ 300) : (PyData.list (cs.map cmdD)).showable = true ∧ (PyData.list (cs.map cmdD)).hasDict = false ∧ (PyData.list (cs.map cmdD)).depth ≤ 60 ∧ (PyData.list (cs.map cmdD)).shown.length ≤ sizeLine := by
  obtain ⟨a1, a2, a3⟩ := cmds_ok0 h
  have o := ok0_list a1
  refine ⟨o.1, o.2.1, ?_, ok0_len o ?_⟩
  · simp only [PyData.depth]
    omega
  · simp only [PyData.weight]
    omega
/-! ### boxes as data -/
def optD : Option Int → PyData
  | none => .none
  | some n => .int n
def pairD (q : Int × Int) : PyData := .tuple [.int q.1, .int q.2]
def boxD : Option (Option Int × Ps) → PyData
  | none => .none
  | some x => .tuple [optD x.1, .list (x.2.map pairD)]
def BSml : Option (Option Int × Ps) → Prop
  | none => True
  | some x => (∀ n, x.1 = some n → Sml n) ∧ ∀ q ∈ x.2, Sml q.1 ∧ Sml q.2
theorem ok0_none : Ok0 .none := ⟨by simp only [PyData.showable], by simp only [PyData.hasDict], by simp only [PyData.leavesShort]⟩
theorem pairs_ok0 : ∀ {L : Ps}, (∀ q ∈ L, Sml q.1 ∧ Sml q.2) → Ok0s (L.map pairD) ∧ PyData.weightAll (L.map pairD) ≤ 247 * L.length ∧ PyData.depthAll (L.map pairD) ≤ 5
  | [], _ => ⟨ok0_nil, by simp [PyData.weightAll], by simp [PyData.depthAll]⟩
  | q :: L, h => by
    obtain ⟨a, b⟩ := h q List.mem_cons_self
    obtain ⟨c1, c2, c3⟩ := pairs_ok0 (L := L) fun p hp => h p (List.mem_cons_of_mem _ hp)
    have wa := sml_weight a
    have wb := sml_weight b
    refine ⟨ok0_cons (ok0_tup (ok0_cons (ok0_int a) (ok0_cons (ok0_int b) ok0_nil))) c1, ?_, ?_⟩
    · simp only [PyData.weight] at wa wb
      simp only [List.map_cons, pairD, PyData.weight, PyData.weightAll, List.length_cons] at c2 ⊢
      omega
    · simp only [List.map_cons, pairD, PyData.depth, PyData.depthAll] at c3 ⊢
      omega
theorem boxD_ok0 {o : Option (Option Int × Ps)} {n : Nat} (h : BSml o) (l : ∀ x, o = some x → x.2.length ≤ n) : Ok0 (boxD o) ∧ (boxD o).weight ≤ 247 * n + 200 ∧ (boxD o).depth ≤ 10 := by
  cases o with
  | none => exact ⟨ok0_none, by simp [boxD, PyData.weight], by simp [boxD, PyData.depth]⟩
  | some x =>
    obtain ⟨st, L⟩ := x
    obtain ⟨h1, h2⟩ := h
    have h2' : ∀ q ∈ L, Sml q.1 ∧ Sml q.2 := h2
    obtain ⟨c1, c2, c3⟩ := pairs_ok0 h2'
    have ln : L.length ≤ n := l _ rfl
    have o1 : Ok0 (optD st) ∧ (optD st).weight ≤ 122 ∧ (optD st).depth = 0 := by
      cases st with
      | none => exact ⟨ok0_none, by simp [optD, PyData.weight], by simp [optD, PyData.depth]⟩
      | some n => exact ⟨ok0_int (h1 n rfl), sml_weight (h1 n rfl), by simp [optD, PyData.depth]⟩
    obtain ⟨d1, d2, d3⟩ := o1
    refine ⟨ok0_tup (ok0_cons d1 (ok0_cons (ok0_list c1) ok0_nil)), ?_, ?_⟩
    · have m : 247 * L.length ≤ 247 * n := Nat.mul_le_mul_left _ ln
      simp only [boxD, PyData.weight, PyData.weightAll]
      omega
    · simp only [boxD, PyData.depth, PyData.depthAll]
      omega
theorem boxes_ok0 {n : Nat} : ∀ {os : List (Option (Option Int × Ps))}, (∀ o ∈ os, BSml o ∧ ∀ x, o = some x → x.2.length ≤ n) → Ok0s (os.map boxD) ∧ PyData.weightAll (os.map boxD) ≤ (247 * n + 201) * os.length ∧ PyData.depthAll (os.map boxD) ≤ 10
  | [], _ => ⟨ok0_nil, by simp [PyData.weightAll], by simp [PyData.depthAll]⟩
  | o :: os, h => by
    obtain ⟨a, b⟩ := h o List.mem_cons_self
    obtain ⟨c1, c2, c3⟩ := boxD_ok0 a b
    obtain ⟨d1, d2, d3⟩ := boxes_ok0 (os := os) fun p hp => h p (List.mem_cons_of_mem _ hp)
    refine ⟨ok0_cons c1 d1, ?_, ?_⟩
    · rw [List.map_cons, List.length_cons, Nat.mul_succ]
      simp only [PyData.weightAll]
      omega
    · simp only [List.map_cons, PyData.depthAll]
      omega
/-- a list of at most ten boxes of at most thirty lines each -/
theorem boxes_ok {os : List (Option (Option Int × Ps))} (h : ∀ o ∈ os, BSml o ∧ ∀ x, o = some x → x.2.length ≤ 30) (l : os.length ≤ 10) :
    (PyData.list (os.map boxD)).showable = true ∧ (PyData.list (os.map boxD)).hasDict = false ∧ (PyData.list (os.map boxD)).depth ≤ 60 ∧ (PyData.list (os.map boxD)).shown.length ≤ sizeLine := by
  obtain ⟨a1, a2, a3⟩ := boxes_ok0 h
  have o := ok0_list a1
  refine ⟨o.1, o.2.1, ?_, ok0_len o ?_⟩
  · simp only [PyData.depth]
    omega
  · have m : (247 * 30 + 201) * os.length ≤ (247 * 30 + 201) * 10 := Nat.mul_le_mul_left _ l
    simp only [PyData.weight]
    omega
end Gc

/-! what a list of commands does to all goals on one text: a number added, kept between two bounds -/
namespace Gc
/-- the goal None is the greatest -/
def chg1 : Cmd → Int
  | .right n => n
  | .left n => -n
  | _ => 0
def chg : List Cmd → Int
  | [] => 0
  | c :: cs => chg1 c + chg cs
theorem chg_snoc (cs : List Cmd) (c : Cmd) : chg (cs ++ [c]) = chg cs + chg1 c := by
  induction cs with
  | nil => show chg1 c + 0 = 0 + chg1 c; omega
  | cons d cs ih => show chg1 d + chg (cs ++ [c]) = chg1 d + chg cs + chg1 c; rw [ih]; omega
/-- where the goal x goes, if 0 goes to lo, None to hi, and d is added -/
def Clamp (lo hi : Option Int) (d x : Int) (g : Option Int) : Prop := match lo, hi, g with
  | none, none, none => True
  | some l, none, some y => y = max l (x + d)
  | some l, some h, some y => l ≤ h ∧ y = max l (min h (x + d))
  | _, _, _ => False
theorem clamp1 {t : Int} (ht : 0 ≤ t) {lo hi : Option Int} {d x : Int} {g : Option Int} (h : Clamp lo hi d x g) (c : Cmd) (ok : c.ok) : Clamp (aim1 t lo c) (aim1 t hi c) (d + chg1 c) x (aim1 t g c) := by
  unfold Clamp at h
  cases c with
  | down n =>
    show Clamp lo hi (d + 0) x g
    rw [Int.add_zero]
    exact h
  | up n =>
    show Clamp lo hi (d + 0) x g
    rw [Int.add_zero]
    exact h
  | home => exact ⟨Int.le_refl 0, by omega⟩
  | stop => trivial
  | right n =>
    have o : 1 ≤ n := ok
    match lo, hi, g, h with
    | none, none, none, _ =>
      show min (t + n) t ≤ min (t + n) t ∧ min (t + n) t = max (min (t + n) t) (min (min (t + n) t) (x + (d + n)))
      omega
    | some l, none, some y, h =>
      have h' : y = max l (x + d) := h
      show min (min l t + n) t ≤ min (t + n) t ∧ min (min y t + n) t = max (min (min l t + n) t) (min (min (t + n) t) (x + (d + n)))
      omega
    | some l, some e, some y, h =>
      obtain ⟨h1, h2⟩ : l ≤ e ∧ y = max l (min e (x + d)) := h
      show min (min l t + n) t ≤ min (min e t + n) t ∧ min (min y t + n) t = max (min (min l t + n) t) (min (min (min e t + n) t) (x + (d + n)))
      omega
  | left n =>
    have o : 1 ≤ n := ok
    match lo, hi, g, h with
    | none, none, none, _ =>
      show max 0 (t - n) ≤ max 0 (t - n) ∧ max 0 (t - n) = max (max 0 (t - n)) (min (max 0 (t - n)) (x + (d + -n)))
      omega
    | some l, none, some y, h =>
      have h' : y = max l (x + d) := h
      show max 0 (min l t - n) ≤ max 0 (t - n) ∧ max 0 (min y t - n) = max (max 0 (min l t - n)) (min (max 0 (t - n)) (x + (d + -n)))
      omega
    | some l, some e, some y, h =>
      obtain ⟨h1, h2⟩ : l ≤ e ∧ y = max l (min e (x + d)) := h
      show max 0 (min l t - n) ≤ max 0 (min e t - n) ∧ max 0 (min y t - n) = max (max 0 (min l t - n)) (min (max 0 (min e t - n)) (x + (d + -n)))
      omega
theorem clampF {T : Int → Int} (hT : ∀ k, 0 ≤ T k) {x : Int} (x0 : 0 ≤ x) : ∀ {cs : List Cmd} {r : Int} {lo hi : Option Int} {d : Int} {g : Option Int}, AllOk cs → Clamp lo hi d x g → Clamp (aimF T r lo cs) (aimF T r hi cs) (d + chg cs) x (aimF T r g cs)
  | [], r, lo, hi, d, g, _, h => by
    show Clamp lo hi (d + 0) x g
    rw [Int.add_zero]
    exact h
  | c :: cs, r, lo, hi, d, g, ok, h => by
    have q := clampF hT x0 (cs := cs) (r := r + c.dv) (fun e he => ok e (List.mem_cons_of_mem _ he)) (clamp1 (hT r) h c (ok c List.mem_cons_self))
    rw [show d + chg (c :: cs) = d + chg1 c + chg cs from by show d + (chg1 c + chg cs) = _; omega]
    exact q
theorem clamp_all {T : Int → Int} (hT : ∀ k, 0 ≤ T k) {cs : List Cmd} (ok : AllOk cs) (r : Int) {x : Int} (x0 : 0 ≤ x) : Clamp (aimF T r (some 0) cs) (aimF T r none cs) (chg cs) x (aimF T r (some x) cs) := by
  have q := clampF hT x0 (cs := cs) (r := r) (lo := some 0) (hi := none) (d := 0) (g := some x) ok (by show x = max 0 (x + 0); omega)
  rw [Int.zero_add] at q
  exact q
/-- from a goal of at least all lines on, it is as from None, if that leads to a column -/
theorem aimF_far {T : Int → Int} {B : Int} (hB : ∀ k, T k ≤ B) {x : Int} (hx : B ≤ x) : ∀ {cs : List Cmd} {r : Int}, (aimF T r (some x) cs = aimF T r none cs) ∨ (aimF T r (some x) cs = some x ∧ aimF T r none cs = none ∧ chg cs = 0)
  | [], r => .inr ⟨rfl, rfl, rfl⟩
  | c :: cs, r => by
    have same : ∀ a : Option Int, aim1 (T r) (some x) c = a → aim1 (T r) none c = a → (aimF T r (some x) (c :: cs) = aimF T r none (c :: cs)) := fun a e1 e2 => by
      show aimF T (r + c.dv) (aim1 (T r) (some x) c) cs = aimF T (r + c.dv) (aim1 (T r) none c) cs
      rw [e1, e2]
    have sx : seen (T r) (some x) = seen (T r) none := by
      have := hB r
      show min x (T r) = T r
      omega
    cases c with
    | right n => exact .inl (same _ rfl (by show some (min (seen (T r) none + n) (T r)) = some (min (seen (T r) (some x) + n) (T r)); rw [sx]))
    | left n => exact .inl (same _ rfl (by show some (max 0 (seen (T r) none - n)) = some (max 0 (seen (T r) (some x) - n)); rw [sx]))
    | home => exact .inl (same _ rfl rfl)
    | stop => exact .inl (same _ rfl rfl)
    | down n =>
      rcases aimF_far hB hx (cs := cs) (r := r + n) with e | ⟨e1, e2, e3⟩
      · exact .inl e
      · exact .inr ⟨e1, e2, by show 0 + chg cs = 0; omega⟩
    | up n =>
      rcases aimF_far hB hx (cs := cs) (r := r + -n) with e | ⟨e1, e2, e3⟩
      · exact .inl e
      · exact .inr ⟨e1, e2, by show 0 + chg cs = 0; omega⟩
end Gc

/-! the goals from which a goal is reached, among 0 to 20 and None: the first and the last -/
namespace Gc
def cands : List (Option Int) := (List.range 21).map (fun (j : Nat) => some (j : Int)) ++ [none]
theorem cands_mem {o : Option Int} (h : o ∈ cands) : o = none ∨ ∃ x : Int, o = some x ∧ 0 ≤ x ∧ x ≤ 20 := by
  rcases List.mem_append.mp h with m | m
  · obtain ⟨j, hj, rfl⟩ := List.mem_map.mp m
    have := List.mem_range.mp hj
    exact .inr ⟨j, rfl, by omega, by omega⟩
  · exact .inl (List.mem_singleton.mp m)
def TwoEnds (f : List (Option Int)) (a b : Option Int) : Prop := f.head? = some a ∧ f.getLast? = some b
theorem cands_eq {p q : Option Int → Bool} (hn : p none = q none) (hs : ∀ x : Int, 0 ≤ x → x ≤ 20 → p (some x) = q (some x)) : cands.filter p = cands.filter q := by
  refine List.filter_congr fun o ho => ?_
  rcases cands_mem ho with rfl | ⟨x, rfl, h0, h1⟩
  · exact hn
  · exact hs x h0 h1
def qI (a b : Int) : Option Int → Bool
  | none => false
  | some x => decide (a ≤ x ∧ x ≤ b)
def qU (a : Int) : Option Int → Bool
  | none => true
  | some x => decide (a ≤ x)
instance (f : List (Option Int)) (a b : Option Int) : Decidable (TwoEnds f a b) := by unfold TwoEnds; exact inferInstance
theorem all_I : ∀ a b : Fin 21, a ≤ b → TwoEnds (cands.filter (qI (a.val : Int) (b.val : Int))) (some (a.val : Int)) (some (b.val : Int)) := by decide +kernel
theorem all_U : ∀ a : Fin 21, TwoEnds (cands.filter (qU (a.val : Int))) (some (a.val : Int)) none := by decide +kernel
theorem ends_I {p : Option Int → Bool} {a b : Int} (h0 : 0 ≤ a) (h1 : a ≤ b) (h2 : b ≤ 20) (hn : p none = false) (hs : ∀ x : Int, 0 ≤ x → x ≤ 20 → (p (some x) = true ↔ a ≤ x ∧ x ≤ b)) : TwoEnds (cands.filter p) (some a) (some b) := by
  have e := all_I ⟨a.toNat, by omega⟩ ⟨b.toNat, by omega⟩ (by show a.toNat ≤ b.toNat; omega)
  have ea : ((a.toNat : Nat) : Int) = a := by omega
  have eb : ((b.toNat : Nat) : Int) = b := by omega
  simp only [ea, eb] at e
  rw [cands_eq (q := qI a b) hn fun x x0 x1 => ?_]
  · exact e
  · show p (some x) = decide (a ≤ x ∧ x ≤ b)
    rw [Bool.eq_iff_iff, hs x x0 x1, decide_eq_true_iff]
theorem ends_U {p : Option Int → Bool} {a : Int} (h0 : 0 ≤ a) (h1 : a ≤ 20) (hn : p none = true) (hs : ∀ x : Int, 0 ≤ x → x ≤ 20 → (p (some x) = true ↔ a ≤ x)) : TwoEnds (cands.filter p) (some a) none := by
  have e := all_U ⟨a.toNat, by omega⟩
  have ea : ((a.toNat : Nat) : Int) = a := by omega
  simp only [ea] at e
  rw [cands_eq (q := qU a) hn fun x x0 x1 => ?_]
  · exact e
  · show p (some x) = decide (a ≤ x)
    rw [Bool.eq_iff_iff, hs x x0 x1, decide_eq_true_iff]
theorem ends_N {p : Option Int → Bool} (hn : p none = true) (hs : ∀ x : Int, 0 ≤ x → x ≤ 20 → p (some x) = false) : TwoEnds (cands.filter p) none none := by
  rw [cands_eq (q := fun o => match o with | none => true | some _ => false) hn fun x x0 x1 => hs x x0 x1]
  exact ⟨by decide +kernel, by decide +kernel⟩
theorem ends_0 {p : Option Int → Bool} (hn : p none = false) (hs : ∀ x : Int, 0 ≤ x → x ≤ 20 → p (some x) = false) : cands.filter p = [] := by
  rw [cands_eq (q := fun _ => false) hn fun x x0 x1 => hs x x0 x1]
  decide +kernel
def lessB : Option Int → Option Int → Bool
  | none, _ => false
  | some _, none => true
  | some x, some y => decide (x < y)
theorem less_y {x y : Int} (h : x < y) : lessB (some x) (some y) = true := decide_eq_true h
theorem less_n {x y : Int} (h : ¬ x < y) : lessB (some x) (some y) = false := decide_eq_false h
def originsM (lo hi : Option Int) (d : Int) (goal : Option Int) : Option (Option Int × Option Int) :=
  if lessB goal lo = true ∨ lessB hi goal = true then none else some (if goal = lo then some 0 else goal.map (· - d), if goal = hi then none else goal.map (· - d))
/-- what the law finds is what is told -/
def Told (f : List (Option Int)) : Option (Option Int × Option Int) → Prop
  | none => f = []
  | some x => TwoEnds f x.1 x.2
theorem origins_no {lo hi : Option Int} {d : Int} {goal : Option Int} (h : lessB goal lo = true ∨ lessB hi goal = true) : originsM lo hi d goal = none := if_pos h
theorem origins_yes {lo hi : Option Int} {d : Int} {goal a b : Option Int} (h1 : lessB goal lo = false) (h2 : lessB hi goal = false) (ha : (if goal = lo then some 0 else goal.map (· - d)) = a) (hb : (if goal = hi then none else goal.map (· - d)) = b) :
    originsM lo hi d goal = some (a, b) := by
  unfold originsM
  rw [if_neg (by rw [h1, h2]; simp), ha, hb]
theorem due_eq {T : Int → Int} (hT : ∀ k, 0 ≤ T k) (hB : ∀ k, T k ≤ 20) {cs : List Cmd} (ok : AllOk cs) (r : Int) {goal : Option Int} (g0 : ge goal 0) (g1 : ∀ v, goal = some v → v ≤ 20) :
    Told (cands.filter fun o => decide (aimF T r o cs = goal)) (originsM (aimF T r (some 0) cs) (aimF T r none cs) (chg cs) goal) := by
  have cl := fun (x : Int) (x0 : 0 ≤ x) => clamp_all hT ok r x0
  have far := aimF_far hB (Int.le_refl 20) (cs := cs) (r := r)
  have c0 := cl 0 (Int.le_refl 0)
  have c20 := cl 20 (by decide)
  generalize hF : (fun o => aimF T r o cs) = F
  have eF : ∀ o, aimF T r o cs = F o := fun o => by rw [← hF]
  simp only [eF] at cl far c0 c20 ⊢
  generalize hlo : F (some 0) = lo at *
  generalize hhi : F none = hi at *
  generalize chg cs = d at *
  -- p, read
  have pn : decide (F none = goal) = decide (hi = goal) := by rw [hhi]
  match goal, g0, g1, pn with
  | none, _, _, pn =>
    match lo, hi, cl, c0, c20, far, pn, hlo, hhi with
    | none, none, cl, _, _, _, pn, _, hhi =>
      have all : ∀ x : Int, 0 ≤ x → F (some x) = none := fun x x0 => by
        have := cl x x0
        revert this
        cases F (some x) with
        | none => exact fun _ => rfl
        | some y => exact fun h => h.elim
      rw [origins_yes (a := some 0) (b := none) rfl rfl (if_pos rfl) (if_pos rfl)]
      exact ends_U (Int.le_refl 0) (by decide) (by rw [pn]; simp) fun x x0 _ => by simp [all x x0, x0]
    | some l, none, cl, _, _, _, pn, _, hhi =>
      have all : ∀ x : Int, 0 ≤ x → F (some x) ≠ none := fun x x0 z => by
        have := cl x x0
        rw [z] at this
        exact this
      rw [origins_yes (a := none) (b := none) rfl rfl (by simp) (if_pos rfl)]
      exact ends_N (by rw [pn]; simp) fun x x0 _ => by simp [all x x0]
    | some l, some h, cl, _, _, _, pn, _, hhi =>
      have all : ∀ x : Int, 0 ≤ x → F (some x) ≠ none := fun x x0 z => by
        have := cl x x0
        rw [z] at this
        exact this
      rw [origins_no (.inr rfl)]
      exact ends_0 (by rw [pn]; simp) fun x x0 _ => by simp [all x x0]
    | none, some h, cl, c0, _, _, _, _, _ => exact (by revert c0; cases F (some 0) <;> exact fun h => h.elim)
  | some v, g0, g1, pn =>
    have v0 := ge_some.mp g0
    have v1 := g1 v rfl
    match lo, hi, cl, c0, c20, far, pn, hlo, hhi with
    | none, none, cl, _, _, _, pn, _, _ =>
      have all : ∀ x : Int, 0 ≤ x → F (some x) = none := fun x x0 => by
        have := cl x x0
        revert this
        cases F (some x) with
        | none => exact fun _ => rfl
        | some y => exact fun h => h.elim
      rw [origins_no (.inl rfl)]
      exact ends_0 (by rw [pn]; simp) fun x x0 _ => by simp [all x x0]
    | none, some h, cl, c0, _, _, _, _, _ => exact (by revert c0; cases F (some 0) <;> exact fun h => h.elim)
    | some l, none, cl, c0, c20, far, pn, hlo, _ =>
      have val : ∀ x : Int, 0 ≤ x → F (some x) = some (max l (x + d)) := fun x x0 => by
        have := cl x x0
        revert this
        cases F (some x) with
        | none => exact fun h => h.elim
        | some y => exact fun h => by rw [show y = max l (x + d) from h]
      obtain ⟨f1, d0⟩ : max l (20 + d) = 20 ∧ d = 0 := by
        rcases far with e | ⟨e1, _, e3⟩
        · rw [val 20 (by decide)] at e
          cases e
        · rw [val 20 (by decide)] at e1
          exact ⟨Option.some.inj e1, e3⟩
      have l0 : max l (0 + d) = l := by
        have := val 0 (Int.le_refl 0)
        rw [hlo] at this
        exact (Option.some.inj this).symm
      by_cases h1 : v < l
      · rw [origins_no (.inl (less_y h1))]
        exact ends_0 (by rw [pn]; simp) fun x x0 _ => by rw [val x x0]; simp; omega
      by_cases h2 : v = l
      · subst h2
        rw [origins_yes (a := some 0) (b := some (v - d)) (less_n h1) rfl (if_pos rfl) (by simp)]
        exact ends_I (by omega) (by omega) (by omega) (by rw [pn]; simp) fun x x0 _ => by rw [val x x0]; simp; omega
      · rw [origins_yes (a := some (v - d)) (b := some (v - d)) (less_n h1) rfl (by simp [h2]) (by simp)]
        exact ends_I (by omega) (by omega) (by omega) (by rw [pn]; simp) fun x x0 _ => by rw [val x x0]; simp; omega
    | some l, some h, cl, c0, c20, far, pn, hlo, hhi =>
      have val : ∀ x : Int, 0 ≤ x → F (some x) = some (max l (min h (x + d))) ∧ l ≤ h := fun x x0 => by
        have := cl x x0
        revert this
        cases F (some x) with
        | none => exact fun h => h.elim
        | some y =>
          intro z
          obtain ⟨z1, z2⟩ : l ≤ h ∧ y = max l (min h (x + d)) := z
          exact ⟨by rw [z2], z1⟩
      have lh := (val 0 (Int.le_refl 0)).2
      have f1 : max l (min h (20 + d)) = h := by
        rcases far with e | ⟨e1, e2, e3⟩
        · rw [(val 20 (by decide)).1] at e
          exact Option.some.inj e
        · cases e2
      have l0 : max l (min h (0 + d)) = l := by
        have := (val 0 (Int.le_refl 0)).1
        rw [hlo] at this
        exact (Option.some.inj this).symm
      by_cases h1 : v < l
      · rw [origins_no (.inl (less_y h1))]
        exact ends_0 (by rw [pn]; simp; omega) fun x x0 _ => by rw [(val x x0).1]; simp; omega
      by_cases h3 : h < v
      · rw [origins_no (.inr (less_y h3))]
        exact ends_0 (by rw [pn]; simp; omega) fun x x0 _ => by rw [(val x x0).1]; simp; omega
      have no1 : lessB (some v) (some l) = false := less_n h1
      have no2 : lessB (some h) (some v) = false := less_n h3
      by_cases h2 : v = l
      · by_cases h4 : v = h
        · rw [origins_yes (a := some 0) (b := none) no1 no2 (if_pos (by rw [h2])) (if_pos (by rw [h4]))]
          exact ends_U (Int.le_refl 0) (by decide) (by rw [pn]; simp [h4]) fun x x0 _ => by rw [(val x x0).1]; simp; omega
        · rw [origins_yes (a := some 0) (b := some (v - d)) no1 no2 (if_pos (by rw [h2])) (by simp [h4])]
          exact ends_I (by omega) (by omega) (by omega) (by rw [pn]; simp; omega) fun x x0 _ => by rw [(val x x0).1]; simp; omega
      · by_cases h4 : v = h
        · rw [origins_yes (a := some (v - d)) (b := none) no1 no2 (by simp [h2]) (if_pos (by rw [h4]))]
          exact ends_U (by omega) (by omega) (by rw [pn]; simp [h4]) fun x x0 _ => by rw [(val x x0).1]; simp; omega
        · rw [origins_yes (a := some (v - d)) (b := some (v - d)) no1 no2 (by simp [h2]) (by simp [h4])]
          exact ends_I (by omega) (by omega) (by omega) (by rw [pn]; simp; omega) fun x x0 _ => by rw [(val x x0).1]; simp; omega
end Gc

/-! how many texts of n lines of at most so many letters fulfil bounds -/
namespace Gc
def texts (most : Nat) : Nat → List (List Int)
  | 0 => [[]]
  | n + 1 => (texts most n).flatMap fun T => (List.range (most + 1)).map fun (s : Nat) => T ++ [(s : Int)]
theorem texts_ok {most : Nat} : ∀ {n : Nat} {T : List Int}, T ∈ texts most n → T.length = n ∧ ∀ x ∈ T, 0 ≤ x ∧ x ≤ most
  | 0, T, h => by
    rw [List.mem_singleton.mp h]
    exact ⟨rfl, fun x hx => nomatch hx⟩
  | n + 1, T, h => by
    obtain ⟨U, hU, hT⟩ := List.mem_flatMap.mp h
    obtain ⟨s, hs, rfl⟩ := List.mem_map.mp hT
    obtain ⟨l, b⟩ := texts_ok hU
    have := List.mem_range.mp hs
    refine ⟨by rw [List.length_append, List.length_singleton, l], fun x hx => ?_⟩
    rcases List.mem_append.mp hx with q | q
    · exact b x q
    · rw [List.mem_singleton.mp q]
      omega
/-- factors: how many letters a line may have -/
def fac (M b : Int) : Int := max (M - b) 0
def prodF (M : Int) (f : Nat → Int) : Nat → Int
  | 0 => 1
  | n + 1 => prodF M f n * fac M (f n)
def meets (f : Nat → Int) (n : Nat) (T : List Int) : Bool := (List.range n).all fun i => decide (f i ≤ T.getD i 0)
theorem meets_iff {f : Nat → Int} {n : Nat} {T : List Int} : meets f n T = true ↔ ∀ i, i < n → f i ≤ T.getD i 0 := by
  unfold meets
  rw [List.all_eq_true]
  exact ⟨fun h i hi => of_decide_eq_true (h i (List.mem_range.mpr hi)), fun h i hi => decide_eq_true (h i (List.mem_range.mp hi))⟩
theorem meets_snoc {f : Nat → Int} {n : Nat} {T : List Int} {s : Int} (l : T.length = n) : meets f (n + 1) (T ++ [s]) = (meets f n T && decide (f n ≤ s)) := by
  rw [Bool.eq_iff_iff, Bool.and_eq_true, meets_iff, meets_iff, decide_eq_true_iff]
  have low : ∀ i, i < n → (T ++ [s]).getD i 0 = T.getD i 0 := fun i hi => by
    rw [List.getD_eq_getElem?_getD, List.getD_eq_getElem?_getD, List.getElem?_append_left (by omega)]
  have top : (T ++ [s]).getD n 0 = s := by
    rw [List.getD_eq_getElem?_getD, List.getElem?_append_right (by omega), l, Nat.sub_self]
    rfl
  constructor
  · intro h
    refine ⟨fun i hi => ?_, ?_⟩
    · rw [← low i hi]
      exact h i (by omega)
    · have := h n (by omega)
      rwa [top] at this
  · rintro ⟨h1, h2⟩ i hi
    by_cases e : i = n
    · subst e
      rw [top]
      exact h2
    · rw [low i (by omega)]
      exact h1 i (by omega)
theorem count_up {v : Int} (v0 : 0 ≤ v) : ∀ m : Nat, (((List.range m).countP fun (s : Nat) => decide (v ≤ (s : Int)) : Nat) : Int) = fac m v
  | 0 => by
    show (0 : Int) = max (0 - v) 0
    omega
  | m + 1 => by
    have ih := count_up v0 m
    rw [List.range_succ, List.countP_append, List.countP_singleton]
    unfold fac at *
    by_cases h : v ≤ (m : Int)
    · rw [if_pos (decide_eq_true h)]
      omega
    · rw [if_neg (fun z => h (of_decide_eq_true z))]
      omega
theorem count_lines {M : Int} {f : Nat → Int} {n : Nat} (c : Nat) (hc : (c : Int) = fac M (f n)) (q : List Int → Bool) (hq : ∀ T, q T = meets f n T) (g : List Int → Nat) (hg : ∀ T, g T = if meets f n T = true then c else 0) : ∀ l : List (List Int), (((l.map g).sum : Nat) : Int) = ((l.countP q : Nat) : Int) * fac M (f n)
  | [] => by
    show (0 : Int) = 0 * _
    rw [Int.zero_mul]
  | T :: l => by
    have ih := count_lines c hc q hq g hg l
    rw [List.map_cons, List.sum_cons, List.countP_cons, hg T, hq T]
    by_cases h : meets f n T = true
    · rw [if_pos h, if_pos h, Int.natCast_add, ih, hc, Int.natCast_add]
      show fac M (f n) + _ = (_ + 1) * _
      rw [Int.add_mul, Int.one_mul, Int.add_comm]
    · rw [if_neg h, if_neg h, Nat.zero_add, Nat.add_zero]
      exact ih
theorem count_texts {most : Nat} {f : Nat → Int} (f0 : ∀ i, 0 ≤ f i) : ∀ n : Nat, (((texts most n).countP (meets f n) : Nat) : Int) = prodF ((most : Int) + 1) f n
  | 0 => rfl
  | n + 1 => by
    have ih := count_texts (most := most) f0 n
    show ((List.countP _ ((texts most n).flatMap _) : Nat) : Int) = prodF _ f n * fac _ (f n)
    rw [List.countP_flatMap, ← ih]
    have hc := count_up (f0 n) (most + 1)
    have inner : ∀ T ∈ texts most n, List.countP (meets f (n + 1)) ((List.range (most + 1)).map fun (s : Nat) => T ++ [(s : Int)]) = if meets f n T = true then (List.range (most + 1)).countP (fun (s : Nat) => decide (f n ≤ (s : Int))) else 0 := fun T hT => by
      rw [List.countP_map]
      have l := (texts_ok hT).1
      by_cases h : meets f n T = true
      · rw [if_pos h]
        refine List.countP_congr fun s _ => ?_
        show meets f (n + 1) (T ++ [(s : Int)]) = true ↔ _
        rw [meets_snoc l, h, Bool.true_and]
      · rw [if_neg h, List.countP_eq_zero]
        intro s _
        show ¬ meets f (n + 1) (T ++ [(s : Int)]) = true
        rw [meets_snoc l, Bool.eq_false_iff.mpr h, Bool.false_and]
        exact Bool.false_ne_true
    have e : (texts most n).map (fun T => List.countP (meets f (n + 1)) ((List.range (most + 1)).map fun (s : Nat) => T ++ [(s : Int)])) = (texts most n).map (fun T => if meets f n T = true then (List.range (most + 1)).countP (fun (s : Nat) => decide (f n ≤ (s : Int))) else 0) := List.map_congr_left inner
    have fin := count_lines (M := (most : Int) + 1) (f := f) (n := n) ((List.range (most + 1)).countP (fun (s : Nat) => decide (f n ≤ (s : Int)))) (by rw [hc]; rfl) (meets f n) (fun _ => rfl) (fun T => if meets f n T = true then (List.range (most + 1)).countP (fun (s : Nat) => decide (f n ≤ (s : Int))) else 0) (fun _ => rfl) (texts most n)
    rw [← fin]
    exact congrArg (fun l : List Nat => ((l.sum : Nat) : Int)) e
theorem prodF_congr {M : Int} {f g : Nat → Int} : ∀ {n : Nat}, (∀ i, i < n → f i = g i) → prodF M f n = prodF M g n
  | 0, _ => rfl
  | n + 1, h => by
    show prodF M f n * fac M (f n) = prodF M g n * fac M (g n)
    rw [prodF_congr fun i hi => h i (by omega), h n (by omega)]
theorem prodF_put {M : Int} {f g : Nat → Int} {i0 : Nat} {v : Int} (hf : f i0 = 0) (hg : g i0 = v) (hs : ∀ i, i ≠ i0 → g i = f i) (M0 : 0 ≤ M) : ∀ {n : Nat}, i0 < n → prodF M g n * M = prodF M f n * fac M v
  | 0, h => by omega
  | n + 1, h => by
    show prodF M g n * fac M (g n) * M = prodF M f n * fac M (f n) * fac M v
    by_cases e : i0 = n
    · subst e
      have fm : fac M 0 = M := by
        unfold fac
        omega
      rw [hf, hg, fm, prodF_congr (f := g) (g := f) fun i hi => hs i (by omega), Int.mul_right_comm]
    · have ih := prodF_put hf hg hs M0 (n := n) (by omega)
      rw [hs n (by omega), Int.mul_right_comm, ih, Int.mul_right_comm]
/-- the product over the lines of a box -/
def prodL (M : Int) (L : Ps) : Int := L.foldl (fun c q => c * fac M q.2) 1
theorem prodL_from (M : Int) : ∀ (L : Ps) (c : Int), L.foldl (fun c q => c * fac M q.2) c = c * prodL M L
  | [], c => by
    show c = c * 1
    rw [Int.mul_one]
  | q :: L, c => by
    show L.foldl _ (c * fac M q.2) = c * L.foldl _ (1 * fac M q.2)
    rw [prodL_from M L, prodL_from M L (1 * fac M q.2), Int.one_mul, Int.mul_assoc]
theorem prodL_cons (M : Int) (q : Int × Int) (L : Ps) : prodL M (q :: L) = fac M q.2 * prodL M L := by
  show L.foldl _ (1 * fac M q.2) = _
  rw [prodL_from, Int.one_mul]
theorem asc_len {L : Ps} : ∀ {lo hi : Int}, Asc L → (∀ q ∈ L, lo ≤ q.1 ∧ q.1 ≤ hi) → lo ≤ hi + 1 → (L.length : Int) ≤ hi - lo + 1 := by
  induction L with
  | nil =>
    intro lo hi _ _ h
    show ((0 : Nat) : Int) ≤ _
    omega
  | cons q L ih =>
    intro lo hi ha hb _
    obtain ⟨a1, a2⟩ := List.pairwise_cons.mp ha
    have b1 := hb q List.mem_cons_self
    have := ih (lo := q.1 + 1) (hi := hi) a2 (fun p hp => ⟨by have := a1 p hp; omega, (hb p (List.mem_cons_of_mem _ hp)).2⟩) (by omega)
    rw [List.length_cons]
    omega
theorem prod_all {M row : Int} (M0 : 0 < M) {n : Nat} : ∀ {L : Ps}, Asc L → (∀ q ∈ L, 0 ≤ row + q.1 ∧ row + q.1 < n) → prodL M L * M ^ (n - L.length) = prodF M (fun i => val L ((i : Int) - row)) n
  | [], _, _ => by
    show 1 * M ^ (n - 0) = _
    rw [Int.one_mul, Nat.sub_zero]
    have zero : ∀ m : Nat, M ^ m = prodF M (fun _ => 0) m := fun m => by
      induction m with
      | zero => exact Int.pow_zero M
      | succ m ih =>
        show M ^ (m + 1) = prodF M (fun _ => 0) m * fac M 0
        rw [← ih, Int.pow_succ, show fac M 0 = M from by unfold fac; omega]
    exact zero n
  | q :: L, ha, hb => by
    obtain ⟨a1, a2⟩ := List.pairwise_cons.mp ha
    have b1 := hb q List.mem_cons_self
    have ih := prod_all M0 (row := row) (n := n) a2 fun p hp => hb p (List.mem_cons_of_mem _ hp)
    have ln := asc_len (lo := -row) (hi := n - 1 - row) ha (fun p hp => by have := hb p hp; omega) (by omega)
    rw [List.length_cons] at ln
    have no : look L q.1 = none := look_none.mpr fun z => by
      obtain ⟨r, hr, er⟩ := List.mem_map.mp z
      have := a1 r hr
      omega
    have put := prodF_put (M := M) (f := fun i => val L ((i : Int) - row)) (g := fun i => val (q :: L) ((i : Int) - row)) (i0 := (row + q.1).toNat) (v := q.2) (n := n)
      (by show val L (((row + q.1).toNat : Int) - row) = 0; rw [show (((row + q.1).toNat : Nat) : Int) - row = q.1 by omega]; unfold val; rw [no]; rfl)
      (by show val (q :: L) (((row + q.1).toNat : Int) - row) = q.2; rw [show (((row + q.1).toNat : Nat) : Int) - row = q.1 by omega]; unfold val; rw [look_cons, if_pos rfl]; rfl)
      (fun i hi => by show val (q :: L) ((i : Int) - row) = val L ((i : Int) - row); unfold val; rw [look_cons, if_neg (by omega)]) (by omega) (by omega)
    have pw : M ^ (n - L.length) = M ^ (n - (q :: L).length) * M := by
      rw [← Int.pow_succ, List.length_cons]
      congr 1
      omega
    refine Int.eq_of_mul_eq_mul_right (show M ≠ 0 by omega) ?_
    rw [put, prodL_cons, ← ih, pw]
    simp only [Int.mul_assoc, Int.mul_comm, Int.mul_left_comm]
end Gc

/-! x *= y of great numbers; xs[i] += y -/
namespace Gc
open PySem PySem.Spec PyProof.Rows L2
section
variable {X : Cx}
def ipC (C : Int → Int → Prop) (f : Int → Int → Int) : TIp := fun x y H Q => ∃ i j, x = .int i ∧ y = .int j ∧ C i j ∧ Q (.int (f i j)) H
theorem ip_mulW : PIp X .Mult (ipC CMulW fun i j => i * j) := by
  intro pins s σ H x y v u Q I rx ry h
  obtain ⟨i, j, rfl, rfl, hc, q⟩ := h
  obtain ⟨t, rfl⟩ := rx
  obtain ⟨t', rfl⟩ := ry
  exact PySem.P.imul_int (⟨.int (i * j), H, I.tok _, ⟨_, rfl⟩, q⟩) hc.ok
/-- an item of a list by its place from the front, within an augmented assignment -/
def rGetL : V → V → Hp → VK → Prop := fun o i H Q => ∃ (p : Addr) (xs : List V) (j : Nat) (v : V), o = .ref p ∧ i = .int j ∧ H p = some (.lst xs) ∧ xs.length ≤ 1000000 ∧ xs[j]? = some v ∧ Q v H
theorem get_list : PGet X rGetL := by
  intro pins s σ H o i ov iv Q I ro ri h
  obtain ⟨p, xs, j, z, rfl, rfl, hp, hl, hj, q⟩ := h
  cases ro
  obtain ⟨t, rfl⟩ := ri
  obtain ⟨its, r, pl, hz⟩ := I.list (.inl (.inl hp))
  obtain ⟨w, ew, rw'⟩ := r.get hj
  have lj := (List.getElem?_eq_some_iff.mp hj).1
  have l63 := line63
  refine wpAny_getItem_list (x := w) pl.isList (by omega) (by omega) (by simpa using ew) ⟨z, H, I, rw', q⟩
end
end Gc

/-! raising the program's own errors: classes whose __init__ keeps one value; calls of defs that may raise -/
namespace L2
open PySem PySem.Spec PyProof.Rows
/-- def __init__(self, value): self.value = value, on a new exception of the class at C -/
def spKeep (C : Addr) : Sp := fun vs H Q _ => ∃ (a : Addr) (v : V), vs = [.ref a, v] ∧ H a = some (exo a C none) ∧
  ∀ dx, H dx = none → dx ≠ a → Q .non (upd (upd H dx (exd dx [("value", v)])) a (exo a C (some dx)))
/-- the error class x of the program, at C -/
structure ErrC (P : Program) (w : World) (K : PySem.W.Frag) (mg : Str → Option Value) (base : Heap) (x : Str) (C : Addr) : Prop where
  T : OexC K C
  g : mg x = some (.ref C)
  no : PySem.W.findIn K (.ref C) "value" = some none
  ex : ∃ (fI : Addr) (fd : FuncData), PySem.W.findIn K (.ref C) "__init__" = some (some (.ref fI)) ∧ PySem.W.typeIn K (.ref fI) = some (.type "function") ∧
    FnOk P w K mg base CX0 1 fI fd ["self", "value"] (spKeep C) ∧ Binds K fd ["self", "value"] []
/-- x(e) in a raise: the new error's class, its dict, the heap with that dict -/
def rRaise (C : Addr) (Q : XK) (v : V) (H1 : Hp) : Prop := [v].length ≤ 1000 ∧ ∀ a, H1 a = none → spKeep C (.ref a :: ([v] ++ [])) (upd H1 a (exo a C none))
  (fun u H2 => u = .non ∧ ∃ (d : Addr) (fs : List (Str × V)), H2 a = some (exo a C (some d)) ∧ H2 d = some (exd d fs) ∧ H1 d = none ∧ Q (.ref C) (some d) (upd (del H2 a) d (.xd fs))) (fun _ _ _ => False)
theorem ask_raise {C : Addr} {Q : XK} {v : V} {H : Hp} (h : ∀ d, H d = none → Q (.ref C) (some d) (upd H d (.xd [("value", v)]))) : rRaise C Q v H := by
  refine ⟨(by show 1 ≤ 1000; decide), fun a ha => ⟨a, v, rfl, upd_same, fun dx hd ne => ⟨rfl, dx, [("value", v)], upd_same, ?_, ?_, ?_⟩⟩⟩
  · rw [upd_ne ne, upd_same]
  · rw [upd_ne ne] at hd
    exact hd
  · have hd' : H dx = none := by
      rw [upd_ne ne] at hd
      exact hd
    have e : upd (del (upd (upd (upd H a (exo a C none)) dx (exd dx [("value", v)])) a (exo a C (some dx))) a) dx (.xd [("value", v)]) = upd H dx (.xd [("value", v)]) := by
      funext b
      by_cases hb : b = dx
      · rw [hb, upd_same, upd_same]
      · rw [upd_ne hb, upd_ne hb]
        by_cases ha' : b = a
        · rw [ha', del_same, ha]
        · rw [del_ne ha', upd_ne ha', upd_ne hb, upd_ne ha']
    rw [e]
    exact h dx hd'
section
variable {X : Cx} {k j : Nat} {x : Str} {sp : Sp} {p pos pos2 : Pos} {e : Expr} {es : List Expr} {t : TA} {te : TE} {W : WX} {C : Addr}
def tRaiseE (C : Addr) (W : WX) (te : TE) : TS := fun _ σ H => te σ H fun v H1 => rRaise C (fun cls d H' => W cls d σ H') v H1
theorem ps_raiseE (hc : X.calm = true) (c : ErrC X.prog X.w X.K X.mg X.base x C) (hr : Room j X.A) (hj : 2 ≤ j) (tk : Takes X W) (he : PE X e te) (hg : Gl X x)
    (hdb : (x == ("__debug__" : Str)) = false := by decide)
    (hs : starEach (e :: []) X.env = (false, eval e X.env) :: starEach [] X.env := by rfl) (hpl : (backTo pos (starEach [] X.env)).any (·.1) = false := by rfl) :
    PS X (.Raise (some (.Call (.Name x p) [e] [] pos)) none pos2) (tRaiseE C W te) := by
  obtain ⟨T, g, no, fI, fd, iC, tI, F, b⟩ := c
  exact ps_raise hc tk (pmk_oex (dvs := []) T iC tI F (hr.mono hj) b .nil pass0 hg g (pa_cons he pa_nil hs) hdb hs hpl)
/-- a def that is called by its name and may let an error out -/
structure CalX (P : Program) (w : World) (K : PySem.W.Frag) (mg : Str → Option Value) (base : Heap) (k : Nat) (x : Str) (sp : Sp) : Prop where
  ex : ∃ (f : Addr) (fd : FuncData) (ps : List Str), FnOk P w K mg base (L2.CX P w) k f fd ps sp ∧
    mg x = some (.ref f) ∧ PySem.W.keepIn K (.ref f) = true ∧ Binds K fd ps []
theorem pe_calX (tk : Takes X W) (c : CalX X.prog X.w X.K X.mg X.base k x sp) (hr : Room j X.A) (hk : k ≤ j) (hg : Gl X x) (ha : PA X (e :: es) t)
    (hdb : (x == ("__debug__" : Str)) = false := by decide)
    (he : starEach (e :: es) X.env = (false, eval e X.env) :: starEach es X.env := by rfl)
    (hpl : (backTo pos (starEach es X.env)).any (·.1) = false := by rfl) :
    PE X (.Call (.Name x p) (e :: es) [] pos) (tCallS sp (WE W) t) := by
  obtain ⟨f, fd, ps, F, hm, kp, b⟩ := c.ex
  exact pe_callS F (hr.mono hk) hg hm kp b (fun σ => passAt tk σ) ha hdb he hpl
end
end L2

/-! a caught error that is looked at: handed to a def within the except suite, its classes, its field -/
namespace L2
open PySem PySem.Spec PyProof.Rows
/-- what a def promises that is handed the error of the suite: at a, of the class at C, with the dict d -/
structure FnE (P : Program) (w : World) (K : PySem.W.Frag) (mg : Str → Option Value) (base : Heap) (k : Nat) (f : Addr) (fd : FuncData) (ps : List Str) (sp : Addr → Addr → Addr → Sp) : Prop where
  many : ∀ a C d vs H Q E, sp a C d vs H Q E → vs.length = ps.length
  go : ∀ (A : Around) (below : List Env) (s : Shared) (H : Hp) (given : Args) (us : List Value) (vs : List V) (Q : VK) (E : XK) (q : Addr × Obj) (C d : Addr), L2H.RoomH k A → L2H.PinOk below H s q → Zc (.ref C) (some d) q.2 → (∃ ws, q.2.data = .fields ws) →
    Env0 P w K mg base A below s H → BindsTo s fd given (ps.zip us) → Vals vs us → sp q.1 C d vs H Q E → codeAny (model P w) A (.call (.ref f) given) (CR CX0 below P w H s Q E) s
/-- the context that such a def's body runs in -/
abbrev cxE (P : Program) (w : World) (K : PySem.W.Frag) (mg : Str → Option Value) (base : Heap) (N : List Str) (qual : Str) (sc : Scope) (f : Addr) (cd : Value) (A : Around) (below : List Env) (s : Shared) (H : Hp) (E : XK) (q : Addr × Obj) : Cx :=
  L2H.cxH CX0 P w K mg base N qual sc f cd A below s H E q
theorem Fun.okE {P : Program} {w : World} {K : PySem.W.Frag} {mg : Str → Option Value} {base : Heap} {x qual : Str} {st : Stmt} {f : Addr} {fd : FuncData} {N ps : List Str} {k : Nat} {sp : Addr → Addr → Addr → Sp} (F : Fun K x qual st f fd) (S : FnScope N ps (defScope st))
    (many : ∀ a C d vs H Q E, sp a C d vs H Q E → vs.length = ps.length)
    (body : ∀ (cdv : Value) (A : Around) (below : List Env) (s : Shared) (H : Hp) (vs : List V) (Q : VK) (E : XK) (q : Addr × Obj) (C d : Addr), L2H.RoomH k (A.deeper (envOfC qual (defScope st) s.heap.objs.size f cdv)) → Zc (.ref C) (some d) q.2 → (∃ ws, q.2.data = .fields ws) → sp q.1 C d vs H Q E →
      ∃ t, PSs (cxE P w K mg base N qual (defScope st) f cdv A below s H E q) (defBody st) t ∧ t { nx := fun _ H' => Q .non H', rt := Q } (start N vs) H) : FnE P w K mg base (k + 1) f fd ps sp := by
  obtain ⟨oc, od, kV, doc, pm, an, cdv, ct, osl, rfl, lk, code⟩ := F.ex
  refine ⟨many, fun A below s H given us vs Q E q C d room pin hz hf env bnd rel want => ?_⟩
  have size := many _ _ _ _ _ _ _ want
  have inK : K.In s.heap := env.mod.kin.keeps fun b o z => (env.bs b o z).1
  have free : s.heap.NoLimit := env.mod.nolimit.keeps fun b o z => (env.bs b o z).1
  refine codeAny_call_function room.depth (inK _ _ lk) rfl S.co S.gen rfl (PySem.W.codeRec_of inK code) (bnd _ _ _ _ ?_)
  refine wpAny_newFunctionEnv_cells S.kind (fun ⟨n, v⟩ there => (S.par n (List.of_mem_zip there).1).elim .inl fun z => .inr ⟨z, PySem.W.cellsFrom_some _ _ _ (.inl z)⟩) fun env2 same s1 call => ?_
  subst same
  refine ⟨free.keeps call.toInCall.keep, codeAny_func ?_⟩
  obtain ⟨t, holds, ask⟩ := body cdv A below s H vs Q E q C d (room.deeper _) hz hf want
  refine wpAny_mono (holds.run [] s1 (start N vs) H _ (L2H.inv_startH S pin env size rel call) ask) (fun how s2 end_ => ?_) fun e s2 end_ => end_
  cases how with
  | ret u =>
    obtain ⟨v, τ, G, J, rv, z⟩ := end_
    exact ⟨v, G, J.os, J.bare, J.base, J.hok, rv, z⟩
  | next =>
    obtain ⟨τ, G, J, z⟩ := end_
    exact ⟨V.non, G, J.os, J.bare, J.base, J.hok, rfl, z⟩
  | brk => exact end_.elim fun _ z => z.elim fun _ y => y.2.elim
  | cont => exact end_.elim fun _ z => z.elim fun _ y => y.2.elim
/-- such a def, called by its name -/
structure CalE (P : Program) (w : World) (K : PySem.W.Frag) (mg : Str → Option Value) (base : Heap) (k : Nat) (x : Str) (sp : Addr → Addr → Addr → Sp) : Prop where
  ex : ∃ (f : Addr) (fd : FuncData) (ps : List Str), FnE P w K mg base k f fd ps sp ∧ mg x = some (.ref f) ∧ PySem.W.keepIn K (.ref f) = true ∧ Binds K fd ps []
def tCallE (a : Addr) (cls : Value) (d : Option Addr) (sp : Addr → Addr → Addr → Sp) (t : TA) : TE := fun σ H Q => t σ H fun vs H1 => ∃ C dd : Addr, cls = .ref C ∧ d = some dd ∧ sp a C dd vs H1 Q E0
section
variable {X : Cx} {k j : Nat} {x : Str} {sp : Addr → Addr → Addr → Sp} {p pos : Pos} {e : Expr} {es : List Expr} {t : TA} {te : TE} {a : Addr} {oe : Obj} {cls : Value} {d : Option Addr} {pn : List (Addr × Obj)}
theorem pe_callE (c : CalE X.prog X.w X.K X.mg X.base k x sp) (hr : Room j X.A) (hk : k ≤ j) (hz : Zc cls d oe) (hf : ∃ vs, oe.data = .fields vs) (hg : Gl (X.suite a ((a, oe) :: pn)) x) (ha : PA (X.suite a ((a, oe) :: pn)) (e :: es) t)
    (hdb : (x == ("__debug__" : Str)) = false := by decide)
    (he : starEach (e :: es) X.env = (false, eval e X.env) :: starEach es X.env := by rfl)
    (hpl : (backTo pos (starEach es X.env)).any (·.1) = false := by rfl) :
    PE (X.suite a ((a, oe) :: pn)) (.Call (.Name x p) (e :: es) [] pos) (tCallE a cls d sp t) := by
  obtain ⟨f, fd, ps, F, hm, kp, b⟩ := c.ex
  refine ⟨fun pins s σ H Q I h => ?_⟩
  refine wpAny_Call_Name_kw (ld_glob I hg hm ?_ hdb)
  refine PySem.W.callWith_K (h₀ := X.base) I.ok.mod.kin kp (thn (ha.run pos pins s σ H _ I h) fun us s1 ⟨vs, H1, I1, r, C, dd, ec, ed, q⟩ => ⟨I1.kIn, ?_⟩) he hpl
  subst ec
  subst ed
  have size : us.length = ps.length := by rw [← r.length]; exact F.many _ _ _ _ _ _ _ q
  have bnd := b s1 us I1.kIn (by rw [List.append_nil]; exact size)
  rw [List.append_nil] at bnd
  obtain ⟨p1, p2, p3, p4, p5⟩ := I1.pin (a, oe) (List.mem_append_left _ List.mem_cons_self)
  have pin : L2H.PinOk (X.suite a ((a, oe) :: pn)).stack H1 s1 (a, oe) := ⟨p1, p2, fun z => (List.mem_cons.mp (I1.stkSub a z)).elim p3 p4, p5⟩
  refine wpAny_call (codeAny_mono (F.go _ _ s1 H1 ⟨us, []⟩ us vs Q E0 (a, oe) C dd ((⟨hr.dp, hr.un⟩ : L2H.RoomH j (X.suite a ((a, oe) :: pn)).A).mono hk) pin hz hf I1.env0 bnd r q) fun how s2 end_ => ?_)
  cases how with
  | error u => exact False.elim end_
  | ok fl =>
    cases fl with
    | ret u => exact I1.after end_
    | next => exact False.elim end_
    | brk => exact False.elim end_
    | cont => exact False.elim end_
/-- what an error class must say, so that its instances can be looked at -/
structure ErrI (K : PySem.W.Frag) (C : Addr) : Prop where
  cl : (PySem.W.clsIn K C).isSome = true
  ga : PySem.W.findIn K (.ref C) "__getattribute__" = some (some (.builtin "BaseException.__getattribute__"))
  gg : PySem.W.findIn K (.ref C) "__getattr__" = some none
  be : PySem.W.subIn K (.ref C) (.type "BaseException") = some true
  hd : PySem.W.hasDictIn K C = true
  cc : PySem.W.findIn K (.ref C) "__class__" = some (some (.builtin "object.__class__"))
  gt : PySem.W.specialIn K (.builtin "object.__class__") "__get__" = some (some (.builtin "getset_descriptor.__get__"))
  tk : PySem.W.takesIn K (.builtin "object.__class__") = some true
  ob : PySem.W.mroIn K C (.type "object") = some true
  no : PySem.W.findIn K (.ref C) "value" = some none
theorem pin_inst {pins : List (Addr × Obj)} {s : Shared} {σ : St} {H : Hp} {C dd : Addr} {fs : List (Str × V)} (I : Inv X pins σ H s) (hp : (a, oe) ∈ X.pn) (hz : Zc (.ref C) (some dd) oe) (hf : ∃ vs, oe.data = .fields vs) (ed : H dd = some (.xd fs)) :
    ∃ (od : Obj) (mA : Str → Option Value), PySem.W.InstAt s.heap a oe C (some od) ∧ (∀ f, PySem.W.lookIn f od = some (mA f)) ∧ ∀ f, RelO (fs.lookup f) (mA f) := by
  obtain ⟨p1, _⟩ := I.pin (a, oe) (List.mem_append_left _ hp)
  obtain ⟨vs, hd⟩ := hf
  obtain ⟨mA, hns, rel⟩ := (show ObjOk X.prog X.w H s.heap dd (.xd fs) from I.hok dd _ ed)
  obtain ⟨od, ho, hl⟩ := lookIn_ns hns
  exact ⟨od, mA, ⟨p1, hz.1, by unfold PySem.W.notCls; rw [hd] <;> rfl, by rw [hz.2]; exact ho⟩, hl, rel⟩
/-- isinstance(e, c), e the error -/
def rIsX (K : PySem.W.Frag) (a C dd : Addr) : List V → Hp → VK → Prop := fun xs H Q => ∃ (fs : List (Str × V)) (c : V) (cv : Value) (b : Bool), xs = [.ref a, c] ∧ H dd = some (.xd fs) ∧ ErrI K C ∧ ClsV c cv ∧ PySem.W.kitOne K (.ref C) cv = some b ∧ Q (.bl b) H
theorem call_isX {C dd : Addr} (hp : (a, oe) ∈ X.pn) (hz : Zc (.ref C) (some dd) oe) (hf : ∃ vs, oe.data = .fields vs) : CallR X (.builtin "isinstance") (rIsX X.K a C dd) := by
  intro pins s σ H xs us Q I r h
  obtain ⟨fs, c, cv, b, rfl, ed, T, k, e, q⟩ := h
  obtain ⟨u1, u2, rfl, r1, r2⟩ := vals2 r
  have e2 := k.eq r2
  subst e2
  obtain rfl : u1 = Value.ref a := r1
  obtain ⟨od, mA, J, _, _⟩ := pin_inst I hp hz hf ed
  exact PySem.W.kia_one (PySem.W.kitx_exc T.cl T.ga T.gg T.be T.cc T.gt T.tk T.ob) I.kIn J e (fun z => nomatch z) fun tk => ⟨.bl b, H, I.tok tk, rfl, q⟩
/-- isinstance(e, (c1, c2, ..)) -/
def rIsXT (K : PySem.W.Frag) (a C dd : Addr) : List V → Hp → VK → Prop := fun xs H Q => ∃ (fs : List (Str × V)) (tp : Addr) (cs : List V) (us : List Value) (b : Bool), xs = [.ref a, .ref tp] ∧ H dd = some (.xd fs) ∧ ErrI K C ∧ H tp = some (.tup cs) ∧ Paired ClsV cs us ∧
  PySem.W.kitAny K (.ref C) us = some b ∧ Q (.bl b) H
theorem call_isXT {C dd : Addr} (hp : (a, oe) ∈ X.pn) (hz : Zc (.ref C) (some dd) oe) (hf : ∃ vs, oe.data = .fields vs) : CallR X (.builtin "isinstance") (rIsXT X.K a C dd) := by
  intro pins s σ H xs us Q I r h
  obtain ⟨fs, tp, cs, ws, b, rfl, ed, T, hT, k, e, q⟩ := h
  obtain ⟨u1, u2, rfl, r1, r2⟩ := vals2 r
  obtain rfl : u1 = Value.ref a := r1
  obtain rfl : u2 = Value.ref tp := r2
  obtain ⟨od, mA, J, _, _⟩ := pin_inst I hp hz hf ed
  obtain ⟨_, its, rv, o, g1, g2, n, g3⟩ := (show ObjOk X.prog X.w H s.heap tp (.tup cs) from I.hok tp _ hT)
  have e3 := ClsV.all k rv
  subst e3
  obtain ⟨oc, o2, dt, sl⟩ := o
  simp only at g2 g3
  subst g2 g3
  exact PySem.W.kia_tup (PySem.W.kitx_exc T.cl T.ga T.gg T.be T.cc T.gt T.tk T.ob) I.kIn J g1 e (fun z => nomatch z) fun tk => ⟨.bl b, H, I.tok tk, rfl, q⟩
/-- e.value -/
def tXfA (K : PySem.W.Frag) (a : Addr) (cls : Value) (d : Option Addr) (te : TE) : TE := fun σ H Q => te σ H fun x H1 => x = .ref a ∧ ∃ (C dd : Addr) (v : V), cls = .ref C ∧ d = some dd ∧ ErrI K C ∧ H1 dd = some (.xd [("value", v)]) ∧ Q v H1
theorem pe_xfA (hz : Zc cls d oe) (hf : ∃ vs, oe.data = .fields vs) (he : PE (X.suite a ((a, oe) :: pn)) e te) (hb : attributeBase e "value" X.env (eval e X.env) = eval e X.env := by rfl) :
    PE (X.suite a ((a, oe) :: pn)) (.Attribute e "value" pos) (tXfA X.K a cls d te) := by
  refine ⟨fun pins s σ H Q I h => ?_⟩
  refine attr_of hb (thn (he.run pins s σ H _ I h) fun u s1 hh => ?_)
  obtain ⟨x, H1, I1, rx, ex, C, dd, v, ec, ed, T, hd, q⟩ := hh
  subst ex
  obtain rfl : u = Value.ref a := rx
  subst ec
  subst ed
  obtain ⟨od, mA, J, hl, rel⟩ := pin_inst I1 List.mem_cons_self hz hf hd
  obtain ⟨u, hu, ru⟩ := RelO.some_of (v := v) (o := mA "value") (by
    have z := rel "value"
    rw [show List.lookup ("value" : Str) [(("value" : Str), v)] = some v by simp [List.lookup]] at z
    exact z)
  exact HandSPX.exc_get I1.kIn J T.ga T.gg T.be (PySem.W.findObj_own T.hd T.no rfl (by rw [hl, hu])) (handed_of ru) ⟨v, H1, I1.tok _, ru, q⟩
end
end L2
namespace Gc
open PySem PySem.Spec PyProof.Rows L2
/-- a def that may let an error out, called by names alone -/
structure CalKX (P : Program) (w : World) (K : PySem.W.Frag) (mg : Str → Option Value) (base : Heap) (k : Nat) (x : Str) (ks : List Str) (sp : Sp) : Prop where
  ex : ∃ (f : Addr) (fd : FuncData) (ps : List Str), FnOk P w K mg base (L2.CX P w) k f fd ps sp ∧ mg x = some (.ref f) ∧ PySem.W.keepIn K (.ref f) = true ∧ KBinds K fd ps ks gRev gRev
def tCallKX (sp : Sp) (W : WX) (tk : TA) : TE := fun σ H Q => tk σ H fun zs H2 => sp (gRev [] zs) H2 Q (WE W σ)
theorem pe_calKX {X : Cx} {W : WX} {k j : Nat} {x : Str} {ks : List Str} {sp : Sp} {p pos : Pos} {kws : List Keyword} {t : TA} (tk : Takes X W) (c : CalKX X.prog X.w X.K X.mg X.base k x ks sp) (hr : Room j X.A) (hk : k ≤ j) (hg : Gl X x) (hkw : PK X kws t)
    (hdb : (x == ("__debug__" : Str)) = false := by decide) (hall : (backToKw pos (keywordEach kws X.env)).all (·.1.isSome) = true := by rfl) (hks : (backToKw pos (keywordEach kws X.env)).filterMap (·.1) = ks := by rfl)
    (hpn : ((backTo pos (starEach [] X.env)).any (·.1) || (backToKw pos (keywordEach kws X.env)).any (·.1.isNone)) = false := by rfl) :
    PE X (.Call (.Name x p) [] kws pos) (tCallKX sp W t) := by
  obtain ⟨f, fd, ps, F, hm, kp, b⟩ := c.ex
  refine ⟨fun pins s σ H Q I h => ?_⟩
  refine wpAny_Call_Name_kw (ld_glob I hg hm ?_ hdb)
  refine PySem.W.callWith_KW0 (h₀ := X.base) I.ok.mod.kin kp hall ?_ hpn
  refine thn (hkw.run pos pins s σ H _ I h) fun ws s1 ⟨zs, H1, I1, rz, q⟩ => ⟨I1.kIn, ?_⟩
  rw [hks]
  have r2 := b.rel (us := []) (vs := []) .nil rz
  have size : (gRev [] ws).length = ps.length := by rw [← r2.length]; exact F.len _ _ _ _ q
  refine wpAny_call (codeAny_mono (F.run X.A X.stack s1 H1 ⟨[], ks.zip ws⟩ (gRev [] ws) (gRev [] zs) Q (WE W σ) (hr.mono hk) I1.env0 (b.to s1 [] ws I1.kIn size) r2 q) fun how s2 end_ => ?_)
  cases how with
  | error u => exact passAt tk σ pins H1 s1 u s2 I1 end_
  | ok fl =>
    cases fl with
    | ret u => exact I1.after end_
    | next => exact False.elim end_
    | brk => exact False.elim end_
    | cont => exact False.elim end_
end Gc
namespace L2
open PySem PySem.Spec PyProof.Rows
theorem takesNone {X : Cx} : Takes X (fun _ _ _ _ => False) := fun _ _ x => by
  obtain ⟨_, _, _, _, _, _, _, _, _, _, _, _, _, _, _, _, z⟩ := x
  exact z.elim
end L2

namespace Gc
open PySem L2
def top (i : Nat) : Stmt := PySem.Challenge.pw_goalcolumn_k29_origins_and_counting_erro.main.body.getD i (.Pass ⟨0, 0, 0, 0⟩)
abbrev s_is_count : Stmt := top 16
abbrev s_is_command : Stmt := top 15
abbrev s_check_commands : Stmt := top 14
abbrev s_row_change : Stmt := top 22
structure TxtB (K : PySem.W.Frag) (mg : Str → Option Value) (wo wn : Addr) : Prop where
  g_WITHOUT_NUMBER : mg "WITHOUT_NUMBER" = some (.ref wo)
  g_WITH_NUMBER : mg "WITH_NUMBER" = some (.ref wn)
  tWO : ∀ H, SqT K H wo [.str "home", .str "end"]
  tWN : ∀ H, SqT K H wn [.str "down", .str "up", .str "right", .str "left"]
  isinstance : mg "isinstance" = none
  int : mg "int" = none
  bool : mg "bool" = none
  len : mg "len" = none
  enumerate : mg "enumerate" = none
  reversed : mg "reversed" = none
  sorted : mg "sorted" = none
  max : mg "max" = none
  min : mg "min" = none
def spCount : Sp := fun vs H Q _ => ∃ n : Int, vs = [.int n] ∧ 1 ≤ n ∧ Q (.bl true) H
def spIsCmd (K : PySem.W.Frag) : Sp := fun vs H Q _ => ∃ (v : V) (c : Cmd), vs = [v] ∧ CmdAt K H v c ∧ c.ok ∧ ∀ H', Same H H' → Q (.bl true) H'
def spCheck (K : PySem.W.Frag) : Sp := fun vs H Q _ => ∃ (l : Addr) (xs : List V) (cs : List Cmd), vs = [.ref l] ∧ SqL K H l xs ∧ CmdsOf K H xs cs ∧ AllOk cs ∧ cs.length ≤ 10000 ∧ ∀ H', Same H H' → Q .non H'
def spRow (K : PySem.W.Frag) : Sp := fun vs H Q _ => ∃ (v : V) (c : Cmd), vs = [v] ∧ CmdAt K H v c ∧ Q (.int c.dv) H
theorem q_in {H : Hp} {Q : VK} {x : V} {xs : List V} (h : inV x xs = true) (k : Q (.bl true) H) : Q (.bl (if (false : Bool) = true then !inV x xs else inV x xs)) H := by
  rw [if_neg Bool.false_ne_true, h]
  exact k
theorem take_snoc {α : Type} : ∀ {l : List α} {i : Nat} {x : α}, l[i]? = some x → l.take (i + 1) = l.take i ++ [x]
  | [], i, x, h => by simp at h
  | a :: l, 0, x, h => by
    obtain rfl := Option.some.inj h
    rfl
  | a :: l, i + 1, x, h => by
    have ih := take_snoc (l := l) (i := i) (x := x) h
    show a :: l.take (i + 1) = a :: l.take i ++ [x]
    rw [ih]
    rfl
def optV : Option Int → V
  | none => .non
  | some n => .int n
theorem m_no {y z : Str} {tb : TS} {r : TM} {D : Ends} {σ : L2.St} {H : Hp} (h : decide (y = z) = false) (q : r (.str y) D σ H) : mStr z tb r (.str y) D σ H := ⟨y, rfl, by rw [h]; exact iteF q⟩
theorem m_yes {y z : Str} {tb : TS} {r : TM} {D : Ends} {σ : L2.St} {H : Hp} (h : decide (y = z) = true) (q : tb D σ H) : mStr z tb r (.str y) D σ H := ⟨y, rfl, by rw [h]; exact iteT q⟩
section
variable {P : Program} {w : World} {K : PySem.W.Frag} {mg : Str → Option Value} {base : Heap} {wo wn : Addr}
theorem sc_is_count : FnScope ["number"] ["number"] (defScope s_is_count) := ⟨rfl, rfl, rfl, by decide +kernel, rfl, by decide +kernel, by decide +kernel⟩
theorem ok_is_count {f : Addr} {fd : FuncData} (F : Fun K "is_count" "is_count" s_is_count f fd) (T : TxtB K mg wo wn) : FnOk P w K mg base CX0 1 f fd ["number"] spCount := by
  refine F.ok sc_is_count (fun vs H Q E h => ?_) (fun cdv A outer s H vs Q E hr h => ?_)
  · obtain ⟨n, rfl, _⟩ := h
    rfl
  · obtain ⟨n, rfl, hn, k⟩ := h
    refine ⟨_, (pss_one (ps_ret (pe_and (pe_callB call_isi (by rfl) T.isinstance (by decide +kernel) (pa_cons (pv 0) (pa_cons (pe_bltn (v := .ty "int") (u := .type "int") (by rfl) T.int (by decide +kernel) rfl) pa_nil))) (pe_and (pe_not (pe_callB call_isi (by rfl) T.isinstance (by decide +kernel) (pa_cons (pv 0) (pa_cons (pe_bltn (v := .ty "bool") (u := .type "bool") (by rfl) T.bool (by decide +kernel) rfl) pa_nil)))) (pe_one (pe_cmpR op_ge (pv 0) pe_int (nomark _))))))), ?_⟩
    refine ⟨_, rfl, _, _, _, _, _, rfl, .ty "int", .base (.int n), kit_ty (show kitB "int" "int" = some true by decide +kernel), _, rfl, iteT ?_⟩
    refine ⟨_, rfl, _, _, _, _, _, rfl, .ty "bool", .base (.int n), kit_ty (show kitB "int" "bool" = some false by decide +kernel), _, rfl, _, rfl, iteT ?_⟩
    refine ⟨_, rfl, _, _, rfl, rfl, ?_⟩
    show Q (.bl (decide (1 ≤ n))) H
    rw [decide_eq_true hn]
    exact k
theorem sc_is_command : FnScope ["command"] ["command"] (defScope s_is_command) := ⟨rfl, rfl, rfl, by decide +kernel, rfl, by decide +kernel, by decide +kernel⟩
theorem ok_is_command {f : Addr} {fd : FuncData} (F : Fun K "is_command" "is_command" s_is_command f fd) (T : TxtB K mg wo wn) (c_is_count : Cal P w K mg base 1 "is_count" spCount) : FnOk P w K mg base CX0 2 f fd ["command"] (spIsCmd K) := by
  refine F.ok sc_is_command (fun vs H Q E h => ?_) (fun cdv A outer s H vs Q E hr h => ?_)
  · obtain ⟨v, c, rfl, _⟩ := h
    rfl
  · obtain ⟨v, c, rfl, ⟨a, rfl, ha⟩, hc, k⟩ := h
    refine ⟨_, (pss_cons (ps_if (pt_cmpR op_eq (pe_callB call_len_seq (by rfl) T.len (by decide +kernel) (pa_cons (pv 0) pa_nil)) pe_int (nomark _)) (pss_one (ps_ret (pe_cmpR op_in_seq (pe_ix ix_tup (pv 0) pe_int (fun _ _ => rfl)) (pe_glob (v := .ref wo) (by rfl) T.g_WITHOUT_NUMBER rfl) (by rfl)))) pss_nil)
      (pss_one (ps_ret (pe_and (pe_cmpR op_eq (pe_callB call_len_seq (by rfl) T.len (by decide +kernel) (pa_cons (pv 0) pa_nil)) pe_int (nomark _)) (pe_and (pe_cmpR op_in_seq (pe_ix ix_tup (pv 0) pe_int (fun _ _ => rfl)) (pe_glob (v := .ref wn) (by rfl) T.g_WITH_NUMBER rfl) (by rfl)) (pe_one (pe_cal c_is_count hr (by decide) (by rfl) (pa_cons (pe_ix ix_tup (pv 0) pe_int (fun _ _ => rfl)) pa_nil)))))))), ?_⟩
    have k0 := k H (Same.refl H)
    cases c with
    | down n =>
      refine ⟨_, rfl, a, _, rfl, .inr ha, rfl, _, rfl, iteF ?_⟩
      refine ⟨_, rfl, a, _, rfl, .inr ha, rfl, _, rfl, iteT ?_⟩
      refine ⟨_, rfl, a, _, 0, _, rfl, rfl, ha, rfl, wn, _, rfl, .inr (T.tWN _), rfl, rfl, true, by decide +kernel, iteT ?_⟩
      exact ⟨_, rfl, a, _, 1, _, rfl, rfl, ha, rfl, n, rfl, hc, k0⟩
    | up n =>
      refine ⟨_, rfl, a, _, rfl, .inr ha, rfl, _, rfl, iteF ?_⟩
      refine ⟨_, rfl, a, _, rfl, .inr ha, rfl, _, rfl, iteT ?_⟩
      refine ⟨_, rfl, a, _, 0, _, rfl, rfl, ha, rfl, wn, _, rfl, .inr (T.tWN _), rfl, rfl, true, by decide +kernel, iteT ?_⟩
      exact ⟨_, rfl, a, _, 1, _, rfl, rfl, ha, rfl, n, rfl, hc, k0⟩
    | right n =>
      refine ⟨_, rfl, a, _, rfl, .inr ha, rfl, _, rfl, iteF ?_⟩
      refine ⟨_, rfl, a, _, rfl, .inr ha, rfl, _, rfl, iteT ?_⟩
      refine ⟨_, rfl, a, _, 0, _, rfl, rfl, ha, rfl, wn, _, rfl, .inr (T.tWN _), rfl, rfl, true, by decide +kernel, iteT ?_⟩
      exact ⟨_, rfl, a, _, 1, _, rfl, rfl, ha, rfl, n, rfl, hc, k0⟩
    | left n =>
      refine ⟨_, rfl, a, _, rfl, .inr ha, rfl, _, rfl, iteF ?_⟩
      refine ⟨_, rfl, a, _, rfl, .inr ha, rfl, _, rfl, iteT ?_⟩
      refine ⟨_, rfl, a, _, 0, _, rfl, rfl, ha, rfl, wn, _, rfl, .inr (T.tWN _), rfl, rfl, true, by decide +kernel, iteT ?_⟩
      exact ⟨_, rfl, a, _, 1, _, rfl, rfl, ha, rfl, n, rfl, hc, k0⟩
    | home =>
      refine ⟨_, rfl, a, _, rfl, .inr ha, rfl, _, rfl, iteT ?_⟩
      refine ⟨_, rfl, a, _, 0, _, rfl, rfl, ha, rfl, wo, _, rfl, .inr (T.tWO _), rfl, rfl, ?_⟩
      exact q_in (by decide +kernel) k0
    | stop =>
      refine ⟨_, rfl, a, _, rfl, .inr ha, rfl, _, rfl, iteT ?_⟩
      refine ⟨_, rfl, a, _, 0, _, rfl, rfl, ha, rfl, wo, _, rfl, .inr (T.tWO _), rfl, rfl, ?_⟩
      exact q_in (by decide +kernel) k0
theorem sc_row_change : FnScope ["command"] ["command"] (defScope s_row_change) := ⟨rfl, rfl, rfl, by decide +kernel, rfl, by decide +kernel, by decide +kernel⟩
theorem ok_row_change {f : Addr} {fd : FuncData} (F : Fun K "row_change" "row_change" s_row_change f fd) : FnOk P w K mg base CX0 1 f fd ["command"] (spRow K) := by
  refine F.ok sc_row_change (fun vs H Q E h => ?_) (fun cdv A outer s H vs Q E hr h => ?_)
  · obtain ⟨v, c, rfl, _⟩ := h
    rfl
  · obtain ⟨v, c, rfl, ⟨a, rfl, ha⟩, k⟩ := h
    refine ⟨_, (pss_cons (ps_if (pt_cmpR op_eq (pe_ix ix_tup (pv 0) pe_int (fun _ _ => rfl)) pe_str (nomark _)) (pss_one (ps_ret (pe_ix ix_tup (pv 0) pe_int (fun _ _ => rfl)))) pss_nil)
      (pss_cons (ps_if (pt_cmpR op_eq (pe_ix ix_tup (pv 0) pe_int (fun _ _ => rfl)) pe_str (nomark _)) (pss_one (ps_ret (pe_un un_neg (pe_ix ix_tup (pv 0) pe_int (fun _ _ => rfl))))) pss_nil)
      (pss_one (ps_ret pe_int)))), ?_⟩
    cases c with
    | down n =>
      refine ⟨_, rfl, a, _, 0, _, rfl, rfl, ha, rfl, rfl, true, by decide +kernel, iteT ?_⟩
      exact ⟨_, rfl, a, _, 1, _, rfl, rfl, ha, rfl, k⟩
    | up n =>
      refine ⟨_, rfl, a, _, 0, _, rfl, rfl, ha, rfl, rfl, false, by decide +kernel, iteF ?_⟩
      refine ⟨_, rfl, a, _, 0, _, rfl, rfl, ha, rfl, rfl, true, by decide +kernel, iteT ?_⟩
      exact ⟨_, rfl, a, _, 1, _, rfl, rfl, ha, rfl, n, rfl, k⟩
    | right n =>
      refine ⟨_, rfl, a, _, 0, _, rfl, rfl, ha, rfl, rfl, false, by decide +kernel, iteF ?_⟩
      refine ⟨_, rfl, a, _, 0, _, rfl, rfl, ha, rfl, rfl, false, by decide +kernel, iteF ?_⟩
      exact k
    | left n =>
      refine ⟨_, rfl, a, _, 0, _, rfl, rfl, ha, rfl, rfl, false, by decide +kernel, iteF ?_⟩
      refine ⟨_, rfl, a, _, 0, _, rfl, rfl, ha, rfl, rfl, false, by decide +kernel, iteF ?_⟩
      exact k
    | home =>
      refine ⟨_, rfl, a, _, 0, _, rfl, rfl, ha, rfl, rfl, false, by decide +kernel, iteF ?_⟩
      refine ⟨_, rfl, a, _, 0, _, rfl, rfl, ha, rfl, rfl, false, by decide +kernel, iteF ?_⟩
      exact k
    | stop =>
      refine ⟨_, rfl, a, _, 0, _, rfl, rfl, ha, rfl, rfl, false, by decide +kernel, iteF ?_⟩
      refine ⟨_, rfl, a, _, 0, _, rfl, rfl, ha, rfl, rfl, false, by decide +kernel, iteF ?_⟩
      exact k
theorem sc_check_commands : FnScope ["commands", "index", "command"] ["commands"] (defScope s_check_commands) := ⟨rfl, rfl, rfl, by decide +kernel, rfl, by decide +kernel, by decide +kernel⟩
theorem ok_check_commands {f : Addr} {fd : FuncData} (F : Fun K "check_commands" "check_commands" s_check_commands f fd) (T : TxtB K mg wo wn) (c_is_command : Cal P w K mg base 2 "is_command" (spIsCmd K)) : FnOk P w K mg base CX0 3 f fd ["commands"] (spCheck K) := by
  refine F.ok sc_check_commands (fun vs H Q E h => ?_) (fun cdv A outer s H vs Q E hr h => ?_)
  · obtain ⟨l, xs, cs, rfl, _⟩ := h
    rfl
  · obtain ⟨l, xs, cs, rfl, hl, hcs, hk, hn, k⟩ := h
    refine ⟨_, (pss_one (ps_for PassesOwn.never rfl (pi_enum (by rfl) T.enumerate (pa_cons (pv 0) pa_nil)) (pg_tup rfl (pgs_cons (pg_name (i := 1) sc_check_commands.nd rfl (Or.inl rfl)) (pgs_cons (pg_name (i := 2) sc_check_commands.nd rfl (Or.inl rfl)) pgs_nil))) (pss_one (ps_if (pt_not (pt_val (pe_cal c_is_command hr (by decide) (by rfl) (pa_cons (pv 2) pa_nil)))) (pss_one ps_never) pss_nil)))), ?_⟩
    refine ⟨_, rfl, l, xs, rfl, hl, for_it (walk_enum (K := K) (a := l) (xs := xs)) (fun i σ H' => ∃ v1 v2 : Option V, σ = [some (.ref l), v1, v2] ∧ Same H H')
      ⟨none, none, rfl, Same.refl H⟩ (fun i σ H' _ ⟨_, _, _, e⟩ => e.seq hl) (fun i x σ H1 H2 hi h y => ?_) (fun σ H1 h => ?_)⟩
    · obtain ⟨v1, v2, rfl, e⟩ := h
      obtain ⟨T1, x1, y1, rfl, nT, rfl, e1, e2⟩ := y
      obtain ⟨c, hc, hca⟩ := paired_at hcs e2
      have eT : Same H (upd H1 T1 (.tup [x1, y1])) := same_upd e nT
      refine ⟨T1, _, rfl, SqT.of upd_same, rfl, _, _, rfl, _, _, rfl, rfl, ?_⟩
      refine ⟨_, rfl, y1, c, rfl, hca.same eT, hk c (List.mem_of_getElem? hc), fun H3 e3 => ⟨_, rfl, iteF ?_⟩⟩
      exact ⟨_, _, rfl, eT.trans e3⟩
    · obtain ⟨v1, v2, rfl, e⟩ := h
      exact k _ e
end
end Gc

namespace Gc
open PySem L2
abbrev s_reach : Stmt := top 20
abbrev s_check_number : Stmt := top 17
abbrev s_require : Stmt := top 33
abbrev s_box : Stmt := top 32
def rstep (s : Int × Int × Int) (c : Cmd) : Int × Int × Int :=
  (if s.2.2 + c.dv < s.1 then s.2.2 + c.dv else s.1, if s.2.2 + c.dv > s.2.1 then s.2.2 + c.dv else s.2.1, s.2.2 + c.dv)
def rchM (cs : List Cmd) : Int × Int × Int := cs.foldl rstep (0, 0, 0)
theorem rch_more {cs : List Cmd} {i : Nat} {c : Cmd} (h : cs[i]? = some c) : rchM (cs.take (i + 1)) = rstep (rchM (cs.take i)) c := by
  unfold rchM
  rw [take_snoc h, List.foldl_append]
  rfl
theorem rch_last : ∀ (cs : List Cmd) (s : Int × Int × Int), (cs.foldl rstep s).2.2 = s.2.2 + last cs
  | [], s => by show s.2.2 = s.2.2 + 0; omega
  | c :: cs, s => by
    show (cs.foldl rstep (rstep s c)).2.2 = s.2.2 + (c.dv + last cs)
    rw [rch_last cs]
    show s.2.2 + c.dv + last cs = _
    omega
def spReach (K : PySem.W.Frag) : Sp := fun vs H Q _ => ∃ (l : Addr) (xs : List V) (cs : List Cmd), vs = [.ref l] ∧ SqL K H l xs ∧ CmdsOf K H xs cs ∧ AllOk cs ∧ cs.length ≤ 10000 ∧
  ∀ (H' : Hp) (p : Addr), Same H H' → H p = none → H' p = some (.tup [.int (rchM cs).1, .int (rchM cs).2.1, .int (last cs)]) → Q (.ref p) H'
def spNum : Sp := fun vs H Q _ => ∃ n k : Int, vs = [.int n, .int k] ∧ k ≤ n ∧ Q .non H
def spReq : Sp := fun vs H Q _ => ∃ (d : Addr) (b : Ps) (o v : Int), vs = [.ref d, .int o, .int v] ∧ H d = some (.dK (dkI b)) ∧ b.length ≤ 10000 ∧ Q .non (upd H d (.dK (dkI (req b o v))))
/-- the tuple of a box, its list and its pairs, all new -/
def BoxAt (H H' : Hp) (p : Addr) (st : Option Int) (L : Ps) : Prop := ∃ (m : Addr) (ts : List Addr), H p = none ∧ H m = none ∧ H' p = some (.tup [optV st, .ref m]) ∧ H' m = some (.lst (ts.map V.ref)) ∧
  Paired (fun (t : Addr) (q : Int × Int) => H' t = some (.tup [.int q.1, .int q.2])) ts L
def spBox (K : PySem.W.Frag) : Sp := fun vs H Q _ => ∃ (l : Addr) (xs : List V) (cs : List Cmd) (goal : Int), vs = [.ref l, .int goal] ∧ SqL K H l xs ∧ CmdsOf K H xs cs ∧ AllOk cs ∧ cs.length ≤ 10000 ∧ 1 ≤ goal ∧
  (boxM cs goal = none → ∀ H', Same H H' → Q .non H') ∧ ∀ st L, boxM cs goal = some (st, L) → ∀ H' p, Same H H' → BoxAt H H' p st L → Q (.ref p) H'
section
variable {P : Program} {w : World} {K : PySem.W.Frag} {mg : Str → Option Value} {base : Heap} {wo wn : Addr}
theorem sc_reach : FnScope ["commands", "least", "greatest", "last", "command"] ["commands"] (defScope s_reach) := ⟨rfl, rfl, rfl, by decide +kernel, rfl, by decide +kernel, by decide +kernel⟩
theorem ok_reach {f : Addr} {fd : FuncData} (F : Fun K "reach" "reach" s_reach f fd) (T : TxtB K mg wo wn) (c_check_commands : Cal P w K mg base 3 "check_commands" (spCheck K)) (c_row_change : Cal P w K mg base 1 "row_change" (spRow K)) :
    FnOk P w K mg base CX0 4 f fd ["commands"] (spReach K) := by
  refine F.ok sc_reach (fun vs H Q E h => ?_) (fun cdv A outer s H vs Q E hr h => ?_)
  · obtain ⟨l, xs, cs, rfl, _⟩ := h
    rfl
  · obtain ⟨l, xs, cs, rfl, hl, hcs, hk, hn, k⟩ := h
    refine ⟨_, (pss_cons (ps_expr (pe_cal c_check_commands hr (by decide) (by rfl) (pa_cons (pv 0) pa_nil)))
      (pss_cons (ps_asg3 pe_int (pg_name (i := 1) sc_reach.nd rfl (Or.inl rfl)) (pg_name (i := 2) sc_reach.nd rfl (Or.inl rfl)) (pg_name (i := 3) sc_reach.nd rfl (Or.inl rfl)))
      (pss_cons (ps_for PassesOwn.never rfl (pi_list (pv 0)) (pg_name (i := 4) sc_reach.nd rfl (Or.inl rfl)) (pss_cons (ps_aug (i := 3) sc_reach.nd rfl (Or.inl rfl) (pe_cal c_row_change hr (by decide) (by rfl) (pa_cons (pv 4) pa_nil)) ip_add)
      (pss_cons (ps_set (i := 1) sc_reach.nd rfl (Or.inl rfl) (pe_callB (call_min2 rfl) (by rfl) T.min (by decide +kernel) (pa_cons (pv 1) (pa_cons (pv 3) pa_nil))))
      (pss_one (ps_set (i := 2) sc_reach.nd rfl (Or.inl rfl) (pe_callB (call_max2 rfl) (by rfl) T.max (by decide +kernel) (pa_cons (pv 2) (pa_cons (pv 3) pa_nil))))))))
      (pss_one (ps_ret (pe_tup (pa_cons (pv 1) (pa_cons (pv 2) (pa_cons (pv 3) pa_nil))))))))), ?_⟩
    refine ⟨_, rfl, l, xs, cs, rfl, hl, hcs, hk, hn, fun H1 e1 => ?_⟩
    refine ⟨_, rfl, l, rfl, ⟨_, e1.seq hl⟩, for_list (K := K) (a := l) (xs := xs) (fun i σ H' => ∃ v : Option V, σ = [some (.ref l), some (.int (rchM (cs.take i)).1), some (.int (rchM (cs.take i)).2.1), some (.int (rchM (cs.take i)).2.2), v] ∧ Same H H')
      ⟨none, rfl, e1⟩ (fun i σ H' _ ⟨_, _, e⟩ => e.seq hl) (fun i x σ H2 hi h => ?_) (fun σ H2 h => ?_)⟩
    · obtain ⟨v, rfl, e⟩ := h
      obtain ⟨c, hc, hca⟩ := paired_at hcs hi
      refine ⟨_, rfl, _, rfl, x, c, rfl, hca.same e, _, _, rfl, rfl, ?_⟩
      refine ⟨_, rfl, _, rfl, _, _, rfl, ?_⟩
      refine ⟨_, rfl, _, rfl, _, _, rfl, ?_⟩
      refine ⟨some x, ?_, e⟩
      rw [rch_more hc]
      rfl
    · obtain ⟨v, rfl, e⟩ := h
      have el : (rchM (cs.take xs.length)).2.2 = last cs := by
        rw [hcs.len, List.take_length]
        unfold rchM
        rw [rch_last]
        show (0 : Int) + last cs = last cs
        omega
      rw [el, hcs.len, List.take_length]
      refine ⟨_, rfl, _, rfl, _, rfl, (by show 3 ≤ sizeLine; decide), fun p hp => ?_⟩
      exact k _ p (same_upd e hp) (e.free hp) upd_same
theorem sc_check_number : FnScope ["number", "least"] ["number", "least"] (defScope s_check_number) := ⟨rfl, rfl, rfl, by decide +kernel, rfl, by decide +kernel, by decide +kernel⟩
theorem ok_check_number {f : Addr} {fd : FuncData} (F : Fun K "check_number" "check_number" s_check_number f fd) : FnOk P w K mg base CX0 1 f fd ["number", "least"] spNum := by
  refine F.ok sc_check_number (fun vs H Q E h => ?_) (fun cdv A outer s H vs Q E hr h => ?_)
  · obtain ⟨n, k, rfl, _⟩ := h
    rfl
  · obtain ⟨n, k, rfl, hn, q⟩ := h
    refine ⟨_, (pss_one (ps_if (pt_cmpR op_lt (pv 0) (pv 1) (nomark _)) (pss_one ps_never) pss_nil)), ?_⟩
    exact ⟨_, rfl, _, rfl, _, _, rfl, rfl, _, rfl, ite2 (fun c => absurd (of_decide_eq_true c) (by omega)) (fun _ => q)⟩
theorem sc_require : FnScope ["bounds", "offset", "bound"] ["bounds", "offset", "bound"] (defScope s_require) := ⟨rfl, rfl, rfl, by decide +kernel, rfl, by decide +kernel, by decide +kernel⟩
theorem ok_require {f : Addr} {fd : FuncData} (F : Fun K "require" "require" s_require f fd) (T : TxtB K mg wo wn) : FnOk P w K mg base CX0 1 f fd ["bounds", "offset", "bound"] spReq := by
  refine F.ok sc_require (fun vs H Q E h => ?_) (fun cdv A outer s H vs Q E hr h => ?_)
  · obtain ⟨d, b, o, v, rfl, _⟩ := h
    rfl
  · obtain ⟨d, b, o, v, rfl, hd, hz, k⟩ := h
    refine ⟨_, (pss_one (ps_dput (hu_of hr) (pv 0) (pv 1) (pe_callB (call_max2 rfl) (by rfl) T.max (by decide +kernel) (pa_cons (pv 2) (pa_cons (pe_dget2 (hu_of hr) (pv 0) (pv 1) (pv 2) ⟨rfl, rfl, rfl, rfl⟩) pa_nil))) rfl)), ?_⟩
    have eg : (valV (dkI b) (Sum.inl o : L2.Key)).getD (.int v) = .int ((look b o).getD v) := by
      rw [valV_dkI]
      cases look b o <;> rfl
    refine ⟨_, rfl, _, rfl, d, rfl, .inl ⟨_, .inl hd⟩, _, rfl, _, rfl, _, DGet.k (k := Sum.inl o) hd, v, (look b o).getD v, (by rw [eg]), ?_⟩
    refine ⟨_, rfl, _, rfl, d, _, rfl, DPut.k (k := Sum.inl o) hd ?_, ?_⟩
    · unfold dkI
      rw [List.length_map]
      exact Nat.lt_of_le_of_lt hz (by decide)
    · show Q .non (upd H d (.dK (putK (dkI b) (Sum.inl o : L2.Key) (.int (mx v ((look b o).getD v))))))
      rw [putK_dkI]
      exact k
theorem sc_box : FnScope ["commands", "goal", "bounds", "needed", "offset", "command"] ["commands", "goal"] (defScope s_box) := ⟨rfl, rfl, rfl, by decide +kernel, rfl, by decide +kernel, by decide +kernel⟩
theorem ok_box {f : Addr} {fd : FuncData} (F : Fun K "box" "box" s_box f fd) (T : TxtB K mg wo wn) (c_check_commands : Cal P w K mg base 3 "check_commands" (spCheck K)) (c_row_change : Cal P w K mg base 1 "row_change" (spRow K))
    (c_reach : Cal P w K mg base 4 "reach" (spReach K)) (c_check_number : Cal P w K mg base 1 "check_number" spNum) (c_require : Cal P w K mg base 1 "require" spReq) : FnOk P w K mg base CX0 5 f fd ["commands", "goal"] (spBox K) := by
  refine F.ok sc_box (fun vs H Q E h => ?_) (fun cdv A outer s H vs Q E hr h => ?_)
  · obtain ⟨l, xs, cs, goal, rfl, _⟩ := h
    rfl
  · obtain ⟨l, xs, cs, goal, rfl, hl, hcs, hk, hn, hg, kN, kS⟩ := h
    refine ⟨_, (pss_cons (ps_expr (pe_cal c_check_commands hr (by decide) (by rfl) (pa_cons (pv 0) pa_nil)))
      (pss_cons (ps_expr (pe_cal c_check_number hr (by decide) (by rfl) (pa_cons (pv 1) (pa_cons pe_int pa_nil))))
      (pss_cons (ps_set (i := 2) sc_box.nd rfl (Or.inl rfl) pe_dnewK)
      (pss_cons (ps_set (i := 3) sc_box.nd rfl (Or.inl rfl) (pv 1))
      (pss_cons (ps_set (i := 4) sc_box.nd rfl (Or.inl rfl) (pe_ix ix_tup (pe_cal c_reach hr (by decide) (by rfl) (pa_cons (pv 0) pa_nil)) pe_int (fun _ _ => rfl)))
      (C8.pss_cut (ps_for PassesOwn.never rfl (pi_reversed (by rfl) T.reversed (pa_cons (pv 0) pa_nil)) (pg_name (i := 5) sc_box.nd rfl (Or.inl rfl)) (pss_cons (ps_match (pe_ix ix_tup (pv 5) pe_int (fun _ _ => rfl)) (mc_str (pss_one (ps_ret pe_non)) (mc_str (pss_one (ps_set (i := 3) sc_box.nd rfl (Or.inl rfl) pe_non)) (mc_str (pss_cons (ps_expr (pe_cal c_require hr (by decide) (by rfl) (pa_cons (pv 2) (pa_cons (pv 4) (pa_cons (pv 3) pa_nil)))))
      (pss_one (ps_set (i := 3) sc_box.nd rfl (Or.inl rfl) (pe_ifExp (pt_cmpR op_gt (pv 3) (pe_ix ix_tup (pv 5) pe_int (fun _ _ => rfl)) (nomark _)) (pe_op op_sub (pv 3) (pe_ix ix_tup (pv 5) pe_int (fun _ _ => rfl))) pe_non)))) (mc_str (pss_cons (ps_aug (i := 3) sc_box.nd rfl (Or.inl rfl) (pe_ix ix_tup (pv 5) pe_int (fun _ _ => rfl)) ip_add)
      (pss_one (ps_expr (pe_cal c_require hr (by decide) (by rfl) (pa_cons (pv 2) (pa_cons (pv 4) (pa_cons (pv 3) pa_nil))))))) (mc_any (pss_one (ps_aug (i := 4) sc_box.nd rfl (Or.inl rfl) (pe_cal c_row_change hr (by decide) (by rfl) (pa_cons (pv 5) pa_nil)) ip_sub))))))))
      (pss_one (ps_if (pt_cmpR op_isN (pv 3) pe_non (nomark _)) (pss_one ps_break) pss_nil))))
      (pss_one (ps_ret (pe_tup (pa_cons (pv 3) (pa_cons (pe_sortItems rfl hr.units (pv 2) (by rfl) T.sorted (by decide +kernel)) pa_nil))))))))))), ?_⟩
    refine ⟨_, rfl, l, xs, cs, rfl, hl, hcs, hk, hn, fun H1 e1 => ?_⟩
    refine ⟨_, rfl, _, _, rfl, hg, ?_⟩
    -- bounds = {}; needed = goal; offset = reach(commands)[2]
    refine fun d hd => ?_
    have hd0 : H d = none := e1.free hd
    refine ⟨_, rfl, _, rfl, l, xs, cs, rfl, (same_upd e1 hd).seq hl, hcs.same (same_upd e1 hd), hk, hn, fun H2 p e2 np h2 => ⟨p, _, 2, _, rfl, rfl, SqT.of h2, rfl, ?_⟩⟩
    have e02 : Same H H2 := (same_upd e1 hd).trans e2
    have hd2 : H2 d = some (.dK (dkI [])) := e2 _ _ upd_same
    -- for command in reversed(commands)
    refine ⟨fun σ H' => ∃ (st : Option Int) (b : Ps) (v4 v5 : Option V), σ = [some (.ref l), some (.int goal), some (.ref d), some (optV st), v4, v5] ∧ go cs.reverse (last cs) goal [] = some (st, b) ∧ Same H H' ∧ H' d = some (.dK (dkI b)) ∧ b.length ≤ 10000, ?_, ?_⟩
    · refine ⟨_, rfl, l, xs, rfl, e02.seq hl, RT.for_Itv (K := K) (a := l) (xs := xs) (fun i σ H' => ∃ (off need : Int) (b : Ps) (v5 : Option V), σ = [some (.ref l), some (.int goal), some (.ref d), some (.int need), some (.int off), v5] ∧
          go cs.reverse (last cs) goal [] = go (cs.reverse.drop i) off need b ∧ Same H H' ∧ H' d = some (.dK (dkI b)) ∧ b.length ≤ i ∧ i ≤ cs.length)
        ⟨last cs, goal, [], none, rfl, rfl, e02, hd2, Nat.le_refl _, Nat.zero_le _⟩ (fun i σ H' ⟨_, _, _, _, _, _, e, _⟩ => e.seq hl) (fun i x σ H3 hi hx h => ?_) (fun σ H3 h => ?_)⟩
      · obtain ⟨off, need, b, v5, rfl, hgo, e3, hd3, hb, hil⟩ := h
        obtain ⟨c, hc, hca⟩ := paired_at hcs hx
        have hcl := hcs.len
        have hrev : cs.reverse[i]? = some c := by
          rw [List.getElem?_reverse (by omega), ← hcl]
          exact hc
        have hdrop : cs.reverse.drop i = c :: cs.reverse.drop (i + 1) := by
          obtain ⟨h1, h2⟩ := List.getElem?_eq_some_iff.mp hrev
          rw [List.drop_eq_getElem_cons h1, h2]
        rw [hdrop] at hgo
        obtain ⟨a, rfl, hca0⟩ := hca.same e3
        have hi' : i < cs.length := by omega
        have hb' : b.length ≤ 10000 := by omega
        have goR : ∀ o v, (req b o v).length ≤ i + 1 := fun o v => Nat.le_trans (req_len b o v) (by omega)
        have sameU : ∀ z, Same H (upd H3 d z) := fun z b' o' q => by
          rw [upd_ne (ne_of_none q hd0)]
          exact e3 _ _ q
        cases c with
        | home =>
          refine ⟨_, rfl, a, _, 0, _, rfl, rfl, hca0, rfl, m_yes (by decide +kernel) ?_⟩
          refine kN ?_ _ e3
          unfold boxM
          rw [hgo]
          rfl
        | stop =>
          refine ⟨_, rfl, a, _, 0, _, rfl, rfl, hca0, rfl, m_no (by decide +kernel) (m_yes (by decide +kernel) ?_)⟩
          refine ⟨_, rfl, rfl, _, rfl, iteT ?_⟩
          exact ⟨none, b, _, _, rfl, hgo, e3, hd3, hb'⟩
        | right n =>
          refine ⟨_, rfl, a, _, 0, _, rfl, rfl, hca0, rfl, m_no (by decide +kernel) (m_no (by decide +kernel) (m_yes (by decide +kernel) ?_))⟩
          refine ⟨_, rfl, _, rfl, _, rfl, d, b, off, need, rfl, hd3, hb', ?_⟩
          have hca1 : SqT K (upd H3 d (.dK (dkI (req b off need)))) a (encC (.right n)) := by
            rcases hca0 with (z | ⟨o, z⟩) | z
            · exact .inl (.inl (by rw [upd_ne (ne_of z hd3 (by intro q; cases q))]; exact z))
            · exact .inl (.inr ⟨o, by rw [upd_ne (ne_of z hd3 (by intro q; cases q))]; exact z⟩)
            · exact .inr z
          refine ⟨_, rfl, _, rfl, a, _, 1, _, rfl, rfl, hca1, rfl, _, _, rfl, rfl, _, rfl, ite2 (fun c => ?_) (fun c => ?_)⟩
          · have c' : n < need := of_decide_eq_true c
            refine ⟨_, rfl, _, rfl, a, _, 1, _, rfl, rfl, hca1, rfl, _, _, rfl, rfl, ?_⟩
            refine ⟨_, rfl, rfl, _, rfl, iteF ?_⟩
            refine ⟨off, need - n, req b off need, _, rfl, ?_, sameU _, upd_same, goR _ _, hi'⟩
            rw [hgo]
            simp only [go]
            rw [if_pos c']
          · have c' : ¬ n < need := fun z => c (decide_eq_true z)
            refine ⟨_, rfl, rfl, _, rfl, iteT ?_⟩
            refine ⟨none, req b off need, _, _, rfl, ?_, sameU _, upd_same, Nat.le_trans (goR _ _) (by omega)⟩
            rw [hgo]
            simp only [go]
            rw [if_neg c']
        | left n =>
          refine ⟨_, rfl, a, _, 0, _, rfl, rfl, hca0, rfl, m_no (by decide +kernel) (m_no (by decide +kernel) (m_no (by decide +kernel) (m_yes (by decide +kernel) ?_)))⟩
          refine ⟨_, rfl, _, rfl, a, _, 1, _, rfl, rfl, hca0, rfl, _, _, rfl, rfl, ?_⟩
          refine ⟨_, rfl, _, rfl, _, rfl, d, b, off, need + n, rfl, hd3, hb', ?_⟩
          refine ⟨_, rfl, rfl, _, rfl, iteF ?_⟩
          exact ⟨off, need + n, req b off (need + n), _, rfl, hgo, sameU _, upd_same, goR _ _, hi'⟩
        | down n =>
          refine ⟨_, rfl, a, _, 0, _, rfl, rfl, hca0, rfl, m_no (by decide +kernel) (m_no (by decide +kernel) (m_no (by decide +kernel) (m_no (by decide +kernel) ?_)))⟩
          refine ⟨_, rfl, _, rfl, .ref a, .down n, rfl, ⟨a, rfl, hca0⟩, _, _, rfl, rfl, ?_⟩
          refine ⟨_, rfl, rfl, _, rfl, iteF ?_⟩
          exact ⟨off - n, need, b, _, rfl, hgo, e3, hd3, by omega, hi'⟩
        | up n =>
          refine ⟨_, rfl, a, _, 0, _, rfl, rfl, hca0, rfl, m_no (by decide +kernel) (m_no (by decide +kernel) (m_no (by decide +kernel) (m_no (by decide +kernel) ?_)))⟩
          refine ⟨_, rfl, _, rfl, .ref a, .up n, rfl, ⟨a, rfl, hca0⟩, _, _, rfl, rfl, ?_⟩
          refine ⟨_, rfl, rfl, _, rfl, iteF ?_⟩
          refine ⟨off - -n, need, b, _, rfl, ?_, e3, hd3, by omega, hi'⟩
          rw [hgo]
          simp only [go]
          rw [show off - -n = off + n by omega]
      · obtain ⟨off, need, b, v5, rfl, hgo, e3, hd3, hb, hil⟩ := h
        refine ⟨some need, b, _, _, rfl, ?_, e3, hd3, by omega⟩
        rw [hgo, hcs.len, ← List.length_reverse, List.drop_length]
        rfl
    · rintro σ H3 ⟨st, b, v4, v5, rfl, hgo, e3, hd3, hb⟩
      refine ⟨_, rfl, _, rfl, d, b, rfl, hd3, fun H4 m ts e4 nm hm hp => ⟨(by show 2 ≤ sizeLine; decide), fun p np => ?_⟩⟩
      have e5 : Same H4 (upd H4 p (.tup [optV st, .ref m])) := same_upd (Same.refl _) np
      refine kS st (b.mergeSort leK) ?_ _ p ((e3.trans e4).trans e5) ⟨m, ts, (e3.trans e4).free np, e3.free nm, upd_same, e5 _ _ hm, Paired.mapP hp fun _ _ q => e5 _ _ q⟩
      unfold boxM
      rw [hgo]
      rfl
end
end Gc

/-! running, where nothing is raised -/
namespace Gc
open PySem L2
abbrev s_check_text : Stmt := top 12
abbrev s_check_cursor : Stmt := top 13
abbrev s_run : Stmt := top 19
abbrev s_shown_column : Stmt := top 21
abbrev s_moved : Stmt := top 23
abbrev s_new_goal : Stmt := top 24
theorem at_len' {T : List Int} {r : Int} (h0 : 0 ≤ r) (h1 : r < T.length) : atI (T.map V.int) r = some (.int (lenAt T r)) := by
  have e : r = (r.toNat : Int) := by omega
  refine at_of (j := r.toNat) e ?_
  have l : r.toNat < T.length := by omega
  unfold lenAt
  rw [List.getElem?_map, List.getD_eq_getElem?_getD, List.getElem?_eq_getElem l]
  rfl
theorem minI (i j : Int) : (if j < i then j else i) = min i j := by split <;> omega
theorem maxI (i j : Int) : (if j > i then j else i) = max i j := by split <;> omega
theorem iteN1 {c A B : Prop} [Decidable c] (hc : c) (h : B) : if (!decide c) = true then A else B := by
  rw [decide_eq_true hc]
  exact iteF h
theorem iteN0 {c A B : Prop} [Decidable c] (hc : ¬ c) (h : A) : if (!decide c) = true then A else B := by
  rw [decide_eq_false hc]
  exact iteT h
def spText (K : PySem.W.Frag) : Sp := fun vs H Q _ => ∃ (t : Addr) (T : List Int), vs = [.ref t] ∧ SqL K H t (T.map V.int) ∧ T ≠ [] ∧ (∀ x ∈ T, 0 ≤ x) ∧ ∀ H', Same H H' → Q .non H'
def spCursor (K : PySem.W.Frag) : Sp := fun vs H Q _ => ∃ (n r : Int) (g : Option Int) (c : Addr), vs = [.int n, .ref c] ∧ SqT K H c [.int r, optV g] ∧ 0 ≤ r ∧ r < n ∧ ge g 0 ∧ Q .non H
def spShown : Sp := fun vs H Q _ => ∃ (t : Int) (g : Option Int), vs = [.int t, optV g] ∧ Q (.int (seen t g)) H
def spGoal (K : PySem.W.Frag) : Sp := fun vs H Q _ => ∃ (t : Int) (g : Option Int) (v : V) (c : Cmd), vs = [.int t, optV g, v] ∧ CmdAt K H v c ∧ Q (optV (aim1 t g c)) H
/-- one command: None, or the new cursor -/
def step1 (T : List Int) (r : Int) (g : Option Int) (c : Cmd) : Option (Int × Option Int) := if 0 ≤ r + c.dv ∧ r + c.dv < T.length then some (r + c.dv, aim1 (lenAt T (r + c.dv)) g c) else none
def spMoved (K : PySem.W.Frag) : Sp := fun vs H Q _ => ∃ (t b : Addr) (T : List Int) (r : Int) (g : Option Int) (v : V) (c : Cmd), vs = [.ref t, .ref b, v] ∧ SqL K H t (T.map V.int) ∧ SqT K H b [.int r, optV g] ∧ CmdAt K H v c ∧
  (step1 T r g c = none → Q .non H) ∧ ∀ r' g', step1 T r g c = some (r', g') → ∀ p, H p = none → Q (.ref p) (upd H p (.tup [.int r', optV g']))
def spRun (K : PySem.W.Frag) : Sp := fun vs H Q _ => ∃ (t b l : Addr) (T : List Int) (r : Int) (g : Option Int) (xs : List V) (cs : List Cmd) (r' : Int) (g' : Option Int), vs = [.ref t, .ref b, .ref l] ∧ SqL K H t (T.map V.int) ∧ SqT K H b [.int r, optV g] ∧ SqL K H l xs ∧ CmdsOf K H xs cs ∧
  (∀ x ∈ T, 0 ≤ x) ∧ 0 ≤ r ∧ r < T.length ∧ ge g 0 ∧ AllOk cs ∧ cs.length ≤ 10000 ∧ afterL T r g cs = some (r', g') ∧ ∀ (H' : Hp) (p : Addr), Same H H' → SqT K H' p [.int r', optV g'] → Q (.ref p) H'
theorem aim1_vert {t t' : Int} {g : Option Int} {c : Cmd} (h : c.vert = true) : aim1 t g c = g := by cases c <;> first | rfl | cases h
theorem dv_flat {c : Cmd} (h : ¬ c.vert = true) : c.dv = 0 := by cases c <;> first | rfl | exact absurd rfl h
theorem afterL_cons {T : List Int} {r : Int} {g : Option Int} {c : Cmd} {cs : List Cmd} (h0 : 0 ≤ r) (h1 : r < T.length) : afterL T r g (c :: cs) = (step1 T r g c).bind fun q => afterL T q.1 q.2 cs := by
  unfold step1
  simp only [afterL]
  by_cases v : c.vert = true
  · rw [if_pos v]
    by_cases i : 0 ≤ r + c.dv ∧ r + c.dv < T.length
    · rw [if_pos i, if_pos i, aim1_vert (t' := 0) v]
      rfl
    · rw [if_neg i, if_neg i]
      rfl
  · rw [if_neg v, dv_flat v, Int.add_zero, if_pos ⟨h0, h1⟩]
    rfl
theorem step1_in {T : List Int} {r r' : Int} {g g' : Option Int} {c : Cmd} (h : step1 T r g c = some (r', g')) : 0 ≤ r' ∧ r' < T.length := by
  unfold step1 at h
  split at h
  · rename_i i
    cases h
    exact i
  · cases h
section
variable {P : Program} {w : World} {K : PySem.W.Frag} {mg : Str → Option Value} {base : Heap} {wo wn : Addr}
theorem sc_check_text : FnScope ["text", "index", "length"] ["text"] (defScope s_check_text) := ⟨rfl, rfl, rfl, by decide +kernel, rfl, by decide +kernel, by decide +kernel⟩
theorem ok_check_text {f : Addr} {fd : FuncData} (F : Fun K "check_text" "check_text" s_check_text f fd) (T : TxtB K mg wo wn) : FnOk P w K mg base CX0 1 f fd ["text"] (spText K) := by
  refine F.ok sc_check_text (fun vs H Q E h => ?_) (fun cdv A outer s H vs Q E hr h => ?_)
  · obtain ⟨t, T, rfl, _⟩ := h
    rfl
  · obtain ⟨t, tx, rfl, ht, ne, nn, k⟩ := h
    refine ⟨_, (pss_cons (ps_if (pt_not (pt_truth (pv 0) (fun _ => rfl))) (pss_one ps_never) pss_nil)
      (pss_one (ps_for PassesOwn.never rfl (pi_enum (by rfl) T.enumerate (pa_cons (pv 0) pa_nil)) (pg_tup rfl (pgs_cons (pg_name (i := 1) sc_check_text.nd rfl (Or.inl rfl)) (pgs_cons (pg_name (i := 2) sc_check_text.nd rfl (Or.inl rfl)) pgs_nil))) (pss_one (ps_if (pt_cmpR op_lt (pv 2) pe_int (nomark _)) (pss_one ps_never) pss_nil))))), ?_⟩
    refine ⟨_, rfl, true, .inl ⟨_, ht, ?_⟩, iteF ?_⟩
    · cases tx with
      | nil => exact absurd rfl ne
      | cons x r => rfl
    refine ⟨_, rfl, t, _, rfl, ht, for_it (walk_enum (K := K) (a := t) (xs := tx.map V.int)) (fun i σ H' => ∃ v1 v2 : Option V, σ = [some (.ref t), v1, v2] ∧ Same H H')
      ⟨none, none, rfl, Same.refl H⟩ (fun i σ H' _ ⟨_, _, _, e⟩ => e.seq ht) (fun i x σ H1 H2 hi h y => ?_) (fun σ H1 h => ?_)⟩
    · obtain ⟨v1, v2, rfl, e⟩ := h
      obtain ⟨T1, x1, y1, rfl, nT, rfl, e1, e2⟩ := y
      obtain ⟨z, hz, rfl⟩ : ∃ z, tx[i]? = some z ∧ y1 = .int z := by
        have e3 : (tx.map V.int)[i]? = some y1 := e2
        rw [List.getElem?_map] at e3
        cases q : tx[i]? with
        | none =>
          rw [q] at e3
          cases e3
        | some z =>
          rw [q] at e3
          exact ⟨z, rfl, (Option.some.inj e3).symm⟩
      have z0 := nn z (List.mem_of_getElem? hz)
      refine ⟨T1, _, rfl, SqT.of upd_same, rfl, _, _, rfl, _, _, rfl, rfl, ?_⟩
      refine ⟨_, rfl, _, _, rfl, rfl, _, rfl, ite2 (fun c => absurd (of_decide_eq_true c) (by omega)) (fun _ => ?_)⟩
      exact ⟨_, _, rfl, same_upd e nT⟩
    · obtain ⟨v1, v2, rfl, e⟩ := h
      exact k _ e
theorem sc_check_cursor : FnScope ["lines", "cursor", "row", "goal"] ["lines", "cursor"] (defScope s_check_cursor) := ⟨rfl, rfl, rfl, by decide +kernel, rfl, by decide +kernel, by decide +kernel⟩
theorem ok_check_cursor {f : Addr} {fd : FuncData} (F : Fun K "check_cursor" "check_cursor" s_check_cursor f fd) : FnOk P w K mg base CX0 1 f fd ["lines", "cursor"] (spCursor K) := by
  refine F.ok sc_check_cursor (fun vs H Q E h => ?_) (fun cdv A outer s H vs Q E hr h => ?_)
  · obtain ⟨n, r, g, c, rfl, _⟩ := h
    rfl
  · obtain ⟨n, r, g, c, rfl, hc, r0, r1, g0, k⟩ := h
    refine ⟨_, (pss_cons (ps_asg (pv 1) (pg_tup rfl (pgs_cons (pg_name (i := 2) sc_check_cursor.nd rfl (Or.inl rfl)) (pgs_cons (pg_name (i := 3) sc_check_cursor.nd rfl (Or.inl rfl)) pgs_nil))))
      (pss_one (ps_if (PW.pt (pw_or (pt_not (pt_chain op_le op_lt pe_int (pv 2) (pv 0))) (pw_or1 (PW.pt (pw_and (pt_cmpR op_notN (pv 3) pe_non (nomark _)) (pw_and1 (pt_cmpR op_lt (pv 3) pe_int (nomark _)))))))) (pss_one ps_never) pss_nil))), ?_⟩
    refine ⟨_, rfl, c, _, rfl, hc, rfl, _, _, rfl, _, _, rfl, rfl, ?_⟩
    refine ⟨_, rfl, _, _, rfl, rfl, _, rfl, ite2 (fun _ => ?_) (fun c => absurd (decide_eq_true r0) c)⟩
    refine ⟨_, rfl, _, _, rfl, rfl, _, rfl, ?_⟩
    refine iteN1 r1 ?_
    cases g with
    | none => exact ⟨_, rfl, rfl, _, rfl, iteF (iteF k)⟩
    | some y =>
      have y0 := ge_some.mp g0
      refine ⟨_, rfl, rfl, _, rfl, iteT ?_⟩
      refine ⟨_, rfl, _, _, rfl, rfl, _, rfl, ite2 (fun c => absurd (of_decide_eq_true c) (by omega)) (fun _ => k)⟩
theorem sc_shown_column : FnScope ["length", "goal"] ["length", "goal"] (defScope s_shown_column) := ⟨rfl, rfl, rfl, by decide +kernel, rfl, by decide +kernel, by decide +kernel⟩
theorem ok_shown_column {f : Addr} {fd : FuncData} (F : Fun K "shown_column" "shown_column" s_shown_column f fd) (T : TxtB K mg wo wn) : FnOk P w K mg base CX0 1 f fd ["length", "goal"] spShown := by
  refine F.ok sc_shown_column (fun vs H Q E h => ?_) (fun cdv A outer s H vs Q E hr h => ?_)
  · obtain ⟨t, g, rfl, _⟩ := h
    rfl
  · obtain ⟨t, g, rfl, k⟩ := h
    refine ⟨_, (pss_one (ps_ret (pe_ifExp (pt_cmpR op_isN (pv 1) pe_non (nomark _)) (pv 0) (pe_callB (call_min2 rfl) (by rfl) T.min (by decide +kernel) (pa_cons (pv 1) (pa_cons (pv 0) pa_nil)))))), ?_⟩
    cases g with
    | none => exact ⟨_, rfl, rfl, _, rfl, iteT ⟨_, rfl, k⟩⟩
    | some y =>
      refine ⟨_, rfl, rfl, _, rfl, iteF ?_⟩
      refine ⟨_, rfl, _, rfl, _, _, rfl, ?_⟩
      show Q (.int (if t < y then t else y)) H
      rw [minI]
      exact k
theorem sc_new_goal : FnScope ["length", "goal", "command"] ["length", "goal", "command"] (defScope s_new_goal) := ⟨rfl, rfl, rfl, by decide +kernel, rfl, by decide +kernel, by decide +kernel⟩
theorem ok_new_goal {f : Addr} {fd : FuncData} (F : Fun K "new_goal" "new_goal" s_new_goal f fd) (T : TxtB K mg wo wn) (c_shown_column : Cal P w K mg base 1 "shown_column" spShown) : FnOk P w K mg base CX0 2 f fd ["length", "goal", "command"] (spGoal K) := by
  refine F.ok sc_new_goal (fun vs H Q E h => ?_) (fun cdv A outer s H vs Q E hr h => ?_)
  · obtain ⟨t, g, v, c, rfl, _⟩ := h
    rfl
  · obtain ⟨t, g, v, c, rfl, ⟨a, rfl, hc⟩, k⟩ := h
    refine ⟨_, (pss_one (ps_match (pe_ix ix_tup (pv 2) pe_int (fun _ _ => rfl)) (mc_str (pss_one (ps_ret pe_int)) (mc_str (pss_one (ps_ret pe_non)) (mc_str (pss_one (ps_ret (pe_callB (call_min2 rfl) (by rfl) T.min (by decide +kernel) (pa_cons (pe_op op_add (pe_cal c_shown_column hr (by decide) (by rfl) (pa_cons (pv 0) (pa_cons (pv 1) pa_nil))) (pe_ix ix_tup (pv 2) pe_int (fun _ _ => rfl))) (pa_cons (pv 0) pa_nil))))) (mc_str (pss_one (ps_ret (pe_callB (call_max2 rfl) (by rfl) T.max (by decide +kernel) (pa_cons (pe_op op_sub (pe_cal c_shown_column hr (by decide) (by rfl) (pa_cons (pv 0) (pa_cons (pv 1) pa_nil))) (pe_ix ix_tup (pv 2) pe_int (fun _ _ => rfl))) (pa_cons pe_int pa_nil))))) (mc_any (pss_one (ps_ret (pv 1)))))))))), ?_⟩
    cases c with
    | home => exact ⟨_, rfl, a, _, 0, _, rfl, rfl, hc, rfl, m_yes (by decide +kernel) k⟩
    | stop => exact ⟨_, rfl, a, _, 0, _, rfl, rfl, hc, rfl, m_no (by decide +kernel) (m_yes (by decide +kernel) k)⟩
    | right n =>
      refine ⟨_, rfl, a, _, 0, _, rfl, rfl, hc, rfl, m_no (by decide +kernel) (m_no (by decide +kernel) (m_yes (by decide +kernel) ?_))⟩
      refine ⟨_, rfl, _, rfl, t, g, rfl, _, rfl, a, _, 1, _, rfl, rfl, hc, rfl, _, _, rfl, rfl, _, rfl, _, _, rfl, ?_⟩
      show Q (.int (if t < seen t g + n then t else seen t g + n)) H
      rw [minI]
      exact k
    | left n =>
      refine ⟨_, rfl, a, _, 0, _, rfl, rfl, hc, rfl, m_no (by decide +kernel) (m_no (by decide +kernel) (m_no (by decide +kernel) (m_yes (by decide +kernel) ?_)))⟩
      refine ⟨_, rfl, _, rfl, t, g, rfl, _, rfl, a, _, 1, _, rfl, rfl, hc, rfl, _, _, rfl, rfl, _, _, rfl, ?_⟩
      show Q (.int (if 0 > seen t g - n then 0 else seen t g - n)) H
      rw [maxI, Int.max_comm]
      exact k
    | down n => exact ⟨_, rfl, a, _, 0, _, rfl, rfl, hc, rfl, m_no (by decide +kernel) (m_no (by decide +kernel) (m_no (by decide +kernel) (m_no (by decide +kernel) ⟨_, rfl, k⟩)))⟩
    | up n => exact ⟨_, rfl, a, _, 0, _, rfl, rfl, hc, rfl, m_no (by decide +kernel) (m_no (by decide +kernel) (m_no (by decide +kernel) (m_no (by decide +kernel) ⟨_, rfl, k⟩)))⟩
theorem sc_moved : FnScope ["text", "cursor", "command", "row"] ["text", "cursor", "command"] (defScope s_moved) := ⟨rfl, rfl, rfl, by decide +kernel, rfl, by decide +kernel, by decide +kernel⟩
theorem ok_moved {f : Addr} {fd : FuncData} (F : Fun K "moved" "moved" s_moved f fd) (T : TxtB K mg wo wn) (c_row_change : Cal P w K mg base 1 "row_change" (spRow K)) (c_new_goal : Cal P w K mg base 2 "new_goal" (spGoal K)) : FnOk P w K mg base CX0 3 f fd ["text", "cursor", "command"] (spMoved K) := by
  refine F.ok sc_moved (fun vs H Q E h => ?_) (fun cdv A outer s H vs Q E hr h => ?_)
  · obtain ⟨t, b, tx, r, g, v, c, rfl, _⟩ := h
    rfl
  · obtain ⟨t, b, tx, r, g, v, c, rfl, ht, hb, hv, kn, ks⟩ := h
    refine ⟨_, (pss_cons (ps_set (i := 3) sc_moved.nd rfl (Or.inl rfl) (pe_op op_add (pe_ix ix_tup (pv 1) pe_int (fun _ _ => rfl)) (pe_cal c_row_change hr (by decide) (by rfl) (pa_cons (pv 2) pa_nil))))
      (pss_cons (ps_if (pt_not (pt_chain op_le op_lt pe_int (pv 3) (pe_callB call_len_seq (by rfl) T.len (by decide +kernel) (pa_cons (pv 0) pa_nil)))) (pss_one (ps_ret pe_non)) pss_nil)
      (pss_one (ps_ret (pe_tup (pa_cons (pv 3) (pa_cons (pe_cal c_new_goal hr (by decide) (by rfl) (pa_cons (pe_ix ix_list (pv 0) (pv 3) (fun _ _ => rfl)) (pa_cons (pe_ix ix_tup (pv 1) pe_int (fun _ _ => rfl)) (pa_cons (pv 2) pa_nil)))) pa_nil))))))), ?_⟩
    refine ⟨_, rfl, b, _, 0, _, rfl, rfl, hb, rfl, _, rfl, v, c, rfl, hv, _, _, rfl, rfl, ?_⟩
    have out : ¬ (0 ≤ r + c.dv ∧ r + c.dv < tx.length) → Q .non H := fun z => kn (by unfold step1; rw [if_neg z])
    refine ⟨_, rfl, _, _, rfl, rfl, _, rfl, ite2 (fun c0 => ?_) (fun c0 => ?_)⟩
    · have c0' : 0 ≤ r + c.dv := of_decide_eq_true c0
      refine ⟨_, rfl, t, _, rfl, .inl ht, _, _, rfl, rfl, _, rfl, ?_⟩
      by_cases c1 : r + c.dv < tx.length
      · refine iteN1 (by rw [List.length_map]; exact c1) ?_
        refine ⟨_, rfl, _, rfl, _, rfl, t, _, _, _, rfl, rfl, ht, at_len' c0' c1, _, rfl, b, _, 1, _, rfl, rfl, hb, rfl, _, rfl, lenAt tx (r + c.dv), g, v, c, rfl, hv, (by show 2 ≤ sizeLine; decide), fun p hp => ?_⟩
        exact ks _ _ (by unfold step1; rw [if_pos ⟨c0', c1⟩]) p hp
      · refine iteN0 (by rw [List.length_map]; exact c1) ?_
        exact out fun z => c1 z.2
    · refine ⟨_, rfl, ?_⟩
      refine iteT (B := _) ?_
      exact out fun z => c0 (decide_eq_true z.1)
theorem sc_run : FnScope ["text", "cursor", "commands", "place", "index", "command"] ["text", "cursor", "commands"] (defScope s_run) := ⟨rfl, rfl, rfl, by decide +kernel, rfl, by decide +kernel, by decide +kernel⟩
theorem ok_run {f : Addr} {fd : FuncData} (F : Fun K "run" "run" s_run f fd) (T : TxtB K mg wo wn) (c_check_text : Cal P w K mg base 1 "check_text" (spText K)) (c_check_cursor : Cal P w K mg base 1 "check_cursor" (spCursor K))
    (c_check_commands : Cal P w K mg base 3 "check_commands" (spCheck K)) (c_moved : Cal P w K mg base 3 "moved" (spMoved K)) : FnOk P w K mg base CX0 4 f fd ["text", "cursor", "commands"] (spRun K) := by
  refine F.ok sc_run (fun vs H Q E h => ?_) (fun cdv A outer s H vs Q E hr h => ?_)
  · obtain ⟨t, b, l, tx, r, g, xs, cs, r', g', rfl, _⟩ := h
    rfl
  · obtain ⟨t, b, l, tx, r, g, xs, cs, r', g', rfl, ht, hb, hl, hcs, nn, r0, r1, g0, ok, ln, hrun, k⟩ := h
    refine ⟨_, (pss_cons (ps_expr (pe_cal c_check_text hr (by decide) (by rfl) (pa_cons (pv 0) pa_nil)))
      (pss_cons (ps_expr (pe_cal c_check_cursor hr (by decide) (by rfl) (pa_cons (pe_callB call_len_seq (by rfl) T.len (by decide +kernel) (pa_cons (pv 0) pa_nil)) (pa_cons (pv 1) pa_nil))))
      (pss_cons (ps_expr (pe_cal c_check_commands hr (by decide) (by rfl) (pa_cons (pv 2) pa_nil)))
      (pss_cons (ps_set (i := 3) sc_run.nd rfl (Or.inl rfl) (pv 1))
      (pss_cons (ps_for PassesOwn.never rfl (pi_enum (by rfl) T.enumerate (pa_cons (pv 2) pa_nil)) (pg_tup rfl (pgs_cons (pg_name (i := 4) sc_run.nd rfl (Or.inl rfl)) (pgs_cons (pg_name (i := 5) sc_run.nd rfl (Or.inl rfl)) pgs_nil))) (pss_cons (ps_set (i := 3) sc_run.nd rfl (Or.inl rfl) (pe_cal c_moved hr (by decide) (by rfl) (pa_cons (pv 0) (pa_cons (pv 3) (pa_cons (pv 5) pa_nil)))))
      (pss_one (ps_if (pt_cmpR op_isN (pv 3) pe_non (nomark _)) (pss_one ps_never) pss_nil))))
      (pss_one (ps_ret (pv 3)))))))), ?_⟩
    refine ⟨_, rfl, t, tx, rfl, ht, (by intro z; subst z; simp at r1; omega), nn, fun H1 e1 => ?_⟩
    refine ⟨_, rfl, t, _, rfl, .inl (e1.seq ht), _, rfl, (tx.map V.int).length, r, g, b, rfl, seq_t e1 hb, r0, by rw [List.length_map]; exact r1, g0, ?_⟩
    refine ⟨_, rfl, l, xs, cs, rfl, e1.seq hl, hcs.same e1, ok, ln, fun H2 e2 => ?_⟩
    have e12 := e1.trans e2
    refine ⟨_, rfl, ?_⟩
    refine ⟨_, rfl, l, _, rfl, e12.seq hl, for_it (walk_enum (K := K) (a := l) (xs := xs)) (fun i σ H' => ∃ (p : Addr) (rr : Int) (gg : Option Int) (v1 v2 : Option V), σ = [some (.ref t), some (.ref b), some (.ref l), some (.ref p), v1, v2] ∧ Same H H' ∧ SqT K H' p [.int rr, optV gg] ∧ 0 ≤ rr ∧ rr < tx.length ∧ afterL tx rr gg (cs.drop i) = some (r', g'))
      ⟨b, r, g, none, none, rfl, e12, seq_t e12 hb, r0, r1, hrun⟩ (fun i σ H' _ ⟨_, _, _, _, _, _, e, _⟩ => e.seq hl) (fun i x σ H3 H4 hi h y => ?_) (fun σ H3 h => ?_)⟩
    · obtain ⟨p, rr, gg, v1, v2, rfl, e3, hp, q0, q1, hgo⟩ := h
      obtain ⟨T1, x1, y1, rfl, nT, rfl, ex1, ex2⟩ := y
      obtain ⟨c, hc, hca⟩ := paired_at hcs ex2
      have hdrop : cs.drop i = c :: cs.drop (i + 1) := by
        obtain ⟨h1, h2⟩ := List.getElem?_eq_some_iff.mp hc
        rw [List.drop_eq_getElem_cons h1, h2]
      rw [hdrop, afterL_cons q0 q1] at hgo
      have eT : Same H3 (upd H3 T1 (.tup [x1, y1])) := same_upd (Same.refl _) nT
      have eHT := e3.trans eT
      obtain ⟨⟨r2, g2⟩, hst, hrest⟩ := Option.bind_eq_some_iff.mp hgo
      have hin := step1_in hst
      refine ⟨T1, _, rfl, SqT.of upd_same, rfl, _, _, rfl, _, _, rfl, rfl, ?_⟩
      refine ⟨_, rfl, _, rfl, _, rfl, t, p, tx, rr, gg, y1, c, rfl, eHT.seq ht, seq_t eT hp, hca.same eHT, (fun z => by rw [hst] at z; cases z), fun r3 g3 z p3 np3 => ?_⟩
      rw [hst] at z
      cases z
      have e4 : Same (upd H3 T1 (.tup [x1, y1])) (upd (upd H3 T1 (.tup [x1, y1])) p3 (.tup [.int r2, optV g2])) := same_upd (Same.refl _) np3
      refine ⟨_, rfl, rfl, _, rfl, iteF ?_⟩
      exact ⟨p3, r2, g2, _, _, rfl, eHT.trans e4, SqT.of upd_same, hin.1, hin.2, hrest⟩
    · obtain ⟨p, rr, gg, v1, v2, rfl, e3, hp, q0, q1, hgo⟩ := h
      rw [hcs.len, List.drop_length] at hgo
      have z : (rr, gg) = (r', g') := Option.some.inj hgo
      cases z
      exact ⟨_, rfl, k _ p e3 hp⟩
end
end Gc

/-! the program's checks, where they may raise -/
namespace Gc
open PySem L2
/-- an error of the class at C that carries v is let out: its dict is new, all else is as it was -/
def Err (E : XK) (C : Addr) (v : V) (H : Hp) : Prop := ∀ (H' : Hp) (d : Addr), Same H H' → H' d = none → E (.ref C) (some d) (upd H' d (.xd [("value", v)]))
theorem Err.same {E : XK} {C : Addr} {v : V} {H H' : Hp} (e : Same H H') (h : Err E C v H) : Err E C v H' := fun H2 d s n => h H2 d (e.trans s) n
theorem Err.ask {E : XK} {C : Addr} {v : V} {H H' : Hp} (e : Same H H') (h : Err E C v H) : rRaise C E v H' := ask_raise fun d hd => h H' d e hd
/-- a tuple that may be no command -/
inductive Raw where
  | nil
  | one (n : Str)
  | two (n : Str) (k : Int)
  | three (n : Str) (k j : Int)
def encR : Raw → List V
  | .nil => []
  | .one n => [.str n]
  | .two n k => [.str n, .int k]
  | .three n k j => [.str n, .int k, .int j]
def withN : List V := [.str "down", .str "up", .str "right", .str "left"]
def withoutN : List V := [.str "home", .str "end"]
def Raw.good : Raw → Bool
  | .one n => inV (.str n) withoutN
  | .two n k => inV (.str n) withN && decide (1 ≤ k)
  | _ => false
def Raw.cmd : Raw → Cmd
  | .one n => if n = "home" then .home else .stop
  | .two n k => if n = "down" then .down k else if n = "up" then .up k else if n = "right" then .right k else .left k
  | _ => .home
theorem in_two {n : Str} (h : inV (.str n) withoutN = true) : n = "home" ∨ n = "end" := by
  simp only [inV, withoutN, List.any_cons, List.any_nil, eqV, Bool.or_false, Bool.or_eq_true, beq_iff_eq] at h
  rcases h with h | h
  · exact .inl h.symm
  · exact .inr h.symm
theorem in_four {n : Str} (h : inV (.str n) withN = true) : n = "down" ∨ n = "up" ∨ n = "right" ∨ n = "left" := by
  simp only [inV, withN, List.any_cons, List.any_nil, eqV, Bool.or_false, Bool.or_eq_true, beq_iff_eq] at h
  rcases h with h | h | h | h
  · exact .inl h.symm
  · exact .inr (.inl h.symm)
  · exact .inr (.inr (.inl h.symm))
  · exact .inr (.inr (.inr h.symm))
theorem Raw.enc {r : Raw} (h : r.good = true) : encR r = encC r.cmd ∧ r.cmd.ok := by
  cases r with
  | nil => cases h
  | one n =>
    rcases in_two h with e | e <;> subst e
    · exact ⟨rfl, trivial⟩
    · exact ⟨rfl, trivial⟩
  | two n k =>
    obtain ⟨h1, h2⟩ := Bool.and_eq_true_iff.mp h
    have hk := of_decide_eq_true h2
    rcases in_four h1 with e | e | e | e <;> subst e
    · exact ⟨rfl, hk⟩
    · exact ⟨rfl, hk⟩
    · exact ⟨rfl, hk⟩
    · exact ⟨rfl, hk⟩
  | three n k j => cases h
def RawAt (K : PySem.W.Frag) (H : Hp) (v : V) (r : Raw) : Prop := ∃ a, v = .ref a ∧ SqT K H a (encR r)
def RawsOf (K : PySem.W.Frag) (H : Hp) (xs : List V) (rs : List Raw) : Prop := Paired (RawAt K H) xs rs
theorem RawAt.same {K : PySem.W.Frag} {H H' : Hp} {v : V} {r : Raw} (e : Same H H') (h : RawAt K H v r) : RawAt K H' v r := by
  obtain ⟨a, rfl, h⟩ := h
  exact ⟨a, rfl, seq_t e h⟩
theorem RawsOf.same {K : PySem.W.Frag} {H H' : Hp} {xs : List V} {rs : List Raw} (e : Same H H') (h : RawsOf K H xs rs) : RawsOf K H' xs rs := Paired.mapP h fun _ _ q => q.same e
/-- the index of the first tuple that is no command -/
def badAt (rs : List Raw) : Option Nat := rs.findIdx? fun r => !r.good
theorem bad_at {rs : List Raw} {i : Nat} {r : Raw} (h : rs[i]? = some r) (g : r.good = false) (b : ∀ j r, j < i → rs[j]? = some r → r.good = true) : badAt rs = some i := by
  unfold badAt
  rw [List.findIdx?_eq_some_iff_getElem]
  obtain ⟨hi, e⟩ := List.getElem?_eq_some_iff.mp h
  refine ⟨hi, by rw [e, g]; rfl, fun j hj => ?_⟩
  have := b j rs[j] hj (List.getElem?_eq_getElem (by omega))
  rw [this]
  decide
theorem bad_none {rs : List Raw} (b : ∀ j r, j < rs.length → rs[j]? = some r → r.good = true) : badAt rs = none := by
  unfold badAt
  rw [List.findIdx?_eq_none_iff]
  intro r hr
  obtain ⟨j, hj, e⟩ := List.mem_iff_getElem.mp hr
  rw [b j r hj (by rw [List.getElem?_eq_getElem hj, e])]
  rfl
theorem bad_good {rs : List Raw} (h : badAt rs = none) : ∀ r ∈ rs, r.good = true := by
  unfold badAt at h
  rw [List.findIdx?_eq_none_iff] at h
  intro r hr
  have := h r hr
  cases e : r.good with
  | true => rfl
  | false =>
    rw [e] at this
    cases this
theorem raws_cmds {K : PySem.W.Frag} {H : Hp} : ∀ {xs : List V} {rs : List Raw}, RawsOf K H xs rs → (∀ r ∈ rs, r.good = true) → CmdsOf K H xs (rs.map Raw.cmd) ∧ AllOk (rs.map Raw.cmd)
  | [], [], _, _ => ⟨.nil, fun _ h => nomatch h⟩
  | _ :: _, r :: rs, .cons ⟨a, e, h⟩ q, g => by
    obtain ⟨h1, h2⟩ := raws_cmds q fun r hr => g r (List.mem_cons_of_mem _ hr)
    obtain ⟨e1, e2⟩ := Raw.enc (g r List.mem_cons_self)
    refine ⟨.cons ⟨a, e, e1 ▸ h⟩ h1, fun c hc => ?_⟩
    rcases List.mem_cons.mp hc with z | z
    · rw [z]
      exact e2
    · exact h2 c z
def negAt (T : List Int) : Option Nat := T.findIdx? fun x => decide (x < 0)
theorem neg_at {T : List Int} {i : Nat} {x : Int} (h : T[i]? = some x) (g : x < 0) (b : ∀ j x, j < i → T[j]? = some x → 0 ≤ x) : negAt T = some i := by
  unfold negAt
  rw [List.findIdx?_eq_some_iff_getElem]
  obtain ⟨hi, e⟩ := List.getElem?_eq_some_iff.mp h
  refine ⟨hi, by rw [e]; exact decide_eq_true g, fun j hj => ?_⟩
  have := b j T[j] hj (List.getElem?_eq_getElem (by omega))
  simp only [decide_eq_true_eq]
  omega
theorem neg_none {T : List Int} (b : ∀ j x, j < T.length → T[j]? = some x → 0 ≤ x) : negAt T = none := by
  unfold negAt
  rw [List.findIdx?_eq_none_iff]
  intro x hx
  obtain ⟨j, hj, e⟩ := List.mem_iff_getElem.mp hx
  have := b j x hj (by rw [List.getElem?_eq_getElem hj, e])
  exact decide_eq_false (by omega)
theorem neg_nn {T : List Int} (h : negAt T = none) : ∀ x ∈ T, 0 ≤ x := by
  unfold negAt at h
  rw [List.findIdx?_eq_none_iff] at h
  intro x hx
  have := of_decide_eq_false (h x hx)
  omega
def spCountX : Sp := fun vs H Q _ => ∃ n : Int, vs = [.int n] ∧ Q (.bl (decide (1 ≤ n))) H
def spIsRaw (K : PySem.W.Frag) : Sp := fun vs H Q _ => ∃ (v : V) (r : Raw), vs = [v] ∧ RawAt K H v r ∧ Q (.bl r.good) H
def spCheckX (K : PySem.W.Frag) (CM : Addr) : Sp := fun vs H Q E => ∃ (l : Addr) (xs : List V) (rs : List Raw), vs = [.ref l] ∧ SqL K H l xs ∧ RawsOf K H xs rs ∧
  (∀ i, badAt rs = some i → Err E CM (.int i) H) ∧ (badAt rs = none → ∀ H', Same H H' → Q .non H')
def spTextX (K : PySem.W.Frag) (CT : Addr) : Sp := fun vs H Q E => ∃ (t : Addr) (T : List Int), vs = [.ref t] ∧ SqL K H t (T.map V.int) ∧ (T = [] → Err E CT .non H) ∧ (T ≠ [] → ∀ i, negAt T = some i → Err E CT (.int i) H) ∧
  (T ≠ [] → negAt T = none → ∀ H', Same H H' → Q .non H')
def CurOk (n r : Int) (g : Option Int) : Prop := 0 ≤ r ∧ r < n ∧ ge g 0
def spCursorX (K : PySem.W.Frag) (CC : Addr) : Sp := fun vs H Q E => ∃ (n r : Int) (g : Option Int) (c : Addr), vs = [.int n, .ref c] ∧ SqT K H c [.int r, optV g] ∧ (¬ CurOk n r g → Err E CC (.ref c) H) ∧ (CurOk n r g → Q .non H)
def spNumX (CN : Addr) : Sp := fun vs H Q E => ∃ n k : Int, vs = [.int n, .int k] ∧ (n < k → Err E CN (.int n) H) ∧ (k ≤ n → Q .non H)
section
variable {P : Program} {w : World} {K : PySem.W.Frag} {mg : Str → Option Value} {base : Heap} {wo wn CT CC CM CN : Addr}
theorem ok_is_countX {f : Addr} {fd : FuncData} (F : Fun K "is_count" "is_count" s_is_count f fd) (T : TxtB K mg wo wn) : FnOk P w K mg base CX0 1 f fd ["number"] spCountX := by
  refine F.ok sc_is_count (fun vs H Q E h => ?_) (fun cdv A outer s H vs Q E hr h => ?_)
  · obtain ⟨n, rfl, _⟩ := h
    rfl
  · obtain ⟨n, rfl, k⟩ := h
    refine ⟨_, (pss_one (ps_ret (pe_and (pe_callB call_isi (by rfl) T.isinstance (by decide +kernel) (pa_cons (pv 0) (pa_cons (pe_bltn (v := .ty "int") (u := .type "int") (by rfl) T.int (by decide +kernel) rfl) pa_nil))) (pe_and (pe_not (pe_callB call_isi (by rfl) T.isinstance (by decide +kernel) (pa_cons (pv 0) (pa_cons (pe_bltn (v := .ty "bool") (u := .type "bool") (by rfl) T.bool (by decide +kernel) rfl) pa_nil)))) (pe_one (pe_cmpR op_ge (pv 0) pe_int (nomark _))))))), ?_⟩
    refine ⟨_, rfl, _, _, _, _, _, rfl, .ty "int", .base (.int n), kit_ty (show kitB "int" "int" = some true by decide +kernel), _, rfl, iteT ?_⟩
    refine ⟨_, rfl, _, _, _, _, _, rfl, .ty "bool", .base (.int n), kit_ty (show kitB "int" "bool" = some false by decide +kernel), _, rfl, _, rfl, iteT ?_⟩
    exact ⟨_, rfl, _, _, rfl, rfl, k⟩
theorem ok_is_commandX {f : Addr} {fd : FuncData} (F : Fun K "is_command" "is_command" s_is_command f fd) (T : TxtB K mg wo wn) (c_is_count : Cal P w K mg base 1 "is_count" spCountX) : FnOk P w K mg base CX0 2 f fd ["command"] (spIsRaw K) := by
  refine F.ok sc_is_command (fun vs H Q E h => ?_) (fun cdv A outer s H vs Q E hr h => ?_)
  · obtain ⟨v, c, rfl, _⟩ := h
    rfl
  · obtain ⟨v, r, rfl, ⟨a, rfl, ha⟩, k⟩ := h
    refine ⟨_, (pss_cons (ps_if (pt_cmpR op_eq (pe_callB call_len_seq (by rfl) T.len (by decide +kernel) (pa_cons (pv 0) pa_nil)) pe_int (nomark _)) (pss_one (ps_ret (pe_cmpR op_in_seq (pe_ix ix_tup (pv 0) pe_int (fun _ _ => rfl)) (pe_glob (v := .ref wo) (by rfl) T.g_WITHOUT_NUMBER rfl) (by rfl)))) pss_nil)
      (pss_one (ps_ret (pe_and (pe_cmpR op_eq (pe_callB call_len_seq (by rfl) T.len (by decide +kernel) (pa_cons (pv 0) pa_nil)) pe_int (nomark _)) (pe_and (pe_cmpR op_in_seq (pe_ix ix_tup (pv 0) pe_int (fun _ _ => rfl)) (pe_glob (v := .ref wn) (by rfl) T.g_WITH_NUMBER rfl) (by rfl)) (pe_one (pe_cal c_is_count hr (by decide) (by rfl) (pa_cons (pe_ix ix_tup (pv 0) pe_int (fun _ _ => rfl)) pa_nil)))))))), ?_⟩
    cases r with
    | nil =>
      refine ⟨_, rfl, a, _, rfl, .inr ha, rfl, _, rfl, iteF ?_⟩
      exact ⟨_, rfl, a, _, rfl, .inr ha, rfl, _, rfl, iteF k⟩
    | one n =>
      refine ⟨_, rfl, a, _, rfl, .inr ha, rfl, _, rfl, iteT ?_⟩
      refine ⟨_, rfl, a, _, 0, _, rfl, rfl, ha, rfl, wo, _, rfl, .inr (T.tWO _), rfl, rfl, ?_⟩
      rw [if_neg Bool.false_ne_true]
      exact k
    | two n j =>
      refine ⟨_, rfl, a, _, rfl, .inr ha, rfl, _, rfl, iteF ?_⟩
      refine ⟨_, rfl, a, _, rfl, .inr ha, rfl, _, rfl, iteT ?_⟩
      refine ⟨_, rfl, a, _, 0, _, rfl, rfl, ha, rfl, wn, _, rfl, .inr (T.tWN _), rfl, rfl, inV (.str n) withN, rfl, ?_⟩
      cases hb : inV (.str n) withN with
      | true =>
        refine iteT ⟨_, rfl, a, _, 1, _, rfl, rfl, ha, rfl, j, rfl, ?_⟩
        have e : Raw.good (.two n j) = decide (1 ≤ j) := by
          show (inV (.str n) withN && decide (1 ≤ j)) = _
          rw [hb, Bool.true_and]
        rw [e] at k
        exact k
      | false =>
        refine iteF ?_
        have e : Raw.good (.two n j) = false := by
          show (inV (.str n) withN && decide (1 ≤ j)) = _
          rw [hb, Bool.false_and]
        rw [e] at k
        exact k
    | three n j i =>
      refine ⟨_, rfl, a, _, rfl, .inr ha, rfl, _, rfl, iteF ?_⟩
      exact ⟨_, rfl, a, _, rfl, .inr ha, rfl, _, rfl, iteF k⟩
theorem ok_check_commandsX {f : Addr} {fd : FuncData} (F : Fun K "check_commands" "check_commands" s_check_commands f fd) (T : TxtB K mg wo wn) (c_is_command : Cal P w K mg base 2 "is_command" (spIsRaw K))
    (e_InvalidCommand : ErrC P w K mg base "InvalidCommand" CM) : FnOk P w K mg base (L2.CX P w) 3 f fd ["commands"] (spCheckX K CM) := by
  refine F.okX sc_check_commands (fun vs H Q E h => ?_) (fun cdv A outer s H vs Q E hr h => ?_)
  · obtain ⟨l, xs, rs, rfl, _⟩ := h
    rfl
  · obtain ⟨l, xs, rs, rfl, hl, hrs, kb, kg⟩ := h
    refine ⟨_, (pss_one (ps_for (passes_of rfl) rfl (pi_enum (by rfl) T.enumerate (pa_cons (pv 0) pa_nil)) (pg_tup rfl (pgs_cons (pg_name (i := 1) sc_check_commands.nd rfl (Or.inl rfl)) (pgs_cons (pg_name (i := 2) sc_check_commands.nd rfl (Or.inl rfl)) pgs_nil))) (pss_one (ps_if (pt_not (pt_val (pe_cal c_is_command hr (by decide) (by rfl) (pa_cons (pv 2) pa_nil)))) (pss_one (ps_raiseE rfl e_InvalidCommand hr (by decide) (takes_of rfl rfl rfl rfl) (pv 1) (by rfl))) pss_nil)))), ?_⟩
    refine ⟨_, rfl, l, xs, rfl, hl, for_it (walk_enum (K := K) (a := l) (xs := xs)) (fun i σ H' => ∃ v1 v2 : Option V, σ = [some (.ref l), v1, v2] ∧ Same H H' ∧ ∀ j r, j < i → rs[j]? = some r → r.good = true)
      ⟨none, none, rfl, Same.refl H, fun j r h => absurd h (Nat.not_lt_zero _)⟩ (fun i σ H' _ ⟨_, _, _, e, _⟩ => e.seq hl) (fun i x σ H1 H2 hi h y => ?_) (fun σ H1 h => ?_)⟩
    · obtain ⟨v1, v2, rfl, e, gd⟩ := h
      obtain ⟨T1, x1, y1, rfl, nT, rfl, e1, e2⟩ := y
      obtain rfl : V.int (i : Nat) = x1 := Option.some.inj e1
      obtain ⟨r, hr1, hra⟩ := paired_at hrs e2
      have eT : Same H (upd H1 T1 (.tup [.int (i : Nat), y1])) := same_upd e nT
      refine ⟨T1, _, rfl, SqT.of upd_same, rfl, _, _, rfl, _, _, rfl, rfl, ?_⟩
      refine ⟨_, rfl, y1, r, rfl, hra.same eT, _, rfl, ?_⟩
      cases hg : r.good with
      | true =>
        refine iteF ⟨_, _, rfl, eT, fun j r' hj hr' => ?_⟩
        by_cases z : j = i
        · rw [z, hr1] at hr'
          cases hr'
          exact hg
        · exact gd j r' (by omega) hr'
      | false =>
        refine iteT ⟨_, rfl, Err.ask eT ?_⟩
        have := kb i (bad_at hr1 hg gd)
        exact this
    · obtain ⟨v1, v2, rfl, e, gd⟩ := h
      refine kg (bad_none fun j r hj hr' => gd j r ?_ hr') _ e
      rw [Paired.length hrs]
      exact hj
theorem ok_check_textX {f : Addr} {fd : FuncData} (F : Fun K "check_text" "check_text" s_check_text f fd) (T : TxtB K mg wo wn) (e_InvalidText : ErrC P w K mg base "InvalidText" CT) : FnOk P w K mg base (L2.CX P w) 3 f fd ["text"] (spTextX K CT) := by
  refine F.okX sc_check_text (fun vs H Q E h => ?_) (fun cdv A outer s H vs Q E hr h => ?_)
  · obtain ⟨t, T, rfl, _⟩ := h
    rfl
  · obtain ⟨t, tx, rfl, ht, k0, kn, kg⟩ := h
    refine ⟨_, (pss_cons (ps_if (pt_not (pt_truth (pv 0) (fun _ => rfl))) (pss_one (ps_raiseE rfl e_InvalidText hr (by decide) (takes_of rfl rfl rfl rfl) pe_non (by rfl))) pss_nil)
      (pss_one (ps_for (passes_of rfl) rfl (pi_enum (by rfl) T.enumerate (pa_cons (pv 0) pa_nil)) (pg_tup rfl (pgs_cons (pg_name (i := 1) sc_check_text.nd rfl (Or.inl rfl)) (pgs_cons (pg_name (i := 2) sc_check_text.nd rfl (Or.inl rfl)) pgs_nil))) (pss_one (ps_if (pt_cmpR op_lt (pv 2) pe_int (nomark _)) (pss_one (ps_raiseE rfl e_InvalidText hr (by decide) (takes_of rfl rfl rfl rfl) (pv 1) (by rfl))) pss_nil))))), ?_⟩
    cases tx with
    | nil =>
      refine ⟨_, rfl, false, .inl ⟨_, ht, rfl⟩, iteT ?_⟩
      exact Err.ask (Same.refl H) (k0 rfl)
    | cons z0 zs =>
      have kn' := kn (by simp)
      have kg' := kg (by simp)
      generalize hT : z0 :: zs = tx at *
      refine ⟨_, rfl, true, .inl ⟨_, ht, by rw [← hT]; rfl⟩, iteF ?_⟩
      refine ⟨_, rfl, t, _, rfl, ht, for_it (walk_enum (K := K) (a := t) (xs := tx.map V.int)) (fun i σ H' => ∃ v1 v2 : Option V, σ = [some (.ref t), v1, v2] ∧ Same H H' ∧ ∀ j x, j < i → tx[j]? = some x → 0 ≤ x)
        ⟨none, none, rfl, Same.refl H, fun j r h => absurd h (Nat.not_lt_zero _)⟩ (fun i σ H' _ ⟨_, _, _, e, _⟩ => e.seq ht) (fun i x σ H1 H2 hi h y => ?_) (fun σ H1 h => ?_)⟩
      · obtain ⟨v1, v2, rfl, e, gd⟩ := h
        obtain ⟨T1, x1, y1, rfl, nT, rfl, e1, e2⟩ := y
        obtain rfl : V.int (i : Nat) = x1 := Option.some.inj e1
        obtain ⟨z, hz, rfl⟩ : ∃ z, tx[i]? = some z ∧ y1 = .int z := by
          have e3 : (tx.map V.int)[i]? = some y1 := e2
          rw [List.getElem?_map] at e3
          cases q : tx[i]? with
          | none =>
            rw [q] at e3
            cases e3
          | some z =>
            rw [q] at e3
            exact ⟨z, rfl, (Option.some.inj e3).symm⟩
        have eT : Same H (upd H1 T1 (.tup [.int i, .int z])) := same_upd e nT
        refine ⟨T1, _, rfl, SqT.of upd_same, rfl, _, _, rfl, _, _, rfl, rfl, ?_⟩
        refine ⟨_, rfl, _, _, rfl, rfl, _, rfl, ite2 (fun c => ?_) (fun c => ?_)⟩
        · exact ⟨_, rfl, Err.ask eT (kn' i (neg_at hz (of_decide_eq_true c) gd))⟩
        · refine ⟨_, _, rfl, eT, fun j x hj hx => ?_⟩
          by_cases q : j = i
          · rw [q, hz] at hx
            cases hx
            have : ¬ z < 0 := fun l => c (decide_eq_true l)
            omega
          · exact gd j x (by omega) hx
      · obtain ⟨v1, v2, rfl, e, gd⟩ := h
        refine kg' (neg_none fun j x hj hx => gd j x ?_ hx) _ e
        rw [List.length_map]
        exact hj
theorem ok_check_cursorX {f : Addr} {fd : FuncData} (F : Fun K "check_cursor" "check_cursor" s_check_cursor f fd) (e_InvalidCursor : ErrC P w K mg base "InvalidCursor" CC) : FnOk P w K mg base (L2.CX P w) 3 f fd ["lines", "cursor"] (spCursorX K CC) := by
  refine F.okX sc_check_cursor (fun vs H Q E h => ?_) (fun cdv A outer s H vs Q E hr h => ?_)
  · obtain ⟨n, r, g, c, rfl, _⟩ := h
    rfl
  · obtain ⟨n, r, g, c, rfl, hc, kb, kg⟩ := h
    refine ⟨_, (pss_cons (ps_asg (pv 1) (pg_tup rfl (pgs_cons (pg_name (i := 2) sc_check_cursor.nd rfl (Or.inl rfl)) (pgs_cons (pg_name (i := 3) sc_check_cursor.nd rfl (Or.inl rfl)) pgs_nil))))
      (pss_one (ps_if (PW.pt (pw_or (pt_not (pt_chain op_le op_lt pe_int (pv 2) (pv 0))) (pw_or1 (PW.pt (pw_and (pt_cmpR op_notN (pv 3) pe_non (nomark _)) (pw_and1 (pt_cmpR op_lt (pv 3) pe_int (nomark _)))))))) (pss_one (ps_raiseE rfl e_InvalidCursor hr (by decide) (takes_of rfl rfl rfl rfl) (pv 1) (by rfl))) pss_nil))), ?_⟩
    have bad : ¬ CurOk n r g → rRaise CC E (.ref c) H := fun z => Err.ask (Same.refl H) (kb z)
    refine ⟨_, rfl, c, _, rfl, hc, rfl, _, _, rfl, _, _, rfl, rfl, ?_⟩
    refine ⟨_, rfl, _, _, rfl, rfl, _, rfl, ite2 (fun c0 => ?_) (fun c0 => ?_)⟩
    · refine ⟨_, rfl, _, _, rfl, rfl, _, rfl, ?_⟩
      by_cases c1 : r < n
      · refine iteN1 c1 ?_
        cases g with
        | none => exact ⟨_, rfl, rfl, _, rfl, iteF (iteF (kg ⟨of_decide_eq_true c0, c1, ge_none 0⟩))⟩
        | some y =>
          refine ⟨_, rfl, rfl, _, rfl, iteT ?_⟩
          refine ⟨_, rfl, _, _, rfl, rfl, _, rfl, ite2 (fun c2 => ?_) (fun c2 => ?_)⟩
          · refine ⟨_, rfl, bad fun z => ?_⟩
            have := ge_some.mp z.2.2
            have := of_decide_eq_true c2
            omega
          · have c2' : ¬ y < 0 := fun l => c2 (decide_eq_true l)
            exact kg ⟨of_decide_eq_true c0, c1, ge_some.mpr (by omega)⟩
      · refine iteN0 c1 ?_
        exact ⟨_, rfl, bad fun z => c1 z.2.1⟩
    · refine ⟨_, rfl, ?_⟩
      refine iteT (B := _) ?_
      exact ⟨_, rfl, bad fun z => c0 (decide_eq_true z.1)⟩
theorem ok_check_numberX {f : Addr} {fd : FuncData} (F : Fun K "check_number" "check_number" s_check_number f fd) (e_InvalidNumber : ErrC P w K mg base "InvalidNumber" CN) : FnOk P w K mg base (L2.CX P w) 3 f fd ["number", "least"] (spNumX CN) := by
  refine F.okX sc_check_number (fun vs H Q E h => ?_) (fun cdv A outer s H vs Q E hr h => ?_)
  · obtain ⟨n, k, rfl, _⟩ := h
    rfl
  · obtain ⟨n, k, rfl, kb, kg⟩ := h
    refine ⟨_, (pss_one (ps_if (pt_cmpR op_lt (pv 0) (pv 1) (nomark _)) (pss_one (ps_raiseE rfl e_InvalidNumber hr (by decide) (takes_of rfl rfl rfl rfl) (pv 0) (by rfl))) pss_nil)), ?_⟩
    refine ⟨_, rfl, _, rfl, _, _, rfl, rfl, _, rfl, ite2 (fun c => ?_) (fun c => ?_)⟩
    · exact ⟨_, rfl, Err.ask (Same.refl H) (kb (of_decide_eq_true c))⟩
    · have c' : ¬ n < k := fun l => c (decide_eq_true l)
      exact kg (by omega)
end
end Gc

/-! the program's origins, where nothing is raised -/
namespace Gc
open PySem L2
abbrev s_effect : Stmt := top 26
abbrev s_total_change : Stmt := top 27
abbrev s_origins : Stmt := top 29
abbrev s_is_less : Stmt := top 30
def OrgV (H : Hp) (v : V) : Option (Option Int × Option Int) → Prop
  | none => v = .non
  | some x => ∃ p, v = .ref p ∧ H p = some (.tup [optV x.1, optV x.2])
def spTotal (K : PySem.W.Frag) : Sp := fun vs H Q _ => ∃ (l : Addr) (xs : List V) (cs : List Cmd), vs = [.ref l] ∧ SqL K H l xs ∧ CmdsOf K H xs cs ∧ Q (.int (chg cs)) H
def Fits (K : PySem.W.Frag) (H : Hp) (t l : Addr) (T : List Int) (row : Int) (xs : List V) (cs : List Cmd) : Prop :=
  SqL K H t (T.map V.int) ∧ SqL K H l xs ∧ CmdsOf K H xs cs ∧ (∀ x ∈ T, 0 ≤ x) ∧ 0 ≤ row ∧ row < T.length ∧ AllOk cs ∧ cs.length ≤ 10000 ∧ Within cs (-row) (T.length - 1 - row)
def spEffect (K : PySem.W.Frag) : Sp := fun vs H Q _ => ∃ (t l : Addr) (T : List Int) (row : Int) (xs : List V) (cs : List Cmd), vs = [.ref t, .int row, .ref l] ∧ Fits K H t l T row xs cs ∧
  ∀ (H' : Hp) (p : Addr), Same H H' → H' p = some (.tup [optV (aimF (lenAt T) row (some 0) cs), optV (aimF (lenAt T) row none cs), .int (chg cs)]) → Q (.ref p) H'
def spLess : Sp := fun vs H Q _ => ∃ a b : Option Int, vs = [optV a, optV b] ∧ Q (.bl (lessB a b)) H
def spOrigins (K : PySem.W.Frag) : Sp := fun vs H Q _ => ∃ (t l : Addr) (T : List Int) (row : Int) (goal : Option Int) (xs : List V) (cs : List Cmd), vs = [.ref t, .int row, .ref l, optV goal] ∧ Fits K H t l T row xs cs ∧ ge goal 0 ∧
  ∀ (H' : Hp) (v : V), Same H H' → OrgV H' v (originsM (aimF (lenAt T) row (some 0) cs) (aimF (lenAt T) row none cs) (chg cs) goal) → Q v H'
theorem Fits.same {K : PySem.W.Frag} {H H' : Hp} {t l : Addr} {T : List Int} {row : Int} {xs : List V} {cs : List Cmd} (e : Same H H') (h : Fits K H t l T row xs cs) : Fits K H' t l T row xs cs := by
  obtain ⟨h1, h2, h3, h4⟩ := h
  exact ⟨e.seq h1, e.seq h2, h3.same e, h4⟩
@[irreducible] def zRun (K : PySem.W.Frag) : Sp := spRun K
theorem zRun_eq (K : PySem.W.Frag) : zRun K = spRun K := by unfold zRun; rfl
theorem ask_run {K : PySem.W.Frag} {H : Hp} {Q : VK} {E : XK} {t b l : Addr} {T : List Int} {row : Int} {g : Option Int} {xs : List V} {cs : List Cmd} (f : Fits K H t l T row xs cs) (hb : SqT K H b [.int row, optV g]) (g0 : ge g 0)
    (k : ∀ (H' : Hp) (p : Addr), Same H H' → SqT K H' p [.int (row + last cs), optV (aimF (lenAt T) row g cs)] → Q (.ref p) H') : zRun K [.ref t, .ref b, .ref l] H Q E := by
  rw [zRun_eq]
  obtain ⟨h1, h2, h3, h4, h5, h6, h7, h8, h9⟩ := f
  exact ⟨t, b, l, T, row, g, xs, cs, _, _, rfl, h1, hb, h2, h3, h4, h5, h6, g0, h7, h8, afterL_in h9, k⟩
section
variable {P : Program} {w : World} {K : PySem.W.Frag} {mg : Str → Option Value} {base : Heap} {wo wn : Addr}
theorem sc_total_change : FnScope ["commands", "change", "command"] ["commands"] (defScope s_total_change) := ⟨rfl, rfl, rfl, by decide +kernel, rfl, by decide +kernel, by decide +kernel⟩
theorem ok_total_change {f : Addr} {fd : FuncData} (F : Fun K "total_change" "total_change" s_total_change f fd) : FnOk P w K mg base CX0 1 f fd ["commands"] (spTotal K) := by
  refine F.ok sc_total_change (fun vs H Q E h => ?_) (fun cdv A outer s H vs Q E hr h => ?_)
  · obtain ⟨l, xs, cs, rfl, _⟩ := h
    rfl
  · obtain ⟨l, xs, cs, rfl, hl, hcs, k⟩ := h
    refine ⟨_, (pss_cons (ps_set (i := 1) sc_total_change.nd rfl (Or.inl rfl) pe_int)
      (pss_cons (ps_for PassesOwn.never rfl (pi_list (pv 0)) (pg_name (i := 2) sc_total_change.nd rfl (Or.inl rfl)) (pss_one (ps_if (pt_cmpR op_eq (pe_ix ix_tup (pv 2) pe_int (fun _ _ => rfl)) pe_str (nomark _)) (pss_one (ps_aug (i := 1) sc_total_change.nd rfl (Or.inl rfl) (pe_ix ix_tup (pv 2) pe_int (fun _ _ => rfl)) ip_add)) (pss_one (ps_if (pt_cmpR op_eq (pe_ix ix_tup (pv 2) pe_int (fun _ _ => rfl)) pe_str (nomark _)) (pss_one (ps_aug (i := 1) sc_total_change.nd rfl (Or.inl rfl) (pe_ix ix_tup (pv 2) pe_int (fun _ _ => rfl)) ip_sub)) pss_nil)))))
      (pss_one (ps_ret (pv 1))))), ?_⟩
    refine ⟨_, rfl, l, rfl, ⟨_, hl⟩, for_list (K := K) (a := l) (xs := xs) (fun i σ H' => ∃ v2 : Option V, σ = [some (.ref l), some (.int (chg (cs.take i))), v2] ∧ H' = H) ⟨none, rfl, rfl⟩ (fun i σ H' _ ⟨_, _, e⟩ => e ▸ hl) (fun i y σ H2 hi h => ?_) (fun σ H2 h => ?_)⟩
    · obtain ⟨v2, rfl, rfl⟩ := h
      obtain ⟨c, hc, q, rfl, hq⟩ := paired_at hcs hi
      have e : chg (cs.take (i + 1)) = chg (cs.take i) + chg1 c := by rw [take_snoc hc, chg_snoc]
      cases c with
      | right n =>
        refine ⟨_, rfl, q, _, 0, _, rfl, rfl, hq, rfl, rfl, true, by decide +kernel, iteT ?_⟩
        refine ⟨_, rfl, _, rfl, q, _, 1, _, rfl, rfl, hq, rfl, _, _, rfl, rfl, ?_⟩
        exact ⟨_, by rw [e]; rfl, rfl⟩
      | left n =>
        refine ⟨_, rfl, q, _, 0, _, rfl, rfl, hq, rfl, rfl, false, by decide +kernel, iteF ?_⟩
        refine ⟨_, rfl, q, _, 0, _, rfl, rfl, hq, rfl, rfl, true, by decide +kernel, iteT ?_⟩
        refine ⟨_, rfl, _, rfl, q, _, 1, _, rfl, rfl, hq, rfl, _, _, rfl, rfl, ?_⟩
        exact ⟨_, by rw [e, show chg (cs.take i) + chg1 (Cmd.left n) = chg (cs.take i) - n from Int.sub_eq_add_neg.symm]; rfl, rfl⟩
      | down n =>
        refine ⟨_, rfl, q, _, 0, _, rfl, rfl, hq, rfl, rfl, false, by decide +kernel, iteF ?_⟩
        refine ⟨_, rfl, q, _, 0, _, rfl, rfl, hq, rfl, rfl, false, by decide +kernel, iteF ?_⟩
        exact ⟨_, by rw [e, show chg (cs.take i) + chg1 (Cmd.down n) = chg (cs.take i) from Int.add_zero _]; rfl, rfl⟩
      | up n =>
        refine ⟨_, rfl, q, _, 0, _, rfl, rfl, hq, rfl, rfl, false, by decide +kernel, iteF ?_⟩
        refine ⟨_, rfl, q, _, 0, _, rfl, rfl, hq, rfl, rfl, false, by decide +kernel, iteF ?_⟩
        exact ⟨_, by rw [e, show chg (cs.take i) + chg1 (Cmd.up n) = chg (cs.take i) from Int.add_zero _]; rfl, rfl⟩
      | home =>
        refine ⟨_, rfl, q, _, 0, _, rfl, rfl, hq, rfl, rfl, false, by decide +kernel, iteF ?_⟩
        refine ⟨_, rfl, q, _, 0, _, rfl, rfl, hq, rfl, rfl, false, by decide +kernel, iteF ?_⟩
        exact ⟨_, by rw [e, show chg (cs.take i) + chg1 Cmd.home = chg (cs.take i) from Int.add_zero _]; rfl, rfl⟩
      | stop =>
        refine ⟨_, rfl, q, _, 0, _, rfl, rfl, hq, rfl, rfl, false, by decide +kernel, iteF ?_⟩
        refine ⟨_, rfl, q, _, 0, _, rfl, rfl, hq, rfl, rfl, false, by decide +kernel, iteF ?_⟩
        exact ⟨_, by rw [e, show chg (cs.take i) + chg1 Cmd.stop = chg (cs.take i) from Int.add_zero _]; rfl, rfl⟩
    · obtain ⟨v2, rfl, rfl⟩ := h
      rw [hcs.len, List.take_length]
      exact ⟨_, rfl, k⟩
theorem sc_effect : FnScope ["text", "row", "commands", "low", "high"] ["text", "row", "commands"] (defScope s_effect) := ⟨rfl, rfl, rfl, by decide +kernel, rfl, by decide +kernel, by decide +kernel⟩
theorem ok_effect {f : Addr} {fd : FuncData} (F : Fun K "effect" "effect" s_effect f fd) (c_run : Cal P w K mg base 4 "run" (zRun K)) (c_total_change : Cal P w K mg base 1 "total_change" (spTotal K)) : FnOk P w K mg base CX0 5 f fd ["text", "row", "commands"] (spEffect K) := by
  refine F.ok sc_effect (fun vs H Q E h => ?_) (fun cdv A outer s H vs Q E hr h => ?_)
  · obtain ⟨t, l, T, row, xs, cs, rfl, _⟩ := h
    rfl
  · obtain ⟨t, l, tx, row, xs, cs, rfl, ft, k⟩ := h
    refine ⟨_, (pss_cons (ps_set (i := 3) sc_effect.nd rfl (Or.inl rfl) (pe_ix ix_tup (pe_cal c_run hr (by decide) (by rfl) (pa_cons (pv 0) (pa_cons (pe_tup (pa_cons (pv 1) (pa_cons pe_int pa_nil))) (pa_cons (pv 2) pa_nil)))) pe_int (fun _ _ => rfl)))
      (pss_cons (ps_set (i := 4) sc_effect.nd rfl (Or.inl rfl) (pe_ix ix_tup (pe_cal c_run hr (by decide) (by rfl) (pa_cons (pv 0) (pa_cons (pe_tup (pa_cons (pv 1) (pa_cons pe_non pa_nil))) (pa_cons (pv 2) pa_nil)))) pe_int (fun _ _ => rfl)))
      (pss_one (ps_ret (pe_tup (pa_cons (pv 3) (pa_cons (pv 4) (pa_cons (pe_cal c_total_change hr (by decide) (by rfl) (pa_cons (pv 2) pa_nil)) pa_nil)))))))), ?_⟩
    refine ⟨_, rfl, _, rfl, (by show 2 ≤ sizeLine; decide), fun p1 hp1 => ⟨_, rfl, ?_⟩⟩
    have s1 : Same H (upd H p1 (.tup [.int row, .int 0])) := same_upd (Same.refl _) hp1
    refine ask_run (g := some 0) (ft.same s1) (SqT.of upd_same) (ge_some.mpr (Int.le_refl 0)) (fun H2 q2 e2 hq2 => ?_)
    refine ⟨q2, _, 1, _, rfl, rfl, hq2, rfl, ?_⟩
    have e12 := s1.trans e2
    refine ⟨_, rfl, _, rfl, (by show 2 ≤ sizeLine; decide), fun p3 hp3 => ⟨_, rfl, ?_⟩⟩
    have s3 : Same H2 (upd H2 p3 (.tup [.int row, .non])) := same_upd (Same.refl _) hp3
    refine ask_run (g := none) (ft.same (e12.trans s3)) (SqT.of upd_same) (ge_none 0) (fun H4 q4 e4 hq4 => ?_)
    refine ⟨q4, _, 1, _, rfl, rfl, hq4, rfl, ?_⟩
    have e14 := (e12.trans s3).trans e4
    obtain ⟨_, hl, hcs, _⟩ := ft.same e14
    refine ⟨_, rfl, _, rfl, _, rfl, l, xs, cs, rfl, hl, hcs, (by show 3 ≤ sizeLine; decide), fun p5 hp5 => ?_⟩
    exact k _ p5 (same_upd e14 hp5) upd_same
theorem sc_is_less : FnScope ["goal", "other"] ["goal", "other"] (defScope s_is_less) := ⟨rfl, rfl, rfl, by decide +kernel, rfl, by decide +kernel, by decide +kernel⟩
theorem ok_is_less {f : Addr} {fd : FuncData} (F : Fun K "is_less" "is_less" s_is_less f fd) : FnOk P w K mg base CX0 1 f fd ["goal", "other"] spLess := by
  refine F.ok sc_is_less (fun vs H Q E h => ?_) (fun cdv A outer s H vs Q E hr h => ?_)
  · obtain ⟨a, b, rfl, _⟩ := h
    rfl
  · obtain ⟨a, b, rfl, k⟩ := h
    refine ⟨_, (pss_one (ps_ret (pe_and (pe_cmpR op_notN (pv 0) pe_non (nomark _)) (pe_one (pe_or (pe_cmpR op_isN (pv 1) pe_non (nomark _)) (pe_one (pe_cmpR op_lt (pv 0) (pv 1) (nomark _)))))))), ?_⟩
    cases a with
    | none => exact ⟨_, rfl, rfl, _, rfl, iteF k⟩
    | some x =>
      refine ⟨_, rfl, rfl, _, rfl, iteT ?_⟩
      cases b with
      | none => exact ⟨_, rfl, rfl, _, rfl, iteT k⟩
      | some y => exact ⟨_, rfl, rfl, _, rfl, iteF ⟨_, rfl, _, rfl, _, _, rfl, rfl, k⟩⟩
theorem sc_origins : FnScope ["text", "row", "commands", "goal", "low", "high", "change", "before"] ["text", "row", "commands", "goal"] (defScope s_origins) := ⟨rfl, rfl, rfl, by decide +kernel, rfl, by decide +kernel, by decide +kernel⟩
theorem ok_origins {f : Addr} {fd : FuncData} (F : Fun K "origins" "origins" s_origins f fd) (c_run : Cal P w K mg base 4 "run" (zRun K)) (c_effect : Cal P w K mg base 5 "effect" (spEffect K)) (c_is_less : Cal P w K mg base 1 "is_less" spLess) :
    FnOk P w K mg base CX0 6 f fd ["text", "row", "commands", "goal"] (spOrigins K) := by
  refine F.ok sc_origins (fun vs H Q E h => ?_) (fun cdv A outer s H vs Q E hr h => ?_)
  · obtain ⟨t, l, T, row, goal, xs, cs, rfl, _⟩ := h
    rfl
  · obtain ⟨t, l, tx, row, goal, xs, cs, rfl, ft, g0, k⟩ := h
    refine ⟨_, (pss_cons (ps_expr (pe_cal c_run hr (by decide) (by rfl) (pa_cons (pv 0) (pa_cons (pe_tup (pa_cons (pv 1) (pa_cons (pv 3) pa_nil))) (pa_cons (pv 2) pa_nil)))))
      (pss_cons (ps_asg (pe_cal c_effect hr (by decide) (by rfl) (pa_cons (pv 0) (pa_cons (pv 1) (pa_cons (pv 2) pa_nil)))) (pg_tup rfl (pgs_cons (pg_name (i := 4) sc_origins.nd rfl (Or.inl rfl)) (pgs_cons (pg_name (i := 5) sc_origins.nd rfl (Or.inl rfl)) (pgs_cons (pg_name (i := 6) sc_origins.nd rfl (Or.inl rfl)) pgs_nil)))))
      (C8.pss_cut (ps_if (PW.pt (pw_or (pt_val (pe_cal c_is_less hr (by decide) (by rfl) (pa_cons (pv 3) (pa_cons (pv 4) pa_nil)))) (pw_or1 (pt_val (pe_cal c_is_less hr (by decide) (by rfl) (pa_cons (pv 5) (pa_cons (pv 3) pa_nil))))))) (pss_one (ps_ret pe_non)) pss_nil)
      (C8.pss_cut (ps_set (i := 7) sc_origins.nd rfl (Or.inl rfl) (pe_ifExp (pt_cmpR op_isN (pv 3) pe_non (nomark _)) pe_non (pe_op op_sub (pv 3) (pv 6))))
      (pss_one (ps_ret (pe_tup (pa_cons (pe_ifExp (pt_cmpR op_eq (pv 3) (pv 4) (nomark _)) pe_int (pv 7)) (pa_cons (pe_ifExp (pt_cmpR op_eq (pv 3) (pv 5) (nomark _)) pe_non (pv 7)) pa_nil))))))))), ?_⟩
    refine ⟨_, rfl, _, rfl, _, rfl, (by show 2 ≤ sizeLine; decide), fun p1 hp1 => ⟨_, rfl, ?_⟩⟩
    have s1 : Same H (upd H p1 (.tup [.int row, optV goal])) := same_upd (Same.refl _) hp1
    refine ask_run (g := goal) (ft.same s1) (SqT.of upd_same) g0 (fun H2 q2 e2 hq2 => ?_)
    have e12 := s1.trans e2
    refine ⟨_, rfl, _, rfl, _, rfl, t, l, tx, row, xs, cs, rfl, ft.same e12, fun H3 p3 e3 hp3 => ?_⟩
    have e13 := e12.trans e3
    refine ⟨p3, _, rfl, SqT.of hp3, rfl, _, _, rfl, _, _, rfl, _, _, rfl, rfl, ?_⟩
    generalize glo : aimF (lenAt tx) row (some 0) cs = lo at *
    generalize ghi : aimF (lenAt tx) row none cs = hi at *
    refine ⟨fun σ H' => σ = [some (.ref t), some (.int row), some (.ref l), some (optV goal), some (optV lo), some (optV hi), some (.int (chg cs)), none] ∧ H' = H3 ∧ lessB goal lo = false ∧ lessB hi goal = false, ?_, ?_⟩
    · refine ⟨_, rfl, _, rfl, goal, lo, rfl, _, rfl, ?_⟩
      cases h1 : lessB goal lo with
      | true => exact iteT (k _ .non e13 (by unfold originsM; rw [if_pos (.inl h1)]; rfl))
      | false =>
        refine iteF ⟨_, rfl, _, rfl, hi, goal, rfl, _, rfl, ?_⟩
        cases h2 : lessB hi goal with
        | true => exact iteT (k _ .non e13 (by unfold originsM; rw [if_pos (.inr h2)]; rfl))
        | false => exact iteF ⟨rfl, rfl, rfl, rfl⟩
    · rintro σ H4 ⟨rfl, rfl, h1, h2⟩
      have hM : originsM lo hi (chg cs) goal = some (if goal = lo then some 0 else goal.map (· - chg cs), if goal = hi then none else goal.map (· - chg cs)) := by
        unfold originsM
        rw [if_neg (by rw [h1, h2]; simp)]
      rw [hM] at k
      refine ⟨fun σ H' => σ = [some (.ref t), some (.int row), some (.ref l), some (optV goal), some (optV lo), some (optV hi), some (.int (chg cs)), some (optV (goal.map (· - chg cs)))] ∧ H' = H4, ?_, ?_⟩
      · cases goal with
        | none => exact ⟨_, rfl, rfl, _, rfl, iteT ⟨rfl, rfl⟩⟩
        | some x => exact ⟨_, rfl, rfl, _, rfl, iteF ⟨_, rfl, _, rfl, _, _, rfl, rfl, rfl, rfl⟩⟩
      · rintro σ H5 ⟨rfl, rfl⟩
        have seq : ∀ a b : Option Int, scal (optV a) (optV b) = true ∧ decide (optV a = optV b) = decide (a = b) := fun a b => by
          cases a <;> cases b <;> simp [scal, optV]
        refine ⟨_, rfl, _, rfl, (seq goal lo).1, _, rfl, ?_⟩
        have fin : ∀ a : Option Int, (goal = lo → a = some 0) → (goal ≠ lo → a = goal.map (· - chg cs)) → ∀ b : Option Int, (goal = hi → b = none) → (goal ≠ hi → b = goal.map (· - chg cs)) → ∀ (H' : Hp) (p : Addr), Same H H' → H' p = some (.tup [optV a, optV b]) → Q (.ref p) H' := fun a a1 a2 b b1 b2 H' p e hp => by
          refine k H' (.ref p) e ⟨p, rfl, ?_⟩
          have ea : a = if goal = lo then some 0 else goal.map (· - chg cs) := by
            by_cases z : goal = lo
            · rw [if_pos z, a1 z]
            · rw [if_neg z, a2 z]
          have eb : b = if goal = hi then none else goal.map (· - chg cs) := by
            by_cases z : goal = hi
            · rw [if_pos z, b1 z]
            · rw [if_neg z, b2 z]
          rw [← ea, ← eb]
          exact hp
        rw [(seq goal lo).2]
        have last : ∀ a : Option Int, (goal = lo → a = some 0) → (goal ≠ lo → a = goal.map (· - chg cs)) → ∀ (b : Option Int), (goal = hi → b = none) → (goal ≠ hi → b = goal.map (· - chg cs)) → ∀ p, H5 p = none → Q (.ref p) (upd H5 p (.tup [optV a, optV b])) := fun a a1 a2 b b1 b2 p hp =>
          fin a a1 a2 b b1 b2 _ p (same_upd e13 hp) upd_same
        refine ite2 (fun c => ?_) (fun c => ?_)
        · have c' : goal = lo := of_decide_eq_true c
          refine ⟨_, rfl, _, rfl, (seq goal hi).1, _, rfl, ?_⟩
          rw [(seq goal hi).2]
          refine ite2 (fun d => ?_) (fun d => ?_)
          · have d' : goal = hi := of_decide_eq_true d
            exact ⟨(by show 2 ≤ sizeLine; decide), last (some 0) (fun _ => rfl) (fun z => absurd c' z) none (fun _ => rfl) (fun z => absurd d' z)⟩
          · have d' : goal ≠ hi := fun z => d (decide_eq_true z)
            exact ⟨_, rfl, (by show 2 ≤ sizeLine; decide), last (some 0) (fun _ => rfl) (fun z => absurd c' z) _ (fun z => absurd z d') (fun _ => rfl)⟩
        · have c' : goal ≠ lo := fun z => c (decide_eq_true z)
          refine ⟨_, rfl, _, rfl, _, rfl, (seq goal hi).1, _, rfl, ?_⟩
          rw [(seq goal hi).2]
          refine ite2 (fun d => ?_) (fun d => ?_)
          · have d' : goal = hi := of_decide_eq_true d
            exact ⟨(by show 2 ≤ sizeLine; decide), last _ (fun z => absurd z c') (fun _ => rfl) none (fun _ => rfl) (fun z => absurd d' z)⟩
          · have d' : goal ≠ hi := fun z => d (decide_eq_true z)
            exact ⟨_, rfl, (by show 2 ≤ sizeLine; decide), last _ (fun z => absurd z c') (fun _ => rfl) _ (fun z => absurd z d') (fun _ => rfl)⟩
end
end Gc

/-! run and origins, where they may raise -/
namespace Gc
open PySem L2
def curB (n r : Int) (g : Option Int) : Bool := decide (0 ≤ r) && (decide (r < n) && match g with
  | none => true
  | some x => decide (0 ≤ x))
theorem curB_iff {n r : Int} {g : Option Int} : curB n r g = true ↔ CurOk n r g := by
  unfold curB CurOk
  cases g with
  | none => simp [ge_none]
  | some x => simp [ge_some]
/-- the index of the first command that leads out of the n lines -/
def offAt (n r : Int) (cs : List Cmd) : Option Nat := (List.range cs.length).find? fun i => !decide (0 ≤ r + last (cs.take (i + 1)) ∧ r + last (cs.take (i + 1)) < n)
theorem off_at {n r : Int} {cs : List Cmd} {i : Nat} (hi : i < cs.length) (h : ¬ (0 ≤ r + last (cs.take (i + 1)) ∧ r + last (cs.take (i + 1)) < n))
    (b : ∀ j, j < i → 0 ≤ r + last (cs.take (j + 1)) ∧ r + last (cs.take (j + 1)) < n) : offAt n r cs = some i := by
  unfold offAt
  rw [List.find?_range_eq_some]
  refine ⟨by rw [decide_eq_false h]; rfl, List.mem_range.mpr hi, fun j hj => ?_⟩
  rw [decide_eq_true (b j hj)]
  rfl
theorem off_none {n r : Int} {cs : List Cmd} (b : ∀ j, j < cs.length → 0 ≤ r + last (cs.take (j + 1)) ∧ r + last (cs.take (j + 1)) < n) : offAt n r cs = none := by
  unfold offAt
  rw [List.find?_eq_none]
  intro j hj
  rw [decide_eq_true (b j (List.mem_range.mp hj))]
  simp
theorem off_in {n r : Int} {cs : List Cmd} (h : offAt n r cs = none) (r0 : 0 ≤ r) (r1 : r < n) : Within cs (-r) (n - 1 - r) := by
  unfold offAt at h
  rw [List.find?_eq_none] at h
  have key : ∀ i, i ≤ cs.length → -r ≤ last (cs.take i) ∧ last (cs.take i) ≤ n - 1 - r := fun i hi => by
    cases i with
    | zero => exact ⟨by show -r ≤ 0; omega, by show 0 ≤ n - 1 - r; omega⟩
    | succ i =>
      have q := h i (List.mem_range.mpr (by omega))
      simp only [Bool.not_eq_true', decide_eq_false_iff_not, Decidable.not_not] at q
      omega
  intro i
  by_cases l : i ≤ cs.length
  · exact key i l
  · rw [List.take_of_length_le (by omega)]
    have := key cs.length (Nat.le_refl _)
    rw [List.take_length] at this
    exact this
inductive Due where
  | text0
  | text (i : Nat)
  | cursor
  | command (i : Nat)
  | off (i : Nat)
  | fine
def runDue (T : List Int) (r : Int) (g : Option Int) (rs : List Raw) : Due :=
  if T = [] then .text0 else match negAt T with
    | some i => .text i
    | none => if curB T.length r g = true then (match badAt rs with
        | some i => .command i
        | none => match offAt T.length r (rs.map Raw.cmd) with
          | some i => .off i
          | none => .fine) else .cursor
theorem due_text0 {T : List Int} {r : Int} {g : Option Int} {rs : List Raw} (h : T = []) : runDue T r g rs = .text0 := by
  unfold runDue
  rw [if_pos h]
theorem due_text {T : List Int} {r : Int} {g : Option Int} {rs : List Raw} {i : Nat} (h : T ≠ []) (h1 : negAt T = some i) : runDue T r g rs = .text i := by
  unfold runDue
  rw [if_neg h, h1]
theorem due_cursor {T : List Int} {r : Int} {g : Option Int} {rs : List Raw} (h : T ≠ []) (h1 : negAt T = none) (h2 : ¬ CurOk T.length r g) : runDue T r g rs = .cursor := by
  unfold runDue
  rw [if_neg h, h1]
  exact if_neg fun z => h2 (curB_iff.mp z)
theorem due_command {T : List Int} {r : Int} {g : Option Int} {rs : List Raw} {i : Nat} (h : T ≠ []) (h1 : negAt T = none) (h2 : CurOk T.length r g) (h3 : badAt rs = some i) : runDue T r g rs = .command i := by
  unfold runDue
  rw [if_neg h, h1]
  show (if curB T.length r g = true then _ else _) = _
  rw [if_pos (curB_iff.mpr h2), h3]
theorem due_off {T : List Int} {r : Int} {g : Option Int} {rs : List Raw} {i : Nat} (h : T ≠ []) (h1 : negAt T = none) (h2 : CurOk T.length r g) (h3 : badAt rs = none) (h4 : offAt T.length r (rs.map Raw.cmd) = some i) : runDue T r g rs = .off i := by
  unfold runDue
  rw [if_neg h, h1]
  show (if curB T.length r g = true then _ else _) = _
  rw [if_pos (curB_iff.mpr h2), h3]
  show (match offAt T.length r (rs.map Raw.cmd) with | some i => Due.off i | none => .fine) = _
  rw [h4]
theorem due_fine {T : List Int} {r : Int} {g : Option Int} {rs : List Raw} (h : T ≠ []) (h1 : negAt T = none) (h2 : CurOk T.length r g) (h3 : badAt rs = none) (h4 : offAt T.length r (rs.map Raw.cmd) = none) : runDue T r g rs = .fine := by
  unfold runDue
  rw [if_neg h, h1]
  show (if curB T.length r g = true then _ else _) = _
  rw [if_pos (curB_iff.mpr h2), h3]
  show (match offAt T.length r (rs.map Raw.cmd) with | some i => Due.off i | none => .fine) = _
  rw [h4]
/-- what must be there for each way out; ec: what is wanted of a wrong cursor -/
def Outs (E : XK) (CT CM CO : Addr) (H : Hp) (ec : Prop) (fin : Prop) : Due → Prop
  | .text0 => Err E CT .non H
  | .text i => Err E CT (.int i) H
  | .cursor => ec
  | .command i => Err E CM (.int i) H
  | .off i => Err E CO (.int i) H
  | .fine => fin
def RawIn (K : PySem.W.Frag) (H : Hp) (t l : Addr) (T : List Int) (xs : List V) (rs : List Raw) : Prop := SqL K H t (T.map V.int) ∧ SqL K H l xs ∧ RawsOf K H xs rs ∧ rs.length ≤ 10000
theorem RawIn.same {K : PySem.W.Frag} {H H' : Hp} {t l : Addr} {T : List Int} {xs : List V} {rs : List Raw} (e : Same H H') (h : RawIn K H t l T xs rs) : RawIn K H' t l T xs rs := ⟨e.seq h.1, e.seq h.2.1, h.2.2.1.same e, h.2.2.2⟩
def spRunX (K : PySem.W.Frag) (CT CC CM CO : Addr) : Sp := fun vs H Q E => ∃ (t b l : Addr) (T : List Int) (r : Int) (g : Option Int) (xs : List V) (rs : List Raw), vs = [.ref t, .ref b, .ref l] ∧ RawIn K H t l T xs rs ∧ SqT K H b [.int r, optV g] ∧
  Outs E CT CM CO H (Err E CC (.ref b) H) (∀ (H' : Hp) (p : Addr), Same H H' → Q (.ref p) H') (runDue T r g rs)
@[irreducible] def zRunX (K : PySem.W.Frag) (CT CC CM CO : Addr) : Sp := spRunX K CT CC CM CO
theorem zRunX_eq (K : PySem.W.Frag) (CT CC CM CO : Addr) : zRunX K CT CC CM CO = spRunX K CT CC CM CO := by unfold zRunX; rfl
theorem ask_runX {K : PySem.W.Frag} {CT CC CM CO : Addr} {H : Hp} {Q : VK} {E : XK} {t b l : Addr} {T : List Int} {r : Int} {g : Option Int} {xs : List V} {rs : List Raw} (h : RawIn K H t l T xs rs) (hb : SqT K H b [.int r, optV g])
    (k : Outs E CT CM CO H (Err E CC (.ref b) H) (∀ (H' : Hp) (p : Addr), Same H H' → Q (.ref p) H') (runDue T r g rs)) : zRunX K CT CC CM CO [.ref t, .ref b, .ref l] H Q E := by
  rw [zRunX_eq]
  exact ⟨t, b, l, T, r, g, xs, rs, rfl, h, hb, k⟩
/-- an error that carries a tuple of a row and a goal -/
def ErrP (E : XK) (C : Addr) (row : Int) (goal : Option Int) (H : Hp) : Prop := ∀ (H' : Hp) (d p : Addr), Same H H' → H' d = none → H' p = some (.tup [.int row, optV goal]) → E (.ref C) (some d) (upd H' d (.xd [("value", .ref p)]))
def spOriginsX (K : PySem.W.Frag) (CT CC CM CO : Addr) : Sp := fun vs H Q E => ∃ (t l : Addr) (T : List Int) (row : Int) (goal : Option Int) (xs : List V) (rs : List Raw), vs = [.ref t, .int row, .ref l, optV goal] ∧ RawIn K H t l T xs rs ∧
  Outs E CT CM CO H (ErrP E CC row goal H) (∀ (H' : Hp) (v : V), Same H H' → Q v H') (runDue T row goal rs)
theorem Outs.same {E : XK} {CT CM CO : Addr} {H H' : Hp} {ec ec' fin fin' : Prop} {d : Due} (e : Same H H') (h1 : ec → ec') (h2 : d = .fine → fin → fin') (h : Outs E CT CM CO H ec fin d) : Outs E CT CM CO H' ec' fin' d := by
  cases d with
  | text0 => exact Err.same e h
  | text i => exact Err.same e h
  | cursor => exact h1 h
  | command i => exact Err.same e h
  | off i => exact Err.same e h
  | fine => exact h2 rfl h
theorem due_facts {T : List Int} {r : Int} {g : Option Int} {rs : List Raw} (h : runDue T r g rs = .fine) : T ≠ [] ∧ negAt T = none ∧ CurOk T.length r g ∧ badAt rs = none ∧ offAt T.length r (rs.map Raw.cmd) = none := by
  unfold runDue at h
  split at h
  · cases h
  rename_i h0
  split at h
  · cases h
  rename_i h1
  split at h
  · rename_i h2
    split at h
    · cases h
    rename_i h3
    split at h
    · cases h
    rename_i h4
    exact ⟨h0, h1, curB_iff.mp h2, h3, h4⟩
  · cases h
theorem fits_of {K : PySem.W.Frag} {H : Hp} {t l : Addr} {T : List Int} {r : Int} {g : Option Int} {xs : List V} {rs : List Raw} (h : RawIn K H t l T xs rs) (d : runDue T r g rs = .fine) : Fits K H t l T r xs (rs.map Raw.cmd) ∧ ge g 0 := by
  obtain ⟨h0, h1, h2, h3, h4⟩ := due_facts d
  obtain ⟨c1, c2⟩ := raws_cmds h.2.2.1 (bad_good h3)
  exact ⟨⟨h.1, h.2.1, c1, neg_nn h1, h2.1, h2.2.1, c2, by rw [List.length_map]; exact h.2.2.2, off_in h4 h2.1 h2.2.1⟩, h2.2.2⟩
section
variable {P : Program} {w : World} {K : PySem.W.Frag} {mg : Str → Option Value} {base : Heap} {wo wn CT CC CM CN CO : Addr}
theorem ok_runX {f : Addr} {fd : FuncData} (F : Fun K "run" "run" s_run f fd) (T : TxtB K mg wo wn) (c_check_text : CalX P w K mg base 3 "check_text" (spTextX K CT)) (c_check_cursor : CalX P w K mg base 3 "check_cursor" (spCursorX K CC))
    (c_check_commands : CalX P w K mg base 3 "check_commands" (spCheckX K CM)) (c_moved : Cal P w K mg base 3 "moved" (spMoved K)) (e_Impossible : ErrC P w K mg base "Impossible" CO) : FnOk P w K mg base (L2.CX P w) 4 f fd ["text", "cursor", "commands"] (spRunX K CT CC CM CO) := by
  refine F.okX sc_run (fun vs H Q E h => ?_) (fun cdv A outer s H vs Q E hr h => ?_)
  · obtain ⟨t, b, l, tx, r, g, xs, rs, rfl, _⟩ := h
    rfl
  · obtain ⟨t, b, l, tx, r, g, xs, rs, rfl, ⟨ht, hl, hrs, ln⟩, hb, k⟩ := h
    refine ⟨_, (pss_cons (ps_expr (pe_calX (takes_of rfl rfl rfl rfl) c_check_text hr (by decide) (by rfl) (pa_cons (pv 0) pa_nil)))
      (pss_cons (ps_expr (pe_calX (takes_of rfl rfl rfl rfl) c_check_cursor hr (by decide) (by rfl) (pa_cons (pe_callB call_len_seq (by rfl) T.len (by decide +kernel) (pa_cons (pv 0) pa_nil)) (pa_cons (pv 1) pa_nil))))
      (pss_cons (ps_expr (pe_calX (takes_of rfl rfl rfl rfl) c_check_commands hr (by decide) (by rfl) (pa_cons (pv 2) pa_nil)))
      (pss_cons (ps_set (i := 3) sc_run.nd rfl (Or.inl rfl) (pv 1))
      (pss_cons (ps_for (passes_of rfl) rfl (pi_enum (by rfl) T.enumerate (pa_cons (pv 2) pa_nil)) (pg_tup rfl (pgs_cons (pg_name (i := 4) sc_run.nd rfl (Or.inl rfl)) (pgs_cons (pg_name (i := 5) sc_run.nd rfl (Or.inl rfl)) pgs_nil))) (pss_cons (ps_set (i := 3) sc_run.nd rfl (Or.inl rfl) (pe_cal c_moved hr (by decide) (by rfl) (pa_cons (pv 0) (pa_cons (pv 3) (pa_cons (pv 5) pa_nil)))))
      (pss_one (ps_if (pt_cmpR op_isN (pv 3) pe_non (nomark _)) (pss_one (ps_raiseE rfl e_Impossible hr (by decide) (takes_of rfl rfl rfl rfl) (pv 4) (by rfl))) pss_nil))))
      (pss_one (ps_ret (pv 3)))))))), ?_⟩
    refine ⟨_, rfl, t, tx, rfl, ht, (fun z => by rw [due_text0 z] at k; exact k), (fun z i hi => by rw [due_text z hi] at k; exact k), fun ne hn H1 e1 => ?_⟩
    refine ⟨_, rfl, t, _, rfl, .inl (e1.seq ht), _, rfl, (tx.map V.int).length, r, g, b, rfl, seq_t e1 hb, (fun z => ?_), fun hc => ?_⟩
    · rw [List.length_map] at z
      rw [due_cursor ne hn z] at k
      exact Err.same e1 k
    rw [List.length_map] at hc
    refine ⟨_, rfl, l, xs, rs, rfl, e1.seq hl, hrs.same e1, (fun i hi => by rw [due_command ne hn hc hi] at k; exact Err.same e1 k), fun hg H2 e2 => ?_⟩
    have e12 := e1.trans e2
    obtain ⟨hcs, ok⟩ := raws_cmds hrs (bad_good hg)
    generalize hcm : rs.map Raw.cmd = cs at *
    refine ⟨_, rfl, ?_⟩
    refine ⟨_, rfl, l, _, rfl, e12.seq hl, for_it (walk_enum (K := K) (a := l) (xs := xs)) (fun i σ H' => ∃ (p : Addr) (gg : Option Int) (v1 v2 : Option V), σ = [some (.ref t), some (.ref b), some (.ref l), some (.ref p), v1, v2] ∧ Same H H' ∧ SqT K H' p [.int (r + last (cs.take i)), optV gg] ∧
        ∀ j, j < i → 0 ≤ r + last (cs.take (j + 1)) ∧ r + last (cs.take (j + 1)) < tx.length)
      ⟨b, g, none, none, rfl, e12, by rw [List.take_zero, show last [] = 0 from rfl, Int.add_zero]; exact seq_t e12 hb, fun j h => absurd h (Nat.not_lt_zero _)⟩ (fun i σ H' _ ⟨_, _, _, _, _, e, _⟩ => e.seq hl) (fun i x σ H3 H4 hi h y => ?_) (fun σ H3 h => ?_)⟩
    · obtain ⟨p, gg, v1, v2, rfl, e3, hp, gd⟩ := h
      obtain ⟨T1, x1, y1, rfl, nT, rfl, ex1, ex2⟩ := y
      obtain rfl : V.int (i : Nat) = x1 := Option.some.inj ex1
      obtain ⟨c, hc1, hca⟩ := paired_at hcs ex2
      have hlt := (List.getElem?_eq_some_iff.mp hc1).1
      have ls : last (cs.take (i + 1)) = last (cs.take i) + c.dv := by rw [take_snoc hc1, last_snoc]
      have eT : Same H3 (upd H3 T1 (.tup [.int (i : Nat), y1])) := same_upd (Same.refl _) nT
      have eHT := e3.trans eT
      refine ⟨T1, _, rfl, SqT.of upd_same, rfl, _, _, rfl, _, _, rfl, rfl, ?_⟩
      refine ⟨_, rfl, _, rfl, _, rfl, t, p, tx, _, gg, y1, c, rfl, eHT.seq ht, seq_t eT hp, hca.same eHT, (fun z => ?_), fun r3 g3 z p3 np3 => ?_⟩
      · have bad : ¬ (0 ≤ r + last (cs.take (i + 1)) ∧ r + last (cs.take (i + 1)) < tx.length) := fun q => by
          unfold step1 at z
          rw [if_pos (by rw [ls] at q; omega)] at z
          cases z
        rw [due_off ne hn hc hg (by rw [hcm]; exact off_at hlt bad gd)] at k
        refine ⟨_, rfl, rfl, _, rfl, iteT ⟨_, rfl, ?_⟩⟩
        exact Err.ask eHT k
      · have e4 : Same (upd H3 T1 (.tup [.int (i : Nat), y1])) (upd (upd H3 T1 (.tup [.int (i : Nat), y1])) p3 (.tup [.int r3, optV g3])) := same_upd (Same.refl _) np3
        have hr3 : (0 ≤ r + last (cs.take (i + 1)) ∧ r + last (cs.take (i + 1)) < tx.length) ∧ r3 = r + last (cs.take (i + 1)) := by
          unfold step1 at z
          split at z
          · rename_i q
            cases z
            rw [ls]
            omega
          · cases z
        refine ⟨_, rfl, rfl, _, rfl, iteF ?_⟩
        refine ⟨p3, g3, _, _, rfl, eHT.trans e4, by rw [← hr3.2]; exact SqT.of upd_same, fun j hj => ?_⟩
        by_cases q : j = i
        · rw [q]
          exact hr3.1
        · exact gd j (by omega)
    · obtain ⟨p, gg, v1, v2, rfl, e3, hp, gd⟩ := h
      rw [due_fine ne hn hc hg (by rw [hcm]; exact off_none fun j hj => gd j (by rw [hcs.len]; exact hj))] at k
      exact ⟨_, rfl, k _ p e3⟩
theorem ok_originsX {f : Addr} {fd : FuncData} (F : Fun K "origins" "origins" s_origins f fd) (c_run : CalX P w K mg base 4 "run" (zRunX K CT CC CM CO)) (c_effect : Cal P w K mg base 5 "effect" (spEffect K)) (c_is_less : Cal P w K mg base 1 "is_less" spLess) :
    FnOk P w K mg base (L2.CX P w) 6 f fd ["text", "row", "commands", "goal"] (spOriginsX K CT CC CM CO) := by
  refine F.okX sc_origins (fun vs H Q E h => ?_) (fun cdv A outer s H vs Q E hr h => ?_)
  · obtain ⟨t, l, T, row, goal, xs, rs, rfl, _⟩ := h
    rfl
  · obtain ⟨t, l, tx, row, goal, xs, rs, rfl, ri, kd⟩ := h
    refine ⟨_, (pss_cons (ps_expr (pe_calX (takes_of rfl rfl rfl rfl) c_run hr (by decide) (by rfl) (pa_cons (pv 0) (pa_cons (pe_tup (pa_cons (pv 1) (pa_cons (pv 3) pa_nil))) (pa_cons (pv 2) pa_nil)))))
      (pss_cons (ps_asg (pe_cal c_effect hr (by decide) (by rfl) (pa_cons (pv 0) (pa_cons (pv 1) (pa_cons (pv 2) pa_nil)))) (pg_tup rfl (pgs_cons (pg_name (i := 4) sc_origins.nd rfl (Or.inl rfl)) (pgs_cons (pg_name (i := 5) sc_origins.nd rfl (Or.inl rfl)) (pgs_cons (pg_name (i := 6) sc_origins.nd rfl (Or.inl rfl)) pgs_nil)))))
      (C8.pss_cut (ps_if (PW.pt (pw_or (pt_val (pe_cal c_is_less hr (by decide) (by rfl) (pa_cons (pv 3) (pa_cons (pv 4) pa_nil)))) (pw_or1 (pt_val (pe_cal c_is_less hr (by decide) (by rfl) (pa_cons (pv 5) (pa_cons (pv 3) pa_nil))))))) (pss_one (ps_ret pe_non)) pss_nil)
      (C8.pss_cut (ps_set (i := 7) sc_origins.nd rfl (Or.inl rfl) (pe_ifExp (pt_cmpR op_isN (pv 3) pe_non (nomark _)) pe_non (pe_op op_sub (pv 3) (pv 6))))
      (pss_one (ps_ret (pe_tup (pa_cons (pe_ifExp (pt_cmpR op_eq (pv 3) (pv 4) (nomark _)) pe_int (pv 7)) (pa_cons (pe_ifExp (pt_cmpR op_eq (pv 3) (pv 5) (nomark _)) pe_non (pv 7)) pa_nil))))))))), ?_⟩
    refine ⟨_, rfl, _, rfl, _, rfl, (by show 2 ≤ sizeLine; decide), fun p1 hp1 => ⟨_, rfl, ?_⟩⟩
    have s1 : Same H (upd H p1 (.tup [.int row, optV goal])) := same_upd (Same.refl _) hp1
    refine ask_runX (g := goal) (ri.same s1) (SqT.of upd_same) (Outs.same s1 (fun ep H' d s n => ep H' d p1 (s1.trans s) n (s _ _ upd_same)) (fun df k H2 q2 e2 => ?_) kd)
    obtain ⟨ft, g0⟩ := fits_of ri df
    generalize hcm : rs.map Raw.cmd = cs at *
    have e12 := s1.trans e2
    refine ⟨_, rfl, _, rfl, _, rfl, t, l, tx, row, xs, cs, rfl, ft.same e12, fun H3 p3 e3 hp3 => ?_⟩
    have e13 := e12.trans e3
    refine ⟨p3, _, rfl, SqT.of hp3, rfl, _, _, rfl, _, _, rfl, _, _, rfl, rfl, ?_⟩
    generalize glo : aimF (lenAt tx) row (some 0) cs = lo at *
    generalize ghi : aimF (lenAt tx) row none cs = hi at *
    refine ⟨fun σ H' => σ = [some (.ref t), some (.int row), some (.ref l), some (optV goal), some (optV lo), some (optV hi), some (.int (chg cs)), none] ∧ H' = H3 ∧ lessB goal lo = false ∧ lessB hi goal = false, ?_, ?_⟩
    · refine ⟨_, rfl, _, rfl, goal, lo, rfl, _, rfl, ?_⟩
      cases h1 : lessB goal lo with
      | true => exact iteT (k _ .non e13)
      | false =>
        refine iteF ⟨_, rfl, _, rfl, hi, goal, rfl, _, rfl, ?_⟩
        cases h2 : lessB hi goal with
        | true => exact iteT (k _ .non e13)
        | false => exact iteF ⟨rfl, rfl, rfl, rfl⟩
    · rintro σ H4 ⟨rfl, rfl, h1, h2⟩
      refine ⟨fun σ H' => σ = [some (.ref t), some (.int row), some (.ref l), some (optV goal), some (optV lo), some (optV hi), some (.int (chg cs)), some (optV (goal.map (· - chg cs)))] ∧ H' = H4, ?_, ?_⟩
      · cases goal with
        | none => exact ⟨_, rfl, rfl, _, rfl, iteT ⟨rfl, rfl⟩⟩
        | some x => exact ⟨_, rfl, rfl, _, rfl, iteF ⟨_, rfl, _, rfl, _, _, rfl, rfl, rfl, rfl⟩⟩
      · rintro σ H5 ⟨rfl, rfl⟩
        have seq : ∀ a b : Option Int, scal (optV a) (optV b) = true ∧ decide (optV a = optV b) = decide (a = b) := fun a b => by
          cases a <;> cases b <;> simp [scal, optV]
        refine ⟨_, rfl, _, rfl, (seq goal lo).1, _, rfl, ?_⟩
        have fin : ∀ a : Option Int, (goal = lo → a = some 0) → (goal ≠ lo → a = goal.map (· - chg cs)) → ∀ b : Option Int, (goal = hi → b = none) → (goal ≠ hi → b = goal.map (· - chg cs)) → ∀ (H' : Hp) (p : Addr), Same H H' → H' p = some (.tup [optV a, optV b]) → Q (.ref p) H' := fun a a1 a2 b b1 b2 H' p e hp => k H' (.ref p) e
        rw [(seq goal lo).2]
        have last : ∀ a : Option Int, (goal = lo → a = some 0) → (goal ≠ lo → a = goal.map (· - chg cs)) → ∀ (b : Option Int), (goal = hi → b = none) → (goal ≠ hi → b = goal.map (· - chg cs)) → ∀ p, H5 p = none → Q (.ref p) (upd H5 p (.tup [optV a, optV b])) := fun a a1 a2 b b1 b2 p hp =>
          fin a a1 a2 b b1 b2 _ p (same_upd e13 hp) upd_same
        refine ite2 (fun c => ?_) (fun c => ?_)
        · have c' : goal = lo := of_decide_eq_true c
          refine ⟨_, rfl, _, rfl, (seq goal hi).1, _, rfl, ?_⟩
          rw [(seq goal hi).2]
          refine ite2 (fun d => ?_) (fun d => ?_)
          · have d' : goal = hi := of_decide_eq_true d
            exact ⟨(by show 2 ≤ sizeLine; decide), last (some 0) (fun _ => rfl) (fun z => absurd c' z) none (fun _ => rfl) (fun z => absurd d' z)⟩
          · have d' : goal ≠ hi := fun z => d (decide_eq_true z)
            exact ⟨_, rfl, (by show 2 ≤ sizeLine; decide), last (some 0) (fun _ => rfl) (fun z => absurd c' z) _ (fun z => absurd z d') (fun _ => rfl)⟩
        · have c' : goal ≠ lo := fun z => c (decide_eq_true z)
          refine ⟨_, rfl, _, rfl, _, rfl, (seq goal hi).1, _, rfl, ?_⟩
          rw [(seq goal hi).2]
          refine ite2 (fun d => ?_) (fun d => ?_)
          · have d' : goal = hi := of_decide_eq_true d
            exact ⟨(by show 2 ≤ sizeLine; decide), last _ (fun z => absurd z c') (fun _ => rfl) none (fun _ => rfl) (fun z => absurd d' z)⟩
          · have d' : goal ≠ hi := fun z => d (decide_eq_true z)
            exact ⟨_, rfl, (by show 2 ≤ sizeLine; decide), last _ (fun z => absurd z c') (fun _ => rfl) _ (fun z => absurd z d') (fun _ => rfl)⟩
end
end Gc

/-! the program's counts of texts, where nothing is raised -/
namespace Gc
open PySem L2
abbrev s_count_texts : Stmt := top 35
abbrev s_count_reaching : Stmt := top 36
@[irreducible] def zBox (K : PySem.W.Frag) : Sp := spBox K
theorem zBox_eq (K : PySem.W.Frag) : zBox K = spBox K := by unfold zBox; rfl
structure TxtN (mg : Str → Option Value) : Prop where
  range : mg "range" = none
  len : mg "len" = none
  max : mg "max" = none
/-- a box that is met with: its tuple, its list, its pairs -/
def BoxW (H : Hp) (v : V) : Option (Option Int × Ps) → Prop
  | none => v = .non
  | some x => ∃ (p m : Addr) (ts : List Addr), v = .ref p ∧ H p = some (.tup [optV x.1, .ref m]) ∧ H m = some (.lst (ts.map V.ref)) ∧ Paired (fun (t : Addr) (q : Int × Int) => H t = some (.tup [.int q.1, .int q.2])) ts x.2
theorem ask_boxW {K : PySem.W.Frag} {H : Hp} {Q : VK} {E : XK} {l : Addr} {xs : List V} {cs : List Cmd} {goal : Int} (hl : SqL K H l xs) (hc : CmdsOf K H xs cs) (ok : AllOk cs) (ln : cs.length ≤ 10000) (hg : 1 ≤ goal)
    (k : ∀ H' v, Same H H' → BoxW H' v (boxM cs goal) → Q v H') : zBox K [.ref l, .int goal] H Q E := by
  rw [zBox_eq]
  refine ⟨l, xs, cs, goal, rfl, hl, hc, ok, ln, hg, fun e H' s => k H' .non s (by rw [e]; rfl), fun st L e H' p s b => k H' (.ref p) s ?_⟩
  rw [e]
  obtain ⟨m, ts, np, nm, h1, h2, h3⟩ := b
  exact ⟨p, m, ts, rfl, h1, h2, h3⟩
/-- the number of texts on which at least a goal is reached -/
def boxFor (cs : List Cmd) (goal : Int) : Option (Option Int × Ps) := if goal = 0 then some (none, []) else boxM cs goal
def tooSmall : Option Int → Option Int → Bool
  | some n, some x => decide (x < n)
  | _, _ => false
def reachN (lines : Nat) (M : Int) (start : Option Int) (cs : List Cmd) (goal : Int) : Int := match boxFor cs goal with
  | none => 0
  | some x => if tooSmall x.1 start = true then 0 else prodL M x.2 * M ^ (lines - x.2.length)
def CmdsIn (K : PySem.W.Frag) (H : Hp) (l : Addr) (xs : List V) (cs : List Cmd) : Prop := SqL K H l xs ∧ CmdsOf K H xs cs ∧ AllOk cs ∧ cs.length ≤ 100
def spReaching (K : PySem.W.Frag) : Sp := fun vs H Q _ => ∃ (lines : Nat) (longest : Int) (start : Option Int) (l : Addr) (xs : List V) (cs : List Cmd) (goal : Int), vs = [.int lines, .int longest, optV start, .ref l, .int goal] ∧ CmdsIn K H l xs cs ∧ lines ≤ 40 ∧ 0 ≤ longest ∧ longest < 2 ^ 110 ∧ 0 ≤ goal ∧
  (∀ x, boxFor cs goal = some x → x.2.length ≤ lines ∧ ∀ q ∈ x.2, 1 ≤ q.2) ∧ ∀ H', Same H H' → Q (.int (reachN lines (longest + 1) start cs goal)) H'
def countN (lines : Nat) (longest row : Int) (start : Option Int) (cs : List Cmd) (goal : Option Int) : Int :=
  if row + (rchM cs).1 < 0 ∨ (lines : Int) ≤ row + (rchM cs).2.1 then 0 else match goal with
    | none => reachN lines (longest + 1) start cs (max longest (start.getD 0) + 1)
    | some v => reachN lines (longest + 1) start cs v - reachN lines (longest + 1) start cs (v + 1)
def spCountT (K : PySem.W.Frag) : Sp := fun vs H Q _ => ∃ (lines : Nat) (longest row : Int) (start : Option Int) (c l : Addr) (xs : List V) (cs : List Cmd) (goal : Option Int), vs = [.int lines, .int longest, .ref c, .ref l, optV goal] ∧ SqT K H c [.int row, optV start] ∧ CmdsIn K H l xs cs ∧
  1 ≤ lines ∧ lines ≤ 40 ∧ 0 ≤ longest ∧ longest < 2 ^ 110 ∧ 0 ≤ row ∧ row < lines ∧ ge start 0 ∧ ge goal 0 ∧ ∀ H', Same H H' → Q (.int (countN lines longest row start cs goal)) H'
theorem rch_in2 (cs : List Cmd) : Within cs (rchM cs).1 (rchM cs).2.1 ∧ (rchM cs).2.2 = last cs := by
  have key : ∀ n, n ≤ cs.length → (∀ i, i ≤ n → (rchM (cs.take n)).1 ≤ last (cs.take i) ∧ last (cs.take i) ≤ (rchM (cs.take n)).2.1) ∧ (rchM (cs.take n)).2.2 = last (cs.take n) := by
    intro n
    induction n with
    | zero =>
      intro _
      refine ⟨fun i hi => ?_, rfl⟩
      obtain rfl : i = 0 := by omega
      exact ⟨Int.le_refl 0, Int.le_refl 0⟩
    | succ n ih =>
      intro hn
      obtain ⟨h1, h2⟩ := ih (by omega)
      have hc : cs[n]? = some cs[n] := List.getElem?_eq_getElem (by omega)
      rw [rch_more hc]
      have lm : last (cs.take (n + 1)) = last (cs.take n) + cs[n].dv := by rw [take_snoc hc, last_snoc]
      unfold rstep
      refine ⟨fun i hi => ?_, by rw [h2, lm]⟩
      have top : (if (rchM (cs.take n)).2.2 + cs[n].dv < (rchM (cs.take n)).1 then (rchM (cs.take n)).2.2 + cs[n].dv else (rchM (cs.take n)).1) ≤ (rchM (cs.take n)).1 ∧ (if (rchM (cs.take n)).2.2 + cs[n].dv < (rchM (cs.take n)).1 then (rchM (cs.take n)).2.2 + cs[n].dv else (rchM (cs.take n)).1) ≤ (rchM (cs.take n)).2.2 + cs[n].dv := by
        split <;> omega
      have bot : (rchM (cs.take n)).2.1 ≤ (if (rchM (cs.take n)).2.2 + cs[n].dv > (rchM (cs.take n)).2.1 then (rchM (cs.take n)).2.2 + cs[n].dv else (rchM (cs.take n)).2.1) ∧ (rchM (cs.take n)).2.2 + cs[n].dv ≤ (if (rchM (cs.take n)).2.2 + cs[n].dv > (rchM (cs.take n)).2.1 then (rchM (cs.take n)).2.2 + cs[n].dv else (rchM (cs.take n)).2.1) := by
        split <;> omega
      by_cases e : i = n + 1
      · subst e
        rw [lm, ← h2]
        exact ⟨top.2, bot.2⟩
      · have q := h1 i (by omega)
        exact ⟨Int.le_trans top.1 q.1, Int.le_trans q.2 bot.1⟩
  have kl := key cs.length (Nat.le_refl _)
  rw [List.take_length] at kl
  refine ⟨fun i => ?_, kl.2⟩
  by_cases l : i ≤ cs.length
  · exact kl.1 i l
  · rw [List.take_of_length_le (by omega)]
    have := kl.1 cs.length (Nat.le_refl _)
    rw [List.take_length] at this
    exact this
theorem rch_in (cs : List Cmd) : Within cs (rchM cs).1 (rchM cs).2.1 := (rch_in2 cs).1
theorem boxFor_fit {cs : List Cmd} {goal row : Int} {lines : Nat} (ok : AllOk cs) (g0 : 0 ≤ goal) (w : Within cs (-row) (lines - 1 - row)) (x : Option Int × Ps) (h : boxFor cs goal = some x) :
    Asc x.2 ∧ (∀ q ∈ x.2, 0 ≤ row + q.1 ∧ row + q.1 < lines) ∧ x.2.length ≤ lines ∧ ∀ q ∈ x.2, 1 ≤ q.2 := by
  unfold boxFor at h
  by_cases e : goal = 0
  · rw [if_pos e] at h
    cases h
    exact ⟨List.Pairwise.nil, (fun _ h => nomatch h), Nat.zero_le _, (fun _ h => nomatch h)⟩
  · rw [if_neg e] at h
    obtain ⟨st, L⟩ := x
    have bw := box_within h w
    rcases box_spec ok (show 1 ≤ goal by omega) with ⟨b1, _⟩ | ⟨st', b, b1, gb, _, pb⟩
    · rw [b1] at h
      cases h
    · rw [b1] at h
      cases h
      have g := good_perm gb (List.mergeSort_perm b leK)
      have a := asc_sort gb
      have inn : ∀ q ∈ b.mergeSort leK, 0 ≤ row + q.1 ∧ row + q.1 < lines := fun q hq => by
        have := bw q hq
        omega
      have z := w.zero
      have ln := asc_len (lo := -row) (hi := lines - 1 - row) a (fun q hq => bw q hq) (by omega)
      exact ⟨a, inn, by show (b.mergeSort leK).length ≤ lines; omega, g.pos⟩
@[irreducible] def zReach (K : PySem.W.Frag) : Sp := spReach K
theorem zReach_eq (K : PySem.W.Frag) : zReach K = spReach K := by unfold zReach; rfl
@[irreducible] def zReaching (K : PySem.W.Frag) : Sp := spReaching K
theorem zReaching_eq (K : PySem.W.Frag) : zReaching K = spReaching K := by unfold zReaching; rfl
theorem ask_reach {K : PySem.W.Frag} {H : Hp} {Q : VK} {E : XK} {l : Addr} {xs : List V} {cs : List Cmd} (ci : CmdsIn K H l xs cs) (k : ∀ (H' : Hp) (p : Addr), Same H H' → H' p = some (.tup [.int (rchM cs).1, .int (rchM cs).2.1, .int (last cs)]) → Q (.ref p) H') : zReach K [.ref l] H Q E := by
  rw [zReach_eq]
  obtain ⟨hl, hcs, ok, ln⟩ := ci
  exact ⟨l, xs, cs, rfl, hl, hcs, ok, by omega, fun H' p e _ hp => k H' p e hp⟩
theorem CmdsIn.same {K : PySem.W.Frag} {H H' : Hp} {l : Addr} {xs : List V} {cs : List Cmd} (e : Same H H') (h : CmdsIn K H l xs cs) : CmdsIn K H' l xs cs := ⟨e.seq h.1, h.2.1.same e, h.2.2⟩
theorem ask_reaching {K : PySem.W.Frag} {H : Hp} {Q : VK} {E : XK} {lines : Nat} {longest row goal : Int} {start : Option Int} {l : Addr} {xs : List V} {cs : List Cmd} (ci : CmdsIn K H l xs cs) (ll : lines ≤ 40) (z0 : 0 ≤ longest) (z1 : longest < 2 ^ 110) (g0 : 0 ≤ goal)
    (w : Within cs (-row) (lines - 1 - row)) (k : ∀ H', Same H H' → Q (.int (reachN lines (longest + 1) start cs goal)) H') : zReaching K [.int lines, .int longest, optV start, .ref l, .int goal] H Q E := by
  rw [zReaching_eq]
  refine ⟨lines, longest, start, l, xs, cs, goal, rfl, ci, ll, z0, z1, g0, fun x hx => ?_, k⟩
  obtain ⟨_, _, h3, h4⟩ := boxFor_fit ci.2.2.1 g0 w x hx
  exact ⟨h3, h4⟩
theorem fac_size {M b : Int} (h0 : 0 ≤ M) (h : M < 2 ^ 111) (b0 : 0 ≤ b) : (fac M b).natAbs < 2 ^ 111 := by
  unfold fac
  omega
theorem grow_size {c d : Int} {i : Nat} (hc : c.natAbs < 2 ^ (112 * i + 1)) (hd : d.natAbs < 2 ^ 111) : (c * d).natAbs < 2 ^ (112 * (i + 1) + 1) := by
  have := wide_lt hc hd
  exact Nat.lt_of_lt_of_le this (Nat.pow_le_pow_right (by decide) (by omega))
theorem prodL_snoc (M : Int) (L : Ps) (q : Int × Int) : prodL M (L ++ [q]) = prodL M L * fac M q.2 := by
  unfold prodL
  rw [List.foldl_append]
  rfl
section
variable {P : Program} {w : World} {K : PySem.W.Frag} {mg : Str → Option Value} {base : Heap} {wo wn : Addr}
theorem sc_count_reaching : FnScope ["lines", "longest", "start", "commands", "goal", "found", "least", "bounds", "count", "_", "bound"] ["lines", "longest", "start", "commands", "goal"] (defScope s_count_reaching) := ⟨rfl, rfl, rfl, by decide +kernel, rfl, by decide +kernel, by decide +kernel⟩
theorem ok_count_reaching {f : Addr} {fd : FuncData} (F : Fun K "count_reaching" "count_reaching" s_count_reaching f fd) (T : TxtN mg) (c_box : Cal P w K mg base 5 "box" (zBox K)) : FnOk P w K mg base CX0 6 f fd ["lines", "longest", "start", "commands", "goal"] (spReaching K) := by
  refine F.ok sc_count_reaching (fun vs H Q E h => ?_) (fun cdv A outer s H vs Q E hr h => ?_)
  · obtain ⟨lines, longest, start, l, xs, cs, goal, rfl, _⟩ := h
    rfl
  · obtain ⟨lines, longest, start, l, xs, cs, goal, rfl, ⟨hl, hcs, ok, ln⟩, ll, z0, z1, g0, hb, k⟩ := h
    refine ⟨_, (C8.pss_cut (ps_set (i := 5) sc_count_reaching.nd rfl (Or.inl rfl) (pe_ifExp (pt_cmpR op_eq (pv 4) pe_int (nomark _)) (pe_tup (pa_cons pe_non (pa_cons (pe_lst pa_nil) pa_nil))) (pe_cal c_box hr (by decide) (by rfl) (pa_cons (pv 3) (pa_cons (pv 4) pa_nil)))))
      (pss_cons (ps_if (pt_cmpR op_isN (pv 5) pe_non (nomark _)) (pss_one (ps_ret pe_int)) pss_nil)
      (pss_cons (ps_asg (pv 5) (pg_tup rfl (pgs_cons (pg_name (i := 6) sc_count_reaching.nd rfl (Or.inl rfl)) (pgs_cons (pg_name (i := 7) sc_count_reaching.nd rfl (Or.inl rfl)) pgs_nil))))
      (C8.pss_cut (ps_if (PW.pt (pw_and (pt_cmpR op_notN (pv 6) pe_non (nomark _)) (pw_and (pt_cmpR op_notN (pv 2) pe_non (nomark _)) (pw_and1 (pt_cmpR op_lt (pv 2) (pv 6) (nomark _)))))) (pss_one (ps_ret pe_int)) pss_nil)
      (pss_cons (ps_set (i := 8) sc_count_reaching.nd rfl (Or.inl rfl) pe_int)
      (pss_cons (ps_for PassesOwn.never rfl (pi_list (pv 7)) (pg_tup rfl (pgs_cons (pg_name (i := 9) sc_count_reaching.nd rfl (Or.inl rfl)) (pgs_cons (pg_name (i := 10) sc_count_reaching.nd rfl (Or.inl rfl)) pgs_nil))) (pss_one (ps_aug (i := 8) sc_count_reaching.nd rfl (Or.inl rfl) (pe_callB (call_max2 rfl) (by rfl) T.max (by decide +kernel) (pa_cons (pe_op op_sub (pe_op op_add (pv 1) pe_int) (pv 10)) (pa_cons pe_int pa_nil))) ip_mulW)))
      (pss_cons (ps_for PassesOwn.never rfl (pi_range1 rfl T.range (pa_cons (pe_op op_sub (pv 0) (pe_callB call_len_seq (by rfl) T.len (by decide +kernel) (pa_cons (pv 7) pa_nil))) pa_nil)) (pg_name (i := 9) sc_count_reaching.nd rfl (Or.inl rfl)) (pss_one (ps_aug (i := 8) sc_count_reaching.nd rfl (Or.inl rfl) (pe_op op_add (pv 1) pe_int) ip_mulW)))
      (pss_one (ps_ret (pv 8)))))))))), ?_⟩
    refine ⟨fun σ H' => ∃ v : V, σ = [some (.int lines), some (.int longest), some (optV start), some (.ref l), some (.int goal), some v, none, none, none, none, none] ∧ Same H H' ∧ BoxW H' v (boxFor cs goal), ?_, ?_⟩
    · refine ⟨_, rfl, rfl, _, rfl, ?_⟩
      by_cases e : goal = 0
      · subst e
        refine iteT ?_
        refine ⟨Nat.zero_le _, fun q hq => ⟨(by show 2 ≤ sizeLine; decide), fun p hp => ?_⟩⟩
        have s1 : Same H (upd H q (.lst [])) := same_upd (Same.refl _) hq
        have s2 : Same (upd H q (.lst [])) (upd (upd H q (.lst [])) p (.tup [.non, .ref q])) := same_upd (Same.refl _) hp
        exact ⟨_, rfl, s1.trans s2, p, q, [], rfl, upd_same, s2 _ _ upd_same, .nil⟩
      · rw [decide_eq_false (show ¬ V.int goal = V.int 0 from fun z => e (V.int.inj z))]
        refine iteF ?_
        refine ⟨_, rfl, _, rfl, ?_⟩
        refine ask_boxW hl hcs ok (by omega) (show 1 ≤ goal by omega) (fun H1 v e1 b1 => ?_)
        refine ⟨v, rfl, e1, ?_⟩
        unfold boxFor
        rw [if_neg e]
        exact b1
    · rintro σ H1 ⟨v, rfl, e1, hv⟩
      cases hbx : boxFor cs goal with
      | none =>
        rw [hbx] at hv
        obtain rfl : v = .non := hv
        refine ⟨_, rfl, rfl, _, rfl, iteT ?_⟩
        have e0 : reachN lines (longest + 1) start cs goal = 0 := by
          unfold reachN
          rw [hbx]
        rw [e0] at k
        exact k H1 e1
      | some x =>
        rw [hbx] at hv
        obtain ⟨st, L⟩ := x
        obtain ⟨Ll, Lp⟩ := hb _ hbx
        have Ll' : L.length ≤ lines := Ll
        obtain ⟨p, m, ts, rfl, h1, h2, h3⟩ := hv
        have h3' : Paired (fun (t : Addr) (q : Int × Int) => H1 t = some (.tup [.int q.1, .int q.2])) ts L := h3
        have tl : ts.length = L.length := Paired.length h3'
        refine ⟨_, rfl, rfl, _, rfl, iteF ?_⟩
        refine ⟨_, rfl, p, _, rfl, SqT.of h1, rfl, _, _, rfl, _, _, rfl, rfl, ?_⟩
        refine ⟨fun σ H' => σ = [some (.int lines), some (.int longest), some (optV start), some (.ref l), some (.int goal), some (.ref p), some (optV st), some (.ref m), none, none, none] ∧ H' = H1 ∧ tooSmall st start = false, ?_, ?_⟩
        · cases st with
          | none => exact ⟨_, rfl, rfl, _, rfl, iteF (iteF ⟨rfl, rfl, rfl⟩)⟩
          | some n =>
            refine ⟨_, rfl, rfl, _, rfl, iteT ?_⟩
            cases start with
            | none => exact ⟨_, rfl, rfl, _, rfl, iteF (iteF ⟨rfl, rfl, rfl⟩)⟩
            | some y =>
              refine ⟨_, rfl, rfl, _, rfl, iteT ?_⟩
              refine ⟨_, rfl, _, rfl, _, _, rfl, rfl, _, rfl, ite2 (fun c => ?_) (fun c => ?_)⟩
              · have e0 : reachN lines (longest + 1) (some y) cs goal = 0 := by
                  unfold reachN
                  rw [hbx]
                  exact if_pos c
                rw [e0] at k
                exact k H1 e1
              · exact ⟨rfl, rfl, Bool.eq_false_iff.mpr c⟩
        · rintro σ H2 ⟨rfl, rfl, hts⟩
          have eN : reachN lines (longest + 1) start cs goal = prodL (longest + 1) L * (longest + 1) ^ (lines - L.length) := by
            unfold reachN
            rw [hbx]
            show (if tooSmall st start = true then (0 : Int) else _) = _
            rw [if_neg (by rw [hts]; exact Bool.false_ne_true)]
          rw [eN] at k
          have M0 : 0 ≤ longest + 1 := by omega
          have M1 : longest + 1 < 2 ^ 111 := by omega
          refine ⟨_, rfl, m, rfl, ⟨_, SqL.of h2⟩, for_list (K := K) (a := m) (xs := ts.map V.ref) (fun i σ H' => ∃ v9 v10 : Option V, σ = [some (.int lines), some (.int longest), some (optV start), some (.ref l), some (.int goal), some (.ref p), some (optV st), some (.ref m), some (.int (prodL (longest + 1) (L.take i))), v9, v10] ∧ H' = H2 ∧
              (prodL (longest + 1) (L.take i)).natAbs < 2 ^ (112 * i + 1))
            ⟨none, none, rfl, rfl, by show (1 : Int).natAbs < 2 ^ (112 * 0 + 1); decide⟩ (fun i σ H' _ ⟨_, _, _, e, _⟩ => e ▸ SqL.of h2) (fun i y σ H3 hi h => ?_) (fun σ H3 h => ?_)⟩
          · obtain ⟨v9, v10, rfl, rfl, sz⟩ := h
            obtain ⟨u, hu, rfl⟩ := ref_at hi
            obtain ⟨q, hq, ht1⟩ := paired_at h3' hu
            have li := (List.getElem?_eq_some_iff.mp hq).1
            have q1 := Lp q (List.mem_of_getElem? hq)
            have fs := fac_size M0 M1 (show 0 ≤ q.2 by omega)
            refine ⟨u, _, rfl, SqT.of ht1, rfl, _, _, rfl, _, _, rfl, rfl, ?_⟩
            refine ⟨_, rfl, _, rfl, _, _, rfl, rfl, _, rfl, _, _, rfl, rfl, _, _, rfl, ?_⟩
            have em : (if 0 > longest + 1 - q.2 then 0 else longest + 1 - q.2) = fac (longest + 1) q.2 := by
              unfold fac
              rw [maxI]
            rw [em]
            refine ⟨_, _, rfl, rfl, wide_mul (a := 112 * i + 1) (b := 111) sz fs (by omega) (by decide) (by omega), ?_⟩
            refine ⟨some (.int q.1), some (.int q.2), ?_, rfl, ?_⟩
            · rw [take_snoc hq, prodL_snoc]
              rfl
            · rw [take_snoc hq, prodL_snoc]
              exact grow_size sz fs
          · obtain ⟨v9, v10, rfl, rfl, sz⟩ := h
            rw [List.length_map, tl, List.take_length]
            rw [List.length_map, tl, List.take_length] at sz
            refine ⟨_, rfl, _, rfl, m, _, rfl, .inl (SqL.of h2), _, _, rfl, rfl, _, rfl, ?_, ?_, ?_⟩
            · rw [List.length_map]
              omega
            · rw [List.length_map]
              omega
            refine for_range (lo := 0) (fun j σ H' => ∃ v9 v10 : Option V, σ = [some (.int lines), some (.int longest), some (optV start), some (.ref l), some (.int goal), some (.ref p), some (optV st), some (.ref m), some (.int (prodL (longest + 1) L * (longest + 1) ^ j)), v9, v10] ∧ H' = H3 ∧
                (prodL (longest + 1) L * (longest + 1) ^ j).natAbs < 2 ^ (112 * (L.length + j) + 1))
              ⟨v9, v10, by rw [Int.pow_zero, Int.mul_one], rfl, by rw [Int.pow_zero, Int.mul_one]; exact sz⟩ (fun j σ H4 hj h => ?_) (fun σ H4 h => ?_)
            · obtain ⟨w9, w10, rfl, rfl, sz4⟩ := h
              rw [List.length_map, tl] at hj
              have ms : (longest + 1).natAbs < 2 ^ 111 := by omega
              refine ⟨_, rfl, _, rfl, _, _, rfl, rfl, _, _, rfl, rfl, wide_mul (a := 112 * (L.length + j) + 1) (b := 111) sz4 ms (by omega) (by decide) (by omega), ?_⟩
              refine ⟨some (.int (0 + (j : Int))), w10, ?_, rfl, ?_⟩
              · rw [Int.pow_succ, ← Int.mul_assoc]
                rfl
              · rw [Int.pow_succ, ← Int.mul_assoc]
                exact grow_size sz4 ms
            · obtain ⟨w9, w10, rfl, rfl, sz4⟩ := h
              rw [List.length_map, tl, show ((lines : Int) - (L.length : Nat)).toNat = lines - L.length by omega]
              exact ⟨_, rfl, k _ e1⟩
theorem sc_count_texts : FnScope ["lines", "longest", "cursor", "commands", "goal", "row", "start", "least", "greatest", "_", "beyond", "reaching"] ["lines", "longest", "cursor", "commands", "goal"] (defScope s_count_texts) := ⟨rfl, rfl, rfl, by decide +kernel, rfl, by decide +kernel, by decide +kernel⟩
theorem ok_count_texts {f : Addr} {fd : FuncData} (F : Fun K "count_texts" "count_texts" s_count_texts f fd) (T : TxtN mg) (c_check_number : Cal P w K mg base 1 "check_number" spNum) (c_check_cursor : Cal P w K mg base 1 "check_cursor" (spCursor K))
    (c_check_commands : Cal P w K mg base 3 "check_commands" (spCheck K)) (c_reach : Cal P w K mg base 4 "reach" (zReach K)) (c_count_reaching : Cal P w K mg base 6 "count_reaching" (zReaching K)) :
    FnOk P w K mg base CX0 7 f fd ["lines", "longest", "cursor", "commands", "goal"] (spCountT K) := by
  refine F.ok sc_count_texts (fun vs H Q E h => ?_) (fun cdv A outer s H vs Q E hr h => ?_)
  · obtain ⟨lines, longest, row, start, c, l, xs, cs, goal, rfl, _⟩ := h
    rfl
  · obtain ⟨lines, longest, row, start, c, l, xs, cs, goal, rfl, hc, ci, l1, ll, z0, z1, r0, r1, s0, g0, k⟩ := h
    obtain ⟨hl, hcs, ok, ln⟩ := id ci
    refine ⟨_, (pss_cons (ps_expr (pe_cal c_check_number hr (by decide) (by rfl) (pa_cons (pv 0) (pa_cons pe_int pa_nil))))
      (pss_cons (ps_expr (pe_cal c_check_number hr (by decide) (by rfl) (pa_cons (pv 1) (pa_cons pe_int pa_nil))))
      (pss_cons (ps_expr (pe_cal c_check_cursor hr (by decide) (by rfl) (pa_cons (pv 0) (pa_cons (pv 2) pa_nil))))
      (pss_cons (ps_expr (pe_cal c_check_commands hr (by decide) (by rfl) (pa_cons (pv 3) pa_nil)))
      (C8.pss_cut (ps_if (pt_cmpR op_notN (pv 4) pe_non (nomark _)) (pss_one (ps_expr (pe_cal c_check_number hr (by decide) (by rfl) (pa_cons (pv 4) (pa_cons pe_int pa_nil))))) pss_nil)
      (pss_cons (ps_asg (pv 2) (pg_tup rfl (pgs_cons (pg_name (i := 5) sc_count_texts.nd rfl (Or.inl rfl)) (pgs_cons (pg_name (i := 6) sc_count_texts.nd rfl (Or.inl rfl)) pgs_nil))))
      (pss_cons (ps_asg (pe_cal c_reach hr (by decide) (by rfl) (pa_cons (pv 3) pa_nil)) (pg_tup rfl (pgs_cons (pg_name (i := 7) sc_count_texts.nd rfl (Or.inl rfl)) (pgs_cons (pg_name (i := 8) sc_count_texts.nd rfl (Or.inl rfl)) (pgs_cons (pg_name (i := 9) sc_count_texts.nd rfl (Or.inl rfl)) pgs_nil)))))
      (pss_cons (ps_if (PW.pt (pw_or (pt_cmpR op_lt (pe_op op_add (pv 5) (pv 7)) pe_int (nomark _)) (pw_or1 (pt_cmpR op_ge (pe_op op_add (pv 5) (pv 8)) (pv 0) (nomark _))))) (pss_one (ps_ret pe_int)) pss_nil)
      (pss_cons (ps_if (pt_cmpR op_isN (pv 4) pe_non (nomark _)) (pss_cons (ps_set (i := 10) sc_count_texts.nd rfl (Or.inl rfl) (pe_op op_add (pe_callB (call_max2 rfl) (by rfl) T.max (by decide +kernel) (pa_cons (pv 1) (pa_cons (pe_ifExp (pt_cmpR op_isN (pv 6) pe_non (nomark _)) pe_int (pv 6)) pa_nil))) pe_int))
      (pss_one (ps_ret (pe_cal c_count_reaching hr (by decide) (by rfl) (pa_cons (pv 0) (pa_cons (pv 1) (pa_cons (pv 6) (pa_cons (pv 3) (pa_cons (pv 10) pa_nil))))))))) pss_nil)
      (pss_cons (ps_set (i := 11) sc_count_texts.nd rfl (Or.inl rfl) (pe_cal c_count_reaching hr (by decide) (by rfl) (pa_cons (pv 0) (pa_cons (pv 1) (pa_cons (pv 6) (pa_cons (pv 3) (pa_cons (pv 4) pa_nil)))))))
      (pss_one (ps_ret (pe_op op_sub (pv 11) (pe_cal c_count_reaching hr (by decide) (by rfl) (pa_cons (pv 0) (pa_cons (pv 1) (pa_cons (pv 6) (pa_cons (pv 3) (pa_cons (pe_op op_add (pv 4) pe_int) pa_nil))))))))))))))))))), ?_⟩
    refine ⟨_, rfl, lines, 1, rfl, by omega, ?_⟩
    refine ⟨_, rfl, longest, 0, rfl, z0, ?_⟩
    refine ⟨_, rfl, _, rfl, lines, row, start, c, rfl, hc, r0, r1, s0, ?_⟩
    refine ⟨_, rfl, l, xs, cs, rfl, hl, hcs, ok, by omega, fun H1 e1 => ?_⟩
    refine ⟨fun σ H' => σ = [some (.int lines), some (.int longest), some (.ref c), some (.ref l), some (optV goal), none, none, none, none, none, none, none] ∧ H' = H1, ?_, ?_⟩
    · cases goal with
      | none => exact ⟨_, rfl, rfl, _, rfl, iteF ⟨rfl, rfl⟩⟩
      | some v =>
        have v0 := ge_some.mp g0
        exact ⟨_, rfl, rfl, _, rfl, iteT ⟨_, rfl, v, 0, rfl, v0, rfl, rfl⟩⟩
    · rintro σ H2 ⟨rfl, rfl⟩
      refine ⟨_, rfl, c, _, rfl, seq_t e1 hc, rfl, _, _, rfl, _, _, rfl, rfl, ?_⟩
      refine ⟨_, rfl, ?_⟩
      refine ask_reach (ci.same e1) (fun H3 p3 e3 hp3 => ?_)
      have e13 := e1.trans e3
      refine ⟨p3, _, rfl, SqT.of hp3, rfl, _, _, rfl, _, _, rfl, _, _, rfl, rfl, ?_⟩
      have out : (row + (rchM cs).1 < 0 ∨ (lines : Int) ≤ row + (rchM cs).2.1) → Q (.int 0) H3 := fun z => by
        have e0 : countN lines longest row start cs goal = 0 := by
          unfold countN
          rw [if_pos z]
        rw [e0] at k
        exact k H3 e13
      refine ⟨_, rfl, _, rfl, _, _, rfl, rfl, _, _, rfl, rfl, _, rfl, ite2 (fun c0 => out (.inl (of_decide_eq_true c0))) (fun c0 => ?_)⟩
      refine ⟨_, rfl, _, rfl, _, _, rfl, rfl, _, rfl, _, _, rfl, rfl, _, rfl, ite2 (fun c1 => out (.inr (of_decide_eq_true c1))) (fun c1 => ?_)⟩
      have c0' : ¬ row + (rchM cs).1 < 0 := fun z => c0 (decide_eq_true z)
      have c1' : ¬ (lines : Int) ≤ row + (rchM cs).2.1 := fun z => c1 (decide_eq_true z)
      have wi : Within cs (-row) (lines - 1 - row) := fun i => by
        have := rch_in cs i
        omega
      cases goal with
      | none =>
        refine ⟨_, rfl, rfl, _, rfl, iteT ?_⟩
        have s1 : 0 ≤ start.getD 0 := by
          cases start with
          | none => exact Int.le_refl 0
          | some x => exact ge_some.mp s0
        have eN : countN lines longest row start cs none = reachN lines (longest + 1) start cs (max longest (start.getD 0) + 1) := by
          unfold countN
          rw [if_neg (by omega)]
        rw [eN] at k
        cases start with
        | none =>
          refine ⟨_, rfl, _, rfl, rfl, _, rfl, iteT ⟨_, _, rfl, _, _, rfl, rfl, ?_⟩⟩
          rw [maxI]
          refine ⟨_, rfl, _, rfl, _, rfl, _, rfl, _, rfl, ?_⟩
          exact ask_reaching (start := none) (goal := max longest 0 + 1) (row := row) (ci.same e13) ll z0 z1 (by omega) wi fun H4 e4 => k _ (e13.trans e4)
        | some x =>
          have x0 := ge_some.mp s0
          refine ⟨_, rfl, _, rfl, rfl, _, rfl, iteF ⟨_, rfl, _, _, rfl, _, _, rfl, rfl, ?_⟩⟩
          rw [maxI]
          refine ⟨_, rfl, _, rfl, _, rfl, _, rfl, _, rfl, ?_⟩
          exact ask_reaching (start := some x) (goal := max longest x + 1) (row := row) (ci.same e13) ll z0 z1 (by omega) wi fun H4 e4 => k _ (e13.trans e4)
      | some v =>
        have v0 := ge_some.mp g0
        have eN : countN lines longest row start cs (some v) = reachN lines (longest + 1) start cs v - reachN lines (longest + 1) start cs (v + 1) := by
          unfold countN
          rw [if_neg (by omega)]
        rw [eN] at k
        refine ⟨_, rfl, rfl, _, rfl, iteF ?_⟩
        refine ⟨_, rfl, _, rfl, _, rfl, _, rfl, _, rfl, ?_⟩
        refine ask_reaching (start := start) (goal := v) (row := row) (ci.same e13) ll z0 z1 v0 wi (fun H4 e4 => ?_)
        refine ⟨_, rfl, _, rfl, _, rfl, _, rfl, _, rfl, _, rfl, _, _, rfl, rfl, ?_⟩
        refine ask_reaching (start := start) (goal := v + 1) (row := row) (ci.same (e13.trans e4)) ll z0 z1 (by omega) wi (fun H5 e5 => ?_)
        exact ⟨_, _, rfl, rfl, k _ ((e13.trans e4).trans e5)⟩
end
end Gc

/-! count_texts, where it may raise -/
namespace Gc
open PySem L2
inductive CDue where
  | num (n : Int)
  | cursor
  | command (i : Nat)
  | fine
def goalDue : Option Int → CDue
  | some v => if v < 0 then .num v else .fine
  | none => .fine
def cntDue (lines longest row : Int) (start : Option Int) (rs : List Raw) (goal : Option Int) : CDue :=
  if lines < 1 then .num lines else if longest < 0 then .num longest else if curB lines row start = true then (match badAt rs with
    | some i => .command i
    | none => goalDue goal) else .cursor
section
variable {lines longest row : Int} {start goal : Option Int} {rs : List Raw} {i : Nat} {v : Int}
theorem cnt_lines (h : lines < 1) : cntDue lines longest row start rs goal = .num lines := by
  unfold cntDue
  rw [if_pos h]
theorem cnt_most (h : 1 ≤ lines) (h1 : longest < 0) : cntDue lines longest row start rs goal = .num longest := by
  unfold cntDue
  rw [if_neg (by omega), if_pos h1]
theorem cnt_cursor (h : 1 ≤ lines) (h1 : 0 ≤ longest) (h2 : ¬ CurOk lines row start) : cntDue lines longest row start rs goal = .cursor := by
  unfold cntDue
  rw [if_neg (by omega), if_neg (by omega), if_neg fun z => h2 (curB_iff.mp z)]
theorem cnt_command (h : 1 ≤ lines) (h1 : 0 ≤ longest) (h2 : CurOk lines row start) (h3 : badAt rs = some i) : cntDue lines longest row start rs goal = .command i := by
  unfold cntDue
  rw [if_neg (by omega), if_neg (by omega), if_pos (curB_iff.mpr h2), h3]
theorem cnt_goal (h : 1 ≤ lines) (h1 : 0 ≤ longest) (h2 : CurOk lines row start) (h3 : badAt rs = none) (h4 : v < 0) : cntDue lines longest row start rs (some v) = .num v := by
  unfold cntDue
  rw [if_neg (by omega), if_neg (by omega), if_pos (curB_iff.mpr h2), h3]
  show (if v < 0 then CDue.num v else .fine) = _
  exact if_pos h4
theorem cnt_fine (h : 1 ≤ lines) (h1 : 0 ≤ longest) (h2 : CurOk lines row start) (h3 : badAt rs = none) (h4 : ge goal 0) : cntDue lines longest row start rs goal = .fine := by
  unfold cntDue
  rw [if_neg (by omega), if_neg (by omega), if_pos (curB_iff.mpr h2), h3]
  show goalDue goal = _
  cases goal with
  | none => rfl
  | some v =>
    have := ge_some.mp h4
    show (if v < 0 then CDue.num v else .fine) = _
    exact if_neg (by omega)
end
def CntOuts (E : XK) (CN CM : Addr) (H : Hp) (ec fin : Prop) : CDue → Prop
  | .num n => Err E CN (.int n) H
  | .cursor => ec
  | .command i => Err E CM (.int i) H
  | .fine => fin
def spCountsX (K : PySem.W.Frag) (CC CM CN : Addr) : Sp := fun vs H Q E => ∃ (lines longest row : Int) (start : Option Int) (c l : Addr) (xs : List V) (rs : List Raw) (goal : Option Int), vs = [.int lines, .int longest, .ref c, .ref l, optV goal] ∧ SqT K H c [.int row, optV start] ∧ SqL K H l xs ∧ RawsOf K H xs rs ∧
  rs.length ≤ 100 ∧ lines ≤ 40 ∧ longest < 2 ^ 110 ∧ CntOuts E CN CM H (Err E CC (.ref c) H) (∀ H' v, Same H H' → Q v H') (cntDue lines longest row start rs goal)
section
variable {P : Program} {w : World} {K : PySem.W.Frag} {mg : Str → Option Value} {base : Heap} {wo wn CT CC CM CN CO : Addr}
theorem ok_count_textsX {f : Addr} {fd : FuncData} (F : Fun K "count_texts" "count_texts" s_count_texts f fd) (T : TxtN mg) (c_check_number : CalX P w K mg base 3 "check_number" (spNumX CN)) (c_check_cursor : CalX P w K mg base 3 "check_cursor" (spCursorX K CC))
    (c_check_commands : CalX P w K mg base 3 "check_commands" (spCheckX K CM)) (c_reach : Cal P w K mg base 4 "reach" (zReach K)) (c_count_reaching : Cal P w K mg base 6 "count_reaching" (zReaching K)) :
    FnOk P w K mg base (L2.CX P w) 7 f fd ["lines", "longest", "cursor", "commands", "goal"] (spCountsX K CC CM CN) := by
  refine F.okX sc_count_texts (fun vs H Q E h => ?_) (fun cdv A outer s H vs Q E hr h => ?_)
  · obtain ⟨lines, longest, row, start, c, l, xs, rs, goal, rfl, _⟩ := h
    rfl
  · obtain ⟨lines, longest, row, start, c, l, xs, rs, goal, rfl, hc, hl, hrs, ln, ll, z1, k⟩ := h
    refine ⟨_, (pss_cons (ps_expr (pe_calX (takes_of rfl rfl rfl rfl) c_check_number hr (by decide) (by rfl) (pa_cons (pv 0) (pa_cons pe_int pa_nil))))
      (pss_cons (ps_expr (pe_calX (takes_of rfl rfl rfl rfl) c_check_number hr (by decide) (by rfl) (pa_cons (pv 1) (pa_cons pe_int pa_nil))))
      (pss_cons (ps_expr (pe_calX (takes_of rfl rfl rfl rfl) c_check_cursor hr (by decide) (by rfl) (pa_cons (pv 0) (pa_cons (pv 2) pa_nil))))
      (pss_cons (ps_expr (pe_calX (takes_of rfl rfl rfl rfl) c_check_commands hr (by decide) (by rfl) (pa_cons (pv 3) pa_nil)))
      (C8.pss_cut (ps_if (pt_cmpR op_notN (pv 4) pe_non (nomark _)) (pss_one (ps_expr (pe_calX (takes_of rfl rfl rfl rfl) c_check_number hr (by decide) (by rfl) (pa_cons (pv 4) (pa_cons pe_int pa_nil))))) pss_nil)
      (pss_cons (ps_asg (pv 2) (pg_tup rfl (pgs_cons (pg_name (i := 5) sc_count_texts.nd rfl (Or.inl rfl)) (pgs_cons (pg_name (i := 6) sc_count_texts.nd rfl (Or.inl rfl)) pgs_nil))))
      (pss_cons (ps_asg (pe_cal c_reach hr (by decide) (by rfl) (pa_cons (pv 3) pa_nil)) (pg_tup rfl (pgs_cons (pg_name (i := 7) sc_count_texts.nd rfl (Or.inl rfl)) (pgs_cons (pg_name (i := 8) sc_count_texts.nd rfl (Or.inl rfl)) (pgs_cons (pg_name (i := 9) sc_count_texts.nd rfl (Or.inl rfl)) pgs_nil)))))
      (pss_cons (ps_if (PW.pt (pw_or (pt_cmpR op_lt (pe_op op_add (pv 5) (pv 7)) pe_int (nomark _)) (pw_or1 (pt_cmpR op_ge (pe_op op_add (pv 5) (pv 8)) (pv 0) (nomark _))))) (pss_one (ps_ret pe_int)) pss_nil)
      (pss_cons (ps_if (pt_cmpR op_isN (pv 4) pe_non (nomark _)) (pss_cons (ps_set (i := 10) sc_count_texts.nd rfl (Or.inl rfl) (pe_op op_add (pe_callB (call_max2 rfl) (by rfl) T.max (by decide +kernel) (pa_cons (pv 1) (pa_cons (pe_ifExp (pt_cmpR op_isN (pv 6) pe_non (nomark _)) pe_int (pv 6)) pa_nil))) pe_int))
      (pss_one (ps_ret (pe_cal c_count_reaching hr (by decide) (by rfl) (pa_cons (pv 0) (pa_cons (pv 1) (pa_cons (pv 6) (pa_cons (pv 3) (pa_cons (pv 10) pa_nil))))))))) pss_nil)
      (pss_cons (ps_set (i := 11) sc_count_texts.nd rfl (Or.inl rfl) (pe_cal c_count_reaching hr (by decide) (by rfl) (pa_cons (pv 0) (pa_cons (pv 1) (pa_cons (pv 6) (pa_cons (pv 3) (pa_cons (pv 4) pa_nil)))))))
      (pss_one (ps_ret (pe_op op_sub (pv 11) (pe_cal c_count_reaching hr (by decide) (by rfl) (pa_cons (pv 0) (pa_cons (pv 1) (pa_cons (pv 6) (pa_cons (pv 3) (pa_cons (pe_op op_add (pv 4) pe_int) pa_nil))))))))))))))))))), ?_⟩
    refine ⟨_, rfl, lines, 1, rfl, (fun z => by rw [cnt_lines z] at k; exact k), fun l1 => ?_⟩
    refine ⟨_, rfl, longest, 0, rfl, (fun z => by rw [cnt_most l1 z] at k; exact k), fun z0 => ?_⟩
    refine ⟨_, rfl, _, rfl, lines, row, start, c, rfl, hc, (fun z => by rw [cnt_cursor l1 z0 z] at k; exact k), fun cu => ?_⟩
    refine ⟨_, rfl, l, xs, rs, rfl, hl, hrs, (fun i hi => by rw [cnt_command l1 z0 cu hi] at k; exact k), fun hg H1 e1 => ?_⟩
    obtain ⟨hcs, ok⟩ := raws_cmds hrs (bad_good hg)
    have ln' : (rs.map Raw.cmd).length ≤ 100 := by rw [List.length_map]; exact ln
    generalize hcm : rs.map Raw.cmd = cs at *
    have ci : CmdsIn K H l xs cs := ⟨hl, hcs, ok, ln'⟩
    obtain ⟨n, rfl⟩ : ∃ n : Nat, lines = n := ⟨lines.toNat, by omega⟩
    have ll : n ≤ 40 := by omega
    obtain ⟨r0, r1, s0⟩ := cu
    refine ⟨fun σ H' => σ = [some (.int n), some (.int longest), some (.ref c), some (.ref l), some (optV goal), none, none, none, none, none, none, none] ∧ H' = H1 ∧ ge goal 0, ?_, ?_⟩
    · cases goal with
      | none => exact ⟨_, rfl, rfl, _, rfl, iteF ⟨rfl, rfl, ge_none 0⟩⟩
      | some v =>
        refine ⟨_, rfl, rfl, _, rfl, iteT ⟨_, rfl, v, 0, rfl, (fun z => ?_), fun z => ⟨rfl, rfl, ge_some.mpr z⟩⟩⟩
        rw [cnt_goal l1 z0 ⟨r0, r1, s0⟩ hg z] at k
        exact Err.same e1 k
    · rintro σ H2 ⟨rfl, rfl, g0⟩
      rw [cnt_fine l1 z0 ⟨r0, r1, s0⟩ hg g0] at k
      refine ⟨_, rfl, c, _, rfl, seq_t e1 hc, rfl, _, _, rfl, _, _, rfl, rfl, ?_⟩
      refine ⟨_, rfl, ?_⟩
      refine ask_reach (ci.same e1) (fun H3 p3 e3 hp3 => ?_)
      have e13 := e1.trans e3
      refine ⟨p3, _, rfl, SqT.of hp3, rfl, _, _, rfl, _, _, rfl, _, _, rfl, rfl, ?_⟩
      have out : (row + (rchM cs).1 < 0 ∨ (n : Int) ≤ row + (rchM cs).2.1) → Q (.int 0) H3 := fun z => k H3 _ e13
      refine ⟨_, rfl, _, rfl, _, _, rfl, rfl, _, _, rfl, rfl, _, rfl, ite2 (fun c0 => out (.inl (of_decide_eq_true c0))) (fun c0 => ?_)⟩
      refine ⟨_, rfl, _, rfl, _, _, rfl, rfl, _, rfl, _, _, rfl, rfl, _, rfl, ite2 (fun c1 => out (.inr (of_decide_eq_true c1))) (fun c1 => ?_)⟩
      have c0' : ¬ row + (rchM cs).1 < 0 := fun z => c0 (decide_eq_true z)
      have c1' : ¬ (n : Int) ≤ row + (rchM cs).2.1 := fun z => c1 (decide_eq_true z)
      have wi : Within cs (-row) (n - 1 - row) := fun i => by
        have := rch_in cs i
        omega
      cases goal with
      | none =>
        refine ⟨_, rfl, rfl, _, rfl, iteT ?_⟩
        have s1 : 0 ≤ start.getD 0 := by
          cases start with
          | none => exact Int.le_refl 0
          | some x => exact ge_some.mp s0
        cases start with
        | none =>
          refine ⟨_, rfl, _, rfl, rfl, _, rfl, iteT ⟨_, _, rfl, _, _, rfl, rfl, ?_⟩⟩
          rw [maxI]
          refine ⟨_, rfl, _, rfl, _, rfl, _, rfl, _, rfl, ?_⟩
          exact ask_reaching (start := none) (goal := max longest 0 + 1) (row := row) (ci.same e13) ll z0 z1 (by omega) wi fun H4 e4 => k _ _ (e13.trans e4)
        | some x =>
          have x0 := ge_some.mp s0
          refine ⟨_, rfl, _, rfl, rfl, _, rfl, iteF ⟨_, rfl, _, _, rfl, _, _, rfl, rfl, ?_⟩⟩
          rw [maxI]
          refine ⟨_, rfl, _, rfl, _, rfl, _, rfl, _, rfl, ?_⟩
          exact ask_reaching (start := some x) (goal := max longest x + 1) (row := row) (ci.same e13) ll z0 z1 (by omega) wi fun H4 e4 => k _ _ (e13.trans e4)
      | some v =>
        have v0 := ge_some.mp g0
        refine ⟨_, rfl, rfl, _, rfl, iteF ?_⟩
        refine ⟨_, rfl, _, rfl, _, rfl, _, rfl, _, rfl, ?_⟩
        refine ask_reaching (start := start) (goal := v) (row := row) (ci.same e13) ll z0 z1 v0 wi (fun H4 e4 => ?_)
        refine ⟨_, rfl, _, rfl, _, rfl, _, rfl, _, rfl, _, rfl, _, _, rfl, rfl, ?_⟩
        refine ask_reaching (start := start) (goal := v + 1) (row := row) (ci.same (e13.trans e4)) ll z0 z1 (by omega) wi (fun H5 e5 => ?_)
        exact ⟨_, _, rfl, rfl, k _ _ ((e13.trans e4).trans e5)⟩
end
end Gc

/-! which of the five errors -/
namespace Gc
open PySem L2
abbrev s_kind : Stmt := top 48
section
variable {X : Cx}
def rCntF (K : PySem.W.Frag) : V → List V → Hp → VK → Prop := fun x xs H Q => ∃ (p : Addr) (ys : List V) (y : V), x = .ref p ∧ xs = [y] ∧ SqL K H p ys ∧ flatV y = true ∧ ys.all flatV = true ∧ Q (.int (ys.countP fun z => eqV z y : Nat)) H
theorem count_flat {y : V} : ∀ {ys : List V} {us : List Value}, Vals ys us → ys.all flatV = true → us.countP (eqU y) = ys.countP fun z => eqV z y
  | [], _, h, _ => by
    cases h
    rfl
  | a :: ys, _, h, f => by
    rw [List.all_cons, Bool.and_eq_true] at f
    cases h with
    | cons r t => rw [List.countP_cons, List.countP_cons, count_flat t f.2, eqU_of r f.1]
theorem mt_countF : MtR X "list.count" (rCntF X.K) := by
  intro pins s σ H x xs v us Q I rx rxs h
  obtain ⟨p, ys, y, rfl, rfl, hs, fy, fys, q⟩ := h
  cases rx
  cases rxs with
  | cons ry rt =>
    rename_i uy ut
    cases rt
    obtain ⟨its, rv, ⟨⟨cls, dd, data, sl⟩, n, ho, hc, hdn, hd⟩, hlen⟩ := I.list hs
    simp only at hc hd
    subst hc hd
    refine call_meets PySem.F.slot_list_count ⟨_, ho, rfl⟩ PySem.F.entry_list_count (PySem.F.args_list_count_2 _ _)
      (SeqAt.list_countAt p its.toArray n dd sl uy (eqU y)) ⟨ho, fun u hu => mem_eqAt ry fy rv fys u (by simpa using hu), ?_⟩
    have ec : its.toArray.toList.countP (eqU y) = ys.countP fun z => eqV z y := count_flat rv fys
    refine ⟨.int (ys.countP fun z => eqV z y : Nat), H, I.tok _, ⟨s.toks, ?_⟩, q⟩
    show Value.int ((its.toArray.toList.countP (eqU y) : Nat) : Int) s.toks = _
    rw [ec]
end
structure TxtK (K : PySem.W.Frag) (mg : Str → Option Value) (cs : Nat → Addr) : Prop where
  g0 : mg "InvalidText" = some (.ref (cs 0))
  g1 : mg "InvalidCursor" = some (.ref (cs 1))
  g2 : mg "InvalidCommand" = some (.ref (cs 2))
  g3 : mg "Impossible" = some (.ref (cs 3))
  g4 : mg "InvalidNumber" = some (.ref (cs 4))
  g5 : mg "NothingToUndo" = some (.ref (cs 5))
  g6 : mg "Unreadable" = some (.ref (cs 6))
  kit : ∀ i j, i < 5 → j < 7 → PySem.W.kitOne K (.ref (cs i)) (.ref (cs j)) = some (decide (i = j))
  kve : ∀ i, i < 5 → PySem.W.kitOne K (.ref (cs i)) (.type "ValueError") = some true
  ei : ∀ i, i < 5 → ErrI K (cs i)
  isinstance : mg "isinstance" = none
  ValueError : mg "ValueError" = none
def kindN : Nat → Str
  | 0 => "text"
  | 1 => "cursor"
  | 2 => "command"
  | 3 => "off"
  | _ => "number"
def spKind (cs : Nat → Addr) (a C d : Addr) : Sp := fun vs H Q _ => ∃ (i : Nat) (v : V), vs = [.ref a] ∧ i < 5 ∧ C = cs i ∧ H d = some (.xd [("value", v)]) ∧ ∀ H', Same H H' → Q (.str (kindN i)) H'
section
variable {P : Program} {w : World} {K : PySem.W.Frag} {mg : Str → Option Value} {base : Heap} {cs : Nat → Addr}
theorem sc_law_kind : FnScope ["e", "met"] ["e"] (defScope s_kind) := ⟨rfl, rfl, rfl, by decide +kernel, rfl, by decide +kernel, by decide +kernel⟩
theorem ok_kind {f : Addr} {fd : FuncData} (F : Fun K "_law_kind" "_law_kind" s_kind f fd) (T : TxtK K mg cs) : FnE P w K mg base 1 f fd ["e"] (spKind cs) := by
  refine F.okE sc_law_kind (fun a C d vs H Q E h => ?_) (fun cdv A below s H vs Q E q C d hr hz hf h => ?_)
  · obtain ⟨i, v, rfl, _⟩ := h
    rfl
  · obtain ⟨i, v, rfl, hi, rfl, hd, k⟩ := h
    refine ⟨_, (pss_cons (ps_set (i := 1) sc_law_kind.nd rfl (Or.inl rfl) (pe_lst (pa_cons (pe_callB (call_isX (a := q.1) (oe := q.2) List.mem_cons_self hz hf) (by rfl) T.isinstance (by decide +kernel) (pa_cons (pv 0) (pa_cons (pe_glob (v := .ref (cs 0)) (by rfl) T.g0 rfl) pa_nil))) (pa_cons (pe_callB (call_isX (a := q.1) (oe := q.2) List.mem_cons_self hz hf) (by rfl) T.isinstance (by decide +kernel) (pa_cons (pv 0) (pa_cons (pe_glob (v := .ref (cs 1)) (by rfl) T.g1 rfl) pa_nil))) (pa_cons (pe_callB (call_isX (a := q.1) (oe := q.2) List.mem_cons_self hz hf) (by rfl) T.isinstance (by decide +kernel) (pa_cons (pv 0) (pa_cons (pe_glob (v := .ref (cs 2)) (by rfl) T.g2 rfl) pa_nil))) pa_nil)))))
      (pss_cons (ps_expr (pe_bm PySem.F.plainAttrs_list PySem.F.slot_list_extend PySem.F.type_list_extend mt_extend (pv 1) (pa_cons (pe_lst (pa_cons (pe_callB (call_isX (a := q.1) (oe := q.2) List.mem_cons_self hz hf) (by rfl) T.isinstance (by decide +kernel) (pa_cons (pv 0) (pa_cons (pe_glob (v := .ref (cs 3)) (by rfl) T.g3 rfl) pa_nil))) (pa_cons (pe_callB (call_isX (a := q.1) (oe := q.2) List.mem_cons_self hz hf) (by rfl) T.isinstance (by decide +kernel) (pa_cons (pv 0) (pa_cons (pe_glob (v := .ref (cs 4)) (by rfl) T.g4 rfl) pa_nil))) pa_nil))) pa_nil)))
      (pss_cons (ps_if (PW.pt (pw_or (pt_cmpR op_ne (pe_bm PySem.F.plainAttrs_list PySem.F.slot_list_count PySem.F.type_list_count mt_countF (pv 1) (pa_cons pe_bl pa_nil)) pe_int (nomark _)) (pw_or (pt_val (pe_callB (call_isXT (a := q.1) (oe := q.2) List.mem_cons_self hz hf) (by rfl) T.isinstance (by decide +kernel) (pa_cons (pv 0) (pa_cons (pe_tup (pa_cons (pe_glob (v := .ref (cs 5)) (by rfl) T.g5 rfl) (pa_cons (pe_glob (v := .ref (cs 6)) (by rfl) T.g6 rfl) pa_nil))) pa_nil)))) (pw_or1 (pt_not (pt_val (pe_callB (call_isX (a := q.1) (oe := q.2) List.mem_cons_self hz hf) (by rfl) T.isinstance (by decide +kernel) (pa_cons (pv 0) (pa_cons (pe_bltn (v := .ty "ValueError") (u := .type "ValueError") (by rfl) T.ValueError (by decide +kernel) rfl) pa_nil))))))))) (pss_one (ps_ret pe_str)) pss_nil)
      (pss_one (ps_ret (pe_ix ix_tup (pe_tup (pa_cons pe_str (pa_cons pe_str (pa_cons pe_str (pa_cons pe_str (pa_cons pe_str pa_nil)))))) (pe_bm PySem.F.plainAttrs_list PySem.F.slot_list_index PySem.F.type_list_index mt_index (pv 1) (pa_cons pe_bl pa_nil)) (fun _ _ => rfl))))))), ?_⟩
    have ei := T.ei i hi
    refine ⟨_, rfl, _, _, _, _, rfl, hd, ei, .own _, T.kit i 0 hi (by decide), ?_⟩
    refine ⟨_, rfl, _, _, _, _, rfl, hd, ei, .own _, T.kit i 1 hi (by decide), ?_⟩
    refine ⟨_, rfl, _, _, _, _, rfl, hd, ei, .own _, T.kit i 2 hi (by decide), ?_⟩
    refine ⟨(by show 3 ≤ sizeLine; decide), fun l hl => ?_⟩
    have e1 := same_upd (Same.refl H) hl (o := .lst [.bl (decide (i = 0)), .bl (decide (i = 1)), .bl (decide (i = 2))])
    have f1 : upd H l (.lst [.bl (decide (i = 0)), .bl (decide (i = 1)), .bl (decide (i = 2))]) l = some (.lst [.bl (decide (i = 0)), .bl (decide (i = 1)), .bl (decide (i = 2))]) := upd_same
    generalize upd H l (.lst [.bl (decide (i = 0)), .bl (decide (i = 1)), .bl (decide (i = 2))]) = H1 at *
    have hd1 := e1 _ _ hd
    refine ⟨_, rfl, .inl ⟨rfl, _, SqL.of f1⟩, _, rfl, _, _, _, _, rfl, hd1, ei, .own _, T.kit i 3 hi (by decide), ?_⟩
    refine ⟨_, rfl, _, _, _, _, rfl, hd1, ei, .own _, T.kit i 4 hi (by decide), ?_⟩
    refine ⟨(by show 2 ≤ sizeLine; decide), fun l2 hl2 => ?_⟩
    refine ⟨l, l2, _, _, rfl, rfl, (same_upd (Same.refl H1) hl2) _ _ f1, upd_same, (by show 3 + 2 ≤ sizeLine; decide), ?_⟩
    have e2 : Same H1 (upd H1 l2 (.lst [.bl (decide (i = 3)), .bl (decide (i = 4))])) := same_upd (Same.refl H1) hl2
    have ll : l2 ≠ l := fun z => by
      rw [z, f1] at hl2
      cases hl2
    generalize upd H1 l2 (.lst [.bl (decide (i = 3)), .bl (decide (i = 4))]) = H2 at *
    have hd2 := e2 _ _ hd1
    have hdl : d ≠ l := fun z => by
      rw [z, f1] at hd1
      cases hd1
    have hd3 : upd H2 l (.lst ([.bl (decide (i = 0)), .bl (decide (i = 1)), .bl (decide (i = 2))] ++ [.bl (decide (i = 3)), .bl (decide (i = 4))])) d = some (.xd [("value", v)]) := by rw [upd_ne hdl]; exact hd2
    have e3 : Same H (upd H2 l (.lst ([.bl (decide (i = 0)), .bl (decide (i = 1)), .bl (decide (i = 2))] ++ [.bl (decide (i = 3)), .bl (decide (i = 4))]))) := fun b o h => by
      have hb : b ≠ l := fun z => by
        rw [z, hl] at h
        cases h
      rw [upd_ne hb]
      exact e2 _ _ (e1 _ _ h)
    have f3 : upd H2 l (.lst ([.bl (decide (i = 0)), .bl (decide (i = 1)), .bl (decide (i = 2))] ++ [.bl (decide (i = 3)), .bl (decide (i = 4))])) l = some (.lst [.bl (decide (i = 0)), .bl (decide (i = 1)), .bl (decide (i = 2)), .bl (decide (i = 3)), .bl (decide (i = 4))]) := upd_same
    generalize upd H2 l (.lst ([.bl (decide (i = 0)), .bl (decide (i = 1)), .bl (decide (i = 2))] ++ [.bl (decide (i = 3)), .bl (decide (i = 4))])) = H3 at *
    refine ⟨_, rfl, .inl ⟨rfl, _, SqL.of f3⟩, l, _, _, rfl, rfl, SqL.of f3, rfl, rfl, ?_⟩
    have cnt : ([.bl (decide (i = 0)), .bl (decide (i = 1)), .bl (decide (i = 2)), .bl (decide (i = 3)), .bl (decide (i = 4))] : List V).countP (fun z => eqV z (.bl true)) = 1 := by
      match i, hi with
      | 0, _ => rfl
      | 1, _ => rfl
      | 2, _ => rfl
      | 3, _ => rfl
      | 4, _ => rfl
    rw [cnt]
    refine ⟨rfl, _, rfl, iteF ?_⟩
    refine ⟨_, rfl, (by show 2 ≤ sizeLine; decide), fun tp htp => ?_⟩
    have e4 := same_upd e3 htp (o := .tup [.ref (cs 5), .ref (cs 6)])
    have f4 : upd H3 tp (.tup [.ref (cs 5), .ref (cs 6)]) l = some (.lst [.bl (decide (i = 0)), .bl (decide (i = 1)), .bl (decide (i = 2)), .bl (decide (i = 3)), .bl (decide (i = 4))]) := same_upd (Same.refl H3) htp _ _ f3
    have hd4 : upd H3 tp (.tup [.ref (cs 5), .ref (cs 6)]) d = some (.xd [("value", v)]) := same_upd (Same.refl H3) htp _ _ hd3
    have k5 : PySem.W.kitOne K (.ref (cs i)) (.ref (cs 5)) = some false := by rw [T.kit i 5 hi (by decide), decide_eq_false (by omega)]
    have k6 : PySem.W.kitOne K (.ref (cs i)) (.ref (cs 6)) = some false := by rw [T.kit i 6 hi (by decide), decide_eq_false (by omega)]
    refine ⟨_, tp, _, _, false, rfl, hd4, ei, upd_same, .cons (.own _) (.cons (.own _) .nil), kitAny_cons k5 (fun _ => kitAny_cons k6 (fun _ => kitAny_nil) (fun z => nomatch z)) (fun z => nomatch z), _, rfl, iteF ?_⟩
    refine ⟨_, rfl, _, _, _, true, rfl, hd4, ei, .ty "ValueError", T.kve i hi, _, rfl, iteF ?_⟩
    refine ⟨(by show 5 ≤ sizeLine; decide), fun t5 ht5 => ?_⟩
    have e5 := same_upd e4 ht5 (o := .tup [.str "text", .str "cursor", .str "command", .str "off", .str "number"])
    have f5 := same_upd (Same.refl _) ht5 (o := .tup [.str "text", .str "cursor", .str "command", .str "off", .str "number"]) _ _ f4
    have z5 : ([.bl (decide (i = 0)), .bl (decide (i = 1)), .bl (decide (i = 2)), .bl (decide (i = 3)), .bl (decide (i = 4))] : List V)[i]? = some (.bl true) := by
      match i, hi with
      | 0, _ => rfl
      | 1, _ => rfl
      | 2, _ => rfl
      | 3, _ => rfl
      | 4, _ => rfl
    have n5 : ∀ (m : Nat) (z : V), m < i → ([.bl (decide (i = 0)), .bl (decide (i = 1)), .bl (decide (i = 2)), .bl (decide (i = 3)), .bl (decide (i = 4))] : List V)[m]? = some z → eqV z (.bl true) = false := fun m z hm hz => by
      have hm5 : m < 5 := by omega
      have ne : ¬ i = m := by omega
      match m, hm5 with
      | 0, _ => cases hz; rw [decide_eq_false ne]; rfl
      | 1, _ => cases hz; rw [decide_eq_false ne]; rfl
      | 2, _ => cases hz; rw [decide_eq_false ne]; rfl
      | 3, _ => cases hz; rw [decide_eq_false ne]; rfl
      | 4, _ => cases hz; rw [decide_eq_false ne]; rfl
    have w5 : ([.str "text", .str "cursor", .str "command", .str "off", .str "number"] : List V)[i]? = some (.str (kindN i)) := by
      match i, hi with
      | 0, _ => rfl
      | 1, _ => rfl
      | 2, _ => rfl
      | 3, _ => rfl
      | 4, _ => rfl
    refine ⟨_, rfl, .inl ⟨rfl, _, SqL.of f5⟩, l, _, _, i, _, rfl, rfl, SqL.of f5, rfl, rfl, z5, rfl, n5, ?_⟩
    exact ⟨t5, _, _, _, rfl, rfl, SqT.of upd_same, at_of rfl w5, k _ e5⟩
end
end Gc

/-! the error that a call lets out, caught -/
namespace Gc
open PySem L2
abbrev s_caught : Stmt := top 49
structure TxtQ (K : PySem.W.Frag) (mg : Str → Option Value) (cs : Nat → Addr) (CE : Addr) : Prop where
  g_CursorError : mg "CursorError" = some (.ref CE)
  ex : ∀ i, i < 5 → PySem.W.exmOne K (.ref (cs i)) (.ref CE) = some true
  ei : ∀ i, i < 5 → ErrI K (cs i)
def optQ : Option Int → PyData
  | none => .none
  | some n => .int n
theorem dp_optQ {K : PySem.W.Frag} {H : Hp} (o : Option Int) : Dp K H (optV o) (optQ o) := by
  cases o with
  | none => exact .non
  | some n => exact .int n
/-- an error's word and value -/
def wordD (w : Str) (v : PyData) : PyData := .tuple [.str w, v]
def dueD (row : Int) (aim : Option Int) : Due → PyData
  | .text0 => wordD "text" .none
  | .text i => wordD "text" (.int i)
  | .cursor => wordD "cursor" (.tuple [.int row, optQ aim])
  | .command i => wordD "command" (.int i)
  | .off i => wordD "off" (.int i)
  | .fine => .none
def cntD (row : Int) (start : Option Int) : CDue → PyData
  | .num n => wordD "number" (.int n)
  | .cursor => wordD "cursor" (.tuple [.int row, optQ start])
  | .command i => wordD "command" (.int i)
  | .fine => .none
@[irreducible] def zOriginsX (K : PySem.W.Frag) (CT CC CM CO : Addr) : Sp := spOriginsX K CT CC CM CO
theorem zOriginsX_eq (K : PySem.W.Frag) (CT CC CM CO : Addr) : zOriginsX K CT CC CM CO = spOriginsX K CT CC CM CO := by unfold zOriginsX; rfl
@[irreducible] def zCountsX (K : PySem.W.Frag) (CC CM CN : Addr) : Sp := spCountsX K CC CM CN
theorem zCountsX_eq (K : PySem.W.Frag) (CC CM CN : Addr) : zCountsX K CC CM CN = spCountsX K CC CM CN := by unfold zCountsX; rfl
theorem ask_orgX {K : PySem.W.Frag} {CT CC CM CO : Addr} {H : Hp} {Q : VK} {E : XK} {t l : Addr} {T : List Int} {row : Int} {goal : Option Int} {xs : List V} {rs : List Raw} (h : RawIn K H t l T xs rs)
    (k : Outs E CT CM CO H (ErrP E CC row goal H) (∀ (H' : Hp) (v : V), Same H H' → Q v H') (runDue T row goal rs)) : zOriginsX K CT CC CM CO [.ref t, .int row, .ref l, optV goal] H Q E := by
  rw [zOriginsX_eq]
  exact ⟨t, l, T, row, goal, xs, rs, rfl, h, k⟩
theorem ask_cntX {K : PySem.W.Frag} {CC CM CN : Addr} {H : Hp} {Q : VK} {E : XK} {lines longest row : Int} {start : Option Int} {c l : Addr} {xs : List V} {rs : List Raw} {goal : Option Int} (hc : SqT K H c [.int row, optV start]) (hl : SqL K H l xs) (hrs : RawsOf K H xs rs) (ln : rs.length ≤ 100)
    (ll : lines ≤ 40) (lm : longest < 2 ^ 110) (k : CntOuts E CN CM H (Err E CC (.ref c) H) (∀ H' v, Same H H' → Q v H') (cntDue lines longest row start rs goal)) : zCountsX K CC CM CN [.int lines, .int longest, .ref c, .ref l, optV goal] H Q E := by
  rw [zCountsX_eq]
  exact ⟨lines, longest, row, start, c, l, xs, rs, goal, rfl, hc, hl, hrs, ln, ll, lm, k⟩
def spCaught (K : PySem.W.Frag) : Sp := fun vs H Q _ => ∃ (wch : Int) (t c l z : Addr) (T : List Int) (row : Int) (g : Option Int) (xs : List V) (rs : List Raw) (aim : Option Int) (lines most : Int), vs = [.int wch, .ref t, .ref c, .ref l, optV aim, .ref z] ∧ RawIn K H t l T xs rs ∧ rs.length ≤ 100 ∧
  SqT K H c [.int row, optV g] ∧ SqT K H z [.int lines, .int most] ∧ lines ≤ 40 ∧ most < 2 ^ 110 ∧ ((wch = 0 ∧ ∀ H' v, Same H H' → Dp K H' v (dueD row aim (runDue T row aim rs)) → Q v H') ∨ (wch = 1 ∧ ∀ H' v, Same H H' → Dp K H' v (cntD row g (cntDue lines most row g rs aim)) → Q v H'))
section
variable {P : Program} {w : World} {K : PySem.W.Frag} {mg : Str → Option Value} {base : Heap} {cs : Nat → Addr} {CE : Addr}
theorem sc_law_caught : FnScope ["which", "page", "start", "moves", "aim", "size", "e"] ["which", "page", "start", "moves", "aim", "size"] (defScope s_caught) := ⟨rfl, rfl, rfl, by decide +kernel, rfl, by decide +kernel, by decide +kernel⟩
theorem ok_caught {f : Addr} {fd : FuncData} (F : Fun K "_law_caught" "_law_caught" s_caught f fd) (T : TxtQ K mg cs CE) (c_law_kind : CalE P w K mg base 1 "_law_kind" (spKind cs)) (c_count_texts : CalX P w K mg base 7 "count_texts" (zCountsX K (cs 1) (cs 2) (cs 4)))
    (k_origins : CalKX P w K mg base 6 "origins" ["goal", "commands", "row", "text"] (zOriginsX K (cs 0) (cs 1) (cs 2) (cs 3))) : FnOk P w K mg base CX0 8 f fd ["which", "page", "start", "moves", "aim", "size"] (spCaught K) := by
  refine F.ok sc_law_caught (fun vs H Q E h => ?_) (fun cdv A outer s H vs Q E hr h => ?_)
  · obtain ⟨wch, t, c, l, z, T, row, g, xs, rs, aim, lines, most, rfl, _⟩ := h
    rfl
  · obtain ⟨wch, t, c, l, z, tx, row, g, xs, rs, aim, lines, most, rfl, ri, ln, hc, hz0, l40, m110, kk⟩ := h
    refine ⟨_, (pss_cons (ps_try_as (i := 6) rfl rfl sc_law_caught.nd rfl rfl ⟨rfl, by decide, .inl T.g_CursorError⟩ takesNone (fun W pn xe tk _ => (pss_one (ps_if (pt_cmpR op_eq (pv 0) pe_int (nomark _)) (pss_one (ps_expr (pe_calKX tk k_origins hr (by decide) (by rfl) (pk_cons (pv 4) (pk_cons (pv 3) (pk_cons (pe_ix (show IxR _ (rIxT K) from ix_tup) (pv 2) pe_int (fun _ _ => rfl)) (pk_cons (pv 1) pk_nil))))))) (pss_one (ps_expr (pe_calX tk c_count_texts hr (by decide) (by rfl) (pa_cons (pe_ix (show IxR _ (rIxT K) from ix_tup) (pv 5) pe_int (fun _ _ => rfl)) (pa_cons (pe_ix (show IxR _ (rIxT K) from ix_tup) (pv 5) pe_int (fun _ _ => rfl)) (pa_cons (pv 2) (pa_cons (pv 3) (pa_cons (pv 4) pa_nil))))))))))) (fun a oe cls d pn hz hf => (pss_one (ps_ret (pe_tup (pa_cons (pe_callE c_law_kind hr (by decide) hz hf (by rfl) (pa_cons (pv 6) pa_nil)) (pa_cons (pe_xfA hz hf (pv 6)) pa_nil)))))))
      (pss_one (ps_ret pe_non))), ?_⟩
    have fin : ∀ (H' H2 : Hp) (d p : Addr) (v : V) (dv : PyData) (w : Str), Same H H' → H' d = none → Same (upd H' d (.xd [("value", v)])) H2 → H2 p = none → Dp K H' v dv →
        Same H (upd H2 p (.tup [.str w, v])) ∧ Dp K (upd H2 p (.tup [.str w, v])) (.ref p) (wordD w dv) := fun H' H2 d p v dv w s n e2 hp hv => by
      have e3 : Same H' (upd H2 p (.tup [.str w, v])) := (same_upd (Same.refl H') n).trans (same_upd e2 hp)
      exact ⟨s.trans e3, .tup (SqT.of upd_same) (.cons (.str w) (.cons (dp_same e3 _ _ hv) .nil))⟩
    rcases kk with ⟨rfl, k⟩ | ⟨rfl, k⟩
    · refine ⟨_, rfl, rfl, _, rfl, iteT ?_⟩
      refine ⟨_, rfl, _, rfl, _, rfl, c, _, 0, _, rfl, rfl, hc, rfl, _, rfl, ?_⟩
      refine ask_orgX (goal := aim) (row := row) ri ?_
      cases hd : runDue tx row aim rs with
      | text0 =>
        rw [hd] at k
        intro H' d s n
        refine ⟨true, T.ex 0 (by decide), fun _ a ha => ?_, fun q => nomatch q⟩
        refine ⟨_, rfl, _, _, rfl, rfl, 0, _, rfl, by decide, rfl, upd_same, fun H2 e2 => ?_⟩
        refine ⟨_, rfl, rfl, _, _, _, rfl, rfl, T.ei 0 (by decide), e2 _ _ upd_same, (by show 2 ≤ sizeLine; decide), fun p hp => ?_⟩
        obtain ⟨z1, z2⟩ := fin H' H2 d p _ _ (kindN 0) s n e2 hp (.non)
        exact k _ _ z1 z2
      | text i =>
        rw [hd] at k
        intro H' d s n
        refine ⟨true, T.ex 0 (by decide), fun _ a ha => ?_, fun q => nomatch q⟩
        refine ⟨_, rfl, _, _, rfl, rfl, 0, _, rfl, by decide, rfl, upd_same, fun H2 e2 => ?_⟩
        refine ⟨_, rfl, rfl, _, _, _, rfl, rfl, T.ei 0 (by decide), e2 _ _ upd_same, (by show 2 ≤ sizeLine; decide), fun p hp => ?_⟩
        obtain ⟨z1, z2⟩ := fin H' H2 d p _ _ (kindN 0) s n e2 hp (.int _)
        exact k _ _ z1 z2
      | cursor =>
        rw [hd] at k
        intro H' d q s n hq
        refine ⟨true, T.ex 1 (by decide), fun _ a ha => ?_, fun q => nomatch q⟩
        refine ⟨_, rfl, _, _, rfl, rfl, 1, _, rfl, by decide, rfl, upd_same, fun H2 e2 => ?_⟩
        refine ⟨_, rfl, rfl, _, _, _, rfl, rfl, T.ei 1 (by decide), e2 _ _ upd_same, (by show 2 ≤ sizeLine; decide), fun p hp => ?_⟩
        obtain ⟨z1, z2⟩ := fin H' H2 d p _ _ (kindN 1) s n e2 hp (.tup (SqT.of hq) (.cons (.int row) (.cons (dp_optQ aim) .nil)))
        exact k _ _ z1 z2
      | command i =>
        rw [hd] at k
        intro H' d s n
        refine ⟨true, T.ex 2 (by decide), fun _ a ha => ?_, fun q => nomatch q⟩
        refine ⟨_, rfl, _, _, rfl, rfl, 2, _, rfl, by decide, rfl, upd_same, fun H2 e2 => ?_⟩
        refine ⟨_, rfl, rfl, _, _, _, rfl, rfl, T.ei 2 (by decide), e2 _ _ upd_same, (by show 2 ≤ sizeLine; decide), fun p hp => ?_⟩
        obtain ⟨z1, z2⟩ := fin H' H2 d p _ _ (kindN 2) s n e2 hp (.int _)
        exact k _ _ z1 z2
      | off i =>
        rw [hd] at k
        intro H' d s n
        refine ⟨true, T.ex 3 (by decide), fun _ a ha => ?_, fun q => nomatch q⟩
        refine ⟨_, rfl, _, _, rfl, rfl, 3, _, rfl, by decide, rfl, upd_same, fun H2 e2 => ?_⟩
        refine ⟨_, rfl, rfl, _, _, _, rfl, rfl, T.ei 3 (by decide), e2 _ _ upd_same, (by show 2 ≤ sizeLine; decide), fun p hp => ?_⟩
        obtain ⟨z1, z2⟩ := fin H' H2 d p _ _ (kindN 3) s n e2 hp (.int _)
        exact k _ _ z1 z2
      | fine =>
        rw [hd] at k
        exact fun H' v e => k _ _ e .non
    · refine ⟨_, rfl, rfl, _, rfl, iteF ?_⟩
      refine ⟨_, rfl, z, _, 0, _, rfl, rfl, hz0, rfl, _, rfl, z, _, 1, _, rfl, rfl, hz0, rfl, _, rfl, _, rfl, _, rfl, ?_⟩
      refine ask_cntX (goal := aim) (row := row) (start := g) hc ri.2.1 ri.2.2.1 ln l40 m110 ?_
      cases hd : cntDue lines most row g rs aim with
      | num i =>
        rw [hd] at k
        intro H' d s n
        refine ⟨true, T.ex 4 (by decide), fun _ a ha => ?_, fun q => nomatch q⟩
        refine ⟨_, rfl, _, _, rfl, rfl, 4, _, rfl, by decide, rfl, upd_same, fun H2 e2 => ?_⟩
        refine ⟨_, rfl, rfl, _, _, _, rfl, rfl, T.ei 4 (by decide), e2 _ _ upd_same, (by show 2 ≤ sizeLine; decide), fun p hp => ?_⟩
        obtain ⟨z1, z2⟩ := fin H' H2 d p _ _ (kindN 4) s n e2 hp (.int _)
        exact k _ _ z1 z2
      | cursor =>
        rw [hd] at k
        intro H' d s n
        refine ⟨true, T.ex 1 (by decide), fun _ a ha => ?_, fun q => nomatch q⟩
        refine ⟨_, rfl, _, _, rfl, rfl, 1, _, rfl, by decide, rfl, upd_same, fun H2 e2 => ?_⟩
        refine ⟨_, rfl, rfl, _, _, _, rfl, rfl, T.ei 1 (by decide), e2 _ _ upd_same, (by show 2 ≤ sizeLine; decide), fun p hp => ?_⟩
        obtain ⟨z1, z2⟩ := fin H' H2 d p _ _ (kindN 1) s n e2 hp (.tup (seq_t s hc) (.cons (.int row) (.cons (dp_optQ g) .nil)))
        exact k _ _ z1 z2
      | command i =>
        rw [hd] at k
        intro H' d s n
        refine ⟨true, T.ex 2 (by decide), fun _ a ha => ?_, fun q => nomatch q⟩
        refine ⟨_, rfl, _, _, rfl, rfl, 2, _, rfl, by decide, rfl, upd_same, fun H2 e2 => ?_⟩
        refine ⟨_, rfl, rfl, _, _, _, rfl, rfl, T.ei 2 (by decide), e2 _ _ upd_same, (by show 2 ≤ sizeLine; decide), fun p hp => ?_⟩
        obtain ⟨z1, z2⟩ := fin H' H2 d p _ _ (kindN 2) s n e2 hp (.int _)
        exact k _ _ z1 z2
      | fine =>
        rw [hd] at k
        exact fun H' v e => k _ _ e .non
end
end Gc

/-! the source of numbers of the laws over origins and counts: a dict -/
namespace Gc
open PySem L2
abbrev s_bag : Stmt := top 38
abbrev s_bdraw : Stmt := top 39
def bagK (g : Addr) (lf tn bl : Int) : List (L2.Key × V) := [(.inr "great", .ref g), (.inr "left", .int lf), (.inr "turn", .int tn), (.inr "blend", .int bl)]
def Bag (H : Hp) (b g : Addr) (n : Nat) : Prop := ∃ (gs : List Int) (lf tn bl : Int), H b = some (.dK (bagK g lf tn bl)) ∧ H g = some (.lst (gs.map V.int)) ∧ gs.length ≤ 63 ∧ 0 ≤ tn ∧ tn ≤ n ∧ 0 ≤ bl ∧ bl < 2 ^ 61
theorem Bag.ne {H : Hp} {b g : Addr} {n : Nat} (h : Bag H b g n) : b ≠ g := by
  obtain ⟨_, _, _, _, h1, h2, _⟩ := h
  exact ne_of h1 h2 (by intro q; cases q)
theorem Bag.same {H H' : Hp} {b g : Addr} {n : Nat} (e : Same H H') (h : Bag H b g n) : Bag H' b g n := by
  obtain ⟨gs, lf, tn, bl, h1, h2, h3⟩ := h
  exact ⟨gs, lf, tn, bl, e _ _ h1, e _ _ h2, h3⟩
theorem Bag.more {H : Hp} {b g : Addr} {n m : Nat} (h : Bag H b g n) (l : n ≤ m) : Bag H b g m := by
  obtain ⟨gs, lf, tn, bl, h1, h2, h3, h4, h5, h6⟩ := h
  exact ⟨gs, lf, tn, bl, h1, h2, h3, h4, by omega, h6⟩
theorem n_gl : ¬ (Sum.inr "great" : L2.Key) = .inr "left" := by decide +kernel
theorem n_gt : ¬ (Sum.inr "great" : L2.Key) = .inr "turn" := by decide +kernel
theorem n_lt : ¬ (Sum.inr "left" : L2.Key) = .inr "turn" := by decide +kernel
theorem n_gb : ¬ (Sum.inr "great" : L2.Key) = .inr "blend" := by decide +kernel
theorem n_lb : ¬ (Sum.inr "left" : L2.Key) = .inr "blend" := by decide +kernel
theorem n_tb : ¬ (Sum.inr "turn" : L2.Key) = .inr "blend" := by decide +kernel
theorem small_n {n : Nat} (h : n ≤ 1000) : n < sizeLine := by
  rw [sizeLine_eq]
  omega
theorem val_great (g : Addr) (lf tn bl : Int) : valV (bagK g lf tn bl) (.inr "great" : L2.Key) = some (.ref g) := valV_pos rfl
theorem val_left (g : Addr) (lf tn bl : Int) : valV (bagK g lf tn bl) (.inr "left" : L2.Key) = some (.int lf) := (valV_neg n_gl).trans (valV_pos rfl)
theorem val_turn (g : Addr) (lf tn bl : Int) : valV (bagK g lf tn bl) (.inr "turn" : L2.Key) = some (.int tn) := (valV_neg n_gt).trans ((valV_neg n_lt).trans (valV_pos rfl))
theorem val_blend (g : Addr) (lf tn bl : Int) : valV (bagK g lf tn bl) (.inr "blend" : L2.Key) = some (.int bl) :=
  (valV_neg n_gb).trans ((valV_neg n_lb).trans ((valV_neg n_tb).trans (valV_pos rfl)))
theorem get_great {H : Hp} {b g : Addr} {lf tn bl : Int} (h : H b = some (.dK (bagK g lf tn bl))) : DGet H b (.str "great") (some (.ref g)) := val_great g lf tn bl ▸ DGet.k (k := .inr "great") h
theorem get_left {H : Hp} {b g : Addr} {lf tn bl : Int} (h : H b = some (.dK (bagK g lf tn bl))) : DGet H b (.str "left") (some (.int lf)) := val_left g lf tn bl ▸ DGet.k (k := .inr "left") h
theorem get_turn {H : Hp} {b g : Addr} {lf tn bl : Int} (h : H b = some (.dK (bagK g lf tn bl))) : DGet H b (.str "turn") (some (.int tn)) := val_turn g lf tn bl ▸ DGet.k (k := .inr "turn") h
theorem get_blend {H : Hp} {b g : Addr} {lf tn bl : Int} (h : H b = some (.dK (bagK g lf tn bl))) : DGet H b (.str "blend") (some (.int bl)) := val_blend g lf tn bl ▸ DGet.k (k := .inr "blend") h
theorem put_left (g : Addr) (lf tn bl v : Int) : putK (bagK g lf tn bl) (.inr "left" : L2.Key) (.int v) = bagK g v tn bl := by
  unfold putK bagK
  rfl
theorem put_turn (g : Addr) (lf tn bl v : Int) : putK (bagK g lf tn bl) (.inr "turn" : L2.Key) (.int v) = bagK g lf v bl := by
  unfold putK bagK
  rfl
theorem dput_left {H : Hp} {b g : Addr} {lf tn bl : Int} (v : Int) (h : H b = some (.dK (bagK g lf tn bl))) : DPut H b (.str "left") (.int v) (upd H b (.dK (bagK g v tn bl))) := put_left g lf tn bl v ▸ DPut.k (k := .inr "left") h (by show 4 < sizeLine; decide)
theorem dput_turn {H : Hp} {b g : Addr} {lf tn bl : Int} (v : Int) (h : H b = some (.dK (bagK g lf tn bl))) : DPut H b (.str "turn") (.int v) (upd H b (.dK (bagK g lf v bl))) := put_turn g lf tn bl v ▸ DPut.k (k := .inr "turn") h (by show 4 < sizeLine; decide)
def spBag (K : PySem.W.Frag) : Sp := fun vs H Q _ => ∃ (a : Addr) (ns : List Int), vs = [.ref a] ∧ SqL K H a (ns.map V.int) ∧ ns.length ≤ 63 ∧
  ∀ (H' : Hp) (b g : Addr), Same H H' → H b = none → H g = none → Bag H' b g 0 → Q (.ref b) H'
def spBdraw : Sp := fun vs H Q _ => ∃ (b g : Addr) (n : Nat) (many : Int), vs = [.ref b, .int many] ∧ Bag H b g n ∧ n < 2 ^ 40 ∧ 0 < many ∧ many.natAbs.log2 < 9000 ∧
  ∀ (H' : Hp) (r : Int), Keep b g H H' → Bag H' b g (n + 1) → 0 ≤ r → r < many → Q (.int r) H'
structure TxtC (mg : Str → Option Value) : Prop where
  abs : mg "abs" = none
  len : mg "len" = none
  range : mg "range" = none
  min : mg "min" = none
  max : mg "max" = none
  int : mg "int" = none
  list : mg "list" = none
section
variable {P : Program} {w : World} {K : PySem.W.Frag} {mg : Str → Option Value} {base : Heap}
theorem sc_law_bag : FnScope ["script", "blend", "great", "cell"] ["script"] (defScope s_bag) := ⟨rfl, rfl, rfl, by decide +kernel, rfl, by decide +kernel, by decide +kernel⟩
theorem ok_bag {f : Addr} {fd : FuncData} (F : Fun K "_law_bag" "_law_bag" s_bag f fd) (T : TxtC mg) : FnOk P w K mg base CX0 1 f fd ["script"] (spBag K) := by
  refine F.ok sc_law_bag (fun vs H Q E h => ?_) (fun cdv A outer s H vs Q E hr h => ?_)
  · obtain ⟨a, ns, rfl, _⟩ := h
    rfl
  · obtain ⟨a, ns, rfl, hS, hlen, k⟩ := h
    refine ⟨_, (pss_cons (ps_par (i := 1) (j := 2) rfl sc_law_bag.nd rfl rfl (by decide) rfl rfl (pa_cons pe_int (pa_cons (pe_lst pa_nil) pa_nil)) (by rfl))
      (pss_cons (ps_for PassesOwn.never rfl (pi_list (pv 0)) (pg_name (i := 3) sc_law_bag.nd rfl (Or.inl rfl)) (pss_cons (ps_set (i := 1) sc_law_bag.nd rfl (Or.inl rfl) (pe_op op_mod (pe_op op_add (pe_op op_mulW (pv 1) pe_int) (pv 3)) pe_int))
      (pss_one (ps_if (pt_cmpR op_ge (pe_callB call_abs (by rfl) T.abs (by decide +kernel) (pa_cons (pv 3) pa_nil)) (pe_op op_pow pe_int pe_int) (nomark _)) (pss_one (ps_expr (pe_bm PySem.F.plainAttrs_list PySem.F.slot_list_append PySem.F.type_list_append mt_append (pv 2) (pa_cons (pe_callB call_abs (by rfl) T.abs (by decide +kernel) (pa_cons (pv 3) pa_nil)) pa_nil)))) pss_nil))))
      (pss_one (ps_ret (pe_disp (pps_cons pe_str (pv 2) (pps_cons pe_str pe_int (pps_cons pe_str pe_int (pps_cons pe_str (pv 1) pps_nil)))) rfl rfl (by simp) (by decide)))))), ?_⟩
    refine ⟨Nat.zero_le _, fun g hg => ?_⟩
    have s0 : Same H (upd H g (.lst [])) := same_upd (Same.refl _) hg
    refine ⟨_, _, rfl, ?_⟩
    refine ⟨_, rfl, a, rfl, ⟨_, s0.seq hS⟩, for_list (K := K) (a := a) (xs := ns.map V.int) (fun i σ H' => ∃ (bl : Int) (gs : List Int) (v3 : Option V), σ = [some (.ref a), some (.int bl), some (.ref g), v3] ∧ Same H H' ∧ H' g = some (.lst (gs.map V.int)) ∧ gs.length ≤ i ∧ 0 ≤ bl ∧ bl < 2 ^ 61)
      ⟨11, [], none, rfl, s0, upd_same, Nat.le_refl _, by decide, by decide⟩ (fun i σ H' _ ⟨_, _, _, _, e, _⟩ => e.seq hS) (fun i y σ H1 hi h => ?_) (fun σ H1 h => ?_)⟩
    · obtain ⟨bl, gs, v3, rfl, e1, hg1, gl, b0, b1⟩ := h
      obtain ⟨u, rfl⟩ := int_at hi
      have li := (List.getElem?_eq_some_iff.mp hi).1
      rw [List.length_map] at li
      have n1 := Int.emod_nonneg (bl * 1000003 + u) (show (2305843009213693951 : Int) ≠ 0 by decide)
      have n2 := Int.emod_lt_of_pos (bl * 1000003 + u) (show (0 : Int) < 2305843009213693951 by decide)
      have n3 : (2305843009213693951 : Int) < 2 ^ 61 := by decide
      refine ⟨_, rfl, _, _, rfl, rfl, wide_mul (a := 61) (b := 61) (by omega) (by decide) (by decide) (by decide) (by decide), _, rfl, _, _, rfl, rfl, _, _, rfl, rfl, (show (0 : Int) < 2305843009213693951 by decide), ?_⟩
      refine ⟨_, rfl, _, rfl, ?_⟩
      generalize (if u < 0 then -u else u) = z
      refine ⟨_, _, rfl, rfl, cpow (by decide), _, _, rfl, rfl, _, rfl, ite2 (fun _ => ?_) (fun _ => ?_)⟩
      · refine ⟨_, rfl, .inl ⟨rfl, _, SqL.of hg1⟩, _, rfl, _, rfl, g, _, _, rfl, rfl, hg1, small_n (by rw [List.length_map]; omega), ?_⟩
        generalize (if u < 0 then -u else u) = z2
        refine ⟨_, gs ++ [z2], _, rfl, same_freeU e1 hg, ?_, ?_, n1, by omega⟩
        · rw [upd_same, List.map_append]
          rfl
        · rw [List.length_append, List.length_singleton]
          omega
      · exact ⟨_, gs, _, rfl, e1, hg1, by omega, n1, by omega⟩
    · obtain ⟨bl, gs, v3, rfl, e1, hg1, gl, b0, b1⟩ := h
      refine fun p hp => ⟨_, rfl, _, rfl, upd_same, bagK g 0 0 bl, rfl, (by show 4 ≤ 15; decide), ?_⟩
      have gp : g ≠ p := ne_of_none hg1 hp
      refine k _ p g ?_ (e1.free hp) hg ⟨gs, 0, 0, bl, upd_same, ?_, ?_, by decide, by decide, b0, b1⟩
      · exact same_freeU (same_upd e1 hp) (e1.free hp)
      · rw [upd_ne gp, upd_ne gp]
        exact hg1
      · rw [List.length_map] at gl
        omega
theorem sc_law_draw : FnScope ["bag", "many", "drawn", "turn", "mixed"] ["bag", "many"] (defScope s_bdraw) := ⟨rfl, rfl, rfl, by decide +kernel, rfl, by decide +kernel, by decide +kernel⟩
theorem ok_bdraw {f : Addr} {fd : FuncData} (F : Fun K "_law_draw" "_law_draw" s_bdraw f fd) (T : TxtC mg) : FnOk P w K mg base CX0 1 f fd ["bag", "many"] spBdraw := by
  refine F.ok sc_law_draw (fun vs H Q E h => ?_) (fun cdv A outer s H vs Q E hr h => ?_)
  · obtain ⟨b, g, n, many, rfl, _⟩ := h
    rfl
  · obtain ⟨b, g, n, many, rfl, hs, hn, m0, mb, k⟩ := h
    have bg := hs.ne
    obtain ⟨gs, lf, tn, bl, hb, hg, gl, t0, t1, b0, b1⟩ := hs
    refine ⟨_, (C8.pss_cut (ps_if (PW.pt (pw_and (pt_cmpR op_lt (pe_dget (hu_of hr) (pv 0) pe_str (fun _ _ => rfl)) (pv 1) (nomark _)) (pw_and1 (pt_cmpR op_gt (pe_callB call_len_seq (by rfl) T.len (by decide +kernel) (pa_cons (pe_dget (hu_of hr) (pv 0) pe_str (fun _ _ => rfl)) pa_nil)) pe_int (nomark _))))) (pss_one (ps_dput (hu_of hr) (pv 0) pe_str (pe_bm PySem.F.plainAttrs_list PySem.F.slot_list_pop PySem.F.type_list_pop mt_popAt (pe_dget (hu_of hr) (pv 0) pe_str (fun _ _ => rfl)) (pa_cons pe_int pa_nil)) rfl)) pss_nil)
      (pss_cons (ps_if (pt_cmpR op_ge (pe_dget (hu_of hr) (pv 0) pe_str (fun _ _ => rfl)) (pv 1) (nomark _)) (pss_cons (ps_set (i := 2) sc_law_draw.nd rfl (Or.inl rfl) (pe_op op_mod (pe_dget (hu_of hr) (pv 0) pe_str (fun _ _ => rfl)) (pv 1)))
      (pss_cons (ps_dput (hu_of hr) (pv 0) pe_str (pe_op op_fdivW (pe_dget (hu_of hr) (pv 0) pe_str (fun _ _ => rfl)) (pv 1)) rfl)
      (pss_one (ps_ret (pv 2))))) pss_nil)
      (pss_cons (ps_daug (hu_of hr) (pv 0) pe_str pe_int in_add (fun _ _ _ => rfl))
      (pss_cons (ps_set (i := 3) sc_law_draw.nd rfl (Or.inl rfl) (pe_dget (hu_of hr) (pv 0) pe_str (fun _ _ => rfl)))
      (pss_cons (ps_set (i := 4) sc_law_draw.nd rfl (Or.inl rfl) (pe_op op_add (pe_op op_mulW (pe_op op_add (pe_dget (hu_of hr) (pv 0) pe_str (fun _ _ => rfl)) (pe_op op_mulW pe_int (pv 3))) (pe_op op_pow (pe_op op_add (pv 3) pe_int) pe_int)) (pe_op op_mulW pe_int (pv 3))))
      (pss_one (ps_ret (pe_op op_mod (pe_op op_fdivW (pe_op op_mod (pe_op op_pow (pe_op op_mod (pv 4) pe_int) pe_int) (pe_op op_add (pe_op op_pow pe_int pe_int) pe_int)) pe_int) (pv 1))))))))), ?_⟩
    refine ⟨fun σ H' => σ = [some (.ref b), some (.int many), none, none, none] ∧ Keep b g H H' ∧ ∃ (gs : List Int) (lf : Int), H' b = some (.dK (bagK g lf tn bl)) ∧ H' g = some (.lst (gs.map V.int)) ∧ gs.length ≤ 63, ?_, ?_⟩
    · refine ⟨_, rfl, b, _, rfl, get_left hb, _, rfl, _, _, rfl, rfl, _, rfl, ite2 (fun c => ?_) (fun c => ?_)⟩
      · refine ⟨_, rfl, b, _, rfl, get_great hb, g, _, rfl, .inl (SqL.of hg), _, _, rfl, rfl, _, rfl, ite2 (fun c2 => ?_) (fun c2 => ?_)⟩
        · cases gs with
          | nil => simp at c2
          | cons g0 gr =>
            refine ⟨_, rfl, b, _, rfl, get_great hb, .inl ⟨rfl, _, SqL.of hg⟩, g, _, 0, 0, V.int g0, rfl, rfl, hg, by decide, by decide, seqIndex_of (by decide) (by simp), rfl, ?_⟩
            have hb1 : upd H g (.lst (((g0 :: gr).map V.int).eraseIdx 0)) b = some (.dK (bagK g lf tn bl)) := by
              rw [upd_ne bg]
              exact hb
            refine ⟨_, rfl, b, _, rfl, dput_left g0 hb1, ?_⟩
            refine ⟨rfl, ?_, gr, g0, upd_same, ?_, ?_⟩
            · exact fun x o n1 n2 hx => by rw [upd_ne n1, upd_ne n2]; exact hx
            · rw [upd_ne bg.symm, upd_same]
              rfl
            · rw [List.length_cons] at gl
              omega
        · exact ⟨rfl, Keep.refl H, gs, lf, hb, hg, gl⟩
      · exact iteF ⟨rfl, Keep.refl H, gs, lf, hb, hg, gl⟩
    · rintro σ H1 ⟨rfl, kp, gs1, lf1, hb1, hg1, gl1⟩
      refine ⟨_, rfl, b, _, rfl, get_left hb1, _, rfl, _, _, rfl, rfl, _, rfl, ite2 (fun c => ?_) (fun c => ?_)⟩
      · refine ⟨_, rfl, b, _, rfl, get_left hb1, _, rfl, _, _, rfl, rfl, m0, ?_⟩
        refine ⟨_, rfl, b, _, rfl, get_left hb1, _, rfl, _, _, rfl, rfl, ⟨m0, mb⟩, ?_⟩
        refine ⟨_, rfl, b, _, rfl, dput_left _ hb1, ?_⟩
        refine ⟨_, rfl, k _ _ (kp.trans ((Keep.refl H1).upd1 (a := b) (d := g))) ⟨gs1, _, tn, bl, upd_same, ?_, gl1, t0, by omega, b0, b1⟩ (Int.emod_nonneg _ (by omega)) (Int.emod_lt_of_pos _ m0)⟩
        rw [upd_ne bg.symm]
        exact hg1
      · -- bag['turn'] += 1
        refine ⟨_, rfl, b, _, rfl, get_turn hb1, _, _, rfl, rfl, _, dput_turn _ hb1, ?_⟩
        have hb2 : upd H1 b (.dK (bagK g lf1 (tn + 1) bl)) b = some (.dK (bagK g lf1 (tn + 1) bl)) := upd_same
        have hg2 : upd H1 b (.dK (bagK g lf1 (tn + 1) bl)) g = some (.lst (gs1.map V.int)) := by
          rw [upd_ne bg.symm]
          exact hg1
        have kp2 : Keep b g H (upd H1 b (.dK (bagK g lf1 (tn + 1) bl))) := kp.trans ((Keep.refl H1).upd1 (a := b) (d := g))
        generalize upd H1 b (.dK (bagK g lf1 (tn + 1) bl)) = H2 at hb2 hg2 kp2 ⊢
        refine ⟨_, rfl, b, _, rfl, get_turn hb2, ?_⟩
        have t2 : tn + 1 < 2 ^ 41 := by omega
        refine ⟨_, rfl, b, _, rfl, get_blend hb2, _, rfl, _, _, rfl, rfl, wide_mul (a := 61) (b := 61) (by decide) (by omega) (by decide) (by decide) (by decide), _, _, rfl, rfl, _, rfl, _, _, rfl, rfl, _, _, rfl, rfl, ⟨by decide, by decide, by omega⟩,
          _, _, rfl, rfl, wide_mul (a := 64) (b := 128) (by omega) (pow_small (a := 42) (k := 2) (b := 128) (by omega) (by decide)) (by decide) (by decide) (by decide), _, rfl, _, _, rfl, rfl, wide_mul (a := 61) (b := 61) (by decide) (by omega) (by decide) (by decide) (by decide), _, _, rfl, rfl, ?_⟩
        generalize (bl + 17 * (tn + 1)) * (tn + 1 + 29) ^ (2 : Int).toNat + 7919 * (tn + 1) = mx
        have n1 := Int.emod_nonneg mx (show (2305843009213693951 : Int) ≠ 0 by decide)
        have n2 := Int.emod_lt_of_pos mx (show (0 : Int) < 2305843009213693951 by decide)
        refine ⟨_, rfl, _, _, rfl, rfl, (show (0 : Int) < 2305843009213693951 by decide), _, _, rfl, rfl, ⟨by decide, by decide, by omega⟩, _, _, rfl, rfl, cpow (by decide), _, _, rfl, rfl, _, _, rfl, rfl, (show (0 : Int) < 10 ^ (18 : Int).toNat + 9 by decide), _, _, rfl, rfl, ⟨by decide, by decide⟩, _, rfl, _, _, rfl, rfl, m0, ?_⟩
        exact k _ _ kp2 ⟨gs1, lf1, tn + 1, bl, hb2, hg2, gl1, by omega, by omega, b0, b1⟩ (Int.emod_nonneg _ (by omega)) (Int.emod_lt_of_pos _ m0)
end
end Gc

/-! lists of commands drawn from the bag -/
namespace Gc
open PySem L2
abbrev s_moves : Stmt := top 40
theorem Keep.freeB {a d l : Addr} {H H' : Hp} {o : HO} (e : Keep a d H H') (h : H l = none) : Keep a d H (upd H' l o) := fun b u h1 h2 hb => by
  rw [upd_ne (ne_of_none hb h)]
  exact e b u h1 h2 hb
theorem Keep.tup {K : PySem.W.Frag} {H H' : Hp} {b g a : Addr} {n : Nat} {ys : List V} (e : Keep b g H H') (B : Bag H b g n) (h : SqT K H a ys) : SqT K H' a ys := by
  obtain ⟨_, _, _, _, h1, h2, _⟩ := B
  rcases h with (z | ⟨o, z⟩) | z
  · exact .inl (.inl (e _ _ (ne_of z h1 (by intro q; cases q)) (ne_of z h2 (by intro q; cases q)) z))
  · exact .inl (.inr ⟨o, e _ _ (ne_of z h1 (by intro q; cases q)) (ne_of z h2 (by intro q; cases q)) z⟩)
  · exact .inr z
theorem CmdAt.keepB {K : PySem.W.Frag} {H H' : Hp} {b g : Addr} {n : Nat} {v : V} {c : Cmd} (e : Keep b g H H') (B : Bag H b g n) (h : CmdAt K H v c) : CmdAt K H' v c := by
  obtain ⟨a, e1, h1⟩ := h
  exact ⟨a, e1, e.tup B h1⟩
theorem CmdsOf.keepB {K : PySem.W.Frag} {H H' : Hp} {b g : Addr} {n : Nat} {xs : List V} {cs : List Cmd} (e : Keep b g H H') (B : Bag H b g n) (h : CmdsOf K H xs cs) : CmdsOf K H' xs cs := Paired.mapP h fun _ _ q => q.keepB e B
theorem CmdsOf.lput {K : PySem.W.Frag} {H : Hp} {l : Addr} {ys zs : List V} {xs : List V} {cs : List Cmd} (hl : H l = some (.lst ys)) (h : CmdsOf K H xs cs) : CmdsOf K (upd H l (.lst zs)) xs cs := Paired.mapP h fun _ _ q => by
  obtain ⟨a, e1, h1⟩ := q
  refine ⟨a, e1, ?_⟩
  rcases h1 with (z | ⟨o, z⟩) | z
  · exact .inl (.inl (by rw [upd_ne (ne_of z hl (by intro q; cases q))]; exact z))
  · exact .inl (.inr ⟨o, by rw [upd_ne (ne_of z hl (by intro q; cases q))]; exact z⟩)
  · exact .inr z
theorem Paired.snocB {α β : Type} {F : α → β → Prop} : ∀ {xs : List α} {ys : List β} {x : α} {y : β}, Paired F xs ys → F x y → Paired F (xs ++ [x]) (ys ++ [y])
  | _, _, _, _, .nil, h => .cons h .nil
  | _, _, _, _, .cons f t, h => .cons f (Paired.snocB t h)
/-- H l = none before the bag's address was taken: they differ -/
theorem Bag.off {H : Hp} {b g l : Addr} {n : Nat} (B : Bag H b g n) (h : H l = none) : l ≠ b ∧ l ≠ g := by
  obtain ⟨_, _, _, _, h1, h2, _⟩ := B
  exact ⟨(ne_of_none h1 h).symm, (ne_of_none h2 h).symm⟩
def spMoves (K : PySem.W.Frag) : Sp := fun vs H Q _ => ∃ (b g : Addr) (n : Nat) (many far : Int), vs = [.ref b, .int many, .int far] ∧ Bag H b g n ∧ n < 2 ^ 39 ∧ 0 ≤ many ∧ many ≤ 20 ∧ 1 ≤ far ∧ far ≤ 10 ^ 30 ∧
  ∀ (H' : Hp) (l : Addr) (xs : List V) (cs : List Cmd), Keep b g H H' → Bag H' b g (n + 130) → H l = none → H' l = some (.lst xs) → CmdsOf K H' xs cs → AllOk cs → (∀ c ∈ cs, CSml c) → (cs.length : Int) ≤ many → Q (.ref l) H'
theorem log9B {x : Int} {k : Nat} (h : x.natAbs < 2 ^ k) (hk : k < 9000) : x.natAbs.log2 < 9000 := by
  have := PySem.Flt.log2_lt_of (k := k + 1) (Nat.succ_pos _) (Nat.lt_trans h (Nat.pow_lt_pow_right (by decide) (Nat.lt_succ_self k)))
  omega
def MI (K : PySem.W.Frag) (H : Hp) (b g l : Addr) (n i : Nat) (H' : Hp) (xs : List V) (cs : List Cmd) : Prop := Keep b g H H' ∧ Bag H' b g (n + 1 + 6 * i) ∧ H' l = some (.lst xs) ∧ CmdsOf K H' xs cs ∧ AllOk cs ∧ cs.length ≤ i ∧ ∀ c ∈ cs, CSml c
theorem mi_step {K : PySem.W.Frag} {H H1 H6 : Hp} {b g l t : Addr} {n i : Nat} {xs : List V} {cs : List Cmd} {c : Cmd} (lb : l ≠ b) (lg : l ≠ g) (hl0 : H l = none) (h : MI K H b g l n i H1 xs cs) (k : Keep b g H1 H6) (B : Bag H6 b g (n + 1 + 6 * i + 6))
    (ht : H6 t = none) (ok : c.ok) (sm : CSml c) : MI K H b g l n (i + 1) (upd (upd H6 t (.tup (encC c))) l (.lst (xs ++ [.ref t]))) (xs ++ [.ref t]) (cs ++ [c]) := by
  obtain ⟨a1, a2, a3, a4, a5, a6, a7⟩ := h
  have b3 := k _ _ lb lg a3
  have tl : t ≠ l := (ne_of_none b3 ht).symm
  have s1 : Same H6 (upd H6 t (.tup (encC c))) := same_upd (Same.refl H6) ht
  have b3' := s1 _ _ b3
  refine ⟨fun x o n1 n2 hx => ?_, ?_, upd_same, Paired.snocB (((a4.keepB k a2).same s1).lput b3') ⟨t, rfl, SqT.of ?_⟩, ?_, ?_, ?_⟩
  · rw [upd_ne (ne_of_none hx hl0)]
    exact s1 _ _ (k _ _ n1 n2 (a1 _ _ n1 n2 hx))
  · obtain ⟨gs, lf, tn, bl, h1, h2, h3, h4, h5, h6⟩ := B
    exact ⟨gs, lf, tn, bl, by rw [upd_ne lb.symm]; exact s1 _ _ h1, by rw [upd_ne lg.symm]; exact s1 _ _ h2, h3, h4, by omega, h6⟩
  · rw [upd_ne tl]
    exact upd_same
  · intro d hd
    rcases List.mem_append.mp hd with q | q
    · exact a5 d q
    · rw [List.mem_singleton.mp q]
      exact ok
  · rw [List.length_append, List.length_singleton]
    omega
  · intro d hd
    rcases List.mem_append.mp hd with q | q
    · exact a7 d q
    · rw [List.mem_singleton.mp q]
      exact sm
section
variable {P : Program} {w : World} {K : PySem.W.Frag} {mg : Str → Option Value} {base : Heap}
theorem sc_law_moves : FnScope ["bag", "many", "far", "found", "number", "way", "size"] ["bag", "many", "far"] (defScope s_moves) := ⟨rfl, rfl, rfl, by decide +kernel, rfl, by decide +kernel, by decide +kernel⟩
theorem ok_moves {f : Addr} {fd : FuncData} (F : Fun K "_law_moves" "_law_moves" s_moves f fd) (T : TxtC mg) (c_law_draw : Cal P w K mg base 1 "_law_draw" spBdraw) : FnOk P w K mg base CX0 2 f fd ["bag", "many", "far"] (spMoves K) := by
  refine F.ok sc_law_moves (fun vs H Q E h => ?_) (fun cdv A outer s H vs Q E hr h => ?_)
  · obtain ⟨b, g, n, many, far, rfl, _⟩ := h
    rfl
  · obtain ⟨b, g, n, many, far, rfl, B, hn, m0, m1, z0, z1, k⟩ := h
    refine ⟨_, (pss_cons (ps_set (i := 3) sc_law_moves.nd rfl (Or.inl rfl) (pe_lst pa_nil))
      (pss_cons (ps_for PassesOwn.never rfl (pi_range1 rfl T.range (pa_cons (pe_cal c_law_draw hr (by decide) (by rfl) (pa_cons (pv 0) (pa_cons (pe_op op_add (pv 1) pe_int) pa_nil))) pa_nil)) (pg_name (i := 4) sc_law_moves.nd rfl (Or.inl rfl)) (pss_cons (ps_set (i := 5) sc_law_moves.nd rfl (Or.inl rfl) (pe_cal c_law_draw hr (by decide) (by rfl) (pa_cons (pv 0) (pa_cons pe_int pa_nil))))
      (pss_cons (ps_set (i := 6) sc_law_moves.nd rfl (Or.inl rfl) (pe_op op_add pe_int (pe_ix ix_tup (pe_tup (pa_cons (pe_cal c_law_draw hr (by decide) (by rfl) (pa_cons (pv 0) (pa_cons pe_int pa_nil))) (pa_cons (pe_cal c_law_draw hr (by decide) (by rfl) (pa_cons (pv 0) (pa_cons (pv 2) pa_nil))) pa_nil))) (pe_cal c_law_draw hr (by decide) (by rfl) (pa_cons (pv 0) (pa_cons pe_int pa_nil))) (fun _ _ => rfl))))
      (pss_one (ps_if (pt_cmpR op_lt (pv 5) pe_int (nomark _)) (pss_one (ps_expr (pe_bm PySem.F.plainAttrs_list PySem.F.slot_list_append PySem.F.type_list_append mt_append (pv 3) (pa_cons (pe_tup (pa_cons pe_str (pa_cons (pv 6) pa_nil))) pa_nil)))) (pss_one (ps_if (pt_cmpR op_lt (pv 5) pe_int (nomark _)) (pss_one (ps_expr (pe_bm PySem.F.plainAttrs_list PySem.F.slot_list_append PySem.F.type_list_append mt_append (pv 3) (pa_cons (pe_tup (pa_cons pe_str (pa_cons (pv 6) pa_nil))) pa_nil)))) (pss_one (ps_if (pt_cmpR op_lt (pv 5) pe_int (nomark _)) (pss_one (ps_expr (pe_bm PySem.F.plainAttrs_list PySem.F.slot_list_append PySem.F.type_list_append mt_append (pv 3) (pa_cons (pe_tup (pa_cons (pe_ix ix_tup (pe_tup (pa_cons pe_str (pa_cons pe_str pa_nil))) (pe_op op_mod (pv 5) pe_int) (fun _ _ => rfl)) (pa_cons (pe_op op_add pe_int (pe_cal c_law_draw hr (by decide) (by rfl) (pa_cons (pv 0) (pa_cons (pe_ix ix_tup (pe_tup (pa_cons pe_int (pa_cons pe_int (pa_cons pe_int pa_nil)))) (pe_cal c_law_draw hr (by decide) (by rfl) (pa_cons (pv 0) (pa_cons pe_int pa_nil))) (fun _ _ => rfl)) pa_nil)))) pa_nil))) pa_nil)))) (pss_one (ps_expr (pe_bm PySem.F.plainAttrs_list PySem.F.slot_list_append PySem.F.type_list_append mt_append (pv 3) (pa_cons (pe_ix ix_tup (pe_tup (pa_cons (pe_tup (pa_cons pe_str pa_nil)) (pa_cons (pe_tup (pa_cons pe_str pa_nil)) pa_nil))) (pe_op op_sub (pv 5) pe_int) (fun _ _ => rfl)) pa_nil)))))))))))))
      (pss_one (ps_ret (pv 3))))), ?_⟩
    refine ⟨Nat.zero_le _, fun l hl => ?_⟩
    obtain ⟨lb, lg⟩ := B.off hl
    have eA : Same H (upd H l (.lst [])) := same_upd (Same.refl H) hl
    refine ⟨_, rfl, _, rfl, _, _, rfl, rfl, b, g, n, _, rfl, B.same eA, by omega, by omega, log9B (k := 10) (by omega) (by decide), fun H1 turns kp1 B1 t0 t1 => ?_⟩
    have kH : Keep b g H H1 := (Keep.of eA).trans kp1
    have hl1 : H1 l = some (.lst []) := kp1 _ _ lb lg upd_same
    refine ⟨_, rfl, by omega, by omega, for_range (lo := 0) (fun i σ H' => ∃ (v4 v5 v6 : Option V) (xs : List V) (cs : List Cmd), σ = [some (.ref b), some (.int many), some (.int far), some (.ref l), v4, v5, v6] ∧ MI K H b g l n i H' xs cs)
      ⟨none, none, none, [], [], rfl, kH, B1, hl1, .nil, (fun _ h => nomatch h), Nat.le_refl _, (fun _ h => nomatch h)⟩ (fun i σ H2 hi h => ?_) (fun σ H2 h => ?_)⟩
    · obtain ⟨v4, v5, v6, xs, cs, rfl, h⟩ := h
      have hi' : i < 21 := by omega
      obtain ⟨a1, a2, a3, a4, a5, a6, a7⟩ := id h
      have xl : xs.length ≤ 1000 := by
        rw [a4.len]
        omega
      -- way
      refine ⟨_, rfl, b, g, _, 12, rfl, a2, by omega, by decide, by decide, fun H3 kd kp3 B3 k0 k1 => ?_⟩
      -- size
      refine ⟨_, rfl, b, g, _, 3, rfl, B3, by omega, by decide, by decide, fun H4 d4 kp4 B4 d40 d41 => ?_⟩
      refine ⟨_, rfl, _, rfl, b, g, _, far, rfl, B4, by omega, by omega, log9B (k := 110) (by omega) (by decide), fun H5 d5 kp5 B5 d50 d51 => ?_⟩
      refine ⟨(by show 2 ≤ sizeLine; decide), fun q hq => ?_⟩
      have sq : Same H5 (upd H5 q (.tup [.int d4, .int d5])) := same_upd (Same.refl _) hq
      obtain ⟨qb, qg⟩ := B5.off hq
      refine ⟨_, rfl, b, g, _, 2, rfl, B5.same sq, by omega, by decide, by decide, fun H6 d6 kp6 B6 d60 d61 => ?_⟩
      have hq6 := kp6 _ _ qb qg (upd_same (H := H5) (a := q) (o := .tup [.int d4, .int d5]))
      obtain ⟨sz, hsz, s1, s1b⟩ : ∃ sz : Int, atI [V.int d4, .int d5] d6 = some (.int sz) ∧ 0 ≤ sz ∧ sz ≤ 10 ^ 30 := by
        rcases (show d6 = 0 ∨ d6 = 1 by omega) with rfl | rfl
        · exact ⟨d4, rfl, d40, by omega⟩
        · exact ⟨d5, rfl, d50, by omega⟩
      refine ⟨q, _, d6, _, rfl, rfl, SqT.of hq6, hsz, _, _, rfl, rfl, ?_⟩
      have k26 : Keep b g H2 H6 := (((kp3.trans kp4).trans kp5).trans (Keep.of sq)).trans kp6
      have l6 := k26 _ _ lb lg a3
      refine ⟨_, rfl, _, _, rfl, rfl, _, rfl, ite2 (fun c => ?_) (fun c => ?_)⟩
      · refine ⟨_, rfl, .inl ⟨rfl, _, SqL.of l6⟩, _, rfl, (by show 2 ≤ sizeLine; decide), fun t ht => ?_⟩
        refine ⟨l, _, _, rfl, rfl, (same_upd (Same.refl H6) ht) _ _ l6, small_n xl, ?_⟩
        exact ⟨_, _, _, _, _, rfl, mi_step (c := .right (1 + sz)) lb lg hl h k26 (B6.more (by omega)) ht (by show 1 ≤ 1 + sz; omega) (by show (1 + sz).natAbs < 2 ^ 120; omega)⟩
      refine ⟨_, rfl, _, _, rfl, rfl, _, rfl, ite2 (fun c2 => ?_) (fun c2 => ?_)⟩
      · refine ⟨_, rfl, .inl ⟨rfl, _, SqL.of l6⟩, _, rfl, (by show 2 ≤ sizeLine; decide), fun t ht => ?_⟩
        refine ⟨l, _, _, rfl, rfl, (same_upd (Same.refl H6) ht) _ _ l6, small_n xl, ?_⟩
        exact ⟨_, _, _, _, _, rfl, mi_step (c := .left (1 + sz)) lb lg hl h k26 (B6.more (by omega)) ht (by show 1 ≤ 1 + sz; omega) (by show (1 + sz).natAbs < 2 ^ 120; omega)⟩
      have kd4 : ¬ kd < 4 := fun z => c (decide_eq_true z)
      have kd7 : ¬ kd < 7 := fun z => c2 (decide_eq_true z)
      refine ⟨_, rfl, _, _, rfl, rfl, _, rfl, ite2 (fun c3 => ?_) (fun c3 => ?_)⟩
      · refine ⟨_, rfl, .inl ⟨rfl, _, SqL.of l6⟩, (by show 2 ≤ sizeLine; decide), fun q2 hq2 => ?_⟩
        have s2 : Same H6 (upd H6 q2 (.tup [.str "down", .str "up"])) := same_upd (Same.refl _) hq2
        refine ⟨_, rfl, _, _, rfl, rfl, (show (0 : Int) < 2 by decide), ?_⟩
        rcases (show kd % 2 = 0 ∨ kd % 2 = 1 by omega) with e0 | e0
        · refine ⟨q2, _, _, _, rfl, rfl, SqT.of upd_same, (by rw [e0]; rfl), ?_⟩
          refine ⟨_, rfl, (by show 3 ≤ sizeLine; decide), fun q3 hq3 => ⟨_, rfl, b, g, _, 3, rfl, (B6.same s2).same (same_upd (Same.refl _) hq3), by omega, by decide, by decide, fun H7 d7 kp7 B7 d70 d71 => ?_⟩⟩
          obtain ⟨q3b, q3g⟩ := (B6.same s2).off hq3
          have hq37 := kp7 _ _ q3b q3g upd_same
          obtain ⟨lim, hlim, lim1, lim2⟩ : ∃ z : Int, atI [V.int 2, .int 2, .int 12] d7 = some (.int z) ∧ 1 ≤ z ∧ z ≤ 12 := by
            rcases (show d7 = 0 ∨ d7 = 1 ∨ d7 = 2 by omega) with rfl | rfl | rfl
            · exact ⟨2, rfl, by decide, by decide⟩
            · exact ⟨2, rfl, by decide, by decide⟩
            · exact ⟨12, rfl, by decide, by decide⟩
          refine ⟨q3, _, d7, _, rfl, rfl, SqT.of hq37, hlim, b, g, _, lim, rfl, B7, by omega, by omega, log9B (k := 10) (by omega) (by decide), fun H8 d8 kp8 B8 d80 d81 => ?_⟩
          have k28 : Keep b g H2 H8 := (((k26.trans (Keep.of s2)).trans (Keep.of (same_upd (Same.refl _) hq3))).trans kp7).trans kp8
          have l8 := k28 _ _ lb lg a3
          refine ⟨_, _, rfl, rfl, (by show 2 ≤ sizeLine; decide), fun t ht => ?_⟩
          refine ⟨l, _, _, rfl, rfl, (same_upd (Same.refl H8) ht) _ _ l8, small_n xl, ?_⟩
          exact ⟨_, _, _, _, _, rfl, mi_step (c := .down (1 + d8)) lb lg hl h k28 (B8.more (by omega)) ht (by show 1 ≤ 1 + d8; omega) (by show (1 + d8).natAbs < 2 ^ 120; omega)⟩
        · refine ⟨q2, _, _, _, rfl, rfl, SqT.of upd_same, (by rw [e0]; rfl), ?_⟩
          refine ⟨_, rfl, (by show 3 ≤ sizeLine; decide), fun q3 hq3 => ⟨_, rfl, b, g, _, 3, rfl, (B6.same s2).same (same_upd (Same.refl _) hq3), by omega, by decide, by decide, fun H7 d7 kp7 B7 d70 d71 => ?_⟩⟩
          obtain ⟨q3b, q3g⟩ := (B6.same s2).off hq3
          have hq37 := kp7 _ _ q3b q3g upd_same
          obtain ⟨lim, hlim, lim1, lim2⟩ : ∃ z : Int, atI [V.int 2, .int 2, .int 12] d7 = some (.int z) ∧ 1 ≤ z ∧ z ≤ 12 := by
            rcases (show d7 = 0 ∨ d7 = 1 ∨ d7 = 2 by omega) with rfl | rfl | rfl
            · exact ⟨2, rfl, by decide, by decide⟩
            · exact ⟨2, rfl, by decide, by decide⟩
            · exact ⟨12, rfl, by decide, by decide⟩
          refine ⟨q3, _, d7, _, rfl, rfl, SqT.of hq37, hlim, b, g, _, lim, rfl, B7, by omega, by omega, log9B (k := 10) (by omega) (by decide), fun H8 d8 kp8 B8 d80 d81 => ?_⟩
          have k28 : Keep b g H2 H8 := (((k26.trans (Keep.of s2)).trans (Keep.of (same_upd (Same.refl _) hq3))).trans kp7).trans kp8
          have l8 := k28 _ _ lb lg a3
          refine ⟨_, _, rfl, rfl, (by show 2 ≤ sizeLine; decide), fun t ht => ?_⟩
          refine ⟨l, _, _, rfl, rfl, (same_upd (Same.refl H8) ht) _ _ l8, small_n xl, ?_⟩
          exact ⟨_, _, _, _, _, rfl, mi_step (c := .up (1 + d8)) lb lg hl h k28 (B8.more (by omega)) ht (by show 1 ≤ 1 + d8; omega) (by show (1 + d8).natAbs < 2 ^ 120; omega)⟩
      · have kd10 : ¬ kd < 10 := fun z => c3 (decide_eq_true z)
        refine ⟨_, rfl, .inl ⟨rfl, _, SqL.of l6⟩, (by show 1 ≤ sizeLine; decide), fun t1 ht1 => ⟨(by show 1 ≤ sizeLine; decide), fun t2 ht2 => ⟨(by show 2 ≤ sizeLine; decide), fun q2 hq2 => ?_⟩⟩⟩
        have s1' : Same H6 (upd H6 t1 (.tup [.str "home"])) := same_upd (Same.refl _) ht1
        have s2' := s1'.trans (same_upd (Same.refl _) ht2 (o := .tup [.str "end"]))
        have s3' := s2'.trans (same_upd (Same.refl _) hq2 (o := .tup [.ref t1, .ref t2]))
        have h1e : upd (upd (upd H6 t1 (.tup [.str "home"])) t2 (.tup [.str "end"])) q2 (.tup [.ref t1, .ref t2]) t1 = some (.tup [.str "home"]) := (same_upd (same_upd (Same.refl _) ht2) hq2) _ _ upd_same
        have h2e : upd (upd (upd H6 t1 (.tup [.str "home"])) t2 (.tup [.str "end"])) q2 (.tup [.ref t1, .ref t2]) t2 = some (.tup [.str "end"]) := (same_upd (Same.refl _) hq2) _ _ upd_same
        have hqe : upd (upd (upd H6 t1 (.tup [.str "home"])) t2 (.tup [.str "end"])) q2 (.tup [.ref t1, .ref t2]) q2 = some (.tup [.ref t1, .ref t2]) := upd_same
        generalize upd (upd (upd H6 t1 (.tup [.str "home"])) t2 (.tup [.str "end"])) q2 (.tup [.ref t1, .ref t2]) = H7 at s3' h1e h2e hqe ⊢
        have k27 : Keep b g H2 H7 := k26.trans (Keep.of s3')
        have B7 := B6.same s3'
        have l7 := s3' _ _ l6
        have fin : ∀ (t : Addr) (c : Cmd), c.ok → CSml c → H7 t = some (.tup (encC c)) → t ≠ l → MI K H b g l n (i + 1) (upd H7 l (.lst (xs ++ [.ref t]))) (xs ++ [.ref t]) (cs ++ [c]) := fun t c ok sm ht tl => by
          refine ⟨fun x o n1 n2 hx => ?_, ?_, upd_same, Paired.snocB ((a4.keepB k27 a2).lput l7) ⟨t, rfl, SqT.of ?_⟩, ?_, ?_, ?_⟩
          · rw [upd_ne (ne_of_none hx hl)]
            exact k27 _ _ n1 n2 (a1 _ _ n1 n2 hx)
          · obtain ⟨gs, lf, tn, bl, g1, g2, g3, g4, g5, g6⟩ := B7
            exact ⟨gs, lf, tn, bl, by rw [upd_ne lb.symm]; exact g1, by rw [upd_ne lg.symm]; exact g2, g3, g4, by omega, g6⟩
          · rw [upd_ne tl]
            exact ht
          · intro d hd
            rcases List.mem_append.mp hd with q | q
            · exact a5 d q
            · rw [List.mem_singleton.mp q]
              exact ok
          · rw [List.length_append, List.length_singleton]
            omega
          · intro d hd
            rcases List.mem_append.mp hd with q | q
            · exact a7 d q
            · rw [List.mem_singleton.mp q]
              exact sm
        have t1l : t1 ≠ l := (ne_of_none l6 ht1).symm
        have t2l : t2 ≠ l := (ne_of_none (s1' _ _ l6) ht2).symm
        rcases (show kd - 10 = 0 ∨ kd - 10 = 1 by omega) with e0 | e0
        · refine ⟨_, rfl, _, _, rfl, rfl, q2, _, _, _, rfl, rfl, SqT.of hqe, (by rw [e0]; rfl), ?_⟩
          refine ⟨l, _, _, rfl, rfl, l7, small_n xl, ?_⟩
          exact ⟨_, _, _, _, _, rfl, fin t1 .home trivial trivial h1e t1l⟩
        · refine ⟨_, rfl, _, _, rfl, rfl, q2, _, _, _, rfl, rfl, SqT.of hqe, (by rw [e0]; rfl), ?_⟩
          refine ⟨l, _, _, rfl, rfl, l7, small_n xl, ?_⟩
          exact ⟨_, _, _, _, _, rfl, fin t2 .stop trivial trivial h2e t2l⟩
    · obtain ⟨v4, v5, v6, xs, cs, rfl, a1, a2, a3, a4, a5, a6, a7⟩ := h
      exact ⟨_, rfl, k _ l xs cs a1 (a2.more (by omega)) hl a3 a4 a5 a7 (by omega)⟩
end
end Gc

/-! the law's own running; the commands that stay in the text -/
namespace Gc
open PySem L2
abbrev s_end : Stmt := top 42
abbrev s_kept : Stmt := top 9999
theorem atI_t {u v : V} {b : Bool} (h : b = true) : atI [u, v] (if b = true then (1 : Int) else 0) = some v := by
  subst h
  rfl
theorem atI_f {u v : V} {b : Bool} (h : b = false) : atI [u, v] (if b = true then (1 : Int) else 0) = some u := by
  subst h
  rfl
def spEnd (K : PySem.W.Frag) : Sp := fun vs H Q _ => ∃ (t b l : Addr) (T : List Int) (r : Int) (a : Option Int) (xs : List V) (cs : List Cmd), vs = [.ref t, .ref b, .ref l] ∧ SqL K H t (T.map V.int) ∧ SqT K H b [.int r, optV a] ∧ SqL K H l xs ∧ CmdsOf K H xs cs ∧ (∀ c ∈ cs, CSml c) ∧ 0 ≤ r ∧ r < T.length ∧
  (afterL T r a cs = none → ∀ H', Same H H' → Q .non H') ∧ ∀ r' a', afterL T r a cs = some (r', a') → ∀ (H' : Hp) (p : Addr), Same H H' → H p = none → H' p = some (.tup [.int r', optV a']) → Q (.ref p) H'
def spKept (K : PySem.W.Frag) : Sp := fun vs H Q _ => ∃ (spot many : Int) (l : Addr) (xs : List V) (cs : List Cmd), vs = [.int spot, .int many, .ref l] ∧ SqL K H l xs ∧ CmdsOf K H xs cs ∧ AllOk cs ∧ (∀ c ∈ cs, CSml c) ∧ cs.length ≤ 100 ∧ 0 ≤ spot ∧ spot < many ∧
  ∀ (H' : Hp) (p : Addr) (ys : List V) (ds : List Cmd), Same H H' → H p = none → H' p = some (.lst ys) → CmdsOf K H' ys ds → AllOk ds → (∀ c ∈ ds, CSml c) → ds.length ≤ cs.length → Within ds (-spot) (many - 1 - spot) → Q (.ref p) H'
theorem Within.snoc {cs : List Cmd} {c : Cmd} {lo hi : Int} (h : Within cs lo hi) (h0 : lo ≤ last cs + c.dv) (h1 : last cs + c.dv ≤ hi) : Within (cs ++ [c]) lo hi := fun i => by
  by_cases l : i ≤ cs.length
  · rw [List.take_append_of_le_length l]
    exact h i
  · rw [List.take_of_length_le (by rw [List.length_append, List.length_singleton]; omega), last_snoc]
    exact ⟨h0, h1⟩
section
variable {P : Program} {w : World} {K : PySem.W.Frag} {mg : Str → Option Value} {base : Heap}
theorem sc_law_end : FnScope ["page", "start", "moves", "spot", "aim", "command", "seen"] ["page", "start", "moves"] (defScope s_end) := ⟨rfl, rfl, rfl, by decide +kernel, rfl, by decide +kernel, by decide +kernel⟩
theorem ok_end {f : Addr} {fd : FuncData} (F : Fun K "_law_end" "_law_end" s_end f fd) (T : TxtC mg) : FnOk P w K mg base CX0 1 f fd ["page", "start", "moves"] (spEnd K) := by
  refine F.ok sc_law_end (fun vs H Q E h => ?_) (fun cdv A outer s H vs Q E hr h => ?_)
  · obtain ⟨t, b, l, T, r, a, xs, cs, rfl, _⟩ := h
    rfl
  · obtain ⟨t, b, l, tx, r, a, xs, cs, rfl, ht, hb, hl, hcs, sm, r0, r1, kn, ks⟩ := h
    refine ⟨_, (pss_cons (ps_asg (pv 1) (pg_tup rfl (pgs_cons (pg_name (i := 3) sc_law_end.nd rfl (Or.inl rfl)) (pgs_cons (pg_name (i := 4) sc_law_end.nd rfl (Or.inl rfl)) pgs_nil))))
      (pss_cons (ps_for PassesOwn.never rfl (pi_list (pv 2)) (pg_name (i := 5) sc_law_end.nd rfl (Or.inl rfl)) (pss_one (ps_if (pt_cmpR op_in_seq (pe_ix ix_tup (pv 5) pe_int (fun _ _ => rfl)) (pe_tup (pa_cons pe_str (pa_cons pe_str pa_nil))) (by rfl)) (pss_cons (ps_aug (i := 3) sc_law_end.nd rfl (Or.inl rfl) (pe_op op_mulW (pe_ix ix_tup (pe_tup (pa_cons pe_int (pa_cons (pe_un un_neg pe_int) pa_nil))) (pe_callTy call_int1 (by rfl) T.int (by decide +kernel) (pa_cons (pe_cmpR op_eq (pe_ix ix_tup (pv 5) pe_int (fun _ _ => rfl)) pe_str (nomark _)) pa_nil)) (fun _ _ => rfl)) (pe_ix ix_tup (pv 5) pe_int (fun _ _ => rfl))) ip_add)
      (pss_one (ps_if (pt_not (pt_chain op_le op_lt pe_int (pv 3) (pe_callB call_len_seq (by rfl) T.len (by decide +kernel) (pa_cons (pv 0) pa_nil)))) (pss_one (ps_ret pe_non)) pss_nil))) (pss_one (ps_if (pt_cmpR op_eq (pe_ix ix_tup (pv 5) pe_int (fun _ _ => rfl)) pe_str (nomark _)) (pss_one (ps_set (i := 4) sc_law_end.nd rfl (Or.inl rfl) pe_int)) (pss_one (ps_if (pt_cmpR op_eq (pe_ix ix_tup (pv 5) pe_int (fun _ _ => rfl)) pe_str (nomark _)) (pss_one (ps_set (i := 4) sc_law_end.nd rfl (Or.inl rfl) pe_non)) (pss_cons (ps_set (i := 6) sc_law_end.nd rfl (Or.inl rfl) (pe_ix ix_list (pv 0) (pv 3) (fun _ _ => rfl)))
      (C8.pss_cut (ps_if (pt_cmpR op_notN (pv 4) pe_non (nomark _)) (pss_one (ps_set (i := 6) sc_law_end.nd rfl (Or.inl rfl) (pe_callB (call_min2 rfl) (by rfl) T.min (by decide +kernel) (pa_cons (pv 4) (pa_cons (pv 6) pa_nil))))) pss_nil)
      (pss_cons (ps_set (i := 4) sc_law_end.nd rfl (Or.inl rfl) (pe_callB (call_max2 rfl) (by rfl) T.max (by decide +kernel) (pa_cons pe_int (pa_cons (pe_op op_sub (pv 6) (pe_ix ix_tup (pv 5) pe_int (fun _ _ => rfl))) pa_nil))))
      (pss_one (ps_if (pt_cmpR op_eq (pe_ix ix_tup (pv 5) pe_int (fun _ _ => rfl)) pe_str (nomark _)) (pss_one (ps_set (i := 4) sc_law_end.nd rfl (Or.inl rfl) (pe_callB (call_min2 rfl) (by rfl) T.min (by decide +kernel) (pa_cons (pe_op op_add (pv 6) (pe_ix ix_tup (pv 5) pe_int (fun _ _ => rfl))) (pa_cons (pe_ix ix_list (pv 0) (pv 3) (fun _ _ => rfl)) pa_nil))))) pss_nil))))))))))))
      (pss_one (ps_ret (pe_tup (pa_cons (pv 3) (pa_cons (pv 4) pa_nil))))))), ?_⟩
    refine ⟨_, rfl, b, _, rfl, hb, rfl, _, _, rfl, _, _, rfl, rfl, ?_⟩
    refine ⟨_, rfl, l, rfl, ⟨_, hl⟩, for_list (K := K) (a := l) (xs := xs) (fun i σ H' => ∃ (r' : Int) (a' : Option Int) (v5 v6 : Option V), σ = [some (.ref t), some (.ref b), some (.ref l), some (.int r'), some (optV a'), v5, v6] ∧ Same H H' ∧
        0 ≤ r' ∧ r' < tx.length ∧ afterL tx r a cs = afterL tx r' a' (cs.drop i))
      ⟨r, a, none, none, rfl, Same.refl H, r0, r1, rfl⟩ (fun i σ H' _ ⟨_, _, _, _, _, e, _⟩ => e.seq hl) (fun i y σ H2 hi h => ?_) (fun σ H2 h => ?_)⟩
    · obtain ⟨r', a', v5, v6, rfl, e2, q0, q1, hgo⟩ := h
      obtain ⟨c, hc, q, rfl, hq0⟩ := paired_at hcs hi
      have hq := seq_t e2 hq0
      have htx := e2.seq ht
      have hdrop : cs.drop i = c :: cs.drop (i + 1) := by
        obtain ⟨h1, h2⟩ := List.getElem?_eq_some_iff.mp hc
        rw [List.drop_eq_getElem_cons h1, h2]
      rw [hdrop, afterL_cons q0 q1] at hgo
      have smc := sm c (List.mem_of_getElem? hc)
      have al := at_len' q0 q1
      have hin : ∀ r2 a2, step1 tx r' a' c = some (r2, a2) → afterL tx r a cs = afterL tx r2 a2 (cs.drop (i + 1)) := fun r2 a2 z => by
        rw [hgo, z]
        rfl
      have hout : step1 tx r' a' c = none → afterL tx r a cs = none := fun z => by
        rw [hgo, z]
        rfl
      have flat : c.dv = 0 → step1 tx r' a' c = some (r', aim1 (lenAt tx r') a' c) := fun z => by
        unfold step1
        rw [z, Int.add_zero, if_pos ⟨q0, q1⟩]
      cases c with
      | down n =>
        refine ⟨_, rfl, q, _, 0, _, rfl, rfl, hq, rfl, (by show 2 ≤ sizeLine; decide), fun p1 hp1 => ?_⟩
        have m1 := same_upd (Same.refl H2) hp1 (o := .tup [.str "down", .str "up"])
        refine ⟨p1, _, rfl, .inr (SqT.of upd_same), rfl, rfl, true, by decide +kernel, iteT ?_⟩
        refine ⟨_, rfl, _, rfl, (by show 2 ≤ sizeLine; decide), fun p2 hp2 => ?_⟩
        have m2 := same_upd m1 hp2 (o := .tup [.int 1, .int (-1)])
        have nb : n.natAbs < 2 ^ 120 := smc
        refine ⟨_, rfl, q, _, 0, _, rfl, rfl, seq_t m2 hq, rfl, rfl, .inr ⟨_, rfl, p2, _, _, _, rfl, rfl, SqT.of upd_same, atI_f (by decide +kernel), _, rfl, q, _, 1, _, rfl, rfl, seq_t m2 hq, rfl, _, _, rfl, rfl, wide_mul (a := 61) (b := 120) (by decide) nb (by decide) (by decide) (by decide), _, _, rfl, rfl, ?_⟩⟩
        rw [show (1 : Int) * n = n from Int.one_mul n]
        refine ⟨_, rfl, _, _, rfl, rfl, _, rfl, ite2 (fun c0 => ?_) (fun c0 => ?_)⟩
        · have c0' : 0 ≤ r' + (n) := of_decide_eq_true c0
          refine ⟨_, rfl, t, _, rfl, .inl (m2.seq htx), _, _, rfl, rfl, _, rfl, ?_⟩
          by_cases c1 : r' + (n) < tx.length
          · refine iteN1 (by rw [List.length_map]; exact c1) ?_
            exact ⟨r' + (n), a', _, _, rfl, e2.trans m2, c0', c1, hin _ _ (by unfold step1; rw [if_pos (show 0 ≤ r' + (Cmd.down n).dv ∧ r' + (Cmd.down n).dv < tx.length from ⟨c0', c1⟩)]; rfl)⟩
          · refine iteN0 (by rw [List.length_map]; exact c1) ?_
            exact kn (hout (by unfold step1; rw [if_neg (show ¬ (0 ≤ r' + (Cmd.down n).dv ∧ r' + (Cmd.down n).dv < tx.length) from fun z => c1 z.2)])) _ (e2.trans m2)
        · refine ⟨_, rfl, ?_⟩
          refine iteT (B := _) ?_
          exact kn (hout (by unfold step1; rw [if_neg (show ¬ (0 ≤ r' + (Cmd.down n).dv ∧ r' + (Cmd.down n).dv < tx.length) from fun z => c0 (decide_eq_true z.1))])) _ (e2.trans m2)
      | up n =>
        refine ⟨_, rfl, q, _, 0, _, rfl, rfl, hq, rfl, (by show 2 ≤ sizeLine; decide), fun p1 hp1 => ?_⟩
        have m1 := same_upd (Same.refl H2) hp1 (o := .tup [.str "down", .str "up"])
        refine ⟨p1, _, rfl, .inr (SqT.of upd_same), rfl, rfl, true, by decide +kernel, iteT ?_⟩
        refine ⟨_, rfl, _, rfl, (by show 2 ≤ sizeLine; decide), fun p2 hp2 => ?_⟩
        have m2 := same_upd m1 hp2 (o := .tup [.int 1, .int (-1)])
        have nb : n.natAbs < 2 ^ 120 := smc
        refine ⟨_, rfl, q, _, 0, _, rfl, rfl, seq_t m2 hq, rfl, rfl, .inr ⟨_, rfl, p2, _, _, _, rfl, rfl, SqT.of upd_same, atI_t (by decide +kernel), _, rfl, q, _, 1, _, rfl, rfl, seq_t m2 hq, rfl, _, _, rfl, rfl, wide_mul (a := 61) (b := 120) (by decide) nb (by decide) (by decide) (by decide), _, _, rfl, rfl, ?_⟩⟩
        rw [show (-1 : Int) * n = -n by omega]
        refine ⟨_, rfl, _, _, rfl, rfl, _, rfl, ite2 (fun c0 => ?_) (fun c0 => ?_)⟩
        · have c0' : 0 ≤ r' + (-n) := of_decide_eq_true c0
          refine ⟨_, rfl, t, _, rfl, .inl (m2.seq htx), _, _, rfl, rfl, _, rfl, ?_⟩
          by_cases c1 : r' + (-n) < tx.length
          · refine iteN1 (by rw [List.length_map]; exact c1) ?_
            exact ⟨r' + (-n), a', _, _, rfl, e2.trans m2, c0', c1, hin _ _ (by unfold step1; rw [if_pos (show 0 ≤ r' + (Cmd.up n).dv ∧ r' + (Cmd.up n).dv < tx.length from ⟨c0', c1⟩)]; rfl)⟩
          · refine iteN0 (by rw [List.length_map]; exact c1) ?_
            exact kn (hout (by unfold step1; rw [if_neg (show ¬ (0 ≤ r' + (Cmd.up n).dv ∧ r' + (Cmd.up n).dv < tx.length) from fun z => c1 z.2)])) _ (e2.trans m2)
        · refine ⟨_, rfl, ?_⟩
          refine iteT (B := _) ?_
          exact kn (hout (by unfold step1; rw [if_neg (show ¬ (0 ≤ r' + (Cmd.up n).dv ∧ r' + (Cmd.up n).dv < tx.length) from fun z => c0 (decide_eq_true z.1))])) _ (e2.trans m2)
      | home =>
        refine ⟨_, rfl, q, _, 0, _, rfl, rfl, hq, rfl, (by show 2 ≤ sizeLine; decide), fun p1 hp1 => ?_⟩
        have m1 := same_upd (Same.refl H2) hp1 (o := .tup [.str "down", .str "up"])
        refine ⟨p1, _, rfl, .inr (SqT.of upd_same), rfl, rfl, false, by decide +kernel, iteF ?_⟩
        refine ⟨_, rfl, q, _, 0, _, rfl, rfl, seq_t m1 hq, rfl, rfl, true, by decide +kernel, iteT ?_⟩
        exact ⟨r', some 0, _, _, rfl, e2.trans m1, q0, q1, hin _ _ (flat rfl)⟩
      | stop =>
        refine ⟨_, rfl, q, _, 0, _, rfl, rfl, hq, rfl, (by show 2 ≤ sizeLine; decide), fun p1 hp1 => ?_⟩
        have m1 := same_upd (Same.refl H2) hp1 (o := .tup [.str "down", .str "up"])
        refine ⟨p1, _, rfl, .inr (SqT.of upd_same), rfl, rfl, false, by decide +kernel, iteF ?_⟩
        refine ⟨_, rfl, q, _, 0, _, rfl, rfl, seq_t m1 hq, rfl, rfl, false, by decide +kernel, iteF ?_⟩
        refine ⟨_, rfl, q, _, 0, _, rfl, rfl, seq_t m1 hq, rfl, rfl, true, by decide +kernel, iteT ?_⟩
        exact ⟨r', none, _, _, rfl, e2.trans m1, q0, q1, hin _ _ (flat rfl)⟩
      | left n =>
        refine ⟨_, rfl, q, _, 0, _, rfl, rfl, hq, rfl, (by show 2 ≤ sizeLine; decide), fun p1 hp1 => ?_⟩
        have m1 := same_upd (Same.refl H2) hp1 (o := .tup [.str "down", .str "up"])
        refine ⟨p1, _, rfl, .inr (SqT.of upd_same), rfl, rfl, false, by decide +kernel, iteF ?_⟩
        refine ⟨_, rfl, q, _, 0, _, rfl, rfl, seq_t m1 hq, rfl, rfl, false, by decide +kernel, iteF ?_⟩
        refine ⟨_, rfl, q, _, 0, _, rfl, rfl, seq_t m1 hq, rfl, rfl, false, by decide +kernel, iteF ?_⟩
        have ht1 := m1.seq htx
        have hq1 := seq_t m1 hq
        refine ⟨_, rfl, _, rfl, t, _, _, _, rfl, rfl, ht1, al, ?_⟩
        refine ⟨fun σ H' => σ = [some (.ref t), some (.ref b), some (.ref l), some (.int r'), some (optV a'), some (.ref q), some (.int (seen (lenAt tx r') a'))] ∧ Same H2 H' ∧ SqT K H' q (encC (.left n)), ?_, ?_⟩
        · cases a' with
          | none => exact ⟨_, rfl, rfl, _, rfl, iteF ⟨rfl, m1, hq1⟩⟩
          | some x =>
            refine ⟨_, rfl, rfl, _, rfl, iteT ?_⟩
            refine ⟨_, rfl, _, rfl, _, _, rfl, ?_⟩
            rw [minI]
            exact ⟨rfl, m1, hq1⟩
        · rintro σ H3 ⟨rfl, e3, hq3⟩
          refine ⟨_, rfl, _, rfl, q, _, 1, _, rfl, rfl, hq3, rfl, _, _, rfl, rfl, _, _, rfl, ?_⟩
          rw [maxI]
          refine ⟨_, rfl, q, _, 0, _, rfl, rfl, hq3, rfl, rfl, false, by decide +kernel, iteF ?_⟩
          exact ⟨r', _, _, _, rfl, e2.trans e3, q0, q1, hin _ _ (flat rfl)⟩
      | right n =>
        refine ⟨_, rfl, q, _, 0, _, rfl, rfl, hq, rfl, (by show 2 ≤ sizeLine; decide), fun p1 hp1 => ?_⟩
        have m1 := same_upd (Same.refl H2) hp1 (o := .tup [.str "down", .str "up"])
        refine ⟨p1, _, rfl, .inr (SqT.of upd_same), rfl, rfl, false, by decide +kernel, iteF ?_⟩
        refine ⟨_, rfl, q, _, 0, _, rfl, rfl, seq_t m1 hq, rfl, rfl, false, by decide +kernel, iteF ?_⟩
        refine ⟨_, rfl, q, _, 0, _, rfl, rfl, seq_t m1 hq, rfl, rfl, false, by decide +kernel, iteF ?_⟩
        have ht1 := m1.seq htx
        have hq1 := seq_t m1 hq
        refine ⟨_, rfl, _, rfl, t, _, _, _, rfl, rfl, ht1, al, ?_⟩
        refine ⟨fun σ H' => σ = [some (.ref t), some (.ref b), some (.ref l), some (.int r'), some (optV a'), some (.ref q), some (.int (seen (lenAt tx r') a'))] ∧ Same H2 H' ∧ SqT K H' q (encC (.right n)), ?_, ?_⟩
        · cases a' with
          | none => exact ⟨_, rfl, rfl, _, rfl, iteF ⟨rfl, m1, hq1⟩⟩
          | some x =>
            refine ⟨_, rfl, rfl, _, rfl, iteT ?_⟩
            refine ⟨_, rfl, _, rfl, _, _, rfl, ?_⟩
            rw [minI]
            exact ⟨rfl, m1, hq1⟩
        · rintro σ H3 ⟨rfl, e3, hq3⟩
          refine ⟨_, rfl, _, rfl, q, _, 1, _, rfl, rfl, hq3, rfl, _, _, rfl, rfl, _, _, rfl, ?_⟩
          refine ⟨_, rfl, q, _, 0, _, rfl, rfl, hq3, rfl, rfl, true, by decide +kernel, iteT ?_⟩
          refine ⟨_, rfl, _, rfl, q, _, 1, _, rfl, rfl, hq3, rfl, _, _, rfl, rfl, _, rfl, _, rfl, t, _, _, _, rfl, rfl, (e2.trans e3).seq ht, al, _, _, rfl, ?_⟩
          rw [minI]
          exact ⟨r', _, _, _, rfl, e2.trans e3, q0, q1, hin _ _ (flat rfl)⟩
    · obtain ⟨r', a', v5, v6, rfl, e2, q0, q1, hgo⟩ := h
      rw [hcs.len, List.drop_length] at hgo
      refine ⟨_, rfl, _, rfl, (by show 2 ≤ sizeLine; decide), fun p hp => ?_⟩
      exact ks r' a' hgo _ p (same_upd e2 hp) (e2.free hp) upd_same
end
end Gc

/-! the law's own look at commands -/
namespace Gc
open PySem L2
abbrev s_badc : Stmt := top 44
abbrev s_foff : Stmt := top 45
def optN : Option Nat → V
  | none => .non
  | some i => .int i
def spBadc (K : PySem.W.Frag) : Sp := fun vs H Q _ => ∃ (l : Addr) (xs : List V) (rs : List Raw), vs = [.ref l] ∧ SqL K H l xs ∧ RawsOf K H xs rs ∧ rs.length ≤ 1000 ∧ ∀ H', Same H H' → Q (optN (badAt rs)) H'
def spFoff (K : PySem.W.Frag) : Sp := fun vs H Q _ => ∃ (t l : Addr) (T : List Int) (r : Int) (xs : List V) (cs : List Cmd), vs = [.ref t, .int r, .ref l] ∧ SqL K H t (T.map V.int) ∧ SqL K H l xs ∧ CmdsOf K H xs cs ∧ (∀ c ∈ cs, CSml c) ∧ cs.length ≤ 1000 ∧ 0 ≤ r ∧ r < T.length ∧
  ∀ H', Same H H' → Q (optN (offAt T.length r cs)) H'
def withM : List V := [.str "down", .str "up", .str "left", .str "right"]
theorem inM {n : Str} : inV (.str n) withM = inV (.str n) withN := by
  simp only [inV, withM, withN, List.any_cons, List.any_nil, Bool.or_false]
  rw [Bool.or_comm (eqV (.str "left") (.str n))]
theorem cut_lo' {xs : List V} {n : Nat} (h : n ≤ xs.length) : cutV xs none (some (n : Int)) = xs.take n := by
  unfold cutV
  rw [HT.sIx_none, HT.sIx_nat, Nat.min_eq_left h, List.drop_zero, Nat.sub_zero]
theorem pairs_take {α β : Type} {F : α → β → Prop} : ∀ {xs : List α} {ys : List β} (n : Nat), Paired F xs ys → Paired F (xs.take n) (ys.take n)
  | _, _, 0, _ => .nil
  | _, _, _ + 1, .nil => .nil
  | _, _, n + 1, .cons f t => .cons f (pairs_take n t)
theorem CmdsOf.take' {K : PySem.W.Frag} {H : Hp} {xs : List V} {cs : List Cmd} (n : Nat) (h : CmdsOf K H xs cs) : CmdsOf K H (xs.take n) (cs.take n) := pairs_take n h
theorem two_not_four {n : Str} (h : inV (.str n) withoutN = true) : inV (.str n) withN = false := by
  rcases in_two h with e | e <;> subst e <;> decide +kernel
theorem afterL_some {T : List Int} : ∀ {cs : List Cmd} {r : Int} {g : Option Int} {q : Int × Option Int}, 0 ≤ r → r < T.length → afterL T r g cs = some q → 0 ≤ r + last cs ∧ r + last cs < T.length
  | [], r, g, q, h0, h1, h => by
    show 0 ≤ r + 0 ∧ r + 0 < T.length
    omega
  | c :: cs, r, g, q, h0, h1, h => by
    rw [afterL_cons h0 h1] at h
    obtain ⟨⟨r2, g2⟩, hst, hrest⟩ := Option.bind_eq_some_iff.mp h
    have hin := step1_in hst
    have er : r2 = r + c.dv := by
      unfold step1 at hst
      split at hst
      · cases hst
        rfl
      · cases hst
    have := afterL_some hin.1 hin.2 hrest
    have e : last (c :: cs) = c.dv + last cs := rfl
    rw [e]
    rw [er] at this
    omega
section
variable {P : Program} {w : World} {K : PySem.W.Frag} {mg : Str → Option Value} {base : Heap}
theorem sc_law_bad_command : FnScope ["moves", "place", "command", "good"] ["moves"] (defScope s_badc) := ⟨rfl, rfl, rfl, by decide +kernel, rfl, by decide +kernel, by decide +kernel⟩
theorem ok_badc {f : Addr} {fd : FuncData} (F : Fun K "_law_bad_command" "_law_bad_command" s_badc f fd) (T : TxtC mg) : FnOk P w K mg base CX0 1 f fd ["moves"] (spBadc K) := by
  refine F.ok sc_law_bad_command (fun vs H Q E h => ?_) (fun cdv A outer s H vs Q E hr h => ?_)
  · obtain ⟨l, xs, rs, rfl, _⟩ := h
    rfl
  · obtain ⟨l, xs, rs, rfl, hl, hrs, ln, k⟩ := h
    have lx := Paired.length hrs
    refine ⟨_, (pss_cons (ps_for PassesOwn.never rfl (pi_range1 rfl T.range (pa_cons (pe_callB call_len_seq (by rfl) T.len (by decide +kernel) (pa_cons (pv 0) pa_nil)) pa_nil)) (pg_name (i := 1) sc_law_bad_command.nd rfl (Or.inl rfl)) (pss_cons (ps_set (i := 2) sc_law_bad_command.nd rfl (Or.inl rfl) (pe_ix ix_list (pv 0) (pv 1) (fun _ _ => rfl)))
      (C8.pss_cut (ps_if (pt_cmpR op_eq (pe_callB call_len_seq (by rfl) T.len (by decide +kernel) (pa_cons (pv 2) pa_nil)) pe_int (nomark _)) (pss_one (ps_set (i := 3) sc_law_bad_command.nd rfl (Or.inl rfl) pe_bl)) (pss_one (ps_if (pt_cmpR op_in_seq (pe_ix ix_tup (pv 2) pe_int (fun _ _ => rfl)) (pe_tup (pa_cons pe_str (pa_cons pe_str pa_nil))) (by rfl)) (pss_one (ps_set (i := 3) sc_law_bad_command.nd rfl (Or.inl rfl) (pe_cmpR op_eq (pe_callB call_len_seq (by rfl) T.len (by decide +kernel) (pa_cons (pv 2) pa_nil)) pe_int (nomark _)))) (pss_one (ps_set (i := 3) sc_law_bad_command.nd rfl (Or.inl rfl) (pe_and (pe_cmpR op_in_seq (pe_ix ix_tup (pv 2) pe_int (fun _ _ => rfl)) (pe_tup (pa_cons pe_str (pa_cons pe_str (pa_cons pe_str (pa_cons pe_str pa_nil))))) (by rfl)) (pe_and (pe_cmpR op_eq (pe_callB call_len_seq (by rfl) T.len (by decide +kernel) (pa_cons (pv 2) pa_nil)) pe_int (nomark _)) (pe_one (pe_cmpR op_gt (pe_ix ix_tup (pv 2) pe_int (fun _ _ => rfl)) pe_int (nomark _))))))))))
      (pss_one (ps_if (pt_not (pt_val (pv 3))) (pss_one (ps_ret (pv 1))) pss_nil)))))
      (pss_one (ps_ret pe_non))), ?_⟩
    refine ⟨_, rfl, l, _, rfl, .inl hl, _, rfl, ?_, ?_, ?_⟩
    · omega
    · omega
    refine for_range (lo := 0) (fun i σ H' => ∃ v2 v3 v4 : Option V, σ = [some (.ref l), v2, v3, v4] ∧ Same H H' ∧ ∀ j r, j < i → rs[j]? = some r → r.good = true) ⟨none, none, none, rfl, Same.refl H, fun j r h => absurd h (Nat.not_lt_zero _)⟩ (fun i σ H2 hi h => ?_) (fun σ H2 h => ?_)
    · obtain ⟨v2, v3, v4, rfl, e2, gd⟩ := h
      have hi' : i < xs.length := by omega
      obtain ⟨r, hr1, a, hy, ha0⟩ := paired_at hrs (List.getElem?_eq_getElem hi')
      have ha := seq_t e2 ha0
      have item : xs[i]? = some (.ref a) := by rw [List.getElem?_eq_getElem hi', hy]
      refine ⟨_, rfl, _, rfl, l, _, _, _, rfl, rfl, e2.seq hl, at_of (j := i) (Int.zero_add _) item, ?_⟩
      refine ⟨fun σ H' => σ = [some (.ref l), some (.int (0 + (i : Int))), some (.ref a), some (.bl r.good)] ∧ Same H H', ?_, ?_⟩
      · cases r with
        | nil => exact ⟨_, rfl, a, _, rfl, .inr ha, rfl, _, rfl, iteT ⟨rfl, e2⟩⟩
        | one n =>
          refine ⟨_, rfl, a, _, rfl, .inr ha, rfl, _, rfl, iteF ?_⟩
          refine ⟨_, rfl, a, _, 0, _, rfl, rfl, ha, rfl, (by show 2 ≤ sizeLine; decide), fun p1 hp1 => ?_⟩
          have m1 := same_upd e2 hp1 (o := .tup [.str "home", .str "end"])
          refine ⟨p1, _, rfl, .inr (SqT.of upd_same), rfl, rfl, inV (.str n) withoutN, rfl, ?_⟩
          cases hb : inV (.str n) withoutN with
          | true =>
            refine iteT ⟨_, rfl, a, _, rfl, .inr (seq_t m1 ha0), rfl, ?_, m1⟩
            have e : Raw.good (.one n) = true := hb
            rw [e]
            rfl
          | false =>
            refine iteF ?_
            refine ⟨_, rfl, a, _, 0, _, rfl, rfl, seq_t m1 ha0, rfl, (by show 4 ≤ sizeLine; decide), fun p2 hp2 => ?_⟩
            have m2 := same_upd m1 hp2 (o := .tup withM)
            refine ⟨p2, _, rfl, .inr (SqT.of upd_same), rfl, rfl, inV (.str n) withM, rfl, ?_⟩
            cases hc0 : inV (.str n) withM with
            | true =>
              have hc := inM.symm.trans hc0
              refine iteT ⟨_, rfl, a, _, rfl, .inr (seq_t m2 ha0), rfl, _, rfl, iteF ⟨by rw [show Raw.good (.one n) = false from hb]; rfl, m2⟩⟩
            | false =>
              have hc := inM.symm.trans hc0
              refine iteF ⟨?_, m2⟩
              have e : Raw.good (.one n) = false := hb
              rw [e]
              rfl
        | two n k =>
          refine ⟨_, rfl, a, _, rfl, .inr ha, rfl, _, rfl, iteF ?_⟩
          refine ⟨_, rfl, a, _, 0, _, rfl, rfl, ha, rfl, (by show 2 ≤ sizeLine; decide), fun p1 hp1 => ?_⟩
          have m1 := same_upd e2 hp1 (o := .tup [.str "home", .str "end"])
          refine ⟨p1, _, rfl, .inr (SqT.of upd_same), rfl, rfl, inV (.str n) withoutN, rfl, ?_⟩
          cases hb : inV (.str n) withoutN with
          | true =>
            refine iteT ⟨_, rfl, a, _, rfl, .inr (seq_t m1 ha0), rfl, ?_, m1⟩
            have e : Raw.good (.two n k) = false := by show (inV (.str n) withN && decide (1 ≤ k)) = false; rw [two_not_four hb]; rfl
            rw [e]
            rfl
          | false =>
            refine iteF ?_
            refine ⟨_, rfl, a, _, 0, _, rfl, rfl, seq_t m1 ha0, rfl, (by show 4 ≤ sizeLine; decide), fun p2 hp2 => ?_⟩
            have m2 := same_upd m1 hp2 (o := .tup withM)
            refine ⟨p2, _, rfl, .inr (SqT.of upd_same), rfl, rfl, inV (.str n) withM, rfl, ?_⟩
            cases hc0 : inV (.str n) withM with
            | true =>
              have hc := inM.symm.trans hc0
              refine iteT ⟨_, rfl, a, _, rfl, .inr (seq_t m2 ha0), rfl, _, rfl, iteT ⟨_, rfl, a, _, 1, _, rfl, rfl, seq_t m2 ha0, rfl, _, _, rfl, rfl, by rw [show Raw.good (.two n k) = decide (k > 0) by show (inV (.str n) withN && decide (1 ≤ k)) = _; rw [hc, Bool.true_and]; exact decide_eq_decide.mpr (by omega)]; rfl, m2⟩⟩
            | false =>
              have hc := inM.symm.trans hc0
              refine iteF ⟨?_, m2⟩
              have e : Raw.good (.two n k) = false := by show (inV (.str n) withN && decide (1 ≤ k)) = false; rw [hc]; rfl
              rw [e]
              rfl
        | three n k j =>
          refine ⟨_, rfl, a, _, rfl, .inr ha, rfl, _, rfl, iteF ?_⟩
          refine ⟨_, rfl, a, _, 0, _, rfl, rfl, ha, rfl, (by show 2 ≤ sizeLine; decide), fun p1 hp1 => ?_⟩
          have m1 := same_upd e2 hp1 (o := .tup [.str "home", .str "end"])
          refine ⟨p1, _, rfl, .inr (SqT.of upd_same), rfl, rfl, inV (.str n) withoutN, rfl, ?_⟩
          cases hb : inV (.str n) withoutN with
          | true =>
            refine iteT ⟨_, rfl, a, _, rfl, .inr (seq_t m1 ha0), rfl, ?_, m1⟩
            have e : Raw.good (.three n k j) = false := rfl
            rw [e]
            rfl
          | false =>
            refine iteF ?_
            refine ⟨_, rfl, a, _, 0, _, rfl, rfl, seq_t m1 ha0, rfl, (by show 4 ≤ sizeLine; decide), fun p2 hp2 => ?_⟩
            have m2 := same_upd m1 hp2 (o := .tup withM)
            refine ⟨p2, _, rfl, .inr (SqT.of upd_same), rfl, rfl, inV (.str n) withM, rfl, ?_⟩
            cases hc0 : inV (.str n) withM with
            | true =>
              have hc := inM.symm.trans hc0
              refine iteT ⟨_, rfl, a, _, rfl, .inr (seq_t m2 ha0), rfl, _, rfl, iteF ⟨by rw [show Raw.good (.three n k j) = false from rfl]; rfl, m2⟩⟩
            | false =>
              have hc := inM.symm.trans hc0
              refine iteF ⟨?_, m2⟩
              have e : Raw.good (.three n k j) = false := rfl
              rw [e]
              rfl
      · rintro σ H3 ⟨rfl, e3⟩
        cases hg : r.good with
        | true =>
          refine ⟨_, rfl, _, rfl, iteF ⟨_, _, _, rfl, e3, fun j r' hj hr' => ?_⟩⟩
          by_cases z : j = i
          · rw [z, hr1] at hr'
            cases hr'
            exact hg
          · exact gd j r' (by omega) hr'
        | false =>
          refine ⟨_, rfl, _, rfl, iteT ⟨_, rfl, ?_⟩⟩
          rw [bad_at hr1 hg gd] at k
          rw [Int.zero_add]
          exact k _ e3
    · obtain ⟨v2, v3, v4, rfl, e2, gd⟩ := h
      rw [bad_none fun j r hj hr' => gd j r (by rw [Paired.length hrs]; exact hj) hr'] at k
      exact k _ e2
theorem sc_law_first_off : FnScope ["page", "spot", "moves", "place"] ["page", "spot", "moves"] (defScope s_foff) := ⟨rfl, rfl, rfl, by decide +kernel, rfl, by decide +kernel, by decide +kernel⟩
theorem ok_foff {f : Addr} {fd : FuncData} (F : Fun K "_law_first_off" "_law_first_off" s_foff f fd) (T : TxtC mg) (c_law_end : Cal P w K mg base 1 "_law_end" (spEnd K)) : FnOk P w K mg base CX0 2 f fd ["page", "spot", "moves"] (spFoff K) := by
  refine F.ok sc_law_first_off (fun vs H Q E h => ?_) (fun cdv A outer s H vs Q E hr h => ?_)
  · obtain ⟨t, l, T, r, xs, cs, rfl, _⟩ := h
    rfl
  · obtain ⟨t, l, tx, r, xs, cs, rfl, ht, hl, hcs, sm, ln, r0, r1, k⟩ := h
    refine ⟨_, (pss_cons (ps_for PassesOwn.never rfl (pi_range1 rfl T.range (pa_cons (pe_callB call_len_seq (by rfl) T.len (by decide +kernel) (pa_cons (pv 2) pa_nil)) pa_nil)) (pg_name (i := 3) sc_law_first_off.nd rfl (Or.inl rfl)) (pss_one (ps_if (pt_cmpR op_isN (pe_cal c_law_end hr (by decide) (by rfl) (pa_cons (pv 0) (pa_cons (pe_tup (pa_cons (pv 1) (pa_cons pe_int pa_nil))) (pa_cons (pe_slice sl_list (pv 2) po_none (po_some (pe_op op_add (pv 3) pe_int))) pa_nil)))) pe_non (nomark _)) (pss_one (ps_ret (pv 3))) pss_nil)))
      (pss_one (ps_ret pe_non))), ?_⟩
    have lx := hcs.len
    refine ⟨_, rfl, l, _, rfl, .inl hl, _, rfl, ?_, ?_, ?_⟩
    · omega
    · omega
    refine for_range (lo := 0) (fun i σ H' => ∃ v4 : Option V, σ = [some (.ref t), some (.int r), some (.ref l), v4] ∧ Same H H' ∧ ∀ j, j < i → 0 ≤ r + last (cs.take (j + 1)) ∧ r + last (cs.take (j + 1)) < tx.length) ⟨none, rfl, Same.refl H, fun j h => absurd h (Nat.not_lt_zero _)⟩ (fun i σ H2 hi h => ?_) (fun σ H2 h => ?_)
    · obtain ⟨v4, rfl, e2, gd⟩ := h
      have hi' : i < cs.length := by omega
      refine ⟨_, rfl, _, rfl, (by show 2 ≤ sizeLine; decide), fun p1 hp1 => ?_⟩
      have m1 := same_upd e2 hp1 (o := .tup [.int r, .int 0])
      have f1 : upd H2 p1 (.tup [.int r, .int 0]) p1 = some (.tup [.int r, .int 0]) := upd_same
      generalize upd H2 p1 (.tup [.int r, .int 0]) = H3 at *
      refine ⟨_, rfl, _, rfl, _, _, rfl, rfl, _, rfl, l, _, rfl, m1.seq hl, fun p2 hp2 => ?_⟩
      rw [Int.zero_add, show ((i : Int) + 1) = ((i + 1 : Nat) : Int) by omega, cut_lo' (by omega)]
      have m2 := same_upd m1 hp2 (o := .lst (xs.take (i + 1)))
      have f2 := same_upd (Same.refl H3) hp2 (o := .lst (xs.take (i + 1))) _ _ f1
      have hci : cs[i]? = some cs[i] := List.getElem?_eq_getElem hi'
      refine ⟨t, p1, p2, tx, r, some 0, _, cs.take (i + 1), rfl, m2.seq ht, SqT.of f2, SqL.of upd_same, (CmdsOf.take' (i + 1) hcs).same m2, (fun c hc => sm c (List.mem_of_mem_take hc)), r0, r1, (fun hn H4 e4 => ?_), fun r' a' hs H4 p4 e4 n4 f4 => ?_⟩
      · refine ⟨rfl, _, rfl, iteT ⟨_, rfl, ?_⟩⟩
        have bad : ¬ (0 ≤ r + last (cs.take (i + 1)) ∧ r + last (cs.take (i + 1)) < tx.length) := fun q => by
          have wi : Within (cs.take (i + 1)) (-r) (tx.length - 1 - r) := fun j => by
            rw [List.take_take]
            by_cases z : j = 0
            · rw [z, Nat.zero_min]
              show -r ≤ 0 ∧ 0 ≤ tx.length - 1 - r
              omega
            · by_cases z2 : j ≤ i
              · have := gd (j - 1) (by omega)
                rw [show j - 1 + 1 = j by omega] at this
                rw [Nat.min_eq_left (by omega)]
                omega
              · rw [Nat.min_eq_right (by omega)]
                omega
          have := afterL_in (T := tx) (a := some 0) wi
          rw [hn] at this
          cases this
        rw [off_at hi' bad gd] at k
        exact k _ (m2.trans e4)
      · refine ⟨rfl, _, rfl, iteF ⟨_, rfl, m2.trans e4, fun j hj => ?_⟩⟩
        by_cases z : j = i
        · rw [z]
          exact afterL_some r0 r1 hs
        · exact gd j (by omega)
    · obtain ⟨v4, rfl, e2, gd⟩ := h
      rw [off_none fun j hj => gd j (by omega)] at k
      exact k _ e2
end
end Gc

/-! the errors that the law holds to be due -/
namespace Gc
open PySem L2
abbrev s_odue : Stmt := top 46
abbrev s_cdue : Stmt := top 47
def RawSml (r : Raw) : Prop := CSml r.cmd
def spOdue (K : PySem.W.Frag) : Sp := fun vs H Q _ => ∃ (t l : Addr) (T : List Int) (row : Int) (aim : Option Int) (xs : List V) (rs : List Raw), vs = [.ref t, .int row, optV aim, .ref l] ∧ RawIn K H t l T xs rs ∧ rs.length ≤ 1000 ∧ T.length ≤ 1000 ∧ (∀ r ∈ rs, RawSml r) ∧
  ∀ H' v, Same H H' → Dp K H' v (dueD row aim (runDue T row aim rs)) → Q v H'
def spCdue (K : PySem.W.Frag) : Sp := fun vs H Q _ => ∃ (c l : Addr) (lines most row : Int) (g aim : Option Int) (xs : List V) (rs : List Raw), vs = [.int lines, .int most, .ref c, .ref l, optV aim] ∧ SqT K H c [.int row, optV g] ∧ SqL K H l xs ∧ RawsOf K H xs rs ∧ rs.length ≤ 1000 ∧
  ∀ H' v, Same H H' → Dp K H' v (cntD row g (cntDue lines most row g rs aim)) → Q v H'
@[irreducible] def zBadc (K : PySem.W.Frag) : Sp := spBadc K
theorem zBadc_eq (K : PySem.W.Frag) : zBadc K = spBadc K := by unfold zBadc; rfl
theorem ask_badc {K : PySem.W.Frag} {H : Hp} {Q : VK} {E : XK} {l : Addr} {xs : List V} {rs : List Raw} (hl : SqL K H l xs) (hr : RawsOf K H xs rs) (ln : rs.length ≤ 1000) (k : ∀ H', Same H H' → Q (optN (badAt rs)) H') : zBadc K [.ref l] H Q E := by
  rw [zBadc_eq]
  exact ⟨l, xs, rs, rfl, hl, hr, ln, k⟩
@[irreducible] def zFoff (K : PySem.W.Frag) : Sp := spFoff K
theorem zFoff_eq (K : PySem.W.Frag) : zFoff K = spFoff K := by unfold zFoff; rfl
theorem ask_foff {K : PySem.W.Frag} {H : Hp} {Q : VK} {E : XK} {t l : Addr} {T : List Int} {r : Int} {xs : List V} {rs : List Raw} (ht : SqL K H t (T.map V.int)) (hl : SqL K H l xs) (hrs : RawsOf K H xs rs) (sm : ∀ r ∈ rs, RawSml r) (ln : rs.length ≤ 1000) (hb : badAt rs = none) (r0 : 0 ≤ r) (r1 : r < T.length)
    (k : ∀ H', Same H H' → Q (optN (offAt T.length r (rs.map Raw.cmd))) H') : zFoff K [.ref t, .int r, .ref l] H Q E := by
  rw [zFoff_eq]
  obtain ⟨hcs, _⟩ := raws_cmds hrs (bad_good hb)
  refine ⟨t, l, T, r, xs, rs.map Raw.cmd, rfl, ht, hl, hcs, fun c hc => ?_, by rw [List.length_map]; exact ln, r0, r1, k⟩
  obtain ⟨x, hx, rfl⟩ := List.mem_map.mp hc
  exact sm x hx
section
variable {P : Program} {w : World} {K : PySem.W.Frag} {mg : Str → Option Value} {base : Heap}
theorem sc_law_count_due : FnScope ["many", "most", "start", "moves", "aim"] ["many", "most", "start", "moves", "aim"] (defScope s_cdue) := ⟨rfl, rfl, rfl, by decide +kernel, rfl, by decide +kernel, by decide +kernel⟩
theorem ok_cdue {f : Addr} {fd : FuncData} (F : Fun K "_law_count_due" "_law_count_due" s_cdue f fd) (c_law_bad_command : Cal P w K mg base 1 "_law_bad_command" (zBadc K)) : FnOk P w K mg base CX0 2 f fd ["many", "most", "start", "moves", "aim"] (spCdue K) := by
  refine F.ok sc_law_count_due (fun vs H Q E h => ?_) (fun cdv A outer s H vs Q E hr h => ?_)
  · obtain ⟨c, l, lines, most, row, g, aim, xs, rs, rfl, _⟩ := h
    rfl
  · obtain ⟨c, l, lines, most, row, g, aim, xs, rs, rfl, hc, hl, hrs, ln, k⟩ := h
    refine ⟨_, (pss_cons (ps_if (pt_cmpR op_lt (pv 0) pe_int (nomark _)) (pss_one (ps_ret (pe_tup (pa_cons pe_str (pa_cons (pv 0) pa_nil))))) pss_nil)
      (pss_cons (ps_if (pt_cmpR op_lt (pv 1) pe_int (nomark _)) (pss_one (ps_ret (pe_tup (pa_cons pe_str (pa_cons (pv 1) pa_nil))))) pss_nil)
      (pss_cons (ps_if (PW.pt (pw_or (pt_not (pt_chain op_le op_lt pe_int (pe_ix ix_tup (pv 2) pe_int (fun _ _ => rfl)) (pv 0))) (pw_or1 (PW.pt (pw_and (pt_cmpR op_notN (pe_ix ix_tup (pv 2) pe_int (fun _ _ => rfl)) pe_non (nomark _)) (pw_and1 (pt_cmpR op_lt (pe_ix ix_tup (pv 2) pe_int (fun _ _ => rfl)) pe_int (nomark _)))))))) (pss_one (ps_ret (pe_tup (pa_cons pe_str (pa_cons (pv 2) pa_nil))))) pss_nil)
      (pss_cons (ps_if (pt_cmpR op_notN (pe_cal c_law_bad_command hr (by decide) (by rfl) (pa_cons (pv 3) pa_nil)) pe_non (nomark _)) (pss_one (ps_ret (pe_tup (pa_cons pe_str (pa_cons (pe_cal c_law_bad_command hr (by decide) (by rfl) (pa_cons (pv 3) pa_nil)) pa_nil))))) pss_nil)
      (pss_cons (ps_if (PW.pt (pw_and (pt_cmpR op_notN (pv 4) pe_non (nomark _)) (pw_and1 (pt_cmpR op_lt (pv 4) pe_int (nomark _))))) (pss_one (ps_ret (pe_tup (pa_cons pe_str (pa_cons (pv 4) pa_nil))))) pss_nil)
      (pss_one (ps_ret pe_non))))))), ?_⟩
    have num : ∀ (n : Int) (H' : Hp) (p : Addr), Same H H' → H' p = none → cntDue lines most row g rs aim = .num n → Q (.ref p) (upd H' p (.tup [.str "number", .int n])) := fun n H' p e n0 z => by
      rw [z] at k
      exact k _ _ (same_upd e n0) (.tup (SqT.of upd_same) (.cons (.str _) (.cons (.int _) .nil)))
    refine ⟨_, rfl, _, _, rfl, rfl, _, rfl, ite2 (fun c0 => ?_) (fun c0 => ?_)⟩
    · exact ⟨_, rfl, (by show 2 ≤ sizeLine; decide), fun p hp => num _ _ p (Same.refl H) hp (cnt_lines (of_decide_eq_true c0))⟩
    have c0' : 1 ≤ lines := by
      have : ¬ lines < 1 := fun z => c0 (decide_eq_true z)
      omega
    refine ⟨_, rfl, _, _, rfl, rfl, _, rfl, ite2 (fun c1 => ?_) (fun c1 => ?_)⟩
    · exact ⟨_, rfl, (by show 2 ≤ sizeLine; decide), fun p hp => num _ _ p (Same.refl H) hp (cnt_most c0' (of_decide_eq_true c1))⟩
    have c1' : 0 ≤ most := by
      have : ¬ most < 0 := fun z => c1 (decide_eq_true z)
      omega
    have cur : ∀ (H' : Hp) (p : Addr), Same H H' → H' p = none → ¬ CurOk lines row g → Q (.ref p) (upd H' p (.tup [.str "cursor", .ref c])) := fun H' p e n0 z => by
      rw [cnt_cursor c0' c1' z] at k
      have e2 := same_upd e n0 (o := .tup [.str "cursor", .ref c])
      exact k _ _ e2 (.tup (SqT.of upd_same) (.cons (.str _) (.cons (.tup (seq_t e2 hc) (.cons (.int _) (.cons (dp_optQ g) .nil))) .nil)))
    refine ⟨_, rfl, c, _, 0, _, rfl, rfl, hc, rfl, _, _, rfl, rfl, _, rfl, ite2 (fun d0 => ?_) (fun d0 => ?_)⟩
    rotate_left
    · refine ⟨_, rfl, ?_⟩
      refine iteT (B := _) ?_
      exact ⟨_, rfl, (by show 2 ≤ sizeLine; decide), fun p hp => cur _ p (Same.refl H) hp fun z => d0 (decide_eq_true z.1)⟩
    refine ⟨_, rfl, _, _, rfl, rfl, _, rfl, ?_⟩
    by_cases d1 : row < lines
    rotate_left
    · refine iteN0 d1 ?_
      exact ⟨_, rfl, (by show 2 ≤ sizeLine; decide), fun p hp => cur _ p (Same.refl H) hp fun z => d1 z.2.1⟩
    refine iteN1 d1 ?_
    have d0' : 0 ≤ row := of_decide_eq_true d0
    cases g with
    | none =>
      have cu : CurOk lines row none := ⟨d0', d1, ge_none 0⟩
      refine ⟨_, rfl, c, _, 1, _, rfl, rfl, hc, rfl, rfl, _, rfl, iteF (iteF ?_)⟩
      refine ⟨_, rfl, ask_badc hl hrs ln fun H1 e1 => ?_⟩
      cases hb : badAt rs with
      | some i =>
        rw [cnt_command c0' c1' cu hb] at k
        refine ⟨rfl, _, rfl, iteT ⟨_, rfl, ask_badc (e1.seq hl) (hrs.same e1) ln fun H2 e2 => ?_⟩⟩
        rw [hb]
        refine ⟨(by show 2 ≤ sizeLine; decide), fun p hp => ?_⟩
        exact k _ _ (same_upd (e1.trans e2) hp) (.tup (SqT.of upd_same) (.cons (.str _) (.cons (.int _) .nil)))
      | none =>
        refine ⟨rfl, _, rfl, iteF ?_⟩
        cases aim with
        | none =>
          rw [cnt_fine c0' c1' cu hb (ge_none 0)] at k
          exact ⟨_, rfl, rfl, _, rfl, iteF (iteF (k _ _ e1 .non))⟩
        | some v =>
          refine ⟨_, rfl, rfl, _, rfl, iteT ?_⟩
          refine ⟨_, rfl, _, _, rfl, rfl, _, rfl, ite2 (fun c3 => ?_) (fun c3 => ?_)⟩
          · exact ⟨_, rfl, (by show 2 ≤ sizeLine; decide), fun p hp => num _ _ p e1 hp (cnt_goal c0' c1' cu hb (of_decide_eq_true c3))⟩
          · have c3' : ¬ v < 0 := fun l => c3 (decide_eq_true l)
            rw [cnt_fine c0' c1' cu hb (ge_some.mpr (by omega))] at k
            exact k _ _ e1 .non
    | some y =>
      refine ⟨_, rfl, c, _, 1, _, rfl, rfl, hc, rfl, rfl, _, rfl, iteT ?_⟩
      refine ⟨_, rfl, c, _, 1, _, rfl, rfl, hc, rfl, _, _, rfl, rfl, _, rfl, ite2 (fun c2 => ?_) (fun c2 => ?_)⟩
      · refine ⟨_, rfl, (by show 2 ≤ sizeLine; decide), fun p hp => cur _ p (Same.refl H) hp fun z => ?_⟩
        have := ge_some.mp z.2.2
        have := of_decide_eq_true c2
        omega
      · have c2' : ¬ y < 0 := fun l => c2 (decide_eq_true l)
        have cu : CurOk lines row (some y) := ⟨d0', d1, ge_some.mpr (by omega)⟩
        refine ⟨_, rfl, ask_badc hl hrs ln fun H1 e1 => ?_⟩
        cases hb : badAt rs with
        | some i =>
          rw [cnt_command c0' c1' cu hb] at k
          refine ⟨rfl, _, rfl, iteT ⟨_, rfl, ask_badc (e1.seq hl) (hrs.same e1) ln fun H2 e2 => ?_⟩⟩
          rw [hb]
          refine ⟨(by show 2 ≤ sizeLine; decide), fun p hp => ?_⟩
          exact k _ _ (same_upd (e1.trans e2) hp) (.tup (SqT.of upd_same) (.cons (.str _) (.cons (.int _) .nil)))
        | none =>
          refine ⟨rfl, _, rfl, iteF ?_⟩
          cases aim with
          | none =>
            rw [cnt_fine c0' c1' cu hb (ge_none 0)] at k
            exact ⟨_, rfl, rfl, _, rfl, iteF (iteF (k _ _ e1 .non))⟩
          | some v =>
            refine ⟨_, rfl, rfl, _, rfl, iteT ?_⟩
            refine ⟨_, rfl, _, _, rfl, rfl, _, rfl, ite2 (fun c3 => ?_) (fun c3 => ?_)⟩
            · exact ⟨_, rfl, (by show 2 ≤ sizeLine; decide), fun p hp => num _ _ p e1 hp (cnt_goal c0' c1' cu hb (of_decide_eq_true c3))⟩
            · have c3' : ¬ v < 0 := fun l => c3 (decide_eq_true l)
              rw [cnt_fine c0' c1' cu hb (ge_some.mpr (by omega))] at k
              exact k _ _ e1 .non
theorem sc_law_origins_due : FnScope ["page", "spot", "aim", "moves", "place"] ["page", "spot", "aim", "moves"] (defScope s_odue) := ⟨rfl, rfl, rfl, by decide +kernel, rfl, by decide +kernel, by decide +kernel⟩
theorem ok_odue {f : Addr} {fd : FuncData} (F : Fun K "_law_origins_due" "_law_origins_due" s_odue f fd) (T : TxtC mg) (c_law_bad_command : Cal P w K mg base 1 "_law_bad_command" (zBadc K)) (c_law_first_off : Cal P w K mg base 2 "_law_first_off" (zFoff K)) : FnOk P w K mg base CX0 3 f fd ["page", "spot", "aim", "moves"] (spOdue K) := by
  refine F.ok sc_law_origins_due (fun vs H Q E h => ?_) (fun cdv A outer s H vs Q E hr h => ?_)
  · obtain ⟨t, l, T, row, aim, xs, rs, rfl, _⟩ := h
    rfl
  · obtain ⟨t, l, tx, row, aim, xs, rs, rfl, ⟨ht, hl, hrs, _⟩, ln, lt, sm, k⟩ := h
    refine ⟨_, (pss_cons (ps_if (pt_cmpR op_eq (pe_callB call_len_seq (by rfl) T.len (by decide +kernel) (pa_cons (pv 0) pa_nil)) pe_int (nomark _)) (pss_one (ps_ret (pe_tup (pa_cons pe_str (pa_cons pe_non pa_nil))))) pss_nil)
      (pss_cons (ps_if (pt_cmpR op_lt (pe_callB (cr_min rfl) (by rfl) T.min (by decide +kernel) (pa_cons (pv 0) pa_nil)) pe_int (nomark _)) (pss_one (ps_ret (pe_tup (pa_cons pe_str (pa_cons (pe_ix ix_list (pe_lc (own := [("place", 4)]) rfl sc_law_origins_due.nd (pi_range1 rfl T.range (pa_cons (pe_callB call_len_seq (by rfl) T.len (by decide +kernel) (pa_cons (pv 0) pa_nil)) pa_nil)) (blkOk_by (N := ["page", "spot", "aim", "moves", "place"]) (sc := defScope s_odue) (by decide +kernel)) (fun _ _ _ _ _ => (pg_name (i := 4) sc_law_origins_due.nd rfl (Or.inl rfl))) (fun _ _ _ _ _ => (pts_one (pt_cmpR op_lt (pe_ix (show IxR _ (rIxL K) from ix_list) (pv 0) (pv 4) (fun _ _ => rfl)) pe_int (nomark _)))) (fun _ _ _ _ _ => (pv 4))) pe_int (fun _ _ => rfl)) pa_nil))))) pss_nil)
      (pss_cons (ps_if (PW.pt (pw_or (pt_not (pt_chain op_le op_lt pe_int (pv 1) (pe_callB call_len_seq (by rfl) T.len (by decide +kernel) (pa_cons (pv 0) pa_nil)))) (pw_or1 (PW.pt (pw_and (pt_cmpR op_notN (pv 2) pe_non (nomark _)) (pw_and1 (pt_cmpR op_lt (pv 2) pe_int (nomark _)))))))) (pss_one (ps_ret (pe_tup (pa_cons pe_str (pa_cons (pe_tup (pa_cons (pv 1) (pa_cons (pv 2) pa_nil))) pa_nil))))) pss_nil)
      (pss_cons (ps_if (pt_cmpR op_notN (pe_cal c_law_bad_command hr (by decide) (by rfl) (pa_cons (pv 3) pa_nil)) pe_non (nomark _)) (pss_one (ps_ret (pe_tup (pa_cons pe_str (pa_cons (pe_cal c_law_bad_command hr (by decide) (by rfl) (pa_cons (pv 3) pa_nil)) pa_nil))))) pss_nil)
      (pss_cons (ps_if (pt_cmpR op_notN (pe_cal c_law_first_off hr (by decide) (by rfl) (pa_cons (pv 0) (pa_cons (pv 1) (pa_cons (pv 3) pa_nil)))) pe_non (nomark _)) (pss_one (ps_ret (pe_tup (pa_cons pe_str (pa_cons (pe_cal c_law_first_off hr (by decide) (by rfl) (pa_cons (pv 0) (pa_cons (pv 1) (pa_cons (pv 3) pa_nil)))) pa_nil))))) pss_nil)
      (pss_one (ps_ret pe_non))))))), ?_⟩
    by_cases ne : tx = []
    · subst ne
      refine ⟨_, rfl, t, _, rfl, .inl ht, rfl, _, rfl, iteT ⟨(by show 2 ≤ sizeLine; decide), fun p hp => ?_⟩⟩
      rw [due_text0 rfl] at k
      exact k _ _ (same_upd (Same.refl H) hp) (.tup (SqT.of upd_same) (.cons (.str _) (.cons .non .nil)))
    have lpos : 0 < tx.length := List.length_pos_iff.mpr ne
    refine ⟨_, rfl, t, _, rfl, .inl ht, rfl, _, rfl, ite2 (fun z => ?_) (fun _ => ?_)⟩
    · have z1 : V.int ((tx.map V.int).length : Nat) = V.int 0 := of_decide_eq_true z
      rw [List.length_map] at z1
      have z2 : ((tx.length : Nat) : Int) = 0 := V.int.inj z1
      omega
    refine ⟨_, rfl, t, _, rfl, ht, lpos, fun m hm hle => ?_⟩
    refine ⟨_, _, rfl, rfl, _, rfl, ite2 (fun c0 => ?_) (fun c0 => ?_)⟩
    · have m0 : m < 0 := of_decide_eq_true c0
      refine ⟨_, rfl, t, _, rfl, .inl ht, _, rfl, by omega, by rw [List.length_map]; omega, fun D hD => ?_⟩
      refine lc_range (lo := 0) (fun i H' => Same H H' ∧ ∃ ys : List Nat, H' D = some (.lst (ys.map fun (j : Nat) => V.int j)) ∧ ys.length ≤ i ∧ ((ys = [] ∧ ∀ j x, j < i → tx[j]? = some x → 0 ≤ x) ∨ ∃ a r, ys = a :: r ∧ negAt tx = some a))
        ⟨same_upd (Same.refl H) hD, [], upd_same, Nat.le_refl 0, .inl ⟨rfl, fun j x h => absurd h (Nat.not_lt_zero _)⟩⟩ (fun i H' hi h => ?_) (fun H4 h => ?_)
      · obtain ⟨e, ys, hd, yl, dis⟩ := h
        have hi' : i < tx.length := by
          rw [List.length_map] at hi
          omega
        have item : (tx.map V.int)[i]? = some (.int tx[i]) := by rw [List.getElem?_map, List.getElem?_eq_getElem hi']; rfl
        refine ⟨rfl, ?_⟩
        refine ⟨_, rfl, _, rfl, t, _, _, _, rfl, rfl, e.seq ht, at_of (j := i) (Int.zero_add _) item, _, _, rfl, rfl, _, rfl, ite2 (fun c1 => ?_) (fun c1 => ?_)⟩
        · have n1 : tx[i] < 0 := of_decide_eq_true c1
          refine ⟨_, rfl, _, hd, small_n (by rw [List.length_map]; omega), fun b o h => ?_, ys ++ [i], ?_, ?_, .inr ?_⟩
          · rw [upd_ne (ne_of_none h hD)]
            exact e _ _ h
          · rw [upd_same, List.map_append, Int.zero_add]
            rfl
          · rw [List.length_append, List.length_singleton]
            omega
          · rcases dis with ⟨rfl, bf⟩ | ⟨a, r, rfl, hn⟩
            · exact ⟨i, [], rfl, neg_at (List.getElem?_eq_getElem hi') n1 bf⟩
            · exact ⟨a, r ++ [i], rfl, hn⟩
        · have n1 : ¬ tx[i] < 0 := fun z => c1 (decide_eq_true z)
          refine ⟨e, ys, hd, by omega, ?_⟩
          rcases dis with ⟨rfl, bf⟩ | q
          · refine .inl ⟨rfl, fun j x hj hx => ?_⟩
            by_cases z : j = i
            · rw [z, List.getElem?_eq_getElem hi'] at hx
              cases hx
              omega
            · exact bf j x (by omega) hx
          · exact .inr q
      · obtain ⟨e, ys, hd, yl, dis⟩ := h
        rcases dis with ⟨_, bf⟩ | ⟨a, r, rfl, hn⟩
        · obtain ⟨j, hj, ej⟩ := List.mem_iff_getElem.mp hm
          have := bf j m (by rw [List.length_map]; omega) (by rw [List.getElem?_eq_getElem hj, ej])
          omega
        · rw [due_text ne hn] at k
          refine ⟨D, _, _, _, rfl, rfl, SqL.of hd, at_of (j := 0) rfl rfl, (by show 2 ≤ sizeLine; decide), fun p hp => ?_⟩
          exact k _ _ (same_upd e hp) (.tup (SqT.of upd_same) (.cons (.str _) (.cons (.int _) .nil)))
    have nn : negAt tx = none := neg_none fun j x _ hx => by
      have := hle x (List.mem_of_getElem? hx)
      have : ¬ m < 0 := fun z => c0 (decide_eq_true z)
      omega
    have cur : ∀ (H' : Hp) (p q : Addr), Same H H' → H' q = some (.tup [.int row, optV aim]) → H' p = none → ¬ CurOk tx.length row aim → Q (.ref p) (upd H' p (.tup [.str "cursor", .ref q])) := fun H' p q e hq n0 z => by
      rw [due_cursor ne nn z] at k
      exact k _ _ (same_upd e n0) (.tup (SqT.of upd_same) (.cons (.str _) (.cons (.tup (SqT.of (same_upd (Same.refl H') n0 _ _ hq)) (.cons (.int _) (.cons (dp_optQ aim) .nil))) .nil)))
    have curT : ¬ CurOk tx.length row aim → (2 ≤ sizeLine ∧ ∀ q, H q = none → (2 ≤ sizeLine ∧ ∀ p, upd H q (.tup [.int row, optV aim]) p = none → Q (.ref p) (upd (upd H q (.tup [.int row, optV aim])) p (.tup [.str "cursor", .ref q])))) := fun z =>
      ⟨(by show 2 ≤ sizeLine; decide), fun q hq => ⟨(by show 2 ≤ sizeLine; decide), fun p hp => cur _ p q (same_upd (Same.refl H) hq) upd_same hp z⟩⟩
    refine ⟨_, rfl, _, _, rfl, rfl, _, rfl, ite2 (fun d0 => ?_) (fun d0 => ?_)⟩
    rotate_left
    · refine ⟨_, rfl, ?_⟩
      refine iteT (B := _) ?_
      exact ⟨_, rfl, _, rfl, curT fun z => d0 (decide_eq_true z.1)⟩
    have d0' : 0 ≤ row := of_decide_eq_true d0
    refine ⟨_, rfl, t, _, rfl, .inl ht, _, _, rfl, rfl, _, rfl, ?_⟩
    by_cases d1 : row < tx.length
    rotate_left
    · refine iteN0 (by rw [List.length_map]; exact d1) ?_
      exact ⟨_, rfl, _, rfl, curT fun z => d1 z.2.1⟩
    refine iteN1 (by rw [List.length_map]; exact d1) ?_
    cases aim with
    | none =>
      have cu : CurOk tx.length row none := ⟨d0', d1, ge_none 0⟩
      refine ⟨_, rfl, rfl, _, rfl, iteF (iteF ?_)⟩
      refine ⟨_, rfl, ask_badc hl hrs ln fun H1 e1 => ?_⟩
      cases hb : badAt rs with
      | some i =>
        rw [due_command ne nn cu hb] at k
        refine ⟨rfl, _, rfl, iteT ⟨_, rfl, ask_badc (e1.seq hl) (hrs.same e1) ln fun H2 e2 => ?_⟩⟩
        rw [hb]
        refine ⟨(by show 2 ≤ sizeLine; decide), fun p hp => ?_⟩
        exact k _ _ (same_upd (e1.trans e2) hp) (.tup (SqT.of upd_same) (.cons (.str _) (.cons (.int _) .nil)))
      | none =>
        refine ⟨rfl, _, rfl, iteF ?_⟩
        refine ⟨_, rfl, _, rfl, _, rfl, ask_foff (e1.seq ht) (e1.seq hl) (hrs.same e1) sm ln hb d0' d1 fun H2 e2 => ?_⟩
        have e12 := e1.trans e2
        cases hf : offAt tx.length row (rs.map Raw.cmd) with
        | some i =>
          rw [due_off ne nn cu hb hf] at k
          refine ⟨rfl, _, rfl, iteT ⟨_, rfl, _, rfl, _, rfl, ask_foff (e12.seq ht) (e12.seq hl) (hrs.same e12) sm ln hb d0' d1 fun H3 e3 => ?_⟩⟩
          rw [hf]
          refine ⟨(by show 2 ≤ sizeLine; decide), fun p hp => ?_⟩
          exact k _ _ (same_upd (e12.trans e3) hp) (.tup (SqT.of upd_same) (.cons (.str _) (.cons (.int _) .nil)))
        | none =>
          rw [due_fine ne nn cu hb hf] at k
          exact ⟨rfl, _, rfl, iteF (k _ _ e12 .non)⟩
    | some y =>
      refine ⟨_, rfl, rfl, _, rfl, iteT ?_⟩
      refine ⟨_, rfl, _, _, rfl, rfl, _, rfl, ite2 (fun c2 => ?_) (fun c2 => ?_)⟩
      · refine ⟨_, rfl, _, rfl, curT fun z => ?_⟩
        have := ge_some.mp z.2.2
        have := of_decide_eq_true c2
        omega
      · have c2' : ¬ y < 0 := fun l => c2 (decide_eq_true l)
        have cu : CurOk tx.length row (some y) := ⟨d0', d1, ge_some.mpr (by omega)⟩
        refine ⟨_, rfl, ask_badc hl hrs ln fun H1 e1 => ?_⟩
        cases hb : badAt rs with
        | some i =>
          rw [due_command ne nn cu hb] at k
          refine ⟨rfl, _, rfl, iteT ⟨_, rfl, ask_badc (e1.seq hl) (hrs.same e1) ln fun H2 e2 => ?_⟩⟩
          rw [hb]
          refine ⟨(by show 2 ≤ sizeLine; decide), fun p hp => ?_⟩
          exact k _ _ (same_upd (e1.trans e2) hp) (.tup (SqT.of upd_same) (.cons (.str _) (.cons (.int _) .nil)))
        | none =>
          refine ⟨rfl, _, rfl, iteF ?_⟩
          refine ⟨_, rfl, _, rfl, _, rfl, ask_foff (e1.seq ht) (e1.seq hl) (hrs.same e1) sm ln hb d0' d1 fun H2 e2 => ?_⟩
          have e12 := e1.trans e2
          cases hf : offAt tx.length row (rs.map Raw.cmd) with
          | some i =>
            rw [due_off ne nn cu hb hf] at k
            refine ⟨rfl, _, rfl, iteT ⟨_, rfl, _, rfl, _, rfl, ask_foff (e12.seq ht) (e12.seq hl) (hrs.same e12) sm ln hb d0' d1 fun H3 e3 => ?_⟩⟩
            rw [hf]
            refine ⟨(by show 2 ≤ sizeLine; decide), fun p hp => ?_⟩
            exact k _ _ (same_upd (e12.trans e3) hp) (.tup (SqT.of upd_same) (.cons (.str _) (.cons (.int _) .nil)))
          | none =>
            rw [due_fine ne nn cu hb hf] at k
            exact ⟨rfl, _, rfl, iteF (k _ _ e12 .non)⟩
end
end Gc

/-! commands that are spoilt at times -/
namespace Gc
open PySem L2
abbrev s_spoilt : Stmt := top 43
def oddR : List Raw := [(.two "down" 0), (.two "up" (-1)), (.one "left"), (.two "home" 1), (.three "end" 2 3), (.two "Right" 1), (.two "" 1), (.two "right" (0 - 10 ^ 29)), .nil]
def smlB : Raw → Bool
  | .two _ k => decide (k.natAbs < 2 ^ 120)
  | _ => true
theorem sml_of {r : Raw} (h : smlB r = true) : RawSml r := by
  unfold RawSml
  cases r with
  | nil => trivial
  | one n =>
    show CSml (if n = "home" then .home else .stop)
    by_cases z : n = "home"
    · rw [if_pos z]
      trivial
    · rw [if_neg z]
      trivial
  | two n k =>
    have hk : k.natAbs < 2 ^ 120 := of_decide_eq_true h
    show CSml (if n = "down" then .down k else if n = "up" then .up k else if n = "right" then .right k else .left k)
    by_cases z1 : n = "down"
    · rw [if_pos z1]
      exact hk
    rw [if_neg z1]
    by_cases z2 : n = "up"
    · rw [if_pos z2]
      exact hk
    rw [if_neg z2]
    by_cases z3 : n = "right"
    · rw [if_pos z3]
      exact hk
    · rw [if_neg z3]
      exact hk
  | three n k j => trivial
theorem odd_sml : ∀ r ∈ oddR, RawSml r := fun r hr => sml_of (List.all_eq_true.mp (by decide +kernel : oddR.all smlB = true) r hr)
theorem ixN_natS {n j : Nat} (hj : j < n) : ixN n (j : Int) = some j := by
  unfold ixN
  have h0 : (0 : Int) ≤ (j : Int) := by omega
  have h1 : ((j : Int)).toNat < n := by omega
  simp [h0, hj]
theorem RawAt.keepB {K : PySem.W.Frag} {H H' : Hp} {b g : Addr} {n : Nat} {v : V} {r : Raw} (e : Keep b g H H') (B : Bag H b g n) (h : RawAt K H v r) : RawAt K H' v r := by
  obtain ⟨a, e1, h1⟩ := h
  exact ⟨a, e1, e.tup B h1⟩
theorem RawsOf.keepB {K : PySem.W.Frag} {H H' : Hp} {b g : Addr} {n : Nat} {xs : List V} {rs : List Raw} (e : Keep b g H H') (B : Bag H b g n) (h : RawsOf K H xs rs) : RawsOf K H' xs rs := Paired.mapP h fun _ _ q => q.keepB e B
theorem RawsOf.lput {K : PySem.W.Frag} {H : Hp} {l : Addr} {ys zs : List V} {xs : List V} {rs : List Raw} (hl : H l = some (.lst ys)) (h : RawsOf K H xs rs) : RawsOf K (upd H l (.lst zs)) xs rs := Paired.mapP h fun _ _ q => by
  obtain ⟨a, e1, h1⟩ := q
  refine ⟨a, e1, ?_⟩
  rcases h1 with (z | ⟨o, z⟩) | z
  · exact .inl (.inl (by rw [upd_ne (ne_of z hl (by intro q; cases q))]; exact z))
  · exact .inl (.inr ⟨o, by rw [upd_ne (ne_of z hl (by intro q; cases q))]; exact z⟩)
  · exact .inr z
theorem pairs_set {α β : Type} {F : α → β → Prop} : ∀ {xs : List α} {ys : List β} (n : Nat) {x : α} {y : β}, Paired F xs ys → F x y → Paired F (xs.set n x) (ys.set n y)
  | _, _, _, _, _, .nil, _ => .nil
  | _, _, 0, _, _, .cons _ t, h => .cons h t
  | _, _, n + 1, _, _, .cons f t, h => .cons f (pairs_set n t h)
def spSpoilt (K : PySem.W.Frag) : Sp := fun vs H Q _ => ∃ (b g l : Addr) (n : Nat) (xs : List V) (rs : List Raw), vs = [.ref b, .ref l] ∧ Bag H b g n ∧ n < 2 ^ 39 ∧ SqL K H l xs ∧ RawsOf K H xs rs ∧ rs.length ≤ 20 ∧ (∀ r ∈ rs, RawSml r) ∧
  ∀ (H' : Hp) (p : Addr) (ys : List V) (rs' : List Raw), Keep b g H H' → Bag H' b g (n + 40) → H p = none → H' p = some (.lst ys) → RawsOf K H' ys rs' → (∀ r ∈ rs', RawSml r) → rs'.length = rs.length → Q (.ref p) H'
section
variable {P : Program} {w : World} {K : PySem.W.Frag} {mg : Str → Option Value} {base : Heap}
theorem sc_law_spoilt : FnScope ["bag", "moves", "found", "odd", "place"] ["bag", "moves"] (defScope s_spoilt) := ⟨rfl, rfl, rfl, by decide +kernel, rfl, by decide +kernel, by decide +kernel⟩
theorem ok_spoilt {f : Addr} {fd : FuncData} (F : Fun K "_law_spoilt" "_law_spoilt" s_spoilt f fd) (T : TxtC mg) (c_law_draw : Cal P w K mg base 1 "_law_draw" spBdraw) : FnOk P w K mg base CX0 2 f fd ["bag", "moves"] (spSpoilt K) := by
  refine F.ok sc_law_spoilt (fun vs H Q E h => ?_) (fun cdv A outer s H vs Q E hr h => ?_)
  · obtain ⟨b, g, l, n, xs, rs, rfl, _⟩ := h
    rfl
  · obtain ⟨b, g, l, n, xs, rs, rfl, B0, nb, hl, hrs, ln, sm, k⟩ := h
    refine ⟨_, (pss_cons (ps_set (i := 2) sc_law_spoilt.nd rfl (Or.inl rfl) (pe_callTy call_list_of (by rfl) T.list (by decide +kernel) (pa_cons (pv 1) pa_nil)))
      (pss_cons (ps_set (i := 3) sc_law_spoilt.nd rfl (Or.inl rfl) (pe_lst (pa_cons (pe_tup (pa_cons pe_str (pa_cons pe_int pa_nil))) (pa_cons (pe_tup (pa_cons pe_str (pa_cons (pe_un un_neg pe_int) pa_nil))) (pa_cons (pe_tup (pa_cons pe_str pa_nil)) (pa_cons (pe_tup (pa_cons pe_str (pa_cons pe_int pa_nil))) (pa_cons (pe_tup (pa_cons pe_str (pa_cons pe_int (pa_cons pe_int pa_nil)))) (pa_cons (pe_tup (pa_cons pe_str (pa_cons pe_int pa_nil))) (pa_cons (pe_tup (pa_cons pe_str (pa_cons pe_int pa_nil))) pa_nil)))))))))
      (pss_cons (ps_expr (pe_bm PySem.F.plainAttrs_list PySem.F.slot_list_extend PySem.F.type_list_extend mt_extend (pv 3) (pa_cons (pe_lst (pa_cons (pe_tup (pa_cons pe_str (pa_cons (pe_op op_sub pe_int (pe_op op_pow pe_int pe_int)) pa_nil))) (pa_cons (pe_tup pa_nil) pa_nil))) pa_nil)))
      (pss_cons (ps_for PassesOwn.never rfl (pi_range1 rfl T.range (pa_cons (pe_callB call_len_seq (by rfl) T.len (by decide +kernel) (pa_cons (pv 1) pa_nil)) pa_nil)) (pg_name (i := 4) sc_law_spoilt.nd rfl (Or.inl rfl)) (pss_one (ps_if (pt_cmpR op_eq (pe_cal c_law_draw hr (by decide) (by rfl) (pa_cons (pv 0) (pa_cons pe_int pa_nil))) pe_int (nomark _)) (pss_one (ps_asg (pe_ix ix_list (pv 3) (pe_cal c_law_draw hr (by decide) (by rfl) (pa_cons (pv 0) (pa_cons (pe_callB call_len_seq (by rfl) T.len (by decide +kernel) (pa_cons (pv 3) pa_nil)) pa_nil))) (fun _ _ => rfl)) (pg_sub (pv 2) (pv 4) set_list))) pss_nil)))
      (pss_one (ps_ret (pv 2))))))), ?_⟩
    have lx := Paired.length hrs
    refine ⟨_, rfl, l, _, rfl, .inl hl, fun p hp => ?_⟩
    have s0 : Same H (upd H p (.lst xs)) := same_upd (Same.refl _) hp
    have f0 : upd H p (.lst xs) p = some (.lst xs) := upd_same
    generalize upd H p (.lst xs) = G0 at *
    refine ⟨(by show 2 ≤ sizeLine; decide), fun p1 hp1 => ?_⟩
    have s1 : Same G0 (upd G0 p1 (.tup [.str "down", .int 0])) := same_upd (Same.refl _) hp1
    have f1 : SqT K (upd G0 p1 (.tup [.str "down", .int 0])) p1 (encR (.two "down" 0)) := SqT.of upd_same
    generalize upd G0 p1 (.tup [.str "down", .int 0]) = G1 at *
    refine ⟨_, rfl, (by show 2 ≤ sizeLine; decide), fun p2 hp2 => ?_⟩
    have s2 : Same G1 (upd G1 p2 (.tup [.str "up", .int (-1)])) := same_upd (Same.refl _) hp2
    have f2 : SqT K (upd G1 p2 (.tup [.str "up", .int (-1)])) p2 (encR (.two "up" (-1))) := SqT.of upd_same
    generalize upd G1 p2 (.tup [.str "up", .int (-1)]) = G2 at *
    refine ⟨(by show 1 ≤ sizeLine; decide), fun p3 hp3 => ?_⟩
    have s3 : Same G2 (upd G2 p3 (.tup [.str "left"])) := same_upd (Same.refl _) hp3
    have f3 : SqT K (upd G2 p3 (.tup [.str "left"])) p3 (encR (.one "left")) := SqT.of upd_same
    generalize upd G2 p3 (.tup [.str "left"]) = G3 at *
    refine ⟨(by show 2 ≤ sizeLine; decide), fun p4 hp4 => ?_⟩
    have s4 : Same G3 (upd G3 p4 (.tup [.str "home", .int 1])) := same_upd (Same.refl _) hp4
    have f4 : SqT K (upd G3 p4 (.tup [.str "home", .int 1])) p4 (encR (.two "home" 1)) := SqT.of upd_same
    generalize upd G3 p4 (.tup [.str "home", .int 1]) = G4 at *
    refine ⟨(by show 3 ≤ sizeLine; decide), fun p5 hp5 => ?_⟩
    have s5 : Same G4 (upd G4 p5 (.tup [.str "end", .int 2, .int 3])) := same_upd (Same.refl _) hp5
    have f5 : SqT K (upd G4 p5 (.tup [.str "end", .int 2, .int 3])) p5 (encR (.three "end" 2 3)) := SqT.of upd_same
    generalize upd G4 p5 (.tup [.str "end", .int 2, .int 3]) = G5 at *
    refine ⟨(by show 2 ≤ sizeLine; decide), fun p6 hp6 => ?_⟩
    have s6 : Same G5 (upd G5 p6 (.tup [.str "Right", .int 1])) := same_upd (Same.refl _) hp6
    have f6 : SqT K (upd G5 p6 (.tup [.str "Right", .int 1])) p6 (encR (.two "Right" 1)) := SqT.of upd_same
    generalize upd G5 p6 (.tup [.str "Right", .int 1]) = G6 at *
    refine ⟨(by show 2 ≤ sizeLine; decide), fun p7 hp7 => ?_⟩
    have s7 : Same G6 (upd G6 p7 (.tup [.str "", .int 1])) := same_upd (Same.refl _) hp7
    have f7 : SqT K (upd G6 p7 (.tup [.str "", .int 1])) p7 (encR (.two "" 1)) := SqT.of upd_same
    generalize upd G6 p7 (.tup [.str "", .int 1]) = G7 at *
    refine ⟨(by show 7 ≤ sizeLine; decide), fun q hq => ?_⟩
    have sq : Same G7 (upd G7 q (.lst [.ref p1, .ref p2, .ref p3, .ref p4, .ref p5, .ref p6, .ref p7])) := same_upd (Same.refl _) hq
    have fq : upd G7 q (.lst [.ref p1, .ref p2, .ref p3, .ref p4, .ref p5, .ref p6, .ref p7]) q = some (.lst [.ref p1, .ref p2, .ref p3, .ref p4, .ref p5, .ref p6, .ref p7]) := upd_same
    generalize upd G7 q (.lst [.ref p1, .ref p2, .ref p3, .ref p4, .ref p5, .ref p6, .ref p7]) = Gq at *
    refine ⟨_, rfl, .inl ⟨rfl, _, SqL.of fq⟩, ?_⟩
    refine ⟨_, _, rfl, rfl, cpow (by decide), _, _, rfl, rfl, (by show 2 ≤ sizeLine; decide), fun p8 hp8 => ?_⟩
    have s8 : Same Gq (upd Gq p8 (.tup [.str "right", (fun i j => V.int (i - j)) 0 (10 ^ Int.toNat 29)])) := same_upd (Same.refl _) hp8
    have f8 : SqT K (upd Gq p8 (.tup [.str "right", (fun i j => V.int (i - j)) 0 (10 ^ Int.toNat 29)])) p8 (encR (.two "right" (0 - 10 ^ 29))) := SqT.of upd_same
    generalize upd Gq p8 (.tup [.str "right", (fun i j => V.int (i - j)) 0 (10 ^ Int.toNat 29)]) = G8 at *
    refine ⟨(by show 0 ≤ sizeLine; decide), fun p9 hp9 => ?_⟩
    have s9 : Same G8 (upd G8 p9 (.tup [])) := same_upd (Same.refl _) hp9
    have f9 : SqT K (upd G8 p9 (.tup [])) p9 (encR .nil) := SqT.of upd_same
    generalize upd G8 p9 (.tup []) = G9 at *
    refine ⟨(by show 2 ≤ sizeLine; decide), fun q2 hq2 => ?_⟩
    have sq2 : Same G9 (upd G9 q2 (.lst [.ref p8, .ref p9])) := same_upd (Same.refl _) hq2
    have fq2 : upd G9 q2 (.lst [.ref p8, .ref p9]) q2 = some (.lst [.ref p8, .ref p9]) := upd_same
    generalize upd G9 q2 (.lst [.ref p8, .ref p9]) = Gr at *
    have t9 : Same G9 Gr := sq2
    have t8 : Same G8 Gr := s9.trans t9
    have tq : Same Gq Gr := s8.trans t8
    have t7 : Same G7 Gr := sq.trans tq
    have t6 : Same G6 Gr := s7.trans t7
    have t5 : Same G5 Gr := s6.trans t6
    have t4 : Same G4 Gr := s5.trans t5
    have t3 : Same G3 Gr := s4.trans t4
    have t2 : Same G2 Gr := s3.trans t3
    have t1 : Same G1 Gr := s2.trans t2
    have t0 : Same G0 Gr := s1.trans t1
    refine ⟨q, q2, _, _, rfl, rfl, tq _ _ fq, fq2, (by show 7 + 2 ≤ sizeLine; decide), ?_⟩
    have odds : RawsOf K Gr [.ref p1, .ref p2, .ref p3, .ref p4, .ref p5, .ref p6, .ref p7, .ref p8, .ref p9] oddR := .cons ⟨_, rfl, seq_t t1 f1⟩ (.cons ⟨_, rfl, seq_t t2 f2⟩ (.cons ⟨_, rfl, seq_t t3 f3⟩ (.cons ⟨_, rfl, seq_t t4 f4⟩ (.cons ⟨_, rfl, seq_t t5 f5⟩ (.cons ⟨_, rfl, seq_t t6 f6⟩ (.cons ⟨_, rfl, seq_t t7 f7⟩ (.cons ⟨_, rfl, seq_t t8 f8⟩ (.cons ⟨_, rfl, seq_t t9 f9⟩ .nil))))))))
    have fp : Gr p = some (.lst xs) := t0 _ _ f0
    have pq : p ≠ q := fun z => by
      rw [← z] at hq
      have := (s1.trans (s2.trans (s3.trans (s4.trans (s5.trans (s6.trans s7)))))) _ _ f0
      rw [hq] at this
      cases this
    have sr : Same H Gr := s0.trans t0
    have B1 := B0.same sr
    have lp := B0.off hp
    have lq : q ≠ b ∧ q ≠ g := by
      obtain ⟨_, _, _, _, g1, g2, _⟩ := B0
      have sH : Same H G7 := s0.trans (s1.trans (s2.trans (s3.trans (s4.trans (s5.trans (s6.trans s7))))))
      exact ⟨(ne_of_none (sH _ _ g1) hq).symm, (ne_of_none (sH _ _ g2) hq).symm⟩
    have hlr := sr.seq hl
    have hrr := hrs.same sr
    have odds2 : RawsOf K (upd Gr q (.lst ([.ref p1, .ref p2, .ref p3, .ref p4, .ref p5, .ref p6, .ref p7] ++ [.ref p8, .ref p9]))) [.ref p1, .ref p2, .ref p3, .ref p4, .ref p5, .ref p6, .ref p7, .ref p8, .ref p9] oddR := odds.lput (tq _ _ fq)
    have fq3 : upd Gr q (.lst ([.ref p1, .ref p2, .ref p3, .ref p4, .ref p5, .ref p6, .ref p7] ++ [.ref p8, .ref p9])) q = some (.lst [.ref p1, .ref p2, .ref p3, .ref p4, .ref p5, .ref p6, .ref p7, .ref p8, .ref p9]) := upd_same
    have fp3 : upd Gr q (.lst ([.ref p1, .ref p2, .ref p3, .ref p4, .ref p5, .ref p6, .ref p7] ++ [.ref p8, .ref p9])) p = some (.lst xs) := by rw [upd_ne pq]; exact fp
    have hrr3 : RawsOf K (upd Gr q (.lst ([.ref p1, .ref p2, .ref p3, .ref p4, .ref p5, .ref p6, .ref p7] ++ [.ref p8, .ref p9]))) xs rs := hrr.lput (tq _ _ fq)
    have B3 : Bag (upd Gr q (.lst ([.ref p1, .ref p2, .ref p3, .ref p4, .ref p5, .ref p6, .ref p7] ++ [.ref p8, .ref p9]))) b g n := by
      obtain ⟨gs, lf, tn, bl, g1, g2, g3⟩ := B1
      exact ⟨gs, lf, tn, bl, by rw [upd_ne lq.1.symm]; exact g1, by rw [upd_ne lq.2.symm]; exact g2, g3⟩
    have s3' : Same H (upd Gr q (.lst ([.ref p1, .ref p2, .ref p3, .ref p4, .ref p5, .ref p6, .ref p7] ++ [.ref p8, .ref p9]))) := fun x o h => by
      have hx : x ≠ q := fun z => by
        have sH : Same H G7 := s0.trans (s1.trans (s2.trans (s3.trans (s4.trans (s5.trans (s6.trans s7))))))
        have := sH _ _ h
        rw [z, hq] at this
        cases this
      rw [upd_ne hx]
      exact sr _ _ h
    generalize hG : upd Gr q (.lst ([.ref p1, .ref p2, .ref p3, .ref p4, .ref p5, .ref p6, .ref p7] ++ [.ref p8, .ref p9])) = H1 at *
    refine ⟨_, rfl, l, _, rfl, .inl (s3'.seq hl), _, rfl, ?_, ?_, ?_⟩
    · omega
    · omega
    refine for_range (lo := 0) (fun i σ H' => ∃ (v4 : Option V) (ys : List V) (rs' : List Raw), σ = [some (.ref b), some (.ref l), some (.ref p), some (.ref q), v4] ∧ Keep b g H H' ∧ Bag H' b g (n + 2 * i) ∧ H' p = some (.lst ys) ∧ RawsOf K H' ys rs' ∧ (∀ r ∈ rs', RawSml r) ∧ rs'.length = rs.length ∧
        H' q = some (.lst [.ref p1, .ref p2, .ref p3, .ref p4, .ref p5, .ref p6, .ref p7, .ref p8, .ref p9]) ∧ RawsOf K H' [.ref p1, .ref p2, .ref p3, .ref p4, .ref p5, .ref p6, .ref p7, .ref p8, .ref p9] oddR) ⟨none, xs, rs, rfl, Keep.of s3', B3, fp3, hrr3, sm, rfl, fq3, odds2⟩ (fun i σ H2 hi h => ?_) (fun σ H2 h => ?_)
    · obtain ⟨v4, ys, rs', rfl, kp, B, hp2, hr2, sm2, ln2, hq2', od2⟩ := h
      have ly := Paired.length hr2
      refine ⟨_, rfl, b, g, _, 6, rfl, B, by omega, by decide, by decide, fun H3 d kp3 B3 d0 d1 => ?_⟩
      have hp3 := kp3 _ _ lp.1 lp.2 hp2
      have hq3 := kp3 _ _ lq.1 lq.2 hq2'
      have hr3 := hr2.keepB kp3 B
      have od3 := od2.keepB kp3 B
      refine ⟨rfl, _, rfl, ite2 (fun c => ?_) (fun c => ?_)⟩
      · refine ⟨_, rfl, _, rfl, _, rfl, q, _, rfl, .inl (SqL.of hq3), b, g, _, 9, rfl, B3, by omega, by decide, by decide, fun H4 e kp4 B4 e0 e1 => ?_⟩
        have hp4 := kp4 _ _ lp.1 lp.2 hp3
        have hq4 := kp4 _ _ lq.1 lq.2 hq3
        have hr4 := hr3.keepB kp4 B3
        have od4 := od3.keepB kp4 B3
        have l9 : e.toNat < 9 := by omega
        obtain ⟨y, hy⟩ : ∃ y, ([.ref p1, .ref p2, .ref p3, .ref p4, .ref p5, .ref p6, .ref p7, .ref p8, .ref p9] : List V)[e.toNat]? = some y := ⟨_, List.getElem?_eq_getElem (by show e.toNat < 9; exact l9)⟩
        obtain ⟨r, hr1, hra⟩ := paired_at od4 hy
        refine ⟨q, _, _, _, rfl, rfl, SqL.of hq4, at_of (j := e.toNat) (by omega) hy, ?_⟩
        refine ⟨_, rfl, _, rfl, p, ys, _, i, rfl, rfl, hp4, by rw [Int.zero_add]; exact ixN_natS (by omega), ?_⟩
        have ra2 := pairs_set i hr4 hra
        refine ⟨_, ys.set i y, rs'.set i r, rfl, fun x o n1 n2 h => ?_, ?_, upd_same, RawsOf.lput hp4 ra2, fun r' hr' => ?_, by rw [List.length_set]; exact ln2, ?_, od4.lput hp4⟩
        · have hx : x ≠ p := fun z => by
            rw [z, hp] at h
            cases h
          rw [upd_ne hx]
          exact kp4 _ _ n1 n2 (kp3 _ _ n1 n2 (kp _ _ n1 n2 h))
        · obtain ⟨gs, lf, tn, bl, g1, g2, g3, g4, g5, g6⟩ := B4
          exact ⟨gs, lf, tn, bl, by rw [upd_ne lp.1.symm]; exact g1, by rw [upd_ne lp.2.symm]; exact g2, g3, g4, by omega, g6⟩
        · rcases List.mem_or_eq_of_mem_set hr' with z | z
          · exact sm2 _ z
          · rw [z]
            exact odd_sml r (List.mem_of_getElem? hr1)
        · rw [upd_ne pq.symm]
          exact hq4
      · refine ⟨_, ys, rs', rfl, kp.trans kp3, B3.more (by omega), hp3, hr3, sm2, ln2, hq3, od3⟩
    · obtain ⟨v4, ys, rs', rfl, kp, B, hp2, hr2, sm2, ln2, hq2', od2⟩ := h
      exact ⟨_, rfl, k _ p ys rs' kp (B.more (by omega)) hp hp2 hr2 sm2 ln2⟩
end
end Gc

namespace Gc
open PySem L2
abbrev s_law : Stmt := top 50
def spLaw (K : PySem.W.Frag) : Sp := fun vs H Q _ => ∃ (a : Addr) (ns : List Int), vs = [.ref a] ∧ SqL K H a (ns.map V.int) ∧ ns.length ≤ 63 ∧ ∀ H', Q (.bl true) H'
@[irreducible] def zCaught (K : PySem.W.Frag) : Sp := spCaught K
theorem zCaught_eq (K : PySem.W.Frag) : zCaught K = spCaught K := by unfold zCaught; rfl
@[irreducible] def zOdue (K : PySem.W.Frag) : Sp := spOdue K
theorem zOdue_eq (K : PySem.W.Frag) : zOdue K = spOdue K := by unfold zOdue; rfl
@[irreducible] def zCdue (K : PySem.W.Frag) : Sp := spCdue K
theorem zCdue_eq (K : PySem.W.Frag) : zCdue K = spCdue K := by unfold zCdue; rfl
theorem ask_caught {K : PySem.W.Frag} {H : Hp} {Q : VK} {E : XK} {wch : Int} {t c l z : Addr} {T : List Int} {row : Int} {g : Option Int} {xs : List V} {rs : List Raw} {aim : Option Int} {lines most : Int} (ri : RawIn K H t l T xs rs) (ln : rs.length ≤ 100) (hc : SqT K H c [.int row, optV g])
    (hz : SqT K H z [.int lines, .int most]) (l40 : lines ≤ 40) (m110 : most < 2 ^ 110) (k : (wch = 0 ∧ ∀ H' v, Same H H' → Dp K H' v (dueD row aim (runDue T row aim rs)) → Q v H') ∨ (wch = 1 ∧ ∀ H' v, Same H H' → Dp K H' v (cntD row g (cntDue lines most row g rs aim)) → Q v H')) :
    zCaught K [.int wch, .ref t, .ref c, .ref l, optV aim, .ref z] H Q E := by
  rw [zCaught_eq]
  exact ⟨wch, t, c, l, z, T, row, g, xs, rs, aim, lines, most, rfl, ri, ln, hc, hz, l40, m110, k⟩
theorem ask_odue {K : PySem.W.Frag} {H : Hp} {Q : VK} {E : XK} {t l : Addr} {T : List Int} {row : Int} {xs : List V} {rs : List Raw} {aim : Option Int} (ri : RawIn K H t l T xs rs) (ln : rs.length ≤ 1000) (lt : T.length ≤ 1000) (sm : ∀ r ∈ rs, RawSml r)
    (k : ∀ H' v, Same H H' → Dp K H' v (dueD row aim (runDue T row aim rs)) → Q v H') : zOdue K [.ref t, .int row, optV aim, .ref l] H Q E := by
  rw [zOdue_eq]
  exact ⟨t, l, T, row, aim, xs, rs, rfl, ri, ln, lt, sm, k⟩
theorem ask_cdue {K : PySem.W.Frag} {H : Hp} {Q : VK} {E : XK} {c l : Addr} {lines most row : Int} {g aim : Option Int} {xs : List V} {rs : List Raw} (hc : SqT K H c [.int row, optV g]) (hl : SqL K H l xs) (hrs : RawsOf K H xs rs) (ln : rs.length ≤ 1000)
    (k : ∀ H' v, Same H H' → Dp K H' v (cntD row g (cntDue lines most row g rs aim)) → Q v H') : zCdue K [.int lines, .int most, .ref c, .ref l, optV aim] H Q E := by
  rw [zCdue_eq]
  exact ⟨c, l, lines, most, row, g, aim, xs, rs, rfl, hc, hl, hrs, ln, k⟩
theorem dueD_lay (row : Int) (aim : Option Int) (d : Due) : (dueD row aim d).canLay0 = true := by
  have h1 : PyData.strOk "text" = true := by decide +kernel
  have h2 : PyData.strOk "cursor" = true := by decide +kernel
  have h3 : PyData.strOk "command" = true := by decide +kernel
  have h4 : PyData.strOk "off" = true := by decide +kernel
  cases d <;> cases aim <;> simp [dueD, wordD, optQ, PyData.canLayAll0, PyData.canLay0, h1, h2, h3, h4]
theorem cntD_lay (row : Int) (g : Option Int) (d : CDue) : (cntD row g d).canLay0 = true := by
  have h1 : PyData.strOk "number" = true := by decide +kernel
  have h2 : PyData.strOk "cursor" = true := by decide +kernel
  have h3 : PyData.strOk "command" = true := by decide +kernel
  cases d <;> cases g <;> simp [cntD, wordD, optQ, PyData.canLayAll0, PyData.canLay0, h1, h2, h3]
theorem dueD_shaped (row : Int) (aim : Option Int) (d : Due) : SeqAt.shaped (dueD row aim d) = true := by
  have hd : (dueD row aim d).depth ≤ 64 := by
    cases d <;> cases aim <;> simp [dueD, wordD, optQ, PyData.depth, PyData.depthAll]
  unfold SeqAt.shaped
  rw [dueD_lay, decide_eq_true hd]
  rfl
theorem cntD_shaped (row : Int) (g : Option Int) (d : CDue) : SeqAt.shaped (cntD row g d) = true := by
  have hd : (cntD row g d).depth ≤ 64 := by
    cases d <;> cases g <;> simp [cntD, wordD, optQ, PyData.depth, PyData.depthAll]
  unfold SeqAt.shaped
  rw [cntD_lay, decide_eq_true hd]
  rfl
theorem ite_ne {d : PyData} {A B : Prop} (e : PyData.eqv d d = true) (h : B) : if (!PyData.eqv d d) = true then A else B := by
  rw [e]
  exact iteF h
def rawC : Cmd → Raw
  | .down n => .two "down" n
  | .up n => .two "up" n
  | .right n => .two "right" n
  | .left n => .two "left" n
  | .home => .one "home"
  | .stop => .one "end"
theorem raws_of {K : PySem.W.Frag} {H : Hp} : ∀ {xs : List V} {cs : List Cmd}, CmdsOf K H xs cs → RawsOf K H xs (cs.map rawC)
  | [], [], _ => .nil
  | _ :: _, c :: cs, .cons ⟨a, e, h⟩ q => .cons ⟨a, e, by cases c <;> exact h⟩ (raws_of q)
theorem raw_sml {c : Cmd} (h : CSml c) : RawSml (rawC c) := by
  cases c <;> exact h
section
variable {P : Program} {w : World} {K : PySem.W.Frag} {mg : Str → Option Value} {base : Heap}
theorem sc_law : FnScope ["script", "bag", "turn", "page", "moves", "start", "aim", "size", "number"] ["script"] (defScope s_law) := ⟨rfl, rfl, rfl, by decide +kernel, rfl, by decide +kernel, by decide +kernel⟩
theorem ok_law {f : Addr} {fd : FuncData} (F : Fun K "law" "law" s_law f fd) (T : TxtC mg) (c_law_bag : Cal P w K mg base 1 "_law_bag" (spBag K)) (c_law_draw : Cal P w K mg base 1 "_law_draw" spBdraw) (c_law_moves : Cal P w K mg base 2 "_law_moves" (spMoves K))
    (c_law_spoilt : Cal P w K mg base 2 "_law_spoilt" (spSpoilt K)) (c_law_caught : Cal P w K mg base 8 "_law_caught" (zCaught K)) (c_law_origins_due : Cal P w K mg base 3 "_law_origins_due" (zOdue K)) (c_law_count_due : Cal P w K mg base 2 "_law_count_due" (zCdue K)) :
    FnOk P w K mg base CX0 9 f fd ["script"] (spLaw K) := by
  refine F.ok sc_law (fun vs H Q E h => ?_) (fun cdv A outer s H vs Q E hr h => ?_)
  · obtain ⟨a, ns, rfl, _⟩ := h
    rfl
  · obtain ⟨a, ns, rfl, hS, hlen, k⟩ := h
    refine ⟨_, (pss_cons (ps_set (i := 1) sc_law.nd rfl (Or.inr rfl) (pe_cal c_law_bag hr (by decide) (by rfl) (pa_cons (pv 0) pa_nil)))
      (pss_cons (ps_for PassesOwn.never rfl (pi_range1 rfl T.range (pa_cons (pe_op op_add pe_int (pe_callB (call_min2 rfl) (by rfl) T.min (by decide +kernel) (pa_cons pe_int (pa_cons (pe_callB call_len_seq (by rfl) T.len (by decide +kernel) (pa_cons (pv 0) pa_nil)) pa_nil)))) pa_nil)) (pg_name (i := 2) sc_law.nd rfl (Or.inl rfl)) (pss_cons (ps_setLc (i := 3) (own := [("number", 8)]) rfl sc_law.nd rfl rfl (sw_true rfl rfl rfl (by decide +kernel)) (pi_range1 rfl T.range (pa_cons (pe_cal c_law_draw hr (by decide) (by rfl) (pa_cons (pv 1) (pa_cons pe_int pa_nil))) pa_nil)) (blkOk_by (N := ["script", "bag", "turn", "page", "moves", "start", "aim", "size", "number"]) (sc := defScope s_law) (by decide +kernel)) (fun _ _ _ _ _ => (pg_name (i := 8) sc_law.nd rfl (Or.inl rfl))) (fun _ _ _ _ _ => pts_nil) (fun _ _ _ _ _ => (pe_op op_sub (pe_cal c_law_draw hr (by decide) (by rfl) (pa_cons (pv 1) (pa_cons pe_int pa_nil))) (pe_op op_mulW (pe_callTy call_int1 (by rfl) T.int (by decide +kernel) (pa_cons (pe_cmpR op_eq (pe_cal c_law_draw hr (by decide) (by rfl) (pa_cons (pv 1) (pa_cons pe_int pa_nil))) pe_int (nomark _)) pa_nil)) pe_int))))
      (pss_cons (ps_set (i := 4) sc_law.nd rfl (Or.inl rfl) (pe_cal c_law_spoilt hr (by decide) (by rfl) (pa_cons (pv 1) (pa_cons (pe_cal c_law_moves hr (by decide) (by rfl) (pa_cons (pv 1) (pa_cons pe_int (pa_cons pe_int pa_nil)))) pa_nil))))
      (pss_cons (ps_set (i := 5) sc_law.nd rfl (Or.inl rfl) (pe_tup (pa_cons (pe_op op_sub (pe_cal c_law_draw hr (by decide) (by rfl) (pa_cons (pv 1) (pa_cons pe_int pa_nil))) pe_int) (pa_cons (pe_ix ix_tup (pe_tup (pa_cons (pe_op op_sub (pe_cal c_law_draw hr (by decide) (by rfl) (pa_cons (pv 1) (pa_cons pe_int pa_nil))) pe_int) (pa_cons pe_non (pa_cons (pe_op op_sub pe_int (pe_op op_pow pe_int pe_int)) pa_nil)))) (pe_op op_fdivW (pe_cal c_law_draw hr (by decide) (by rfl) (pa_cons (pv 1) (pa_cons pe_int pa_nil))) pe_int) (fun _ _ => rfl)) pa_nil))))
      (pss_cons (ps_set (i := 6) sc_law.nd rfl (Or.inl rfl) (pe_ix ix_tup (pe_tup (pa_cons (pe_cal c_law_draw hr (by decide) (by rfl) (pa_cons (pv 1) (pa_cons pe_int pa_nil))) (pa_cons pe_non (pa_cons (pe_un un_neg pe_int) pa_nil)))) (pe_op op_fdivW (pe_cal c_law_draw hr (by decide) (by rfl) (pa_cons (pv 1) (pa_cons pe_int pa_nil))) pe_int) (fun _ _ => rfl)))
      (pss_cons (ps_set (i := 7) sc_law.nd rfl (Or.inl rfl) (pe_tup (pa_cons (pe_op op_sub (pe_cal c_law_draw hr (by decide) (by rfl) (pa_cons (pv 1) (pa_cons pe_int pa_nil))) pe_int) (pa_cons (pe_op op_sub (pe_cal c_law_draw hr (by decide) (by rfl) (pa_cons (pv 1) (pa_cons pe_int pa_nil))) pe_int) pa_nil))))
      (pss_cons (ps_if (pt_cmpR (op_neD hr.units) (pe_cal c_law_caught hr (by decide) (by rfl) (pa_cons pe_int (pa_cons (pv 3) (pa_cons (pv 5) (pa_cons (pv 4) (pa_cons (pv 6) (pa_cons (pv 7) pa_nil))))))) (pe_cal c_law_origins_due hr (by decide) (by rfl) (pa_cons (pv 3) (pa_cons (pe_ix ix_tup (pv 5) pe_int (fun _ _ => rfl)) (pa_cons (pv 6) (pa_cons (pv 4) pa_nil))))) (nomark _)) (pss_one (ps_ret pe_bl)) pss_nil)
      (pss_one (ps_if (pt_cmpR (op_neD hr.units) (pe_cal c_law_caught hr (by decide) (by rfl) (pa_cons pe_int (pa_cons (pv 3) (pa_cons (pv 5) (pa_cons (pv 4) (pa_cons (pv 6) (pa_cons (pv 7) pa_nil))))))) (pe_cal c_law_count_due hr (by decide) (by rfl) (pa_cons (pe_ix ix_tup (pv 7) pe_int (fun _ _ => rfl)) (pa_cons (pe_ix ix_tup (pv 7) pe_int (fun _ _ => rfl)) (pa_cons (pv 5) (pa_cons (pv 4) (pa_cons (pv 6) pa_nil)))))) (nomark _)) (pss_one (ps_ret pe_bl)) pss_nil)))))))))
      (pss_one (ps_ret pe_bl)))), ?_⟩
    refine ⟨_, rfl, a, ns, rfl, hS, hlen, fun H1 b g e1 nb ng B1 => ?_⟩
    refine ⟨_, rfl, a, _, rfl, .inl (e1.seq hS), _, _, rfl, _, _, rfl, rfl, _, rfl, ?_, ?_, ?_⟩
    · omega
    · omega
    refine for_range (lo := 0) (fun i σ H' => ∃ v2 v3 v4 v5 v6 v7 : Option V, σ = [some (.ref a), some (.ref b), v2, v3, v4, v5, v6, v7, none] ∧ Bag H' b g (1000 * i)) ⟨none, none, none, none, none, none, rfl, B1⟩ (fun i σ H2 hi h => ?_) (fun σ H2 h => ?_)
    · obtain ⟨v2, v3, v4, v5, v6, v7, rfl, B2⟩ := h
      have hi' : i < 2 ^ 20 := by
        rw [List.length_map] at hi
        omega
      refine ⟨_, rfl, b, g, _, 5, rfl, B2, by omega, by decide, by decide, fun H3 d3 kp3 B3 d30 d31 => ⟨_, rfl, by omega, by omega, fun D hD => ?_⟩⟩
      obtain ⟨Db, Dg⟩ := B3.off hD
      refine lc_range (lo := 0) (fun j H' => ∃ pg : List Int, Keep b g H3 H' ∧ Bag H' b g (1000 * i + 1 + 2 * j) ∧ H' D = some (.lst (pg.map V.int)) ∧ pg.length = j)
        ⟨[], Keep.of (same_upd (Same.refl _) hD), B3.same (same_upd (Same.refl _) hD), upd_same, rfl⟩ (fun j H' hj h => ?_) (fun H4 h => ?_)
      · obtain ⟨pg, kp, B, hd, pl⟩ := h
        refine ⟨rfl, ?_⟩
        refine ⟨_, rfl, b, g, _, 9, rfl, B, by omega, by decide, by decide, fun H6 v kp6 B6 v0 v1 => ?_⟩
        refine ⟨_, rfl, b, g, _, 9, rfl, B6, by omega, by decide, by decide, fun H7 u kp7 B7 u0 u1 => ?_⟩
        refine ⟨rfl, .inr ⟨_, rfl, _, _, rfl, rfl, wide_mul (a := 2) (b := 5) (by split <;> decide) (by decide) (by decide) (by decide) (by decide), _, _, rfl, rfl, ?_⟩⟩
        have kp67 := (kp.trans kp6).trans kp7
        have hd7 := kp7 _ _ Db Dg (kp6 _ _ Db Dg hd)
        refine ⟨_, hd7, small_n (by rw [List.length_map]; omega), pg ++ [_], fun x o n1 n2 hx => ?_, ?_, by rw [upd_same, List.map_append]; rfl, by rw [List.length_append, List.length_singleton, pl]⟩
        · rw [upd_ne (ne_of_none hx hD)]
          exact kp67 _ _ n1 n2 hx
        · obtain ⟨gs, lf, tn, bl, g1, g2, g3, g4, g5, g6⟩ := B7
          exact ⟨gs, lf, tn, bl, by rw [upd_ne Db.symm]; exact g1, by rw [upd_ne Dg.symm]; exact g2, g3, g4, by omega, g6⟩
      obtain ⟨pg, kp4, B4, hd4, pl⟩ := h
      refine ⟨_, rfl, _, rfl, b, g, _, 6, 6, rfl, B4, by omega, by decide, by decide, by decide, by decide, fun H5 l0 xs0 cs0 kp5 B5 nl0 hl0 hc0 ok0 sm0 ln0 => ?_⟩
      refine ⟨b, g, l0, _, xs0, cs0.map rawC, rfl, B5, by omega, SqL.of hl0, raws_of hc0, by rw [List.length_map]; omega, (fun r hr => ?_), fun H6 p ys rs kp6 B6 np hp hrs sm ln => ?_⟩
      · obtain ⟨c, hc, rfl⟩ := List.mem_map.mp hr
        exact raw_sml (sm0 c hc)
      rw [List.length_map] at ln
      refine ⟨_, rfl, b, g, _, 6, rfl, B6, by omega, by decide, by decide, fun H7 q0 kp7 B7 q00 q01 => ⟨_, _, rfl, rfl, ?_⟩⟩
      refine ⟨_, rfl, b, g, _, 9, rfl, B7, by omega, by decide, by decide, fun H8 q1 kp8 B8 q10 q11 => ⟨_, _, rfl, rfl, ?_⟩⟩
      refine ⟨_, _, rfl, rfl, cpow (by decide), _, _, rfl, rfl, (by show 3 ≤ sizeLine; decide), fun t1 ht1 => ?_⟩
      have hts : ∀ z : Int, 0 ≤ z → z < 5 → ∃ (j : Nat), z / 2 = (j : Int) ∧ j < 3 := fun z z0 z1 => ⟨(z / 2).toNat, by omega, by omega⟩
      have m8 : Keep b g H6 H8 := kp7.trans kp8
      have st1 := same_upd (Same.refl H8) ht1 (o := .tup [(fun i j => V.int (i - j)) q1 1, .non, (fun i j => V.int (i - j)) 0 (10 ^ Int.toNat 29)])
      have ft1 : SqT K (upd H8 t1 (.tup [(fun i j => V.int (i - j)) q1 1, .non, (fun i j => V.int (i - j)) 0 (10 ^ Int.toNat 29)])) t1 ([some (q1 - 1), none, some (0 - 10 ^ 29)].map optV) := SqT.of upd_same
      generalize upd H8 t1 (.tup [(fun i j => V.int (i - j)) q1 1, .non, (fun i j => V.int (i - j)) 0 (10 ^ Int.toNat 29)]) = H9 at *
      have B9 := B8.same st1
      refine ⟨_, rfl, b, g, _, 5, rfl, B9, by omega, by decide, by decide, fun H10 q2 kp10 B10 q20 q21 => ?_⟩
      obtain ⟨j2, ej2, lj2⟩ := hts q2 q20 q21
      have div5 : ∀ z : Int, 0 ≤ z → z < 5 → CDivW z 2 := fun z z0 z1 => ⟨by decide, by decide⟩
      obtain ⟨g0, hg0⟩ : ∃ g0, [some (q1 - 1), none, some (0 - 10 ^ 29)][j2]? = some g0 := ⟨_, List.getElem?_eq_getElem (by show j2 < 3; exact lj2)⟩
      refine ⟨_, _, rfl, rfl, div5 q2 q20 q21, t1, _, _, _, rfl, rfl, kp10.tup B9 ft1, at_of (j := j2) ej2 (by rw [List.getElem?_map, hg0]; rfl), (by show 2 ≤ sizeLine; decide), fun c hc => ?_⟩
      have sc1 := same_upd (Same.refl H10) hc (o := .tup [(fun i j => V.int (i - j)) q0 1, optV g0])
      have fc1 : upd H10 c (.tup [(fun i j => V.int (i - j)) q0 1, optV g0]) c = some (.tup [.int (q0 - 1), optV g0]) := upd_same
      generalize upd H10 c (.tup [(fun i j => V.int (i - j)) q0 1, optV g0]) = H11 at *
      have B11 := B10.same sc1
      refine ⟨_, rfl, b, g, _, 9, rfl, B11, by omega, by decide, by decide, fun H12 q3 kp12 B12 q30 q31 => ?_⟩
      refine ⟨_, rfl, (by show 3 ≤ sizeLine; decide), fun t2 ht2 => ?_⟩
      have st2 := same_upd (Same.refl H12) ht2 (o := .tup [.int q3, .non, .int (-1)])
      have ft2 : SqT K (upd H12 t2 (.tup [.int q3, .non, .int (-1)])) t2 ([some q3, none, some (-1)].map optV) := SqT.of upd_same
      generalize upd H12 t2 (.tup [.int q3, .non, .int (-1)]) = H13 at *
      have B13 := B12.same st2
      refine ⟨_, rfl, b, g, _, 5, rfl, B13, by omega, by decide, by decide, fun H14 q4 kp14 B14 q40 q41 => ?_⟩
      obtain ⟨j4, ej4, lj4⟩ := hts q4 q40 q41
      obtain ⟨aim, haim⟩ : ∃ aim, [some q3, none, some (-1)][j4]? = some aim := ⟨_, List.getElem?_eq_getElem (by show j4 < 3; exact lj4)⟩
      refine ⟨_, _, rfl, rfl, div5 q4 q40 q41, t2, _, _, _, rfl, rfl, kp14.tup B13 ft2, at_of (j := j4) ej4 (by rw [List.getElem?_map, haim]; rfl), ?_⟩
      refine ⟨_, rfl, b, g, _, 6, rfl, B14, by omega, by decide, by decide, fun H15 q5 kp15 B15 q50 q51 => ⟨_, _, rfl, rfl, ?_⟩⟩
      refine ⟨_, rfl, b, g, _, 9, rfl, B15, by omega, by decide, by decide, fun H16 q6 kp16 B16 q60 q61 => ⟨_, _, rfl, rfl, (by show 2 ≤ sizeLine; decide), fun z hz => ?_⟩⟩
      have sz := same_upd (Same.refl H16) hz (o := .tup [(fun i j => V.int (i - j)) q5 1, (fun i j => V.int (i - j)) q6 1])
      have fz : SqT K (upd H16 z (.tup [(fun i j => V.int (i - j)) q5 1, (fun i j => V.int (i - j)) q6 1])) z [.int (q5 - 1), .int (q6 - 1)] := SqT.of upd_same
      generalize upd H16 z (.tup [(fun i j => V.int (i - j)) q5 1, (fun i j => V.int (i - j)) q6 1]) = H17 at *
      have k1117 : Keep b g H11 H17 := kp12.trans ((Keep.of st2).trans (kp14.trans (kp15.trans (kp16.trans (Keep.of sz)))))
      have k617 : Keep b g H6 H17 := m8.trans ((Keep.of st1).trans (kp10.trans ((Keep.of sc1).trans k1117)))
      obtain ⟨pb, pg0⟩ := B5.off np
      have hd17 := (kp5.trans (kp6.trans k617)) _ _ Db Dg hd4
      have ri : RawIn K H17 D p pg ys rs := ⟨SqL.of hd17, SqL.of (k617 _ _ pb pg0 hp), hrs.keepB k617 B6, by omega⟩
      have fc17 : SqT K H17 c [.int (q0 - 1), optV g0] := k1117.tup B11 (SqT.of fc1)
      have B17 := B16.same sz
      have plb : pg.length ≤ 1000 := by omega
      refine ⟨_, rfl, _, rfl, _, rfl, _, rfl, _, rfl, ask_caught ri (by omega) fc17 fz (by omega) (by omega) (.inl ⟨rfl, fun H18 v1 e18 hv1 => ?_⟩)⟩
      have ri18 := ri.same e18
      have fc18 := seq_t e18 fc17
      refine ⟨_, rfl, _, rfl, c, _, 0, _, rfl, rfl, fc18, rfl, _, rfl, _, rfl, ask_odue ri18 (by omega) plb sm fun H19 u1 e19 hu1 => ?_⟩
      refine ⟨dueD _ _ _, dueD _ _ _, dp_same e19 _ _ hv1, hu1, dueD_shaped _ _ _, dueD_shaped _ _ _, _, rfl, ite_ne (SeqAt.eqv_refl _ (dueD_lay _ _ _)) ?_⟩
      have ri19 := ri18.same e19
      have fc19 := seq_t e19 fc18
      have fz19 := seq_t e19 (seq_t e18 fz)
      refine ⟨_, rfl, _, rfl, _, rfl, _, rfl, _, rfl, ask_caught ri19 (by omega) fc19 fz19 (by omega) (by omega) (.inr ⟨rfl, fun H20 v2' e20 hv2 => ?_⟩)⟩
      have ri20 := ri19.same e20
      have fc20 := seq_t e20 fc19
      have fz20 := seq_t e20 fz19
      refine ⟨_, rfl, z, _, 0, _, rfl, rfl, fz20, rfl, _, rfl, z, _, 1, _, rfl, rfl, fz20, rfl, _, rfl, _, rfl, _, rfl, ask_cdue fc20 ri20.2.1 ri20.2.2.1 (by omega) fun H21 u2 e21 hu2 => ?_⟩
      refine ⟨cntD _ _ _, cntD _ _ _, dp_same e21 _ _ hv2, hu2, cntD_shaped _ _ _, cntD_shaped _ _ _, _, rfl, ite_ne (SeqAt.eqv_refl _ (cntD_lay _ _ _)) ?_⟩
      exact ⟨_, _, _, _, _, _, rfl, ((((B17.same e18).same e19).same e20).same e21).more (by omega)⟩
    · obtain ⟨v2, v3, v4, v5, v6, v7, rfl, B2⟩ := h
      exact k H2
end
end Gc

/-! the __init__ of the errors -/
namespace Gc
open PySem L2
theorem kit_own {K : PySem.W.Frag} {C D : Addr} {b : Bool} (h1 : PySem.W.isClsIn K D = true) (h2 : PySem.W.typeIn K (.ref D) = some (.type "type"))
    (h3 : PySem.W.subIn K (.ref C) (.ref D) = some b) (hr : PySem.W.subIn K (.ref C) (.ref C) = some true) : PySem.W.kitOne K (.ref C) (.ref D) = some b := by
  unfold PySem.W.kitOne
  split
  · rename_i e
    have z : C = D := Value.ref.inj (beq_iff_eq.mp e)
    subst z
    exact hr.symm.trans h3
  · show (if ((PySem.W.clsIn K D).isSome && PySem.W.typeIn K (.ref D) == some (.type "type")) = true then PySem.W.subIn K (.ref C) (.ref D) else none) = some b
    have h1' : (PySem.W.clsIn K D).isSome = true := h1
    rw [h1', h2]
    exact h3
theorem kit_bl {K : PySem.W.Frag} {C : Addr} {T : String} {b : Bool} (hm : PySem.W.kitMeta T = true) (h : PySem.W.subIn K (.ref C) (.type T) = some b) : PySem.W.kitOne K (.ref C) (.type T) = some b := by
  unfold PySem.W.kitOne
  rw [if_neg (by intro e; cases beq_iff_eq.mp e)]
  show (if PySem.W.kitMeta T = true then PySem.W.subIn K (.ref C) (.type T) else none) = some b
  rw [if_pos hm]
  exact h
section
variable {P : Program} {w : World} {K : PySem.W.Frag} {mg : Str → Option Value} {base : Heap}
abbrev sI0 : Stmt := inClass (top 2) 0
theorem sc_I0 : FnScope ["self", "value"] ["self", "value"] (defScope sI0) := ⟨rfl, rfl, rfl, by decide +kernel, rfl, by decide +kernel, by decide +kernel⟩
theorem errc_I0 {fI C : Addr} {fd : FuncData} (F : Fun K "__init__" "InvalidText.__init__" sI0 fI fd) (T : OexC K C) (g : mg "InvalidText" = some (.ref C)) (no : PySem.W.findIn K (.ref C) "value" = some none)
    (iC : PySem.W.findIn K (.ref C) "__init__" = some (some (.ref fI))) (tI : PySem.W.typeIn K (.ref fI) = some (.type "function")) : ErrC P w K mg base "InvalidText" C := by
  have ok : FnOk P w K mg base CX0 1 fI fd ["self", "value"] (spKeep C) := by
    refine F.ok sc_I0 (fun vs H Q E h => ?_) (fun cdv A outer s H vs Q E hr h => ?_)
    · obtain ⟨a, v, rfl, _⟩ := h
      rfl
    · obtain ⟨a, v, rfl, ha, k⟩ := h
      refine ⟨_, pss_one (ps_ost (pv 0) (pv 1)), ?_⟩
      exact ⟨_, rfl, _, rfl, a, C, rfl, T, no, .inl ⟨ha, fun dx hd ne => k dx hd ne⟩⟩
  exact ⟨T, g, no, fI, fd, iC, tI, ok, F.binds (ps := ["self", "value"]) fun _ _ _ _ _ _ us hl => match us, hl with | [_, _], _ => rfl⟩
abbrev sI1 : Stmt := inClass (top 3) 0
theorem sc_I1 : FnScope ["self", "value"] ["self", "value"] (defScope sI1) := ⟨rfl, rfl, rfl, by decide +kernel, rfl, by decide +kernel, by decide +kernel⟩
theorem errc_I1 {fI C : Addr} {fd : FuncData} (F : Fun K "__init__" "InvalidCursor.__init__" sI1 fI fd) (T : OexC K C) (g : mg "InvalidCursor" = some (.ref C)) (no : PySem.W.findIn K (.ref C) "value" = some none)
    (iC : PySem.W.findIn K (.ref C) "__init__" = some (some (.ref fI))) (tI : PySem.W.typeIn K (.ref fI) = some (.type "function")) : ErrC P w K mg base "InvalidCursor" C := by
  have ok : FnOk P w K mg base CX0 1 fI fd ["self", "value"] (spKeep C) := by
    refine F.ok sc_I1 (fun vs H Q E h => ?_) (fun cdv A outer s H vs Q E hr h => ?_)
    · obtain ⟨a, v, rfl, _⟩ := h
      rfl
    · obtain ⟨a, v, rfl, ha, k⟩ := h
      refine ⟨_, pss_one (ps_ost (pv 0) (pv 1)), ?_⟩
      exact ⟨_, rfl, _, rfl, a, C, rfl, T, no, .inl ⟨ha, fun dx hd ne => k dx hd ne⟩⟩
  exact ⟨T, g, no, fI, fd, iC, tI, ok, F.binds (ps := ["self", "value"]) fun _ _ _ _ _ _ us hl => match us, hl with | [_, _], _ => rfl⟩
abbrev sI2 : Stmt := inClass (top 4) 0
theorem sc_I2 : FnScope ["self", "value"] ["self", "value"] (defScope sI2) := ⟨rfl, rfl, rfl, by decide +kernel, rfl, by decide +kernel, by decide +kernel⟩
theorem errc_I2 {fI C : Addr} {fd : FuncData} (F : Fun K "__init__" "InvalidCommand.__init__" sI2 fI fd) (T : OexC K C) (g : mg "InvalidCommand" = some (.ref C)) (no : PySem.W.findIn K (.ref C) "value" = some none)
    (iC : PySem.W.findIn K (.ref C) "__init__" = some (some (.ref fI))) (tI : PySem.W.typeIn K (.ref fI) = some (.type "function")) : ErrC P w K mg base "InvalidCommand" C := by
  have ok : FnOk P w K mg base CX0 1 fI fd ["self", "value"] (spKeep C) := by
    refine F.ok sc_I2 (fun vs H Q E h => ?_) (fun cdv A outer s H vs Q E hr h => ?_)
    · obtain ⟨a, v, rfl, _⟩ := h
      rfl
    · obtain ⟨a, v, rfl, ha, k⟩ := h
      refine ⟨_, pss_one (ps_ost (pv 0) (pv 1)), ?_⟩
      exact ⟨_, rfl, _, rfl, a, C, rfl, T, no, .inl ⟨ha, fun dx hd ne => k dx hd ne⟩⟩
  exact ⟨T, g, no, fI, fd, iC, tI, ok, F.binds (ps := ["self", "value"]) fun _ _ _ _ _ _ us hl => match us, hl with | [_, _], _ => rfl⟩
abbrev sI3 : Stmt := inClass (top 5) 0
theorem sc_I3 : FnScope ["self", "value"] ["self", "value"] (defScope sI3) := ⟨rfl, rfl, rfl, by decide +kernel, rfl, by decide +kernel, by decide +kernel⟩
theorem errc_I3 {fI C : Addr} {fd : FuncData} (F : Fun K "__init__" "Impossible.__init__" sI3 fI fd) (T : OexC K C) (g : mg "Impossible" = some (.ref C)) (no : PySem.W.findIn K (.ref C) "value" = some none)
    (iC : PySem.W.findIn K (.ref C) "__init__" = some (some (.ref fI))) (tI : PySem.W.typeIn K (.ref fI) = some (.type "function")) : ErrC P w K mg base "Impossible" C := by
  have ok : FnOk P w K mg base CX0 1 fI fd ["self", "value"] (spKeep C) := by
    refine F.ok sc_I3 (fun vs H Q E h => ?_) (fun cdv A outer s H vs Q E hr h => ?_)
    · obtain ⟨a, v, rfl, _⟩ := h
      rfl
    · obtain ⟨a, v, rfl, ha, k⟩ := h
      refine ⟨_, pss_one (ps_ost (pv 0) (pv 1)), ?_⟩
      exact ⟨_, rfl, _, rfl, a, C, rfl, T, no, .inl ⟨ha, fun dx hd ne => k dx hd ne⟩⟩
  exact ⟨T, g, no, fI, fd, iC, tI, ok, F.binds (ps := ["self", "value"]) fun _ _ _ _ _ _ us hl => match us, hl with | [_, _], _ => rfl⟩
abbrev sI4 : Stmt := inClass (top 6) 0
theorem sc_I4 : FnScope ["self", "value"] ["self", "value"] (defScope sI4) := ⟨rfl, rfl, rfl, by decide +kernel, rfl, by decide +kernel, by decide +kernel⟩
theorem errc_I4 {fI C : Addr} {fd : FuncData} (F : Fun K "__init__" "InvalidNumber.__init__" sI4 fI fd) (T : OexC K C) (g : mg "InvalidNumber" = some (.ref C)) (no : PySem.W.findIn K (.ref C) "value" = some none)
    (iC : PySem.W.findIn K (.ref C) "__init__" = some (some (.ref fI))) (tI : PySem.W.typeIn K (.ref fI) = some (.type "function")) : ErrC P w K mg base "InvalidNumber" C := by
  have ok : FnOk P w K mg base CX0 1 fI fd ["self", "value"] (spKeep C) := by
    refine F.ok sc_I4 (fun vs H Q E h => ?_) (fun cdv A outer s H vs Q E hr h => ?_)
    · obtain ⟨a, v, rfl, _⟩ := h
      rfl
    · obtain ⟨a, v, rfl, ha, k⟩ := h
      refine ⟨_, pss_one (ps_ost (pv 0) (pv 1)), ?_⟩
      exact ⟨_, rfl, _, rfl, a, C, rfl, T, no, .inl ⟨ha, fun dx hd ne => k dx hd ne⟩⟩
  exact ⟨T, g, no, fI, fd, iC, tI, ok, F.binds (ps := ["self", "value"]) fun _ _ _ _ _ _ us hl => match us, hl with | [_, _], _ => rfl⟩
end
end Gc

namespace Gc
open PySem L2
theorem all_mk {l : PySem.W.OpenLaw} {w : World} {K : PySem.W.Frag} {h : Heap} {mg : Str → Option Value} {fa : Addr} (X : K.In h) (G : h.Ns mainGlobals mg) (hfa : mg "law" = some (.ref fa))
    {wn wo : Addr} {odN odO : Option Addr} {nN nO : Nat} {slN slO : Array (Option Value)} {tn0 tn1 tn2 tn3 to0 to1 : Tok}
    {f_is_count : Addr} {oc_is_count kV_is_count dc_is_count pm_is_count cd_is_count ct_is_count : Value} {od_is_count an_is_count : Option Addr} {sl_is_count : Array (Option Value)}
    {f_is_command : Addr} {oc_is_command kV_is_command dc_is_command pm_is_command cd_is_command ct_is_command : Value} {od_is_command an_is_command : Option Addr} {sl_is_command : Array (Option Value)}
    {f_check_commands : Addr} {oc_check_commands kV_check_commands dc_check_commands pm_check_commands cd_check_commands ct_check_commands : Value} {od_check_commands an_check_commands : Option Addr} {sl_check_commands : Array (Option Value)}
    {f_check_number : Addr} {oc_check_number kV_check_number dc_check_number pm_check_number cd_check_number ct_check_number : Value} {od_check_number an_check_number : Option Addr} {sl_check_number : Array (Option Value)}
    {f_row_change : Addr} {oc_row_change kV_row_change dc_row_change pm_row_change cd_row_change ct_row_change : Value} {od_row_change an_row_change : Option Addr} {sl_row_change : Array (Option Value)}
    {f_reach : Addr} {oc_reach kV_reach dc_reach pm_reach cd_reach ct_reach : Value} {od_reach an_reach : Option Addr} {sl_reach : Array (Option Value)}
    {f_require : Addr} {oc_require kV_require dc_require pm_require cd_require ct_require : Value} {od_require an_require : Option Addr} {sl_require : Array (Option Value)}
    {f_box : Addr} {oc_box kV_box dc_box pm_box cd_box ct_box : Value} {od_box an_box : Option Addr} {sl_box : Array (Option Value)}
    {f_check_text : Addr} {oc_check_text kV_check_text dc_check_text pm_check_text cd_check_text ct_check_text : Value} {od_check_text an_check_text : Option Addr} {sl_check_text : Array (Option Value)}
    {f_check_cursor : Addr} {oc_check_cursor kV_check_cursor dc_check_cursor pm_check_cursor cd_check_cursor ct_check_cursor : Value} {od_check_cursor an_check_cursor : Option Addr} {sl_check_cursor : Array (Option Value)}
    {f_run : Addr} {oc_run kV_run dc_run pm_run cd_run ct_run : Value} {od_run an_run : Option Addr} {sl_run : Array (Option Value)}
    {f_shown_column : Addr} {oc_shown_column kV_shown_column dc_shown_column pm_shown_column cd_shown_column ct_shown_column : Value} {od_shown_column an_shown_column : Option Addr} {sl_shown_column : Array (Option Value)}
    {f_moved : Addr} {oc_moved kV_moved dc_moved pm_moved cd_moved ct_moved : Value} {od_moved an_moved : Option Addr} {sl_moved : Array (Option Value)}
    {f_new_goal : Addr} {oc_new_goal kV_new_goal dc_new_goal pm_new_goal cd_new_goal ct_new_goal : Value} {od_new_goal an_new_goal : Option Addr} {sl_new_goal : Array (Option Value)}
    {f_effect : Addr} {oc_effect kV_effect dc_effect pm_effect cd_effect ct_effect : Value} {od_effect an_effect : Option Addr} {sl_effect : Array (Option Value)}
    {f_total_change : Addr} {oc_total_change kV_total_change dc_total_change pm_total_change cd_total_change ct_total_change : Value} {od_total_change an_total_change : Option Addr} {sl_total_change : Array (Option Value)}
    {f_origins : Addr} {oc_origins kV_origins dc_origins pm_origins cd_origins ct_origins : Value} {od_origins an_origins : Option Addr} {sl_origins : Array (Option Value)}
    {f_is_less : Addr} {oc_is_less kV_is_less dc_is_less pm_is_less cd_is_less ct_is_less : Value} {od_is_less an_is_less : Option Addr} {sl_is_less : Array (Option Value)}
    {f_count_texts : Addr} {oc_count_texts kV_count_texts dc_count_texts pm_count_texts cd_count_texts ct_count_texts : Value} {od_count_texts an_count_texts : Option Addr} {sl_count_texts : Array (Option Value)}
    {f_count_reaching : Addr} {oc_count_reaching kV_count_reaching dc_count_reaching pm_count_reaching cd_count_reaching ct_count_reaching : Value} {od_count_reaching an_count_reaching : Option Addr} {sl_count_reaching : Array (Option Value)}
    {f_law_bag : Addr} {oc_law_bag kV_law_bag dc_law_bag pm_law_bag cd_law_bag ct_law_bag : Value} {od_law_bag an_law_bag : Option Addr} {sl_law_bag : Array (Option Value)}
    {f_law_draw : Addr} {oc_law_draw kV_law_draw dc_law_draw pm_law_draw cd_law_draw ct_law_draw : Value} {od_law_draw an_law_draw : Option Addr} {sl_law_draw : Array (Option Value)}
    {f_law_moves : Addr} {oc_law_moves kV_law_moves dc_law_moves pm_law_moves cd_law_moves ct_law_moves : Value} {od_law_moves an_law_moves : Option Addr} {sl_law_moves : Array (Option Value)}
    {f_law_end : Addr} {oc_law_end kV_law_end dc_law_end pm_law_end cd_law_end ct_law_end : Value} {od_law_end an_law_end : Option Addr} {sl_law_end : Array (Option Value)}
    {f_law_spoilt : Addr} {oc_law_spoilt kV_law_spoilt dc_law_spoilt pm_law_spoilt cd_law_spoilt ct_law_spoilt : Value} {od_law_spoilt an_law_spoilt : Option Addr} {sl_law_spoilt : Array (Option Value)}
    {f_law_bad_command : Addr} {oc_law_bad_command kV_law_bad_command dc_law_bad_command pm_law_bad_command cd_law_bad_command ct_law_bad_command : Value} {od_law_bad_command an_law_bad_command : Option Addr} {sl_law_bad_command : Array (Option Value)}
    {f_law_first_off : Addr} {oc_law_first_off kV_law_first_off dc_law_first_off pm_law_first_off cd_law_first_off ct_law_first_off : Value} {od_law_first_off an_law_first_off : Option Addr} {sl_law_first_off : Array (Option Value)}
    {f_law_origins_due : Addr} {oc_law_origins_due kV_law_origins_due dc_law_origins_due pm_law_origins_due cd_law_origins_due ct_law_origins_due : Value} {od_law_origins_due an_law_origins_due : Option Addr} {sl_law_origins_due : Array (Option Value)}
    {f_law_count_due : Addr} {oc_law_count_due kV_law_count_due dc_law_count_due pm_law_count_due cd_law_count_due ct_law_count_due : Value} {od_law_count_due an_law_count_due : Option Addr} {sl_law_count_due : Array (Option Value)}
    {f_law_kind : Addr} {oc_law_kind kV_law_kind dc_law_kind pm_law_kind cd_law_kind ct_law_kind : Value} {od_law_kind an_law_kind : Option Addr} {sl_law_kind : Array (Option Value)}
    {f_law_caught : Addr} {oc_law_caught kV_law_caught dc_law_caught pm_law_caught cd_law_caught ct_law_caught : Value} {od_law_caught an_law_caught : Option Addr} {sl_law_caught : Array (Option Value)}
    {f_law : Addr} {oc_law kV_law dc_law pm_law cd_law ct_law : Value} {od_law an_law : Option Addr} {sl_law : Array (Option Value)}
    {CE : Addr}
    {C0 : Addr}
    {f0 N0 : Addr} {nm0 q0 : Str} {bs0 : List Value} {sn0 : List Str} {sub0 : List Value} {ab0 : Bool} {col0 : Option Bool} {dd0 : Option Addr} {p0_0 p0_1 p0_2 p0_3 p0_5 : Option Value}
    {oc0 kV0 dc0 pm0 cd0 ct0 : Value} {od0 an0 : Option Addr} {sl0 : Array (Option Value)}
    {C1 : Addr}
    {f1 N1 : Addr} {nm1 q1 : Str} {bs1 : List Value} {sn1 : List Str} {sub1 : List Value} {ab1 : Bool} {col1 : Option Bool} {dd1 : Option Addr} {p1_0 p1_1 p1_2 p1_3 p1_5 : Option Value}
    {oc1 kV1 dc1 pm1 cd1 ct1 : Value} {od1 an1 : Option Addr} {sl1 : Array (Option Value)}
    {C2 : Addr}
    {f2 N2 : Addr} {nm2 q2 : Str} {bs2 : List Value} {sn2 : List Str} {sub2 : List Value} {ab2 : Bool} {col2 : Option Bool} {dd2 : Option Addr} {p2_0 p2_1 p2_2 p2_3 p2_5 : Option Value}
    {oc2 kV2 dc2 pm2 cd2 ct2 : Value} {od2 an2 : Option Addr} {sl2 : Array (Option Value)}
    {C3 : Addr}
    {f3 N3 : Addr} {nm3 q3 : Str} {bs3 : List Value} {sn3 : List Str} {sub3 : List Value} {ab3 : Bool} {col3 : Option Bool} {dd3 : Option Addr} {p3_0 p3_1 p3_2 p3_3 p3_5 : Option Value}
    {oc3 kV3 dc3 pm3 cd3 ct3 : Value} {od3 an3 : Option Addr} {sl3 : Array (Option Value)}
    {C4 : Addr}
    {f4 N4 : Addr} {nm4 q4 : Str} {bs4 : List Value} {sn4 : List Str} {sub4 : List Value} {ab4 : Bool} {col4 : Option Bool} {dd4 : Option Addr} {p4_0 p4_1 p4_2 p4_3 p4_5 : Option Value}
    {oc4 kV4 dc4 pm4 cd4 ct4 : Value} {od4 an4 : Option Addr} {sl4 : Array (Option Value)}
    {C5 : Addr}
    {C6 : Addr}
    (aWN : PySem.W.nsIn K mainGlobals "WITH_NUMBER" = some (some (.ref wn)))
    (aWO : PySem.W.nsIn K mainGlobals "WITHOUT_NUMBER" = some (some (.ref wo)))
    (lWN : K.lookup wn = some ⟨.type "tuple", odN, .seq #[.str "down" tn0, .str "up" tn1, .str "right" tn2, .str "left" tn3] nN, slN⟩)
    (lWO : K.lookup wo = some ⟨.type "tuple", odO, .seq #[.str "home" to0, .str "end" to1] nO, slO⟩)
    (a_is_count : PySem.W.nsIn K mainGlobals "is_count" = some (some (.ref f_is_count)))
    (l_is_count : K.lookup f_is_count = some ⟨oc_is_count, od_is_count, .func (PySem.W.fnOf "is_count" "is_count" (defArgs s_is_count) (defBody s_is_count) (defScope s_is_count) .none kV_is_count dc_is_count pm_is_count an_is_count cd_is_count ct_is_count), sl_is_count⟩)
    (c_is_count : PySem.W.codeIn K cd_is_count "is_count" = true)
    (k_is_count : PySem.W.keepIn K (.ref f_is_count) = true)
    (a_is_command : PySem.W.nsIn K mainGlobals "is_command" = some (some (.ref f_is_command)))
    (l_is_command : K.lookup f_is_command = some ⟨oc_is_command, od_is_command, .func (PySem.W.fnOf "is_command" "is_command" (defArgs s_is_command) (defBody s_is_command) (defScope s_is_command) .none kV_is_command dc_is_command pm_is_command an_is_command cd_is_command ct_is_command), sl_is_command⟩)
    (c_is_command : PySem.W.codeIn K cd_is_command "is_command" = true)
    (k_is_command : PySem.W.keepIn K (.ref f_is_command) = true)
    (a_check_commands : PySem.W.nsIn K mainGlobals "check_commands" = some (some (.ref f_check_commands)))
    (l_check_commands : K.lookup f_check_commands = some ⟨oc_check_commands, od_check_commands, .func (PySem.W.fnOf "check_commands" "check_commands" (defArgs s_check_commands) (defBody s_check_commands) (defScope s_check_commands) .none kV_check_commands dc_check_commands pm_check_commands an_check_commands cd_check_commands ct_check_commands), sl_check_commands⟩)
    (c_check_commands : PySem.W.codeIn K cd_check_commands "check_commands" = true)
    (k_check_commands : PySem.W.keepIn K (.ref f_check_commands) = true)
    (a_check_number : PySem.W.nsIn K mainGlobals "check_number" = some (some (.ref f_check_number)))
    (l_check_number : K.lookup f_check_number = some ⟨oc_check_number, od_check_number, .func (PySem.W.fnOf "check_number" "check_number" (defArgs s_check_number) (defBody s_check_number) (defScope s_check_number) .none kV_check_number dc_check_number pm_check_number an_check_number cd_check_number ct_check_number), sl_check_number⟩)
    (c_check_number : PySem.W.codeIn K cd_check_number "check_number" = true)
    (k_check_number : PySem.W.keepIn K (.ref f_check_number) = true)
    (a_row_change : PySem.W.nsIn K mainGlobals "row_change" = some (some (.ref f_row_change)))
    (l_row_change : K.lookup f_row_change = some ⟨oc_row_change, od_row_change, .func (PySem.W.fnOf "row_change" "row_change" (defArgs s_row_change) (defBody s_row_change) (defScope s_row_change) .none kV_row_change dc_row_change pm_row_change an_row_change cd_row_change ct_row_change), sl_row_change⟩)
    (c_row_change : PySem.W.codeIn K cd_row_change "row_change" = true)
    (k_row_change : PySem.W.keepIn K (.ref f_row_change) = true)
    (a_reach : PySem.W.nsIn K mainGlobals "reach" = some (some (.ref f_reach)))
    (l_reach : K.lookup f_reach = some ⟨oc_reach, od_reach, .func (PySem.W.fnOf "reach" "reach" (defArgs s_reach) (defBody s_reach) (defScope s_reach) .none kV_reach dc_reach pm_reach an_reach cd_reach ct_reach), sl_reach⟩)
    (c_reach : PySem.W.codeIn K cd_reach "reach" = true)
    (k_reach : PySem.W.keepIn K (.ref f_reach) = true)
    (a_require : PySem.W.nsIn K mainGlobals "require" = some (some (.ref f_require)))
    (l_require : K.lookup f_require = some ⟨oc_require, od_require, .func (PySem.W.fnOf "require" "require" (defArgs s_require) (defBody s_require) (defScope s_require) .none kV_require dc_require pm_require an_require cd_require ct_require), sl_require⟩)
    (c_require : PySem.W.codeIn K cd_require "require" = true)
    (k_require : PySem.W.keepIn K (.ref f_require) = true)
    (a_box : PySem.W.nsIn K mainGlobals "box" = some (some (.ref f_box)))
    (l_box : K.lookup f_box = some ⟨oc_box, od_box, .func (PySem.W.fnOf "box" "box" (defArgs s_box) (defBody s_box) (defScope s_box) .none kV_box dc_box pm_box an_box cd_box ct_box), sl_box⟩)
    (c_box : PySem.W.codeIn K cd_box "box" = true)
    (k_box : PySem.W.keepIn K (.ref f_box) = true)
    (a_check_text : PySem.W.nsIn K mainGlobals "check_text" = some (some (.ref f_check_text)))
    (l_check_text : K.lookup f_check_text = some ⟨oc_check_text, od_check_text, .func (PySem.W.fnOf "check_text" "check_text" (defArgs s_check_text) (defBody s_check_text) (defScope s_check_text) .none kV_check_text dc_check_text pm_check_text an_check_text cd_check_text ct_check_text), sl_check_text⟩)
    (c_check_text : PySem.W.codeIn K cd_check_text "check_text" = true)
    (k_check_text : PySem.W.keepIn K (.ref f_check_text) = true)
    (a_check_cursor : PySem.W.nsIn K mainGlobals "check_cursor" = some (some (.ref f_check_cursor)))
    (l_check_cursor : K.lookup f_check_cursor = some ⟨oc_check_cursor, od_check_cursor, .func (PySem.W.fnOf "check_cursor" "check_cursor" (defArgs s_check_cursor) (defBody s_check_cursor) (defScope s_check_cursor) .none kV_check_cursor dc_check_cursor pm_check_cursor an_check_cursor cd_check_cursor ct_check_cursor), sl_check_cursor⟩)
    (c_check_cursor : PySem.W.codeIn K cd_check_cursor "check_cursor" = true)
    (k_check_cursor : PySem.W.keepIn K (.ref f_check_cursor) = true)
    (a_run : PySem.W.nsIn K mainGlobals "run" = some (some (.ref f_run)))
    (l_run : K.lookup f_run = some ⟨oc_run, od_run, .func (PySem.W.fnOf "run" "run" (defArgs s_run) (defBody s_run) (defScope s_run) .none kV_run dc_run pm_run an_run cd_run ct_run), sl_run⟩)
    (c_run : PySem.W.codeIn K cd_run "run" = true)
    (k_run : PySem.W.keepIn K (.ref f_run) = true)
    (a_shown_column : PySem.W.nsIn K mainGlobals "shown_column" = some (some (.ref f_shown_column)))
    (l_shown_column : K.lookup f_shown_column = some ⟨oc_shown_column, od_shown_column, .func (PySem.W.fnOf "shown_column" "shown_column" (defArgs s_shown_column) (defBody s_shown_column) (defScope s_shown_column) .none kV_shown_column dc_shown_column pm_shown_column an_shown_column cd_shown_column ct_shown_column), sl_shown_column⟩)
    (c_shown_column : PySem.W.codeIn K cd_shown_column "shown_column" = true)
    (k_shown_column : PySem.W.keepIn K (.ref f_shown_column) = true)
    (a_moved : PySem.W.nsIn K mainGlobals "moved" = some (some (.ref f_moved)))
    (l_moved : K.lookup f_moved = some ⟨oc_moved, od_moved, .func (PySem.W.fnOf "moved" "moved" (defArgs s_moved) (defBody s_moved) (defScope s_moved) .none kV_moved dc_moved pm_moved an_moved cd_moved ct_moved), sl_moved⟩)
    (c_moved : PySem.W.codeIn K cd_moved "moved" = true)
    (k_moved : PySem.W.keepIn K (.ref f_moved) = true)
    (a_new_goal : PySem.W.nsIn K mainGlobals "new_goal" = some (some (.ref f_new_goal)))
    (l_new_goal : K.lookup f_new_goal = some ⟨oc_new_goal, od_new_goal, .func (PySem.W.fnOf "new_goal" "new_goal" (defArgs s_new_goal) (defBody s_new_goal) (defScope s_new_goal) .none kV_new_goal dc_new_goal pm_new_goal an_new_goal cd_new_goal ct_new_goal), sl_new_goal⟩)
    (c_new_goal : PySem.W.codeIn K cd_new_goal "new_goal" = true)
    (k_new_goal : PySem.W.keepIn K (.ref f_new_goal) = true)
    (a_effect : PySem.W.nsIn K mainGlobals "effect" = some (some (.ref f_effect)))
    (l_effect : K.lookup f_effect = some ⟨oc_effect, od_effect, .func (PySem.W.fnOf "effect" "effect" (defArgs s_effect) (defBody s_effect) (defScope s_effect) .none kV_effect dc_effect pm_effect an_effect cd_effect ct_effect), sl_effect⟩)
    (c_effect : PySem.W.codeIn K cd_effect "effect" = true)
    (k_effect : PySem.W.keepIn K (.ref f_effect) = true)
    (a_total_change : PySem.W.nsIn K mainGlobals "total_change" = some (some (.ref f_total_change)))
    (l_total_change : K.lookup f_total_change = some ⟨oc_total_change, od_total_change, .func (PySem.W.fnOf "total_change" "total_change" (defArgs s_total_change) (defBody s_total_change) (defScope s_total_change) .none kV_total_change dc_total_change pm_total_change an_total_change cd_total_change ct_total_change), sl_total_change⟩)
    (c_total_change : PySem.W.codeIn K cd_total_change "total_change" = true)
    (k_total_change : PySem.W.keepIn K (.ref f_total_change) = true)
    (a_origins : PySem.W.nsIn K mainGlobals "origins" = some (some (.ref f_origins)))
    (l_origins : K.lookup f_origins = some ⟨oc_origins, od_origins, .func (PySem.W.fnOf "origins" "origins" (defArgs s_origins) (defBody s_origins) (defScope s_origins) .none kV_origins dc_origins pm_origins an_origins cd_origins ct_origins), sl_origins⟩)
    (c_origins : PySem.W.codeIn K cd_origins "origins" = true)
    (k_origins : PySem.W.keepIn K (.ref f_origins) = true)
    (a_is_less : PySem.W.nsIn K mainGlobals "is_less" = some (some (.ref f_is_less)))
    (l_is_less : K.lookup f_is_less = some ⟨oc_is_less, od_is_less, .func (PySem.W.fnOf "is_less" "is_less" (defArgs s_is_less) (defBody s_is_less) (defScope s_is_less) .none kV_is_less dc_is_less pm_is_less an_is_less cd_is_less ct_is_less), sl_is_less⟩)
    (c_is_less : PySem.W.codeIn K cd_is_less "is_less" = true)
    (k_is_less : PySem.W.keepIn K (.ref f_is_less) = true)
    (a_count_texts : PySem.W.nsIn K mainGlobals "count_texts" = some (some (.ref f_count_texts)))
    (l_count_texts : K.lookup f_count_texts = some ⟨oc_count_texts, od_count_texts, .func (PySem.W.fnOf "count_texts" "count_texts" (defArgs s_count_texts) (defBody s_count_texts) (defScope s_count_texts) .none kV_count_texts dc_count_texts pm_count_texts an_count_texts cd_count_texts ct_count_texts), sl_count_texts⟩)
    (c_count_texts : PySem.W.codeIn K cd_count_texts "count_texts" = true)
    (k_count_texts : PySem.W.keepIn K (.ref f_count_texts) = true)
    (a_count_reaching : PySem.W.nsIn K mainGlobals "count_reaching" = some (some (.ref f_count_reaching)))
    (l_count_reaching : K.lookup f_count_reaching = some ⟨oc_count_reaching, od_count_reaching, .func (PySem.W.fnOf "count_reaching" "count_reaching" (defArgs s_count_reaching) (defBody s_count_reaching) (defScope s_count_reaching) .none kV_count_reaching dc_count_reaching pm_count_reaching an_count_reaching cd_count_reaching ct_count_reaching), sl_count_reaching⟩)
    (c_count_reaching : PySem.W.codeIn K cd_count_reaching "count_reaching" = true)
    (k_count_reaching : PySem.W.keepIn K (.ref f_count_reaching) = true)
    (a_law_bag : PySem.W.nsIn K mainGlobals "_law_bag" = some (some (.ref f_law_bag)))
    (l_law_bag : K.lookup f_law_bag = some ⟨oc_law_bag, od_law_bag, .func (PySem.W.fnOf "_law_bag" "_law_bag" (defArgs s_bag) (defBody s_bag) (defScope s_bag) .none kV_law_bag dc_law_bag pm_law_bag an_law_bag cd_law_bag ct_law_bag), sl_law_bag⟩)
    (c_law_bag : PySem.W.codeIn K cd_law_bag "_law_bag" = true)
    (k_law_bag : PySem.W.keepIn K (.ref f_law_bag) = true)
    (a_law_draw : PySem.W.nsIn K mainGlobals "_law_draw" = some (some (.ref f_law_draw)))
    (l_law_draw : K.lookup f_law_draw = some ⟨oc_law_draw, od_law_draw, .func (PySem.W.fnOf "_law_draw" "_law_draw" (defArgs s_bdraw) (defBody s_bdraw) (defScope s_bdraw) .none kV_law_draw dc_law_draw pm_law_draw an_law_draw cd_law_draw ct_law_draw), sl_law_draw⟩)
    (c_law_draw : PySem.W.codeIn K cd_law_draw "_law_draw" = true)
    (k_law_draw : PySem.W.keepIn K (.ref f_law_draw) = true)
    (a_law_moves : PySem.W.nsIn K mainGlobals "_law_moves" = some (some (.ref f_law_moves)))
    (l_law_moves : K.lookup f_law_moves = some ⟨oc_law_moves, od_law_moves, .func (PySem.W.fnOf "_law_moves" "_law_moves" (defArgs s_moves) (defBody s_moves) (defScope s_moves) .none kV_law_moves dc_law_moves pm_law_moves an_law_moves cd_law_moves ct_law_moves), sl_law_moves⟩)
    (c_law_moves : PySem.W.codeIn K cd_law_moves "_law_moves" = true)
    (k_law_moves : PySem.W.keepIn K (.ref f_law_moves) = true)
    (a_law_end : PySem.W.nsIn K mainGlobals "_law_end" = some (some (.ref f_law_end)))
    (l_law_end : K.lookup f_law_end = some ⟨oc_law_end, od_law_end, .func (PySem.W.fnOf "_law_end" "_law_end" (defArgs s_end) (defBody s_end) (defScope s_end) .none kV_law_end dc_law_end pm_law_end an_law_end cd_law_end ct_law_end), sl_law_end⟩)
    (c_law_end : PySem.W.codeIn K cd_law_end "_law_end" = true)
    (k_law_end : PySem.W.keepIn K (.ref f_law_end) = true)
    (a_law_spoilt : PySem.W.nsIn K mainGlobals "_law_spoilt" = some (some (.ref f_law_spoilt)))
    (l_law_spoilt : K.lookup f_law_spoilt = some ⟨oc_law_spoilt, od_law_spoilt, .func (PySem.W.fnOf "_law_spoilt" "_law_spoilt" (defArgs s_spoilt) (defBody s_spoilt) (defScope s_spoilt) .none kV_law_spoilt dc_law_spoilt pm_law_spoilt an_law_spoilt cd_law_spoilt ct_law_spoilt), sl_law_spoilt⟩)
    (c_law_spoilt : PySem.W.codeIn K cd_law_spoilt "_law_spoilt" = true)
    (k_law_spoilt : PySem.W.keepIn K (.ref f_law_spoilt) = true)
    (a_law_bad_command : PySem.W.nsIn K mainGlobals "_law_bad_command" = some (some (.ref f_law_bad_command)))
    (l_law_bad_command : K.lookup f_law_bad_command = some ⟨oc_law_bad_command, od_law_bad_command, .func (PySem.W.fnOf "_law_bad_command" "_law_bad_command" (defArgs s_badc) (defBody s_badc) (defScope s_badc) .none kV_law_bad_command dc_law_bad_command pm_law_bad_command an_law_bad_command cd_law_bad_command ct_law_bad_command), sl_law_bad_command⟩)
    (c_law_bad_command : PySem.W.codeIn K cd_law_bad_command "_law_bad_command" = true)
    (k_law_bad_command : PySem.W.keepIn K (.ref f_law_bad_command) = true)
    (a_law_first_off : PySem.W.nsIn K mainGlobals "_law_first_off" = some (some (.ref f_law_first_off)))
    (l_law_first_off : K.lookup f_law_first_off = some ⟨oc_law_first_off, od_law_first_off, .func (PySem.W.fnOf "_law_first_off" "_law_first_off" (defArgs s_foff) (defBody s_foff) (defScope s_foff) .none kV_law_first_off dc_law_first_off pm_law_first_off an_law_first_off cd_law_first_off ct_law_first_off), sl_law_first_off⟩)
    (c_law_first_off : PySem.W.codeIn K cd_law_first_off "_law_first_off" = true)
    (k_law_first_off : PySem.W.keepIn K (.ref f_law_first_off) = true)
    (a_law_origins_due : PySem.W.nsIn K mainGlobals "_law_origins_due" = some (some (.ref f_law_origins_due)))
    (l_law_origins_due : K.lookup f_law_origins_due = some ⟨oc_law_origins_due, od_law_origins_due, .func (PySem.W.fnOf "_law_origins_due" "_law_origins_due" (defArgs s_odue) (defBody s_odue) (defScope s_odue) .none kV_law_origins_due dc_law_origins_due pm_law_origins_due an_law_origins_due cd_law_origins_due ct_law_origins_due), sl_law_origins_due⟩)
    (c_law_origins_due : PySem.W.codeIn K cd_law_origins_due "_law_origins_due" = true)
    (k_law_origins_due : PySem.W.keepIn K (.ref f_law_origins_due) = true)
    (a_law_count_due : PySem.W.nsIn K mainGlobals "_law_count_due" = some (some (.ref f_law_count_due)))
    (l_law_count_due : K.lookup f_law_count_due = some ⟨oc_law_count_due, od_law_count_due, .func (PySem.W.fnOf "_law_count_due" "_law_count_due" (defArgs s_cdue) (defBody s_cdue) (defScope s_cdue) .none kV_law_count_due dc_law_count_due pm_law_count_due an_law_count_due cd_law_count_due ct_law_count_due), sl_law_count_due⟩)
    (c_law_count_due : PySem.W.codeIn K cd_law_count_due "_law_count_due" = true)
    (k_law_count_due : PySem.W.keepIn K (.ref f_law_count_due) = true)
    (a_law_kind : PySem.W.nsIn K mainGlobals "_law_kind" = some (some (.ref f_law_kind)))
    (l_law_kind : K.lookup f_law_kind = some ⟨oc_law_kind, od_law_kind, .func (PySem.W.fnOf "_law_kind" "_law_kind" (defArgs s_kind) (defBody s_kind) (defScope s_kind) .none kV_law_kind dc_law_kind pm_law_kind an_law_kind cd_law_kind ct_law_kind), sl_law_kind⟩)
    (c_law_kind : PySem.W.codeIn K cd_law_kind "_law_kind" = true)
    (k_law_kind : PySem.W.keepIn K (.ref f_law_kind) = true)
    (a_law_caught : PySem.W.nsIn K mainGlobals "_law_caught" = some (some (.ref f_law_caught)))
    (l_law_caught : K.lookup f_law_caught = some ⟨oc_law_caught, od_law_caught, .func (PySem.W.fnOf "_law_caught" "_law_caught" (defArgs s_caught) (defBody s_caught) (defScope s_caught) .none kV_law_caught dc_law_caught pm_law_caught an_law_caught cd_law_caught ct_law_caught), sl_law_caught⟩)
    (c_law_caught : PySem.W.codeIn K cd_law_caught "_law_caught" = true)
    (k_law_caught : PySem.W.keepIn K (.ref f_law_caught) = true)
    (a_law : PySem.W.nsIn K mainGlobals "law" = some (some (.ref f_law)))
    (l_law : K.lookup f_law = some ⟨oc_law, od_law, .func (PySem.W.fnOf "law" "law" (defArgs s_law) (defBody s_law) (defScope s_law) .none kV_law dc_law pm_law an_law cd_law ct_law), sl_law⟩)
    (c_law : PySem.W.codeIn K cd_law "law" = true)
    (k_law : PySem.W.keepIn K (.ref f_law) = true)
    (z_isinstance : PySem.W.nsIn K mainGlobals "isinstance" = some none)
    (z_int : PySem.W.nsIn K mainGlobals "int" = some none)
    (z_bool : PySem.W.nsIn K mainGlobals "bool" = some none)
    (z_len : PySem.W.nsIn K mainGlobals "len" = some none)
    (z_enumerate : PySem.W.nsIn K mainGlobals "enumerate" = some none)
    (z_reversed : PySem.W.nsIn K mainGlobals "reversed" = some none)
    (z_sorted : PySem.W.nsIn K mainGlobals "sorted" = some none)
    (z_max : PySem.W.nsIn K mainGlobals "max" = some none)
    (z_min : PySem.W.nsIn K mainGlobals "min" = some none)
    (z_abs : PySem.W.nsIn K mainGlobals "abs" = some none)
    (z_range : PySem.W.nsIn K mainGlobals "range" = some none)
    (z_list : PySem.W.nsIn K mainGlobals "list" = some none)
    (z_ValueError : PySem.W.nsIn K mainGlobals "ValueError" = some none)
    (aE : PySem.W.nsIn K mainGlobals "CursorError" = some (some (.ref CE)))
    (yE : PySem.W.typeIn K (.ref CE) = some (.type "type"))
    (bE : PySem.W.subIn K (.ref CE) (.type "BaseException") = some true)
    (hE : PySem.W.hasDictIn K CE = true)
    (gt : PySem.W.specialIn K (.builtin "object.__class__") "__get__" = some (some (.builtin "getset_descriptor.__get__")))
    (tk : PySem.W.takesIn K (.builtin "object.__class__") = some true)
    (a0 : PySem.W.nsIn K mainGlobals "InvalidText" = some (some (.ref C0)))
    (ty0 : PySem.W.typeIn K (.ref C0) = some (.type "type"))
    (ic0 : PySem.W.isClsIn K C0 = true)
    (x0 : K.lookup C0 = some (excClassObj nm0 q0 C0 N0 bs0 [.ref CE, .type "ValueError", .type "Exception", .type "BaseException", .type "object"] true sn0 sub0 ab0 col0 dd0 p0_0 p0_1 p0_2 p0_3 p0_5 "ValueError.__new__"))
    (sa0 : PySem.W.findIn K (.ref C0) "__setattr__" = some (some (.builtin "object.__setattr__")))
    (ga0 : PySem.W.findIn K (.ref C0) "__getattribute__" = some (some (.builtin "BaseException.__getattribute__")))
    (gg0 : PySem.W.findIn K (.ref C0) "__getattr__" = some none)
    (no0 : PySem.W.findIn K (.ref C0) "value" = some none)
    (cc0 : PySem.W.findIn K (.ref C0) "__class__" = some (some (.builtin "object.__class__")))
    (in0 : PySem.W.findIn K (.ref C0) "__init__" = some (some (.ref f0)))
    (ti0 : PySem.W.typeIn K (.ref f0) = some (.type "function"))
    (l0 : K.lookup f0 = some ⟨oc0, od0, .func (PySem.W.fnOf "__init__" "InvalidText.__init__" (defArgs sI0) (defBody sI0) (defScope sI0) .none kV0 dc0 pm0 an0 cd0 ct0), sl0⟩)
    (c0 : PySem.W.codeIn K cd0 "InvalidText.__init__" = true)
    (k0 : PySem.W.keepIn K (.ref f0) = true)
    (kc0 : PySem.W.keepIn K (.ref C0) = true)
    (be0 : PySem.W.subIn K (.ref C0) (.type "BaseException") = some true)
    (ve0 : PySem.W.subIn K (.ref C0) (.type "ValueError") = some true)
    (hd0 : PySem.W.hasDictIn K C0 = true)
    (mo0 : PySem.W.mroIn K C0 (.type "object") = some true)
    (se0 : PySem.W.subIn K (.ref C0) (.ref CE) = some true)
    (a1 : PySem.W.nsIn K mainGlobals "InvalidCursor" = some (some (.ref C1)))
    (ty1 : PySem.W.typeIn K (.ref C1) = some (.type "type"))
    (ic1 : PySem.W.isClsIn K C1 = true)
    (x1 : K.lookup C1 = some (excClassObj nm1 q1 C1 N1 bs1 [.ref CE, .type "ValueError", .type "Exception", .type "BaseException", .type "object"] true sn1 sub1 ab1 col1 dd1 p1_0 p1_1 p1_2 p1_3 p1_5 "ValueError.__new__"))
    (sa1 : PySem.W.findIn K (.ref C1) "__setattr__" = some (some (.builtin "object.__setattr__")))
    (ga1 : PySem.W.findIn K (.ref C1) "__getattribute__" = some (some (.builtin "BaseException.__getattribute__")))
    (gg1 : PySem.W.findIn K (.ref C1) "__getattr__" = some none)
    (no1 : PySem.W.findIn K (.ref C1) "value" = some none)
    (cc1 : PySem.W.findIn K (.ref C1) "__class__" = some (some (.builtin "object.__class__")))
    (in1 : PySem.W.findIn K (.ref C1) "__init__" = some (some (.ref f1)))
    (ti1 : PySem.W.typeIn K (.ref f1) = some (.type "function"))
    (l1 : K.lookup f1 = some ⟨oc1, od1, .func (PySem.W.fnOf "__init__" "InvalidCursor.__init__" (defArgs sI1) (defBody sI1) (defScope sI1) .none kV1 dc1 pm1 an1 cd1 ct1), sl1⟩)
    (c1 : PySem.W.codeIn K cd1 "InvalidCursor.__init__" = true)
    (k1 : PySem.W.keepIn K (.ref f1) = true)
    (kc1 : PySem.W.keepIn K (.ref C1) = true)
    (be1 : PySem.W.subIn K (.ref C1) (.type "BaseException") = some true)
    (ve1 : PySem.W.subIn K (.ref C1) (.type "ValueError") = some true)
    (hd1 : PySem.W.hasDictIn K C1 = true)
    (mo1 : PySem.W.mroIn K C1 (.type "object") = some true)
    (se1 : PySem.W.subIn K (.ref C1) (.ref CE) = some true)
    (a2 : PySem.W.nsIn K mainGlobals "InvalidCommand" = some (some (.ref C2)))
    (ty2 : PySem.W.typeIn K (.ref C2) = some (.type "type"))
    (ic2 : PySem.W.isClsIn K C2 = true)
    (x2 : K.lookup C2 = some (excClassObj nm2 q2 C2 N2 bs2 [.ref CE, .type "ValueError", .type "Exception", .type "BaseException", .type "object"] true sn2 sub2 ab2 col2 dd2 p2_0 p2_1 p2_2 p2_3 p2_5 "ValueError.__new__"))
    (sa2 : PySem.W.findIn K (.ref C2) "__setattr__" = some (some (.builtin "object.__setattr__")))
    (ga2 : PySem.W.findIn K (.ref C2) "__getattribute__" = some (some (.builtin "BaseException.__getattribute__")))
    (gg2 : PySem.W.findIn K (.ref C2) "__getattr__" = some none)
    (no2 : PySem.W.findIn K (.ref C2) "value" = some none)
    (cc2 : PySem.W.findIn K (.ref C2) "__class__" = some (some (.builtin "object.__class__")))
    (in2 : PySem.W.findIn K (.ref C2) "__init__" = some (some (.ref f2)))
    (ti2 : PySem.W.typeIn K (.ref f2) = some (.type "function"))
    (l2 : K.lookup f2 = some ⟨oc2, od2, .func (PySem.W.fnOf "__init__" "InvalidCommand.__init__" (defArgs sI2) (defBody sI2) (defScope sI2) .none kV2 dc2 pm2 an2 cd2 ct2), sl2⟩)
    (c2 : PySem.W.codeIn K cd2 "InvalidCommand.__init__" = true)
    (k2 : PySem.W.keepIn K (.ref f2) = true)
    (kc2 : PySem.W.keepIn K (.ref C2) = true)
    (be2 : PySem.W.subIn K (.ref C2) (.type "BaseException") = some true)
    (ve2 : PySem.W.subIn K (.ref C2) (.type "ValueError") = some true)
    (hd2 : PySem.W.hasDictIn K C2 = true)
    (mo2 : PySem.W.mroIn K C2 (.type "object") = some true)
    (se2 : PySem.W.subIn K (.ref C2) (.ref CE) = some true)
    (a3 : PySem.W.nsIn K mainGlobals "Impossible" = some (some (.ref C3)))
    (ty3 : PySem.W.typeIn K (.ref C3) = some (.type "type"))
    (ic3 : PySem.W.isClsIn K C3 = true)
    (x3 : K.lookup C3 = some (excClassObj nm3 q3 C3 N3 bs3 [.ref CE, .type "ValueError", .type "Exception", .type "BaseException", .type "object"] true sn3 sub3 ab3 col3 dd3 p3_0 p3_1 p3_2 p3_3 p3_5 "ValueError.__new__"))
    (sa3 : PySem.W.findIn K (.ref C3) "__setattr__" = some (some (.builtin "object.__setattr__")))
    (ga3 : PySem.W.findIn K (.ref C3) "__getattribute__" = some (some (.builtin "BaseException.__getattribute__")))
    (gg3 : PySem.W.findIn K (.ref C3) "__getattr__" = some none)
    (no3 : PySem.W.findIn K (.ref C3) "value" = some none)
    (cc3 : PySem.W.findIn K (.ref C3) "__class__" = some (some (.builtin "object.__class__")))
    (in3 : PySem.W.findIn K (.ref C3) "__init__" = some (some (.ref f3)))
    (ti3 : PySem.W.typeIn K (.ref f3) = some (.type "function"))
    (l3 : K.lookup f3 = some ⟨oc3, od3, .func (PySem.W.fnOf "__init__" "Impossible.__init__" (defArgs sI3) (defBody sI3) (defScope sI3) .none kV3 dc3 pm3 an3 cd3 ct3), sl3⟩)
    (c3 : PySem.W.codeIn K cd3 "Impossible.__init__" = true)
    (k3 : PySem.W.keepIn K (.ref f3) = true)
    (kc3 : PySem.W.keepIn K (.ref C3) = true)
    (be3 : PySem.W.subIn K (.ref C3) (.type "BaseException") = some true)
    (ve3 : PySem.W.subIn K (.ref C3) (.type "ValueError") = some true)
    (hd3 : PySem.W.hasDictIn K C3 = true)
    (mo3 : PySem.W.mroIn K C3 (.type "object") = some true)
    (se3 : PySem.W.subIn K (.ref C3) (.ref CE) = some true)
    (a4 : PySem.W.nsIn K mainGlobals "InvalidNumber" = some (some (.ref C4)))
    (ty4 : PySem.W.typeIn K (.ref C4) = some (.type "type"))
    (ic4 : PySem.W.isClsIn K C4 = true)
    (x4 : K.lookup C4 = some (excClassObj nm4 q4 C4 N4 bs4 [.ref CE, .type "ValueError", .type "Exception", .type "BaseException", .type "object"] true sn4 sub4 ab4 col4 dd4 p4_0 p4_1 p4_2 p4_3 p4_5 "ValueError.__new__"))
    (sa4 : PySem.W.findIn K (.ref C4) "__setattr__" = some (some (.builtin "object.__setattr__")))
    (ga4 : PySem.W.findIn K (.ref C4) "__getattribute__" = some (some (.builtin "BaseException.__getattribute__")))
    (gg4 : PySem.W.findIn K (.ref C4) "__getattr__" = some none)
    (no4 : PySem.W.findIn K (.ref C4) "value" = some none)
    (cc4 : PySem.W.findIn K (.ref C4) "__class__" = some (some (.builtin "object.__class__")))
    (in4 : PySem.W.findIn K (.ref C4) "__init__" = some (some (.ref f4)))
    (ti4 : PySem.W.typeIn K (.ref f4) = some (.type "function"))
    (l4 : K.lookup f4 = some ⟨oc4, od4, .func (PySem.W.fnOf "__init__" "InvalidNumber.__init__" (defArgs sI4) (defBody sI4) (defScope sI4) .none kV4 dc4 pm4 an4 cd4 ct4), sl4⟩)
    (c4 : PySem.W.codeIn K cd4 "InvalidNumber.__init__" = true)
    (k4 : PySem.W.keepIn K (.ref f4) = true)
    (kc4 : PySem.W.keepIn K (.ref C4) = true)
    (be4 : PySem.W.subIn K (.ref C4) (.type "BaseException") = some true)
    (ve4 : PySem.W.subIn K (.ref C4) (.type "ValueError") = some true)
    (hd4 : PySem.W.hasDictIn K C4 = true)
    (mo4 : PySem.W.mroIn K C4 (.type "object") = some true)
    (se4 : PySem.W.subIn K (.ref C4) (.ref CE) = some true)
    (a5 : PySem.W.nsIn K mainGlobals "NothingToUndo" = some (some (.ref C5)))
    (ty5 : PySem.W.typeIn K (.ref C5) = some (.type "type"))
    (ic5 : PySem.W.isClsIn K C5 = true)
    (a6 : PySem.W.nsIn K mainGlobals "Unreadable" = some (some (.ref C6)))
    (ty6 : PySem.W.typeIn K (.ref C6) = some (.type "type"))
    (ic6 : PySem.W.isClsIn K C6 = true)
    (s0_0 : PySem.W.subIn K (.ref C0) (.ref C0) = some true)
    (s0_1 : PySem.W.subIn K (.ref C0) (.ref C1) = some false)
    (s0_2 : PySem.W.subIn K (.ref C0) (.ref C2) = some false)
    (s0_3 : PySem.W.subIn K (.ref C0) (.ref C3) = some false)
    (s0_4 : PySem.W.subIn K (.ref C0) (.ref C4) = some false)
    (s0_5 : PySem.W.subIn K (.ref C0) (.ref C5) = some false)
    (s0_6 : PySem.W.subIn K (.ref C0) (.ref C6) = some false)
    (s1_0 : PySem.W.subIn K (.ref C1) (.ref C0) = some false)
    (s1_1 : PySem.W.subIn K (.ref C1) (.ref C1) = some true)
    (s1_2 : PySem.W.subIn K (.ref C1) (.ref C2) = some false)
    (s1_3 : PySem.W.subIn K (.ref C1) (.ref C3) = some false)
    (s1_4 : PySem.W.subIn K (.ref C1) (.ref C4) = some false)
    (s1_5 : PySem.W.subIn K (.ref C1) (.ref C5) = some false)
    (s1_6 : PySem.W.subIn K (.ref C1) (.ref C6) = some false)
    (s2_0 : PySem.W.subIn K (.ref C2) (.ref C0) = some false)
    (s2_1 : PySem.W.subIn K (.ref C2) (.ref C1) = some false)
    (s2_2 : PySem.W.subIn K (.ref C2) (.ref C2) = some true)
    (s2_3 : PySem.W.subIn K (.ref C2) (.ref C3) = some false)
    (s2_4 : PySem.W.subIn K (.ref C2) (.ref C4) = some false)
    (s2_5 : PySem.W.subIn K (.ref C2) (.ref C5) = some false)
    (s2_6 : PySem.W.subIn K (.ref C2) (.ref C6) = some false)
    (s3_0 : PySem.W.subIn K (.ref C3) (.ref C0) = some false)
    (s3_1 : PySem.W.subIn K (.ref C3) (.ref C1) = some false)
    (s3_2 : PySem.W.subIn K (.ref C3) (.ref C2) = some false)
    (s3_3 : PySem.W.subIn K (.ref C3) (.ref C3) = some true)
    (s3_4 : PySem.W.subIn K (.ref C3) (.ref C4) = some false)
    (s3_5 : PySem.W.subIn K (.ref C3) (.ref C5) = some false)
    (s3_6 : PySem.W.subIn K (.ref C3) (.ref C6) = some false)
    (s4_0 : PySem.W.subIn K (.ref C4) (.ref C0) = some false)
    (s4_1 : PySem.W.subIn K (.ref C4) (.ref C1) = some false)
    (s4_2 : PySem.W.subIn K (.ref C4) (.ref C2) = some false)
    (s4_3 : PySem.W.subIn K (.ref C4) (.ref C3) = some false)
    (s4_4 : PySem.W.subIn K (.ref C4) (.ref C4) = some true)
    (s4_5 : PySem.W.subIn K (.ref C4) (.ref C5) = some false)
    (s4_6 : PySem.W.subIn K (.ref C4) (.ref C6) = some false) :
    ∃ fd : FuncData, (∀ (s : Shared) (v : Value), BindsTo s fd ⟨[v], []⟩ [("script", v)]) ∧ ∀ base : Heap, K.In base → base.Ns mainGlobals mg → FnOk l.prog w K mg base CX0 9 fa fd ["script"] (spLaw K) := by
  have e := hfa.symm.trans (PySem.W.mg_of X G a_law)
  cases e
  have F_is_count := fun_mk (st := s_is_count) l_is_count c_is_count k_is_count
  have F_is_command := fun_mk (st := s_is_command) l_is_command c_is_command k_is_command
  have F_check_commands := fun_mk (st := s_check_commands) l_check_commands c_check_commands k_check_commands
  have F_check_number := fun_mk (st := s_check_number) l_check_number c_check_number k_check_number
  have F_row_change := fun_mk (st := s_row_change) l_row_change c_row_change k_row_change
  have F_reach := fun_mk (st := s_reach) l_reach c_reach k_reach
  have F_require := fun_mk (st := s_require) l_require c_require k_require
  have F_box := fun_mk (st := s_box) l_box c_box k_box
  have F_check_text := fun_mk (st := s_check_text) l_check_text c_check_text k_check_text
  have F_check_cursor := fun_mk (st := s_check_cursor) l_check_cursor c_check_cursor k_check_cursor
  have F_run := fun_mk (st := s_run) l_run c_run k_run
  have F_shown_column := fun_mk (st := s_shown_column) l_shown_column c_shown_column k_shown_column
  have F_moved := fun_mk (st := s_moved) l_moved c_moved k_moved
  have F_new_goal := fun_mk (st := s_new_goal) l_new_goal c_new_goal k_new_goal
  have F_effect := fun_mk (st := s_effect) l_effect c_effect k_effect
  have F_total_change := fun_mk (st := s_total_change) l_total_change c_total_change k_total_change
  have F_origins := fun_mk (st := s_origins) l_origins c_origins k_origins
  have F_is_less := fun_mk (st := s_is_less) l_is_less c_is_less k_is_less
  have F_count_texts := fun_mk (st := s_count_texts) l_count_texts c_count_texts k_count_texts
  have F_count_reaching := fun_mk (st := s_count_reaching) l_count_reaching c_count_reaching k_count_reaching
  have F_law_bag := fun_mk (st := s_bag) l_law_bag c_law_bag k_law_bag
  have F_law_draw := fun_mk (st := s_bdraw) l_law_draw c_law_draw k_law_draw
  have F_law_moves := fun_mk (st := s_moves) l_law_moves c_law_moves k_law_moves
  have F_law_end := fun_mk (st := s_end) l_law_end c_law_end k_law_end
  have F_law_spoilt := fun_mk (st := s_spoilt) l_law_spoilt c_law_spoilt k_law_spoilt
  have F_law_bad_command := fun_mk (st := s_badc) l_law_bad_command c_law_bad_command k_law_bad_command
  have F_law_first_off := fun_mk (st := s_foff) l_law_first_off c_law_first_off k_law_first_off
  have F_law_origins_due := fun_mk (st := s_odue) l_law_origins_due c_law_origins_due k_law_origins_due
  have F_law_count_due := fun_mk (st := s_cdue) l_law_count_due c_law_count_due k_law_count_due
  have F_law_kind := fun_mk (st := s_kind) l_law_kind c_law_kind k_law_kind
  have F_law_caught := fun_mk (st := s_caught) l_law_caught c_law_caught k_law_caught
  have F_law := fun_mk (st := s_law) l_law c_law k_law
  have b_is_count := F_is_count.binds (ps := ["number"]) fun _ _ _ _ _ _ us hl => match us, hl with | [_], _ => rfl
  have b_is_command := F_is_command.binds (ps := ["command"]) fun _ _ _ _ _ _ us hl => match us, hl with | [_], _ => rfl
  have b_check_commands := F_check_commands.binds (ps := ["commands"]) fun _ _ _ _ _ _ us hl => match us, hl with | [_], _ => rfl
  have b_check_number := F_check_number.binds (ps := ["number", "least"]) fun _ _ _ _ _ _ us hl => match us, hl with | [_, _], _ => rfl
  have b_row_change := F_row_change.binds (ps := ["command"]) fun _ _ _ _ _ _ us hl => match us, hl with | [_], _ => rfl
  have b_reach := F_reach.binds (ps := ["commands"]) fun _ _ _ _ _ _ us hl => match us, hl with | [_], _ => rfl
  have b_require := F_require.binds (ps := ["bounds", "offset", "bound"]) fun _ _ _ _ _ _ us hl => match us, hl with | [_, _, _], _ => rfl
  have b_box := F_box.binds (ps := ["commands", "goal"]) fun _ _ _ _ _ _ us hl => match us, hl with | [_, _], _ => rfl
  have b_check_text := F_check_text.binds (ps := ["text"]) fun _ _ _ _ _ _ us hl => match us, hl with | [_], _ => rfl
  have b_check_cursor := F_check_cursor.binds (ps := ["lines", "cursor"]) fun _ _ _ _ _ _ us hl => match us, hl with | [_, _], _ => rfl
  have b_run := F_run.binds (ps := ["text", "cursor", "commands"]) fun _ _ _ _ _ _ us hl => match us, hl with | [_, _, _], _ => rfl
  have b_shown_column := F_shown_column.binds (ps := ["length", "goal"]) fun _ _ _ _ _ _ us hl => match us, hl with | [_, _], _ => rfl
  have b_moved := F_moved.binds (ps := ["text", "cursor", "command"]) fun _ _ _ _ _ _ us hl => match us, hl with | [_, _, _], _ => rfl
  have b_new_goal := F_new_goal.binds (ps := ["length", "goal", "command"]) fun _ _ _ _ _ _ us hl => match us, hl with | [_, _, _], _ => rfl
  have b_effect := F_effect.binds (ps := ["text", "row", "commands"]) fun _ _ _ _ _ _ us hl => match us, hl with | [_, _, _], _ => rfl
  have b_total_change := F_total_change.binds (ps := ["commands"]) fun _ _ _ _ _ _ us hl => match us, hl with | [_], _ => rfl
  have b_origins := F_origins.binds (ps := ["text", "row", "commands", "goal"]) fun _ _ _ _ _ _ us hl => match us, hl with | [_, _, _, _], _ => rfl
  have b_is_less := F_is_less.binds (ps := ["goal", "other"]) fun _ _ _ _ _ _ us hl => match us, hl with | [_, _], _ => rfl
  have b_count_texts := F_count_texts.binds (ps := ["lines", "longest", "cursor", "commands", "goal"]) fun _ _ _ _ _ _ us hl => match us, hl with | [_, _, _, _, _], _ => rfl
  have b_count_reaching := F_count_reaching.binds (ps := ["lines", "longest", "start", "commands", "goal"]) fun _ _ _ _ _ _ us hl => match us, hl with | [_, _, _, _, _], _ => rfl
  have b_law_bag := F_law_bag.binds (ps := ["script"]) fun _ _ _ _ _ _ us hl => match us, hl with | [_], _ => rfl
  have b_law_draw := F_law_draw.binds (ps := ["bag", "many"]) fun _ _ _ _ _ _ us hl => match us, hl with | [_, _], _ => rfl
  have b_law_moves := F_law_moves.binds (ps := ["bag", "many", "far"]) fun _ _ _ _ _ _ us hl => match us, hl with | [_, _, _], _ => rfl
  have b_law_end := F_law_end.binds (ps := ["page", "start", "moves"]) fun _ _ _ _ _ _ us hl => match us, hl with | [_, _, _], _ => rfl
  have b_law_spoilt := F_law_spoilt.binds (ps := ["bag", "moves"]) fun _ _ _ _ _ _ us hl => match us, hl with | [_, _], _ => rfl
  have b_law_bad_command := F_law_bad_command.binds (ps := ["moves"]) fun _ _ _ _ _ _ us hl => match us, hl with | [_], _ => rfl
  have b_law_first_off := F_law_first_off.binds (ps := ["page", "spot", "moves"]) fun _ _ _ _ _ _ us hl => match us, hl with | [_, _, _], _ => rfl
  have b_law_origins_due := F_law_origins_due.binds (ps := ["page", "spot", "aim", "moves"]) fun _ _ _ _ _ _ us hl => match us, hl with | [_, _, _, _], _ => rfl
  have b_law_count_due := F_law_count_due.binds (ps := ["many", "most", "start", "moves", "aim"]) fun _ _ _ _ _ _ us hl => match us, hl with | [_, _, _, _, _], _ => rfl
  have b_law_kind := F_law_kind.binds (ps := ["e"]) fun _ _ _ _ _ _ us hl => match us, hl with | [_], _ => rfl
  have b_law_caught := F_law_caught.binds (ps := ["which", "page", "start", "moves", "aim", "size"]) fun _ _ _ _ _ _ us hl => match us, hl with | [_, _, _, _, _, _], _ => rfl
  have kb_origins := bindsK (ps := ["text", "row", "commands", "goal"]) (ks := ["goal", "commands", "row", "text"]) F_origins fun _ _ _ _ _ _ us ws hl => by
    have hl2 : us.length + ws.length = 4 := by
      unfold gRev at hl
      rw [List.length_append, List.length_reverse] at hl
      exact hl
    match us, ws, hl2 with
    | [], [], h => simp only [List.length_cons, List.length_nil] at h; omega
    | [], [_], h => simp only [List.length_cons, List.length_nil] at h; omega
    | [], [_, _], h => simp only [List.length_cons, List.length_nil] at h; omega
    | [], [_, _, _], h => simp only [List.length_cons, List.length_nil] at h; omega
    | [], [_, _, _, _], _ => rfl
    | [], _ :: _ :: _ :: _ :: _ :: _, h => simp only [List.length_cons, List.length_nil] at h; omega
    | [_], [], h => simp only [List.length_cons, List.length_nil] at h; omega
    | [_], [_], h => simp only [List.length_cons, List.length_nil] at h; omega
    | [_], [_, _], h => simp only [List.length_cons, List.length_nil] at h; omega
    | [_], [_, _, _], _ => rfl
    | [_], _ :: _ :: _ :: _ :: _, h => simp only [List.length_cons, List.length_nil] at h; omega
    | [_, _], [], h => simp only [List.length_cons, List.length_nil] at h; omega
    | [_, _], [_], h => simp only [List.length_cons, List.length_nil] at h; omega
    | [_, _], [_, _], _ => rfl
    | [_, _], _ :: _ :: _ :: _, h => simp only [List.length_cons, List.length_nil] at h; omega
    | [_, _, _], [], h => simp only [List.length_cons, List.length_nil] at h; omega
    | [_, _, _], [_], _ => rfl
    | [_, _, _], _ :: _ :: _, h => simp only [List.length_cons, List.length_nil] at h; omega
    | [_, _, _, _], [], _ => rfl
    | [_, _, _, _], _ :: _, h => simp only [List.length_cons, List.length_nil] at h; omega
    | _ :: _ :: _ :: _ :: _ :: _, _, h => simp only [List.length_cons] at h; omega
  refine ⟨PySem.W.fnOf "law" "law" (defArgs s_law) (defBody s_law) (defScope s_law) .none kV_law dc_law pm_law an_law cd_law ct_law, fun s v => .of_eq rfl, fun base hb gb => ?_⟩
  have TB : TxtB K mg wo wn := {
    g_WITHOUT_NUMBER := PySem.W.mg_of X G aWO
    g_WITH_NUMBER := PySem.W.mg_of X G aWN
    tWO := fun H => .inr ⟨_, _, _, lWO, rfl, rfl, (by show 2 ≤ sizeLine; decide), .cons ⟨_, rfl⟩ (.cons ⟨_, rfl⟩ .nil)⟩
    tWN := fun H => .inr ⟨_, _, _, lWN, rfl, rfl, (by show 4 ≤ sizeLine; decide), .cons ⟨_, rfl⟩ (.cons ⟨_, rfl⟩ (.cons ⟨_, rfl⟩ (.cons ⟨_, rfl⟩ .nil)))⟩
    isinstance := PySem.W.mg_none_of X G z_isinstance
    int := PySem.W.mg_none_of X G z_int
    bool := PySem.W.mg_none_of X G z_bool
    len := PySem.W.mg_none_of X G z_len
    enumerate := PySem.W.mg_none_of X G z_enumerate
    reversed := PySem.W.mg_none_of X G z_reversed
    sorted := PySem.W.mg_none_of X G z_sorted
    max := PySem.W.mg_none_of X G z_max
    min := PySem.W.mg_none_of X G z_min }
  have TC : TxtC mg := { abs := PySem.W.mg_none_of X G z_abs, len := PySem.W.mg_none_of X G z_len, range := PySem.W.mg_none_of X G z_range, min := PySem.W.mg_none_of X G z_min, max := PySem.W.mg_none_of X G z_max, int := PySem.W.mg_none_of X G z_int, list := PySem.W.mg_none_of X G z_list }
  have TN : TxtN mg := { range := PySem.W.mg_none_of X G z_range, len := PySem.W.mg_none_of X G z_len, max := PySem.W.mg_none_of X G z_max }
  have C_is_count : Cal l.prog w K mg base 1 "is_count" spCount := ⟨_, _, _, ok_is_count F_is_count TB, PySem.W.mg_of X G a_is_count, k_is_count, b_is_count⟩
  have C_is_command : Cal l.prog w K mg base 2 "is_command" (spIsCmd K) := ⟨_, _, _, ok_is_command F_is_command TB C_is_count, PySem.W.mg_of X G a_is_command, k_is_command, b_is_command⟩
  have C_check_commands : Cal l.prog w K mg base 3 "check_commands" (spCheck K) := ⟨_, _, _, ok_check_commands F_check_commands TB C_is_command, PySem.W.mg_of X G a_check_commands, k_check_commands, b_check_commands⟩
  have C_check_number : Cal l.prog w K mg base 1 "check_number" spNum := ⟨_, _, _, ok_check_number F_check_number, PySem.W.mg_of X G a_check_number, k_check_number, b_check_number⟩
  have C_row_change : Cal l.prog w K mg base 1 "row_change" (spRow K) := ⟨_, _, _, ok_row_change F_row_change, PySem.W.mg_of X G a_row_change, k_row_change, b_row_change⟩
  have C_reach : Cal l.prog w K mg base 4 "reach" (spReach K) := ⟨_, _, _, ok_reach F_reach TB C_check_commands C_row_change, PySem.W.mg_of X G a_reach, k_reach, b_reach⟩
  have C_require : Cal l.prog w K mg base 1 "require" spReq := ⟨_, _, _, ok_require F_require TB, PySem.W.mg_of X G a_require, k_require, b_require⟩
  have C_check_text : Cal l.prog w K mg base 1 "check_text" (spText K) := ⟨_, _, _, ok_check_text F_check_text TB, PySem.W.mg_of X G a_check_text, k_check_text, b_check_text⟩
  have C_check_cursor : Cal l.prog w K mg base 1 "check_cursor" (spCursor K) := ⟨_, _, _, ok_check_cursor F_check_cursor, PySem.W.mg_of X G a_check_cursor, k_check_cursor, b_check_cursor⟩
  have C_shown_column : Cal l.prog w K mg base 1 "shown_column" spShown := ⟨_, _, _, ok_shown_column F_shown_column TB, PySem.W.mg_of X G a_shown_column, k_shown_column, b_shown_column⟩
  have C_new_goal : Cal l.prog w K mg base 2 "new_goal" (spGoal K) := ⟨_, _, _, ok_new_goal F_new_goal TB C_shown_column, PySem.W.mg_of X G a_new_goal, k_new_goal, b_new_goal⟩
  have C_moved : Cal l.prog w K mg base 3 "moved" (spMoved K) := ⟨_, _, _, ok_moved F_moved TB C_row_change C_new_goal, PySem.W.mg_of X G a_moved, k_moved, b_moved⟩
  have Z_run : Cal l.prog w K mg base 4 "run" (zRun K) := by
    rw [zRun_eq]
    exact ⟨_, _, _, ok_run F_run TB C_check_text C_check_cursor C_check_commands C_moved, PySem.W.mg_of X G a_run, k_run, b_run⟩
  have Z_box : Cal l.prog w K mg base 5 "box" (zBox K) := by
    rw [zBox_eq]
    exact ⟨_, _, _, ok_box F_box TB C_check_commands C_row_change C_reach C_check_number C_require, PySem.W.mg_of X G a_box, k_box, b_box⟩
  have Z_reach : Cal l.prog w K mg base 4 "reach" (zReach K) := by
    rw [zReach_eq]
    exact C_reach
  have Z_reaching : Cal l.prog w K mg base 6 "count_reaching" (zReaching K) := by
    rw [zReaching_eq]
    exact ⟨_, _, _, ok_count_reaching F_count_reaching TN Z_box, PySem.W.mg_of X G a_count_reaching, k_count_reaching, b_count_reaching⟩
  have C_total_change : Cal l.prog w K mg base 1 "total_change" (spTotal K) := ⟨_, _, _, ok_total_change F_total_change, PySem.W.mg_of X G a_total_change, k_total_change, b_total_change⟩
  have C_effect : Cal l.prog w K mg base 5 "effect" (spEffect K) := ⟨_, _, _, ok_effect F_effect Z_run C_total_change, PySem.W.mg_of X G a_effect, k_effect, b_effect⟩
  have C_is_less : Cal l.prog w K mg base 1 "is_less" spLess := ⟨_, _, _, ok_is_less F_is_less, PySem.W.mg_of X G a_is_less, k_is_less, b_is_less⟩
  have T0 : OexC K C0 := { cls := ⟨nm0, q0, N0, bs0, _, sn0, sub0, ab0, col0, dd0, p0_0, p0_1, p0_2, p0_3, p0_5, x0, by show PySem.HandSPX.refsVE [.type "ValueError", .type "Exception", .type "BaseException", .type "object"] = true; decide +kernel⟩, sa := sa0, exC := be0, tyC := ty0, kC := kc0 }
  have V0 : ErrI K C0 := { cl := ic0, ga := ga0, gg := gg0, be := be0, hd := hd0, cc := cc0, gt := gt, tk := tk, ob := mo0, no := no0 }
  have e_InvalidText : ErrC l.prog w K mg base "InvalidText" C0 := errc_I0 (fun_mk (st := sI0) l0 c0 k0) T0 (PySem.W.mg_of X G a0) no0 in0 ti0
  have T1 : OexC K C1 := { cls := ⟨nm1, q1, N1, bs1, _, sn1, sub1, ab1, col1, dd1, p1_0, p1_1, p1_2, p1_3, p1_5, x1, by show PySem.HandSPX.refsVE [.type "ValueError", .type "Exception", .type "BaseException", .type "object"] = true; decide +kernel⟩, sa := sa1, exC := be1, tyC := ty1, kC := kc1 }
  have V1 : ErrI K C1 := { cl := ic1, ga := ga1, gg := gg1, be := be1, hd := hd1, cc := cc1, gt := gt, tk := tk, ob := mo1, no := no1 }
  have e_InvalidCursor : ErrC l.prog w K mg base "InvalidCursor" C1 := errc_I1 (fun_mk (st := sI1) l1 c1 k1) T1 (PySem.W.mg_of X G a1) no1 in1 ti1
  have T2 : OexC K C2 := { cls := ⟨nm2, q2, N2, bs2, _, sn2, sub2, ab2, col2, dd2, p2_0, p2_1, p2_2, p2_3, p2_5, x2, by show PySem.HandSPX.refsVE [.type "ValueError", .type "Exception", .type "BaseException", .type "object"] = true; decide +kernel⟩, sa := sa2, exC := be2, tyC := ty2, kC := kc2 }
  have V2 : ErrI K C2 := { cl := ic2, ga := ga2, gg := gg2, be := be2, hd := hd2, cc := cc2, gt := gt, tk := tk, ob := mo2, no := no2 }
  have e_InvalidCommand : ErrC l.prog w K mg base "InvalidCommand" C2 := errc_I2 (fun_mk (st := sI2) l2 c2 k2) T2 (PySem.W.mg_of X G a2) no2 in2 ti2
  have T3 : OexC K C3 := { cls := ⟨nm3, q3, N3, bs3, _, sn3, sub3, ab3, col3, dd3, p3_0, p3_1, p3_2, p3_3, p3_5, x3, by show PySem.HandSPX.refsVE [.type "ValueError", .type "Exception", .type "BaseException", .type "object"] = true; decide +kernel⟩, sa := sa3, exC := be3, tyC := ty3, kC := kc3 }
  have V3 : ErrI K C3 := { cl := ic3, ga := ga3, gg := gg3, be := be3, hd := hd3, cc := cc3, gt := gt, tk := tk, ob := mo3, no := no3 }
  have e_Impossible : ErrC l.prog w K mg base "Impossible" C3 := errc_I3 (fun_mk (st := sI3) l3 c3 k3) T3 (PySem.W.mg_of X G a3) no3 in3 ti3
  have T4 : OexC K C4 := { cls := ⟨nm4, q4, N4, bs4, _, sn4, sub4, ab4, col4, dd4, p4_0, p4_1, p4_2, p4_3, p4_5, x4, by show PySem.HandSPX.refsVE [.type "ValueError", .type "Exception", .type "BaseException", .type "object"] = true; decide +kernel⟩, sa := sa4, exC := be4, tyC := ty4, kC := kc4 }
  have V4 : ErrI K C4 := { cl := ic4, ga := ga4, gg := gg4, be := be4, hd := hd4, cc := cc4, gt := gt, tk := tk, ob := mo4, no := no4 }
  have e_InvalidNumber : ErrC l.prog w K mg base "InvalidNumber" C4 := errc_I4 (fun_mk (st := sI4) l4 c4 k4) T4 (PySem.W.mg_of X G a4) no4 in4 ti4
  let cs : Nat → Addr := fun i => match i with
    | 0 => C0
    | 1 => C1
    | 2 => C2
    | 3 => C3
    | 4 => C4
    | 5 => C5
    | _ => C6
  have TK : TxtK K mg cs := {
    kit := fun i j hi hj => match i, j, hi, hj with
      | 0, 0, _, _ => kit_own ic0 ty0 s0_0 s0_0
      | 0, 1, _, _ => kit_own ic1 ty1 s0_1 s0_0
      | 0, 2, _, _ => kit_own ic2 ty2 s0_2 s0_0
      | 0, 3, _, _ => kit_own ic3 ty3 s0_3 s0_0
      | 0, 4, _, _ => kit_own ic4 ty4 s0_4 s0_0
      | 0, 5, _, _ => kit_own ic5 ty5 s0_5 s0_0
      | 0, 6, _, _ => kit_own ic6 ty6 s0_6 s0_0
      | 1, 0, _, _ => kit_own ic0 ty0 s1_0 s1_1
      | 1, 1, _, _ => kit_own ic1 ty1 s1_1 s1_1
      | 1, 2, _, _ => kit_own ic2 ty2 s1_2 s1_1
      | 1, 3, _, _ => kit_own ic3 ty3 s1_3 s1_1
      | 1, 4, _, _ => kit_own ic4 ty4 s1_4 s1_1
      | 1, 5, _, _ => kit_own ic5 ty5 s1_5 s1_1
      | 1, 6, _, _ => kit_own ic6 ty6 s1_6 s1_1
      | 2, 0, _, _ => kit_own ic0 ty0 s2_0 s2_2
      | 2, 1, _, _ => kit_own ic1 ty1 s2_1 s2_2
      | 2, 2, _, _ => kit_own ic2 ty2 s2_2 s2_2
      | 2, 3, _, _ => kit_own ic3 ty3 s2_3 s2_2
      | 2, 4, _, _ => kit_own ic4 ty4 s2_4 s2_2
      | 2, 5, _, _ => kit_own ic5 ty5 s2_5 s2_2
      | 2, 6, _, _ => kit_own ic6 ty6 s2_6 s2_2
      | 3, 0, _, _ => kit_own ic0 ty0 s3_0 s3_3
      | 3, 1, _, _ => kit_own ic1 ty1 s3_1 s3_3
      | 3, 2, _, _ => kit_own ic2 ty2 s3_2 s3_3
      | 3, 3, _, _ => kit_own ic3 ty3 s3_3 s3_3
      | 3, 4, _, _ => kit_own ic4 ty4 s3_4 s3_3
      | 3, 5, _, _ => kit_own ic5 ty5 s3_5 s3_3
      | 3, 6, _, _ => kit_own ic6 ty6 s3_6 s3_3
      | 4, 0, _, _ => kit_own ic0 ty0 s4_0 s4_4
      | 4, 1, _, _ => kit_own ic1 ty1 s4_1 s4_4
      | 4, 2, _, _ => kit_own ic2 ty2 s4_2 s4_4
      | 4, 3, _, _ => kit_own ic3 ty3 s4_3 s4_4
      | 4, 4, _, _ => kit_own ic4 ty4 s4_4 s4_4
      | 4, 5, _, _ => kit_own ic5 ty5 s4_5 s4_4
      | 4, 6, _, _ => kit_own ic6 ty6 s4_6 s4_4
      | n + 5, _, z, _ => absurd z (by omega)
      | _, n + 7, _, z => absurd z (by omega)
    kve := fun i hi => match i, hi with
      | 0, _ => kit_bl (by decide +kernel) ve0
      | 1, _ => kit_bl (by decide +kernel) ve1
      | 2, _ => kit_bl (by decide +kernel) ve2
      | 3, _ => kit_bl (by decide +kernel) ve3
      | 4, _ => kit_bl (by decide +kernel) ve4
      | n + 5, z => absurd z (by omega)
    ei := fun i hi => match i, hi with
      | 0, _ => V0
      | 1, _ => V1
      | 2, _ => V2
      | 3, _ => V3
      | 4, _ => V4
      | n + 5, z => absurd z (by omega)
    g0 := PySem.W.mg_of X G a0
    g1 := PySem.W.mg_of X G a1
    g2 := PySem.W.mg_of X G a2
    g3 := PySem.W.mg_of X G a3
    g4 := PySem.W.mg_of X G a4
    g5 := PySem.W.mg_of X G a5
    g6 := PySem.W.mg_of X G a6
    isinstance := PySem.W.mg_none_of X G z_isinstance
    ValueError := PySem.W.mg_none_of X G z_ValueError }
  have TQ : TxtQ K mg cs CE := {
    g_CursorError := PySem.W.mg_of X G aE
    ex := fun i hi => match i, hi with
      | 0, _ => PySem.W.exm_ref bE hE yE se0
      | 1, _ => PySem.W.exm_ref bE hE yE se1
      | 2, _ => PySem.W.exm_ref bE hE yE se2
      | 3, _ => PySem.W.exm_ref bE hE yE se3
      | 4, _ => PySem.W.exm_ref bE hE yE se4
      | n + 5, z => absurd z (by omega)
    ei := TK.ei }
  have X_is_count : Cal l.prog w K mg base 1 "is_count" spCountX := ⟨_, _, _, ok_is_countX F_is_count TB, PySem.W.mg_of X G a_is_count, k_is_count, b_is_count⟩
  have X_is_command : Cal l.prog w K mg base 2 "is_command" (spIsRaw K) := ⟨_, _, _, ok_is_commandX F_is_command TB X_is_count, PySem.W.mg_of X G a_is_command, k_is_command, b_is_command⟩
  have X_check_commands : CalX l.prog w K mg base 3 "check_commands" (spCheckX K C2) := ⟨_, _, _, ok_check_commandsX F_check_commands TB X_is_command e_InvalidCommand, PySem.W.mg_of X G a_check_commands, k_check_commands, b_check_commands⟩
  have X_check_text : CalX l.prog w K mg base 3 "check_text" (spTextX K C0) := ⟨_, _, _, ok_check_textX F_check_text TB e_InvalidText, PySem.W.mg_of X G a_check_text, k_check_text, b_check_text⟩
  have X_check_cursor : CalX l.prog w K mg base 3 "check_cursor" (spCursorX K C1) := ⟨_, _, _, ok_check_cursorX F_check_cursor e_InvalidCursor, PySem.W.mg_of X G a_check_cursor, k_check_cursor, b_check_cursor⟩
  have X_check_number : CalX l.prog w K mg base 3 "check_number" (spNumX C4) := ⟨_, _, _, ok_check_numberX F_check_number e_InvalidNumber, PySem.W.mg_of X G a_check_number, k_check_number, b_check_number⟩
  have X_run : CalX l.prog w K mg base 4 "run" (zRunX K C0 C1 C2 C3) := by
    rw [zRunX_eq]
    exact ⟨_, _, _, ok_runX F_run TB X_check_text X_check_cursor X_check_commands C_moved e_Impossible, PySem.W.mg_of X G a_run, k_run, b_run⟩
  have X_origins : CalKX l.prog w K mg base 6 "origins" ["goal", "commands", "row", "text"] (zOriginsX K C0 C1 C2 C3) := by
    rw [zOriginsX_eq]
    exact ⟨_, _, _, ok_originsX F_origins X_run C_effect C_is_less, PySem.W.mg_of X G a_origins, k_origins, kb_origins⟩
  have X_count : CalX l.prog w K mg base 7 "count_texts" (zCountsX K C1 C2 C4) := by
    rw [zCountsX_eq]
    exact ⟨_, _, _, ok_count_textsX F_count_texts TN X_check_number X_check_cursor X_check_commands Z_reach Z_reaching, PySem.W.mg_of X G a_count_texts, k_count_texts, b_count_texts⟩
  have E_kind : CalE l.prog w K mg base 1 "_law_kind" (spKind cs) := ⟨_, _, _, ok_kind F_law_kind TK, PySem.W.mg_of X G a_law_kind, k_law_kind, b_law_kind⟩
  have C_law_bag : Cal l.prog w K mg base 1 "_law_bag" (spBag K) := ⟨_, _, _, ok_bag F_law_bag TC, PySem.W.mg_of X G a_law_bag, k_law_bag, b_law_bag⟩
  have C_law_draw : Cal l.prog w K mg base 1 "_law_draw" spBdraw := ⟨_, _, _, ok_bdraw F_law_draw TC, PySem.W.mg_of X G a_law_draw, k_law_draw, b_law_draw⟩
  have C_law_moves : Cal l.prog w K mg base 2 "_law_moves" (spMoves K) := ⟨_, _, _, ok_moves F_law_moves TC C_law_draw, PySem.W.mg_of X G a_law_moves, k_law_moves, b_law_moves⟩
  have C_law_spoilt : Cal l.prog w K mg base 2 "_law_spoilt" (spSpoilt K) := ⟨_, _, _, ok_spoilt F_law_spoilt TC C_law_draw, PySem.W.mg_of X G a_law_spoilt, k_law_spoilt, b_law_spoilt⟩
  have C_law_end : Cal l.prog w K mg base 1 "_law_end" (spEnd K) := ⟨_, _, _, ok_end F_law_end TC, PySem.W.mg_of X G a_law_end, k_law_end, b_law_end⟩
  have Z_badc : Cal l.prog w K mg base 1 "_law_bad_command" (zBadc K) := by
    rw [zBadc_eq]
    exact ⟨_, _, _, ok_badc F_law_bad_command TC, PySem.W.mg_of X G a_law_bad_command, k_law_bad_command, b_law_bad_command⟩
  have Z_foff : Cal l.prog w K mg base 2 "_law_first_off" (zFoff K) := by
    rw [zFoff_eq]
    exact ⟨_, _, _, ok_foff F_law_first_off TC C_law_end, PySem.W.mg_of X G a_law_first_off, k_law_first_off, b_law_first_off⟩
  have Z_odue : Cal l.prog w K mg base 3 "_law_origins_due" (zOdue K) := by
    rw [zOdue_eq]
    exact ⟨_, _, _, ok_odue F_law_origins_due TC Z_badc Z_foff, PySem.W.mg_of X G a_law_origins_due, k_law_origins_due, b_law_origins_due⟩
  have Z_cdue : Cal l.prog w K mg base 2 "_law_count_due" (zCdue K) := by
    rw [zCdue_eq]
    exact ⟨_, _, _, ok_cdue F_law_count_due Z_badc, PySem.W.mg_of X G a_law_count_due, k_law_count_due, b_law_count_due⟩
  have Z_caught : Cal l.prog w K mg base 8 "_law_caught" (zCaught K) := by
    rw [zCaught_eq]
    exact ⟨_, _, _, ok_caught F_law_caught TQ E_kind X_count X_origins, PySem.W.mg_of X G a_law_caught, k_law_caught, b_law_caught⟩
  exact ok_law F_law TC C_law_bag C_law_draw C_law_moves C_law_spoilt Z_caught Z_odue Z_cdue
theorem walk {l : PySem.W.OpenLaw} {q : Program} {loose : List Str} {XP : (Str → Option Value) → Heap → Prop} {YP : World → Heap → Prop} {d : DefRec} {K : Params → PySem.W.Frag} (hn : l.most = some 63) (hdf : d.params.defaults = [])
    (hY : ∀ (w : World) (h : Heap), YP w h → (K w.params).In h)
    (F : ∀ (w : World) (mg : Str → Option Value) (fa : Addr) (h : Heap), (K w.params).In h → h.Ns mainGlobals mg → mg d.name = some (.ref fa) →
      ∃ fd : FuncData, (∀ (s : Shared) (u : Value), BindsTo s fd ⟨[u], []⟩ [("script", u)]) ∧ ∀ base : Heap, (K w.params).In base → base.Ns mainGlobals mg → FnOk l.prog w (K w.params) mg base CX0 9 fa fd ["script"] (spLaw (K w.params))) :
    PySem.W.WalkO q loose XP YP l.row.toRowW d [] (fun f vs => PySem.call f vs) :=
  L2.walk_of (n := 63) (k := 9) (x := "script") (CX := fun _ => CX0) (sp := fun w => spLaw (K w.params)) hn (by decide) hdf ⟨rfl, by decide, by decide⟩ hY F (fun _ _ a ns hl _ hS => ⟨a, ns, rfl, hS, hl, fun _ => rfl⟩) fun _ _ _ _ _ z => z
end Gc

open PySem PySem.W PyProof.Rows in
set_option maxRecDepth 100000 in
set_option maxHeartbeats 0 in
theorem PySem.Challenge.cw_goalcolumn_k29_origins_and_counting_erro_holds : PySem.Challenge.rw_goalcolumn_k29_origins_and_counting_erro.Holds := by
  w_on; o_law; k_head; (case hw => w_witness2)
  k_fill
  refine Gc.walk (l := PySem.Challenge.rw_goalcolumn_k29_origins_and_counting_erro) rfl rfl (fun w h Y => PySem.W.kIn_of Y) ?F
  case F =>
    intro w mg fa h KX G hmg
    refine' Gc.all_mk KX G hmg ?aWN ?aWO ?lWN ?lWO ?a_is_count ?l_is_count ?c_is_count ?k_is_count ?a_is_command ?l_is_command ?c_is_command ?k_is_command ?a_check_commands ?l_check_commands ?c_check_commands ?k_check_commands ?a_check_number ?l_check_number ?c_check_number ?k_check_number ?a_row_change ?l_row_change ?c_row_change ?k_row_change ?a_reach ?l_reach ?c_reach ?k_reach ?a_require ?l_require ?c_require ?k_require ?a_box ?l_box ?c_box ?k_box ?a_check_text ?l_check_text ?c_check_text ?k_check_text ?a_check_cursor ?l_check_cursor ?c_check_cursor ?k_check_cursor ?a_run ?l_run ?c_run ?k_run ?a_shown_column ?l_shown_column ?c_shown_column ?k_shown_column ?a_moved ?l_moved ?c_moved ?k_moved ?a_new_goal ?l_new_goal ?c_new_goal ?k_new_goal ?a_effect ?l_effect ?c_effect ?k_effect ?a_total_change ?l_total_change ?c_total_change ?k_total_change ?a_origins ?l_origins ?c_origins ?k_origins ?a_is_less ?l_is_less ?c_is_less ?k_is_less ?a_count_texts ?l_count_texts ?c_count_texts ?k_count_texts ?a_count_reaching ?l_count_reaching ?c_count_reaching ?k_count_reaching ?a_law_bag ?l_law_bag ?c_law_bag ?k_law_bag ?a_law_draw ?l_law_draw ?c_law_draw ?k_law_draw ?a_law_moves ?l_law_moves ?c_law_moves ?k_law_moves ?a_law_end ?l_law_end ?c_law_end ?k_law_end ?a_law_spoilt ?l_law_spoilt ?c_law_spoilt ?k_law_spoilt ?a_law_bad_command ?l_law_bad_command ?c_law_bad_command ?k_law_bad_command ?a_law_first_off ?l_law_first_off ?c_law_first_off ?k_law_first_off ?a_law_origins_due ?l_law_origins_due ?c_law_origins_due ?k_law_origins_due ?a_law_count_due ?l_law_count_due ?c_law_count_due ?k_law_count_due ?a_law_kind ?l_law_kind ?c_law_kind ?k_law_kind ?a_law_caught ?l_law_caught ?c_law_caught ?k_law_caught ?a_law ?l_law ?c_law ?k_law ?z_isinstance ?z_int ?z_bool ?z_len ?z_enumerate ?z_reversed ?z_sorted ?z_max ?z_min ?z_abs ?z_range ?z_list ?z_ValueError ?aE ?yE ?bE ?hE ?gt ?tk ?a0 ?ty0 ?ic0 ?x0 ?sa0 ?ga0 ?gg0 ?no0 ?cc0 ?in0 ?ti0 ?l0 ?c0 ?k0 ?kc0 ?be0 ?ve0 ?hd0 ?mo0 ?se0 ?a1 ?ty1 ?ic1 ?x1 ?sa1 ?ga1 ?gg1 ?no1 ?cc1 ?in1 ?ti1 ?l1 ?c1 ?k1 ?kc1 ?be1 ?ve1 ?hd1 ?mo1 ?se1 ?a2 ?ty2 ?ic2 ?x2 ?sa2 ?ga2 ?gg2 ?no2 ?cc2 ?in2 ?ti2 ?l2 ?c2 ?k2 ?kc2 ?be2 ?ve2 ?hd2 ?mo2 ?se2 ?a3 ?ty3 ?ic3 ?x3 ?sa3 ?ga3 ?gg3 ?no3 ?cc3 ?in3 ?ti3 ?l3 ?c3 ?k3 ?kc3 ?be3 ?ve3 ?hd3 ?mo3 ?se3 ?a4 ?ty4 ?ic4 ?x4 ?sa4 ?ga4 ?gg4 ?no4 ?cc4 ?in4 ?ti4 ?l4 ?c4 ?k4 ?kc4 ?be4 ?ve4 ?hd4 ?mo4 ?se4 ?a5 ?ty5 ?ic5 ?a6 ?ty6 ?ic6 ?s0_0 ?s0_1 ?s0_2 ?s0_3 ?s0_4 ?s0_5 ?s0_6 ?s1_0 ?s1_1 ?s1_2 ?s1_3 ?s1_4 ?s1_5 ?s1_6 ?s2_0 ?s2_1 ?s2_2 ?s2_3 ?s2_4 ?s2_5 ?s2_6 ?s3_0 ?s3_1 ?s3_2 ?s3_3 ?s3_4 ?s3_5 ?s3_6 ?s4_0 ?s4_1 ?s4_2 ?s4_3 ?s4_4 ?s4_5 ?s4_6
    (case aWN => k_is)
    (case aWO => k_is)
    (case lWN => k_is)
    (case lWO => k_is)
    (case a_is_count => k_is)
    (case l_is_count => k_is)
    (case c_is_count => k_is)
    (case k_is_count => k_is)
    (case a_is_command => k_is)
    (case l_is_command => k_is)
    (case c_is_command => k_is)
    (case k_is_command => k_is)
    (case a_check_commands => k_is)
    (case l_check_commands => k_is)
    (case c_check_commands => k_is)
    (case k_check_commands => k_is)
    (case a_check_number => k_is)
    (case l_check_number => k_is)
    (case c_check_number => k_is)
    (case k_check_number => k_is)
    (case a_row_change => k_is)
    (case l_row_change => k_is)
    (case c_row_change => k_is)
    (case k_row_change => k_is)
    (case a_reach => k_is)
    (case l_reach => k_is)
    (case c_reach => k_is)
    (case k_reach => k_is)
    (case a_require => k_is)
    (case l_require => k_is)
    (case c_require => k_is)
    (case k_require => k_is)
    (case a_box => k_is)
    (case l_box => k_is)
    (case c_box => k_is)
    (case k_box => k_is)
    (case a_check_text => k_is)
    (case l_check_text => k_is)
    (case c_check_text => k_is)
    (case k_check_text => k_is)
    (case a_check_cursor => k_is)
    (case l_check_cursor => k_is)
    (case c_check_cursor => k_is)
    (case k_check_cursor => k_is)
    (case a_run => k_is)
    (case l_run => k_is)
    (case c_run => k_is)
    (case k_run => k_is)
    (case a_shown_column => k_is)
    (case l_shown_column => k_is)
    (case c_shown_column => k_is)
    (case k_shown_column => k_is)
    (case a_moved => k_is)
    (case l_moved => k_is)
    (case c_moved => k_is)
    (case k_moved => k_is)
    (case a_new_goal => k_is)
    (case l_new_goal => k_is)
    (case c_new_goal => k_is)
    (case k_new_goal => k_is)
    (case a_effect => k_is)
    (case l_effect => k_is)
    (case c_effect => k_is)
    (case k_effect => k_is)
    (case a_total_change => k_is)
    (case l_total_change => k_is)
    (case c_total_change => k_is)
    (case k_total_change => k_is)
    (case a_origins => k_is)
    (case l_origins => k_is)
    (case c_origins => k_is)
    (case k_origins => k_is)
    (case a_is_less => k_is)
    (case l_is_less => k_is)
    (case c_is_less => k_is)
    (case k_is_less => k_is)
    (case a_count_texts => k_is)
    (case l_count_texts => k_is)
    (case c_count_texts => k_is)
    (case k_count_texts => k_is)
    (case a_count_reaching => k_is)
    (case l_count_reaching => k_is)
    (case c_count_reaching => k_is)
    (case k_count_reaching => k_is)
    (case a_law_bag => k_is)
    (case l_law_bag => k_is)
    (case c_law_bag => k_is)
    (case k_law_bag => k_is)
    (case a_law_draw => k_is)
    (case l_law_draw => k_is)
    (case c_law_draw => k_is)
    (case k_law_draw => k_is)
    (case a_law_moves => k_is)
    (case l_law_moves => k_is)
    (case c_law_moves => k_is)
    (case k_law_moves => k_is)
    (case a_law_end => k_is)
    (case l_law_end => k_is)
    (case c_law_end => k_is)
    (case k_law_end => k_is)
    (case a_law_spoilt => k_is)
    (case l_law_spoilt => k_is)
    (case c_law_spoilt => k_is)
    (case k_law_spoilt => k_is)
    (case a_law_bad_command => k_is)
    (case l_law_bad_command => k_is)
    (case c_law_bad_command => k_is)
    (case k_law_bad_command => k_is)
    (case a_law_first_off => k_is)
    (case l_law_first_off => k_is)
    (case c_law_first_off => k_is)
    (case k_law_first_off => k_is)
    (case a_law_origins_due => k_is)
    (case l_law_origins_due => k_is)
    (case c_law_origins_due => k_is)
    (case k_law_origins_due => k_is)
    (case a_law_count_due => k_is)
    (case l_law_count_due => k_is)
    (case c_law_count_due => k_is)
    (case k_law_count_due => k_is)
    (case a_law_kind => k_is)
    (case l_law_kind => k_is)
    (case c_law_kind => k_is)
    (case k_law_kind => k_is)
    (case a_law_caught => k_is)
    (case l_law_caught => k_is)
    (case c_law_caught => k_is)
    (case k_law_caught => k_is)
    (case a_law => k_is)
    (case l_law => k_is)
    (case c_law => k_is)
    (case k_law => k_is)
    (case z_isinstance => k_is)
    (case z_int => k_is)
    (case z_bool => k_is)
    (case z_len => k_is)
    (case z_enumerate => k_is)
    (case z_reversed => k_is)
    (case z_sorted => k_is)
    (case z_max => k_is)
    (case z_min => k_is)
    (case z_abs => k_is)
    (case z_range => k_is)
    (case z_list => k_is)
    (case z_ValueError => k_is)
    (case aE => k_is)
    (case yE => k_is)
    (case bE => k_is)
    (case hE => k_is)
    (case gt => k_is)
    (case tk => k_is)
    (case a0 => k_is)
    (case ty0 => k_is)
    (case ic0 => k_is)
    (case x0 => k_is)
    (case sa0 => k_is)
    (case ga0 => k_is)
    (case gg0 => k_is)
    (case no0 => k_is)
    (case cc0 => k_is)
    (case in0 => k_is)
    (case ti0 => k_is)
    (case l0 => k_is)
    (case c0 => k_is)
    (case k0 => k_is)
    (case kc0 => k_is)
    (case be0 => k_is)
    (case ve0 => k_is)
    (case hd0 => k_is)
    (case mo0 => k_is)
    (case se0 => k_is)
    (case a1 => k_is)
    (case ty1 => k_is)
    (case ic1 => k_is)
    (case x1 => k_is)
    (case sa1 => k_is)
    (case ga1 => k_is)
    (case gg1 => k_is)
    (case no1 => k_is)
    (case cc1 => k_is)
    (case in1 => k_is)
    (case ti1 => k_is)
    (case l1 => k_is)
    (case c1 => k_is)
    (case k1 => k_is)
    (case kc1 => k_is)
    (case be1 => k_is)
    (case ve1 => k_is)
    (case hd1 => k_is)
    (case mo1 => k_is)
    (case se1 => k_is)
    (case a2 => k_is)
    (case ty2 => k_is)
    (case ic2 => k_is)
    (case x2 => k_is)
    (case sa2 => k_is)
    (case ga2 => k_is)
    (case gg2 => k_is)
    (case no2 => k_is)
    (case cc2 => k_is)
    (case in2 => k_is)
    (case ti2 => k_is)
    (case l2 => k_is)
    (case c2 => k_is)
    (case k2 => k_is)
    (case kc2 => k_is)
    (case be2 => k_is)
    (case ve2 => k_is)
    (case hd2 => k_is)
    (case mo2 => k_is)
    (case se2 => k_is)
    (case a3 => k_is)
    (case ty3 => k_is)
    (case ic3 => k_is)
    (case x3 => k_is)
    (case sa3 => k_is)
    (case ga3 => k_is)
    (case gg3 => k_is)
    (case no3 => k_is)
    (case cc3 => k_is)
    (case in3 => k_is)
    (case ti3 => k_is)
    (case l3 => k_is)
    (case c3 => k_is)
    (case k3 => k_is)
    (case kc3 => k_is)
    (case be3 => k_is)
    (case ve3 => k_is)
    (case hd3 => k_is)
    (case mo3 => k_is)
    (case se3 => k_is)
    (case a4 => k_is)
    (case ty4 => k_is)
    (case ic4 => k_is)
    (case x4 => k_is)
    (case sa4 => k_is)
    (case ga4 => k_is)
    (case gg4 => k_is)
    (case no4 => k_is)
    (case cc4 => k_is)
    (case in4 => k_is)
    (case ti4 => k_is)
    (case l4 => k_is)
    (case c4 => k_is)
    (case k4 => k_is)
    (case kc4 => k_is)
    (case be4 => k_is)
    (case ve4 => k_is)
    (case hd4 => k_is)
    (case mo4 => k_is)
    (case se4 => k_is)
    (case a5 => k_is)
    (case ty5 => k_is)
    (case ic5 => k_is)
    (case a6 => k_is)
    (case ty6 => k_is)
    (case ic6 => k_is)
    (case s0_0 => k_is)
    (case s0_1 => k_is)
    (case s0_2 => k_is)
    (case s0_3 => k_is)
    (case s0_4 => k_is)
    (case s0_5 => k_is)
    (case s0_6 => k_is)
    (case s1_0 => k_is)
    (case s1_1 => k_is)
    (case s1_2 => k_is)
    (case s1_3 => k_is)
    (case s1_4 => k_is)
    (case s1_5 => k_is)
    (case s1_6 => k_is)
    (case s2_0 => k_is)
    (case s2_1 => k_is)
    (case s2_2 => k_is)
    (case s2_3 => k_is)
    (case s2_4 => k_is)
    (case s2_5 => k_is)
    (case s2_6 => k_is)
    (case s3_0 => k_is)
    (case s3_1 => k_is)
    (case s3_2 => k_is)
    (case s3_3 => k_is)
    (case s3_4 => k_is)
    (case s3_5 => k_is)
    (case s3_6 => k_is)
    (case s4_0 => k_is)
    (case s4_1 => k_is)
    (case s4_2 => k_is)
    (case s4_3 => k_is)
    (case s4_4 => k_is)
    (case s4_5 => k_is)
    (case s4_6 => k_is)
