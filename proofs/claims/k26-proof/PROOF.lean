import PyProof.Rows.All
import Wide.All
import OpenK.AllK
import Wide.FinOn
import KE.SortData
import HandS.Base
import HandS.Call
import HandS.List
import HandS.Dict
import HandS.Words
import HandS.DictTup
import PyProof.RulesMatch
import HandS.Comp
import HandS.Iter
import HandS.Flow
import HandS.Rev
import HandS.Walk
import HandS.WordsList
import HandS.WordsDict
import HandS.IsInst
import HandS.Wide
import HandS.Codes
import HandS.Style
import HandS.Text
import HandS.StrMore
import HandS.More
import HandS.Conv
import PySem.Challenge.RW_goalcolumn_k26_whole_origins_on_long_tex
set_option Elab.async false
set_option linter.all false
set_option maxRecDepth 100000
set_option maxHeartbeats 4000000
/-! boxes of lists of commands: what the program reckons, over plain lists; and the laws of it -/
namespace Gc
inductive Cmd where
  | down (n : Int) | up (n : Int) | right (n : Int) | left (n : Int) | home | stop
  deriving DecidableEq
def Cmd.dv : Cmd → Int
  | .down n => n
  | .up n => -n
  | _ => 0
def Cmd.ok : Cmd → Prop
  | .down n => 1 ≤ n
  | .up n => 1 ≤ n
  | .right n => 1 ≤ n
  | .left n => 1 ≤ n
  | _ => True
def last (cs : List Cmd) : Int := (cs.map Cmd.dv).sum
abbrev Ps := List (Int × Int)
def leK (p q : Int × Int) : Bool := decide (p.1 < q.1 ∨ (p.1 = q.1 ∧ p.2 ≤ q.2))
def look (b : Ps) (k : Int) : Option Int := (b.find? fun q => q.1 = k).map (·.2)
def put (b : Ps) (k v : Int) : Ps := if b.any (fun q => q.1 = k) then b.map (fun q => if q.1 = k then (q.1, v) else q) else b ++ [(k, v)]
def mx (i j : Int) : Int := if j > i then j else i
def req (b : Ps) (o v : Int) : Ps := put b o (mx v ((look b o).getD v))
def go : List Cmd → Int → Int → Ps → Option (Option Int × Ps)
  | [], _, need, b => some (some need, b)
  | .home :: _, _, _, _ => none
  | .stop :: _, _, _, b => some (none, b)
  | .right n :: r, off, need, b => if need > n then go r off (need - n) (req b off need) else some (none, req b off need)
  | .left n :: r, off, need, b => go r off (need + n) (req b off (need + n))
  | .down n :: r, off, need, b => go r (off - n) need b
  | .up n :: r, off, need, b => go r (off + n) need b
def srt (x : Option Int × Ps) : Option Int × Ps := (x.1, x.2.mergeSort leK)
def boxM (cs : List Cmd) (goal : Int) : Option (Option Int × Ps) := (go cs.reverse (last cs) goal []).map srt

/-! ### association lists as functions -/
def val (b : Ps) (k : Int) : Int := (look b k).getD 0
def keys (b : Ps) : List Int := b.map (·.1)
structure Good (b : Ps) : Prop where
  nd : (keys b).Nodup
  pos : ∀ q ∈ b, 1 ≤ q.2
theorem good_nil : Good [] := ⟨List.nodup_nil, fun _ h => nomatch h⟩
theorem look_nil (k : Int) : look [] k = none := rfl
theorem look_cons (q : Int × Int) (b : Ps) (k : Int) : look (q :: b) k = if q.1 = k then some q.2 else look b k := by
  unfold look
  rw [List.find?_cons]
  by_cases h : q.1 = k
  · simp [h]
  · simp [h]
theorem look_none {b : Ps} {k : Int} : look b k = none ↔ k ∉ keys b := by
  induction b with
  | nil => simp [look, keys]
  | cons q b ih =>
    rw [look_cons]
    by_cases h : q.1 = k
    · rw [if_pos h]
      simp [keys, h]
    · rw [if_neg h, ih]
      simp only [keys, List.map_cons, List.mem_cons, not_or]
      exact ⟨fun x => ⟨fun e => h e.symm, x⟩, fun x => x.2⟩
theorem look_mem {b : Ps} {k v : Int} (h : look b k = some v) : (k, v) ∈ b := by
  induction b with
  | nil => cases h
  | cons q b ih =>
    rw [look_cons] at h
    by_cases e : q.1 = k
    · rw [if_pos e] at h
      have e2 := Option.some.inj h
      rw [← e, ← e2]
      exact List.mem_cons_self
    · rw [if_neg e] at h
      exact List.mem_cons_of_mem _ (ih h)
theorem mem_look {b : Ps} {q : Int × Int} (n : (keys b).Nodup) (h : q ∈ b) : look b q.1 = some q.2 := by
  induction b with
  | nil => cases h
  | cons p b ih =>
    have n' : p.1 ∉ keys b ∧ (keys b).Nodup := List.nodup_cons.mp n
    rw [look_cons]
    rcases List.mem_cons.mp h with e | h
    · rw [e, if_pos rfl]
    · have ne : p.1 ≠ q.1 := fun e => n'.1 (by rw [e]; exact List.mem_map.mpr ⟨q, h, rfl⟩)
      rw [if_neg ne]
      exact ih n'.2 h
theorem any_key (b : Ps) (k : Int) : b.any (fun q => q.1 = k) = true ↔ k ∈ keys b := by
  simp [keys, List.any_eq_true]
theorem look_put (b : Ps) (k v j : Int) : look (put b k v) j = if k = j then some v else look b j := by
  unfold put
  by_cases h : b.any (fun q => q.1 = k) = true
  · rw [if_pos h]
    induction b with
    | nil => simp at h
    | cons q b ih =>
      rw [List.map_cons, look_cons, look_cons]
      by_cases e : q.1 = k
      · rw [if_pos e]
        by_cases e2 : k = j
        · simp [e, e2]
        · simp only [e, e2, if_false]
          by_cases hb : b.any (fun q => q.1 = k) = true
          · rw [ih hb, if_neg e2]
          · have nm : ∀ p ∈ b, ¬ p.1 = k := fun p hp z => hb (List.any_eq_true.mpr ⟨p, hp, by simpa using z⟩)
            have em : b.map (fun q => if q.1 = k then (q.1, v) else q) = b := by
              conv => rhs; rw [← List.map_id b]
              exact List.map_congr_left fun p hp => by simp [nm p hp]
            rw [em]
      · rw [if_neg e]
        have hb : b.any (fun q => q.1 = k) = true := by
          rw [List.any_cons] at h
          simpa [e] using h
        by_cases e2 : q.1 = j
        · have e3 : ¬ k = j := fun z => e (e2.trans z.symm)
          simp [e2, e3]
        · simp only [e2, if_false]
          exact ih hb
  · rw [if_neg h]
    have nk : k ∉ keys b := fun z => h ((any_key b k).mpr z)
    clear h
    induction b with
    | nil =>
      show look [(k, v)] j = _
      rw [look_cons]
    | cons q b ih =>
      have n1 : ¬ q.1 = k := fun z => nk (by simp [keys, z])
      have n2 : k ∉ keys b := fun z => nk (List.mem_cons_of_mem _ z)
      rw [List.cons_append, look_cons, look_cons]
      by_cases e2 : q.1 = j
      · have e3 : ¬ k = j := fun z => n1 (e2.trans z.symm)
        simp [e2, e3]
      · simp only [e2, if_false]
        exact ih n2
theorem keys_put (b : Ps) (k v : Int) : keys (put b k v) = if k ∈ keys b then keys b else keys b ++ [k] := by
  unfold put
  by_cases h : b.any (fun q => q.1 = k) = true
  · rw [if_pos h, if_pos ((any_key b k).mp h)]
    unfold keys
    rw [List.map_map]
    refine List.map_congr_left fun p _ => ?_
    show (if p.1 = k then (p.1, v) else p).1 = p.1
    split <;> rfl
  · rw [if_neg h, if_neg fun z => h ((any_key b k).mpr z)]
    simp [keys]
theorem good_put {b : Ps} {k v : Int} (g : Good b) (hv : 1 ≤ v) : Good (put b k v) := by
  have nd : (keys (put b k v)).Nodup := by
    rw [keys_put]
    split
    · exact g.nd
    · rename_i h
      rw [List.nodup_append]
      exact ⟨g.nd, by simp, fun a ha c hc => by
        rw [List.mem_singleton.mp hc]
        intro z
        exact h (z ▸ ha)⟩
  refine ⟨nd, fun q hq => ?_⟩
  have e := mem_look nd hq
  rw [look_put] at e
  split at e
  · rw [← Option.some.inj e]
    exact hv
  · exact g.pos (q.1, q.2) (look_mem e)
theorem val_nonneg {b : Ps} (g : Good b) (k : Int) : 0 ≤ val b k := by
  unfold val
  cases e : look b k with
  | none => exact Int.le_refl 0
  | some v =>
    have := g.pos _ (look_mem e)
    show 0 ≤ v
    have h : 1 ≤ v := this
    omega
theorem val_put (b : Ps) (k v j : Int) : val (put b k v) j = if k = j then v else val b j := by
  unfold val
  rw [look_put]
  split <;> rfl
/-- require, on functions -/
def reqF (f : Int → Int) (o v : Int) : Int → Int := fun k => if o = k then max v (f k) else f k
theorem val_req {b : Ps} (g : Good b) {o v : Int} (hv : 1 ≤ v) : val (req b o v) = reqF (val b) o v := by
  funext k
  unfold req reqF
  rw [val_put]
  by_cases h : o = k
  · subst h
    rw [if_pos rfl, if_pos rfl]
    unfold val mx
    cases e : look b o with
    | none =>
      show (if v > v then v else v) = max v 0
      rw [if_neg (by omega)]
      omega
    | some x =>
      show (if x > v then x else v) = max v x
      split <;> omega
  · rw [if_neg h, if_neg h]
theorem good_req {b : Ps} (g : Good b) {o v : Int} (hv : 1 ≤ v) : Good (req b o v) := by
  refine good_put g ?_
  unfold mx
  split <;> omega

/-! ### the walk, on functions -/
def goF : List Cmd → Int → Int → (Int → Int) → Option (Option Int × (Int → Int))
  | [], _, need, f => some (some need, f)
  | .home :: _, _, _, _ => none
  | .stop :: _, _, _, f => some (none, f)
  | .right n :: r, off, need, f => if need > n then goF r off (need - n) (reqF f off need) else some (none, reqF f off need)
  | .left n :: r, off, need, f => goF r off (need + n) (reqF f off (need + n))
  | .down n :: r, off, need, f => goF r (off - n) need f
  | .up n :: r, off, need, f => goF r (off + n) need f
def AllOk (cs : List Cmd) : Prop := ∀ c ∈ cs, c.ok
theorem go_goF : ∀ {r : List Cmd} {off need : Int} {b : Ps}, AllOk r → Good b → 1 ≤ need →
    (go r off need b = none ∧ goF r off need (val b) = none) ∨ ∃ st b', go r off need b = some (st, b') ∧ Good b' ∧ goF r off need (val b) = some (st, val b') ∧ ∀ n, st = some n → 1 ≤ n
  | [], off, need, b, _, g, hn => .inr ⟨_, _, rfl, g, rfl, fun n e => by rw [← Option.some.inj e]; exact hn⟩
  | .home :: r, off, need, b, _, g, hn => .inl ⟨rfl, rfl⟩
  | .stop :: r, off, need, b, _, g, hn => .inr ⟨_, _, rfl, g, rfl, fun n e => nomatch e⟩
  | .right n :: r, off, need, b, hk, g, hn => by
    have hk' : AllOk r := fun c hc => hk c (List.mem_cons_of_mem _ hc)
    simp only [go, goF]
    by_cases h : need > n
    · rw [if_pos h, if_pos h, ← val_req g hn]
      exact go_goF hk' (good_req g hn) (by omega)
    · rw [if_neg h, if_neg h, ← val_req g hn]
      exact .inr ⟨_, _, rfl, good_req g hn, rfl, fun n e => nomatch e⟩
  | .left n :: r, off, need, b, hk, g, hn => by
    have hk' : AllOk r := fun c hc => hk c (List.mem_cons_of_mem _ hc)
    have h1 : 1 ≤ n := hk _ List.mem_cons_self
    simp only [go, goF]
    rw [← val_req g (by omega)]
    exact go_goF hk' (good_req g (by omega)) (by omega)
  | .down n :: r, off, need, b, hk, g, hn => go_goF (r := r) (fun c hc => hk c (List.mem_cons_of_mem _ hc)) g hn
  | .up n :: r, off, need, b, hk, g, hn => go_goF (r := r) (fun c hc => hk c (List.mem_cons_of_mem _ hc)) g hn

/-! ### ascending lists are told by their functions -/
def Asc (b : Ps) : Prop := b.Pairwise fun p q => p.1 < q.1
theorem asc_nd {b : Ps} (h : Asc b) : (keys b).Nodup := by
  unfold keys
  rw [List.nodup_iff_pairwise_ne, List.pairwise_map]
  exact h.imp fun h => Int.ne_of_lt h
theorem leK_trans (a b c : Int × Int) (h1 : leK a b = true) (h2 : leK b c = true) : leK a c = true := by
  unfold leK at *
  have a1 := of_decide_eq_true h1
  have a2 := of_decide_eq_true h2
  exact decide_eq_true (by omega)
theorem leK_total (a b : Int × Int) : (leK a b || leK b a) = true := by
  unfold leK
  by_cases h : a.1 < b.1 ∨ (a.1 = b.1 ∧ a.2 ≤ b.2)
  · rw [decide_eq_true h]
    rfl
  · rw [decide_eq_true (show b.1 < a.1 ∨ (b.1 = a.1 ∧ b.2 ≤ a.2) by omega), Bool.or_true]
theorem asc_sort {b : Ps} (g : Good b) : Asc (b.mergeSort leK) := by
  have p := List.pairwise_mergeSort (le := leK) leK_trans leK_total b
  have pm := List.mergeSort_perm b leK
  have nd : (keys (b.mergeSort leK)).Nodup := (pm.map (fun q : Int × Int => q.1)).nodup_iff.mpr g.nd
  unfold keys at nd
  rw [List.nodup_iff_pairwise_ne, List.pairwise_map] at nd
  refine (p.and nd).imp fun h => ?_
  have a := of_decide_eq_true h.1
  have c := h.2
  omega
theorem good_perm {b c : Ps} (g : Good b) (p : c.Perm b) : Good c := ⟨(p.map (fun q : Int × Int => q.1)).nodup_iff.mpr g.nd, fun q hq => g.pos q (p.mem_iff.mp hq)⟩
theorem look_perm {b c : Ps} (g : Good b) (p : c.Perm b) (k : Int) : look c k = look b k := by
  have g' := good_perm g p
  cases e : look b k with
  | none =>
    rw [look_none] at e ⊢
    exact fun z => e ((p.map (fun q : Int × Int => q.1)).mem_iff.mp z)
  | some v => exact mem_look g'.nd (p.mem_iff.mpr (look_mem e))
theorem val_perm {b c : Ps} (g : Good b) (p : c.Perm b) : val c = val b := by
  funext k
  unfold val
  rw [look_perm g p]
theorem look_val {b c : Ps} (gb : Good b) (gc : Good c) (h : val b = val c) (k : Int) : look b k = look c k := by
  have e := congrFun h k
  unfold val at e
  cases e1 : look b k with
  | none =>
    cases e2 : look c k with
    | none => rfl
    | some v =>
      rw [e1, e2] at e
      have : 1 ≤ v := gc.pos _ (look_mem e2)
      have e' : (0 : Int) = v := e
      omega
  | some u =>
    cases e2 : look c k with
    | none =>
      rw [e1, e2] at e
      have : 1 ≤ u := gb.pos _ (look_mem e1)
      have e' : u = (0 : Int) := e
      omega
    | some v =>
      rw [e1, e2] at e
      have e' : u = v := e
      rw [e']
theorem asc_ext : ∀ {b c : Ps}, Asc b → Asc c → (∀ k, look b k = look c k) → b = c
  | [], [], _, _, _ => rfl
  | [], q :: c, _, _, h => by
    have e := h q.1
    rw [look_cons, if_pos rfl] at e
    cases e
  | q :: b, [], _, _, h => by
    have e := h q.1
    rw [look_cons, if_pos rfl] at e
    cases e
  | p :: b, q :: c, hb, hc, h => by
    have hb' := List.pairwise_cons.mp hb
    have hc' := List.pairwise_cons.mp hc
    have e1 := h p.1
    rw [look_cons, if_pos rfl, look_cons] at e1
    have e2 := h q.1
    rw [look_cons, look_cons, if_pos rfl] at e2
    have key : p.1 = q.1 := by
      by_cases x : q.1 = p.1
      · exact x.symm
      · rw [if_neg x] at e1
        rw [if_neg fun z => x z.symm] at e2
        have m1 := hc'.1 _ (look_mem e1.symm)
        have m2 := hb'.1 _ (look_mem e2)
        have m1' : q.1 < p.1 := m1
        have m2' : p.1 < q.1 := m2
        omega
    rw [if_pos key.symm] at e1
    have hpq : p = q := Prod.ext key (Option.some.inj e1)
    subst hpq
    rw [asc_ext hb'.2 hc'.2 fun k => ?_]
    have e := h k
    rw [look_cons, look_cons] at e
    by_cases x : p.1 = k
    · have n1 : look b k = none := look_none.mpr fun z => by
        obtain ⟨r, hr, er⟩ := List.mem_map.mp z
        have := hb'.1 r hr
        omega
      have n2 : look c k = none := look_none.mpr fun z => by
        obtain ⟨r, hr, er⟩ := List.mem_map.mp z
        have := hc'.1 r hr
        omega
      rw [n1, n2]
    · rw [if_neg x, if_neg x] at e
      exact e
theorem sort_ext {b c : Ps} (gb : Good b) (gc : Good c) (h : val b = val c) : b.mergeSort leK = c.mergeSort leK :=
  asc_ext (asc_sort gb) (asc_sort gc) fun k => by
    rw [look_perm gb (List.mergeSort_perm b leK), look_perm gc (List.mergeSort_perm c leK)]
    exact look_val gb gc h k
end Gc

/-! laws of boxes: joined lists, greater goals, multiplied moves -/
namespace Gc
abbrev BF := Option (Option Int × (Int → Int))
def boxF (cs : List Cmd) (goal : Int) : BF := goF cs.reverse (last cs) goal fun _ => 0
theorem val_nil : val [] = fun _ => 0 := rfl
theorem allOk_rev {cs : List Cmd} (h : AllOk cs) : AllOk cs.reverse := fun c hc => h c (List.mem_reverse.mp hc)
theorem box_spec {cs : List Cmd} {goal : Int} (h : AllOk cs) (hg : 1 ≤ goal) :
    (boxM cs goal = none ∧ boxF cs goal = none) ∨ ∃ st b, boxM cs goal = some (st, b.mergeSort leK) ∧ Good b ∧ boxF cs goal = some (st, val b) ∧ ∀ n, st = some n → 1 ≤ n := by
  unfold boxM boxF
  rw [← val_nil]
  rcases go_goF (off := last cs) (allOk_rev h) good_nil hg with ⟨e1, e2⟩ | ⟨st, b, e1, g, e2, p⟩
  · exact .inl ⟨by rw [e1]; rfl, e2⟩
  · exact .inr ⟨st, b, by rw [e1]; rfl, g, e2, p⟩
def thenF (x : BF) (k : Int → (Int → Int) → BF) : BF := match x with
  | none => none
  | some (none, g) => some (none, g)
  | some (some n, g) => k n g
theorem goF_app : ∀ (a b : List Cmd) (off need : Int) (f : Int → Int), goF (a ++ b) off need f = thenF (goF a off need f) fun n g => goF b (off - (a.map Cmd.dv).sum) n g
  | [], b, off, need, f => by
    show goF b off need f = goF b (off - 0) need f
    rw [Int.sub_zero]
  | .home :: a, b, off, need, f => rfl
  | .stop :: a, b, off, need, f => rfl
  | .right n :: a, b, off, need, f => by
    have e : off - (((Cmd.right n :: a).map Cmd.dv).sum) = off - (a.map Cmd.dv).sum := by
      rw [List.map_cons, List.sum_cons]
      show off - (0 + _) = _
      omega
    rw [e, List.cons_append]
    simp only [goF]
    by_cases h : need > n
    · rw [if_pos h, if_pos h]
      exact goF_app a b off (need - n) _
    · rw [if_neg h, if_neg h]
      rfl
  | .left n :: a, b, off, need, f => by
    have e : off - (((Cmd.left n :: a).map Cmd.dv).sum) = off - (a.map Cmd.dv).sum := by
      rw [List.map_cons, List.sum_cons]
      show off - (0 + _) = _
      omega
    rw [e, List.cons_append]
    exact goF_app a b off (need + n) _
  | .down n :: a, b, off, need, f => by
    have e : off - (((Cmd.down n :: a).map Cmd.dv).sum) = off - n - (a.map Cmd.dv).sum := by
      rw [List.map_cons, List.sum_cons]
      show off - (n + _) = _
      omega
    rw [e, List.cons_append]
    exact goF_app a b (off - n) need f
  | .up n :: a, b, off, need, f => by
    have e : off - (((Cmd.up n :: a).map Cmd.dv).sum) = off + n - (a.map Cmd.dv).sum := by
      rw [List.map_cons, List.sum_cons]
      show off - (-n + _) = _
      omega
    rw [e, List.cons_append]
    exact goF_app a b (off + n) need f
theorem goF_shift (d : Int) : ∀ (r : List Cmd) (off need : Int) (f : Int → Int), goF r (off + d) need (fun k => f (k - d)) = (goF r off need f).map fun x => (x.1, fun k => x.2 (k - d))
  | [], off, need, f => rfl
  | .home :: r, off, need, f => rfl
  | .stop :: r, off, need, f => rfl
  | .right n :: r, off, need, f => by
    have e : reqF (fun k => f (k - d)) (off + d) need = fun k => reqF f off need (k - d) := by
      funext k
      unfold reqF
      by_cases h : off + d = k
      · rw [if_pos h, if_pos (by omega)]
      · rw [if_neg h, if_neg (by omega)]
    simp only [goF]
    rw [e]
    by_cases h : need > n
    · rw [if_pos h, if_pos h]
      exact goF_shift d r off (need - n) _
    · rw [if_neg h, if_neg h]
      rfl
  | .left n :: r, off, need, f => by
    have e : reqF (fun k => f (k - d)) (off + d) (need + n) = fun k => reqF f off (need + n) (k - d) := by
      funext k
      unfold reqF
      by_cases h : off + d = k
      · rw [if_pos h, if_pos (by omega)]
      · rw [if_neg h, if_neg (by omega)]
    simp only [goF]
    rw [e]
    exact goF_shift d r off (need + n) _
  | .down n :: r, off, need, f => by
    simp only [goF]
    rw [show off + d - n = off - n + d by omega]
    exact goF_shift d r (off - n) need f
  | .up n :: r, off, need, f => by
    simp only [goF]
    rw [show off + d + n = off + n + d by omega]
    exact goF_shift d r (off + n) need f
theorem goF_max (h : Int → Int) : ∀ (r : List Cmd) (off need : Int) (f : Int → Int), goF r off need (fun k => max (f k) (h k)) = (goF r off need f).map fun x => (x.1, fun k => max (x.2 k) (h k))
  | [], off, need, f => rfl
  | .home :: r, off, need, f => rfl
  | .stop :: r, off, need, f => rfl
  | .right n :: r, off, need, f => by
    have e : reqF (fun k => max (f k) (h k)) off need = fun k => max (reqF f off need k) (h k) := by
      funext k
      unfold reqF
      show (if _ then _ else _) = _
      by_cases q : off = k
      · simp only [q, if_true]
        rw [Int.max_assoc]
      · simp only [q, if_false]
    simp only [goF]
    rw [e]
    by_cases c : need > n
    · rw [if_pos c, if_pos c]
      exact goF_max h r off (need - n) _
    · rw [if_neg c, if_neg c]
      rfl
  | .left n :: r, off, need, f => by
    have e : reqF (fun k => max (f k) (h k)) off (need + n) = fun k => max (reqF f off (need + n) k) (h k) := by
      funext k
      unfold reqF
      show (if _ then _ else _) = _
      by_cases q : off = k
      · simp only [q, if_true]
        rw [Int.max_assoc]
      · simp only [q, if_false]
    simp only [goF]
    rw [e]
    exact goF_max h r off (need + n) _
  | .down n :: r, off, need, f => goF_max h r (off - n) need f
  | .up n :: r, off, need, f => goF_max h r (off + n) need f
theorem last_app (a b : List Cmd) : last (a ++ b) = last a + last b := by
  unfold last
  rw [List.map_append, List.sum_append]
theorem sum_rev (l : List Int) : l.reverse.sum = l.sum := by
  induction l with
  | nil => rfl
  | cons a l ih =>
    rw [List.reverse_cons, List.sum_append, ih, List.sum_cons]
    simp
    omega
theorem boxF_app (early late : List Cmd) (aim : Int) (pos : ∀ st g, boxF late aim = some (st, g) → ∀ k, 0 ≤ g k) :
    boxF (early ++ late) aim = match boxF late aim with
      | none => none
      | some (none, g) => some (none, fun k => g (k - last early))
      | some (some n, g) => (boxF early n).map fun x => (x.1, fun k => max (x.2 k) (g (k - last early))) := by
  unfold boxF
  rw [List.reverse_append, goF_app, last_app, Int.add_comm (last early)]
  have sh : goF late.reverse (last late + last early) aim (fun _ => 0) = (goF late.reverse (last late) aim fun _ => 0).map fun x => (x.1, fun k => x.2 (k - last early)) :=
    goF_shift (last early) late.reverse (last late) aim fun _ => 0
  rw [sh]
  have pos' := pos
  unfold boxF at pos'
  cases e : goF late.reverse (last late) aim (fun _ => 0) with
  | none => rfl
  | some x =>
    obtain ⟨st, g⟩ := x
    cases st with
    | none => rfl
    | some n =>
      show goF early.reverse (last late + last early - (late.reverse.map Cmd.dv).sum) n (fun k => g (k - last early)) = _
      have es : (late.reverse.map Cmd.dv).sum = last late := by
        rw [List.map_reverse, sum_rev]
        rfl
      rw [es, show last late + last early - last late = last early by omega]
      have em : (fun k => g (k - last early)) = fun k => max ((fun _ => 0 : Int → Int) k) (g (k - last early)) := by
        funext k
        have := pos' _ _ e (k - last early)
        show g (k - last early) = max 0 (g (k - last early))
        omega
      rw [em, goF_max]

/-! ### the law's own joining -/
def shiftK (d : Int) (b : Ps) : Ps := b.map fun q => (q.1 + d, q.2)
def addAll (b : Ps) (l : Ps) : Ps := l.foldl (fun b q => put b q.1 (mx q.2 ((look b q.1).getD 0))) b
def joinedM (early late : List Cmd) (gone aim : Int) : Option (Option Int × Ps) := match boxM late aim with
  | none => none
  | some (none, l) => some (none, (shiftK gone l).mergeSort leK)
  | some (some n, l) => match boxM early n with
    | none => none
    | some (st, m) => some (st, (addAll (shiftK gone l) m).mergeSort leK)
theorem look_shift (d : Int) : ∀ (b : Ps) (k : Int), look (shiftK d b) k = look b (k - d)
  | [], _ => rfl
  | q :: b, k => by
    show look ((q.1 + d, q.2) :: shiftK d b) k = _
    rw [look_cons, look_cons, look_shift d b]
    by_cases h : q.1 + d = k
    · rw [if_pos h, if_pos (by omega)]
    · rw [if_neg h, if_neg (by omega)]
theorem good_shift (d : Int) {b : Ps} (g : Good b) : Good (shiftK d b) := by
  refine ⟨?_, fun q hq => ?_⟩
  · have e : keys (shiftK d b) = (keys b).map (· + d) := by
      unfold keys shiftK
      rw [List.map_map, List.map_map]
      rfl
    rw [e, List.nodup_iff_pairwise_ne, List.pairwise_map]
    exact (List.nodup_iff_pairwise_ne.mp g.nd).imp fun h => by omega
  · obtain ⟨p, hp, rfl⟩ := List.mem_map.mp hq
    exact g.pos p hp
theorem val_shift (d : Int) (b : Ps) : val (shiftK d b) = fun k => val b (k - d) := by
  funext k
  unfold val
  rw [look_shift]
theorem val_cons (q : Int × Int) (b : Ps) (k : Int) : val (q :: b) k = if q.1 = k then q.2 else val b k := by
  unfold val
  rw [look_cons]
  split <;> rfl
theorem val_out {b : Ps} {k : Int} (h : k ∉ keys b) : val b k = 0 := by
  unfold val
  rw [look_none.mpr h]
  rfl
theorem addAll_good : ∀ {l b : Ps}, Good b → Good l → Good (addAll b l) ∧ ∀ k, val (addAll b l) k = max (val l k) (val b k)
  | [], b, gb, _ => ⟨gb, fun k => by
      have := val_nonneg gb k
      show val b k = max 0 (val b k)
      omega⟩
  | q :: l, b, gb, gl => by
    have nq : q.1 ∉ keys l ∧ (keys l).Nodup := List.nodup_cons.mp gl.nd
    have p1 : 1 ≤ q.2 := gl.pos q List.mem_cons_self
    have gl' : Good l := ⟨nq.2, fun p hp => gl.pos p (List.mem_cons_of_mem _ hp)⟩
    have hv : 1 ≤ mx q.2 ((look b q.1).getD 0) := by
      unfold mx
      split <;> omega
    obtain ⟨g, v⟩ := addAll_good (b := put b q.1 (mx q.2 ((look b q.1).getD 0))) (good_put gb hv) gl'
    refine ⟨g, fun k => ?_⟩
    show val (addAll (put b q.1 (mx q.2 ((look b q.1).getD 0))) l) k = _
    rw [v k, val_put, val_cons]
    by_cases h : q.1 = k
    · subst h
      rw [if_pos rfl, if_pos rfl, val_out nq.1]
      have : mx q.2 ((look b q.1).getD 0) = max q.2 (val b q.1) := by
        unfold mx val
        split <;> omega
      rw [this]
      omega
    · rw [if_neg h, if_neg h]
theorem joined (early late : List Cmd) {aim : Int} (he : AllOk early) (hl : AllOk late) (ha : 1 ≤ aim) : boxM (early ++ late) aim = joinedM early late (last early) aim := by
  have hw : AllOk (early ++ late) := fun c hc => (List.mem_append.mp hc).elim (he c) (hl c)
  have srtd : ∀ {b c : Ps}, Good b → Good c → val b = val c → b.mergeSort leK = c.mergeSort leK := fun gb gc h => sort_ext gb gc h
  rcases box_spec hl ha with ⟨e1, e2⟩ | ⟨st, b, e1, gb, e2, pb⟩
  · have f := boxF_app early late aim fun st g h => by rw [e2] at h; cases h
    rw [e2] at f
    rcases box_spec hw ha with ⟨w1, _⟩ | ⟨_, _, _, _, w2, _⟩
    · rw [w1]
      unfold joinedM
      rw [e1]
    · rw [w2] at f
      cases f
  · have f := boxF_app early late aim fun st g h => by
      rw [e2] at h
      cases h
      exact val_nonneg gb
    rw [e2] at f
    have gs : Good (b.mergeSort leK) := good_perm gb (List.mergeSort_perm b leK)
    have vs : val (b.mergeSort leK) = val b := val_perm gb (List.mergeSort_perm b leK)
    cases st with
    | none =>
      rcases box_spec hw ha with ⟨_, w2⟩ | ⟨st', c, w1, gc, w2, _⟩
      · rw [w2] at f
        cases f
      · rw [w2] at f
        have f' := Option.some.inj f
        have f1 : st' = none := congrArg Prod.fst f'
        have f2 : val c = fun k => val b (k - last early) := congrArg Prod.snd f'
        rw [w1, f1]
        unfold joinedM
        rw [e1]
        show some ((none : Option Int), c.mergeSort leK) = some (none, (shiftK (last early) (b.mergeSort leK)).mergeSort leK)
        rw [srtd gc (good_shift _ gs) (by rw [f2, val_shift, vs])]
    | some n =>
      have hn := pb n rfl
      rcases box_spec he hn with ⟨x1, x2⟩ | ⟨st2, m, x1, gm, x2, _⟩
      · have f' : boxF (early ++ late) aim = (boxF early n).map fun x => (x.1, fun k => max (x.2 k) (val b (k - last early))) := f
        rw [x2] at f'
        rcases box_spec hw ha with ⟨w1, _⟩ | ⟨_, _, _, _, w2, _⟩
        · rw [w1]
          unfold joinedM
          rw [e1]
          show none = match boxM early n with | none => none | some (st, m) => _
          rw [x1]
        · rw [w2] at f'
          cases f'
      · have f' : boxF (early ++ late) aim = (boxF early n).map fun x => (x.1, fun k => max (x.2 k) (val b (k - last early))) := f
        rw [x2] at f'
        rcases box_spec hw ha with ⟨_, w2⟩ | ⟨st', c, w1, gc, w2, _⟩
        · rw [w2] at f'
          cases f'
        · rw [w2] at f'
          have f3 := Option.some.inj f'
          have f1 : st' = st2 := congrArg Prod.fst f3
          have f2 : val c = fun k => max (val m k) (val b (k - last early)) := congrArg Prod.snd f3
          rw [w1, f1]
          unfold joinedM
          rw [e1]
          show some (st2, c.mergeSort leK) = match boxM early n with | none => none | some (st, m) => _
          rw [x1]
          show some (st2, c.mergeSort leK) = some (st2, (addAll (shiftK (last early) (b.mergeSort leK)) (m.mergeSort leK)).mergeSort leK)
          have gms : Good (m.mergeSort leK) := good_perm gm (List.mergeSort_perm m leK)
          obtain ⟨ga, va⟩ := addAll_good (good_shift (last early) gs) gms
          rw [srtd gc ga (by
            funext k
            rw [f2, va k, val_perm gm (List.mergeSort_perm m leK), val_shift, vs])]

/-! ### a greater goal -/
theorem reqF_mono {f g : Int → Int} {o v u : Int} (h : ∀ k, f k ≤ g k) (hv : v ≤ u) (k : Int) : reqF f o v k ≤ reqF g o u k := by
  have := h k
  unfold reqF
  split <;> omega
theorem reqF_ge (f : Int → Int) (o v k : Int) : f k ≤ reqF f o v k := by
  unfold reqF
  split <;> omega
theorem goF_ge : ∀ {r : List Cmd} {off need : Int} {f : Int → Int} {st : Option Int} {g : Int → Int}, goF r off need f = some (st, g) → ∀ k, f k ≤ g k
  | [], off, need, f, st, g, h, k => by cases h; exact Int.le_refl _
  | .home :: r, off, need, f, st, g, h, k => by cases h
  | .stop :: r, off, need, f, st, g, h, k => by cases h; exact Int.le_refl _
  | .right n :: r, off, need, f, st, g, h, k => by
    simp only [goF] at h
    by_cases c : need > n
    · rw [if_pos c] at h
      exact Int.le_trans (reqF_ge f off need k) (goF_ge h k)
    · rw [if_neg c] at h
      cases h
      exact reqF_ge f off need k
  | .left n :: r, off, need, f, st, g, h, k => Int.le_trans (reqF_ge f off (need + n) k) (goF_ge (r := r) h k)
  | .down n :: r, off, need, f, st, g, h, k => goF_ge (r := r) h k
  | .up n :: r, off, need, f, st, g, h, k => goF_ge (r := r) h k
def Less (x y : BF) : Prop := y = none ∨ ∃ st g st' g', x = some (st, g) ∧ y = some (st', g') ∧ (∀ n, st = some n → ∃ n', st' = some n' ∧ n ≤ n') ∧ ∀ k, g k ≤ g' k
theorem goF_mono : ∀ {r : List Cmd} {off need need' : Int} {f f' : Int → Int}, need ≤ need' → (∀ k, f k ≤ f' k) → Less (goF r off need f) (goF r off need' f')
  | [], off, need, need', f, f', h, hf => .inr ⟨_, _, _, _, rfl, rfl, fun n e => ⟨need', rfl, by rw [← Option.some.inj e]; exact h⟩, hf⟩
  | .home :: r, off, need, need', f, f', h, hf => .inl rfl
  | .stop :: r, off, need, need', f, f', h, hf => .inr ⟨_, _, _, _, rfl, rfl, (fun n e => nomatch e), hf⟩
  | .right n :: r, off, need, need', f, f', h, hf => by
    simp only [goF]
    have m := reqF_mono (o := off) hf h
    by_cases c : need > n
    · rw [if_pos c, if_pos (by omega)]
      exact goF_mono (by omega) m
    · rw [if_neg c]
      by_cases c' : need' > n
      · rw [if_pos c']
        cases e : goF r off (need' - n) (reqF f' off need') with
        | none => exact .inl rfl
        | some x => exact .inr ⟨_, _, x.1, x.2, rfl, rfl, (fun n e => nomatch e), fun k => Int.le_trans (m k) (goF_ge e k)⟩
      · rw [if_neg c']
        exact .inr ⟨_, _, _, _, rfl, rfl, (fun n e => nomatch e), m⟩
  | .left n :: r, off, need, need', f, f', h, hf => goF_mono (r := r) (by omega) (reqF_mono (o := off) hf (by omega))
  | .down n :: r, off, need, need', f, f', h, hf => goF_mono (r := r) h hf
  | .up n :: r, off, need, need', f, f', h, hf => goF_mono (r := r) h hf
theorem box_mono {cs : List Cmd} {aim more : Int} (h : AllOk cs) (ha : 1 ≤ aim) (hm : aim ≤ more) :
    boxM cs more = none ∨ ∃ st l st' l', boxM cs aim = some (st, l) ∧ boxM cs more = some (st', l') ∧ (∀ n, st = some n → ∃ n', st' = some n' ∧ n ≤ n') ∧ ∀ q ∈ l, q.2 ≤ val l' q.1 := by
  have m : Less (boxF cs aim) (boxF cs more) := goF_mono hm fun _ => Int.le_refl _
  rcases box_spec h (show 1 ≤ more by omega) with ⟨e1, _⟩ | ⟨st', b', e1, g', e2, _⟩
  · exact .inl e1
  · rcases m with m | ⟨st, g, st2, g2, m1, m2, m3, m4⟩
    · rw [e2] at m
      cases m
    · rw [e2] at m2
      cases m2
      rcases box_spec h ha with ⟨_, x2⟩ | ⟨st3, b, x1, gb, x2, _⟩
      · rw [x2] at m1
        cases m1
      · rw [x2] at m1
        cases m1
        refine .inr ⟨st, _, st', _, x1, e1, m3, fun q hq => ?_⟩
        have gs : Good (b.mergeSort leK) := good_perm gb (List.mergeSort_perm b leK)
        have v : val (b.mergeSort leK) q.1 = q.2 := by
          unfold val
          rw [mem_look gs.nd hq]
          rfl
        rw [val_perm gb (List.mergeSort_perm b leK)] at v
        rw [val_perm g' (List.mergeSort_perm b' leK), ← v]
        exact m4 q.1

/-! ### moves multiplied -/
def Cmd.mul (F : Int) : Cmd → Cmd
  | .down n => .down (n * F)
  | .up n => .up (n * F)
  | c => c
def mulK (F : Int) (b : Ps) : Ps := b.map fun q => (q.1 * F, q.2)
theorem mul_inj {F a b : Int} (hF : 1 ≤ F) : a * F = b * F ↔ a = b := ⟨fun h => Int.eq_of_mul_eq_mul_right (by omega) h, fun h => by rw [h]⟩
theorem look_mul {F : Int} (hF : 1 ≤ F) : ∀ (b : Ps) (k : Int), look (mulK F b) (k * F) = look b k
  | [], _ => rfl
  | q :: b, k => by
    show look ((q.1 * F, q.2) :: mulK F b) (k * F) = _
    rw [look_cons, look_cons, look_mul hF b]
    by_cases h : q.1 = k
    · rw [if_pos h, if_pos (by rw [h])]
    · rw [if_neg h, if_neg fun z => h ((mul_inj hF).mp z)]
theorem put_mul {F : Int} (hF : 1 ≤ F) (b : Ps) (k v : Int) : put (mulK F b) (k * F) v = mulK F (put b k v) := by
  unfold put
  have ea : (mulK F b).any (fun q => decide (q.1 = k * F)) = b.any (fun q => decide (q.1 = k)) := by
    unfold mulK
    rw [List.any_map]
    congr 1
    funext q
    show decide (q.1 * F = k * F) = decide (q.1 = k)
    exact decide_eq_decide.mpr (mul_inj hF)
  rw [ea]
  by_cases h : b.any (fun q => decide (q.1 = k)) = true
  · rw [if_pos h, if_pos h]
    unfold mulK
    rw [List.map_map, List.map_map]
    refine List.map_congr_left fun q _ => ?_
    show (if q.1 * F = k * F then (q.1 * F, v) else (q.1 * F, q.2)) = ((if q.1 = k then (q.1, v) else q).1 * F, (if q.1 = k then (q.1, v) else q).2)
    by_cases e : q.1 = k
    · rw [if_pos e, if_pos (by rw [e])]
    · rw [if_neg e, if_neg fun z => e ((mul_inj hF).mp z)]
  · rw [if_neg h, if_neg h]
    unfold mulK
    rw [List.map_append]
    rfl
theorem req_mul {F : Int} (hF : 1 ≤ F) (b : Ps) (o v : Int) : req (mulK F b) (o * F) v = mulK F (req b o v) := by
  unfold req
  rw [look_mul hF, put_mul hF]
theorem go_mul {F : Int} (hF : 1 ≤ F) : ∀ (r : List Cmd) (off need : Int) (b : Ps), go (r.map (Cmd.mul F)) (off * F) need (mulK F b) = (go r off need b).map fun x => (x.1, mulK F x.2)
  | [], off, need, b => rfl
  | .home :: r, off, need, b => rfl
  | .stop :: r, off, need, b => rfl
  | .right n :: r, off, need, b => by
    show (if need > n then go (r.map (Cmd.mul F)) (off * F) (need - n) (req (mulK F b) (off * F) need) else some (none, req (mulK F b) (off * F) need)) = (if need > n then go r off (need - n) (req b off need) else some (none, req b off need)).map _
    rw [req_mul hF]
    by_cases c : need > n
    · rw [if_pos c, if_pos c]
      exact go_mul hF r off (need - n) _
    · rw [if_neg c, if_neg c]
      rfl
  | .left n :: r, off, need, b => by
    show go (r.map (Cmd.mul F)) (off * F) (need + n) (req (mulK F b) (off * F) (need + n)) = _
    rw [req_mul hF]
    exact go_mul hF r off (need + n) _
  | .down n :: r, off, need, b => by
    show go (r.map (Cmd.mul F)) (off * F - n * F) need (mulK F b) = _
    rw [← Int.sub_mul]
    exact go_mul hF r (off - n) need b
  | .up n :: r, off, need, b => by
    show go (r.map (Cmd.mul F)) (off * F + n * F) need (mulK F b) = _
    rw [← Int.add_mul]
    exact go_mul hF r (off + n) need b
theorem last_mul (F : Int) : ∀ cs : List Cmd, last (cs.map (Cmd.mul F)) = last cs * F
  | [] => by show (0 : Int) = 0 * F; omega
  | c :: cs => by
    have e : ∀ (c : Cmd) (cs : List Cmd), last (c :: cs) = c.dv + last cs := fun _ _ => rfl
    have d : (c.mul F).dv = c.dv * F := by
      cases c with
      | up n =>
        show -(n * F) = -n * F
        rw [Int.neg_mul]
      | down n => rfl
      | right n => show (0 : Int) = 0 * F; omega
      | left n => show (0 : Int) = 0 * F; omega
      | home => show (0 : Int) = 0 * F; omega
      | stop => show (0 : Int) = 0 * F; omega
    rw [List.map_cons, e, e, last_mul F cs, d, Int.add_mul]
theorem good_mul {F : Int} (hF : 1 ≤ F) {b : Ps} (g : Good b) : Good (mulK F b) := by
  refine ⟨?_, fun q hq => ?_⟩
  · have e : keys (mulK F b) = (keys b).map (· * F) := by
      unfold keys mulK
      rw [List.map_map, List.map_map]
      rfl
    rw [e, List.nodup_iff_pairwise_ne, List.pairwise_map]
    exact (List.nodup_iff_pairwise_ne.mp g.nd).imp fun h z => h ((mul_inj hF).mp z)
  · obtain ⟨p, hp, rfl⟩ := List.mem_map.mp hq
    exact g.pos p hp
theorem asc_mul {F : Int} (hF : 1 ≤ F) {b : Ps} (h : Asc b) : Asc (mulK F b) := by
  unfold Asc mulK
  rw [List.pairwise_map]
  exact h.imp fun h => Int.mul_lt_mul_of_pos_right h (by omega)
theorem box_mul {F : Int} (hF : 1 ≤ F) {cs : List Cmd} {goal : Int} (h : AllOk cs) (hg : 1 ≤ goal) :
    boxM (cs.map (Cmd.mul F)) goal = (boxM cs goal).map fun x => (x.1, mulK F x.2) := by
  unfold boxM
  rw [last_mul, ← List.map_reverse]
  have e := go_mul hF cs.reverse (last cs) goal []
  have e' : go (cs.reverse.map (Cmd.mul F)) (last cs * F) goal [] = (go cs.reverse (last cs) goal []).map fun x => (x.1, mulK F x.2) := e
  rw [e']
  rcases go_goF (off := last cs) (allOk_rev h) good_nil hg with ⟨e1, _⟩ | ⟨st, b, e1, g, _, _⟩
  · rw [e1]
    rfl
  · rw [e1]
    show some (st, (mulK F b).mergeSort leK) = some (st, mulK F (b.mergeSort leK))
    have gm := good_mul hF g
    have key : (mulK F b).mergeSort leK = mulK F (b.mergeSort leK) := by
      have p : (mulK F (b.mergeSort leK)).Perm (mulK F b) := (List.mergeSort_perm b leK).map _
      refine asc_ext (asc_sort gm) (asc_mul hF (asc_sort g)) fun k => ?_
      rw [look_perm gm (List.mergeSort_perm _ leK), look_perm gm p]
    rw [key]
def Cmd.vert : Cmd → Bool
  | .down _ => true
  | .up _ => true
  | _ => false
theorem go_plain : ∀ (r : List Cmd) (off need : Int) (b : Ps), (∀ c ∈ r, c.vert = true) → go r off need b = some (some need, b)
  | [], _, _, _, _ => rfl
  | .down n :: r, off, need, b, h => go_plain r (off - n) need b fun c hc => h c (List.mem_cons_of_mem _ hc)
  | .up n :: r, off, need, b, h => go_plain r (off + n) need b fun c hc => h c (List.mem_cons_of_mem _ hc)
  | .right n :: r, _, _, _, h => nomatch h _ List.mem_cons_self
  | .left n :: r, _, _, _, h => nomatch h _ List.mem_cons_self
  | .home :: r, _, _, _, h => nomatch h _ List.mem_cons_self
  | .stop :: r, _, _, _, h => nomatch h _ List.mem_cons_self
theorem box_plain (cs : List Cmd) (goal : Int) (h : ∀ c ∈ cs, c.vert = true) : boxM cs goal = some (some goal, []) := by
  unfold boxM
  rw [go_plain cs.reverse (last cs) goal [] fun c hc => h c (List.mem_reverse.mp hc)]
  show some (some goal, ([] : Ps).mergeSort leK) = _
  rw [List.mergeSort_nil]
end Gc

/-! sorted(d.items()), d a dict of ints by ints -/
namespace Gc
open PySem PySem.Spec PyProof.Rows L2
/-- what such a dict holds -/
def dkI (ps : List (Int × Int)) : List (L2.Key × V) := ps.map fun q => (Sum.inl q.1, V.int q.2)
def encP (q : Int × Int) : PyData := .tuple [.int q.1, .int q.2]
def leP (p q : Int × Int) : Bool := decide (p.1 < q.1 ∨ (p.1 = q.1 ∧ p.2 ≤ q.2))
theorem dkI_at {ps : List (Int × Int)} {j : Nat} {kv : L2.Key × V} (h : (dkI ps)[j]? = some kv) : ∃ q, ps[j]? = some q ∧ kv = (Sum.inl q.1, V.int q.2) := by
  unfold dkI at h
  rw [List.getElem?_map] at h
  cases e : ps[j]? with
  | none =>
    rw [e] at h
    cases h
  | some q =>
    rw [e] at h
    exact ⟨q, rfl, (Option.some.inj h).symm⟩
theorem pairs_at {P : Program} {w : World} : ∀ {es : List DictEntry} {vs : List (L2.Key × Value)} {j : Nat} {e : DictEntry}, Pairs (mixKind P w) es vs → es[j]? = some e →
    ∃ kv, vs[j]? = some kv ∧ keyIs kv.1 e.key = true ∧ e.val = kv.2
  | _, _, 0, e, .cons h1 h2 _, h => by
    obtain rfl := Option.some.inj h
    exact ⟨_, rfl, h1, h2⟩
  | _, _, j + 1, e, .cons _ _ t, h => pairs_at (j := j) t h
theorem pairs_len {P : Program} {w : World} : ∀ {es : List DictEntry} {vs : List (L2.Key × Value)}, Pairs (mixKind P w) es vs → es.length = vs.length
  | _, _, .nil => rfl
  | _, _, .cons _ _ t => by
    rw [List.length_cons, List.length_cons, pairs_len t]
def rSortItI : V → Hp → VK → Prop := fun x H Q => ∃ (d : Addr) (ps : List (Int × Int)), x = .ref d ∧ H d = some (.dK (dkI ps)) ∧
  ∀ (H' : Hp) (l : Addr) (ts : List Addr), Same H H' → H l = none → H' l = some (.lst (ts.map V.ref)) →
    Paired (fun (t : Addr) (q : Int × Int) => H' t = some (.tup [.int q.1, .int q.2])) ts (ps.mergeSort leP) → Q (.ref l) H'
theorem each_paired {R : Value → Int × Int → Prop} {F : Addr → Int × Int → Prop} (hR : ∀ v q, R v q → ∃ t, v = .ref t ∧ F t q) : ∀ {vs : List Value} {qs : List (Int × Int)}, PySem.W.EachIs R vs qs →
    ∃ ts : List Addr, vs = ts.map Value.ref ∧ Paired F ts qs
  | _, _, .nil => ⟨[], rfl, .nil⟩
  | _, _, .cons h t => by
    obtain ⟨t0, e0, f0⟩ := hR _ _ h
    obtain ⟨ts, e1, f1⟩ := each_paired hR t
    exact ⟨t0 :: ts, by rw [e0, e1]; rfl, .cons f0 f1⟩
theorem vals_refs : ∀ as : List Addr, Vals (as.map V.ref) (as.map Value.ref)
  | [] => .nil
  | _ :: as => .cons rfl (vals_refs as)
section
variable {X : Cx}
theorem sort_items_run {pins : List (Addr × Obj)} {σ : L2.St} {H : Hp} {s : Shared} {Q : VK} {p d : Addr} {ps : List (Int × Int)} (I : Inv X pins σ H s) (hh : X.A.handled = none)
    (hu : X.A.units + 64 < cLine) (hd : H d = some (.dK (dkI ps))) (view : s.heap.IsItemsView p d)
    (q : ∀ (H' : Hp) (l : Addr) (ts : List Addr), Same H H' → H l = none → H' l = some (.lst (ts.map V.ref)) →
      Paired (fun (t : Addr) (q : Int × Int) => H' t = some (.tup [.int q.1, .int q.2])) ts (ps.mergeSort leP) → Q (.ref l) H') :
    wpAny (model X.prog X.w) X.A (call (.builtin "sorted") [.ref p]) (EP X pins σ Q) X.xe s := by
  obtain ⟨hz, hs0, vs, kv, o, es, ep, ho, hx, hdat, hko, hpr, hnd⟩ := (show ObjOk X.prog X.w H s.heap d (.dK (dkI ps)) from I.hok d _ hd)
  have l1 : (dkI ps).length = vs.length := Paired.length kv
  have l2 : es.toList.length = vs.length := pairs_len hpr
  have l3 : (dkI ps).length = ps.length := List.length_map ..
  have l4 : es.toList.length = es.size := by simp
  have ent : ∀ (j : Nat) (e : DictEntry), es[j]? = some e → ∃ (q : Int × Int) (t1 t2 : Tok), ps[j]? = some q ∧ e.key = .int q.1 t1 ∧ e.val = .int q.2 t2 := by
    intro j e he
    obtain ⟨kv', e1, e2, e3⟩ := pairs_at hpr (show es.toList[j]? = some e by simpa using he)
    obtain ⟨y, f1, f2, f3⟩ := L2.DX.pget kv e1
    obtain ⟨q, g1, rfl⟩ := dkI_at f1
    have f2' : Sum.inl q.1 = kv'.1 := f2
    rw [← f2'] at e2
    obtain ⟨t1, k1⟩ := Value.isInt_shape (k := q.1) (v := e.key) e2
    obtain ⟨t2, k2⟩ : ∃ t, kv'.2 = Value.int q.2 t := f3
    exact ⟨q, t1, t2, g1, k1, e3.trans k2⟩
  refine DT.sortedI (es := es) (ep := ep) hh view ⟨o, ho, hx, hdat⟩ (by omega) fun h' tk as hk hlt hl hG => ?_
  have nd : as.Nodup := List.Pairwise.imp (fun h => Nat.ne_of_lt h) hG.rise
  have lap : as.length = ps.length := by omega
  have pr : ∀ (j : Nat) (b : Addr), as[j]? = some b → ∃ (q : Int × Int) (t1 t2 : Tok), ps[j]? = some q ∧
      h'.get? b = some { cls := .type "tuple", data := .seq #[Value.int q.1 t1, Value.int q.2 t2] } := by
    intro j b hj
    obtain ⟨e, he, hg⟩ := hG.pairs j b hj
    obtain ⟨q, t1, t2, e1, e2, e3⟩ := ent j e he
    rw [e2, e3] at hg
    exact ⟨q, t1, t2, e1, hg⟩
  have hob : (h'.push { cls := .type "list", data := .seq (as.map Value.ref).toArray }).get? h'.objs.size = some (seqObj "list" (as.map Value.ref).toArray 0) := Heap.get?_push_size _ rfl
  have ne0 : ∀ b o, h'.get? b = some o → b ≠ h'.objs.size := fun b o e => Nat.ne_of_lt (Heap.lt_size e)
  have ka : ∀ b o, h'.get? b = some o → (h'.push { cls := .type "list", data := .seq (as.map Value.ref).toArray }).get? b = some o := fun b o e => Heap.get?_push_of_some _ e
  generalize hh2 : h'.push { cls := .type "list", data := .seq (as.map Value.ref).toArray } = h2 at hob ka ⊢
  have kb : ∀ b o, s.heap.get? b = some o → h2.get? b = some o := fun b o e => ka b o (hk b o e)
  have zipR : ∀ z, z ∈ (as.map Value.ref).zip ps → ∃ (j : Nat) (t : Addr), z.1 = Value.ref t ∧ as[j]? = some t ∧ ps[j]? = some z.2 := by
    intro z hz'
    obtain ⟨j, hj⟩ := List.mem_iff_getElem?.mp hz'
    obtain ⟨j1, j2⟩ := List.getElem?_zip_eq_some.mp hj
    rw [List.getElem?_map] at j1
    cases e : as[j]? with
    | none =>
      rw [e] at j1
      cases j1
    | some t =>
      rw [e] at j1
      exact ⟨j, t, (Option.some.inj j1).symm, e, j2⟩
  have eR : PySem.W.EachIs (fun v (q : Int × Int) => ∃ (j : Nat) (t : Addr), v = Value.ref t ∧ as[j]? = some t ∧ ps[j]? = some q) (as.map Value.ref) ps :=
    PySem.W.EachIs.of_zip (by rw [List.length_map]; exact lap) zipR
  have er : PySem.W.EachIs (fun v (q : Int × Int) => ∃ bs, Reads h2 v (encP q) bs ∧ h'.objs.size ∉ bs) (as.map Value.ref) ps := by
    refine eR.mono fun v q h => ?_
    obtain ⟨j, t, rfl, e1, e2⟩ := h
    obtain ⟨q', t1, t2, g1, g2⟩ := pr j t e1
    obtain rfl : q' = q := Option.some.inj (g1.symm.trans e2)
    exact ⟨_, .tuple (ka _ _ g2) rfl rfl (.cons (.int _ _) (.cons (.int _ _) .nil)), by simp⟩
  refine PySem.W.list_sort_data (s := { s with heap := h2, toks := tk }) (A := X.A.in1) (enc := encP) (bs := ps) (vs := as.map Value.ref) hob eR er
    (PySem.W.AllAlike.of fun b b' => by simp [encP, PySem.W.alike, PySem.W.alikeAll]) (PySem.W.Sortable.tuples fun b => ⟨_, _, rfl⟩) (by omega)
    (fun b _ => by show X.A.units + 1 + 1 + 1 < cLine; omega) fun out ol oe => ?_
  have le_eq : PySem.W.dataLe false encP = leP := PySem.W.dataLe_ii (fun q : Int × Int => q.1) (fun q => q.2)
  rw [le_eq] at oe
  show EP X pins σ Q (.ref h'.objs.size) { s with heap := sortedHeap h2 h'.objs.size (as.map Value.ref) out.toArray, toks := tk }
  obtain ⟨ts, rfl, tp⟩ := each_paired (F := fun t q => ∃ j : Nat, as[j]? = some t ∧ ps[j]? = some q) (fun v q h => by
    obtain ⟨j, t, e1, e2, e3⟩ := h
    exact ⟨t, e1, j, e2, e3⟩) oe
  have kF : ∀ b o, b ≠ h'.objs.size → h2.get? b = some o → (sortedHeap h2 h'.objs.size (as.map Value.ref) (ts.map Value.ref).toArray).get? b = some o :=
    fun b o hb e => (PyProof.Rows.sortedHeap_old hb (Heap.lt_size e)).trans e
  have kS : ∀ b o, s.heap.get? b = some o → (sortedHeap h2 h'.objs.size (as.map Value.ref) (ts.map Value.ref).toArray).get? b = some o :=
    fun b o e => kF b o (ne0 _ _ (hk b o e)) (kb b o e)
  obtain ⟨eF, heF⟩ := PyProof.Rows.sortedHeap_at (vs := as.map Value.ref) (out := (ts.map Value.ref).toArray) hob
  generalize sortedHeap h2 h'.objs.size (as.map Value.ref) (ts.map Value.ref).toArray = hF at kF kS heF ⊢
  have I1 : Inv X pins σ H { s with heap := hF, toks := tk } := I.kept (t' := tk) kS
  have hn0 : H h'.objs.size = none := I.hok.fresh (Nat.le_of_lt hlt)
  have tl : ts.length = ps.length := by
    rw [← ol, List.length_map]
  have I2 : Inv X pins σ (upd H h'.objs.size (.lst (ts.map V.ref))) { s with heap := hF, toks := tk } :=
    I1.take (h' := hF) (t' := tk) (fun b ob _ e => e) (I.fpOk (Nat.le_of_lt hlt) hn0) ⟨by rw [List.length_map]; omega, ts.map Value.ref, eF, vals_refs ts, heF⟩
  obtain ⟨H2, I3, g, qt⟩ := L2.DX.takeT (P := fun b vs => ∃ (j : Nat) (q : Int × Int), as[j]? = some b ∧ ps[j]? = some q ∧ vs = [.int q.1, .int q.2]) I as _ I2 nd fun b hb => by
    obtain ⟨j, hj⟩ := List.mem_iff_getElem?.mp hb
    obtain ⟨q, t1, t2, e1, e2⟩ := pr j b hj
    have old : s.heap.objs.size ≤ b := Nat.le_of_lt (hG.above b hb)
    refine ⟨old, ?_, [.int q.1, .int q.2], ⟨j, q, hj, e1, rfl⟩, fun H3 => ⟨by show 2 ≤ sizeLine; decide, [Value.int q.1 t1, Value.int q.2 t2], .cons ⟨_, rfl⟩ (.cons ⟨_, rfl⟩ .nil), ⟨_, kF _ _ (ne0 _ _ e2) (ka _ _ e2), rfl, 0, rfl⟩⟩⟩
    rw [upd_ne (ne0 _ _ e2)]
    exact I.hok.fresh old
  refine ⟨.ref h'.objs.size, H2, I3, rfl, q H2 h'.objs.size ts (fun b o e => g b o (by rw [upd_ne (ne_of_none e hn0)]; exact e)) hn0 (g _ _ upd_same) ?_⟩
  refine Paired.mapP tp fun t q h => ?_
  obtain ⟨j, j1, j2⟩ := h
  obtain ⟨vs', ⟨i, q', i1, i2, ev⟩, hH⟩ := qt t (List.mem_of_getElem? j1)
  have eij : i = j := (List.getElem?_inj (List.getElem?_eq_some_iff.mp i1).1 nd).mp (i1.trans j1.symm)
  subst eij
  obtain rfl : q' = q := Option.some.inj (i2.symm.trans j2)
  rw [ev] at hH
  exact hH
def tSortItems (te : TE) : TE := fun σ H Q => te σ H fun x H1 => rSortItI x H1 Q
variable {e : Expr} {te : TE} {p apos cpos pos : Pos}
theorem pe_sortItems (hc : X.calm = true) (hu : X.A.units + 64 < cLine) (he : PE X e te) (hg : Gl X "sorted") (hm : X.mg "sorted" = none)
    (hv : bootBuiltins "sorted" = some (.builtin "sorted"))
    (hbase : attributeBase e "items" X.env (eval e X.env) = eval e X.env := by rfl) (hline : (apos.endLine == cpos.line) = true := by rfl)
    (hs : starEach [.Call (.Attribute e "items" apos) [] [] cpos] X.env = (false, eval (.Call (.Attribute e "items" apos) [] [] cpos) X.env) :: starEach [] X.env := by rfl) :
    PE X (.Call (.Name "sorted" p) [.Call (.Attribute e "items" apos) [] [] cpos] [] pos) (tSortItems te) := by
  refine ⟨fun pins s σ H Q I hq => ?_⟩
  refine wpAny_Call_Name_kw (ld_blt I hg hm hv ?_)
  refine PyProof.Rows.callWith_builtin1 ?_ hs rfl
  rw [hs]
  show wpAny _ _ (spliced ((false, eval (.Call (.Attribute e "items" apos) [] [] cpos) X.env) :: backTo pos (starEach [] X.env))) _ _ s
  refine Calls.spliced_cons ?_
  refine wpAny_Call_method (T := "dict") (id := "dict.items") hbase rfl hline F.plainAttrs_dict F.slot_dict_items F.type_dict_items
    (thn (he.run pins s σ H _ I hq) fun u s1 ⟨x, H1, I1, rx, d, ps, ex, hd, q⟩ => ?_)
  subst ex
  obtain rfl : u = Value.ref d := rx
  obtain ⟨hz, hs0, vs, kv, hdo⟩ := I1.hok d _ hd
  have I2 : Inv X pins σ H1 { s1 with heap := s1.heap.push { cls := .type "dict_items", data := .fields #[.ref d] } } :=
    I1.kept (t' := s1.toks) fun b ob z => Heap.get?_push_of_some _ z
  refine ⟨hdo.typeIs, hdo.mapOf.noDict, ?_⟩
  show wpAny _ _ (callWith cpos (.builtin "dict.items") [.ref d] [] []) _ X.xe s1
  refine method_meetsIn F.slot_dict_items F.entry_dict_items rfl (PySem.evalArgs_none ⟨rfl, hdo.typeIs, F.args_dict_items_1 _, _, meets_dict_items (mixKind X.prog X.w) d hs0, ⟨vs, hdo⟩, ?_⟩)
  refine Calls.spliced_nil ?_
  exact sort_items_run I2 (I1.ok.hd hc) hu hd ⟨_, Heap.get?_push_size _ rfl, rfl, rfl⟩ q
end
end Gc

/-! match over written texts, with a last case for the rest -/
namespace Gc
open PySem L2
/-- what is wanted of the cases, by the subject's value -/
abbrev TM := V → TS
structure MC (X : Cx) (cs : List MatchCase) (t : TM) : Prop where
  run : ∀ (first : Bool) (pins : List (Addr × Obj)) (s : Shared) (σ : L2.St) (H : Hp) (D : Ends) (x : V) (v : Value),
    Inv X pins σ H s → RelV x v → t x D σ H →
    wpAny (model X.prog X.w) X.A (matchCases cs X.env v first) (fun f s' => SP X pins D f s') X.xe s
def mNil : TM := fun _ D σ H => D.nx σ H
/-- case 'z': .. -/
def mStr (z : Str) (tb : TS) (r : TM) : TM := fun x D σ H => ∃ y, x = .str y ∧ if decide (y = z) = true then tb D σ H else r x D σ H
/-- case _: .. -/
def mAny (tb : TS) : TM := fun _ D σ H => tb D σ H
section
variable {X : Cx} {rest : List MatchCase} {body : List Stmt} {tb : TS} {r : TM} {z : Str} {k : Nat} {p1 p2 pos : Pos} {e : Expr} {te : TE}
theorem mc_nil : MC X [] mNil := ⟨fun _ pins s σ H D x v I _ h => wpAny_matchCases_nil ⟨σ, H, I, h⟩⟩
theorem mc_str (hb : PSs X body tb) (hr : MC X rest r) :
    MC X (⟨.MatchValue (.Constant (.str z) k p1) p2, none, body⟩ :: rest) (mStr z tb r) := by
  refine ⟨fun first pins s σ H D x v I rx h => ?_⟩
  obtain ⟨y, rfl, h⟩ := h
  refine wpAny_matchCases_cons (wpAny_matchPattern_Value ?_)
  have hq : PE X (.Constant (.str z) k p1) (tC (.str z)) := pe_str
  refine wpAny_mono (hq.run pins s σ H (fun w H' => w = .str z ∧ H' = H) I ⟨rfl, rfl⟩) (fun u s1 hu => ?_) fun _ _ q => q
  obtain ⟨w, H1, I1, rw1, rfl, rfl⟩ := hu
  refine wpAny_mono ((op_eq (X := X)) pins s1 σ _ (.str y) (.str z) v u (fun w H' => w = .bl (decide (y = z)) ∧ H' = _) I1 rx rw1 ⟨rfl, ?_, rfl⟩) (fun c s2 hc => ?_) fun _ _ q => q
  · by_cases q : y = z
    · subst q
      rw [decide_eq_true (Eq.refl _), decide_eq_true (Eq.refl _)]
    · rw [decide_eq_false q, decide_eq_false fun e => q (V.str.inj e)]
  · obtain ⟨w, H2, I2, rw2, rfl, rfl⟩ := hc
    obtain rfl : c = Value.bool (decide (y = z)) := rw2
    refine wpAny_pure ?_
    by_cases q : y = z
    · rw [decide_eq_true q] at h ⊢
      show wpAny _ _ (assignInOrder [] []) _ _ _
      refine wpAny_assignInOrder_none ?_
      exact hb.run pins s2 σ _ D I2 h
    · rw [decide_eq_false q] at h ⊢
      exact hr.run false pins s2 σ _ D (.str y) v I2 rx h
theorem mc_any (hb : PSs X body tb) : MC X (⟨.MatchAs none none p2, none, body⟩ :: rest) (mAny tb) := by
  refine ⟨fun first pins s σ H D x v I rx h => ?_⟩
  refine wpAny_matchCases_cons (wpAny_matchPattern_Capture ?_)
  show wpAny _ _ (assignInOrder [] []) _ _ _
  exact wpAny_assignInOrder_none (hb.run pins s σ H D I h)
def tMatch (te : TE) (t : TM) : TS := fun D σ H => te σ H fun x H1 => t x D σ H1
theorem ps_match {cs : List MatchCase} {t : TM} (he : PE X e te) (hc : MC X cs t) : PS X (.Match e cs pos) (tMatch te t) := by
  refine ⟨fun pins s σ H D I h => ?_⟩
  refine wpAny_Match (wpAny_mono (he.run pins s σ H _ I h) (fun v s1 hv => ?_) fun _ _ q => q)
  obtain ⟨x, H1, I1, rx, q⟩ := hv
  exact hc.run true pins s1 σ H1 D x v I1 rx q
end
end Gc

namespace Gc
open PySem PyProof.Rows L2
/-! ### heaps: all that stood but at two places -/
def Keep (a d : Addr) (H H' : Hp) : Prop := ∀ b o, b ≠ a → b ≠ d → H b = some o → H' b = some o
theorem Keep.refl {a d : Addr} (H : Hp) : Keep a d H H := fun _ _ _ _ h => h
theorem Keep.trans {a d : Addr} {H H1 H2 : Hp} (x : Keep a d H H1) (y : Keep a d H1 H2) : Keep a d H H2 := fun b o h1 h2 h => y b o h1 h2 (x b o h1 h2 h)
theorem Keep.of {a d : Addr} {H H' : Hp} (e : Same H H') : Keep a d H H' := fun b o _ _ h => e b o h
theorem same_upd {H H' : Hp} {p : Addr} {o : HO} (e : Same H H') (h : H' p = none) : Same H (upd H' p o) := fun b u hb => by
  rw [upd_ne (ne_of_none (e b u hb) h)]
  exact e b u hb
theorem Keep.upd1 {a d : Addr} {H H' : Hp} {o : HO} (e : Keep a d H H') : Keep a d H (upd H' a o) := fun b u h1 h2 h => by
  rw [upd_ne h1]
  exact e b u h1 h2 h
theorem Keep.upd2 {a d : Addr} {H H' : Hp} {o : HO} (e : Keep a d H H') : Keep a d H (upd H' d o) := fun b u h1 h2 h => by
  rw [upd_ne h2]
  exact e b u h1 h2 h
theorem Keep.new {a d p : Addr} {H H' : Hp} {o : HO} (e : Keep a d H H') (h : H' p = none) : Keep a d H (upd H' p o) := fun b u h1 h2 hb => by
  rw [upd_ne (ne_of_none (e b u h1 h2 hb) h)]
  exact e b u h1 h2 hb

theorem cpow {i j : Int} (h : (decide (0 ≤ j) && (decide (j ≤ 1000000) && decide (i.natAbs < 2 ^ 64))) = true) : CPow i j := by
  rw [Bool.and_eq_true, Bool.and_eq_true] at h
  exact ⟨of_decide_eq_true h.1, of_decide_eq_true h.2.1, of_decide_eq_true h.2.2⟩
theorem pow_small {x : Int} {a k b : Nat} (h : x.natAbs < 2 ^ a) (hb : a * k < b) : (x ^ k).natAbs < 2 ^ b := by
  rw [Int.natAbs_pow]
  have h1 : x.natAbs ^ k ≤ (2 ^ a) ^ k := Nat.pow_le_pow_left (Nat.le_of_lt h) k
  rw [← Nat.pow_mul] at h1
  exact Nat.lt_of_le_of_lt h1 (Nat.pow_lt_pow_right (by decide) hb)
theorem int_at {ns : List Int} {i : Nat} {y : V} (h : (ns.map V.int)[i]? = some y) : ∃ u, y = V.int u := by
  rw [List.getElem?_map] at h
  cases e : ns[i]? with
  | none =>
    rw [e] at h
    cases h
  | some u =>
    rw [e] at h
    exact ⟨u, (Option.some.inj h).symm⟩
theorem dp_ints {K : PySem.W.Frag} {H : Hp} : ∀ ns : List Int, DpAll K H (ns.map V.int) (ns.map PyData.int)
  | [] => .nil
  | x :: r => .cons (.int x) (dp_ints r)
/-- a def that is called by its name and lets nothing out -/
structure Cal (P : Program) (w : World) (K : PySem.W.Frag) (mg : Str → Option Value) (base : Heap) (k : Nat) (x : Str) (sp : Sp) : Prop where
  ex : ∃ (f : Addr) (fd : FuncData) (ps : List Str), FnOk P w K mg base CX0 k f fd ps sp ∧
    mg x = some (.ref f) ∧ PySem.W.keepIn K (.ref f) = true ∧ Binds K fd ps []
theorem pe_cal {X : Cx} {k j : Nat} {x : Str} {sp : Sp} {p pos : Pos} {e : Expr} {es : List Expr} {t : TA}
    (c : Cal X.prog X.w X.K X.mg X.base k x sp) (hr : Room j X.A) (hk : k ≤ j) (hg : Gl X x) (ha : PA X (e :: es) t)
    (hdb : (x == ("__debug__" : Str)) = false := by decide)
    (he : starEach (e :: es) X.env = (false, eval e X.env) :: starEach es X.env := by rfl)
    (hpl : (backTo pos (starEach es X.env)).any (·.1) = false := by rfl) :
    PE X (.Call (.Name x p) (e :: es) [] pos) (tCall sp [] E0 t) := by
  obtain ⟨f, fd, ps, F, hm, kp, b⟩ := c.ex
  exact pe_call F (hr.mono hk) hg hm kp b .nil pass0 ha hdb he hpl

/-! ### data carried along -/
theorem seq_t {K : PySem.W.Frag} {H H' : Hp} {a : Addr} {xs : List V} (e : Same H H') (h : SqT K H a xs) : SqT K H' a xs := by
  rcases h with (h | ⟨o, h⟩) | h
  · exact .inl (.inl (e _ _ h))
  · exact .inl (.inr ⟨o, e _ _ h⟩)
  · exact .inr h
mutual
theorem dp_same {K : PySem.W.Frag} {H H' : Hp} (e : Same H H') : ∀ (d : PyData) (v : V), Dp K H v d → Dp K H' v d
  | .none, _, h => by cases h; exact .non
  | .bool b, _, h => by cases h; exact .bl b
  | .int i, _, h => by cases h; exact .int i
  | .str x, _, h => by cases h; exact .str x
  | .list ds, _, h => by
    cases h with
    | lst q r => exact .lst (e.seq q) (dps_same e ds _ r)
  | .tuple ds, _, h => by
    cases h with
    | tup q r => exact .tup (seq_t e q) (dps_same e ds _ r)
  | .dict _, _, h => by cases h
theorem dps_same {K : PySem.W.Frag} {H H' : Hp} (e : Same H H') : ∀ (ds : List PyData) (vs : List V), DpAll K H vs ds → DpAll K H' vs ds
  | [], _, h => by cases h; exact .nil
  | d :: ds, _, h => by
    cases h with
    | cons a b => exact .cons (dp_same e d _ a) (dps_same e ds _ b)
end
theorem dps_len {K : PySem.W.Frag} {H : Hp} : ∀ {vs : List V} {ds : List PyData}, DpAll K H vs ds → vs.length = ds.length
  | [], _, h => by cases h; rfl
  | _ :: vs, _, h => by
    cases h with
    | cons a b => rw [List.length_cons, List.length_cons, dps_len b]
theorem dps_at {K : PySem.W.Frag} {H : Hp} : ∀ {vs : List V} {ds : List PyData} {i : Nat}, DpAll K H vs ds → i < ds.length → ∃ v d, vs[i]? = some v ∧ ds[i]? = some d ∧ Dp K H v d
  | _, _, 0, h, l => by
    cases h with
    | nil => exact absurd l (by decide)
    | cons a b => exact ⟨_, _, rfl, rfl, a⟩
  | _, _, i + 1, h, l => by
    cases h with
    | nil => exact absurd l (Nat.not_lt_zero _)
    | cons a b => exact dps_at (i := i) b (Nat.lt_of_succ_lt_succ l)
theorem depth_at : ∀ {ds : List PyData} {i : Nat} {d : PyData}, ds[i]? = some d → d.depth ≤ PyData.depthAll ds
  | [], i, d, h => by simp at h
  | x :: r, 0, d, h => by
    have e : x = d := Option.some.inj h
    subst e
    simp only [PyData.depthAll]
    exact Nat.le_max_left _ _
  | x :: r, i + 1, d, h => by
    have ih := depth_at (ds := r) (i := i) (d := d) h
    simp only [PyData.depthAll]
    exact Nat.le_trans ih (Nat.le_max_right _ _)
theorem ty_l {K : PySem.W.Frag} {H : Hp} {a : Addr} {xs : List V} (h : SqL K H a xs) : TyX K H (.ref a) (.type "list") := by
  rcases h with (h | ⟨o, h⟩) | h
  · exact .base (.lst h)
  · exact .base (.frz h)
  · obtain ⟨o, its, n, e, c, _⟩ := h
    exact .kList e c
theorem ty_t {K : PySem.W.Frag} {H : Hp} {a : Addr} {xs : List V} (h : SqT K H a xs) : TyX K H (.ref a) (.type "tuple") := by
  rcases h with (h | ⟨o, h⟩) | h
  · exact .base (.tup h)
  · exact .fTuple h
  · obtain ⟨o, its, n, e, c, _⟩ := h
    exact .kTuple e c
theorem isi_q {K : PySem.W.Frag} {H : Hp} {x : V} {t n : String} {b : Bool} {Q : VK} (ty : TyX K H x (.type t)) (k : kitB t n = some b) (q : Q (.bl b) H) : rIsi K [x, .ty n] H Q :=
  ⟨x, .ty n, .type t, .type n, b, rfl, .ty n, ty, kit_ty k, q⟩
theorem log9 {x : Int} {a : Nat} (h : x.natAbs < 2 ^ a) (ha : a < 9000) : x.natAbs.log2 < 9000 :=
  Nat.lt_of_le_of_lt (Nat.le_of_lt_succ (PySem.Flt.log2_lt_of (k := a + 1) (Nat.succ_pos _) (Nat.lt_trans h (Nat.pow_lt_pow_right (by decide) (Nat.lt_succ_self a))))) ha
/-- a power of any whole number, its size told -/
def CPowW (i j : Int) : Prop := 0 ≤ j ∧ j ≤ 64 ∧ i.natAbs.log2 < 100000
theorem op_powW {X : Cx} : OpR X (binaryOp .Pow) (rI CPowW fun i j => .int (i ^ j.toNat)) := opI fun i j _ _ _ _ _ hc q => by
  refine pow_int hc.1 ?_ q
  have h1 : Builtin.Int.intBits i ≤ i.natAbs.log2 + 1 := by
    unfold Builtin.Int.intBits
    split <;> omega
  have h2 := hc.2.1
  have h3 := hc.2.2
  have h4 : (Builtin.Int.intBits i : Int) ≤ 100000 := by omega
  calc (Builtin.Int.intBits i : Int) * j ≤ 100000 * 64 := Int.mul_le_mul h4 h2 hc.1 (by decide)
    _ ≤ 2 ^ 27 := by decide
theorem cpowW {i j : Int} {a : Nat} (hj : 0 ≤ j) (hj2 : j ≤ 64) (h : i.natAbs < 2 ^ a) (ha : a < 100000) : CPowW i j :=
  ⟨hj, hj2, Nat.lt_of_le_of_lt (Nat.le_of_lt_succ (PySem.Flt.log2_lt_of (k := a + 1) (Nat.succ_pos _) (Nat.lt_trans h (Nat.pow_lt_pow_right (by decide) (Nat.lt_succ_self a))))) ha⟩
def rLenQ (K : PySem.W.Frag) : List V → Hp → VK → Prop := fun xs H Q => ∃ p ys, xs = [.ref p] ∧ (SqL K H p ys ∨ SqT K H p ys) ∧ Q (.int ys.length) H
end Gc

namespace Gc
open PySem PyProof.Rows L2
/-! ### commands as tuples -/
def encC : Cmd → List V
  | .down n => [.str "down", .int n]
  | .up n => [.str "up", .int n]
  | .right n => [.str "right", .int n]
  | .left n => [.str "left", .int n]
  | .home => [.str "home"]
  | .stop => [.str "end"]
def CmdAt (K : PySem.W.Frag) (H : Hp) (v : V) (c : Cmd) : Prop := ∃ a, v = .ref a ∧ SqT K H a (encC c)
def CmdsOf (K : PySem.W.Frag) (H : Hp) (xs : List V) (cs : List Cmd) : Prop := Paired (CmdAt K H) xs cs
theorem CmdAt.same {K : PySem.W.Frag} {H H' : Hp} {v : V} {c : Cmd} (e : Same H H') (h : CmdAt K H v c) : CmdAt K H' v c := by
  obtain ⟨a, e1, h1⟩ := h
  exact ⟨a, e1, seq_t e h1⟩
theorem CmdsOf.same {K : PySem.W.Frag} {H H' : Hp} {xs : List V} {cs : List Cmd} (e : Same H H') (h : CmdsOf K H xs cs) : CmdsOf K H' xs cs := Paired.mapP h fun _ _ q => q.same e
theorem CmdsOf.len {K : PySem.W.Frag} {H : Hp} {xs : List V} {cs : List Cmd} (h : CmdsOf K H xs cs) : xs.length = cs.length := Paired.length h
theorem paired_at {α β : Type} {F : α → β → Prop} : ∀ {xs : List α} {ys : List β} {i : Nat} {x : α}, Paired F xs ys → xs[i]? = some x → ∃ y, ys[i]? = some y ∧ F x y
  | _, _, _, _, .nil, h => by simp at h
  | _, _, 0, x, .cons f _, h => by
    obtain rfl := Option.some.inj h
    exact ⟨_, rfl, f⟩
  | _, _, i + 1, x, .cons _ t, h => paired_at (i := i) t h
/-! ### dicts of ints by ints -/
theorem valV_dkI : ∀ (b : Ps) (k : Int), valV (dkI b) (Sum.inl k : L2.Key) = (look b k).map V.int
  | [], k => rfl
  | q :: b, k => by
    show valV (((Sum.inl q.1 : L2.Key), V.int q.2) :: dkI b) (Sum.inl k : L2.Key) = _
    rw [look_cons]
    by_cases h : q.1 = k
    · rw [if_pos h, valV_pos (by show (Sum.inl q.1 : L2.Key) = Sum.inl k; rw [h])]
      rfl
    · rw [if_neg h, valV_neg (by intro z; exact h (Sum.inl.inj z))]
      exact valV_dkI b k
theorem putK_dkI (b : Ps) (k v : Int) : putK (dkI b) (Sum.inl k : L2.Key) (V.int v) = dkI (put b k v) := by
  have ea : ((dkI b).any fun kv => decide (kv.1 = (Sum.inl k : L2.Key))) = b.any fun q => decide (q.1 = k) := by
    unfold dkI
    rw [List.any_map]
    congr 1
    funext q
    show decide ((Sum.inl q.1 : L2.Key) = Sum.inl k) = decide (q.1 = k)
    exact decide_eq_decide.mpr ⟨Sum.inl.inj, fun h => by rw [h]⟩
  unfold putK put
  rw [ea]
  by_cases h : (b.any fun q => decide (q.1 = k)) = true
  · rw [if_pos h, if_pos h]
    unfold dkI
    rw [List.map_map, List.map_map]
    refine List.map_congr_left fun q _ => ?_
    show (if (Sum.inl q.1 : L2.Key) = Sum.inl k then ((Sum.inl q.1 : L2.Key), V.int v) else (Sum.inl q.1, V.int q.2)) = (Sum.inl (if q.1 = k then (q.1, v) else q).1, V.int (if q.1 = k then (q.1, v) else q).2)
    by_cases e : q.1 = k
    · rw [if_pos e, if_pos (by rw [e])]
    · rw [if_neg e, if_neg fun z => e (Sum.inl.inj z)]
  · rw [if_neg h, if_neg h]
    unfold dkI
    rw [List.map_append]
    rfl
theorem put_len (b : Ps) (k v : Int) : (put b k v).length ≤ b.length + 1 := by
  unfold put
  split
  · rw [List.length_map]
    exact Nat.le_succ _
  · rw [List.length_append]
    exact Nat.le_refl _
theorem req_len (b : Ps) (o v : Int) : (req b o v).length ≤ b.length + 1 := put_len b o _
end Gc

/-! running commands over plain texts: the goal is reached exactly if the box is fulfilled -/
namespace Gc
def seen (t : Int) : Option Int → Int
  | none => t
  | some a => min a t
/-- the goal of the cursor after one command in a row of length t -/
def aim1 (t : Int) (a : Option Int) : Cmd → Option Int
  | .down _ => a
  | .up _ => a
  | .right n => some (min (seen t a + n) t)
  | .left n => some (max 0 (seen t a - n))
  | .home => some 0
  | .stop => none
def aimF (T : Int → Int) : Int → Option Int → List Cmd → Option Int
  | _, a, [] => a
  | r, a, c :: cs => aimF T (r + c.dv) (aim1 (T r) a c) cs
theorem aimF_app (T : Int → Int) : ∀ (xs ys : List Cmd) (r : Int) (a : Option Int), aimF T r a (xs ++ ys) = aimF T (r + last xs) (aimF T r a xs) ys
  | [], ys, r, a => by
    show aimF T r a ys = aimF T (r + 0) a ys
    rw [Int.add_zero]
  | c :: xs, ys, r, a => by
    show aimF T (r + c.dv) (aim1 (T r) a c) (xs ++ ys) = aimF T (r + (c.dv + last xs)) _ ys
    rw [aimF_app T xs ys, Int.add_assoc]
    rfl
theorem aimF_snoc (T : Int → Int) (cs : List Cmd) (c : Cmd) (r : Int) (a : Option Int) : aimF T r a (cs ++ [c]) = aim1 (T (r + last cs)) (aimF T r a cs) c := aimF_app T cs [c] r a
def ge (a : Option Int) (n : Int) : Prop := ∀ x, a = some x → n ≤ x
theorem ge_none (n : Int) : ge none n := fun _ h => nomatch h
theorem ge_some {x n : Int} : ge (some x) n ↔ n ≤ x := ⟨fun h => h x rfl, fun h y e => by rw [← Option.some.inj e]; exact h⟩
theorem seen_ge {t n : Int} {a : Option Int} : n ≤ seen t a ↔ n ≤ t ∧ ge a n := by
  cases a with
  | none => exact ⟨fun h => ⟨h, ge_none n⟩, fun h => h.1⟩
  | some x =>
    rw [ge_some]
    show n ≤ min x t ↔ _
    omega
theorem aim1_nn {t : Int} {a : Option Int} {c : Cmd} (ht : 0 ≤ t) (ha : ge a 0) (ok : c.ok) : ge (aim1 t a c) 0 := by
  have hs : 0 ≤ seen t a := seen_ge.mpr ⟨ht, ha⟩
  cases c with
  | down n => exact ha
  | up n => exact ha
  | right n =>
    have o : 1 ≤ n := ok
    refine ge_some.mpr ?_
    omega
  | left n =>
    refine ge_some.mpr ?_
    omega
  | home => exact ge_some.mpr (Int.le_refl 0)
  | stop => exact ge_none 0
theorem aimF_nn {T : Int → Int} (hT : ∀ k, 0 ≤ T k) : ∀ {cs : List Cmd} {r : Int} {a : Option Int}, AllOk cs → ge a 0 → ge (aimF T r a cs) 0
  | [], _, _, _, h => h
  | c :: cs, r, a, ok, h => aimF_nn hT (cs := cs) (fun d hd => ok d (List.mem_cons_of_mem _ hd)) (aim1_nn (hT r) h (ok c List.mem_cons_self))
theorem last_snoc (cs : List Cmd) (c : Cmd) : last (cs ++ [c]) = last cs + c.dv := by
  rw [last_app]
  show _ + (c.dv + 0) = _
  omega
theorem reqF_le {f : Int → Int} {o v : Int} {T : Int → Int} {r : Int} : (∀ k, reqF f o v k ≤ T (r + k)) ↔ (∀ k, f k ≤ T (r + k)) ∧ v ≤ T (r + o) := by
  constructor
  · intro h
    refine ⟨fun k => Int.le_trans (reqF_ge f o v k) (h k), ?_⟩
    have := h o
    unfold reqF at this
    rw [if_pos rfl] at this
    omega
  · rintro ⟨h1, h2⟩ k
    unfold reqF
    have := h1 k
    split
    · rename_i e
      subst e
      omega
    · exact this
/-- the box's walk, and the run -/
theorem go_char {T : Int → Int} (hT : ∀ k, 0 ≤ T k) {r : Int} {a : Option Int} (ha : ge a 0) : ∀ (rs : List Cmd) (need : Int) (f : Int → Int), AllOk rs → 1 ≤ need →
    ((∃ st g, goF rs (last rs.reverse) need f = some (st, g) ∧ (∀ n, st = some n → ge a n) ∧ ∀ k, g k ≤ T (r + k)) ↔ (∀ k, f k ≤ T (r + k)) ∧ ge (aimF T r a rs.reverse) need)
  | [], need, f, _, _ => by
    constructor
    · rintro ⟨st, g, e, h1, h2⟩
      cases e
      exact ⟨h2, h1 need rfl⟩
    · rintro ⟨h1, h2⟩
      exact ⟨_, _, rfl, fun n e => by rw [← Option.some.inj e]; exact h2, h1⟩
  | .home :: rs, need, f, ok, hn => by
    rw [List.reverse_cons, aimF_snoc]
    constructor
    · rintro ⟨st, g, e, _⟩
      cases e
    · rintro ⟨_, h2⟩
      have : need ≤ 0 := ge_some.mp h2
      omega
  | .stop :: rs, need, f, ok, hn => by
    rw [List.reverse_cons, aimF_snoc]
    constructor
    · rintro ⟨st, g, e, _, h2⟩
      cases e
      exact ⟨h2, ge_none _⟩
    · rintro ⟨h1, _⟩
      exact ⟨_, _, rfl, (fun n e => nomatch e), h1⟩
  | .down n :: rs, need, f, ok, hn => by
    rw [List.reverse_cons, aimF_snoc, last_snoc]
    have ih := go_char hT (r := r) ha rs need f (fun d hd => ok d (List.mem_cons_of_mem _ hd)) hn
    have e : last rs.reverse + (Cmd.down n).dv - n = last rs.reverse := by
      show last rs.reverse + n - n = _
      omega
    simp only [goF]
    rw [e]
    exact ih
  | .up n :: rs, need, f, ok, hn => by
    rw [List.reverse_cons, aimF_snoc, last_snoc]
    have ih := go_char hT (r := r) ha rs need f (fun d hd => ok d (List.mem_cons_of_mem _ hd)) hn
    have e : last rs.reverse + (Cmd.up n).dv + n = last rs.reverse := by
      show last rs.reverse + -n + n = _
      omega
    simp only [goF]
    rw [e]
    exact ih
  | .left n :: rs, need, f, ok, hn => by
    have o : 1 ≤ n := ok _ List.mem_cons_self
    rw [List.reverse_cons, aimF_snoc, last_snoc]
    have ih := go_char hT (r := r) ha rs (need + n) (reqF f (last rs.reverse) (need + n)) (fun d hd => ok d (List.mem_cons_of_mem _ hd)) (by omega)
    have e : last rs.reverse + (Cmd.left n).dv = last rs.reverse := Int.add_zero _
    simp only [goF]
    rw [e, ih, reqF_le]
    have s : ge (aim1 (T (r + last rs.reverse)) (aimF T r a rs.reverse) (.left n)) need ↔ need + n ≤ T (r + last rs.reverse) ∧ ge (aimF T r a rs.reverse) (need + n) := by
      rw [← seen_ge]
      show ge (some _) need ↔ _
      rw [ge_some]
      omega
    rw [s]
    exact ⟨fun h => ⟨h.1.1, h.1.2, h.2⟩, fun h => ⟨⟨h.1, h.2.1⟩, h.2.2⟩⟩
  | .right n :: rs, need, f, ok, hn => by
    have o : 1 ≤ n := ok _ List.mem_cons_self
    have okr : AllOk rs := fun d hd => ok d (List.mem_cons_of_mem _ hd)
    rw [List.reverse_cons, aimF_snoc, last_snoc]
    have e : last rs.reverse + (Cmd.right n).dv = last rs.reverse := Int.add_zero _
    have nn : 0 ≤ seen (T (r + last rs.reverse)) (aimF T r a rs.reverse) := seen_ge.mpr ⟨hT _, aimF_nn hT (fun d hd => okr d (List.mem_reverse.mp hd)) ha⟩
    simp only [goF]
    rw [e]
    have s : ge (aim1 (T (r + last rs.reverse)) (aimF T r a rs.reverse) (.right n)) need ↔ need ≤ T (r + last rs.reverse) ∧ need - n ≤ seen (T (r + last rs.reverse)) (aimF T r a rs.reverse) := by
      show ge (some _) need ↔ _
      rw [ge_some]
      omega
    rw [s]
    by_cases c : need > n
    · rw [if_pos c]
      have ih := go_char hT (r := r) ha rs (need - n) (reqF f (last rs.reverse) need) okr (by omega)
      rw [ih, reqF_le, seen_ge]
      exact ⟨fun h => ⟨h.1.1, h.1.2, by omega, h.2⟩, fun h => ⟨⟨h.1, h.2.1⟩, h.2.2.2⟩⟩
    · rw [if_neg c]
      constructor
      · rintro ⟨st, g, e, _, h2⟩
        cases e
        have h3 := reqF_le.mp h2
        exact ⟨h3.1, h3.2, by omega⟩
      · rintro ⟨h1, h2, _⟩
        exact ⟨_, _, rfl, (fun n e => nomatch e), reqF_le.mpr ⟨h1, h2⟩⟩
/-- the goal is reached exactly if the start fulfils the box -/
theorem box_char {T : Int → Int} (hT : ∀ k, 0 ≤ T k) {r : Int} {a : Option Int} (ha : ge a 0) {cs : List Cmd} {goal : Int} (ok : AllOk cs) (hg : 1 ≤ goal) :
    ge (aimF T r a cs) goal ↔ ∃ st L, boxM cs goal = some (st, L) ∧ (∀ n, st = some n → ge a n) ∧ ∀ k, val L k ≤ T (r + k) := by
  have h := go_char hT (r := r) ha cs.reverse goal (fun _ => 0) (allOk_rev ok) hg
  rw [List.reverse_reverse] at h
  have h0 : (∀ k : Int, (fun _ : Int => (0 : Int)) k ≤ T (r + k)) := fun k => hT _
  have h' : (∃ st g, boxF cs goal = some (st, g) ∧ (∀ n, st = some n → ge a n) ∧ ∀ k, g k ≤ T (r + k)) ↔ ge (aimF T r a cs) goal := h.trans ⟨fun x => x.2, fun x => ⟨h0, x⟩⟩
  rw [← h']
  rcases box_spec ok hg with ⟨e1, e2⟩ | ⟨st, b, e1, gb, e2, _⟩
  · rw [e1, e2]
    constructor
    · rintro ⟨_, _, z, _⟩
      cases z
    · rintro ⟨_, _, z, _⟩
      cases z
  · rw [e1, e2]
    have vp := val_perm gb (List.mergeSort_perm b leK)
    constructor
    · rintro ⟨st', g, z, h1, h2⟩
      cases z
      exact ⟨_, _, rfl, h1, fun k => by rw [vp]; exact h2 k⟩
    · rintro ⟨st', L, z, h1, h2⟩
      cases z
      exact ⟨_, _, rfl, h1, fun k => by rw [← vp]; exact h2 k⟩
end Gc

/-! rows that are visited; the least text -/
namespace Gc
def Within (cs : List Cmd) (lo hi : Int) : Prop := ∀ i, lo ≤ last (cs.take i) ∧ last (cs.take i) ≤ hi
theorem Within.tail {c : Cmd} {cs : List Cmd} {lo hi : Int} (h : Within (c :: cs) lo hi) : Within cs (lo - c.dv) (hi - c.dv) := fun i => by
  have q := h (i + 1)
  have e : last ((c :: cs).take (i + 1)) = c.dv + last (cs.take i) := rfl
  rw [e] at q
  omega
theorem Within.init {cs : List Cmd} {c : Cmd} {lo hi : Int} (h : Within (cs ++ [c]) lo hi) : Within cs lo hi := fun i => by
  by_cases l : i ≤ cs.length
  · have q := h i
    rw [List.take_append_of_le_length l] at q
    exact q
  · have q := h cs.length
    rw [List.take_append_of_le_length (Nat.le_refl _)] at q
    rw [List.take_of_length_le (by omega)]
    rw [List.take_length] at q
    exact q
theorem Within.whole {cs : List Cmd} {lo hi : Int} (h : Within cs lo hi) : lo ≤ last cs ∧ last cs ≤ hi := by
  have q := h cs.length
  rw [List.take_length] at q
  exact q
theorem Within.zero {cs : List Cmd} {lo hi : Int} (h : Within cs lo hi) : lo ≤ 0 ∧ 0 ≤ hi := h 0
theorem keys_req' {b : Ps} {o v k : Int} (h : k ∈ keys (req b o v)) : k = o ∨ k ∈ keys b := by
  unfold req at h
  rw [keys_put] at h
  split at h
  · exact .inr h
  · rcases List.mem_append.mp h with q | q
    · exact .inr q
    · exact .inl (List.mem_singleton.mp q)
/-- the offsets of a box are rows that are visited -/
theorem go_within {lo hi : Int} : ∀ {rs : List Cmd} {need : Int} {b : Ps} {st : Option Int} {b' : Ps}, go rs (last rs.reverse) need b = some (st, b') → Within rs.reverse lo hi → (∀ k ∈ keys b, lo ≤ k ∧ k ≤ hi) → ∀ k ∈ keys b', lo ≤ k ∧ k ≤ hi
  | [], need, b, st, b', h, _, hb => by cases h; exact hb
  | .home :: rs, need, b, st, b', h, _, _ => by cases h
  | .stop :: rs, need, b, st, b', h, _, hb => by cases h; exact hb
  | .down n :: rs, need, b, st, b', h, w, hb => by
    rw [List.reverse_cons] at h w
    rw [last_snoc] at h
    have e : last rs.reverse + (Cmd.down n).dv - n = last rs.reverse := by
      show last rs.reverse + n - n = _
      omega
    simp only [go] at h
    rw [e] at h
    exact go_within h w.init hb
  | .up n :: rs, need, b, st, b', h, w, hb => by
    rw [List.reverse_cons] at h w
    rw [last_snoc] at h
    have e : last rs.reverse + (Cmd.up n).dv + n = last rs.reverse := by
      show last rs.reverse + -n + n = _
      omega
    simp only [go] at h
    rw [e] at h
    exact go_within h w.init hb
  | .left n :: rs, need, b, st, b', h, w, hb => by
    rw [List.reverse_cons] at h w
    rw [last_snoc, show last rs.reverse + (Cmd.left n).dv = last rs.reverse from Int.add_zero _] at h
    simp only [go] at h
    refine go_within h w.init fun k hk => ?_
    rcases keys_req' hk with q | q
    · rw [q]
      exact w.init.whole
    · exact hb k q
  | .right n :: rs, need, b, st, b', h, w, hb => by
    rw [List.reverse_cons] at h w
    rw [last_snoc, show last rs.reverse + (Cmd.right n).dv = last rs.reverse from Int.add_zero _] at h
    have hr : ∀ k ∈ keys (req b (last rs.reverse) need), lo ≤ k ∧ k ≤ hi := fun k hk => by
      rcases keys_req' hk with q | q
      · rw [q]
        exact w.init.whole
      · exact hb k q
    simp only [go] at h
    split at h
    · exact go_within h w.init hr
    · cases h
      exact hr
theorem box_within {lo hi : Int} {cs : List Cmd} {goal : Int} {st : Option Int} {L : Ps} (h : boxM cs goal = some (st, L)) (w : Within cs lo hi) : ∀ q ∈ L, lo ≤ q.1 ∧ q.1 ≤ hi := by
  unfold boxM at h
  cases e : go cs.reverse (last cs) goal [] with
  | none =>
    rw [e] at h
    cases h
  | some x =>
    rw [e] at h
    obtain ⟨st', b'⟩ := x
    have h' : (st', b'.mergeSort leK) = (st, L) := Option.some.inj h
    cases h'
    have k := go_within (rs := cs.reverse) (lo := lo) (hi := hi) (by rw [List.reverse_reverse]; exact e) (by rw [List.reverse_reverse]; exact w) (fun k hk => by cases hk)
    intro q hq
    exact k q.1 (List.mem_map.mpr ⟨q, (List.mergeSort_perm b' leK).mem_iff.mp hq, rfl⟩)
/-! ### a text from a box -/
def setAll (lo : Int) (T : List Int) (L : Ps) : List Int := L.foldl (fun T q => T.set (q.1 - lo).toNat q.2) T
theorem setAll_len (lo : Int) : ∀ (L : Ps) (T : List Int), (setAll lo T L).length = T.length
  | [], _ => rfl
  | q :: L, T => by
    show (setAll lo (T.set (q.1 - lo).toNat q.2) L).length = _
    rw [setAll_len lo L, List.length_set]
theorem setAll_get {lo : Int} : ∀ {L : Ps} {T : List Int} {k : Int}, (keys L).Nodup → (∀ q ∈ L, lo ≤ q.1 ∧ q.1 - lo < T.length) → lo ≤ k → k - lo < T.length →
    (setAll lo T L).getD (k - lo).toNat 0 = match look L k with | some v => v | none => T.getD (k - lo).toNat 0
  | [], T, k, _, _, _, _ => rfl
  | q :: L, T, k, nd, hq, h0, h1 => by
    have nd' : q.1 ∉ keys L ∧ (keys L).Nodup := List.nodup_cons.mp nd
    have q0 := hq q List.mem_cons_self
    show (setAll lo (T.set (q.1 - lo).toNat q.2) L).getD (k - lo).toNat 0 = _
    rw [setAll_get (L := L) nd'.2 (fun p hp => by rw [List.length_set]; exact hq p (List.mem_cons_of_mem _ hp)) h0 (by rw [List.length_set]; exact h1), look_cons]
    by_cases e : q.1 = k
    · subst e
      rw [if_pos rfl, look_none.mpr nd'.1]
      show (T.set (q.1 - lo).toNat q.2).getD (q.1 - lo).toNat 0 = q.2
      rw [List.getD_eq_getElem?_getD, List.getElem?_set_self (by omega)]
      rfl
    · rw [if_neg e]
      cases look L k with
      | some v => rfl
      | none =>
        show (T.set (q.1 - lo).toNat q.2).getD (k - lo).toNat 0 = T.getD (k - lo).toNat 0
        rw [List.getD_eq_getElem?_getD, List.getD_eq_getElem?_getD, List.getElem?_set_ne (by omega)]
/-! ### the run over a list of lengths -/
def lenAt (T : List Int) (r : Int) : Int := T.getD r.toNat 0
/-- the run over a text: the row must stand -/
def afterL (T : List Int) : Int → Option Int → List Cmd → Option (Int × Option Int)
  | r, a, [] => some (r, a)
  | r, a, c :: cs => if c.vert = true then (if 0 ≤ r + c.dv ∧ r + c.dv < T.length then afterL T (r + c.dv) a cs else none) else afterL T r (aim1 (lenAt T r) a c) cs
theorem Within.le {cs : List Cmd} {lo hi lo' hi' : Int} (h : Within cs lo hi) (h1 : lo' ≤ lo) (h2 : hi ≤ hi') : Within cs lo' hi' := fun i => by
  have := h i
  omega
theorem afterL_in {T : List Int} : ∀ {cs : List Cmd} {r : Int} {a : Option Int}, Within cs (-r) (T.length - 1 - r) → afterL T r a cs = some (r + last cs, aimF (lenAt T) r a cs)
  | [], r, a, _ => by
    show some (r, a) = some (r + 0, a)
    rw [Int.add_zero]
  | c :: cs, r, a, w => by
    have w1 := w 1
    have e1 : last ((c :: cs).take 1) = c.dv + 0 := rfl
    rw [e1] at w1
    have wt : Within cs (-(r + c.dv)) (T.length - 1 - (r + c.dv)) := w.tail.le (by omega) (by omega)
    have ih := afterL_in (a := aim1 (lenAt T r) a c) wt
    have el : last (c :: cs) = c.dv + last cs := rfl
    have ea : aimF (lenAt T) r a (c :: cs) = aimF (lenAt T) (r + c.dv) (aim1 (lenAt T r) a c) cs := rfl
    rw [ea, el, ← Int.add_assoc]
    by_cases v : c.vert = true
    · have ia : aim1 (lenAt T r) a c = a := by
        cases c with
        | down n => rfl
        | up n => rfl
        | right n => cases v
        | left n => cases v
        | home => cases v
        | stop => cases v
      rw [ia] at ih ⊢
      simp only [afterL]
      rw [if_pos v, if_pos ⟨by omega, by omega⟩, ih]
    · have d0 : c.dv = 0 := by
        cases c with
        | down n => exact absurd rfl v
        | up n => exact absurd rfl v
        | right n => rfl
        | left n => rfl
        | home => rfl
        | stop => rfl
      simp only [afterL]
      rw [if_neg v]
      rw [d0, Int.add_zero] at ih ⊢
      exact ih
theorem lenAt_nn {T : List Int} (h : ∀ x ∈ T, 0 ≤ x) (r : Int) : 0 ≤ lenAt T r := by
  unfold lenAt
  rw [List.getD_eq_getElem?_getD]
  cases e : T[r.toNat]? with
  | none => exact Int.le_refl 0
  | some x => exact h x (List.mem_of_getElem? e)
/-- over a text whose rows are all there: the goal is reached exactly if the box is fulfilled -/
theorem after_char {T : List Int} (hT : ∀ x ∈ T, 0 ≤ x) {r : Int} {a : Option Int} (ha : ge a 0) {cs : List Cmd} {goal : Int} (ok : AllOk cs) (hg : 1 ≤ goal) (w : Within cs (-r) (T.length - 1 - r)) :
    ∃ a', afterL T r a cs = some (r + last cs, a') ∧ ge a' 0 ∧ (ge a' goal ↔ ∃ st L, boxM cs goal = some (st, L) ∧ (∀ n, st = some n → ge a n) ∧ ∀ k, val L k ≤ lenAt T (r + k)) :=
  ⟨_, afterL_in w, aimF_nn (lenAt_nn hT) ok ha, box_char (lenAt_nn hT) ha ok hg⟩
/-! ### the least text -/
def textM (lo hi : Int) (L : Ps) : List Int := setAll lo (List.replicate (hi - lo + 1).toNat 0) L
theorem textM_len {lo hi : Int} (h : lo ≤ hi) (L : Ps) : ((textM lo hi L).length : Int) = hi - lo + 1 := by
  unfold textM
  rw [setAll_len, List.length_replicate]
  omega
theorem textM_at {lo hi : Int} {L : Ps} (g : Good L) (hL : ∀ q ∈ L, lo ≤ q.1 ∧ q.1 ≤ hi) {k : Int} (h0 : lo ≤ k) (h1 : k ≤ hi) : lenAt (textM lo hi L) (k - lo) = val L k := by
  unfold lenAt textM
  have hr : ((List.replicate (hi - lo + 1).toNat (0 : Int)).length : Int) = hi - lo + 1 := by
    rw [List.length_replicate]
    omega
  rw [setAll_get g.nd (fun q hq => by have := hL q hq; omega) h0 (by omega)]
  unfold val
  cases look L k with
  | some v => rfl
  | none =>
    show (List.replicate _ (0 : Int)).getD _ 0 = 0
    rw [List.getD_eq_getElem?_getD, List.getElem?_replicate]
    split <;> rfl
theorem val_off {lo hi : Int} {L : Ps} (hL : ∀ q ∈ L, lo ≤ q.1 ∧ q.1 ≤ hi) {k : Int} (h : ¬ (lo ≤ k ∧ k ≤ hi)) : val L k = 0 := by
  refine val_out fun z => ?_
  obtain ⟨q, hq, e⟩ := List.mem_map.mp z
  rw [← e] at h
  exact h (hL q hq)
theorem textM_nn {lo hi : Int} {L : Ps} (g : Good L) (hL : ∀ q ∈ L, lo ≤ q.1 ∧ q.1 ≤ hi) : ∀ x ∈ textM lo hi L, 0 ≤ x := by
  intro x hx
  obtain ⟨i, hi'⟩ := List.mem_iff_getElem?.mp hx
  have l := (List.getElem?_eq_some_iff.mp hi').1
  have l2 : (textM lo hi L).length = (hi - lo + 1).toNat := by
    unfold textM
    rw [setAll_len, List.length_replicate]
  have e := textM_at g hL (k := i + lo) (by omega) (by omega)
  unfold lenAt at e
  rw [show ((i : Int) + lo - lo).toNat = i by omega, List.getD_eq_getElem?_getD, hi'] at e
  have e' : x = val L (i + lo) := e
  rw [e']
  exact val_nonneg g _
section
variable {cs : List Cmd} {goal lo hi : Int} {st : Option Int} {L : Ps}
/-- from it, and just its goal, the goal is reached -/
theorem least_gets (g : Good L) (w : Within cs lo hi) (ok : AllOk cs) (hg : 1 ≤ goal) (e : boxM cs goal = some (st, L)) (pos : ∀ n, st = some n → 1 ≤ n) :
    ∃ a', afterL (textM lo hi L) (-lo) (some (st.getD 0)) cs = some (-lo + last cs, a') ∧ ge a' goal := by
  have hL := box_within e w
  have z := w.zero
  have tl := textM_len (lo := lo) (hi := hi) (by omega) L
  have a0 : ge (some (st.getD 0)) 0 := ge_some.mpr (by
    cases st with
    | none => exact Int.le_refl 0
    | some n =>
      have := pos n rfl
      show 0 ≤ n
      omega)
  obtain ⟨a', h1, _, h2⟩ := after_char (textM_nn g hL) a0 ok hg (w.le (show -(-lo) ≤ lo by omega) (show hi ≤ (textM lo hi L).length - 1 - (-lo) by omega))
  refine ⟨a', h1, h2.mpr ⟨st, L, e, fun n en => ge_some.mpr (by rw [en]; exact Int.le_refl n), fun k => ?_⟩⟩
  by_cases h : lo ≤ k ∧ k ≤ hi
  · rw [show -lo + k = k - lo by omega, textM_at g hL h.1 h.2]
    exact Int.le_refl _
  · rw [val_off hL h]
    exact lenAt_nn (textM_nn g hL) _
/-- with a goal less by one it is not -/
theorem least_goal (g : Good L) (w : Within cs lo hi) (ok : AllOk cs) (hg : 1 ≤ goal) (e : boxM cs goal = some (st, L)) {n : Int} (es : st = some n) (hn : 1 ≤ n) :
    ∃ a', afterL (textM lo hi L) (-lo) (some (n - 1)) cs = some (-lo + last cs, a') ∧ ¬ ge a' goal := by
  have hL := box_within e w
  have z := w.zero
  have tl := textM_len (lo := lo) (hi := hi) (by omega) L
  obtain ⟨a', h1, _, h2⟩ := after_char (textM_nn g hL) (ge_some.mpr (show 0 ≤ n - 1 by omega)) ok hg (w.le (show -(-lo) ≤ lo by omega) (show hi ≤ (textM lo hi L).length - 1 - (-lo) by omega))
  refine ⟨a', h1, fun x => ?_⟩
  obtain ⟨st', L', e', h3, _⟩ := h2.mp x
  rw [e] at e'
  cases e'
  have := ge_some.mp (h3 n es)
  omega
/-- with a length less by one it is not -/
theorem least_row (g : Good L) (w : Within cs lo hi) (ok : AllOk cs) (hg : 1 ≤ goal) (e : boxM cs goal = some (st, L)) (pos : ∀ n, st = some n → 1 ≤ n) {i : Nat} (li : i < (textM lo hi L).length) (h : 0 < lenAt (textM lo hi L) i) :
    ∃ a', afterL ((textM lo hi L).set i (lenAt (textM lo hi L) i - 1)) (-lo) (some (st.getD 0)) cs = some (-lo + last cs, a') ∧ ¬ ge a' goal := by
  have hL := box_within e w
  have z := w.zero
  have tl := textM_len (lo := lo) (hi := hi) (by omega) L
  have a0 : ge (some (st.getD 0)) 0 := ge_some.mpr (by
    cases st with
    | none => exact Int.le_refl 0
    | some n =>
      have := pos n rfl
      show 0 ≤ n
      omega)
  have nn : ∀ x ∈ (textM lo hi L).set i (lenAt (textM lo hi L) i - 1), 0 ≤ x := fun x hx => by
    rcases List.mem_or_eq_of_mem_set hx with q | q
    · exact textM_nn g hL x q
    · omega
  obtain ⟨a', h1, _, h2⟩ := after_char (r := -lo) nn a0 ok hg (w.le (show -(-lo) ≤ lo by omega) (by rw [List.length_set]; omega))
  refine ⟨a', h1, fun x => ?_⟩
  obtain ⟨st', L', e', _, h4⟩ := h2.mp x
  rw [e] at e'
  cases e'
  have q := h4 (i + lo)
  rw [show -lo + (i + lo) = (i : Int) by omega] at q
  have ev := textM_at g hL (k := i + lo) (by omega) (by omega)
  rw [show (i : Int) + lo - lo = i by omega] at ev
  rw [← ev] at q
  have es : lenAt ((textM lo hi L).set i (lenAt (textM lo hi L) i - 1)) i = lenAt (textM lo hi L) i - 1 := by
    conv => lhs; unfold lenAt
    rw [Int.toNat_natCast, List.getD_eq_getElem?_getD, List.getElem?_set_self li]
    rfl
  rw [es] at q
  omega
end
end Gc

/-! heaps, lengths of boxes, dicts out of pairs -/
namespace Gc
open PySem L2
theorem same_freeU {H H' : Hp} {d : Addr} {o : HO} (e : Same H H') (h : H d = none) : Same H (upd H' d o) := fun b u hb => by
  rw [upd_ne (ne_of_none hb h)]
  exact e b u hb
theorem go_len : ∀ {r : List Cmd} {off need : Int} {b : Ps} {st : Option Int} {b' : Ps}, go r off need b = some (st, b') → b'.length ≤ b.length + r.length
  | [], _, _, b, _, _, h => by cases h; exact Nat.le_refl _
  | .home :: r, _, _, b, _, _, h => by cases h
  | .stop :: r, _, _, b, _, _, h => by cases h; exact Nat.le_add_right _ _
  | .right n :: r, off, need, b, st, b', h => by
    have q := req_len b off need
    rw [List.length_cons]
    simp only [go] at h
    split at h
    · have := go_len h
      omega
    · cases h
      omega
  | .left n :: r, off, need, b, st, b', h => by
    have q := req_len b off (need + n)
    rw [List.length_cons]
    simp only [go] at h
    have := go_len h
    omega
  | .down n :: r, off, need, b, st, b', h => by
    rw [List.length_cons]
    simp only [go] at h
    have := go_len h
    omega
  | .up n :: r, off, need, b, st, b', h => by
    rw [List.length_cons]
    simp only [go] at h
    have := go_len h
    omega
theorem box_len {cs : List Cmd} {goal : Int} {st : Option Int} {L : Ps} (h : boxM cs goal = some (st, L)) : L.length ≤ cs.length := by
  unfold boxM at h
  cases e : go cs.reverse (last cs) goal [] with
  | none =>
    rw [e] at h
    cases h
  | some x =>
    rw [e] at h
    obtain ⟨st', b'⟩ := x
    have q := go_len e
    have h' : (st', b'.mergeSort leK) = (st, L) := Option.some.inj h
    cases h'
    rw [List.length_mergeSort]
    rw [List.length_reverse, List.length_nil] at q
    omega
theorem merge_dkI : ∀ (b acc : Ps), (keys acc ++ keys b).Nodup → mergeK (dkI acc) (dkI b) = dkI (acc ++ b)
  | [], acc, _ => by rw [List.append_nil]; rfl
  | q :: b, acc, h => by
    have nq : q.1 ∉ keys acc := fun z => by
      have := (List.nodup_append.mp h).2.2 q.1 z q.1 List.mem_cons_self
      exact this rfl
    show mergeK (putK (dkI acc) (Sum.inl q.1 : L2.Key) (.int q.2)) (dkI b) = _
    rw [putK_dkI]
    have e : put acc q.1 q.2 = acc ++ [q] := by
      unfold put
      rw [if_neg fun z => nq ((any_key acc q.1).mp z)]
    rw [e, merge_dkI b (acc ++ [q]) (by
      have e2 : keys (acc ++ [q]) ++ keys b = keys acc ++ keys (q :: b) := by
        unfold keys
        simp
      rw [e2]
      exact h), List.append_assoc]
    rfl
theorem paired_dkI {K : PySem.W.Frag} {H : Hp} : ∀ {ps : List Addr} {qs : Ps}, Paired (fun (p : Addr) (q : Int × Int) => H p = some (.tup [.int q.1, .int q.2])) ps qs → Paired (fun (p : Addr) (kv : L2.Key × V) => SqT K H p [kV kv.1, kv.2]) ps (dkI qs)
  | _, _, .nil => .nil
  | _, _, .cons h t => .cons (SqT.of h) (paired_dkI t)
theorem ref_at {ts : List Addr} {i : Nat} {x : V} (h : (ts.map V.ref)[i]? = some x) : ∃ t, ts[i]? = some t ∧ x = .ref t := by
  rw [List.getElem?_map] at h
  cases e : ts[i]? with
  | none =>
    rw [e] at h
    cases h
  | some t =>
    rw [e] at h
    exact ⟨t, rfl, (Option.some.inj h).symm⟩
theorem dki_len (b : Ps) : (dkI b).length = b.length := List.length_map ..
end Gc

/-! calls by names alone, the names in the other order: f(b=.., a=..) of def f(a, b) -/
namespace Gc
open PySem PySem.Spec PyProof.Rows L2
def gRev {α : Type} (us ws : List α) : List α := us ++ ws.reverse
theorem vals_rev : ∀ {vs : List V} {us : List Value}, Vals vs us → Vals vs.reverse us.reverse
  | _, _, .nil => .nil
  | v :: vs, u :: us, .cons h t => by
    rw [List.reverse_cons, List.reverse_cons]
    exact (vals_rev t).append (.cons h .nil)
structure CalK (P : Program) (w : World) (K : PySem.W.Frag) (mg : Str → Option Value) (base : Heap) (k : Nat) (x : Str) (ks : List Str) (sp : Sp) : Prop where
  ex : ∃ (f : Addr) (fd : FuncData) (ps : List Str), FnOk P w K mg base CX0 k f fd ps sp ∧ mg x = some (.ref f) ∧ PySem.W.keepIn K (.ref f) = true ∧ KBinds K fd ps ks gRev gRev
/-- how it binds: h is «fun _ _ _ _ _ _ us ws hl => match us, ws, hl with | [], [_, _], _ => rfl | [_], [_], _ => rfl | [_, _], [], _ => rfl» -/
theorem bindsK {K : PySem.W.Frag} {x qual : Str} {st : Stmt} {f : Addr} {fd : FuncData} {ps ks : List Str} (F : Fun K x qual st f fd)
    (h : ∀ (kV doc pm : Value) (an : Option Addr) (cdv ct : Value) (us ws : List Value), (gRev us ws).length = ps.length → bindArgs (PySem.W.fnOf x qual (defArgs st) (defBody st) (defScope st) .none kV doc pm an cdv ct) ⟨us, ks.zip ws⟩ = pure (ps.zip (gRev us ws))) : KBinds K fd ps ks gRev gRev := by
  obtain ⟨oc, od, kV, doc, pm, an, cdv, ct, osl, rfl, lk, hcd⟩ := F.ex
  exact ⟨fun s us ws _ hl => .of_eq (h kV doc pm an cdv ct us ws hl), fun a b => a.append (vals_rev b)⟩
theorem pe_calK {X : Cx} {k j : Nat} {x : Str} {ks : List Str} {sp : Sp} {p pos : Pos} {kws : List Keyword} {tk : TA} (c : CalK X.prog X.w X.K X.mg X.base k x ks sp) (hr : Room j X.A) (hk : k ≤ j) (hg : Gl X x) (hkw : PK X kws tk)
    (hdb : (x == ("__debug__" : Str)) = false := by decide) (hall : (backToKw pos (keywordEach kws X.env)).all (·.1.isSome) = true := by rfl) (hks : (backToKw pos (keywordEach kws X.env)).filterMap (·.1) = ks := by rfl)
    (hpn : ((backTo pos (starEach [] X.env)).any (·.1) || (backToKw pos (keywordEach kws X.env)).any (·.1.isNone)) = false := by rfl) :
    PE X (.Call (.Name x p) [] kws pos) (tCallK sp gRev E0 tNil tk) := by
  obtain ⟨f, fd, ps, F, hm, kp, b⟩ := c.ex
  refine ⟨fun pins s σ H Q I h => ?_⟩
  refine wpAny_Call_Name_kw (ld_glob I hg hm ?_ hdb)
  refine PySem.W.callWith_KW0 (h₀ := X.base) I.ok.mod.kin kp hall ?_ hpn
  refine thn (hkw.run pos pins s σ H _ I h) fun ws s1 ⟨zs, H1, I1, rz, q⟩ => ⟨I1.kIn, ?_⟩
  rw [hks]
  exact run_fnk (us := []) (vs := []) F (hr.mono hk) b pass0 I1 .nil rz q
end Gc

/-! what repr wants of the data that the laws show -/
namespace Gc
open PySem PySem.Spec PyProof.Rows L2
def Sml (x : Int) : Prop := x.natAbs < 2 ^ 120
theorem sml_log {x : Int} (h : Sml x) : x.natAbs.log2 < 121 := Nat.lt_of_lt_of_le (PySem.Flt.log2_lt_of (k := 121) (by decide) (Nat.lt_trans h (by decide))) (Nat.le_refl _)
theorem sml_show {x : Int} (h : Sml x) : (PyData.int x).showable = true := by
  have := sml_log h
  simp only [PyData.showable, decide_eq_true_eq]
  omega
theorem sml_short {x : Int} (h : Sml x) : (PyData.int x).leavesShort 130 = true := by
  have e := int_text_length_le (k := 121) (by decide) (sml_log h)
  have e' : (PyData.shown (.int x)).length ≤ 130 := by
    have e2 : (PyData.shown (.int x)).length = (toString x).length := by
      show (Str.ofString (toString x)).length = _
      rw [PySem.ofString_length]
    omega
  simpa only [PyData.leavesShort, decide_eq_true_eq] using e'
theorem sml_weight {x : Int} (h : Sml x) : (PyData.int x).weight ≤ 122 := by
  have := sml_log h
  simp only [PyData.weight]
  split <;> omega
def Ok0 (d : PyData) : Prop := d.showable = true ∧ d.hasDict = false ∧ d.leavesShort 130 = true
def Ok0s (ds : List PyData) : Prop := PyData.showableAll ds = true ∧ PyData.hasDictAll ds = false ∧ PyData.leavesShortAll 130 ds = true
theorem ok0_int {x : Int} (h : Sml x) : Ok0 (.int x) := ⟨sml_show h, by simp only [PyData.hasDict], sml_short h⟩
theorem ok0_nil : Ok0s [] := ⟨by simp only [PyData.showableAll], by simp only [PyData.hasDictAll], by simp only [PyData.leavesShortAll]⟩
theorem ok0_cons {d : PyData} {ds : List PyData} (h : Ok0 d) (t : Ok0s ds) : Ok0s (d :: ds) := by
  obtain ⟨a1, a2, a3⟩ := h
  obtain ⟨b1, b2, b3⟩ := t
  refine ⟨?_, ?_, ?_⟩
  · simp only [PyData.showableAll, a1, b1, Bool.and_self]
  · simp only [PyData.hasDictAll, a2, b2, Bool.or_self]
  · simp only [PyData.leavesShortAll, a3, b3, Bool.and_self]
theorem ok0_list {ds : List PyData} (h : Ok0s ds) : Ok0 (.list ds) := by
  obtain ⟨b1, b2, b3⟩ := h
  refine ⟨?_, ?_, ?_⟩
  · simpa only [PyData.showable] using b1
  · simpa only [PyData.hasDict] using b2
  · simpa only [PyData.leavesShort] using b3
theorem ok0_tup {ds : List PyData} (h : Ok0s ds) : Ok0 (.tuple ds) := by
  obtain ⟨b1, b2, b3⟩ := h
  refine ⟨?_, ?_, ?_⟩
  · simpa only [PyData.showable] using b1
  · simpa only [PyData.hasDict] using b2
  · simpa only [PyData.leavesShort] using b3
theorem ok0_len {d : PyData} (h : Ok0 d) (w : d.weight ≤ 100000) : d.shown.length ≤ sizeLine := by
  have e := PyData.shown_le 130 (by decide) d h.2.2
  rw [sizeLine_eq]
  have : (130 + 2) * d.weight ≤ (130 + 2) * 100000 := Nat.mul_le_mul_left _ w
  omega
theorem ok0_ints : ∀ {T : List Int}, (∀ x ∈ T, Sml x) → Ok0s (T.map PyData.int)
  | [], _ => ok0_nil
  | x :: T, h => ok0_cons (ok0_int (h x List.mem_cons_self)) (ok0_ints fun y hy => h y (List.mem_cons_of_mem _ hy))
theorem weight_ints : ∀ {T : List Int}, (∀ x ∈ T, Sml x) → PyData.weightAll (T.map PyData.int) ≤ 123 * T.length
  | [], _ => by simp [PyData.weightAll]
  | x :: T, h => by
    have a := sml_weight (h x List.mem_cons_self)
    have b := weight_ints (T := T) fun y hy => h y (List.mem_cons_of_mem _ hy)
    simp only [List.map_cons, PyData.weightAll, List.length_cons]
    omega
theorem deep_ints : ∀ T : List Int, PyData.depthAll (T.map PyData.int) = 0
  | [] => by simp [PyData.depthAll]
  | x :: T => by simp [PyData.depthAll, PyData.depth, deep_ints T]
/-- a text and a cursor -/
def textD (T : List Int) (r a : Int) : PyData := .tuple [.list (T.map PyData.int), .tuple [.int r, .int a]]
theorem textD_ok {T : List Int} {r a : Int} (hT : ∀ x ∈ T, Sml x) (hr : Sml r) (ha : Sml a) (l : T.length ≤ 500) : (textD T r a).showable = true ∧ (textD T r a).hasDict = false ∧ (textD T r a).depth ≤ 60 ∧ (textD T r a).shown.length ≤ sizeLine := by
  have o : Ok0 (textD T r a) := ok0_tup (ok0_cons (ok0_list (ok0_ints hT)) (ok0_cons (ok0_tup (ok0_cons (ok0_int hr) (ok0_cons (ok0_int ha) ok0_nil))) ok0_nil))
  refine ⟨o.1, o.2.1, ?_, ok0_len o ?_⟩
  · simp only [textD, PyData.depth, PyData.depthAll, deep_ints]
    omega
  · have a1 := weight_ints hT
    have a2 := sml_weight hr
    have a3 := sml_weight ha
    simp only [PyData.weight] at a2 a3
    simp only [textD, PyData.weight, PyData.weightAll]
    omega
/-! ### commands as data -/
def cmdD : Cmd → PyData
  | .down n => .tuple [.str "down", .int n]
  | .up n => .tuple [.str "up", .int n]
  | .right n => .tuple [.str "right", .int n]
  | .left n => .tuple [.str "left", .int n]
  | .home => .tuple [.str "home"]
  | .stop => .tuple [.str "end"]
theorem CmdAt.dp {K : PySem.W.Frag} {H : Hp} {v : V} {c : Cmd} (h : CmdAt K H v c) : Dp K H v (cmdD c) := by
  obtain ⟨a, rfl, h⟩ := h
  cases c with
  | down n => exact .tup h (.cons (.str _) (.cons (.int n) .nil))
  | up n => exact .tup h (.cons (.str _) (.cons (.int n) .nil))
  | right n => exact .tup h (.cons (.str _) (.cons (.int n) .nil))
  | left n => exact .tup h (.cons (.str _) (.cons (.int n) .nil))
  | home => exact .tup h (.cons (.str _) .nil)
  | stop => exact .tup h (.cons (.str _) .nil)
theorem CmdsOf.dp {K : PySem.W.Frag} {H : Hp} : ∀ {xs : List V} {cs : List Cmd}, CmdsOf K H xs cs → DpAll K H xs (cs.map cmdD)
  | _, _, .nil => .nil
  | _, _, .cons h t => .cons h.dp (CmdsOf.dp t)
def CSml : Cmd → Prop
  | .down n => Sml n
  | .up n => Sml n
  | .right n => Sml n
  | .left n => Sml n
  | _ => True
theorem ok0_str {x : Str} (h : (PyData.str x).leavesShort 130 = true) : Ok0 (.str x) := ⟨by simp only [PyData.showable], by simp only [PyData.hasDict], h⟩
theorem cmdD_ok {c : Cmd} (h : CSml c) : Ok0 (cmdD c) ∧ (cmdD c).weight ≤ 200 ∧ (cmdD c).depth ≤ 5 := by
  cases c with
  | down n =>
    have w := sml_weight h
    refine ⟨ok0_tup (ok0_cons (ok0_str (by decide +kernel)) (ok0_cons (ok0_int h) ok0_nil)), ?_, by simp [cmdD, PyData.depth, PyData.depthAll]⟩
    have e : (PyData.str "down").weight = 4 := by decide +kernel
    simp only [cmdD, PyData.weight, PyData.weightAll] at w e ⊢
    omega
  | up n =>
    have w := sml_weight h
    refine ⟨ok0_tup (ok0_cons (ok0_str (by decide +kernel)) (ok0_cons (ok0_int h) ok0_nil)), ?_, by simp [cmdD, PyData.depth, PyData.depthAll]⟩
    have e : (PyData.str "up").weight = 2 := by decide +kernel
    simp only [cmdD, PyData.weight, PyData.weightAll] at w e ⊢
    omega
  | right n =>
    have w := sml_weight h
    refine ⟨ok0_tup (ok0_cons (ok0_str (by decide +kernel)) (ok0_cons (ok0_int h) ok0_nil)), ?_, by simp [cmdD, PyData.depth, PyData.depthAll]⟩
    have e : (PyData.str "right").weight = 5 := by decide +kernel
    simp only [cmdD, PyData.weight, PyData.weightAll] at w e ⊢
    omega
  | left n =>
    have w := sml_weight h
    refine ⟨ok0_tup (ok0_cons (ok0_str (by decide +kernel)) (ok0_cons (ok0_int h) ok0_nil)), ?_, by simp [cmdD, PyData.depth, PyData.depthAll]⟩
    have e : (PyData.str "left").weight = 4 := by decide +kernel
    simp only [cmdD, PyData.weight, PyData.weightAll] at w e ⊢
    omega
  | home => exact ⟨ok0_tup (ok0_cons (ok0_str (by decide +kernel)) ok0_nil), by decide +kernel, by simp [cmdD, PyData.depth, PyData.depthAll]⟩
  | stop => exact ⟨ok0_tup (ok0_cons (ok0_str (by decide +kernel)) ok0_nil), by decide +kernel, by simp [cmdD, PyData.depth, PyData.depthAll]⟩
theorem cmds_ok0 : ∀ {cs : List Cmd}, (∀ c ∈ cs, CSml c) → Ok0s (cs.map cmdD) ∧ PyData.weightAll (cs.map cmdD) ≤ 201 * cs.length ∧ PyData.depthAll (cs.map cmdD) ≤ 5
  | [], _ => ⟨ok0_nil, by simp [PyData.weightAll], by simp [PyData.depthAll]⟩
  | c :: cs, h => by
    obtain ⟨a1, a2, a3⟩ := cmdD_ok (h c List.mem_cons_self)
    obtain ⟨b1, b2, b3⟩ := cmds_ok0 (cs := cs) fun d hd => h d (List.mem_cons_of_mem _ hd)
    refine ⟨ok0_cons a1 b1, ?_, ?_⟩
    · simp only [List.map_cons, PyData.weightAll, List.length_cons]
      omega
    · simp only [List.map_cons, PyData.depthAll]
      omega
theorem cmds_ok {cs : List Cmd} (h : ∀ c ∈ cs, CSml c) (l : cs.length ≤ 300) : (PyData.list (cs.map cmdD)).showable = true ∧ (PyData.list (cs.map cmdD)).hasDict = false ∧ (PyData.list (cs.map cmdD)).depth ≤ 60 ∧ (PyData.list (cs.map cmdD)).shown.length ≤ sizeLine := by
  obtain ⟨a1, a2, a3⟩ := cmds_ok0 h
  have o := ok0_list a1
  refine ⟨o.1, o.2.1, ?_, ok0_len o ?_⟩
  · simp only [PyData.depth]
    omega
  · simp only [PyData.weight]
    omega
/-! ### boxes as data -/
def optD : Option Int → PyData
  | none => .none
  | some n => .int n
def pairD (q : Int × Int) : PyData := .tuple [.int q.1, .int q.2]
def boxD : Option (Option Int × Ps) → PyData
  | none => .none
  | some x => .tuple [optD x.1, .list (x.2.map pairD)]
def BSml : Option (Option Int × Ps) → Prop
  | none => True
  | some x => (∀ n, x.1 = some n → Sml n) ∧ ∀ q ∈ x.2, Sml q.1 ∧ Sml q.2
theorem ok0_none : Ok0 .none := ⟨by simp only [PyData.showable], by simp only [PyData.hasDict], by simp only [PyData.leavesShort]⟩
theorem pairs_ok0 : ∀ {L : Ps}, (∀ q ∈ L, Sml q.1 ∧ Sml q.2) → Ok0s (L.map pairD) ∧ PyData.weightAll (L.map pairD) ≤ 247 * L.length ∧ PyData.depthAll (L.map pairD) ≤ 5
  | [], _ => ⟨ok0_nil, by simp [PyData.weightAll], by simp [PyData.depthAll]⟩
  | q :: L, h => by
    obtain ⟨a, b⟩ := h q List.mem_cons_self
    obtain ⟨c1, c2, c3⟩ := pairs_ok0 (L := L) fun p hp => h p (List.mem_cons_of_mem _ hp)
    have wa := sml_weight a
    have wb := sml_weight b
    refine ⟨ok0_cons (ok0_tup (ok0_cons (ok0_int a) (ok0_cons (ok0_int b) ok0_nil))) c1, ?_, ?_⟩
    · simp only [PyData.weight] at wa wb
      simp only [List.map_cons, pairD, PyData.weight, PyData.weightAll, List.length_cons] at c2 ⊢
      omega
    · simp only [List.map_cons, pairD, PyData.depth, PyData.depthAll] at c3 ⊢
      omega
theorem boxD_ok0 {o : Option (Option Int × Ps)} {n : Nat} (h : BSml o) (l : ∀ x, o = some x → x.2.length ≤ n) : Ok0 (boxD o) ∧ (boxD o).weight ≤ 247 * n + 200 ∧ (boxD o).depth ≤ 10 := by
  cases o with
  | none => exact ⟨ok0_none, by simp [boxD, PyData.weight], by simp [boxD, PyData.depth]⟩
  | some x =>
    obtain ⟨st, L⟩ := x
    obtain ⟨h1, h2⟩ := h
    have h2' : ∀ q ∈ L, Sml q.1 ∧ Sml q.2 := h2
    obtain ⟨c1, c2, c3⟩ := pairs_ok0 h2'
    have ln : L.length ≤ n := l _ rfl
    have o1 : Ok0 (optD st) ∧ (optD st).weight ≤ 122 ∧ (optD st).depth = 0 := by
      cases st with
      | none => exact ⟨ok0_none, by simp [optD, PyData.weight], by simp [optD, PyData.depth]⟩
      | some n => exact ⟨ok0_int (h1 n rfl), sml_weight (h1 n rfl), by simp [optD, PyData.depth]⟩
    obtain ⟨d1, d2, d3⟩ := o1
    refine ⟨ok0_tup (ok0_cons d1 (ok0_cons (ok0_list c1) ok0_nil)), ?_, ?_⟩
    · have m : 247 * L.length ≤ 247 * n := Nat.mul_le_mul_left _ ln
      simp only [boxD, PyData.weight, PyData.weightAll]
      omega
    · simp only [boxD, PyData.depth, PyData.depthAll]
      omega
theorem boxes_ok0 {n : Nat} : ∀ {os : List (Option (Option Int × Ps))}, (∀ o ∈ os, BSml o ∧ ∀ x, o = some x → x.2.length ≤ n) → Ok0s (os.map boxD) ∧ PyData.weightAll (os.map boxD) ≤ (247 * n + 201) * os.length ∧ PyData.depthAll (os.map boxD) ≤ 10
  | [], _ => ⟨ok0_nil, by simp [PyData.weightAll], by simp [PyData.depthAll]⟩
  | o :: os, h => by
    obtain ⟨a, b⟩ := h o List.mem_cons_self
    obtain ⟨c1, c2, c3⟩ := boxD_ok0 a b
    obtain ⟨d1, d2, d3⟩ := boxes_ok0 (os := os) fun p hp => h p (List.mem_cons_of_mem _ hp)
    refine ⟨ok0_cons c1 d1, ?_, ?_⟩
    · rw [List.map_cons, List.length_cons, Nat.mul_succ]
      simp only [PyData.weightAll]
      omega
    · simp only [List.map_cons, PyData.depthAll]
      omega
/-- a list of at most ten boxes of at most thirty lines each -/
theorem boxes_ok {os : List (Option (Option Int × Ps))} (h : ∀ o ∈ os, BSml o ∧ ∀ x, o = some x → x.2.length ≤ 30) (l : os.length ≤ 10) :
    (PyData.list (os.map boxD)).showable = true ∧ (PyData.list (os.map boxD)).hasDict = false ∧ (PyData.list (os.map boxD)).depth ≤ 60 ∧ (PyData.list (os.map boxD)).shown.length ≤ sizeLine := by
  obtain ⟨a1, a2, a3⟩ := boxes_ok0 h
  have o := ok0_list a1
  refine ⟨o.1, o.2.1, ?_, ok0_len o ?_⟩
  · simp only [PyData.depth]
    omega
  · have m : (247 * 30 + 201) * os.length ≤ (247 * 30 + 201) * 10 := Nat.mul_le_mul_left _ l
    simp only [PyData.weight]
    omega
end Gc

/-! small pieces that many laws use -/
namespace Gc
open PySem L2
theorem lt_line {n : Nat} (h : n ≤ 100000) : n < sizeLine := by
  rw [sizeLine_eq]
  omega
theorem tru_seq {K : PySem.W.Frag} {H : Hp} {l : Addr} {xs : List V} (h : SqL K H l xs) : TruV K (.ref l) H (!xs.isEmpty) := .inl ⟨xs, h, rfl⟩
theorem takeS {α : Type} : ∀ {l : List α} {i : Nat} {x : α}, l[i]? = some x → l.take (i + 1) = l.take i ++ [x]
  | [], i, x, h => by simp at h
  | a :: l, 0, x, h => by
    obtain rfl := Option.some.inj h
    rfl
  | a :: l, i + 1, x, h => by
    have ih := takeS (l := l) (i := i) (x := x) h
    show a :: l.take (i + 1) = a :: l.take i ++ [x]
    rw [ih]
    rfl
theorem pairS {α β : Type} {F : α → β → Prop} : ∀ {xs : List α} {ys : List β} {x : α} {y : β}, Paired F xs ys → F x y → Paired F (xs ++ [x]) (ys ++ [y])
  | _, _, _, _, .nil, h => .cons h .nil
  | _, _, _, _, .cons f t, h => .cons f (pairS t h)
/-- a new object, told apart -/
theorem new_same {H : Hp} {p : Addr} {o : HO} (h : H p = none) : Same H (upd H p o) := fun b u hb => by
  rw [upd_ne (ne_of_none hb h)]
  exact hb
/-- a list is written; commands stand -/
theorem CmdsOf.atL {K : PySem.W.Frag} {H : Hp} {l : Addr} {ys zs : List V} {xs : List V} {cs : List Cmd} (hl : H l = some (.lst ys)) (h : CmdsOf K H xs cs) : CmdsOf K (upd H l (.lst zs)) xs cs := Paired.mapP h fun _ _ q => by
  obtain ⟨a, e1, h1⟩ := q
  refine ⟨a, e1, ?_⟩
  rcases h1 with (z | ⟨o, z⟩) | z
  · exact .inl (.inl (by rw [upd_ne (ne_of z hl (by intro q; cases q))]; exact z))
  · exact .inl (.inr ⟨o, by rw [upd_ne (ne_of z hl (by intro q; cases q))]; exact z⟩)
  · exact .inr z
end Gc
namespace Gc
open PySem L2
def nameC : Cmd → Str
  | .down _ => "down"
  | .up _ => "up"
  | .right _ => "right"
  | .left _ => "left"
  | .home => "home"
  | .stop => "end"
theorem enc_at (c : Cmd) : atI (encC c) 0 = some (.str (nameC c)) := by cases c <;> rfl
theorem getK {H : Hp} {p : Addr} {kvs : List (L2.Key × V)} {k : Str} {v : V} (h : H p = some (.dK kvs)) (e : valV kvs (.inr k : L2.Key) = some v) : DGet H p (.str k) (some v) := e ▸ DGet.k (k := .inr k) h
end Gc
namespace Gc
open PySem L2
/-! slices by places -/
theorem cutHi {xs : List V} {n : Nat} {z : Int} (e : z = (n : Int)) (h : n ≤ xs.length) : cutV xs none (some z) = xs.take n := by
  subst e
  unfold cutV
  rw [HT.sIx_none, HT.sIx_nat, List.drop_zero, Nat.sub_zero]
  congr 1
  omega
theorem cutLo {xs : List V} {n : Nat} {z : Int} (e : z = (n : Int)) : cutV xs (some z) none = xs.drop n := by
  subst e
  unfold cutV
  rw [HT.sIx_none, HT.sIx_nat]
  by_cases h : n ≤ xs.length
  · rw [Nat.min_eq_left h]
    exact List.take_of_length_le (by rw [List.length_drop]; exact Nat.le_refl _)
  · rw [Nat.min_eq_right (by omega), List.drop_eq_nil_of_le (Nat.le_refl _), List.take_nil, List.drop_eq_nil_of_le (by omega)]
theorem cutOne {xs : List V} {n m : Nat} {z y : Int} (e : z = (n : Int)) (e2 : y = (m : Int)) (hn : n ≤ xs.length) (hm : n ≤ m) : cutV xs (some z) (some y) = (xs.drop n).take (m - n) := by
  subst e e2
  unfold cutV
  rw [HT.sIx_nat, HT.sIx_nat, Nat.min_eq_left hn]
  by_cases h : m ≤ xs.length
  · rw [Nat.min_eq_left h]
  · rw [Nat.min_eq_right (by omega)]
    rw [List.take_of_length_le (l := xs.drop n) (by rw [List.length_drop]; exact Nat.le_refl _), List.take_of_length_le (by rw [List.length_drop]; omega)]
theorem paired_take {α β : Type} {F : α → β → Prop} : ∀ (n : Nat) {xs : List α} {ys : List β}, Paired F xs ys → Paired F (xs.take n) (ys.take n)
  | 0, _, _, _ => .nil
  | n + 1, _, _, .nil => .nil
  | n + 1, _, _, .cons h t => .cons h (paired_take n t)
theorem paired_drop {α β : Type} {F : α → β → Prop} : ∀ (n : Nat) {xs : List α} {ys : List β}, Paired F xs ys → Paired F (xs.drop n) (ys.drop n)
  | 0, _, _, h => h
  | n + 1, _, _, .nil => .nil
  | n + 1, _, _, .cons _ t => paired_drop n t
theorem paired_app {α β : Type} {F : α → β → Prop} : ∀ {xs xs' : List α} {ys ys' : List β}, Paired F xs ys → Paired F xs' ys' → Paired F (xs ++ xs') (ys ++ ys')
  | _, _, _, _, .nil, h => h
  | _, _, _, _, .cons h t, g => .cons h (paired_app t g)
end Gc

/-! what a list of commands does to all goals on one text: a number added, kept between two bounds -/
namespace Gc
/-- the goal None is the greatest -/
def chg1 : Cmd → Int
  | .right n => n
  | .left n => -n
  | _ => 0
def chg : List Cmd → Int
  | [] => 0
  | c :: cs => chg1 c + chg cs
theorem chg_snoc (cs : List Cmd) (c : Cmd) : chg (cs ++ [c]) = chg cs + chg1 c := by
  induction cs with
  | nil => show chg1 c + 0 = 0 + chg1 c; omega
  | cons d cs ih => show chg1 d + chg (cs ++ [c]) = chg1 d + chg cs + chg1 c; rw [ih]; omega
/-- where the goal x goes, if 0 goes to lo, None to hi, and d is added -/
def Clamp (lo hi : Option Int) (d x : Int) (g : Option Int) : Prop := match lo, hi, g with
  | none, none, none => True
  | some l, none, some y => y = max l (x + d)
  | some l, some h, some y => l ≤ h ∧ y = max l (min h (x + d))
  | _, _, _ => False
theorem clamp1 {t : Int} (ht : 0 ≤ t) {lo hi : Option Int} {d x : Int} {g : Option Int} (h : Clamp lo hi d x g) (c : Cmd) (ok : c.ok) : Clamp (aim1 t lo c) (aim1 t hi c) (d + chg1 c) x (aim1 t g c) := by
  unfold Clamp at h
  cases c with
  | down n =>
    show Clamp lo hi (d + 0) x g
    rw [Int.add_zero]
    exact h
  | up n =>
    show Clamp lo hi (d + 0) x g
    rw [Int.add_zero]
    exact h
  | home => exact ⟨Int.le_refl 0, by omega⟩
  | stop => trivial
  | right n =>
    have o : 1 ≤ n := ok
    match lo, hi, g, h with
    | none, none, none, _ =>
      show min (t + n) t ≤ min (t + n) t ∧ min (t + n) t = max (min (t + n) t) (min (min (t + n) t) (x + (d + n)))
      omega
    | some l, none, some y, h =>
      have h' : y = max l (x + d) := h
      show min (min l t + n) t ≤ min (t + n) t ∧ min (min y t + n) t = max (min (min l t + n) t) (min (min (t + n) t) (x + (d + n)))
      omega
    | some l, some e, some y, h =>
      obtain ⟨h1, h2⟩ : l ≤ e ∧ y = max l (min e (x + d)) := h
      show min (min l t + n) t ≤ min (min e t + n) t ∧ min (min y t + n) t = max (min (min l t + n) t) (min (min (min e t + n) t) (x + (d + n)))
      omega
  | left n =>
    have o : 1 ≤ n := ok
    match lo, hi, g, h with
    | none, none, none, _ =>
      show max 0 (t - n) ≤ max 0 (t - n) ∧ max 0 (t - n) = max (max 0 (t - n)) (min (max 0 (t - n)) (x + (d + -n)))
      omega
    | some l, none, some y, h =>
      have h' : y = max l (x + d) := h
      show max 0 (min l t - n) ≤ max 0 (t - n) ∧ max 0 (min y t - n) = max (max 0 (min l t - n)) (min (max 0 (t - n)) (x + (d + -n)))
      omega
    | some l, some e, some y, h =>
      obtain ⟨h1, h2⟩ : l ≤ e ∧ y = max l (min e (x + d)) := h
      show max 0 (min l t - n) ≤ max 0 (min e t - n) ∧ max 0 (min y t - n) = max (max 0 (min l t - n)) (min (max 0 (min e t - n)) (x + (d + -n)))
      omega
theorem clampF {T : Int → Int} (hT : ∀ k, 0 ≤ T k) {x : Int} (x0 : 0 ≤ x) : ∀ {cs : List Cmd} {r : Int} {lo hi : Option Int} {d : Int} {g : Option Int}, AllOk cs → Clamp lo hi d x g → Clamp (aimF T r lo cs) (aimF T r hi cs) (d + chg cs) x (aimF T r g cs)
  | [], r, lo, hi, d, g, _, h => by
    show Clamp lo hi (d + 0) x g
    rw [Int.add_zero]
    exact h
  | c :: cs, r, lo, hi, d, g, ok, h => by
    have q := clampF hT x0 (cs := cs) (r := r + c.dv) (fun e he => ok e (List.mem_cons_of_mem _ he)) (clamp1 (hT r) h c (ok c List.mem_cons_self))
    rw [show d + chg (c :: cs) = d + chg1 c + chg cs from by show d + (chg1 c + chg cs) = _; omega]
    exact q
theorem clamp_all {T : Int → Int} (hT : ∀ k, 0 ≤ T k) {cs : List Cmd} (ok : AllOk cs) (r : Int) {x : Int} (x0 : 0 ≤ x) : Clamp (aimF T r (some 0) cs) (aimF T r none cs) (chg cs) x (aimF T r (some x) cs) := by
  have q := clampF hT x0 (cs := cs) (r := r) (lo := some 0) (hi := none) (d := 0) (g := some x) ok (by show x = max 0 (x + 0); omega)
  rw [Int.zero_add] at q
  exact q
/-- from a goal of at least all lines on, it is as from None, if that leads to a column -/
theorem aimF_far {T : Int → Int} {B : Int} (hB : ∀ k, T k ≤ B) {x : Int} (hx : B ≤ x) : ∀ {cs : List Cmd} {r : Int}, (aimF T r (some x) cs = aimF T r none cs) ∨ (aimF T r (some x) cs = some x ∧ aimF T r none cs = none ∧ chg cs = 0)
  | [], r => .inr ⟨rfl, rfl, rfl⟩
  | c :: cs, r => by
    have same : ∀ a : Option Int, aim1 (T r) (some x) c = a → aim1 (T r) none c = a → (aimF T r (some x) (c :: cs) = aimF T r none (c :: cs)) := fun a e1 e2 => by
      show aimF T (r + c.dv) (aim1 (T r) (some x) c) cs = aimF T (r + c.dv) (aim1 (T r) none c) cs
      rw [e1, e2]
    have sx : seen (T r) (some x) = seen (T r) none := by
      have := hB r
      show min x (T r) = T r
      omega
    cases c with
    | right n => exact .inl (same _ rfl (by show some (min (seen (T r) none + n) (T r)) = some (min (seen (T r) (some x) + n) (T r)); rw [sx]))
    | left n => exact .inl (same _ rfl (by show some (max 0 (seen (T r) none - n)) = some (max 0 (seen (T r) (some x) - n)); rw [sx]))
    | home => exact .inl (same _ rfl rfl)
    | stop => exact .inl (same _ rfl rfl)
    | down n =>
      rcases aimF_far hB hx (cs := cs) (r := r + n) with e | ⟨e1, e2, e3⟩
      · exact .inl e
      · exact .inr ⟨e1, e2, by show 0 + chg cs = 0; omega⟩
    | up n =>
      rcases aimF_far hB hx (cs := cs) (r := r + -n) with e | ⟨e1, e2, e3⟩
      · exact .inl e
      · exact .inr ⟨e1, e2, by show 0 + chg cs = 0; omega⟩
end Gc

/-! the goals from which a goal is reached, among 0 to 20 and None: the first and the last -/
namespace Gc
def cands : List (Option Int) := (List.range 21).map (fun (j : Nat) => some (j : Int)) ++ [none]
theorem cands_mem {o : Option Int} (h : o ∈ cands) : o = none ∨ ∃ x : Int, o = some x ∧ 0 ≤ x ∧ x ≤ 20 := by
  rcases List.mem_append.mp h with m | m
  · obtain ⟨j, hj, rfl⟩ := List.mem_map.mp m
    have := List.mem_range.mp hj
    exact .inr ⟨j, rfl, by omega, by omega⟩
  · exact .inl (List.mem_singleton.mp m)
def TwoEnds (f : List (Option Int)) (a b : Option Int) : Prop := f.head? = some a ∧ f.getLast? = some b
theorem cands_eq {p q : Option Int → Bool} (hn : p none = q none) (hs : ∀ x : Int, 0 ≤ x → x ≤ 20 → p (some x) = q (some x)) : cands.filter p = cands.filter q := by
  refine List.filter_congr fun o ho => ?_
  rcases cands_mem ho with rfl | ⟨x, rfl, h0, h1⟩
  · exact hn
  · exact hs x h0 h1
def qI (a b : Int) : Option Int → Bool
  | none => false
  | some x => decide (a ≤ x ∧ x ≤ b)
def qU (a : Int) : Option Int → Bool
  | none => true
  | some x => decide (a ≤ x)
instance (f : List (Option Int)) (a b : Option Int) : Decidable (TwoEnds f a b) := by unfold TwoEnds; exact inferInstance
theorem all_I : ∀ a b : Fin 21, a ≤ b → TwoEnds (cands.filter (qI (a.val : Int) (b.val : Int))) (some (a.val : Int)) (some (b.val : Int)) := by decide +kernel
theorem all_U : ∀ a : Fin 21, TwoEnds (cands.filter (qU (a.val : Int))) (some (a.val : Int)) none := by decide +kernel
theorem ends_I {p : Option Int → Bool} {a b : Int} (h0 : 0 ≤ a) (h1 : a ≤ b) (h2 : b ≤ 20) (hn : p none = false) (hs : ∀ x : Int, 0 ≤ x → x ≤ 20 → (p (some x) = true ↔ a ≤ x ∧ x ≤ b)) : TwoEnds (cands.filter p) (some a) (some b) := by
  have e := all_I ⟨a.toNat, by omega⟩ ⟨b.toNat, by omega⟩ (by show a.toNat ≤ b.toNat; omega)
  have ea : ((a.toNat : Nat) : Int) = a := by omega
  have eb : ((b.toNat : Nat) : Int) = b := by omega
  simp only [ea, eb] at e
  rw [cands_eq (q := qI a b) hn fun x x0 x1 => ?_]
  · exact e
  · show p (some x) = decide (a ≤ x ∧ x ≤ b)
    rw [Bool.eq_iff_iff, hs x x0 x1, decide_eq_true_iff]
theorem ends_U {p : Option Int → Bool} {a : Int} (h0 : 0 ≤ a) (h1 : a ≤ 20) (hn : p none = true) (hs : ∀ x : Int, 0 ≤ x → x ≤ 20 → (p (some x) = true ↔ a ≤ x)) : TwoEnds (cands.filter p) (some a) none := by
  have e := all_U ⟨a.toNat, by omega⟩
  have ea : ((a.toNat : Nat) : Int) = a := by omega
  simp only [ea] at e
  rw [cands_eq (q := qU a) hn fun x x0 x1 => ?_]
  · exact e
  · show p (some x) = decide (a ≤ x)
    rw [Bool.eq_iff_iff, hs x x0 x1, decide_eq_true_iff]
theorem ends_N {p : Option Int → Bool} (hn : p none = true) (hs : ∀ x : Int, 0 ≤ x → x ≤ 20 → p (some x) = false) : TwoEnds (cands.filter p) none none := by
  rw [cands_eq (q := fun o => match o with | none => true | some _ => false) hn fun x x0 x1 => hs x x0 x1]
  exact ⟨by decide +kernel, by decide +kernel⟩
theorem ends_0 {p : Option Int → Bool} (hn : p none = false) (hs : ∀ x : Int, 0 ≤ x → x ≤ 20 → p (some x) = false) : cands.filter p = [] := by
  rw [cands_eq (q := fun _ => false) hn fun x x0 x1 => hs x x0 x1]
  decide +kernel
def lessB : Option Int → Option Int → Bool
  | none, _ => false
  | some _, none => true
  | some x, some y => decide (x < y)
theorem less_y {x y : Int} (h : x < y) : lessB (some x) (some y) = true := decide_eq_true h
theorem less_n {x y : Int} (h : ¬ x < y) : lessB (some x) (some y) = false := decide_eq_false h
def originsM (lo hi : Option Int) (d : Int) (goal : Option Int) : Option (Option Int × Option Int) :=
  if lessB goal lo = true ∨ lessB hi goal = true then none else some (if goal = lo then some 0 else goal.map (· - d), if goal = hi then none else goal.map (· - d))
/-- what the law finds is what is told -/
def Told (f : List (Option Int)) : Option (Option Int × Option Int) → Prop
  | none => f = []
  | some x => TwoEnds f x.1 x.2
theorem origins_no {lo hi : Option Int} {d : Int} {goal : Option Int} (h : lessB goal lo = true ∨ lessB hi goal = true) : originsM lo hi d goal = none := if_pos h
theorem origins_yes {lo hi : Option Int} {d : Int} {goal a b : Option Int} (h1 : lessB goal lo = false) (h2 : lessB hi goal = false) (ha : (if goal = lo then some 0 else goal.map (· - d)) = a) (hb : (if goal = hi then none else goal.map (· - d)) = b) :
    originsM lo hi d goal = some (a, b) := by
  unfold originsM
  rw [if_neg (by rw [h1, h2]; simp), ha, hb]
theorem due_eq {T : Int → Int} (hT : ∀ k, 0 ≤ T k) (hB : ∀ k, T k ≤ 20) {cs : List Cmd} (ok : AllOk cs) (r : Int) {goal : Option Int} (g0 : ge goal 0) (g1 : ∀ v, goal = some v → v ≤ 20) :
    Told (cands.filter fun o => decide (aimF T r o cs = goal)) (originsM (aimF T r (some 0) cs) (aimF T r none cs) (chg cs) goal) := by
  have cl := fun (x : Int) (x0 : 0 ≤ x) => clamp_all hT ok r x0
  have far := aimF_far hB (Int.le_refl 20) (cs := cs) (r := r)
  have c0 := cl 0 (Int.le_refl 0)
  have c20 := cl 20 (by decide)
  generalize hF : (fun o => aimF T r o cs) = F
  have eF : ∀ o, aimF T r o cs = F o := fun o => by rw [← hF]
  simp only [eF] at cl far c0 c20 ⊢
  generalize hlo : F (some 0) = lo at *
  generalize hhi : F none = hi at *
  generalize chg cs = d at *
  -- p, read
  have pn : decide (F none = goal) = decide (hi = goal) := by rw [hhi]
  match goal, g0, g1, pn with
  | none, _, _, pn =>
    match lo, hi, cl, c0, c20, far, pn, hlo, hhi with
    | none, none, cl, _, _, _, pn, _, hhi =>
      have all : ∀ x : Int, 0 ≤ x → F (some x) = none := fun x x0 => by
        have := cl x x0
        revert this
        cases F (some x) with
        | none => exact fun _ => rfl
        | some y => exact fun h => h.elim
      rw [origins_yes (a := some 0) (b := none) rfl rfl (if_pos rfl) (if_pos rfl)]
      exact ends_U (Int.le_refl 0) (by decide) (by rw [pn]; simp) fun x x0 _ => by simp [all x x0, x0]
    | some l, none, cl, _, _, _, pn, _, hhi =>
      have all : ∀ x : Int, 0 ≤ x → F (some x) ≠ none := fun x x0 z => by
        have := cl x x0
        rw [z] at this
        exact this
      rw [origins_yes (a := none) (b := none) rfl rfl (by simp) (if_pos rfl)]
      exact ends_N (by rw [pn]; simp) fun x x0 _ => by simp [all x x0]
    | some l, some h, cl, _, _, _, pn, _, hhi =>
      have all : ∀ x : Int, 0 ≤ x → F (some x) ≠ none := fun x x0 z => by
        have := cl x x0
        rw [z] at this
        exact this
      rw [origins_no (.inr rfl)]
      exact ends_0 (by rw [pn]; simp) fun x x0 _ => by simp [all x x0]
    | none, some h, cl, c0, _, _, _, _, _ => exact (by revert c0; cases F (some 0) <;> exact fun h => h.elim)
  | some v, g0, g1, pn =>
    have v0 := ge_some.mp g0
    have v1 := g1 v rfl
    match lo, hi, cl, c0, c20, far, pn, hlo, hhi with
    | none, none, cl, _, _, _, pn, _, _ =>
      have all : ∀ x : Int, 0 ≤ x → F (some x) = none := fun x x0 => by
        have := cl x x0
        revert this
        cases F (some x) with
        | none => exact fun _ => rfl
        | some y => exact fun h => h.elim
      rw [origins_no (.inl rfl)]
      exact ends_0 (by rw [pn]; simp) fun x x0 _ => by simp [all x x0]
    | none, some h, cl, c0, _, _, _, _, _ => exact (by revert c0; cases F (some 0) <;> exact fun h => h.elim)
    | some l, none, cl, c0, c20, far, pn, hlo, _ =>
      have val : ∀ x : Int, 0 ≤ x → F (some x) = some (max l (x + d)) := fun x x0 => by
        have := cl x x0
        revert this
        cases F (some x) with
        | none => exact fun h => h.elim
        | some y => exact fun h => by rw [show y = max l (x + d) from h]
      obtain ⟨f1, d0⟩ : max l (20 + d) = 20 ∧ d = 0 := by
        rcases far with e | ⟨e1, _, e3⟩
        · rw [val 20 (by decide)] at e
          cases e
        · rw [val 20 (by decide)] at e1
          exact ⟨Option.some.inj e1, e3⟩
      have l0 : max l (0 + d) = l := by
        have := val 0 (Int.le_refl 0)
        rw [hlo] at this
        exact (Option.some.inj this).symm
      by_cases h1 : v < l
      · rw [origins_no (.inl (less_y h1))]
        exact ends_0 (by rw [pn]; simp) fun x x0 _ => by rw [val x x0]; simp; omega
      by_cases h2 : v = l
      · subst h2
        rw [origins_yes (a := some 0) (b := some (v - d)) (less_n h1) rfl (if_pos rfl) (by simp)]
        exact ends_I (by omega) (by omega) (by omega) (by rw [pn]; simp) fun x x0 _ => by rw [val x x0]; simp; omega
      · rw [origins_yes (a := some (v - d)) (b := some (v - d)) (less_n h1) rfl (by simp [h2]) (by simp)]
        exact ends_I (by omega) (by omega) (by omega) (by rw [pn]; simp) fun x x0 _ => by rw [val x x0]; simp; omega
    | some l, some h, cl, c0, c20, far, pn, hlo, hhi =>
      have val : ∀ x : Int, 0 ≤ x → F (some x) = some (max l (min h (x + d))) ∧ l ≤ h := fun x x0 => by
        have := cl x x0
        revert this
        cases F (some x) with
        | none => exact fun h => h.elim
        | some y =>
          intro z
          obtain ⟨z1, z2⟩ : l ≤ h ∧ y = max l (min h (x + d)) := z
          exact ⟨by rw [z2], z1⟩
      have lh := (val 0 (Int.le_refl 0)).2
      have f1 : max l (min h (20 + d)) = h := by
        rcases far with e | ⟨e1, e2, e3⟩
        · rw [(val 20 (by decide)).1] at e
          exact Option.some.inj e
        · cases e2
      have l0 : max l (min h (0 + d)) = l := by
        have := (val 0 (Int.le_refl 0)).1
        rw [hlo] at this
        exact (Option.some.inj this).symm
      by_cases h1 : v < l
      · rw [origins_no (.inl (less_y h1))]
        exact ends_0 (by rw [pn]; simp; omega) fun x x0 _ => by rw [(val x x0).1]; simp; omega
      by_cases h3 : h < v
      · rw [origins_no (.inr (less_y h3))]
        exact ends_0 (by rw [pn]; simp; omega) fun x x0 _ => by rw [(val x x0).1]; simp; omega
      have no1 : lessB (some v) (some l) = false := less_n h1
      have no2 : lessB (some h) (some v) = false := less_n h3
      by_cases h2 : v = l
      · by_cases h4 : v = h
        · rw [origins_yes (a := some 0) (b := none) no1 no2 (if_pos (by rw [h2])) (if_pos (by rw [h4]))]
          exact ends_U (Int.le_refl 0) (by decide) (by rw [pn]; simp [h4]) fun x x0 _ => by rw [(val x x0).1]; simp; omega
        · rw [origins_yes (a := some 0) (b := some (v - d)) no1 no2 (if_pos (by rw [h2])) (by simp [h4])]
          exact ends_I (by omega) (by omega) (by omega) (by rw [pn]; simp; omega) fun x x0 _ => by rw [(val x x0).1]; simp; omega
      · by_cases h4 : v = h
        · rw [origins_yes (a := some (v - d)) (b := none) no1 no2 (by simp [h2]) (if_pos (by rw [h4]))]
          exact ends_U (by omega) (by omega) (by rw [pn]; simp [h4]) fun x x0 _ => by rw [(val x x0).1]; simp; omega
        · rw [origins_yes (a := some (v - d)) (b := some (v - d)) no1 no2 (by simp [h2]) (by simp [h4])]
          exact ends_I (by omega) (by omega) (by omega) (by rw [pn]; simp; omega) fun x x0 _ => by rw [(val x x0).1]; simp; omega
end Gc

/-! an interval of origins is exactly that of the goals that lead to a goal -/
namespace Gc
theorem none_all {T : Int → Int} : ∀ {cs : List Cmd} {r : Int} {a : Int}, aimF T r (some a) cs = none → ∀ b, aimF T r b cs = none
  | [], r, a, h, b => nomatch (show some a = none from h)
  | c :: cs, r, a, h, b => by
    have h' : aimF T (r + c.dv) (aim1 (T r) (some a) c) cs = none := h
    show aimF T (r + c.dv) (aim1 (T r) b c) cs = none
    cases c with
    | stop => exact h'
    | home => exact none_all h' _
    | down n => exact none_all h' _
    | up n => exact none_all h' _
    | right n => exact none_all h' _
    | left n => exact none_all h' _
theorem none_cases {T : Int → Int} : ∀ {cs : List Cmd} {r : Int}, aimF T r none cs = none → (∀ b, aimF T r b cs = none) ∨ ((∀ x, aimF T r (some x) cs = some x) ∧ chg cs = 0)
  | [], r, _ => .inr ⟨fun _ => rfl, rfl⟩
  | c :: cs, r, h => by
    have h' : aimF T (r + c.dv) (aim1 (T r) none c) cs = none := h
    cases c with
    | stop => exact .inl fun b => h'
    | home => exact .inl fun b => none_all h' _
    | right n => exact .inl fun b => none_all h' _
    | left n => exact .inl fun b => none_all h' _
    | down n =>
      rcases none_cases h' with q | ⟨q, q2⟩
      · exact .inl fun b => q b
      · exact .inr ⟨fun x => q x, by show 0 + chg cs = 0; omega⟩
    | up n =>
      rcases none_cases h' with q | ⟨q, q2⟩
      · exact .inl fun b => q b
      · exact .inr ⟨fun x => q x, by show 0 + chg cs = 0; omega⟩
/-- what the law asks of an interval -/
inductive OrgOk (T : Int → Int) (r : Int) (cs : List Cmd) : Option Int → Option Int → Option Int → Option (Option Int × Option Int) → Prop
  | all : OrgOk T r cs none none none (some (some 0, none))
  | never (v : Int) : OrgOk T r cs none none (some v) none
  | self (v : Int) : OrgOk T r cs (some 0) none (some v) (some (some v, some v))
  | selfN : OrgOk T r cs (some 0) none none (some (none, none))
  | noN (l h : Int) : OrgOk T r cs (some l) (some h) none none
  | out (l h v : Int) (z : ¬ (l ≤ v ∧ v ≤ h)) : OrgOk T r cs (some l) (some h) (some v) none
  | inn (l h v low : Int) (high : Option Int) (z : l ≤ v ∧ v ≤ h) (l0 : 0 ≤ low) (h0 : ge high 0) (e1 : aimF T r (some low) cs = some v) (e2 : aimF T r high cs = some v) (e3 : 0 < low → aimF T r (some (low - 1)) cs ≠ some v)
      (e4 : ∀ x, high = some x → aimF T r (some (x + 1)) cs ≠ some v) : OrgOk T r cs (some l) (some h) (some v) (some (some low, high))
theorem org_ok {T : Int → Int} (hT : ∀ k, 0 ≤ T k) {cs : List Cmd} (ok : AllOk cs) (r : Int) {goal : Option Int} (g0 : ge goal 0) : OrgOk T r cs (aimF T r (some 0) cs) (aimF T r none cs) goal (originsM (aimF T r (some 0) cs) (aimF T r none cs) (chg cs) goal) := by
  have cl := fun x (x0 : 0 ≤ x) => clamp_all (x := x) hT ok r x0
  cases hi : aimF T r none cs with
  | none =>
    rcases none_cases hi with q | ⟨q, d0⟩
    · rw [q (some 0)]
      cases goal with
      | none => exact .all
      | some v =>
        rw [origins_no (.inl rfl)]
        exact .never v
    · rw [q 0, d0]
      cases goal with
      | none => exact .selfN
      | some v =>
        have v0 := ge_some.mp g0
        have e1 : lessB (some v) (some 0) = false := less_n (by omega)
        rw [origins_yes (a := some v) (b := some v) e1 rfl ?_ ?_]
        · exact .self v
        · by_cases c : v = 0
          · subst c; rfl
          · rw [if_neg (fun z => c (Option.some.inj z))]
            show some (v - 0) = some v
            rw [Int.sub_zero]
        · rw [if_neg (fun z => by cases z)]
          show some (v - 0) = some v
          rw [Int.sub_zero]
  | some h =>
    have c0 := cl 0 (Int.le_refl 0)
    rw [hi] at c0
    cases lo : aimF T r (some 0) cs with
    | none =>
      rw [lo] at c0
      exact c0.elim
    | some l =>
      cases goal with
      | none =>
        rw [origins_no (.inr rfl)]
        exact .noN l h
      | some v =>
        have v0 := ge_some.mp g0
        by_cases z : l ≤ v ∧ v ≤ h
        · have e1 : lessB (some v) (some l) = false := less_n (by omega)
          have e2 : lessB (some h) (some v) = false := less_n (by omega)
          have val : ∀ x, 0 ≤ x → aimF T r (some x) cs = some (max l (min h (x + chg cs))) := fun x x0 => by
            have q := cl x x0
            rw [lo, hi] at q
            cases e : aimF T r (some x) cs with
            | none =>
              rw [e] at q
              exact q.elim
            | some y =>
              rw [e] at q
              rw [q.2]
          rw [lo] at c0
          have c1 : l = max l (min h (0 + chg cs)) := c0.2
          by_cases a1 : v = l
          · by_cases a2 : v = h
            · subst a1; subst a2
              rw [origins_yes (a := some 0) (b := none) e1 e2 (if_pos rfl) (if_pos rfl)]
              exact .inn _ _ _ 0 none z (by omega) (ge_none 0) lo hi (fun q => absurd q (by decide)) (fun x q => nomatch q)
            · subst a1
              rw [origins_yes (a := some 0) (b := some (v - chg cs)) e1 e2 (if_pos rfl) (if_neg (fun q => a2 (Option.some.inj q)))]
              refine .inn _ _ _ 0 _ z (by omega) (ge_some.mpr (by omega)) lo ?_ (fun q => absurd q (by decide)) (fun x q => ?_)
              · rw [val _ (by omega)]
                exact congrArg some (by omega)
              · obtain rfl := Option.some.inj q
                rw [val _ (by omega)]
                intro q2
                have := Option.some.inj q2
                omega
          · by_cases a2 : v = h
            · subst a2
              rw [origins_yes (a := some (v - chg cs)) (b := none) e1 e2 (if_neg (fun q => a1 (Option.some.inj q))) (if_pos rfl)]
              refine .inn _ _ _ (v - chg cs) none z (by omega) (ge_none 0) ?_ hi (fun q => ?_) (fun x q => nomatch q)
              · rw [val _ (by omega)]
                exact congrArg some (by omega)
              · rw [val _ (by omega)]
                intro q2
                have := Option.some.inj q2
                omega
            · rw [origins_yes (a := some (v - chg cs)) (b := some (v - chg cs)) e1 e2 (if_neg (fun q => a1 (Option.some.inj q))) (if_neg (fun q => a2 (Option.some.inj q)))]
              have w : aimF T r (some (v - chg cs)) cs = some v := by
                rw [val _ (by omega)]
                exact congrArg some (by omega)
              refine .inn _ _ _ (v - chg cs) _ z (by omega) (ge_some.mpr (by omega)) w w (fun q => ?_) (fun x q => ?_)
              · rw [val _ (by omega)]
                intro q2
                have := Option.some.inj q2
                omega
              · obtain rfl := Option.some.inj q
                rw [val _ (by omega)]
                intro q2
                have := Option.some.inj q2
                omega
        · have e : lessB (some v) (some l) = true ∨ lessB (some h) (some v) = true := by
            by_cases q : v < l
            · exact .inl (less_y q)
            · exact .inr (less_y (by omega))
          rw [origins_no e]
          exact .out l h v z
end Gc

/-! x *= y of great numbers; xs[i] += y -/
namespace Gc
open PySem PySem.Spec PyProof.Rows L2
section
variable {X : Cx}
def ipC (C : Int → Int → Prop) (f : Int → Int → Int) : TIp := fun x y H Q => ∃ i j, x = .int i ∧ y = .int j ∧ C i j ∧ Q (.int (f i j)) H
theorem ip_mulW : PIp X .Mult (ipC CMulW fun i j => i * j) := by
  intro pins s σ H x y v u Q I rx ry h
  obtain ⟨i, j, rfl, rfl, hc, q⟩ := h
  obtain ⟨t, rfl⟩ := rx
  obtain ⟨t', rfl⟩ := ry
  exact PySem.P.imul_int (⟨.int (i * j), H, I.tok _, ⟨_, rfl⟩, q⟩) hc.ok
/-- an item of a list by its place from the front, within an augmented assignment -/
def rGetL : V → V → Hp → VK → Prop := fun o i H Q => ∃ (p : Addr) (xs : List V) (j : Nat) (v : V), o = .ref p ∧ i = .int j ∧ H p = some (.lst xs) ∧ xs.length ≤ 1000000 ∧ xs[j]? = some v ∧ Q v H
theorem get_list : PGet X rGetL := by
  intro pins s σ H o i ov iv Q I ro ri h
  obtain ⟨p, xs, j, z, rfl, rfl, hp, hl, hj, q⟩ := h
  cases ro
  obtain ⟨t, rfl⟩ := ri
  obtain ⟨its, r, pl, hz⟩ := I.list (.inl (.inl hp))
  obtain ⟨w, ew, rw'⟩ := r.get hj
  have lj := (List.getElem?_eq_some_iff.mp hj).1
  have l63 := line63
  refine wpAny_getItem_list (x := w) pl.isList (by omega) (by omega) (by simpa using ew) ⟨z, H, I, rw', q⟩
end
end Gc

/-! commands as texts: what is written, and that it can be read back -/
namespace Gc
open PySem PyProof.Rows L2 TL
def mkS (l : List Nat) : Str := ⟨l.toArray⟩
theorem tl_mkS (l : List Nat) : tl (mkS l) = l := rfl
theorem mkS_app (l m : List Nat) : mkS l ++ mkS m = mkS (l ++ m) := ext_tl (by rw [tl_append]; rfl)
theorem mkS_len (l : List Nat) : (mkS l).length = l.length := by rw [len_tl]; rfl
theorem mkS_inj {l m : List Nat} (h : mkS l = mkS m) : l = m := by
  have e := congrArg tl h
  exact e
/-- the number of a command -/
def numC : Cmd → Int
  | .down n => n
  | .up n => n
  | .right n => n
  | .left n => n
  | _ => 0
def letC : Cmd → Nat
  | .down _ => 68
  | .up _ => 85
  | .right _ => 82
  | .left _ => 76
  | .home => 72
  | .stop => 69
/-- the digits that stand ahead of the letter -/
def digC : Cmd → List Nat
  | .down n => numL n.toNat
  | .up n => numL n.toNat
  | .right n => numL n.toNat
  | .left n => numL n.toNat
  | _ => []
def cw (c : Cmd) : List Nat := digC c ++ [letC c]
def noneL : List Nat := [110, 111, 110, 101]
def shownL (cs : List Cmd) : List Nat := if cs = [] then noneL else joinL [32] (cs.map cw)
def shownS (cs : List Cmd) : Str := mkS (shownL cs)
theorem digC_digits (c : Cmd) : NumText.AllDigits (digC c) := by
  cases c with
  | down n => exact numL_digits _
  | up n => exact numL_digits _
  | right n => exact numL_digits _
  | left n => exact numL_digits _
  | home => exact fun _ h => nomatch h
  | stop => exact fun _ h => nomatch h
theorem letC_ge (c : Cmd) : 65 ≤ letC c ∧ letC c ≤ 90 := by cases c <;> simp [letC]
theorem cw_free (c : Cmd) : 32 ∉ cw c := fun h => by
  rcases List.mem_append.mp h with h | h
  · have := digC_digits c 32 h
    omega
  · have e := List.mem_singleton.mp h
    have := letC_ge c
    omega
theorem cw_ne (c : Cmd) : cw c ≠ [] := by simp [cw]
theorem cw_inj {c d : Cmd} (hc : c.ok) (hd : d.ok) (h : cw c = cw d) : c = d := by
  have e1 := congrArg List.getLast? h
  have e2 := congrArg List.dropLast h
  unfold cw at e1 e2
  rw [List.getLast?_concat, List.getLast?_concat] at e1
  rw [List.dropLast_concat, List.dropLast_concat] at e2
  have e3 := Option.some.inj e1
  have key : ∀ {n m : Int}, 1 ≤ n → 1 ≤ m → numL n.toNat = numL m.toNat → n = m := fun h1 h2 z => by
    have := numL_inj z
    omega
  cases c <;> cases d <;> simp only [letC] at e3 <;> first
    | rfl
    | exact absurd e3 (by decide)
    | rw [key hc hd e2]
theorem cws_inj : ∀ {cs ds : List Cmd}, AllOk cs → AllOk ds → cs.map cw = ds.map cw → cs = ds
  | [], [], _, _, _ => rfl
  | [], _ :: _, _, _, h => by cases h
  | _ :: _, [], _, _, h => by cases h
  | c :: cs, d :: ds, h1, h2, h => by
    rw [List.map_cons, List.map_cons] at h
    injection h with e1 e2
    rw [cw_inj (h1 c List.mem_cons_self) (h2 d List.mem_cons_self) e1, cws_inj (fun x hx => h1 x (List.mem_cons_of_mem _ hx)) (fun x hx => h2 x (List.mem_cons_of_mem _ hx)) e2]
theorem join_words {cs : List Cmd} (h : cs ≠ []) : spl [32] 0 [] (joinL [32] (cs.map cw)) = cs.map cw :=
  spl_join (fun e => h (List.map_eq_nil_iff.mp e)) fun p hp => by
    obtain ⟨c, _, rfl⟩ := List.mem_map.mp hp
    exact cw_free c
theorem none_words : spl [32] 0 [] noneL = [noneL] := by decide +kernel
theorem none_no {cs : List Cmd} (h : cs ≠ []) : joinL [32] (cs.map cw) ≠ noneL := fun e => by
  have z := join_words h
  rw [e, none_words] at z
  cases cs with
  | nil => exact h rfl
  | cons c cs =>
    rw [List.map_cons] at z
    injection z with z1 z2
    have z3 := congrArg List.getLast? z1
    unfold cw at z3
    rw [List.getLast?_concat] at z3
    have z4 : (101 : Nat) = letC c := Option.some.inj z3
    have := letC_ge c
    omega
theorem shownL_inj {cs ds : List Cmd} (h1 : AllOk cs) (h2 : AllOk ds) (h : shownL cs = shownL ds) : cs = ds := by
  unfold shownL at h
  by_cases c : cs = []
  · by_cases d : ds = []
    · rw [c, d]
    · rw [if_pos c, if_neg d] at h
      exact absurd h.symm (none_no d)
  · by_cases d : ds = []
    · rw [if_neg c, if_pos d] at h
      exact absurd h (none_no c)
    · rw [if_neg c, if_neg d] at h
      have z1 := join_words c
      rw [h, join_words d] at z1
      exact (cws_inj h2 h1 z1).symm
theorem shownS_inj {cs ds : List Cmd} (h1 : AllOk cs) (h2 : AllOk ds) (h : shownS cs = shownS ds) : cs = ds := shownL_inj h1 h2 (mkS_inj h)
/-! lengths -/
theorem digC_len {c : Cmd} (h : numC c < 10 ^ 40) : (digC c).length ≤ 40 := by
  have key : ∀ n : Int, n < 10 ^ 40 → (numL n.toNat).length ≤ 40 := fun n hn => numL_len (k := 40) (by decide) (by omega)
  cases c with
  | down n => exact key n h
  | up n => exact key n h
  | right n => exact key n h
  | left n => exact key n h
  | home => exact Nat.zero_le _
  | stop => exact Nat.zero_le _
theorem cw_len {c : Cmd} (h : numC c < 10 ^ 40) : (cw c).length ≤ 41 := by
  unfold cw
  rw [List.length_append, List.length_singleton]
  have := digC_len h
  omega
theorem joinL_len {k : Nat} : ∀ {ps : List (List Nat)}, (∀ p ∈ ps, p.length ≤ k) → (joinL [32] ps).length ≤ (k + 1) * ps.length
  | [], _ => Nat.zero_le _
  | [p], h => by
    have := h p (List.mem_singleton.mpr rfl)
    show p.length ≤ (k + 1) * 1
    omega
  | p :: q :: r, h => by
    have h1 := h p List.mem_cons_self
    have h2 := joinL_len (ps := q :: r) fun x hx => h x (List.mem_cons_of_mem _ hx)
    show (p ++ ([32] ++ joinL [32] (q :: r))).length ≤ _
    rw [List.length_append, List.length_append, List.length_singleton, List.length_cons (a := p), Nat.mul_succ]
    omega
theorem shownL_len {cs : List Cmd} (h : ∀ c ∈ cs, numC c < 10 ^ 40) : (shownL cs).length ≤ 42 * cs.length + 4 := by
  unfold shownL
  by_cases c : cs = []
  · rw [if_pos c]
    exact Nat.le_add_left _ _
  · rw [if_neg c]
    have := joinL_len (k := 41) (ps := cs.map cw) fun p hp => by
      obtain ⟨d, hd, rfl⟩ := List.mem_map.mp hp
      exact cw_len (h d hd)
    rw [List.length_map] at this
    omega
/-- one more word behind -/
theorem joinL_snoc : ∀ {ps : List (List Nat)} {p : List Nat}, ps ≠ [] → joinL [32] (ps ++ [p]) = joinL [32] ps ++ ([32] ++ p)
  | [], _, h => absurd rfl h
  | [q], p, _ => rfl
  | q :: r :: s, p, _ => by
    show q ++ ([32] ++ joinL [32] ((r :: s) ++ [p])) = (q ++ ([32] ++ joinL [32] (r :: s))) ++ ([32] ++ p)
    rw [joinL_snoc (by simp)]
    simp [List.append_assoc]
theorem joinL_nil_iff : ∀ {ps : List (List Nat)}, (∀ p ∈ ps, p ≠ []) → (joinL [32] ps = [] ↔ ps = [])
  | [], _ => ⟨fun _ => rfl, fun _ => rfl⟩
  | [p], h => ⟨fun e => absurd e (h p (List.mem_singleton.mpr rfl)), fun e => nomatch e⟩
  | p :: q :: r, h => ⟨fun e => by
      have e2 : p ++ ([32] ++ joinL [32] (q :: r)) = [] := e
      simp at e2, fun e => nomatch e⟩
/-! equal lists of commands, as data -/
theorem eqv_cmd (c d : Cmd) : PyData.eqv (cmdD c) (cmdD d) = decide (c = d) := by
  cases c <;> cases d <;> simp [cmdD, PyData.eqv, PyData.eqvAll]
  all_goals first
    | decide +kernel
    | rw [Bool.eq_iff_iff, beq_iff_eq, decide_eq_true_eq]
    | (intro h; exact absurd h (by decide +kernel))
theorem eqvAll_cmds : ∀ cs ds : List Cmd, PyData.eqvAll (cs.map cmdD) (ds.map cmdD) = decide (cs = ds)
  | [], [] => by simp [PyData.eqvAll]
  | [], _ :: _ => by simp [PyData.eqvAll]
  | _ :: _, [] => by simp [PyData.eqvAll]
  | c :: cs, d :: ds => by
    rw [List.map_cons, List.map_cons, PyData.eqvAll, eqv_cmd, eqvAll_cmds cs ds]
    simp
theorem eqv_cmds (cs ds : List Cmd) : PyData.eqv (.list (cs.map cmdD)) (.list (ds.map cmdD)) = decide (cs = ds) := by
  rw [PyData.eqv]
  exact eqvAll_cmds cs ds
end Gc
namespace Gc
open PySem PyProof.Rows L2 TL
theorem depth_cmds : ∀ cs : List Cmd, PyData.depthAll (cs.map cmdD) ≤ 1
  | [] => by simp [PyData.depthAll]
  | c :: cs => by
    have := depth_cmds cs
    cases c <;> simp [PyData.depthAll, PyData.depth, cmdD, this]
theorem lay_cmds : ∀ cs : List Cmd, PyData.canLayAll0 (cs.map cmdD) = true
  | [] => by simp [PyData.canLayAll0]
  | c :: cs => by
    have h1 : PyData.strOk "down" = true := by decide +kernel
    have h2 : PyData.strOk "up" = true := by decide +kernel
    have h3 : PyData.strOk "right" = true := by decide +kernel
    have h4 : PyData.strOk "left" = true := by decide +kernel
    have h5 : PyData.strOk "home" = true := by decide +kernel
    have h6 : PyData.strOk "end" = true := by decide +kernel
    cases c <;> simp [PyData.canLayAll0, PyData.canLay0, cmdD, lay_cmds cs, h1, h2, h3, h4, h5, h6]
theorem shaped_cmds (cs : List Cmd) : SeqAt.shaped (.list (cs.map cmdD)) = true := by
  have h2 := depth_cmds cs
  have hd : (PyData.list (cs.map cmdD)).depth ≤ 64 := by
    simp only [PyData.depth]
    omega
  unfold SeqAt.shaped
  rw [decide_eq_true hd]
  simp [PyData.canLay0, lay_cmds cs]
/-- one more word of what is written -/
theorem shown_step (cs : List Cmd) (i : Nat) (c : Cmd) (h : cs[i]? = some c) :
    joinL [32] ((cs.take (i + 1)).map cw) = joinL [32] ((cs.take i).map cw) ++ (if i = 0 then [] else [32]) ++ digC c ++ [letC c] := by
  have e : cs.take (i + 1) = cs.take i ++ [c] := by
    rw [List.take_add_one, h]
    rfl
  rw [e, List.map_append, List.map_singleton]
  by_cases z : i = 0
  · subst z
    simp [joinL, cw]
  · have ne : (cs.take i).map cw ≠ [] := by
      intro q
      have q2 := congrArg List.length q
      have li := (List.getElem?_eq_some_iff.mp h).1
      rw [List.length_map, List.length_take, List.length_nil] at q2
      omega
    rw [joinL_snoc ne, if_neg z]
    simp [cw, List.append_assoc]
theorem shown_nil (cs : List Cmd) (i : Nat) (c : Cmd) (h : cs[i]? = some c) : joinL [32] ((cs.take i).map cw) = [] ↔ i = 0 := by
  rw [joinL_nil_iff (fun p hp => by
    obtain ⟨c, _, rfl⟩ := List.mem_map.mp hp
    exact cw_ne c)]
  have li := (List.getElem?_eq_some_iff.mp h).1
  constructor
  · intro q
    have q2 := congrArg List.length q
    rw [List.length_map, List.length_take, List.length_nil] at q2
    omega
  · intro q
    subst q
    rfl
end Gc

/-! words read back: slices, digits, dicts of the module -/
namespace Gc
open PySem PyProof.Rows L2 TL
theorem mk_size (l : List Nat) : (mkS l).length = l.length := mkS_len l
theorem cut_front (l : List Nat) (x : Nat) : cutS (mkS (l ++ [x])) none (some (-1)) = mkS l := by
  refine ext_tl ?_
  show ((l ++ [x]).drop (HT.sIx (mkS (l ++ [x])).length 0 none)).take (HT.sIx (mkS (l ++ [x])).length (mkS (l ++ [x])).length (some (-1)) - HT.sIx (mkS (l ++ [x])).length 0 none) = l
  rw [mkS_len, List.length_append]
  have h1 : HT.sIx (l.length + [x].length) 0 none = 0 := rfl
  have h2 : HT.sIx (l.length + [x].length) (l.length + [x].length) (some (-1)) = l.length := by
    unfold HT.sIx
    simp
    try omega
  rw [h1, h2]
  simp
theorem cut_back (l : List Nat) (x : Nat) : cutS (mkS (l ++ [x])) (some (-1)) none = mkS [x] := by
  refine ext_tl ?_
  show ((l ++ [x]).drop (HT.sIx (mkS (l ++ [x])).length 0 (some (-1)))).take (HT.sIx (mkS (l ++ [x])).length (mkS (l ++ [x])).length none - HT.sIx (mkS (l ++ [x])).length 0 (some (-1))) = [x]
  rw [mkS_len, List.length_append]
  have h1 : HT.sIx (l.length + [x].length) (l.length + [x].length) none = l.length + 1 := rfl
  have h2 : HT.sIx (l.length + [x].length) 0 (some (-1)) = l.length := by
    unfold HT.sIx
    simp
    try omega
  rw [h1, h2]
  simp
theorem int_mk (n : Nat) (h : (numL n).length ≤ 640) : intText? (mkS (numL n)) = some (n : Int) := by
  have e : mkS (numL n) = Str.ofString (toString ((n : Nat) : Int)) := ext_tl (tl_num n).symm
  rw [e]
  exact int_num (by omega)
theorem numL_head : ∀ {n : Nat}, 1 ≤ n → ∃ a l, numL n = a :: l ∧ 49 ≤ a ∧ a ≤ 57 := fun {n} hn => by
  induction n using Nat.strongRecOn with
  | ind n ih =>
    rcases Nat.lt_or_ge n 10 with h | h
    · exact ⟨48 + n, [], numL_lt h, by omega, by omega⟩
    · obtain ⟨a, l, e, h1, h2⟩ := ih (n / 10) (by omega) (by omega)
      refine ⟨a, l ++ [48 + n % 10], ?_, h1, h2⟩
      rw [numL_step h, e]
      rfl
theorem str_beq (a b : Str) : (a == b) = decide (a = b) := by
  by_cases h : a = b
  · subst h
    simp
  · rw [decide_eq_false h]
    exact beq_eq_false_iff_ne.mpr h
/-- what a written dict of the module says of a key -/
theorem ns_dict {K : PySem.W.Frag} {a : Addr} {c : Value} {od : Option Addr} {es : Array DictEntry} {n : Nat} {sl : Array (Option Value)} (l : K.lookup a = some ⟨c, od, .dict es n, sl⟩) (r : es.toList.any (·.refKey) = false) (x : Str) :
    PySem.W.nsIn K a x = some ((es.toList.find? (·.key.isStr x)).map (·.val)) := by
  unfold PySem.W.nsIn
  rw [l]
  dsimp only
  cases h : es.toList.find? (·.key.isStr x) with
  | some e => rfl
  | none =>
    dsimp only
    rw [r]
    rfl
theorem word_ne {l : List Nat} {a b : Nat} (h : a ≠ b) : mkS (l ++ [a]) ≠ mkS [b] := fun z => by
  have q := congrArg List.getLast? (mkS_inj z)
  rw [List.getLast?_concat] at q
  exact h (Option.some.inj q)
theorem one_no {a b : Nat} (h : a ≠ b) : V.bl (decide (V.str ⟨#[a]⟩ = V.str (mkS [b]))) = V.bl false := by
  rw [decide_eq_false fun z => h ?_]
  have q := mkS_inj (l := [a]) (m := [b]) (V.str.inj z)
  exact (List.cons.inj q).1
theorem mk_tl (x : Str) : mkS (tl x) = x := ext_tl rfl
theorem split_shown {cs : List Cmd} (h : cs ≠ []) (hk : ¬ Builtin.Str.strKind (shownS cs) < Builtin.Str.strKind " ") : Txt.split (shownS cs) " " = cs.map fun c => mkS (cw c) := by
  have e := split_spl (shownS cs) " " (by decide +kernel) hk
  have t1 : tl (" " : Str) = [32] := by decide +kernel
  have t2 : tl (shownS cs) = joinL [32] (cs.map cw) := by
    unfold shownS shownL
    rw [if_neg h]
    rfl
  rw [t1, t2, join_words h] at e
  have q := congrArg (List.map mkS) e
  rw [List.map_map, List.map_map] at q
  rw [← List.map_id (Txt.split (shownS cs) " ")]
  have i : (mkS ∘ tl) = id := funext mk_tl
  rw [i] at q
  exact q
/-- an entry of a written dict -/
def entD (P : Params) (kv : Str × Tok × Str × Tok) : DictEntry := ⟨PyData.keyHash P kv.1, .str kv.1 kv.2.1, .str kv.2.2.1 kv.2.2.2⟩
theorem find_ent (P : Params) (x : Str) : ∀ l : List (Str × Tok × Str × Tok), ((l.map (entD P)).find? (·.key.isStr x)).map (·.val) = (l.find? fun kv => decide (kv.1 = x)).map fun kv => .str kv.2.2.1 kv.2.2.2
  | [] => rfl
  | kv :: l => by
    rw [List.map_cons, List.find?_cons, List.find?_cons]
    have e : (entD P kv).key.isStr x = decide (kv.1 = x) := str_beq kv.1 x
    rw [e]
    by_cases h : kv.1 = x
    · rw [decide_eq_true h]
      rfl
    · rw [decide_eq_false h]
      exact find_ent P x l
theorem ent_lit (P : Params) : ∀ l : List (Str × Tok × Str × Tok), PySem.W.KeysLit P (l.map (entD P))
  | [] => trivial
  | kv :: l => ⟨⟨kv.1, kv.2.1, rfl, rfl⟩, ent_lit P l⟩
theorem ent_ref (P : Params) : ∀ l : List (Str × Tok × Str × Tok), (l.map (entD P)).any (·.refKey) = false
  | [] => rfl
  | kv :: l => by
    rw [List.map_cons, List.any_cons, ent_ref P l]
    rfl
theorem ns_ent {K : PySem.W.Frag} {P : Params} {a : Addr} {c : Value} {od : Option Addr} {l : List (Str × Tok × Str × Tok)} {n : Nat} {sl : Array (Option Value)} (h : K.lookup a = some ⟨c, od, .dict (l.map (entD P)).toArray n, sl⟩) (x : Str) :
    PySem.W.nsIn K a x = some ((l.find? fun kv => decide (kv.1 = x)).map fun kv => .str kv.2.2.1 kv.2.2.2) := by
  rw [ns_dict h (ent_ref P l) x]
  exact congrArg some (find_ent P x l)
theorem kd_ent {K : PySem.W.Frag} {w : World} {a : Addr} {l : List (Str × Tok × Str × Tok)} {n : Nat} (h : K.lookup a = some ⟨.type "dict", none, .dict (l.map (entD w.params)).toArray n, #[]⟩) (lo : (a == sysModules) = false) : KDict K w a (l.map (entD w.params)).toArray n :=
  ⟨h, ent_lit w.params l, lo⟩
end Gc

/-! a long list shown in parts of twenty commands -/
namespace Gc
open PySem PyProof.Rows L2 TL
theorem joinL_app : ∀ {qs ps : List (List Nat)}, ps ≠ [] → qs ≠ [] → joinL [32] (ps ++ qs) = joinL [32] ps ++ ([32] ++ joinL [32] qs)
  | qs, [], h, _ => absurd rfl h
  | [], _, _, h => absurd rfl h
  | q :: qs, [p], _, _ => rfl
  | q :: qs, p :: p2 :: ps, _, h => by
    show p ++ ([32] ++ joinL [32] ((p2 :: ps) ++ (q :: qs))) = (p ++ ([32] ++ joinL [32] (p2 :: ps))) ++ ([32] ++ joinL [32] (q :: qs))
    rw [joinL_app (by simp) h]
    simp [List.append_assoc]
def chunk (cs : List Cmd) (j : Nat) : List Cmd := (cs.drop (20 * j)).take 20
theorem chunk_ne {cs : List Cmd} {j : Nat} (h : 20 * j < cs.length) : chunk cs j ≠ [] := fun z => by
  have q := congrArg List.length z
  unfold chunk at q
  rw [List.length_take, List.length_drop, List.length_nil] at q
  omega
theorem join_chunks (cs : List Cmd) : ∀ n, 20 * n < cs.length → joinL [32] ((List.range (n + 1)).map fun j => shownL (chunk cs j)) = joinL [32] ((cs.take (20 * (n + 1))).map cw)
  | 0, h => by
    show shownL (chunk cs 0) = _
    unfold shownL
    rw [if_neg (chunk_ne h)]
    rfl
  | n + 1, h => by
    have ne : ((List.range (n + 1)).map fun j => shownL (chunk cs j)) ≠ [] := fun z => by
      have := congrArg List.length z
      simp at this
    rw [List.range_succ, List.map_append]
    show joinL [32] (_ ++ [shownL (chunk cs (n + 1))]) = _
    rw [joinL_snoc ne, join_chunks cs n (by omega)]
    have e : cs.take (20 * (n + 1 + 1)) = cs.take (20 * (n + 1)) ++ chunk cs (n + 1) := by
      show cs.take (20 * (n + 1) + 20) = _
      rw [List.take_add]
      rfl
    have ne1 : (cs.take (20 * (n + 1))).map cw ≠ [] := fun z => by
      have := congrArg List.length z
      rw [List.length_map, List.length_take, List.length_nil] at this
      omega
    have ne2 : (chunk cs (n + 1)).map cw ≠ [] := fun z => chunk_ne (by omega) (List.map_eq_nil_iff.mp z)
    rw [e, List.map_append, joinL_app ne1 ne2]
    unfold shownL
    rw [if_neg (chunk_ne (by omega))]
/-- how many parts -/
def parts20 (n : Nat) : Nat := (n + 19) / 20
theorem parts_rg {n : Nat} (h : n ≤ 10000) : RgC 0 (n : Int) 20 (parts20 n) := by
  have hz : Builtin.Range.rangeSize 0 (n : Int) 20 = (parts20 n : Nat) := by
    unfold Builtin.Range.rangeSize parts20
    rw [if_pos (by decide)]
    split <;> omega
  refine ⟨by decide, by decide, ?_, hz⟩
  unfold Builtin.Range.small
  rw [hz]
  have : parts20 n ≤ 10000 := by unfold parts20; omega
  generalize parts20 n = m at this
  have fl : ∀ i : Int, 0 ≤ i → i ≤ 100000 → Builtin.Range.rangeFitsLong i = true := fun i h1 h2 => by
    unfold Builtin.Range.rangeFitsLong
    rw [decide_eq_true (show (-(2 ^ 63) : Int) ≤ i by omega), decide_eq_true (show i < (2 ^ 63 : Int) by omega)]
    rfl
  rw [if_pos (by decide), fl 0 (by decide) (by decide), fl n (by omega) (by omega), fl 20 (by decide) (by decide), fl m (by omega) (by omega), fl _ (by omega) (by omega)]
  simp
theorem join_parts {cs : List Cmd} (h : cs ≠ []) : Txt.join (Str.ofString " ") ((List.range (parts20 cs.length)).map fun j => shownS (chunk cs j)) = shownS cs := by
  have l0 : 0 < cs.length := List.length_pos_iff.mpr h
  obtain ⟨n, hn⟩ : ∃ n, parts20 cs.length = n + 1 := ⟨parts20 cs.length - 1, by unfold parts20; omega⟩
  have e := join_chunks cs n (by unfold parts20 at hn; omega)
  refine ext_tl ?_
  rw [join_eq, tl_join, List.map_map, hn]
  show joinL [32] ((List.range (n + 1)).map fun j => shownL (chunk cs j)) = shownL cs
  rw [e, List.take_of_length_le (by unfold parts20 at hn; omega)]
  unfold shownL
  rw [if_neg h]
end Gc

namespace Gc
open PySem L2
def top (i : Nat) : Stmt := PySem.Challenge.pw_goalcolumn_k26_whole_origins_on_long_tex.main.body.getD i (.Pass ⟨0, 0, 0, 0⟩)
abbrev s_is_count : Stmt := top 14
abbrev s_is_command : Stmt := top 13
abbrev s_check_commands : Stmt := top 12
abbrev s_row_change : Stmt := top 18
structure TxtB (K : PySem.W.Frag) (mg : Str → Option Value) (wo wn : Addr) : Prop where
  g_WITHOUT_NUMBER : mg "WITHOUT_NUMBER" = some (.ref wo)
  g_WITH_NUMBER : mg "WITH_NUMBER" = some (.ref wn)
  tWO : ∀ H, SqT K H wo [.str "home", .str "end"]
  tWN : ∀ H, SqT K H wn [.str "down", .str "up", .str "right", .str "left"]
  isinstance : mg "isinstance" = none
  int : mg "int" = none
  bool : mg "bool" = none
  len : mg "len" = none
  enumerate : mg "enumerate" = none
  reversed : mg "reversed" = none
  sorted : mg "sorted" = none
  max : mg "max" = none
  min : mg "min" = none
def spCount : Sp := fun vs H Q _ => ∃ n : Int, vs = [.int n] ∧ 1 ≤ n ∧ Q (.bl true) H
def spIsCmd (K : PySem.W.Frag) : Sp := fun vs H Q _ => ∃ (v : V) (c : Cmd), vs = [v] ∧ CmdAt K H v c ∧ c.ok ∧ ∀ H', Same H H' → Q (.bl true) H'
def spCheck (K : PySem.W.Frag) : Sp := fun vs H Q _ => ∃ (l : Addr) (xs : List V) (cs : List Cmd), vs = [.ref l] ∧ SqL K H l xs ∧ CmdsOf K H xs cs ∧ AllOk cs ∧ cs.length ≤ 10000 ∧ ∀ H', Same H H' → Q .non H'
def spRow (K : PySem.W.Frag) : Sp := fun vs H Q _ => ∃ (v : V) (c : Cmd), vs = [v] ∧ CmdAt K H v c ∧ Q (.int c.dv) H
theorem q_in {H : Hp} {Q : VK} {x : V} {xs : List V} (h : inV x xs = true) (k : Q (.bl true) H) : Q (.bl (if (false : Bool) = true then !inV x xs else inV x xs)) H := by
  rw [if_neg Bool.false_ne_true, h]
  exact k
theorem take_snoc {α : Type} : ∀ {l : List α} {i : Nat} {x : α}, l[i]? = some x → l.take (i + 1) = l.take i ++ [x]
  | [], i, x, h => by simp at h
  | a :: l, 0, x, h => by
    obtain rfl := Option.some.inj h
    rfl
  | a :: l, i + 1, x, h => by
    have ih := take_snoc (l := l) (i := i) (x := x) h
    show a :: l.take (i + 1) = a :: l.take i ++ [x]
    rw [ih]
    rfl
def optV : Option Int → V
  | none => .non
  | some n => .int n
theorem m_no {y z : Str} {tb : TS} {r : TM} {D : Ends} {σ : L2.St} {H : Hp} (h : decide (y = z) = false) (q : r (.str y) D σ H) : mStr z tb r (.str y) D σ H := ⟨y, rfl, by rw [h]; exact iteF q⟩
theorem m_yes {y z : Str} {tb : TS} {r : TM} {D : Ends} {σ : L2.St} {H : Hp} (h : decide (y = z) = true) (q : tb D σ H) : mStr z tb r (.str y) D σ H := ⟨y, rfl, by rw [h]; exact iteT q⟩
section
variable {P : Program} {w : World} {K : PySem.W.Frag} {mg : Str → Option Value} {base : Heap} {wo wn : Addr}
theorem sc_is_count : FnScope ["number"] ["number"] (defScope s_is_count) := ⟨rfl, rfl, rfl, by decide +kernel, rfl, by decide +kernel, by decide +kernel⟩
theorem ok_is_count {f : Addr} {fd : FuncData} (F : Fun K "is_count" "is_count" s_is_count f fd) (T : TxtB K mg wo wn) : FnOk P w K mg base CX0 1 f fd ["number"] spCount := by
  refine F.ok sc_is_count (fun vs H Q E h => ?_) (fun cdv A outer s H vs Q E hr h => ?_)
  · obtain ⟨n, rfl, _⟩ := h
    rfl
  · obtain ⟨n, rfl, hn, k⟩ := h
    refine ⟨_, (pss_one (ps_ret (pe_and (pe_callB call_isi (by rfl) T.isinstance (by decide +kernel) (pa_cons (pv 0) (pa_cons (pe_bltn (v := .ty "int") (u := .type "int") (by rfl) T.int (by decide +kernel) rfl) pa_nil))) (pe_and (pe_not (pe_callB call_isi (by rfl) T.isinstance (by decide +kernel) (pa_cons (pv 0) (pa_cons (pe_bltn (v := .ty "bool") (u := .type "bool") (by rfl) T.bool (by decide +kernel) rfl) pa_nil)))) (pe_one (pe_cmpR op_ge (pv 0) pe_int (nomark _))))))), ?_⟩
    refine ⟨_, rfl, _, _, _, _, _, rfl, .ty "int", .base (.int n), kit_ty (show kitB "int" "int" = some true by decide +kernel), _, rfl, iteT ?_⟩
    refine ⟨_, rfl, _, _, _, _, _, rfl, .ty "bool", .base (.int n), kit_ty (show kitB "int" "bool" = some false by decide +kernel), _, rfl, _, rfl, iteT ?_⟩
    refine ⟨_, rfl, _, _, rfl, rfl, ?_⟩
    show Q (.bl (decide (1 ≤ n))) H
    rw [decide_eq_true hn]
    exact k
theorem sc_is_command : FnScope ["command"] ["command"] (defScope s_is_command) := ⟨rfl, rfl, rfl, by decide +kernel, rfl, by decide +kernel, by decide +kernel⟩
theorem ok_is_command {f : Addr} {fd : FuncData} (F : Fun K "is_command" "is_command" s_is_command f fd) (T : TxtB K mg wo wn) (c_is_count : Cal P w K mg base 1 "is_count" spCount) : FnOk P w K mg base CX0 2 f fd ["command"] (spIsCmd K) := by
  refine F.ok sc_is_command (fun vs H Q E h => ?_) (fun cdv A outer s H vs Q E hr h => ?_)
  · obtain ⟨v, c, rfl, _⟩ := h
    rfl
  · obtain ⟨v, c, rfl, ⟨a, rfl, ha⟩, hc, k⟩ := h
    refine ⟨_, (pss_cons (ps_if (pt_cmpR op_eq (pe_callB call_len_seq (by rfl) T.len (by decide +kernel) (pa_cons (pv 0) pa_nil)) pe_int (nomark _)) (pss_one (ps_ret (pe_cmpR op_in_seq (pe_ix ix_tup (pv 0) pe_int (fun _ _ => rfl)) (pe_glob (v := .ref wo) (by rfl) T.g_WITHOUT_NUMBER rfl) (by rfl)))) pss_nil)
      (pss_one (ps_ret (pe_and (pe_cmpR op_eq (pe_callB call_len_seq (by rfl) T.len (by decide +kernel) (pa_cons (pv 0) pa_nil)) pe_int (nomark _)) (pe_and (pe_cmpR op_in_seq (pe_ix ix_tup (pv 0) pe_int (fun _ _ => rfl)) (pe_glob (v := .ref wn) (by rfl) T.g_WITH_NUMBER rfl) (by rfl)) (pe_one (pe_cal c_is_count hr (by decide) (by rfl) (pa_cons (pe_ix ix_tup (pv 0) pe_int (fun _ _ => rfl)) pa_nil)))))))), ?_⟩
    have k0 := k H (Same.refl H)
    cases c with
    | down n =>
      refine ⟨_, rfl, a, _, rfl, .inr ha, rfl, _, rfl, iteF ?_⟩
      refine ⟨_, rfl, a, _, rfl, .inr ha, rfl, _, rfl, iteT ?_⟩
      refine ⟨_, rfl, a, _, 0, _, rfl, rfl, ha, rfl, wn, _, rfl, .inr (T.tWN _), rfl, rfl, true, by decide +kernel, iteT ?_⟩
      exact ⟨_, rfl, a, _, 1, _, rfl, rfl, ha, rfl, n, rfl, hc, k0⟩
    | up n =>
      refine ⟨_, rfl, a, _, rfl, .inr ha, rfl, _, rfl, iteF ?_⟩
      refine ⟨_, rfl, a, _, rfl, .inr ha, rfl, _, rfl, iteT ?_⟩
      refine ⟨_, rfl, a, _, 0, _, rfl, rfl, ha, rfl, wn, _, rfl, .inr (T.tWN _), rfl, rfl, true, by decide +kernel, iteT ?_⟩
      exact ⟨_, rfl, a, _, 1, _, rfl, rfl, ha, rfl, n, rfl, hc, k0⟩
    | right n =>
      refine ⟨_, rfl, a, _, rfl, .inr ha, rfl, _, rfl, iteF ?_⟩
      refine ⟨_, rfl, a, _, rfl, .inr ha, rfl, _, rfl, iteT ?_⟩
      refine ⟨_, rfl, a, _, 0, _, rfl, rfl, ha, rfl, wn, _, rfl, .inr (T.tWN _), rfl, rfl, true, by decide +kernel, iteT ?_⟩
      exact ⟨_, rfl, a, _, 1, _, rfl, rfl, ha, rfl, n, rfl, hc, k0⟩
    | left n =>
      refine ⟨_, rfl, a, _, rfl, .inr ha, rfl, _, rfl, iteF ?_⟩
      refine ⟨_, rfl, a, _, rfl, .inr ha, rfl, _, rfl, iteT ?_⟩
      refine ⟨_, rfl, a, _, 0, _, rfl, rfl, ha, rfl, wn, _, rfl, .inr (T.tWN _), rfl, rfl, true, by decide +kernel, iteT ?_⟩
      exact ⟨_, rfl, a, _, 1, _, rfl, rfl, ha, rfl, n, rfl, hc, k0⟩
    | home =>
      refine ⟨_, rfl, a, _, rfl, .inr ha, rfl, _, rfl, iteT ?_⟩
      refine ⟨_, rfl, a, _, 0, _, rfl, rfl, ha, rfl, wo, _, rfl, .inr (T.tWO _), rfl, rfl, ?_⟩
      exact q_in (by decide +kernel) k0
    | stop =>
      refine ⟨_, rfl, a, _, rfl, .inr ha, rfl, _, rfl, iteT ?_⟩
      refine ⟨_, rfl, a, _, 0, _, rfl, rfl, ha, rfl, wo, _, rfl, .inr (T.tWO _), rfl, rfl, ?_⟩
      exact q_in (by decide +kernel) k0
theorem sc_row_change : FnScope ["command"] ["command"] (defScope s_row_change) := ⟨rfl, rfl, rfl, by decide +kernel, rfl, by decide +kernel, by decide +kernel⟩
theorem ok_row_change {f : Addr} {fd : FuncData} (F : Fun K "row_change" "row_change" s_row_change f fd) : FnOk P w K mg base CX0 1 f fd ["command"] (spRow K) := by
  refine F.ok sc_row_change (fun vs H Q E h => ?_) (fun cdv A outer s H vs Q E hr h => ?_)
  · obtain ⟨v, c, rfl, _⟩ := h
    rfl
  · obtain ⟨v, c, rfl, ⟨a, rfl, ha⟩, k⟩ := h
    refine ⟨_, (pss_cons (ps_if (pt_cmpR op_eq (pe_ix ix_tup (pv 0) pe_int (fun _ _ => rfl)) pe_str (nomark _)) (pss_one (ps_ret (pe_ix ix_tup (pv 0) pe_int (fun _ _ => rfl)))) pss_nil)
      (pss_cons (ps_if (pt_cmpR op_eq (pe_ix ix_tup (pv 0) pe_int (fun _ _ => rfl)) pe_str (nomark _)) (pss_one (ps_ret (pe_un un_neg (pe_ix ix_tup (pv 0) pe_int (fun _ _ => rfl))))) pss_nil)
      (pss_one (ps_ret pe_int)))), ?_⟩
    cases c with
    | down n =>
      refine ⟨_, rfl, a, _, 0, _, rfl, rfl, ha, rfl, rfl, true, by decide +kernel, iteT ?_⟩
      exact ⟨_, rfl, a, _, 1, _, rfl, rfl, ha, rfl, k⟩
    | up n =>
      refine ⟨_, rfl, a, _, 0, _, rfl, rfl, ha, rfl, rfl, false, by decide +kernel, iteF ?_⟩
      refine ⟨_, rfl, a, _, 0, _, rfl, rfl, ha, rfl, rfl, true, by decide +kernel, iteT ?_⟩
      exact ⟨_, rfl, a, _, 1, _, rfl, rfl, ha, rfl, n, rfl, k⟩
    | right n =>
      refine ⟨_, rfl, a, _, 0, _, rfl, rfl, ha, rfl, rfl, false, by decide +kernel, iteF ?_⟩
      refine ⟨_, rfl, a, _, 0, _, rfl, rfl, ha, rfl, rfl, false, by decide +kernel, iteF ?_⟩
      exact k
    | left n =>
      refine ⟨_, rfl, a, _, 0, _, rfl, rfl, ha, rfl, rfl, false, by decide +kernel, iteF ?_⟩
      refine ⟨_, rfl, a, _, 0, _, rfl, rfl, ha, rfl, rfl, false, by decide +kernel, iteF ?_⟩
      exact k
    | home =>
      refine ⟨_, rfl, a, _, 0, _, rfl, rfl, ha, rfl, rfl, false, by decide +kernel, iteF ?_⟩
      refine ⟨_, rfl, a, _, 0, _, rfl, rfl, ha, rfl, rfl, false, by decide +kernel, iteF ?_⟩
      exact k
    | stop =>
      refine ⟨_, rfl, a, _, 0, _, rfl, rfl, ha, rfl, rfl, false, by decide +kernel, iteF ?_⟩
      refine ⟨_, rfl, a, _, 0, _, rfl, rfl, ha, rfl, rfl, false, by decide +kernel, iteF ?_⟩
      exact k
theorem sc_check_commands : FnScope ["commands", "index", "command"] ["commands"] (defScope s_check_commands) := ⟨rfl, rfl, rfl, by decide +kernel, rfl, by decide +kernel, by decide +kernel⟩
theorem ok_check_commands {f : Addr} {fd : FuncData} (F : Fun K "check_commands" "check_commands" s_check_commands f fd) (T : TxtB K mg wo wn) (c_is_command : Cal P w K mg base 2 "is_command" (spIsCmd K)) : FnOk P w K mg base CX0 3 f fd ["commands"] (spCheck K) := by
  refine F.ok sc_check_commands (fun vs H Q E h => ?_) (fun cdv A outer s H vs Q E hr h => ?_)
  · obtain ⟨l, xs, cs, rfl, _⟩ := h
    rfl
  · obtain ⟨l, xs, cs, rfl, hl, hcs, hk, hn, k⟩ := h
    refine ⟨_, (pss_one (ps_for PassesOwn.never rfl (pi_enum (by rfl) T.enumerate (pa_cons (pv 0) pa_nil)) (pg_tup rfl (pgs_cons (pg_name (i := 1) sc_check_commands.nd rfl (Or.inl rfl)) (pgs_cons (pg_name (i := 2) sc_check_commands.nd rfl (Or.inl rfl)) pgs_nil))) (pss_one (ps_if (pt_not (pt_val (pe_cal c_is_command hr (by decide) (by rfl) (pa_cons (pv 2) pa_nil)))) (pss_one ps_never) pss_nil)))), ?_⟩
    refine ⟨_, rfl, l, xs, rfl, hl, for_it (walk_enum (K := K) (a := l) (xs := xs)) (fun i σ H' => ∃ v1 v2 : Option V, σ = [some (.ref l), v1, v2] ∧ Same H H')
      ⟨none, none, rfl, Same.refl H⟩ (fun i σ H' _ ⟨_, _, _, e⟩ => e.seq hl) (fun i x σ H1 H2 hi h y => ?_) (fun σ H1 h => ?_)⟩
    · obtain ⟨v1, v2, rfl, e⟩ := h
      obtain ⟨T1, x1, y1, rfl, nT, rfl, e1, e2⟩ := y
      obtain ⟨c, hc, hca⟩ := paired_at hcs e2
      have eT : Same H (upd H1 T1 (.tup [x1, y1])) := same_upd e nT
      refine ⟨T1, _, rfl, SqT.of upd_same, rfl, _, _, rfl, _, _, rfl, rfl, ?_⟩
      refine ⟨_, rfl, y1, c, rfl, hca.same eT, hk c (List.mem_of_getElem? hc), fun H3 e3 => ⟨_, rfl, iteF ?_⟩⟩
      exact ⟨_, _, rfl, eT.trans e3⟩
    · obtain ⟨v1, v2, rfl, e⟩ := h
      exact k _ e
end
end Gc

/-! running, where nothing is raised -/
namespace Gc
open PySem L2
abbrev s_check_text : Stmt := top 10
abbrev s_check_cursor : Stmt := top 11
abbrev s_run : Stmt := top 16
abbrev s_shown_column : Stmt := top 17
abbrev s_moved : Stmt := top 19
abbrev s_new_goal : Stmt := top 20
theorem at_len' {T : List Int} {r : Int} (h0 : 0 ≤ r) (h1 : r < T.length) : atI (T.map V.int) r = some (.int (lenAt T r)) := by
  have e : r = (r.toNat : Int) := by omega
  refine at_of (j := r.toNat) e ?_
  have l : r.toNat < T.length := by omega
  unfold lenAt
  rw [List.getElem?_map, List.getD_eq_getElem?_getD, List.getElem?_eq_getElem l]
  rfl
theorem minI (i j : Int) : (if j < i then j else i) = min i j := by split <;> omega
theorem maxI (i j : Int) : (if j > i then j else i) = max i j := by split <;> omega
theorem iteN1 {c A B : Prop} [Decidable c] (hc : c) (h : B) : if (!decide c) = true then A else B := by
  rw [decide_eq_true hc]
  exact iteF h
theorem iteN0 {c A B : Prop} [Decidable c] (hc : ¬ c) (h : A) : if (!decide c) = true then A else B := by
  rw [decide_eq_false hc]
  exact iteT h
def spText (K : PySem.W.Frag) : Sp := fun vs H Q _ => ∃ (t : Addr) (T : List Int), vs = [.ref t] ∧ SqL K H t (T.map V.int) ∧ T ≠ [] ∧ (∀ x ∈ T, 0 ≤ x) ∧ ∀ H', Same H H' → Q .non H'
def spCursor (K : PySem.W.Frag) : Sp := fun vs H Q _ => ∃ (n r : Int) (g : Option Int) (c : Addr), vs = [.int n, .ref c] ∧ SqT K H c [.int r, optV g] ∧ 0 ≤ r ∧ r < n ∧ ge g 0 ∧ Q .non H
def spShown : Sp := fun vs H Q _ => ∃ (t : Int) (g : Option Int), vs = [.int t, optV g] ∧ Q (.int (seen t g)) H
def spGoal (K : PySem.W.Frag) : Sp := fun vs H Q _ => ∃ (t : Int) (g : Option Int) (v : V) (c : Cmd), vs = [.int t, optV g, v] ∧ CmdAt K H v c ∧ Q (optV (aim1 t g c)) H
/-- one command: None, or the new cursor -/
def step1 (T : List Int) (r : Int) (g : Option Int) (c : Cmd) : Option (Int × Option Int) := if 0 ≤ r + c.dv ∧ r + c.dv < T.length then some (r + c.dv, aim1 (lenAt T (r + c.dv)) g c) else none
def spMoved (K : PySem.W.Frag) : Sp := fun vs H Q _ => ∃ (t b : Addr) (T : List Int) (r : Int) (g : Option Int) (v : V) (c : Cmd), vs = [.ref t, .ref b, v] ∧ SqL K H t (T.map V.int) ∧ SqT K H b [.int r, optV g] ∧ CmdAt K H v c ∧
  (step1 T r g c = none → Q .non H) ∧ ∀ r' g', step1 T r g c = some (r', g') → ∀ p, H p = none → Q (.ref p) (upd H p (.tup [.int r', optV g']))
def spRun (K : PySem.W.Frag) : Sp := fun vs H Q _ => ∃ (t b l : Addr) (T : List Int) (r : Int) (g : Option Int) (xs : List V) (cs : List Cmd) (r' : Int) (g' : Option Int), vs = [.ref t, .ref b, .ref l] ∧ SqL K H t (T.map V.int) ∧ SqT K H b [.int r, optV g] ∧ SqL K H l xs ∧ CmdsOf K H xs cs ∧
  (∀ x ∈ T, 0 ≤ x) ∧ 0 ≤ r ∧ r < T.length ∧ ge g 0 ∧ AllOk cs ∧ cs.length ≤ 10000 ∧ afterL T r g cs = some (r', g') ∧ ∀ (H' : Hp) (p : Addr), Same H H' → SqT K H' p [.int r', optV g'] → Q (.ref p) H'
theorem aim1_vert {t t' : Int} {g : Option Int} {c : Cmd} (h : c.vert = true) : aim1 t g c = g := by cases c <;> first | rfl | cases h
theorem dv_flat {c : Cmd} (h : ¬ c.vert = true) : c.dv = 0 := by cases c <;> first | rfl | exact absurd rfl h
theorem afterL_cons {T : List Int} {r : Int} {g : Option Int} {c : Cmd} {cs : List Cmd} (h0 : 0 ≤ r) (h1 : r < T.length) : afterL T r g (c :: cs) = (step1 T r g c).bind fun q => afterL T q.1 q.2 cs := by
  unfold step1
  simp only [afterL]
  by_cases v : c.vert = true
  · rw [if_pos v]
    by_cases i : 0 ≤ r + c.dv ∧ r + c.dv < T.length
    · rw [if_pos i, if_pos i, aim1_vert (t' := 0) v]
      rfl
    · rw [if_neg i, if_neg i]
      rfl
  · rw [if_neg v, dv_flat v, Int.add_zero, if_pos ⟨h0, h1⟩]
    rfl
theorem step1_in {T : List Int} {r r' : Int} {g g' : Option Int} {c : Cmd} (h : step1 T r g c = some (r', g')) : 0 ≤ r' ∧ r' < T.length := by
  unfold step1 at h
  split at h
  · rename_i i
    cases h
    exact i
  · cases h
section
variable {P : Program} {w : World} {K : PySem.W.Frag} {mg : Str → Option Value} {base : Heap} {wo wn : Addr}
theorem sc_check_text : FnScope ["text", "index", "length"] ["text"] (defScope s_check_text) := ⟨rfl, rfl, rfl, by decide +kernel, rfl, by decide +kernel, by decide +kernel⟩
theorem ok_check_text {f : Addr} {fd : FuncData} (F : Fun K "check_text" "check_text" s_check_text f fd) (T : TxtB K mg wo wn) : FnOk P w K mg base CX0 1 f fd ["text"] (spText K) := by
  refine F.ok sc_check_text (fun vs H Q E h => ?_) (fun cdv A outer s H vs Q E hr h => ?_)
  · obtain ⟨t, T, rfl, _⟩ := h
    rfl
  · obtain ⟨t, tx, rfl, ht, ne, nn, k⟩ := h
    refine ⟨_, (pss_cons (ps_if (pt_not (pt_truth (pv 0) (fun _ => rfl))) (pss_one ps_never) pss_nil)
      (pss_one (ps_for PassesOwn.never rfl (pi_enum (by rfl) T.enumerate (pa_cons (pv 0) pa_nil)) (pg_tup rfl (pgs_cons (pg_name (i := 1) sc_check_text.nd rfl (Or.inl rfl)) (pgs_cons (pg_name (i := 2) sc_check_text.nd rfl (Or.inl rfl)) pgs_nil))) (pss_one (ps_if (pt_cmpR op_lt (pv 2) pe_int (nomark _)) (pss_one ps_never) pss_nil))))), ?_⟩
    refine ⟨_, rfl, true, .inl ⟨_, ht, ?_⟩, iteF ?_⟩
    · cases tx with
      | nil => exact absurd rfl ne
      | cons x r => rfl
    refine ⟨_, rfl, t, _, rfl, ht, for_it (walk_enum (K := K) (a := t) (xs := tx.map V.int)) (fun i σ H' => ∃ v1 v2 : Option V, σ = [some (.ref t), v1, v2] ∧ Same H H')
      ⟨none, none, rfl, Same.refl H⟩ (fun i σ H' _ ⟨_, _, _, e⟩ => e.seq ht) (fun i x σ H1 H2 hi h y => ?_) (fun σ H1 h => ?_)⟩
    · obtain ⟨v1, v2, rfl, e⟩ := h
      obtain ⟨T1, x1, y1, rfl, nT, rfl, e1, e2⟩ := y
      obtain ⟨z, hz, rfl⟩ : ∃ z, tx[i]? = some z ∧ y1 = .int z := by
        have e3 : (tx.map V.int)[i]? = some y1 := e2
        rw [List.getElem?_map] at e3
        cases q : tx[i]? with
        | none =>
          rw [q] at e3
          cases e3
        | some z =>
          rw [q] at e3
          exact ⟨z, rfl, (Option.some.inj e3).symm⟩
      have z0 := nn z (List.mem_of_getElem? hz)
      refine ⟨T1, _, rfl, SqT.of upd_same, rfl, _, _, rfl, _, _, rfl, rfl, ?_⟩
      refine ⟨_, rfl, _, _, rfl, rfl, _, rfl, ite2 (fun c => absurd (of_decide_eq_true c) (by omega)) (fun _ => ?_)⟩
      exact ⟨_, _, rfl, same_upd e nT⟩
    · obtain ⟨v1, v2, rfl, e⟩ := h
      exact k _ e
theorem sc_check_cursor : FnScope ["lines", "cursor", "row", "goal"] ["lines", "cursor"] (defScope s_check_cursor) := ⟨rfl, rfl, rfl, by decide +kernel, rfl, by decide +kernel, by decide +kernel⟩
theorem ok_check_cursor {f : Addr} {fd : FuncData} (F : Fun K "check_cursor" "check_cursor" s_check_cursor f fd) : FnOk P w K mg base CX0 1 f fd ["lines", "cursor"] (spCursor K) := by
  refine F.ok sc_check_cursor (fun vs H Q E h => ?_) (fun cdv A outer s H vs Q E hr h => ?_)
  · obtain ⟨n, r, g, c, rfl, _⟩ := h
    rfl
  · obtain ⟨n, r, g, c, rfl, hc, r0, r1, g0, k⟩ := h
    refine ⟨_, (pss_cons (ps_asg (pv 1) (pg_tup rfl (pgs_cons (pg_name (i := 2) sc_check_cursor.nd rfl (Or.inl rfl)) (pgs_cons (pg_name (i := 3) sc_check_cursor.nd rfl (Or.inl rfl)) pgs_nil))))
      (pss_one (ps_if (PW.pt (pw_or (pt_not (pt_chain op_le op_lt pe_int (pv 2) (pv 0))) (pw_or1 (PW.pt (pw_and (pt_cmpR op_notN (pv 3) pe_non (nomark _)) (pw_and1 (pt_cmpR op_lt (pv 3) pe_int (nomark _)))))))) (pss_one ps_never) pss_nil))), ?_⟩
    refine ⟨_, rfl, c, _, rfl, hc, rfl, _, _, rfl, _, _, rfl, rfl, ?_⟩
    refine ⟨_, rfl, _, _, rfl, rfl, _, rfl, ite2 (fun _ => ?_) (fun c => absurd (decide_eq_true r0) c)⟩
    refine ⟨_, rfl, _, _, rfl, rfl, _, rfl, ?_⟩
    refine iteN1 r1 ?_
    cases g with
    | none => exact ⟨_, rfl, rfl, _, rfl, iteF (iteF k)⟩
    | some y =>
      have y0 := ge_some.mp g0
      refine ⟨_, rfl, rfl, _, rfl, iteT ?_⟩
      refine ⟨_, rfl, _, _, rfl, rfl, _, rfl, ite2 (fun c => absurd (of_decide_eq_true c) (by omega)) (fun _ => k)⟩
theorem sc_shown_column : FnScope ["length", "goal"] ["length", "goal"] (defScope s_shown_column) := ⟨rfl, rfl, rfl, by decide +kernel, rfl, by decide +kernel, by decide +kernel⟩
theorem ok_shown_column {f : Addr} {fd : FuncData} (F : Fun K "shown_column" "shown_column" s_shown_column f fd) (T : TxtB K mg wo wn) : FnOk P w K mg base CX0 1 f fd ["length", "goal"] spShown := by
  refine F.ok sc_shown_column (fun vs H Q E h => ?_) (fun cdv A outer s H vs Q E hr h => ?_)
  · obtain ⟨t, g, rfl, _⟩ := h
    rfl
  · obtain ⟨t, g, rfl, k⟩ := h
    refine ⟨_, (pss_one (ps_ret (pe_ifExp (pt_cmpR op_isN (pv 1) pe_non (nomark _)) (pv 0) (pe_callB (call_min2 rfl) (by rfl) T.min (by decide +kernel) (pa_cons (pv 1) (pa_cons (pv 0) pa_nil)))))), ?_⟩
    cases g with
    | none => exact ⟨_, rfl, rfl, _, rfl, iteT ⟨_, rfl, k⟩⟩
    | some y =>
      refine ⟨_, rfl, rfl, _, rfl, iteF ?_⟩
      refine ⟨_, rfl, _, rfl, _, _, rfl, ?_⟩
      show Q (.int (if t < y then t else y)) H
      rw [minI]
      exact k
theorem sc_new_goal : FnScope ["length", "goal", "command"] ["length", "goal", "command"] (defScope s_new_goal) := ⟨rfl, rfl, rfl, by decide +kernel, rfl, by decide +kernel, by decide +kernel⟩
theorem ok_new_goal {f : Addr} {fd : FuncData} (F : Fun K "new_goal" "new_goal" s_new_goal f fd) (T : TxtB K mg wo wn) (c_shown_column : Cal P w K mg base 1 "shown_column" spShown) : FnOk P w K mg base CX0 2 f fd ["length", "goal", "command"] (spGoal K) := by
  refine F.ok sc_new_goal (fun vs H Q E h => ?_) (fun cdv A outer s H vs Q E hr h => ?_)
  · obtain ⟨t, g, v, c, rfl, _⟩ := h
    rfl
  · obtain ⟨t, g, v, c, rfl, ⟨a, rfl, hc⟩, k⟩ := h
    refine ⟨_, (pss_one (ps_match (pe_ix ix_tup (pv 2) pe_int (fun _ _ => rfl)) (mc_str (pss_one (ps_ret pe_int)) (mc_str (pss_one (ps_ret pe_non)) (mc_str (pss_one (ps_ret (pe_callB (call_min2 rfl) (by rfl) T.min (by decide +kernel) (pa_cons (pe_op op_add (pe_cal c_shown_column hr (by decide) (by rfl) (pa_cons (pv 0) (pa_cons (pv 1) pa_nil))) (pe_ix ix_tup (pv 2) pe_int (fun _ _ => rfl))) (pa_cons (pv 0) pa_nil))))) (mc_str (pss_one (ps_ret (pe_callB (call_max2 rfl) (by rfl) T.max (by decide +kernel) (pa_cons (pe_op op_sub (pe_cal c_shown_column hr (by decide) (by rfl) (pa_cons (pv 0) (pa_cons (pv 1) pa_nil))) (pe_ix ix_tup (pv 2) pe_int (fun _ _ => rfl))) (pa_cons pe_int pa_nil))))) (mc_any (pss_one (ps_ret (pv 1)))))))))), ?_⟩
    cases c with
    | home => exact ⟨_, rfl, a, _, 0, _, rfl, rfl, hc, rfl, m_yes (by decide +kernel) k⟩
    | stop => exact ⟨_, rfl, a, _, 0, _, rfl, rfl, hc, rfl, m_no (by decide +kernel) (m_yes (by decide +kernel) k)⟩
    | right n =>
      refine ⟨_, rfl, a, _, 0, _, rfl, rfl, hc, rfl, m_no (by decide +kernel) (m_no (by decide +kernel) (m_yes (by decide +kernel) ?_))⟩
      refine ⟨_, rfl, _, rfl, t, g, rfl, _, rfl, a, _, 1, _, rfl, rfl, hc, rfl, _, _, rfl, rfl, _, rfl, _, _, rfl, ?_⟩
      show Q (.int (if t < seen t g + n then t else seen t g + n)) H
      rw [minI]
      exact k
    | left n =>
      refine ⟨_, rfl, a, _, 0, _, rfl, rfl, hc, rfl, m_no (by decide +kernel) (m_no (by decide +kernel) (m_no (by decide +kernel) (m_yes (by decide +kernel) ?_)))⟩
      refine ⟨_, rfl, _, rfl, t, g, rfl, _, rfl, a, _, 1, _, rfl, rfl, hc, rfl, _, _, rfl, rfl, _, _, rfl, ?_⟩
      show Q (.int (if 0 > seen t g - n then 0 else seen t g - n)) H
      rw [maxI, Int.max_comm]
      exact k
    | down n => exact ⟨_, rfl, a, _, 0, _, rfl, rfl, hc, rfl, m_no (by decide +kernel) (m_no (by decide +kernel) (m_no (by decide +kernel) (m_no (by decide +kernel) ⟨_, rfl, k⟩)))⟩
    | up n => exact ⟨_, rfl, a, _, 0, _, rfl, rfl, hc, rfl, m_no (by decide +kernel) (m_no (by decide +kernel) (m_no (by decide +kernel) (m_no (by decide +kernel) ⟨_, rfl, k⟩)))⟩
theorem sc_moved : FnScope ["text", "cursor", "command", "row"] ["text", "cursor", "command"] (defScope s_moved) := ⟨rfl, rfl, rfl, by decide +kernel, rfl, by decide +kernel, by decide +kernel⟩
theorem ok_moved {f : Addr} {fd : FuncData} (F : Fun K "moved" "moved" s_moved f fd) (T : TxtB K mg wo wn) (c_row_change : Cal P w K mg base 1 "row_change" (spRow K)) (c_new_goal : Cal P w K mg base 2 "new_goal" (spGoal K)) : FnOk P w K mg base CX0 3 f fd ["text", "cursor", "command"] (spMoved K) := by
  refine F.ok sc_moved (fun vs H Q E h => ?_) (fun cdv A outer s H vs Q E hr h => ?_)
  · obtain ⟨t, b, tx, r, g, v, c, rfl, _⟩ := h
    rfl
  · obtain ⟨t, b, tx, r, g, v, c, rfl, ht, hb, hv, kn, ks⟩ := h
    refine ⟨_, (pss_cons (ps_set (i := 3) sc_moved.nd rfl (Or.inl rfl) (pe_op op_add (pe_ix ix_tup (pv 1) pe_int (fun _ _ => rfl)) (pe_cal c_row_change hr (by decide) (by rfl) (pa_cons (pv 2) pa_nil))))
      (pss_cons (ps_if (pt_not (pt_chain op_le op_lt pe_int (pv 3) (pe_callB call_len_seq (by rfl) T.len (by decide +kernel) (pa_cons (pv 0) pa_nil)))) (pss_one (ps_ret pe_non)) pss_nil)
      (pss_one (ps_ret (pe_tup (pa_cons (pv 3) (pa_cons (pe_cal c_new_goal hr (by decide) (by rfl) (pa_cons (pe_ix ix_list (pv 0) (pv 3) (fun _ _ => rfl)) (pa_cons (pe_ix ix_tup (pv 1) pe_int (fun _ _ => rfl)) (pa_cons (pv 2) pa_nil)))) pa_nil))))))), ?_⟩
    refine ⟨_, rfl, b, _, 0, _, rfl, rfl, hb, rfl, _, rfl, v, c, rfl, hv, _, _, rfl, rfl, ?_⟩
    have out : ¬ (0 ≤ r + c.dv ∧ r + c.dv < tx.length) → Q .non H := fun z => kn (by unfold step1; rw [if_neg z])
    refine ⟨_, rfl, _, _, rfl, rfl, _, rfl, ite2 (fun c0 => ?_) (fun c0 => ?_)⟩
    · have c0' : 0 ≤ r + c.dv := of_decide_eq_true c0
      refine ⟨_, rfl, t, _, rfl, .inl ht, _, _, rfl, rfl, _, rfl, ?_⟩
      by_cases c1 : r + c.dv < tx.length
      · refine iteN1 (by rw [List.length_map]; exact c1) ?_
        refine ⟨_, rfl, _, rfl, _, rfl, t, _, _, _, rfl, rfl, ht, at_len' c0' c1, _, rfl, b, _, 1, _, rfl, rfl, hb, rfl, _, rfl, lenAt tx (r + c.dv), g, v, c, rfl, hv, (by show 2 ≤ sizeLine; decide), fun p hp => ?_⟩
        exact ks _ _ (by unfold step1; rw [if_pos ⟨c0', c1⟩]) p hp
      · refine iteN0 (by rw [List.length_map]; exact c1) ?_
        exact out fun z => c1 z.2
    · refine ⟨_, rfl, ?_⟩
      refine iteT (B := _) ?_
      exact out fun z => c0 (decide_eq_true z.1)
theorem sc_run : FnScope ["text", "cursor", "commands", "place", "index", "command"] ["text", "cursor", "commands"] (defScope s_run) := ⟨rfl, rfl, rfl, by decide +kernel, rfl, by decide +kernel, by decide +kernel⟩
theorem ok_run {f : Addr} {fd : FuncData} (F : Fun K "run" "run" s_run f fd) (T : TxtB K mg wo wn) (c_check_text : Cal P w K mg base 1 "check_text" (spText K)) (c_check_cursor : Cal P w K mg base 1 "check_cursor" (spCursor K))
    (c_check_commands : Cal P w K mg base 3 "check_commands" (spCheck K)) (c_moved : Cal P w K mg base 3 "moved" (spMoved K)) : FnOk P w K mg base CX0 4 f fd ["text", "cursor", "commands"] (spRun K) := by
  refine F.ok sc_run (fun vs H Q E h => ?_) (fun cdv A outer s H vs Q E hr h => ?_)
  · obtain ⟨t, b, l, tx, r, g, xs, cs, r', g', rfl, _⟩ := h
    rfl
  · obtain ⟨t, b, l, tx, r, g, xs, cs, r', g', rfl, ht, hb, hl, hcs, nn, r0, r1, g0, ok, ln, hrun, k⟩ := h
    refine ⟨_, (pss_cons (ps_expr (pe_cal c_check_text hr (by decide) (by rfl) (pa_cons (pv 0) pa_nil)))
      (pss_cons (ps_expr (pe_cal c_check_cursor hr (by decide) (by rfl) (pa_cons (pe_callB call_len_seq (by rfl) T.len (by decide +kernel) (pa_cons (pv 0) pa_nil)) (pa_cons (pv 1) pa_nil))))
      (pss_cons (ps_expr (pe_cal c_check_commands hr (by decide) (by rfl) (pa_cons (pv 2) pa_nil)))
      (pss_cons (ps_set (i := 3) sc_run.nd rfl (Or.inl rfl) (pv 1))
      (pss_cons (ps_for PassesOwn.never rfl (pi_enum (by rfl) T.enumerate (pa_cons (pv 2) pa_nil)) (pg_tup rfl (pgs_cons (pg_name (i := 4) sc_run.nd rfl (Or.inl rfl)) (pgs_cons (pg_name (i := 5) sc_run.nd rfl (Or.inl rfl)) pgs_nil))) (pss_cons (ps_set (i := 3) sc_run.nd rfl (Or.inl rfl) (pe_cal c_moved hr (by decide) (by rfl) (pa_cons (pv 0) (pa_cons (pv 3) (pa_cons (pv 5) pa_nil)))))
      (pss_one (ps_if (pt_cmpR op_isN (pv 3) pe_non (nomark _)) (pss_one ps_never) pss_nil))))
      (pss_one (ps_ret (pv 3)))))))), ?_⟩
    refine ⟨_, rfl, t, tx, rfl, ht, (by intro z; subst z; simp at r1; omega), nn, fun H1 e1 => ?_⟩
    refine ⟨_, rfl, t, _, rfl, .inl (e1.seq ht), _, rfl, (tx.map V.int).length, r, g, b, rfl, seq_t e1 hb, r0, by rw [List.length_map]; exact r1, g0, ?_⟩
    refine ⟨_, rfl, l, xs, cs, rfl, e1.seq hl, hcs.same e1, ok, ln, fun H2 e2 => ?_⟩
    have e12 := e1.trans e2
    refine ⟨_, rfl, ?_⟩
    refine ⟨_, rfl, l, _, rfl, e12.seq hl, for_it (walk_enum (K := K) (a := l) (xs := xs)) (fun i σ H' => ∃ (p : Addr) (rr : Int) (gg : Option Int) (v1 v2 : Option V), σ = [some (.ref t), some (.ref b), some (.ref l), some (.ref p), v1, v2] ∧ Same H H' ∧ SqT K H' p [.int rr, optV gg] ∧ 0 ≤ rr ∧ rr < tx.length ∧ afterL tx rr gg (cs.drop i) = some (r', g'))
      ⟨b, r, g, none, none, rfl, e12, seq_t e12 hb, r0, r1, hrun⟩ (fun i σ H' _ ⟨_, _, _, _, _, _, e, _⟩ => e.seq hl) (fun i x σ H3 H4 hi h y => ?_) (fun σ H3 h => ?_)⟩
    · obtain ⟨p, rr, gg, v1, v2, rfl, e3, hp, q0, q1, hgo⟩ := h
      obtain ⟨T1, x1, y1, rfl, nT, rfl, ex1, ex2⟩ := y
      obtain ⟨c, hc, hca⟩ := paired_at hcs ex2
      have hdrop : cs.drop i = c :: cs.drop (i + 1) := by
        obtain ⟨h1, h2⟩ := List.getElem?_eq_some_iff.mp hc
        rw [List.drop_eq_getElem_cons h1, h2]
      rw [hdrop, afterL_cons q0 q1] at hgo
      have eT : Same H3 (upd H3 T1 (.tup [x1, y1])) := same_upd (Same.refl _) nT
      have eHT := e3.trans eT
      obtain ⟨⟨r2, g2⟩, hst, hrest⟩ := Option.bind_eq_some_iff.mp hgo
      have hin := step1_in hst
      refine ⟨T1, _, rfl, SqT.of upd_same, rfl, _, _, rfl, _, _, rfl, rfl, ?_⟩
      refine ⟨_, rfl, _, rfl, _, rfl, t, p, tx, rr, gg, y1, c, rfl, eHT.seq ht, seq_t eT hp, hca.same eHT, (fun z => by rw [hst] at z; cases z), fun r3 g3 z p3 np3 => ?_⟩
      rw [hst] at z
      cases z
      have e4 : Same (upd H3 T1 (.tup [x1, y1])) (upd (upd H3 T1 (.tup [x1, y1])) p3 (.tup [.int r2, optV g2])) := same_upd (Same.refl _) np3
      refine ⟨_, rfl, rfl, _, rfl, iteF ?_⟩
      exact ⟨p3, r2, g2, _, _, rfl, eHT.trans e4, SqT.of upd_same, hin.1, hin.2, hrest⟩
    · obtain ⟨p, rr, gg, v1, v2, rfl, e3, hp, q0, q1, hgo⟩ := h
      rw [hcs.len, List.drop_length] at hgo
      have z : (rr, gg) = (r', g') := Option.some.inj hgo
      cases z
      exact ⟨_, rfl, k _ p e3 hp⟩
end
end Gc

/-! the source of numbers of the laws over origins and counts: a dict -/
namespace Gc
open PySem L2
abbrev s_bag : Stmt := top 39
abbrev s_bdraw : Stmt := top 40
def bagK (g : Addr) (lf tn bl : Int) : List (L2.Key × V) := [(.inr "great", .ref g), (.inr "left", .int lf), (.inr "turn", .int tn), (.inr "blend", .int bl)]
def Bag (H : Hp) (b g : Addr) (n : Nat) : Prop := ∃ (gs : List Int) (lf tn bl : Int), H b = some (.dK (bagK g lf tn bl)) ∧ H g = some (.lst (gs.map V.int)) ∧ gs.length ≤ 63 ∧ 0 ≤ tn ∧ tn ≤ n ∧ 0 ≤ bl ∧ bl < 2 ^ 61
theorem Bag.ne {H : Hp} {b g : Addr} {n : Nat} (h : Bag H b g n) : b ≠ g := by
  obtain ⟨_, _, _, _, h1, h2, _⟩ := h
  exact ne_of h1 h2 (by intro q; cases q)
theorem Bag.same {H H' : Hp} {b g : Addr} {n : Nat} (e : Same H H') (h : Bag H b g n) : Bag H' b g n := by
  obtain ⟨gs, lf, tn, bl, h1, h2, h3⟩ := h
  exact ⟨gs, lf, tn, bl, e _ _ h1, e _ _ h2, h3⟩
theorem Bag.more {H : Hp} {b g : Addr} {n m : Nat} (h : Bag H b g n) (l : n ≤ m) : Bag H b g m := by
  obtain ⟨gs, lf, tn, bl, h1, h2, h3, h4, h5, h6⟩ := h
  exact ⟨gs, lf, tn, bl, h1, h2, h3, h4, by omega, h6⟩
theorem n_gl : ¬ (Sum.inr "great" : L2.Key) = .inr "left" := by decide +kernel
theorem n_gt : ¬ (Sum.inr "great" : L2.Key) = .inr "turn" := by decide +kernel
theorem n_lt : ¬ (Sum.inr "left" : L2.Key) = .inr "turn" := by decide +kernel
theorem n_gb : ¬ (Sum.inr "great" : L2.Key) = .inr "blend" := by decide +kernel
theorem n_lb : ¬ (Sum.inr "left" : L2.Key) = .inr "blend" := by decide +kernel
theorem n_tb : ¬ (Sum.inr "turn" : L2.Key) = .inr "blend" := by decide +kernel
theorem small_n {n : Nat} (h : n ≤ 1000) : n < sizeLine := by
  rw [sizeLine_eq]
  omega
theorem val_great (g : Addr) (lf tn bl : Int) : valV (bagK g lf tn bl) (.inr "great" : L2.Key) = some (.ref g) := valV_pos rfl
theorem val_left (g : Addr) (lf tn bl : Int) : valV (bagK g lf tn bl) (.inr "left" : L2.Key) = some (.int lf) := (valV_neg n_gl).trans (valV_pos rfl)
theorem val_turn (g : Addr) (lf tn bl : Int) : valV (bagK g lf tn bl) (.inr "turn" : L2.Key) = some (.int tn) := (valV_neg n_gt).trans ((valV_neg n_lt).trans (valV_pos rfl))
theorem val_blend (g : Addr) (lf tn bl : Int) : valV (bagK g lf tn bl) (.inr "blend" : L2.Key) = some (.int bl) :=
  (valV_neg n_gb).trans ((valV_neg n_lb).trans ((valV_neg n_tb).trans (valV_pos rfl)))
theorem get_great {H : Hp} {b g : Addr} {lf tn bl : Int} (h : H b = some (.dK (bagK g lf tn bl))) : DGet H b (.str "great") (some (.ref g)) := val_great g lf tn bl ▸ DGet.k (k := .inr "great") h
theorem get_left {H : Hp} {b g : Addr} {lf tn bl : Int} (h : H b = some (.dK (bagK g lf tn bl))) : DGet H b (.str "left") (some (.int lf)) := val_left g lf tn bl ▸ DGet.k (k := .inr "left") h
theorem get_turn {H : Hp} {b g : Addr} {lf tn bl : Int} (h : H b = some (.dK (bagK g lf tn bl))) : DGet H b (.str "turn") (some (.int tn)) := val_turn g lf tn bl ▸ DGet.k (k := .inr "turn") h
theorem get_blend {H : Hp} {b g : Addr} {lf tn bl : Int} (h : H b = some (.dK (bagK g lf tn bl))) : DGet H b (.str "blend") (some (.int bl)) := val_blend g lf tn bl ▸ DGet.k (k := .inr "blend") h
theorem put_left (g : Addr) (lf tn bl v : Int) : putK (bagK g lf tn bl) (.inr "left" : L2.Key) (.int v) = bagK g v tn bl := by
  unfold putK bagK
  rfl
theorem put_turn (g : Addr) (lf tn bl v : Int) : putK (bagK g lf tn bl) (.inr "turn" : L2.Key) (.int v) = bagK g lf v bl := by
  unfold putK bagK
  rfl
theorem dput_left {H : Hp} {b g : Addr} {lf tn bl : Int} (v : Int) (h : H b = some (.dK (bagK g lf tn bl))) : DPut H b (.str "left") (.int v) (upd H b (.dK (bagK g v tn bl))) := put_left g lf tn bl v ▸ DPut.k (k := .inr "left") h (by show 4 < sizeLine; decide)
theorem dput_turn {H : Hp} {b g : Addr} {lf tn bl : Int} (v : Int) (h : H b = some (.dK (bagK g lf tn bl))) : DPut H b (.str "turn") (.int v) (upd H b (.dK (bagK g lf v bl))) := put_turn g lf tn bl v ▸ DPut.k (k := .inr "turn") h (by show 4 < sizeLine; decide)
def spBag (K : PySem.W.Frag) : Sp := fun vs H Q _ => ∃ (a : Addr) (ns : List Int), vs = [.ref a] ∧ SqL K H a (ns.map V.int) ∧ ns.length ≤ 63 ∧
  ∀ (H' : Hp) (b g : Addr), Same H H' → H b = none → H g = none → Bag H' b g 0 → Q (.ref b) H'
def spBdraw : Sp := fun vs H Q _ => ∃ (b g : Addr) (n : Nat) (many : Int), vs = [.ref b, .int many] ∧ Bag H b g n ∧ n < 2 ^ 40 ∧ 0 < many ∧ many.natAbs.log2 < 9000 ∧
  ∀ (H' : Hp) (r : Int), Keep b g H H' → Bag H' b g (n + 1) → 0 ≤ r → r < many → Q (.int r) H'
structure TxtC (mg : Str → Option Value) : Prop where
  abs : mg "abs" = none
  len : mg "len" = none
  range : mg "range" = none
  min : mg "min" = none
  max : mg "max" = none
  int : mg "int" = none
  list : mg "list" = none
section
variable {P : Program} {w : World} {K : PySem.W.Frag} {mg : Str → Option Value} {base : Heap}
theorem sc_law_bag : FnScope ["script", "blend", "great", "cell"] ["script"] (defScope s_bag) := ⟨rfl, rfl, rfl, by decide +kernel, rfl, by decide +kernel, by decide +kernel⟩
theorem ok_bag {f : Addr} {fd : FuncData} (F : Fun K "_law_bag" "_law_bag" s_bag f fd) (T : TxtC mg) : FnOk P w K mg base CX0 1 f fd ["script"] (spBag K) := by
  refine F.ok sc_law_bag (fun vs H Q E h => ?_) (fun cdv A outer s H vs Q E hr h => ?_)
  · obtain ⟨a, ns, rfl, _⟩ := h
    rfl
  · obtain ⟨a, ns, rfl, hS, hlen, k⟩ := h
    refine ⟨_, (pss_cons (ps_par (i := 1) (j := 2) rfl sc_law_bag.nd rfl rfl (by decide) rfl rfl (pa_cons pe_int (pa_cons (pe_lst pa_nil) pa_nil)) (by rfl))
      (pss_cons (ps_for PassesOwn.never rfl (pi_list (pv 0)) (pg_name (i := 3) sc_law_bag.nd rfl (Or.inl rfl)) (pss_cons (ps_set (i := 1) sc_law_bag.nd rfl (Or.inl rfl) (pe_op op_mod (pe_op op_add (pe_op op_mulW (pv 1) pe_int) (pv 3)) pe_int))
      (pss_one (ps_if (pt_cmpR op_ge (pe_callB call_abs (by rfl) T.abs (by decide +kernel) (pa_cons (pv 3) pa_nil)) (pe_op op_pow pe_int pe_int) (nomark _)) (pss_one (ps_expr (pe_bm PySem.F.plainAttrs_list PySem.F.slot_list_append PySem.F.type_list_append mt_append (pv 2) (pa_cons (pe_callB call_abs (by rfl) T.abs (by decide +kernel) (pa_cons (pv 3) pa_nil)) pa_nil)))) pss_nil))))
      (pss_one (ps_ret (pe_disp (pps_cons pe_str (pv 2) (pps_cons pe_str pe_int (pps_cons pe_str pe_int (pps_cons pe_str (pv 1) pps_nil)))) rfl rfl (by simp) (by decide)))))), ?_⟩
    refine ⟨Nat.zero_le _, fun g hg => ?_⟩
    have s0 : Same H (upd H g (.lst [])) := same_upd (Same.refl _) hg
    refine ⟨_, _, rfl, ?_⟩
    refine ⟨_, rfl, a, rfl, ⟨_, s0.seq hS⟩, for_list (K := K) (a := a) (xs := ns.map V.int) (fun i σ H' => ∃ (bl : Int) (gs : List Int) (v3 : Option V), σ = [some (.ref a), some (.int bl), some (.ref g), v3] ∧ Same H H' ∧ H' g = some (.lst (gs.map V.int)) ∧ gs.length ≤ i ∧ 0 ≤ bl ∧ bl < 2 ^ 61)
      ⟨11, [], none, rfl, s0, upd_same, Nat.le_refl _, by decide, by decide⟩ (fun i σ H' _ ⟨_, _, _, _, e, _⟩ => e.seq hS) (fun i y σ H1 hi h => ?_) (fun σ H1 h => ?_)⟩
    · obtain ⟨bl, gs, v3, rfl, e1, hg1, gl, b0, b1⟩ := h
      obtain ⟨u, rfl⟩ := int_at hi
      have li := (List.getElem?_eq_some_iff.mp hi).1
      rw [List.length_map] at li
      have n1 := Int.emod_nonneg (bl * 1000003 + u) (show (2305843009213693951 : Int) ≠ 0 by decide)
      have n2 := Int.emod_lt_of_pos (bl * 1000003 + u) (show (0 : Int) < 2305843009213693951 by decide)
      have n3 : (2305843009213693951 : Int) < 2 ^ 61 := by decide
      refine ⟨_, rfl, _, _, rfl, rfl, wide_mul (a := 61) (b := 61) (by omega) (by decide) (by decide) (by decide) (by decide), _, rfl, _, _, rfl, rfl, _, _, rfl, rfl, (show (0 : Int) < 2305843009213693951 by decide), ?_⟩
      refine ⟨_, rfl, _, rfl, ?_⟩
      generalize (if u < 0 then -u else u) = z
      refine ⟨_, _, rfl, rfl, cpow (by decide), _, _, rfl, rfl, _, rfl, ite2 (fun _ => ?_) (fun _ => ?_)⟩
      · refine ⟨_, rfl, .inl ⟨rfl, _, SqL.of hg1⟩, _, rfl, _, rfl, g, _, _, rfl, rfl, hg1, small_n (by rw [List.length_map]; omega), ?_⟩
        generalize (if u < 0 then -u else u) = z2
        refine ⟨_, gs ++ [z2], _, rfl, same_freeU e1 hg, ?_, ?_, n1, by omega⟩
        · rw [upd_same, List.map_append]
          rfl
        · rw [List.length_append, List.length_singleton]
          omega
      · exact ⟨_, gs, _, rfl, e1, hg1, by omega, n1, by omega⟩
    · obtain ⟨bl, gs, v3, rfl, e1, hg1, gl, b0, b1⟩ := h
      refine fun p hp => ⟨_, rfl, _, rfl, upd_same, bagK g 0 0 bl, rfl, (by show 4 ≤ 15; decide), ?_⟩
      have gp : g ≠ p := ne_of_none hg1 hp
      refine k _ p g ?_ (e1.free hp) hg ⟨gs, 0, 0, bl, upd_same, ?_, ?_, by decide, by decide, b0, b1⟩
      · exact same_freeU (same_upd e1 hp) (e1.free hp)
      · rw [upd_ne gp, upd_ne gp]
        exact hg1
      · rw [List.length_map] at gl
        omega
theorem sc_law_draw : FnScope ["bag", "many", "drawn", "turn", "mixed"] ["bag", "many"] (defScope s_bdraw) := ⟨rfl, rfl, rfl, by decide +kernel, rfl, by decide +kernel, by decide +kernel⟩
theorem ok_bdraw {f : Addr} {fd : FuncData} (F : Fun K "_law_draw" "_law_draw" s_bdraw f fd) (T : TxtC mg) : FnOk P w K mg base CX0 1 f fd ["bag", "many"] spBdraw := by
  refine F.ok sc_law_draw (fun vs H Q E h => ?_) (fun cdv A outer s H vs Q E hr h => ?_)
  · obtain ⟨b, g, n, many, rfl, _⟩ := h
    rfl
  · obtain ⟨b, g, n, many, rfl, hs, hn, m0, mb, k⟩ := h
    have bg := hs.ne
    obtain ⟨gs, lf, tn, bl, hb, hg, gl, t0, t1, b0, b1⟩ := hs
    refine ⟨_, (C8.pss_cut (ps_if (PW.pt (pw_and (pt_cmpR op_lt (pe_dget (hu_of hr) (pv 0) pe_str (fun _ _ => rfl)) (pv 1) (nomark _)) (pw_and1 (pt_cmpR op_gt (pe_callB call_len_seq (by rfl) T.len (by decide +kernel) (pa_cons (pe_dget (hu_of hr) (pv 0) pe_str (fun _ _ => rfl)) pa_nil)) pe_int (nomark _))))) (pss_one (ps_dput (hu_of hr) (pv 0) pe_str (pe_bm PySem.F.plainAttrs_list PySem.F.slot_list_pop PySem.F.type_list_pop mt_popAt (pe_dget (hu_of hr) (pv 0) pe_str (fun _ _ => rfl)) (pa_cons pe_int pa_nil)) rfl)) pss_nil)
      (pss_cons (ps_if (pt_cmpR op_ge (pe_dget (hu_of hr) (pv 0) pe_str (fun _ _ => rfl)) (pv 1) (nomark _)) (pss_cons (ps_set (i := 2) sc_law_draw.nd rfl (Or.inl rfl) (pe_op op_mod (pe_dget (hu_of hr) (pv 0) pe_str (fun _ _ => rfl)) (pv 1)))
      (pss_cons (ps_dput (hu_of hr) (pv 0) pe_str (pe_op op_fdivW (pe_dget (hu_of hr) (pv 0) pe_str (fun _ _ => rfl)) (pv 1)) rfl)
      (pss_one (ps_ret (pv 2))))) pss_nil)
      (pss_cons (ps_daug (hu_of hr) (pv 0) pe_str pe_int in_add (fun _ _ _ => rfl))
      (pss_cons (ps_set (i := 3) sc_law_draw.nd rfl (Or.inl rfl) (pe_dget (hu_of hr) (pv 0) pe_str (fun _ _ => rfl)))
      (pss_cons (ps_set (i := 4) sc_law_draw.nd rfl (Or.inl rfl) (pe_op op_add (pe_op op_mulW (pe_op op_add (pe_dget (hu_of hr) (pv 0) pe_str (fun _ _ => rfl)) (pe_op op_mulW pe_int (pv 3))) (pe_op op_pow (pe_op op_add (pv 3) pe_int) pe_int)) (pe_op op_mulW pe_int (pv 3))))
      (pss_one (ps_ret (pe_op op_mod (pe_op op_fdivW (pe_op op_mod (pe_op op_pow (pe_op op_mod (pv 4) pe_int) pe_int) (pe_op op_add (pe_op op_pow pe_int pe_int) pe_int)) pe_int) (pv 1))))))))), ?_⟩
    refine ⟨fun σ H' => σ = [some (.ref b), some (.int many), none, none, none] ∧ Keep b g H H' ∧ ∃ (gs : List Int) (lf : Int), H' b = some (.dK (bagK g lf tn bl)) ∧ H' g = some (.lst (gs.map V.int)) ∧ gs.length ≤ 63, ?_, ?_⟩
    · refine ⟨_, rfl, b, _, rfl, get_left hb, _, rfl, _, _, rfl, rfl, _, rfl, ite2 (fun c => ?_) (fun c => ?_)⟩
      · refine ⟨_, rfl, b, _, rfl, get_great hb, g, _, rfl, .inl (SqL.of hg), _, _, rfl, rfl, _, rfl, ite2 (fun c2 => ?_) (fun c2 => ?_)⟩
        · cases gs with
          | nil => simp at c2
          | cons g0 gr =>
            refine ⟨_, rfl, b, _, rfl, get_great hb, .inl ⟨rfl, _, SqL.of hg⟩, g, _, 0, 0, V.int g0, rfl, rfl, hg, by decide, by decide, seqIndex_of (by decide) (by simp), rfl, ?_⟩
            have hb1 : upd H g (.lst (((g0 :: gr).map V.int).eraseIdx 0)) b = some (.dK (bagK g lf tn bl)) := by
              rw [upd_ne bg]
              exact hb
            refine ⟨_, rfl, b, _, rfl, dput_left g0 hb1, ?_⟩
            refine ⟨rfl, ?_, gr, g0, upd_same, ?_, ?_⟩
            · exact fun x o n1 n2 hx => by rw [upd_ne n1, upd_ne n2]; exact hx
            · rw [upd_ne bg.symm, upd_same]
              rfl
            · rw [List.length_cons] at gl
              omega
        · exact ⟨rfl, Keep.refl H, gs, lf, hb, hg, gl⟩
      · exact iteF ⟨rfl, Keep.refl H, gs, lf, hb, hg, gl⟩
    · rintro σ H1 ⟨rfl, kp, gs1, lf1, hb1, hg1, gl1⟩
      refine ⟨_, rfl, b, _, rfl, get_left hb1, _, rfl, _, _, rfl, rfl, _, rfl, ite2 (fun c => ?_) (fun c => ?_)⟩
      · refine ⟨_, rfl, b, _, rfl, get_left hb1, _, rfl, _, _, rfl, rfl, m0, ?_⟩
        refine ⟨_, rfl, b, _, rfl, get_left hb1, _, rfl, _, _, rfl, rfl, ⟨m0, mb⟩, ?_⟩
        refine ⟨_, rfl, b, _, rfl, dput_left _ hb1, ?_⟩
        refine ⟨_, rfl, k _ _ (kp.trans ((Keep.refl H1).upd1 (a := b) (d := g))) ⟨gs1, _, tn, bl, upd_same, ?_, gl1, t0, by omega, b0, b1⟩ (Int.emod_nonneg _ (by omega)) (Int.emod_lt_of_pos _ m0)⟩
        rw [upd_ne bg.symm]
        exact hg1
      · -- bag['turn'] += 1
        refine ⟨_, rfl, b, _, rfl, get_turn hb1, _, _, rfl, rfl, _, dput_turn _ hb1, ?_⟩
        have hb2 : upd H1 b (.dK (bagK g lf1 (tn + 1) bl)) b = some (.dK (bagK g lf1 (tn + 1) bl)) := upd_same
        have hg2 : upd H1 b (.dK (bagK g lf1 (tn + 1) bl)) g = some (.lst (gs1.map V.int)) := by
          rw [upd_ne bg.symm]
          exact hg1
        have kp2 : Keep b g H (upd H1 b (.dK (bagK g lf1 (tn + 1) bl))) := kp.trans ((Keep.refl H1).upd1 (a := b) (d := g))
        generalize upd H1 b (.dK (bagK g lf1 (tn + 1) bl)) = H2 at hb2 hg2 kp2 ⊢
        refine ⟨_, rfl, b, _, rfl, get_turn hb2, ?_⟩
        have t2 : tn + 1 < 2 ^ 41 := by omega
        refine ⟨_, rfl, b, _, rfl, get_blend hb2, _, rfl, _, _, rfl, rfl, wide_mul (a := 61) (b := 61) (by decide) (by omega) (by decide) (by decide) (by decide), _, _, rfl, rfl, _, rfl, _, _, rfl, rfl, _, _, rfl, rfl, ⟨by decide, by decide, by omega⟩,
          _, _, rfl, rfl, wide_mul (a := 64) (b := 128) (by omega) (pow_small (a := 42) (k := 2) (b := 128) (by omega) (by decide)) (by decide) (by decide) (by decide), _, rfl, _, _, rfl, rfl, wide_mul (a := 61) (b := 61) (by decide) (by omega) (by decide) (by decide) (by decide), _, _, rfl, rfl, ?_⟩
        generalize (bl + 17 * (tn + 1)) * (tn + 1 + 29) ^ (2 : Int).toNat + 7919 * (tn + 1) = mx
        have n1 := Int.emod_nonneg mx (show (2305843009213693951 : Int) ≠ 0 by decide)
        have n2 := Int.emod_lt_of_pos mx (show (0 : Int) < 2305843009213693951 by decide)
        refine ⟨_, rfl, _, _, rfl, rfl, (show (0 : Int) < 2305843009213693951 by decide), _, _, rfl, rfl, ⟨by decide, by decide, by omega⟩, _, _, rfl, rfl, cpow (by decide), _, _, rfl, rfl, _, _, rfl, rfl, (show (0 : Int) < 10 ^ (18 : Int).toNat + 9 by decide), _, _, rfl, rfl, ⟨by decide, by decide⟩, _, rfl, _, _, rfl, rfl, m0, ?_⟩
        exact k _ _ kp2 ⟨gs1, lf1, tn + 1, bl, hb2, hg2, gl1, by omega, by omega, b0, b1⟩ (Int.emod_nonneg _ (by omega)) (Int.emod_lt_of_pos _ m0)
end
end Gc

/-! lists of commands drawn from the bag -/
namespace Gc
open PySem L2
abbrev s_moves : Stmt := top 41
theorem Keep.freeB {a d l : Addr} {H H' : Hp} {o : HO} (e : Keep a d H H') (h : H l = none) : Keep a d H (upd H' l o) := fun b u h1 h2 hb => by
  rw [upd_ne (ne_of_none hb h)]
  exact e b u h1 h2 hb
theorem Keep.tup {K : PySem.W.Frag} {H H' : Hp} {b g a : Addr} {n : Nat} {ys : List V} (e : Keep b g H H') (B : Bag H b g n) (h : SqT K H a ys) : SqT K H' a ys := by
  obtain ⟨_, _, _, _, h1, h2, _⟩ := B
  rcases h with (z | ⟨o, z⟩) | z
  · exact .inl (.inl (e _ _ (ne_of z h1 (by intro q; cases q)) (ne_of z h2 (by intro q; cases q)) z))
  · exact .inl (.inr ⟨o, e _ _ (ne_of z h1 (by intro q; cases q)) (ne_of z h2 (by intro q; cases q)) z⟩)
  · exact .inr z
theorem CmdAt.keepB {K : PySem.W.Frag} {H H' : Hp} {b g : Addr} {n : Nat} {v : V} {c : Cmd} (e : Keep b g H H') (B : Bag H b g n) (h : CmdAt K H v c) : CmdAt K H' v c := by
  obtain ⟨a, e1, h1⟩ := h
  exact ⟨a, e1, e.tup B h1⟩
theorem CmdsOf.keepB {K : PySem.W.Frag} {H H' : Hp} {b g : Addr} {n : Nat} {xs : List V} {cs : List Cmd} (e : Keep b g H H') (B : Bag H b g n) (h : CmdsOf K H xs cs) : CmdsOf K H' xs cs := Paired.mapP h fun _ _ q => q.keepB e B
theorem CmdsOf.lput {K : PySem.W.Frag} {H : Hp} {l : Addr} {ys zs : List V} {xs : List V} {cs : List Cmd} (hl : H l = some (.lst ys)) (h : CmdsOf K H xs cs) : CmdsOf K (upd H l (.lst zs)) xs cs := Paired.mapP h fun _ _ q => by
  obtain ⟨a, e1, h1⟩ := q
  refine ⟨a, e1, ?_⟩
  rcases h1 with (z | ⟨o, z⟩) | z
  · exact .inl (.inl (by rw [upd_ne (ne_of z hl (by intro q; cases q))]; exact z))
  · exact .inl (.inr ⟨o, by rw [upd_ne (ne_of z hl (by intro q; cases q))]; exact z⟩)
  · exact .inr z
theorem Paired.snocB {α β : Type} {F : α → β → Prop} : ∀ {xs : List α} {ys : List β} {x : α} {y : β}, Paired F xs ys → F x y → Paired F (xs ++ [x]) (ys ++ [y])
  | _, _, _, _, .nil, h => .cons h .nil
  | _, _, _, _, .cons f t, h => .cons f (Paired.snocB t h)
/-- H l = none before the bag's address was taken: they differ -/
theorem Bag.off {H : Hp} {b g l : Addr} {n : Nat} (B : Bag H b g n) (h : H l = none) : l ≠ b ∧ l ≠ g := by
  obtain ⟨_, _, _, _, h1, h2, _⟩ := B
  exact ⟨(ne_of_none h1 h).symm, (ne_of_none h2 h).symm⟩
def spMoves (K : PySem.W.Frag) : Sp := fun vs H Q _ => ∃ (b g : Addr) (n : Nat) (many far : Int), vs = [.ref b, .int many, .int far] ∧ Bag H b g n ∧ n < 2 ^ 39 ∧ 0 ≤ many ∧ many ≤ 20 ∧ 1 ≤ far ∧ far ≤ 10 ^ 30 ∧
  ∀ (H' : Hp) (l : Addr) (xs : List V) (cs : List Cmd), Keep b g H H' → Bag H' b g (n + 130) → H l = none → H' l = some (.lst xs) → CmdsOf K H' xs cs → AllOk cs → (∀ c ∈ cs, CSml c) → (cs.length : Int) ≤ many → Q (.ref l) H'
theorem log9B {x : Int} {k : Nat} (h : x.natAbs < 2 ^ k) (hk : k < 9000) : x.natAbs.log2 < 9000 := by
  have := PySem.Flt.log2_lt_of (k := k + 1) (Nat.succ_pos _) (Nat.lt_trans h (Nat.pow_lt_pow_right (by decide) (Nat.lt_succ_self k)))
  omega
def MI (K : PySem.W.Frag) (H : Hp) (b g l : Addr) (n i : Nat) (H' : Hp) (xs : List V) (cs : List Cmd) : Prop := Keep b g H H' ∧ Bag H' b g (n + 1 + 6 * i) ∧ H' l = some (.lst xs) ∧ CmdsOf K H' xs cs ∧ AllOk cs ∧ cs.length ≤ i ∧ ∀ c ∈ cs, CSml c
theorem mi_step {K : PySem.W.Frag} {H H1 H6 : Hp} {b g l t : Addr} {n i : Nat} {xs : List V} {cs : List Cmd} {c : Cmd} (lb : l ≠ b) (lg : l ≠ g) (hl0 : H l = none) (h : MI K H b g l n i H1 xs cs) (k : Keep b g H1 H6) (B : Bag H6 b g (n + 1 + 6 * i + 6))
    (ht : H6 t = none) (ok : c.ok) (sm : CSml c) : MI K H b g l n (i + 1) (upd (upd H6 t (.tup (encC c))) l (.lst (xs ++ [.ref t]))) (xs ++ [.ref t]) (cs ++ [c]) := by
  obtain ⟨a1, a2, a3, a4, a5, a6, a7⟩ := h
  have b3 := k _ _ lb lg a3
  have tl : t ≠ l := (ne_of_none b3 ht).symm
  have s1 : Same H6 (upd H6 t (.tup (encC c))) := same_upd (Same.refl H6) ht
  have b3' := s1 _ _ b3
  refine ⟨fun x o n1 n2 hx => ?_, ?_, upd_same, Paired.snocB (((a4.keepB k a2).same s1).lput b3') ⟨t, rfl, SqT.of ?_⟩, ?_, ?_, ?_⟩
  · rw [upd_ne (ne_of_none hx hl0)]
    exact s1 _ _ (k _ _ n1 n2 (a1 _ _ n1 n2 hx))
  · obtain ⟨gs, lf, tn, bl, h1, h2, h3, h4, h5, h6⟩ := B
    exact ⟨gs, lf, tn, bl, by rw [upd_ne lb.symm]; exact s1 _ _ h1, by rw [upd_ne lg.symm]; exact s1 _ _ h2, h3, h4, by omega, h6⟩
  · rw [upd_ne tl]
    exact upd_same
  · intro d hd
    rcases List.mem_append.mp hd with q | q
    · exact a5 d q
    · rw [List.mem_singleton.mp q]
      exact ok
  · rw [List.length_append, List.length_singleton]
    omega
  · intro d hd
    rcases List.mem_append.mp hd with q | q
    · exact a7 d q
    · rw [List.mem_singleton.mp q]
      exact sm
section
variable {P : Program} {w : World} {K : PySem.W.Frag} {mg : Str → Option Value} {base : Heap}
theorem sc_law_moves : FnScope ["bag", "many", "far", "found", "number", "way", "size"] ["bag", "many", "far"] (defScope s_moves) := ⟨rfl, rfl, rfl, by decide +kernel, rfl, by decide +kernel, by decide +kernel⟩
theorem ok_moves {f : Addr} {fd : FuncData} (F : Fun K "_law_moves" "_law_moves" s_moves f fd) (T : TxtC mg) (c_law_draw : Cal P w K mg base 1 "_law_draw" spBdraw) : FnOk P w K mg base CX0 2 f fd ["bag", "many", "far"] (spMoves K) := by
  refine F.ok sc_law_moves (fun vs H Q E h => ?_) (fun cdv A outer s H vs Q E hr h => ?_)
  · obtain ⟨b, g, n, many, far, rfl, _⟩ := h
    rfl
  · obtain ⟨b, g, n, many, far, rfl, B, hn, m0, m1, z0, z1, k⟩ := h
    refine ⟨_, (pss_cons (ps_set (i := 3) sc_law_moves.nd rfl (Or.inl rfl) (pe_lst pa_nil))
      (pss_cons (ps_for PassesOwn.never rfl (pi_range1 rfl T.range (pa_cons (pe_cal c_law_draw hr (by decide) (by rfl) (pa_cons (pv 0) (pa_cons (pe_op op_add (pv 1) pe_int) pa_nil))) pa_nil)) (pg_name (i := 4) sc_law_moves.nd rfl (Or.inl rfl)) (pss_cons (ps_set (i := 5) sc_law_moves.nd rfl (Or.inl rfl) (pe_cal c_law_draw hr (by decide) (by rfl) (pa_cons (pv 0) (pa_cons pe_int pa_nil))))
      (pss_cons (ps_set (i := 6) sc_law_moves.nd rfl (Or.inl rfl) (pe_op op_add pe_int (pe_ix ix_tup (pe_tup (pa_cons (pe_cal c_law_draw hr (by decide) (by rfl) (pa_cons (pv 0) (pa_cons pe_int pa_nil))) (pa_cons (pe_cal c_law_draw hr (by decide) (by rfl) (pa_cons (pv 0) (pa_cons (pv 2) pa_nil))) pa_nil))) (pe_cal c_law_draw hr (by decide) (by rfl) (pa_cons (pv 0) (pa_cons pe_int pa_nil))) (fun _ _ => rfl))))
      (pss_one (ps_if (pt_cmpR op_lt (pv 5) pe_int (nomark _)) (pss_one (ps_expr (pe_bm PySem.F.plainAttrs_list PySem.F.slot_list_append PySem.F.type_list_append mt_append (pv 3) (pa_cons (pe_tup (pa_cons pe_str (pa_cons (pv 6) pa_nil))) pa_nil)))) (pss_one (ps_if (pt_cmpR op_lt (pv 5) pe_int (nomark _)) (pss_one (ps_expr (pe_bm PySem.F.plainAttrs_list PySem.F.slot_list_append PySem.F.type_list_append mt_append (pv 3) (pa_cons (pe_tup (pa_cons pe_str (pa_cons (pv 6) pa_nil))) pa_nil)))) (pss_one (ps_if (pt_cmpR op_lt (pv 5) pe_int (nomark _)) (pss_one (ps_expr (pe_bm PySem.F.plainAttrs_list PySem.F.slot_list_append PySem.F.type_list_append mt_append (pv 3) (pa_cons (pe_tup (pa_cons (pe_ix ix_tup (pe_tup (pa_cons pe_str (pa_cons pe_str pa_nil))) (pe_op op_mod (pv 5) pe_int) (fun _ _ => rfl)) (pa_cons (pe_op op_add pe_int (pe_cal c_law_draw hr (by decide) (by rfl) (pa_cons (pv 0) (pa_cons (pe_ix ix_tup (pe_tup (pa_cons pe_int (pa_cons pe_int (pa_cons pe_int pa_nil)))) (pe_cal c_law_draw hr (by decide) (by rfl) (pa_cons (pv 0) (pa_cons pe_int pa_nil))) (fun _ _ => rfl)) pa_nil)))) pa_nil))) pa_nil)))) (pss_one (ps_expr (pe_bm PySem.F.plainAttrs_list PySem.F.slot_list_append PySem.F.type_list_append mt_append (pv 3) (pa_cons (pe_ix ix_tup (pe_tup (pa_cons (pe_tup (pa_cons pe_str pa_nil)) (pa_cons (pe_tup (pa_cons pe_str pa_nil)) pa_nil))) (pe_op op_sub (pv 5) pe_int) (fun _ _ => rfl)) pa_nil)))))))))))))
      (pss_one (ps_ret (pv 3))))), ?_⟩
    refine ⟨Nat.zero_le _, fun l hl => ?_⟩
    obtain ⟨lb, lg⟩ := B.off hl
    have eA : Same H (upd H l (.lst [])) := same_upd (Same.refl H) hl
    refine ⟨_, rfl, _, rfl, _, _, rfl, rfl, b, g, n, _, rfl, B.same eA, by omega, by omega, log9B (k := 10) (by omega) (by decide), fun H1 turns kp1 B1 t0 t1 => ?_⟩
    have kH : Keep b g H H1 := (Keep.of eA).trans kp1
    have hl1 : H1 l = some (.lst []) := kp1 _ _ lb lg upd_same
    refine ⟨_, rfl, by omega, by omega, for_range (lo := 0) (fun i σ H' => ∃ (v4 v5 v6 : Option V) (xs : List V) (cs : List Cmd), σ = [some (.ref b), some (.int many), some (.int far), some (.ref l), v4, v5, v6] ∧ MI K H b g l n i H' xs cs)
      ⟨none, none, none, [], [], rfl, kH, B1, hl1, .nil, (fun _ h => nomatch h), Nat.le_refl _, (fun _ h => nomatch h)⟩ (fun i σ H2 hi h => ?_) (fun σ H2 h => ?_)⟩
    · obtain ⟨v4, v5, v6, xs, cs, rfl, h⟩ := h
      have hi' : i < 21 := by omega
      obtain ⟨a1, a2, a3, a4, a5, a6, a7⟩ := id h
      have xl : xs.length ≤ 1000 := by
        rw [a4.len]
        omega
      -- way
      refine ⟨_, rfl, b, g, _, 12, rfl, a2, by omega, by decide, by decide, fun H3 kd kp3 B3 k0 k1 => ?_⟩
      -- size
      refine ⟨_, rfl, b, g, _, 3, rfl, B3, by omega, by decide, by decide, fun H4 d4 kp4 B4 d40 d41 => ?_⟩
      refine ⟨_, rfl, _, rfl, b, g, _, far, rfl, B4, by omega, by omega, log9B (k := 110) (by omega) (by decide), fun H5 d5 kp5 B5 d50 d51 => ?_⟩
      refine ⟨(by show 2 ≤ sizeLine; decide), fun q hq => ?_⟩
      have sq : Same H5 (upd H5 q (.tup [.int d4, .int d5])) := same_upd (Same.refl _) hq
      obtain ⟨qb, qg⟩ := B5.off hq
      refine ⟨_, rfl, b, g, _, 2, rfl, B5.same sq, by omega, by decide, by decide, fun H6 d6 kp6 B6 d60 d61 => ?_⟩
      have hq6 := kp6 _ _ qb qg (upd_same (H := H5) (a := q) (o := .tup [.int d4, .int d5]))
      obtain ⟨sz, hsz, s1, s1b⟩ : ∃ sz : Int, atI [V.int d4, .int d5] d6 = some (.int sz) ∧ 0 ≤ sz ∧ sz ≤ 10 ^ 30 := by
        rcases (show d6 = 0 ∨ d6 = 1 by omega) with rfl | rfl
        · exact ⟨d4, rfl, d40, by omega⟩
        · exact ⟨d5, rfl, d50, by omega⟩
      refine ⟨q, _, d6, _, rfl, rfl, SqT.of hq6, hsz, _, _, rfl, rfl, ?_⟩
      have k26 : Keep b g H2 H6 := (((kp3.trans kp4).trans kp5).trans (Keep.of sq)).trans kp6
      have l6 := k26 _ _ lb lg a3
      refine ⟨_, rfl, _, _, rfl, rfl, _, rfl, ite2 (fun c => ?_) (fun c => ?_)⟩
      · refine ⟨_, rfl, .inl ⟨rfl, _, SqL.of l6⟩, _, rfl, (by show 2 ≤ sizeLine; decide), fun t ht => ?_⟩
        refine ⟨l, _, _, rfl, rfl, (same_upd (Same.refl H6) ht) _ _ l6, small_n xl, ?_⟩
        exact ⟨_, _, _, _, _, rfl, mi_step (c := .right (1 + sz)) lb lg hl h k26 (B6.more (by omega)) ht (by show 1 ≤ 1 + sz; omega) (by show (1 + sz).natAbs < 2 ^ 120; omega)⟩
      refine ⟨_, rfl, _, _, rfl, rfl, _, rfl, ite2 (fun c2 => ?_) (fun c2 => ?_)⟩
      · refine ⟨_, rfl, .inl ⟨rfl, _, SqL.of l6⟩, _, rfl, (by show 2 ≤ sizeLine; decide), fun t ht => ?_⟩
        refine ⟨l, _, _, rfl, rfl, (same_upd (Same.refl H6) ht) _ _ l6, small_n xl, ?_⟩
        exact ⟨_, _, _, _, _, rfl, mi_step (c := .left (1 + sz)) lb lg hl h k26 (B6.more (by omega)) ht (by show 1 ≤ 1 + sz; omega) (by show (1 + sz).natAbs < 2 ^ 120; omega)⟩
      have kd4 : ¬ kd < 4 := fun z => c (decide_eq_true z)
      have kd7 : ¬ kd < 7 := fun z => c2 (decide_eq_true z)
      refine ⟨_, rfl, _, _, rfl, rfl, _, rfl, ite2 (fun c3 => ?_) (fun c3 => ?_)⟩
      · refine ⟨_, rfl, .inl ⟨rfl, _, SqL.of l6⟩, (by show 2 ≤ sizeLine; decide), fun q2 hq2 => ?_⟩
        have s2 : Same H6 (upd H6 q2 (.tup [.str "down", .str "up"])) := same_upd (Same.refl _) hq2
        refine ⟨_, rfl, _, _, rfl, rfl, (show (0 : Int) < 2 by decide), ?_⟩
        rcases (show kd % 2 = 0 ∨ kd % 2 = 1 by omega) with e0 | e0
        · refine ⟨q2, _, _, _, rfl, rfl, SqT.of upd_same, (by rw [e0]; rfl), ?_⟩
          refine ⟨_, rfl, (by show 3 ≤ sizeLine; decide), fun q3 hq3 => ⟨_, rfl, b, g, _, 3, rfl, (B6.same s2).same (same_upd (Same.refl _) hq3), by omega, by decide, by decide, fun H7 d7 kp7 B7 d70 d71 => ?_⟩⟩
          obtain ⟨q3b, q3g⟩ := (B6.same s2).off hq3
          have hq37 := kp7 _ _ q3b q3g upd_same
          obtain ⟨lim, hlim, lim1, lim2⟩ : ∃ z : Int, atI [V.int 2, .int 2, .int 12] d7 = some (.int z) ∧ 1 ≤ z ∧ z ≤ 12 := by
            rcases (show d7 = 0 ∨ d7 = 1 ∨ d7 = 2 by omega) with rfl | rfl | rfl
            · exact ⟨2, rfl, by decide, by decide⟩
            · exact ⟨2, rfl, by decide, by decide⟩
            · exact ⟨12, rfl, by decide, by decide⟩
          refine ⟨q3, _, d7, _, rfl, rfl, SqT.of hq37, hlim, b, g, _, lim, rfl, B7, by omega, by omega, log9B (k := 10) (by omega) (by decide), fun H8 d8 kp8 B8 d80 d81 => ?_⟩
          have k28 : Keep b g H2 H8 := (((k26.trans (Keep.of s2)).trans (Keep.of (same_upd (Same.refl _) hq3))).trans kp7).trans kp8
          have l8 := k28 _ _ lb lg a3
          refine ⟨_, _, rfl, rfl, (by show 2 ≤ sizeLine; decide), fun t ht => ?_⟩
          refine ⟨l, _, _, rfl, rfl, (same_upd (Same.refl H8) ht) _ _ l8, small_n xl, ?_⟩
          exact ⟨_, _, _, _, _, rfl, mi_step (c := .down (1 + d8)) lb lg hl h k28 (B8.more (by omega)) ht (by show 1 ≤ 1 + d8; omega) (by show (1 + d8).natAbs < 2 ^ 120; omega)⟩
        · refine ⟨q2, _, _, _, rfl, rfl, SqT.of upd_same, (by rw [e0]; rfl), ?_⟩
          refine ⟨_, rfl, (by show 3 ≤ sizeLine; decide), fun q3 hq3 => ⟨_, rfl, b, g, _, 3, rfl, (B6.same s2).same (same_upd (Same.refl _) hq3), by omega, by decide, by decide, fun H7 d7 kp7 B7 d70 d71 => ?_⟩⟩
          obtain ⟨q3b, q3g⟩ := (B6.same s2).off hq3
          have hq37 := kp7 _ _ q3b q3g upd_same
          obtain ⟨lim, hlim, lim1, lim2⟩ : ∃ z : Int, atI [V.int 2, .int 2, .int 12] d7 = some (.int z) ∧ 1 ≤ z ∧ z ≤ 12 := by
            rcases (show d7 = 0 ∨ d7 = 1 ∨ d7 = 2 by omega) with rfl | rfl | rfl
            · exact ⟨2, rfl, by decide, by decide⟩
            · exact ⟨2, rfl, by decide, by decide⟩
            · exact ⟨12, rfl, by decide, by decide⟩
          refine ⟨q3, _, d7, _, rfl, rfl, SqT.of hq37, hlim, b, g, _, lim, rfl, B7, by omega, by omega, log9B (k := 10) (by omega) (by decide), fun H8 d8 kp8 B8 d80 d81 => ?_⟩
          have k28 : Keep b g H2 H8 := (((k26.trans (Keep.of s2)).trans (Keep.of (same_upd (Same.refl _) hq3))).trans kp7).trans kp8
          have l8 := k28 _ _ lb lg a3
          refine ⟨_, _, rfl, rfl, (by show 2 ≤ sizeLine; decide), fun t ht => ?_⟩
          refine ⟨l, _, _, rfl, rfl, (same_upd (Same.refl H8) ht) _ _ l8, small_n xl, ?_⟩
          exact ⟨_, _, _, _, _, rfl, mi_step (c := .up (1 + d8)) lb lg hl h k28 (B8.more (by omega)) ht (by show 1 ≤ 1 + d8; omega) (by show (1 + d8).natAbs < 2 ^ 120; omega)⟩
      · have kd10 : ¬ kd < 10 := fun z => c3 (decide_eq_true z)
        refine ⟨_, rfl, .inl ⟨rfl, _, SqL.of l6⟩, (by show 1 ≤ sizeLine; decide), fun t1 ht1 => ⟨(by show 1 ≤ sizeLine; decide), fun t2 ht2 => ⟨(by show 2 ≤ sizeLine; decide), fun q2 hq2 => ?_⟩⟩⟩
        have s1' : Same H6 (upd H6 t1 (.tup [.str "home"])) := same_upd (Same.refl _) ht1
        have s2' := s1'.trans (same_upd (Same.refl _) ht2 (o := .tup [.str "end"]))
        have s3' := s2'.trans (same_upd (Same.refl _) hq2 (o := .tup [.ref t1, .ref t2]))
        have h1e : upd (upd (upd H6 t1 (.tup [.str "home"])) t2 (.tup [.str "end"])) q2 (.tup [.ref t1, .ref t2]) t1 = some (.tup [.str "home"]) := (same_upd (same_upd (Same.refl _) ht2) hq2) _ _ upd_same
        have h2e : upd (upd (upd H6 t1 (.tup [.str "home"])) t2 (.tup [.str "end"])) q2 (.tup [.ref t1, .ref t2]) t2 = some (.tup [.str "end"]) := (same_upd (Same.refl _) hq2) _ _ upd_same
        have hqe : upd (upd (upd H6 t1 (.tup [.str "home"])) t2 (.tup [.str "end"])) q2 (.tup [.ref t1, .ref t2]) q2 = some (.tup [.ref t1, .ref t2]) := upd_same
        generalize upd (upd (upd H6 t1 (.tup [.str "home"])) t2 (.tup [.str "end"])) q2 (.tup [.ref t1, .ref t2]) = H7 at s3' h1e h2e hqe ⊢
        have k27 : Keep b g H2 H7 := k26.trans (Keep.of s3')
        have B7 := B6.same s3'
        have l7 := s3' _ _ l6
        have fin : ∀ (t : Addr) (c : Cmd), c.ok → CSml c → H7 t = some (.tup (encC c)) → t ≠ l → MI K H b g l n (i + 1) (upd H7 l (.lst (xs ++ [.ref t]))) (xs ++ [.ref t]) (cs ++ [c]) := fun t c ok sm ht tl => by
          refine ⟨fun x o n1 n2 hx => ?_, ?_, upd_same, Paired.snocB ((a4.keepB k27 a2).lput l7) ⟨t, rfl, SqT.of ?_⟩, ?_, ?_, ?_⟩
          · rw [upd_ne (ne_of_none hx hl)]
            exact k27 _ _ n1 n2 (a1 _ _ n1 n2 hx)
          · obtain ⟨gs, lf, tn, bl, g1, g2, g3, g4, g5, g6⟩ := B7
            exact ⟨gs, lf, tn, bl, by rw [upd_ne lb.symm]; exact g1, by rw [upd_ne lg.symm]; exact g2, g3, g4, by omega, g6⟩
          · rw [upd_ne tl]
            exact ht
          · intro d hd
            rcases List.mem_append.mp hd with q | q
            · exact a5 d q
            · rw [List.mem_singleton.mp q]
              exact ok
          · rw [List.length_append, List.length_singleton]
            omega
          · intro d hd
            rcases List.mem_append.mp hd with q | q
            · exact a7 d q
            · rw [List.mem_singleton.mp q]
              exact sm
        have t1l : t1 ≠ l := (ne_of_none l6 ht1).symm
        have t2l : t2 ≠ l := (ne_of_none (s1' _ _ l6) ht2).symm
        rcases (show kd - 10 = 0 ∨ kd - 10 = 1 by omega) with e0 | e0
        · refine ⟨_, rfl, _, _, rfl, rfl, q2, _, _, _, rfl, rfl, SqT.of hqe, (by rw [e0]; rfl), ?_⟩
          refine ⟨l, _, _, rfl, rfl, l7, small_n xl, ?_⟩
          exact ⟨_, _, _, _, _, rfl, fin t1 .home trivial trivial h1e t1l⟩
        · refine ⟨_, rfl, _, _, rfl, rfl, q2, _, _, _, rfl, rfl, SqT.of hqe, (by rw [e0]; rfl), ?_⟩
          refine ⟨l, _, _, rfl, rfl, l7, small_n xl, ?_⟩
          exact ⟨_, _, _, _, _, rfl, fin t2 .stop trivial trivial h2e t2l⟩
    · obtain ⟨v4, v5, v6, xs, cs, rfl, a1, a2, a3, a4, a5, a6, a7⟩ := h
      exact ⟨_, rfl, k _ l xs cs a1 (a2.more (by omega)) hl a3 a4 a5 a7 (by omega)⟩
end
end Gc

/-! the law's own running; the commands that stay in the text -/
namespace Gc
open PySem L2
abbrev s_end : Stmt := top 43
abbrev s_kept : Stmt := top 44
theorem atI_t {u v : V} {b : Bool} (h : b = true) : atI [u, v] (if b = true then (1 : Int) else 0) = some v := by
  subst h
  rfl
theorem atI_f {u v : V} {b : Bool} (h : b = false) : atI [u, v] (if b = true then (1 : Int) else 0) = some u := by
  subst h
  rfl
def spEnd (K : PySem.W.Frag) : Sp := fun vs H Q _ => ∃ (t b l : Addr) (T : List Int) (r : Int) (a : Option Int) (xs : List V) (cs : List Cmd), vs = [.ref t, .ref b, .ref l] ∧ SqL K H t (T.map V.int) ∧ SqT K H b [.int r, optV a] ∧ SqL K H l xs ∧ CmdsOf K H xs cs ∧ (∀ c ∈ cs, CSml c) ∧ 0 ≤ r ∧ r < T.length ∧
  (afterL T r a cs = none → ∀ H', Same H H' → Q .non H') ∧ ∀ r' a', afterL T r a cs = some (r', a') → ∀ (H' : Hp) (p : Addr), Same H H' → H p = none → H' p = some (.tup [.int r', optV a']) → Q (.ref p) H'
def spKept (K : PySem.W.Frag) : Sp := fun vs H Q _ => ∃ (spot many : Int) (l : Addr) (xs : List V) (cs : List Cmd), vs = [.int spot, .int many, .ref l] ∧ SqL K H l xs ∧ CmdsOf K H xs cs ∧ AllOk cs ∧ (∀ c ∈ cs, CSml c) ∧ cs.length ≤ 100 ∧ 0 ≤ spot ∧ spot < many ∧
  ∀ (H' : Hp) (p : Addr) (ys : List V) (ds : List Cmd), Same H H' → H p = none → H' p = some (.lst ys) → CmdsOf K H' ys ds → AllOk ds → (∀ c ∈ ds, CSml c) → ds.length ≤ cs.length → Within ds (-spot) (many - 1 - spot) → Q (.ref p) H'
theorem Within.snoc {cs : List Cmd} {c : Cmd} {lo hi : Int} (h : Within cs lo hi) (h0 : lo ≤ last cs + c.dv) (h1 : last cs + c.dv ≤ hi) : Within (cs ++ [c]) lo hi := fun i => by
  by_cases l : i ≤ cs.length
  · rw [List.take_append_of_le_length l]
    exact h i
  · rw [List.take_of_length_le (by rw [List.length_append, List.length_singleton]; omega), last_snoc]
    exact ⟨h0, h1⟩
section
variable {P : Program} {w : World} {K : PySem.W.Frag} {mg : Str → Option Value} {base : Heap}
theorem sc_law_end : FnScope ["page", "start", "moves", "spot", "aim", "command", "seen"] ["page", "start", "moves"] (defScope s_end) := ⟨rfl, rfl, rfl, by decide +kernel, rfl, by decide +kernel, by decide +kernel⟩
theorem ok_end {f : Addr} {fd : FuncData} (F : Fun K "_law_end" "_law_end" s_end f fd) (T : TxtC mg) : FnOk P w K mg base CX0 1 f fd ["page", "start", "moves"] (spEnd K) := by
  refine F.ok sc_law_end (fun vs H Q E h => ?_) (fun cdv A outer s H vs Q E hr h => ?_)
  · obtain ⟨t, b, l, T, r, a, xs, cs, rfl, _⟩ := h
    rfl
  · obtain ⟨t, b, l, tx, r, a, xs, cs, rfl, ht, hb, hl, hcs, sm, r0, r1, kn, ks⟩ := h
    refine ⟨_, (pss_cons (ps_asg (pv 1) (pg_tup rfl (pgs_cons (pg_name (i := 3) sc_law_end.nd rfl (Or.inl rfl)) (pgs_cons (pg_name (i := 4) sc_law_end.nd rfl (Or.inl rfl)) pgs_nil))))
      (pss_cons (ps_for PassesOwn.never rfl (pi_list (pv 2)) (pg_name (i := 5) sc_law_end.nd rfl (Or.inl rfl)) (pss_one (ps_if (pt_cmpR op_in_seq (pe_ix ix_tup (pv 5) pe_int (fun _ _ => rfl)) (pe_tup (pa_cons pe_str (pa_cons pe_str pa_nil))) (by rfl)) (pss_cons (ps_aug (i := 3) sc_law_end.nd rfl (Or.inl rfl) (pe_op op_mulW (pe_ix ix_tup (pe_tup (pa_cons pe_int (pa_cons (pe_un un_neg pe_int) pa_nil))) (pe_callTy call_int1 (by rfl) T.int (by decide +kernel) (pa_cons (pe_cmpR op_eq (pe_ix ix_tup (pv 5) pe_int (fun _ _ => rfl)) pe_str (nomark _)) pa_nil)) (fun _ _ => rfl)) (pe_ix ix_tup (pv 5) pe_int (fun _ _ => rfl))) ip_add)
      (pss_one (ps_if (pt_not (pt_chain op_le op_lt pe_int (pv 3) (pe_callB call_len_seq (by rfl) T.len (by decide +kernel) (pa_cons (pv 0) pa_nil)))) (pss_one (ps_ret pe_non)) pss_nil))) (pss_one (ps_if (pt_cmpR op_eq (pe_ix ix_tup (pv 5) pe_int (fun _ _ => rfl)) pe_str (nomark _)) (pss_one (ps_set (i := 4) sc_law_end.nd rfl (Or.inl rfl) pe_int)) (pss_one (ps_if (pt_cmpR op_eq (pe_ix ix_tup (pv 5) pe_int (fun _ _ => rfl)) pe_str (nomark _)) (pss_one (ps_set (i := 4) sc_law_end.nd rfl (Or.inl rfl) pe_non)) (pss_cons (ps_set (i := 6) sc_law_end.nd rfl (Or.inl rfl) (pe_ix ix_list (pv 0) (pv 3) (fun _ _ => rfl)))
      (C8.pss_cut (ps_if (pt_cmpR op_notN (pv 4) pe_non (nomark _)) (pss_one (ps_set (i := 6) sc_law_end.nd rfl (Or.inl rfl) (pe_callB (call_min2 rfl) (by rfl) T.min (by decide +kernel) (pa_cons (pv 4) (pa_cons (pv 6) pa_nil))))) pss_nil)
      (pss_cons (ps_set (i := 4) sc_law_end.nd rfl (Or.inl rfl) (pe_callB (call_max2 rfl) (by rfl) T.max (by decide +kernel) (pa_cons pe_int (pa_cons (pe_op op_sub (pv 6) (pe_ix ix_tup (pv 5) pe_int (fun _ _ => rfl))) pa_nil))))
      (pss_one (ps_if (pt_cmpR op_eq (pe_ix ix_tup (pv 5) pe_int (fun _ _ => rfl)) pe_str (nomark _)) (pss_one (ps_set (i := 4) sc_law_end.nd rfl (Or.inl rfl) (pe_callB (call_min2 rfl) (by rfl) T.min (by decide +kernel) (pa_cons (pe_op op_add (pv 6) (pe_ix ix_tup (pv 5) pe_int (fun _ _ => rfl))) (pa_cons (pe_ix ix_list (pv 0) (pv 3) (fun _ _ => rfl)) pa_nil))))) pss_nil))))))))))))
      (pss_one (ps_ret (pe_tup (pa_cons (pv 3) (pa_cons (pv 4) pa_nil))))))), ?_⟩
    refine ⟨_, rfl, b, _, rfl, hb, rfl, _, _, rfl, _, _, rfl, rfl, ?_⟩
    refine ⟨_, rfl, l, rfl, ⟨_, hl⟩, for_list (K := K) (a := l) (xs := xs) (fun i σ H' => ∃ (r' : Int) (a' : Option Int) (v5 v6 : Option V), σ = [some (.ref t), some (.ref b), some (.ref l), some (.int r'), some (optV a'), v5, v6] ∧ Same H H' ∧
        0 ≤ r' ∧ r' < tx.length ∧ afterL tx r a cs = afterL tx r' a' (cs.drop i))
      ⟨r, a, none, none, rfl, Same.refl H, r0, r1, rfl⟩ (fun i σ H' _ ⟨_, _, _, _, _, e, _⟩ => e.seq hl) (fun i y σ H2 hi h => ?_) (fun σ H2 h => ?_)⟩
    · obtain ⟨r', a', v5, v6, rfl, e2, q0, q1, hgo⟩ := h
      obtain ⟨c, hc, q, rfl, hq0⟩ := paired_at hcs hi
      have hq := seq_t e2 hq0
      have htx := e2.seq ht
      have hdrop : cs.drop i = c :: cs.drop (i + 1) := by
        obtain ⟨h1, h2⟩ := List.getElem?_eq_some_iff.mp hc
        rw [List.drop_eq_getElem_cons h1, h2]
      rw [hdrop, afterL_cons q0 q1] at hgo
      have smc := sm c (List.mem_of_getElem? hc)
      have al := at_len' q0 q1
      have hin : ∀ r2 a2, step1 tx r' a' c = some (r2, a2) → afterL tx r a cs = afterL tx r2 a2 (cs.drop (i + 1)) := fun r2 a2 z => by
        rw [hgo, z]
        rfl
      have hout : step1 tx r' a' c = none → afterL tx r a cs = none := fun z => by
        rw [hgo, z]
        rfl
      have flat : c.dv = 0 → step1 tx r' a' c = some (r', aim1 (lenAt tx r') a' c) := fun z => by
        unfold step1
        rw [z, Int.add_zero, if_pos ⟨q0, q1⟩]
      cases c with
      | down n =>
        refine ⟨_, rfl, q, _, 0, _, rfl, rfl, hq, rfl, (by show 2 ≤ sizeLine; decide), fun p1 hp1 => ?_⟩
        have m1 := same_upd (Same.refl H2) hp1 (o := .tup [.str "down", .str "up"])
        refine ⟨p1, _, rfl, .inr (SqT.of upd_same), rfl, rfl, true, by decide +kernel, iteT ?_⟩
        refine ⟨_, rfl, _, rfl, (by show 2 ≤ sizeLine; decide), fun p2 hp2 => ?_⟩
        have m2 := same_upd m1 hp2 (o := .tup [.int 1, .int (-1)])
        have nb : n.natAbs < 2 ^ 120 := smc
        refine ⟨_, rfl, q, _, 0, _, rfl, rfl, seq_t m2 hq, rfl, rfl, .inr ⟨_, rfl, p2, _, _, _, rfl, rfl, SqT.of upd_same, atI_f (by decide +kernel), _, rfl, q, _, 1, _, rfl, rfl, seq_t m2 hq, rfl, _, _, rfl, rfl, wide_mul (a := 61) (b := 120) (by decide) nb (by decide) (by decide) (by decide), _, _, rfl, rfl, ?_⟩⟩
        rw [show (1 : Int) * n = n from Int.one_mul n]
        refine ⟨_, rfl, _, _, rfl, rfl, _, rfl, ite2 (fun c0 => ?_) (fun c0 => ?_)⟩
        · have c0' : 0 ≤ r' + (n) := of_decide_eq_true c0
          refine ⟨_, rfl, t, _, rfl, .inl (m2.seq htx), _, _, rfl, rfl, _, rfl, ?_⟩
          by_cases c1 : r' + (n) < tx.length
          · refine iteN1 (by rw [List.length_map]; exact c1) ?_
            exact ⟨r' + (n), a', _, _, rfl, e2.trans m2, c0', c1, hin _ _ (by unfold step1; rw [if_pos (show 0 ≤ r' + (Cmd.down n).dv ∧ r' + (Cmd.down n).dv < tx.length from ⟨c0', c1⟩)]; rfl)⟩
          · refine iteN0 (by rw [List.length_map]; exact c1) ?_
            exact kn (hout (by unfold step1; rw [if_neg (show ¬ (0 ≤ r' + (Cmd.down n).dv ∧ r' + (Cmd.down n).dv < tx.length) from fun z => c1 z.2)])) _ (e2.trans m2)
        · refine ⟨_, rfl, ?_⟩
          refine iteT (B := _) ?_
          exact kn (hout (by unfold step1; rw [if_neg (show ¬ (0 ≤ r' + (Cmd.down n).dv ∧ r' + (Cmd.down n).dv < tx.length) from fun z => c0 (decide_eq_true z.1))])) _ (e2.trans m2)
      | up n =>
        refine ⟨_, rfl, q, _, 0, _, rfl, rfl, hq, rfl, (by show 2 ≤ sizeLine; decide), fun p1 hp1 => ?_⟩
        have m1 := same_upd (Same.refl H2) hp1 (o := .tup [.str "down", .str "up"])
        refine ⟨p1, _, rfl, .inr (SqT.of upd_same), rfl, rfl, true, by decide +kernel, iteT ?_⟩
        refine ⟨_, rfl, _, rfl, (by show 2 ≤ sizeLine; decide), fun p2 hp2 => ?_⟩
        have m2 := same_upd m1 hp2 (o := .tup [.int 1, .int (-1)])
        have nb : n.natAbs < 2 ^ 120 := smc
        refine ⟨_, rfl, q, _, 0, _, rfl, rfl, seq_t m2 hq, rfl, rfl, .inr ⟨_, rfl, p2, _, _, _, rfl, rfl, SqT.of upd_same, atI_t (by decide +kernel), _, rfl, q, _, 1, _, rfl, rfl, seq_t m2 hq, rfl, _, _, rfl, rfl, wide_mul (a := 61) (b := 120) (by decide) nb (by decide) (by decide) (by decide), _, _, rfl, rfl, ?_⟩⟩
        rw [show (-1 : Int) * n = -n by omega]
        refine ⟨_, rfl, _, _, rfl, rfl, _, rfl, ite2 (fun c0 => ?_) (fun c0 => ?_)⟩
        · have c0' : 0 ≤ r' + (-n) := of_decide_eq_true c0
          refine ⟨_, rfl, t, _, rfl, .inl (m2.seq htx), _, _, rfl, rfl, _, rfl, ?_⟩
          by_cases c1 : r' + (-n) < tx.length
          · refine iteN1 (by rw [List.length_map]; exact c1) ?_
            exact ⟨r' + (-n), a', _, _, rfl, e2.trans m2, c0', c1, hin _ _ (by unfold step1; rw [if_pos (show 0 ≤ r' + (Cmd.up n).dv ∧ r' + (Cmd.up n).dv < tx.length from ⟨c0', c1⟩)]; rfl)⟩
          · refine iteN0 (by rw [List.length_map]; exact c1) ?_
            exact kn (hout (by unfold step1; rw [if_neg (show ¬ (0 ≤ r' + (Cmd.up n).dv ∧ r' + (Cmd.up n).dv < tx.length) from fun z => c1 z.2)])) _ (e2.trans m2)
        · refine ⟨_, rfl, ?_⟩
          refine iteT (B := _) ?_
          exact kn (hout (by unfold step1; rw [if_neg (show ¬ (0 ≤ r' + (Cmd.up n).dv ∧ r' + (Cmd.up n).dv < tx.length) from fun z => c0 (decide_eq_true z.1))])) _ (e2.trans m2)
      | home =>
        refine ⟨_, rfl, q, _, 0, _, rfl, rfl, hq, rfl, (by show 2 ≤ sizeLine; decide), fun p1 hp1 => ?_⟩
        have m1 := same_upd (Same.refl H2) hp1 (o := .tup [.str "down", .str "up"])
        refine ⟨p1, _, rfl, .inr (SqT.of upd_same), rfl, rfl, false, by decide +kernel, iteF ?_⟩
        refine ⟨_, rfl, q, _, 0, _, rfl, rfl, seq_t m1 hq, rfl, rfl, true, by decide +kernel, iteT ?_⟩
        exact ⟨r', some 0, _, _, rfl, e2.trans m1, q0, q1, hin _ _ (flat rfl)⟩
      | stop =>
        refine ⟨_, rfl, q, _, 0, _, rfl, rfl, hq, rfl, (by show 2 ≤ sizeLine; decide), fun p1 hp1 => ?_⟩
        have m1 := same_upd (Same.refl H2) hp1 (o := .tup [.str "down", .str "up"])
        refine ⟨p1, _, rfl, .inr (SqT.of upd_same), rfl, rfl, false, by decide +kernel, iteF ?_⟩
        refine ⟨_, rfl, q, _, 0, _, rfl, rfl, seq_t m1 hq, rfl, rfl, false, by decide +kernel, iteF ?_⟩
        refine ⟨_, rfl, q, _, 0, _, rfl, rfl, seq_t m1 hq, rfl, rfl, true, by decide +kernel, iteT ?_⟩
        exact ⟨r', none, _, _, rfl, e2.trans m1, q0, q1, hin _ _ (flat rfl)⟩
      | left n =>
        refine ⟨_, rfl, q, _, 0, _, rfl, rfl, hq, rfl, (by show 2 ≤ sizeLine; decide), fun p1 hp1 => ?_⟩
        have m1 := same_upd (Same.refl H2) hp1 (o := .tup [.str "down", .str "up"])
        refine ⟨p1, _, rfl, .inr (SqT.of upd_same), rfl, rfl, false, by decide +kernel, iteF ?_⟩
        refine ⟨_, rfl, q, _, 0, _, rfl, rfl, seq_t m1 hq, rfl, rfl, false, by decide +kernel, iteF ?_⟩
        refine ⟨_, rfl, q, _, 0, _, rfl, rfl, seq_t m1 hq, rfl, rfl, false, by decide +kernel, iteF ?_⟩
        have ht1 := m1.seq htx
        have hq1 := seq_t m1 hq
        refine ⟨_, rfl, _, rfl, t, _, _, _, rfl, rfl, ht1, al, ?_⟩
        refine ⟨fun σ H' => σ = [some (.ref t), some (.ref b), some (.ref l), some (.int r'), some (optV a'), some (.ref q), some (.int (seen (lenAt tx r') a'))] ∧ Same H2 H' ∧ SqT K H' q (encC (.left n)), ?_, ?_⟩
        · cases a' with
          | none => exact ⟨_, rfl, rfl, _, rfl, iteF ⟨rfl, m1, hq1⟩⟩
          | some x =>
            refine ⟨_, rfl, rfl, _, rfl, iteT ?_⟩
            refine ⟨_, rfl, _, rfl, _, _, rfl, ?_⟩
            rw [minI]
            exact ⟨rfl, m1, hq1⟩
        · rintro σ H3 ⟨rfl, e3, hq3⟩
          refine ⟨_, rfl, _, rfl, q, _, 1, _, rfl, rfl, hq3, rfl, _, _, rfl, rfl, _, _, rfl, ?_⟩
          rw [maxI]
          refine ⟨_, rfl, q, _, 0, _, rfl, rfl, hq3, rfl, rfl, false, by decide +kernel, iteF ?_⟩
          exact ⟨r', _, _, _, rfl, e2.trans e3, q0, q1, hin _ _ (flat rfl)⟩
      | right n =>
        refine ⟨_, rfl, q, _, 0, _, rfl, rfl, hq, rfl, (by show 2 ≤ sizeLine; decide), fun p1 hp1 => ?_⟩
        have m1 := same_upd (Same.refl H2) hp1 (o := .tup [.str "down", .str "up"])
        refine ⟨p1, _, rfl, .inr (SqT.of upd_same), rfl, rfl, false, by decide +kernel, iteF ?_⟩
        refine ⟨_, rfl, q, _, 0, _, rfl, rfl, seq_t m1 hq, rfl, rfl, false, by decide +kernel, iteF ?_⟩
        refine ⟨_, rfl, q, _, 0, _, rfl, rfl, seq_t m1 hq, rfl, rfl, false, by decide +kernel, iteF ?_⟩
        have ht1 := m1.seq htx
        have hq1 := seq_t m1 hq
        refine ⟨_, rfl, _, rfl, t, _, _, _, rfl, rfl, ht1, al, ?_⟩
        refine ⟨fun σ H' => σ = [some (.ref t), some (.ref b), some (.ref l), some (.int r'), some (optV a'), some (.ref q), some (.int (seen (lenAt tx r') a'))] ∧ Same H2 H' ∧ SqT K H' q (encC (.right n)), ?_, ?_⟩
        · cases a' with
          | none => exact ⟨_, rfl, rfl, _, rfl, iteF ⟨rfl, m1, hq1⟩⟩
          | some x =>
            refine ⟨_, rfl, rfl, _, rfl, iteT ?_⟩
            refine ⟨_, rfl, _, rfl, _, _, rfl, ?_⟩
            rw [minI]
            exact ⟨rfl, m1, hq1⟩
        · rintro σ H3 ⟨rfl, e3, hq3⟩
          refine ⟨_, rfl, _, rfl, q, _, 1, _, rfl, rfl, hq3, rfl, _, _, rfl, rfl, _, _, rfl, ?_⟩
          refine ⟨_, rfl, q, _, 0, _, rfl, rfl, hq3, rfl, rfl, true, by decide +kernel, iteT ?_⟩
          refine ⟨_, rfl, _, rfl, q, _, 1, _, rfl, rfl, hq3, rfl, _, _, rfl, rfl, _, rfl, _, rfl, t, _, _, _, rfl, rfl, (e2.trans e3).seq ht, al, _, _, rfl, ?_⟩
          rw [minI]
          exact ⟨r', _, _, _, rfl, e2.trans e3, q0, q1, hin _ _ (flat rfl)⟩
    · obtain ⟨r', a', v5, v6, rfl, e2, q0, q1, hgo⟩ := h
      rw [hcs.len, List.drop_length] at hgo
      refine ⟨_, rfl, _, rfl, (by show 2 ≤ sizeLine; decide), fun p hp => ?_⟩
      exact ks r' a' hgo _ p (same_upd e2 hp) (e2.free hp) upd_same
theorem sc_law_kept : FnScope ["spot", "many", "moves", "found", "command", "later"] ["spot", "many", "moves"] (defScope s_kept) := ⟨rfl, rfl, rfl, by decide +kernel, rfl, by decide +kernel, by decide +kernel⟩
theorem ok_kept {f : Addr} {fd : FuncData} (F : Fun K "_law_kept" "_law_kept" s_kept f fd) : FnOk P w K mg base CX0 1 f fd ["spot", "many", "moves"] (spKept K) := by
  refine F.ok sc_law_kept (fun vs H Q E h => ?_) (fun cdv A outer s H vs Q E hr h => ?_)
  · obtain ⟨spot, many, l, xs, cs, rfl, _⟩ := h
    rfl
  · obtain ⟨spot, many, l, xs, cs, rfl, hl, hcs, ok, sm, ln, s0, s1, k⟩ := h
    refine ⟨_, (pss_cons (ps_set (i := 3) sc_law_kept.nd rfl (Or.inl rfl) (pe_lst pa_nil))
      (pss_cons (ps_for PassesOwn.never rfl (pi_list (pv 2)) (pg_name (i := 4) sc_law_kept.nd rfl (Or.inl rfl)) (pss_cons (ps_set (i := 5) sc_law_kept.nd rfl (Or.inl rfl) (pv 0))
      (C8.pss_cut (ps_if (pt_cmpR op_eq (pe_ix ix_tup (pv 4) pe_int (fun _ _ => rfl)) pe_str (nomark _)) (pss_one (ps_aug (i := 5) sc_law_kept.nd rfl (Or.inl rfl) (pe_ix ix_tup (pv 4) pe_int (fun _ _ => rfl)) ip_add)) pss_nil)
      (C8.pss_cut (ps_if (pt_cmpR op_eq (pe_ix ix_tup (pv 4) pe_int (fun _ _ => rfl)) pe_str (nomark _)) (pss_one (ps_aug (i := 5) sc_law_kept.nd rfl (Or.inl rfl) (pe_ix ix_tup (pv 4) pe_int (fun _ _ => rfl)) ip_sub)) pss_nil)
      (pss_one (ps_if (pt_chain op_le op_lt pe_int (pv 5) (pv 1)) (pss_cons (ps_set (i := 0) sc_law_kept.nd rfl (Or.inl rfl) (pv 5))
      (pss_one (ps_expr (pe_bm PySem.F.plainAttrs_list PySem.F.slot_list_append PySem.F.type_list_append mt_append (pv 3) (pa_cons (pv 4) pa_nil))))) pss_nil))))))
      (pss_one (ps_ret (pv 3))))), ?_⟩
    refine ⟨Nat.zero_le _, fun D hD => ?_⟩
    have eD : Same H (upd H D (.lst [])) := same_upd (Same.refl H) hD
    refine ⟨_, rfl, l, rfl, ⟨_, eD.seq hl⟩, for_list (K := K) (a := l) (xs := xs) (fun i σ H' => ∃ (v4 v5 : Option V) (ys : List V) (ds : List Cmd), σ = [some (.int (spot + last ds)), some (.int many), some (.ref l), some (.ref D), v4, v5] ∧ Same H H' ∧ H' D = some (.lst ys) ∧ CmdsOf K H' ys ds ∧
        AllOk ds ∧ (∀ c ∈ ds, CSml c) ∧ ds.length ≤ i ∧ Within ds (-spot) (many - 1 - spot))
      ⟨none, none, [], [], by show _ = [some (V.int (spot + 0)), _, _, _, _, _]; rw [Int.add_zero]; rfl, eD, upd_same, .nil, (fun _ h => nomatch h), (fun _ h => nomatch h), Nat.le_refl _, fun i => by rw [List.take_nil]; show _ ≤ (0 : Int) ∧ (0 : Int) ≤ _; omega⟩
      (fun i σ H' _ ⟨_, _, _, _, _, e, _⟩ => e.seq hl) (fun i y σ H2 hi h => ?_) (fun σ H2 h => ?_)⟩
    · obtain ⟨v4, v5, ys, ds, rfl, e2, hd, hds, okd, smd, lnd, wd⟩ := h
      obtain ⟨c, hc, q, rfl, hq0⟩ := paired_at hcs hi
      have li := (List.getElem?_eq_some_iff.mp hc).1
      have hq := seq_t e2 hq0
      have okc := ok c (List.mem_of_getElem? hc)
      have smc := sm c (List.mem_of_getElem? hc)
      have yl := hds.len
      refine ⟨_, rfl, ?_⟩
      refine ⟨fun σ H' => σ = [some (.int (spot + last ds)), some (.int many), some (.ref l), some (.ref D), some (.ref q), some (.int (spot + last ds + (if 0 < c.dv then c.dv else 0)))] ∧ H' = H2, ?_, ?_⟩
      · cases c with
        | down n =>
          have o : 1 ≤ n := okc
          refine ⟨_, rfl, q, _, 0, _, rfl, rfl, hq, rfl, rfl, true, by decide +kernel, iteT ?_⟩
          refine ⟨_, rfl, _, rfl, q, _, 1, _, rfl, rfl, hq, rfl, _, _, rfl, rfl, ?_⟩
          rw [if_pos (show 0 < (Cmd.down n).dv from by show 0 < n; omega)]
          exact ⟨rfl, rfl⟩
        | up n =>
          have o : 1 ≤ n := okc
          refine ⟨_, rfl, q, _, 0, _, rfl, rfl, hq, rfl, rfl, false, by decide +kernel, iteF ?_⟩
          rw [if_neg (show ¬ 0 < (Cmd.up n).dv from by show ¬ 0 < -n; omega), Int.add_zero]
          exact ⟨rfl, rfl⟩
        | left n =>
          refine ⟨_, rfl, q, _, 0, _, rfl, rfl, hq, rfl, rfl, false, by decide +kernel, iteF ?_⟩
          rw [if_neg (show ¬ 0 < (Cmd.left n).dv from Int.lt_irrefl 0), Int.add_zero]
          exact ⟨rfl, rfl⟩
        | right n =>
          refine ⟨_, rfl, q, _, 0, _, rfl, rfl, hq, rfl, rfl, false, by decide +kernel, iteF ?_⟩
          rw [if_neg (show ¬ 0 < (Cmd.right n).dv from Int.lt_irrefl 0), Int.add_zero]
          exact ⟨rfl, rfl⟩
        | home =>
          refine ⟨_, rfl, q, _, 0, _, rfl, rfl, hq, rfl, rfl, false, by decide +kernel, iteF ?_⟩
          rw [if_neg (show ¬ 0 < (Cmd.home).dv from by decide), Int.add_zero]
          exact ⟨rfl, rfl⟩
        | stop =>
          refine ⟨_, rfl, q, _, 0, _, rfl, rfl, hq, rfl, rfl, false, by decide +kernel, iteF ?_⟩
          rw [if_neg (show ¬ 0 < (Cmd.stop).dv from by decide), Int.add_zero]
          exact ⟨rfl, rfl⟩
      · rintro σ H3 ⟨rfl, rfl⟩
        refine ⟨fun σ H' => σ = [some (.int (spot + last ds)), some (.int many), some (.ref l), some (.ref D), some (.ref q), some (.int (spot + last ds + c.dv))] ∧ H' = H3, ?_, ?_⟩
        · cases c with
          | down n =>
            have o : 1 ≤ n := okc
            refine ⟨_, rfl, q, _, 0, _, rfl, rfl, hq, rfl, rfl, false, by decide +kernel, iteF ?_⟩
            rw [if_pos (show 0 < (Cmd.down n).dv from by show 0 < n; omega)]
            exact ⟨rfl, rfl⟩
          | up n =>
            have o : 1 ≤ n := okc
            refine ⟨_, rfl, q, _, 0, _, rfl, rfl, hq, rfl, rfl, true, by decide +kernel, iteT ?_⟩
            refine ⟨_, rfl, _, rfl, q, _, 1, _, rfl, rfl, hq, rfl, _, _, rfl, rfl, ?_⟩
            rw [if_neg (show ¬ 0 < (Cmd.up n).dv from by show ¬ 0 < -n; omega), Int.add_zero]
            exact ⟨rfl, rfl⟩
          | left n =>
            refine ⟨_, rfl, q, _, 0, _, rfl, rfl, hq, rfl, rfl, false, by decide +kernel, iteF ?_⟩
            exact ⟨rfl, rfl⟩
          | right n =>
            refine ⟨_, rfl, q, _, 0, _, rfl, rfl, hq, rfl, rfl, false, by decide +kernel, iteF ?_⟩
            exact ⟨rfl, rfl⟩
          | home =>
            refine ⟨_, rfl, q, _, 0, _, rfl, rfl, hq, rfl, rfl, false, by decide +kernel, iteF ?_⟩
            exact ⟨rfl, rfl⟩
          | stop =>
            refine ⟨_, rfl, q, _, 0, _, rfl, rfl, hq, rfl, rfl, false, by decide +kernel, iteF ?_⟩
            exact ⟨rfl, rfl⟩
        · rintro σ H4 ⟨rfl, rfl⟩
          refine ⟨_, rfl, _, _, rfl, rfl, _, rfl, ite2 (fun c0 => ?_) (fun c0 => ?_)⟩
          · have c0' : 0 ≤ spot + last ds + c.dv := of_decide_eq_true c0
            refine ⟨_, rfl, _, _, rfl, rfl, _, rfl, ite2 (fun c1 => ?_) (fun c1 => ?_)⟩
            · have c1' : spot + last ds + c.dv < many := of_decide_eq_true c1
              refine ⟨_, rfl, ?_⟩
              refine ⟨_, rfl, .inl ⟨rfl, _, SqL.of hd⟩, _, rfl, D, _, _, rfl, rfl, hd, small_n (by omega), ?_⟩
              refine ⟨some (.ref q), some (.int (spot + last ds + c.dv)), ys ++ [.ref q], ds ++ [c], ?_, same_freeU e2 hD, upd_same, Paired.snocB (hds.lput hd) ?_, ?_, ?_, ?_, wd.snoc (by omega) (by omega)⟩
              · rw [last_snoc, ← Int.add_assoc]
                rfl
              · refine ⟨q, rfl, ?_⟩
                rcases hq with (z | ⟨o, z⟩) | z
                · exact .inl (.inl (by rw [upd_ne (ne_of z hd (by intro q; cases q))]; exact z))
                · exact .inl (.inr ⟨o, by rw [upd_ne (ne_of z hd (by intro q; cases q))]; exact z⟩)
                · exact .inr z
              · intro d h
                rcases List.mem_append.mp h with z | z
                · exact okd d z
                · rw [List.mem_singleton.mp z]
                  exact okc
              · intro d h
                rcases List.mem_append.mp h with z | z
                · exact smd d z
                · rw [List.mem_singleton.mp z]
                  exact smc
              · rw [List.length_append, List.length_singleton]
                omega
            · exact ⟨_, _, ys, ds, rfl, e2, hd, hds, okd, smd, by omega, wd⟩
          · exact ⟨_, rfl, iteF ⟨_, _, ys, ds, rfl, e2, hd, hds, okd, smd, by omega, wd⟩⟩
    · obtain ⟨v4, v5, ys, ds, rfl, e2, hd, hds, okd, smd, lnd, wd⟩ := h
      have xl := hcs.len
      exact ⟨_, rfl, k _ D ys ds e2 hD hd hds okd smd (by omega) wd⟩
end
end Gc

/-! the program's origins, where nothing is raised -/
namespace Gc
open PySem L2
abbrev s_effect : Stmt := top 22
abbrev s_total_change : Stmt := top 23
abbrev s_origins : Stmt := top 25
abbrev s_is_less : Stmt := top 26
def OrgV (H : Hp) (v : V) : Option (Option Int × Option Int) → Prop
  | none => v = .non
  | some x => ∃ p, v = .ref p ∧ H p = some (.tup [optV x.1, optV x.2])
def spTotal (K : PySem.W.Frag) : Sp := fun vs H Q _ => ∃ (l : Addr) (xs : List V) (cs : List Cmd), vs = [.ref l] ∧ SqL K H l xs ∧ CmdsOf K H xs cs ∧ Q (.int (chg cs)) H
def Fits (K : PySem.W.Frag) (H : Hp) (t l : Addr) (T : List Int) (row : Int) (xs : List V) (cs : List Cmd) : Prop :=
  SqL K H t (T.map V.int) ∧ SqL K H l xs ∧ CmdsOf K H xs cs ∧ (∀ x ∈ T, 0 ≤ x) ∧ 0 ≤ row ∧ row < T.length ∧ AllOk cs ∧ cs.length ≤ 10000 ∧ Within cs (-row) (T.length - 1 - row)
def spEffect (K : PySem.W.Frag) : Sp := fun vs H Q _ => ∃ (t l : Addr) (T : List Int) (row : Int) (xs : List V) (cs : List Cmd), vs = [.ref t, .int row, .ref l] ∧ Fits K H t l T row xs cs ∧
  ∀ (H' : Hp) (p : Addr), Same H H' → H' p = some (.tup [optV (aimF (lenAt T) row (some 0) cs), optV (aimF (lenAt T) row none cs), .int (chg cs)]) → Q (.ref p) H'
def spLess : Sp := fun vs H Q _ => ∃ a b : Option Int, vs = [optV a, optV b] ∧ Q (.bl (lessB a b)) H
def spOrigins (K : PySem.W.Frag) : Sp := fun vs H Q _ => ∃ (t l : Addr) (T : List Int) (row : Int) (goal : Option Int) (xs : List V) (cs : List Cmd), vs = [.ref t, .int row, .ref l, optV goal] ∧ Fits K H t l T row xs cs ∧ ge goal 0 ∧
  ∀ (H' : Hp) (v : V), Same H H' → OrgV H' v (originsM (aimF (lenAt T) row (some 0) cs) (aimF (lenAt T) row none cs) (chg cs) goal) → Q v H'
theorem Fits.same {K : PySem.W.Frag} {H H' : Hp} {t l : Addr} {T : List Int} {row : Int} {xs : List V} {cs : List Cmd} (e : Same H H') (h : Fits K H t l T row xs cs) : Fits K H' t l T row xs cs := by
  obtain ⟨h1, h2, h3, h4⟩ := h
  exact ⟨e.seq h1, e.seq h2, h3.same e, h4⟩
@[irreducible] def zRun (K : PySem.W.Frag) : Sp := spRun K
theorem zRun_eq (K : PySem.W.Frag) : zRun K = spRun K := by unfold zRun; rfl
theorem ask_run {K : PySem.W.Frag} {H : Hp} {Q : VK} {E : XK} {t b l : Addr} {T : List Int} {row : Int} {g : Option Int} {xs : List V} {cs : List Cmd} (f : Fits K H t l T row xs cs) (hb : SqT K H b [.int row, optV g]) (g0 : ge g 0)
    (k : ∀ (H' : Hp) (p : Addr), Same H H' → SqT K H' p [.int (row + last cs), optV (aimF (lenAt T) row g cs)] → Q (.ref p) H') : zRun K [.ref t, .ref b, .ref l] H Q E := by
  rw [zRun_eq]
  obtain ⟨h1, h2, h3, h4, h5, h6, h7, h8, h9⟩ := f
  exact ⟨t, b, l, T, row, g, xs, cs, _, _, rfl, h1, hb, h2, h3, h4, h5, h6, g0, h7, h8, afterL_in h9, k⟩
section
variable {P : Program} {w : World} {K : PySem.W.Frag} {mg : Str → Option Value} {base : Heap} {wo wn : Addr}
theorem sc_total_change : FnScope ["commands", "change", "command"] ["commands"] (defScope s_total_change) := ⟨rfl, rfl, rfl, by decide +kernel, rfl, by decide +kernel, by decide +kernel⟩
theorem ok_total_change {f : Addr} {fd : FuncData} (F : Fun K "total_change" "total_change" s_total_change f fd) : FnOk P w K mg base CX0 1 f fd ["commands"] (spTotal K) := by
  refine F.ok sc_total_change (fun vs H Q E h => ?_) (fun cdv A outer s H vs Q E hr h => ?_)
  · obtain ⟨l, xs, cs, rfl, _⟩ := h
    rfl
  · obtain ⟨l, xs, cs, rfl, hl, hcs, k⟩ := h
    refine ⟨_, (pss_cons (ps_set (i := 1) sc_total_change.nd rfl (Or.inl rfl) pe_int)
      (pss_cons (ps_for PassesOwn.never rfl (pi_list (pv 0)) (pg_name (i := 2) sc_total_change.nd rfl (Or.inl rfl)) (pss_one (ps_if (pt_cmpR op_eq (pe_ix ix_tup (pv 2) pe_int (fun _ _ => rfl)) pe_str (nomark _)) (pss_one (ps_aug (i := 1) sc_total_change.nd rfl (Or.inl rfl) (pe_ix ix_tup (pv 2) pe_int (fun _ _ => rfl)) ip_add)) (pss_one (ps_if (pt_cmpR op_eq (pe_ix ix_tup (pv 2) pe_int (fun _ _ => rfl)) pe_str (nomark _)) (pss_one (ps_aug (i := 1) sc_total_change.nd rfl (Or.inl rfl) (pe_ix ix_tup (pv 2) pe_int (fun _ _ => rfl)) ip_sub)) pss_nil)))))
      (pss_one (ps_ret (pv 1))))), ?_⟩
    refine ⟨_, rfl, l, rfl, ⟨_, hl⟩, for_list (K := K) (a := l) (xs := xs) (fun i σ H' => ∃ v2 : Option V, σ = [some (.ref l), some (.int (chg (cs.take i))), v2] ∧ H' = H) ⟨none, rfl, rfl⟩ (fun i σ H' _ ⟨_, _, e⟩ => e ▸ hl) (fun i y σ H2 hi h => ?_) (fun σ H2 h => ?_)⟩
    · obtain ⟨v2, rfl, rfl⟩ := h
      obtain ⟨c, hc, q, rfl, hq⟩ := paired_at hcs hi
      have e : chg (cs.take (i + 1)) = chg (cs.take i) + chg1 c := by rw [take_snoc hc, chg_snoc]
      cases c with
      | right n =>
        refine ⟨_, rfl, q, _, 0, _, rfl, rfl, hq, rfl, rfl, true, by decide +kernel, iteT ?_⟩
        refine ⟨_, rfl, _, rfl, q, _, 1, _, rfl, rfl, hq, rfl, _, _, rfl, rfl, ?_⟩
        exact ⟨_, by rw [e]; rfl, rfl⟩
      | left n =>
        refine ⟨_, rfl, q, _, 0, _, rfl, rfl, hq, rfl, rfl, false, by decide +kernel, iteF ?_⟩
        refine ⟨_, rfl, q, _, 0, _, rfl, rfl, hq, rfl, rfl, true, by decide +kernel, iteT ?_⟩
        refine ⟨_, rfl, _, rfl, q, _, 1, _, rfl, rfl, hq, rfl, _, _, rfl, rfl, ?_⟩
        exact ⟨_, by rw [e, show chg (cs.take i) + chg1 (Cmd.left n) = chg (cs.take i) - n from Int.sub_eq_add_neg.symm]; rfl, rfl⟩
      | down n =>
        refine ⟨_, rfl, q, _, 0, _, rfl, rfl, hq, rfl, rfl, false, by decide +kernel, iteF ?_⟩
        refine ⟨_, rfl, q, _, 0, _, rfl, rfl, hq, rfl, rfl, false, by decide +kernel, iteF ?_⟩
        exact ⟨_, by rw [e, show chg (cs.take i) + chg1 (Cmd.down n) = chg (cs.take i) from Int.add_zero _]; rfl, rfl⟩
      | up n =>
        refine ⟨_, rfl, q, _, 0, _, rfl, rfl, hq, rfl, rfl, false, by decide +kernel, iteF ?_⟩
        refine ⟨_, rfl, q, _, 0, _, rfl, rfl, hq, rfl, rfl, false, by decide +kernel, iteF ?_⟩
        exact ⟨_, by rw [e, show chg (cs.take i) + chg1 (Cmd.up n) = chg (cs.take i) from Int.add_zero _]; rfl, rfl⟩
      | home =>
        refine ⟨_, rfl, q, _, 0, _, rfl, rfl, hq, rfl, rfl, false, by decide +kernel, iteF ?_⟩
        refine ⟨_, rfl, q, _, 0, _, rfl, rfl, hq, rfl, rfl, false, by decide +kernel, iteF ?_⟩
        exact ⟨_, by rw [e, show chg (cs.take i) + chg1 Cmd.home = chg (cs.take i) from Int.add_zero _]; rfl, rfl⟩
      | stop =>
        refine ⟨_, rfl, q, _, 0, _, rfl, rfl, hq, rfl, rfl, false, by decide +kernel, iteF ?_⟩
        refine ⟨_, rfl, q, _, 0, _, rfl, rfl, hq, rfl, rfl, false, by decide +kernel, iteF ?_⟩
        exact ⟨_, by rw [e, show chg (cs.take i) + chg1 Cmd.stop = chg (cs.take i) from Int.add_zero _]; rfl, rfl⟩
    · obtain ⟨v2, rfl, rfl⟩ := h
      rw [hcs.len, List.take_length]
      exact ⟨_, rfl, k⟩
theorem sc_effect : FnScope ["text", "row", "commands", "low", "high"] ["text", "row", "commands"] (defScope s_effect) := ⟨rfl, rfl, rfl, by decide +kernel, rfl, by decide +kernel, by decide +kernel⟩
theorem ok_effect {f : Addr} {fd : FuncData} (F : Fun K "effect" "effect" s_effect f fd) (c_run : Cal P w K mg base 4 "run" (zRun K)) (c_total_change : Cal P w K mg base 1 "total_change" (spTotal K)) : FnOk P w K mg base CX0 5 f fd ["text", "row", "commands"] (spEffect K) := by
  refine F.ok sc_effect (fun vs H Q E h => ?_) (fun cdv A outer s H vs Q E hr h => ?_)
  · obtain ⟨t, l, T, row, xs, cs, rfl, _⟩ := h
    rfl
  · obtain ⟨t, l, tx, row, xs, cs, rfl, ft, k⟩ := h
    refine ⟨_, (pss_cons (ps_set (i := 3) sc_effect.nd rfl (Or.inl rfl) (pe_ix ix_tup (pe_cal c_run hr (by decide) (by rfl) (pa_cons (pv 0) (pa_cons (pe_tup (pa_cons (pv 1) (pa_cons pe_int pa_nil))) (pa_cons (pv 2) pa_nil)))) pe_int (fun _ _ => rfl)))
      (pss_cons (ps_set (i := 4) sc_effect.nd rfl (Or.inl rfl) (pe_ix ix_tup (pe_cal c_run hr (by decide) (by rfl) (pa_cons (pv 0) (pa_cons (pe_tup (pa_cons (pv 1) (pa_cons pe_non pa_nil))) (pa_cons (pv 2) pa_nil)))) pe_int (fun _ _ => rfl)))
      (pss_one (ps_ret (pe_tup (pa_cons (pv 3) (pa_cons (pv 4) (pa_cons (pe_cal c_total_change hr (by decide) (by rfl) (pa_cons (pv 2) pa_nil)) pa_nil)))))))), ?_⟩
    refine ⟨_, rfl, _, rfl, (by show 2 ≤ sizeLine; decide), fun p1 hp1 => ⟨_, rfl, ?_⟩⟩
    have s1 : Same H (upd H p1 (.tup [.int row, .int 0])) := same_upd (Same.refl _) hp1
    refine ask_run (g := some 0) (ft.same s1) (SqT.of upd_same) (ge_some.mpr (Int.le_refl 0)) (fun H2 q2 e2 hq2 => ?_)
    refine ⟨q2, _, 1, _, rfl, rfl, hq2, rfl, ?_⟩
    have e12 := s1.trans e2
    refine ⟨_, rfl, _, rfl, (by show 2 ≤ sizeLine; decide), fun p3 hp3 => ⟨_, rfl, ?_⟩⟩
    have s3 : Same H2 (upd H2 p3 (.tup [.int row, .non])) := same_upd (Same.refl _) hp3
    refine ask_run (g := none) (ft.same (e12.trans s3)) (SqT.of upd_same) (ge_none 0) (fun H4 q4 e4 hq4 => ?_)
    refine ⟨q4, _, 1, _, rfl, rfl, hq4, rfl, ?_⟩
    have e14 := (e12.trans s3).trans e4
    obtain ⟨_, hl, hcs, _⟩ := ft.same e14
    refine ⟨_, rfl, _, rfl, _, rfl, l, xs, cs, rfl, hl, hcs, (by show 3 ≤ sizeLine; decide), fun p5 hp5 => ?_⟩
    exact k _ p5 (same_upd e14 hp5) upd_same
theorem sc_is_less : FnScope ["goal", "other"] ["goal", "other"] (defScope s_is_less) := ⟨rfl, rfl, rfl, by decide +kernel, rfl, by decide +kernel, by decide +kernel⟩
theorem ok_is_less {f : Addr} {fd : FuncData} (F : Fun K "is_less" "is_less" s_is_less f fd) : FnOk P w K mg base CX0 1 f fd ["goal", "other"] spLess := by
  refine F.ok sc_is_less (fun vs H Q E h => ?_) (fun cdv A outer s H vs Q E hr h => ?_)
  · obtain ⟨a, b, rfl, _⟩ := h
    rfl
  · obtain ⟨a, b, rfl, k⟩ := h
    refine ⟨_, (pss_one (ps_ret (pe_and (pe_cmpR op_notN (pv 0) pe_non (nomark _)) (pe_one (pe_or (pe_cmpR op_isN (pv 1) pe_non (nomark _)) (pe_one (pe_cmpR op_lt (pv 0) (pv 1) (nomark _)))))))), ?_⟩
    cases a with
    | none => exact ⟨_, rfl, rfl, _, rfl, iteF k⟩
    | some x =>
      refine ⟨_, rfl, rfl, _, rfl, iteT ?_⟩
      cases b with
      | none => exact ⟨_, rfl, rfl, _, rfl, iteT k⟩
      | some y => exact ⟨_, rfl, rfl, _, rfl, iteF ⟨_, rfl, _, rfl, _, _, rfl, rfl, k⟩⟩
theorem sc_origins : FnScope ["text", "row", "commands", "goal", "low", "high", "change", "before"] ["text", "row", "commands", "goal"] (defScope s_origins) := ⟨rfl, rfl, rfl, by decide +kernel, rfl, by decide +kernel, by decide +kernel⟩
theorem ok_origins {f : Addr} {fd : FuncData} (F : Fun K "origins" "origins" s_origins f fd) (c_run : Cal P w K mg base 4 "run" (zRun K)) (c_effect : Cal P w K mg base 5 "effect" (spEffect K)) (c_is_less : Cal P w K mg base 1 "is_less" spLess) :
    FnOk P w K mg base CX0 6 f fd ["text", "row", "commands", "goal"] (spOrigins K) := by
  refine F.ok sc_origins (fun vs H Q E h => ?_) (fun cdv A outer s H vs Q E hr h => ?_)
  · obtain ⟨t, l, T, row, goal, xs, cs, rfl, _⟩ := h
    rfl
  · obtain ⟨t, l, tx, row, goal, xs, cs, rfl, ft, g0, k⟩ := h
    refine ⟨_, (pss_cons (ps_expr (pe_cal c_run hr (by decide) (by rfl) (pa_cons (pv 0) (pa_cons (pe_tup (pa_cons (pv 1) (pa_cons (pv 3) pa_nil))) (pa_cons (pv 2) pa_nil)))))
      (pss_cons (ps_asg (pe_cal c_effect hr (by decide) (by rfl) (pa_cons (pv 0) (pa_cons (pv 1) (pa_cons (pv 2) pa_nil)))) (pg_tup rfl (pgs_cons (pg_name (i := 4) sc_origins.nd rfl (Or.inl rfl)) (pgs_cons (pg_name (i := 5) sc_origins.nd rfl (Or.inl rfl)) (pgs_cons (pg_name (i := 6) sc_origins.nd rfl (Or.inl rfl)) pgs_nil)))))
      (C8.pss_cut (ps_if (PW.pt (pw_or (pt_val (pe_cal c_is_less hr (by decide) (by rfl) (pa_cons (pv 3) (pa_cons (pv 4) pa_nil)))) (pw_or1 (pt_val (pe_cal c_is_less hr (by decide) (by rfl) (pa_cons (pv 5) (pa_cons (pv 3) pa_nil))))))) (pss_one (ps_ret pe_non)) pss_nil)
      (C8.pss_cut (ps_set (i := 7) sc_origins.nd rfl (Or.inl rfl) (pe_ifExp (pt_cmpR op_isN (pv 3) pe_non (nomark _)) pe_non (pe_op op_sub (pv 3) (pv 6))))
      (pss_one (ps_ret (pe_tup (pa_cons (pe_ifExp (pt_cmpR op_eq (pv 3) (pv 4) (nomark _)) pe_int (pv 7)) (pa_cons (pe_ifExp (pt_cmpR op_eq (pv 3) (pv 5) (nomark _)) pe_non (pv 7)) pa_nil))))))))), ?_⟩
    refine ⟨_, rfl, _, rfl, _, rfl, (by show 2 ≤ sizeLine; decide), fun p1 hp1 => ⟨_, rfl, ?_⟩⟩
    have s1 : Same H (upd H p1 (.tup [.int row, optV goal])) := same_upd (Same.refl _) hp1
    refine ask_run (g := goal) (ft.same s1) (SqT.of upd_same) g0 (fun H2 q2 e2 hq2 => ?_)
    have e12 := s1.trans e2
    refine ⟨_, rfl, _, rfl, _, rfl, t, l, tx, row, xs, cs, rfl, ft.same e12, fun H3 p3 e3 hp3 => ?_⟩
    have e13 := e12.trans e3
    refine ⟨p3, _, rfl, SqT.of hp3, rfl, _, _, rfl, _, _, rfl, _, _, rfl, rfl, ?_⟩
    generalize glo : aimF (lenAt tx) row (some 0) cs = lo at *
    generalize ghi : aimF (lenAt tx) row none cs = hi at *
    refine ⟨fun σ H' => σ = [some (.ref t), some (.int row), some (.ref l), some (optV goal), some (optV lo), some (optV hi), some (.int (chg cs)), none] ∧ H' = H3 ∧ lessB goal lo = false ∧ lessB hi goal = false, ?_, ?_⟩
    · refine ⟨_, rfl, _, rfl, goal, lo, rfl, _, rfl, ?_⟩
      cases h1 : lessB goal lo with
      | true => exact iteT (k _ .non e13 (by unfold originsM; rw [if_pos (.inl h1)]; rfl))
      | false =>
        refine iteF ⟨_, rfl, _, rfl, hi, goal, rfl, _, rfl, ?_⟩
        cases h2 : lessB hi goal with
        | true => exact iteT (k _ .non e13 (by unfold originsM; rw [if_pos (.inr h2)]; rfl))
        | false => exact iteF ⟨rfl, rfl, rfl, rfl⟩
    · rintro σ H4 ⟨rfl, rfl, h1, h2⟩
      have hM : originsM lo hi (chg cs) goal = some (if goal = lo then some 0 else goal.map (· - chg cs), if goal = hi then none else goal.map (· - chg cs)) := by
        unfold originsM
        rw [if_neg (by rw [h1, h2]; simp)]
      rw [hM] at k
      refine ⟨fun σ H' => σ = [some (.ref t), some (.int row), some (.ref l), some (optV goal), some (optV lo), some (optV hi), some (.int (chg cs)), some (optV (goal.map (· - chg cs)))] ∧ H' = H4, ?_, ?_⟩
      · cases goal with
        | none => exact ⟨_, rfl, rfl, _, rfl, iteT ⟨rfl, rfl⟩⟩
        | some x => exact ⟨_, rfl, rfl, _, rfl, iteF ⟨_, rfl, _, rfl, _, _, rfl, rfl, rfl, rfl⟩⟩
      · rintro σ H5 ⟨rfl, rfl⟩
        have seq : ∀ a b : Option Int, scal (optV a) (optV b) = true ∧ decide (optV a = optV b) = decide (a = b) := fun a b => by
          cases a <;> cases b <;> simp [scal, optV]
        refine ⟨_, rfl, _, rfl, (seq goal lo).1, _, rfl, ?_⟩
        have fin : ∀ a : Option Int, (goal = lo → a = some 0) → (goal ≠ lo → a = goal.map (· - chg cs)) → ∀ b : Option Int, (goal = hi → b = none) → (goal ≠ hi → b = goal.map (· - chg cs)) → ∀ (H' : Hp) (p : Addr), Same H H' → H' p = some (.tup [optV a, optV b]) → Q (.ref p) H' := fun a a1 a2 b b1 b2 H' p e hp => by
          refine k H' (.ref p) e ⟨p, rfl, ?_⟩
          have ea : a = if goal = lo then some 0 else goal.map (· - chg cs) := by
            by_cases z : goal = lo
            · rw [if_pos z, a1 z]
            · rw [if_neg z, a2 z]
          have eb : b = if goal = hi then none else goal.map (· - chg cs) := by
            by_cases z : goal = hi
            · rw [if_pos z, b1 z]
            · rw [if_neg z, b2 z]
          rw [← ea, ← eb]
          exact hp
        rw [(seq goal lo).2]
        have last : ∀ a : Option Int, (goal = lo → a = some 0) → (goal ≠ lo → a = goal.map (· - chg cs)) → ∀ (b : Option Int), (goal = hi → b = none) → (goal ≠ hi → b = goal.map (· - chg cs)) → ∀ p, H5 p = none → Q (.ref p) (upd H5 p (.tup [optV a, optV b])) := fun a a1 a2 b b1 b2 p hp =>
          fin a a1 a2 b b1 b2 _ p (same_upd e13 hp) upd_same
        refine ite2 (fun c => ?_) (fun c => ?_)
        · have c' : goal = lo := of_decide_eq_true c
          refine ⟨_, rfl, _, rfl, (seq goal hi).1, _, rfl, ?_⟩
          rw [(seq goal hi).2]
          refine ite2 (fun d => ?_) (fun d => ?_)
          · have d' : goal = hi := of_decide_eq_true d
            exact ⟨(by show 2 ≤ sizeLine; decide), last (some 0) (fun _ => rfl) (fun z => absurd c' z) none (fun _ => rfl) (fun z => absurd d' z)⟩
          · have d' : goal ≠ hi := fun z => d (decide_eq_true z)
            exact ⟨_, rfl, (by show 2 ≤ sizeLine; decide), last (some 0) (fun _ => rfl) (fun z => absurd c' z) _ (fun z => absurd z d') (fun _ => rfl)⟩
        · have c' : goal ≠ lo := fun z => c (decide_eq_true z)
          refine ⟨_, rfl, _, rfl, _, rfl, (seq goal hi).1, _, rfl, ?_⟩
          rw [(seq goal hi).2]
          refine ite2 (fun d => ?_) (fun d => ?_)
          · have d' : goal = hi := of_decide_eq_true d
            exact ⟨(by show 2 ≤ sizeLine; decide), last _ (fun z => absurd z c') (fun _ => rfl) none (fun _ => rfl) (fun z => absurd d' z)⟩
          · have d' : goal ≠ hi := fun z => d (decide_eq_true z)
            exact ⟨_, rfl, (by show 2 ≤ sizeLine; decide), last _ (fun z => absurd z c') (fun _ => rfl) _ (fun z => absurd z d') (fun _ => rfl)⟩
end
end Gc

namespace Gc
open PySem L2
abbrev s_great : Stmt := top 42
def spGreat : Sp := fun vs H Q _ => ∃ (b g : Addr) (n : Nat), vs = [.ref b] ∧ Bag H b g n ∧ n < 2 ^ 39 ∧ ∀ (H' : Hp) (r : Int), Keep b g H H' → Bag H' b g (n + 2) → 0 ≤ r → r < 10 ^ 28 → Q (.int r) H'
section
variable {P : Program} {w : World} {K : PySem.W.Frag} {mg : Str → Option Value} {base : Heap}
theorem sc_law_great : FnScope ["bag"] ["bag"] (defScope s_great) := ⟨rfl, rfl, rfl, by decide +kernel, rfl, by decide +kernel, by decide +kernel⟩
theorem ok_great {f : Addr} {fd : FuncData} (F : Fun K "_law_great" "_law_great" s_great f fd) (c_law_draw : Cal P w K mg base 1 "_law_draw" spBdraw) : FnOk P w K mg base CX0 2 f fd ["bag"] spGreat := by
  refine F.ok sc_law_great (fun vs H Q E h => ?_) (fun cdv A outer s H vs Q E hr h => ?_)
  · obtain ⟨b, g, n, rfl, _⟩ := h
    rfl
  · obtain ⟨b, g, n, rfl, B, hn, k⟩ := h
    refine ⟨_, (pss_one (ps_ret (pe_op op_add (pe_op op_mulW (pe_cal c_law_draw hr (by decide) (by rfl) (pa_cons (pv 0) (pa_cons (pe_op op_pow pe_int pe_int) pa_nil))) (pe_op op_pow pe_int pe_int)) (pe_cal c_law_draw hr (by decide) (by rfl) (pa_cons (pv 0) (pa_cons (pe_op op_pow pe_int pe_int) pa_nil)))))), ?_⟩
    refine ⟨_, rfl, _, _, rfl, rfl, cpow (by decide), b, g, n, _, rfl, B, by omega, by decide, by decide, fun H1 d1 kp1 B1 d10 d11 => ?_⟩
    have d11' : d1 < 10 ^ 14 := d11
    refine ⟨_, _, rfl, rfl, cpow (by decide), _, _, rfl, rfl, wide_mul (a := 61) (b := 61) (by omega) (by decide) (by decide) (by decide) (by decide), _, rfl, _, _, rfl, rfl, cpow (by decide), b, g, _, _, rfl, B1, by omega, by decide, by decide, fun H2 d2 kp2 B2 d20 d21 => ?_⟩
    have d21' : d2 < 10 ^ 14 := d21
    refine ⟨_, _, rfl, rfl, k _ _ (kp1.trans kp2) B2 ?_ ?_⟩
    · show 0 ≤ d1 * 10 ^ 14 + d2
      omega
    · show d1 * 10 ^ 14 + d2 < 10 ^ 28
      omega
end
end Gc

/-! commands shown as text -/
namespace Gc
open PySem L2 TL
abbrev s_show_commands : Stmt := top 35
abbrev s_show_command : Stmt := top 36
abbrev s_show_number : Stmt := top 37
structure TxtW (mg : Str → Option Value) : Prop where
  str : mg "str" = none
  len : mg "len" = none
  divmod : mg "divmod" = none
def spShowN : Sp := fun vs H Q _ => ∃ n : Int, vs = [.int n] ∧ 0 ≤ n ∧ n < 10 ^ 64 ∧ Q (.str (mkS (numL n.toNat))) H
def spShow1 (K : PySem.W.Frag) : Sp := fun vs H Q _ => ∃ (v : V) (c : Cmd), vs = [v] ∧ CmdAt K H v c ∧ c.ok ∧ numC c < 10 ^ 40 ∧ Q (.str (mkS (cw c))) H
def spShow (K : PySem.W.Frag) : Sp := fun vs H Q _ => ∃ (l : Addr) (xs : List V) (cs : List Cmd), vs = [.ref l] ∧ SqL K H l xs ∧ CmdsOf K H xs cs ∧ AllOk cs ∧ (∀ c ∈ cs, numC c < 10 ^ 40) ∧ cs.length ≤ 10000 ∧ ∀ H', Same H H' → Q (.str (shownS cs)) H'
theorem str_num {n : Int} (h : 0 ≤ n) : Str.ofString (toString n) = mkS (numL n.toNat) := by
  obtain ⟨m, rfl⟩ := Int.eq_ofNat_of_zero_le h
  exact ext_tl (tl_num m)
theorem log64 {n : Int} (h0 : 0 ≤ n) (h : n < 10 ^ 64) : n.natAbs.log2 < 1920 :=
  Nat.lt_of_lt_of_le (PySem.Flt.log2_lt_of (k := 214) (by decide) (by omega)) (by decide)
theorem add_mk {l m : List Nat} (h : l.length + m.length ≤ 100000) {H : Hp} {Q : VK} (q : Q (.str (mkS (l ++ m))) H) : ∃ i j, V.str (mkS l) = .str i ∧ V.str (mkS m) = .str j ∧ i.length + j.length ≤ sizeLine ∧ Q (.str (i ++ j)) H := by
  refine ⟨_, _, rfl, rfl, ?_, ?_⟩
  · rw [mkS_len, mkS_len, sizeLine_eq]
    omega
  · rw [mkS_app]
    exact q
section
variable {P : Program} {w : World} {K : PySem.W.Frag} {mg : Str → Option Value} {base : Heap}
theorem sc_show_number : FnScope ["number", "shown", "rest"] ["number"] (defScope s_show_number) := ⟨rfl, rfl, rfl, by decide +kernel, rfl, by decide +kernel, by decide +kernel⟩
theorem ok_show_number {f : Addr} {fd : FuncData} (F : Fun K "show_number" "show_number" s_show_number f fd) (T : TxtW mg) : FnOk P w K mg base CX0 1 f fd ["number"] spShowN := by
  refine F.ok sc_show_number (fun vs H Q E h => ?_) (fun cdv A outer s H vs Q E hr h => ?_)
  · obtain ⟨n, rfl, _⟩ := h
    rfl
  · obtain ⟨n, rfl, h0, h1, k⟩ := h
    refine ⟨_, (pss_cons (ps_set (i := 1) sc_show_number.nd rfl (Or.inl rfl) pe_str)
      (C8.pss_cut (ps_while PassesOwn.never (pt_cmpR op_ge (pv 0) (pe_op op_pow pe_int pe_int) (nomark _)) (pss_cons (ps_asg (pe_callB call_divmod (by rfl) T.divmod (by decide +kernel) (pa_cons (pv 0) (pa_cons (pe_op op_pow pe_int pe_int) pa_nil))) (pg_tup rfl (pgs_cons (pg_name (i := 0) sc_show_number.nd rfl (Or.inl rfl)) (pgs_cons (pg_name (i := 2) sc_show_number.nd rfl (Or.inl rfl)) pgs_nil))))
      (pss_one (ps_set (i := 1) sc_show_number.nd rfl (Or.inl rfl) (pe_op op_add_str (pe_m1 PySem.F.slot_str_zfill PySem.F.type_str_zfill mt_zfill (pe_callTy call_str_int (by rfl) T.str (by decide +kernel) (pa_cons (pv 2) pa_nil)) pe_int) (pv 1))))))
      (pss_one (ps_ret (pe_op op_add_str (pe_callTy call_str_int (by rfl) T.str (by decide +kernel) (pa_cons (pv 0) pa_nil)) (pv 1)))))), ?_⟩
    refine ⟨fun σ H' => σ = [some (.int n), some (.str ""), none] ∧ H' = H, ?_, ?_⟩
    · refine ⟨fun m σ H' => σ = [some (.int n), some (.str ""), none] ∧ H' = H, ⟨0, rfl, rfl⟩, ?_⟩
      rintro m σ H' ⟨rfl, rfl⟩
      refine ⟨_, rfl, _, _, rfl, rfl, cpow (by decide), _, _, rfl, rfl, _, rfl, ?_⟩
      refine ite2 (fun c => ?_) (fun _ => ⟨rfl, rfl⟩)
      have z : (10 : Int) ^ (64 : Int).toNat ≤ n := of_decide_eq_true c
      have e : (10 : Int) ^ (64 : Int).toNat = 10 ^ 64 := by decide
      omega
    · rintro σ H' ⟨rfl, rfl⟩
      refine ⟨_, rfl, _, rfl, log64 h0 h1, _, rfl, ?_⟩
      rw [str_num h0]
      refine add_mk (m := []) ?_ ?_
      · have := numL_len (n := n.toNat) (k := 64) (by decide) (by omega)
        rw [List.length_nil]
        omega
      · rw [List.append_nil]
        exact k
theorem sc_show_command : FnScope ["command", "letter"] ["command"] (defScope s_show_command) := ⟨rfl, rfl, rfl, by decide +kernel, rfl, by decide +kernel, by decide +kernel⟩
theorem ok_show_command {f : Addr} {fd : FuncData} (F : Fun K "show_command" "show_command" s_show_command f fd) (T : TxtW mg) (c_show_number : Cal P w K mg base 1 "show_number" spShowN) : FnOk P w K mg base CX0 2 f fd ["command"] (spShow1 K) := by
  refine F.ok sc_show_command (fun vs H Q E h => ?_) (fun cdv A outer s H vs Q E hr h => ?_)
  · obtain ⟨v, c, rfl, _⟩ := h
    rfl
  · obtain ⟨v, c, rfl, ⟨a, rfl, ha⟩, hok, hn, k⟩ := h
    refine ⟨_, (pss_cons (ps_set (i := 1) sc_show_command.nd rfl (Or.inl rfl) (pe_upper (pe_ix ix_str (pe_ix ix_tup (pv 0) pe_int (fun _ _ => rfl)) pe_int (fun _ _ => rfl))))
      (pss_one (ps_ret (pe_ifExp (pt_cmpR op_eq (pe_callB call_len_seq (by rfl) T.len (by decide +kernel) (pa_cons (pv 0) pa_nil)) pe_int (nomark _)) (pv 1) (pe_op op_add_str (pe_cal c_show_number hr (by decide) (by rfl) (pa_cons (pe_ix ix_tup (pv 0) pe_int (fun _ _ => rfl)) pa_nil)) (pv 1)))))), ?_⟩
    have dl := digC_len hn
    cases c with
    | down n =>
      have n1 : 1 ≤ n := hok
      have n2 : n < 10 ^ 40 := hn
      refine ⟨_, rfl, a, _, 0, _, rfl, rfl, ha, rfl, _, _, 100, rfl, rfl, by decide +kernel, by decide +kernel, ⟨_, rfl⟩, _, rfl, rfl, by decide +kernel, ?_⟩
      refine ⟨_, rfl, a, _, rfl, .inr ha, rfl, _, rfl, iteF ?_⟩
      refine ⟨_, rfl, a, _, 1, _, rfl, rfl, ha, rfl, _, rfl, by omega, by omega, _, rfl, ?_⟩
      rw [show (Txt.upper ⟨#[100]⟩ : Str) = mkS [68] by decide +kernel]
      refine add_mk ?_ k
      have dl' : (numL n.toNat).length ≤ 40 := dl
      simp
      omega
    | up n =>
      have n1 : 1 ≤ n := hok
      have n2 : n < 10 ^ 40 := hn
      refine ⟨_, rfl, a, _, 0, _, rfl, rfl, ha, rfl, _, _, 117, rfl, rfl, by decide +kernel, by decide +kernel, ⟨_, rfl⟩, _, rfl, rfl, by decide +kernel, ?_⟩
      refine ⟨_, rfl, a, _, rfl, .inr ha, rfl, _, rfl, iteF ?_⟩
      refine ⟨_, rfl, a, _, 1, _, rfl, rfl, ha, rfl, _, rfl, by omega, by omega, _, rfl, ?_⟩
      rw [show (Txt.upper ⟨#[117]⟩ : Str) = mkS [85] by decide +kernel]
      refine add_mk ?_ k
      have dl' : (numL n.toNat).length ≤ 40 := dl
      simp
      omega
    | right n =>
      have n1 : 1 ≤ n := hok
      have n2 : n < 10 ^ 40 := hn
      refine ⟨_, rfl, a, _, 0, _, rfl, rfl, ha, rfl, _, _, 114, rfl, rfl, by decide +kernel, by decide +kernel, ⟨_, rfl⟩, _, rfl, rfl, by decide +kernel, ?_⟩
      refine ⟨_, rfl, a, _, rfl, .inr ha, rfl, _, rfl, iteF ?_⟩
      refine ⟨_, rfl, a, _, 1, _, rfl, rfl, ha, rfl, _, rfl, by omega, by omega, _, rfl, ?_⟩
      rw [show (Txt.upper ⟨#[114]⟩ : Str) = mkS [82] by decide +kernel]
      refine add_mk ?_ k
      have dl' : (numL n.toNat).length ≤ 40 := dl
      simp
      omega
    | left n =>
      have n1 : 1 ≤ n := hok
      have n2 : n < 10 ^ 40 := hn
      refine ⟨_, rfl, a, _, 0, _, rfl, rfl, ha, rfl, _, _, 108, rfl, rfl, by decide +kernel, by decide +kernel, ⟨_, rfl⟩, _, rfl, rfl, by decide +kernel, ?_⟩
      refine ⟨_, rfl, a, _, rfl, .inr ha, rfl, _, rfl, iteF ?_⟩
      refine ⟨_, rfl, a, _, 1, _, rfl, rfl, ha, rfl, _, rfl, by omega, by omega, _, rfl, ?_⟩
      rw [show (Txt.upper ⟨#[108]⟩ : Str) = mkS [76] by decide +kernel]
      refine add_mk ?_ k
      have dl' : (numL n.toNat).length ≤ 40 := dl
      simp
      omega
    | home =>
      refine ⟨_, rfl, a, _, 0, _, rfl, rfl, ha, rfl, _, _, 104, rfl, rfl, by decide +kernel, by decide +kernel, ⟨_, rfl⟩, _, rfl, rfl, by decide +kernel, ?_⟩
      refine ⟨_, rfl, a, _, rfl, .inr ha, rfl, _, rfl, iteT ?_⟩
      refine ⟨_, rfl, ?_⟩
      rw [show (Txt.upper ⟨#[104]⟩ : Str) = mkS [72] by decide +kernel]
      exact k
    | stop =>
      refine ⟨_, rfl, a, _, 0, _, rfl, rfl, ha, rfl, _, _, 101, rfl, rfl, by decide +kernel, by decide +kernel, ⟨_, rfl⟩, _, rfl, rfl, by decide +kernel, ?_⟩
      refine ⟨_, rfl, a, _, rfl, .inr ha, rfl, _, rfl, iteT ?_⟩
      refine ⟨_, rfl, ?_⟩
      rw [show (Txt.upper ⟨#[101]⟩ : Str) = mkS [69] by decide +kernel]
      exact k
theorem sc_show_commands : FnScope ["commands", "command"] ["commands"] (defScope s_show_commands) := ⟨rfl, rfl, rfl, by decide +kernel, rfl, by decide +kernel, by decide +kernel⟩
theorem ok_show_commands {f : Addr} {fd : FuncData} (F : Fun K "show_commands" "show_commands" s_show_commands f fd) (c_show_command : Cal P w K mg base 2 "show_command" (spShow1 K)) : FnOk P w K mg base CX0 3 f fd ["commands"] (spShow K) := by
  refine F.ok sc_show_commands (fun vs H Q E h => ?_) (fun cdv A outer s H vs Q E hr h => ?_)
  · obtain ⟨l, xs, cs, rfl, _⟩ := h
    rfl
  · obtain ⟨l, xs, cs, rfl, hl, hc, ok, hn, hlen, k⟩ := h
    refine ⟨_, (pss_cons (ps_if (pt_not (pt_truth (pv 0) (fun _ => rfl))) (pss_one (ps_ret pe_str)) pss_nil)
      (pss_one (ps_ret (pe_join pe_str (pe_lc (own := [("command", 1)]) rfl sc_show_commands.nd (pi_list (pv 0)) (blkOk_by (N := ["commands", "command"]) (sc := defScope s_show_commands) (by decide +kernel)) (fun _ _ _ _ _ => (pg_name (i := 1) sc_show_commands.nd rfl (Or.inl rfl))) (fun _ _ _ _ _ => pts_nil) (fun _ _ _ _ _ => (pe_cal c_show_command hr (by decide) (by rfl) (pa_cons (pv 1) pa_nil)))))))), ?_⟩
    have xl := hc.len
    refine ⟨_, rfl, _, tru_seq hl, ?_⟩
    cases cs with
    | nil =>
      cases hc
      exact iteT (k H (Same.refl H))
    | cons c0 cr =>
      have x0 : (!xs.isEmpty) = true := by
        cases hc
        rfl
      rw [x0]
      refine iteF ⟨⟨_, rfl⟩, _, rfl, l, rfl, ⟨_, hl⟩, fun D hD => ?_⟩
      refine lc_list (K := K) (a := l) (xs := xs) (fun i H' => Same H H' ∧ H' D = some (.lst ((((c0 :: cr).take i).map fun c => mkS (cw c)).map V.str))) ⟨same_upd (Same.refl H) hD, upd_same⟩ (fun i H' _ ⟨e, _⟩ => e.seq hl) (fun i x H' hi h => ?_) (fun H' h => ?_)
      · obtain ⟨e, eD⟩ := h
        obtain ⟨c, hci, hca⟩ := paired_at hc hi
        have li := (List.getElem?_eq_some_iff.mp hci).1
        have cm := List.mem_of_getElem? hci
        refine ⟨rfl, _, rfl, x, c, rfl, hca.same e, ok c cm, hn c cm, _, eD, ?_, ?_, ?_⟩
        · refine lt_line ?_
          rw [List.length_map, List.length_map, List.length_take]
          omega
        · exact same_freeU e hD
        · rw [upd_same, takeS hci, List.map_append, List.map_append]
          rfl
      · obtain ⟨e, eD⟩ := h
        rw [List.take_of_length_le (by rw [xl]; exact Nat.le_refl _)] at eD
        refine ⟨_, D, (c0 :: cr).map fun c => mkS (cw c), rfl, rfl, .inl (SqL.of eD), ?_, ?_⟩
        · have key : ∀ cs : List Cmd, (∀ c ∈ cs, numC c < 10 ^ 40) → ((cs.map fun c => mkS (cw c)).map (·.length)).sum ≤ 41 * cs.length := by
            intro cs
            induction cs with
            | nil => exact fun _ => Nat.le_refl _
            | cons c cs ih =>
              intro hh
              rw [List.map_cons, List.map_cons, List.sum_cons, List.length_cons]
              have h1 := cw_len (hh c List.mem_cons_self)
              have h2 := ih fun x hx => hh x (List.mem_cons_of_mem _ hx)
              rw [mkS_len]
              omega
          have h3 := key _ hn
          rw [List.length_map]
          have h4 : (Str.ofString " ").length = 1 := by decide +kernel
          rw [h4]
          omega
        · have e2 : Txt.join (Str.ofString " ") ((c0 :: cr).map fun c => mkS (cw c)) = shownS (c0 :: cr) := by
            refine ext_tl ?_
            rw [join_eq, tl_join, List.map_map]
            unfold shownS shownL
            rw [if_neg (by simp)]
            rfl
          show Q (.str (Txt.join (Str.ofString " ") ((c0 :: cr).map fun c => mkS (cw c)))) H'
          rw [e2]
          exact k H' e
end
end Gc

/-! texts read back, where they can be -/
namespace Gc
open PySem L2 TL
abbrev s_read_commands : Stmt := top 31
abbrev s_read_command : Stmt := top 32
abbrev s_is_number : Stmt := top 33
structure TxtRd (K : PySem.W.Frag) (w : World) (mg : Str → Option Value) (na nb : Addr) (eA eB : Array DictEntry) (nA nB : Nat) (tm : Tok) : Prop where
  g_NAMES_ALONE : mg "NAMES_ALONE" = some (.ref na)
  g_NAMES_BEHIND_NUMBER : mg "NAMES_BEHIND_NUMBER" = some (.ref nb)
  g_MOST_DIGITS : mg "MOST_DIGITS" = some (.int 40 tm)
  dA : KDict K w na eA nA
  dB : KDict K w nb eB nB
  aH : ∃ t, PySem.W.nsIn K na "H" = some (some (.str "home" t))
  aE : ∃ t, PySem.W.nsIn K na "E" = some (some (.str "end" t))
  aNo : ∀ x : Str, x ≠ "H" → x ≠ "E" → PySem.W.nsIn K na x = some none
  bD : ∃ t, PySem.W.nsIn K nb "D" = some (some (.str "down" t))
  bU : ∃ t, PySem.W.nsIn K nb "U" = some (some (.str "up" t))
  bR : ∃ t, PySem.W.nsIn K nb "R" = some (some (.str "right" t))
  bL : ∃ t, PySem.W.nsIn K nb "L" = some (some (.str "left" t))
  int : mg "int" = none
  len : mg "len" = none
  all : mg "all" = none
def aloneL (t1 t2 u1 u2 : Tok) : List (Str × Tok × Str × Tok) := [("H", t1, "home", u1), ("E", t2, "end", u2)]
def behindL (t1 t2 t3 t4 u1 u2 u3 u4 : Tok) : List (Str × Tok × Str × Tok) := [("D", t1, "down", u1), ("U", t2, "up", u2), ("R", t3, "right", u3), ("L", t4, "left", u4)]
theorem rd_mk {K : PySem.W.Frag} {w : World} {mg : Str → Option Value} {na nb : Addr} {nA nB : Nat} {tm t1 t2 u1 u2 s1 s2 s3 s4 r1 r2 r3 r4 : Tok} (g1 : mg "NAMES_ALONE" = some (.ref na)) (g2 : mg "NAMES_BEHIND_NUMBER" = some (.ref nb)) (g3 : mg "MOST_DIGITS" = some (.int 40 tm))
    (lA : K.lookup na = some ⟨.type "dict", none, .dict #[⟨PyData.keyHash w.params "H", .str "H" t1, .str "home" u1⟩, ⟨PyData.keyHash w.params "E", .str "E" t2, .str "end" u2⟩] nA, #[]⟩)
    (lB : K.lookup nb = some ⟨.type "dict", none, .dict #[⟨PyData.keyHash w.params "D", .str "D" s1, .str "down" r1⟩, ⟨PyData.keyHash w.params "U", .str "U" s2, .str "up" r2⟩, ⟨PyData.keyHash w.params "R", .str "R" s3, .str "right" r3⟩, ⟨PyData.keyHash w.params "L", .str "L" s4, .str "left" r4⟩] nB, #[]⟩)
    (oA : (na == sysModules) = false) (oB : (nb == sysModules) = false) (z1 : mg "int" = none) (z2 : mg "len" = none) (z3 : mg "all" = none) :
    TxtRd K w mg na nb ((aloneL t1 t2 u1 u2).map (entD w.params)).toArray ((behindL s1 s2 s3 s4 r1 r2 r3 r4).map (entD w.params)).toArray nA nB tm := by
  have hA : K.lookup na = some ⟨.type "dict", none, .dict ((aloneL t1 t2 u1 u2).map (entD w.params)).toArray nA, #[]⟩ := lA
  have hB : K.lookup nb = some ⟨.type "dict", none, .dict ((behindL s1 s2 s3 s4 r1 r2 r3 r4).map (entD w.params)).toArray nB, #[]⟩ := lB
  refine ⟨g1, g2, g3, kd_ent hA oA, kd_ent hB oB, ⟨u1, ?_⟩, ⟨u2, ?_⟩, fun x n1 n2 => ?_, ⟨r1, ?_⟩, ⟨r2, ?_⟩, ⟨r3, ?_⟩, ⟨r4, ?_⟩, z1, z2, z3⟩
  · rw [ns_ent hA]
    unfold aloneL
    rw [List.find?_cons, show decide (("H" : Str) = "H") = true by decide +kernel]
    rfl
  · rw [ns_ent hA]
    unfold aloneL
    rw [List.find?_cons, show decide (("H" : Str) = "E") = false by decide +kernel]
    dsimp only
    rw [List.find?_cons, show decide (("E" : Str) = "E") = true by decide +kernel]
    rfl
  · rw [ns_ent hA]
    unfold aloneL
    rw [List.find?_cons, show decide (("H" : Str) = x) = false from decide_eq_false (Ne.symm n1)]
    dsimp only
    rw [List.find?_cons, show decide (("E" : Str) = x) = false from decide_eq_false (Ne.symm n2)]
    rfl
  · rw [ns_ent hB]
    unfold behindL
    rw [List.find?_cons, show decide (("D" : Str) = "D") = true by decide +kernel]
    rfl
  · rw [ns_ent hB]
    unfold behindL
    rw [List.find?_cons, show decide (("D" : Str) = "U") = false by decide +kernel]
    dsimp only
    rw [List.find?_cons, show decide (("U" : Str) = "U") = true by decide +kernel]
    rfl
  · rw [ns_ent hB]
    unfold behindL
    rw [List.find?_cons, show decide (("D" : Str) = "R") = false by decide +kernel]
    dsimp only
    rw [List.find?_cons, show decide (("U" : Str) = "R") = false by decide +kernel]
    dsimp only
    rw [List.find?_cons, show decide (("R" : Str) = "R") = true by decide +kernel]
    rfl
  · rw [ns_ent hB]
    unfold behindL
    rw [List.find?_cons, show decide (("D" : Str) = "L") = false by decide +kernel]
    dsimp only
    rw [List.find?_cons, show decide (("U" : Str) = "L") = false by decide +kernel]
    dsimp only
    rw [List.find?_cons, show decide (("R" : Str) = "L") = false by decide +kernel]
    dsimp only
    rw [List.find?_cons, show decide (("L" : Str) = "L") = true by decide +kernel]
    rfl
def spIsNum (K : PySem.W.Frag) : Sp := fun vs H Q _ => ∃ n : Nat, vs = [.str (mkS (numL n))] ∧ 1 ≤ n ∧ n < 10 ^ 40 ∧ ∀ H', Same H H' → Q (.bl true) H'
def spRead1 (K : PySem.W.Frag) : Sp := fun vs H Q _ => ∃ c : Cmd, vs = [.str (mkS (cw c))] ∧ c.ok ∧ numC c < 10 ^ 40 ∧ ∀ (H' : Hp) (p : Addr), Same H H' → H p = none → H' p = some (.tup (encC c)) → Q (.ref p) H'
def spRead (K : PySem.W.Frag) : Sp := fun vs H Q _ => ∃ cs : List Cmd, vs = [.str (shownS cs)] ∧ AllOk cs ∧ (∀ c ∈ cs, numC c < 10 ^ 40) ∧ cs.length ≤ 1000 ∧
  ∀ (H' : Hp) (p : Addr) (xs : List V), Same H H' → H p = none → H' p = some (.lst xs) → CmdsOf K H' xs cs → Q (.ref p) H'
section
variable {P : Program} {w : World} {K : PySem.W.Frag} {mg : Str → Option Value} {base : Heap} {na nb : Addr} {eA eB : Array DictEntry} {nA nB : Nat} {tm : Tok}
theorem sc_is_number : FnScope ["digits", "digit"] ["digits"] (defScope s_is_number) := ⟨rfl, rfl, rfl, by decide +kernel, rfl, by decide +kernel, by decide +kernel⟩
theorem ok_is_number {f : Addr} {fd : FuncData} (F : Fun K "is_number" "is_number" s_is_number f fd) (T : TxtRd K w mg na nb eA eB nA nB tm) : FnOk P w K mg base CX0 1 f fd ["digits"] (spIsNum K) := by
  refine F.ok sc_is_number (fun vs H Q E h => ?_) (fun cdv A outer s H vs Q E hr h => ?_)
  · obtain ⟨n, rfl, _⟩ := h
    rfl
  · obtain ⟨n, rfl, n1, n2, k⟩ := h
    refine ⟨_, (pss_cons (ps_if (PW.pt (pw_or (pt_not (pt_chain op_le op_le pe_int (pe_callB call_len_str (by rfl) T.len (by decide +kernel) (pa_cons (pv 0) pa_nil)) (pe_glob (v := .int 40) (by rfl) T.g_MOST_DIGITS ⟨_, rfl⟩))) (pw_or1 (pt_cmpR op_eq (pe_ix ix_str (pv 0) pe_int (fun _ _ => rfl)) pe_str (nomark _))))) (pss_one (ps_ret pe_bl)) pss_nil)
      (pss_one (ps_ret (pe_callB (cr_all rfl) (by rfl) T.all (by decide +kernel) (pa_cons (pe_lc (own := [("digit", 1)]) rfl sc_is_number.nd (pi_str (pv 0)) (blkOk_by (N := ["digits", "digit"]) (sc := defScope s_is_number) (by decide +kernel)) (fun _ _ _ _ _ => (pg_name (i := 1) sc_is_number.nd rfl (Or.inl rfl))) (fun _ _ _ _ _ => pts_nil) (fun _ _ _ _ _ => (pe_cmpR op_in_sign (pv 1) pe_str (by rfl)))) pa_nil))))), ?_⟩
    obtain ⟨a, l, e, a1, a2⟩ := numL_head n1
    have dg := numL_digits n
    have ln := numL_len (n := n) (k := 40) (by decide) n2
    have ll : (mkS (numL n)).length ≤ sizeLine := by
      rw [mkS_len, sizeLine_eq]
      omega
    have l1 : 1 ≤ (numL n).length := by rw [e]; simp
    refine ⟨_, rfl, _, rfl, ll, _, _, rfl, rfl, _, rfl, ?_⟩
    rw [if_pos (decide_eq_true (show (1 : Int) ≤ ((mkS (numL n)).length : Int) by rw [mkS_len]; omega))]
    refine ⟨_, _, rfl, rfl, _, rfl, ?_⟩
    rw [decide_eq_true (show ((mkS (numL n)).length : Int) ≤ 40 by rw [mkS_len]; omega)]
    refine iteF ?_
    have at0 : atI (mkS (numL n)).cps.toList 0 = some a := by
      show atI (numL n) ((0 : Nat) : Int) = some a
      rw [e]
      exact atI_nat rfl
    refine ⟨_, rfl, _, _, a, rfl, rfl, ll, at0, rfl, false, ?_, iteF ?_⟩
    · rw [show ("0" : Str) = mkS [48] by decide +kernel]
      exact one_no (by omega)
    refine ⟨_, rfl, _, rfl, fun D hD => ?_⟩
    refine lc_it walk_str (fun i H' => Same H H' ∧ H' D = some (.lst ((List.replicate i true).map V.bl))) ⟨same_upd (Same.refl H) hD, upd_same⟩ (fun _ _ _ _ => trivial) (fun i x H2 H' hi p y => ?_) (fun H' h => ?_)
    · obtain ⟨rfl, c, hc, rfl⟩ := y
      obtain ⟨s1, eD⟩ := p
      have li : i < (numL n).length := hi
      have cd := dg c (List.mem_of_getElem? (show (numL n)[i]? = some c by rw [← hc]; exact (List.getElem?_toArray ..).symm))
      have cm : decide (c ∈ (("0123456789" : Str)).cps.toList) = true := by
        rw [show (("0123456789" : Str)).cps.toList = [48, 49, 50, 51, 52, 53, 54, 55, 56, 57] by decide +kernel]
        refine decide_eq_true ?_
        simp
        omega
      refine ⟨rfl, _, rfl, c, _, rfl, rfl, _, eD, ?_, same_freeU s1 hD, ?_⟩
      · refine lt_line ?_
        rw [List.length_map, List.length_replicate]
        omega
      · rw [upd_same, cm, List.replicate_succ', List.map_append]
        rfl
    · obtain ⟨s1, eD⟩ := h
      refine ⟨D, List.replicate _ true, rfl, SqL.of eD, ?_⟩
      rw [show ∀ m, (List.replicate m true).all id = true from fun m => by simp]
      exact k _ s1
theorem sc_read_command : FnScope ["word", "digits", "letter"] ["word"] (defScope s_read_command) := ⟨rfl, rfl, rfl, by decide +kernel, rfl, by decide +kernel, by decide +kernel⟩
theorem ok_read_command {f : Addr} {fd : FuncData} (F : Fun K "read_command" "read_command" s_read_command f fd) (T : TxtRd K w mg na nb eA eB nA nB tm) (c_is_number : Cal P w K mg base 1 "is_number" (spIsNum K)) : FnOk P w K mg base CX0 2 f fd ["word"] (spRead1 K) := by
  refine F.ok sc_read_command (fun vs H Q E h => ?_) (fun cdv A outer s H vs Q E hr h => ?_)
  · obtain ⟨n, rfl, _⟩ := h
    rfl
  · obtain ⟨c, rfl, ok, hn, k⟩ := h
    refine ⟨_, (pss_cons (ps_if (pt_cmpR (op_in_kd T.dA) (pv 0) (pe_glob (v := .ref na) (by rfl) T.g_NAMES_ALONE rfl) (by rfl)) (pss_one (ps_ret (pe_tup (pa_cons (pe_ix ix_kdict (pe_glob (v := .ref na) (by rfl) T.g_NAMES_ALONE rfl) (pv 0) (fun _ _ => rfl)) pa_nil)))) pss_nil)
      (pss_cons (ps_par (i := 1) (j := 2) rfl sc_read_command.nd rfl rfl (by decide) rfl rfl (pa_cons (pe_slice sl_str (pv 0) po_none (po_some (pe_un un_neg pe_int))) (pa_cons (pe_slice sl_str (pv 0) (po_some (pe_un un_neg pe_int)) po_none) pa_nil)) (by rfl))
      (pss_cons (ps_if (PW.pt (pw_and (pt_cmpR (op_in_kd T.dB) (pv 2) (pe_glob (v := .ref nb) (by rfl) T.g_NAMES_BEHIND_NUMBER rfl) (by rfl)) (pw_and1 (pt_val (pe_cal c_is_number hr (by decide) (by rfl) (pa_cons (pv 1) pa_nil)))))) (pss_one (ps_ret (pe_tup (pa_cons (pe_ix ix_kdict (pe_glob (v := .ref nb) (by rfl) T.g_NAMES_BEHIND_NUMBER rfl) (pv 2) (fun _ _ => rfl)) (pa_cons (pe_callTy call_int_str (by rfl) T.int (by decide +kernel) (pa_cons (pv 1) pa_nil)) pa_nil))))) pss_nil)
      (pss_one (ps_ret pe_non))))), ?_⟩
    have wl : (mkS (cw c)).length ≤ sizeLine := by
      have := cw_len hn
      rw [mkS_len, sizeLine_eq]
      omega
    have e72 : mkS [72] = ("H" : Str) := by decide +kernel
    have e69 : mkS [69] = ("E" : Str) := by decide +kernel
    cases c with
    | home =>
      obtain ⟨t, ht⟩ := T.aH
      have ew : mkS (cw .home) = ("H" : Str) := e72
      rw [ew]
      refine ⟨_, rfl, _, _, rfl, rfl, ht, _, rfl, iteT ?_⟩
      refine ⟨_, rfl, na, "H", .str "home", rfl, rfl, ⟨eA, nA, _, T.dA.at_, T.dA.lit, ht, ⟨t, rfl⟩⟩, (by show 1 ≤ sizeLine; decide), fun p np => k _ p (new_same np) np upd_same⟩
    | stop =>
      obtain ⟨t, ht⟩ := T.aE
      have ew : mkS (cw .stop) = ("E" : Str) := e69
      rw [ew]
      refine ⟨_, rfl, _, _, rfl, rfl, ht, _, rfl, iteT ?_⟩
      refine ⟨_, rfl, na, "E", .str "end", rfl, rfl, ⟨eA, nA, _, T.dA.at_, T.dA.lit, ht, ⟨t, rfl⟩⟩, (by show 1 ≤ sizeLine; decide), fun p np => k _ p (new_same np) np upd_same⟩
    | down n =>
      have n1 : 1 ≤ n := ok
      have n2 : n < 10 ^ 40 := hn
      obtain ⟨t, ht⟩ := T.bD
      have no := T.aNo (mkS (numL n.toNat ++ [68])) (by rw [← e72]; exact word_ne (by decide)) (by rw [← e69]; exact word_ne (by decide))
      refine ⟨_, rfl, _, _, rfl, rfl, no, _, rfl, iteF ?_⟩
      have el : mkS [68] = ("D" : Str) := by decide +kernel
      refine ⟨_, rfl, _, rfl, _, rfl, _, rfl, wl, ?_⟩
      rw [show mkS (cw (.down n)) = mkS (numL n.toNat ++ [68]) from rfl, cut_front]
      refine ⟨_, rfl, _, rfl, _, rfl, _, rfl, wl, ?_⟩
      rw [cut_back, el]
      refine ⟨_, _, rfl, ?_⟩
      refine ⟨_, rfl, _, _, rfl, rfl, ht, _, rfl, iteT ?_⟩
      refine ⟨_, rfl, n.toNat, rfl, by omega, by omega, fun H1 e1 => ⟨_, rfl, iteT ?_⟩⟩
      have l40 := numL_len (n := n.toNat) (k := 40) (by decide) (by omega)
      refine ⟨_, rfl, nb, "D", .str "down", rfl, rfl, ⟨eB, nB, _, T.dB.at_, T.dB.lit, ht, ⟨t, rfl⟩⟩, _, rfl, _, _, rfl, int_mk _ (by omega), (by rw [mkS_len]; omega), (by show 2 ≤ sizeLine; decide), fun p np => ?_⟩
      rw [show ((n.toNat : Nat) : Int) = n from Int.toNat_of_nonneg (by omega)]
      exact k _ p (e1.trans (new_same np)) (e1.free np) upd_same
    | up n =>
      have n1 : 1 ≤ n := ok
      have n2 : n < 10 ^ 40 := hn
      obtain ⟨t, ht⟩ := T.bU
      have no := T.aNo (mkS (numL n.toNat ++ [85])) (by rw [← e72]; exact word_ne (by decide)) (by rw [← e69]; exact word_ne (by decide))
      refine ⟨_, rfl, _, _, rfl, rfl, no, _, rfl, iteF ?_⟩
      have el : mkS [85] = ("U" : Str) := by decide +kernel
      refine ⟨_, rfl, _, rfl, _, rfl, _, rfl, wl, ?_⟩
      rw [show mkS (cw (.up n)) = mkS (numL n.toNat ++ [85]) from rfl, cut_front]
      refine ⟨_, rfl, _, rfl, _, rfl, _, rfl, wl, ?_⟩
      rw [cut_back, el]
      refine ⟨_, _, rfl, ?_⟩
      refine ⟨_, rfl, _, _, rfl, rfl, ht, _, rfl, iteT ?_⟩
      refine ⟨_, rfl, n.toNat, rfl, by omega, by omega, fun H1 e1 => ⟨_, rfl, iteT ?_⟩⟩
      have l40 := numL_len (n := n.toNat) (k := 40) (by decide) (by omega)
      refine ⟨_, rfl, nb, "U", .str "up", rfl, rfl, ⟨eB, nB, _, T.dB.at_, T.dB.lit, ht, ⟨t, rfl⟩⟩, _, rfl, _, _, rfl, int_mk _ (by omega), (by rw [mkS_len]; omega), (by show 2 ≤ sizeLine; decide), fun p np => ?_⟩
      rw [show ((n.toNat : Nat) : Int) = n from Int.toNat_of_nonneg (by omega)]
      exact k _ p (e1.trans (new_same np)) (e1.free np) upd_same
    | right n =>
      have n1 : 1 ≤ n := ok
      have n2 : n < 10 ^ 40 := hn
      obtain ⟨t, ht⟩ := T.bR
      have no := T.aNo (mkS (numL n.toNat ++ [82])) (by rw [← e72]; exact word_ne (by decide)) (by rw [← e69]; exact word_ne (by decide))
      refine ⟨_, rfl, _, _, rfl, rfl, no, _, rfl, iteF ?_⟩
      have el : mkS [82] = ("R" : Str) := by decide +kernel
      refine ⟨_, rfl, _, rfl, _, rfl, _, rfl, wl, ?_⟩
      rw [show mkS (cw (.right n)) = mkS (numL n.toNat ++ [82]) from rfl, cut_front]
      refine ⟨_, rfl, _, rfl, _, rfl, _, rfl, wl, ?_⟩
      rw [cut_back, el]
      refine ⟨_, _, rfl, ?_⟩
      refine ⟨_, rfl, _, _, rfl, rfl, ht, _, rfl, iteT ?_⟩
      refine ⟨_, rfl, n.toNat, rfl, by omega, by omega, fun H1 e1 => ⟨_, rfl, iteT ?_⟩⟩
      have l40 := numL_len (n := n.toNat) (k := 40) (by decide) (by omega)
      refine ⟨_, rfl, nb, "R", .str "right", rfl, rfl, ⟨eB, nB, _, T.dB.at_, T.dB.lit, ht, ⟨t, rfl⟩⟩, _, rfl, _, _, rfl, int_mk _ (by omega), (by rw [mkS_len]; omega), (by show 2 ≤ sizeLine; decide), fun p np => ?_⟩
      rw [show ((n.toNat : Nat) : Int) = n from Int.toNat_of_nonneg (by omega)]
      exact k _ p (e1.trans (new_same np)) (e1.free np) upd_same
    | left n =>
      have n1 : 1 ≤ n := ok
      have n2 : n < 10 ^ 40 := hn
      obtain ⟨t, ht⟩ := T.bL
      have no := T.aNo (mkS (numL n.toNat ++ [76])) (by rw [← e72]; exact word_ne (by decide)) (by rw [← e69]; exact word_ne (by decide))
      refine ⟨_, rfl, _, _, rfl, rfl, no, _, rfl, iteF ?_⟩
      have el : mkS [76] = ("L" : Str) := by decide +kernel
      refine ⟨_, rfl, _, rfl, _, rfl, _, rfl, wl, ?_⟩
      rw [show mkS (cw (.left n)) = mkS (numL n.toNat ++ [76]) from rfl, cut_front]
      refine ⟨_, rfl, _, rfl, _, rfl, _, rfl, wl, ?_⟩
      rw [cut_back, el]
      refine ⟨_, _, rfl, ?_⟩
      refine ⟨_, rfl, _, _, rfl, rfl, ht, _, rfl, iteT ?_⟩
      refine ⟨_, rfl, n.toNat, rfl, by omega, by omega, fun H1 e1 => ⟨_, rfl, iteT ?_⟩⟩
      have l40 := numL_len (n := n.toNat) (k := 40) (by decide) (by omega)
      refine ⟨_, rfl, nb, "L", .str "left", rfl, rfl, ⟨eB, nB, _, T.dB.at_, T.dB.lit, ht, ⟨t, rfl⟩⟩, _, rfl, _, _, rfl, int_mk _ (by omega), (by rw [mkS_len]; omega), (by show 2 ≤ sizeLine; decide), fun p np => ?_⟩
      rw [show ((n.toNat : Nat) : Int) = n from Int.toNat_of_nonneg (by omega)]
      exact k _ p (e1.trans (new_same np)) (e1.free np) upd_same
theorem sc_read_commands : FnScope ["text", "commands", "word", "command"] ["text"] (defScope s_read_commands) := ⟨rfl, rfl, rfl, by decide +kernel, rfl, by decide +kernel, by decide +kernel⟩
theorem ok_read_commands {f : Addr} {fd : FuncData} (F : Fun K "read_commands" "read_commands" s_read_commands f fd) (c_read_command : Cal P w K mg base 2 "read_command" (spRead1 K)) : FnOk P w K mg base CX0 3 f fd ["text"] (spRead K) := by
  refine F.ok sc_read_commands (fun vs H Q E h => ?_) (fun cdv A outer s H vs Q E hr h => ?_)
  · obtain ⟨n, rfl, _⟩ := h
    rfl
  · obtain ⟨cs, rfl, ok, hn, ln, k⟩ := h
    refine ⟨_, (pss_cons (ps_if (pt_cmpR op_eq (pv 0) pe_str (nomark _)) (pss_one (ps_ret (pe_lst pa_nil))) pss_nil)
      (pss_cons (ps_set (i := 1) sc_read_commands.nd rfl (Or.inl rfl) (pe_lst pa_nil))
      (pss_cons (ps_for PassesOwn.never rfl (pi_list (pe_bm PySem.F.plainAttrs_str PySem.F.slot_str_split PySem.F.type_str_split mt_split (pv 0) (pa_cons pe_str pa_nil))) (pg_name (i := 2) sc_read_commands.nd rfl (Or.inl rfl)) (pss_cons (ps_set (i := 3) sc_read_commands.nd rfl (Or.inl rfl) (pe_cal c_read_command hr (by decide) (by rfl) (pa_cons (pv 2) pa_nil)))
      (pss_cons (ps_if (pt_cmpR op_isN (pv 3) pe_non (nomark _)) (pss_one ps_never) pss_nil)
      (pss_one (ps_expr (pe_bm PySem.F.plainAttrs_list PySem.F.slot_list_append PySem.F.type_list_append mt_append (pv 1) (pa_cons (pv 3) pa_nil)))))))
      (pss_one (ps_ret (pv 1)))))), ?_⟩
    have wl : (shownS cs).length + 2 ≤ sizeLine := by
      have := shownL_len hn
      unfold shownS
      rw [mkS_len, sizeLine_eq]
      omega
    have hk : ¬ Builtin.Str.strKind (shownS cs) < Builtin.Str.strKind " " := by
      rw [show Builtin.Str.strKind " " = 1 by decide +kernel]
      unfold Builtin.Str.strKind
      split
      · omega
      · split <;> omega
    by_cases ce : cs = []
    · subst ce
      refine ⟨_, rfl, rfl, true, ?_, iteT ?_⟩
      · rw [show shownS [] = ("none" : Str) by decide +kernel]
        simp
      · exact ⟨Nat.zero_le _, fun l nl => k _ l [] (new_same nl) nl upd_same .nil⟩
    · have no : shownS cs ≠ ("none" : Str) := by
        rw [show ("none" : Str) = mkS noneL by decide +kernel]
        intro z
        have q := mkS_inj z
        unfold shownL at q
        rw [if_neg ce] at q
        exact none_no ce q
      refine ⟨_, rfl, rfl, false, by simp [no], iteF ?_⟩
      refine ⟨Nat.zero_le _, fun l nl => ?_⟩
      have e1 : Same H (upd H l (.lst [])) := new_same nl
      refine ⟨_, rfl, rfl, _, _, rfl, rfl, by decide +kernel, wl, fun p np => ?_⟩
      rw [split_shown ce hk]
      have pl : p ≠ l := fun z => by rw [z, upd_same] at np; cases np
      have e2 : Same H (upd (upd H l (.lst [])) p (.lst ((cs.map fun c => mkS (cw c)).map V.str))) := e1.trans (new_same np)
      refine ⟨p, rfl, ⟨_, SqL.of upd_same⟩, for_list (K := K) (a := p) (xs := (cs.map fun c => mkS (cw c)).map V.str) (fun i σ H' => ∃ (v2 v3 : Option V) (ys : List V), σ = [some (.str (shownS cs)), some (.ref l), v2, v3] ∧ Same H H' ∧ H' p = some (.lst ((cs.map fun c => mkS (cw c)).map V.str)) ∧ H' l = some (.lst ys) ∧ CmdsOf K H' ys (cs.take i))
        ⟨none, none, [], rfl, e2, upd_same, new_same np _ _ upd_same, .nil⟩ (fun i σ H' hi h => ?_) (fun i x σ H' hx h => ?_) (fun σ H' h => ?_)⟩
      · obtain ⟨_, _, _, _, _, q, _⟩ := h
        exact SqL.of q
      · obtain ⟨v2, v3, ys, rfl, s1, hp, hl, hys⟩ := h
        rw [List.getElem?_map, List.getElem?_map] at hx
        cases hc : cs[i]? with
        | none =>
          rw [hc] at hx
          cases hx
        | some c =>
          rw [hc] at hx
          obtain rfl := Option.some.inj hx
          have cm := List.mem_of_getElem? hc
          have li := (List.getElem?_eq_some_iff.mp hc).1
          have yl := hys.len
          rw [List.length_take] at yl
          refine ⟨_, rfl, c, rfl, ok c cm, hn c cm, fun H2 t e3 nt ht => ?_⟩
          refine ⟨_, rfl, rfl, false, by simp, iteF ?_⟩
          refine ⟨_, rfl, .inl ⟨rfl, _, SqL.of (e3 _ _ hl)⟩, _, rfl, l, ys, .ref t, rfl, rfl, e3 _ _ hl, lt_line (by omega), ?_⟩
          refine ⟨_, _, _, rfl, same_freeU (s1.trans e3) nl, ?_, upd_same, ?_⟩
          · rw [upd_ne pl]
            exact e3 _ _ hp
          · rw [takeS hc]
            exact paired_app (CmdsOf.atL (e3 _ _ hl) (hys.same e3)) (CmdsOf.atL (e3 _ _ hl) (xs := [.ref t]) (cs := [c]) (.cons ⟨t, rfl, SqT.of ht⟩ .nil))
      · obtain ⟨v2, v3, ys, rfl, s1, hp, hl, hys⟩ := h
        rw [List.length_map, List.length_map, List.take_length] at hys
        exact ⟨_, rfl, k H' l ys s1 nl hl hys⟩
end
end Gc

/-! long lists written and read, of the laws over origins -/
namespace Gc
open PySem L2
abbrev s_lread : Stmt := top 46
structure TxtR2 (mg : Str → Option Value) : Prop where
  len : mg "len" = none
  range : mg "range" = none
def spReadB (K : PySem.W.Frag) : Sp := fun vs H Q _ => ∃ (l : Addr) (xs : List V) (cs : List Cmd), vs = [.ref l] ∧ SqL K H l xs ∧ CmdsOf K H xs cs ∧ AllOk cs ∧ (∀ c ∈ cs, numC c < 10 ^ 40) ∧ cs.length ≤ 1000 ∧ cs ≠ [] ∧
  ∀ (H' : Hp) (p : Addr) (ys : List V), Same H H' → H p = none → H' p = some (.lst ys) → CmdsOf K H' ys cs → Q (.ref p) H'
section
variable {P : Program} {w : World} {K : PySem.W.Frag} {mg : Str → Option Value} {base : Heap}
theorem sc_law_read : FnScope ["moves", "parts", "at"] ["moves"] (defScope s_lread) := ⟨rfl, rfl, rfl, by decide +kernel, rfl, by decide +kernel, by decide +kernel⟩
theorem ok_readB {f : Addr} {fd : FuncData} (F : Fun K "_law_read" "_law_read" s_lread f fd) (T : TxtR2 mg) (c_show_commands : Cal P w K mg base 3 "show_commands" (spShow K)) (c_read_commands : Cal P w K mg base 3 "read_commands" (spRead K)) :
    FnOk P w K mg base CX0 4 f fd ["moves"] (spReadB K) := by
  refine F.ok sc_law_read (fun vs H Q E h => ?_) (fun cdv A outer s H vs Q E hr h => ?_)
  · obtain ⟨l, xs, cs, rfl, _⟩ := h
    rfl
  · obtain ⟨l, xs, cs, rfl, hl, hc, ok, hn, ln, ne, k⟩ := h
    refine ⟨_, (pss_cons (ps_setLc (i := 1) (own := [("at", 2)]) rfl sc_law_read.nd rfl rfl (sw_true rfl rfl rfl (by decide +kernel)) (pi_range3 rfl T.range (pa_cons pe_int (pa_cons (pe_callB call_len_seq (by rfl) T.len (by decide +kernel) (pa_cons (pv 0) pa_nil)) (pa_cons pe_int pa_nil)))) (blkOk_by (N := ["moves", "parts", "at"]) (sc := defScope s_lread) (by decide +kernel)) (fun _ _ _ _ _ => (pg_name (i := 2) sc_law_read.nd rfl (Or.inl rfl))) (fun _ _ _ _ _ => pts_nil) (fun _ _ _ _ _ => (pe_cal c_show_commands hr (by decide) (by rfl) (pa_cons (pe_slice (show SlR _ (rSlL K) from sl_list) (pv 0) (po_some (pv 2)) (po_some (pe_op op_add (pv 2) pe_int))) pa_nil))))
      (pss_one (ps_ret (pe_cal c_read_commands hr (by decide) (by rfl) (pa_cons (pe_join pe_str (pv 1)) pa_nil))))), ?_⟩
    have xl := hc.len
    refine ⟨_, rfl, l, _, rfl, .inl hl, _, _, _, _, rfl, parts_rg (by omega), fun D hD => ?_⟩
    have n0 : parts20 xs.length ≤ 50 := by unfold parts20; omega
    refine lc_it walk_rangeC (fun i H' => Same H H' ∧ H' D = some (.lst (((List.range i).map fun j => shownS (chunk cs j)).map V.str))) ⟨same_upd (Same.refl H) hD, upd_same⟩ (fun _ _ _ _ => trivial) (fun i x H1 H2 hi h y => ?_) (fun H' h => ?_)
    · obtain ⟨e, eD⟩ := h
      obtain ⟨rfl, rfl⟩ := y
      have hi' : 20 * i < cs.length := by
        rw [xl] at hi
        unfold parts20 at hi
        omega
      refine ⟨rfl, _, rfl, _, rfl, _, rfl, _, rfl, _, _, rfl, rfl, _, rfl, l, xs, rfl, e.seq hl, fun p np => ?_⟩
      rw [cutOne (n := 20 * i) (m := 20 * i + 20) (show 0 + (i : Int) * 20 = ((20 * i : Nat) : Int) by omega) (show 0 + (i : Int) * 20 + 20 = ((20 * i + 20 : Nat) : Int) by omega) (by omega) (by omega), show 20 * i + 20 - 20 * i = 20 by omega]
      have e2 : Same H2 (upd H2 p (.lst ((xs.drop (20 * i)).take 20))) := new_same np
      have hD2 := e2 _ _ eD
      have hp : upd H2 p (.lst ((xs.drop (20 * i)).take 20)) p = some (.lst ((xs.drop (20 * i)).take 20)) := upd_same
      have hc2 : CmdsOf K (upd H2 p (.lst ((xs.drop (20 * i)).take 20))) ((xs.drop (20 * i)).take 20) (chunk cs i) := paired_take _ (paired_drop _ (hc.same (e.trans e2)))
      have sub : ∀ c ∈ chunk cs i, c ∈ cs := fun c hc => List.mem_of_mem_drop (List.mem_of_mem_take hc)
      have l20 : (chunk cs i).length ≤ 20 := by
        unfold chunk
        rw [List.length_take]
        omega
      refine ⟨p, _, chunk cs i, rfl, SqL.of hp, hc2, fun c hc => ok c (sub c hc), fun c hc => hn c (sub c hc), by omega, fun H3 e3 => ⟨_, e3 _ _ hD2, lt_line (by rw [List.length_map, List.length_map, List.length_range]; omega), same_freeU ((e.trans e2).trans e3) hD, ?_⟩⟩
      rw [upd_same, List.range_succ, List.map_append, List.map_append]
      rfl
    · obtain ⟨e, eD⟩ := h
      rw [xl] at eD
      refine ⟨⟨_, rfl⟩, _, rfl, _, D, (List.range (parts20 cs.length)).map fun j => shownS (chunk cs j), rfl, rfl, .inl (SqL.of eD), ?_, ?_⟩
      · have h4 : (Str.ofString " ").length = 1 := by decide +kernel
        rw [h4]
        have key : ∀ m, (((List.range m).map fun j => shownS (chunk cs j)).map (·.length)).sum ≤ 900 * m := fun m => by
          induction m with
          | zero => exact Nat.le_refl _
          | succ m ih =>
            rw [List.range_succ, List.map_append, List.map_append, List.sum_append]
            have h1 : (shownS (chunk cs m)).length ≤ 844 := by
              unfold shownS
              rw [mkS_len]
              have q := shownL_len (cs := chunk cs m) fun c hc => hn c (List.mem_of_mem_drop (List.mem_of_mem_take hc))
              have q2 : (chunk cs m).length ≤ 20 := by
                unfold chunk
                rw [List.length_take]
                omega
              omega
            show _ + ((shownS (chunk cs m)).length + 0) ≤ _
            omega
        have := key (parts20 cs.length)
        rw [List.length_map, List.length_range]
        rw [xl] at n0
        omega
      · rw [join_parts ne]
        exact ⟨cs, rfl, ok, hn, ln, fun H2 p ys e2 np hp hy => k H2 p ys (e.trans e2) (e.free np) hp hy⟩
end
end Gc

/-! an interval is exactly that of the goals that lead to a goal -/
namespace Gc
open PySem L2
abbrev s_right : Stmt := top 45
abbrev orgOf (T : List Int) (row : Int) (cs : List Cmd) (goal : Option Int) : Option (Option Int × Option Int) := originsM (aimF (lenAt T) row (some 0) cs) (aimF (lenAt T) row none cs) (chg cs) goal
def spRightB (K : PySem.W.Frag) : Sp := fun vs H Q _ => ∃ (told : V) (t l : Addr) (T : List Int) (row : Int) (goal : Option Int) (xs : List V) (cs : List Cmd), vs = [told, .ref t, .int row, .ref l, optV goal] ∧ Fits K H t l T row xs cs ∧ (∀ c ∈ cs, CSml c) ∧ ge goal 0 ∧
  OrgV H told (orgOf T row cs goal) ∧ ∀ H', Same H H' → Q (.bl true) H'
@[irreducible] def zEnd (K : PySem.W.Frag) : Sp := spEnd K
theorem zEnd_eq (K : PySem.W.Frag) : zEnd K = spEnd K := by unfold zEnd; rfl
theorem ask_end {K : PySem.W.Frag} {H : Hp} {Q : VK} {E : XK} {t b l : Addr} {T : List Int} {row : Int} {g : Option Int} {xs : List V} {cs : List Cmd} (f : Fits K H t l T row xs cs) (sm : ∀ c ∈ cs, CSml c) (hb : SqT K H b [.int row, optV g])
    (k : ∀ (H' : Hp) (p : Addr), Same H H' → H p = none → H' p = some (.tup [.int (row + last cs), optV (aimF (lenAt T) row g cs)]) → Q (.ref p) H') : zEnd K [.ref t, .ref b, .ref l] H Q E := by
  rw [zEnd_eq]
  obtain ⟨h1, h2, h3, h4, h5, h6, h7, h8, h9⟩ := f
  have e := afterL_in (T := T) (r := row) (a := g) h9
  exact ⟨t, b, l, T, row, g, xs, cs, rfl, h1, hb, h2, h3, sm, h5, h6, (fun z => by rw [e] at z; cases z), fun r' a' z => by rw [e] at z; cases z; exact k⟩
theorem OrgV.same {H H' : Hp} {v : V} {o : Option (Option Int × Option Int)} (e : Same H H') (h : OrgV H v o) : OrgV H' v o := by
  cases o with
  | none => exact h
  | some x =>
    obtain ⟨p, rfl, h1⟩ := h
    exact ⟨p, rfl, e _ _ h1⟩
def orgD : Option (Option Int × Option Int) → PyData
  | none => .none
  | some x => .tuple [optD x.1, optD x.2]
theorem dp_optO {K : PySem.W.Frag} {H : Hp} (o : Option Int) : Dp K H (optV o) (optD o) := by
  cases o with
  | none => exact .non
  | some n => exact .int n
theorem OrgV.dp {K : PySem.W.Frag} {H : Hp} {v : V} {o : Option (Option Int × Option Int)} (h : OrgV H v o) : Dp K H v (orgD o) := by
  cases o with
  | none =>
    obtain rfl : v = .non := h
    exact .non
  | some x =>
    obtain ⟨p, rfl, h1⟩ := h
    exact .tup (SqT.of h1) (.cons (dp_optO x.1) (.cons (dp_optO x.2) .nil))
theorem orgD_lay (o : Option (Option Int × Option Int)) : (orgD o).canLay0 = true := by
  rcases o with _ | ⟨_ | a, _ | b⟩ <;> rfl
theorem orgD_shaped (o : Option (Option Int × Option Int)) : SeqAt.shaped (orgD o) = true := by
  rcases o with _ | ⟨_ | a, _ | b⟩ <;> rfl
theorem orgD_eqv (o : Option (Option Int × Option Int)) : PyData.eqv (orgD o) (orgD o) = true := SeqAt.eqv_refl _ (orgD_lay o)
theorem scal_opt (a b : Option Int) : scal (optV a) (optV b) = true ∧ decide (optV a = optV b) = decide (a = b) := by
  cases a <;> cases b <;> simp [scal, optV]
theorem isN (a : Option Int) : decide (optV a = V.non) = decide (a = none) := by cases a <;> simp [optV]
section
variable {P : Program} {w : World} {K : PySem.W.Frag} {mg : Str → Option Value} {base : Heap}
theorem sc_law_right : FnScope ["told", "page", "spot", "moves", "aim", "first", "last", "low", "high"] ["told", "page", "spot", "moves", "aim"] (defScope s_right) := ⟨rfl, rfl, rfl, by decide +kernel, rfl, by decide +kernel, by decide +kernel⟩
theorem ok_rightB {f : Addr} {fd : FuncData} (F : Fun K "_law_right" "_law_right" s_right f fd) (T : TxtC mg) (c_law_end : Cal P w K mg base 1 "_law_end" (zEnd K)) (c_run : Cal P w K mg base 4 "run" (zRun K)) :
    FnOk P w K mg base CX0 5 f fd ["told", "page", "spot", "moves", "aim"] (spRightB K) := by
  refine F.ok sc_law_right (fun vs H Q E h => ?_) (fun cdv A outer s H vs Q E hr h => ?_)
  · obtain ⟨told, t, l, tx, row, goal, xs, cs, rfl, _⟩ := h
    rfl
  · obtain ⟨told, t, l, tx, row, goal, xs, cs, rfl, ft, sm, g0, ho, k⟩ := h
    refine ⟨_, (pss_cons (ps_par (i := 5) (j := 6) rfl sc_law_right.nd rfl rfl (by decide) rfl rfl (pa_cons (pe_ix ix_tup (pe_cal c_law_end hr (by decide) (by rfl) (pa_cons (pv 1) (pa_cons (pe_tup (pa_cons (pv 2) (pa_cons pe_int pa_nil))) (pa_cons (pv 3) pa_nil)))) pe_int (fun _ _ => rfl)) (pa_cons (pe_ix ix_tup (pe_cal c_law_end hr (by decide) (by rfl) (pa_cons (pv 1) (pa_cons (pe_tup (pa_cons (pv 2) (pa_cons pe_non pa_nil))) (pa_cons (pv 3) pa_nil)))) pe_int (fun _ _ => rfl)) pa_nil)) (by rfl))
      (pss_cons (ps_if (PW.pt (pw_or (pt_cmpR op_isN (pv 4) pe_non (nomark _)) (pw_or (pt_cmpR op_isN (pv 5) pe_non (nomark _)) (pw_or1 (pt_cmpR op_isN (pv 6) pe_non (nomark _)))))) (pss_cons (ps_if (pt_cmpR op_isN (pv 5) pe_non (nomark _)) (pss_one (ps_ret (pe_cmpR (op_eqD hr.units) (pv 0) (pe_ix ix_list (pe_lst (pa_cons pe_non (pa_cons (pe_tup (pa_cons pe_int (pa_cons pe_non pa_nil))) pa_nil))) (pe_callTy call_int1 (by rfl) T.int (by decide +kernel) (pa_cons (pe_cmpR op_isN (pv 4) pe_non (nomark _)) pa_nil)) (fun _ _ => rfl)) (nomark _)))) pss_nil)
      (pss_cons (ps_if (pt_cmpR op_isN (pv 6) pe_non (nomark _)) (pss_one (ps_ret (pe_cmpR (op_eqD hr.units) (pv 0) (pe_ix ix_list (pe_lst (pa_cons (pe_tup (pa_cons (pv 4) (pa_cons (pv 4) pa_nil))) (pa_cons (pe_tup (pa_cons pe_non (pa_cons pe_non pa_nil))) pa_nil))) (pe_callTy call_int1 (by rfl) T.int (by decide +kernel) (pa_cons (pe_cmpR op_isN (pv 4) pe_non (nomark _)) pa_nil)) (fun _ _ => rfl)) (nomark _)))) pss_nil)
      (pss_one (ps_ret (pe_cmpR op_isN (pv 0) pe_non (nomark _)))))) pss_nil)
      (pss_cons (ps_if (pt_not (pt_chain op_le op_le (pv 5) (pv 4) (pv 6))) (pss_one (ps_ret (pe_cmpR op_isN (pv 0) pe_non (nomark _)))) pss_nil)
      (pss_cons (ps_asg (pv 0) (pg_tup rfl (pgs_cons (pg_name (i := 7) sc_law_right.nd rfl (Or.inl rfl)) (pgs_cons (pg_name (i := 8) sc_law_right.nd rfl (Or.inl rfl)) pgs_nil))))
      (pss_cons (ps_if (PW.pt (pw_or (pt_cmpR op_ne (pe_ix ix_tup (pe_cal c_law_end hr (by decide) (by rfl) (pa_cons (pv 1) (pa_cons (pe_tup (pa_cons (pv 2) (pa_cons (pv 7) pa_nil))) (pa_cons (pv 3) pa_nil)))) pe_int (fun _ _ => rfl)) (pv 4) (nomark _)) (pw_or1 (pt_cmpR op_ne (pe_ix ix_tup (pe_cal c_law_end hr (by decide) (by rfl) (pa_cons (pv 1) (pa_cons (pe_tup (pa_cons (pv 2) (pa_cons (pv 8) pa_nil))) (pa_cons (pv 3) pa_nil)))) pe_int (fun _ _ => rfl)) (pv 4) (nomark _))))) (pss_one (ps_ret pe_bl)) pss_nil)
      (C8.pss_cut (ps_if (PW.pt (pw_and (pt_cmpR op_gt (pv 7) pe_int (nomark _)) (pw_and1 (pt_cmpR op_eq (pe_ix ix_tup (pe_cal c_law_end hr (by decide) (by rfl) (pa_cons (pv 1) (pa_cons (pe_tup (pa_cons (pv 2) (pa_cons (pe_op op_sub (pv 7) pe_int) pa_nil))) (pa_cons (pv 3) pa_nil)))) pe_int (fun _ _ => rfl)) (pv 4) (nomark _))))) (pss_one (ps_ret pe_bl)) pss_nil)
      (pss_cons (ps_if (pt_cmpR op_ne (pe_ix ix_tup (pe_cal c_run hr (by decide) (by rfl) (pa_cons (pv 1) (pa_cons (pe_tup (pa_cons (pv 2) (pa_cons (pv 7) pa_nil))) (pa_cons (pv 3) pa_nil)))) pe_int (fun _ _ => rfl)) (pv 4) (nomark _)) (pss_one (ps_ret pe_bl)) pss_nil)
      (pss_one (ps_ret (pe_or (pe_cmpR op_isN (pv 8) pe_non (nomark _)) (pe_one (pe_cmpR op_ne (pe_ix ix_tup (pe_cal c_law_end hr (by decide) (by rfl) (pa_cons (pv 1) (pa_cons (pe_tup (pa_cons (pv 2) (pa_cons (pe_op op_add (pv 8) pe_int) pa_nil))) (pa_cons (pv 3) pa_nil)))) pe_int (fun _ _ => rfl)) (pv 4) (nomark _))))))))))))), ?_⟩
    have oo := org_ok (T := lenAt tx) (lenAt_nn ft.2.2.2.1) ft.2.2.2.2.2.2.1 row g0
    refine ⟨_, rfl, _, rfl, (by show 2 ≤ sizeLine; decide), fun b1 n1 => ⟨_, rfl, ?_⟩⟩
    have s1 : Same H (upd H b1 (.tup [.int row, .int 0])) := new_same n1
    refine ask_end (g := some 0) (ft.same s1) sm (SqT.of upd_same) fun H2 p2 e2 np2 hp2 => ⟨p2, _, 1, _, rfl, rfl, SqT.of hp2, rfl, ?_⟩
    refine ⟨_, rfl, _, rfl, (by show 2 ≤ sizeLine; decide), fun b3 n3 => ⟨_, rfl, ?_⟩⟩
    have s3 : Same H2 (upd H2 b3 (.tup [.int row, .non])) := new_same n3
    refine ask_end (g := none) (ft.same (s1.trans (e2.trans s3))) sm (SqT.of upd_same) fun H4 p4 e4 np4 hp4 => ⟨p4, _, 1, _, rfl, rfl, SqT.of hp4, rfl, ?_⟩
    replace ho : OrgV H told (originsM (aimF (lenAt tx) row (some 0) cs) (aimF (lenAt tx) row none cs) (chg cs) goal) := ho
    have eH : Same H H4 := s1.trans (e2.trans (s3.trans e4))
    generalize aimF (lenAt tx) row (some 0) cs = lo at oo ho ⊢
    generalize aimF (lenAt tx) row none cs = hi at oo ho ⊢
    have hoH := ho.same eH
    generalize hm : originsM lo hi (chg cs) goal = m at oo ho hoH
    clear hm ho
    refine ⟨_, _, rfl, ?_⟩
    cases oo with
    | all =>
      refine ⟨_, rfl, rfl, _, rfl, iteT ?_⟩
      refine ⟨_, rfl, rfl, _, rfl, iteT ?_⟩
      refine ⟨_, rfl, (by show 2 ≤ sizeLine; decide), fun b5 n5 => ?_⟩
      have e_H5 : Same H4 (upd H4 b5 (.tup [V.int 0, .non])) := new_same n5
      have h_b5 : (upd H4 b5 (.tup [V.int 0, .non])) b5 = some (.tup [V.int 0, .non]) := upd_same
      generalize upd H4 b5 (.tup [V.int 0, .non]) = H5 at e_H5 h_b5 ⊢
      replace eH := eH.trans e_H5
      replace hoH := hoH.same e_H5
      refine ⟨(by show 2 ≤ sizeLine; decide), fun b6 n6 => ?_⟩
      have e_H6 : Same H5 (upd H5 b6 (.lst [V.non, .ref b5])) := new_same n6
      have h_b6 : (upd H5 b6 (.lst [V.non, .ref b5])) b6 = some (.lst [V.non, .ref b5]) := upd_same
      generalize upd H5 b6 (.lst [V.non, .ref b5]) = H6 at e_H6 h_b6 ⊢
      replace eH := eH.trans e_H6
      replace hoH := hoH.same e_H6
      replace h_b5 := e_H6 _ _ h_b5
      refine ⟨_, rfl, rfl, .inr ⟨_, rfl, b6, _, _, _, rfl, rfl, SqL.of h_b6, atI_t rfl, ?_⟩⟩
      refine ⟨orgD (some (some 0, none)), orgD (some (some 0, none)), hoH.dp, OrgV.dp ⟨b5, rfl, h_b5⟩, orgD_shaped _, orgD_shaped _, ?_⟩
      rw [orgD_eqv]
      exact k _ eH
    | never v =>
      refine ⟨_, rfl, rfl, _, rfl, iteF ⟨_, rfl, rfl, _, rfl, iteT ?_⟩⟩
      refine ⟨_, rfl, rfl, _, rfl, iteT ?_⟩
      refine ⟨_, rfl, (by show 2 ≤ sizeLine; decide), fun b5 n5 => ?_⟩
      have e_H5 : Same H4 (upd H4 b5 (.tup [V.int 0, .non])) := new_same n5
      have h_b5 : (upd H4 b5 (.tup [V.int 0, .non])) b5 = some (.tup [V.int 0, .non]) := upd_same
      generalize upd H4 b5 (.tup [V.int 0, .non]) = H5 at e_H5 h_b5 ⊢
      replace eH := eH.trans e_H5
      replace hoH := hoH.same e_H5
      refine ⟨(by show 2 ≤ sizeLine; decide), fun b6 n6 => ?_⟩
      have e_H6 : Same H5 (upd H5 b6 (.lst [V.non, .ref b5])) := new_same n6
      have h_b6 : (upd H5 b6 (.lst [V.non, .ref b5])) b6 = some (.lst [V.non, .ref b5]) := upd_same
      generalize upd H5 b6 (.lst [V.non, .ref b5]) = H6 at e_H6 h_b6 ⊢
      replace eH := eH.trans e_H6
      replace hoH := hoH.same e_H6
      replace h_b5 := e_H6 _ _ h_b5
      refine ⟨_, rfl, rfl, .inr ⟨_, rfl, b6, _, _, _, rfl, rfl, SqL.of h_b6, atI_f rfl, ?_⟩⟩
      refine ⟨orgD none, orgD none, hoH.dp, .non, orgD_shaped _, orgD_shaped _, ?_⟩
      rw [orgD_eqv]
      exact k _ eH
    | self v =>
      refine ⟨_, rfl, rfl, _, rfl, iteF ⟨_, rfl, rfl, _, rfl, iteF ⟨_, rfl, rfl, _, rfl, iteT ?_⟩⟩⟩
      refine ⟨_, rfl, rfl, _, rfl, iteF ?_⟩
      refine ⟨_, rfl, rfl, _, rfl, iteT ?_⟩
      refine ⟨_, rfl, _, rfl, _, rfl, (by show 2 ≤ sizeLine; decide), fun b5 n5 => ?_⟩
      have e_H5 : Same H4 (upd H4 b5 (.tup [optV (some v), optV (some v)])) := new_same n5
      have h_b5 : (upd H4 b5 (.tup [optV (some v), optV (some v)])) b5 = some (.tup [optV (some v), optV (some v)]) := upd_same
      generalize upd H4 b5 (.tup [optV (some v), optV (some v)]) = H5 at e_H5 h_b5 ⊢
      replace eH := eH.trans e_H5
      replace hoH := hoH.same e_H5
      refine ⟨(by show 2 ≤ sizeLine; decide), fun b6 n6 => ?_⟩
      have e_H6 : Same H5 (upd H5 b6 (.tup [V.non, .non])) := new_same n6
      have h_b6 : (upd H5 b6 (.tup [V.non, .non])) b6 = some (.tup [V.non, .non]) := upd_same
      generalize upd H5 b6 (.tup [V.non, .non]) = H6 at e_H6 h_b6 ⊢
      replace eH := eH.trans e_H6
      replace hoH := hoH.same e_H6
      replace h_b5 := e_H6 _ _ h_b5
      refine ⟨(by show 2 ≤ sizeLine; decide), fun b7 n7 => ?_⟩
      have e_H7 : Same H6 (upd H6 b7 (.lst [V.ref b5, .ref b6])) := new_same n7
      have h_b7 : (upd H6 b7 (.lst [V.ref b5, .ref b6])) b7 = some (.lst [V.ref b5, .ref b6]) := upd_same
      generalize upd H6 b7 (.lst [V.ref b5, .ref b6]) = H7 at e_H7 h_b7 ⊢
      replace eH := eH.trans e_H7
      replace hoH := hoH.same e_H7
      replace h_b5 := e_H7 _ _ h_b5
      replace h_b6 := e_H7 _ _ h_b6
      refine ⟨_, rfl, rfl, .inr ⟨_, rfl, b7, _, _, _, rfl, rfl, SqL.of h_b7, atI_f rfl, ?_⟩⟩
      refine ⟨orgD (some (some v, some v)), orgD (some (some v, some v)), hoH.dp, OrgV.dp ⟨b5, rfl, h_b5⟩, orgD_shaped _, orgD_shaped _, ?_⟩
      rw [orgD_eqv]
      exact k _ eH
    | selfN =>
      refine ⟨_, rfl, rfl, _, rfl, iteT ?_⟩
      refine ⟨_, rfl, rfl, _, rfl, iteF ?_⟩
      refine ⟨_, rfl, rfl, _, rfl, iteT ?_⟩
      refine ⟨_, rfl, _, rfl, _, rfl, (by show 2 ≤ sizeLine; decide), fun b5 n5 => ?_⟩
      have e_H5 : Same H4 (upd H4 b5 (.tup [optV none, optV none])) := new_same n5
      have h_b5 : (upd H4 b5 (.tup [optV none, optV none])) b5 = some (.tup [optV none, optV none]) := upd_same
      generalize upd H4 b5 (.tup [optV none, optV none]) = H5 at e_H5 h_b5 ⊢
      replace eH := eH.trans e_H5
      replace hoH := hoH.same e_H5
      refine ⟨(by show 2 ≤ sizeLine; decide), fun b6 n6 => ?_⟩
      have e_H6 : Same H5 (upd H5 b6 (.tup [V.non, .non])) := new_same n6
      have h_b6 : (upd H5 b6 (.tup [V.non, .non])) b6 = some (.tup [V.non, .non]) := upd_same
      generalize upd H5 b6 (.tup [V.non, .non]) = H6 at e_H6 h_b6 ⊢
      replace eH := eH.trans e_H6
      replace hoH := hoH.same e_H6
      replace h_b5 := e_H6 _ _ h_b5
      refine ⟨(by show 2 ≤ sizeLine; decide), fun b7 n7 => ?_⟩
      have e_H7 : Same H6 (upd H6 b7 (.lst [V.ref b5, .ref b6])) := new_same n7
      have h_b7 : (upd H6 b7 (.lst [V.ref b5, .ref b6])) b7 = some (.lst [V.ref b5, .ref b6]) := upd_same
      generalize upd H6 b7 (.lst [V.ref b5, .ref b6]) = H7 at e_H7 h_b7 ⊢
      replace eH := eH.trans e_H7
      replace hoH := hoH.same e_H7
      replace h_b5 := e_H7 _ _ h_b5
      replace h_b6 := e_H7 _ _ h_b6
      refine ⟨_, rfl, rfl, .inr ⟨_, rfl, b7, _, _, _, rfl, rfl, SqL.of h_b7, atI_t rfl, ?_⟩⟩
      refine ⟨orgD (some (none, none)), orgD (some (none, none)), hoH.dp, OrgV.dp ⟨b6, rfl, h_b6⟩, orgD_shaped _, orgD_shaped _, ?_⟩
      rw [orgD_eqv]
      exact k _ eH
    | noN l0 h0 =>
      obtain rfl : told = .non := hoH
      refine ⟨_, rfl, rfl, _, rfl, iteT ?_⟩
      refine ⟨_, rfl, rfl, _, rfl, iteF ?_⟩
      refine ⟨_, rfl, rfl, _, rfl, iteF ?_⟩
      exact ⟨_, rfl, rfl, k _ eH⟩
    | out l0 h0 v z =>
      obtain rfl : told = .non := hoH
      refine ⟨_, rfl, rfl, _, rfl, iteF ⟨_, rfl, rfl, _, rfl, iteF ⟨_, rfl, rfl, _, rfl, iteF ?_⟩⟩⟩
      refine ⟨_, rfl, _, rfl, _, _, rfl, rfl, _, rfl, ite2 (fun c0 => ?_) (fun c0 => ?_)⟩
      · refine ⟨_, rfl, _, _, rfl, rfl, _, rfl, iteN0 (fun c1 => z ⟨of_decide_eq_true c0, c1⟩) ?_⟩
        exact ⟨_, rfl, rfl, k _ eH⟩
      · refine ⟨_, rfl, ?_⟩
        refine iteT (B := _) ?_
        exact ⟨_, rfl, rfl, k _ eH⟩
    | inn l0 h0 v low high z l1 h1 e1 e2 e3 e4 =>
      obtain ⟨p, rfl, hp⟩ := hoH
      refine ⟨_, rfl, rfl, _, rfl, iteF ⟨_, rfl, rfl, _, rfl, iteF ⟨_, rfl, rfl, _, rfl, iteF ?_⟩⟩⟩
      refine ⟨_, rfl, _, rfl, _, _, rfl, rfl, _, rfl, ite2 (fun c0 => ?_) (fun c0 => absurd (decide_eq_true z.1) c0)⟩
      refine ⟨_, rfl, _, _, rfl, rfl, _, rfl, iteN1 z.2 ?_⟩
      refine ⟨_, rfl, p, _, rfl, SqT.of hp, rfl, _, _, rfl, _, _, rfl, rfl, ?_⟩
      -- low and high lead there
      refine ⟨_, rfl, _, rfl, _, rfl, (by show 2 ≤ sizeLine; decide), fun b5 n5 => ⟨_, rfl, ?_⟩⟩
      have e_H5 : Same H4 (upd H4 b5 (.tup [V.int row, optV (some low)])) := new_same n5
      have h_b5 : (upd H4 b5 (.tup [V.int row, optV (some low)])) b5 = some (.tup [V.int row, optV (some low)]) := upd_same
      generalize upd H4 b5 (.tup [V.int row, optV (some low)]) = H5 at e_H5 h_b5 ⊢
      replace eH := eH.trans e_H5
      refine ask_end (g := some low) (ft.same eH) sm (SqT.of h_b5) fun H6 p6 e6 np6 hp6 => ⟨p6, _, 1, _, rfl, rfl, SqT.of hp6, rfl, ?_⟩
      replace eH := eH.trans e6
      refine ⟨_, rfl, (scal_opt _ (some v)).1, _, rfl, ?_⟩
      rw [(scal_opt _ (some v)).2, e1, decide_eq_true rfl]
      refine iteF ?_
      refine ⟨_, rfl, _, rfl, _, rfl, (by show 2 ≤ sizeLine; decide), fun b7 n7 => ⟨_, rfl, ?_⟩⟩
      have e_H7 : Same H6 (upd H6 b7 (.tup [V.int row, optV high])) := new_same n7
      have h_b7 : (upd H6 b7 (.tup [V.int row, optV high])) b7 = some (.tup [V.int row, optV high]) := upd_same
      generalize upd H6 b7 (.tup [V.int row, optV high]) = H7 at e_H7 h_b7 ⊢
      replace eH := eH.trans e_H7
      refine ask_end (g := high) (ft.same eH) sm (SqT.of h_b7) fun H8 p8 e8 np8 hp8 => ⟨p8, _, 1, _, rfl, rfl, SqT.of hp8, rfl, ?_⟩
      replace eH := eH.trans e8
      refine ⟨_, rfl, (scal_opt _ (some v)).1, _, rfl, ?_⟩
      rw [(scal_opt _ (some v)).2, e2, decide_eq_true rfl]
      refine iteF ?_
      -- the goal below does not
      refine ⟨fun σ H' => σ = [some (.ref p), some (.ref t), some (.int row), some (.ref l), some (optV (some v)), some (optV (some l0)), some (optV (some h0)), some (optV (some low)), some (optV high)] ∧ Same H H', ?_, ?_⟩
      · refine ⟨_, rfl, _, _, rfl, rfl, _, rfl, ite2 (fun c => ?_) (fun c => iteF ⟨rfl, eH⟩)⟩
        have c' : 0 < low := of_decide_eq_true c
        refine ⟨_, rfl, _, rfl, _, rfl, _, _, rfl, rfl, (by show 2 ≤ sizeLine; decide), fun b9 n9 => ⟨_, rfl, ?_⟩⟩
        have e_H9 : Same H8 (upd H8 b9 (.tup [V.int row, .int (low - 1)])) := new_same n9
        have h_b9 : (upd H8 b9 (.tup [V.int row, .int (low - 1)])) b9 = some (.tup [V.int row, .int (low - 1)]) := upd_same
        generalize upd H8 b9 (.tup [V.int row, .int (low - 1)]) = H9 at e_H9 h_b9 ⊢
        replace eH := eH.trans e_H9
        refine ask_end (g := some (low - 1)) (ft.same eH) sm (SqT.of h_b9) fun Ha pa ea npa hpa => ⟨pa, _, 1, _, rfl, rfl, SqT.of hpa, rfl, ?_⟩
        replace eH := eH.trans ea
        refine ⟨_, rfl, (scal_opt _ (some v)).1, _, rfl, ?_⟩
        rw [(scal_opt _ (some v)).2, decide_eq_false (e3 c')]
        exact iteF ⟨rfl, eH⟩
      · rintro σ Hb ⟨rfl, eB⟩
        refine ⟨_, rfl, _, rfl, _, rfl, (by show 2 ≤ sizeLine; decide), fun b5 n5 => ⟨_, rfl, ?_⟩⟩
        have e_Hc : Same Hb (upd Hb b5 (.tup [V.int row, optV (some low)])) := new_same n5
        have h_b5 : (upd Hb b5 (.tup [V.int row, optV (some low)])) b5 = some (.tup [V.int row, optV (some low)]) := upd_same
        generalize upd Hb b5 (.tup [V.int row, optV (some low)]) = Hc at e_Hc h_b5 ⊢
        replace eB := eB.trans e_Hc
        refine ask_run (g := some low) (ft.same eB) (SqT.of h_b5) (ge_some.mpr l1) fun Hd pd ed hpd => ⟨pd, _, 1, _, rfl, rfl, hpd, rfl, ?_⟩
        replace eB := eB.trans ed
        refine ⟨_, rfl, (scal_opt _ (some v)).1, _, rfl, ?_⟩
        rw [(scal_opt _ (some v)).2, e1, decide_eq_true rfl]
        refine iteF ?_
        cases high with
        | none => exact ⟨_, rfl, rfl, _, rfl, iteT (k _ eB)⟩
        | some x =>
          refine ⟨_, rfl, rfl, _, rfl, iteF ?_⟩
          refine ⟨_, rfl, _, rfl, _, rfl, _, _, rfl, rfl, (by show 2 ≤ sizeLine; decide), fun b9 n9 => ⟨_, rfl, ?_⟩⟩
          have e_He : Same Hd (upd Hd b9 (.tup [V.int row, .int (x + 1)])) := new_same n9
          have h_b9 : (upd Hd b9 (.tup [V.int row, .int (x + 1)])) b9 = some (.tup [V.int row, .int (x + 1)]) := upd_same
          generalize upd Hd b9 (.tup [V.int row, .int (x + 1)]) = He at e_He h_b9 ⊢
          replace eB := eB.trans e_He
          refine ask_end (g := some (x + 1)) (ft.same eB) sm (SqT.of h_b9) fun Hf pf ef npf hpf => ⟨pf, _, 1, _, rfl, rfl, SqT.of hpf, rfl, ?_⟩
          replace eB := eB.trans ef
          refine ⟨_, rfl, (scal_opt _ (some v)).1, ?_⟩
          rw [(scal_opt _ (some v)).2, decide_eq_false (e4 x rfl)]
          exact k _ eB
end
end Gc

namespace Gc
open PySem L2
abbrev s_law : Stmt := top 47
def spLaw (K : PySem.W.Frag) : Sp := fun vs H Q _ => ∃ (a : Addr) (ns : List Int), vs = [.ref a] ∧ SqL K H a (ns.map V.int) ∧ ns.length ≤ 63 ∧ ∀ H', Q (.bl true) H'
@[irreducible] def zOrigins (K : PySem.W.Frag) : Sp := spOrigins K
theorem zOrigins_eq (K : PySem.W.Frag) : zOrigins K = spOrigins K := by unfold zOrigins; rfl
@[irreducible] def zRightB (K : PySem.W.Frag) : Sp := spRightB K
theorem zRightB_eq (K : PySem.W.Frag) : zRightB K = spRightB K := by unfold zRightB; rfl
theorem ask_org {K : PySem.W.Frag} {H : Hp} {Q : VK} {E : XK} {t l : Addr} {T : List Int} {row : Int} {goal : Option Int} {xs : List V} {cs : List Cmd} (f : Fits K H t l T row xs cs) (g0 : ge goal 0) (k : ∀ (H' : Hp) (v : V), Same H H' → OrgV H' v (orgOf T row cs goal) → Q v H') :
    zOrigins K [.ref t, .int row, .ref l, optV goal] H Q E := by
  rw [zOrigins_eq]
  exact ⟨t, l, T, row, goal, xs, cs, rfl, f, g0, k⟩
theorem ask_right {K : PySem.W.Frag} {H : Hp} {Q : VK} {E : XK} {told : V} {t l : Addr} {T : List Int} {row : Int} {goal : Option Int} {xs : List V} {cs : List Cmd} (f : Fits K H t l T row xs cs) (sm : ∀ c ∈ cs, CSml c) (g0 : ge goal 0) (ho : OrgV H told (orgOf T row cs goal))
    (k : ∀ H', Same H H' → Q (.bl true) H') : zRightB K [told, .ref t, .int row, .ref l, optV goal] H Q E := by
  rw [zRightB_eq]
  exact ⟨told, t, l, T, row, goal, xs, cs, rfl, f, sm, g0, ho, k⟩
theorem Keep.same1 {r d : Addr} {H H1 H2 : Hp} (k : Keep r d H H1) (e : Same H1 H2) : Keep r d H H2 := k.trans (Keep.of e)
/-- the page so far -/
def PgI (H3 : Hp) (b g D : Addr) (n j : Nat) (H' : Hp) : Prop := ∃ pg : List Int, Keep b g H3 H' ∧ Bag H' b g (n + 4 * j) ∧ H' D = some (.lst (pg.map V.int)) ∧ pg.length = j ∧ ∀ x ∈ pg, 0 ≤ x
theorem pg_start {H3 : Hp} {b g D : Addr} {n : Nat} (B : Bag H3 b g n) (hD : H3 D = none) : PgI H3 b g D n 0 (upd H3 D (.lst [])) :=
  ⟨[], Keep.of (same_upd (Same.refl _) hD), (B.same (same_upd (Same.refl _) hD)).more (by omega), upd_same, rfl, (fun _ h => nomatch h)⟩
theorem pg_step {H3 H' H6 : Hp} {b g D : Addr} {n j m : Nat} {pg : List Int} {v : Int} (hD : H3 D = none) (Db : D ≠ b) (Dg : D ≠ g) (kp : Keep b g H3 H') (hd : H' D = some (.lst (pg.map V.int))) (pl : pg.length = j) (pb : ∀ x ∈ pg, 0 ≤ x) (kp6 : Keep b g H' H6) (B6 : Bag H6 b g m) (hm : m ≤ n + 4 * (j + 1)) (hj : j ≤ 900) (v0 : 0 ≤ v) :
    ∃ acc, H6 D = some (.lst acc) ∧ acc.length < sizeLine ∧ PgI H3 b g D n (j + 1) (upd H6 D (.lst (acc ++ [V.int v]))) := by
  refine ⟨_, kp6 _ _ Db Dg hd, small_n (by rw [List.length_map]; omega), pg ++ [v], fun x o n1 n2 hx => ?_, ?_, ?_, ?_, ?_⟩
  · rw [upd_ne (ne_of_none hx hD)]
    exact kp6 _ _ n1 n2 (kp _ _ n1 n2 hx)
  · obtain ⟨gs, lf, tn, bl, g1, g2, g3, g4, g5, g6⟩ := B6
    exact ⟨gs, lf, tn, bl, by rw [upd_ne Db.symm]; exact g1, by rw [upd_ne Dg.symm]; exact g2, g3, g4, by omega, g6⟩
  · rw [upd_same, List.map_append]
    rfl
  · rw [List.length_append, List.length_singleton, pl]
  · intro x hx
    rcases List.mem_append.mp hx with q | q
    · exact pb x q
    · rw [List.mem_singleton.mp q]
      exact v0
theorem reps {K : PySem.W.Frag} {H : Hp} {xs : List V} {cs : List Cmd} (h : CmdsOf K H xs cs) : ∀ n : Nat, CmdsOf K H (List.replicate n xs).flatten (List.replicate n cs).flatten
  | 0 => .nil
  | n + 1 => by
    rw [List.replicate_succ, List.replicate_succ]
    exact paired_app h (reps h n)
theorem mem_reps {c : Cmd} {cs : List Cmd} {n : Nat} (h : c ∈ (List.replicate n cs).flatten) : c ∈ cs := by
  obtain ⟨l, hl, hc⟩ := List.mem_flatten.mp h
  rw [(List.mem_replicate.mp hl).2] at hc
  exact hc
theorem len_reps {α : Type} (cs : List α) : ∀ n : Nat, (List.replicate n cs).flatten.length = n * cs.length
  | 0 => by simp
  | n + 1 => by
    rw [List.replicate_succ, List.flatten_cons, List.length_append, len_reps cs n, Nat.succ_mul, Nat.add_comm]
theorem or0 {K : PySem.W.Frag} {H : Hp} {Q : VK} (o : Option Int) (g : ge o 0) (q : ∀ n : Int, 0 ≤ n → Q (.int n) H) : ∃ k, TruV K (optV o) H k ∧ if k = true then Q (optV o) H else Q (.int 0) H := by
  cases o with
  | none => exact ⟨false, rfl, iteF (q 0 (by decide))⟩
  | some n =>
    refine ⟨(n != 0), rfl, ?_⟩
    split
    · exact q n (ge_some.mp g)
    · exact q 0 (by decide)
def tOr0 (i : Nat) : TE := fun σ H Q => ∃ o : Option Int, σ[i]? = some (some (optV o)) ∧ ge o 0 ∧ ∀ n : Int, 0 ≤ n → Q (.int n) H
theorem pe_or0 {X : Cx} {a : Expr} {i : Nat} {j p q} (ha : PE X a (tVar i)) : PE X (.BoolOp .Or [a, .Constant (.int 0) j p] q) (tOr0 i) := by
  refine ⟨fun pins s σ H Q I h => ?_⟩
  obtain ⟨o, e, g, k⟩ := h
  exact (pe_orT ha (pe_one pe_int)).run pins s σ H Q I ⟨_, e, or0 o g k⟩
theorem five_at {o : Option Int} {m1 m2 m3 : Int} (g : ge o 0) (h1 : 0 ≤ m1) (h2 : 0 ≤ m2) (h3 : 0 ≤ m3) {j : Nat} {y : V} (h : [optV o, V.int m1, .int m2, .non, .int m3][j]? = some y) : ∃ p, y = optV p ∧ ge p 0 := by
  match j, h with
  | 0, h => exact ⟨o, (Option.some.inj h).symm, g⟩
  | 1, h => exact ⟨some m1, (Option.some.inj h).symm, ge_some.mpr h1⟩
  | 2, h => exact ⟨some m2, (Option.some.inj h).symm, ge_some.mpr h2⟩
  | 3, h => exact ⟨none, (Option.some.inj h).symm, ge_none 0⟩
  | 4, h => exact ⟨some m3, (Option.some.inj h).symm, ge_some.mpr h3⟩
  | j + 5, h => exact nomatch h
theorem csml_lt {c : Cmd} (h : CSml c) : numC c < 10 ^ 40 := by
  have key : ∀ n : Int, n.natAbs < 2 ^ 120 → n < 10 ^ 40 := fun n h => by omega
  cases c with
  | down n => exact key n h
  | up n => exact key n h
  | right n => exact key n h
  | left n => exact key n h
  | home => exact key 0 (by decide)
  | stop => exact key 0 (by decide)
section
variable {P : Program} {w : World} {K : PySem.W.Frag} {mg : Str → Option Value} {base : Heap}
theorem sc_law : FnScope ["script", "bag", "turn", "many", "page", "spot", "moves", "many_times", "start", "aim", "one", "number"] ["script"] (defScope s_law) := ⟨rfl, rfl, rfl, by decide +kernel, rfl, by decide +kernel, by decide +kernel⟩
theorem ok_law {f : Addr} {fd : FuncData} (F : Fun K "law" "law" s_law f fd) (T : TxtC mg) (c_law_bag : Cal P w K mg base 1 "_law_bag" (spBag K)) (c_law_draw : Cal P w K mg base 1 "_law_draw" spBdraw) (c_law_moves : Cal P w K mg base 2 "_law_moves" (spMoves K))
    (c_law_great : Cal P w K mg base 2 "_law_great" spGreat) (c_law_kept : Cal P w K mg base 1 "_law_kept" (spKept K)) (c_law_end : Cal P w K mg base 1 "_law_end" (zEnd K)) (c_law_read : Cal P w K mg base 4 "_law_read" (spReadB K)) (c_law_right : Cal P w K mg base 5 "_law_right" (zRightB K)) (c_origins : Cal P w K mg base 6 "origins" (zOrigins K)) :
    FnOk P w K mg base CX0 7 f fd ["script"] (spLaw K) := by
  refine F.ok sc_law (fun vs H Q E h => ?_) (fun cdv A outer s H vs Q E hr h => ?_)
  · obtain ⟨a, ns, rfl, _⟩ := h
    rfl
  · obtain ⟨a, ns, rfl, hS, hlen, k⟩ := h
    refine ⟨_, (pss_cons (ps_set (i := 1) sc_law.nd rfl (Or.inr rfl) (pe_cal c_law_bag hr (by decide) (by rfl) (pa_cons (pv 0) pa_nil)))
      (pss_cons (ps_for PassesOwn.never rfl (pi_range1 rfl T.range (pa_cons (pe_op op_add pe_int (pe_callB (call_min2 rfl) (by rfl) T.min (by decide +kernel) (pa_cons pe_int (pa_cons (pe_callB call_len_seq (by rfl) T.len (by decide +kernel) (pa_cons (pv 0) pa_nil)) pa_nil)))) pa_nil)) (pg_name (i := 2) sc_law.nd rfl (Or.inl rfl)) (pss_cons (ps_set (i := 3) sc_law.nd rfl (Or.inl rfl) (pe_op op_add pe_int (pe_cal c_law_draw hr (by decide) (by rfl) (pa_cons (pv 1) (pa_cons pe_int pa_nil)))))
      (pss_cons (ps_setLc (i := 4) (own := [("number", 11)]) rfl sc_law.nd rfl rfl (sw_true rfl rfl rfl (by decide +kernel)) (pi_range1 rfl T.range (pa_cons (pv 3) pa_nil)) (blkOk_by (N := ["script", "bag", "turn", "many", "page", "spot", "moves", "many_times", "start", "aim", "one", "number"]) (sc := defScope s_law) (by decide +kernel)) (fun _ _ _ _ _ => (pg_name (i := 11) sc_law.nd rfl (Or.inl rfl))) (fun _ _ _ _ _ => pts_nil) (fun _ _ _ _ _ => (pe_ix (show IxR _ (rIxT K) from ix_tup) (pe_tup (pa_cons (pe_cal c_law_draw hr (by decide) (by rfl) (pa_cons (pv 1) (pa_cons pe_int pa_nil))) (pa_cons (pe_cal c_law_great hr (by decide) (by rfl) (pa_cons (pv 1) pa_nil)) pa_nil))) (pe_op op_fdivW (pe_cal c_law_draw hr (by decide) (by rfl) (pa_cons (pv 1) (pa_cons pe_int pa_nil))) pe_int) (fun _ _ => rfl))))
      (C8.pss_cut (ps_if (pt_cmpR op_eq (pe_cal c_law_draw hr (by decide) (by rfl) (pa_cons (pv 1) (pa_cons pe_int pa_nil))) pe_int (nomark _)) (pss_one (ps_setLc (i := 4) (own := [("number", 11)]) rfl sc_law.nd rfl rfl (sw_true rfl rfl rfl (by decide +kernel)) (pi_range1 rfl T.range (pa_cons (pv 3) pa_nil)) (blkOk_by (N := ["script", "bag", "turn", "many", "page", "spot", "moves", "many_times", "start", "aim", "one", "number"]) (sc := defScope s_law) (by decide +kernel)) (fun _ _ _ _ _ => (pg_name (i := 11) sc_law.nd rfl (Or.inl rfl))) (fun _ _ _ _ _ => pts_nil) (fun _ _ _ _ _ => (pe_ix (show IxR _ (rIxT K) from ix_tup) (pe_tup (pa_cons (pe_op op_add (pe_op op_pow pe_int pe_int) (pe_cal c_law_great hr (by decide) (by rfl) (pa_cons (pv 1) pa_nil))) (pa_cons (pe_op op_sub (pe_op op_pow pe_int pe_int) pe_int) pa_nil))) (pe_cal c_law_draw hr (by decide) (by rfl) (pa_cons (pv 1) (pa_cons pe_int pa_nil))) (fun _ _ => rfl))))) pss_nil)
      (pss_cons (ps_par (i := 5) (j := 6) rfl sc_law.nd rfl rfl (by decide) rfl rfl (pa_cons (pe_cal c_law_draw hr (by decide) (by rfl) (pa_cons (pv 1) (pa_cons (pv 3) pa_nil))) (pa_cons (pe_cal c_law_moves hr (by decide) (by rfl) (pa_cons (pv 1) (pa_cons pe_int (pa_cons (pe_ix ix_tup (pe_tup (pa_cons pe_int (pa_cons (pe_op op_pow pe_int pe_int) (pa_cons (pe_op op_sub (pe_op op_pow pe_int pe_int) pe_int) pa_nil)))) (pe_cal c_law_draw hr (by decide) (by rfl) (pa_cons (pv 1) (pa_cons pe_int pa_nil))) (fun _ _ => rfl)) pa_nil)))) pa_nil)) (by rfl))
      (pss_cons (ps_set (i := 7) sc_law.nd rfl (Or.inl rfl) (pe_ix ix_tup (pe_tup (pa_cons pe_int (pa_cons pe_int (pa_cons pe_int pa_nil)))) (pe_cal c_law_draw hr (by decide) (by rfl) (pa_cons (pv 1) (pa_cons pe_int pa_nil))) (fun _ _ => rfl)))
      (pss_cons (ps_set (i := 6) sc_law.nd rfl (Or.inl rfl) (pe_cal c_law_kept hr (by decide) (by rfl) (pa_cons (pv 5) (pa_cons (pv 3) (pa_cons (pe_op op_rep (pv 6) (pv 7)) pa_nil)))))
      (C8.pss_cut (ps_if (pt_cmpR op_gt (pe_callB call_len_seq (by rfl) T.len (by decide +kernel) (pa_cons (pv 6) pa_nil)) pe_int (nomark _)) (pss_one (ps_set (i := 6) sc_law.nd rfl (Or.inl rfl) (pe_cal c_law_read hr (by decide) (by rfl) (pa_cons (pv 6) pa_nil)))) pss_nil)
      (pss_cons (ps_set (i := 8) sc_law.nd rfl (Or.inl rfl) (pe_ix ix_tup (pe_tup (pa_cons (pe_cal c_law_draw hr (by decide) (by rfl) (pa_cons (pv 1) (pa_cons pe_int pa_nil))) (pa_cons (pe_cal c_law_great hr (by decide) (by rfl) (pa_cons (pv 1) pa_nil)) (pa_cons pe_non (pa_cons (pe_op op_add (pe_op op_mulW pe_int (pe_op op_pow pe_int pe_int)) (pe_cal c_law_great hr (by decide) (by rfl) (pa_cons (pv 1) pa_nil))) pa_nil))))) (pe_cal c_law_draw hr (by decide) (by rfl) (pa_cons (pv 1) (pa_cons pe_int pa_nil))) (fun _ _ => rfl)))
      (pss_cons (ps_set (i := 9) sc_law.nd rfl (Or.inl rfl) (pe_ix ix_tup (pe_cal c_law_end hr (by decide) (by rfl) (pa_cons (pv 4) (pa_cons (pe_tup (pa_cons (pv 5) (pa_cons (pv 8) pa_nil))) (pa_cons (pv 6) pa_nil)))) pe_int (fun _ _ => rfl)))
      (pss_one (ps_for PassesOwn.never rfl (pi_tup (pe_tup (pa_cons (pv 9) (pa_cons (pe_callB (call_min2 rfl) (by rfl) T.min (by decide +kernel) (pa_cons (pe_op op_sub (pe_op op_pow pe_int pe_int) pe_int) (pa_cons (pe_op op_add (pe_or0 (pv 9)) pe_int) pa_nil))) (pa_cons (pe_callB (call_max2 rfl) (by rfl) T.max (by decide +kernel) (pa_cons pe_int (pa_cons (pe_op op_sub (pe_or0 (pv 9)) pe_int) pa_nil))) (pa_cons pe_non (pa_cons (pe_cal c_law_draw hr (by decide) (by rfl) (pa_cons (pv 1) (pa_cons pe_int pa_nil))) pa_nil))))))) (pg_name (i := 10) sc_law.nd rfl (Or.inl rfl)) (pss_one (ps_if (pt_not (pt_val (pe_cal c_law_right hr (by decide) (by rfl) (pa_cons (pe_cal c_origins hr (by decide) (by rfl) (pa_cons (pv 4) (pa_cons (pv 5) (pa_cons (pv 6) (pa_cons (pv 10) pa_nil))))) (pa_cons (pv 4) (pa_cons (pv 5) (pa_cons (pv 6) (pa_cons (pv 10) pa_nil)))))))) (pss_one (ps_ret pe_bl)) pss_nil))))))))))))))
      (pss_one (ps_ret pe_bl)))), ?_⟩
    refine ⟨_, rfl, a, ns, rfl, hS, hlen, fun H1 b g e1 nb ng B1 => ?_⟩
    refine ⟨_, rfl, a, _, rfl, .inl (e1.seq hS), _, _, rfl, _, _, rfl, rfl, _, rfl, ?_, ?_, ?_⟩
    · omega
    · omega
    refine for_range (lo := 0) (fun i σ H' => ∃ v2 v3 v4 v5 v6 v7 v8 v9 v10 : Option V, σ = [some (.ref a), some (.ref b), v2, v3, v4, v5, v6, v7, v8, v9, v10, none] ∧ Bag H' b g (1000 * i)) ⟨none, none, none, none, none, none, none, none, none, rfl, B1⟩ (fun i σ H2 hi h => ?_) (fun σ H2 h => ?_)
    · obtain ⟨v2, v3, v4, v5, v6, v7, v8, v9, v10, rfl, B2⟩ := h
      have hi' : i < 2 ^ 20 := by
        rw [List.length_map] at hi
        omega
      -- many, page
      refine ⟨_, rfl, b, g, _, 40, rfl, B2, by omega, by decide, by decide, fun H3 d3 kp3 B3 d30 d31 => ⟨_, _, rfl, rfl, _, rfl, _, rfl, by omega, by omega, fun D hD => ?_⟩⟩
      obtain ⟨Db, Dg⟩ := B3.off hD
      refine lc_range (lo := 0) (PgI H3 b g D (1000 * i + 1)) (pg_start B3 hD) (fun j H' hj h => ?_) (fun H4 h => ?_)
      · obtain ⟨pg, kp, B, hd, pl, pb⟩ := h
        refine ⟨rfl, ?_⟩
        refine ⟨_, rfl, b, g, _, 20, rfl, B, by omega, by decide, by decide, fun H6 u kp6 B6 u0 u1 => ?_⟩
        refine ⟨_, rfl, b, g, _, rfl, B6, by omega, fun H7 v kp7 B7 v0 v1 => ⟨(by show 2 ≤ sizeLine; decide), fun q nq => ?_⟩⟩
        obtain ⟨qb, qg⟩ := B7.off nq
        have e_H8 : Same H7 (upd H7 q (.tup [V.int u, .int v])) := new_same nq
        have h_q : (upd H7 q (.tup [V.int u, .int v])) q = some (.tup [V.int u, .int v]) := upd_same
        generalize upd H7 q (.tup [V.int u, .int v]) = H8 at e_H8 h_q ⊢
        replace B7 := B7.same e_H8
        refine ⟨_, rfl, b, g, _, 3, rfl, B7, by omega, by decide, by decide, fun H9 x kp9 B9 x0 x1 => ?_⟩
        obtain ⟨z, hz, z0⟩ : ∃ z : Int, atI [V.int u, .int v] (x / 2) = some (.int z) ∧ 0 ≤ z := by
          rcases (show x = 0 ∨ x = 1 ∨ x = 2 by omega) with rfl | rfl | rfl
          · exact ⟨u, rfl, u0⟩
          · exact ⟨u, rfl, u0⟩
          · exact ⟨v, rfl, v0⟩
        refine ⟨_, _, rfl, rfl, ⟨by decide, by decide⟩, q, _, _, _, rfl, rfl, SqT.of (kp9 _ _ qb qg h_q), hz, ?_⟩
        exact pg_step hD Db Dg kp hd pl pb (((kp6.trans kp7).same1 e_H8).trans kp9) B9 (by omega) (by omega) z0
      obtain ⟨pg0, kp4, B4, hd4, pl0, pb0⟩ := h
      refine ⟨fun σ H' => ∃ (D : Addr) (pg : List Int), σ = [some (.ref a), some (.ref b), some (.int (0 + (i : Int))), some (.int (1 + d3)), some (.ref D), v5, v6, v7, v8, v9, v10, none] ∧ Bag H' b g (1000 * i + 400) ∧ D ≠ b ∧ D ≠ g ∧ H' D = some (.lst (pg.map V.int)) ∧ pg.length = (1 + d3).toNat ∧ ∀ x ∈ pg, 0 ≤ x, ?_, ?_⟩
      · refine ⟨_, rfl, b, g, _, 2, rfl, B4, by omega, by decide, by decide, fun H5 d5 kp5 B5 d50 d51 => ⟨rfl, _, rfl, ite2 (fun _ => ?_) (fun _ => ?_)⟩⟩
        · refine ⟨_, rfl, _, rfl, by omega, by omega, fun D2 hD2 => ?_⟩
          obtain ⟨Db2, Dg2⟩ := B5.off hD2
          refine lc_range (lo := 0) (PgI H5 b g D2 (1000 * i + 200)) (pg_start (B5.more (by omega)) hD2) (fun j H' hj h => ?_) (fun H6 h => ?_)
          · obtain ⟨pg, kp, B, hd, pl, pb⟩ := h
            refine ⟨rfl, ?_⟩
            refine ⟨_, _, rfl, rfl, cpow (by decide), _, rfl, b, g, _, rfl, B, by omega, fun H7 v kp7 B7 v0 v1 => ?_⟩
            refine ⟨_, _, rfl, rfl, _, _, rfl, rfl, cpow (by decide), _, _, rfl, rfl, (by show 2 ≤ sizeLine; decide), fun q nq => ?_⟩
            obtain ⟨qb, qg⟩ := B7.off nq
            have e_H8 : Same H7 (upd H7 q (.tup [V.int (10 ^ (28 : Int).toNat + v), .int (10 ^ (30 : Int).toNat - 1)])) := new_same nq
            have h_q : (upd H7 q (.tup [V.int (10 ^ (28 : Int).toNat + v), .int (10 ^ (30 : Int).toNat - 1)])) q = some (.tup [V.int (10 ^ (28 : Int).toNat + v), .int (10 ^ (30 : Int).toNat - 1)]) := upd_same
            generalize upd H7 q (.tup [V.int (10 ^ (28 : Int).toNat + v), .int (10 ^ (30 : Int).toNat - 1)]) = H8 at e_H8 h_q ⊢
            replace B7 := B7.same e_H8
            refine ⟨_, rfl, b, g, _, 2, rfl, B7, by omega, by decide, by decide, fun H9 x kp9 B9 x0 x1 => ?_⟩
            obtain ⟨z, hz, z0⟩ : ∃ z : Int, atI [V.int (10 ^ (28 : Int).toNat + v), .int (10 ^ (30 : Int).toNat - 1)] x = some (.int z) ∧ 0 ≤ z := by
              rcases (show x = 0 ∨ x = 1 by omega) with rfl | rfl
              · exact ⟨_, rfl, Int.add_nonneg (by decide) v0⟩
              · exact ⟨_, rfl, by decide⟩
            refine ⟨q, _, _, _, rfl, rfl, SqT.of (kp9 _ _ qb qg h_q), hz, ?_⟩
            exact pg_step hD2 Db2 Dg2 kp hd pl pb ((kp7.same1 e_H8).trans kp9) B9 (by omega) (by omega) z0
          · obtain ⟨pg, kp, B, hd, pl, pb⟩ := h
            exact ⟨D2, pg, rfl, B.more (by omega), Db2, Dg2, hd, pl, pb⟩
        · exact ⟨D, pg0, rfl, B5.more (by omega), Db, Dg, kp5 _ _ Db Dg hd4, pl0, pb0⟩
      rintro σ H5 ⟨D2, pg, rfl, B5, Db2, Dg2, hD5, pl, pb⟩
      obtain ⟨mn, hmn⟩ : ∃ mn : Nat, 1 + d3 = (mn : Int) := ⟨(1 + d3).toNat, by omega⟩
      rw [hmn] at pl ⊢
      have m40 : 1 ≤ mn ∧ mn ≤ 40 := by omega
      rw [Int.toNat_natCast] at pl
      clear hd4 kp4 B4 pb0 pl0
      -- spot, moves
      refine ⟨_, rfl, _, rfl, b, g, _, _, rfl, B5, by omega, by omega, log9B (k := 10) (by omega) (by decide), fun H6 spot kp6 B6 sp0 sp1 => ?_⟩
      refine ⟨_, rfl, _, _, rfl, rfl, cpow (by decide), _, _, rfl, rfl, cpow (by decide), _, _, rfl, rfl, (by show 3 ≤ sizeLine; decide), fun q4 hq4 => ?_⟩
      obtain ⟨q4b, q4g⟩ := B6.off hq4
      have e_H7 : Same H6 (upd H6 q4 (.tup [V.int 9, .int (10 ^ (14 : Int).toNat), .int (10 ^ (30 : Int).toNat - 1)])) := new_same hq4
      have h_q4 : (upd H6 q4 (.tup [V.int 9, .int (10 ^ (14 : Int).toNat), .int (10 ^ (30 : Int).toNat - 1)])) q4 = some (.tup [V.int 9, .int (10 ^ (14 : Int).toNat), .int (10 ^ (30 : Int).toNat - 1)]) := upd_same
      generalize upd H6 q4 (.tup [V.int 9, .int (10 ^ (14 : Int).toNat), .int (10 ^ (30 : Int).toNat - 1)]) = H7 at e_H7 h_q4 ⊢
      replace B6 := B6.same e_H7
      replace kp6 := kp6.same1 e_H7
      refine ⟨_, rfl, b, g, _, 3, rfl, B6, by omega, by decide, by decide, fun H8 df kp8 B8 df0 df1 => ?_⟩
      obtain ⟨far, hfar, far1, far2⟩ : ∃ z : Int, atI [V.int 9, .int (10 ^ (14 : Int).toNat), .int (10 ^ (30 : Int).toNat - 1)] df = some (.int z) ∧ 1 ≤ z ∧ z ≤ 10 ^ 30 := by
        rcases (show df = 0 ∨ df = 1 ∨ df = 2 by omega) with rfl | rfl | rfl
        · exact ⟨_, rfl, by decide, by decide⟩
        · exact ⟨_, rfl, by decide, by decide⟩
        · exact ⟨_, rfl, by decide, by decide⟩
      refine ⟨q4, _, df, _, rfl, rfl, SqT.of (kp8 _ _ q4b q4g h_q4), hfar, b, g, _, 20, far, rfl, B8, by omega, by decide, by decide, far1, far2, fun H9 l0 xs0 cs0 kp9 B9 nl0 hl0 hcs0 ok0 sm0 ln0 => ⟨_, _, rfl, ?_⟩⟩
      obtain ⟨l0b, l0g⟩ := B8.off nl0
      have hD9 := kp9 _ _ Db2 Dg2 (kp8 _ _ Db2 Dg2 (kp6 _ _ Db2 Dg2 hD5))
      -- many_times
      refine ⟨(by show 3 ≤ sizeLine; decide), fun q5 hq5 => ?_⟩
      obtain ⟨q5b, q5g⟩ := B9.off hq5
      have e_Ha : Same H9 (upd H9 q5 (.tup [V.int 1, .int 1, .int 4])) := new_same hq5
      have h_q5 : (upd H9 q5 (.tup [V.int 1, .int 1, .int 4])) q5 = some (.tup [V.int 1, .int 1, .int 4]) := upd_same
      generalize upd H9 q5 (.tup [V.int 1, .int 1, .int 4]) = Ha at e_Ha h_q5 ⊢
      replace B9 := B9.same e_Ha
      replace hl0 := e_Ha _ _ hl0
      replace hcs0 := hcs0.same e_Ha
      replace hD9 := e_Ha _ _ hD9
      refine ⟨_, rfl, b, g, _, 3, rfl, B9, by omega, by decide, by decide, fun Hb dm kpb Bb dm0 dm1 => ?_⟩
      obtain ⟨mt, hmt, mt1⟩ : ∃ z : Nat, atI [V.int 1, .int 1, .int 4] dm = some (.int (z : Int)) ∧ z ≤ 4 := by
        rcases (show dm = 0 ∨ dm = 1 ∨ dm = 2 by omega) with rfl | rfl | rfl
        · exact ⟨1, rfl, by decide⟩
        · exact ⟨1, rfl, by decide⟩
        · exact ⟨4, rfl, by decide⟩
      refine ⟨q5, _, dm, _, rfl, rfl, SqT.of (kpb _ _ q5b q5g h_q5), hmt, ?_⟩
      replace hl0 := kpb _ _ l0b l0g hl0
      replace hcs0 := hcs0.keepB kpb B9
      replace hD9 := kpb _ _ Db2 Dg2 hD9
      have nx0 := hcs0.len
      have rl : xs0.length * mt ≤ 80 := Nat.le_trans (Nat.mul_le_mul (show xs0.length ≤ 20 by omega) mt1) (by decide)
      refine ⟨_, rfl, _, rfl, _, rfl, _, rfl, l0, mt, xs0, rfl, rfl, hl0, by omega, by omega, by rw [Int.toNat_natCast]; exact Nat.le_of_lt (small_n (by omega)), fun p np => ?_⟩
      rw [Int.toNat_natCast]
      have e_Hc : Same Hb (upd Hb p (.lst (List.replicate mt xs0).flatten)) := new_same np
      have h_p : (upd Hb p (.lst (List.replicate mt xs0).flatten)) p = some (.lst (List.replicate mt xs0).flatten) := upd_same
      generalize upd Hb p (.lst (List.replicate mt xs0).flatten) = Hc at e_Hc h_p ⊢
      replace Bb := Bb.same e_Hc
      replace hcs0 := hcs0.same e_Hc
      replace hD9 := e_Hc _ _ hD9
      have rc := reps hcs0 mt
      have rl2 : (List.replicate mt cs0).flatten.length ≤ 80 := by
        rw [len_reps, ← nx0, Nat.mul_comm]
        exact rl
      refine ⟨spot, mn, p, _, _, rfl, SqL.of h_p, rc, fun c hc => ok0 c (mem_reps hc), fun c hc => sm0 c (mem_reps hc), by omega, sp0, by omega, fun Hd l1 ys ds ed nl1 hl1 hds okd smd lnd wd => ?_⟩
      obtain ⟨l1b, l1g⟩ := Bb.off nl1
      replace Bb := Bb.same ed
      replace hD9 := ed _ _ hD9
      have nys := hds.len
      -- read
      refine ⟨fun σ H' => ∃ (l : Addr) (ys : List V), σ = [some (.ref a), some (.ref b), some (.int (0 + (i : Int))), some (.int mn), some (.ref D2), some (.int spot), some (.ref l), some (.int mt), v8, v9, v10, none] ∧ l ≠ b ∧ l ≠ g ∧ H' l = some (.lst ys) ∧ CmdsOf K H' ys ds ∧ H' D2 = some (.lst (pg.map V.int)) ∧
          Bag H' b g (1000 * i + 800), ?_, ?_⟩
      · refine ⟨_, rfl, l1, _, rfl, .inl (SqL.of hl1), _, _, rfl, rfl, _, rfl, ite2 (fun c => ?_) (fun c => ?_)⟩
        · refine ⟨_, rfl, l1, ys, ds, rfl, SqL.of hl1, hds, okd, fun c hc => ?_, by omega, fun z => ?_, fun He l2 zs ee nl2 hl2 hzs => ?_⟩
          · exact csml_lt (smd c hc)
          · subst z
            have := of_decide_eq_true c
            rw [nys] at this
            exact absurd this (by decide)
          · obtain ⟨l2b, l2g⟩ := Bb.off nl2
            exact ⟨l2, zs, rfl, l2b, l2g, hl2, hzs, ee _ _ hD9, (Bb.same ee).more (by omega)⟩
        · exact ⟨l1, ys, rfl, l1b, l1g, hl1, hds, hD9, Bb.more (by omega)⟩
      rintro σ He ⟨l, zs, rfl, lb, lg, hl, hzs, hDe, Be⟩
      -- start
      refine ⟨_, rfl, b, g, _, 30, rfl, Be, by omega, by decide, by decide, fun Hf s1 kpf Bf s10 s11 => ?_⟩
      refine ⟨_, rfl, b, g, _, rfl, Bf, by omega, fun Hg s2 kpg Bg s20 s21 => ?_⟩
      refine ⟨_, _, rfl, rfl, cpow (by decide), _, _, rfl, rfl, wide_mul (a := 61) (b := 110) (by decide) (by decide) (by decide) (by decide) (by decide), _, rfl, b, g, _, rfl, Bg, by omega, fun Hh s3 kph Bh s30 s31 => ⟨_, _, rfl, rfl, (by show 4 ≤ sizeLine; decide), fun q6 hq6 => ?_⟩⟩
      obtain ⟨q6b, q6g⟩ := Bh.off hq6
      have e_Hi : Same Hh (upd Hh q6 (.tup [V.int s1, .int s2, .non, .int (5 * 10 ^ (29 : Int).toNat + s3)])) := new_same hq6
      have h_q6 : (upd Hh q6 (.tup [V.int s1, .int s2, .non, .int (5 * 10 ^ (29 : Int).toNat + s3)])) q6 = some (.tup [V.int s1, .int s2, .non, .int (5 * 10 ^ (29 : Int).toNat + s3)]) := upd_same
      generalize upd Hh q6 (.tup [V.int s1, .int s2, .non, .int (5 * 10 ^ (29 : Int).toNat + s3)]) = Hi at e_Hi h_q6 ⊢
      replace Bh := Bh.same e_Hi
      refine ⟨_, rfl, b, g, _, 4, rfl, Bh, by omega, by decide, by decide, fun Hj s4 kpj Bj s40 s41 => ?_⟩
      obtain ⟨start, hst, st0⟩ : ∃ o : Option Int, atI [V.int s1, .int s2, .non, .int (5 * 10 ^ (29 : Int).toNat + s3)] s4 = some (optV o) ∧ ge o 0 := by
        rcases (show s4 = 0 ∨ s4 = 1 ∨ s4 = 2 ∨ s4 = 3 by omega) with rfl | rfl | rfl | rfl
        · exact ⟨some s1, rfl, ge_some.mpr s10⟩
        · exact ⟨some s2, rfl, ge_some.mpr s20⟩
        · exact ⟨none, rfl, ge_none 0⟩
        · exact ⟨some _, rfl, ge_some.mpr (Int.add_nonneg (by decide) s30)⟩
      refine ⟨q6, _, s4, _, rfl, rfl, SqT.of (kpj _ _ q6b q6g h_q6), hst, ?_⟩
      have kall : Keep b g He Hj := (((kpf.trans kpg).trans kph).same1 e_Hi).trans kpj
      have hDj := kall _ _ Db2 Dg2 hDe
      have hlj := kall _ _ lb lg hl
      have hzj : CmdsOf K Hj zs ds := hzs.keepB kall Be
      have fit : Fits K Hj D2 l pg spot zs ds := ⟨SqL.of hDj, SqL.of hlj, hzj, pb, sp0, by omega, okd, by omega, wd.le (Int.le_refl _) (by omega)⟩
      -- aim
      refine ⟨_, rfl, _, rfl, _, rfl, (by show 2 ≤ sizeLine; decide), fun q7 hq7 => ⟨_, rfl, ?_⟩⟩
      have e_Hk : Same Hj (upd Hj q7 (.tup [V.int spot, optV start])) := new_same hq7
      have h_q7 : (upd Hj q7 (.tup [V.int spot, optV start])) q7 = some (.tup [V.int spot, optV start]) := upd_same
      generalize upd Hj q7 (.tup [V.int spot, optV start]) = Hk at e_Hk h_q7 ⊢
      replace Bj := Bj.same e_Hk
      refine ask_end (g := start) (fit.same e_Hk) smd (SqT.of h_q7) fun Hl p7 e7 np7 hp7 => ⟨p7, _, 1, _, rfl, rfl, SqT.of hp7, rfl, ?_⟩
      replace fit := fit.same (e_Hk.trans e7)
      replace Bj := Bj.same e7
      have ai0 : ge (aimF (lenAt pg) spot start ds) 0 := aimF_nn (lenAt_nn pb) okd st0
      generalize aimF (lenAt pg) spot start ds = ai at ai0 ⊢
      refine ⟨_, rfl, _, _, rfl, rfl, cpow (by decide), _, _, rfl, rfl, ai, rfl, ai0, fun n1 n10 => ?_⟩
      refine ⟨_, _, rfl, rfl, _, _, rfl, ai, rfl, ai0, fun n2 n20 => ?_⟩
      refine ⟨_, _, rfl, rfl, _, _, rfl, _, rfl, b, g, _, 30, rfl, Bj, by omega, by decide, by decide, fun Hm s5 kpm Bm s50 s51 => ⟨(by show 5 ≤ sizeLine; decide), fun q8 hq8 => ?_⟩⟩
      obtain ⟨q8b, q8g⟩ := Bm.off hq8
      have m10 : 0 ≤ (if n1 + 1 < 10 ^ (30 : Int).toNat - 1 then n1 + 1 else (10 : Int) ^ (30 : Int).toNat - 1) := by
        split
        · omega
        · decide
      have m20 : 0 ≤ (if n2 - 1 > 0 then n2 - 1 else 0) := by split <;> omega
      generalize (if n1 + 1 < 10 ^ (30 : Int).toNat - 1 then n1 + 1 else (10 : Int) ^ (30 : Int).toNat - 1) = m1 at m10 ⊢
      generalize (if n2 - 1 > 0 then n2 - 1 else 0) = m2 at m20 ⊢
      have e_Hn : Same Hm (upd Hm q8 (.tup [optV ai, V.int m1, .int m2, .non, .int s5])) := new_same hq8
      have h_q8 : (upd Hm q8 (.tup [optV ai, V.int m1, .int m2, .non, .int s5])) q8 = some (.tup [optV ai, V.int m1, .int m2, .non, .int s5]) := upd_same
      generalize upd Hm q8 (.tup [optV ai, V.int m1, .int m2, .non, .int s5]) = Hn at e_Hn h_q8 ⊢
      replace Bm := Bm.same e_Hn
      have fitn : Fits K Hn D2 l pg spot zs ds := by
        obtain ⟨f1, f2, f3, f4⟩ := fit
        have hDn := e_Hn _ _ (kpm _ _ Db2 Dg2 (e7 _ _ (e_Hk _ _ hDj)))
        have hln := e_Hn _ _ (kpm _ _ lb lg (e7 _ _ (e_Hk _ _ hlj)))
        exact ⟨SqL.of hDn, SqL.of hln, (f3.keepB kpm Bj).same e_Hn, f4⟩
      refine ⟨q8, rfl, ⟨_, SqT.of h_q8⟩, for_tup (K := K) (a := q8) (xs := [optV ai, V.int m1, .int m2, .non, .int s5]) (fun j σ H' => ∃ v10 : Option V,
          σ = [some (.ref a), some (.ref b), some (.int (0 + (i : Int))), some (.int mn), some (.ref D2), some (.int spot), some (.ref l), some (.int mt), some (optV start), some (optV ai), v10, none] ∧ Same Hn H')
        ⟨v10, rfl, Same.refl _⟩ (fun j σ H' _ ⟨_, _, e⟩ => SqT.of (e _ _ h_q8)) (fun j y σ Ho hy h => ?_) (fun σ Ho h => ?_)⟩
      · obtain ⟨w10, rfl, eo⟩ := h
        obtain ⟨o, rfl, o0⟩ := five_at ai0 m10 m20 s50 hy
        refine ⟨_, rfl, _, rfl, _, rfl, _, rfl, ask_org (goal := o) (fitn.same eo) o0 fun Hp' tv ep hov => ?_⟩
        refine ⟨_, rfl, _, rfl, _, rfl, _, rfl, ask_right (goal := o) ((fitn.same eo).same ep) smd o0 hov fun Hq eq => ?_⟩
        exact ⟨_, rfl, iteF ⟨_, rfl, (eo.trans ep).trans eq⟩⟩
      · obtain ⟨w10, rfl, eo⟩ := h
        exact ⟨_, _, _, _, _, _, _, _, _, rfl, (Bm.same eo).more (by omega)⟩
    · exact k _
end
end Gc

namespace Gc
open PySem L2
theorem all_mk {l : PySem.W.OpenLaw} {w : World} {K : PySem.W.Frag} {h : Heap} {mg : Str → Option Value} {fa : Addr} (X : K.In h) (G : h.Ns mainGlobals mg) (hfa : mg "law" = some (.ref fa))
    {wn wo : Addr} {odN odO : Option Addr} {nN nO : Nat} {slN slO : Array (Option Value)} {tn0 tn1 tn2 tn3 to0 to1 : Tok}
    {f_is_count : Addr} {oc_is_count kV_is_count dc_is_count pm_is_count cd_is_count ct_is_count : Value} {od_is_count an_is_count : Option Addr} {sl_is_count : Array (Option Value)}
    {f_is_command : Addr} {oc_is_command kV_is_command dc_is_command pm_is_command cd_is_command ct_is_command : Value} {od_is_command an_is_command : Option Addr} {sl_is_command : Array (Option Value)}
    {f_check_commands : Addr} {oc_check_commands kV_check_commands dc_check_commands pm_check_commands cd_check_commands ct_check_commands : Value} {od_check_commands an_check_commands : Option Addr} {sl_check_commands : Array (Option Value)}
    {f_row_change : Addr} {oc_row_change kV_row_change dc_row_change pm_row_change cd_row_change ct_row_change : Value} {od_row_change an_row_change : Option Addr} {sl_row_change : Array (Option Value)}
    {f_check_text : Addr} {oc_check_text kV_check_text dc_check_text pm_check_text cd_check_text ct_check_text : Value} {od_check_text an_check_text : Option Addr} {sl_check_text : Array (Option Value)}
    {f_check_cursor : Addr} {oc_check_cursor kV_check_cursor dc_check_cursor pm_check_cursor cd_check_cursor ct_check_cursor : Value} {od_check_cursor an_check_cursor : Option Addr} {sl_check_cursor : Array (Option Value)}
    {f_run : Addr} {oc_run kV_run dc_run pm_run cd_run ct_run : Value} {od_run an_run : Option Addr} {sl_run : Array (Option Value)}
    {f_shown_column : Addr} {oc_shown_column kV_shown_column dc_shown_column pm_shown_column cd_shown_column ct_shown_column : Value} {od_shown_column an_shown_column : Option Addr} {sl_shown_column : Array (Option Value)}
    {f_moved : Addr} {oc_moved kV_moved dc_moved pm_moved cd_moved ct_moved : Value} {od_moved an_moved : Option Addr} {sl_moved : Array (Option Value)}
    {f_new_goal : Addr} {oc_new_goal kV_new_goal dc_new_goal pm_new_goal cd_new_goal ct_new_goal : Value} {od_new_goal an_new_goal : Option Addr} {sl_new_goal : Array (Option Value)}
    {f_effect : Addr} {oc_effect kV_effect dc_effect pm_effect cd_effect ct_effect : Value} {od_effect an_effect : Option Addr} {sl_effect : Array (Option Value)}
    {f_total_change : Addr} {oc_total_change kV_total_change dc_total_change pm_total_change cd_total_change ct_total_change : Value} {od_total_change an_total_change : Option Addr} {sl_total_change : Array (Option Value)}
    {f_origins : Addr} {oc_origins kV_origins dc_origins pm_origins cd_origins ct_origins : Value} {od_origins an_origins : Option Addr} {sl_origins : Array (Option Value)}
    {f_is_less : Addr} {oc_is_less kV_is_less dc_is_less pm_is_less cd_is_less ct_is_less : Value} {od_is_less an_is_less : Option Addr} {sl_is_less : Array (Option Value)}
    {f_show_number : Addr} {oc_show_number kV_show_number dc_show_number pm_show_number cd_show_number ct_show_number : Value} {od_show_number an_show_number : Option Addr} {sl_show_number : Array (Option Value)}
    {f_show_command : Addr} {oc_show_command kV_show_command dc_show_command pm_show_command cd_show_command ct_show_command : Value} {od_show_command an_show_command : Option Addr} {sl_show_command : Array (Option Value)}
    {f_show_commands : Addr} {oc_show_commands kV_show_commands dc_show_commands pm_show_commands cd_show_commands ct_show_commands : Value} {od_show_commands an_show_commands : Option Addr} {sl_show_commands : Array (Option Value)}
    {f_is_number : Addr} {oc_is_number kV_is_number dc_is_number pm_is_number cd_is_number ct_is_number : Value} {od_is_number an_is_number : Option Addr} {sl_is_number : Array (Option Value)}
    {f_read_command : Addr} {oc_read_command kV_read_command dc_read_command pm_read_command cd_read_command ct_read_command : Value} {od_read_command an_read_command : Option Addr} {sl_read_command : Array (Option Value)}
    {f_read_commands : Addr} {oc_read_commands kV_read_commands dc_read_commands pm_read_commands cd_read_commands ct_read_commands : Value} {od_read_commands an_read_commands : Option Addr} {sl_read_commands : Array (Option Value)}
    {f_law_bag : Addr} {oc_law_bag kV_law_bag dc_law_bag pm_law_bag cd_law_bag ct_law_bag : Value} {od_law_bag an_law_bag : Option Addr} {sl_law_bag : Array (Option Value)}
    {f_law_draw : Addr} {oc_law_draw kV_law_draw dc_law_draw pm_law_draw cd_law_draw ct_law_draw : Value} {od_law_draw an_law_draw : Option Addr} {sl_law_draw : Array (Option Value)}
    {f_law_moves : Addr} {oc_law_moves kV_law_moves dc_law_moves pm_law_moves cd_law_moves ct_law_moves : Value} {od_law_moves an_law_moves : Option Addr} {sl_law_moves : Array (Option Value)}
    {f_law_great : Addr} {oc_law_great kV_law_great dc_law_great pm_law_great cd_law_great ct_law_great : Value} {od_law_great an_law_great : Option Addr} {sl_law_great : Array (Option Value)}
    {f_law_end : Addr} {oc_law_end kV_law_end dc_law_end pm_law_end cd_law_end ct_law_end : Value} {od_law_end an_law_end : Option Addr} {sl_law_end : Array (Option Value)}
    {f_law_kept : Addr} {oc_law_kept kV_law_kept dc_law_kept pm_law_kept cd_law_kept ct_law_kept : Value} {od_law_kept an_law_kept : Option Addr} {sl_law_kept : Array (Option Value)}
    {f_law_right : Addr} {oc_law_right kV_law_right dc_law_right pm_law_right cd_law_right ct_law_right : Value} {od_law_right an_law_right : Option Addr} {sl_law_right : Array (Option Value)}
    {f_law_read : Addr} {oc_law_read kV_law_read dc_law_read pm_law_read cd_law_read ct_law_read : Value} {od_law_read an_law_read : Option Addr} {sl_law_read : Array (Option Value)}
    {f_law : Addr} {oc_law kV_law dc_law pm_law cd_law ct_law : Value} {od_law an_law : Option Addr} {sl_law : Array (Option Value)}
    {na nb : Addr} {nA nB : Nat} {tm t1 t2 u1 u2 s1 s2 s3 s4 r1 r2 r3 r4 : Tok}
    (aWN : PySem.W.nsIn K mainGlobals "WITH_NUMBER" = some (some (.ref wn)))
    (aWO : PySem.W.nsIn K mainGlobals "WITHOUT_NUMBER" = some (some (.ref wo)))
    (lWN : K.lookup wn = some ⟨.type "tuple", odN, .seq #[.str "down" tn0, .str "up" tn1, .str "right" tn2, .str "left" tn3] nN, slN⟩)
    (lWO : K.lookup wo = some ⟨.type "tuple", odO, .seq #[.str "home" to0, .str "end" to1] nO, slO⟩)
    (a_is_count : PySem.W.nsIn K mainGlobals "is_count" = some (some (.ref f_is_count)))
    (l_is_count : K.lookup f_is_count = some ⟨oc_is_count, od_is_count, .func (PySem.W.fnOf "is_count" "is_count" (defArgs s_is_count) (defBody s_is_count) (defScope s_is_count) .none kV_is_count dc_is_count pm_is_count an_is_count cd_is_count ct_is_count), sl_is_count⟩)
    (c_is_count : PySem.W.codeIn K cd_is_count "is_count" = true)
    (k_is_count : PySem.W.keepIn K (.ref f_is_count) = true)
    (a_is_command : PySem.W.nsIn K mainGlobals "is_command" = some (some (.ref f_is_command)))
    (l_is_command : K.lookup f_is_command = some ⟨oc_is_command, od_is_command, .func (PySem.W.fnOf "is_command" "is_command" (defArgs s_is_command) (defBody s_is_command) (defScope s_is_command) .none kV_is_command dc_is_command pm_is_command an_is_command cd_is_command ct_is_command), sl_is_command⟩)
    (c_is_command : PySem.W.codeIn K cd_is_command "is_command" = true)
    (k_is_command : PySem.W.keepIn K (.ref f_is_command) = true)
    (a_check_commands : PySem.W.nsIn K mainGlobals "check_commands" = some (some (.ref f_check_commands)))
    (l_check_commands : K.lookup f_check_commands = some ⟨oc_check_commands, od_check_commands, .func (PySem.W.fnOf "check_commands" "check_commands" (defArgs s_check_commands) (defBody s_check_commands) (defScope s_check_commands) .none kV_check_commands dc_check_commands pm_check_commands an_check_commands cd_check_commands ct_check_commands), sl_check_commands⟩)
    (c_check_commands : PySem.W.codeIn K cd_check_commands "check_commands" = true)
    (k_check_commands : PySem.W.keepIn K (.ref f_check_commands) = true)
    (a_row_change : PySem.W.nsIn K mainGlobals "row_change" = some (some (.ref f_row_change)))
    (l_row_change : K.lookup f_row_change = some ⟨oc_row_change, od_row_change, .func (PySem.W.fnOf "row_change" "row_change" (defArgs s_row_change) (defBody s_row_change) (defScope s_row_change) .none kV_row_change dc_row_change pm_row_change an_row_change cd_row_change ct_row_change), sl_row_change⟩)
    (c_row_change : PySem.W.codeIn K cd_row_change "row_change" = true)
    (k_row_change : PySem.W.keepIn K (.ref f_row_change) = true)
    (a_check_text : PySem.W.nsIn K mainGlobals "check_text" = some (some (.ref f_check_text)))
    (l_check_text : K.lookup f_check_text = some ⟨oc_check_text, od_check_text, .func (PySem.W.fnOf "check_text" "check_text" (defArgs s_check_text) (defBody s_check_text) (defScope s_check_text) .none kV_check_text dc_check_text pm_check_text an_check_text cd_check_text ct_check_text), sl_check_text⟩)
    (c_check_text : PySem.W.codeIn K cd_check_text "check_text" = true)
    (k_check_text : PySem.W.keepIn K (.ref f_check_text) = true)
    (a_check_cursor : PySem.W.nsIn K mainGlobals "check_cursor" = some (some (.ref f_check_cursor)))
    (l_check_cursor : K.lookup f_check_cursor = some ⟨oc_check_cursor, od_check_cursor, .func (PySem.W.fnOf "check_cursor" "check_cursor" (defArgs s_check_cursor) (defBody s_check_cursor) (defScope s_check_cursor) .none kV_check_cursor dc_check_cursor pm_check_cursor an_check_cursor cd_check_cursor ct_check_cursor), sl_check_cursor⟩)
    (c_check_cursor : PySem.W.codeIn K cd_check_cursor "check_cursor" = true)
    (k_check_cursor : PySem.W.keepIn K (.ref f_check_cursor) = true)
    (a_run : PySem.W.nsIn K mainGlobals "run" = some (some (.ref f_run)))
    (l_run : K.lookup f_run = some ⟨oc_run, od_run, .func (PySem.W.fnOf "run" "run" (defArgs s_run) (defBody s_run) (defScope s_run) .none kV_run dc_run pm_run an_run cd_run ct_run), sl_run⟩)
    (c_run : PySem.W.codeIn K cd_run "run" = true)
    (k_run : PySem.W.keepIn K (.ref f_run) = true)
    (a_shown_column : PySem.W.nsIn K mainGlobals "shown_column" = some (some (.ref f_shown_column)))
    (l_shown_column : K.lookup f_shown_column = some ⟨oc_shown_column, od_shown_column, .func (PySem.W.fnOf "shown_column" "shown_column" (defArgs s_shown_column) (defBody s_shown_column) (defScope s_shown_column) .none kV_shown_column dc_shown_column pm_shown_column an_shown_column cd_shown_column ct_shown_column), sl_shown_column⟩)
    (c_shown_column : PySem.W.codeIn K cd_shown_column "shown_column" = true)
    (k_shown_column : PySem.W.keepIn K (.ref f_shown_column) = true)
    (a_moved : PySem.W.nsIn K mainGlobals "moved" = some (some (.ref f_moved)))
    (l_moved : K.lookup f_moved = some ⟨oc_moved, od_moved, .func (PySem.W.fnOf "moved" "moved" (defArgs s_moved) (defBody s_moved) (defScope s_moved) .none kV_moved dc_moved pm_moved an_moved cd_moved ct_moved), sl_moved⟩)
    (c_moved : PySem.W.codeIn K cd_moved "moved" = true)
    (k_moved : PySem.W.keepIn K (.ref f_moved) = true)
    (a_new_goal : PySem.W.nsIn K mainGlobals "new_goal" = some (some (.ref f_new_goal)))
    (l_new_goal : K.lookup f_new_goal = some ⟨oc_new_goal, od_new_goal, .func (PySem.W.fnOf "new_goal" "new_goal" (defArgs s_new_goal) (defBody s_new_goal) (defScope s_new_goal) .none kV_new_goal dc_new_goal pm_new_goal an_new_goal cd_new_goal ct_new_goal), sl_new_goal⟩)
    (c_new_goal : PySem.W.codeIn K cd_new_goal "new_goal" = true)
    (k_new_goal : PySem.W.keepIn K (.ref f_new_goal) = true)
    (a_effect : PySem.W.nsIn K mainGlobals "effect" = some (some (.ref f_effect)))
    (l_effect : K.lookup f_effect = some ⟨oc_effect, od_effect, .func (PySem.W.fnOf "effect" "effect" (defArgs s_effect) (defBody s_effect) (defScope s_effect) .none kV_effect dc_effect pm_effect an_effect cd_effect ct_effect), sl_effect⟩)
    (c_effect : PySem.W.codeIn K cd_effect "effect" = true)
    (k_effect : PySem.W.keepIn K (.ref f_effect) = true)
    (a_total_change : PySem.W.nsIn K mainGlobals "total_change" = some (some (.ref f_total_change)))
    (l_total_change : K.lookup f_total_change = some ⟨oc_total_change, od_total_change, .func (PySem.W.fnOf "total_change" "total_change" (defArgs s_total_change) (defBody s_total_change) (defScope s_total_change) .none kV_total_change dc_total_change pm_total_change an_total_change cd_total_change ct_total_change), sl_total_change⟩)
    (c_total_change : PySem.W.codeIn K cd_total_change "total_change" = true)
    (k_total_change : PySem.W.keepIn K (.ref f_total_change) = true)
    (a_origins : PySem.W.nsIn K mainGlobals "origins" = some (some (.ref f_origins)))
    (l_origins : K.lookup f_origins = some ⟨oc_origins, od_origins, .func (PySem.W.fnOf "origins" "origins" (defArgs s_origins) (defBody s_origins) (defScope s_origins) .none kV_origins dc_origins pm_origins an_origins cd_origins ct_origins), sl_origins⟩)
    (c_origins : PySem.W.codeIn K cd_origins "origins" = true)
    (k_origins : PySem.W.keepIn K (.ref f_origins) = true)
    (a_is_less : PySem.W.nsIn K mainGlobals "is_less" = some (some (.ref f_is_less)))
    (l_is_less : K.lookup f_is_less = some ⟨oc_is_less, od_is_less, .func (PySem.W.fnOf "is_less" "is_less" (defArgs s_is_less) (defBody s_is_less) (defScope s_is_less) .none kV_is_less dc_is_less pm_is_less an_is_less cd_is_less ct_is_less), sl_is_less⟩)
    (c_is_less : PySem.W.codeIn K cd_is_less "is_less" = true)
    (k_is_less : PySem.W.keepIn K (.ref f_is_less) = true)
    (a_show_number : PySem.W.nsIn K mainGlobals "show_number" = some (some (.ref f_show_number)))
    (l_show_number : K.lookup f_show_number = some ⟨oc_show_number, od_show_number, .func (PySem.W.fnOf "show_number" "show_number" (defArgs s_show_number) (defBody s_show_number) (defScope s_show_number) .none kV_show_number dc_show_number pm_show_number an_show_number cd_show_number ct_show_number), sl_show_number⟩)
    (c_show_number : PySem.W.codeIn K cd_show_number "show_number" = true)
    (k_show_number : PySem.W.keepIn K (.ref f_show_number) = true)
    (a_show_command : PySem.W.nsIn K mainGlobals "show_command" = some (some (.ref f_show_command)))
    (l_show_command : K.lookup f_show_command = some ⟨oc_show_command, od_show_command, .func (PySem.W.fnOf "show_command" "show_command" (defArgs s_show_command) (defBody s_show_command) (defScope s_show_command) .none kV_show_command dc_show_command pm_show_command an_show_command cd_show_command ct_show_command), sl_show_command⟩)
    (c_show_command : PySem.W.codeIn K cd_show_command "show_command" = true)
    (k_show_command : PySem.W.keepIn K (.ref f_show_command) = true)
    (a_show_commands : PySem.W.nsIn K mainGlobals "show_commands" = some (some (.ref f_show_commands)))
    (l_show_commands : K.lookup f_show_commands = some ⟨oc_show_commands, od_show_commands, .func (PySem.W.fnOf "show_commands" "show_commands" (defArgs s_show_commands) (defBody s_show_commands) (defScope s_show_commands) .none kV_show_commands dc_show_commands pm_show_commands an_show_commands cd_show_commands ct_show_commands), sl_show_commands⟩)
    (c_show_commands : PySem.W.codeIn K cd_show_commands "show_commands" = true)
    (k_show_commands : PySem.W.keepIn K (.ref f_show_commands) = true)
    (a_is_number : PySem.W.nsIn K mainGlobals "is_number" = some (some (.ref f_is_number)))
    (l_is_number : K.lookup f_is_number = some ⟨oc_is_number, od_is_number, .func (PySem.W.fnOf "is_number" "is_number" (defArgs s_is_number) (defBody s_is_number) (defScope s_is_number) .none kV_is_number dc_is_number pm_is_number an_is_number cd_is_number ct_is_number), sl_is_number⟩)
    (c_is_number : PySem.W.codeIn K cd_is_number "is_number" = true)
    (k_is_number : PySem.W.keepIn K (.ref f_is_number) = true)
    (a_read_command : PySem.W.nsIn K mainGlobals "read_command" = some (some (.ref f_read_command)))
    (l_read_command : K.lookup f_read_command = some ⟨oc_read_command, od_read_command, .func (PySem.W.fnOf "read_command" "read_command" (defArgs s_read_command) (defBody s_read_command) (defScope s_read_command) .none kV_read_command dc_read_command pm_read_command an_read_command cd_read_command ct_read_command), sl_read_command⟩)
    (c_read_command : PySem.W.codeIn K cd_read_command "read_command" = true)
    (k_read_command : PySem.W.keepIn K (.ref f_read_command) = true)
    (a_read_commands : PySem.W.nsIn K mainGlobals "read_commands" = some (some (.ref f_read_commands)))
    (l_read_commands : K.lookup f_read_commands = some ⟨oc_read_commands, od_read_commands, .func (PySem.W.fnOf "read_commands" "read_commands" (defArgs s_read_commands) (defBody s_read_commands) (defScope s_read_commands) .none kV_read_commands dc_read_commands pm_read_commands an_read_commands cd_read_commands ct_read_commands), sl_read_commands⟩)
    (c_read_commands : PySem.W.codeIn K cd_read_commands "read_commands" = true)
    (k_read_commands : PySem.W.keepIn K (.ref f_read_commands) = true)
    (a_law_bag : PySem.W.nsIn K mainGlobals "_law_bag" = some (some (.ref f_law_bag)))
    (l_law_bag : K.lookup f_law_bag = some ⟨oc_law_bag, od_law_bag, .func (PySem.W.fnOf "_law_bag" "_law_bag" (defArgs s_bag) (defBody s_bag) (defScope s_bag) .none kV_law_bag dc_law_bag pm_law_bag an_law_bag cd_law_bag ct_law_bag), sl_law_bag⟩)
    (c_law_bag : PySem.W.codeIn K cd_law_bag "_law_bag" = true)
    (k_law_bag : PySem.W.keepIn K (.ref f_law_bag) = true)
    (a_law_draw : PySem.W.nsIn K mainGlobals "_law_draw" = some (some (.ref f_law_draw)))
    (l_law_draw : K.lookup f_law_draw = some ⟨oc_law_draw, od_law_draw, .func (PySem.W.fnOf "_law_draw" "_law_draw" (defArgs s_bdraw) (defBody s_bdraw) (defScope s_bdraw) .none kV_law_draw dc_law_draw pm_law_draw an_law_draw cd_law_draw ct_law_draw), sl_law_draw⟩)
    (c_law_draw : PySem.W.codeIn K cd_law_draw "_law_draw" = true)
    (k_law_draw : PySem.W.keepIn K (.ref f_law_draw) = true)
    (a_law_moves : PySem.W.nsIn K mainGlobals "_law_moves" = some (some (.ref f_law_moves)))
    (l_law_moves : K.lookup f_law_moves = some ⟨oc_law_moves, od_law_moves, .func (PySem.W.fnOf "_law_moves" "_law_moves" (defArgs s_moves) (defBody s_moves) (defScope s_moves) .none kV_law_moves dc_law_moves pm_law_moves an_law_moves cd_law_moves ct_law_moves), sl_law_moves⟩)
    (c_law_moves : PySem.W.codeIn K cd_law_moves "_law_moves" = true)
    (k_law_moves : PySem.W.keepIn K (.ref f_law_moves) = true)
    (a_law_great : PySem.W.nsIn K mainGlobals "_law_great" = some (some (.ref f_law_great)))
    (l_law_great : K.lookup f_law_great = some ⟨oc_law_great, od_law_great, .func (PySem.W.fnOf "_law_great" "_law_great" (defArgs s_great) (defBody s_great) (defScope s_great) .none kV_law_great dc_law_great pm_law_great an_law_great cd_law_great ct_law_great), sl_law_great⟩)
    (c_law_great : PySem.W.codeIn K cd_law_great "_law_great" = true)
    (k_law_great : PySem.W.keepIn K (.ref f_law_great) = true)
    (a_law_end : PySem.W.nsIn K mainGlobals "_law_end" = some (some (.ref f_law_end)))
    (l_law_end : K.lookup f_law_end = some ⟨oc_law_end, od_law_end, .func (PySem.W.fnOf "_law_end" "_law_end" (defArgs s_end) (defBody s_end) (defScope s_end) .none kV_law_end dc_law_end pm_law_end an_law_end cd_law_end ct_law_end), sl_law_end⟩)
    (c_law_end : PySem.W.codeIn K cd_law_end "_law_end" = true)
    (k_law_end : PySem.W.keepIn K (.ref f_law_end) = true)
    (a_law_kept : PySem.W.nsIn K mainGlobals "_law_kept" = some (some (.ref f_law_kept)))
    (l_law_kept : K.lookup f_law_kept = some ⟨oc_law_kept, od_law_kept, .func (PySem.W.fnOf "_law_kept" "_law_kept" (defArgs s_kept) (defBody s_kept) (defScope s_kept) .none kV_law_kept dc_law_kept pm_law_kept an_law_kept cd_law_kept ct_law_kept), sl_law_kept⟩)
    (c_law_kept : PySem.W.codeIn K cd_law_kept "_law_kept" = true)
    (k_law_kept : PySem.W.keepIn K (.ref f_law_kept) = true)
    (a_law_right : PySem.W.nsIn K mainGlobals "_law_right" = some (some (.ref f_law_right)))
    (l_law_right : K.lookup f_law_right = some ⟨oc_law_right, od_law_right, .func (PySem.W.fnOf "_law_right" "_law_right" (defArgs s_right) (defBody s_right) (defScope s_right) .none kV_law_right dc_law_right pm_law_right an_law_right cd_law_right ct_law_right), sl_law_right⟩)
    (c_law_right : PySem.W.codeIn K cd_law_right "_law_right" = true)
    (k_law_right : PySem.W.keepIn K (.ref f_law_right) = true)
    (a_law_read : PySem.W.nsIn K mainGlobals "_law_read" = some (some (.ref f_law_read)))
    (l_law_read : K.lookup f_law_read = some ⟨oc_law_read, od_law_read, .func (PySem.W.fnOf "_law_read" "_law_read" (defArgs s_lread) (defBody s_lread) (defScope s_lread) .none kV_law_read dc_law_read pm_law_read an_law_read cd_law_read ct_law_read), sl_law_read⟩)
    (c_law_read : PySem.W.codeIn K cd_law_read "_law_read" = true)
    (k_law_read : PySem.W.keepIn K (.ref f_law_read) = true)
    (a_law : PySem.W.nsIn K mainGlobals "law" = some (some (.ref f_law)))
    (l_law : K.lookup f_law = some ⟨oc_law, od_law, .func (PySem.W.fnOf "law" "law" (defArgs s_law) (defBody s_law) (defScope s_law) .none kV_law dc_law pm_law an_law cd_law ct_law), sl_law⟩)
    (c_law : PySem.W.codeIn K cd_law "law" = true)
    (k_law : PySem.W.keepIn K (.ref f_law) = true)
    (z_isinstance : PySem.W.nsIn K mainGlobals "isinstance" = some none)
    (z_int : PySem.W.nsIn K mainGlobals "int" = some none)
    (z_bool : PySem.W.nsIn K mainGlobals "bool" = some none)
    (z_len : PySem.W.nsIn K mainGlobals "len" = some none)
    (z_enumerate : PySem.W.nsIn K mainGlobals "enumerate" = some none)
    (z_reversed : PySem.W.nsIn K mainGlobals "reversed" = some none)
    (z_sorted : PySem.W.nsIn K mainGlobals "sorted" = some none)
    (z_max : PySem.W.nsIn K mainGlobals "max" = some none)
    (z_min : PySem.W.nsIn K mainGlobals "min" = some none)
    (z_abs : PySem.W.nsIn K mainGlobals "abs" = some none)
    (z_range : PySem.W.nsIn K mainGlobals "range" = some none)
    (z_list : PySem.W.nsIn K mainGlobals "list" = some none)
    (z_str : PySem.W.nsIn K mainGlobals "str" = some none)
    (z_divmod : PySem.W.nsIn K mainGlobals "divmod" = some none)
    (z_all : PySem.W.nsIn K mainGlobals "all" = some none)
    (aNA : PySem.W.nsIn K mainGlobals "NAMES_ALONE" = some (some (.ref na)))
    (aNB : PySem.W.nsIn K mainGlobals "NAMES_BEHIND_NUMBER" = some (some (.ref nb)))
    (aMD : PySem.W.nsIn K mainGlobals "MOST_DIGITS" = some (some (.int 40 tm)))
    (lNA : K.lookup na = some ⟨.type "dict", none, .dict #[⟨PyData.keyHash w.params "H", .str "H" t1, .str "home" u1⟩, ⟨PyData.keyHash w.params "E", .str "E" t2, .str "end" u2⟩] nA, #[]⟩)
    (lNB : K.lookup nb = some ⟨.type "dict", none, .dict #[⟨PyData.keyHash w.params "D", .str "D" s1, .str "down" r1⟩, ⟨PyData.keyHash w.params "U", .str "U" s2, .str "up" r2⟩, ⟨PyData.keyHash w.params "R", .str "R" s3, .str "right" r3⟩, ⟨PyData.keyHash w.params "L", .str "L" s4, .str "left" r4⟩] nB, #[]⟩)
    (oNA : (na == sysModules) = false)
    (oNB : (nb == sysModules) = false) :
    ∃ fd : FuncData, (∀ (s : Shared) (v : Value), BindsTo s fd ⟨[v], []⟩ [("script", v)]) ∧ ∀ base : Heap, K.In base → base.Ns mainGlobals mg → FnOk l.prog w K mg base CX0 7 fa fd ["script"] (spLaw K) := by
  have e := hfa.symm.trans (PySem.W.mg_of X G a_law)
  cases e
  have F_is_count := fun_mk (st := s_is_count) l_is_count c_is_count k_is_count
  have F_is_command := fun_mk (st := s_is_command) l_is_command c_is_command k_is_command
  have F_check_commands := fun_mk (st := s_check_commands) l_check_commands c_check_commands k_check_commands
  have F_row_change := fun_mk (st := s_row_change) l_row_change c_row_change k_row_change
  have F_check_text := fun_mk (st := s_check_text) l_check_text c_check_text k_check_text
  have F_check_cursor := fun_mk (st := s_check_cursor) l_check_cursor c_check_cursor k_check_cursor
  have F_run := fun_mk (st := s_run) l_run c_run k_run
  have F_shown_column := fun_mk (st := s_shown_column) l_shown_column c_shown_column k_shown_column
  have F_moved := fun_mk (st := s_moved) l_moved c_moved k_moved
  have F_new_goal := fun_mk (st := s_new_goal) l_new_goal c_new_goal k_new_goal
  have F_effect := fun_mk (st := s_effect) l_effect c_effect k_effect
  have F_total_change := fun_mk (st := s_total_change) l_total_change c_total_change k_total_change
  have F_origins := fun_mk (st := s_origins) l_origins c_origins k_origins
  have F_is_less := fun_mk (st := s_is_less) l_is_less c_is_less k_is_less
  have F_show_number := fun_mk (st := s_show_number) l_show_number c_show_number k_show_number
  have F_show_command := fun_mk (st := s_show_command) l_show_command c_show_command k_show_command
  have F_show_commands := fun_mk (st := s_show_commands) l_show_commands c_show_commands k_show_commands
  have F_is_number := fun_mk (st := s_is_number) l_is_number c_is_number k_is_number
  have F_read_command := fun_mk (st := s_read_command) l_read_command c_read_command k_read_command
  have F_read_commands := fun_mk (st := s_read_commands) l_read_commands c_read_commands k_read_commands
  have F_law_bag := fun_mk (st := s_bag) l_law_bag c_law_bag k_law_bag
  have F_law_draw := fun_mk (st := s_bdraw) l_law_draw c_law_draw k_law_draw
  have F_law_moves := fun_mk (st := s_moves) l_law_moves c_law_moves k_law_moves
  have F_law_great := fun_mk (st := s_great) l_law_great c_law_great k_law_great
  have F_law_end := fun_mk (st := s_end) l_law_end c_law_end k_law_end
  have F_law_kept := fun_mk (st := s_kept) l_law_kept c_law_kept k_law_kept
  have F_law_right := fun_mk (st := s_right) l_law_right c_law_right k_law_right
  have F_law_read := fun_mk (st := s_lread) l_law_read c_law_read k_law_read
  have F_law := fun_mk (st := s_law) l_law c_law k_law
  have b_is_count := F_is_count.binds (ps := ["number"]) fun _ _ _ _ _ _ us hl => match us, hl with | [_], _ => rfl
  have b_is_command := F_is_command.binds (ps := ["command"]) fun _ _ _ _ _ _ us hl => match us, hl with | [_], _ => rfl
  have b_check_commands := F_check_commands.binds (ps := ["commands"]) fun _ _ _ _ _ _ us hl => match us, hl with | [_], _ => rfl
  have b_row_change := F_row_change.binds (ps := ["command"]) fun _ _ _ _ _ _ us hl => match us, hl with | [_], _ => rfl
  have b_check_text := F_check_text.binds (ps := ["text"]) fun _ _ _ _ _ _ us hl => match us, hl with | [_], _ => rfl
  have b_check_cursor := F_check_cursor.binds (ps := ["lines", "cursor"]) fun _ _ _ _ _ _ us hl => match us, hl with | [_, _], _ => rfl
  have b_run := F_run.binds (ps := ["text", "cursor", "commands"]) fun _ _ _ _ _ _ us hl => match us, hl with | [_, _, _], _ => rfl
  have b_shown_column := F_shown_column.binds (ps := ["length", "goal"]) fun _ _ _ _ _ _ us hl => match us, hl with | [_, _], _ => rfl
  have b_moved := F_moved.binds (ps := ["text", "cursor", "command"]) fun _ _ _ _ _ _ us hl => match us, hl with | [_, _, _], _ => rfl
  have b_new_goal := F_new_goal.binds (ps := ["length", "goal", "command"]) fun _ _ _ _ _ _ us hl => match us, hl with | [_, _, _], _ => rfl
  have b_effect := F_effect.binds (ps := ["text", "row", "commands"]) fun _ _ _ _ _ _ us hl => match us, hl with | [_, _, _], _ => rfl
  have b_total_change := F_total_change.binds (ps := ["commands"]) fun _ _ _ _ _ _ us hl => match us, hl with | [_], _ => rfl
  have b_origins := F_origins.binds (ps := ["text", "row", "commands", "goal"]) fun _ _ _ _ _ _ us hl => match us, hl with | [_, _, _, _], _ => rfl
  have b_is_less := F_is_less.binds (ps := ["goal", "other"]) fun _ _ _ _ _ _ us hl => match us, hl with | [_, _], _ => rfl
  have b_show_number := F_show_number.binds (ps := ["number"]) fun _ _ _ _ _ _ us hl => match us, hl with | [_], _ => rfl
  have b_show_command := F_show_command.binds (ps := ["command"]) fun _ _ _ _ _ _ us hl => match us, hl with | [_], _ => rfl
  have b_show_commands := F_show_commands.binds (ps := ["commands"]) fun _ _ _ _ _ _ us hl => match us, hl with | [_], _ => rfl
  have b_is_number := F_is_number.binds (ps := ["digits"]) fun _ _ _ _ _ _ us hl => match us, hl with | [_], _ => rfl
  have b_read_command := F_read_command.binds (ps := ["word"]) fun _ _ _ _ _ _ us hl => match us, hl with | [_], _ => rfl
  have b_read_commands := F_read_commands.binds (ps := ["text"]) fun _ _ _ _ _ _ us hl => match us, hl with | [_], _ => rfl
  have b_law_bag := F_law_bag.binds (ps := ["script"]) fun _ _ _ _ _ _ us hl => match us, hl with | [_], _ => rfl
  have b_law_draw := F_law_draw.binds (ps := ["bag", "many"]) fun _ _ _ _ _ _ us hl => match us, hl with | [_, _], _ => rfl
  have b_law_moves := F_law_moves.binds (ps := ["bag", "many", "far"]) fun _ _ _ _ _ _ us hl => match us, hl with | [_, _, _], _ => rfl
  have b_law_great := F_law_great.binds (ps := ["bag"]) fun _ _ _ _ _ _ us hl => match us, hl with | [_], _ => rfl
  have b_law_end := F_law_end.binds (ps := ["page", "start", "moves"]) fun _ _ _ _ _ _ us hl => match us, hl with | [_, _, _], _ => rfl
  have b_law_kept := F_law_kept.binds (ps := ["spot", "many", "moves"]) fun _ _ _ _ _ _ us hl => match us, hl with | [_, _, _], _ => rfl
  have b_law_right := F_law_right.binds (ps := ["told", "page", "spot", "moves", "aim"]) fun _ _ _ _ _ _ us hl => match us, hl with | [_, _, _, _, _], _ => rfl
  have b_law_read := F_law_read.binds (ps := ["moves"]) fun _ _ _ _ _ _ us hl => match us, hl with | [_], _ => rfl
  refine ⟨PySem.W.fnOf "law" "law" (defArgs s_law) (defBody s_law) (defScope s_law) .none kV_law dc_law pm_law an_law cd_law ct_law, fun s v => .of_eq rfl, fun base hb gb => ?_⟩
  have TB : TxtB K mg wo wn := {
    g_WITHOUT_NUMBER := PySem.W.mg_of X G aWO
    g_WITH_NUMBER := PySem.W.mg_of X G aWN
    tWO := fun H => .inr ⟨_, _, _, lWO, rfl, rfl, (by show 2 ≤ sizeLine; decide), .cons ⟨_, rfl⟩ (.cons ⟨_, rfl⟩ .nil)⟩
    tWN := fun H => .inr ⟨_, _, _, lWN, rfl, rfl, (by show 4 ≤ sizeLine; decide), .cons ⟨_, rfl⟩ (.cons ⟨_, rfl⟩ (.cons ⟨_, rfl⟩ (.cons ⟨_, rfl⟩ .nil)))⟩
    isinstance := PySem.W.mg_none_of X G z_isinstance
    int := PySem.W.mg_none_of X G z_int
    bool := PySem.W.mg_none_of X G z_bool
    len := PySem.W.mg_none_of X G z_len
    enumerate := PySem.W.mg_none_of X G z_enumerate
    reversed := PySem.W.mg_none_of X G z_reversed
    sorted := PySem.W.mg_none_of X G z_sorted
    max := PySem.W.mg_none_of X G z_max
    min := PySem.W.mg_none_of X G z_min }
  have TC : TxtC mg := { abs := PySem.W.mg_none_of X G z_abs, len := PySem.W.mg_none_of X G z_len, range := PySem.W.mg_none_of X G z_range, min := PySem.W.mg_none_of X G z_min, max := PySem.W.mg_none_of X G z_max, int := PySem.W.mg_none_of X G z_int, list := PySem.W.mg_none_of X G z_list }
  have TR2 : TxtR2 mg := { len := PySem.W.mg_none_of X G z_len, range := PySem.W.mg_none_of X G z_range }
  have TW : TxtW mg := { str := PySem.W.mg_none_of X G z_str, len := PySem.W.mg_none_of X G z_len, divmod := PySem.W.mg_none_of X G z_divmod }
  have C_is_count : Cal l.prog w K mg base 1 "is_count" spCount := ⟨_, _, _, ok_is_count F_is_count TB, PySem.W.mg_of X G a_is_count, k_is_count, b_is_count⟩
  have C_is_command : Cal l.prog w K mg base 2 "is_command" (spIsCmd K) := ⟨_, _, _, ok_is_command F_is_command TB C_is_count, PySem.W.mg_of X G a_is_command, k_is_command, b_is_command⟩
  have C_check_commands : Cal l.prog w K mg base 3 "check_commands" (spCheck K) := ⟨_, _, _, ok_check_commands F_check_commands TB C_is_command, PySem.W.mg_of X G a_check_commands, k_check_commands, b_check_commands⟩
  have C_row_change : Cal l.prog w K mg base 1 "row_change" (spRow K) := ⟨_, _, _, ok_row_change F_row_change, PySem.W.mg_of X G a_row_change, k_row_change, b_row_change⟩
  have C_check_text : Cal l.prog w K mg base 1 "check_text" (spText K) := ⟨_, _, _, ok_check_text F_check_text TB, PySem.W.mg_of X G a_check_text, k_check_text, b_check_text⟩
  have C_check_cursor : Cal l.prog w K mg base 1 "check_cursor" (spCursor K) := ⟨_, _, _, ok_check_cursor F_check_cursor, PySem.W.mg_of X G a_check_cursor, k_check_cursor, b_check_cursor⟩
  have C_shown_column : Cal l.prog w K mg base 1 "shown_column" spShown := ⟨_, _, _, ok_shown_column F_shown_column TB, PySem.W.mg_of X G a_shown_column, k_shown_column, b_shown_column⟩
  have C_new_goal : Cal l.prog w K mg base 2 "new_goal" (spGoal K) := ⟨_, _, _, ok_new_goal F_new_goal TB C_shown_column, PySem.W.mg_of X G a_new_goal, k_new_goal, b_new_goal⟩
  have C_moved : Cal l.prog w K mg base 3 "moved" (spMoved K) := ⟨_, _, _, ok_moved F_moved TB C_row_change C_new_goal, PySem.W.mg_of X G a_moved, k_moved, b_moved⟩
  have Z_run : Cal l.prog w K mg base 4 "run" (zRun K) := by
    rw [zRun_eq]
    exact ⟨_, _, _, ok_run F_run TB C_check_text C_check_cursor C_check_commands C_moved, PySem.W.mg_of X G a_run, k_run, b_run⟩
  have C_total_change : Cal l.prog w K mg base 1 "total_change" (spTotal K) := ⟨_, _, _, ok_total_change F_total_change, PySem.W.mg_of X G a_total_change, k_total_change, b_total_change⟩
  have C_effect : Cal l.prog w K mg base 5 "effect" (spEffect K) := ⟨_, _, _, ok_effect F_effect Z_run C_total_change, PySem.W.mg_of X G a_effect, k_effect, b_effect⟩
  have C_is_less : Cal l.prog w K mg base 1 "is_less" spLess := ⟨_, _, _, ok_is_less F_is_less, PySem.W.mg_of X G a_is_less, k_is_less, b_is_less⟩
  have TR := rd_mk (PySem.W.mg_of X G aNA) (PySem.W.mg_of X G aNB) (PySem.W.mg_of X G aMD) lNA lNB oNA oNB (PySem.W.mg_none_of X G z_int) (PySem.W.mg_none_of X G z_len) (PySem.W.mg_none_of X G z_all)
  have C_show_number : Cal l.prog w K mg base 1 "show_number" spShowN := ⟨_, _, _, ok_show_number F_show_number TW, PySem.W.mg_of X G a_show_number, k_show_number, b_show_number⟩
  have C_show_command : Cal l.prog w K mg base 2 "show_command" (spShow1 K) := ⟨_, _, _, ok_show_command F_show_command TW C_show_number, PySem.W.mg_of X G a_show_command, k_show_command, b_show_command⟩
  have C_show_commands : Cal l.prog w K mg base 3 "show_commands" (spShow K) := ⟨_, _, _, ok_show_commands F_show_commands C_show_command, PySem.W.mg_of X G a_show_commands, k_show_commands, b_show_commands⟩
  have C_is_number : Cal l.prog w K mg base 1 "is_number" (spIsNum K) := ⟨_, _, _, ok_is_number F_is_number TR, PySem.W.mg_of X G a_is_number, k_is_number, b_is_number⟩
  have C_read_command : Cal l.prog w K mg base 2 "read_command" (spRead1 K) := ⟨_, _, _, ok_read_command F_read_command TR C_is_number, PySem.W.mg_of X G a_read_command, k_read_command, b_read_command⟩
  have C_read_commands : Cal l.prog w K mg base 3 "read_commands" (spRead K) := ⟨_, _, _, ok_read_commands F_read_commands C_read_command, PySem.W.mg_of X G a_read_commands, k_read_commands, b_read_commands⟩
  have C_law_bag : Cal l.prog w K mg base 1 "_law_bag" (spBag K) := ⟨_, _, _, ok_bag F_law_bag TC, PySem.W.mg_of X G a_law_bag, k_law_bag, b_law_bag⟩
  have C_law_draw : Cal l.prog w K mg base 1 "_law_draw" spBdraw := ⟨_, _, _, ok_bdraw F_law_draw TC, PySem.W.mg_of X G a_law_draw, k_law_draw, b_law_draw⟩
  have C_law_moves : Cal l.prog w K mg base 2 "_law_moves" (spMoves K) := ⟨_, _, _, ok_moves F_law_moves TC C_law_draw, PySem.W.mg_of X G a_law_moves, k_law_moves, b_law_moves⟩
  have C_law_great : Cal l.prog w K mg base 2 "_law_great" spGreat := ⟨_, _, _, ok_great F_law_great C_law_draw, PySem.W.mg_of X G a_law_great, k_law_great, b_law_great⟩
  have C_law_kept : Cal l.prog w K mg base 1 "_law_kept" (spKept K) := ⟨_, _, _, ok_kept F_law_kept, PySem.W.mg_of X G a_law_kept, k_law_kept, b_law_kept⟩
  have C_law_read : Cal l.prog w K mg base 4 "_law_read" (spReadB K) := ⟨_, _, _, ok_readB F_law_read TR2 C_show_commands C_read_commands, PySem.W.mg_of X G a_law_read, k_law_read, b_law_read⟩
  have Z_end : Cal l.prog w K mg base 1 "_law_end" (zEnd K) := by
    rw [zEnd_eq]
    exact ⟨_, _, _, ok_end F_law_end TC, PySem.W.mg_of X G a_law_end, k_law_end, b_law_end⟩
  have Z_right : Cal l.prog w K mg base 5 "_law_right" (zRightB K) := by
    rw [zRightB_eq]
    exact ⟨_, _, _, ok_rightB F_law_right TC Z_end Z_run, PySem.W.mg_of X G a_law_right, k_law_right, b_law_right⟩
  have Z_origins : Cal l.prog w K mg base 6 "origins" (zOrigins K) := by
    rw [zOrigins_eq]
    exact ⟨_, _, _, ok_origins F_origins Z_run C_effect C_is_less, PySem.W.mg_of X G a_origins, k_origins, b_origins⟩
  exact ok_law F_law TC C_law_bag C_law_draw C_law_moves C_law_great C_law_kept Z_end C_law_read Z_right Z_origins
theorem walk {l : PySem.W.OpenLaw} {q : Program} {loose : List Str} {XP : (Str → Option Value) → Heap → Prop} {YP : World → Heap → Prop} {d : DefRec} {K : Params → PySem.W.Frag} (hn : l.most = some 63) (hdf : d.params.defaults = [])
    (hY : ∀ (w : World) (h : Heap), YP w h → (K w.params).In h)
    (F : ∀ (w : World) (mg : Str → Option Value) (fa : Addr) (h : Heap), (K w.params).In h → h.Ns mainGlobals mg → mg d.name = some (.ref fa) →
      ∃ fd : FuncData, (∀ (s : Shared) (u : Value), BindsTo s fd ⟨[u], []⟩ [("script", u)]) ∧ ∀ base : Heap, (K w.params).In base → base.Ns mainGlobals mg → FnOk l.prog w (K w.params) mg base CX0 7 fa fd ["script"] (spLaw (K w.params))) :
    PySem.W.WalkO q loose XP YP l.row.toRowW d [] (fun f vs => PySem.call f vs) :=
  L2.walk_of (n := 63) (k := 7) (x := "script") (CX := fun _ => CX0) (sp := fun w => spLaw (K w.params)) hn (by decide) hdf ⟨rfl, by decide, by decide⟩ hY F (fun _ _ a ns hl _ hS => ⟨a, ns, rfl, hS, hl, fun _ => rfl⟩) fun _ _ _ _ _ z => z
end Gc

open PySem PySem.W PyProof.Rows in
set_option maxRecDepth 100000 in
set_option maxHeartbeats 0 in
theorem PySem.Challenge.cw_goalcolumn_k26_whole_origins_on_long_tex_holds : PySem.Challenge.rw_goalcolumn_k26_whole_origins_on_long_tex.Holds := by
  w_on; o_law; k_head; (case hw => w_witness2)
  k_fill
  refine Gc.walk (l := PySem.Challenge.rw_goalcolumn_k26_whole_origins_on_long_tex) rfl rfl (fun w h Y => PySem.W.kIn_of Y) ?F
  case F =>
    intro w mg fa h KX G hmg
    refine' Gc.all_mk KX G hmg ?aWN ?aWO ?lWN ?lWO ?a_is_count ?l_is_count ?c_is_count ?k_is_count ?a_is_command ?l_is_command ?c_is_command ?k_is_command ?a_check_commands ?l_check_commands ?c_check_commands ?k_check_commands ?a_row_change ?l_row_change ?c_row_change ?k_row_change ?a_check_text ?l_check_text ?c_check_text ?k_check_text ?a_check_cursor ?l_check_cursor ?c_check_cursor ?k_check_cursor ?a_run ?l_run ?c_run ?k_run ?a_shown_column ?l_shown_column ?c_shown_column ?k_shown_column ?a_moved ?l_moved ?c_moved ?k_moved ?a_new_goal ?l_new_goal ?c_new_goal ?k_new_goal ?a_effect ?l_effect ?c_effect ?k_effect ?a_total_change ?l_total_change ?c_total_change ?k_total_change ?a_origins ?l_origins ?c_origins ?k_origins ?a_is_less ?l_is_less ?c_is_less ?k_is_less ?a_show_number ?l_show_number ?c_show_number ?k_show_number ?a_show_command ?l_show_command ?c_show_command ?k_show_command ?a_show_commands ?l_show_commands ?c_show_commands ?k_show_commands ?a_is_number ?l_is_number ?c_is_number ?k_is_number ?a_read_command ?l_read_command ?c_read_command ?k_read_command ?a_read_commands ?l_read_commands ?c_read_commands ?k_read_commands ?a_law_bag ?l_law_bag ?c_law_bag ?k_law_bag ?a_law_draw ?l_law_draw ?c_law_draw ?k_law_draw ?a_law_moves ?l_law_moves ?c_law_moves ?k_law_moves ?a_law_great ?l_law_great ?c_law_great ?k_law_great ?a_law_end ?l_law_end ?c_law_end ?k_law_end ?a_law_kept ?l_law_kept ?c_law_kept ?k_law_kept ?a_law_right ?l_law_right ?c_law_right ?k_law_right ?a_law_read ?l_law_read ?c_law_read ?k_law_read ?a_law ?l_law ?c_law ?k_law ?z_isinstance ?z_int ?z_bool ?z_len ?z_enumerate ?z_reversed ?z_sorted ?z_max ?z_min ?z_abs ?z_range ?z_list ?z_str ?z_divmod ?z_all ?aNA ?aNB ?aMD ?lNA ?lNB ?oNA ?oNB
    (case aWN => k_is)
    (case aWO => k_is)
    (case lWN => k_is)
    (case lWO => k_is)
    (case a_is_count => k_is)
    (case l_is_count => k_is)
    (case c_is_count => k_is)
    (case k_is_count => k_is)
    (case a_is_command => k_is)
    (case l_is_command => k_is)
    (case c_is_command => k_is)
    (case k_is_command => k_is)
    (case a_check_commands => k_is)
    (case l_check_commands => k_is)
    (case c_check_commands => k_is)
    (case k_check_commands => k_is)
    (case a_row_change => k_is)
    (case l_row_change => k_is)
    (case c_row_change => k_is)
    (case k_row_change => k_is)
    (case a_check_text => k_is)
    (case l_check_text => k_is)
    (case c_check_text => k_is)
    (case k_check_text => k_is)
    (case a_check_cursor => k_is)
    (case l_check_cursor => k_is)
    (case c_check_cursor => k_is)
    (case k_check_cursor => k_is)
    (case a_run => k_is)
    (case l_run => k_is)
    (case c_run => k_is)
    (case k_run => k_is)
    (case a_shown_column => k_is)
    (case l_shown_column => k_is)
    (case c_shown_column => k_is)
    (case k_shown_column => k_is)
    (case a_moved => k_is)
    (case l_moved => k_is)
    (case c_moved => k_is)
    (case k_moved => k_is)
    (case a_new_goal => k_is)
    (case l_new_goal => k_is)
    (case c_new_goal => k_is)
    (case k_new_goal => k_is)
    (case a_effect => k_is)
    (case l_effect => k_is)
    (case c_effect => k_is)
    (case k_effect => k_is)
    (case a_total_change => k_is)
    (case l_total_change => k_is)
    (case c_total_change => k_is)
    (case k_total_change => k_is)
    (case a_origins => k_is)
    (case l_origins => k_is)
    (case c_origins => k_is)
    (case k_origins => k_is)
    (case a_is_less => k_is)
    (case l_is_less => k_is)
    (case c_is_less => k_is)
    (case k_is_less => k_is)
    (case a_show_number => k_is)
    (case l_show_number => k_is)
    (case c_show_number => k_is)
    (case k_show_number => k_is)
    (case a_show_command => k_is)
    (case l_show_command => k_is)
    (case c_show_command => k_is)
    (case k_show_command => k_is)
    (case a_show_commands => k_is)
    (case l_show_commands => k_is)
    (case c_show_commands => k_is)
    (case k_show_commands => k_is)
    (case a_is_number => k_is)
    (case l_is_number => k_is)
    (case c_is_number => k_is)
    (case k_is_number => k_is)
    (case a_read_command => k_is)
    (case l_read_command => k_is)
    (case c_read_command => k_is)
    (case k_read_command => k_is)
    (case a_read_commands => k_is)
    (case l_read_commands => k_is)
    (case c_read_commands => k_is)
    (case k_read_commands => k_is)
    (case a_law_bag => k_is)
    (case l_law_bag => k_is)
    (case c_law_bag => k_is)
    (case k_law_bag => k_is)
    (case a_law_draw => k_is)
    (case l_law_draw => k_is)
    (case c_law_draw => k_is)
    (case k_law_draw => k_is)
    (case a_law_moves => k_is)
    (case l_law_moves => k_is)
    (case c_law_moves => k_is)
    (case k_law_moves => k_is)
    (case a_law_great => k_is)
    (case l_law_great => k_is)
    (case c_law_great => k_is)
    (case k_law_great => k_is)
    (case a_law_end => k_is)
    (case l_law_end => k_is)
    (case c_law_end => k_is)
    (case k_law_end => k_is)
    (case a_law_kept => k_is)
    (case l_law_kept => k_is)
    (case c_law_kept => k_is)
    (case k_law_kept => k_is)
    (case a_law_right => k_is)
    (case l_law_right => k_is)
    (case c_law_right => k_is)
    (case k_law_right => k_is)
    (case a_law_read => k_is)
    (case l_law_read => k_is)
    (case c_law_read => k_is)
    (case k_law_read => k_is)
    (case a_law => k_is)
    (case l_law => k_is)
    (case c_law => k_is)
    (case k_law => k_is)
    (case z_isinstance => k_is)
    (case z_int => k_is)
    (case z_bool => k_is)
    (case z_len => k_is)
    (case z_enumerate => k_is)
    (case z_reversed => k_is)
    (case z_sorted => k_is)
    (case z_max => k_is)
    (case z_min => k_is)
    (case z_abs => k_is)
    (case z_range => k_is)
    (case z_list => k_is)
    (case z_str => k_is)
    (case z_divmod => k_is)
    (case z_all => k_is)
    (case aNA => k_is)
    (case aNB => k_is)
    (case aMD => k_is)
    (case lNA => k_is)
    (case lNB => k_is)
    (case oNA => rfl)
    (case oNB => rfl)
