import PyProof.Rows.All
import Wide.All
import OpenK.AllK
import Wide.FinOn
import HandS.ForMost
import HandS.TupAny
import HandS.SortInts
import HandS.Deep
import HandS.IsInst
import HandS.Strs
import HandS.TupSets
import HandS.Star
import HandS.WordsExc
import HandS.Zip
import HandS.MakeKwOnly
import HandS.Defaults
import OpenK.KOps
import HandS.Style
import KE.SortData
import HandS.NoneIn
import HandS.Codes
import HandS.Zip0
import PyProof.Draws
import PyProof.EnumMake
import PySem.Challenge.RW_tagwebs_k01_ties_there_and_back
set_option Elab.async false
set_option linter.all false
set_option maxRecDepth 100000
set_option autoImplicit false
/-! Tw, part A: data without the heap, how it lies in the abstract heap, the slots of a def. -/
namespace Tw
open PySem PySem.Spec L2

/-- data: what a value is worth, whatever its address -/
inductive D where
  | non | bl (b : Bool) | int (i : Int) | str (x : Str)
  | tup (xs : List D) | lst (xs : List D) | fls (xs : List D) | xtp (xs : List D)
  | obj (C : Addr) (fs : List (Str × D))
  | dK (kvs : List (Key × D)) | dT (kvs : List (List Key × D))

section
variable (K : PySem.W.Frag) (G : Hp)
mutual
/-- the data d stands at the value v, all of its objects within the part G of the heap, which does not change -/
inductive Rp : D → V → Prop
  | non : Rp .non .non
  | bl (b : Bool) : Rp (.bl b) (.bl b)
  | int (i : Int) : Rp (.int i) (.int i)
  | str (x : Str) : Rp (.str x) (.str x)
  | tup {a : Addr} {vs : List V} {ds : List D} : SqT K G a vs → Rps ds vs → Rp (.tup ds) (.ref a)
  | xtp {a : Addr} {vs : List V} {ds : List D} {o : Obj} : G a = some (.frz o (.tup vs)) → o.cls = .type "tuple" → o.dict = none → Rps ds vs → Rp (.xtp ds) (.ref a)
  | lst {a : Addr} {vs : List V} {ds : List D} : G a = some (.lst vs) → Rps ds vs → Rp (.lst ds) (.ref a)
  | fls {a : Addr} {vs : List V} {ds : List D} : SqL K G a vs → Rps ds vs → Rp (.fls ds) (.ref a)
  | obj {a C dx : Addr} {vf : List (Str × V)} {fs : List (Str × D)} : G a = some (.ins C dx vf) → Rfs fs vf → Rp (.obj C fs) (.ref a)
  | dK {a : Addr} {vk : List (Key × V)} {kvs : List (Key × D)} : G a = some (.dK vk) → Rks kvs vk → Rp (.dK kvs) (.ref a)
  | dT {a : Addr} {vk : List (List Key × V)} {kvs : List (List Key × D)} : G a = some (.dT vk) → Rts kvs vk → Rp (.dT kvs) (.ref a)
inductive Rps : List D → List V → Prop
  | nil : Rps [] []
  | cons {d : D} {v : V} {ds : List D} {vs : List V} : Rp d v → Rps ds vs → Rps (d :: ds) (v :: vs)
inductive Rfs : List (Str × D) → List (Str × V) → Prop
  | nil : Rfs [] []
  | cons {f : Str} {d : D} {v : V} {ds : List (Str × D)} {vs : List (Str × V)} : Rp d v → Rfs ds vs → Rfs ((f, d) :: ds) ((f, v) :: vs)
inductive Rks : List (Key × D) → List (Key × V) → Prop
  | nil : Rks [] []
  | cons {f : Key} {d : D} {v : V} {ds : List (Key × D)} {vs : List (Key × V)} : Rp d v → Rks ds vs → Rks ((f, d) :: ds) ((f, v) :: vs)
inductive Rts : List (List Key × D) → List (List Key × V) → Prop
  | nil : Rts [] []
  | cons {f : List Key} {d : D} {v : V} {ds : List (List Key × D)} {vs : List (List Key × V)} : Rp d v → Rts ds vs → Rts ((f, d) :: ds) ((f, v) :: vs)
end
end

section
variable {K : PySem.W.Frag} {G G' : Hp}
theorem sqT_mono {a : Addr} {xs : List V} (e : Same G G') (h : SqT K G a xs) : SqT K G' a xs := by
  rcases h with (h | ⟨o, h⟩) | h
  · exact .inl (.inl (e _ _ h))
  · exact .inl (.inr ⟨o, e _ _ h⟩)
  · exact .inr h
mutual
theorem Rp.mono (e : Same G G') : ∀ {d : D} {v : V}, Rp K G d v → Rp K G' d v
  | _, _, .non => .non
  | _, _, .bl b => .bl b
  | _, _, .int i => .int i
  | _, _, .str x => .str x
  | _, _, .tup h r => .tup (sqT_mono e h) (Rps.mono e r)
  | _, _, .xtp h c n r => .xtp (e _ _ h) c n (Rps.mono e r)
  | _, _, .lst h r => .lst (e _ _ h) (Rps.mono e r)
  | _, _, .fls h r => .fls (e.seq h) (Rps.mono e r)
  | _, _, .obj h r => .obj (e _ _ h) (Rfs.mono e r)
  | _, _, .dK h r => .dK (e _ _ h) (Rks.mono e r)
  | _, _, .dT h r => .dT (e _ _ h) (Rts.mono e r)
theorem Rps.mono (e : Same G G') : ∀ {d : List D} {v : List V}, Rps K G d v → Rps K G' d v
  | _, _, .nil => .nil
  | _, _, .cons h r => .cons (Rp.mono e h) (Rps.mono e r)
theorem Rfs.mono (e : Same G G') : ∀ {d : List (Str × D)} {v : List (Str × V)}, Rfs K G d v → Rfs K G' d v
  | _, _, .nil => .nil
  | _, _, .cons h r => .cons (Rp.mono e h) (Rfs.mono e r)
theorem Rks.mono (e : Same G G') : ∀ {d : List (Key × D)} {v : List (Key × V)}, Rks K G d v → Rks K G' d v
  | _, _, .nil => .nil
  | _, _, .cons h r => .cons (Rp.mono e h) (Rks.mono e r)
theorem Rts.mono (e : Same G G') : ∀ {d : List (List Key × D)} {v : List (List Key × V)}, Rts K G d v → Rts K G' d v
  | _, _, .nil => .nil
  | _, _, .cons h r => .cons (Rp.mono e h) (Rts.mono e r)
end
theorem Rps.length : ∀ {ds : List D} {vs : List V}, Rps K G ds vs → ds.length = vs.length
  | _, _, .nil => rfl
  | _, _, .cons _ r => congrArg (· + 1) (Rps.length r)
theorem Rps.append : ∀ {ds es : List D} {vs ws : List V}, Rps K G ds vs → Rps K G es ws → Rps K G (ds ++ es) (vs ++ ws)
  | _, _, _, _, .nil, q => q
  | _, _, _, _, .cons h r, q => .cons h (Rps.append r q)
theorem Rps.get : ∀ {ds : List D} {vs : List V} {i : Nat} {d : D}, Rps K G ds vs → ds[i]? = some d → ∃ v, vs[i]? = some v ∧ Rp K G d v
  | _, _, _, _, .nil, e => by simp at e
  | _, _, 0, _, .cons h _, e => by simp at e; subst e; exact ⟨_, rfl, h⟩
  | _, _, i + 1, d, .cons _ r, e => by
    obtain ⟨v, h1, h2⟩ := Rps.get (i := i) (d := d) r (by simpa using e)
    exact ⟨v, by simpa using h1, h2⟩
theorem Rps.get' : ∀ {ds : List D} {vs : List V} {i : Nat} {v : V}, Rps K G ds vs → vs[i]? = some v → ∃ d, ds[i]? = some d ∧ Rp K G d v
  | _, _, _, _, .nil, e => by simp at e
  | _, _, 0, _, .cons h _, e => by simp at e; subst e; exact ⟨_, rfl, h⟩
  | _, _, i + 1, v, .cons _ r, e => by
    obtain ⟨d, h1, h2⟩ := Rps.get' (i := i) (v := v) r (by simpa using e)
    exact ⟨d, by simpa using h1, h2⟩
theorem Rps.take : ∀ {ds : List D} {vs : List V} (n : Nat), Rps K G ds vs → Rps K G (ds.take n) (vs.take n)
  | _, _, 0, _ => .nil
  | _, _, _ + 1, .nil => .nil
  | _, _, n + 1, .cons h r => .cons h (Rps.take n r)
theorem Rps.drop : ∀ {ds : List D} {vs : List V} (n : Nat), Rps K G ds vs → Rps K G (ds.drop n) (vs.drop n)
  | _, _, 0, r => r
  | _, _, _ + 1, .nil => .nil
  | _, _, n + 1, .cons _ r => Rps.drop n r
theorem Rps.set {d : D} {v : V} (h : Rp K G d v) : ∀ {ds : List D} {vs : List V} (i : Nat), Rps K G ds vs → Rps K G (ds.set i d) (vs.set i v)
  | _, _, _, .nil => .nil
  | _, _, 0, .cons _ r => .cons h r
  | _, _, i + 1, .cons q r => .cons q (Rps.set h i r)
theorem Rps.rev {ds : List D} {vs : List V} (r : Rps K G ds vs) : Rps K G ds.reverse vs.reverse := by
  have go : ∀ {ds : List D} {vs : List V}, Rps K G ds vs → Rps K G ds.reverse vs.reverse := by
    intro ds
    induction ds with
    | nil => intro vs h; cases h; exact .nil
    | cons d ds ih => intro vs h; cases h with | cons h r => simp only [List.reverse_cons]; exact (ih r).append (.cons h .nil)
  exact go r
theorem Rfs.look : ∀ {fs : List (Str × D)} {vf : List (Str × V)} {f : Str} {d : D}, Rfs K G fs vf → fs.lookup f = some d → ∃ v, vf.lookup f = some v ∧ Rp K G d v
  | _, _, _, _, .nil, e => by simp at e
  | _, _, f, d, .cons (f := g) h r, e => by
    simp only [List.lookup_cons] at e ⊢
    cases q : f == g with
    | true => rw [q] at e; simp at e; subst e; exact ⟨_, rfl, h⟩
    | false => rw [q] at e; exact Rfs.look r e
theorem Rfs.lookN : ∀ {fs : List (Str × D)} {vf : List (Str × V)} {f : Str}, Rfs K G fs vf → fs.lookup f = none → vf.lookup f = none
  | _, _, _, .nil, e => rfl
  | _, _, f, .cons (f := g) h r, e => by
    simp only [List.lookup_cons] at e ⊢
    cases q : f == g with
    | true => rw [q] at e; cases e
    | false => rw [q] at e; exact Rfs.lookN r e
theorem Rfs.length : ∀ {ds : List (Str × D)} {vs : List (Str × V)}, Rfs K G ds vs → ds.length = vs.length
  | _, _, .nil => rfl
  | _, _, .cons _ r => congrArg (· + 1) (Rfs.length r)
/-- an attribute stored, in data -/
def putD (f : Str) (d : D) : List (Str × D) → List (Str × D)
  | [] => [(f, d)]
  | (g, e) :: r => if g = f then (g, d) :: r else (g, e) :: putD f d r
end

/-- what an object of one's own is, its parts within G -/
def Top (K : PySem.W.Frag) (G : Hp) : D → HO → Prop
  | .lst ds, .lst vs => Rps K G ds vs
  | .dK kvs, .dK vk => Rks K G kvs vk
  | .dT kvs, .dT vk => Rts K G kvs vk
  | _, _ => False
theorem Top.mono {K : PySem.W.Frag} {G G' : Hp} (e : Same G G') {d : D} {o : HO} (h : Top K G d o) : Top K G' d o := by
  cases d <;> cases o <;> first | exact h.elim | skip
  · exact Rps.mono e h
  · exact Rks.mono e h
  · exact Rts.mono e h
theorem Top.rp {K : PySem.W.Frag} {G : Hp} {d : D} {o : HO} {a : Addr} (h : Top K G d o) (ha : G a = some o) : Rp K G d (.ref a) := by
  cases d <;> cases o <;> first | exact h.elim | skip
  · exact .lst ha h
  · exact .dK ha h
  · exact .dT ha h

/-- a slot: nothing known, data, an object of the def's own that it may change -/
inductive Sl where
  | no | da (d : D) | ow (d : D) | se (a C : Addr) (fs : List (Str × D))
abbrev Evn := List Sl

/-- how things go on: G the unchanging part, H the heap; objects that stood outside of G stay outside -/
structure Ext (G H G' H' : Hp) : Prop where
  gg : Same G G'
  hh : Same H H'
  gh : Same G' H'
  gn : ∀ a, H a ≠ none → G a = none → G' a = none
theorem Ext.refl {G H : Hp} (h : Same G H) : Ext G H G H := ⟨Same.refl _, Same.refl _, h, fun _ _ q => q⟩
theorem Same.nn {H H' : Hp} (e : Same H H') {a : Addr} (h : H a ≠ none) : H' a ≠ none := by
  cases q : H a with
  | none => exact absurd q h
  | some o => rw [e _ _ q]; simp
theorem Ext.trans {G H G1 H1 G2 H2 : Hp} (a : Ext G H G1 H1) (b : Ext G1 H1 G2 H2) : Ext G H G2 H2 :=
  ⟨a.gg.trans b.gg, a.hh.trans b.hh, b.gh, fun c h q => b.gn c (Same.nn a.hh h) (a.gn c h q)⟩
theorem same_upd {H : Hp} {p : Addr} {o : HO} (h : H p = none) : Same H (upd H p o) := fun b u e => by
  rw [upd_ne (ne_of_none e h)]; exact e
/-- a new object, laid and never changed -/
theorem Ext.new {G H : Hp} (h : Same G H) {p : Addr} {o : HO} (hp : H p = none) : Ext G H (upd G p o) (upd H p o) := by
  have gp : G p = none := h.free hp
  refine ⟨same_upd gp, same_upd hp, fun b u e => ?_, fun a ha q => ?_⟩
  · by_cases hb : b = p
    · subst hb; rw [upd_same] at e ⊢; exact e
    · rw [upd_ne hb] at e ⊢; exact h _ _ e
  · rw [upd_ne (fun z => ha (by rw [z]; exact hp))]; exact q
/-- a new object, of one's own -/
theorem Ext.newH {G H : Hp} (h : Same G H) {p : Addr} {o : HO} (hp : H p = none) : Ext G H G (upd H p o) :=
  ⟨Same.refl _, same_upd hp, h.trans (same_upd hp), fun _ _ q => q⟩

def SlotR (K : PySem.W.Frag) (G H H0 : Hp) : Sl → Option (Option V) → Prop
  | .no, _ => True
  | .da d, x => ∃ v, x = some (some v) ∧ Rp K G d v
  | .ow d, x => ∃ a o, x = some (some (.ref a)) ∧ H a = some o ∧ Top K G d o ∧ G a = none ∧ H0 a = none
  | .se a C fs, x => x = some (some (.ref a)) ∧ ∃ dx vf, H a = some (.ins C dx vf) ∧ Rfs K G fs vf ∧ G a = none ∧ H0 a = none
theorem Top.noIns {K : PySem.W.Frag} {G : Hp} {d : D} {C dx : Addr} {vf : List (Str × V)} (t : Top K G d (.ins C dx vf)) : False := by
  cases d <;> exact t

/-- the slots ρ in data, σ by values; G0, H0: what stood at the def's entry -/
structure Rel (K : PySem.W.Frag) (G0 H0 G : Hp) (ρ : Evn) (σ : St) (H : Hp) : Prop where
  len : ρ.length = σ.length
  gh : Same G H
  g0 : Same G0 G
  h0 : Same H0 H
  gn : ∀ a, H0 a ≠ none → G0 a = none → G a = none
  sl : ∀ (i : Nat) (s : Sl), ρ[i]? = some s → SlotR K G H H0 s σ[i]?
  dj : ∀ (i j : Nat) (d e : D) (a : Addr), ρ[i]? = some (.ow d) → ρ[j]? = some (.ow e) → σ[i]? = some (some (.ref a)) → σ[j]? = some (some (.ref a)) → i = j
section
variable {K : PySem.W.Frag} {G0 H0 G G' H H' : Hp} {ρ : Evn} {σ : St}
theorem Rel.ext (R : Rel K G0 H0 G ρ σ H) (e : Ext G H G' H') : Rel K G0 H0 G' ρ σ H' := by
  refine ⟨R.len, e.gh, R.g0.trans e.gg, R.h0.trans e.hh, fun a h q => e.gn a (Same.nn R.h0 h) (R.gn a h q), fun i s hs => ?_, R.dj⟩
  have q := R.sl i s hs
  cases s with
  | no => trivial
  | da d => obtain ⟨v, e1, r⟩ := q; exact ⟨v, e1, r.mono e.gg⟩
  | ow d =>
    obtain ⟨a, o, e1, e2, t, g, z⟩ := q
    exact ⟨a, o, e1, e.hh _ _ e2, t.mono e.gg, e.gn a (by rw [e2]; simp) g, z⟩
  | se a C fs =>
    obtain ⟨e1, dx, vf, e2, t, g, z⟩ := q
    exact ⟨e1, dx, vf, e.hh _ _ e2, t.mono e.gg, e.gn a (by rw [e2]; simp) g, z⟩
theorem Rel.start {vs : List V} {ds : List D} {N : List Str} (h : Same G H) (r : Rps K G ds vs) :
    Rel K G H G (ds.map .da ++ List.replicate (N.length - ds.length) .no) (L2.start N vs) H := by
  have hl := r.length
  refine ⟨by simp [L2.start, hl], h, Same.refl _, Same.refl _, fun _ _ q => q, fun i s hs => ?_, fun i j d e a hi hj _ _ => ?_⟩
  · unfold L2.start
    by_cases hi : i < ds.length
    · rw [List.getElem?_append_left (by simpa using hi), List.getElem?_map] at hs
      rw [List.getElem?_append_left (by simp; omega), List.getElem?_map]
      rw [List.getElem?_eq_getElem hi] at hs
      simp at hs; subst hs
      obtain ⟨v, e, q⟩ := r.get (List.getElem?_eq_getElem hi)
      exact ⟨v, by rw [e]; rfl, q⟩
    · rw [List.getElem?_append_right (by simp; omega)] at hs
      rw [List.getElem?_replicate] at hs
      split at hs
      · cases hs; trivial
      · cases hs
  · exfalso
    rcases List.getElem?_eq_some_iff.mp hi with ⟨hl, he⟩
    have hm : Sl.ow d ∈ ds.map Sl.da ++ List.replicate (N.length - ds.length) Sl.no := by rw [← he]; exact List.getElem_mem hl
    simp at hm
/-- a slot stored with data -/
theorem Rel.set {i : Nat} {d : D} {v : V} (R : Rel K G0 H0 G ρ σ H) (r : Rp K G d v) : Rel K G0 H0 G (ρ.set i (.da d)) (σ.set i (some v)) H := by
  refine ⟨by simp [R.len], R.gh, R.g0, R.h0, R.gn, fun j s hs => ?_, fun j k d' e a hj hk h1 h2 => ?_⟩
  · by_cases hj : j = i
    · subst hj
      have hlt : j < ρ.length := by
        rcases List.getElem?_eq_some_iff.mp hs with ⟨hl, _⟩; simpa using hl
      rw [List.getElem?_set_self hlt] at hs
      cases hs
      rw [List.getElem?_set_self (by rw [← R.len]; exact hlt)]
      exact ⟨v, rfl, r⟩
    · rw [List.getElem?_set_ne (Ne.symm hj)] at hs ⊢
      exact R.sl j s hs
  · have nj : j ≠ i := fun z => by
      subst z
      rcases List.getElem?_eq_some_iff.mp hj with ⟨hl, he⟩
      simp at he
    have nk : k ≠ i := fun z => by
      subst z
      rcases List.getElem?_eq_some_iff.mp hk with ⟨hl, he⟩
      simp at he
    rw [List.getElem?_set_ne (Ne.symm nj)] at hj h1
    rw [List.getElem?_set_ne (Ne.symm nk)] at hk h2
    exact R.dj j k d' e a hj hk h1 h2
/-- .. with an object of one's own, that is in no slot yet -/
theorem Rel.setO {i : Nat} {d : D} {a : Addr} {o : HO} (R : Rel K G0 H0 G ρ σ H) (ha : H a = some o) (t : Top K G d o) (ga : G a = none) (ha0 : H0 a = none)
    (nw : ∀ (j : Nat) (e : D), ρ[j]? = some (.ow e) → σ[j]? ≠ some (some (.ref a))) : Rel K G0 H0 G (ρ.set i (.ow d)) (σ.set i (some (.ref a))) H := by
  refine ⟨by simp [R.len], R.gh, R.g0, R.h0, R.gn, fun j s hs => ?_, fun j k d' e b hj hk h1 h2 => ?_⟩
  · by_cases hj : j = i
    · subst hj
      have hlt : j < ρ.length := by
        rcases List.getElem?_eq_some_iff.mp hs with ⟨hl, _⟩; simpa using hl
      rw [List.getElem?_set_self hlt] at hs
      cases hs
      rw [List.getElem?_set_self (by rw [← R.len]; exact hlt)]
      exact ⟨a, o, rfl, ha, t, ga, ha0⟩
    · rw [List.getElem?_set_ne (Ne.symm hj)] at hs ⊢
      exact R.sl j s hs
  · by_cases nj : j = i
    · by_cases nk : k = i
      · rw [nj, nk]
      · exfalso
        subst nj
        rw [List.getElem?_set_ne (Ne.symm nk)] at hk h2
        have hlt : j < σ.length := by
          rcases List.getElem?_eq_some_iff.mp h1 with ⟨hl, _⟩; simpa using hl
        rw [List.getElem?_set_self hlt] at h1
        cases h1
        exact nw k e hk h2
    · rw [List.getElem?_set_ne (Ne.symm nj)] at hj h1
      by_cases nk : k = i
      · exfalso
        subst nk
        have hlt : k < σ.length := by
          rcases List.getElem?_eq_some_iff.mp h2 with ⟨hl, _⟩; simpa using hl
        rw [List.getElem?_set_self hlt] at h2
        cases h2
        exact nw j d' hj h1
      · rw [List.getElem?_set_ne (Ne.symm nk)] at hk h2
        exact R.dj j k d' e b hj hk h1 h2
/-- an own object changed -/
theorem Rel.chg {i : Nat} {d d' : D} {a : Addr} {o' : HO} (R : Rel K G0 H0 G ρ σ H) (hi : ρ[i]? = some (.ow d)) (hs : σ[i]? = some (some (.ref a))) (t : Top K G d' o') :
    Rel K G0 H0 G (ρ.set i (.ow d')) σ (upd H a o') := by
  obtain ⟨a', o, e1, e2, t0, ga, ha0⟩ := R.sl i _ hi
  rw [hs] at e1
  cases e1
  have hlt : i < ρ.length := (List.getElem?_eq_some_iff.mp hi).1
  refine ⟨by simpa using R.len, fun b u e => ?_, R.g0, fun b u e => ?_, R.gn, fun j s hj => ?_, fun j k x y b hj hk h1 h2 => ?_⟩
  · rw [upd_ne (fun z => by subst z; rw [ga] at e; cases e)]; exact R.gh _ _ e
  · rw [upd_ne (fun z => by subst z; rw [ha0] at e; cases e)]; exact R.h0 _ _ e
  · by_cases hji : j = i
    · subst hji
      rw [List.getElem?_set_self hlt] at hj
      cases hj
      exact ⟨a, o', hs, upd_same, t, ga, ha0⟩
    · rw [List.getElem?_set_ne (Ne.symm hji)] at hj
      have q := R.sl j s hj
      cases s with
      | no => trivial
      | da x => exact q
      | ow x =>
        obtain ⟨b, u, f1, f2, f3, f4, f5⟩ := q
        refine ⟨b, u, f1, ?_, f3, f4, f5⟩
        rw [upd_ne (fun z => by subst z; exact hji (R.dj j i x d b hj hi f1 hs))]
        exact f2
      | se b C fs =>
        obtain ⟨f1, dx, vf, f2, f3⟩ := q
        refine ⟨f1, dx, vf, ?_, f3⟩
        rw [upd_ne (fun z => by subst z; rw [e2] at f2; cases f2; exact t0.noIns)]
        exact f2
  · have go : ∀ {j : Nat} {x : D}, (ρ.set i (.ow d'))[j]? = some (.ow x) → ∃ x', ρ[j]? = some (.ow x') := fun {j x} h => by
      by_cases hji : j = i
      · subst hji; exact ⟨d, hi⟩
      · rw [List.getElem?_set_ne (Ne.symm hji)] at h; exact ⟨x, h⟩
    obtain ⟨x', hx⟩ := go hj
    obtain ⟨y', hy⟩ := go hk
    exact R.dj j k x' y' b hx hy h1 h2
/-- an own object is from now on never changed -/
theorem Rel.frz {i : Nat} {d : D} (R : Rel K G0 H0 G ρ σ H) (hi : ρ[i]? = some (.ow d)) : ∃ G', Same G G' ∧ Rel K G0 H0 G' (ρ.set i (.da d)) σ H := by
  obtain ⟨a, o, e1, e2, t, ga, ha0⟩ := R.sl i _ hi
  have gg : Same G (upd G a o) := same_upd ga
  have hlt : i < ρ.length := (List.getElem?_eq_some_iff.mp hi).1
  refine ⟨upd G a o, gg, ⟨by simpa using R.len, fun b u e => ?_, R.g0.trans gg, R.h0, fun b h q => ?_, fun j s hj => ?_, fun j k x y b hj hk h1 h2 => ?_⟩⟩
  · by_cases hb : b = a
    · subst hb; rw [upd_same] at e; cases e; exact e2
    · rw [upd_ne hb] at e; exact R.gh _ _ e
  · rw [upd_ne (fun z => by subst z; exact h ha0)]; exact R.gn b h q
  · by_cases hji : j = i
    · subst hji
      rw [List.getElem?_set_self hlt] at hj
      cases hj
      exact ⟨.ref a, e1, (t.mono gg).rp upd_same⟩
    · rw [List.getElem?_set_ne (Ne.symm hji)] at hj
      have q := R.sl j s hj
      cases s with
      | no => trivial
      | da x => obtain ⟨v, f1, f2⟩ := q; exact ⟨v, f1, f2.mono gg⟩
      | ow x =>
        obtain ⟨b, u, f1, f2, f3, f4, f5⟩ := q
        refine ⟨b, u, f1, f2, f3.mono gg, ?_, f5⟩
        rw [upd_ne (fun z => by subst z; exact hji (R.dj j i x d b hj hi f1 e1))]
        exact f4
      | se b C fs =>
        obtain ⟨f1, dx, vf, f2, f3, f4, f5⟩ := q
        refine ⟨f1, dx, vf, f2, f3.mono gg, ?_, f5⟩
        rw [upd_ne (fun z => by subst z; rw [e2] at f2; cases f2; exact t.noIns)]
        exact f4
  · have go : ∀ {j : Nat} {x : D}, (ρ.set i (.da d))[j]? = some (.ow x) → ρ[j]? = some (.ow x) := fun {j x} h => by
      by_cases hji : j = i
      · subst hji; rw [List.getElem?_set_self hlt] at h; cases h
      · rw [List.getElem?_set_ne (Ne.symm hji)] at h; exact h
    exact R.dj j k x y b (go hj) (go hk) h1 h2
/-- slots forgotten -/
theorem Rel.wipe (R : Rel K G0 H0 G ρ σ H) : ∀ vs : List Nat, ∃ ρ', ρ' = vs.foldr (fun v r => r.set v .no) ρ ∧ Rel K G0 H0 G ρ' (L2.wipe σ vs) H
  | [] => ⟨ρ, rfl, R⟩
  | v :: vs => by
    obtain ⟨ρ', e, R'⟩ := Rel.wipe R vs
    refine ⟨ρ'.set v .no, by rw [List.foldr_cons, ← e], ?_⟩
    have go : ∀ {j : Nat} {s : Sl}, (ρ'.set v .no)[j]? = some s → s = .no ∨ (j ≠ v ∧ ρ'[j]? = some s) := fun {j s} h => by
      by_cases hj : j = v
      · subst hj
        have hlt : j < ρ'.length := by
          rcases List.getElem?_eq_some_iff.mp h with ⟨hl, _⟩; simpa using hl
        rw [List.getElem?_set_self hlt] at h; cases h; exact .inl rfl
      · rw [List.getElem?_set_ne (Ne.symm hj)] at h; exact .inr ⟨hj, h⟩
    have ws : ∀ {j : Nat}, j ≠ v → (L2.wipe σ (v :: vs))[j]? = (L2.wipe σ vs)[j]? := fun {j} h => by
      show ((L2.wipe σ vs).set v none)[j]? = _
      rw [List.getElem?_set_ne (Ne.symm h)]
    refine ⟨by show _ = ((L2.wipe σ vs).set v none).length; simpa using R'.len, R'.gh, R'.g0, R'.h0, R'.gn, fun j s hj => ?_, fun j k x y b hj hk h1 h2 => ?_⟩
    · rcases go hj with rfl | ⟨n, h⟩
      · trivial
      · rw [ws n]; exact R'.sl j s h
    · rcases go hj with z | ⟨n, h⟩
      · cases z
      · rcases go hk with z | ⟨n', h'⟩
        · cases z
        · rw [ws n] at h1
          rw [ws n'] at h2
          exact R'.dj j k x y b h h' h1 h2
end
end Tw

/-! Tw, part B: expressions, by what they are worth in data. -/
namespace Tw
open PySem PySem.Spec L2

/-- an exception that leaves the def: its class, its fields -/
abbrev XC := Addr → List (Str × D) → Prop
def TieX (K : PySem.W.Frag) (G0 H0 : Hp) (E : XK) (xc : XC) : Prop :=
  ∀ (C : Addr) (fs : List (Str × D)) (G' H' : Hp) (dx : Option Addr), Ext G0 H0 G' H' →
    (match dx with | some p => H0 p = none ∧ ∃ vf, H' p = some (.xd vf) ∧ Rfs K G' fs vf | none => fs = []) → xc C fs → E (.ref C) dx H'

/-- how a value is held: e: for good; o: as it stands (perhaps one's own); f: a new object, one's own -/
inductive Kd where
  | e | o | f
def RvO (K : PySem.W.Frag) (G H : Hp) (d : D) (v : V) : Prop := Rp K G d v ∨ ∃ a o, v = .ref a ∧ H a = some o ∧ Top K G d o
def RvF (K : PySem.W.Frag) (H G' H' : Hp) (d : D) (v : V) : Prop := ∃ a o, v = .ref a ∧ H a = none ∧ H' a = some o ∧ Top K G' d o ∧ G' a = none
def RvK (K : PySem.W.Frag) : Kd → Hp → Hp → Hp → D → V → Prop
  | .e, _, G', _, d, v => Rp K G' d v
  | .o, _, G', H', d, v => RvO K G' H' d v
  | .f, H, G', H', d, v => RvF K H G' H' d v
section
variable {K : PySem.W.Frag} {G H G' H' : Hp} {d : D} {v : V} {k : Kd}
theorem RvK.o (h : RvK K k H G' H' d v) : RvO K G' H' d v := by
  cases k with
  | e => exact .inl h
  | o => exact h
  | f => obtain ⟨a, o, e1, _, e2, t, _⟩ := h; exact .inr ⟨a, o, e1, e2, t⟩
theorem RvO.ext (x : Ext G H G' H') (h : RvO K G H d v) : RvO K G' H' d v := by
  rcases h with h | ⟨a, o, e, e2, t⟩
  · exact .inl (h.mono x.gg)
  · exact .inr ⟨a, o, e, x.hh _ _ e2, t.mono x.gg⟩
/-- a new object, held for good from now on -/
theorem RvF.frz (x : Ext G H G' H') (h : RvF K H G' H' d v) : ∃ G2, Ext G H G2 H' ∧ Rp K G2 d v := by
  obtain ⟨a, o, rfl, h1, h2, t, g⟩ := h
  have gg : Same G' (upd G' a o) := same_upd g
  refine ⟨upd G' a o, ⟨x.gg.trans gg, x.hh, fun b u e => ?_, fun b hb q => ?_⟩, (t.mono gg).rp upd_same⟩
  · by_cases z : b = a
    · subst z; rw [upd_same] at e; cases e; exact h2
    · rw [upd_ne z] at e; exact x.gh _ _ e
  · rw [upd_ne (fun z => hb (by rw [z]; exact h1))]
    exact x.gn b hb q
end

abbrev Wx := XC → Evn → (D → Prop) → Prop
def liftW (K : PySem.W.Frag) (E : XK) (k : Kd) (w : Wx) : TE := fun σ H Q => ∃ G0 H0 G ρ xc, Rel K G0 H0 G ρ σ H ∧ TieX K G0 H0 E xc ∧ w xc ρ fun d => ∀ G' H' v, Ext G H G' H' → RvK K k H G' H' d v → Q v H'
/-- the expression e is worth what w says -/
structure EJ (k : Kd) (E : XK) (X : Cx) (e : Expr) (w : Wx) : Prop where
  pe : PE X e (liftW X.K E k w)
  mo : ∀ xc ρ (Q Q' : D → Prop), (∀ d, Q d → Q' d) → w xc ρ Q → w xc ρ Q'
theorem _root_.L2.PE.imp {X : Cx} {e : Expr} {t t' : TE} (h : PE X e t) (i : ∀ σ H Q, t' σ H Q → t σ H Q) : PE X e t' := ⟨fun pins s σ H Q I q => h.run pins s σ H Q I (i _ _ _ q)⟩
theorem _root_.L2.PA.imp {X : Cx} {e : List Expr} {t t' : TA} (h : PA X e t) (i : ∀ σ H Q, t' σ H Q → t σ H Q) : PA X e t' := ⟨fun p pins s σ H Q I q => h.run p pins s σ H Q I (i _ _ _ q)⟩
theorem _root_.L2.PT.imp {X : Cx} {e : Expr} {t t' : TT} (h : PT X e t) (i : ∀ σ H Q, t' σ H Q → t σ H Q) : PT X e t' := ⟨fun pins s σ H Q I q => h.run pins s σ H Q I (i _ _ _ q)⟩
theorem _root_.L2.PS.imp {X : Cx} {e : Stmt} {t t' : TS} (h : PS X e t) (i : ∀ D σ H, t' D σ H → t D σ H) : PS X e t' := ⟨fun pins s σ H D I q => h.run pins s σ H D I (i _ _ _ q)⟩
theorem _root_.L2.PSs.imp {X : Cx} {e : List Stmt} {t t' : TS} (h : PSs X e t) (i : ∀ D σ H, t' D σ H → t D σ H) : PSs X e t' := ⟨fun pins s σ H D I q => h.run pins s σ H D I (i _ _ _ q)⟩

section
variable {X : Cx} {E : XK} {e a b c : Expr} {w wa wb wc : Wx} {k ka kb : Kd} {pos : Pos}
theorem EJ.toE (h : EJ .f E X e w) : EJ .e E X e w := by
  refine ⟨h.pe.imp fun σ H Q ⟨G0, H0, G, ρ, xc, R, T, q⟩ => ⟨G0, H0, G, ρ, xc, R, T, h.mo _ _ _ _ (fun d hd G' H' v x r => ?_) q⟩, h.mo⟩
  obtain ⟨G2, x2, r2⟩ := RvF.frz x r
  exact hd G2 H' v x2 r2
theorem EJ.toO (h : EJ k E X e w) : EJ .o E X e w :=
  ⟨h.pe.imp fun σ H Q ⟨G0, H0, G, ρ, xc, R, T, q⟩ => ⟨G0, H0, G, ρ, xc, R, T, h.mo _ _ _ _ (fun d hd G' H' v x r => hd G' H' v x r.o) q⟩, h.mo⟩

/-! ### names, constants -/
@[simp] def wVar (i : Nat) : Wx := fun _ ρ Q => ∃ d, ρ[i]? = some (.da d) ∧ Q d
def wPeek (i : Nat) : Wx := fun _ ρ Q => ∃ d, (ρ[i]? = some (.da d) ∨ ρ[i]? = some (.ow d)) ∧ Q d
@[simp] def wC (d : D) : Wx := fun _ _ Q => Q d
theorem ej_var {i : Nat} (h : PE X e (tVar i)) : EJ .e E X e (wVar i) := by
  refine ⟨h.imp fun σ H Q ⟨G0, H0, G, ρ, xc, R, T, d, e1, q⟩ => ?_, fun xc ρ Q Q' i ⟨d, e1, q⟩ => ⟨d, e1, i d q⟩⟩
  obtain ⟨v, e2, r⟩ := R.sl i _ e1
  exact ⟨v, e2, q G H v (.refl R.gh) r⟩
theorem ej_peek {i : Nat} (h : PE X e (tVar i)) : EJ .o E X e (wPeek i) := by
  refine ⟨h.imp fun σ H Q ⟨G0, H0, G, ρ, xc, R, T, d, e1, q⟩ => ?_, fun xc ρ Q Q' i ⟨d, e1, q⟩ => ⟨d, e1, i d q⟩⟩
  rcases e1 with e1 | e1
  · obtain ⟨v, e2, r⟩ := R.sl i _ e1
    exact ⟨v, e2, q G H v (.refl R.gh) (.inl r)⟩
  · obtain ⟨p, o, e2, e3, t, g, z⟩ := R.sl i _ e1
    exact ⟨_, e2, q G H _ (.refl R.gh) (.inr ⟨p, o, rfl, e3, t⟩)⟩
theorem ej_c {d : D} {v : V} (h : PE X e (tC v)) (r : ∀ G, Rp X.K G d v) : EJ .e E X e (wC d) :=
  ⟨h.imp fun σ H Q ⟨G0, H0, G, ρ, xc, R, T, q⟩ => q G H v (.refl R.gh) (r G), fun xc ρ Q Q' i q => i d q⟩
theorem ej_int {i : Int} {j pos} : EJ .e E X (.Constant (.int i) j pos) (wC (.int i)) := ej_c pe_int fun _ => .int i
theorem ej_bl {i : Bool} {j pos} : EJ .e E X (.Constant (.bool i) j pos) (wC (.bl i)) := ej_c pe_bl fun _ => .bl i
theorem ej_str {i : Str} {j pos} : EJ .e E X (.Constant (.str i) j pos) (wC (.str i)) := ej_c pe_str fun _ => .str i
theorem ej_non {j pos} : EJ .e E X (.Constant .none j pos) (wC .non) := ej_c pe_non fun _ => .non

/-! ### two operands -/
abbrev Op2 := D → D → (D → Prop) → Prop
@[simp] def w2 (op : Op2) (wa wb : Wx) : Wx := fun xc ρ Q => wa xc ρ fun x => wb xc ρ fun y => op x y Q
def Mo2 (op : Op2) : Prop := ∀ x y (Q Q' : D → Prop), (∀ d, Q d → Q' d) → op x y Q → op x y Q'
/-- the operator op on data is the rule r on values -/
structure Brg2 (K : PySem.W.Frag) (k : Kd) (op : Op2) (r : R2) : Prop where
  go : ∀ (x y : D) (G H : Hp) (vx vy : V) (Q : D → Prop) (Q2 : VK), Same G H → RvO K G H x vx → RvO K G H y vy → op x y Q → (∀ d, Q d → ∀ G' H' v, Ext G H G' H' → RvK K k H G' H' d v → Q2 v H') → r vx vy H Q2
  mo : Mo2 op
theorem ej_2 {op : Op2} {r : R2} (ha : EJ ka E X a wa) (hb : EJ kb E X b wb) (hpe : PE X e (tOp r (liftW X.K E ka wa) (liftW X.K E kb wb))) (B : Brg2 X.K k op r) : EJ k E X e (w2 op wa wb) := by
  refine ⟨hpe.imp fun σ H Q ⟨G0, H0, G, ρ, xc, R, T, q⟩ => ⟨G0, H0, G, ρ, xc, R, T, ha.mo _ _ _ _ (fun x q1 G1 H1 v1 x1 r1 => ?_) q⟩, fun xc ρ Q Q' i q => ha.mo _ _ _ _ (fun x q => hb.mo _ _ _ _ (fun y q => B.mo _ _ _ _ i q) q) q⟩
  refine ⟨G0, H0, G1, ρ, xc, R.ext x1, T, hb.mo _ _ _ _ (fun y q2 G2 H2 v2 x2 r2 => ?_) q1⟩
  exact B.go x y G2 H2 v1 v2 _ _ x2.gh (r1.o.ext x2) r2.o q2 fun d q3 G' H' v x3 r3 => q3 G' H' v (x1.trans (x2.trans x3)) (by
    cases k with
    | e => exact r3
    | o => exact r3
    | f =>
      obtain ⟨p, o, e1, e2, e3⟩ := r3
      exact ⟨p, o, e1, (x1.trans x2).hh.free e2, e3⟩)

/-! ### tests -/
abbrev Wt := XC → Evn → (Bool → Prop) → Prop
def liftT (K : PySem.W.Frag) (E : XK) (w : Wt) : TT := fun σ H Q => ∃ G0 H0 G ρ xc, Rel K G0 H0 G ρ σ H ∧ TieX K G0 H0 E xc ∧ w xc ρ fun d => ∀ G' H', Ext G H G' H' → Q d H'
structure TJ (E : XK) (X : Cx) (e : Expr) (w : Wt) : Prop where
  pt : PT X e (liftT X.K E w)
  mo : ∀ xc ρ (Q Q' : Bool → Prop), (∀ d, Q d → Q' d) → w xc ρ Q → w xc ρ Q'
structure TWJ (E : XK) (X : Cx) (e : Expr) (w : Wt) : Prop where
  pw : PW X e (liftT X.K E w)
  mo : ∀ xc ρ (Q Q' : Bool → Prop), (∀ d, Q d → Q' d) → w xc ρ Q → w xc ρ Q'
theorem _root_.L2.PW.imp {X : Cx} {e : Expr} {t t' : TT} (h : PW X e t) (i : ∀ σ H Q, t' σ H Q → t σ H Q) : PW X e t' := ⟨fun wh pins s σ H Q I q => h.run wh pins s σ H Q I (i _ _ _ q)⟩
theorem TWJ.t {wt : Wt} (h : TWJ E X e wt) : TJ E X e wt := ⟨h.pw.pt, h.mo⟩
/-- a value that is a bool -/
@[simp] def wB (w : Wx) : Wt := fun xc ρ Q => w xc ρ fun d => ∃ b, d = .bl b ∧ Q b
theorem rvO_bl {K : PySem.W.Frag} {G H : Hp} {b : Bool} {v : V} (h : RvO K G H (.bl b) v) : v = .bl b := by
  rcases h with h | ⟨p, o, _, _, t⟩
  · cases h; rfl
  · cases o <;> exact t.elim
theorem rvO_int {K : PySem.W.Frag} {G H : Hp} {b : Int} {v : V} (h : RvO K G H (.int b) v) : v = .int b := by
  rcases h with h | ⟨p, o, _, _, t⟩
  · cases h; rfl
  · cases o <;> exact t.elim
theorem rvO_str {K : PySem.W.Frag} {G H : Hp} {b : Str} {v : V} (h : RvO K G H (.str b) v) : v = .str b := by
  rcases h with h | ⟨p, o, _, _, t⟩
  · cases h; rfl
  · cases o <;> exact t.elim
theorem rvO_non {K : PySem.W.Frag} {G H : Hp} {v : V} (h : RvO K G H .non v) : v = .non := by
  rcases h with h | ⟨p, o, _, _, t⟩
  · cases h; rfl
  · cases o <;> exact t.elim
theorem rvO_lst {K : PySem.W.Frag} {G H : Hp} {ds : List D} {v : V} (g : Same G H) (h : RvO K G H (.lst ds) v) : ∃ p vs, v = .ref p ∧ H p = some (.lst vs) ∧ Rps K G ds vs := by
  rcases h with h | ⟨p, o, e, e2, t⟩
  · cases h with | lst h r => exact ⟨_, _, rfl, g _ _ h, r⟩
  · cases o <;> first | exact t.elim | skip
    exact ⟨p, _, e, e2, t⟩
theorem rvO_fls {K : PySem.W.Frag} {G H : Hp} {ds : List D} {v : V} (g : Same G H) (h : RvO K G H (.fls ds) v) : ∃ p vs, v = .ref p ∧ SqL K H p vs ∧ Rps K G ds vs := by
  rcases h with h | ⟨p, o, e, e2, t⟩
  · cases h with | fls h r => exact ⟨_, _, rfl, g.seq h, r⟩
  · cases o <;> exact t.elim
theorem rvO_tup {K : PySem.W.Frag} {G H : Hp} {ds : List D} {v : V} (g : Same G H) (h : RvO K G H (.tup ds) v) : ∃ p vs, v = .ref p ∧ SqT K H p vs ∧ Rps K G ds vs := by
  rcases h with h | ⟨p, o, e, e2, t⟩
  · cases h with | tup h r => exact ⟨_, _, rfl, sqT_mono g h, r⟩
  · cases o <;> exact t.elim
theorem rvO_xtp {K : PySem.W.Frag} {G H : Hp} {ds : List D} {v : V} (g : Same G H) (h : RvO K G H (.xtp ds) v) : ∃ p vs o, v = .ref p ∧ H p = some (.frz o (.tup vs)) ∧ o.cls = .type "tuple" ∧ o.dict = none ∧ Rps K G ds vs := by
  rcases h with h | ⟨p, o, e, e2, t⟩
  · cases h with | xtp h c n r => exact ⟨_, _, _, rfl, g _ _ h, c, n, r⟩
  · cases o <;> exact t.elim
/-- a comparison as a test: from its rule -/
theorem tj_2 {op : Op2} {r : R2} (ha : EJ ka E X a wa) (hb : EJ kb E X b wb) (hpt : PT X e (tTest (tOp r (liftW X.K E ka wa) (liftW X.K E kb wb)))) (B : Brg2 X.K k op r) : TJ E X e (wB (w2 op wa wb)) := by
  refine ⟨hpt.imp fun σ H Q ⟨G0, H0, G, ρ, xc, R, T, q⟩ => ⟨G0, H0, G, ρ, xc, R, T, ha.mo _ _ _ _ (fun x q1 G1 H1 v1 x1 r1 => ?_) q⟩, fun xc ρ Q Q' i q => ha.mo _ _ _ _ (fun x q => hb.mo _ _ _ _ (fun y q => B.mo _ _ _ _ (fun d ⟨b, e, q⟩ => ⟨b, e, i b q⟩) q) q) q⟩
  refine ⟨G0, H0, G1, ρ, xc, R.ext x1, T, hb.mo _ _ _ _ (fun y q2 G2 H2 v2 x2 r2 => ?_) q1⟩
  refine B.go x y G2 H2 v1 v2 _ _ x2.gh (r1.o.ext x2) r2.o q2 fun d q3 G' H' v x3 r3 => ?_
  obtain ⟨bb, rfl, q3⟩ := q3
  exact ⟨bb, rvO_bl r3.o, q3 G' H' (x1.trans (x2.trans x3))⟩
/-- an expression whose value is a bool, as a test -/
theorem tj_val (h : EJ k E X e w) (hpt : PT X e (tB (liftW X.K E k w))) : TJ E X e (wB w) := by
  refine ⟨hpt.imp fun σ H Q ⟨G0, H0, G, ρ, xc, R, T, q⟩ => ⟨G0, H0, G, ρ, xc, R, T, h.mo _ _ _ _ (fun x q1 G1 H1 v1 x1 r1 => ?_) q⟩, fun xc ρ Q Q' i q => h.mo _ _ _ _ (fun d ⟨b, e, q⟩ => ⟨b, e, i b q⟩) q⟩
  obtain ⟨bb, rfl, q1⟩ := q1
  exact ⟨bb, rvO_bl r1.o, q1 G1 H1 x1⟩
@[simp] def wNot (w : Wt) : Wt := fun xc ρ Q => w xc ρ fun b => Q (!b)
@[simp] def wAnd (w u : Wt) : Wt := fun xc ρ Q => w xc ρ fun b => if b = true then u xc ρ Q else Q false
@[simp] def wOr (w u : Wt) : Wt := fun xc ρ Q => w xc ρ fun b => if b = true then Q true else u xc ρ Q
variable {ta tb : Wt} {rest : List Expr}
theorem tj_not (h : TJ E X a ta) : TJ E X (.UnaryOp .Not a pos) (wNot ta) :=
  ⟨(pt_not h.pt).imp fun σ H Q ⟨G0, H0, G, ρ, xc, R, T, q⟩ => ⟨G0, H0, G, ρ, xc, R, T, q⟩, fun xc ρ Q Q' i q => h.mo _ _ _ _ (fun b q => i _ q) q⟩
theorem twj_and1 (h : TJ E X a ta) : TWJ E X (.BoolOp .And [a] pos) ta := ⟨pw_and1 h.pt, h.mo⟩
theorem twj_or1 (h : TJ E X a ta) : TWJ E X (.BoolOp .Or [a] pos) ta := ⟨pw_or1 h.pt, h.mo⟩
theorem twj_and (ha : TJ E X a ta) (hb : TWJ E X (.BoolOp .And (b :: rest) pos) tb) : TWJ E X (.BoolOp .And (a :: b :: rest) pos) (wAnd ta tb) := by
  refine ⟨PW.imp (pw_and ha.pt hb.pw) fun σ H Q ⟨G0, H0, G, ρ, xc, R, T, q⟩ => ⟨G0, H0, G, ρ, xc, R, T, ha.mo _ _ _ _ (fun x q1 G1 H1 x1 => ?_) q⟩, fun xc ρ Q Q' i q => ha.mo _ _ _ _ (fun x q => ?_) q⟩
  · cases x with
    | true =>
      rw [if_pos rfl] at q1 ⊢
      exact ⟨G0, H0, G1, ρ, xc, R.ext x1, T, hb.mo _ _ _ _ (fun y q2 G2 H2 x2 => q2 G2 H2 (x1.trans x2)) q1⟩
    | false => rw [if_neg Bool.false_ne_true] at q1 ⊢; exact q1 G1 H1 x1
  · cases x with
    | true => rw [if_pos rfl] at q ⊢; exact hb.mo _ _ _ _ i q
    | false => rw [if_neg Bool.false_ne_true] at q ⊢; exact i _ q
theorem twj_or (ha : TJ E X a ta) (hb : TWJ E X (.BoolOp .Or (b :: rest) pos) tb) : TWJ E X (.BoolOp .Or (a :: b :: rest) pos) (wOr ta tb) := by
  refine ⟨PW.imp (pw_or ha.pt hb.pw) fun σ H Q ⟨G0, H0, G, ρ, xc, R, T, q⟩ => ⟨G0, H0, G, ρ, xc, R, T, ha.mo _ _ _ _ (fun x q1 G1 H1 x1 => ?_) q⟩, fun xc ρ Q Q' i q => ha.mo _ _ _ _ (fun x q => ?_) q⟩
  · cases x with
    | false =>
      rw [if_neg Bool.false_ne_true] at q1 ⊢
      exact ⟨G0, H0, G1, ρ, xc, R.ext x1, T, hb.mo _ _ _ _ (fun y q2 G2 H2 x2 => q2 G2 H2 (x1.trans x2)) q1⟩
    | true => rw [if_pos rfl] at q1 ⊢; exact q1 G1 H1 x1
  · cases x with
    | false => rw [if_neg Bool.false_ne_true] at q ⊢; exact hb.mo _ _ _ _ i q
    | true => rw [if_pos rfl] at q ⊢; exact i _ q
@[simp] def wIf (t : Wt) (wa wb : Wx) : Wx := fun xc ρ Q => t xc ρ fun b => if b = true then wa xc ρ Q else wb xc ρ Q
theorem ej_if (hc : TJ E X c ta) (ha : EJ .e E X a wa) (hb : EJ .e E X b wb) : EJ .e E X (.IfExp c a b pos) (wIf ta wa wb) := by
  refine ⟨(pe_ifExp hc.pt ha.pe hb.pe).imp fun σ H Q ⟨G0, H0, G, ρ, xc, R, T, q⟩ => ⟨G0, H0, G, ρ, xc, R, T, hc.mo _ _ _ _ (fun x q1 G1 H1 x1 => ?_) q⟩, fun xc ρ Q Q' i q => hc.mo _ _ _ _ (fun x q => ?_) q⟩
  · cases x with
    | true =>
      rw [if_pos rfl] at q1 ⊢
      exact ⟨G0, H0, G1, ρ, xc, R.ext x1, T, ha.mo _ _ _ _ (fun y q2 G2 H2 v x2 r => q2 G2 H2 v (x1.trans x2) r) q1⟩
    | false =>
      rw [if_neg Bool.false_ne_true] at q1 ⊢
      exact ⟨G0, H0, G1, ρ, xc, R.ext x1, T, hb.mo _ _ _ _ (fun y q2 G2 H2 v x2 r => q2 G2 H2 v (x1.trans x2) r) q1⟩
  · cases x with
    | true => rw [if_pos rfl] at q ⊢; exact ha.mo _ _ _ _ i q
    | false => rw [if_neg Bool.false_ne_true] at q ⊢; exact hb.mo _ _ _ _ i q

/-! ### argument lists, displays -/
abbrev Wa := XC → Evn → (List D → Prop) → Prop
inductive RvOs (K : PySem.W.Frag) (G H : Hp) : List D → List V → Prop
  | nil : RvOs K G H [] []
  | cons {d : D} {v : V} {ds : List D} {vs : List V} : RvO K G H d v → RvOs K G H ds vs → RvOs K G H (d :: ds) (v :: vs)
def liftA (K : PySem.W.Frag) (E : XK) (k : Bool) (w : Wa) : TA := fun σ H Q => ∃ G0 H0 G ρ xc, Rel K G0 H0 G ρ σ H ∧ TieX K G0 H0 E xc ∧ w xc ρ fun ds => ∀ G' H' vs, Ext G H G' H' → (if k = true then Rps K G' ds vs else RvOs K G' H' ds vs) → Q vs H'
/-- k = true: all of them for good -/
structure AJ (k : Bool) (E : XK) (X : Cx) (es : List Expr) (w : Wa) : Prop where
  pa : PA X es (liftA X.K E k w)
  mo : ∀ xc ρ (Q Q' : List D → Prop), (∀ d, Q d → Q' d) → w xc ρ Q → w xc ρ Q'
@[simp] def waNil : Wa := fun _ _ Q => Q []
@[simp] def waCons (w : Wx) (u : Wa) : Wa := fun xc ρ Q => w xc ρ fun d => u xc ρ fun ds => Q (d :: ds)
theorem RvOs.ext {K : PySem.W.Frag} {G H G' H' : Hp} (x : Ext G H G' H') : ∀ {ds : List D} {vs : List V}, RvOs K G H ds vs → RvOs K G' H' ds vs
  | _, _, .nil => .nil
  | _, _, .cons h r => .cons (h.ext x) (RvOs.ext x r)
theorem aj_nil {kk : Bool} : AJ kk E X [] waNil := by
  refine ⟨pa_nil.imp fun σ H Q ⟨G0, H0, G, ρ, xc, R, T, q⟩ => q G H [] (.refl R.gh) (by cases kk <;> simp <;> constructor), fun _ _ _ _ i q => i _ q⟩
variable {es : List Expr} {u : Wa}
theorem aj_consE (ha : EJ .e E X e w) (hr : AJ true E X es u) (hs : starEach (e :: es) X.env = (false, eval e X.env) :: starEach es X.env := by rfl) : AJ true E X (e :: es) (waCons w u) := by
  refine ⟨(pa_cons ha.pe hr.pa hs).imp fun σ H Q ⟨G0, H0, G, ρ, xc, R, T, q⟩ => ⟨G0, H0, G, ρ, xc, R, T, ha.mo _ _ _ _ (fun x q1 G1 H1 v1 x1 r1 => ?_) q⟩, fun xc ρ Q Q' i q => ha.mo _ _ _ _ (fun x q => hr.mo _ _ _ _ (fun ds q => i _ q) q) q⟩
  refine ⟨G0, H0, G1, ρ, xc, R.ext x1, T, hr.mo _ _ _ _ (fun y q2 G2 H2 v2 x2 r2 => ?_) q1⟩
  rw [if_pos rfl] at r2
  exact q2 G2 H2 (v1 :: v2) (x1.trans x2) (by rw [if_pos rfl]; exact .cons (Rp.mono x2.gg r1) r2)
theorem aj_consO (ha : EJ k E X e w) (hr : AJ false E X es u) (hs : starEach (e :: es) X.env = (false, eval e X.env) :: starEach es X.env := by rfl) : AJ false E X (e :: es) (waCons w u) := by
  refine ⟨(pa_cons ha.pe hr.pa hs).imp fun σ H Q ⟨G0, H0, G, ρ, xc, R, T, q⟩ => ⟨G0, H0, G, ρ, xc, R, T, ha.mo _ _ _ _ (fun x q1 G1 H1 v1 x1 r1 => ?_) q⟩, fun xc ρ Q Q' i q => ha.mo _ _ _ _ (fun x q => hr.mo _ _ _ _ (fun ds q => i _ q) q) q⟩
  refine ⟨G0, H0, G1, ρ, xc, R.ext x1, T, hr.mo _ _ _ _ (fun y q2 G2 H2 v2 x2 r2 => ?_) q1⟩
  rw [if_neg Bool.false_ne_true] at r2
  exact q2 G2 H2 (v1 :: v2) (x1.trans x2) (by rw [if_neg Bool.false_ne_true]; exact .cons (r1.o.ext x2) r2)
@[simp] def wTup (u : Wa) : Wx := fun xc ρ Q => u xc ρ fun ds => ds.length ≤ sizeLine ∧ Q (.tup ds)
@[simp] def wLst (u : Wa) : Wx := fun xc ρ Q => u xc ρ fun ds => ds.length ≤ sizeLine ∧ Q (.lst ds)
theorem ej_tup {x1} (h : AJ true E X es u) : EJ .e E X (.Tuple es x1 pos) (wTup u) := by
  refine ⟨(pe_tup h.pa).imp fun σ H Q ⟨G0, H0, G, ρ, xc, R, T, q⟩ => ⟨G0, H0, G, ρ, xc, R, T, h.mo _ _ _ _ (fun ds ⟨z, q1⟩ G1 H1 vs e1 r1 => ?_) q⟩, fun xc ρ Q Q' i q => h.mo _ _ _ _ (fun ds ⟨z, q⟩ => ⟨z, i _ q⟩) q⟩
  rw [if_pos rfl] at r1
  refine ⟨by rw [← r1.length]; exact z, fun p hp => ?_⟩
  have x2 := Ext.new (o := .tup vs) e1.gh hp
  exact q1 _ _ _ (e1.trans x2) (Rp.tup (SqT.of upd_same) (r1.mono x2.gg))
theorem ej_lst (h : AJ true E X es u) : EJ .f E X (.List es pos) (wLst u) := by
  refine ⟨(pe_lst h.pa).imp fun σ H Q ⟨G0, H0, G, ρ, xc, R, T, q⟩ => ⟨G0, H0, G, ρ, xc, R, T, h.mo _ _ _ _ (fun ds ⟨z, q1⟩ G1 H1 vs e1 r1 => ?_) q⟩, fun xc ρ Q Q' i q => h.mo _ _ _ _ (fun ds ⟨z, q⟩ => ⟨z, i _ q⟩) q⟩
  rw [if_pos rfl] at r1
  refine ⟨by rw [← r1.length]; exact z, fun p hp => ?_⟩
  have x2 := Ext.newH (o := .lst vs) e1.gh hp
  exact q1 _ _ _ (e1.trans x2) ⟨p, .lst vs, rfl, e1.hh.free hp, upd_same, r1, e1.gh.free hp⟩

/-! ### built-in functions, methods of built-in types -/
abbrev OpN := List D → (D → Prop) → Prop
structure BrgN (K : PySem.W.Frag) (k : Kd) (op : OpN) (r : List V → Hp → VK → Prop) : Prop where
  go : ∀ (ds : List D) (G H : Hp) (vs : List V) (Q : D → Prop) (Q2 : VK), Same G H → RvOs K G H ds vs → op ds Q → (∀ d, Q d → ∀ G' H' v, Ext G H G' H' → RvK K k H G' H' d v → Q2 v H') → r vs H Q2
  mo : ∀ ds (Q Q' : D → Prop), (∀ d, Q d → Q' d) → op ds Q → op ds Q'
@[simp] def wN (op : OpN) (u : Wa) : Wx := fun xc ρ Q => u xc ρ fun ds => op ds Q
theorem rv_later {K : PySem.W.Frag} {k : Kd} {H H1 G' H' : Hp} {d : D} {v : V} (s : Same H H1) (r : RvK K k H1 G' H' d v) : RvK K k H G' H' d v := by
  cases k with
  | e => exact r
  | o => exact r
  | f => obtain ⟨p, o, e1, e2, e3⟩ := r; exact ⟨p, o, e1, s.free e2, e3⟩
theorem ej_N {op : OpN} {r : List V → Hp → VK → Prop} (h : AJ false E X es u) (hpe : PE X e (tCB r (liftA X.K E false u))) (B : BrgN X.K k op r) : EJ k E X e (wN op u) := by
  refine ⟨hpe.imp fun σ H Q ⟨G0, H0, G, ρ, xc, R, T, q⟩ => ⟨G0, H0, G, ρ, xc, R, T, h.mo _ _ _ _ (fun ds q1 G1 H1 vs e1 r1 => ?_) q⟩, fun xc ρ Q Q' i q => h.mo _ _ _ _ (fun ds q => B.mo _ _ _ i q) q⟩
  rw [if_neg Bool.false_ne_true] at r1
  exact B.go ds G1 H1 vs _ _ e1.gh r1 q1 fun d q2 G' H' v x2 r2 => q2 G' H' v (e1.trans x2) (rv_later e1.hh r2)
end
end Tw

/-! Tw, part C: the operators, on data. -/
namespace Tw
open PySem PySem.Spec L2 PyProof.Rows

/-! ### data as the library's data -/
mutual
def D.py : D → PyData
  | .non => .none | .bl b => .bool b | .int i => .int i | .str x => .str x
  | .tup xs => .tuple (D.pys xs) | .xtp xs => .tuple (D.pys xs) | .lst xs => .list (D.pys xs) | .fls xs => .list (D.pys xs)
  | .obj _ _ => .none | .dK _ => .none | .dT _ => .none
def D.pys : List D → List PyData
  | [] => []
  | x :: xs => D.py x :: D.pys xs
end
mutual
/-- no object of an own class, no dict -/
def D.isP : D → Bool
  | .non => true | .bl _ => true | .int _ => true | .str _ => true
  | .tup xs => D.isPs xs | .xtp xs => D.isPs xs | .lst xs => D.isPs xs | .fls xs => D.isPs xs
  | .obj _ _ => false | .dK _ => false | .dT _ => false
def D.isPs : List D → Bool
  | [] => true
  | x :: xs => D.isP x && D.isPs xs
end
section
variable {K : PySem.W.Frag} {G H : Hp}
mutual
theorem Rp.dp : ∀ {d : D} {v : V}, Rp K G d v → d.isP = true → Dp K G v d.py
  | _, _, .non, _ => by rw [D.py]; exact .non
  | _, _, .bl b, _ => by rw [D.py]; exact .bl b
  | _, _, .int i, _ => by rw [D.py]; exact .int i
  | _, _, .str x, _ => by rw [D.py]; exact .str x
  | _, _, .tup h r, p => by rw [D.isP] at p; rw [D.py]; exact .tup h (Rps.dp r p)
  | _, _, .xtp h _ _ r, p => by rw [D.isP] at p; rw [D.py]; exact .tup (.inl (.inr ⟨_, h⟩)) (Rps.dp r p)
  | _, _, .lst h r, p => by rw [D.isP] at p; rw [D.py]; exact .lst (SqL.of h) (Rps.dp r p)
  | _, _, .fls h r, p => by rw [D.isP] at p; rw [D.py]; exact .lst h (Rps.dp r p)
  | _, _, .obj _ _, p => by simp [D.isP] at p
  | _, _, .dK _ _, p => by simp [D.isP] at p
  | _, _, .dT _ _, p => by simp [D.isP] at p
theorem Rps.dp : ∀ {d : List D} {v : List V}, Rps K G d v → D.isPs d = true → DpAll K G v (D.pys d)
  | _, _, .nil, _ => by rw [D.pys]; exact .nil
  | _, _, .cons h r, p => by
    rw [D.isPs, Bool.and_eq_true] at p
    rw [D.pys]
    exact .cons (Rp.dp h p.1) (Rps.dp r p.2)
end
theorem RvO.dp {d : D} {v : V} (g : Same G H) (h : RvO K G H d v) (p : d.isP = true) : Dp K H v d.py := by
  rcases h with h | ⟨a, o, rfl, e2, t⟩
  · exact (h.mono g).dp p
  · cases d <;> cases o <;> first | exact t.elim | skip
    · rw [D.isP] at p; rw [D.py]; exact .lst (SqL.of e2) (Rps.dp (Rps.mono g t) p)
    · simp [D.isP] at p
    · simp [D.isP] at p
theorem pys_map {α : Type} (f : α → D) (g : α → PyData) (h : ∀ a, (f a).py = g a) : ∀ l : List α, D.pys (l.map f) = l.map g
  | [] => by rw [List.map_nil, D.pys]; rfl
  | a :: l => by rw [List.map_cons, D.pys, h, pys_map f g h l]; rfl
theorem isPs_all : ∀ l : List D, D.isPs l = l.all D.isP
  | [] => by rw [D.isPs]; rfl
  | a :: l => by rw [D.isPs, isPs_all l]; rfl
end

section
variable {X : Cx}
theorem opr_or {f : Value → Value → Sem Value} {r r' : R2} (h : OpR X f r) (h' : OpR X f r') : OpR X f (fun x y H Q => r x y H Q ∨ r' x y H Q) :=
  fun pins s σ H x y v u Q I rx ry q => q.elim (h pins s σ H x y v u Q I rx ry) (h' pins s σ H x y v u Q I rx ry)
variable {K : PySem.W.Frag}

/-! ### + -/
def oAdd : Op2
  | .int i, .int j, Q => Q (.int (i + j))
  | .str x, .str y, Q => x.length + y.length ≤ sizeLine ∧ Q (.str (x ++ y))
  | .tup xs, .tup ys, Q => xs.length + ys.length ≤ sizeLine ∧ Q (.tup (xs ++ ys))
  | _, _, _ => False
abbrev rAdd3 (K : PySem.W.Frag) : R2 := fun x y H Q => (∃ i j, x = .int i ∧ y = .int j ∧ Q (.int (i + j)) H) ∨ ((∃ i j, x = .str i ∧ y = .str j ∧ i.length + j.length ≤ sizeLine ∧ Q (.str (i ++ j)) H) ∨ rCatA K x y H Q)
theorem op_add3 : OpR X (binaryOp .Add) (rAdd3 X.K) := opr_or (r' := fun x y H Q => (∃ i j, x = .str i ∧ y = .str j ∧ i.length + j.length ≤ sizeLine ∧ Q (.str (i ++ j)) H) ∨ rCatA X.K x y H Q) op_add (opr_or op_add_str op_catA)
theorem rps_nil {G : Hp} {vs : List V} {ds : List D} (r : Rps K G ds vs) (h : vs = []) : ds = [] := by subst h; cases r; rfl
theorem brg_add : Brg2 K .e oAdd (rAdd3 K) := by
  refine ⟨fun x y G H vx vy Q Q2 g rx ry q k => ?_, fun x y Q Q' i q => ?_⟩
  · cases x <;> cases y <;> first | exact q.elim | skip
    · rw [rvO_int rx, rvO_int ry]
      exact .inl ⟨_, _, rfl, rfl, k _ q G H _ (.refl g) (.int _)⟩
    · obtain ⟨z, q⟩ := q
      rw [rvO_str rx, rvO_str ry]
      exact .inr (.inl ⟨_, _, rfl, rfl, z, k _ q G H _ (.refl g) (.str _)⟩)
    · obtain ⟨z, q⟩ := q
      obtain ⟨p, vs, rfl, h1, r1⟩ := rvO_tup g rx
      obtain ⟨p', vs', rfl, h2, r2⟩ := rvO_tup g ry
      rename_i xs ys
      have gt : ∀ {p : Addr} {vs : List V} {ds : List D} {v : V}, RvO K G H (.tup ds) v → v = .ref p → Rp K G (.tup ds) v := fun {p vs ds v} h e => by
        rcases h with h | ⟨_, o, _, _, t⟩
        · exact h
        · cases o <;> exact t.elim
      refine .inr (.inr ⟨p, p', vs, vs', rfl, rfl, h1, h2, by rw [← r1.length, ← r2.length]; exact z, fun e => ?_, fun e1 e => ?_, fun e1 e2 q' hq' => ?_⟩)
      · have e' := rps_nil r1 e
        subst e'
        exact k _ q G H _ (.refl g) (gt (p := p') (vs := []) ry rfl)
      · have e' := rps_nil r2 e
        subst e'
        rw [List.append_nil] at q
        exact k _ q G H _ (.refl g) (gt (p := p) (vs := []) rx rfl)
      · have x2 := Ext.new (o := .tup (vs ++ vs')) g hq'
        exact k _ q _ _ _ x2 (.tup (SqT.of upd_same) ((r1.append r2).mono x2.gg))
  · cases x <;> cases y <;> first | exact q.elim | skip
    · exact i _ q
    · exact ⟨q.1, i _ q.2⟩
    · exact ⟨q.1, i _ q.2⟩
/-- list + list: a new one -/
def oCat : Op2
  | .lst xs, .lst ys, Q => xs.length + ys.length ≤ sizeLine ∧ Q (.lst (xs ++ ys))
  | _, _, _ => False
theorem brg_cat : Brg2 K .f oCat rCat := by
  refine ⟨fun x y G H vx vy Q Q2 g rx ry q k => ?_, fun x y Q Q' i q => ?_⟩
  · cases x <;> cases y <;> first | exact q.elim | skip
    obtain ⟨z, q⟩ := q
    obtain ⟨p, vs, rfl, h1, r1⟩ := rvO_lst g rx
    obtain ⟨p', vs', rfl, h2, r2⟩ := rvO_lst g ry
    refine ⟨p, p', vs, vs', rfl, rfl, h1, h2, by rw [← r1.length, ← r2.length]; exact z, fun q' hq' => ?_⟩
    have x2 := Ext.newH (o := .lst (vs ++ vs')) g hq'
    exact k _ q _ _ _ x2 ⟨q', _, rfl, hq', upd_same, r1.append r2, g.free hq'⟩
  · cases x <;> cases y <;> first | exact q.elim | skip
    exact ⟨q.1, i _ q.2⟩

/-! ### ints -/
def oI (C : Int → Int → Prop) (f : Int → Int → D) : Op2
  | .int i, .int j, Q => C i j ∧ Q (f i j)
  | _, _, _ => False
theorem brg_I {C : Int → Int → Prop} {f : Int → Int → D} {f' : Int → Int → V} (hf : ∀ i j G, Rp K G (f i j) (f' i j)) : Brg2 K .e (oI C f) (rI C f') := by
  refine ⟨fun x y G H vx vy Q Q2 g rx ry q k => ?_, fun x y Q Q' i q => ?_⟩
  · cases x <;> cases y <;> first | exact q.elim | skip
    obtain ⟨z, q⟩ := q
    rw [rvO_int rx, rvO_int ry]
    exact ⟨_, _, rfl, rfl, z, k _ q G H _ (.refl g) (hf _ _ G)⟩
  · cases x <;> cases y <;> first | exact q.elim | skip
    exact ⟨q.1, i _ q.2⟩
def oI0 (f : Int → Int → D) : Op2
  | .int i, .int j, Q => Q (f i j)
  | _, _, _ => False
theorem brg_I0 {f : Int → Int → D} {f' : Int → Int → V} (hf : ∀ i j G, Rp K G (f i j) (f' i j)) : Brg2 K .e (oI0 f) (rI0 f') := by
  refine ⟨fun x y G H vx vy Q Q2 g rx ry q k => ?_, fun x y Q Q' i q => ?_⟩
  · cases x <;> cases y <;> first | exact q.elim | skip
    rw [rvO_int rx, rvO_int ry]
    exact ⟨_, _, rfl, rfl, k _ q G H _ (.refl g) (hf _ _ G)⟩
  · cases x <;> cases y <;> first | exact q.elim | skip
    exact i _ q
abbrev oSub : Op2 := oI0 fun i j => .int (i - j)
abbrev oMulI : Op2 := oI CMul fun i j => .int (i * j)
abbrev oDiv : Op2 := oI CDiv fun i j => .int (i / j)
abbrev oMod : Op2 := oI (fun _ j => 0 < j) fun i j => .int (i % j)
abbrev oPow : Op2 := oI CPow fun i j => .int (i ^ j.toNat)
abbrev oLt : Op2 := oI0 fun i j => .bl (decide (i < j))
abbrev oLe : Op2 := oI0 fun i j => .bl (decide (i ≤ j))
abbrev oGt : Op2 := oI0 fun i j => .bl (decide (j < i))
abbrev oGe : Op2 := oI0 fun i j => .bl (decide (j ≤ i))
theorem brg_sub : Brg2 K .e oSub (rI0 fun i j => .int (i - j)) := brg_I0 fun i j G => .int _
theorem brg_mulI : Brg2 K .e oMulI (rI CMul fun i j => .int (i * j)) := brg_I fun i j G => .int _
theorem brg_div : Brg2 K .e oDiv (rI CDiv fun i j => .int (i / j)) := brg_I fun i j G => .int _
theorem brg_mod : Brg2 K .e oMod (rI (fun _ j => 0 < j) fun i j => .int (i % j)) := brg_I fun i j G => .int _
theorem brg_pow : Brg2 K .e oPow (rI CPow fun i j => .int (i ^ j.toNat)) := brg_I fun i j G => .int _
theorem brg_lt : Brg2 K .e oLt (rI0 fun i j => .bl (decide (i < j))) := brg_I0 fun i j G => .bl _
theorem brg_le : Brg2 K .e oLe (rI0 fun i j => .bl (decide (i ≤ j))) := brg_I0 fun i j G => .bl _
theorem brg_gt : Brg2 K .e oGt (rI0 fun i j => .bl (decide (j < i))) := brg_I0 fun i j G => .bl _
theorem brg_ge : Brg2 K .e oGe (rI0 fun i j => .bl (decide (j ≤ i))) := brg_I0 fun i j G => .bl _
/-- a text times an int -/
def oMulS : Op2
  | .str x, .int n, Q => MulOk x n ∧ Q (.str (Txt.mul x n))
  | _, _, _ => False
def rMulS : R2 := fun x y H Q => ∃ z n, x = .str z ∧ y = .int n ∧ MulOk z n ∧ Q (.str (Txt.mul z n)) H
theorem op_mulS : OpR X (binaryOp .Mult) rMulS := by
  intro pins s σ H x y v u Q I rx ry h
  obtain ⟨z, n, rfl, rfl, ok, q⟩ := h
  obtain ⟨t, rfl⟩ := rx
  obtain ⟨t', rfl⟩ := ry
  exact SB.mul ok fun t' k => ⟨.str (Txt.mul z n), H, I.tok _, ⟨_, rfl⟩, q⟩
theorem brg_mulS : Brg2 K .e oMulS rMulS := by
  refine ⟨fun x y G H vx vy Q Q2 g rx ry q k => ?_, fun x y Q Q' i q => ?_⟩
  · cases x <;> cases y <;> first | exact q.elim | skip
    obtain ⟨z, q⟩ := q
    rw [rvO_str rx, rvO_int ry]
    exact ⟨_, _, rfl, rfl, z, k _ q G H _ (.refl g) (.str _)⟩
  · cases x <;> cases y <;> first | exact q.elim | skip
    exact ⟨q.1, i _ q.2⟩

/-! ### == and != of data, in -/
def D.ok (d : D) : Prop := d.isP = true ∧ SeqAt.shaped d.py = true
def oEq : Op2 := fun x y Q => x.ok ∧ y.ok ∧ Q (.bl (PyData.eqv x.py y.py))
def oNe : Op2 := fun x y Q => x.ok ∧ y.ok ∧ Q (.bl (!PyData.eqv x.py y.py))
theorem brg_eq : Brg2 K .e oEq (rEqD K) := by
  refine ⟨fun x y G H vx vy Q Q2 g rx ry ⟨a, b, q⟩ k => ?_, fun x y Q Q' i ⟨a, b, q⟩ => ⟨a, b, i _ q⟩⟩
  exact ⟨_, _, rx.dp g a.1, ry.dp g b.1, a.2, b.2, k _ q G H _ (.refl g) (.bl _)⟩
theorem brg_ne : Brg2 K .e oNe (rNeD K) := by
  refine ⟨fun x y G H vx vy Q Q2 g rx ry ⟨a, b, q⟩ k => ?_, fun x y Q Q' i ⟨a, b, q⟩ => ⟨a, b, i _ q⟩⟩
  exact ⟨_, _, rx.dp g a.1, ry.dp g b.1, a.2, b.2, k _ q G H _ (.refl g) (.bl _)⟩
/-- in a list or tuple -/
def oIn (neg : Bool) : Op2
  | x, .lst ys, Q => x.ok ∧ (D.lst ys).ok ∧ Q (.bl (if neg = true then !(D.pys ys).any (fun z => PyData.eqv z x.py) else (D.pys ys).any fun z => PyData.eqv z x.py))
  | x, .xtp ys, Q => x.ok ∧ (D.xtp ys).ok ∧ Q (.bl (if neg = true then !(D.pys ys).any (fun z => PyData.eqv z x.py) else (D.pys ys).any fun z => PyData.eqv z x.py))
  | x, .tup ys, Q => x.ok ∧ (D.tup ys).ok ∧ Q (.bl (if neg = true then !(D.pys ys).any (fun z => PyData.eqv z x.py) else (D.pys ys).any fun z => PyData.eqv z x.py))
  | _, _, _ => False
/-- a sign in a text -/
def oInS (neg : Bool) : Op2
  | .str ⟨⟨[c]⟩⟩, .str z, Q => Q (.bl (if neg = true then !decide (c ∈ z.cps.toList) else decide (c ∈ z.cps.toList)))
  | _, _, _ => False
theorem op_in2 (neg : Bool) : OpR X (compareOp (if neg = true then .NotIn else .In)) (fun x y H Q => ∃ (c : Nat) (z : Str), x = .str ⟨#[c]⟩ ∧ y = .str z ∧ Q (.bl (if neg = true then !decide (c ∈ z.cps.toList) else decide (c ∈ z.cps.toList))) H) := by
  cases neg with
  | true => exact op_notIn_sign
  | false => exact op_in_sign
theorem brg_inS (neg : Bool) : Brg2 K .e (oInS neg) (fun x y H Q => ∃ (c : Nat) (z : Str), x = .str ⟨#[c]⟩ ∧ y = .str z ∧ Q (.bl (if neg = true then !decide (c ∈ z.cps.toList) else decide (c ∈ z.cps.toList))) H) := by
  refine ⟨fun x y G H vx vy Q Q2 g rx ry q k => ?_, fun x y Q Q' i q => ?_⟩
  · unfold oInS at q
    split at q
    · rw [rvO_str rx, rvO_str ry]
      exact ⟨_, _, rfl, rfl, k _ q G H _ (.refl g) (.bl _)⟩
    · exact q.elim
  · unfold oInS at q ⊢
    split at q
    · exact i _ q
    · exact q.elim
def rInQ (K : PySem.W.Frag) (neg : Bool) : R2 := fun x y H Q => ∃ d ds, Dp K H x d ∧ (Dp K H y (.list ds) ∧ SeqAt.shaped (.list ds) = true ∨ Dp K H y (.tuple ds) ∧ SeqAt.shaped (.tuple ds) = true) ∧ SeqAt.shaped d = true ∧
  Q (.bl (if neg = true then !(ds.any fun z => PyData.eqv z d) else ds.any fun z => PyData.eqv z d)) H
end
end Tw

namespace Tw
open PySem PySem.Spec L2 PyProof.Rows
section
variable {X : Cx} {K : PySem.W.Frag}
theorem op_inQ (hu : X.A.units + 65 < cLine) : OpR X (compareOp .In) (rInQ X.K false) := by
  intro pins s σ H x y v u Q I rx ry h
  obtain ⟨d, ds, hd, he, sd, q⟩ := h
  obtain ⟨as, r1⟩ := Dp.reads I d x v hd rx
  rcases he with ⟨he, se⟩ | ⟨he, se⟩
  · obtain ⟨bs, r2⟩ := Dp.reads I (.list ds) y u he ry
    exact SeqAt.in_list_reads r2 r1 (SeqAt.canLay_of_shaped se) (SeqAt.canLay_of_shaped sd) (room_in_shaped sd hu) ⟨.bl _, H, I, rfl, q⟩
  · obtain ⟨bs, r2⟩ := Dp.reads I (.tuple ds) y u he ry
    exact SeqAt.in_tuple_reads r2 r1 (SeqAt.canLay_of_shaped se) (SeqAt.canLay_of_shaped sd) (room_in_shaped sd hu) ⟨.bl _, H, I, rfl, q⟩
theorem op_notInQ (hu : X.A.units + 65 < cLine) : OpR X (compareOp .NotIn) (rInQ X.K true) := by
  intro pins s σ H x y v u Q I rx ry h
  obtain ⟨d, ds, hd, he, sd, q⟩ := h
  obtain ⟨as, r1⟩ := Dp.reads I d x v hd rx
  rcases he with ⟨he, se⟩ | ⟨he, se⟩
  · obtain ⟨bs, r2⟩ := Dp.reads I (.list ds) y u he ry
    exact SeqAt.notIn_list_reads r2 r1 (SeqAt.canLay_of_shaped se) (SeqAt.canLay_of_shaped sd) (room_in_shaped sd hu) ⟨.bl _, H, I, rfl, q⟩
  · obtain ⟨bs, r2⟩ := Dp.reads I (.tuple ds) y u he ry
    exact SeqAt.notIn_tuple_reads r2 r1 (SeqAt.canLay_of_shaped se) (SeqAt.canLay_of_shaped sd) (room_in_shaped sd hu) ⟨.bl _, H, I, rfl, q⟩
theorem brg_in (neg : Bool) : Brg2 K .e (oIn neg) (rInQ K neg) := by
  refine ⟨fun x y G H vx vy Q Q2 g rx ry q k => ?_, fun x y Q Q' i q => ?_⟩
  · unfold oIn at q
    split at q
    · obtain ⟨a, b, q⟩ := q
      have h := ry.dp g b.1
      have sb := b.2
      rw [D.py] at h sb
      exact ⟨_, _, rx.dp g a.1, .inl ⟨h, sb⟩, a.2, k _ q G H _ (.refl g) (.bl _)⟩
    · obtain ⟨a, b, q⟩ := q
      have h := ry.dp g b.1
      have sb := b.2
      rw [D.py] at h sb
      exact ⟨_, _, rx.dp g a.1, .inr ⟨h, sb⟩, a.2, k _ q G H _ (.refl g) (.bl _)⟩
    · obtain ⟨a, b, q⟩ := q
      have h := ry.dp g b.1
      have sb := b.2
      rw [D.py] at h sb
      exact ⟨_, _, rx.dp g a.1, .inr ⟨h, sb⟩, a.2, k _ q G H _ (.refl g) (.bl _)⟩
    · exact q.elim
  · unfold oIn at q ⊢
    split at q
    · exact ⟨q.1, q.2.1, i _ q.2.2⟩
    · exact ⟨q.1, q.2.1, i _ q.2.2⟩
    · exact ⟨q.1, q.2.1, i _ q.2.2⟩
    · exact q.elim

/-! ### is None, is not None -/
def D.isN : D → Bool
  | .non => true
  | _ => false
def oIsN (neg : Bool) : Op2
  | x, .non, Q => Q (.bl (if neg = true then !x.isN else x.isN))
  | _, _, _ => False
theorem rp_non {G H : Hp} {d : D} {v : V} (h : RvO K G H d v) : decide (v = .non) = d.isN := by
  rcases h with h | ⟨p, o, rfl, e, t⟩
  · cases h <;> simp [D.isN]
  · cases d <;> cases o <;> first | exact t.elim | simp [D.isN]
theorem brg_isN : Brg2 K .e (oIsN false) (fun x y H Q => y = .non ∧ Q (.bl (decide (x = .non))) H) := by
  refine ⟨fun x y G H vx vy Q Q2 g rx ry q k => ?_, fun x y Q Q' i q => ?_⟩
  · cases y <;> first | exact q.elim | skip
    exact ⟨rvO_non ry, by rw [rp_non rx]; exact k _ q G H _ (.refl g) (.bl _)⟩
  · cases y <;> first | exact q.elim | skip
    exact i _ q
theorem brg_notN : Brg2 K .e (oIsN true) (fun x y H Q => y = .non ∧ Q (.bl (!decide (x = .non))) H) := by
  refine ⟨fun x y G H vx vy Q Q2 g rx ry q k => ?_, fun x y Q Q' i q => ?_⟩
  · cases y <;> first | exact q.elim | skip
    exact ⟨rvO_non ry, by rw [rp_non rx]; exact k _ q G H _ (.refl g) (.bl _)⟩
  · cases y <;> first | exact q.elim | skip
    exact i _ q

/-! ### items -/
theorem atI_get {G : Hp} {ds : List D} {vs : List V} {i : Int} {d : D} (r : Rps K G ds vs) (h : atI ds i = some d) : ∃ v, atI vs i = some v ∧ Rp K G d v := by
  unfold atI at h ⊢
  rw [← r.length]
  cases e : ixN ds.length i with
  | none => rw [e] at h; cases h
  | some j =>
    rw [e] at h
    exact r.get (i := j) h
def oIx : Op2
  | .lst xs, .int i, Q => ∃ d, atI xs i = some d ∧ Q d
  | .fls xs, .int i, Q => ∃ d, atI xs i = some d ∧ Q d
  | .tup xs, .int i, Q => ∃ d, atI xs i = some d ∧ Q d
  | .str z, .int i, Q => z.length ≤ sizeLine ∧ ∃ c, atI z.cps.toList i = some c ∧ Q (.str ⟨#[c]⟩)
  | _, _, _ => False
theorem brg_ix : Brg2 K .e oIx (rIx K) := by
  refine ⟨fun x y G H vx vy Q Q2 g rx ry q k => ?_, fun x y Q Q' i q => ?_⟩
  · cases x <;> cases y <;> first | exact q.elim | skip
    · obtain ⟨z, c, hc, q⟩ := q
      rw [rvO_str rx, rvO_int ry]
      exact .inr (.inr ⟨_, _, c, rfl, rfl, z, hc, k _ q G H _ (.refl g) (.str _)⟩)
    · obtain ⟨d, hd, q⟩ := q
      obtain ⟨p, vs, rfl, h1, r1⟩ := rvO_tup g rx
      obtain ⟨v, hv, rv⟩ := atI_get r1 hd
      rw [rvO_int ry]
      exact .inr (.inl ⟨p, vs, _, v, rfl, rfl, h1, hv, k _ q G H _ (.refl g) rv⟩)
    · obtain ⟨d, hd, q⟩ := q
      obtain ⟨p, vs, rfl, h1, r1⟩ := rvO_lst g rx
      obtain ⟨v, hv, rv⟩ := atI_get r1 hd
      rw [rvO_int ry]
      exact .inl ⟨p, vs, _, v, rfl, rfl, SqL.of h1, hv, k _ q G H _ (.refl g) rv⟩
    · obtain ⟨d, hd, q⟩ := q
      obtain ⟨p, vs, rfl, h1, r1⟩ := rvO_fls g rx
      obtain ⟨v, hv, rv⟩ := atI_get r1 hd
      rw [rvO_int ry]
      exact .inl ⟨p, vs, _, v, rfl, rfl, h1, hv, k _ q G H _ (.refl g) rv⟩
  · cases x <;> cases y <;> first | exact q.elim | skip
    · obtain ⟨z, c, h, q⟩ := q; exact ⟨z, c, h, i _ q⟩
    all_goals (obtain ⟨d, h, q⟩ := q; exact ⟨d, h, i _ q⟩)

/-! ### slices -/
abbrev OpS := D → Option Int → Option Int → (D → Prop) → Prop
def cutD (xs : List D) (lo hi : Option Int) : List D := (xs.drop (HT.sIx xs.length 0 lo)).take (HT.sIx xs.length xs.length hi - HT.sIx xs.length 0 lo)
theorem rps_cut {G : Hp} {ds : List D} {vs : List V} (r : Rps K G ds vs) (lo hi : Option Int) : Rps K G (cutD ds lo hi) (cutV vs lo hi) := by
  unfold cutD cutV
  rw [r.length]
  exact (r.drop _).take _
structure BrgS (K : PySem.W.Frag) (k : Kd) (op : OpS) (r : V → Option Int → Option Int → Hp → VK → Prop) : Prop where
  go : ∀ (x : D) (lo hi : Option Int) (G H : Hp) (vx : V) (Q : D → Prop) (Q2 : VK), Same G H → RvO K G H x vx → op x lo hi Q → (∀ d, Q d → ∀ G' H' v, Ext G H G' H' → RvK K k H G' H' d v → Q2 v H') → r vx lo hi H Q2
  mo : ∀ x lo hi (Q Q' : D → Prop), (∀ d, Q d → Q' d) → op x lo hi Q → op x lo hi Q'
def oSlL : OpS
  | .lst xs, lo, hi, Q => Q (.lst (cutD xs lo hi))
  | .fls xs, lo, hi, Q => Q (.lst (cutD xs lo hi))
  | _, _, _, _ => False
theorem brg_slL : BrgS K .f oSlL (rSlL K) := by
  refine ⟨fun x lo hi G H vx Q Q2 g rx q k => ?_, fun x lo hi Q Q' i q => ?_⟩
  · cases x <;> first | exact q.elim | skip
    · obtain ⟨p, vs, rfl, h1, r1⟩ := rvO_lst g rx
      refine ⟨p, vs, rfl, SqL.of h1, fun l hl => ?_⟩
      exact k _ q _ _ _ (Ext.newH g hl) ⟨l, _, rfl, hl, upd_same, rps_cut r1 lo hi, g.free hl⟩
    · obtain ⟨p, vs, rfl, h1, r1⟩ := rvO_fls g rx
      refine ⟨p, vs, rfl, h1, fun l hl => ?_⟩
      exact k _ q _ _ _ (Ext.newH g hl) ⟨l, _, rfl, hl, upd_same, rps_cut r1 lo hi, g.free hl⟩
  · cases x <;> first | exact q.elim | exact i _ q
def oSlT : OpS
  | .tup xs, lo, hi, Q => Q (.tup (cutD xs lo hi))
  | _, _, _, _ => False
theorem brg_slT : BrgS K .e oSlT (rSlA K) := by
  refine ⟨fun x lo hi G H vx Q Q2 g rx q k => ?_, fun x lo hi Q Q' i q => ?_⟩
  · cases x <;> first | exact q.elim | skip
    obtain ⟨p, vs, rfl, h1, r1⟩ := rvO_tup g rx
    refine ⟨p, vs, rfl, h1, fun e => ?_, fun _ l hl => ?_⟩
    · have r2 := rps_cut r1 lo hi
      have e2 : cutV vs lo hi = vs := by unfold cutV; rw [e.1, e.2]; simp
      rw [e2] at r2
      refine k _ q G H _ (.refl g) ?_
      rcases rx with h | ⟨_, o, _, _, t⟩
      · cases h with | tup hq r3 => exact .tup hq (by
          have := r2.length
          unfold cutD
          rw [r1.length, e.1, e.2]
          have e3 := r3.length
          have e4 := r1.length
          rw [List.drop_zero, Nat.sub_zero, List.take_of_length_le (by omega)]
          exact r3)
      · cases o <;> exact t.elim
    · have x2 := Ext.new (o := .tup (cutV vs lo hi)) g hl
      exact k _ q _ _ _ x2 (.tup (SqT.of upd_same) ((rps_cut r1 lo hi).mono x2.gg))
  · cases x <;> first | exact q.elim | exact i _ q
def oSlS : OpS
  | .str z, lo, hi, Q => z.length ≤ sizeLine ∧ Q (.str (cutS z lo hi))
  | _, _, _, _ => False
theorem brg_slS : BrgS K .e oSlS rSlS := by
  refine ⟨fun x lo hi G H vx Q Q2 g rx q k => ?_, fun x lo hi Q Q' i q => ?_⟩
  · cases x <;> first | exact q.elim | skip
    rw [rvO_str rx]
    exact ⟨_, rfl, q.1, k _ q.2 G H _ (.refl g) (.str _)⟩
  · cases x <;> first | exact q.elim | exact ⟨q.1, i _ q.2⟩
abbrev Wo := XC → Evn → (Option Int → Prop) → Prop
def liftO (K : PySem.W.Frag) (E : XK) (w : Wo) : TO := fun σ H Q => ∃ G0 H0 G ρ xc, Rel K G0 H0 G ρ σ H ∧ TieX K G0 H0 E xc ∧ w xc ρ fun d => ∀ G' H', Ext G H G' H' → Q d H'
structure OJ (E : XK) (X : Cx) (e : Option Expr) (w : Wo) : Prop where
  po : PO X e (liftO X.K E w)
  mo : ∀ xc ρ (Q Q' : Option Int → Prop), (∀ d, Q d → Q' d) → w xc ρ Q → w xc ρ Q'
def woN : Wo := fun _ _ Q => Q none
def woS (w : Wx) : Wo := fun xc ρ Q => w xc ρ fun d => ∃ i, d = .int i ∧ Q (some i)
theorem PO.imp {X : Cx} {e : Option Expr} {t t' : TO} (h : PO X e t) (i : ∀ σ H Q, t' σ H Q → t σ H Q) : PO X e t' := ⟨fun pins s σ H Q I q => h.run pins s σ H Q I (i _ _ _ q)⟩
variable {E : XK} {e a b c : Expr} {w wa wb wc : Wx} {k ka kb : Kd} {pos : Pos}
theorem oj_none : OJ E X none woN := ⟨PO.imp po_none fun σ H Q ⟨G0, H0, G, ρ, xc, R, T, q⟩ => q G H (.refl R.gh), fun _ _ _ _ i q => i _ q⟩
theorem oj_some (h : EJ k E X e w) : OJ E X (some e) (woS w) := by
  refine ⟨PO.imp (po_some h.pe) fun σ H Q ⟨G0, H0, G, ρ, xc, R, T, q⟩ => ⟨G0, H0, G, ρ, xc, R, T, h.mo _ _ _ _ (fun d ⟨i, e, q1⟩ G1 H1 v x1 r1 => ?_) q⟩, fun _ _ _ _ i q => h.mo _ _ _ _ (fun d ⟨j, e, q⟩ => ⟨j, e, i _ q⟩) q⟩
  subst e
  exact ⟨i, rvO_int r1.o, q1 G1 H1 x1⟩
def wSl (op : OpS) (wa : Wx) (lo hi : Wo) : Wx := fun xc ρ Q => wa xc ρ fun x => lo xc ρ fun l => hi xc ρ fun u => op x l u Q
theorem ej_sl {op : OpS} {r : V → Option Int → Option Int → Hp → VK → Prop} {lo hi : Option Expr} {wl wu : Wo} {p2 : Pos} (hr : SlR X r) (B : BrgS X.K k op r) (ha : EJ ka E X a wa) (hl : OJ E X lo wl) (hu : OJ E X hi wu) :
    EJ k E X (.Subscript a (.Slice lo hi none p2) pos) (wSl op wa wl wu) := by
  refine ⟨(pe_slice hr ha.pe hl.po hu.po).imp fun σ H Q ⟨G0, H0, G, ρ, xc, R, T, q⟩ => ⟨G0, H0, G, ρ, xc, R, T, ha.mo _ _ _ _ (fun x q1 G1 H1 v1 x1 r1 => ?_) q⟩, fun xc ρ Q Q' i q => ha.mo _ _ _ _ (fun x q => hl.mo _ _ _ _ (fun l q => hu.mo _ _ _ _ (fun u q => B.mo _ _ _ _ _ i q) q) q) q⟩
  refine ⟨G0, H0, G1, ρ, xc, R.ext x1, T, hl.mo _ _ _ _ (fun l q2 G2 H2 x2 => ?_) q1⟩
  refine ⟨G0, H0, G2, ρ, xc, (R.ext x1).ext x2, T, hu.mo _ _ _ _ (fun u q3 G3 H3 x3 => ?_) q2⟩
  have x13 := x2.trans x3
  exact B.go x l u G3 H3 v1 _ _ x3.gh (r1.o.ext x13) q3 fun d q4 G' H' v x4 r4 => q4 G' H' v (x1.trans (x13.trans x4)) (rv_later (x1.trans x13).hh r4)
theorem ej_ix (ha : EJ ka E X a wa) (hb : EJ kb E X b wb) (hs : PlainIx b) : EJ .e E X (.Subscript a b pos) (w2 oIx wa wb) := ej_2 ha hb (pe_ix ix_seq ha.pe hb.pe hs) brg_ix
end
end Tw

/-! Tw, part S: sorted(set(xs)), xs a list of ints. -/
namespace Tw
open PySem PySem.Spec L2 PyProof.Rows
section
variable {P : Program} {w : World} {A : Around} {E : Value → Shared → Prop} {s : Shared}
abbrev fresh0 (w : World) : Obj := { cls := .type "set", dict := none, data := .set #[] 0 (.fresh 0 0 (!w.params.followText "set-order")) }
/-- the loop of set.update over ints -/
theorem upd_ints {it : Addr} {fp wr : List Addr} {Gs : Array GenState → Array GenState → Prop} {n : Nat} {Pv : Nat → Value → Prop} {St : Nat → Shared → Prop} {R : Result → Shared → Prop}
    (Wk : WalksS P w A.in1 it fp wr Gs n Pv St) (z : Addr) (zf : z ∉ fp) (ns : List Int) (en : n = ns.length) (few : ns.length < 64) (val : ∀ i v, Pv i v → ∃ k t, ns[i]? = some k ∧ v = .int k t)
    (h0 : Heap) (z0 : h0.get? z = none) (w0 : ∀ b ∈ wr, h0.get? b = none) :
    ∀ (j i : Nat) (s : Shared), n - i = j → i ≤ n → St i s → (∀ b o, h0.get? b = some o → s.heap.get? b = some o) → (∃ m, m ≤ i ∧ SetR w s.heap z (fun k => decide (k ∈ ns.take i)) m) →
      (∀ s' m, Moved (z :: wr) Gs s s' → m ≤ n → SetR w s'.heap z (fun k => decide (k ∈ ns.take n)) m → (∀ b o, h0.get? b = some o → s'.heap.get? b = some o) → R (.ok (.ret .none)) s') →
      codeAny (model P w) A (.builtin "set.update.loop" ⟨[.ref z, .ref it], []⟩) R s := by
  have zw : z ∉ wr := fun q => zf (Wk.sub _ q)
  have up : ∀ b ∈ wr, b ∈ z :: wr := fun b q => List.mem_cons_of_mem _ q
  have held : ∀ {s s' : Shared}, Moved wr Gs s s' → (∀ b o, h0.get? b = some o → s.heap.get? b = some o) → ∀ b o, h0.get? b = some o → s'.heap.get? b = some o := fun mv kp b o q =>
    mv.heap b o (fun hb => by rw [w0 b hb] at q; cases q) (kp b o q)
  intro j
  induction j with
  | zero =>
    intro i s ej hi st kp ⟨m, hm, hz⟩ fin
    obtain rfl : i = n := by omega
    refine codeAny_builtin F.entry_set_update_loop ?_
    rw [Around.under_plainId F.plain_set_update_loop _]
    show wpAny _ A.in1 (pyNext (.ref it) >>= _) _ _ s
    refine wpAny_bind (Wk.done s _ _ st fun s' mv => ?_)
    show wpAny _ A.in1 (ret Value.none) _ _ s'
    exact wpAny_pure (fin s' m (mv.mono up) hm (hz.at fun o q => mv.heap z o zw q) (held mv kp))
  | succ j ih =>
    intro i s ej hi st kp ⟨m, hm, hz⟩ fin
    have lt : i < n := by omega
    refine codeAny_builtin F.entry_set_update_loop ?_
    rw [Around.under_plainId F.plain_set_update_loop _]
    show wpAny _ A.in1 (pyNext (.ref it) >>= _) _ _ s
    refine wpAny_bind (Wk.item i s _ _ lt st fun v s' pv' st' mv => ?_)
    obtain ⟨k, t, hk, rfl⟩ := val i v pv'
    have kp' := held mv kp
    have hz' : SetR w s'.heap z _ m := hz.at fun o q => mv.heap z o zw q
    show wpAny _ A.in1 (holding [Value.int k t] (setAdd z (.int k t)) >>= _) _ _ s'
    refine wpAny_bind (wpAny_holding ?_)
    unfold setAdd
    refine wpAny_holding ?_
    refine wpAny_bind (wpAny_pyHash_int ?_)
    refine setR_add_hashed (P := P) hz' (by unfold scanBound; omega) fun h' sb r => ?_
    have tk : ns.take (i + 1) = ns.take i ++ [k] := by rw [List.take_succ, hk]; rfl
    have kp2 : ∀ b o, h0.get? b = some o → h'.get? b = some o := fun b o q => (sb.2 b (fun e => by rw [e, z0] at q; cases q)).trans (kp' b o q)
    have fr : ∀ b ∈ fp, ∀ o, s'.heap.get? b = some o → h'.get? b = some o := fun b hb o q => by
      rw [sb.2 b (fun e => zf (by rw [← e]; exact hb))]; exact q
    refine wpAny_pure ⟨plainId_quiet F.plain_set_update_loop _, ih (i + 1) _ (by omega) lt (Wk.frame _ s' _ _ st' (Nat.le_add_right _ _) fr) kp2 ?_ fun s'' m2 mv2 hm2 hz2 kp3 => ?_⟩
    · refine ⟨_, ?_, r.congr fun q => ?_⟩
      · split <;> omega
      · rw [tk]; simp only [List.mem_append, List.mem_singleton]
        by_cases a : q ∈ ns.take i <;> by_cases b : q = k <;> simp [a, b]
    · refine fin s'' m2 (Moved.trans Wk.gtrans ((mv.mono up).then_heap (Nat.le_add_right _ _) fun b o hb q => ?_) mv2) hm2 hz2 kp3
      rw [sb.2 b (fun e => hb (by rw [e]; exact List.mem_cons_self))]; exact q

set_option maxHeartbeats 3200000 in
/-- set(xs) of ints -/
theorem call_setI {l : Addr} {items : Array Value} (ns : List Int) {Q : Value → Shared → Prop} (hh : A.handled = none) (il : s.heap.IsList l items) (ii : IntsAre items.toList ns) (few : ns.length < 64)
    (h : ∀ (h' : Heap) (tk : Nat) m, m ≤ ns.length → SetR w h' s.heap.objs.size (fun k => decide (k ∈ ns)) m → (∀ b o, s.heap.get? b = some o → h'.get? b = some o) → Q (.ref s.heap.objs.size) { s with heap := h', toks := tk }) :
    wpAny (model P w) A (call (.type "set") [.ref l]) Q E s := by
  have sz : items.size = ns.length := by
    have q := ii.length
    rw [Array.length_toList] at q
    exact q
  obtain ⟨c, tl, hmro⟩ := F.called_set.mro
  have c1 := F.called_set.made
  have c2 := F.called_set.sub
  refine wpAny_call (codeAny_of_tree ?_)
  show wpAny _ _ (callAny (.type "set") _) _ _ _
  refine wpAny_pure ⟨Code.quiet_builtin _ (by decide +kernel), codeAny_builtin F.entry_type_call ?_⟩
  rw [Around.under_plain (weight_type_call_type "set" [.ref l] []) rfl]
  have c3 := F.called_set.notType
  have c4 := F.called_set.canCreate
  have c5 := F.typeCall_set_1 (.ref l)
  repeat (any_goals (first | assumption | wp_step))
  refine codeAny_mono (code_set_led1 (.ref l) (E := E) (Q₁ := fun obj s₁ => obj = .ref s.heap.objs.size ∧ s₁ = { s with heap := s.heap.push (fresh0 w) }) ⟨rfl, rfl⟩) fun r s₁ hr => ?_
  cases r with
  | error e => exact hr
  | ok fl =>
    cases fl with
    | ret obj =>
      obtain ⟨rfl, rfl⟩ := hr
      have hS : (s.heap.push (fresh0 w)).get? s.heap.objs.size = some (fresh0 w) := Heap.get?_push_size _ rfl
      have hT : Shared.TypeIs { s with heap := s.heap.push (fresh0 w) } (.ref s.heap.objs.size) "set" := ⟨_, hS, rfl⟩
      have c6 := F.called_set.init.lookup
      have c7 := F.called_set.init.bind (.ref s.heap.objs.size)
      repeat (any_goals (first | assumption | wp_step))
      refine codeAny_mono (codeAny_call_builtin (R := wants (fun r s₂ => r = .none ∧ ∃ h' tk m, s₂ = { s with heap := h', toks := tk } ∧ m ≤ ns.length ∧ SetR w h' s.heap.objs.size (fun k => decide (k ∈ ns)) m ∧
          (∀ b o, s.heap.get? b = some o → h'.get? b = some o)) E) F.called_set.init.plain F.entry_set_init (check_set_init_1 hT ?_)) fun r₂ s₂ hr₂ => ?_
      · obtain ⟨ol, hol, hcl, nl, hdl⟩ := il
        obtain ⟨ocls, odict, odata, oslots⟩ := ol
        simp only at hcl hdl
        subst hcl; subst hdl
        have hol' : (s.heap.push (fresh0 w)).get? l = some { cls := .type "list", dict := odict, data := .seq items nl, slots := oslots } := Heap.get?_push_of_some _ hol
        have d1 := F.sub_list_set
        have d2 := F.sub_list_frozenset
        have d3 : (Value.type "list" == Value.type "dict") = false := by decide
        have hl1 : (s.heap.push (fresh0 w)).IsList l items := ⟨_, hol', rfl, nl, rfl⟩
        unfold Builtin.«set.__init__» noKeywords Builtin.Frozenset.updateFrom
        generalize hPI : pyIter = PI
        wp_walk
        subst hPI
        refine wpAny_pyIter_list hl1 ?_
        refine wpAny_bind (wpAny_runValue ?_)
        have ls : l < s.heap.objs.size := Heap.lt_size hol
        have hh3 : A.in1.in1.in1.handled = none := by simp [hh]
        have nI : l ≠ (s.heap.push (fresh0 w)).objs.size := by
          rw [Heap.size_push]
          exact Nat.ne_of_lt (Nat.lt_succ_of_lt ls)
        have nf : s.heap.objs.size ∉ [(s.heap.push (fresh0 w)).objs.size, l] := by
          rw [Heap.size_push]; simp only [List.mem_cons, List.not_mem_nil, or_false, not_or]
          exact ⟨Nat.ne_of_lt (Nat.lt_succ_self _), Nat.ne_of_gt ls⟩
        have val : ∀ (i : Nat) (v : Value), items[i]? = some v → ∃ k t, ns[i]? = some k ∧ v = .int k t := fun i v hv => by
          have q : items.toList[i]? = some v := by rw [Array.getElem?_toList]; exact hv
          have lt2 : i < ns.length := by
            rw [← sz]; exact (Array.getElem?_eq_some_iff.mp hv).1
          obtain ⟨t, e⟩ := ii.int_at i v q
          exact ⟨ns.getD i 0, t, by rw [List.getD_eq_getElem?_getD, List.getElem?_eq_getElem lt2]; rfl, e⟩
        have nn : ∀ b, s.heap.objs.size ≤ b → s.heap.get? b = none := fun b hb => by
          cases q : s.heap.get? b with
          | none => rfl
          | some o => exact absurd (Nat.lt_of_lt_of_le (Heap.lt_size q) hb) (Nat.lt_irrefl _)
        refine upd_ints ((Walks.list hh3 _ l nI items).toS) s.heap.objs.size nf ns sz few val s.heap (nn _ (Nat.le_refl _)) (fun b hb => nn b (by
            rw [List.mem_singleton.mp hb, Heap.size_push]
            exact Nat.le_succ _)) (items.size - 0) 0 _ (by omega) (Nat.zero_le _)
          ⟨⟨_, Heap.get?_push_size _ rfl, rfl, rfl⟩, (hl1.push _)⟩ (fun b o e => Heap.get?_push_of_some _ (Heap.get?_push_of_some _ e)) ?hS0 ?hR
        case hS0 =>
          refine ⟨0, Nat.le_refl _, ((setR_fresh (h := s.heap) w).at fun o e => Heap.get?_push_of_some _ e).congr fun k => by simp⟩
        case hR =>
          intro s' m mv hm hz kp
          obtain ⟨h', g2, d', tk', os'⟩ := s'
          have eg : g2 = s.gens := mv.gens
          have ed : d' = s.drawn := mv.drawn
          have eo : os' = s.os := mv.os
          subst eg; subst ed; subst eo
          show wpAny _ _ _ _ _ _
          refine wpAny_pure ?_
          show wpAny _ _ (ret Value.none) _ _ _
          rw [sz] at hm
          have et : ns.take items.size = ns := by rw [sz, List.take_length]
          rw [et] at hz
          exact wpAny_pure ⟨rfl, h', tk', m, rfl, hm, hz, kp⟩
      · cases r₂ with
        | error e => exact hr₂
        | ok fl₂ =>
          cases fl₂ with
          | ret r =>
            obtain ⟨rfl, h', tk, m, rfl, hm, hz, kp⟩ := hr₂
            repeat (any_goals (first | assumption | wp_step))
            exact h _ _ _ hm hz kp
          | _ => exact hr₂.elim
    | _ => exact hr.elim
end
section
variable {X : Cx}
def rSetI (K : PySem.W.Frag) (w : World) : List V → Hp → VK → Prop := fun xs H Q => ∃ (l : Addr) (ns : List Int), xs = [V.ref l] ∧ SqL K H l (ns.map V.int) ∧ ns.length < 64 ∧
  ∀ p m, H p = none → m ≤ ns.length → Q (.ref p) (upd H p (SetO w p (fun k => decide (k ∈ ns)) m))
theorem cr_setI (hc : X.calm = true) : CallR X (.type "set") (rSetI X.K X.w) := by
  intro pins s σ H xs us Q I r h
  obtain ⟨l, ns, rfl, hl, few, q⟩ := h
  rw [Vals.ref1 r]
  obtain ⟨its, rv, pl, hz⟩ := I.list hl
  have hn : H s.heap.objs.size = none := I.hok.fresh (Nat.le_refl _)
  refine call_setI ns (I.ok.hd hc) pl.isList (by simpa using ints_of_vals rv) few fun h' tk m hm R kp => ?_
  exact ⟨.ref s.heap.objs.size, _, I.laid (t' := tk) kp (Nat.le_refl _) (setO_new R), rfl, q _ m hn hm⟩
end
end Tw

/-! Tw, part D: built-in functions on data; calls of defs; statements. -/
namespace Tw
open PySem PySem.Spec L2 PyProof.Rows
section
variable {X : Cx} {K : PySem.W.Frag} {E : XK} {e a b c o : Expr} {es : List Expr} {w wa wb wc : Wx} {k ka kb : Kd} {pos p : Pos} {u : Wa}

/-! ### len, int, abs, list, tuple, sorted, any, all -/
theorem rvOs_1 {G H : Hp} {d : D} {vs : List V} (h : RvOs K G H [d] vs) : ∃ v, vs = [v] ∧ RvO K G H d v := by
  cases h with | cons h r => cases r; exact ⟨_, rfl, h⟩
def oLen : OpN
  | [.lst xs], Q => Q (.int xs.length)
  | [.fls xs], Q => Q (.int xs.length)
  | [.tup xs], Q => Q (.int xs.length)
  | [.xtp xs], Q => Q (.int xs.length)
  | [.str z], Q => z.length ≤ sizeLine ∧ Q (.int z.length)
  | _, _ => False
theorem brg_len : BrgN K .e oLen (fun xs H Q => ∃ x n, xs = [x] ∧ LenV K x H n ∧ Q (V.int ↑n) H) := by
  refine ⟨fun ds G H vs Q Q2 g r q kk => ?_, fun ds Q Q' i q => ?_⟩
  · unfold oLen at q
    split at q
    · obtain ⟨v, rfl, rv⟩ := rvOs_1 r
      obtain ⟨pp, vs, rfl, h1, r1⟩ := rvO_lst g rv
      exact ⟨_, _, rfl, .inl ⟨vs, SqL.of h1, r1.length⟩, kk _ q G H _ (.refl g) (.int _)⟩
    · obtain ⟨v, rfl, rv⟩ := rvOs_1 r
      obtain ⟨pp, vs, rfl, h1, r1⟩ := rvO_fls g rv
      exact ⟨_, _, rfl, .inl ⟨vs, h1, r1.length⟩, kk _ q G H _ (.refl g) (.int _)⟩
    · obtain ⟨v, rfl, rv⟩ := rvOs_1 r
      obtain ⟨pp, vs, rfl, h1, r1⟩ := rvO_tup g rv
      exact ⟨_, _, rfl, .inr ⟨vs, h1, r1.length⟩, kk _ q G H _ (.refl g) (.int _)⟩
    · obtain ⟨v, rfl, rv⟩ := rvOs_1 r
      obtain ⟨pp, vs, o, rfl, h1, _, _, r1⟩ := rvO_xtp g rv
      exact ⟨_, _, rfl, .inr ⟨vs, .inl (.inr ⟨_, h1⟩), r1.length⟩, kk _ q G H _ (.refl g) (.int _)⟩
    · obtain ⟨v, rfl, rv⟩ := rvOs_1 r
      rw [rvO_str rv]
      exact ⟨_, _, rfl, ⟨q.1, rfl⟩, kk _ q.2 G H _ (.refl g) (.int _)⟩
    · exact q.elim
  · unfold oLen at q ⊢
    split at q <;> first | exact i _ q | exact ⟨q.1, i _ q.2⟩ | exact q.elim
def oInt : OpN
  | [.int i], Q => Q (.int i)
  | [.bl k], Q => Q (.int (if k = true then 1 else 0))
  | _, _ => False
theorem brg_int : BrgN K .e oInt (fun xs H Q => (∃ i, xs = [V.int i] ∧ Q (V.int i) H) ∨ ∃ k, xs = [V.bl k] ∧ Q (V.int (if k = true then 1 else 0)) H) := by
  refine ⟨fun ds G H vs Q Q2 g r q kk => ?_, fun ds Q Q' i q => ?_⟩
  · unfold oInt at q
    split at q
    · obtain ⟨v, rfl, rv⟩ := rvOs_1 r
      rw [rvO_int rv]
      exact .inl ⟨_, rfl, kk _ q G H _ (.refl g) (.int _)⟩
    · obtain ⟨v, rfl, rv⟩ := rvOs_1 r
      rw [rvO_bl rv]
      exact .inr ⟨_, rfl, kk _ q G H _ (.refl g) (.int _)⟩
    · exact q.elim
  · unfold oInt at q ⊢
    split at q <;> first | exact i _ q | exact q.elim
def oAbs : OpN
  | [.int i], Q => Q (.int (if i < 0 then -i else i))
  | _, _ => False
theorem brg_abs : BrgN K .e oAbs (fun xs H Q => ∃ i, xs = [V.int i] ∧ Q (V.int (if i < 0 then -i else i)) H) := by
  refine ⟨fun ds G H vs Q Q2 g r q kk => ?_, fun ds Q Q' i q => ?_⟩
  · unfold oAbs at q
    split at q
    · obtain ⟨v, rfl, rv⟩ := rvOs_1 r
      rw [rvO_int rv]
      exact ⟨_, rfl, kk _ q G H _ (.refl g) (.int _)⟩
    · exact q.elim
  · unfold oAbs at q ⊢
    split at q <;> first | exact i _ q | exact q.elim
/-- list(x): a new list -/
def oList : OpN
  | [.lst xs], Q => Q (.lst xs)
  | [.fls xs], Q => Q (.lst xs)
  | [.tup xs], Q => Q (.lst xs)
  | _, _ => False
theorem brg_list : BrgN K .f oList (fun xs H Q => ∃ p ys, xs = [V.ref p] ∧ (SqL K H p ys ∨ SqT K H p ys) ∧ ∀ (l : Addr), H l = none → Q (V.ref l) (upd H l (HO.lst ys))) := by
  refine ⟨fun ds G H vs Q Q2 g r q kk => ?_, fun ds Q Q' i q => ?_⟩
  · have fin : ∀ {xs : List D} {vs : List V}, Q (.lst xs) → Rps K G xs vs → ∀ l, H l = none → Q2 (V.ref l) (upd H l (HO.lst vs)) := fun q r1 l hl =>
      kk _ q _ _ _ (Ext.newH g hl) ⟨l, _, rfl, hl, upd_same, r1, g.free hl⟩
    unfold oList at q
    split at q
    · obtain ⟨v, rfl, rv⟩ := rvOs_1 r
      obtain ⟨pp, vs, rfl, h1, r1⟩ := rvO_lst g rv
      exact ⟨pp, vs, rfl, .inl (SqL.of h1), fin q r1⟩
    · obtain ⟨v, rfl, rv⟩ := rvOs_1 r
      obtain ⟨pp, vs, rfl, h1, r1⟩ := rvO_fls g rv
      exact ⟨pp, vs, rfl, .inl h1, fin q r1⟩
    · obtain ⟨v, rfl, rv⟩ := rvOs_1 r
      obtain ⟨pp, vs, rfl, h1, r1⟩ := rvO_tup g rv
      exact ⟨pp, vs, rfl, .inr h1, fin q r1⟩
    · exact q.elim
  · unfold oList at q ⊢
    split at q <;> first | exact i _ q | exact q.elim
def oTuple : OpN
  | [.lst xs], Q => Q (.tup xs)
  | [.fls xs], Q => Q (.tup xs)
  | [.tup xs], Q => Q (.tup xs)
  | _, _ => False
theorem brg_tuple : BrgN K .e oTuple (fun xs H Q => ∃ p ys, xs = [V.ref p] ∧ ((SqL K H p ys ∧ ∀ (l : Addr), H l = none → Q (V.ref l) (upd H l (HO.tup ys))) ∨ SqT K H p ys ∧ Q (V.ref p) H)) := by
  refine ⟨fun ds G H vs Q Q2 g r q kk => ?_, fun ds Q Q' i q => ?_⟩
  · have fin : ∀ {xs : List D} {vs : List V}, Q (.tup xs) → Rps K G xs vs → ∀ l, H l = none → Q2 (V.ref l) (upd H l (HO.tup vs)) := fun {xs vs} q r1 l hl => by
      have x2 := Ext.new (o := .tup vs) g hl
      exact kk _ q _ _ _ x2 (.tup (SqT.of upd_same) (r1.mono x2.gg))
    unfold oTuple at q
    split at q
    · obtain ⟨v, rfl, rv⟩ := rvOs_1 r
      obtain ⟨pp, vs, rfl, h1, r1⟩ := rvO_lst g rv
      exact ⟨pp, vs, rfl, .inl ⟨SqL.of h1, fin q r1⟩⟩
    · obtain ⟨v, rfl, rv⟩ := rvOs_1 r
      obtain ⟨pp, vs, rfl, h1, r1⟩ := rvO_fls g rv
      exact ⟨pp, vs, rfl, .inl ⟨h1, fin q r1⟩⟩
    · obtain ⟨v, rfl, rv⟩ := rvOs_1 r
      rcases rv with rv | ⟨_, o, _, _, t⟩
      · cases rv with | tup h1 r1 => exact ⟨_, _, rfl, .inr ⟨sqT_mono g h1, kk _ q G H _ (.refl g) (.tup h1 r1)⟩⟩
      · cases o <;> exact t.elim
    · exact q.elim
  · unfold oTuple at q ⊢
    split at q <;> first | exact i _ q | exact q.elim
theorem rps_ints {G : Hp} : ∀ {ns : List Int} {vs : List V}, Rps K G (ns.map .int) vs → vs = ns.map .int
  | [], _, .nil => rfl
  | n :: ns, _, .cons h r => by
    cases h
    rw [rps_ints r]; rfl
theorem ints_rps {G : Hp} : ∀ ns : List Int, Rps K G (ns.map .int) (ns.map .int)
  | [] => .nil
  | n :: ns => .cons (.int n) (ints_rps ns)
theorem rps_bls {G : Hp} : ∀ {ns : List Bool} {vs : List V}, Rps K G (ns.map .bl) vs → vs = ns.map .bl
  | [], _, .nil => rfl
  | n :: ns, _, .cons h r => by
    cases h
    rw [rps_bls r]; rfl
/-- sorted(x), x a list of ints -/
def oSortI : OpN := fun ds Q => ∃ ns : List Int, ds = [.lst (ns.map .int)] ∧ ∀ ms : List Int, ms.Perm ns → ms.Pairwise (· ≤ ·) → Q (.lst (ms.map .int))
theorem brg_sortI : BrgN K .f oSortI (rSortedI K) := by
  refine ⟨fun ds G H vs Q Q2 g r ⟨ns, ed, q⟩ kk => ?_, fun ds Q Q' i ⟨ns, ed, q⟩ => ⟨ns, ed, fun ms a b => i _ (q ms a b)⟩⟩
  subst ed
  obtain ⟨v, rfl, rv⟩ := rvOs_1 r
  obtain ⟨pp, vs, rfl, h1, r1⟩ := rvO_lst g rv
  refine ⟨pp, ns, rfl, SqL.of (by rw [h1, rps_ints r1]), fun ms l hp hs hl => ?_⟩
  exact kk _ (q ms hp hs) _ _ _ (Ext.newH g hl) ⟨l, _, rfl, hl, upd_same, ints_rps ms, g.free hl⟩
/-- any, all of a list of truth values -/
def oAny : OpN := fun ds Q => ∃ bs : List Bool, ds = [.lst (bs.map .bl)] ∧ Q (.bl (bs.any id))
def oAll : OpN := fun ds Q => ∃ bs : List Bool, ds = [.lst (bs.map .bl)] ∧ Q (.bl (bs.all id))
theorem brg_any : BrgN K .e oAny (rAny K) := by
  refine ⟨fun ds G H vs Q Q2 g r ⟨ns, ed, q⟩ kk => ?_, fun ds Q Q' i ⟨ns, ed, q⟩ => ⟨ns, ed, i _ q⟩⟩
  subst ed
  obtain ⟨v, rfl, rv⟩ := rvOs_1 r
  obtain ⟨pp, vs, rfl, h1, r1⟩ := rvO_lst g rv
  exact ⟨pp, ns, rfl, SqL.of (by rw [h1, rps_bls r1]), kk _ q G H _ (.refl g) (.bl _)⟩
theorem brg_all : BrgN K .e oAll (rAll K) := by
  refine ⟨fun ds G H vs Q Q2 g r ⟨ns, ed, q⟩ kk => ?_, fun ds Q Q' i ⟨ns, ed, q⟩ => ⟨ns, ed, i _ q⟩⟩
  subst ed
  obtain ⟨v, rfl, rv⟩ := rvOs_1 r
  obtain ⟨pp, vs, rfl, h1, r1⟩ := rvO_lst g rv
  exact ⟨pp, ns, rfl, SqL.of (by rw [h1, rps_bls r1]), kk _ q G H _ (.refl g) (.bl _)⟩
/-- sorted(set(x)), x a list of ints -/
def wSortSet (w : Wx) : Wx := fun xc ρ Q => w xc ρ fun d => ∃ ns : List Int, d = .lst (ns.map .int) ∧ ns.length < 64 ∧ ∀ ms : List Int, ms.Pairwise (· < ·) → (∀ k, k ∈ ms ↔ k ∈ ns) → Q (.lst (ms.map .int))
theorem ej_sortSet {p2 q2 : Pos} (ha : EJ k E X a w) (hc : X.calm = true) (hg : Gl X "sorted") (hm : X.mg "sorted" = none) (hg2 : Gl X "set") (hm2 : X.mg "set" = none)
    (hst : starEach [a] X.env = (false, eval a X.env) :: starEach [] X.env := by rfl) (hst2 : starEach [(.Call (.Name "set" p2) [a] [] q2)] X.env = (false, eval (.Call (.Name "set" p2) [a] [] q2) X.env) :: starEach [] X.env := by rfl) :
    EJ .f E X (.Call (.Name "sorted" p) [.Call (.Name "set" p2) [a] [] q2] [] pos) (wSortSet w) := by
  have h := pe_callB (p := p) (pos := pos) (cr_sortedSet hc) hg hm (by decide +kernel) (pa_cons (pe_callTy (p := p2) (pos := q2) (cr_setI hc) hg2 hm2 (by decide +kernel) (pa_cons ha.pe pa_nil hst) (by decide) (by decide) hst rfl) pa_nil hst2) (by decide) (by decide) hst2 rfl
  refine ⟨h.imp fun σ H Q ⟨G0, H0, G, ρ, xc, R, T, q⟩ => ⟨G0, H0, G, ρ, xc, R, T, ha.mo _ _ _ _ (fun d ⟨ns, ed, few, q1⟩ G1 H1 v x1 r1 => ?_) q⟩, fun xc ρ Q Q' i q => ha.mo _ _ _ _ (fun d ⟨ns, ed, few, q⟩ => ⟨ns, ed, few, fun ms a b => i _ (q ms a b)⟩) q⟩
  subst ed
  obtain ⟨pp, vs, rfl, h1, r2⟩ := rvO_lst x1.gh r1.o
  refine ⟨pp, ns, rfl, SqL.of (by rw [h1, rps_ints r2]), few, fun s m hs hm => ?_⟩
  refine ⟨s, _, m, rfl, upd_same, by omega, fun ms l hp hk _ hl => ?_⟩
  have hl1 : H1 l = none := by
    by_cases z : l = s
    · rw [z, upd_same] at hl; cases hl
    · rw [upd_ne z] at hl; exact hl
  have x2 : Ext G1 H1 G1 (upd (upd H1 s (SetO X.w s (fun k => decide (k ∈ ns)) m)) l (.lst (ms.map .int))) := (Ext.newH x1.gh hs).trans (Ext.newH (Ext.newH x1.gh hs).gh hl)
  exact q1 ms hp (fun k => by rw [hk k]; simp) _ _ _ (x1.trans x2) ⟨l, _, rfl, x1.hh.free hl1, upd_same, ints_rps ms, x1.gh.free hl1⟩
/-- a unary minus -/
@[simp] def wNeg (w : Wx) : Wx := fun xc ρ Q => w xc ρ fun d => ∃ i, d = .int i ∧ Q (.int (-i))
theorem ej_neg (ha : EJ k E X a w) : EJ .e E X (.UnaryOp .USub a pos) (wNeg w) := by
  refine ⟨(pe_un un_neg ha.pe).imp fun σ H Q ⟨G0, H0, G, ρ, xc, R, T, q⟩ => ⟨G0, H0, G, ρ, xc, R, T, ha.mo _ _ _ _ (fun d ⟨i, ed, q1⟩ G1 H1 v x1 r1 => ?_) q⟩, fun xc ρ Q Q' i q => ha.mo _ _ _ _ (fun d ⟨j, ed, q⟩ => ⟨j, ed, i _ q⟩) q⟩
  subst ed
  exact ⟨i, rvO_int r1.o, q1 G1 H1 _ x1 (.int _)⟩

/-! ### two comparisons in a chain -/
@[simp] def wCh (op op' : Op2) (wa wb wc : Wx) : Wx := fun xc ρ Q => wa xc ρ fun x => wb xc ρ fun y => op x y fun z => ∃ t, z = .bl t ∧ if t = true then wc xc ρ fun z' => op' y z' Q else Q (.bl false)
theorem ch_go {op op' : Op2} {r r' : R2} {kc : Kd} (ha : EJ ka E X a wa) (hb : EJ kb E X b wb) (hc : EJ kc E X c wc) (B : Brg2 X.K .e op r) (B' : Brg2 X.K .e op' r')
    {σ : L2.St} {H G0 H0 G : Hp} {ρ : Evn} {xc : XC} {Qd : D → Prop} {Q : VK} (R : Rel X.K G0 H0 G ρ σ H) (T : TieX X.K G0 H0 E xc) (q : wCh op op' wa wb wc xc ρ Qd) (fin : ∀ d G' H' v, Qd d → Ext G H G' H' → Rp X.K G' d v → Q v H') :
    tChain r r' (liftW X.K E ka wa) (liftW X.K E kb wb) (liftW X.K E kc wc) σ H Q := by
  refine ⟨G0, H0, G, ρ, xc, R, T, ha.mo _ _ _ _ (fun x q1 G1 H1 v1 x1 r1 => ?_) q⟩
  refine ⟨G0, H0, G1, ρ, xc, R.ext x1, T, hb.mo _ _ _ _ (fun y q2 G2 H2 v2 x2 r2 => ?_) q1⟩
  refine B.go x y G2 H2 v1 v2 _ _ x2.gh (r1.o.ext x2) r2.o q2 fun z q3 G3 H3 v3 x3 r3 => ?_
  obtain ⟨t, rfl, q3⟩ := q3
  refine ⟨t, rvO_bl (H := H3) (.inl r3), ?_⟩
  have x13 := x1.trans (x2.trans x3)
  cases t with
  | true =>
    rw [if_pos rfl] at q3 ⊢
    refine ⟨G0, H0, G3, ρ, xc, R.ext x13, T, hc.mo _ _ _ _ (fun z' q4 G4 H4 v4 x4 r4 => ?_) q3⟩
    exact B'.go y z' G4 H4 v2 v4 _ _ x4.gh (r2.o.ext (x3.trans x4)) r4.o q4 fun d q5 G5 H5 v5 x5 r5 => fin d G5 H5 v5 q5 (x13.trans (x4.trans x5)) r5
  | false =>
    rw [if_neg Bool.false_ne_true] at q3 ⊢
    exact fin _ G3 H3 _ q3 x13 (.bl _)
theorem ch_mo {op op' : Op2} {kc : Kd} (ha : EJ ka E X a wa) (hb : EJ kb E X b wb) (hc : EJ kc E X c wc) (m : Mo2 op) (m' : Mo2 op') {xc : XC} {ρ : Evn} {Q Q' : D → Prop} (i : ∀ d, Q d → Q' d) (q : wCh op op' wa wb wc xc ρ Q) : wCh op op' wa wb wc xc ρ Q' :=
  ha.mo _ _ _ _ (fun x q => hb.mo _ _ _ _ (fun y q => m _ _ _ _ (fun z ⟨t, e, q⟩ => ⟨t, e, by
    cases t with
    | true => rw [if_pos rfl] at q ⊢; exact hc.mo _ _ _ _ (fun z' q => m' _ _ _ _ i q) q
    | false => rw [if_neg Bool.false_ne_true] at q ⊢; exact i _ q⟩) q) q) q
theorem ej_ch {op op' : Op2} {r r' : R2} {kc : Kd} (ha : EJ ka E X a wa) (hb : EJ kb E X b wb) (hc : EJ kc E X c wc) (h : PE X e (tChain r r' (liftW X.K E ka wa) (liftW X.K E kb wb) (liftW X.K E kc wc))) (B : Brg2 X.K .e op r) (B' : Brg2 X.K .e op' r') :
    EJ .e E X e (wCh op op' wa wb wc) :=
  ⟨h.imp fun σ H Q ⟨G0, H0, G, ρ, xc, R, T, q⟩ => ch_go ha hb hc B B' R T q fun d G' H' v q x r => q G' H' v x r, fun xc ρ Q Q' i q => ch_mo ha hb hc B.mo B'.mo i q⟩
theorem tj_ch {op op' : Op2} {r r' : R2} {kc : Kd} (ha : EJ ka E X a wa) (hb : EJ kb E X b wb) (hc : EJ kc E X c wc) (h : PT X e (tTest (tChain r r' (liftW X.K E ka wa) (liftW X.K E kb wb) (liftW X.K E kc wc)))) (B : Brg2 X.K .e op r) (B' : Brg2 X.K .e op' r') :
    TJ E X e (wB (wCh op op' wa wb wc)) :=
  ⟨h.imp fun σ H Q ⟨G0, H0, G, ρ, xc, R, T, q⟩ => ch_go ha hb hc B B' R T q fun d G' H' v q x r => by
    obtain ⟨t, rfl, q⟩ := q
    exact ⟨t, rvO_bl (H := H') (.inl r), q G' H' x⟩, fun xc ρ Q Q' i q => ch_mo ha hb hc B.mo B'.mo (fun d ⟨b, e, q⟩ => ⟨b, e, i b q⟩) q⟩

/-! ### truth of a value -/
def D.tru : D → Option Bool
  | .non => some false | .bl b => some b | .int i => some (i != 0)
  | .lst xs => some (!xs.isEmpty) | .fls xs => some (!xs.isEmpty) | .tup xs => some (!xs.isEmpty) | .xtp xs => some (!xs.isEmpty) | .dK kvs => some (!kvs.isEmpty)
  | _ => none
@[simp] def wTru (w : Wx) : Wt := fun xc ρ Q => w xc ρ fun d => ∃ t, d.tru = some t ∧ Q t
theorem emp_len {α β : Type} {l : List α} {m : List β} (h : l.length = m.length) : l.isEmpty = m.isEmpty := by
  cases l <;> cases m <;> first | rfl | simp at h
theorem Rks.length {G : Hp} : ∀ {ds : List (Key × D)} {vs : List (Key × V)}, Rks K G ds vs → ds.length = vs.length
  | _, _, .nil => rfl
  | _, _, .cons _ r => congrArg (· + 1) (Rks.length r)
theorem tru_of {G H : Hp} {d : D} {v : V} {t : Bool} (g : Same G H) (r : RvO K G H d v) (h : d.tru = some t) : TruV K v H t := by
  cases d with
  | non => rw [rvO_non r]; exact (Option.some.inj h).symm
  | bl b => rw [rvO_bl r]; exact (Option.some.inj h).symm
  | int i => rw [rvO_int r]; exact (Option.some.inj h).symm
  | lst xs =>
    obtain ⟨p, vs, rfl, h1, r1⟩ := rvO_lst g r
    exact .inl ⟨vs, SqL.of h1, by rw [← Option.some.inj h, emp_len r1.length]⟩
  | fls xs =>
    obtain ⟨p, vs, rfl, h1, r1⟩ := rvO_fls g r
    exact .inl ⟨vs, h1, by rw [← Option.some.inj h, emp_len r1.length]⟩
  | tup xs =>
    obtain ⟨p, vs, rfl, h1, r1⟩ := rvO_tup g r
    exact .inr (.inl ⟨vs, h1, by rw [← Option.some.inj h, emp_len r1.length]⟩)
  | xtp xs =>
    obtain ⟨p, vs, o, rfl, h1, _, _, r1⟩ := rvO_xtp g r
    exact .inr (.inl ⟨vs, .inl (.inr ⟨_, h1⟩), by rw [← Option.some.inj h, emp_len r1.length]⟩)
  | dK kvs =>
    rcases r with r | ⟨p, o, rfl, e2, t⟩
    · cases r with | dK h1 r1 => exact .inr (.inr ⟨_, g _ _ h1, by rw [← Option.some.inj h, emp_len r1.length]⟩)
    · cases o <;> first | exact t.elim | skip
      exact .inr (.inr ⟨_, e2, by rw [← Option.some.inj h, emp_len (Rks.length t)]⟩)
  | str _ => cases h
  | obj _ _ => cases h
  | dT _ => cases h
theorem tj_tru (ha : EJ k E X a w) (he : ∀ whole, isTrue a X.env whole = (do let v ← whole; standAt a.pos; holding [v] (truthy v)) := by intro _; rfl) : TJ E X a (wTru w) := by
  refine ⟨(pt_truth ha.pe he).imp fun σ H Q ⟨G0, H0, G, ρ, xc, R, T, q⟩ => ⟨G0, H0, G, ρ, xc, R, T, ha.mo _ _ _ _ (fun d ⟨t, et, q1⟩ G1 H1 v x1 r1 => ?_) q⟩, fun xc ρ Q Q' i q => ha.mo _ _ _ _ (fun d ⟨t, et, q⟩ => ⟨t, et, i _ q⟩) q⟩
  exact ⟨t, tru_of x1.gh r1.o et, q1 G1 H1 x1⟩

/-! ### isinstance of a built-in class -/
def D.ty : D → Option String
  | .non => some "NoneType" | .bl _ => some "bool" | .int _ => some "int" | .str _ => some "str"
  | .lst _ => some "list" | .fls _ => some "list" | .tup _ => some "tuple" | .xtp _ => some "tuple" | .dK _ => some "dict" | .dT _ => some "dict" | .obj _ _ => none
theorem ty_of {G H : Hp} {d : D} {v : V} {t : String} (g : Same G H) (r : RvO K G H d v) (h : d.ty = some t) : TyX K H v (.type t) := by
  cases d with
  | non => rw [rvO_non r]; cases h; exact .base .non
  | bl b => rw [rvO_bl r]; cases h; exact .base (.bl _)
  | int i => rw [rvO_int r]; cases h; exact .base (.int _)
  | str i => rw [rvO_str r]; cases h; exact .base (.str _)
  | lst xs => obtain ⟨p, vs, rfl, h1, r1⟩ := rvO_lst g r; cases h; exact .base (.lst h1)
  | fls xs =>
    obtain ⟨p, vs, rfl, h1, r1⟩ := rvO_fls g r
    cases h
    rcases h1 with (h1 | ⟨o, h1⟩) | ⟨o, its, n, hk, hc, _⟩
    · exact .base (.lst h1)
    · exact .base (.frz h1)
    · exact .kList hk hc
  | tup xs =>
    obtain ⟨p, vs, rfl, h1, r1⟩ := rvO_tup g r
    cases h
    rcases h1 with (h1 | ⟨o, h1⟩) | ⟨o, its, n, hk, hc, _⟩
    · exact .base (.tup h1)
    · exact .fTuple h1
    · exact .kTuple hk hc
  | xtp xs =>
    obtain ⟨p, vs, o, rfl, h1, _, _, r1⟩ := rvO_xtp g r
    cases h
    exact .fTuple h1
  | dK kvs =>
    cases h
    rcases r with r | ⟨p, o, rfl, e2, t⟩
    · cases r with | dK h1 r1 => exact .base (.dK (g _ _ h1))
    · cases o <;> first | exact t.elim | exact .base (.dK e2)
  | dT kvs =>
    cases h
    rcases r with r | ⟨p, o, rfl, e2, t⟩
    · cases r with | dT h1 r1 => exact .base (.dT (g _ _ h1))
    · cases o <;> first | exact t.elim | exact .base (.dT e2)
  | obj _ _ => cases h
def wIsi (n : String) (w : Wx) : Wx := fun xc ρ Q => w xc ρ fun d => ∃ t b, d.ty = some t ∧ kitB t n = some b ∧ Q (.bl b)
theorem ej_isi {n : String} {x : Str} {p2 : Pos} (ha : EJ k E X a w) (hg : Gl X "isinstance") (hm : X.mg "isinstance" = none) (hg2 : Gl X x) (hm2 : X.mg x = none) (hv : bootBuiltins x = some (.type n)) (hn : x ≠ "__name__" := by decide) (hd : (x == ("__debug__" : Str)) = false := by decide)
    (hst : starEach [a, .Name x p2] X.env = (false, eval a X.env) :: starEach [.Name x p2] X.env := by rfl) (hst2 : starEach [(.Name x p2)] X.env = (false, eval (.Name x p2) X.env) :: starEach [] X.env := by rfl) (hpl : (backTo pos (starEach [(.Name x p2)] X.env)).any (·.1) = false := by rfl) :
    EJ .e E X (.Call (.Name "isinstance" p) [a, .Name x p2] [] pos) (wIsi n w) := by
  have h := pe_callB (p := p) (pos := pos) call_isi hg hm (by decide +kernel) (pa_cons ha.pe (pa_cons (pe_bltn (v := .ty n) (pos := p2) hg2 hm2 hv rfl hn hd) pa_nil hst2) hst) (by decide) (by decide) hst hpl
  refine ⟨h.imp fun σ H Q ⟨G0, H0, G, ρ, xc, R, T, q⟩ => ⟨G0, H0, G, ρ, xc, R, T, ha.mo _ _ _ _ (fun d ⟨t, bb, et, ek, q1⟩ G1 H1 v x1 r1 => ?_) q⟩, fun xc ρ Q Q' i q => ha.mo _ _ _ _ (fun d ⟨t, bb, et, ek, q⟩ => ⟨t, bb, et, ek, i _ q⟩) q⟩
  exact ⟨v, .ty n, .type t, .type n, bb, rfl, .ty n, ty_of x1.gh r1.o et, kit_ty ek, q1 G1 H1 _ x1 (.bl _)⟩
end
end Tw

/-! Tw, part E: calls of defs, targets, walks, statements. -/
namespace Tw
open PySem PySem.Spec L2 PyProof.Rows
theorem TieX.later {K : PySem.W.Frag} {G0 H0 G H : Hp} {E : XK} {xc : XC} (T : TieX K G0 H0 E xc) (x : Ext G0 H0 G H) : TieX K G H E xc := fun C fs G' H' dx x2 h q => by
  refine T C fs G' H' dx (x.trans x2) ?_ q
  cases dx with
  | none => exact h
  | some p => exact ⟨x.hh.free h.1, h.2⟩
theorem Rel.ex {K : PySem.W.Frag} {G0 H0 G H : Hp} {ρ : Evn} {σ : L2.St} (R : Rel K G0 H0 G ρ σ H) : Ext G0 H0 G H := ⟨R.g0, R.h0, R.gh, R.gn⟩
/-- what a def hands back: true: a new object, the caller's own -/
def RvR (K : PySem.W.Frag) (fr : Bool) (H G' H' : Hp) (d : D) (v : V) : Prop := if fr = true then RvF K H G' H' d v else Rp K G' d v
abbrev Wf := XC → List D → (Bool → D → Prop) → Prop
def spOf (K : PySem.W.Frag) (n : Nat) (wf : Wf) : Sp := fun vs H Q E => vs.length = n ∧ ∃ G ds xc, Same G H ∧ Rps K G ds vs ∧ TieX K G H E xc ∧ wf xc ds fun fr d => ∀ G' H' v, Ext G H G' H' → RvR K fr H G' H' d v → Q v H'
def MoF (wf : Wf) : Prop := ∀ xc ds (Q Q' : Bool → D → Prop), (∀ fr d, Q fr d → Q' fr d) → wf xc ds Q → wf xc ds Q'
section
variable {X : Cx} {K : PySem.W.Frag} {E : XK} {e a b c o : Expr} {es : List Expr} {w wa wb wc : Wx} {k ka kb : Kd} {pos p : Pos} {u : Wa}
@[simp] def wCall (wf : Wf) (dd : List D) (u : Wa) : Wx := fun xc ρ Q => u xc ρ fun ds => wf xc (ds ++ dd) fun _ d => Q d
def wCallF (wf : Wf) (dd : List D) (u : Wa) : Wx := fun xc ρ Q => u xc ρ fun ds => wf xc (ds ++ dd) fun fr d => fr = true ∧ Q d
/-- a call whose reading is that of its arguments, then the promise -/
theorem ej_call {wf : Wf} {n : Nat} {dd : List D} {dvs : List V} (m : MoF wf) (hd : ∀ G, Rps X.K G dd dvs) (h : AJ true E X es u) (hpe : PE X e (tCall (spOf X.K n wf) dvs E (liftA X.K E true u))) (hn : ∀ ds xc Q, wf xc ds Q → ds.length = n) : EJ .e E X e (wCall wf dd u) := by
  refine ⟨hpe.imp fun σ H Q ⟨G0, H0, G, ρ, xc, R, T, q⟩ => ⟨G0, H0, G, ρ, xc, R, T, h.mo _ _ _ _ (fun ds q1 G1 H1 vs x1 r1 => ?_) q⟩, fun xc ρ Q Q' i q => h.mo _ _ _ _ (fun ds q => m _ _ _ _ (fun fr d q => i _ q) q) q⟩
  rw [if_pos rfl] at r1
  have r2 : Rps X.K G1 (ds ++ dd) (vs ++ dvs) := r1.append (hd G1)
  refine ⟨by rw [← r2.length]; exact hn _ _ _ q1, G1, ds ++ dd, xc, x1.gh, r2, T.later (R.ex.trans x1), m _ _ _ _ (fun fr d q2 G' H' v x2 r3 => ?_) q1⟩
  cases fr with
  | false => exact q2 G' H' v (x1.trans x2) r3
  | true =>
    obtain ⟨G3, x3, r4⟩ := RvF.frz x2 r3
    exact q2 G3 H' v (x1.trans x3) r4
theorem ej_callF {wf : Wf} {n : Nat} {dd : List D} {dvs : List V} (m : MoF wf) (hd : ∀ G, Rps X.K G dd dvs) (h : AJ true E X es u) (hpe : PE X e (tCall (spOf X.K n wf) dvs E (liftA X.K E true u))) (hn : ∀ ds xc Q, wf xc ds Q → ds.length = n) : EJ .f E X e (wCallF wf dd u) := by
  refine ⟨hpe.imp fun σ H Q ⟨G0, H0, G, ρ, xc, R, T, q⟩ => ⟨G0, H0, G, ρ, xc, R, T, h.mo _ _ _ _ (fun ds q1 G1 H1 vs x1 r1 => ?_) q⟩, fun xc ρ Q Q' i q => h.mo _ _ _ _ (fun ds q => m _ _ _ _ (fun fr d q => ⟨q.1, i _ q.2⟩) q) q⟩
  rw [if_pos rfl] at r1
  have r2 : Rps X.K G1 (ds ++ dd) (vs ++ dvs) := r1.append (hd G1)
  refine ⟨by rw [← r2.length]; exact hn _ _ _ q1, G1, ds ++ dd, xc, x1.gh, r2, T.later (R.ex.trans x1), m _ _ _ _ (fun fr d q2 G' H' v x2 r3 => ?_) q1⟩
  obtain ⟨rfl, q2⟩ := q2
  exact q2 G' H' v (x1.trans x2) (rv_later (k := .f) x1.hh r3)

/-! ### targets -/
/-- a target: what it takes, the slots that it stores -/
abbrev Wg := D → Evn → (Evn → Prop) → Prop
theorem wipe_at (σ : L2.St) : ∀ (vs : List Nat) (j : Nat), (L2.wipe σ vs)[j]? = if j ∈ vs then (if j < σ.length then some none else none) else σ[j]?
  | [], j => by simp [L2.wipe]
  | v :: vs, j => by
    unfold L2.wipe
    by_cases h : v = j
    · subst h
      by_cases hl : v < σ.length
      · rw [List.getElem?_set_self (by rw [wipe_length]; exact hl)]; simp [hl]
      · rw [List.getElem?_eq_none (by rw [List.length_set, wipe_length]; omega)]; simp [hl]
    · rw [List.getElem?_set_ne h, wipe_at σ vs j]
      have : (j ∈ v :: vs) ↔ j ∈ vs := by simp [Ne.symm h]
      simp only [this]
theorem wipe_set (σ : L2.St) (vs : List Nat) (t : Nat) (x : Option V) (h : t ∈ vs) : L2.wipe (σ.set t x) vs = L2.wipe σ vs := by
  apply List.ext_getElem?
  intro j
  rw [wipe_at, wipe_at]
  by_cases hj : j ∈ vs
  · simp [hj]
  · simp only [hj, if_false]
    rw [List.getElem?_set_ne (fun z => hj (by rw [← z]; exact h))]
theorem wipe_wipe (σ : L2.St) (vs : List Nat) : L2.wipe (L2.wipe σ vs) vs = L2.wipe σ vs := by
  apply List.ext_getElem?
  intro j
  rw [wipe_at, wipe_at, wipe_length]
  by_cases hj : j ∈ vs <;> simp [hj]
def liftG (K : PySem.W.Frag) (tg : List Nat) (g : Wg) : TG := fun v σ H Q => ∃ G0 H0 G ρ d, Rel K G0 H0 G ρ σ H ∧ Rp K G d v ∧ g d ρ fun ρ' => ∀ σ', Rel K G0 H0 G ρ' σ' H → (∀ vs, (∀ t ∈ tg, t ∈ vs) → L2.wipe σ' vs = L2.wipe σ vs) → Q σ' H
structure GJ (X : Cx) (e : Expr) (tg : List Nat) (g : Wg) : Prop where
  pg : PG X e (liftG X.K tg g)
  mo : ∀ d ρ (Q Q' : Evn → Prop), (∀ r, Q r → Q' r) → g d ρ Q → g d ρ Q'
abbrev Wgs := List D → Evn → (Evn → Prop) → Prop
def liftGs (K : PySem.W.Frag) (tg : List Nat) (g : Wgs) : TGs := fun v σ H Q => ∃ G0 H0 G ρ d, Rel K G0 H0 G ρ σ H ∧ Rps K G d v ∧ g d ρ fun ρ' => ∀ σ', Rel K G0 H0 G ρ' σ' H → (∀ vs, (∀ t ∈ tg, t ∈ vs) → L2.wipe σ' vs = L2.wipe σ vs) → Q σ' H
structure GsJ (X : Cx) (e : List Expr) (tg : List Nat) (g : Wgs) : Prop where
  pg : PGs X e (liftGs X.K tg g)
  mo : ∀ d ρ (Q Q' : Evn → Prop), (∀ r, Q r → Q' r) → g d ρ Q → g d ρ Q'
theorem _root_.L2.PG.imp {X : Cx} {e : Expr} {t t' : TG} (h : PG X e t) (i : ∀ v σ H Q, t' v σ H Q → t v σ H Q) : PG X e t' := ⟨fun pins s σ H v u Q I r q => h.run pins s σ H v u Q I r (i _ _ _ _ q)⟩
theorem _root_.L2.PGs.imp {X : Cx} {e : List Expr} {t t' : TGs} (h : PGs X e t) (i : ∀ v σ H Q, t' v σ H Q → t v σ H Q) : PGs X e t' := ⟨fun pins s σ H v u Q I r q => h.run pins s σ H v u Q I r (i _ _ _ _ q)⟩
@[simp] def gSet (i : Nat) : Wg := fun d ρ Q => Q (ρ.set i (.da d))
theorem gj_name {i : Nat} (h : PG X e (gName i)) : GJ X e [i] (gSet i) :=
  ⟨h.imp fun v σ H Q ⟨G0, H0, G, ρ, d, R, r, q⟩ => q _ (R.set r) fun vs hv => wipe_set σ vs i _ (hv i (by simp)), fun d ρ Q Q' i q => i _ q⟩
def gsNil : Wgs := fun ds ρ Q => ds = [] ∧ Q ρ
def gsCons (g : Wg) (gs : Wgs) : Wgs := fun ds ρ Q => ∃ d r, ds = d :: r ∧ g d ρ fun ρ' => gs r ρ' Q
theorem gsj_nil : GsJ X [] [] gsNil := by
  refine ⟨pgs_nil.imp fun v σ H Q ⟨G0, H0, G, ρ, d, R, r, ed, q⟩ => ?_, fun d ρ Q Q' i q => ⟨q.1, i _ q.2⟩⟩
  subst ed
  cases r
  exact ⟨rfl, q σ R fun vs _ => rfl⟩
theorem gsj_cons {tg tgs : List Nat} {g : Wg} {gs : Wgs} (h1 : GJ X e tg g) (h2 : GsJ X es tgs gs) (hs : (assignEach (e :: es) X.env).map (·.2) = assign e X.env :: (assignEach es X.env).map (·.2) := by rfl) : GsJ X (e :: es) (tg ++ tgs) (gsCons g gs) := by
  refine ⟨(pgs_cons h1.pg h2.pg hs).imp fun v σ H Q ⟨G0, H0, G, ρ, ds, R, r, d, ds', ed, q⟩ => ?_, fun d ρ Q Q' i ⟨d', r, e, q⟩ => ⟨d', r, e, h1.mo _ _ _ _ (fun ρ' q => h2.mo _ _ _ _ i q) q⟩⟩
  subst ed
  cases r with
  | cons r rr =>
    refine ⟨_, _, rfl, G0, H0, G, ρ, d, R, r, h1.mo _ _ _ _ (fun ρ' q1 σ1 R1 w1 => ?_) q⟩
    refine ⟨G0, H0, G, ρ', ds', R1, rr, h2.mo _ _ _ _ (fun ρ2 q2 σ2 R2 w2 => ?_) q1⟩
    exact q2 σ2 R2 fun vs hv => (w2 vs fun t ht => hv t (List.mem_append_right _ ht)).trans (w1 vs fun t ht => hv t (List.mem_append_left _ ht))
def gTupD (n : Nat) (gs : Wgs) : Wg := fun d ρ Q => ∃ ds, (d = .tup ds) ∧ ds.length = n ∧ gs ds ρ Q
theorem gj_tup {kk : Nat} {tgs : List Nat} {gs : Wgs} {n : Nat} (hc : X.calm = true) (h : GsJ X es tgs gs) (hn : (assignEach es X.env).length = n := by rfl) (hst : (assignEach es X.env).findIdx? (·.1) = none := by rfl) : GJ X (.Tuple es kk pos) tgs (gTupD n gs) := by
  refine ⟨(pg_tup hc h.pg hn hst).imp fun v σ H Q ⟨G0, H0, G, ρ, d, R, r, ds, ed, hl, q⟩ => ?_, fun d ρ Q Q' i ⟨ds, e, l, q⟩ => ⟨ds, e, l, h.mo _ _ _ _ i q⟩⟩
  subst ed
  cases r with
  | tup hq r1 => exact ⟨_, _, rfl, sqT_mono R.gh hq, by rw [← r1.length]; exact hl, G0, H0, G, ρ, ds, R, r1, q⟩

/-! ### what is walked -/
structure Wk (K : PySem.W.Frag) (J : It) (G : Hp) (items : List D) : Prop where
  stop : ∀ G' H', Same G G' → Same G' H' → J.stop items.length H'
  go : ∀ i G' H', i < items.length → Same G G' → Same G' H' → J.go i H'
  yld : ∀ i G' H' x H2, i < items.length → Same G G' → Same G' H' → J.yld i H' x H2 → ∃ G2 d, Ext G' H' G2 H2 ∧ items[i]? = some d ∧ Rp K G2 d x
def liftI (K : PySem.W.Frag) (E : XK) (w : Wa) : TI := fun σ H R => ∃ G0 H0 G ρ xc, Rel K G0 H0 G ρ σ H ∧ TieX K G0 H0 E xc ∧ w xc ρ fun items => ∀ G' H' J, Ext G H G' H' → Wk K J G' items → R J H'
structure IJ (E : XK) (X : Cx) (tg iter : Expr) (w : Wa) : Prop where
  pi : PI X tg iter (liftI X.K E w)
  mo : ∀ xc ρ (Q Q' : List D → Prop), (∀ d, Q d → Q' d) → w xc ρ Q → w xc ρ Q'
theorem _root_.L2.PI.imp {X : Cx} {tg e : Expr} {t t' : TI} (h : PI X tg e t) (i : ∀ σ H Q, t' σ H Q → t σ H Q) : PI X tg e t' := ⟨fun pins s σ H Q I q => h.run pins s σ H Q I (i _ _ _ q)⟩
theorem wk_list {a : Addr} {vs : List V} {G : Hp} {ds : List D} (h : SqL K G a vs) (r : Rps K G ds vs) : Wk K (Itl K a) G ds where
  stop := fun G' H' g1 g2 => ⟨vs, (g1.trans g2).seq h, by rw [r.length]; exact Nat.le_refl _⟩
  go := fun i G' H' hi g1 g2 => ⟨vs, vs[i]'(by rw [← r.length]; exact hi), (g1.trans g2).seq h, by simp⟩
  yld := fun i G' H' x H2 hi g1 g2 ⟨e, y⟩ => by
    subst e
    obtain ⟨d, hd, rd⟩ := r.get' (y vs ((g1.trans g2).seq h))
    exact ⟨G', d, .refl g2, hd, rd.mono g1⟩
theorem wk_tup {a : Addr} {vs : List V} {G : Hp} {ds : List D} (h : SqT K G a vs) (r : Rps K G ds vs) : Wk K (Itt K a) G ds where
  stop := fun G' H' g1 g2 => ⟨vs, sqT_mono (g1.trans g2) h, by rw [r.length]; exact Nat.le_refl _⟩
  go := fun i G' H' hi g1 g2 => ⟨vs, vs[i]'(by rw [← r.length]; exact hi), sqT_mono (g1.trans g2) h, by simp⟩
  yld := fun i G' H' x H2 hi g1 g2 ⟨e, y⟩ => by
    subst e
    obtain ⟨d, hd, rd⟩ := r.get' (y vs (sqT_mono (g1.trans g2) h))
    exact ⟨G', d, .refl g2, hd, rd.mono g1⟩
def rngD (lo : Int) (n : Nat) : List D := (List.range n).map fun i => .int (lo + (i : Nat))
theorem wk_rng {G : Hp} (lo : Int) (n : Nat) : Wk K (Itr lo n) G (rngD lo n) where
  stop := fun G' H' _ _ => by show n ≤ (rngD lo n).length; simp [rngD]
  go := fun i G' H' hi _ _ => by show i < n; simpa [rngD] using hi
  yld := fun i G' H' x H2 hi g1 g2 ⟨e, y⟩ => by
    subst e y
    refine ⟨G', .int (lo + (i : Nat)), .refl g2, ?_, .int _⟩
    have : i < n := by simpa [rngD] using hi
    simp [rngD, this]
/-- over a list that is kept for good -/
def wiL (w : Wx) : Wa := fun xc ρ Q => w xc ρ fun d => ∃ xs, (d = .lst xs ∨ d = .fls xs) ∧ Q xs
def wiT (w : Wx) : Wa := fun xc ρ Q => w xc ρ fun d => ∃ xs, (d = .tup xs ∨ d = .xtp xs) ∧ Q xs
theorem ij_list {tg : Expr} (ha : EJ .e E X a w) : IJ E X tg a (wiL w) := by
  refine ⟨(pi_list ha.pe).imp fun σ H R' ⟨G0, H0, G, ρ, xc, R, T, q⟩ => ⟨G0, H0, G, ρ, xc, R, T, ha.mo _ _ _ _ (fun d ⟨xs, ed, q1⟩ G1 H1 v x1 r1 => ?_) q⟩, fun xc ρ Q Q' i q => ha.mo _ _ _ _ (fun d ⟨xs, ed, q⟩ => ⟨xs, ed, i _ q⟩) q⟩
  rcases ed with rfl | rfl
  · cases r1 with | lst h r => exact ⟨_, rfl, ⟨_, SqL.of (x1.gh _ _ h)⟩, q1 G1 H1 _ x1 (wk_list (SqL.of h) r)⟩
  · cases r1 with | fls h r => exact ⟨_, rfl, ⟨_, x1.gh.seq h⟩, q1 G1 H1 _ x1 (wk_list h r)⟩
theorem ij_tup {tg : Expr} (ha : EJ .e E X a w) : IJ E X tg a (wiT w) := by
  refine ⟨(pi_tup ha.pe).imp fun σ H R' ⟨G0, H0, G, ρ, xc, R, T, q⟩ => ⟨G0, H0, G, ρ, xc, R, T, ha.mo _ _ _ _ (fun d ⟨xs, ed, q1⟩ G1 H1 v x1 r1 => ?_) q⟩, fun xc ρ Q Q' i q => ha.mo _ _ _ _ (fun d ⟨xs, ed, q⟩ => ⟨xs, ed, i _ q⟩) q⟩
  rcases ed with rfl | rfl
  · cases r1 with | tup h r => exact ⟨_, rfl, ⟨_, sqT_mono x1.gh h⟩, q1 G1 H1 _ x1 (wk_tup h r)⟩
  · cases r1 with | xtp h _ _ r => exact ⟨_, rfl, ⟨_, .inl (.inr ⟨_, x1.gh _ _ h⟩)⟩, q1 G1 H1 _ x1 (wk_tup (.inl (.inr ⟨_, h⟩)) r)⟩
@[simp] def wiR1 (w : Wx) : Wa := fun xc ρ Q => w xc ρ fun d => ∃ n : Int, d = .int n ∧ (-(2 ^ 62) ≤ n ∧ n < 2 ^ 62) ∧ Q (rngD 0 n.toNat)
@[simp] def wiR2 (wa wb : Wx) : Wa := fun xc ρ Q => wa xc ρ fun x => wb xc ρ fun y => ∃ i j : Int, x = .int i ∧ y = .int j ∧ (-(2 ^ 62) ≤ i ∧ i < 2 ^ 62 ∧ -(2 ^ 62) ≤ j ∧ j < 2 ^ 62) ∧ Q (rngD i (j - i).toNat)
theorem ij_rng1 {tg : Expr} (ha : EJ ka E X a wa) (hg : Gl X "range") (hm : X.mg "range" = none) (hst : starEach [a] X.env = (false, eval a X.env) :: starEach [] X.env := by rfl) : IJ E X tg (.Call (.Name "range" p) [a] [] pos) (wiR1 wa) := by
  refine ⟨(pi_range1 hg hm (pa_cons ha.pe pa_nil hst) hst).imp fun σ H R' ⟨G0, H0, G, ρ, xc, R, T, q⟩ => ⟨G0, H0, G, ρ, xc, R, T, ha.mo _ _ _ _ (fun d ⟨n, ed, hn, q1⟩ G1 H1 v x1 r1 => ?_) q⟩, fun xc ρ Q Q' i q => ha.mo _ _ _ _ (fun d ⟨n, ed, hn, q⟩ => ⟨n, ed, hn, i _ q⟩) q⟩
  subst ed
  rw [rvO_int r1.o]
  exact ⟨n, rfl, hn.1, hn.2, q1 G1 H1 _ x1 (wk_rng 0 n.toNat)⟩
theorem ij_rng2 {tg : Expr} (ha : EJ ka E X a wa) (hb : EJ kb E X b wb) (hg : Gl X "range") (hm : X.mg "range" = none) (hst : starEach [a, b] X.env = [(false, eval a X.env), (false, eval b X.env)] := by rfl) (hst2 : starEach [b] X.env = [(false, eval b X.env)] := by rfl) :
    IJ E X tg (.Call (.Name "range" p) [a, b] [] pos) (wiR2 wa wb) := by
  refine ⟨(pi_range2 hg hm (pa_cons ha.pe (pa_cons hb.pe pa_nil hst2) (by rw [hst, hst2])) hst hst2).imp fun σ H R' ⟨G0, H0, G, ρ, xc, R, T, q⟩ => ⟨G0, H0, G, ρ, xc, R, T, ha.mo _ _ _ _ (fun d q1 G1 H1 v x1 r1 => ?_) q⟩, fun xc ρ Q Q' i q => ha.mo _ _ _ _ (fun x q => hb.mo _ _ _ _ (fun y ⟨m, n, e1, e2, hn, q⟩ => ⟨m, n, e1, e2, hn, i _ q⟩) q) q⟩
  refine ⟨G0, H0, G1, ρ, xc, R.ext x1, T, hb.mo _ _ _ _ (fun y ⟨m, n, e1, e2, hn, q2⟩ G2 H2 v2 x2 r2 => ?_) q1⟩
  subst e1 e2
  rw [rvO_int r1.o, rvO_int r2.o]
  exact ⟨m, n, rfl, hn, q2 G2 H2 _ (x1.trans x2) (wk_rng m (n - m).toNat)⟩
end
end Tw

/-! Tw, part F: statements, comprehensions, the body of a def. -/
namespace Tw
open PySem PySem.Spec L2 PyProof.Rows

/-- what is wanted behind a statement, in data -/
structure Pd where
  nx : Evn → Prop
  rt : Bool → D → Prop
  bk : Evn → Prop := fun _ => False
  ct : Evn → Prop := fun _ => False
  xc : XC
structure Ties (K : PySem.W.Frag) (G0 H0 G : Hp) (E : XK) (D' : Ends) (Z : Pd) : Prop where
  nx : ∀ ρ σ G' H', Rel K G0 H0 G' ρ σ H' → Same G G' → Z.nx ρ → D'.nx σ H'
  rt : ∀ fr d G' H' v, Ext G0 H0 G' H' → RvR K fr H0 G' H' d v → Z.rt fr d → D'.rt v H'
  bk : ∀ ρ σ G' H', Rel K G0 H0 G' ρ σ H' → Same G G' → Z.bk ρ → D'.bk σ H'
  ct : ∀ ρ σ G' H', Rel K G0 H0 G' ρ σ H' → Same G G' → Z.ct ρ → D'.ct σ H'
  xc : TieX K G0 H0 E Z.xc
theorem Ties.on {K : PySem.W.Frag} {G0 H0 G G1 : Hp} {E : XK} {D' : Ends} {Z : Pd} (T : Ties K G0 H0 G E D' Z) (g : Same G G1) : Ties K G0 H0 G1 E D' Z :=
  ⟨fun ρ σ G' H' R s q => T.nx ρ σ G' H' R (g.trans s) q, T.rt, fun ρ σ G' H' R s q => T.bk ρ σ G' H' R (g.trans s) q, fun ρ σ G' H' R s q => T.ct ρ σ G' H' R (g.trans s) q, T.xc⟩
abbrev Ws := Pd → Evn → Prop
def liftS (K : PySem.W.Frag) (E : XK) (w : Ws) : TS := fun D' σ H => ∃ G0 H0 G ρ Z, Rel K G0 H0 G ρ σ H ∧ Ties K G0 H0 G E D' Z ∧ w Z ρ
structure SJ (E : XK) (X : Cx) (st : Stmt) (w : Ws) : Prop where
  ps : PS X st (liftS X.K E w)
structure BJ (E : XK) (X : Cx) (st : List Stmt) (w : Ws) : Prop where
  ps : PSs X st (liftS X.K E w)
section
variable {X : Cx} {K : PySem.W.Frag} {E : XK} {e a b c o : Expr} {es : List Expr} {w wa wb wc : Wx} {k ka kb : Kd} {pos p : Pos} {u : Wa} {st : Stmt} {rest body : List Stmt} {s s1 s2 : Ws}
@[simp] def sNil : Ws := fun Z ρ => Z.nx ρ
@[simp] def sSeq (s1 s2 : Ws) : Ws := fun Z ρ => s1 { Z with nx := s2 Z } ρ
theorem bj_nil : BJ E X [] sNil := ⟨pss_nil.imp fun D' σ H ⟨G0, H0, G, ρ, Z, R, T, q⟩ => T.nx ρ σ G H R (Same.refl _) q⟩
theorem bj_cons (h1 : SJ E X st s1) (h2 : BJ E X rest s2) : BJ E X (st :: rest) (sSeq s1 s2) :=
  ⟨(pss_cons h1.ps h2.ps).imp fun D' σ H ⟨G0, H0, G, ρ, Z, R, T, q⟩ => ⟨G0, H0, G, ρ, { Z with nx := s2 Z }, R,
    ⟨fun ρ' σ' G' H' R' g q' => ⟨G0, H0, G', ρ', Z, R', T.on g, q'⟩, T.rt, T.bk, T.ct, T.xc⟩, q⟩⟩
theorem bj_one (h1 : SJ E X st s1) : BJ E X [st] s1 := ⟨pss_one h1.ps⟩
theorem bj_never {sts : List Stmt} : BJ E X sts (fun _ _ => False) := ⟨pss_never.imp fun D' σ H ⟨G0, H0, G, ρ, Z, R, T, q⟩ => q⟩
/-- a statement that is not come to -/
theorem sj_never : SJ E X st (fun _ _ => False) := ⟨ps_never.imp fun D' σ H ⟨G0, H0, G, ρ, Z, R, T, q⟩ => q⟩
theorem sj_pass : SJ E X (.Pass pos) sNil := ⟨ps_pass.imp fun D' σ H ⟨G0, H0, G, ρ, Z, R, T, q⟩ => T.nx ρ σ G H R (Same.refl _) q⟩
theorem sj_break : SJ E X (.Break pos) (fun Z ρ => Z.bk ρ) := ⟨ps_break.imp fun D' σ H ⟨G0, H0, G, ρ, Z, R, T, q⟩ => T.bk ρ σ G H R (Same.refl _) q⟩
theorem sj_cont : SJ E X (.Continue pos) (fun Z ρ => Z.ct ρ) := ⟨ps_continue.imp fun D' σ H ⟨G0, H0, G, ρ, Z, R, T, q⟩ => T.ct ρ σ G H R (Same.refl _) q⟩
/-- an own object is never changed from now on -/
def sFrz (i : Nat) (s : Ws) : Ws := fun Z ρ => ∃ d, ρ[i]? = some (.ow d) ∧ s Z (ρ.set i (.da d))
theorem sj_frz {i : Nat} (h : SJ E X st s) : SJ E X st (sFrz i s) := ⟨h.ps.imp fun D' σ H ⟨G0, H0, G, ρ, Z, R, T, d, hi, q⟩ => by
  obtain ⟨G', g, R'⟩ := R.frz hi
  exact ⟨G0, H0, G', _, Z, R', T.on g, q⟩⟩
/-- x = e -/
@[simp] def sSet (i : Nat) (w : Wx) : Ws := fun Z ρ => w Z.xc ρ fun d => Z.nx (ρ.set i (.da d))
theorem sj_set {i : Nat} (he : EJ .e E X e w) (h : PS X st (tAsg (liftW X.K E .e w) (gName i))) : SJ E X st (sSet i w) :=
  ⟨h.imp fun D' σ H ⟨G0, H0, G, ρ, Z, R, T, q⟩ => ⟨G0, H0, G, ρ, Z.xc, R, T.xc, he.mo _ _ _ _ (fun d q1 G1 H1 v x1 r1 => T.nx _ _ _ _ ((R.ext x1).set r1) x1.gg q1) q⟩⟩
/-- x = e, a new object of one's own -/
@[simp] def sSetO (i : Nat) (w : Wx) : Ws := fun Z ρ => w Z.xc ρ fun d => Z.nx (ρ.set i (.ow d))
theorem sj_setO {i : Nat} (he : EJ .f E X e w) (h : PS X st (tAsg (liftW X.K E .f w) (gName i))) : SJ E X st (sSetO i w) :=
  ⟨h.imp fun D' σ H ⟨G0, H0, G, ρ, Z, R, T, q⟩ => ⟨G0, H0, G, ρ, Z.xc, R, T.xc, he.mo _ _ _ _ (fun d q1 G1 H1 v x1 r1 => by
    obtain ⟨p, o, rfl, h1, h2, t, g⟩ := r1
    refine T.nx _ _ _ _ ((R.ext x1).setO h2 t g (R.h0.free h1) fun j d' hj hs => ?_) x1.gg q1
    obtain ⟨p', o', e1, e2, _⟩ := R.sl j _ hj
    rw [hs] at e1
    cases e1
    rw [h1] at e2
    cases e2) q⟩⟩
/-- target = e -/
def sAsg (w : Wx) (g : Wg) : Ws := fun Z ρ => w Z.xc ρ fun d => g d ρ Z.nx
theorem sj_asg {tgs : List Nat} {g : Wg} {t : Expr} (he : EJ .e E X e w) (hg : GJ X t tgs g) (h : PS X st (tAsg (liftW X.K E .e w) (liftG X.K tgs g))) : SJ E X st (sAsg w g) :=
  ⟨h.imp fun D' σ H ⟨G0, H0, G, ρ, Z, R, T, q⟩ => ⟨G0, H0, G, ρ, Z.xc, R, T.xc, he.mo _ _ _ _ (fun d q1 G1 H1 v x1 r1 => ⟨G0, H0, G1, ρ, d, R.ext x1, r1, hg.mo _ _ _ _ (fun ρ' q2 σ' R' _ => T.nx _ _ _ _ R' x1.gg q2) q1⟩) q⟩⟩
/-- an expression alone -/
@[simp] def sExp (w : Wx) : Ws := fun Z ρ => w Z.xc ρ fun _ => Z.nx ρ
theorem sj_exp (he : EJ k E X e w) (h : PS X st (tDrop (liftW X.K E k w))) : SJ E X st (sExp w) :=
  ⟨h.imp fun D' σ H ⟨G0, H0, G, ρ, Z, R, T, q⟩ => ⟨G0, H0, G, ρ, Z.xc, R, T.xc, he.mo _ _ _ _ (fun d q1 G1 H1 v x1 r1 => T.nx _ _ _ _ (R.ext x1) x1.gg q1) q⟩⟩
/-- return e -/
@[simp] def sRet (w : Wx) : Ws := fun Z ρ => w Z.xc ρ fun d => Z.rt false d
theorem sj_ret (he : EJ .e E X e w) : SJ E X (.Return (some e) pos) (sRet w) :=
  ⟨(ps_ret he.pe).imp fun D' σ H ⟨G0, H0, G, ρ, Z, R, T, q⟩ => ⟨G0, H0, G, ρ, Z.xc, R, T.xc, he.mo _ _ _ _ (fun d q1 G1 H1 v x1 r1 => T.rt false d G1 H1 v (R.ex.trans x1) r1 q1) q⟩⟩
@[simp] def sRetF (w : Wx) : Ws := fun Z ρ => w Z.xc ρ fun d => Z.rt true d
theorem sj_retF (he : EJ .f E X e w) : SJ E X (.Return (some e) pos) (sRetF w) :=
  ⟨(ps_ret he.pe).imp fun D' σ H ⟨G0, H0, G, ρ, Z, R, T, q⟩ => ⟨G0, H0, G, ρ, Z.xc, R, T.xc, he.mo _ _ _ _ (fun d q1 G1 H1 v x1 r1 => T.rt true d G1 H1 v (R.ex.trans x1) (rv_later (k := .f) R.h0 r1) q1) q⟩⟩
/-- return x, an own object -/
def sRetO (i : Nat) : Ws := fun Z ρ => ∃ d, ρ[i]? = some (.ow d) ∧ Z.rt true d
theorem sj_retO {i : Nat} (h : PE X e (tVar i)) : SJ E X (.Return (some e) pos) (sRetO i) :=
  ⟨(ps_ret h).imp fun D' σ H ⟨G0, H0, G, ρ, Z, R, T, d, hi, q⟩ => by
    obtain ⟨p, o, e1, e2, t, g, z⟩ := R.sl i _ hi
    exact ⟨_, e1, T.rt true d G H _ R.ex ⟨p, o, rfl, z, e2, t, g⟩ q⟩⟩
def sRetN : Ws := fun Z ρ => Z.rt false .non
theorem sj_retN : SJ E X (.Return none pos) sRetN := ⟨ps_retN.imp fun D' σ H ⟨G0, H0, G, ρ, Z, R, T, q⟩ => T.rt false .non G H _ R.ex (.non : Rp X.K G .non .non) q⟩
/-- if -/
@[simp] def sIf (t : Wt) (s1 s2 : Ws) : Ws := fun Z ρ => t Z.xc ρ fun b => if b = true then s1 Z ρ else s2 Z ρ
theorem sj_if {tt : Wt} {b1 b2 : List Stmt} (hc : TJ E X c tt) (h1 : BJ E X b1 s1) (h2 : BJ E X b2 s2) : SJ E X (.If c b1 b2 pos) (sIf tt s1 s2) :=
  ⟨(ps_if hc.pt h1.ps h2.ps).imp fun D' σ H ⟨G0, H0, G, ρ, Z, R, T, q⟩ => ⟨G0, H0, G, ρ, Z.xc, R, T.xc, hc.mo _ _ _ _ (fun b q1 G1 H1 x1 => by
    cases b with
    | true => rw [if_pos rfl] at q1 ⊢; exact ⟨G0, H0, G1, ρ, Z, R.ext x1, T.on x1.gg, q1⟩
    | false => rw [if_neg Bool.false_ne_true] at q1 ⊢; exact ⟨G0, H0, G1, ρ, Z, R.ext x1, T.on x1.gg, q1⟩) q⟩⟩
/-- the turns of a for -/
def forW (g : Wg) (b : Ws) (Z : Pd) : List D → Evn → Prop
  | [], ρ => Z.nx ρ
  | x :: xs, ρ => g x ρ fun ρ' => b { Z with nx := forW g b Z xs, ct := forW g b Z xs, bk := Z.nx } ρ'
def sFor (wi : Wa) (g : Wg) (b : Ws) : Ws := fun Z ρ => wi Z.xc ρ fun items => forW g b Z items ρ
theorem sj_for {tg iter : Expr} {wi : Wa} {tgs : List Nat} {g : Wg} (hp : PassesOwn (model X.prog X.w) X.A X.env X.xe) (hc : X.calm = true) (hi : IJ E X tg iter wi) (hg : GJ X tg tgs g) (hb : BJ E X body s)
    (hs : ∀ x, foldedSetIterable iter X.env x = pure x := by intro _; rfl) : SJ E X (.For tg iter body [] pos) (sFor wi g s) := by
  refine ⟨(ps_for hp hc hi.pi hg.pg hb.ps hs).imp fun D' σ H ⟨G0, H0, G, ρ, Z, R, T, q⟩ => ⟨G0, H0, G, ρ, Z.xc, R, T.xc, hi.mo _ _ _ _ (fun items q1 G1 H1 J x1 wk => ?_) q⟩⟩
  refine ⟨fun i m σ H => m = items.length - i ∧ i ≤ items.length ∧ ∃ G2 ρ2, Same G1 G2 ∧ Rel X.K G0 H0 G2 ρ2 σ H ∧ forW g s Z (items.drop i) ρ2, ⟨_, rfl, Nat.zero_le _, G1, ρ, Same.refl _, R.ext x1, q1⟩, ?_⟩
  rintro i m σ2 H2 ⟨rfl, hi, G2, ρ2, s2, R2, q2⟩
  by_cases hlt : i < items.length
  · have ed : items.drop i = items[i] :: items.drop (i + 1) := List.drop_eq_getElem_cons hlt
    rw [ed] at q2
    refine .inr ⟨wk.go i G2 H2 hlt s2 R2.gh, fun σ' H' => ∃ G3 ρ3, Same G1 G3 ∧ Rel X.K G0 H0 G3 ρ3 σ' H' ∧ forW g s Z (items.drop (i + 1)) ρ3, fun σ' H' q3 => ⟨items.length - (i + 1), by omega, rfl, hlt, q3⟩, fun x H3 y => ?_⟩
    obtain ⟨G3, d, x3, hd, rd⟩ := wk.yld i G2 H2 x H3 hlt s2 R2.gh y
    rw [List.getElem?_eq_getElem hlt] at hd
    cases hd
    refine ⟨G0, H0, G3, ρ2, _, R2.ext x3, rd, hg.mo _ _ _ _ (fun ρ' q3 σ' R' _ => ?_) q2⟩
    have s3 : Same G1 G3 := s2.trans x3.gg
    refine ⟨G0, H0, G3, ρ', { Z with nx := forW g s Z (items.drop (i + 1)), ct := forW g s Z (items.drop (i + 1)), bk := Z.nx }, R', ⟨fun ρ4 σ4 G4 H4 R4 s4 q4 => ⟨G4, ρ4, s3.trans s4, R4, q4⟩, T.rt, fun ρ4 σ4 G4 H4 R4 s4 q4 => T.nx ρ4 σ4 G4 H4 R4 (x1.gg.trans (s3.trans s4)) q4, fun ρ4 σ4 G4 H4 R4 s4 q4 => ⟨G4, ρ4, s3.trans s4, R4, q4⟩, T.xc⟩, q3⟩
  · have e : i = items.length := by omega
    subst e
    rw [List.drop_length] at q2
    exact .inl ⟨wk.stop G2 H2 s2 R2.gh, T.nx ρ2 σ2 G2 H2 R2 (x1.gg.trans s2) q2⟩
end
end Tw

/-! Tw, part G: comprehensions, while, methods of lists, the body of a def. -/
namespace Tw
open PySem PySem.Spec L2 PyProof.Rows
def s00 : Shared := {}
@[simp] def wipeD (ρ : Evn) (vs : List Nat) : Evn := vs.foldr (fun v r => r.set v .no) ρ
abbrev xcNo : XC := fun _ _ => False
theorem tieNo {K : PySem.W.Frag} {G0 H0 : Hp} {E : XK} : TieX K G0 H0 E xcNo := fun _ _ _ _ _ _ _ q => q.elim
section
variable {X : Cx} {K : PySem.W.Frag} {E : XK} {e a b c o : Expr} {es : List Expr} {w wa wb wc : Wx} {k ka kb : Kd} {pos p : Pos} {u : Wa} {st : Stmt} {rest body : List Stmt} {s s1 s2 : Ws}
/-- the tests of a comprehension -/
structure TsJ (E : XK) (X : Cx) (es : List Expr) (w : Wt) : Prop where
  pt : PTs X es (liftT X.K E w)
  mo : ∀ xc ρ (Q Q' : Bool → Prop), (∀ d, Q d → Q' d) → w xc ρ Q → w xc ρ Q'
theorem _root_.L2.PTs.imp {X : Cx} {e : List Expr} {t t' : TT} (h : PTs X e t) (i : ∀ σ H Q, t' σ H Q → t σ H Q) : PTs X e t' := ⟨fun pins s σ H Q I q => h.run pins s σ H Q I (i _ _ _ q)⟩
def wtYes : Wt := fun _ _ Q => Q true
theorem tsj_nil : TsJ E X [] wtYes := ⟨pts_nil.imp fun σ H Q ⟨G0, H0, G, ρ, xc, R, T, q⟩ => q G H (.refl R.gh), fun _ _ _ _ i q => i _ q⟩
theorem tsj_one {tt : Wt} (h : TJ E X c tt) : TsJ E X [c] tt := ⟨pts_one h.pt, h.mo⟩
/-- the turns of a comprehension, acc what it has made -/
def lcW (g : Wg) (tt : Wt) (we : Wx) (ρ : Evn) (Q : List D → Prop) : List D → List D → Prop
  | [], acc => Q acc
  | x :: xs, acc => g x ρ fun ρ' => tt xcNo ρ' fun t => if t = true then we xcNo ρ' fun y => acc.length < sizeLine ∧ lcW g tt we ρ Q xs (acc ++ [y]) else lcW g tt we ρ Q xs acc
theorem lcW_mo {g : Wg} {tt : Wt} {we : Wx} {ρ : Evn} {Q Q' : List D → Prop} (mg : ∀ d ρ (Q Q' : Evn → Prop), (∀ r, Q r → Q' r) → g d ρ Q → g d ρ Q') (mt : ∀ xc ρ (Q Q' : Bool → Prop), (∀ d, Q d → Q' d) → tt xc ρ Q → tt xc ρ Q')
    (me : ∀ xc ρ (Q Q' : D → Prop), (∀ d, Q d → Q' d) → we xc ρ Q → we xc ρ Q') (i : ∀ d, Q d → Q' d) : ∀ xs acc, lcW g tt we ρ Q xs acc → lcW g tt we ρ Q' xs acc
  | [], acc, q => i _ q
  | x :: xs, acc, q => mg _ _ _ _ (fun ρ' q => mt _ _ _ _ (fun t q => by
      cases t with
      | true => rw [if_pos rfl] at q ⊢; exact me _ _ _ _ (fun y q => ⟨q.1, lcW_mo mg mt me i xs _ q.2⟩) q
      | false => rw [if_neg Bool.false_ne_true] at q ⊢; exact lcW_mo mg mt me i xs acc q) q) q
@[simp] def wLc (wi : Wa) (g : Wg) (tt : Wt) (we : Wx) (vs : List Nat) : Wx := fun xc ρ Q => wi xc ρ fun items => lcW g tt we (wipeD ρ vs) (fun acc => Q (.lst acc)) items []
/-- an object that is in no slot changed -/
theorem Rel.chgX {G0 H0 G H : Hp} {ρ : Evn} {σ : L2.St} {a : Addr} {o : HO} (R : Rel K G0 H0 G ρ σ H) (ni : ∀ C dx vf, H a ≠ some (.ins C dx vf)) (ga : G a = none) (ha0 : H0 a = none) (nw : ∀ (j : Nat) (e : D), ρ[j]? = some (.ow e) → σ[j]? ≠ some (some (.ref a))) : Rel K G0 H0 G ρ σ (upd H a o) := by
  refine ⟨R.len, fun b u q => ?_, R.g0, fun b u q => ?_, R.gn, fun i s hs => ?_, R.dj⟩
  · rw [upd_ne (fun z => by subst z; rw [ga] at q; cases q)]; exact R.gh _ _ q
  · rw [upd_ne (fun z => by subst z; rw [ha0] at q; cases q)]; exact R.h0 _ _ q
  · have q := R.sl i s hs
    cases s with
    | no => trivial
    | da x => exact q
    | ow x =>
      obtain ⟨b, u, f1, f2, f3, f4, f5⟩ := q
      refine ⟨b, u, f1, ?_, f3, f4, f5⟩
      rw [upd_ne (fun z => by subst z; exact nw i x hs f1)]
      exact f2
    | se b C fs =>
      obtain ⟨f1, dx, vf, f2, f3⟩ := q
      refine ⟨f1, dx, vf, ?_, f3⟩
      rw [upd_ne (fun z => by subst z; exact ni _ _ _ f2)]
      exact f2
theorem lc_imp {tg iter : Expr} {own : List (Str × Nat)} {wi : Wa} {tgs : List Nat} {g : Wg} {tt : Wt} {we : Wx}
    (hi : IJ E X tg iter wi) (hsub : ∀ t ∈ tgs, t ∈ own.map (·.2))
    (mg : ∀ d ρ (Q Q' : Evn → Prop), (∀ r, Q r → Q' r) → g d ρ Q → g d ρ Q') (mt : ∀ xc ρ (Q Q' : Bool → Prop), (∀ d, Q d → Q' d) → tt xc ρ Q → tt xc ρ Q') (me : ∀ xc ρ (Q Q' : D → Prop), (∀ d, Q d → Q' d) → we xc ρ Q → we xc ρ Q')
    (σ : L2.St) (H : Hp) (Q : VK) (h : liftW X.K E .f (wLc wi g tt we (own.map (·.2))) σ H Q) : tLc (liftI X.K E wi) (liftG X.K tgs g) (liftT X.K E0 tt) (liftW X.K E0 .e we) (own.map (·.2)) σ H Q := by
  obtain ⟨G0, H0, G, ρ, xc, R, T, q⟩ := h
  refine ⟨G0, H0, G, ρ, xc, R, T, hi.mo _ _ _ _ (fun items q1 G1 H1 J x1 wk => ?_) q⟩
  intro D' hD
  have R1 := R.ext x1
  have nD : ∀ (j : Nat) (e : D), ρ[j]? = some (.ow e) → σ[j]? ≠ some (some (.ref D')) := fun j d' hj hs => by
    obtain ⟨p', o', e1, e2, _⟩ := R1.sl j _ hj
    rw [hs] at e1
    cases e1
    rw [hD] at e2
    cases e2
  have hD0 : H0 D' = none := R1.h0.free hD
  obtain ⟨ρw, ew, Rw⟩ := R1.wipe (own.map (·.2))
  have ew' : wipeD ρ (own.map (·.2)) = ρw := ew.symm
  rw [ew'] at q1
  have nDw : ∀ (j : Nat) (e : D), ρw[j]? = some (.ow e) → (L2.wipe σ (own.map (·.2)))[j]? ≠ some (some (.ref D')) := fun j d' hj hs => by
    obtain ⟨p', o', e1, e2, _⟩ := Rw.sl j _ hj
    rw [hs] at e1
    cases e1
    rw [hD] at e2
    cases e2
  refine ⟨fun i m H2 => m = items.length - i ∧ i ≤ items.length ∧ ∃ G2 vs acc, Same G1 G2 ∧ Same H1 H2 ∧ (∀ a, H1 a ≠ none → G1 a = none → G2 a = none) ∧ G2 D' = none ∧ H2 D' = some (.lst vs) ∧ Rps X.K G2 acc vs ∧ Rel X.K G0 H0 G2 ρw (L2.wipe σ (own.map (·.2))) H2 ∧
    lcW g tt we ρw (fun acc => ∀ G' H' v, Ext G H G' H' → RvK X.K .f H G' H' (.lst acc) v → Q v H') (items.drop i) acc, ⟨_, rfl, Nat.zero_le _, G1, [], [], Same.refl _, same_upd hD, fun _ _ q => q, x1.gh.free hD, upd_same, .nil, Rw.chgX (fun _ _ _ z => by rw [hD] at z; cases z) (x1.gh.free hD) hD0 nDw, q1⟩, ?_⟩
  rintro i m H2 ⟨rfl, hi', G2, vs, acc, s2, h2, n2, gD, eD, ra, R2, q2⟩
  by_cases hlt : i < items.length
  · have ed : items.drop i = items[i] :: items.drop (i + 1) := List.drop_eq_getElem_cons hlt
    rw [ed] at q2
    refine .inr ⟨wk.go i G2 H2 hlt s2 R2.gh, _, fun H' q3 => ⟨items.length - (i + 1), by omega, rfl, hlt, q3⟩, fun x H3 y => ?_⟩
    obtain ⟨G3, d, x3, hd, rd⟩ := wk.yld i G2 H2 x H3 hlt s2 R2.gh y
    rw [List.getElem?_eq_getElem hlt] at hd
    cases hd
    refine ⟨G0, H0, G3, ρw, _, R2.ext x3, rd, mg _ _ _ _ (fun ρ' q3 σ' R' wv => ?_) q2⟩
    refine ⟨(wv _ hsub).trans (wipe_wipe _ _), G0, H0, G3, ρ', xcNo, R', tieNo, mt _ _ _ _ (fun t q4 G4 H4 x4 => ?_) q3⟩
    have x34 := x3.trans x4
    have n4 : ∀ a, H1 a ≠ none → G1 a = none → G4 a = none := fun a ha hg' => x34.gn a (Same.nn h2 ha) (n2 a ha hg')
    cases t with
    | true =>
      rw [if_pos rfl] at q4
      refine iteT ?_
      refine ⟨G0, H0, G4, ρ', xcNo, R'.ext x4, tieNo, me _ _ _ _ (fun yd q5 G5 H5 v x5 r5 => ?_) q4⟩
      have x35 := x34.trans x5
      have e5 : H5 D' = some (.lst vs) := x35.hh _ _ eD
      have g5 : G5 D' = none := x35.gn D' (by rw [eD]; simp) gD
      refine ⟨vs, e5, by rw [← ra.length]; exact q5.1, G5, vs ++ [v], acc ++ [yd], s2.trans x35.gg, fun b ob hb => ?_, fun a ha hg' => x5.gn a (Same.nn (h2.trans x34.hh) ha) (n4 a ha hg'), g5, upd_same, (ra.mono x35.gg).append (.cons r5 .nil), (R2.ext x35).chgX (fun _ _ _ z => by rw [e5] at z; cases z) g5 hD0 nDw, q5.2⟩
      rw [upd_ne (ne_of_none hb hD)]
      exact x35.hh _ _ (h2 _ _ hb)
    | false =>
      rw [if_neg Bool.false_ne_true] at q4
      refine iteF ?_
      exact ⟨G4, vs, acc, s2.trans x34.gg, h2.trans x34.hh, n4, x34.gn D' (by rw [eD]; simp) gD, x34.hh _ _ eD, ra.mono x34.gg, R2.ext x34, q4⟩
  · have e : i = items.length := by omega
    subst e
    rw [List.drop_length] at q2
    refine .inl ⟨wk.stop G2 H2 s2 R2.gh, ?_⟩
    exact q2 G2 H2 (.ref D') (x1.trans ⟨s2, h2, R2.gh, n2⟩) ⟨D', _, rfl, x1.hh.free hD, eD, ra, gD⟩
theorem ej_lc {tg iter : Expr} {own : List (Str × Nat)} {wi : Wa} {tgs : List Nat} {g : Wg} {tt : Wt} {we : Wx}
    (hpe : PE X e (tLc (liftI X.K E wi) (liftG X.K tgs g) (liftT X.K E0 tt) (liftW X.K E0 .e we) (own.map (·.2))))
    (hi : IJ E X tg iter wi) (hsub : ∀ t ∈ tgs, t ∈ own.map (·.2))
    (mg : ∀ d ρ (Q Q' : Evn → Prop), (∀ r, Q r → Q' r) → g d ρ Q → g d ρ Q') (mt : ∀ xc ρ (Q Q' : Bool → Prop), (∀ d, Q d → Q' d) → tt xc ρ Q → tt xc ρ Q') (me : ∀ xc ρ (Q Q' : D → Prop), (∀ d, Q d → Q' d) → we xc ρ Q → we xc ρ Q') :
    EJ .f E X e (wLc wi g tt we (own.map (·.2))) :=
  ⟨hpe.imp fun σ H Q h => lc_imp hi hsub mg mt me σ H Q h, fun xc ρ Q Q' i q => hi.mo _ _ _ _ (fun items q => lcW_mo mg mt me (fun d q => i _ q) _ _ q) q⟩
/-- [elt for target in iter if ..] -/
theorem ej_comp {tg iter elt : Expr} {ifs : List Expr} {scope : Scope} {own : List (Str × Nat)} {wi : Wa} {tgs : List Nat} {g : Wg} {tt : Wt} {we : Wx} (hc : X.calm = true) (hN : X.N.Nodup) (ok : BlkOk X.N X.env.scope scope own)
    (hi : IJ E X tg iter wi) (hsub : ∀ t ∈ tgs, t ∈ own.map (·.2))
    (hg : ∀ (s : Shared) (H : Hp) (C : Addr) (cl : List (Str × Addr)) (fp : List Addr), GJ (X.blk s H scope (compEnvC scope cl C X.env) fp) tg tgs g)
    (ht : ∀ (s : Shared) (H : Hp) (C : Addr) (cl : List (Str × Addr)) (fp : List Addr), TsJ E0 (X.blk s H scope (compEnvC scope cl C X.env) fp) ifs tt)
    (he : ∀ (s : Shared) (H : Hp) (C : Addr) (cl : List (Str × Addr)) (fp : List Addr), EJ .e E0 (X.blk s H scope (compEnvC scope cl C X.env) fp) elt we)
    (hs : ∀ x, foldedSetIterable iter X.env x = pure x := by intro _; rfl) : EJ .f E X (.ListComp elt [⟨tg, iter, ifs, 0⟩] scope pos) (wLc wi g tt we (own.map (·.2))) :=
  ej_lc (pe_lc (g := liftG X.K tgs g) (tt := liftT X.K E0 tt) (te := liftW X.K E0 .e we) hc hN hi.pi ok (fun s H C cl fp => (hg s H C cl fp).pg) (fun s H C cl fp => (ht s H C cl fp).pt) (fun s H C cl fp => (he s H C cl fp).pe) hs) hi hsub
    (hg s00 (fun _ => none) s00.heap.objs.size [] []).mo (ht s00 (fun _ => none) s00.heap.objs.size [] []).mo (he s00 (fun _ => none) s00.heap.objs.size [] []).mo
/-- y = [..], y a local that is no cell -/
theorem comp_set {tg iter elt : Expr} {ifs : List Expr} {scope : Scope} {own : List (Str × Nat)} {wi : Wa} {tgs : List Nat} {g : Wg} {tt : Wt} {we : Wx} {i : Nat} {y : Str} {py spos : Pos} (hc : X.calm = true) (hN : X.N.Nodup) (hy : X.N[i]? = some y) (hyl : X.env.scope.names.lookup y = some .local)
    (hsw : swapsWith (.ListComp elt [⟨tg, iter, ifs, 0⟩] scope pos) (some (.Name y py)) spos.line X.env = pure true) (ok : BlkOk X.N X.env.scope scope own)
    (hi : IJ E X tg iter wi) (hsub : ∀ t ∈ tgs, t ∈ own.map (·.2))
    (hg : ∀ (s : Shared) (H : Hp) (C : Addr) (cl : List (Str × Addr)) (fp : List Addr), GJ (X.blk s H scope (compEnvC scope cl C X.env) fp) tg tgs g)
    (ht : ∀ (s : Shared) (H : Hp) (C : Addr) (cl : List (Str × Addr)) (fp : List Addr), TsJ E0 (X.blk s H scope (compEnvC scope cl C X.env) fp) ifs tt)
    (he : ∀ (s : Shared) (H : Hp) (C : Addr) (cl : List (Str × Addr)) (fp : List Addr), EJ .e E0 (X.blk s H scope (compEnvC scope cl C X.env) fp) elt we)
    (hs : ∀ x, foldedSetIterable iter X.env x = pure x := by intro _; rfl) :
    PS X (.Assign [.Name y py] (.ListComp elt [⟨tg, iter, ifs, 0⟩] scope pos) spos) (tAsg (liftW X.K E .f (wLc wi g tt we (own.map (·.2)))) (gName i)) ∧ EJ .f E X (.ListComp elt [⟨tg, iter, ifs, 0⟩] scope pos) (wLc wi g tt we (own.map (·.2))) := by
  refine ⟨(ps_setLc (g := liftG X.K tgs g) (tt := liftT X.K E0 tt) (te := liftW X.K E0 .e we) hc hN hy hyl hsw hi.pi ok (fun s H C cl fp => (hg s H C cl fp).pg) (fun s H C cl fp => (ht s H C cl fp).pt) (fun s H C cl fp => (he s H C cl fp).pe) hs).imp fun D' σ H h => ?_, ej_comp hc hN ok hi hsub hg ht he hs⟩
  exact lc_imp hi hsub (hg s00 (fun _ => none) s00.heap.objs.size [] []).mo (ht s00 (fun _ => none) s00.heap.objs.size [] []).mo (he s00 (fun _ => none) s00.heap.objs.size [] []).mo σ H _ h
end
end Tw

/-! Tw, part H: defs, their calls; own lists and dicts; while; zip, enumerate; stars. -/
namespace Tw
open PySem PySem.Spec L2 PyProof.Rows

/-! ### defs -/
section
variable {P : Program} {w : World} {K : PySem.W.Frag} {mg : Str → Option Value} {base : Heap}
theorem fn_ok {x qual : Str} {st : Stmt} {f : Addr} {fd : FuncData} {N ps : List Str} {k : Nat} {wf : Wf} {wb : Ws} (F : Fun K x qual st f fd) (S : FnScope N ps (defScope st)) (hn : ∀ xc ds Q, wf xc ds Q → ds.length = ps.length)
    (hb : ∀ (cdv : Value) (A : Around) (outer : List Env) (s : Shared) (H : Hp) (E : XK), Room k (A.deeper (envOfC qual (defScope st) s.heap.objs.size f cdv)) →
      BJ E (cxOf (L2.CX P w) P w K mg base N qual (defScope st) f cdv A outer s H E) (defBody st) wb)
    (hw : ∀ xc ds (Q : Bool → D → Prop), wf xc ds Q → wb { nx := fun _ => Q false .non, rt := Q, xc := xc } (ds.map .da ++ List.replicate (N.length - ds.length) .no)) :
    FnOk P w K mg base (L2.CX P w) (k + 1) f fd ps (spOf K ps.length wf) := by
  refine F.okX S (fun vs H Q E h => h.1) (fun cdv A outer s H vs Q E hr h => ?_)
  obtain ⟨hl, G, ds, xc, g, r, T, q⟩ := h
  have q' := hw xc ds _ q
  refine ⟨_, (hb cdv A outer s H E hr).ps, G, H, G, _, _, Rel.start g r, ⟨?_, ?_, ?_, ?_, ?_⟩, q'⟩
  · exact fun ρ σ G' H' R _ q => q G' H' .non R.ex (.non : Rp K G' .non .non)
  · exact fun fr d G' H' v x r q => q G' H' v x r
  · exact fun _ _ _ _ _ _ q => q.elim
  · exact fun _ _ _ _ _ _ q => q.elim
  · exact T
/-- a def of the text by its name -/
structure At (K : PySem.W.Frag) (mg : Str → Option Value) (x : Str) (st : Stmt) (ps : List Str) : Prop where
  ex : ∃ f fd, Fun K x x st f fd ∧ mg x = some (.ref f) ∧ Binds K fd ps []
/-- .. and what it keeps -/
structure Def (P : Program) (w : World) (K : PySem.W.Frag) (mg : Str → Option Value) (base : Heap) (x : Str) (n k : Nat) (wf : Wf) : Prop where
  ex : ∃ f fd ps, FnOk P w K mg base (L2.CX P w) k f fd ps (spOf K n wf) ∧ mg x = some (.ref f) ∧ PySem.W.keepIn K (.ref f) = true ∧ Binds K fd ps []
  mo : MoF wf
  hn : ∀ ds xc Q, wf xc ds Q → ds.length = n
theorem def_ok {x : Str} {st : Stmt} {N ps : List Str} {k : Nat} {wf : Wf} {wb : Ws} (A : At K mg x st ps) (S : FnScope N ps (defScope st)) (m : MoF wf) (hn : ∀ ds xc Q, wf xc ds Q → ds.length = ps.length)
    (hb : ∀ (f : Addr) (cdv : Value) (A : Around) (outer : List Env) (s : Shared) (H : Hp) (E : XK), Room k (A.deeper (envOfC x (defScope st) s.heap.objs.size f cdv)) →
      BJ E (cxOf (L2.CX P w) P w K mg base N x (defScope st) f cdv A outer s H E) (defBody st) wb)
    (hw : ∀ xc ds (Q : Bool → D → Prop), wf xc ds Q → wb { nx := fun _ => Q false .non, rt := Q, xc := xc } (ds.map .da ++ List.replicate (N.length - ds.length) .no)) :
    Def P w K mg base x ps.length (k + 1) wf := by
  obtain ⟨f, fd, F, hm, b⟩ := A.ex
  exact ⟨⟨f, fd, ps, fn_ok F S (fun xc ds Q q => hn ds xc Q q) (hb f) hw, hm, F.kp, b⟩, m, hn⟩
theorem at_mk {h : Heap} {x : Str} {st : Stmt} {f : Addr} {oc : Value} {od an : Option Addr} {osl : Array (Option Value)} {kV doc pm cdv ct : Value} {ps : List Str} (X : K.In h) (G : h.Ns mainGlobals mg)
    (a : PySem.W.nsIn K mainGlobals x = some (some (.ref f)))
    (l : K.lookup f = some ⟨oc, od, .func (PySem.W.fnOf x x (defArgs st) (defBody st) (defScope st) .none kV doc pm an cdv ct), osl⟩)
    (c : PySem.W.codeIn K cdv x = true) (k : PySem.W.keepIn K (.ref f) = true)
    (b : ∀ (kV doc pm : Value) (an : Option Addr) (cdv ct : Value) (us : List Value), us.length = ps.length → bindArgs (PySem.W.fnOf x x (defArgs st) (defBody st) (defScope st) .none kV doc pm an cdv ct) ⟨us, []⟩ = pure (ps.zip us)) :
    At K mg x st ps := ⟨f, _, fun_mk l c k, PySem.W.mg_of X G a, (fun_mk l c k).binds b⟩
end
section
variable {X : Cx} {K : PySem.W.Frag} {E : XK} {e a b c o : Expr} {es : List Expr} {w wa wb wc : Wx} {k ka kb : Kd} {pos p : Pos} {u : Wa} {st : Stmt} {rest body : List Stmt} {s s1 s2 : Ws}
theorem ej_fn {x : Str} {n j : Nat} {wf : Wf} (F : Def X.prog X.w X.K X.mg X.base x n j wf) (hr : Room j X.A) (hg : Gl X x) (hx : Passes (L2.CX X.prog X.w) X E) (ha : AJ true E X (e :: es) u)
    (hdb : (x == ("__debug__" : Str)) = false := by decide) (he : starEach (e :: es) X.env = (false, eval e X.env) :: starEach es X.env := by rfl) (hpl : (backTo pos (starEach es X.env)).any (·.1) = false := by rfl) :
    EJ .e E X (.Call (.Name x p) (e :: es) [] pos) (wCall wf [] u) := by
  obtain ⟨f, fd, ps, Fo, hm, kp, b⟩ := F.ex
  exact ej_call F.mo (dvs := []) (fun _ => .nil) ha (pe_call Fo hr hg hm kp b .nil hx ha.pa hdb he hpl) F.hn
theorem ej_fnF {x : Str} {n j : Nat} {wf : Wf} (F : Def X.prog X.w X.K X.mg X.base x n j wf) (hr : Room j X.A) (hg : Gl X x) (hx : Passes (L2.CX X.prog X.w) X E) (ha : AJ true E X (e :: es) u)
    (hdb : (x == ("__debug__" : Str)) = false := by decide) (he : starEach (e :: es) X.env = (false, eval e X.env) :: starEach es X.env := by rfl) (hpl : (backTo pos (starEach es X.env)).any (·.1) = false := by rfl) :
    EJ .f E X (.Call (.Name x p) (e :: es) [] pos) (wCallF wf [] u) := by
  obtain ⟨f, fd, ps, Fo, hm, kp, b⟩ := F.ex
  exact ej_callF F.mo (dvs := []) (fun _ => .nil) ha (pe_call Fo hr hg hm kp b .nil hx ha.pa hdb he hpl) F.hn
/-- in the body of a def (not in a comprehension, not in a try) -/
theorem passM {P : Program} {w0 : World} {K : PySem.W.Frag} {mg : Str → Option Value} {base : Heap} {N : List Str} {q : Str} {sc : Scope} {f : Addr} {cdv : Value} {A : Around} {outer : List Env} {s : Shared} {H : Hp} {E : XK} :
    Passes (L2.CX P w0) (cxOf (L2.CX P w0) P w0 K mg base N q sc f cdv A outer s H E) E := passes_call (takes_of rfl rfl rfl rfl) fun _ _ _ _ h => h

/-! ### own lists -/
theorem own_lst {G0 H0 G H : Hp} {ρ : Evn} {σ : L2.St} {i : Nat} {ds : List D} (R : Rel K G0 H0 G ρ σ H) (hi : ρ[i]? = some (.ow (.lst ds))) : ∃ a vs, σ[i]? = some (some (.ref a)) ∧ H a = some (.lst vs) ∧ Rps K G ds vs := by
  obtain ⟨a, o, e1, e2, t, _⟩ := R.sl i _ hi
  cases o <;> first | exact t.elim | exact ⟨a, _, e1, e2, t⟩
/-- xs.append(e) -/
def sApp (i : Nat) (w : Wx) : Ws := fun Z ρ => ∃ ds, ρ[i]? = some (.ow (.lst ds)) ∧ w Z.xc ρ fun d => ds.length < sizeLine ∧ Z.nx (ρ.set i (.ow (.lst (ds ++ [d]))))
theorem sj_app {i : Nat} {name : Str} {id : String} (he : EJ .e E X e w) (h : PS X st (tDrop (tBM X.K "list" rAppend (tVar i) (tCons (liftW X.K E .e w) tNil)))) : SJ E X st (sApp i w) :=
  ⟨h.imp fun D' σ H ⟨G0, H0, G, ρ, Z, R, T, ds, hi, q⟩ => by
    obtain ⟨l, vs, e1, e2, r⟩ := own_lst R hi
    refine ⟨_, e1, .inl ⟨rfl, vs, SqL.of e2⟩, G0, H0, G, ρ, Z.xc, R, T.xc, he.mo _ _ _ _ (fun d ⟨z, q1⟩ G1 H1 v x1 r1 => ?_) q⟩
    refine ⟨l, vs, v, rfl, rfl, x1.hh _ _ e2, by rw [← r.length]; exact z, ?_⟩
    exact T.nx _ _ _ _ ((R.ext x1).chg hi e1 (show Top X.K G1 (.lst (ds ++ [d])) (.lst (vs ++ [v])) from (r.mono x1.gg).append (.cons r1 .nil))) x1.gg q1⟩
/-- xs.reverse(), xs.clear() -/
def sRev (i : Nat) : Ws := fun Z ρ => ∃ ds, ρ[i]? = some (.ow (.lst ds)) ∧ Z.nx (ρ.set i (.ow (.lst ds.reverse)))
theorem sj_rev {i : Nat} (h : PS X st (tDrop (tBM0 X.K "list" rReverse (tVar i)))) : SJ E X st (sRev i) :=
  ⟨h.imp fun D' σ H ⟨G0, H0, G, ρ, Z, R, T, ds, hi, q⟩ => by
    obtain ⟨l, vs, e1, e2, r⟩ := own_lst R hi
    exact ⟨_, e1, .inl ⟨rfl, vs, SqL.of e2⟩, l, vs, rfl, rfl, e2, T.nx _ _ _ _ (R.chg hi e1 (show Top X.K G (.lst ds.reverse) (.lst vs.reverse) from r.rev)) (Same.refl _) q⟩⟩
def sClr (i : Nat) : Ws := fun Z ρ => ∃ ds, ρ[i]? = some (.ow (.lst ds)) ∧ Z.nx (ρ.set i (.ow (.lst [])))
theorem sj_clr {i : Nat} (h : PS X st (tDrop (tBM0 X.K "list" rClear (tVar i)))) : SJ E X st (sClr i) :=
  ⟨h.imp fun D' σ H ⟨G0, H0, G, ρ, Z, R, T, ds, hi, q⟩ => by
    obtain ⟨l, vs, e1, e2, r⟩ := own_lst R hi
    exact ⟨_, e1, .inl ⟨rfl, vs, SqL.of e2⟩, l, vs, rfl, rfl, e2, T.nx _ _ _ _ (R.chg hi e1 (show Top X.K G (.lst []) (.lst []) from .nil)) (Same.refl _) q⟩⟩
theorem rps_erase {G : Hp} : ∀ {ds : List D} {vs : List V} (j : Nat), Rps K G ds vs → Rps K G (ds.eraseIdx j) (vs.eraseIdx j)
  | _, _, _, .nil => .nil
  | _, _, 0, .cons h r => r
  | _, _, j + 1, .cons h r => .cons h (rps_erase j r)
/-- xs.pop(e) as a statement -/
def sPopAt (i : Nat) (w : Wx) : Ws := fun Z ρ => ∃ ds, ρ[i]? = some (.ow (.lst ds)) ∧ w Z.xc ρ fun d => ∃ n j, d = .int n ∧ (-(2 ^ 63) ≤ n ∧ n < 2 ^ 63) ∧ seqIndex? n ds.length = some j ∧ j < ds.length ∧ Z.nx (ρ.set i (.ow (.lst (ds.eraseIdx j))))
theorem sj_popAt {i : Nat} (he : EJ k E X e w) (h : PS X st (tDrop (tBM X.K "list" rPopAt (tVar i) (tCons (liftW X.K E k w) tNil)))) : SJ E X st (sPopAt i w) :=
  ⟨h.imp fun D' σ H ⟨G0, H0, G, ρ, Z, R, T, ds, hi, q⟩ => by
    obtain ⟨l, vs, e1, e2, r⟩ := own_lst R hi
    refine ⟨_, e1, .inl ⟨rfl, vs, SqL.of e2⟩, G0, H0, G, ρ, Z.xc, R, T.xc, he.mo _ _ _ _ (fun d ⟨n, j, ed, hn, hj, hl, q1⟩ G1 H1 v x1 r1 => ?_) q⟩
    subst ed
    have hv : j < vs.length := by rw [← r.length]; exact hl
    refine ⟨l, vs, n, j, vs[j], rfl, by rw [rvO_int r1.o], x1.hh _ _ e2, hn.1, hn.2, by rw [← r.length]; exact hj, List.getElem?_eq_getElem hv, ?_⟩
    exact T.nx _ _ _ _ ((R.ext x1).chg hi e1 (show Top X.K G1 (.lst (ds.eraseIdx j)) (.lst (vs.eraseIdx j)) from rps_erase j (r.mono x1.gg))) x1.gg q1⟩

/-! ### dicts with tuple keys -/
theorem ej_dictT : EJ .f E X (.Dict [] [] pos) (wC (.dT [])) :=
  ⟨pe_dnewT.imp fun σ H Q ⟨G0, H0, G, ρ, xc, R, T, q⟩ p hp => q G _ _ (Ext.newH R.gh hp) ⟨p, _, rfl, hp, upd_same, .nil, R.gh.free hp⟩, fun xc ρ Q Q' i q => i _ q⟩
theorem ej_dictK : EJ .f E X (.Dict [] [] pos) (wC (.dK [])) :=
  ⟨pe_dnewK.imp fun σ H Q ⟨G0, H0, G, ρ, xc, R, T, q⟩ p hp => q G _ _ (Ext.newH R.gh hp) ⟨p, _, rfl, hp, upd_same, .nil, R.gh.free hp⟩, fun xc ρ Q Q' i q => i _ q⟩
/-- a key, as data -/
def kD : Key → D
  | .inl i => .int i
  | .inr x => .str x
theorem rp_key {G : Hp} : ∀ {k : Key} {v : V}, Rp K G (kD k) v → v = kV k
  | .inl _, _, h => by cases h; rfl
  | .inr _, _, h => by cases h; rfl
theorem rps_keys {G : Hp} : ∀ {ks : List Key} {vs : List V}, Rps K G (ks.map kD) vs → vs = ks.map kV
  | [], _, .nil => rfl
  | k :: ks, _, .cons h r => by rw [rp_key h, rps_keys r]; rfl
section
variable {κ : Type} [DecidableEq κ]
def hasD (kvs : List (κ × D)) (k : κ) : Bool := kvs.any fun kv => decide (kv.1 = k)
def putDk (kvs : List (κ × D)) (k : κ) (v : D) : List (κ × D) := if hasD kvs k = true then kvs.map (fun kv => if kv.1 = k then (kv.1, v) else kv) else kvs ++ [(k, v)]
end
theorem rts_any {G : Hp} (k : List Key) : ∀ {ds : List (List Key × D)} {vs : List (List Key × V)}, Rts K G ds vs → (vs.any fun kv => decide (kv.1 = k)) = hasD ds k
  | _, _, .nil => rfl
  | _, _, .cons h r => by
    have := rts_any k r
    unfold hasD at this ⊢
    simp only [List.any_cons, this]
theorem rts_app {G : Hp} : ∀ {ds es : List (List Key × D)} {vs ws : List (List Key × V)}, Rts K G ds vs → Rts K G es ws → Rts K G (ds ++ es) (vs ++ ws)
  | _, _, _, _, .nil, q => q
  | _, _, _, _, .cons h r, q => .cons h (rts_app r q)
theorem rts_map {G : Hp} {k : List Key} {d : D} {v : V} (hv : Rp K G d v) : ∀ {ds : List (List Key × D)} {vs : List (List Key × V)}, Rts K G ds vs → Rts K G (ds.map fun kv => if kv.1 = k then (kv.1, d) else kv) (vs.map fun kv => if kv.1 = k then (kv.1, v) else kv)
  | _, _, .nil => .nil
  | _, _, .cons (f := f) h r => by
    simp only [List.map_cons]
    by_cases e : f = k
    · simp only [e, if_true]; exact .cons hv (rts_map hv r)
    · simp only [e, if_false]; exact .cons h (rts_map hv r)
theorem rts_put {G : Hp} {k : List Key} {d : D} {v : V} (hv : Rp K G d v) {ds : List (List Key × D)} {vs : List (List Key × V)} (r : Rts K G ds vs) : Rts K G (putDk ds k d) (putK vs k v) := by
  unfold putDk putK
  rw [rts_any k r]
  split
  · exact rts_map hv r
  · exact rts_app r (.cons hv .nil)
theorem Rts.length {G : Hp} : ∀ {ds : List (List Key × D)} {vs : List (List Key × V)}, Rts K G ds vs → ds.length = vs.length
  | _, _, .nil => rfl
  | _, _, .cons _ r => congrArg (· + 1) (Rts.length r)
/-- d[(..)] = v, d an own dict with tuple keys, the key written -/
def sPutT (i : Nat) (wk : Wa) (wv : Wx) : Ws := fun Z ρ => ∃ kvs, ρ[i]? = some (.ow (.dT kvs)) ∧ wv Z.xc ρ fun v => wk Z.xc ρ fun ys => ∃ ks : List Key, ys = ks.map kD ∧ ys.length ≤ sizeLine ∧ kvs.length < sizeLine ∧ Z.nx (ρ.set i (.ow (.dT (putDk kvs ks v))))
theorem sj_putT {i : Nat} (hk : AJ true E X es u) (hv : EJ .e E X b wb) (h : PS X st (sDPut (tVar i) (tTup (liftA X.K E true u)) (liftW X.K E .e wb))) : SJ E X st (sPutT i u wb) :=
  ⟨h.imp fun D' σ H ⟨G0, H0, G, ρ, Z, R, T, kvs, hi, q⟩ => by
    obtain ⟨l, o, e1, e2, t, gl, hl⟩ := R.sl i _ hi
    cases o <;> first | exact t.elim | skip
    rename_i vk
    refine ⟨G0, H0, G, ρ, Z.xc, R, T.xc, hv.mo _ _ _ _ (fun d q1 G1 H1 v x1 r1 => ?_) q⟩
    refine ⟨_, e1, G0, H0, G1, ρ, Z.xc, R.ext x1, T.xc, hk.mo _ _ _ _ (fun ys ⟨ks, ey, zl, z, q2⟩ G2 H2 vs x2 r2 => ?_) q1⟩
    subst ey
    rw [if_pos rfl] at r2
    refine ⟨by rw [← r2.length]; exact zl, fun p hp => ?_⟩
    have x3 := Ext.newH (o := .tup vs) x2.gh hp
    have x13 := x1.trans (x2.trans x3)
    have t' : Rts X.K G kvs vk := t
    refine ⟨l, _, rfl, .inr ⟨vk, ks, p, x13.hh _ _ e2, rfl, by rw [upd_same, rps_keys r2], by rw [← Rts.length t']; exact z, rfl⟩, ?_⟩
    exact T.nx _ _ _ _ ((R.ext x13).chg hi e1 (show Top X.K G2 (.dT (putDk kvs ks d)) (.dT (putK vk ks v)) from rts_put (r1.mono x2.gg) (t'.mono (x1.gg.trans x2.gg)))) x13.gg q2⟩
/-- (..) in d -/
def wInT (wk : Wa) (wd : Wx) : Wx := fun xc ρ Q => wk xc ρ fun ys => ys.length ≤ sizeLine ∧ wd xc ρ fun x => ∃ kvs ks, x = .dT kvs ∧ ys = ks.map kD ∧ Q (.bl (hasD kvs ks))
theorem wInT_mo {wk : Wa} {wd : Wx} (hk : ∀ xc ρ (Q Q' : List D → Prop), (∀ d, Q d → Q' d) → wk xc ρ Q → wk xc ρ Q') (hd : ∀ xc ρ (Q Q' : D → Prop), (∀ d, Q d → Q' d) → wd xc ρ Q → wd xc ρ Q') {xc : XC} {ρ : Evn} {Q Q' : D → Prop} (i : ∀ d, Q d → Q' d) (q : wInT wk wd xc ρ Q) : wInT wk wd xc ρ Q' :=
  hk _ _ _ _ (fun y q => ⟨q.1, hd _ _ _ _ (fun x ⟨kvs, ks, ex, ey, q⟩ => ⟨kvs, ks, ex, ey, i _ q⟩) q.2⟩) q
theorem tj_inT (hk : AJ true E X es u) (hd : EJ kb E X b wb) (h : PT X e (tB (tDIn (tTup (liftA X.K E true u)) (liftW X.K E kb wb)))) : TJ E X e (wB (wInT u wb)) := by
  refine ⟨h.imp fun σ H Q ⟨G0, H0, G, ρ, xc, R, T, q⟩ => ⟨G0, H0, G, ρ, xc, R, T, hk.mo _ _ _ _ (fun ys ⟨zl, q1⟩ G1 H1 vs x1 r1 => ?_) q⟩, fun xc ρ Q Q' i q => wInT_mo hk.mo hd.mo (fun d ⟨bb, eb, q⟩ => ⟨bb, eb, i _ q⟩) q⟩
  rw [if_pos rfl] at r1
  refine ⟨by rw [← r1.length]; exact zl, fun p hp => ?_⟩
  have x2 := Ext.newH (o := .tup vs) x1.gh hp
  refine ⟨G0, H0, G1, ρ, xc, R.ext (x1.trans x2), T, hd.mo _ _ _ _ (fun x ⟨kvs, ks, ex, ey, bb, ebb, q2⟩ G2 H2 xv x3 r2 => ?_) q1⟩
  subst ex ey
  cases ebb
  have hb : H2 p = some (.tup (ks.map kV)) := by rw [← rps_keys r1]; exact x3.hh _ _ upd_same
  have x13 := (x1.trans x2).trans x3
  have fin2 : ∀ {l : Addr} {vk : List (List Key × V)}, H2 l = some (.dT vk) → Rts X.K G2 kvs vk → ∃ a' o', V.ref l = .ref a' ∧ DGet H2 a' (.ref p) o' ∧ ∃ c, V.bl o'.isSome = .bl c ∧ Q c H2 := fun {l vk} hl t => by
    refine ⟨l, _, rfl, .inr ⟨vk, ks, p, .inl hl, rfl, hb, rfl⟩, _, rfl, ?_⟩
    rw [← valV_any, rts_any ks t]
    exact q2 G2 H2 x13
  rcases r2.o with r2 | ⟨l, o, rfl, e2, t⟩
  · cases r2 with | dT hl t => exact fin2 (x3.gh _ _ hl) t
  · cases o <;> first | exact t.elim | exact fin2 e2 t
end
end Tw

/-! Tw, part I: operators joined over their kinds; enumerate, zip; stars; while. -/
namespace Tw
open PySem PySem.Spec L2 PyProof.Rows
section
variable {X : Cx} {K : PySem.W.Frag} {E : XK} {e a b c o : Expr} {es : List Expr} {w wa wb wc : Wx} {k ka kb : Kd} {pos p : Pos} {u : Wa} {st : Stmt} {rest body : List Stmt} {s s1 s2 : Ws}
/-- a bridge whose answer is a new object, as one that is kept for good -/
theorem Brg2.toE {op : Op2} {r : R2} (B : Brg2 K .f op r) : Brg2 K .e op r :=
  ⟨fun x y G H vx vy Q Q2 g rx ry q kk => B.go x y G H vx vy Q Q2 g rx ry q fun d hd G' H' v x1 r1 => by
    obtain ⟨G2, x2, r2⟩ := RvF.frz x1 r1
    exact kk d hd G2 H' v x2 r2, B.mo⟩
theorem BrgS.toE {op : OpS} {r : V → Option Int → Option Int → Hp → VK → Prop} (B : BrgS K .f op r) : BrgS K .e op r :=
  ⟨fun x lo hi G H vx Q Q2 g rx q kk => B.go x lo hi G H vx Q Q2 g rx q fun d hd G' H' v x1 r1 => by
    obtain ⟨G2, x2, r2⟩ := RvF.frz x1 r1
    exact kk d hd G2 H' v x2 r2, B.mo⟩
def oOr (op op' : Op2) : Op2 := fun x y Q => op x y Q ∨ op' x y Q
theorem Brg2.or {op op' : Op2} {r r' : R2} (B : Brg2 K k op r) (B' : Brg2 K k op' r') : Brg2 K k (oOr op op') (fun x y H Q => r x y H Q ∨ r' x y H Q) :=
  ⟨fun x y G H vx vy Q Q2 g rx ry q kk => q.elim (fun q => .inl (B.go x y G H vx vy Q Q2 g rx ry q kk)) fun q => .inr (B'.go x y G H vx vy Q Q2 g rx ry q kk), fun x y Q Q' i q => q.elim (fun q => .inl (B.mo _ _ _ _ i q)) fun q => .inr (B'.mo _ _ _ _ i q)⟩
/-- +, whatever the two are -/
def oPlus : Op2
  | .int i, .int j, Q => Q (.int (i + j))
  | .str x, .str y, Q => x.length + y.length ≤ sizeLine ∧ Q (.str (x ++ y))
  | .tup xs, .tup ys, Q => xs.length + ys.length ≤ sizeLine ∧ Q (.tup (xs ++ ys))
  | .lst xs, .lst ys, Q => xs.length + ys.length ≤ sizeLine ∧ Q (.lst (xs ++ ys))
  | _, _, _ => False
theorem oPlus_or {x y : D} {Q : D → Prop} (h : oPlus x y Q) : oAdd x y Q ∨ oCat x y Q := by
  cases x <;> cases y <;> first | exact h.elim | exact .inl h | exact .inr h
theorem ej_plus (ha : EJ ka E X a wa) (hb : EJ kb E X b wb) : EJ .e E X (.BinOp a .Add b pos) (w2 oPlus wa wb) := by
  have B := (brg_add (K := X.K)).or brg_cat.toE
  refine ej_2 ha hb (pe_op (opr_or op_add3 op_cat) ha.pe hb.pe) ⟨fun x y G H vx vy Q Q2 g rx ry q kk => B.go x y G H vx vy Q Q2 g rx ry (oPlus_or q) kk, fun x y Q Q' i q => ?_⟩
  cases x <;> cases y <;> first | exact q.elim | exact i _ q | exact ⟨q.1, i _ q.2⟩
theorem ej_cat (ha : EJ ka E X a wa) (hb : EJ kb E X b wb) : EJ .f E X (.BinOp a .Add b pos) (w2 oCat wa wb) := ej_2 ha hb (pe_op op_cat ha.pe hb.pe) brg_cat
/-- * of ints, of a text and an int -/
def oMul : Op2
  | .int i, .int j, Q => CMul i j ∧ Q (.int (i * j))
  | .str x, .int n, Q => MulOk x n ∧ Q (.str (Txt.mul x n))
  | _, _, _ => False
theorem oMul_or {x y : D} {Q : D → Prop} (h : oMul x y Q) : oMulI x y Q ∨ oMulS x y Q := by
  cases x <;> cases y <;> first | exact h.elim | exact .inl h | exact .inr h
theorem ej_mul (ha : EJ ka E X a wa) (hb : EJ kb E X b wb) : EJ .e E X (.BinOp a .Mult b pos) (w2 oMul wa wb) := by
  have B := (brg_mulI (K := X.K)).or brg_mulS
  refine ej_2 ha hb (pe_op (opr_or op_mul op_mulS) ha.pe hb.pe) ⟨fun x y G H vx vy Q Q2 g rx ry q kk => B.go x y G H vx vy Q Q2 g rx ry (oMul_or q) kk, fun x y Q Q' i q => ?_⟩
  cases x <;> cases y <;> first | exact q.elim | exact ⟨q.1, i _ q.2⟩
theorem ej_sub (ha : EJ ka E X a wa) (hb : EJ kb E X b wb) : EJ .e E X (.BinOp a .Sub b pos) (w2 oSub wa wb) := ej_2 ha hb (pe_op op_sub ha.pe hb.pe) brg_sub
theorem ej_div (ha : EJ ka E X a wa) (hb : EJ kb E X b wb) : EJ .e E X (.BinOp a .FloorDiv b pos) (w2 oDiv wa wb) := ej_2 ha hb (pe_op op_fdiv ha.pe hb.pe) brg_div
theorem ej_mod (ha : EJ ka E X a wa) (hb : EJ kb E X b wb) : EJ .e E X (.BinOp a .Mod b pos) (w2 oMod wa wb) := ej_2 ha hb (pe_op op_mod ha.pe hb.pe) brg_mod
theorem ej_pow (ha : EJ ka E X a wa) (hb : EJ kb E X b wb) : EJ .e E X (.BinOp a .Pow b pos) (w2 oPow wa wb) := ej_2 ha hb (pe_op op_pow ha.pe hb.pe) brg_pow
/-! comparisons, as values and as tests -/
theorem ej_lt (ha : EJ ka E X a wa) (hb : EJ kb E X b wb) : EJ .e E X (.Compare a [.Lt] [b] pos) (w2 oLt wa wb) := ej_2 ha hb (pe_cmpR op_lt ha.pe hb.pe (nomark _)) brg_lt
theorem ej_le (ha : EJ ka E X a wa) (hb : EJ kb E X b wb) : EJ .e E X (.Compare a [.LtE] [b] pos) (w2 oLe wa wb) := ej_2 ha hb (pe_cmpR op_le ha.pe hb.pe (nomark _)) brg_le
theorem ej_gt (ha : EJ ka E X a wa) (hb : EJ kb E X b wb) : EJ .e E X (.Compare a [.Gt] [b] pos) (w2 oGt wa wb) := ej_2 ha hb (pe_cmpR op_gt ha.pe hb.pe (nomark _)) brg_gt
theorem ej_ge (ha : EJ ka E X a wa) (hb : EJ kb E X b wb) : EJ .e E X (.Compare a [.GtE] [b] pos) (w2 oGe wa wb) := ej_2 ha hb (pe_cmpR op_ge ha.pe hb.pe (nomark _)) brg_ge
theorem ej_eq (hu : X.A.units + 64 < cLine) (ha : EJ ka E X a wa) (hb : EJ kb E X b wb) : EJ .e E X (.Compare a [.Eq] [b] pos) (w2 oEq wa wb) := ej_2 ha hb (pe_cmpR (op_eqD hu) ha.pe hb.pe (nomark _)) brg_eq
theorem ej_ne (hu : X.A.units + 64 < cLine) (ha : EJ ka E X a wa) (hb : EJ kb E X b wb) : EJ .e E X (.Compare a [.NotEq] [b] pos) (w2 oNe wa wb) := ej_2 ha hb (pe_cmpR (op_neD hu) ha.pe hb.pe (nomark _)) brg_ne
theorem tj_lt (ha : EJ ka E X a wa) (hb : EJ kb E X b wb) : TJ E X (.Compare a [.Lt] [b] pos) (wB (w2 oLt wa wb)) := tj_2 ha hb (pt_cmpR op_lt ha.pe hb.pe (nomark _)) brg_lt
theorem tj_le (ha : EJ ka E X a wa) (hb : EJ kb E X b wb) : TJ E X (.Compare a [.LtE] [b] pos) (wB (w2 oLe wa wb)) := tj_2 ha hb (pt_cmpR op_le ha.pe hb.pe (nomark _)) brg_le
theorem tj_gt (ha : EJ ka E X a wa) (hb : EJ kb E X b wb) : TJ E X (.Compare a [.Gt] [b] pos) (wB (w2 oGt wa wb)) := tj_2 ha hb (pt_cmpR op_gt ha.pe hb.pe (nomark _)) brg_gt
theorem tj_ge (ha : EJ ka E X a wa) (hb : EJ kb E X b wb) : TJ E X (.Compare a [.GtE] [b] pos) (wB (w2 oGe wa wb)) := tj_2 ha hb (pt_cmpR op_ge ha.pe hb.pe (nomark _)) brg_ge
theorem tj_eq (hu : X.A.units + 64 < cLine) (ha : EJ ka E X a wa) (hb : EJ kb E X b wb) : TJ E X (.Compare a [.Eq] [b] pos) (wB (w2 oEq wa wb)) := tj_2 ha hb (pt_cmpR (op_eqD hu) ha.pe hb.pe (nomark _)) brg_eq
theorem tj_ne (hu : X.A.units + 64 < cLine) (ha : EJ ka E X a wa) (hb : EJ kb E X b wb) : TJ E X (.Compare a [.NotEq] [b] pos) (wB (w2 oNe wa wb)) := tj_2 ha hb (pt_cmpR (op_neD hu) ha.pe hb.pe (nomark _)) brg_ne
theorem ej_in (hu : X.A.units + 65 < cLine) (ha : EJ ka E X a wa) (hb : EJ kb E X b wb) (hm : behindInMarks .In b = false := by rfl) : EJ .e E X (.Compare a [.In] [b] pos) (w2 (oIn false) wa wb) := ej_2 ha hb (pe_cmpR (op_inQ hu) ha.pe hb.pe hm) (brg_in false)
theorem tj_in (hu : X.A.units + 65 < cLine) (ha : EJ ka E X a wa) (hb : EJ kb E X b wb) (hm : behindInMarks .In b = false := by rfl) : TJ E X (.Compare a [.In] [b] pos) (wB (w2 (oIn false) wa wb)) := tj_2 ha hb (pt_cmpR (op_inQ hu) ha.pe hb.pe hm) (brg_in false)
theorem tj_nin (hu : X.A.units + 65 < cLine) (ha : EJ ka E X a wa) (hb : EJ kb E X b wb) (hm : behindInMarks .NotIn b = false := by rfl) : TJ E X (.Compare a [.NotIn] [b] pos) (wB (w2 (oIn true) wa wb)) := tj_2 ha hb (pt_cmpR (op_notInQ hu) ha.pe hb.pe hm) (brg_in true)
theorem ej_nin (hu : X.A.units + 65 < cLine) (ha : EJ ka E X a wa) (hb : EJ kb E X b wb) (hm : behindInMarks .NotIn b = false := by rfl) : EJ .e E X (.Compare a [.NotIn] [b] pos) (w2 (oIn true) wa wb) := ej_2 ha hb (pe_cmpR (op_notInQ hu) ha.pe hb.pe hm) (brg_in true)
theorem ej_inS (ha : EJ ka E X a wa) (hb : EJ kb E X b wb) (hm : behindInMarks .In b = false := by rfl) : EJ .e E X (.Compare a [.In] [b] pos) (w2 (oInS false) wa wb) := ej_2 ha hb (pe_cmpR (op_in2 false) ha.pe hb.pe hm) (brg_inS false)
theorem tj_isN (ha : EJ ka E X a wa) (hb : EJ kb E X b wb) : TJ E X (.Compare a [.Is] [b] pos) (wB (w2 (oIsN false) wa wb)) := tj_2 ha hb (pt_cmpR op_isN ha.pe hb.pe (nomark _)) brg_isN
theorem tj_notN (ha : EJ ka E X a wa) (hb : EJ kb E X b wb) : TJ E X (.Compare a [.IsNot] [b] pos) (wB (w2 (oIsN true) wa wb)) := tj_2 ha hb (pt_cmpR op_notN ha.pe hb.pe (nomark _)) brg_notN
theorem ej_isN (ha : EJ ka E X a wa) (hb : EJ kb E X b wb) : EJ .e E X (.Compare a [.Is] [b] pos) (w2 (oIsN false) wa wb) := ej_2 ha hb (pe_cmpR op_isN ha.pe hb.pe (nomark _)) brg_isN
/-! slices, whatever is cut -/
def oSl : OpS
  | .lst xs, lo, hi, Q => Q (.lst (cutD xs lo hi))
  | .fls xs, lo, hi, Q => Q (.lst (cutD xs lo hi))
  | .tup xs, lo, hi, Q => Q (.tup (cutD xs lo hi))
  | .str z, lo, hi, Q => z.length ≤ sizeLine ∧ Q (.str (cutS z lo hi))
  | _, _, _, _ => False
abbrev rSl3 (K : PySem.W.Frag) : V → Option Int → Option Int → Hp → VK → Prop := fun x lo hi H Q => rSlL K x lo hi H Q ∨ rSlA K x lo hi H Q ∨ rSlS x lo hi H Q
theorem sl_3 : SlR X (rSl3 X.K) := sl_list.or (sl_tupA.or sl_str)
theorem brg_sl : BrgS K .e oSl (rSl3 K) := by
  refine ⟨fun x lo hi G H vx Q Q2 g rx q kk => ?_, fun x lo hi Q Q' i q => ?_⟩
  · cases x <;> first | exact q.elim | skip
    · exact .inr (.inr (brg_slS.go _ lo hi G H vx Q Q2 g rx q kk))
    · exact .inr (.inl (brg_slT.go _ lo hi G H vx Q Q2 g rx q kk))
    · exact .inl (brg_slL.toE.go _ lo hi G H vx Q Q2 g rx q kk)
    · exact .inl (brg_slL.toE.go _ lo hi G H vx Q Q2 g rx q kk)
  · cases x <;> first | exact q.elim | exact i _ q | exact ⟨q.1, i _ q.2⟩
theorem ej_slice {lo hi : Option Expr} {wl wu : Wo} {p2 : Pos} (ha : EJ ka E X a wa) (hl : OJ E X lo wl) (hu : OJ E X hi wu) : EJ .e E X (.Subscript a (.Slice lo hi none p2) pos) (wSl oSl wa wl wu) := ej_sl sl_3 brg_sl ha hl hu
theorem ej_sliceL {lo hi : Option Expr} {wl wu : Wo} {p2 : Pos} (ha : EJ ka E X a wa) (hl : OJ E X lo wl) (hu : OJ E X hi wu) : EJ .f E X (.Subscript a (.Slice lo hi none p2) pos) (wSl oSlL wa wl wu) := ej_sl sl_list brg_slL ha hl hu

/-! ### a star in a display -/
def waStar (w : Wx) (u : Wa) : Wa := fun xc ρ Q => w xc ρ fun d => ∃ xs, (d = .tup xs ∨ d = .lst xs) ∧ u xc ρ fun ds => Q (xs ++ ds)
theorem aj_star (ha : EJ .e E X e w) (hr : AJ true E X es u) (hs : starEach (.Starred e p :: es) X.env = (true, eval e X.env) :: starEach es X.env := by rfl) : AJ true E X (.Starred e p :: es) (waStar w u) := by
  refine ⟨(StX.pa_star ha.pe hr.pa hs).imp fun σ H Q ⟨G0, H0, G, ρ, xc, R, T, q⟩ => ⟨G0, H0, G, ρ, xc, R, T, ha.mo _ _ _ _ (fun d ⟨xs, ed, q1⟩ G1 H1 v x1 r1 => ?_) q⟩, fun xc ρ Q Q' i q => ha.mo _ _ _ _ (fun d ⟨xs, ed, q⟩ => ⟨xs, ed, hr.mo _ _ _ _ (fun ds q => i _ q) q⟩) q⟩
  have fin : ∀ {vs : List V}, Rps X.K G1 xs vs → liftA X.K E true u σ H1 fun ys H2 => Q (vs ++ ys) H2 := fun {vs} rv => by
    refine ⟨G0, H0, G1, ρ, xc, R.ext x1, T, hr.mo _ _ _ _ (fun ds q2 G2 H2 ws x2 r2 => ?_) q1⟩
    rw [if_pos rfl] at r2
    exact q2 G2 H2 _ (x1.trans x2) (by rw [if_pos rfl]; exact (rv.mono x2.gg).append r2)
  rcases ed with rfl | rfl
  · cases r1 with | tup h r => exact ⟨_, _, rfl, .inl (sqT_mono x1.gh h), fin r⟩
  · cases r1 with | lst h r => exact ⟨_, _, rfl, .inr (SqL.of (x1.gh _ _ h)), fin r⟩

/-! ### enumerate, zip -/
theorem wk_enum {a : Addr} {vs : List V} {G : Hp} {ds : List D} (h : SqL K G a vs) (r : Rps K G ds vs) : Wk K (Ite K a) G (ds.zipIdx.map fun q => .tup [.int q.2, q.1]) where
  stop := fun G' H' g1 g2 => ⟨vs, (g1.trans g2).seq h, by simp [r.length]⟩
  go := fun i G' H' hi g1 g2 => by
    have hv : i < vs.length := by rw [← r.length]; simpa using hi
    exact ⟨vs, vs[i], (g1.trans g2).seq h, by simp [hv]⟩
  yld := fun i G' H' x H2 hi g1 g2 ⟨t, y, ex, ht, eH, hy⟩ => by
    subst ex eH
    obtain ⟨d, hd, rd⟩ := r.get' (hy vs ((g1.trans g2).seq h))
    have x2 := Ext.new (o := .tup [V.int ↑i, y]) g2 ht
    refine ⟨_, .tup [.int i, d], x2, ?_, .tup (SqT.of upd_same) (.cons (.int _) (.cons (rd.mono (g1.trans x2.gg)) .nil))⟩
    rw [List.getElem?_map, List.getElem?_zipIdx, hd]
    simp
def wiEn (w : Wx) : Wa := fun xc ρ Q => w xc ρ fun d => ∃ xs, (d = .lst xs ∨ d = .fls xs) ∧ Q (xs.zipIdx.map fun q => .tup [.int q.2, q.1])
theorem ij_enum {elts : List Expr} {kk : Nat} {tpos : Pos} (ha : EJ .e E X a w) (hg : Gl X "enumerate") (hm : X.mg "enumerate" = none) (hst : starEach [a] X.env = [(false, eval a X.env)] := by rfl) : IJ E X (.Tuple elts kk tpos) (.Call (.Name "enumerate" p) [a] [] pos) (wiEn w) := by
  refine ⟨(pi_enum hg hm (pa_cons ha.pe pa_nil hst) hst).imp fun σ H R' ⟨G0, H0, G, ρ, xc, R, T, q⟩ => ⟨G0, H0, G, ρ, xc, R, T, ha.mo _ _ _ _ (fun d ⟨xs, ed, q1⟩ G1 H1 v x1 r1 => ?_) q⟩, fun xc ρ Q Q' i q => ha.mo _ _ _ _ (fun d ⟨xs, ed, q⟩ => ⟨xs, ed, i _ q⟩) q⟩
  rcases ed with rfl | rfl
  · cases r1 with | lst h r => exact ⟨_, _, rfl, SqL.of (x1.gh _ _ h), q1 G1 H1 _ x1 (wk_enum (SqL.of h) r)⟩
  · cases r1 with | fls h r => exact ⟨_, _, rfl, x1.gh.seq h, q1 G1 H1 _ x1 (wk_enum h r)⟩
/-! ### for over a list or a tuple -/
theorem pi_seq {tg l : Expr} {tl : TE} (hl : PE X l tl) : PI X tg l (fun σ H R => tl σ H fun x H1 => ∃ a, x = .ref a ∧ ((∃ xs, SqL X.K H1 a xs ∧ R (Itl X.K a) H1) ∨ ∃ xs, SqT X.K H1 a xs ∧ R (Itt X.K a) H1)) := by
  refine ⟨fun pins s σ H R I h => ?_⟩
  have hA := fun (h : iList X.K tl σ H R) => (pi_list (tg := tg) hl).run pins s σ H R I h
  refine thn (hl.run pins s σ H _ I h) fun v s1 ⟨x, H1, I1, r1, a, e, q1⟩ => ?_
  subst e
  cases r1
  rcases q1 with ⟨xs, hq, q⟩ | ⟨xs, hq, q⟩
  · obtain ⟨its, rv, pl, hz⟩ := I1.list hq
    refine wpAny_pyIter_list pl.isList ⟨s1.heap.objs.size, [s1.heap.objs.size], _, _, H1, rfl, I1.kept (t' := s1.toks) fun b o e => Heap.get?_push_of_some _ e, turn_list a _, ⟨_, Heap.get?_push_size _ rfl, rfl, rfl⟩, fun b hb => ?_, q⟩
    have e : b = s1.heap.objs.size := by simpa using hb
    subst e
    exact I1.fpOk (Nat.le_refl _) (I1.hok.fresh (Nat.le_refl _))
  · obtain ⟨its, rv, pl, hz⟩ := I1.tuple hq
    refine wpAny_pyIter_tuple (show s1.heap.IsTuple a its.toArray from pl) ⟨s1.heap.objs.size, [s1.heap.objs.size], _, _, H1, rfl, I1.kept (t' := s1.toks) fun b o e => Heap.get?_push_of_some _ e, turn_tuple a _, ⟨_, Heap.get?_push_size _ rfl, rfl, rfl⟩, fun b hb => ?_, q⟩
    have e : b = s1.heap.objs.size := by simpa using hb
    subst e
    exact I1.fpOk (Nat.le_refl _) (I1.hok.fresh (Nat.le_refl _))
def D.seq : D → Option (List D)
  | .lst xs => some xs | .fls xs => some xs | .tup xs => some xs | .xtp xs => some xs
  | _ => none
@[simp] def wiS (w : Wx) : Wa := fun xc ρ Q => w xc ρ fun d => ∃ xs, d.seq = some xs ∧ Q xs
theorem ij_seq {tg : Expr} (ha : EJ .e E X a w) : IJ E X tg a (wiS w) := by
  refine ⟨(pi_seq ha.pe).imp fun σ H R' ⟨G0, H0, G, ρ, xc, R, T, q⟩ => ⟨G0, H0, G, ρ, xc, R, T, ha.mo _ _ _ _ (fun d ⟨xs, ed, q1⟩ G1 H1 v x1 r1 => ?_) q⟩, fun xc ρ Q Q' i q => ha.mo _ _ _ _ (fun d ⟨xs, ed, q⟩ => ⟨xs, ed, i _ q⟩) q⟩
  cases d with
  | tup ys =>
    cases ed
    cases r1 with | tup h r => exact ⟨_, rfl, .inr ⟨_, sqT_mono x1.gh h, q1 G1 H1 _ x1 (wk_tup h r)⟩⟩
  | xtp ys =>
    cases ed
    cases r1 with | xtp h _ _ r => exact ⟨_, rfl, .inr ⟨_, .inl (.inr ⟨_, x1.gh _ _ h⟩), q1 G1 H1 _ x1 (wk_tup (.inl (.inr ⟨_, h⟩)) r)⟩⟩
  | lst ys =>
    cases ed
    cases r1 with | lst h r => exact ⟨_, rfl, .inl ⟨_, SqL.of (x1.gh _ _ h), q1 G1 H1 _ x1 (wk_list (SqL.of h) r)⟩⟩
  | fls ys =>
    cases ed
    cases r1 with | fls h r => exact ⟨_, rfl, .inl ⟨_, x1.gh.seq h, q1 G1 H1 _ x1 (wk_list h r)⟩⟩
  | _ => cases ed
end
end Tw

/-! Tw, part J: objects of own classes. -/
namespace Tw
open PySem PySem.Spec L2 PyProof.Rows

/-! ### attributes -/
theorem rfs_put {K : PySem.W.Frag} {G : Hp} {f : Str} {d : D} {v : V} (h : Rp K G d v) : ∀ {fs : List (Str × D)} {vf : List (Str × V)}, Rfs K G fs vf → Rfs K G (putD f d fs) (putF f v vf)
  | _, _, .nil => .cons h .nil
  | _, _, .cons (f := g) q r => by
    unfold putD putF
    by_cases e : g = f
    · rw [if_pos e, if_pos e]; exact .cons h r
    · rw [if_neg e, if_neg e]; exact .cons q (rfs_put h r)
section
variable {X : Cx} {K : PySem.W.Frag} {E : XK} {e a b c o : Expr} {es : List Expr} {w wa wb wc : Wx} {k ka kb : Kd} {pos p : Pos} {u : Wa} {st : Stmt} {rest body : List Stmt} {s s1 s2 : Ws}
theorem rvO_obj {G H : Hp} {C : Addr} {fs : List (Str × D)} {v : V} (g : Same G H) (h : RvO K G H (.obj C fs) v) : ∃ p dx vf, v = .ref p ∧ H p = some (.ins C dx vf) ∧ Rfs K G fs vf := by
  rcases h with h | ⟨p, o, e, e2, t⟩
  · cases h with | obj h r => exact ⟨_, _, _, rfl, g _ _ h, r⟩
  · cases o <;> exact t.elim
def wFld (C : Addr) (f : Str) (w : Wx) : Wx := fun xc ρ Q => w xc ρ fun d => ∃ fs v, d = .obj C fs ∧ fs.lookup f = some v ∧ Q v
theorem ej_fld {C : Addr} {f : Str} (c : Cls X.K C) (n : NoAttr X.K C f) (ha : EJ k E X a w) (hb : attributeBase a f X.env (eval a X.env) = eval a X.env := by rfl) : EJ .e E X (.Attribute a f pos) (wFld C f w) := by
  refine ⟨(pe_fld ha.pe hb).imp fun σ H Q ⟨G0, H0, G, ρ, xc, R, T, q⟩ => ⟨G0, H0, G, ρ, xc, R, T, ha.mo _ _ _ _ (fun d ⟨fs, v, ed, el, q1⟩ G1 H1 vx x1 r1 => ?_) q⟩, fun xc ρ Q Q' i q => ha.mo _ _ _ _ (fun d ⟨fs, v, ed, el, q⟩ => ⟨fs, v, ed, el, i _ q⟩) q⟩
  subst ed
  obtain ⟨p, dx, vf, rfl, h1, r⟩ := rvO_obj x1.gh r1.o
  obtain ⟨vv, e2, r2⟩ := r.look el
  exact ⟨p, C, dx, vf, vv, rfl, h1, c, n, e2, q1 G1 H1 vv x1 r2⟩
/-- self.f read in an __init__ -/
def wSeF (i : Nat) (f : Str) : Wx := fun _ ρ Q => ∃ a C fs v, ρ[i]? = some (.se a C fs) ∧ fs.lookup f = some v ∧ Q v
theorem ej_seF {i : Nat} {f : Str} {C0 : Addr} (c : Cls X.K C0) (n : NoAttr X.K C0 f) (h : PE X a (tVar i)) (hb : attributeBase a f X.env (eval a X.env) = eval a X.env := by rfl) :
    EJ .e E X (.Attribute a f pos) (fun xc ρ Q => ∃ a fs v, ρ[i]? = some (.se a C0 fs) ∧ fs.lookup f = some v ∧ Q v) := by
  refine ⟨(pe_fld h hb).imp fun σ H Q ⟨G0, H0, G, ρ, xc, R, T, a', fs, v, hi, el, q⟩ => ?_, fun xc ρ Q Q' i ⟨a', fs, v, hi, el, q⟩ => ⟨a', fs, v, hi, el, i _ q⟩⟩
  obtain ⟨e1, dx, vf, e2, r, _⟩ := R.sl i _ hi
  obtain ⟨vv, e3, r2⟩ := r.look el
  exact ⟨_, e1, a', C0, dx, vf, vv, rfl, e2, c, n, e3, q G H vv (.refl R.gh) r2⟩
/-- self.f = e in an __init__ -/
def sFldD (i : Nat) (C : Addr) (f : Str) (w : Wx) : Ws := fun Z ρ => w Z.xc ρ fun d => ∃ a fs, ρ[i]? = some (.se a C fs) ∧ fs.length < 1000 ∧ Z.nx (ρ.set i (.se a C (putD f d fs)))
theorem Rel.fset {G0 H0 G H : Hp} {ρ : Evn} {σ : L2.St} {i : Nat} {a C dx : Addr} {fs fs' : List (Str × D)} {vf vf' : List (Str × V)} (R : Rel K G0 H0 G ρ σ H) (hi : ρ[i]? = some (.se a C fs)) (ha : H a = some (.ins C dx vf)) (r : Rfs K G fs' vf')
    (one : ∀ (j : Nat) C' fs', ρ[j]? = some (.se a C' fs') → j = i) : Rel K G0 H0 G (ρ.set i (.se a C fs')) σ (upd H a (.ins C dx vf')) := by
  obtain ⟨e1, dx', vf0, e2, t0, ga, ha0⟩ := R.sl i _ hi
  have hlt : i < ρ.length := (List.getElem?_eq_some_iff.mp hi).1
  refine ⟨by simpa using R.len, fun b u e => ?_, R.g0, fun b u e => ?_, R.gn, fun j s hj => ?_, fun j k x y b hj hk h1 h2 => ?_⟩
  · rw [upd_ne (fun z => by subst z; rw [ga] at e; cases e)]; exact R.gh _ _ e
  · rw [upd_ne (fun z => by subst z; rw [ha0] at e; cases e)]; exact R.h0 _ _ e
  · by_cases hji : j = i
    · subst hji
      rw [List.getElem?_set_self hlt] at hj
      cases hj
      exact ⟨e1, dx, vf', upd_same, r, ga, ha0⟩
    · rw [List.getElem?_set_ne (Ne.symm hji)] at hj
      have q := R.sl j s hj
      cases s with
      | no => trivial
      | da x => exact q
      | ow x =>
        obtain ⟨b, u, f1, f2, f3, f4, f5⟩ := q
        refine ⟨b, u, f1, ?_, f3, f4, f5⟩
        rw [upd_ne (fun z => by subst z; rw [ha] at f2; cases f2; exact f3.noIns)]
        exact f2
      | se b C' fs2 =>
        obtain ⟨f1, dx2, vf2, f2, f3⟩ := q
        refine ⟨f1, dx2, vf2, ?_, f3⟩
        rw [upd_ne (fun z => by subst z; exact hji (one j _ _ hj))]
        exact f2
  · have go : ∀ {j : Nat} {x : D}, (ρ.set i (.se a C fs'))[j]? = some (.ow x) → ρ[j]? = some (.ow x) := fun {j x} h => by
      by_cases hji : j = i
      · subst hji; rw [List.getElem?_set_self hlt] at h; cases h
      · rw [List.getElem?_set_ne (Ne.symm hji)] at h; exact h
    exact R.dj j k x y b (go hj) (go hk) h1 h2
/-- no slot but this one is under construction -/
def OneSe (ρ : Evn) (i : Nat) : Prop := ∀ (j : Nat) a C fs, ρ[j]? = some (.se a C fs) → j = i
theorem sj_fld {i : Nat} {C : Addr} {f : Str} (c : Cls X.K C) (n : NoAttr X.K C f) (ha : EJ .e E X a w) (h : PS X st (sFld X.K (tVar i) (liftW X.K E .e w) f)) : SJ E X st (fun Z ρ => OneSe ρ i ∧ sFldD i C f w Z ρ) :=
  ⟨h.imp fun D' σ H ⟨G0, H0, G, ρ, Z, R, T, one, q⟩ => ⟨G0, H0, G, ρ, Z.xc, R, T.xc, ha.mo _ _ _ _ (fun d ⟨p, fs, hi, hl, q1⟩ G1 H1 v x1 r1 => by
    have R1 := R.ext x1
    obtain ⟨e1, dx, vf, e2, r, _⟩ := R1.sl i _ hi
    refine ⟨_, e1, p, C, dx, vf, rfl, e2, c, n, by rw [← r.length]; exact hl, ?_⟩
    exact T.nx _ _ _ _ (R1.fset hi e2 (rfs_put r1 r) fun j C' fs' hj => one j _ _ _ hj) x1.gg q1) q⟩⟩

/-! ### the promise of an __init__; C(..) -/
abbrev Wi := XC → List D → (List (Str × D) → Prop) → Prop
def MoI (wf : Wi) : Prop := ∀ xc ds (Q Q' : List (Str × D) → Prop), (∀ d, Q d → Q' d) → wf xc ds Q → wf xc ds Q'
def hid (H : Hp) (p : Addr) : Hp := fun b => if b = p then none else H b
theorem hid_same {H : Hp} {p : Addr} : hid H p p = none := if_pos rfl
theorem hid_ne {H : Hp} {p b : Addr} (h : b ≠ p) : hid H p b = H b := if_neg h
def spIni (K : PySem.W.Frag) (C : Addr) (n : Nat) (wf : Wi) : Sp := fun vs H Q E => vs.length = n + 1 ∧ ∃ p dx vs' G ds xc, vs = .ref p :: vs' ∧ H p = some (.ins C dx []) ∧ G p = none ∧ Same G (hid H p) ∧ Rps K G ds vs' ∧ TieX K G (hid H p) E xc ∧
  wf xc ds fun fs => ∀ G' H' dx' vf, Ext G (hid H p) G' H' → H' p = some (.ins C dx' vf) → G' p = none → Rfs K G' fs vf → Q .non H'
theorem ini_ok {P : Program} {w0 : World} {mg : Str → Option Value} {base : Heap} {x qual : Str} {st : Stmt} {f fd C} {N ps : List Str} {k : Nat} {wf : Wi} {wb : Ws} {n : Nat} (hps : ps.length = n + 1) (F : Fun K x qual st f fd) (S : FnScope N ps (defScope st)) (hn : ∀ xc ds Q, wf xc ds Q → ds.length = n)
    (hb : ∀ (cdv : Value) (A : Around) (outer : List Env) (s : Shared) (H : Hp) (E : XK), Room k (A.deeper (envOfC qual (defScope st) s.heap.objs.size f cdv)) →
      BJ E (cxOf (L2.CX P w0) P w0 K mg base N qual (defScope st) f cdv A outer s H E) (defBody st) wb)
    (hw : ∀ xc ds (Q : List (Str × D) → Prop) p, wf xc ds Q → wb { nx := fun ρ => ∃ fs, ρ[0]? = some (.se p C fs) ∧ Q fs, rt := fun _ _ => False, xc := xc } (.se p C [] :: (ds.map .da ++ List.replicate (N.length - (ds.length + 1)) .no))) :
    FnOk P w0 K mg base (L2.CX P w0) (k + 1) f fd ps (spIni K C n wf) := by
  refine F.okX S (fun vs H Q E h => h.1.trans hps.symm) (fun cdv A outer s H vs Q E hr h => ?_)
  obtain ⟨hl, p, dx, vs', G, ds, xc, rfl, hp, gp, g, r, T, q⟩ := h
  have q' := hw xc ds _ p q
  have gH : Same G H := fun b o e => by
    have := g b o e
    unfold hid at this
    split at this
    · cases this
    · exact this
  have hH : Same (hid H p) H := fun b o e => by
    unfold hid at e
    split at e
    · cases e
    · exact e
  have lds : ds.length = n := hn _ _ _ q
  have Rs := Rel.start (N := N.tail) gH r
  refine ⟨_, (hb cdv A outer s H E hr).ps, G, hid H p, G, _, _, ⟨?_, gH, Same.refl _, hH, fun _ _ z => z, fun i sl hs => ?_, fun i j d e b hi hj _ _ => ?_⟩, ⟨?_, ?_, ?_, ?_, ?_⟩, q'⟩
  · have := r.length
    simp [L2.start]; omega
  · cases i with
    | zero =>
      simp at hs
      subst hs
      exact ⟨rfl, dx, [], hp, .nil, gp, hid_same⟩
    | succ i =>
      have hs' : (ds.map Sl.da ++ List.replicate (N.length - (ds.length + 1)) Sl.no)[i]? = some sl := by simpa using hs
      by_cases hi : i < ds.length
      · rw [List.getElem?_append_left (by simpa using hi), List.getElem?_map, List.getElem?_eq_getElem hi] at hs'
        simp at hs'
        subst hs'
        obtain ⟨v, e, rv⟩ := r.get (List.getElem?_eq_getElem hi)
        refine ⟨v, ?_, rv⟩
        unfold L2.start
        have hi2 : i < vs'.length := by rw [← r.length]; exact hi
        have e3 : vs'[i] = v := by rw [List.getElem?_eq_getElem hi2] at e; exact Option.some.inj e
        rw [List.getElem?_append_left (by simp; omega)]
        simp [hi2, e3]
      · rw [List.getElem?_append_right (by simp; omega), List.getElem?_replicate] at hs'
        split at hs'
        · cases hs'; trivial
        · cases hs'
  · exfalso
    rcases List.getElem?_eq_some_iff.mp hi with ⟨hl, he⟩
    have hm : Sl.ow d ∈ (Sl.se p C [] :: (ds.map Sl.da ++ List.replicate (N.length - (ds.length + 1)) Sl.no)) := by rw [← he]; exact List.getElem_mem hl
    simp at hm
  · rintro ρ σ G' H' R s1 ⟨fs, hi, qf⟩
    obtain ⟨e1, dx', vf, e2, rf, gp', _⟩ := R.sl 0 _ hi
    exact qf G' H' dx' vf R.ex e2 gp' rf
  · exact fun _ _ _ _ _ _ _ q => q.elim
  · exact fun _ _ _ _ _ _ q => q.elim
  · exact fun _ _ _ _ _ _ q => q.elim
  · exact T
end
end Tw

/-! Tw, part K: objects made, their methods, len of an object. -/
namespace Tw
open PySem PySem.Spec L2 PyProof.Rows
section
variable {X : Cx} {K : PySem.W.Frag} {E : XK} {e a b c o : Expr} {es : List Expr} {w wa wb wc : Wx} {k ka kb : Kd} {pos p : Pos} {u ut : Wa} {st : Stmt} {rest body : List Stmt} {s s1 s2 : Ws}
/-! ### keywords -/
structure KJ (E : XK) (X : Cx) (kws : List Keyword) (w : Wa) : Prop where
  pk : PK X kws (liftA X.K E true w)
  mo : ∀ xc ρ (Q Q' : List D → Prop), (∀ d, Q d → Q' d) → w xc ρ Q → w xc ρ Q'
theorem _root_.L2.PK.imp {X : Cx} {e : List Keyword} {t t' : TA} (h : PK X e t) (i : ∀ σ H Q, t' σ H Q → t σ H Q) : PK X e t' := ⟨fun p pins s σ H Q I q => h.run p pins s σ H Q I (i _ _ _ q)⟩
/-- C(.., k=..): gD puts the written arguments and the keywords' values (and defaults) into the parameters' order -/
structure Ctor (P : Program) (w : World) (K : PySem.W.Frag) (mg : Str → Option Value) (base : Heap) (x : Str) (C : Addr) (n : Nat) (ks : List Str) (j : Nat) (gD : List D → List D → List D) (wi : Wi) : Prop where
  ex : ∃ (f : Addr) (fd : FuncData) (ps : List Str) (g : List Value → List Value → List Value) (gV gR : List V → List V → List V) (m : Nat), Mk K C f ∧ FnOk P w K mg base (L2.CX P w) j f fd ps (spIni K C m wi) ∧ KBn K fd ps (n + 1) ks g gV ∧ mg x = some (.ref C) ∧
    (∀ x vs zs, vs.length = n → zs.length = ks.length → gV (V.ref x :: vs) zs = V.ref x :: gR vs zs) ∧ (∀ G ds es vs zs, Rps K G ds vs → Rps K G es zs → Rps K G (gD ds es) (gR vs zs)) ∧
    (∀ ds xc Q, wi xc ds Q → ds.length = m)
  mo : MoI wi
def wMakeK (C : Addr) (n m : Nat) (gD : List D → List D → List D) (wi : Wi) (u ut : Wa) : Wx := fun xc ρ Q => u xc ρ fun ds => ut xc ρ fun es => ds.length = n ∧ es.length = m ∧ wi xc (gD ds es) fun fs => Q (.obj C fs)
theorem same_hid {H G' : Hp} {x : Addr} (hx : H x = none) {H' : Hp} (h : Same H H') : Same H (hid H' x) := fun b o q => by
  rw [hid_ne (ne_of_none q hx)]; exact h _ _ q
theorem ini_go {G1 H1 : Hp} {C x dx : Addr} {n : Nat} {wi : Wi} {Q : VK} {xc : XC} {ds : List D} {vs : List V} {Qd : List (Str × D) → Prop} (g1 : Same G1 H1) (hx : H1 x = none) (hdx : H1 dx = none) (ne : dx ≠ x) (r : Rps K G1 ds vs) (hl : vs.length = n) (T : TieX K G1 H1 E xc) (mo : MoI wi)
    (q : wi xc ds Qd) (fin : ∀ fs, Qd fs → ∀ G' H' v, Ext G1 H1 G' H' → Rp K G' (.obj C fs) v → Q v H') :
    spIni K C n wi (.ref x :: vs) (upd (upd H1 dx (.own x)) x (.ins C dx [])) (fun v H2 => v = .non ∧ Q (.ref x) H2) E := by
  have g2 : Same H1 (hid (upd (upd H1 dx (.own x)) x (.ins C dx [])) x) := same_hid (G' := G1) hx (fun b o q => by rw [upd_ne (ne_of_none q hx), upd_ne (ne_of_none q hdx)]; exact q)
  have gn : ∀ b, hid (upd (upd H1 dx (.own x)) x (.ins C dx [])) x b ≠ none → b = dx ∨ H1 b ≠ none := fun b hb => by
    by_cases h1 : b = x
    · rw [h1, hid_same] at hb; exact absurd rfl hb
    · rw [hid_ne h1, upd_ne h1] at hb
      by_cases h2 : b = dx
      · exact .inl h2
      · rw [upd_ne h2] at hb; exact .inr hb
  refine ⟨by simp [hl], x, dx, vs, G1, ds, xc, rfl, upd_same, g1.free hx, g1.trans g2, r, fun C' fs G' H' d2 x2 h qx => ?_, mo _ _ _ _ (fun fs qf G' H' dx' vf x2 hp gp rf => ?_) q⟩
  · refine T C' fs G' H' d2 ⟨x2.gg, g2.trans x2.hh, x2.gh, fun b hb gb => x2.gn b (Same.nn g2 hb) gb⟩ ?_ qx
    cases d2 with
    | none => exact h
    | some p => exact ⟨g2.free h.1, h.2⟩
  · refine ⟨rfl, fin fs qf (upd G' x (.ins C dx' vf)) H' _ ⟨x2.gg.trans (same_upd gp), g2.trans x2.hh, fun b o e => ?_, fun b hb gb => ?_⟩ (.obj upd_same (rf.mono (same_upd gp)))⟩
    · by_cases z : b = x
      · subst z; rw [upd_same] at e; cases e; exact hp
      · rw [upd_ne z] at e; exact x2.gh _ _ e
    · rw [upd_ne (fun z => hb (by rw [z]; exact hx))]
      exact x2.gn b (Same.nn g2 hb) gb
theorem ej_makeK {x : Str} {C : Addr} {n j : Nat} {ks : List Str} {gD : List D → List D → List D} {wi : Wi} {kws : List Keyword} (F : Ctor X.prog X.w X.K X.mg X.base x C n ks j gD wi) (hr : Room (j + 1) X.A) (hg : Gl X x) (hx : Passes (L2.CX X.prog X.w) X E) (ha : AJ true E X (e :: es) u) (hk : KJ E X kws ut)
    (h1 : ((backToKw pos (keywordEach kws X.env)).all fun x => x.1.isSome) = true := by rfl) (h2 : List.filterMap (fun x => x.1) (backToKw pos (keywordEach kws X.env)) = ks := by rfl) (h3 : (x == ("__debug__" : Str)) = false := by decide)
    (h4 : starEach (e :: es) X.env = (false, eval e X.env) :: starEach es X.env := by rfl) (h5 : (((backTo pos (starEach (e :: es) X.env)).any fun x => x.1) || (backToKw pos (keywordEach kws X.env)).any fun x => x.1.isNone) = false := by rfl) :
    EJ .e E X (.Call (.Name x p) (e :: es) kws pos) (wMakeK C n ks.length gD wi u ut) := by
  obtain ⟨f, fd, ps, g, gV, gR, m, M, Fo, hb, hm, hv, hd, hn⟩ := F.ex
  refine ⟨(pe_makeK M Fo hr hg hm hb hx ha.pa hk.pk h1 h2 h3 h4 h5).imp fun σ H Q ⟨G0, H0, G, ρ, xc, R, T, q⟩ => ⟨G0, H0, G, ρ, xc, R, T, ha.mo _ _ _ _ (fun ds q1 G1 H1 vs x1 r1 => ?_) q⟩, fun xc ρ Q Q' i q => ha.mo _ _ _ _ (fun ds q => hk.mo _ _ _ _ (fun es q => ⟨q.1, q.2.1, F.mo _ _ _ _ (fun fs q => i _ q) q.2.2⟩) q) q⟩
  rw [if_pos rfl] at r1
  refine ⟨G0, H0, G1, ρ, xc, R.ext x1, T, hk.mo _ _ _ _ (fun es ⟨l1, l2, q2⟩ G2 H2 zs x2 r2 => ?_) q1⟩
  rw [if_pos rfl] at r2
  have lv : vs.length = n := by rw [← r1.length]; exact l1
  have lz : zs.length = ks.length := by rw [← r2.length]; exact l2
  refine ⟨lv, lz, fun y dx hy hdx ne => ?_⟩
  rw [hv y vs zs lv lz]
  have r3 := hd G2 ds es vs zs (r1.mono x2.gg) r2
  exact ini_go x2.gh hy hdx ne r3 (by rw [← r3.length]; exact hn _ _ _ q2) (T.later (R.ex.trans (x1.trans x2))) F.mo q2 fun fs qf G' H' v x3 r4 => qf G' H' v (x1.trans (x2.trans x3)) r4

/-! ### methods -/
structure MDef (P : Program) (w : World) (K : PySem.W.Frag) (mg : Str → Option Value) (base : Heap) (C : Addr) (m : Str) (n j : Nat) (wf : Wf) : Prop where
  ex : ∃ f fd ps, FnOk P w K mg base (L2.CX P w) j f fd ps (spOf K n wf) ∧ Meth K C m f ∧ Binds K fd ps []
  cl : Cls K C
  mo : MoF wf
  hn : ∀ ds xc Q, wf xc ds Q → ds.length = n
def wMeth (C : Addr) (m : Str) (wf : Wf) (w : Wx) (u : Wa) : Wx := fun xc ρ Q => w xc ρ fun d => ∃ fs, d = .obj C fs ∧ fs.lookup m = none ∧ u xc ρ fun ds => wf xc (d :: ds) fun _ v => Q v
def wMethF (C : Addr) (m : Str) (wf : Wf) (w : Wx) (u : Wa) : Wx := fun xc ρ Q => w xc ρ fun d => ∃ fs, d = .obj C fs ∧ fs.lookup m = none ∧ u xc ρ fun ds => wf xc (d :: ds) fun fr v => fr = true ∧ Q v
theorem meth_pe {C : Addr} {m : Str} {n : Nat} {wf : Wf} (mo : MoF wf) (hn : ∀ ds xc Q, wf xc ds Q → ds.length = n) (ho : EJ .e E X o w) (h : AJ true E X es u) (hpe : PE X e (tMeth C m (spOf X.K n wf) [] E (liftW X.K E .e w) (liftA X.K E true u))) :
    EJ .e E X e (wMeth C m wf w u) := by
  refine ⟨hpe.imp fun σ H Q ⟨G0, H0, G, ρ, xc, R, T, q⟩ => ⟨G0, H0, G, ρ, xc, R, T, ho.mo _ _ _ _ (fun d ⟨fs, ed, el, q1⟩ G1 H1 v x1 r1 => ?_) q⟩, fun xc ρ Q Q' i q => ho.mo _ _ _ _ (fun d ⟨fs, ed, el, q⟩ => ⟨fs, ed, el, h.mo _ _ _ _ (fun ds q => mo _ _ _ _ (fun fr v q => i _ q) q) q⟩) q⟩
  subst ed
  obtain ⟨a, dx, vf, rfl, ha, rf⟩ := rvO_obj x1.gh (.inl r1)
  refine ⟨a, dx, vf, rfl, ha, rf.lookN el, G0, H0, G1, ρ, xc, R.ext x1, T, h.mo _ _ _ _ (fun ds q2 G2 H2 vs x2 r2 => ?_) q1⟩
  rw [if_pos rfl] at r2
  have r3 : Rps X.K G2 (.obj C fs :: ds) (V.ref a :: (vs ++ [])) := by rw [List.append_nil]; exact .cons (Rp.mono x2.gg r1) r2
  refine ⟨by rw [← r3.length]; exact hn _ _ _ q2, G2, _, xc, x2.gh, r3, T.later (R.ex.trans (x1.trans x2)), mo _ _ _ _ (fun fr d q3 G' H' v x3 r4 => ?_) q2⟩
  have x13 := x1.trans x2
  cases fr with
  | false => exact q3 G' H' v (x13.trans x3) r4
  | true =>
    obtain ⟨G3, x4, r5⟩ := RvF.frz x3 r4
    exact q3 G3 H' v (x13.trans x4) r5
theorem meth_peF {C : Addr} {m : Str} {n : Nat} {wf : Wf} (mo : MoF wf) (hn : ∀ ds xc Q, wf xc ds Q → ds.length = n) (ho : EJ .e E X o w) (h : AJ true E X es u) (hpe : PE X e (tMeth C m (spOf X.K n wf) [] E (liftW X.K E .e w) (liftA X.K E true u))) :
    EJ .f E X e (wMethF C m wf w u) := by
  refine ⟨hpe.imp fun σ H Q ⟨G0, H0, G, ρ, xc, R, T, q⟩ => ⟨G0, H0, G, ρ, xc, R, T, ho.mo _ _ _ _ (fun d ⟨fs, ed, el, q1⟩ G1 H1 v x1 r1 => ?_) q⟩, fun xc ρ Q Q' i q => ho.mo _ _ _ _ (fun d ⟨fs, ed, el, q⟩ => ⟨fs, ed, el, h.mo _ _ _ _ (fun ds q => mo _ _ _ _ (fun fr v q => ⟨q.1, i _ q.2⟩) q) q⟩) q⟩
  subst ed
  obtain ⟨a, dx, vf, rfl, ha, rf⟩ := rvO_obj x1.gh (.inl r1)
  refine ⟨a, dx, vf, rfl, ha, rf.lookN el, G0, H0, G1, ρ, xc, R.ext x1, T, h.mo _ _ _ _ (fun ds q2 G2 H2 vs x2 r2 => ?_) q1⟩
  rw [if_pos rfl] at r2
  have r3 : Rps X.K G2 (.obj C fs :: ds) (V.ref a :: (vs ++ [])) := by rw [List.append_nil]; exact .cons (Rp.mono x2.gg r1) r2
  refine ⟨by rw [← r3.length]; exact hn _ _ _ q2, G2, _, xc, x2.gh, r3, T.later (R.ex.trans (x1.trans x2)), mo _ _ _ _ (fun fr d q3 G' H' v x3 r4 => ?_) q2⟩
  obtain ⟨rfl, q3⟩ := q3
  exact q3 G' H' v ((x1.trans x2).trans x3) (rv_later (k := .f) (x1.trans x2).hh r4)
theorem meth0_pe {C : Addr} {m : Str} {n : Nat} {wf : Wf} (ho : EJ .e E X o w) (h : PE X e (tMeth C m (spOf X.K n wf) [] E (liftW X.K E .e w) tNil)) : PE X e (tMeth C m (spOf X.K n wf) [] E (liftW X.K E .e w) (liftA X.K E true waNil)) :=
  h.imp fun σ H Q ⟨G0, H0, G, ρ, xc, R, T, q⟩ => ⟨G0, H0, G, ρ, xc, R, T, ho.mo _ _ _ _ (fun d hd G1 H1 v x1 r1 => by
    obtain ⟨l, dx, fs, e1, e2, e3, g0, h0, g, r', xc', R', T', q'⟩ := hd G1 H1 v x1 r1
    exact ⟨l, dx, fs, e1, e2, e3, q' _ _ [] (.refl R'.gh) (by rw [if_pos rfl]; exact .nil)⟩) q⟩
theorem ej_meth {C : Addr} {m : Str} {n j : Nat} {wf : Wf} {pl : Sem Bool} {apos : Pos} (F : MDef X.prog X.w X.K X.mg X.base C m n j wf) (hr : Room j X.A) (hx : Passes (L2.CX X.prog X.w) X E) (ho : EJ .e E X o w) (h : AJ true E X (e :: es) u)
    (h1 : starEach (e :: es) X.env = (false, eval e X.env) :: starEach es X.env := by rfl) (h2 : (backTo pos (starEach es X.env)).any (·.1) = false := by rfl)
    (h3 : eval (.Call (.Attribute o m apos) (e :: es) [] pos) X.env = (do
      let ov ← eval o X.env
      standAt apos.atName
      let (f, first) ← holding [ov] (getMethod ov m pl)
      callWith pos f first (backTo pos (starEach (e :: es) X.env)) (backToKw pos (keywordEach [] X.env))) := by rfl) :
    EJ .e E X (.Call (.Attribute o m apos) (e :: es) [] pos) (wMeth C m wf w u) := by
  obtain ⟨f, fd, ps, Fo, hm, b⟩ := F.ex
  exact meth_pe F.mo F.hn ho h (pe_meth ho.pe F.cl hm Fo hr b .nil hx h.pa h1 h2 h3)
theorem ej_meth0 {C : Addr} {m : Str} {n j : Nat} {wf : Wf} {pl : Sem Bool} {apos : Pos} (F : MDef X.prog X.w X.K X.mg X.base C m n j wf) (hr : Room j X.A) (hx : Passes (L2.CX X.prog X.w) X E) (ho : EJ .e E X o w)
    (h3 : eval (.Call (.Attribute o m apos) [] [] pos) X.env = (do
      let ov ← eval o X.env
      standAt apos.atName
      let (f, first) ← holding [ov] (getMethod ov m pl)
      callWith pos f first (backTo pos (starEach [] X.env)) (backToKw pos (keywordEach [] X.env))) := by rfl) :
    EJ .e E X (.Call (.Attribute o m apos) [] [] pos) (wMeth C m wf w waNil) := by
  obtain ⟨f, fd, ps, Fo, hm, b⟩ := F.ex
  exact meth_pe F.mo F.hn ho (aj_nil (X := X) (E := E) (kk := true)) (meth0_pe ho (pe_meth0 ho.pe F.cl hm Fo hr b .nil hx h3))
theorem ej_meth0F {C : Addr} {m : Str} {n j : Nat} {wf : Wf} {pl : Sem Bool} {apos : Pos} (F : MDef X.prog X.w X.K X.mg X.base C m n j wf) (hr : Room j X.A) (hx : Passes (L2.CX X.prog X.w) X E) (ho : EJ .e E X o w)
    (h3 : eval (.Call (.Attribute o m apos) [] [] pos) X.env = (do
      let ov ← eval o X.env
      standAt apos.atName
      let (f, first) ← holding [ov] (getMethod ov m pl)
      callWith pos f first (backTo pos (starEach [] X.env)) (backToKw pos (keywordEach [] X.env))) := by rfl) :
    EJ .f E X (.Call (.Attribute o m apos) [] [] pos) (wMethF C m wf w waNil) := by
  obtain ⟨f, fd, ps, Fo, hm, b⟩ := F.ex
  exact meth_peF F.mo F.hn ho (aj_nil (X := X) (E := E) (kk := true)) (meth0_pe ho (pe_meth0 ho.pe F.cl hm Fo hr b .nil hx h3))

/-! ### len of an object -/
def rLenO (K : PySem.W.Frag) (C : Addr) (sp : Sp) (E : XK) : List V → Hp → VK → Prop := fun xs H Q => ∃ a dx fs, xs = [V.ref a] ∧ H a = some (.ins C dx fs) ∧ sp [.ref a] H (fun v H' => ∃ n : Int, v = .int n ∧ (0 ≤ n ∧ n < 2 ^ 63) ∧ Q (.int n) H') E
theorem call_lenO {C f : Addr} {fd : FuncData} {ps : List Str} {j : Nat} {sp : Sp} (F : FnOk X.prog X.w X.K X.mg X.base (L2.CX X.prog X.w) j f fd ps sp) (hm : Meth X.K C "__len__" f) (hb : Binds X.K fd ps []) (hr : Room (j + 1) X.A) (hx : Passes (L2.CX X.prog X.w) X E) :
    CallR X (.builtin "len") (rLenO X.K C sp E) := by
  intro pins s σ H xs us Q I r h
  obtain ⟨a, dx, fs, rfl, ha, q⟩ := h
  rw [Vals.ref1 r]
  obtain ⟨mA, J, _⟩ := ins_get I.hok ha
  obtain ⟨od, J, _⟩ := J.look
  obtain ⟨m, hF⟩ := I.fr
  refine PySem.W.len_K hF I.ok.mod.kin J hm.at_ hm.fn ?_
  have e0 : Env0 X.prog X.w X.K X.mg X.base X.A.in1 X.stack s H := I.env0.in1
  have hl := F.len _ _ _ _ q
  have r2 : Vals [V.ref a] [Value.ref a] := .cons rfl .nil
  refine wpAny_call (codeAny_mono (F.run X.A.in1 X.stack s H ⟨[.ref a], []⟩ [.ref a] [.ref a] _ E hr.in1 e0 (by
    have := hb s [.ref a] I.kIn (by simpa using hl)
    simpa using this) r2 q) fun r s' hq => ?_)
  cases r with
  | error e => exact hx pins σ H s e s' I hq
  | ok fl =>
    cases fl with
    | ret u =>
      obtain ⟨z, H', I', rz, n, ez, hn, qn⟩ := I.after hq
      subst ez
      obtain ⟨t, rfl⟩ := rz
      exact ⟨hn, .int n, H', I'.tok _, ⟨_, rfl⟩, qn⟩
    | next => exact False.elim hq
    | brk => exact False.elim hq
    | cont => exact False.elim hq
def wLenO (C : Addr) (wf : Wf) (w : Wx) : Wx := fun xc ρ Q => w xc ρ fun d => ∃ fs, d = .obj C fs ∧ wf xc [d] fun _ v => ∃ n : Int, v = .int n ∧ (0 ≤ n ∧ n < 2 ^ 63) ∧ Q v
theorem ej_lenO {C : Addr} {j : Nat} {wf : Wf} (F : MDef X.prog X.w X.K X.mg X.base C "__len__" 1 j wf) (hr : Room (j + 1) X.A) (hx : Passes (L2.CX X.prog X.w) X E) (ha : EJ .e E X a w) (hg : Gl X "len") (hm : X.mg "len" = none)
    (hst : starEach [a] X.env = (false, eval a X.env) :: starEach [] X.env := by rfl) : EJ .e E X (.Call (.Name "len" p) [a] [] pos) (wLenO C wf w) := by
  obtain ⟨f, fd, ps, Fo, hme, b⟩ := F.ex
  have h := pe_callB (p := p) (pos := pos) (call_lenO Fo hme b hr hx) hg hm PySem.boot_len (pa_cons ha.pe pa_nil hst) (by decide) (by decide) hst rfl
  refine ⟨h.imp fun σ H Q ⟨G0, H0, G, ρ, xc, R, T, q⟩ => ⟨G0, H0, G, ρ, xc, R, T, ha.mo _ _ _ _ (fun d ⟨fs, ed, q1⟩ G1 H1 v x1 r1 => ?_) q⟩, fun xc ρ Q Q' i q => ha.mo _ _ _ _ (fun d ⟨fs, ed, q⟩ => ⟨fs, ed, F.mo _ _ _ _ (fun fr v ⟨n, en, hn, q⟩ => ⟨n, en, hn, i _ q⟩) q⟩) q⟩
  subst ed
  obtain ⟨l, dx, vf, rfl, hl, rf⟩ := rvO_obj x1.gh (.inl r1)
  refine ⟨l, dx, vf, rfl, hl, rfl, G1, _, xc, x1.gh, .cons r1 .nil, T.later (R.ex.trans x1), F.mo _ _ _ _ (fun fr d ⟨n, en, hn, q2⟩ G' H' v x2 r2 => ?_) q1⟩
  subst en
  have e3 : v = .int n := by
    cases fr with
    | false => exact rvO_int (G := G') (H := H') (.inl r2)
    | true => obtain ⟨_, o, _, _, _, t, _⟩ := r2; cases o <;> exact t.elim
  exact ⟨n, e3, hn, q2 G' H' _ (x1.trans x2) (.int n)⟩
end
end Tw

/-! Tw, part L: short rules, one a construct. -/
namespace Tw
open PySem PySem.Spec L2 PyProof.Rows
theorem units65 {A : Around} {k : Nat} (r : Room k A) : A.units + 65 < cLine := by have := r.un; omega
section
variable {X : Cx} {K : PySem.W.Frag} {E : XK} {e a b c o : Expr} {es : List Expr} {w wa wb wc : Wx} {k ka kb kc : Kd} {pos p pos' : Pos} {u ut : Wa} {st : Stmt} {rest body : List Stmt} {s s1 s2 : Ws} {i : Nat} {x : Str}
/-! built-in functions -/
theorem ej_len (hg : Gl X "len") (hm : X.mg "len" = none) (ha : EJ k E X a w) (hst : starEach [a] X.env = (false, eval a X.env) :: starEach [] X.env := by rfl) : EJ .e E X (.Call (.Name "len" p) [a] [] pos) (wN oLen (waCons w waNil)) :=
  let h := aj_consO ha (aj_nil (kk := false)) hst
  ej_N h (pe_callB call_len hg hm PySem.boot_len h.pa (by decide) (by decide) hst rfl) brg_len
theorem ej_abs (hg : Gl X "abs") (hm : X.mg "abs" = none) (ha : EJ k E X a w) (hst : starEach [a] X.env = (false, eval a X.env) :: starEach [] X.env := by rfl) : EJ .e E X (.Call (.Name "abs" p) [a] [] pos) (wN oAbs (waCons w waNil)) :=
  let h := aj_consO ha (aj_nil (kk := false)) hst
  ej_N h (pe_callB call_abs hg hm (by decide +kernel) h.pa (by decide) (by decide) hst rfl) brg_abs
theorem ej_int1 (hg : Gl X "int") (hm : X.mg "int" = none) (ha : EJ k E X a w) (hst : starEach [a] X.env = (false, eval a X.env) :: starEach [] X.env := by rfl) : EJ .e E X (.Call (.Name "int" p) [a] [] pos) (wN oInt (waCons w waNil)) :=
  let h := aj_consO ha (aj_nil (kk := false)) hst
  ej_N h (pe_callTy call_int1 hg hm (by decide +kernel) h.pa (by decide) (by decide) hst rfl) brg_int
theorem ej_list1 (hg : Gl X "list") (hm : X.mg "list" = none) (ha : EJ k E X a w) (hst : starEach [a] X.env = (false, eval a X.env) :: starEach [] X.env := by rfl) : EJ .f E X (.Call (.Name "list" p) [a] [] pos) (wN oList (waCons w waNil)) :=
  let h := aj_consO ha (aj_nil (kk := false)) hst
  ej_N h (pe_callTy call_list_of hg hm (by decide +kernel) h.pa (by decide) (by decide) hst rfl) brg_list
theorem ej_tuple1 (hg : Gl X "tuple") (hm : X.mg "tuple" = none) (ha : EJ k E X a w) (hst : starEach [a] X.env = (false, eval a X.env) :: starEach [] X.env := by rfl) : EJ .e E X (.Call (.Name "tuple" p) [a] [] pos) (wN oTuple (waCons w waNil)) :=
  let h := aj_consO ha (aj_nil (kk := false)) hst
  ej_N h (pe_callTy call_tuple_of hg hm (by decide +kernel) h.pa (by decide) (by decide) hst rfl) brg_tuple
theorem ej_sortI (hg : Gl X "sorted") (hm : X.mg "sorted" = none) (ha : EJ k E X a w) (hst : starEach [a] X.env = (false, eval a X.env) :: starEach [] X.env := by rfl) : EJ .f E X (.Call (.Name "sorted" p) [a] [] pos) (wN oSortI (waCons w waNil)) :=
  let h := aj_consO ha (aj_nil (kk := false)) hst
  ej_N h (pe_callB cr_sortedI hg hm (by decide +kernel) h.pa (by decide) (by decide) hst rfl) brg_sortI
theorem ej_any1 (hc : X.calm = true) (hg : Gl X "any") (hm : X.mg "any" = none) (ha : EJ k E X a w) (hst : starEach [a] X.env = (false, eval a X.env) :: starEach [] X.env := by rfl) : EJ .e E X (.Call (.Name "any" p) [a] [] pos) (wN oAny (waCons w waNil)) :=
  let h := aj_consO ha (aj_nil (kk := false)) hst
  ej_N h (pe_callB (cr_any hc) hg hm (by decide +kernel) h.pa (by decide) (by decide) hst rfl) brg_any
theorem ej_all1 (hc : X.calm = true) (hg : Gl X "all") (hm : X.mg "all" = none) (ha : EJ k E X a w) (hst : starEach [a] X.env = (false, eval a X.env) :: starEach [] X.env := by rfl) : EJ .e E X (.Call (.Name "all" p) [a] [] pos) (wN oAll (waCons w waNil)) :=
  let h := aj_consO ha (aj_nil (kk := false)) hst
  ej_N h (pe_callB (cr_all hc) hg hm (by decide +kernel) h.pa (by decide) (by decide) hst rfl) brg_all
/-- a constant of the module -/
theorem ej_glob {d : D} {v : V} (hg : Gl X x) (h : ∃ u, X.mg x = some u ∧ RelV v u) (r : ∀ G, Rp X.K G d v) (hd : (x == ("__debug__" : Str)) = false := by decide) : EJ .e E X (.Name x pos) (wC d) := by
  obtain ⟨u, h1, h2⟩ := h
  exact ej_c (pe_glob hg h1 h2 hd) r
/-! tests -/
theorem tj_ch2 {op op' : CmpOp} {f f' : Op2} {r r' : R2} (B : Brg2 X.K .e f r) (B' : Brg2 X.K .e f' r') (ho : OpR X (compareOp op) r) (ho' : OpR X (compareOp op') r') (ha : EJ ka E X a wa) (hb : EJ kb E X b wb) (hc : EJ kc E X c wc) (hl : lastMarks [op, op'] [b, c] = false := by rfl) :
    TJ E X (.Compare a [op, op'] [b, c] pos) (wB (wCh f f' wa wb wc)) := tj_ch ha hb hc (pt_chain ho ho' ha.pe hb.pe hc.pe hl) B B'
theorem ej_ch2 {op op' : CmpOp} {f f' : Op2} {r r' : R2} (B : Brg2 X.K .e f r) (B' : Brg2 X.K .e f' r') (ho : OpR X (compareOp op) r) (ho' : OpR X (compareOp op') r') (ha : EJ ka E X a wa) (hb : EJ kb E X b wb) (hc : EJ kc E X c wc) (hl : lastMarks [op, op'] [b, c] = false := by rfl) :
    EJ .e E X (.Compare a [op, op'] [b, c] pos) (wCh f f' wa wb wc) := ej_ch ha hb hc (pe_chain ho ho' ha.pe hb.pe hc.pe hl) B B'
/-- a and b, a or b as a value, a True or False -/
@[simp] def wAndV (wa wb : Wx) : Wx := fun xc ρ Q => wa xc ρ fun x => ∃ t, x = .bl t ∧ if t = true then wb xc ρ Q else Q (.bl false)
@[simp] def wOrV (wa wb : Wx) : Wx := fun xc ρ Q => wa xc ρ fun x => ∃ t, x = .bl t ∧ if t = true then Q (.bl true) else wb xc ρ Q
theorem ej_one {op : BoolOp} (ha : EJ .e E X a wa) (h : PE X (.BoolOp op [a] pos) (liftW X.K E .e wa)) : EJ .e E X (.BoolOp op [a] pos) wa := ⟨h, ha.mo⟩
/-! statements -/
theorem sj_name (nd : X.N.Nodup) (hi : X.N[i]? = some x) (hx : Loc X.env.scope x) (he : EJ .e E X e w) (hs : swapsWith e (some (.Name x pos')) pos.line X.env = pure false := by rfl) (hf : X.fn x = true ∨ X.env.scope.names.lookup x = some .local := by first | exact .inl rfl | exact .inr rfl) :
    SJ E X (.Assign [.Name x pos'] e pos) (sSet i w) := sj_set he (ps_set nd hi hx he.pe hs hf)
theorem sj_nameO (nd : X.N.Nodup) (hi : X.N[i]? = some x) (hx : Loc X.env.scope x) (he : EJ .f E X e w) (hs : swapsWith e (some (.Name x pos')) pos.line X.env = pure false := by rfl) (hf : X.fn x = true ∨ X.env.scope.names.lookup x = some .local := by first | exact .inl rfl | exact .inr rfl) :
    SJ E X (.Assign [.Name x pos'] e pos) (sSetO i w) := sj_setO he (ps_set nd hi hx he.pe hs hf)
/-- y = [..] -/
theorem frz_asg (h : PS X st (tAsg (liftW X.K E .f w) (gName i))) (he : EJ .f E X e w) : PS X st (tAsg (liftW X.K E .e w) (gName i)) := h.imp fun D' σ H ⟨G0, H0, G, ρ, xc, R, T, q⟩ => ⟨G0, H0, G, ρ, xc, R, T, he.mo _ _ _ _ (fun d hd G' H' v x1 r1 => by
  obtain ⟨G2, x2, r2⟩ := RvF.frz x1 r1
  exact hd G2 H' v x2 r2) q⟩
theorem sj_compO (h : PS X st (tAsg (liftW X.K E .f w) (gName i)) ∧ EJ .f E X e w) : SJ E X st (sSetO i w) := sj_setO h.2 h.1
theorem sj_comp (h : PS X st (tAsg (liftW X.K E .f w) (gName i)) ∧ EJ .f E X e w) : SJ E X st (sSet i w) := sj_set h.2.toE (frz_asg h.1 h.2)
theorem sj_tgt {tg : Expr} {tgs : List Nat} {g : Wg} (hg : GJ X tg tgs g) (he : EJ .e E X e w) (h1 : swapsWithSole [tg] e pos.line X.env = pure false := by rfl) (h2 : swappedStores [tg] e X.env = pure none := by rfl) (h3 : (assignEach [tg] X.env).map (·.2) = [assign tg X.env] := by rfl) :
    SJ E X (.Assign [tg] e pos) (sAsg w g) := sj_asg he hg (ps_asg he.pe hg.pg h1 h2 h3)
theorem sj_expr (he : EJ k E X e w) (hs : swapsWith e none pos.line X.env = pure false := by rfl) : SJ E X (.Expr e pos) (sExp w) := sj_exp he (ps_expr he.pe hs)
theorem sj_append {apos cpos : Pos} {n : Expr} (hv : PE X n (tVar i)) (he : EJ .e E X e w)
    (h1 : attributeBase n "append" X.env (eval n X.env) = eval n X.env := by rfl) (h2 : ((backTo cpos (starEach [e] X.env)).all (fun x => !x.1) && (backToKw cpos (keywordEach [] X.env)).all (fun x => x.1.isSome) && decide ([e].length + ([] : List Keyword).length + (if ([] : List Keyword).isEmpty = true then 0 else 1) < 30)) = true := by rfl)
    (h3 : (apos.endLine == cpos.line) = true := by rfl) (hst : starEach [e] X.env = (false, eval e X.env) :: starEach [] X.env := by rfl) (hs : swapsWith (.Call (.Attribute n "append" apos) [e] [] cpos) none pos.line X.env = pure false := by rfl) :
    SJ E X (.Expr (.Call (.Attribute n "append" apos) [e] [] cpos) pos) (sApp i w) :=
  sj_app (name := "append") (id := "list.append") he (ps_expr (pe_bm PySem.F.plainAttrs_list PySem.F.slot_list_append PySem.F.type_list_append mt_append hv (pa_cons he.pe pa_nil hst) h1 h2 h3 hst rfl) hs)
theorem sj_dput {n : Expr} {kk : Nat} {tp : Pos} (hu : X.A.units + 1 < cLine) (hv : PE X n (tVar i)) (hk : AJ true E X es u) (hb : EJ .e E X b wb) (hs : swapsWith b (some (.Subscript n (.Tuple es kk tp) pos')) pos.line X.env = pure false := by rfl) :
    SJ E X (.Assign [.Subscript n (.Tuple es kk tp) pos'] b pos) (sPutT i u wb) := sj_putT hk hb (ps_dput hu hv (pe_tup hk.pa) hb.pe hs)
theorem tj_dinT {kk : Nat} {tp : Pos} (hu : X.A.units + 1 < cLine) (hk : AJ true E X es u) (hd : EJ kb E X b wb) (h1 : behindInMarks .In b = false := by rfl) : TJ E X (.Compare (.Tuple es kk tp) [.In] [b] pos) (wB (wInT u wb)) := tj_inT hk hd (pt_cmp (pc_din hu (pe_tup hk.pa) hd.pe) h1)
theorem sj_fset {n : Expr} {f : Str} {C : Addr} (c : Cls X.K C) (no : NoAttr X.K C f) (hv : PE X n (tVar i)) (he : EJ .e E X e w) (hs : swapsWith e (some (.Attribute n f pos')) pos.line X.env = pure false := by rfl) :
    SJ E X (.Assign [.Attribute n f pos'] e pos) (fun Z ρ => OneSe ρ i ∧ sFldD i C f w Z ρ) := sj_fld c no he (ps_fld hv he.pe hs)
end
end Tw

/-! Tw, part M: more short rules. -/
namespace Tw
open PySem PySem.Spec L2 PyProof.Rows
section
variable {X : Cx} {K : PySem.W.Frag} {E : XK} {e a b c o : Expr} {es : List Expr} {w wa wb wc : Wx} {k ka kb kc : Kd} {pos p pos' : Pos} {u ut : Wa} {st : Stmt} {rest body : List Stmt} {s s1 s2 : Ws} {i : Nat} {x : Str}
theorem ej_toE (h : EJ .f E X e w) : EJ .e E X e w := h.toE
theorem tj_tw {wt : Wt} (h : TWJ E X e wt) : TJ E X e wt := h.t
theorem ej_b1 {op : BoolOp} (ha : EJ .e E X a wa) : EJ .e E X (.BoolOp op [a] pos) wa := ⟨pe_one ha.pe, ha.mo⟩
theorem ej_andV {rs : List Expr} (ha : EJ .e E X a wa) (hb : EJ .e E X (.BoolOp .And (b :: rs) pos) wb) : EJ .e E X (.BoolOp .And (a :: b :: rs) pos) (wAndV wa wb) := by
  refine ⟨(pe_and ha.pe hb.pe).imp fun σ H Q ⟨G0, H0, G, ρ, xc, R, T, q⟩ => ⟨G0, H0, G, ρ, xc, R, T, ha.mo _ _ _ _ (fun d ⟨t, ed, q1⟩ G1 H1 v x1 r1 => ?_) q⟩, fun xc ρ Q Q' i q => ha.mo _ _ _ _ (fun d ⟨t, ed, q⟩ => ⟨t, ed, ?_⟩) q⟩
  · subst ed
    refine ⟨t, rvO_bl r1.o, ?_⟩
    cases t with
    | true => rw [if_pos rfl] at q1; exact iteT ⟨G0, H0, G1, ρ, xc, R.ext x1, T, hb.mo _ _ _ _ (fun y q2 G2 H2 v x2 r => q2 G2 H2 v (x1.trans x2) r) q1⟩
    | false => rw [if_neg Bool.false_ne_true] at q1; exact iteF (q1 G1 H1 _ x1 (.bl _))
  · cases t with
    | true => rw [if_pos rfl] at q ⊢; exact hb.mo _ _ _ _ i q
    | false => rw [if_neg Bool.false_ne_true] at q ⊢; exact i _ q
theorem ej_orV {rs : List Expr} (ha : EJ .e E X a wa) (hb : EJ .e E X (.BoolOp .Or (b :: rs) pos) wb) : EJ .e E X (.BoolOp .Or (a :: b :: rs) pos) (wOrV wa wb) := by
  refine ⟨(pe_or ha.pe hb.pe).imp fun σ H Q ⟨G0, H0, G, ρ, xc, R, T, q⟩ => ⟨G0, H0, G, ρ, xc, R, T, ha.mo _ _ _ _ (fun d ⟨t, ed, q1⟩ G1 H1 v x1 r1 => ?_) q⟩, fun xc ρ Q Q' i q => ha.mo _ _ _ _ (fun d ⟨t, ed, q⟩ => ⟨t, ed, ?_⟩) q⟩
  · subst ed
    refine ⟨t, rvO_bl r1.o, ?_⟩
    cases t with
    | false => rw [if_neg Bool.false_ne_true] at q1; exact iteF ⟨G0, H0, G1, ρ, xc, R.ext x1, T, hb.mo _ _ _ _ (fun y q2 G2 H2 v x2 r => q2 G2 H2 v (x1.trans x2) r) q1⟩
    | true => rw [if_pos rfl] at q1; exact iteT (q1 G1 H1 _ x1 (.bl _))
  · cases t with
    | false => rw [if_neg Bool.false_ne_true] at q ⊢; exact hb.mo _ _ _ _ i q
    | true => rw [if_pos rfl] at q ⊢; exact i _ q
@[simp] def wNotV (w : Wx) : Wx := fun xc ρ Q => w xc ρ fun d => ∃ t, d = .bl t ∧ Q (.bl (!t))
theorem ej_not1 (ha : EJ k E X a w) : EJ .e E X (.UnaryOp .Not a pos) (wNotV w) := by
  refine ⟨(pe_not ha.pe).imp fun σ H Q ⟨G0, H0, G, ρ, xc, R, T, q⟩ => ⟨G0, H0, G, ρ, xc, R, T, ha.mo _ _ _ _ (fun d ⟨t, ed, q1⟩ G1 H1 v x1 r1 => ?_) q⟩, fun xc ρ Q Q' i q => ha.mo _ _ _ _ (fun d ⟨t, ed, q⟩ => ⟨t, ed, i _ q⟩) q⟩
  subst ed
  exact ⟨t, rvO_bl r1.o, q1 G1 H1 _ x1 (.bl _)⟩
/-! for over a text -/
def signsD (z : Str) : List D := z.cps.toList.map fun c => .str ⟨#[c]⟩
theorem wk_str {G : Hp} (z : Str) : Wk K (Its z) G (signsD z) where
  stop := fun G' H' _ _ => by show z.cps.size ≤ (signsD z).length; simp [signsD]
  go := fun i G' H' hi _ _ => by show i < z.cps.size; simpa [signsD] using hi
  yld := fun i G' H' x H2 hi g1 g2 ⟨ee, cc, hc, ev⟩ => by
    subst ee ev
    exact ⟨G', .str ⟨#[cc]⟩, .refl g2, by simp [signsD, hc], .str _⟩
def wiStr (w : Wx) : Wa := fun xc ρ Q => w xc ρ fun d => ∃ z, d = .str z ∧ Q (signsD z)
theorem ij_str {tg : Expr} (ha : EJ k E X a w) : IJ E X tg a (wiStr w) := by
  refine ⟨(pi_str ha.pe).imp fun σ H R' ⟨G0, H0, G, ρ, xc, R, T, q⟩ => ⟨G0, H0, G, ρ, xc, R, T, ha.mo _ _ _ _ (fun d ⟨z, ed, q1⟩ G1 H1 v x1 r1 => ?_) q⟩, fun xc ρ Q Q' i q => ha.mo _ _ _ _ (fun d ⟨z, ed, q⟩ => ⟨z, ed, i _ q⟩) q⟩
  subst ed
  exact ⟨z, rvO_str r1.o, q1 G1 H1 _ x1 (wk_str z)⟩
theorem gsj_name {tgs : List Nat} {gs : Wgs} (h1 : GJ X e [i] (gSet i)) (h2 : GsJ X es tgs gs) (hs : (assignEach (e :: es) X.env).map (·.2) = assign e X.env :: (assignEach es X.env).map (·.2) := by rfl) : GsJ X (e :: es) (i :: tgs) (gsCons (gSet i) gs) := gsj_cons h1 h2 hs
/-- y = [..] -/
theorem sj_compS {tg iter elt : Expr} {ifs : List Expr} {scope : Scope} {own : List (Str × Nat)} {wi : Wa} {tgs : List Nat} {g : Wg} {tt : Wt} {we : Wx} {y : Str} {py spos : Pos} (hc : X.calm = true) (hN : X.N.Nodup) (hy : X.N[i]? = some y) (hyl : X.env.scope.names.lookup y = some .local)
    (hsw : swapsWith (.ListComp elt [⟨tg, iter, ifs, 0⟩] scope pos) (some (.Name y py)) spos.line X.env = pure true) (ok : BlkOk X.N X.env.scope scope own)
    (hi : IJ E X tg iter wi) (hsub : ∀ t ∈ tgs, t ∈ own.map (·.2))
    (hg : ∀ (s : Shared) (H : Hp) (C : Addr) (cl : List (Str × Addr)) (fp : List Addr), GJ (X.blk s H scope (compEnvC scope cl C X.env) fp) tg tgs g)
    (ht : ∀ (s : Shared) (H : Hp) (C : Addr) (cl : List (Str × Addr)) (fp : List Addr), TsJ E0 (X.blk s H scope (compEnvC scope cl C X.env) fp) ifs tt)
    (he : ∀ (s : Shared) (H : Hp) (C : Addr) (cl : List (Str × Addr)) (fp : List Addr), EJ .e E0 (X.blk s H scope (compEnvC scope cl C X.env) fp) elt we)
    (hs : ∀ x, foldedSetIterable iter X.env x = pure x := by intro _; rfl) :
    SJ E X (.Assign [.Name y py] (.ListComp elt [⟨tg, iter, ifs, 0⟩] scope pos) spos) (sSet i (wLc wi g tt we (own.map (·.2)))) := sj_comp (comp_set hc hN hy hyl hsw ok hi hsub hg ht he hs)
theorem sj_compSO {tg iter elt : Expr} {ifs : List Expr} {scope : Scope} {own : List (Str × Nat)} {wi : Wa} {tgs : List Nat} {g : Wg} {tt : Wt} {we : Wx} {y : Str} {py spos : Pos} (hc : X.calm = true) (hN : X.N.Nodup) (hy : X.N[i]? = some y) (hyl : X.env.scope.names.lookup y = some .local)
    (hsw : swapsWith (.ListComp elt [⟨tg, iter, ifs, 0⟩] scope pos) (some (.Name y py)) spos.line X.env = pure true) (ok : BlkOk X.N X.env.scope scope own)
    (hi : IJ E X tg iter wi) (hsub : ∀ t ∈ tgs, t ∈ own.map (·.2))
    (hg : ∀ (s : Shared) (H : Hp) (C : Addr) (cl : List (Str × Addr)) (fp : List Addr), GJ (X.blk s H scope (compEnvC scope cl C X.env) fp) tg tgs g)
    (ht : ∀ (s : Shared) (H : Hp) (C : Addr) (cl : List (Str × Addr)) (fp : List Addr), TsJ E0 (X.blk s H scope (compEnvC scope cl C X.env) fp) ifs tt)
    (he : ∀ (s : Shared) (H : Hp) (C : Addr) (cl : List (Str × Addr)) (fp : List Addr), EJ .e E0 (X.blk s H scope (compEnvC scope cl C X.env) fp) elt we)
    (hs : ∀ x, foldedSetIterable iter X.env x = pure x := by intro _; rfl) :
    SJ E X (.Assign [.Name y py] (.ListComp elt [⟨tg, iter, ifs, 0⟩] scope pos) spos) (sSetO i (wLc wi g tt we (own.map (·.2)))) := sj_compO (comp_set hc hN hy hyl hsw ok hi hsub hg ht he hs)
/-! zip of two lists or tuples of one length -/
theorem wk_zip {a b : Addr} {vs ws : List V} {G : Hp} {ds es : List D} (h : SqL K G a vs) (h' : SqL K G b ws) (r : Rps K G ds vs) (r' : Rps K G es ws) : Wk K (Itz K a b) G ((ds.zip es).map fun q => .tup [q.1, q.2]) where
  stop := fun G' H' g1 g2 => ⟨vs, ws, (g1.trans g2).seq h, (g1.trans g2).seq h', by
    have := r.length; have := r'.length
    simp only [List.length_map, List.length_zip]; omega⟩
  go := fun i G' H' hi g1 g2 => by
    have l1 := r.length; have l2 := r'.length
    simp only [List.length_map, List.length_zip] at hi
    have h1 : i < vs.length := by omega
    have h2 : i < ws.length := by omega
    exact ⟨vs, ws, vs[i], ws[i], (g1.trans g2).seq h, (g1.trans g2).seq h', by simp [h1], by simp [h2]⟩
  yld := fun i G' H' x H2 hi g1 g2 ⟨t, y, z, ex, ht, eH, hy, hz⟩ => by
    subst ex eH
    obtain ⟨d, hd, rd⟩ := r.get' (hy vs ((g1.trans g2).seq h))
    obtain ⟨d', hd', rd'⟩ := r'.get' (hz ws ((g1.trans g2).seq h'))
    have x2 := Ext.new (o := .tup [y, z]) g2 ht
    refine ⟨_, .tup [d, d'], x2, ?_, .tup (SqT.of upd_same) (.cons (rd.mono (g1.trans x2.gg)) (.cons (rd'.mono (g1.trans x2.gg)) .nil))⟩
    have e2 : (ds.zip es)[i]? = some (d, d') := List.getElem?_zip_eq_some.mpr ⟨hd, hd'⟩
    rw [List.getElem?_map, e2]
    rfl
def wiZip (wa wb : Wx) : Wa := fun xc ρ Q => wa xc ρ fun x => wb xc ρ fun y => ∃ xs ys, (x = .lst xs ∨ x = .fls xs) ∧ (y = .lst ys ∨ y = .fls ys) ∧ Q ((xs.zip ys).map fun q => .tup [q.1, q.2])
/-! is True, is False -/
def D.isB : D → Bool → Bool
  | .bl t, t' => t == t'
  | _, _ => false
def oIsB : Op2
  | x, .bl t, Q => Q (.bl (x.isB t))
  | _, _, _ => False
def V.isB : V → Bool → Bool
  | .bl t, t' => t == t'
  | _, _ => false
def rIsT : R2 := fun x y H Q => ∃ t, y = .bl t ∧ Q (.bl (V.isB x t)) H
theorem op_isT : OpR X (compareOp .Is) rIsT := by
  intro pins s σ H x y v u Q I rx ry h
  obtain ⟨t, rfl, q⟩ := h
  cases ry
  cases x with
  | non => cases rx; exact PySem.wpAny_is_plain rfl (fin_bl I q rfl)
  | bl t' => cases rx; exact PySem.wpAny_is_plain rfl (fin_bl I q (by cases t <;> cases t' <;> rfl))
  | int i => obtain ⟨t', rfl⟩ := rx; exact PySem.wpAny_is_plain rfl (fin_bl I q rfl)
  | str i => obtain ⟨t', rfl⟩ := rx; exact PySem.wpAny_is_plain rfl (fin_bl I q rfl)
  | byt i => obtain ⟨t', rfl⟩ := rx; exact PySem.wpAny_is_plain rfl (fin_bl I q rfl)
  | flt i => obtain ⟨t', rfl⟩ := rx; exact PySem.wpAny_is_plain rfl (fin_bl I q rfl)
  | ref i => cases rx; exact PySem.wpAny_is_plain rfl (fin_bl I q rfl)
  | ty i => cases rx; exact PySem.wpAny_is_plain rfl (fin_bl I q rfl)
theorem rvO_isB {G H : Hp} {d : D} {v : V} (h : RvO K G H d v) (t : Bool) : V.isB v t = d.isB t := by
  rcases h with h | ⟨p, o, rfl, e, tt⟩
  · cases h <;> rfl
  · cases d <;> cases o <;> first | exact tt.elim | rfl
theorem brg_isB : Brg2 K .e oIsB rIsT := by
  refine ⟨fun x y G H vx vy Q Q2 g rx ry q kk => ?_, fun x y Q Q' i q => ?_⟩
  · cases y <;> first | exact q.elim | skip
    exact ⟨_, rvO_bl ry, by rw [rvO_isB rx]; exact kk _ q G H _ (.refl g) (.bl _)⟩
  · cases y <;> first | exact q.elim | skip
    exact i _ q
theorem tj_isB (ha : EJ ka E X a wa) (hb : EJ kb E X b wb) : TJ E X (.Compare a [.Is] [b] pos) (wB (w2 oIsB wa wb)) := tj_2 ha hb (pt_cmpR op_isT ha.pe hb.pe (nomark _)) brg_isB
theorem ej_isB (ha : EJ ka E X a wa) (hb : EJ kb E X b wb) : EJ .e E X (.Compare a [.Is] [b] pos) (w2 oIsB wa wb) := ej_2 ha hb (pe_cmpR op_isT ha.pe hb.pe (nomark _)) brg_isB
/-! keywords -/
theorem kj_nil : KJ E X [] waNil := ⟨pk_nil.imp fun σ H Q ⟨G0, H0, G, ρ, xc, R, T, q⟩ => q G H [] (.refl R.gh) (by rw [if_pos rfl]; exact .nil), fun _ _ _ _ i q => i _ q⟩
theorem kj_cons {n : Str} {kp : Pos} {kws : List Keyword} (ha : EJ .e E X a w) (hk : KJ E X kws u) : KJ E X (⟨some n, a, kp⟩ :: kws) (waCons w u) := by
  refine ⟨PK.imp (pk_cons ha.pe hk.pk) fun σ H Q ⟨G0, H0, G, ρ, xc, R, T, q⟩ => ⟨G0, H0, G, ρ, xc, R, T, ha.mo _ _ _ _ (fun x q1 G1 H1 v1 x1 r1 => ?_) q⟩, fun xc ρ Q Q' i q => ha.mo _ _ _ _ (fun x q => hk.mo _ _ _ _ (fun ds q => i _ q) q) q⟩
  refine ⟨G0, H0, G1, ρ, xc, R.ext x1, T, hk.mo _ _ _ _ (fun y q2 G2 H2 v2 x2 r2 => ?_) q1⟩
  rw [if_pos rfl] at r2
  exact q2 G2 H2 (v1 :: v2) (x1.trans x2) (by rw [if_pos rfl]; exact .cons (Rp.mono x2.gg r1) r2)
end
end Tw

/-! Tw, part N: what the words mean on known data; loops by an invariant. -/
namespace Tw
open PySem PySem.Spec L2 PyProof.Rows
section
variable {i j : Int} {Q : D → Prop} {x y : Str} {xs ys : List D} {t : Bool}
@[simp] theorem oLt_i : oLt (.int i) (.int j) Q = Q (.bl (decide (i < j))) := rfl
@[simp] theorem oLe_i : oLe (.int i) (.int j) Q = Q (.bl (decide (i ≤ j))) := rfl
@[simp] theorem oGt_i : oGt (.int i) (.int j) Q = Q (.bl (decide (j < i))) := rfl
@[simp] theorem oGe_i : oGe (.int i) (.int j) Q = Q (.bl (decide (j ≤ i))) := rfl
@[simp] theorem oSub_i : oSub (.int i) (.int j) Q = Q (.int (i - j)) := rfl
@[simp] theorem oPlus_i : oPlus (.int i) (.int j) Q = Q (.int (i + j)) := rfl
@[simp] theorem oPlus_s : oPlus (.str x) (.str y) Q = (x.length + y.length ≤ sizeLine ∧ Q (.str (x ++ y))) := rfl
@[simp] theorem oPlus_t : oPlus (.tup xs) (.tup ys) Q = (xs.length + ys.length ≤ sizeLine ∧ Q (.tup (xs ++ ys))) := rfl
@[simp] theorem oPlus_l : oPlus (.lst xs) (.lst ys) Q = (xs.length + ys.length ≤ sizeLine ∧ Q (.lst (xs ++ ys))) := rfl
@[simp] theorem oCat_l : oCat (.lst xs) (.lst ys) Q = (xs.length + ys.length ≤ sizeLine ∧ Q (.lst (xs ++ ys))) := rfl
@[simp] theorem oMul_i : oMul (.int i) (.int j) Q = (CMul i j ∧ Q (.int (i * j))) := rfl
@[simp] theorem oMul_s : oMul (.str x) (.int j) Q = (MulOk x j ∧ Q (.str (Txt.mul x j))) := rfl
@[simp] theorem oDiv_i : oDiv (.int i) (.int j) Q = (CDiv i j ∧ Q (.int (i / j))) := rfl
@[simp] theorem oMod_i : oMod (.int i) (.int j) Q = (0 < j ∧ Q (.int (i % j))) := rfl
@[simp] theorem oPow_i : oPow (.int i) (.int j) Q = (CPow i j ∧ Q (.int (i ^ j.toNat))) := rfl
@[simp] theorem oIx_l : oIx (.lst xs) (.int i) Q = ∃ d, atI xs i = some d ∧ Q d := rfl
@[simp] theorem oIx_f : oIx (.fls xs) (.int i) Q = ∃ d, atI xs i = some d ∧ Q d := rfl
@[simp] theorem oIx_t : oIx (.tup xs) (.int i) Q = ∃ d, atI xs i = some d ∧ Q d := rfl
@[simp] theorem oIx_s : oIx (.str x) (.int i) Q = (x.length ≤ sizeLine ∧ ∃ c, atI x.cps.toList i = some c ∧ Q (.str ⟨#[c]⟩)) := rfl
@[simp] theorem oSl_l {lo hi : Option Int} : oSl (.lst xs) lo hi Q = Q (.lst (cutD xs lo hi)) := rfl
@[simp] theorem oSl_f {lo hi : Option Int} : oSl (.fls xs) lo hi Q = Q (.lst (cutD xs lo hi)) := rfl
@[simp] theorem oSl_t {lo hi : Option Int} : oSl (.tup xs) lo hi Q = Q (.tup (cutD xs lo hi)) := rfl
@[simp] theorem oLen_l : oLen [.lst xs] Q = Q (.int xs.length) := rfl
@[simp] theorem oLen_f : oLen [.fls xs] Q = Q (.int xs.length) := rfl
@[simp] theorem oLen_t : oLen [.tup xs] Q = Q (.int xs.length) := rfl
@[simp] theorem oLen_s : oLen [.str x] Q = (x.length ≤ sizeLine ∧ Q (.int x.length)) := rfl
@[simp] theorem oInt_i : oInt [.int i] Q = Q (.int i) := rfl
@[simp] theorem oInt_b : oInt [.bl t] Q = Q (.int (if t = true then 1 else 0)) := rfl
@[simp] theorem oAbs_i : oAbs [.int i] Q = Q (.int (if i < 0 then -i else i)) := rfl
@[simp] theorem oList_l : oList [.lst xs] Q = Q (.lst xs) := rfl
@[simp] theorem oList_t : oList [.tup xs] Q = Q (.lst xs) := rfl
@[simp] theorem oTuple_l : oTuple [.lst xs] Q = Q (.tup xs) := rfl
@[simp] theorem oTuple_t : oTuple [.tup xs] Q = Q (.tup xs) := rfl
@[simp] theorem tru_b : D.tru (.bl t) = some t := rfl
@[simp] theorem tru_l : D.tru (.lst xs) = some (!xs.isEmpty) := rfl
@[simp] theorem tru_t : D.tru (.tup xs) = some (!xs.isEmpty) := rfl
@[simp] theorem tru_i : D.tru (.int i) = some (i != 0) := rfl
@[simp] theorem seq_l : D.seq (.lst xs) = some xs := rfl
@[simp] theorem seq_f : D.seq (.fls xs) = some xs := rfl
@[simp] theorem seq_t : D.seq (.tup xs) = some xs := rfl
end
theorem oAll_b {bs : List Bool} {ds : List D} {Q : D → Prop} (e : ds = bs.map .bl) (q : Q (.bl (bs.all id))) : oAll [.lst ds] Q := ⟨bs, by rw [e], q⟩
theorem oAny_b {bs : List Bool} {ds : List D} {Q : D → Prop} (e : ds = bs.map .bl) (q : Q (.bl (bs.any id))) : oAny [.lst ds] Q := ⟨bs, by rw [e], q⟩

/-- a for by an invariant: the turn's end is a letter, N -/
theorem for_inv {g : Wg} {b : Ws} {Z : Pd} (items : List D) (Pv : Nat → Evn → Prop)
    (hs : ∀ (i : Nat) (x : D) (ρ : Evn) (N : Evn → Prop), items[i]? = some x → Pv i ρ → (∀ ρ', Pv (i + 1) ρ' → N ρ') → g x ρ fun ρ' => b { Z with nx := N, ct := N, bk := Z.nx } ρ') (hd : ∀ ρ, Pv items.length ρ → Z.nx ρ) {ρ : Evn} (h0 : Pv 0 ρ) : forW g b Z items ρ := by
  have go : ∀ (l : List D) (i : Nat) (ρ : Evn), items.drop i = l → i ≤ items.length → Pv i ρ → forW g b Z l ρ := by
    intro l
    induction l with
    | nil =>
      intro i ρ e hi p
      have : items.length ≤ i := List.drop_eq_nil_iff.mp e
      have e2 : i = items.length := by omega
      subst e2
      exact hd ρ p
    | cons x l ih =>
      intro i ρ e hi p
      have hx : items[i]? = some x := by
        have := congrArg (fun l => l[0]?) e
        simpa using this
      have hlt : i < items.length := (List.getElem?_eq_some_iff.mp hx).1
      refine hs i x ρ _ hx p fun ρ' p' => ih (i + 1) ρ' ?_ hlt p'
      rw [← List.drop_drop, e]; rfl
  exact go items 0 ρ rfl (Nat.zero_le _) h0
/-- .. over a range -/
theorem for_rng {g : Wg} {b : Ws} {Z : Pd} {lo : Int} {n : Nat} (Pv : Nat → Evn → Prop)
    (hs : ∀ (i : Nat) (ρ : Evn) (N : Evn → Prop), i < n → Pv i ρ → (∀ ρ', Pv (i + 1) ρ' → N ρ') → g (.int (lo + (i : Nat))) ρ fun ρ' => b { Z with nx := N, ct := N, bk := Z.nx } ρ') (hd : ∀ ρ, Pv n ρ → Z.nx ρ) {ρ : Evn} (h0 : Pv 0 ρ) : forW g b Z (rngD lo n) ρ := by
  have hl : (rngD lo n).length = n := by simp [rngD]
  refine for_inv _ Pv (fun i x ρ N hx p hn => ?_) (by rw [hl]; exact hd) h0
  have hi : i < n := by rw [← hl]; exact (List.getElem?_eq_some_iff.mp hx).1
  have e : (rngD lo n)[i]? = some (.int (lo + (i : Nat))) := by simp [rngD, hi]
  rw [e] at hx
  cases hx
  exact hs i ρ N hi p hn
/-- a comprehension, item by item: kept those with p, each as f says -/
theorem lc_fm {g : Wg} {tt : Wt} {we : Wx} {ρ : Evn} {Q : List D → Prop} {items : List D} (p : D → Bool) (f : D → D)
    (h : ∀ x ∈ items, ∀ (k1 : D → Prop) (k2 : Prop), (p x = true → k1 (f x)) → (p x = false → k2) → g x ρ fun ρ' => tt xcNo ρ' fun t => if t = true then we xcNo ρ' k1 else k2)
    (hz : items.length ≤ sizeLine) (q : Q ((items.filter p).map f)) : lcW g tt we ρ Q items [] := by
  have go : ∀ (l : List D) (acc : List D), (∀ x ∈ l, x ∈ items) → acc.length + l.length ≤ sizeLine → Q (acc ++ (l.filter p).map f) → lcW g tt we ρ Q l acc := by
    intro l
    induction l with
    | nil => intro acc _ _ q; simpa [lcW] using q
    | cons x l ih =>
      intro acc hm hl q
      simp only [List.length_cons] at hl
      refine h x (hm x (by simp)) _ _ (fun hp => ⟨by omega, ih _ (fun y hy => hm y (by simp [hy])) (by simp; omega) ?_⟩) fun hp => ih _ (fun y hy => hm y (by simp [hy])) (by omega) ?_
      · simpa [List.filter_cons, hp] using q
      · simpa [List.filter_cons, hp] using q
  exact go items [] (fun _ h => h) (by simpa using hz) (by simpa using q)
/-- a comprehension without a test -/
theorem lc_map {g : Wg} {we : Wx} {ρ : Evn} {Q : List D → Prop} {items : List D} (f : D → D)
    (h : ∀ x ∈ items, ∀ (k1 : D → Prop), k1 (f x) → g x ρ fun ρ' => we xcNo ρ' k1) (hz : items.length ≤ sizeLine) (q : Q (items.map f)) : lcW g wtYes we ρ Q items [] :=
  lc_fm (fun _ => true) f (fun x hx k1 k2 h1 _ => by
    have := h x hx (fun y => k1 y) (h1 rfl)
    simpa [wtYes] using this) hz (by rw [List.filter_eq_self.mpr (fun _ _ => rfl)]; exact q)
end Tw

/-! Tw, part O: calls with objects of one's own lent, extend, index, zip of any two, a tuple turned round. -/
namespace Tw
open PySem PySem.Spec L2 PyProof.Rows
section
variable {X : Cx} {K : PySem.W.Frag} {E : XK} {e a b c o : Expr} {es : List Expr} {w wa wb wc : Wx} {k ka kb : Kd} {pos p : Pos} {u : Wa} {st : Stmt} {rest body : List Stmt} {s s1 s2 : Ws}
theorem rvs_lend {G H : Hp} (g : Same G H) : ∀ {ds : List D} {vs : List V}, RvOs K G H ds vs → ∃ G', Same G G' ∧ Same G' H ∧ Rps K G' ds vs
  | _, _, .nil => ⟨G, Same.refl _, g, .nil⟩
  | _, _, .cons h r => by
    obtain ⟨G1, s1, s2, r1⟩ := rvs_lend g r
    rcases h with h | ⟨p, o, rfl, e2, t⟩
    · exact ⟨G1, s1, s2, .cons (h.mono s1) r1⟩
    · have sg : Same G1 (fun b => if b = p then some o else G1 b) := fun b u e => by
        show (if b = p then some o else G1 b) = some u
        by_cases z : b = p
        · subst z; rw [if_pos rfl, ← e2]; exact s2 _ _ e
        · rw [if_neg z]; exact e
      refine ⟨fun b => if b = p then some o else G1 b, s1.trans sg, fun b u e => ?_, .cons (Top.rp (t.mono (s1.trans sg)) (if_pos rfl)) (r1.mono sg)⟩
      by_cases z : b = p
      · subst z
        have e' : some o = some u := (if_pos rfl).symm.trans e
        rw [← e']; exact e2
      · exact s2 _ _ ((if_neg z).symm.trans e)
def D.scal : D → Bool
  | .non => true | .bl _ => true | .int _ => true | .str _ => true
  | _ => false
theorem rp_scal {G G' : Hp} {d : D} {v : V} (h : Rp K G d v) (s : d.scal = true) : Rp K G' d v := by
  cases h with
  | non => exact .non
  | bl b => exact .bl b
  | int b => exact .int b
  | str b => exact .str b
  | _ => cases s
/-- a call that is lent objects of one's own: it hands back nothing but a plain value -/
def wCallS (wf : Wf) (u : Wa) : Wx := fun xc ρ Q => u xc ρ fun ds => wf xcNo ds fun _ d => d.scal = true ∧ Q d
theorem ej_callS {wf : Wf} {n : Nat} (m : MoF wf) (h : AJ false E X es u) (hpe : PE X e (tCall (spOf X.K n wf) [] E (liftA X.K E false u))) (hn : ∀ ds xc Q, wf xc ds Q → ds.length = n) : EJ .e E X e (wCallS wf u) := by
  refine ⟨hpe.imp fun σ H Q ⟨G0, H0, G, ρ, xc, R, T, q⟩ => ⟨G0, H0, G, ρ, xc, R, T, h.mo _ _ _ _ (fun ds q1 G1 H1 vs x1 r1 => ?_) q⟩, fun xc ρ Q Q' i q => h.mo _ _ _ _ (fun ds q => m _ _ _ _ (fun fr d q => ⟨q.1, i _ q.2⟩) q) q⟩
  rw [if_neg Bool.false_ne_true] at r1
  obtain ⟨G2, g1, g2, r2⟩ := rvs_lend x1.gh r1
  refine ⟨by rw [List.append_nil, ← r2.length]; exact hn _ _ _ q1, G2, ds, xcNo, g2, by rw [List.append_nil]; exact r2, tieNo, m _ _ _ _ (fun fr d ⟨sc, q2⟩ G' H' v x2 r3 => ?_) q1⟩
  have xe : Ext G1 H1 G1 H' := ⟨Same.refl _, x2.hh, (g1.trans x2.gg).trans x2.gh, fun _ _ q => q⟩
  refine q2 G1 H' v (x1.trans xe) ?_
  cases fr with
  | false => exact rp_scal (show Rp X.K G' d v from r3) sc
  | true =>
    obtain ⟨p, o, _, _, _, t, _⟩ := r3
    exfalso
    cases d <;> simp only [D.scal, Bool.false_eq_true] at sc <;> cases o <;> exact t
theorem ej_fnS {x : Str} {n j : Nat} {wf : Wf} (F : Def X.prog X.w X.K X.mg X.base x n j wf) (hr : Room j X.A) (hg : Gl X x) (hx : Passes (L2.CX X.prog X.w) X E) (ha : AJ false E X (e :: es) u)
    (hdb : (x == ("__debug__" : Str)) = false := by decide) (he : starEach (e :: es) X.env = (false, eval e X.env) :: starEach es X.env := by rfl) (hpl : (backTo pos (starEach es X.env)).any (·.1) = false := by rfl) :
    EJ .e E X (.Call (.Name x p) (e :: es) [] pos) (wCallS wf u) := by
  obtain ⟨f, fd, ps, Fo, hm, kp, b⟩ := F.ex
  exact ej_callS F.mo ha (pe_call Fo hr hg hm kp b .nil hx ha.pa hdb he hpl) F.hn

/-! ### xs.extend(ys), xs.pop(n) -/
def sExt (i : Nat) (w : Wx) : Ws := fun Z ρ => ∃ ds, ρ[i]? = some (.ow (.lst ds)) ∧ w Z.xc ρ fun d => ∃ es, d = .lst es ∧ ds.length + es.length ≤ sizeLine ∧ Z.nx (ρ.set i (.ow (.lst (ds ++ es))))
theorem sj_ext {i : Nat} (he : EJ k E X e w) (h : PS X st (tDrop (tBM X.K "list" rExtend (tVar i) (tCons (liftW X.K E k w) tNil)))) : SJ E X st (sExt i w) :=
  ⟨h.imp fun D' σ H ⟨G0, H0, G, ρ, Z, R, T, ds, hi, q⟩ => by
    obtain ⟨l, vs, e1, e2, r⟩ := own_lst R hi
    refine ⟨_, e1, .inl ⟨rfl, vs, SqL.of e2⟩, G0, H0, G, ρ, Z.xc, R, T.xc, he.mo _ _ _ _ (fun d ⟨es, ed, z, q1⟩ G1 H1 v x1 r1 => ?_) q⟩
    subst ed
    obtain ⟨b, ws, rfl, hb, r2⟩ := rvO_lst x1.gh r1.o
    refine ⟨l, b, vs, ws, rfl, rfl, x1.hh _ _ e2, hb, by rw [← r.length, ← r2.length]; exact z, ?_⟩
    exact T.nx _ _ _ _ ((R.ext x1).chg hi e1 (show Top X.K G1 (.lst (ds ++ es)) (.lst (vs ++ ws)) from (r.mono x1.gg).append r2)) x1.gg q1⟩
theorem sj_extend {apos cpos : Pos} {i : Nat} {n : Expr} (hv : PE X n (tVar i)) (he : EJ k E X e w)
    (h1 : attributeBase n "extend" X.env (eval n X.env) = eval n X.env := by rfl) (h2 : ((backTo cpos (starEach [e] X.env)).all (fun x => !x.1) && (backToKw cpos (keywordEach [] X.env)).all (fun x => x.1.isSome) && decide ([e].length + ([] : List Keyword).length + (if ([] : List Keyword).isEmpty = true then 0 else 1) < 30)) = true := by rfl)
    (h3 : (apos.endLine == cpos.line) = true := by rfl) (hst : starEach [e] X.env = (false, eval e X.env) :: starEach [] X.env := by rfl) (hs : swapsWith (.Call (.Attribute n "extend" apos) [e] [] cpos) none pos.line X.env = pure false := by rfl) :
    SJ E X (.Expr (.Call (.Attribute n "extend" apos) [e] [] cpos) pos) (sExt i w) :=
  sj_ext he (ps_expr (pe_bm PySem.F.plainAttrs_list PySem.F.slot_list_extend PySem.F.type_list_extend mt_extend hv (pa_cons he.pe pa_nil hst) h1 h2 h3 hst rfl) hs)
theorem sj_popAtS {apos cpos : Pos} {i : Nat} {n : Expr} (hv : PE X n (tVar i)) (he : EJ k E X e w)
    (h1 : attributeBase n "pop" X.env (eval n X.env) = eval n X.env := by rfl) (h2 : ((backTo cpos (starEach [e] X.env)).all (fun x => !x.1) && (backToKw cpos (keywordEach [] X.env)).all (fun x => x.1.isSome) && decide ([e].length + ([] : List Keyword).length + (if ([] : List Keyword).isEmpty = true then 0 else 1) < 30)) = true := by rfl)
    (h3 : (apos.endLine == cpos.line) = true := by rfl) (hst : starEach [e] X.env = (false, eval e X.env) :: starEach [] X.env := by rfl) (hs : swapsWith (.Call (.Attribute n "pop" apos) [e] [] cpos) none pos.line X.env = pure false := by rfl) :
    SJ E X (.Expr (.Call (.Attribute n "pop" apos) [e] [] cpos) pos) (sPopAt i w) :=
  sj_popAt he (ps_expr (pe_bm PySem.F.plainAttrs_list PySem.F.slot_list_pop PySem.F.type_list_pop mt_popAt hv (pa_cons he.pe pa_nil hst) h1 h2 h3 hst rfl) hs)

/-! ### xs.index(y) of a list -/
def idxD (x : D) : List D → Option Nat
  | [] => none
  | y :: ys => if PyData.eqv y.py x.py = true then some 0 else (idxD x ys).map (· + 1)
def wIdx (wo w : Wx) : Wx := fun xc ρ Q => wo xc ρ fun d => ∃ ys, (d = .lst ys ∨ d = .fls ys) ∧ w xc ρ fun x => ∃ j, (D.lst ys).ok ∧ x.ok ∧ idxD x ys = some j ∧ Q (.int j)
theorem idxD_ok {x : D} : ∀ {ys : List D} {j : Nat}, idxD x ys = some j → ∃ z, (D.pys ys)[j]? = some z ∧ PyData.eqv z x.py = true ∧ ∀ (m : Nat) (z' : PyData), m < j → (D.pys ys)[m]? = some z' → PyData.eqv z' x.py = false
  | [], j, h => by cases h
  | y :: ys, j, h => by
    unfold idxD at h
    rw [D.pys]
    by_cases e : PyData.eqv y.py x.py = true
    · rw [if_pos e] at h
      cases h
      exact ⟨_, rfl, e, fun m z' hm _ => by omega⟩
    · rw [if_neg e] at h
      cases q : idxD x ys with
      | none => rw [q] at h; cases h
      | some i =>
        rw [q] at h
        cases h
        obtain ⟨z, h1, h2, h3⟩ := idxD_ok q
        refine ⟨z, h1, h2, fun m z' hm hz => ?_⟩
        cases m with
        | zero =>
          have hz' : some y.py = some z' := hz
          rw [← Option.some.inj hz']
          exact Bool.eq_false_iff.mpr e
        | succ m => exact h3 m z' (Nat.lt_of_succ_lt_succ hm) hz
theorem ej_idx {apos cpos : Pos} (hu : X.A.units + 65 < cLine) (ho : EJ .e E X o wa) (he : EJ k E X e w)
    (h1 : attributeBase o "index" X.env (eval o X.env) = eval o X.env := by rfl) (h2 : ((backTo cpos (starEach [e] X.env)).all (fun x => !x.1) && (backToKw cpos (keywordEach [] X.env)).all (fun x => x.1.isSome) && decide ([e].length + ([] : List Keyword).length + (if ([] : List Keyword).isEmpty = true then 0 else 1) < 30)) = true := by rfl)
    (h3 : (apos.endLine == cpos.line) = true := by rfl) (hst : starEach [e] X.env = (false, eval e X.env) :: starEach [] X.env := by rfl) :
    EJ .e E X (.Call (.Attribute o "index" apos) [e] [] cpos) (wIdx wa w) := by
  refine ⟨(pe_bm PySem.F.plainAttrs_list PySem.F.slot_list_index PySem.F.type_list_index (mt_indexD hu) ho.pe (pa_cons he.pe pa_nil hst) h1 h2 h3 hst rfl).imp fun σ H Q ⟨G0, H0, G, ρ, xc, R, T, q⟩ => ⟨G0, H0, G, ρ, xc, R, T, ho.mo _ _ _ _ (fun d ⟨ys, ed, q1⟩ G1 H1 v x1 r1 => ?_) q⟩,
    fun xc ρ Q Q' i q => ho.mo _ _ _ _ (fun d ⟨ys, ed, q⟩ => ⟨ys, ed, he.mo _ _ _ _ (fun x ⟨j, a, b, c, q⟩ => ⟨j, a, b, c, i _ q⟩) q⟩) q⟩
  have hq : ∃ p vs, v = .ref p ∧ SqL X.K G1 p vs ∧ Rps X.K G1 ys vs := by
    rcases ed with rfl | rfl
    · cases r1 with | lst h r => exact ⟨_, _, rfl, SqL.of h, r⟩
    · cases r1 with | fls h r => exact ⟨_, _, rfl, h, r⟩
  obtain ⟨p, vs, rfl, hs, rs⟩ := hq
  refine ⟨.inl ⟨rfl, vs, x1.gh.seq hs⟩, G0, H0, G1, ρ, xc, R.ext x1, T, he.mo _ _ _ _ (fun x ⟨j, oy, ox, hj, q2⟩ G2 H2 v2 x2 r2 => ?_) q1⟩
  obtain ⟨z, z1, z2, z3⟩ := idxD_ok hj
  have hd : Dp X.K H2 (.ref p) (.list (D.pys ys)) := by
    have h : Rp X.K G1 (.fls ys) (.ref p) := Rp.fls hs rs
    have h2 := (RvO.dp (G := G2) x2.gh (.inl (Rp.mono x2.gg h)) oy.1 : Dp X.K H2 (.ref p) (D.fls ys).py)
    rw [D.py] at h2
    exact h2
  refine ⟨p, v2, x.py, D.pys ys, j, z, rfl, rfl, hd, RvO.dp x2.gh r2.o ox.1, ?_, ox.2, z1, z2, z3, q2 G2 H2 _ (x1.trans x2) (.int _)⟩
  have := oy.2
  rw [D.py] at this
  exact this
end
end Tw

/-! Tw, part P: a tuple turned round; tuple(xs) that knows its class; index in it; zip of any two. -/
namespace Tw
open PySem PySem.Spec L2 PyProof.Rows
section
open PySem.Builtin
variable {prog : Program} {w : World} {A : Around} {E : Value → Shared → Prop} {s : Shared}
theorem turn_adj (n : Nat) : Builtin.Slice.sliceAdjust none none (-1) (n : Int) = ((n : Int) - 1, -1) := by
  unfold Builtin.Slice.sliceAdjust
  have h1 : ((-1 : Int) < 0) := by decide
  simp only [h1, if_true]
theorem turn_places (n : Nat) : Builtin.Slice.slicePlaces ((n : Int) - 1) (-1) (-1) = n := by
  unfold Builtin.Slice.slicePlaces
  have h1 : ¬ ((-1 : Int) > 0) := by decide
  have e2 : (-(-1) : Int) = 1 := by decide
  simp only [h1, if_false, e2, Int.ediv_one]
  split <;> omega
theorem turn_pick (xs : Array Value) : ((List.range xs.size).filterMap fun (k : Nat) => xs[(((xs.size : Int) - 1) + (k : Int) * (-1)).toNat]?).toArray = xs.toList.reverse.toArray := by
  congr 1
  apply List.ext_getElem?
  intro i
  have e : (List.range xs.size).filterMap (fun (k : Nat) => xs[(((xs.size : Int) - 1) + (k : Int) * (-1)).toNat]?) = (List.range xs.size).map fun k => xs.getD (xs.size - 1 - k) Value.none := by
    have go : ∀ l : List Nat, (∀ k ∈ l, k < xs.size) → l.filterMap (fun (k : Nat) => xs[(((xs.size : Int) - 1) + (k : Int) * (-1)).toNat]?) = l.map fun k => xs.getD (xs.size - 1 - k) Value.none := by
      intro l
      induction l with
      | nil => intro _; rfl
      | cons k l ih =>
        intro h
        have hk' := h k (by simp)
        have e1 : (((xs.size : Int) - 1) + (k : Int) * (-1)).toNat = xs.size - 1 - k := by omega
        have hlt : xs.size - 1 - k < xs.size := by omega
        rw [List.filterMap_cons, List.map_cons, ih fun k hk => h k (by simp [hk]), e1]
        simp [hlt]
    exact go _ fun k hk => List.mem_range.mp hk
  rw [e]
  by_cases hi : i < xs.size
  · have h2 : i < xs.toList.length := by simpa using hi
    rw [List.getElem?_map, List.getElem?_range hi, List.getElem?_reverse h2]
    have hlt : xs.size - 1 - i < xs.size := by omega
    simp [hlt]
  · rw [List.getElem?_eq_none (by simp; omega), List.getElem?_eq_none (by simp; omega)]
theorem turn_applied {sl : Addr} {vl vu vs : Value} {n : Nat} {Q : Int × Int × Nat → Shared → Prop} (hs : s.heap.IsSliceOf sl vl vu vs) (pl : IsPart vl none) (pu : IsPart vu none) (ps : IsPart vs (some (-1)))
    (h : Q ((n : Int) - 1, -1, n) s) : wpAny (model prog w) A (Builtin.Slice.sliceApplied (.ref sl) (pure (n : Int))) Q E s := by
  obtain ⟨os, hos, hcs, hds⟩ := id hs
  unfold Builtin.Slice.sliceApplied Builtin.Slice.sliceFields
  refine wpAny_bind (wpAny_bind (wpAny_field hos hds (x := vl) rfl (wpAny_bind (wpAny_field hos hds (x := vu) rfl (wpAny_bind (wpAny_field hos hds (x := vs) rfl (wpAny_pure ?_)))))))
  refine wpAny_bind (HT.slicePart_ ps ?_)
  show wpAny _ _ (if ((-1 : Int) == 0) = true then _ else _) _ _ s
  rw [if_neg (by decide)]
  refine wpAny_bind (HT.slicePart_ pl (wpAny_bind (HT.slicePart_ pu (wpAny_bind (wpAny_pure ?_)))))
  show wpAny _ _ (match Builtin.Slice.sliceAdjust none none (-1) (n : Int) with | (lo, hi) => pure (lo, (-1 : Int), Builtin.Slice.slicePlaces lo hi (-1))) _ _ s
  rw [turn_adj n]
  show wpAny _ _ (pure ((n : Int) - 1, (-1 : Int), Builtin.Slice.slicePlaces ((n : Int) - 1) (-1) (-1))) _ _ s
  rw [turn_places]
  exact wpAny_pure h
theorem getItem_tuple_turn {t sl : Addr} {items : Array Value} {vl vu vs : Value} {Q : Value → Shared → Prop} (ht : IsTup s.heap t items) (hs : s.heap.IsSliceOf sl vl vu vs) (pl : IsPart vl none) (pu : IsPart vu none) (ps : IsPart vs (some (-1)))
    (h : Q (.ref s.heap.objs.size) { s with heap := s.heap.push { cls := .type "tuple", data := .seq items.toList.reverse.toArray } })
    (hsz : items.size ≤ sizeLine) : wpAny (model prog w) A (getItem (.ref t) (.ref sl)) Q E s := by
  have htake : sizeOk (.seq items.toList.reverse.toArray) := by
    show items.toList.reverse.toArray.size ≤ sizeLine
    rw [List.size_toArray, List.length_reverse, Array.length_toList]
    omega
  obtain ⟨os, hos, hcs, hds⟩ := id hs
  have hTs : s.TypeIs (.ref sl) "slice" := ⟨os, hos, hcs⟩
  unfold getItem
  try with_reducible refine wpAny_holding ?_
  first | refine wpAny_bind (wpAny_pure ?_) | skip
  refine wpAny_bind (wpAny_sequenceKey ht.typeIs (by decide) ?_)
  refine wpAny_bind (wpAny_callSpecial?_slot (name := Str.ofString "__getitem__") ht.typeIs PyProof.Rows.slot_tuple_getitem
    (wpAny_call_entry PyProof.Rows.slot_tuple_getitem ht.typeIs entry_tuple_getitem ?_ (args_tuple_getitem _ _)))
  show wpAny _ _ (Builtin.Tuple.tupleItemsOf (.ref t) >>= _) _ _ s
  refine wpAny_bind (tupleItemsOf_ ht ?_)
  refine wpAny_bind (wpAny_typeOf hTs ?_)
  rw [if_pos (by decide)]
  refine wpAny_bind (turn_applied hs pl pu ps ?_)
  have hno : ¬ ((((items.size : Int) - 1) == 0 && (-1 : Int) == 1 && items.size == items.size) = true) := by
    intro q
    rw [Bool.and_eq_true, Bool.and_eq_true] at q
    exact absurd (eq_of_beq q.1.2) (by decide)
  show wpAny _ _ (if (((items.size : Int) - 1) == 0 && (-1 : Int) == 1 && items.size == items.size) = true then _ else _) _ _ s
  rw [if_neg hno, turn_pick]
  first
    | exact wpAny_bind (m := Builtin.Tuple.tupleExact _) (wpAny_newObj_type (wpAny_pure ⟨_, rfl, wpAny_pure h⟩) htake)
    | exact wpAny_bind (m := Builtin.Tuple.tupleExact _) (wpAny_newObj_type (wpAny_bind (wpAny_pure (wpAny_pure ⟨_, rfl, wpAny_pure h⟩))) htake)
    | exact wpAny_bind (wpAny_bind (m := Builtin.Tuple.tupleExact _) (wpAny_newObj_type (wpAny_pure (wpAny_pure ⟨_, rfl, wpAny_pure h⟩)) htake))
    | exact wpAny_bind (wpAny_bind (m := Builtin.Tuple.tupleExact _) (wpAny_newObj_type (wpAny_pure ⟨_, rfl, wpAny_pure h⟩) htake))
end
section
variable {X : Cx} {K : PySem.W.Frag} {E : XK} {e a b c o : Expr} {es : List Expr} {w wa wb wc : Wx} {k ka kb : Kd} {pos p : Pos} {u : Wa} {st : Stmt} {rest body : List Stmt} {s s1 s2 : Ws}
def tTurnT (K : PySem.W.Frag) (te : TE) : TE := fun σ H Q => te σ H fun x H1 => ∃ a xs, x = .ref a ∧ SqT K H1 a xs ∧ ∀ p, H1 p = none → Q (.ref p) (upd H1 p (.tup xs.reverse))
theorem pe_turnT {e : Expr} {te : TE} {k : Nat} {p1 p2 p3 pos : Pos} (he : PE X e te) : PE X (.Subscript e (.Slice none none (some (.UnaryOp .USub (.Constant (.int 1) k p1) p2)) p3) pos) (tTurnT X.K te) := by
  refine ⟨fun pins s σ H Q I h => ?_⟩
  refine Subscript_ (thn (he.run pins s σ H _ I h) fun v s1 ⟨x, H1, I1, r1, q1⟩ => ?_)
  obtain ⟨a, xs, ex, hx, q⟩ := q1
  subst ex
  cases r1
  have hst : PO X (some (.UnaryOp .USub (.Constant (.int 1) k p1) p2)) (tPart (tUn (rU fun i => .int (-i)) (tC (.int 1)))) := po_some (pe_un un_neg pe_int)
  refine wpAny_Slice (thn (po_none.run pins s1 σ H1 (fun o H2 => o = none ∧ H2 = H1) I1 ⟨rfl, rfl⟩) fun vl s2 ⟨l, H2, I2, pl, el, e2⟩ => ?_)
  subst el e2
  refine thn (po_none.run pins s2 σ H2 (fun o H3 => o = none ∧ H3 = H2) I2 ⟨rfl, rfl⟩) fun vu s3 ⟨u, H3, I3, pu, eu, e3⟩ => ?_
  subst eu e3
  refine thn (hst.run pins s3 σ H3 (fun o H4 => o = some (-1) ∧ H4 = H3) I3 ⟨1, rfl, -1, rfl, rfl, rfl⟩) fun vs s4 ⟨o, H4, I4, ps, eo, e4⟩ => ?_
  subst eo e4
  have I5 : Inv X pins σ H4 { s4 with heap := s4.heap.push { cls := .type "slice", data := .fields #[vl, vu, vs] } } := I4.kept (t' := s4.toks) fun b ob q => Heap.get?_push_of_some _ q
  obtain ⟨its, r, ht, hz⟩ := I5.tuple hx
  have hlen := r.length
  show wpAny (model X.prog X.w) X.A (subscriptTail e (.Slice none none (some (.UnaryOp .USub (.Constant (.int 1) k p1) p2)) p3) (.ref a) (.ref s4.heap.objs.size)) (EP X pins σ Q) X.xe { s4 with heap := s4.heap.push { cls := .type "slice", data := .fields #[vl, vu, vs] } }
  refine tail_any (ops := [.ref a, .ref s4.heap.objs.size]) ht.typeIs (PyProof.Rows.slot_tuple_getitem.lookup) ?_ (by with_unfolding_all rfl)
  refine getItem_tuple_turn ht (Heap.IsSliceOf.new _ vl vu vs) pl pu ps ?_ (by rw [List.size_toArray]; omega)
  refine ⟨.ref _, _, I5.laid (t' := s4.toks) (o := .tup xs.reverse) (fun b ob q => Heap.get?_push_of_some _ q) (Nat.le_refl _) ?_, rfl, q _ (I5.hok.fresh (Nat.le_refl _))⟩
  exact ⟨by rw [List.length_reverse]; exact hz, _, r.reverse, IsTup.new _ _⟩
def wTurn (w : Wx) : Wx := fun xc ρ Q => w xc ρ fun d => ∃ xs, (d = .tup xs ∨ d = .xtp xs) ∧ Q (.tup xs.reverse)
theorem ej_turn {kk : Nat} {p1 p2 p3 : Pos} (he : EJ .e E X e w) : EJ .e E X (.Subscript e (.Slice none none (some (.UnaryOp .USub (.Constant (.int 1) kk p1) p2)) p3) pos) (wTurn w) := by
  refine ⟨(pe_turnT he.pe).imp fun σ H Q ⟨G0, H0, G, ρ, xc, R, T, q⟩ => ⟨G0, H0, G, ρ, xc, R, T, he.mo _ _ _ _ (fun d ⟨xs, ed, q1⟩ G1 H1 v x1 r1 => ?_) q⟩, fun xc ρ Q Q' i q => he.mo _ _ _ _ (fun d ⟨xs, ed, q⟩ => ⟨xs, ed, i _ q⟩) q⟩
  have hq : ∃ p vs, v = .ref p ∧ SqT X.K G1 p vs ∧ Rps X.K G1 xs vs := by
    rcases ed with rfl | rfl
    · cases r1 with | tup h r => exact ⟨_, _, rfl, h, r⟩
    · cases r1 with | xtp h _ _ r => exact ⟨_, _, rfl, .inl (.inr ⟨_, h⟩), r⟩
  obtain ⟨p, vs, rfl, h, r⟩ := hq
  refine ⟨p, vs, rfl, sqT_mono x1.gh h, fun l hl => ?_⟩
  have x2 := Ext.new (o := .tup vs.reverse) x1.gh hl
  exact q1 _ _ _ (x1.trans x2) (Rp.tup (SqT.of upd_same) (r.rev.mono x2.gg))

/-! ### tuple(xs), its class known -/
theorem call_tupleX : CallR X (.type "tuple") (fun xs H Q => ∃ p ys, xs = [.ref p] ∧ SqL X.K H p ys ∧ ∀ l (o : Obj), H l = none → o.cls = .type "tuple" → o.dict = none → Q (.ref l) (upd H l (.frz o (.tup ys)))) := by
  intro pins s σ H xs us Q I r h
  obtain ⟨p, ys, rfl, hq, q⟩ := h
  obtain ⟨u, rfl, rx⟩ := vals1 r
  cases rx
  obtain ⟨its, r', pl, hz⟩ := I.list hq
  have hlen := r'.length
  refine call_tuple_list pl.isList (fun h' kp => ?_) (by simp only [List.size_toArray] <;> omega)
  have I1 : Inv X pins σ H { s with heap := h' } := I.kept (t' := s.toks) kp
  have I2 : Inv X pins σ (upd H h'.objs.size (.frz { cls := .type "tuple", data := .seq its.toArray } (.tup ys))) { s with heap := h'.push { cls := .type "tuple", data := .seq its.toArray } } :=
    I1.laid (t' := s.toks) (fun b o e => Heap.get?_push_of_some _ e) (Nat.le_refl _) (show ObjOk X.prog X.w _ _ _ (.frz _ (.tup ys)) from ⟨Heap.get?_push_size _ rfl, hz, its, r', IsTup.new _ _⟩)
  exact ⟨.ref h'.objs.size, _, I2, rfl, q _ _ (I1.hok.fresh (Nat.le_refl _)) rfl rfl⟩
def wTupX (w : Wx) : Wx := fun xc ρ Q => w xc ρ fun d => ∃ xs, (d = .lst xs ∨ d = .fls xs) ∧ Q (.xtp xs)
theorem ej_tupleX (hg : Gl X "tuple") (hm : X.mg "tuple" = none) (ha : EJ k E X a w) (hst : starEach [a] X.env = (false, eval a X.env) :: starEach [] X.env := by rfl) : EJ .e E X (.Call (.Name "tuple" p) [a] [] pos) (wTupX w) := by
  have h := pe_callTy (p := p) (pos := pos) (call_tupleX (X := X)) hg hm (by decide +kernel) (pa_cons ha.pe pa_nil hst) (by decide) (by decide) hst rfl
  refine ⟨h.imp fun σ H Q ⟨G0, H0, G, ρ, xc, R, T, q⟩ => ⟨G0, H0, G, ρ, xc, R, T, ha.mo _ _ _ _ (fun d ⟨xs, ed, q1⟩ G1 H1 v x1 r1 => ?_) q⟩, fun xc ρ Q Q' i q => ha.mo _ _ _ _ (fun d ⟨xs, ed, q⟩ => ⟨xs, ed, i _ q⟩) q⟩
  have hq : ∃ p vs, v = .ref p ∧ SqL X.K H1 p vs ∧ Rps X.K G1 xs vs := by
    rcases ed with rfl | rfl
    · obtain ⟨p, vs, e, h, r⟩ := rvO_lst x1.gh r1.o
      exact ⟨p, vs, e, SqL.of h, r⟩
    · exact rvO_fls x1.gh r1.o
  obtain ⟨p, vs, rfl, h, r⟩ := hq
  refine ⟨p, vs, rfl, h, fun l o hl hc hn => ?_⟩
  have x2 := Ext.new (o := .frz o (.tup vs)) x1.gh hl
  exact q1 _ _ _ (x1.trans x2) (Rp.xtp upd_same hc hn (r.mono x2.gg))
/-- its class forgotten -/
def D.wk : D → D
  | .xtp xs => .tup xs
  | d => d
@[simp] theorem wk_x {xs : List D} : D.wk (.xtp xs) = .tup xs := rfl
@[simp] theorem wk_t {xs : List D} : D.wk (.tup xs) = .tup xs := rfl
@[simp] theorem wk_l {xs : List D} : D.wk (.lst xs) = .lst xs := rfl
@[simp] theorem wk_f {xs : List D} : D.wk (.fls xs) = .fls xs := rfl
@[simp] theorem wk_i {i : Int} : D.wk (.int i) = .int i := rfl
@[simp] theorem wk_s {z : Str} : D.wk (.str z) = .str z := rfl
@[simp] def wWk (w : Wx) : Wx := fun xc ρ Q => w xc ρ fun d => Q d.wk
theorem rp_wk {G : Hp} {d : D} {v : V} (h : Rp K G d v) : Rp K G d.wk v := by
  cases h with
  | xtp h _ _ r => exact .tup (.inl (.inr ⟨_, h⟩)) r
  | non => exact .non
  | bl b => exact .bl b
  | int b => exact .int b
  | str b => exact .str b
  | tup h r => exact .tup h r
  | lst h r => exact .lst h r
  | fls h r => exact .fls h r
  | obj h r => exact .obj h r
  | dK h r => exact .dK h r
  | dT h r => exact .dT h r
theorem ej_wk (h : EJ .e E X e w) : EJ .e E X e (wWk w) :=
  ⟨h.pe.imp fun σ H Q ⟨G0, H0, G, ρ, xc, R, T, q⟩ => ⟨G0, H0, G, ρ, xc, R, T, h.mo _ _ _ _ (fun d q1 G1 H1 v x1 r1 => q1 G1 H1 v x1 (rp_wk r1)) q⟩, fun xc ρ Q Q' i q => h.mo _ _ _ _ (fun d q => i _ q) q⟩
/-- t.index(x), t made by tuple(xs), of texts -/
def wIdxT (wo w : Wx) : Wx := fun xc ρ Q => wo xc ρ fun d => ∃ ys : List Str, d = .xtp (ys.map .str) ∧ w xc ρ fun x => ∃ (z : Str) (j : Nat), x = .str z ∧ ys[j]? = some z ∧ (∀ m, m < j → ys[m]? ≠ some z) ∧ Q (.int j)
theorem rps_strs {G : Hp} : ∀ {ys : List Str} {vs : List V}, Rps K G (ys.map .str) vs → vs = ys.map .str
  | [], _, .nil => rfl
  | y :: ys, _, .cons h r => by cases h; rw [rps_strs r]; rfl
theorem pe_bmX {o e : Expr} {es : List Expr} {to : TE} {t : TA} {name : Str} {apos cpos : Pos} {id : String} {r : V → List V → Hp → VK → Prop} (pa : PlainAttrs "tuple") (slot : Slot "tuple" name id) (hty : typeOf (.builtin id) = pure (.type "method_descriptor")) (hm : MtR X id r) (ho : PE X o to) (ha : PA X (e :: es) t)
    (hbase : attributeBase o name X.env (eval o X.env) = eval o X.env := by rfl)
    (hfew : ((backTo cpos (starEach (e :: es) X.env)).all (fun x => !x.1) && (backToKw cpos (keywordEach [] X.env)).all (fun x => x.1.isSome)
      && decide ((e :: es).length + ([] : List Keyword).length + (if ([] : List Keyword).isEmpty then 0 else 1) < 30)) = true := by rfl)
    (hline : (apos.endLine == cpos.line) = true := by rfl) (hs : starEach (e :: es) X.env = (false, eval e X.env) :: starEach es X.env := by rfl) (hplain : (backTo cpos (starEach es X.env)).any (·.1) = false := by rfl) :
    PE X (.Call (.Attribute o name apos) (e :: es) [] cpos) (fun σ H Q => to σ H fun x H1 => (∃ p ob u, x = .ref p ∧ H1 p = some (.frz ob u) ∧ ob.cls = .type "tuple" ∧ ob.dict = none) ∧ t σ H1 fun xs H2 => r x xs H2 Q) := by
  refine ⟨fun pins s σ H Q I h => ?_⟩
  refine wpAny_Call_method_late hbase hfew hline rfl (thn (ho.run pins s σ H _ I h) fun v s1 ⟨x, H1, I1, r1, ty, q1⟩ => ?_)
  obtain ⟨p, ob, u, rfl, hp, hc, hn⟩ := ty
  cases r1
  have hob := (I1.hok p _ hp).1
  refine ⟨"tuple", id, pa, slot, hty, ⟨ob, hob, hc⟩, fun a e => by cases e; exact ⟨ob, hob, hn⟩, ?_⟩
  have hA := ha.run cpos pins s1 σ H1 _ I1 q1
  rw [hs] at hA ⊢
  refine Calls.callWith_builtin (by show (false || (backTo cpos (starEach es X.env)).any (·.1)) = false; rw [hplain] <;> rfl) (Calls.evalArgs_plain ?_)
  exact thn hA fun us s2 ⟨vs, H2, I2, r2, q2⟩ => hm pins s2 σ H2 (.ref p) vs (.ref p) us Q I2 (show RelV (.ref p) (.ref p) from rfl) r2 q2
theorem ej_idxT {apos cpos : Pos} (ho : EJ .e E X o wa) (he : EJ k E X e w)
    (h1 : attributeBase o "index" X.env (eval o X.env) = eval o X.env := by rfl) (h2 : ((backTo cpos (starEach [e] X.env)).all (fun x => !x.1) && (backToKw cpos (keywordEach [] X.env)).all (fun x => x.1.isSome) && decide ([e].length + ([] : List Keyword).length + (if ([] : List Keyword).isEmpty = true then 0 else 1) < 30)) = true := by rfl)
    (h3 : (apos.endLine == cpos.line) = true := by rfl) (hst : starEach [e] X.env = (false, eval e X.env) :: starEach [] X.env := by rfl) :
    EJ .e E X (.Call (.Attribute o "index" apos) [e] [] cpos) (wIdxT wa w) := by
  refine ⟨(pe_bmX PySem.F.plainAttrs_tuple PySem.F.slot_tuple_index PySem.F.type_tuple_index mt_tup_index ho.pe (pa_cons he.pe pa_nil hst) h1 h2 h3 hst rfl).imp fun σ H Q ⟨G0, H0, G, ρ, xc, R, T, q⟩ => ⟨G0, H0, G, ρ, xc, R, T, ho.mo _ _ _ _ (fun d ⟨ys, ed, q1⟩ G1 H1 v x1 r1 => ?_) q⟩,
    fun xc ρ Q Q' i q => ho.mo _ _ _ _ (fun d ⟨ys, ed, q⟩ => ⟨ys, ed, he.mo _ _ _ _ (fun x ⟨z, j, a, b, c, q⟩ => ⟨z, j, a, b, c, i _ q⟩) q⟩) q⟩
  subst ed
  cases r1 with
  | xtp h hc hn r =>
    have ev := rps_strs r
    subst ev
    refine ⟨⟨_, _, _, rfl, x1.gh _ _ h, hc, hn⟩, G0, H0, G1, ρ, xc, R.ext x1, T, he.mo _ _ _ _ (fun x ⟨z, j, ez, h1, h2, q2⟩ G2 H2 v2 x2 r2 => ?_) q1⟩
    subst ez
    rw [rvO_str r2.o]
    exact ⟨_, ys, z, j, rfl, rfl, .inl (.inr ⟨_, x2.gh _ _ (x2.gg _ _ h)⟩), h1, h2, q2 G2 H2 _ (x1.trans x2) (.int _)⟩

/-! ### zip of two lists or two tuples -/
theorem wk_zipT {a b : Addr} {vs ws : List V} {G : Hp} {ds es : List D} (h : SqT K G a vs) (h' : SqT K G b ws) (r : Rps K G ds vs) (r' : Rps K G es ws) : Wk K (RZ.ItzT K a b) G ((ds.zip es).map fun q => .tup [q.1, q.2]) where
  stop := fun G' H' g1 g2 => ⟨vs, ws, sqT_mono (g1.trans g2) h, sqT_mono (g1.trans g2) h', by
    have := r.length; have := r'.length
    simp only [List.length_map, List.length_zip]; omega⟩
  go := fun i G' H' hi g1 g2 => by
    have l1 := r.length; have l2 := r'.length
    simp only [List.length_map, List.length_zip] at hi
    have h1 : i < vs.length := by omega
    have h2 : i < ws.length := by omega
    exact ⟨vs, ws, vs[i], ws[i], sqT_mono (g1.trans g2) h, sqT_mono (g1.trans g2) h', by simp [h1], by simp [h2]⟩
  yld := fun i G' H' x H2 hi g1 g2 ⟨t, y, z, ex, ht, eH, hy, hz⟩ => by
    subst ex eH
    obtain ⟨d, hd, rd⟩ := r.get' (hy vs (sqT_mono (g1.trans g2) h))
    obtain ⟨d', hd', rd'⟩ := r'.get' (hz ws (sqT_mono (g1.trans g2) h'))
    have x2 := Ext.new (o := .tup [y, z]) g2 ht
    refine ⟨_, .tup [d, d'], x2, ?_, .tup (SqT.of upd_same) (.cons (rd.mono (g1.trans x2.gg)) (.cons (rd'.mono (g1.trans x2.gg)) .nil))⟩
    have e2 : (ds.zip es)[i]? = some (d, d') := List.getElem?_zip_eq_some.mpr ⟨hd, hd'⟩
    rw [List.getElem?_map, e2]
    rfl
def D.isT : D → Option (List D)
  | .tup xs => some xs | .xtp xs => some xs
  | _ => none
def D.isL : D → Option (List D)
  | .lst xs => some xs | .fls xs => some xs
  | _ => none
theorem rp_isT {G : Hp} {d : D} {v : V} {xs : List D} (h : Rp K G d v) (e : d.isT = some xs) : ∃ p vs, v = .ref p ∧ SqT K G p vs ∧ Rps K G xs vs := by
  cases d with
  | tup ys => cases e; cases h with | tup h r => exact ⟨_, _, rfl, h, r⟩
  | xtp ys => cases e; cases h with | xtp h _ _ r => exact ⟨_, _, rfl, .inl (.inr ⟨_, h⟩), r⟩
  | _ => cases e
theorem rp_isL {G : Hp} {d : D} {v : V} {xs : List D} (h : Rp K G d v) (e : d.isL = some xs) : ∃ p vs, v = .ref p ∧ SqL K G p vs ∧ Rps K G xs vs := by
  cases d with
  | lst ys => cases e; cases h with | lst h r => exact ⟨_, _, rfl, SqL.of h, r⟩
  | fls ys => cases e; cases h with | fls h r => exact ⟨_, _, rfl, h, r⟩
  | _ => cases e
def wiZ (wa wb : Wx) : Wa := fun xc ρ Q => wa xc ρ fun x => wb xc ρ fun y => ∃ xs ys, ((x.isL = some xs ∧ y.isL = some ys) ∨ (x.isT = some xs ∧ y.isT = some ys)) ∧ Q ((xs.zip ys).map fun q => .tup [q.1, q.2])
theorem ij_zip {elts : List Expr} {kk : Nat} {tpos : Pos} (ha : EJ .e E X a wa) (hb : EJ .e E X b wb) (hg : Gl X "zip") (hm : X.mg "zip" = none) (hst : starEach [a, b] X.env = (false, eval a X.env) :: starEach [b] X.env := by rfl) (hst2 : starEach [b] X.env = (false, eval b X.env) :: starEach [] X.env := by rfl) (hpl : (backTo pos (starEach [b] X.env)).any (·.1) = false := by rfl) :
    IJ E X (.Tuple elts kk tpos) (.Call (.Name "zip" p) [a, b] [] pos) (wiZ wa wb) := by
  refine ⟨(RZ.pi_zipA hg hm (pa_cons ha.pe (pa_cons hb.pe pa_nil hst2) hst) hst hpl).imp fun σ H R' ⟨G0, H0, G, ρ, xc, R, T, q⟩ => ⟨G0, H0, G, ρ, xc, R, T, ha.mo _ _ _ _ (fun x q1 G1 H1 v1 x1 r1 => ?_) q⟩,
    fun xc ρ Q Q' i q => ha.mo _ _ _ _ (fun x q => hb.mo _ _ _ _ (fun y ⟨xs, ys, e, q⟩ => ⟨xs, ys, e, i _ q⟩) q) q⟩
  refine ⟨G0, H0, G1, ρ, xc, R.ext x1, T, hb.mo _ _ _ _ (fun y ⟨xs, ys, e, q2⟩ G2 H2 v2 x2 r2 => ?_) q1⟩
  have r1' : Rp X.K G2 x v1 := Rp.mono x2.gg r1
  rcases e with ⟨e1, e2⟩ | ⟨e1, e2⟩
  · obtain ⟨p1, vs, rfl, h1, m1⟩ := rp_isL r1' e1
    obtain ⟨p2, ws, rfl, h2, m2⟩ := rp_isL (show Rp X.K G2 y v2 from r2) e2
    exact ⟨p1, p2, vs, ws, rfl, .inl ⟨x2.gh.seq h1, x2.gh.seq h2, q2 G2 H2 _ (x1.trans x2) (wk_zip h1 h2 m1 m2)⟩⟩
  · obtain ⟨p1, vs, rfl, h1, m1⟩ := rp_isT r1' e1
    obtain ⟨p2, ws, rfl, h2, m2⟩ := rp_isT (show Rp X.K G2 y v2 from r2) e2
    exact ⟨p1, p2, vs, ws, rfl, .inr ⟨sqT_mono x2.gh h1, sqT_mono x2.gh h2, q2 G2 H2 _ (x1.trans x2) (wk_zipT h1 h2 m1 m2)⟩⟩
end
end Tw

/-! Tw, part Q: sorted of a list of tuples of ints, the empty one among them too. -/
namespace Tw
open PySem PySem.Spec PySem.W PySem.Calls PySem.SeqAt PyProof.Rows
section
variable {prog : Program} {w : World} {A : Around} {E : Value → Shared → Prop} {s : Shared}
theorem call_tup_lt {Q : Value → Shared → Prop} {l b : Addr} {items items2 : Array Value} {e r : Nat → Bool} (hl : s.heap.IsTuple l items) (hb : s.heap.IsTuple b items2)
    (he : ∀ j (h1 : j < items.size) (h2 : j < items2.size), EqAt A.in1 s items[j] items2[j] (e j)) (hr : ∀ j (h1 : j < items.size) (h2 : j < items2.size), e j = false → RcLt A.in1 s items[j] items2[j] (r j))
    (h : Q (.bool (firstLt e r (decide (items.size < items2.size)) (List.range (min items.size items2.size)))) s) : wpAny (model prog w) A (call (.builtin "tuple.__lt__") [.ref l, .ref b]) Q E s := by
  obtain ⟨⟨cls, dd, data, sl⟩, ho, hc, n, hd⟩ := id hl
  obtain ⟨⟨cls2, dd2, data2, sl2⟩, ho2, hc2, n2, hd2⟩ := id hb
  simp only at hc hd hc2 hd2
  subst hc hd hc2 hd2
  exact call_meets F.slot_tuple_lt ⟨_, ho, rfl⟩ F.entry_tuple_lt (F.args_tuple_lt_2 _ _) (tuple_ltAt l b items items2 n n2 dd dd2 sl sl2 e r) ⟨ho, ho2, he, hr, h⟩
/-- one tuple against another, as sorting compares -/
theorem oneLt_tup {f : Bool} {xs ys : List PyData} {a b : Value} {as bs : List Addr} {Q : Bool → Shared → Prop} (ra : Reads s.heap a (.tuple xs) as) (rb : Reads s.heap b (.tuple ys) bs) (h : alike (.tuple xs) (.tuple ys) = true)
    (hu : A.units + min (PyData.tuple xs).depth (PyData.tuple ys).depth < cLine) (hq : Q (dataLt (.tuple xs) (.tuple ys)) s) : wpAny (model prog w) A (oneLt' f a b) Q E s := by
  cases f with
  | false => exact oneLt_alike (fun z => by cases z) ra rb h (fun z => by cases z) hu hq
  | true =>
    have hal : alikeAll xs ys = true := by simpa [alike] using h
    cases ra with
    | @tuple l o vs n _ as₁ h1 h2 h3 h4 =>
      cases rb with
      | @tuple l' o' vs' n' _ bs₁ k1 k2 k3 k4 =>
        have n1 : vs.size = xs.length := by simpa using ReadsAll.length _ _ _ h4
        have n2 : vs'.size = ys.length := by simpa using ReadsAll.length _ _ _ k4
        rw [dataLt_tuple, ← firstLt_toks xs ys hal, ← n1, ← n2] at hq
        rw [oneLt'_eq]
        simp only [if_true]
        refine wpAny_bind (wpAny_cRoomFor (room_here hu) ?_)
        refine wpAny_bind (wpAny_callSpecialIfBound?_slot (T := "tuple") ⟨_, h1, h2⟩ F.slot_tuple_lt (call_tup_lt (e := pairEq xs ys) (r := fun j => dataLt (xs.getD j .none) (ys.getD j .none)) ⟨_, h1, h2, _, h3⟩ ⟨_, k1, k2, _, k3⟩ (fun j j1 j2 => ?_) (fun j j1 j2 hj => ?_) ?_))
        · have := eqAt_alikeAll xs ys A.in1 s vs.toList vs'.toList _ _ h4 k4 hal (room_in hu) j (by simpa using j1) (by simpa using j2)
          simpa using this
        · have := rcLt_alikeAll xs ys A.in1 s vs.toList vs'.toList _ _ h4 k4 hal (room_in hu) j (by simpa using j1) (by simpa using j2) hj
          simpa using this
        · exact wpAny_truthy_bool hq
theorem map_wp {α β : Type} {f : α → Sem β} : ∀ (l : List α) (g : List β) {Q : List β → Shared → Prop}, EachIs (fun a b => ∀ (Q' : β → Shared → Prop), Q' b s → wpAny (model prog w) A (f a) Q' E s) l g → Q g s → wpAny (model prog w) A (l.mapM f) Q E s
  | _, _, Q, .nil, h => by rw [List.mapM_nil]; exact wpAny_pure h
  | _, _, Q, .cons (a := x) (as := l) h1 t, h => by
    rw [List.mapM_cons]
    exact wpAny_bind (h1 _ (wpAny_bind (map_wp l _ (Q := fun bs s' => wpAny (model prog w) A (pure (_ :: bs)) Q E s') t (wpAny_pure h))))
theorem first_tup {v : Value} {d : PyData} {as : List Addr} (r : Reads s.heap v d as) (ht : ∃ xs, d = .tuple xs) : ∃ f : Option Value, (f.isSome = true → ∃ x r, d = .tuple (x :: r)) ∧ ∀ (E : Value → Shared → Prop) (Q' : Option Value → Shared → Prop), Q' f s → wpAny (model prog w) A (firstOfTuple' v) Q' E s := by
  obtain ⟨xs, rfl⟩ := ht
  cases r with
  | @tuple l o vs n _ _ h1 h2 h3 h4 =>
    refine ⟨vs[0]?, fun h => ?_, fun E Q' hq => ?_⟩
    · cases xs with
      | nil =>
        have : vs.toList = [] := by
          generalize hz : vs.toList = z at h4
          cases h4
          rfl
        have e : vs[0]? = none := by rw [← Array.getElem?_toList, this]; rfl
        rw [e] at h
        cases h
      | cons x r => exact ⟨x, r, rfl⟩
    · rw [kas_first_eq]
      refine wpAny_bind (wpAny_typeOf ⟨_, h1, h2⟩ ?_)
      rw [if_neg (by decide)]
      exact wpAny_bind (listItems_at h1 h3 (wpAny_pure hq))
theorem firsts_tup {vs : List Value} {ds : List PyData} (e : EachIs (fun v d => ∃ as, Reads s.heap v d as) vs ds) (ht : ∀ d, d ∈ ds → ∃ xs, d = .tuple xs) :
    ∃ fs : List (Option Value), (∀ E : Value → Shared → Prop, EachIs (fun a b => ∀ (Q' : Option Value → Shared → Prop), Q' b s → wpAny (model prog w) A (firstOfTuple' a) Q' E s) vs fs) ∧ ((∀ f ∈ fs, f.isSome = true) → ∀ d, d ∈ ds → ∃ x r, d = .tuple (x :: r)) := by
  induction e with
  | nil => exact ⟨[], fun _ => .nil, fun _ d hd => absurd hd (by simp)⟩
  | cons h t ih =>
    obtain ⟨as, r⟩ := h
    obtain ⟨f, h1, h2⟩ := first_tup (prog := prog) (w := w) (A := A) r (ht _ (List.mem_cons_self ..))
    obtain ⟨fs, i1, i2⟩ := ih fun d hd => ht d (List.mem_cons_of_mem _ hd)
    refine ⟨f :: fs, fun E => .cons (h2 E) (i1 E), fun ha d hd => ?_⟩
    rcases List.mem_cons.mp hd with rfl | hd
    · exact h1 (ha f (by simp))
    · exact i2 (fun g hg => ha g (by simp [hg])) d hd
theorem kind_tup {vs : List Value} {ds : List PyData} (e : EachIs (fun v d => ∃ as, Reads s.heap v d as) vs ds) (ht : ∀ d, d ∈ ds → ∃ xs, d = .tuple xs) (hn : ¬ ∀ d, d ∈ ds → ∃ x r, d = .tuple (x :: r)) :
    ∃ f : Bool, 2 ≤ vs.length → ∀ (E : Value → Shared → Prop) {Q : SortKind → Shared → Prop}, Q (if f = true then oneType' else general') s → wpAny (model prog w) A (keyKind' vs.toArray) Q E s := by
  obtain ⟨fs, e1, e2⟩ := firsts_tup (prog := prog) (w := w) (A := A) e ht
  refine ⟨!((fs.toArray[0]?.bind id).isSome), fun h2 E Q q => ?_⟩
  rw [keyKind'_eq, List.mapM_toArray, map_eq_pure_bind]
  refine wpAny_bind (wpAny_bind (map_wp _ fs (e1 E) (wpAny_pure ?_)))
  have hno : ¬ (fs.toArray.all (·.isSome) = true) := fun z => hn (e2 fun f hf => by
    rw [List.all_toArray, List.all_eq_true] at z
    exact z f hf)
  rw [if_neg hno]
  by_cases h0 : ((fs.toArray[0]?.bind id).isSome = true)
  · rw [if_pos h0]
    rw [h0] at q
    exact wpAny_pure q
  · rw [if_neg h0]
    rw [Bool.eq_false_iff.mpr h0] at q
    have hT : ∀ v ∈ vs, Looks (model prog w) s.heap (typeOf v) (.type "tuple") := fun v hv => by
      obtain ⟨d, hd, as, r⟩ := e.left v hv
      obtain ⟨xs, rfl⟩ := ht d hd
      exact looks_reads r
    obtain ⟨v₁, v₂, rest, rfl⟩ : ∃ v₁ v₂ rest, vs = v₁ :: v₂ :: rest := by
      match vs, h2 with
      | [], h2 => simp at h2
      | [_], h2 => simp at h2
      | v₁ :: v₂ :: rest, _ => exact ⟨v₁, v₂, rest, rfl⟩
    rw [oneTypeOnly'_eq, List.mapM_toArray, map_eq_pure_bind]
    refine wpAny_bind (wpAny_bind (wpAny_bind (kas_mapM (r := Value.type "tuple") _ (fun v hv Q' hq => (hT v hv).here hq) (wpAny_pure ?_))))
    have hall : ((List.map (fun _ => Value.type "tuple") (v₁ :: v₂ :: rest)).toArray.all fun x => x == Value.type "tuple") = true := by
      simp only [List.all_toArray, List.all_map, List.all_eq_true]
      intro _ _
      exact beq_self_eq_true _
    have h0 : (List.map (fun _ => Value.type "tuple") (v₁ :: v₂ :: rest)).toArray[0]? = some (Value.type "tuple") := by simp
    rw [h0]
    simp only [hall, if_true]
    exact wpAny_pure (wpAny_pure q)
/-- tuples that are alike can be sorted, the empty one among them too -/
theorem sorts_tups {vs : List Value} {ds : List PyData} (e : EachIs (fun v d => ∃ as, Reads s.heap v d as) vs ds) (hal : AllAlike ds) (ht : ∀ d, d ∈ ds → ∃ xs, d = .tuple xs) (hu : ∀ d, d ∈ ds → A.units + d.depth < cLine) : SortsAt prog w A s (dataKind s.heap ds) vs := by
  by_cases hk : ∀ d, d ∈ ds → ∃ x r, d = .tuple (x :: r)
  · exact SortsAt.data e hal (.inl hk) hu
  · have room : ∀ {d d' : PyData}, d ∈ ds → A.units + min d.depth d'.depth < cLine := fun {d d'} hd => Nat.lt_of_le_of_lt (Nat.add_le_add_left (Nat.min_le_left _ _) _) (hu d hd)
    refine ⟨fun v hv => ?_, ?_⟩
    · obtain ⟨d, hd, as, r⟩ := e.left v hv
      exact ⟨_, dataKind_some hal hd r⟩
    · obtain ⟨f, hf⟩ := kind_tup (prog := prog) (w := w) (A := A) e ht hk
      refine ⟨if f = true then oneType' else general', ?_, hf⟩
      intro E x y a b Q ha hb hq
      obtain ⟨d, as, hd, ra, rfl⟩ := dataKind_inv ha
      obtain ⟨d', as', hd', rb, rfl⟩ := dataKind_inv hb
      obtain ⟨xs, rfl⟩ := ht d hd
      obtain ⟨ys, rfl⟩ := ht d' hd'
      cases f with
      | true =>
        rw [if_pos rfl, keyLt'_oneType]
        exact oneLt_tup ra rb (hal _ hd _ hd') (room hd) hq
      | false =>
        rw [if_neg Bool.false_ne_true]
        show wpAny (model prog w) A (oneLt' false x y) Q E s
        exact oneLt_tup ra rb (hal _ hd _ hd') (room hd) hq
def encT (b : List Int) : PyData := .tuple (b.map .int)
theorem encT_alike (bs : List (List Int)) : AllAlike (bs.map encT) := AllAlike.of fun b b' => by
  unfold encT
  rw [alike]
  exact alike_ints b b'
theorem encT_depth (b : List Int) : (encT b).depth = 1 := by
  unfold encT
  rw [PyData.depth, depth_ints]
theorem encT_le : dataLe false encT = fun p q => decide (p ≤ q) := by
  have h := dataLe_rows (fun b : List Int => b)
  rw [← h]
  funext p q
  show (!dataLt (encT q) (encT p)) = (!dataLt (.list (q.map .int)) (.list (p.map .int)))
  unfold encT
  rw [dataLt_list, dataLt_tuple]
theorem sorted_encT {l : Addr} {vs : List Value} {bs : List (List Int)} {R : Value → List Int → Prop} {Q : Value → Shared → Prop} (hl : s.heap.IsList l vs.toArray) (e : EachIs R vs bs) (er : EachIs (fun v b => ∃ as, Reads s.heap v (encT b) as) vs bs) (hL : bs.length ≤ sizeLine)
    (hu : A.units + 4 < cLine) (h : ∀ out, out.length = bs.length → EachIs R out (bs.mergeSort fun p q => decide (p ≤ q)) → Q (.ref (s.heap.objs.size + 1)) { s with heap := sortedAll s.heap vs (List.toArray out) }) :
    wpAny (model prog w) A (call (.builtin "sorted") [.ref l]) Q E s := by
  have er' : EachIs (fun v b => ∃ as, Reads (sortingHeap (copyHeap s.heap vs) (s.heap.objs.size + 1) vs) v (encT b) as) vs bs := er.mono fun _ _ ⟨as, r⟩ => ⟨as, PyProof.Rows.Reads.keeps (fun _ _ => sorting_copy_old) r⟩
  refine sorted_vals hl (sorts_tups (s := { s with heap := sortingHeap (copyHeap s.heap vs) (s.heap.objs.size + 1) vs }) (each_map (R := fun v d => ∃ as, Reads (sortingHeap (copyHeap s.heap vs) (s.heap.objs.size + 1) vs) v d as) encT er') (encT_alike bs) (fun d hd => ?_) (bound_map fun b hb => ?_)) (by rw [e.length]; exact hL)
    (h _ (by rw [sortVals_length false rfl]; exact e.length) (by rw [← encT_le]; exact sortVals_data false e er' (encT_alike bs)))
  · obtain ⟨b, _, rfl⟩ := List.mem_map.mp hd
    exact ⟨_, rfl⟩
  · rw [encT_depth]
    show A.units + 1 + 1 + 1 < cLine
    omega
end
end Tw

/-! Tw, part R: sorted of tuples as a rule; a return that chooses. -/
namespace Tw
open PySem PySem.Spec L2 PyProof.Rows
abbrev EachI {α β : Type} (R : α → β → Prop) := @PySem.W.EachIs α β R
abbrev leT : List Int → List Int → Bool := fun p q => decide (p ≤ q)
def rSortT (K : PySem.W.Frag) : List V → Hp → VK → Prop := fun xs H Q => ∃ (l : Addr) (vs : List V) (bs : List (List Int)) (R : V → List Int → Prop), xs = [.ref l] ∧ SqL K H l vs ∧ PySem.W.EachIs R vs bs ∧ (∀ v b, R v b → Dp K H v (encT b)) ∧
  ∀ (p : Addr) (vs' : List V), H p = none → PySem.W.EachIs R vs' (bs.mergeSort leT) → Q (.ref p) (upd H p (.lst vs'))
section
variable {X : Cx} {K : PySem.W.Frag} {E : XK} {e a b c o : Expr} {es : List Expr} {w wa wb wc : Wx} {k ka kb : Kd} {pos p : Pos} {u : Wa} {st : Stmt} {rest body : List Stmt} {s s1 s2 : Ws}
theorem each_vals {R : V → List Int → Prop} {vs : List V} {bs : List (List Int)} (e : PySem.W.EachIs R vs bs) : ∀ {us : List Value}, Vals vs us → PySem.W.EachIs (fun u b => ∃ v, RelV v u ∧ R v b) us bs := by
  induction e with
  | nil => intro us r; cases r; exact .nil
  | cons h t ih => intro us r; cases r with | cons r1 r2 => exact .cons ⟨_, r1, h⟩ (ih r2)
theorem vals_each {R : V → List Int → Prop} {us : List Value} {bs : List (List Int)} (e : PySem.W.EachIs (fun u b => ∃ v, RelV v u ∧ R v b) us bs) : ∃ vs : List V, Vals vs us ∧ PySem.W.EachIs R vs bs := by
  induction e with
  | nil => exact ⟨[], .nil, .nil⟩
  | cons h t ih =>
    obtain ⟨v, r1, r2⟩ := h
    obtain ⟨vs, i1, i2⟩ := ih
    exact ⟨v :: vs, .cons r1 i1, .cons r2 i2⟩
theorem cr_sortT (hu : X.A.units + 65 < cLine) : CallR X (.builtin "sorted") (rSortT X.K) := by
  intro pins s σ H xs us Q I r h
  obtain ⟨a, vs, bs, R, rfl, hs, e, hd, q⟩ := h
  obtain ⟨its, rv, hl, hz⟩ := I.list hs
  rw [Vals.ref1 r]
  have e1 := each_vals e rv
  have lb : bs.length ≤ sizeLine := by rw [← e.length]; exact hz
  refine sorted_encT hl.isList e1 (e1.mono fun u b ⟨v, r1, r2⟩ => Dp.reads I _ v u (hd v b r2) r1) lb (by omega) fun out lo eo => ?_
  obtain ⟨vs', v1, v2⟩ := vals_each eo
  obtain ⟨ep, he'⟩ := PyProof.Rows.sortedAll_at s.heap its out.toArray
  have hlen : vs'.length ≤ sizeLine := by rw [v1.length, lo]; exact lb
  exact ⟨.ref _, upd H (s.heap.objs.size + 1) (.lst vs'), I.laid (t' := s.toks) (fun _ _ => PyProof.Rows.sortedAll_old) (Nat.le_succ _) ⟨hlen, out, ep, v1, he'⟩, rfl, q _ _ (I.hok.fresh (Nat.le_succ _)) v2⟩
def tI (b : List Int) : D := .tup (b.map .int)
/-- sorted(x), x a list of tuples of ints -/
def oSortT : OpN := fun ds Q => ∃ bs : List (List Int), ds = [.lst (bs.map tI)] ∧ Q (.lst ((bs.mergeSort leT).map tI))
theorem rps_tI {G : Hp} : ∀ {bs : List (List Int)} {vs : List V}, Rps K G (bs.map tI) vs → PySem.W.EachIs (fun v b => Rp K G (tI b) v) vs bs
  | [], _, .nil => .nil
  | b :: bs, _, .cons h r => .cons h (rps_tI r)
theorem tI_rps {G : Hp} {bs : List (List Int)} {vs : List V} (e : PySem.W.EachIs (fun v b => Rp K G (tI b) v) vs bs) : Rps K G (bs.map tI) vs := by
  induction e with
  | nil => exact .nil
  | cons h t ih => exact .cons h ih
theorem isPs_ints (b : List Int) : D.isPs (b.map .int) = true := by
  rw [isPs_all, List.all_map, List.all_eq_true]
  intro x _
  rfl
theorem py_tI (b : List Int) : (tI b).py = encT b := by
  unfold tI encT
  rw [D.py, pys_map D.int PyData.int fun i => by rw [D.py]]
theorem isP_tI (b : List Int) : (tI b).isP = true := by
  unfold tI
  rw [D.isP]
  exact isPs_ints b
theorem brg_sortT : BrgN K .f oSortT (rSortT K) := by
  refine ⟨fun ds G H vs Q Q2 g r ⟨bs, ed, q⟩ kk => ?_, fun ds Q Q' i ⟨ns, ed, q⟩ => ⟨ns, ed, i _ q⟩⟩
  subst ed
  obtain ⟨v, rfl, rv⟩ := rvOs_1 r
  obtain ⟨pp, vs, rfl, h1, r1⟩ := rvO_lst g rv
  refine ⟨pp, vs, bs, fun v b => Rp K G (tI b) v, rfl, SqL.of h1, rps_tI r1, fun v b h => ?_, fun l vs' hl e' => ?_⟩
  · rw [← py_tI]; exact (h.mono g).dp (isP_tI b)
  · exact kk _ q _ _ _ (Ext.newH g hl) ⟨l, _, rfl, hl, upd_same, tI_rps e', g.free hl⟩
theorem ej_sortT (hu : X.A.units + 65 < cLine) (hg : Gl X "sorted") (hm : X.mg "sorted" = none) (ha : EJ k E X a w) (hst : starEach [a] X.env = (false, eval a X.env) :: starEach [] X.env := by rfl) : EJ .f E X (.Call (.Name "sorted" p) [a] [] pos) (wN oSortT (waCons w waNil)) :=
  let h := aj_consO ha (aj_nil (kk := false)) hst
  ej_N h (pe_callB (cr_sortT hu) hg hm (by decide +kernel) h.pa (by decide) (by decide) hst rfl) brg_sortT

/-! ### return x if c else e: x an own object -/
def sRetIf (tt : Wt) (i : Nat) (w : Wx) : Ws := fun Z ρ => tt Z.xc ρ fun t => if t = true then ∃ d, ρ[i]? = some (.ow d) ∧ Z.rt true d else w Z.xc ρ fun d => Z.rt true d
theorem sj_retIf {tt : Wt} {i : Nat} (hc : TJ E X c tt) (ha : PE X a (tVar i)) (hb : EJ .f E X b w) {p2 : Pos} : SJ E X (.Return (some (.IfExp c a b pos)) p2) (sRetIf tt i w) :=
  ⟨(ps_ret (pe_ifExp hc.pt ha hb.pe)).imp fun D' σ H ⟨G0, H0, G, ρ, Z, R, T, q⟩ => ⟨G0, H0, G, ρ, Z.xc, R, T.xc, hc.mo _ _ _ _ (fun t q1 G1 H1 x1 => by
    have R1 := R.ext x1
    cases t with
    | true =>
      rw [if_pos rfl] at q1
      show tVar i σ H1 D'.rt
      obtain ⟨d, hi, q2⟩ := q1
      obtain ⟨p, o, e1, e2, t, g, z⟩ := R1.sl i _ hi
      exact ⟨_, e1, T.rt true d G1 H1 _ R1.ex ⟨p, o, rfl, z, e2, t, g⟩ q2⟩
    | false =>
      rw [if_neg Bool.false_ne_true] at q1
      show liftW X.K E .f w σ H1 D'.rt
      exact ⟨G0, H0, G1, ρ, Z.xc, R1, T.xc, hb.mo _ _ _ _ (fun d q2 G2 H2 v x2 r2 => T.rt true d G2 H2 v (R1.ex.trans x2) (rv_later (k := .f) R1.h0 r2) q2) q1⟩) q⟩⟩
/-! ### a, b = a list -/
def gLstD (n : Nat) (gs : Wgs) : Wg := fun d ρ Q => ∃ ds, d.isL = some ds ∧ ds.length = n ∧ gs ds ρ Q
theorem gj_lst {kk : Nat} {tgs : List Nat} {gs : Wgs} {n : Nat} (hc : X.calm = true) (h : GsJ X es tgs gs) (hn : (assignEach es X.env).length = n := by rfl) (hst : (assignEach es X.env).findIdx? (·.1) = none := by rfl) : GJ X (.Tuple es kk pos) tgs (gLstD n gs) := by
  refine ⟨(pg_unl hc h.pg hn hst).imp fun v σ H Q ⟨G0, H0, G, ρ, d, R, r, ds, ed, hl, q⟩ => ?_, fun d ρ Q Q' i ⟨ds, e, l, q⟩ => ⟨ds, e, l, h.mo _ _ _ _ i q⟩⟩
  obtain ⟨p, vs, rfl, h1, m1⟩ := rp_isL r ed
  exact ⟨p, vs, rfl, R.gh.seq h1, by rw [← m1.length]; exact hl, G0, H0, G, ρ, ds, R, m1, q⟩
def wSelf (i : Nat) (C0 : Addr) (f : Str) : Wx := fun xc ρ Q => ∃ a fs v, ρ[i]? = some (.se a C0 fs) ∧ fs.lookup f = some v ∧ Q v
end
end Tw

/-! Tw, part U: loops over lists of anything that stand for data. -/
namespace Tw
open PySem PySem.Spec L2 PyProof.Rows
section
variable {α β : Type} {g : Wg} {b : Ws} {Z : Pd} {we : Wx} {tt : Wt} {ρ : Evn} {Q : List D → Prop}
theorem lc_ofF (l : List α) (c : α → D) (p : α → Bool) (f : α → D)
    (h : ∀ x ∈ l, ∀ (k1 : D → Prop) (k2 : Prop), (p x = true → k1 (f x)) → (p x = false → k2) → g (c x) ρ fun ρ' => tt xcNo ρ' fun t => if t = true then we xcNo ρ' k1 else k2)
    (hz : l.length ≤ sizeLine) (q : Q ((l.filter p).map f)) : lcW g tt we ρ Q (l.map c) [] := by
  have go : ∀ (r : List α) (acc : List D), (∀ x ∈ r, x ∈ l) → acc.length + r.length ≤ sizeLine → Q (acc ++ (r.filter p).map f) → lcW g tt we ρ Q (r.map c) acc := by
    intro r
    induction r with
    | nil => intro acc _ _ q; simpa [lcW] using q
    | cons x r ih =>
      intro acc hm hl q
      simp only [List.length_cons] at hl
      refine h x (hm x (by simp)) _ _ (fun hp => ⟨by omega, ih _ (fun y hy => hm y (by simp [hy])) (by simp; omega) ?_⟩) fun hp => ih _ (fun y hy => hm y (by simp [hy])) (by omega) ?_
      · simpa [List.filter_cons, hp] using q
      · simpa [List.filter_cons, hp] using q
  exact go l [] (fun _ h => h) (by simpa using hz) (by simpa using q)
theorem lc_of (l : List α) (c : α → D) (f : α → D) (h : ∀ x ∈ l, ∀ (k1 : D → Prop), k1 (f x) → g (c x) ρ fun ρ' => we xcNo ρ' k1) (hz : l.length ≤ sizeLine) (q : Q (l.map f)) : lcW g wtYes we ρ Q (l.map c) [] :=
  lc_ofF l c (fun _ => true) f (fun x hx k1 k2 h1 _ => by
    have := h x hx (fun y => k1 y) (h1 rfl)
    simpa [wtYes] using this) hz (by rw [List.filter_eq_self.mpr (fun _ _ => rfl)]; exact q)
/-- over a range from 0 -/
theorem lc_rng0 (n : Nat) (f : Nat → D) (h : ∀ i, i < n → ∀ (k1 : D → Prop), k1 (f i) → g (.int (i : Nat)) ρ fun ρ' => we xcNo ρ' k1) (hz : n ≤ sizeLine) (q : Q ((List.range n).map f)) : lcW g wtYes we ρ Q (rngD 0 n) [] :=
  lc_of (List.range n) (fun i => .int (0 + (i : Nat))) f (fun i hi k1 h1 => by rw [Int.zero_add]; exact h i (List.mem_range.mp hi) k1 h1) (by simpa using hz) q
theorem lc_rng0F (n : Nat) (p : Nat → Bool) (f : Nat → D) (h : ∀ i, i < n → ∀ (k1 : D → Prop) (k2 : Prop), (p i = true → k1 (f i)) → (p i = false → k2) → g (.int (i : Nat)) ρ fun ρ' => tt xcNo ρ' fun t => if t = true then we xcNo ρ' k1 else k2) (hz : n ≤ sizeLine) (q : Q (((List.range n).filter p).map f)) : lcW g tt we ρ Q (rngD 0 n) [] :=
  lc_ofF (List.range n) (fun i => .int (0 + (i : Nat))) p f (fun i hi k1 k2 h1 h2 => by rw [Int.zero_add]; exact h i (List.mem_range.mp hi) k1 k2 h1 h2) (by simpa using hz) q
/-- a for, by a fold: R says how the fold's state stands in the slots -/
theorem for_fold (l : List α) (c : α → D) (step : β → α → β) (R : β → Evn → Prop) (s0 : β)
    (hs : ∀ (pre : List α) (x : α) (post : List α) (ρ : Evn) (N : Evn → Prop), l = pre ++ x :: post → R (pre.foldl step s0) ρ → (∀ ρ', R (step (pre.foldl step s0) x) ρ' → N ρ') → g (c x) ρ fun ρ' => b { Z with nx := N, ct := N, bk := Z.nx } ρ')
    (h0 : R s0 ρ) (hd : ∀ ρ, R (l.foldl step s0) ρ → Z.nx ρ) : forW g b Z (l.map c) ρ := by
  have go : ∀ (r pre : List α) (ρ : Evn), l = pre ++ r → R (pre.foldl step s0) ρ → forW g b Z (r.map c) ρ := by
    intro r
    induction r with
    | nil => intro pre ρ e h; rw [List.append_nil] at e; subst e; exact hd ρ h
    | cons x r ih =>
      intro pre ρ e h
      refine hs pre x r ρ _ e h fun ρ' h' => ih (pre ++ [x]) ρ' (by rw [e]; simp) (by rw [List.foldl_append]; exact h')
  exact go l [] ρ rfl h0
/-- .. that changes nothing but temporary slots -/
theorem for_same (l : List α) (c : α → D) (R : Evn → Prop) (hs : ∀ (x : α) (ρ : Evn) (N : Evn → Prop), x ∈ l → R ρ → (∀ ρ', R ρ' → N ρ') → g (c x) ρ fun ρ' => b { Z with nx := N, ct := N, bk := Z.nx } ρ')
    (h0 : R ρ) (hd : ∀ ρ, R ρ → Z.nx ρ) : forW g b Z (l.map c) ρ :=
  for_fold l c (fun (_ : Unit) _ => ()) (fun _ ρ => R ρ) () (fun pre x post ρ N e h hn => hs x ρ N (by rw [e]; simp) h hn) h0 hd
end
/-! ### words on slots that are written out -/
@[simp] theorem atI_ints {l : List Int} {i : Int} : atI (l.map D.int) i = (atI l i).map D.int := by
  unfold atI
  simp only [List.length_map, List.getElem?_map]
  cases ixN l.length i <;> rfl
end Tw

/-! Tw, part V: ==, != and in, on known data. -/
namespace Tw
open PySem PySem.Spec L2 PyProof.Rows
open PySem.PyData (strOk)
theorem eqvAll_eq {xs ys : List Int} : PyData.eqvAll (xs.map .int) (ys.map .int) = (xs == ys) := by
  induction xs generalizing ys with
  | nil => cases ys <;> simp [PyData.eqvAll]
  | cons x xs ih => cases ys <;> simp [PyData.eqvAll, PyData.eqv, ih]
theorem lay_ints (xs : List Int) : PyData.canLayAll0 (xs.map .int) = true := by
  induction xs with
  | nil => simp [PyData.canLayAll0]
  | cons x xs ih => simp [PyData.canLayAll0, PyData.canLay0, ih]
theorem ok_tI (b : List Int) : (tI b).ok := by
  refine ⟨isP_tI b, ?_⟩
  rw [py_tI]
  unfold SeqAt.shaped
  rw [encT_depth]
  unfold encT
  simp [PyData.canLay0, lay_ints]
theorem ok_int (i : Int) : (D.int i).ok := ⟨rfl, by simp [D.py, SeqAt.shaped, PyData.canLay0, PyData.depth]⟩
theorem ok_bl (i : Bool) : (D.bl i).ok := ⟨rfl, by simp [D.py, SeqAt.shaped, PyData.canLay0, PyData.depth]⟩
theorem ok_str {z : Str} (h : strOk z = true) : (D.str z).ok := ⟨rfl, by simp [D.py, SeqAt.shaped, PyData.canLay0, PyData.depth, h]⟩
theorem ok_ptI (b : List (List Int)) : (D.lst (b.map tI)).ok := by
  have h1 : D.pys (b.map tI) = b.map encT := pys_map tI encT py_tI b
  refine ⟨?_, ?_⟩
  · rw [D.isP, isPs_all, List.all_map, List.all_eq_true]
    intro x _
    exact isP_tI x
  · rw [D.py, h1]
    unfold SeqAt.shaped
    have h2 : PyData.canLayAll0 (b.map encT) = true := by
      induction b with
      | nil => simp [PyData.canLayAll0]
      | cons x xs ih => simp [PyData.canLayAll0, ih (pys_map tI encT py_tI xs), encT, PyData.canLay0, lay_ints]
    have h3 : PyData.depthAll (b.map encT) ≤ 1 := by
      clear h1 h2
      induction b with
      | nil => simp [PyData.depthAll]
      | cons x xs ih => simp only [List.map_cons, PyData.depthAll, encT_depth]; omega
    rw [PyData.canLay0, h2, PyData.depth]
    simp
    omega
theorem ok_strs {l : List Str} (h : ∀ z ∈ l, strOk z = true) : (D.lst (l.map .str)).ok := by
  have h1 : D.pys (l.map .str) = l.map PyData.str := pys_map D.str PyData.str (fun _ => by rw [D.py]) l
  refine ⟨?_, ?_⟩
  · rw [D.isP, isPs_all, List.all_map, List.all_eq_true]
    intro x _
    rfl
  · rw [D.py, h1]
    unfold SeqAt.shaped
    have h2 : PyData.canLayAll0 (l.map PyData.str) = true := by
      clear h1
      induction l with
      | nil => simp [PyData.canLayAll0]
      | cons x xs ih => simp [PyData.canLayAll0, ih fun z hz => h z (by simp [hz]), PyData.canLay0, h x]
    have h3 : PyData.depthAll (l.map PyData.str) = 0 := by
      clear h1 h2 h
      induction l with
      | nil => simp [PyData.depthAll]
      | cons x xs ih => simp only [List.map_cons, PyData.depthAll, ih, PyData.depth]; omega
    rw [PyData.canLay0, h2, PyData.depth, h3]
    simp
section
variable {i j : Int} {Q : D → Prop} {x y : Str} {a b : List Int}
@[simp] theorem oEq_i : oEq (.int i) (.int j) Q = Q (.bl (i == j)) := by
  unfold oEq
  simp [ok_int, D.py, PyData.eqv]
@[simp] theorem oNe_i : oNe (.int i) (.int j) Q = Q (.bl (!(i == j))) := by
  unfold oNe
  simp [ok_int, D.py, PyData.eqv]
theorem oEq_s (hx : strOk x = true) (hy : strOk y = true) : oEq (.str x) (.str y) Q = Q (.bl (x == y)) := by
  unfold oEq
  simp [ok_str hx, ok_str hy, D.py, PyData.eqv]
@[simp] theorem oEq_t : oEq (tI a) (tI b) Q = Q (.bl (a == b)) := by
  unfold oEq
  rw [py_tI, py_tI]
  unfold encT
  simp [ok_tI, PyData.eqv, eqvAll_eq]
@[simp] theorem oNe_t : oNe (tI a) (tI b) Q = Q (.bl (!(a == b))) := by
  unfold oNe
  rw [py_tI, py_tI]
  unfold encT
  simp [ok_tI, PyData.eqv, eqvAll_eq]
theorem any_int (l : List Int) : (D.pys (l.map .int)).any (fun z => PyData.eqv z (D.int i).py) = decide (i ∈ l) := by
  rw [pys_map D.int PyData.int (fun _ => by rw [D.py]), List.any_map, D.py]
  induction l with
  | nil => rfl
  | cons x xs ih =>
    rw [List.any_cons, ih]
    show ((x == i) || decide (i ∈ xs)) = _
    by_cases e : x = i
    · subst e; simp
    · have e' : ¬ i = x := fun z => e z.symm
      simp [e, e']
theorem any_str (l : List Str) : (D.pys (l.map .str)).any (fun z => PyData.eqv z (D.str x).py) = decide (x ∈ l) := by
  rw [pys_map D.str PyData.str (fun _ => by rw [D.py]), List.any_map, D.py]
  induction l with
  | nil => rfl
  | cons y xs ih =>
    rw [List.any_cons, ih]
    show ((y == x) || decide (x ∈ xs)) = _
    by_cases e : y = x
    · subst e; simp
    · have e' : ¬ x = y := fun z => e z.symm
      simp [e, e']
theorem any_t (l : List (List Int)) : (D.pys (l.map tI)).any (fun z => PyData.eqv z (tI a).py) = decide (a ∈ l) := by
  rw [pys_map tI encT py_tI, List.any_map, py_tI]
  induction l with
  | nil => rfl
  | cons y xs ih =>
    rw [List.any_cons, ih]
    have h0 : ((fun z => PyData.eqv z (encT a)) ∘ encT) y = (y == a) := by
      show PyData.eqv (encT y) (encT a) = _
      unfold encT
      rw [PyData.eqv, eqvAll_eq]
    rw [h0]
    by_cases e : y = a
    · subst e; simp
    · have e' : ¬ a = y := fun z => e z.symm
      simp [e, e']
@[simp] theorem oIn_i : oIn false (.int i) (tI a) Q = Q (.bl (decide (i ∈ a))) := by
  have h := any_int (i := i) a
  have o := ok_tI a
  unfold tI at o ⊢
  simp only [oIn, ok_int, o, h, true_and]
  rfl
@[simp] theorem oIn_t {l : List (List Int)} : oIn false (tI a) (.lst (l.map tI)) Q = Q (.bl (decide (a ∈ l))) := by
  have h := any_t (a := a) l
  simp only [oIn, ok_tI, ok_ptI, h, true_and]
  rfl
theorem oIn_s {l : List Str} (hx : strOk x = true) (hl : ∀ z ∈ l, strOk z = true) (neg : Bool) : oIn neg (.str x) (.lst (l.map .str)) Q = Q (.bl (if neg = true then !decide (x ∈ l) else decide (x ∈ l))) := by
  have h := any_str (x := x) l
  simp only [oIn, ok_str hx, ok_strs hl, h, true_and]
end
end Tw

/-! Tw, part X: classes of known data, is, in short tuples, objects made. -/
namespace Tw
open PySem PySem.Spec L2 PyProof.Rows
open PySem.PyData (strOk)
@[simp] theorem kit_NoneType_int : kitB "NoneType" "int" = some false := by decide +kernel
@[simp] theorem kit_NoneType_bool : kitB "NoneType" "bool" = some false := by decide +kernel
@[simp] theorem kit_NoneType_str : kitB "NoneType" "str" = some false := by decide +kernel
@[simp] theorem kit_NoneType_tuple : kitB "NoneType" "tuple" = some false := by decide +kernel
@[simp] theorem kit_NoneType_list : kitB "NoneType" "list" = some false := by decide +kernel
@[simp] theorem kit_bool_int : kitB "bool" "int" = some true := by decide +kernel
@[simp] theorem kit_bool_bool : kitB "bool" "bool" = some true := by decide +kernel
@[simp] theorem kit_bool_str : kitB "bool" "str" = some false := by decide +kernel
@[simp] theorem kit_bool_tuple : kitB "bool" "tuple" = some false := by decide +kernel
@[simp] theorem kit_bool_list : kitB "bool" "list" = some false := by decide +kernel
@[simp] theorem kit_int_int : kitB "int" "int" = some true := by decide +kernel
@[simp] theorem kit_int_bool : kitB "int" "bool" = some false := by decide +kernel
@[simp] theorem kit_int_str : kitB "int" "str" = some false := by decide +kernel
@[simp] theorem kit_int_tuple : kitB "int" "tuple" = some false := by decide +kernel
@[simp] theorem kit_int_list : kitB "int" "list" = some false := by decide +kernel
@[simp] theorem kit_str_int : kitB "str" "int" = some false := by decide +kernel
@[simp] theorem kit_str_bool : kitB "str" "bool" = some false := by decide +kernel
@[simp] theorem kit_str_str : kitB "str" "str" = some true := by decide +kernel
@[simp] theorem kit_str_tuple : kitB "str" "tuple" = some false := by decide +kernel
@[simp] theorem kit_str_list : kitB "str" "list" = some false := by decide +kernel
@[simp] theorem kit_list_int : kitB "list" "int" = some false := by decide +kernel
@[simp] theorem kit_list_bool : kitB "list" "bool" = some false := by decide +kernel
@[simp] theorem kit_list_str : kitB "list" "str" = some false := by decide +kernel
@[simp] theorem kit_list_tuple : kitB "list" "tuple" = some false := by decide +kernel
@[simp] theorem kit_list_list : kitB "list" "list" = some true := by decide +kernel
@[simp] theorem kit_tuple_int : kitB "tuple" "int" = some false := by decide +kernel
@[simp] theorem kit_tuple_bool : kitB "tuple" "bool" = some false := by decide +kernel
@[simp] theorem kit_tuple_str : kitB "tuple" "str" = some false := by decide +kernel
@[simp] theorem kit_tuple_tuple : kitB "tuple" "tuple" = some true := by decide +kernel
@[simp] theorem kit_tuple_list : kitB "tuple" "list" = some false := by decide +kernel

section
variable {Q : D → Prop} {d : D} {t neg : Bool} {i : Int} {x y z : Str} {xs : List D}
@[simp] theorem oIsN_d : oIsN neg d .non Q = Q (.bl (if neg = true then !d.isN else d.isN)) := by cases d <;> rfl
@[simp] theorem oIsB_d : oIsB d (.bl t) Q = Q (.bl (d.isB t)) := by cases d <;> rfl
@[simp] theorem isN_non : D.isN .non = true := rfl
@[simp] theorem isN_i : D.isN (.int i) = false := rfl
@[simp] theorem isN_b : D.isN (.bl t) = false := rfl
@[simp] theorem isN_s : D.isN (.str x) = false := rfl
@[simp] theorem isN_t : D.isN (.tup xs) = false := rfl
@[simp] theorem isN_l : D.isN (.lst xs) = false := rfl
@[simp] theorem isB_non : D.isB .non t = false := rfl
@[simp] theorem isB_i : D.isB (.int i) t = false := rfl
@[simp] theorem isB_b {s : Bool} : D.isB (.bl s) t = (s == t) := rfl
@[simp] theorem isB_s : D.isB (.str x) t = false := rfl
@[simp] theorem isB_t : D.isB (.tup xs) t = false := rfl
@[simp] theorem isB_l : D.isB (.lst xs) t = false := rfl
@[simp] theorem ty_non : D.ty .non = some "NoneType" := rfl
@[simp] theorem ty_i : D.ty (.int i) = some "int" := rfl
@[simp] theorem ty_b : D.ty (.bl t) = some "bool" := rfl
@[simp] theorem ty_s : D.ty (.str x) = some "str" := rfl
@[simp] theorem ty_t : D.ty (.tup xs) = some "tuple" := rfl
@[simp] theorem ty_l : D.ty (.lst xs) = some "list" := rfl
theorem oIn_ss (hx : strOk x = true) (hy : strOk y = true) (hz : strOk z = true) : oIn neg (.str x) (.tup [.str y, .str z]) Q = Q (.bl (if neg = true then !(x == y || x == z) else (x == y || x == z))) := by
  have h := any_str (x := x) [y, z]
  have o : (D.tup [.str y, .str z]).ok := by
    refine ⟨rfl, ?_⟩
    simp [D.py, D.pys, SeqAt.shaped, PyData.canLay0, PyData.canLayAll0, PyData.depth, PyData.depthAll, hy, hz]
  have e : decide (x ∈ [y, z]) = (x == y || x == z) := by
    by_cases e1 : x = y <;> by_cases e2 : x = z <;> simp [e1, e2]
  rw [e] at h
  simp only [List.map_cons, List.map_nil] at h
  simp only [oIn, ok_str hx, o, h, true_and]
theorem ex2 {α β : Type} {p : α} {q : β} {P : α → β → Prop} : (∃ a b, (p = a ∧ q = b) ∧ P a b) = P p q := propext ⟨fun ⟨_, _, ⟨rfl, rfl⟩, h⟩ => h, fun h => ⟨_, _, ⟨rfl, rfl⟩, h⟩⟩
theorem ex2' {α β : Type} {p : α} {q : β} {P : α → β → Prop} : (∃ a b, (p = a ∧ b = q) ∧ P a b) = P p q := propext ⟨fun ⟨_, _, ⟨rfl, rfl⟩, h⟩ => h, fun h => ⟨_, _, ⟨rfl, rfl⟩, h⟩⟩
def Sl.noSe : Sl → Bool
  | .se _ _ _ => false
  | _ => true
@[simp] theorem noSe_da : Sl.noSe (.da d) = true := rfl
@[simp] theorem noSe_no : Sl.noSe .no = true := rfl
theorem oneSe {a C : Addr} {fs : List (Str × D)} {l : List Sl} (h : l.all Sl.noSe = true) : OneSe (.se a C fs :: l) 0 := fun j a' C' fs' hj => by
  cases j with
  | zero => rfl
  | succ j =>
    have hj' : l[j]? = some (.se a' C' fs') := by simpa using hj
    have hm := List.mem_of_getElem? hj'
    have := List.all_eq_true.mp h _ hm
    cases this
@[simp] theorem oneSe_iff {a C : Addr} {fs : List (Str × D)} {l : List Sl} : OneSe (.se a C fs :: l) 0 = (l.all Sl.noSe = true) := propext ⟨fun h => List.all_eq_true.mpr fun s hs => by
  obtain ⟨j, hj⟩ := List.getElem?_of_mem hs
  cases s with
  | se a' C' fs' =>
    have := h (j + 1) a' C' fs' (by simpa using hj)
    omega
  | _ => rfl, oneSe⟩
end
end Tw

/-! Tw, part Y: methods and constructors from where they stand. -/
namespace Tw
open PySem PySem.Spec L2 PyProof.Rows
section
variable {P : Program} {w : World} {K : PySem.W.Frag} {mg : Str → Option Value} {base : Heap}
/-- a method of the text -/
structure AtM (K : PySem.W.Frag) (C : Addr) (m q : Str) (st : Stmt) (ps : List Str) : Prop where
  ex : ∃ f fd, Fun K m q st f fd ∧ Meth K C m f ∧ Binds K fd ps []
theorem mdef_ok {C : Addr} {m q : Str} {st : Stmt} {N ps : List Str} {k : Nat} {wf : Wf} {wb : Ws} (A : AtM K C m q st ps) (cl : Cls K C) (S : FnScope N ps (defScope st)) (mo : MoF wf) (hn : ∀ ds xc Q, wf xc ds Q → ds.length = ps.length)
    (hb : ∀ (f : Addr) (cdv : Value) (A : Around) (outer : List Env) (s : Shared) (H : Hp) (E : XK), Room k (A.deeper (envOfC q (defScope st) s.heap.objs.size f cdv)) →
      BJ E (cxOf (L2.CX P w) P w K mg base N q (defScope st) f cdv A outer s H E) (defBody st) wb)
    (hw : ∀ xc ds (Q : Bool → D → Prop), wf xc ds Q → wb { nx := fun _ => Q false .non, rt := Q, xc := xc } (ds.map .da ++ List.replicate (N.length - ds.length) .no)) :
    MDef P w K mg base C m ps.length (k + 1) wf := by
  obtain ⟨f, fd, F, hm, b⟩ := A.ex
  exact ⟨⟨f, fd, ps, fn_ok F S (fun xc ds Q q => hn ds xc Q q) (hb f) hw, hm, b⟩, cl, mo, hn⟩
/-- an __init__ of the text -/
structure AtI (K : PySem.W.Frag) (mg : Str → Option Value) (x : Str) (C : Addr) (q : Str) (st : Stmt) (ps : List Str) (n : Nat) (ks : List Str) (gD : List D → List D → List D) : Prop where
  ex : ∃ (f : Addr) (fd : FuncData) (g : List Value → List Value → List Value) (gV gR : List V → List V → List V), Fun K "__init__" q st f fd ∧ Mk K C f ∧ KBn K fd ps (n + 1) ks g gV ∧ mg x = some (.ref C) ∧
    (∀ x vs zs, vs.length = n → zs.length = ks.length → gV (V.ref x :: vs) zs = V.ref x :: gR vs zs) ∧ (∀ G ds es vs zs, Rps K G ds vs → Rps K G es zs → Rps K G (gD ds es) (gR vs zs))
theorem ctor_ok {x : Str} {C : Addr} {q : Str} {st : Stmt} {N ps : List Str} {n m k : Nat} {ks : List Str} {gD : List D → List D → List D} {wi : Wi} {wb : Ws} (A : AtI K mg x C q st ps n ks gD) (hps : ps.length = m + 1) (S : FnScope N ps (defScope st)) (mo : MoI wi) (hn : ∀ ds xc Q, wi xc ds Q → ds.length = m)
    (hb : ∀ (f : Addr) (cdv : Value) (A : Around) (outer : List Env) (s : Shared) (H : Hp) (E : XK), Room k (A.deeper (envOfC q (defScope st) s.heap.objs.size f cdv)) →
      BJ E (cxOf (L2.CX P w) P w K mg base N q (defScope st) f cdv A outer s H E) (defBody st) wb)
    (hw : ∀ xc ds (Q : List (Str × D) → Prop) p, wi xc ds Q → wb { nx := fun ρ => ∃ fs, ρ[0]? = some (.se p C fs) ∧ Q fs, rt := fun _ _ => False, xc := xc } (.se p C [] :: (ds.map .da ++ List.replicate (N.length - (ds.length + 1)) .no))) :
    Ctor P w K mg base x C n ks (k + 1) gD wi := by
  obtain ⟨f, fd, g, gV, gR, F, M, B, hm, h1, h2⟩ := A.ex
  exact ⟨⟨f, fd, ps, g, gV, gR, m, M, ini_ok hps F S (fun xc ds Q q => hn ds xc Q q) (hb f) hw, B, hm, h1, h2, hn⟩, mo⟩
end
end Tw

/-! Tw, part Z: len(set(xs)), xs a list of texts; sep.join(xs). -/
namespace Tw
open PySem PySem.Spec L2 PyProof.Rows
section
variable {P : Program} {w : World} {A : Around} {E : Value → Shared → Prop} {s : Shared}
/-- how many different ones stand in a list -/
def kinds {κ : Type} [DecidableEq κ] : List κ → Nat
  | [] => 0
  | x :: r => if x ∈ r then kinds r else kinds r + 1
theorem kinds_le {κ : Type} [DecidableEq κ] : ∀ l : List κ, kinds l ≤ l.length
  | [] => Nat.le_refl _
  | x :: r => by
    have := kinds_le r
    unfold kinds
    split <;> simp <;> omega
/-- how many different ones, told from the front -/
def kindsR {κ : Type} [DecidableEq κ] (l : List κ) : Nat → Nat
  | 0 => 0
  | i + 1 => match l[i]? with
    | some x => if x ∈ l.take i then kindsR l i else kindsR l i + 1
    | none => kindsR l i
theorem kindsR_le {κ : Type} [DecidableEq κ] (l : List κ) : ∀ i, kindsR l i ≤ i
  | 0 => Nat.le_refl _
  | i + 1 => by
    have := kindsR_le l i
    unfold kindsR
    split
    · split <;> omega
    · omega
theorem setOfS_at {P : Program} {w : World} {h h' : Heap} {a : Addr} {S : Str → Bool} {n : Nat} (R : h.SetOf (strKind P w) a S n) (k : ∀ o, h.get? a = some o → h'.get? a = some o) : h'.SetOf (strKind P w) a S n := by
  obtain ⟨o, es, ep, t, ho, r⟩ := R
  exact ⟨o, es, ep, t, k o ho, r⟩
/-- the loop of set.update over texts -/
theorem upd_strs {it : Addr} {fp wr : List Addr} {Gs : Array GenState → Array GenState → Prop} {n : Nat} {Pv : Nat → Value → Prop} {St : Nat → Shared → Prop} {R : Result → Shared → Prop}
    (Wk : WalksS P w A.in1 it fp wr Gs n Pv St) (z : Addr) (zf : z ∉ fp) (ns : List Str) (en : n = ns.length) (few : ns.length < 64) (val : ∀ i v, Pv i v → ∃ k t, ns[i]? = some k ∧ v = .str k t)
    (h0 : Heap) (z0 : h0.get? z = none) (w0 : ∀ b ∈ wr, h0.get? b = none) :
    ∀ (j i : Nat) (s : Shared), n - i = j → i ≤ n → St i s → (∀ b o, h0.get? b = some o → s.heap.get? b = some o) → (s.heap.SetOf (strKind P w) z (fun k => decide (k ∈ ns.take i)) (kindsR ns i)) →
      (∀ s', Moved (z :: wr) Gs s s' → s'.heap.SetOf (strKind P w) z (fun k => decide (k ∈ ns.take n)) (kindsR ns n) → (∀ b o, h0.get? b = some o → s'.heap.get? b = some o) → R (.ok (.ret .none)) s') →
      codeAny (model P w) A (.builtin "set.update.loop" ⟨[.ref z, .ref it], []⟩) R s := by
  have zw : z ∉ wr := fun q => zf (Wk.sub _ q)
  have up : ∀ b ∈ wr, b ∈ z :: wr := fun b q => List.mem_cons_of_mem _ q
  have held : ∀ {s s' : Shared}, Moved wr Gs s s' → (∀ b o, h0.get? b = some o → s.heap.get? b = some o) → ∀ b o, h0.get? b = some o → s'.heap.get? b = some o := fun mv kp b o q =>
    mv.heap b o (fun hb => by rw [w0 b hb] at q; cases q) (kp b o q)
  intro j
  induction j with
  | zero =>
    intro i s ej hi st kp hz fin
    obtain rfl : i = n := by omega
    refine codeAny_builtin F.entry_set_update_loop ?_
    rw [Around.under_plainId F.plain_set_update_loop _]
    show wpAny _ A.in1 (pyNext (.ref it) >>= _) _ _ s
    refine wpAny_bind (Wk.done s _ _ st fun s' mv => ?_)
    show wpAny _ A.in1 (ret Value.none) _ _ s'
    exact wpAny_pure (fin s' (mv.mono up) (setOfS_at hz fun o q => mv.heap z o zw q) (held mv kp))
  | succ j ih =>
    intro i s ej hi st kp hz fin
    have lt : i < n := by omega
    refine codeAny_builtin F.entry_set_update_loop ?_
    rw [Around.under_plainId F.plain_set_update_loop _]
    show wpAny _ A.in1 (pyNext (.ref it) >>= _) _ _ s
    refine wpAny_bind (Wk.item i s _ _ lt st fun v s' pv' st' mv => ?_)
    obtain ⟨k, t, hk, rfl⟩ := val i v pv'
    have kp' := held mv kp
    have hz' : s'.heap.SetOf (strKind P w) z _ _ := setOfS_at hz fun o q => mv.heap z o zw q
    show wpAny _ A.in1 (holding [Value.str k t] (setAdd z (.str k t)) >>= _) _ _ s'
    refine wpAny_bind (wpAny_holding ?_)
    unfold setAdd
    refine wpAny_holding ?_
    refine wpAny_bind ((strKind P w).pyHash (k := k) (strKind_is _ _ _ _) ?_)
    have kl := kindsR_le ns i
    refine wpAny_setAddHashed_of (knd := strKind P w) (s := { s' with toks := s'.toks + 1 }) (k := k) (strKind_is _ _ _ _) rfl hz' (by unfold scanBound; omega) fun h' sb r => ?_
    have tk : ns.take (i + 1) = ns.take i ++ [k] := by rw [List.take_succ, hk]; rfl
    have kp2 : ∀ b o, h0.get? b = some o → h'.get? b = some o := fun b o q => (sb.2 b (fun e => by rw [e, z0] at q; cases q)).trans (kp' b o q)
    have fr : ∀ b ∈ fp, ∀ o, s'.heap.get? b = some o → h'.get? b = some o := fun b hb o q => by
      rw [sb.2 b (fun e => zf (by rw [← e]; exact hb))]; exact q
    have r2 : h'.SetOf (strKind P w) z (fun k => decide (k ∈ ns.take (i + 1))) (kindsR ns (i + 1)) := by
      refine SetOf_congr r (fun q => ?_) ?_
      · rw [tk]; simp only [List.mem_append, List.mem_singleton]
        by_cases a : q ∈ ns.take i <;> by_cases b : q = k <;> simp [a, b]
      · rw [kindsR, hk]
        by_cases a : k ∈ ns.take i <;> simp [a]
    refine wpAny_pure ⟨plainId_quiet F.plain_set_update_loop _, ih (i + 1) _ (by omega) lt (Wk.frame _ s' _ _ st' (Nat.le_add_right _ _) fr) kp2 r2 fun s'' mv2 hz2 kp3 => ?_⟩
    refine fin s'' (Moved.trans Wk.gtrans ((mv.mono up).then_heap (Nat.le_add_right _ _) fun b o hb q => ?_) mv2) hz2 kp3
    rw [sb.2 b (fun e => hb (by rw [e]; exact List.mem_cons_self))]; exact q
set_option maxHeartbeats 3200000 in
/-- set(xs) of texts -/
theorem call_setS {l : Addr} {items : Array Value} (ns : List Str) {Q : Value → Shared → Prop} (hh : A.handled = none) (il : s.heap.IsList l items) (ii : ∀ (i : Nat) (v : Value), items[i]? = some v → ∃ k t, ns[i]? = some k ∧ v = .str k t) (sz : items.size = ns.length) (few : ns.length < 64)
    (h : ∀ (h' : Heap) (tk : Nat), h'.SetOf (strKind P w) s.heap.objs.size (fun k => decide (k ∈ ns)) (kindsR ns ns.length) → (∀ b o, s.heap.get? b = some o → h'.get? b = some o) → Q (.ref s.heap.objs.size) { s with heap := h', toks := tk }) :
    wpAny (model P w) A (call (.type "set") [.ref l]) Q E s := by
  obtain ⟨c, tl, hmro⟩ := F.called_set.mro
  have c1 := F.called_set.made
  have c2 := F.called_set.sub
  refine wpAny_call (codeAny_of_tree ?_)
  show wpAny _ _ (callAny (.type "set") _) _ _ _
  refine wpAny_pure ⟨Code.quiet_builtin _ (by decide +kernel), codeAny_builtin F.entry_type_call ?_⟩
  rw [Around.under_plain (weight_type_call_type "set" [.ref l] []) rfl]
  have c3 := F.called_set.notType
  have c4 := F.called_set.canCreate
  have c5 := F.typeCall_set_1 (.ref l)
  repeat (any_goals (first | assumption | wp_step))
  refine codeAny_mono (code_set_led1 (.ref l) (E := E) (Q₁ := fun obj s₁ => obj = .ref s.heap.objs.size ∧ s₁ = { s with heap := s.heap.push (fresh0 w) }) ⟨rfl, rfl⟩) fun r s₁ hr => ?_
  cases r with
  | error e => exact hr
  | ok fl =>
    cases fl with
    | ret obj =>
      obtain ⟨rfl, rfl⟩ := hr
      have hS : (s.heap.push (fresh0 w)).get? s.heap.objs.size = some (fresh0 w) := Heap.get?_push_size _ rfl
      have hT : Shared.TypeIs { s with heap := s.heap.push (fresh0 w) } (.ref s.heap.objs.size) "set" := ⟨_, hS, rfl⟩
      have c6 := F.called_set.init.lookup
      have c7 := F.called_set.init.bind (.ref s.heap.objs.size)
      repeat (any_goals (first | assumption | wp_step))
      refine codeAny_mono (codeAny_call_builtin (R := wants (fun r s₂ => r = .none ∧ ∃ h' tk, s₂ = { s with heap := h', toks := tk } ∧ h'.SetOf (strKind P w) s.heap.objs.size (fun k => decide (k ∈ ns)) (kindsR ns ns.length) ∧
          (∀ b o, s.heap.get? b = some o → h'.get? b = some o)) E) F.called_set.init.plain F.entry_set_init (check_set_init_1 hT ?_)) fun r₂ s₂ hr₂ => ?_
      · obtain ⟨ol, hol, hcl, nl, hdl⟩ := il
        obtain ⟨ocls, odict, odata, oslots⟩ := ol
        simp only at hcl hdl
        subst hcl; subst hdl
        have hol' : (s.heap.push (fresh0 w)).get? l = some { cls := .type "list", dict := odict, data := .seq items nl, slots := oslots } := Heap.get?_push_of_some _ hol
        have d1 := F.sub_list_set
        have d2 := F.sub_list_frozenset
        have d3 : (Value.type "list" == Value.type "dict") = false := by decide
        have hl1 : (s.heap.push (fresh0 w)).IsList l items := ⟨_, hol', rfl, nl, rfl⟩
        unfold Builtin.«set.__init__» noKeywords Builtin.Frozenset.updateFrom
        generalize hPI : pyIter = PI
        wp_walk
        subst hPI
        refine wpAny_pyIter_list hl1 ?_
        refine wpAny_bind (wpAny_runValue ?_)
        have ls : l < s.heap.objs.size := Heap.lt_size hol
        have hh3 : A.in1.in1.in1.handled = none := by simp [hh]
        have nI : l ≠ (s.heap.push (fresh0 w)).objs.size := by
          rw [Heap.size_push]
          exact Nat.ne_of_lt (Nat.lt_succ_of_lt ls)
        have nf : s.heap.objs.size ∉ [(s.heap.push (fresh0 w)).objs.size, l] := by
          rw [Heap.size_push]; simp only [List.mem_cons, List.not_mem_nil, or_false, not_or]
          exact ⟨Nat.ne_of_lt (Nat.lt_succ_self _), Nat.ne_of_gt ls⟩
        have nn : ∀ b, s.heap.objs.size ≤ b → s.heap.get? b = none := fun b hb => by
          cases q : s.heap.get? b with
          | none => rfl
          | some o => exact absurd (Nat.lt_of_lt_of_le (Heap.lt_size q) hb) (Nat.lt_irrefl _)
        refine upd_strs ((Walks.list hh3 _ l nI items).toS) s.heap.objs.size nf ns sz few ii s.heap (nn _ (Nat.le_refl _)) (fun b hb => nn b (by
            rw [List.mem_singleton.mp hb, Heap.size_push]
            exact Nat.le_succ _)) (items.size - 0) 0 _ (by omega) (Nat.zero_le _)
          ⟨⟨_, Heap.get?_push_size _ rfl, rfl, rfl⟩, (hl1.push _)⟩ (fun b o e => Heap.get?_push_of_some _ (Heap.get?_push_of_some _ e)) ?hS0 ?hR
        case hS0 =>
          have new : (s.heap.push (fresh0 w)).SetOf (strKind P w) s.heap.objs.size (fun _ => false) 0 :=
            ⟨_, #[], 0, _, Heap.get?_push_size _ rfl, ⟨rfl, rfl, rfl⟩, rfl, (fun e he => by simp at he), (fun k => by simp), (by decide), (by rfl), rfl⟩
          exact SetOf_congr (setOfS_at new fun o e => Heap.get?_push_of_some _ e) (fun k => by simp) rfl
        case hR =>
          intro s' mv hz kp
          obtain ⟨h', g2, d', tk', os'⟩ := s'
          have eg : g2 = s.gens := mv.gens
          have ed : d' = s.drawn := mv.drawn
          have eo : os' = s.os := mv.os
          subst eg; subst ed; subst eo
          show wpAny _ _ _ _ _ _
          refine wpAny_pure ?_
          show wpAny _ _ (ret Value.none) _ _ _
          have et : ns.take items.size = ns := by rw [sz, List.take_length]
          rw [et, sz] at hz
          exact wpAny_pure ⟨rfl, h', tk', rfl, hz, kp⟩
      · cases r₂ with
        | error e => exact hr₂
        | ok fl₂ =>
          cases fl₂ with
          | ret r =>
            obtain ⟨rfl, h', tk, rfl, hz, kp⟩ := hr₂
            repeat (any_goals (first | assumption | wp_step))
            exact h _ _ hz kp
          | _ => exact hr₂.elim
    | _ => exact hr.elim
end
section
variable {X : Cx} {K : PySem.W.Frag} {E : XK} {e a b c o : Expr} {es : List Expr} {w wa wb wc : Wx} {k ka kb : Kd} {pos p : Pos}
def tLenSetS (K : PySem.W.Frag) (ta : TE) : TE := fun σ H Q => ta σ H fun x H1 => ∃ (l : Addr) (ns : List Str), x = V.ref l ∧ SqL K H1 l (ns.map V.str) ∧ ns.length < 64 ∧ Q (.int (kindsR ns ns.length)) H1
theorem strs_at {ns : List Str} {its : List Value} (r : Vals (ns.map V.str) its) : ∀ (i : Nat) (v : Value), its.toArray[i]? = some v → ∃ k t, ns[i]? = some k ∧ v = .str k t := fun i v hv => by
  have hv' : its[i]? = some v := by simpa using hv
  have hlt : i < its.length := (List.getElem?_eq_some_iff.mp hv').1
  have hl := r.length
  rw [List.length_map] at hl
  have hn : i < ns.length := by omega
  obtain ⟨u, hu, ru⟩ := r.get (i := i) (x := V.str ns[i]) (by simp [hn])
  rw [hv'] at hu
  cases hu
  obtain ⟨t, e⟩ := ru
  exact ⟨ns[i], t, by simp [hn], e⟩
theorem pe_lenSetS {a : Expr} {ta : TE} {p p2 q pos : Pos} (hc : X.calm = true) (hg : Gl X "len") (hm : X.mg "len" = none) (hg2 : Gl X "set") (hm2 : X.mg "set" = none) (ha : PE X a ta)
    (na : starEach [a] X.env = (false, eval a X.env) :: starEach [] X.env := by rfl) : PE X (.Call (.Name "len" p) [.Call (.Name "set" p2) [a] [] q] [] pos) (tLenSetS X.K ta) := by
  refine ⟨fun pins s σ H Q I h => Call_ (ld_blt I hg hm PySem.boot_len ?_)⟩
  refine PyProof.Rows.callWith_builtin1 (PyProof.Rows.args_cons (Call_ (ld_blt I hg2 hm2 boot_set ?_)) rfl) rfl rfl
  refine PyProof.Rows.callWith_type1 (PyProof.Rows.args_cons (thn (ha.run pins s σ H _ I h) fun v s1 ⟨x, H1, I1, r1, q1⟩ => PyProof.Rows.args_nil ?_) na) na rfl
  obtain ⟨l, xs, rfl, hq, h1, q1⟩ := q1
  cases r1
  obtain ⟨its, r, pl, hz⟩ := I1.list hq
  have hl := r.length
  rw [List.length_map] at hl
  refine call_setS xs (I1.ok.hd hc) pl.isList (strs_at r) (by rw [List.size_toArray]; omega) h1 fun h' tk hS hk => PyProof.Rows.args_nil ?_
  obtain ⟨o, es, ep, t, ho, hex, hd, _, _, _, hf, hn⟩ := hS
  have I2 : Inv X pins σ H1 { s1 with heap := h' } := I1.kept (t' := s1.toks) hk
  have kl := kindsR_le xs xs.length
  exact call_len_set (s := { s1 with heap := h', toks := tk }) ho hex hd hf (by rw [hn]; omega) ⟨.int (kindsR xs xs.length), H1, (I1.kept (t' := tk) hk).tok _, ⟨_, by rw [hn]⟩, q1⟩
def wLenSetS (w : Wx) : Wx := fun xc ρ Q => w xc ρ fun d => ∃ ns : List Str, d = .lst (ns.map .str) ∧ ns.length < 64 ∧ Q (.int (kindsR ns ns.length))
theorem ej_lenSetS {p2 q : Pos} (hc : X.calm = true) (ha : EJ k E X a w) (hg : Gl X "len") (hm : X.mg "len" = none) (hg2 : Gl X "set") (hm2 : X.mg "set" = none)
    (na : starEach [a] X.env = (false, eval a X.env) :: starEach [] X.env := by rfl) : EJ .e E X (.Call (.Name "len" p) [.Call (.Name "set" p2) [a] [] q] [] pos) (wLenSetS w) := by
  refine ⟨(pe_lenSetS hc hg hm hg2 hm2 ha.pe na).imp fun σ H Q ⟨G0, H0, G, ρ, xc, R, T, q⟩ => ⟨G0, H0, G, ρ, xc, R, T, ha.mo _ _ _ _ (fun d ⟨ns, ed, few, q1⟩ G1 H1 v x1 r1 => ?_) q⟩, fun xc ρ Q Q' i q => ha.mo _ _ _ _ (fun d ⟨ns, ed, few, q⟩ => ⟨ns, ed, few, i _ q⟩) q⟩
  subst ed
  obtain ⟨pp, vs, rfl, h1, rr⟩ := rvO_lst x1.gh r1.o
  rw [rps_strs rr] at h1
  exact ⟨pp, ns, rfl, SqL.of h1, few, q1 G1 H1 _ x1 (.int _)⟩
/-! sep.join(xs) -/
def wJoin (wo w : Wx) : Wx := fun xc ρ Q => wo xc ρ fun d => ∃ z, d = .str z ∧ w xc ρ fun x => ∃ ys : List Str, x = .lst (ys.map .str) ∧ (ys.map (·.length)).sum + ys.length * z.length ≤ 16777216 ∧ Q (.str (PySem.Txt.join z ys))
theorem ej_join {apos : Pos} (ho : EJ .e E X o wa) (he : EJ k E X e w) (hs : starEach [e] X.env = [(false, eval e X.env)] := by rfl) (hbase : attributeBase o "join" X.env (eval o X.env) = eval o X.env := by rfl) (hline : (apos.endLine == pos.line) = true := by rfl) :
    EJ .e E X (.Call (.Attribute o "join" apos) [e] [] pos) (wJoin wa w) := by
  refine ⟨(pe_join ho.pe he.pe hs hbase hline).imp fun σ H Q ⟨G0, H0, G, ρ, xc, R, T, q⟩ => ⟨G0, H0, G, ρ, xc, R, T, ho.mo _ _ _ _ (fun d ⟨z, ed, q1⟩ G1 H1 v x1 r1 => ?_) q⟩,
    fun xc ρ Q Q' i q => ho.mo _ _ _ _ (fun d ⟨z, ed, q⟩ => ⟨z, ed, he.mo _ _ _ _ (fun x ⟨ys, ex, b, q⟩ => ⟨ys, ex, b, i _ q⟩) q⟩) q⟩
  subst ed
  cases r1
  refine ⟨⟨z, rfl⟩, G0, H0, G1, ρ, xc, R.ext x1, T, he.mo _ _ _ _ (fun x ⟨ys, ex, bd, q2⟩ G2 H2 v2 x2 r2 => ?_) q1⟩
  subst ex
  obtain ⟨pp, vs, rfl, h1, rr⟩ := rvO_lst x2.gh r2.o
  rw [rps_strs rr] at h1
  exact ⟨z, pp, ys, rfl, rfl, .inl (SqL.of h1), bd, q2 G2 H2 _ (x1.trans x2) (.str _)⟩
end
end Tw

/-! Tw, part Z2: == by an own __eq__, isinstance of an own class, xs[i] = e, min, max, order of tuples, reverse, clear, objects made of lent lists. -/
namespace Tw
open PySem PySem.Spec L2 PyProof.Rows
section
variable {X : Cx} {K : PySem.W.Frag} {E : XK} {e a b c o : Expr} {es : List Expr} {w wa wb wc : Wx} {k ka kb : Kd} {pos p : Pos} {u ut : Wa} {st : Stmt} {rest body : List Stmt} {s s1 s2 : Ws}
/-! ### a == b by the class's own __eq__ -/
def rEqO (C : Addr) (sp : Sp) (E : XK) : R2 := fun x y H Q => ∃ a dx fs b dy gs, x = .ref a ∧ y = .ref b ∧ H a = some (.ins C dx fs) ∧ H b = some (.ins C dy gs) ∧ sp [.ref a, .ref b] H (fun v H' => ∃ t, v = .bl t ∧ Q (.bl t) H') E
theorem op_eqO {C f : Addr} {fd : FuncData} {ps : List Str} {j : Nat} {sp : Sp} (F : FnOk X.prog X.w X.K X.mg X.base (L2.CX X.prog X.w) j f fd ps sp) (hm : Meth X.K C "__eq__" f) (hb : Binds X.K fd ps []) (hr : Room j X.A) (hx : Passes (L2.CX X.prog X.w) X E) :
    OpR X (compareOp .Eq) (rEqO C sp E) := by
  intro pins s σ H x y v u Q I rx ry h
  obtain ⟨a, dx, fs, b, dy, gs, rfl, rfl, ha, hb', q⟩ := h
  cases rx; cases ry
  obtain ⟨mA, J, _⟩ := ins_get I.hok ha
  obtain ⟨mB, J', _⟩ := ins_get I.hok hb'
  obtain ⟨od, J, _⟩ := J.look
  obtain ⟨od', J', _⟩ := J'.look
  obtain ⟨m, hF⟩ := I.fr
  show wpAny _ X.A (richCompare .Eq (.ref a) (.ref b)) _ _ s
  refine PySem.W.cmp_K (op := .Eq) (tb := .ref C) hr.units0 hF I.ok.mod.kin J J'.type (by simp [PySem.W.notFirst]) hm.at_ hm.fn ?_
  have hl := F.len _ _ _ _ q
  refine wpAny_call (codeAny_mono (F.run X.A X.stack s H ⟨[.ref a, .ref b], []⟩ [.ref a, .ref b] [.ref a, .ref b] _ E hr I.env0 (by
    simpa using hb s [.ref a, .ref b] I.kIn (by simpa using hl)) (.cons rfl (.cons rfl .nil)) q) fun r s' hq => ?_)
  cases r with
  | error e => exact hx pins σ H s e s' I hq
  | ok fl =>
    cases fl with
    | ret w =>
      obtain ⟨z, H', I', rz, t, ez, qt⟩ := I.after hq
      subst ez; cases rz
      exact ⟨.bl t, H', I', rfl, qt⟩
    | next => exact False.elim hq
    | brk => exact False.elim hq
    | cont => exact False.elim hq
def wEqO (C : Addr) (wf : Wf) (wa wb : Wx) : Wx := fun xc ρ Q => wa xc ρ fun x => wb xc ρ fun y => (∃ fs, x = .obj C fs) ∧ (∃ gs, y = .obj C gs) ∧ wf xc [x, y] fun _ v => ∃ t, v = .bl t ∧ Q (.bl t)
theorem ej_eqO {C : Addr} {j : Nat} {wf : Wf} (F : MDef X.prog X.w X.K X.mg X.base C "__eq__" 2 j wf) (hr : Room j X.A) (hx : Passes (L2.CX X.prog X.w) X E) (ha : EJ .e E X a wa) (hb : EJ .e E X b wb) : EJ .e E X (.Compare a [.Eq] [b] pos) (wEqO C wf wa wb) := by
  obtain ⟨f, fd, ps, Fo, hm, bd⟩ := F.ex
  refine ⟨(pe_cmpR (op_eqO Fo hm bd hr hx) ha.pe hb.pe (nomark _)).imp fun σ H Q ⟨G0, H0, G, ρ, xc, R, T, q⟩ => ⟨G0, H0, G, ρ, xc, R, T, ha.mo _ _ _ _ (fun x q1 G1 H1 v1 x1 r1 => ⟨G0, H0, G1, ρ, xc, R.ext x1, T, hb.mo _ _ _ _ (fun y q2 G2 H2 v2 x2 r2 => ?_) q1⟩) q⟩,
    fun xc ρ Q Q' i q => ha.mo _ _ _ _ (fun x q => hb.mo _ _ _ _ (fun y ⟨h1, h2, q⟩ => ⟨h1, h2, F.mo _ _ _ _ (fun fr v ⟨t, e, q⟩ => ⟨t, e, i _ q⟩) q⟩) q) q⟩
  obtain ⟨⟨fs, ex⟩, ⟨gs, ey⟩, q3⟩ := q2
  subst ex ey
  have r1' : Rp X.K G2 (.obj C fs) v1 := Rp.mono x2.gg r1
  have r2' : Rp X.K G2 (.obj C gs) v2 := r2
  obtain ⟨p1, dx, vf, rfl, h1, _⟩ := rvO_obj x2.gh (.inl r1')
  obtain ⟨p2, dy, vg, rfl, h2, _⟩ := rvO_obj x2.gh (.inl r2')
  refine ⟨p1, dx, vf, p2, dy, vg, rfl, rfl, h1, h2, rfl, G2, _, xc, x2.gh, .cons r1' (.cons r2' .nil), T.later (R.ex.trans (x1.trans x2)), F.mo _ _ _ _ (fun fr d ⟨t, ed, q4⟩ G' H' v x3 r3 => ?_) q3⟩
  subst ed
  have e3 : v = .bl t := by
    cases fr with
    | false => exact rvO_bl (G := G') (H := H') (.inl r3)
    | true => obtain ⟨_, o, _, _, _, t, _⟩ := r3; cases o <;> exact t.elim
  exact ⟨t, e3, q4 G' H' _ (x1.trans (x2.trans x3)) (.bl t)⟩
/-! ### isinstance(e, C) of an instance of C -/
def wIsO (C : Addr) (w : Wx) : Wx := fun xc ρ Q => w xc ρ fun d => (∃ fs, d = .obj C fs) ∧ Q (.bl true)
theorem ej_isO {C : Addr} {x : Str} {p2 : Pos} (c : C8.InsC X.K C) (hmC : X.mg x = some (.ref C)) (ha : EJ .e E X a w) (hg : Gl X "isinstance") (hm : X.mg "isinstance" = none) (hg2 : Gl X x) (hd : (x == ("__debug__" : Str)) = false := by decide)
    (hst : starEach [a, .Name x p2] X.env = (false, eval a X.env) :: starEach [.Name x p2] X.env := by rfl) (hst2 : starEach [(.Name x p2)] X.env = (false, eval (.Name x p2) X.env) :: starEach [] X.env := by rfl) (hpl : (backTo pos (starEach [(.Name x p2)] X.env)).any (·.1) = false := by rfl) :
    EJ .e E X (.Call (.Name "isinstance" p) [a, .Name x p2] [] pos) (wIsO C w) := by
  have hpa := pa_cons ha.pe (pa_cons (pe_glob (pos := p2) hg2 hmC (show RelV (.ref C) (.ref C) from rfl) hd) pa_nil hst2) hst
  have h := pe_callB (p := p) (pos := pos) (C8.call_isC c) hg hm (by decide +kernel) hpa (by decide) (by decide) hst hpl
  refine ⟨h.imp fun σ H Q ⟨G0, H0, G, ρ, xc, R, T, q⟩ => ⟨G0, H0, G, ρ, xc, R, T, ha.mo _ _ _ _ (fun d ⟨⟨fs, ed⟩, q1⟩ G1 H1 v x1 r1 => ?_) q⟩, fun xc ρ Q Q' i q => ha.mo _ _ _ _ (fun d ⟨ed, q⟩ => ⟨ed, i _ q⟩) q⟩
  subst ed
  obtain ⟨l, dx, vf, rfl, hl, _⟩ := rvO_obj x1.gh (.inl r1)
  exact ⟨l, dx, vf, rfl, hl, q1 G1 H1 _ x1 (.bl _)⟩
/-! ### xs[i] = e, xs an own list -/
def sIput (i : Nat) (wi w : Wx) : Ws := fun Z ρ => w Z.xc ρ fun v => ∃ ds, ρ[i]? = some (.ow (.lst ds)) ∧ wi Z.xc ρ fun d => ∃ (n : Int) (j : Nat), d = .int n ∧ ixN ds.length n = some j ∧ Z.nx (ρ.set i (.ow (.lst (ds.set j v))))
theorem sj_iput {n : Expr} {i : Nat} {pos' : Pos} (hv : PE X n (tVar i)) (hi : EJ k E X a wa) (he : EJ .e E X e w) (hs : swapsWithSole [.Subscript n a pos'] e pos.line X.env = pure false := by rfl) (hw : swappedStores [.Subscript n a pos'] e X.env = pure none := by rfl)
    (h1 : (assignEach [.Subscript n a pos'] X.env).map (·.2) = [assign (.Subscript n a pos') X.env] := by rfl)
    (h2 : ∀ v, assign (.Subscript n a pos') X.env v = (do
      let ov ← holding [v] (eval n X.env)
      let iv ← holding [v, ov] (eval a X.env)
      standAt pos'
      holding [v, ov, iv] (setItem ov iv v)
      release [v, ov, iv] []) := by intro _; rfl) : SJ E X (.Assign [.Subscript n a pos'] e pos) (sIput i wa w) :=
  ⟨(ps_asg he.pe (pg_sub hv hi.pe set_list h2) hs hw h1).imp fun D' σ H ⟨G0, H0, G, ρ, Z, R, T, q⟩ => ⟨G0, H0, G, ρ, Z.xc, R, T.xc, he.mo _ _ _ _ (fun v q1 G1 H1 vv x1 r1 => by
    obtain ⟨ds, hi0, q2⟩ := q1
    have R1 := R.ext x1
    obtain ⟨l, vs, e1, e2, r⟩ := own_lst R1 hi0
    refine ⟨_, e1, G0, H0, G1, ρ, Z.xc, R1, T.xc, hi.mo _ _ _ _ (fun d ⟨m, j, ed, hj, q3⟩ G2 H2 iv x2 r2 => ?_) q2⟩
    subst ed
    rw [rvO_int r2.o]
    refine ⟨l, vs, m, j, rfl, rfl, x2.hh _ _ e2, by rw [← r.length]; exact hj, ?_⟩
    exact T.nx _ _ _ _ ((R1.ext x2).chg hi0 e1 (show Top X.K G2 (.lst (ds.set j v)) (.lst (vs.set j vv)) from Rps.set (r1.mono x2.gg) j (r.mono x2.gg))) (x1.gg.trans x2.gg) q3) q⟩⟩
/-! ### min, max of two whole numbers -/
def oMin2 : OpN
  | [.int i, .int j], Q => Q (.int (if j < i then j else i))
  | _, _ => False
def oMax2 : OpN
  | [.int i, .int j], Q => Q (.int (if j > i then j else i))
  | _, _ => False
theorem rvOs_2 {G H : Hp} {x y : D} {vs : List V} (h : RvOs K G H [x, y] vs) : ∃ v z, vs = [v, z] ∧ RvO K G H x v ∧ RvO K G H y z := by
  cases h with | cons h r => cases r with | cons h2 r => cases r; exact ⟨_, _, rfl, h, h2⟩
theorem brg_min2 : BrgN K .e oMin2 (fun xs H Q => ∃ i j, xs = [V.int i, V.int j] ∧ Q (V.int (if j < i then j else i)) H) := by
  refine ⟨fun ds G H vs Q Q2 g r q kk => ?_, fun ds Q Q' i q => ?_⟩
  · unfold oMin2 at q
    split at q
    · obtain ⟨v, z, rfl, h1, h2⟩ := rvOs_2 r
      rw [rvO_int h1, rvO_int h2]
      exact ⟨_, _, rfl, kk _ q G H _ (.refl g) (.int _)⟩
    · exact q.elim
  · unfold oMin2 at q ⊢
    split at q
    · exact i _ q
    · exact q.elim
theorem brg_max2 : BrgN K .e oMax2 (fun xs H Q => ∃ i j, xs = [V.int i, V.int j] ∧ Q (V.int (if j > i then j else i)) H) := by
  refine ⟨fun ds G H vs Q Q2 g r q kk => ?_, fun ds Q Q' i q => ?_⟩
  · unfold oMax2 at q
    split at q
    · obtain ⟨v, z, rfl, h1, h2⟩ := rvOs_2 r
      rw [rvO_int h1, rvO_int h2]
      exact ⟨_, _, rfl, kk _ q G H _ (.refl g) (.int _)⟩
    · exact q.elim
  · unfold oMax2 at q ⊢
    split at q
    · exact i _ q
    · exact q.elim
theorem ej_min2 (hc : X.calm = true) (hg : Gl X "min") (hm : X.mg "min" = none) (ha : EJ ka E X a wa) (hb : EJ kb E X b wb) (hst : starEach [a, b] X.env = (false, eval a X.env) :: starEach [b] X.env := by rfl) (hst2 : starEach [b] X.env = (false, eval b X.env) :: starEach [] X.env := by rfl) (hpl : (backTo pos (starEach [b] X.env)).any (·.1) = false := by rfl) :
    EJ .e E X (.Call (.Name "min" p) [a, b] [] pos) (wN oMin2 (waCons wa (waCons wb waNil))) :=
  let h := aj_consO ha (aj_consO hb (aj_nil (kk := false)) hst2) hst
  ej_N h (pe_callB (call_min2 hc) hg hm (by decide +kernel) h.pa (by decide) (by decide) hst hpl) brg_min2
theorem ej_max2 (hc : X.calm = true) (hg : Gl X "max") (hm : X.mg "max" = none) (ha : EJ ka E X a wa) (hb : EJ kb E X b wb) (hst : starEach [a, b] X.env = (false, eval a X.env) :: starEach [b] X.env := by rfl) (hst2 : starEach [b] X.env = (false, eval b X.env) :: starEach [] X.env := by rfl) (hpl : (backTo pos (starEach [b] X.env)).any (·.1) = false := by rfl) :
    EJ .e E X (.Call (.Name "max" p) [a, b] [] pos) (wN oMax2 (waCons wa (waCons wb waNil))) :=
  let h := aj_consO ha (aj_consO hb (aj_nil (kk := false)) hst2) hst
  ej_N h (pe_callB (call_max2 hc) hg hm (by decide +kernel) h.pa (by decide) (by decide) hst hpl) brg_max2
/-! ### t < t', tuples of whole numbers -/
def oLtT : Op2 := fun x y Q => ∃ ns ms : List Int, x = tI ns ∧ y = tI ms ∧ Q (.bl (HT.lexLt ns ms))
theorem brg_ltT : Brg2 K .e oLtT (rLtT K) := by
  refine ⟨fun x y G H vx vy Q Q2 g rx ry ⟨ns, ms, ex, ey, q⟩ kk => ?_, fun x y Q Q' i ⟨ns, ms, ex, ey, q⟩ => ⟨ns, ms, ex, ey, i _ q⟩⟩
  subst ex ey
  obtain ⟨p1, v1, rfl, h1, r1⟩ := rvO_tup g rx
  obtain ⟨p2, v2, rfl, h2, r2⟩ := rvO_tup g ry
  rw [rps_ints r1] at h1
  rw [rps_ints r2] at h2
  exact ⟨p1, p2, ns, ms, rfl, rfl, h1, h2, kk _ q G H _ (.refl g) (.bl _)⟩
theorem ej_ltT (hu : X.A.units + 65 < cLine) (ha : EJ ka E X a wa) (hb : EJ kb E X b wb) : EJ .e E X (.Compare a [.Lt] [b] pos) (w2 oLtT wa wb) := ej_2 ha hb (pe_cmpR (op_ltT (by omega)) ha.pe hb.pe (nomark _)) brg_ltT
theorem tj_ltT (hu : X.A.units + 65 < cLine) (ha : EJ ka E X a wa) (hb : EJ kb E X b wb) : TJ E X (.Compare a [.Lt] [b] pos) (wB (w2 oLtT wa wb)) := tj_2 ha hb (pt_cmpR (op_ltT (by omega)) ha.pe hb.pe (nomark _)) brg_ltT
/-! ### xs.reverse(), xs.clear() -/
theorem sj_revS {apos cpos : Pos} {i : Nat} {n : Expr} (hv : PE X n (tVar i)) 
    (h1 : attributeBase n "reverse" X.env (eval n X.env) = eval n X.env := by rfl) (h3 : (apos.endLine == cpos.line) = true := by rfl) (hs : swapsWith (.Call (.Attribute n "reverse" apos) [] [] cpos) none pos.line X.env = pure false := by rfl) :
    SJ E X (.Expr (.Call (.Attribute n "reverse" apos) [] [] cpos) pos) (sRev i) :=
  sj_rev (ps_expr (pe_bm0 PySem.F.plainAttrs_list PySem.F.slot_list_reverse PySem.F.type_list_reverse mt_reverse hv h1 h3) hs)
theorem sj_clrS {apos cpos : Pos} {i : Nat} {n : Expr} (hv : PE X n (tVar i)) 
    (h1 : attributeBase n "clear" X.env (eval n X.env) = eval n X.env := by rfl) (h3 : (apos.endLine == cpos.line) = true := by rfl) (hs : swapsWith (.Call (.Attribute n "clear" apos) [] [] cpos) none pos.line X.env = pure false := by rfl) :
    SJ E X (.Expr (.Call (.Attribute n "clear" apos) [] [] cpos) pos) (sClr i) :=
  sj_clr (ps_expr (pe_bm0 PySem.F.plainAttrs_list PySem.F.slot_list_clear PySem.F.type_list_clear mt_clear hv h1 h3) hs)
/-! ### C(..) whose arguments are lent: the new object has nothing of them -/
mutual
def D.noL : D → Bool
  | .non => true | .bl _ => true | .int _ => true | .str _ => true
  | .tup xs => D.noLs xs | .xtp xs => D.noLs xs | .obj _ fs => D.noLf fs
  | .lst _ => false | .fls _ => false | .dK _ => false | .dT _ => false
def D.noLs : List D → Bool
  | [] => true
  | x :: xs => D.noL x && D.noLs xs
def D.noLf : List (Str × D) → Bool
  | [] => true
  | (_, x) :: xs => D.noL x && D.noLf xs
end
def HO.isTop : HO → Bool
  | .lst _ => true | .dK _ => true | .dT _ => true
  | _ => false
section
variable {G G' : Hp} (cut : ∀ a o, G a = some o → HO.isTop o = false → G' a = some o)
include cut
mutual
theorem Rp.cut : ∀ {d : D} {v : V}, Rp K G d v → d.noL = true → Rp K G' d v
  | _, _, .non, _ => .non
  | _, _, .bl b, _ => .bl b
  | _, _, .int i, _ => .int i
  | _, _, .str x, _ => .str x
  | _, _, .tup h r, n => by
    rw [D.noL] at n
    refine .tup ?_ (Rps.cut r n)
    rcases h with (h | ⟨o, h⟩) | h
    · exact .inl (.inl (cut _ _ h rfl))
    · exact .inl (.inr ⟨o, cut _ _ h rfl⟩)
    · exact .inr h
  | _, _, .xtp h c m r, n => by rw [D.noL] at n; exact .xtp (cut _ _ h rfl) c m (Rps.cut r n)
  | _, _, .obj h r, n => by rw [D.noL] at n; exact .obj (cut _ _ h rfl) (Rfs.cut r n)
  | _, _, .lst _ _, n => by rw [D.noL] at n; cases n
  | _, _, .fls _ _, n => by rw [D.noL] at n; cases n
  | _, _, .dK _ _, n => by rw [D.noL] at n; cases n
  | _, _, .dT _ _, n => by rw [D.noL] at n; cases n
theorem Rps.cut : ∀ {d : List D} {v : List V}, Rps K G d v → D.noLs d = true → Rps K G' d v
  | _, _, .nil, _ => .nil
  | _, _, .cons h r, n => by rw [D.noLs, Bool.and_eq_true] at n; exact .cons (Rp.cut h n.1) (Rps.cut r n.2)
theorem Rfs.cut : ∀ {d : List (Str × D)} {v : List (Str × V)}, Rfs K G d v → D.noLf d = true → Rfs K G' d v
  | _, _, .nil, _ => .nil
  | _, _, .cons h r, n => by rw [D.noLf, Bool.and_eq_true] at n; exact .cons (Rp.cut h n.1) (Rfs.cut r n.2)
end
end
theorem top_isTop {G : Hp} {d : D} {o : HO} (t : Top K G d o) : HO.isTop o = true := by
  cases d <;> cases o <;> first | exact t.elim | rfl
theorem rvs_lend2 {G H : Hp} (g : Same G H) : ∀ {ds : List D} {vs : List V}, RvOs K G H ds vs → ∃ G', Same G G' ∧ Same G' H ∧ Rps K G' ds vs ∧ ∀ a o, G' a = some o → G a = some o ∨ HO.isTop o = true
  | _, _, .nil => ⟨G, Same.refl _, g, .nil, fun _ _ h => .inl h⟩
  | _, _, .cons h r => by
    obtain ⟨G1, s1, s2, r1, t1⟩ := rvs_lend2 g r
    rcases h with h | ⟨p, o, rfl, e2, t⟩
    · exact ⟨G1, s1, s2, .cons (h.mono s1) r1, t1⟩
    · have sg : Same G1 (fun b => if b = p then some o else G1 b) := fun b u e => by
        show (if b = p then some o else G1 b) = some u
        by_cases z : b = p
        · subst z; rw [if_pos rfl, ← e2]; exact s2 _ _ e
        · rw [if_neg z]; exact e
      refine ⟨fun b => if b = p then some o else G1 b, s1.trans sg, fun b u e => ?_, .cons (Top.rp (t.mono (s1.trans sg)) (if_pos rfl)) (r1.mono sg), fun b u e => ?_⟩
      · by_cases z : b = p
        · subst z
          have e' : some o = some u := (if_pos rfl).symm.trans e
          rw [← e']; exact e2
        · exact s2 _ _ ((if_neg z).symm.trans e)
      · by_cases z : b = p
        · subst z
          have e' : some o = some u := (if_pos rfl).symm.trans e
          cases e'
          exact .inr (top_isTop t)
        · exact t1 _ _ ((if_neg z).symm.trans e)
def wMakeKS (C : Addr) (n m : Nat) (gD : List D → List D → List D) (wi : Wi) (u ut : Wa) : Wx := fun xc ρ Q => u xc ρ fun ds => ut xc ρ fun es => ds.length = n ∧ es.length = m ∧ wi xcNo (gD ds es) fun fs => D.noLf fs = true ∧ Q (.obj C fs)
theorem ej_makeKS {x : Str} {C : Addr} {n j : Nat} {ks : List Str} {gD : List D → List D → List D} {wi : Wi} {kws : List Keyword} (F : Ctor X.prog X.w X.K X.mg X.base x C n ks j gD wi) (hr : Room (j + 1) X.A) (hg : Gl X x) (hx : Passes (L2.CX X.prog X.w) X E) (ha : AJ false E X (e :: es) u) (hk : KJ E X kws ut)
    (h1 : ((backToKw pos (keywordEach kws X.env)).all fun x => x.1.isSome) = true := by rfl) (h2 : List.filterMap (fun x => x.1) (backToKw pos (keywordEach kws X.env)) = ks := by rfl) (h3 : (x == ("__debug__" : Str)) = false := by decide)
    (h4 : starEach (e :: es) X.env = (false, eval e X.env) :: starEach es X.env := by rfl) (h5 : (((backTo pos (starEach (e :: es) X.env)).any fun x => x.1) || (backToKw pos (keywordEach kws X.env)).any fun x => x.1.isNone) = false := by rfl) :
    EJ .e E X (.Call (.Name x p) (e :: es) kws pos) (wMakeKS C n ks.length gD wi u ut) := by
  obtain ⟨f, fd, ps, g, gV, gR, m, M, Fo, hb, hm, hv, hd, hn⟩ := F.ex
  refine ⟨(pe_makeK M Fo hr hg hm hb hx ha.pa hk.pk h1 h2 h3 h4 h5).imp fun σ H Q ⟨G0, H0, G, ρ, xc, R, T, q⟩ => ⟨G0, H0, G, ρ, xc, R, T, ha.mo _ _ _ _ (fun ds q1 G1 H1 vs x1 r1 => ?_) q⟩, fun xc ρ Q Q' i q => ha.mo _ _ _ _ (fun ds q => hk.mo _ _ _ _ (fun es q => ⟨q.1, q.2.1, F.mo _ _ _ _ (fun fs q => ⟨q.1, i _ q.2⟩) q.2.2⟩) q) q⟩
  rw [if_neg Bool.false_ne_true] at r1
  refine ⟨G0, H0, G1, ρ, xc, R.ext x1, T, hk.mo _ _ _ _ (fun es ⟨l1, l2, q2⟩ G2 H2 zs x2 r2 => ?_) q1⟩
  rw [if_pos rfl] at r2
  have r1' : RvOs X.K G2 H2 ds vs := by
    have go : ∀ {ds : List D} {vs : List V}, RvOs X.K G1 H1 ds vs → RvOs X.K G2 H2 ds vs := by
      intro ds vs h
      induction h with
      | nil => exact .nil
      | cons h r ih => exact .cons (h.ext x2) ih
    exact go r1
  obtain ⟨G3, g1, g2, r3, t3⟩ := rvs_lend2 x2.gh r1'
  have lv : vs.length = n := by rw [← r3.length]; exact l1
  have lz : zs.length = ks.length := by rw [← r2.length]; exact l2
  refine ⟨lv, lz, fun y dx hy hdx ne => ?_⟩
  rw [hv y vs zs lv lz]
  have r4 := hd G3 ds es vs zs r3 (r2.mono g1)
  refine ini_go g2 hy hdx ne r4 (by rw [← r4.length]; exact hn _ _ _ q2) tieNo F.mo q2 fun fs ⟨nl, qf⟩ G' H' v x3 rv => ?_
  let Gc : Hp := fun b => if G2 b = none ∧ H2 b ≠ none then none else G' b
  have xe : Ext G2 H2 Gc H' := by
    refine ⟨fun b u e => ?_, x3.hh, fun b u e => ?_, fun b hb gb => ?_⟩
    · show (if G2 b = none ∧ H2 b ≠ none then none else G' b) = some u
      rw [if_neg (fun z => by rw [z.1] at e; cases e)]
      exact x3.gg _ _ (g1 _ _ e)
    · have e' : (if G2 b = none ∧ H2 b ≠ none then none else G' b) = some u := e
      split at e'
      · cases e'
      · exact x3.gh _ _ e'
    · show (if G2 b = none ∧ H2 b ≠ none then none else G' b) = none
      rw [if_pos ⟨gb, hb⟩]
  refine qf Gc H' v (x1.trans (x2.trans xe)) (Rp.cut (fun b o e t => ?_) rv (by rw [D.noL]; exact nl))
  show (if G2 b = none ∧ H2 b ≠ none then none else G' b) = some o
  split
  · rename_i z
    exfalso
    cases q3 : G3 b with
    | none => have := x3.gn b z.2 q3; rw [this] at e; cases e
    | some o' =>
      have e2 := x3.gg _ _ q3
      rw [e] at e2
      cases e2
      rcases t3 _ _ q3 with h | h
      · rw [z.1] at h; cases h
      · rw [t] at h; cases h
  · exact e
end
end Tw

/-! Tw, part Z3: enumerate of a tuple; tuple(x) of a tuple whose class is known. -/
namespace Tw
open PySem PySem.Spec L2 PyProof.Rows
abbrev itOf (t : Addr) : Obj := { cls := .type "tuple_iterator", data := .fields #[.ref t, .int 0 0] }
abbrev enOf (i : Addr) : Obj := { cls := .type "enumerate", data := .fields #[.none, .bool false, .ref i, rawInt 0, .none, .none] }
section
open AutoSeq1 (wpAny_loadPart')
/-- enumerate.__new__ over a tuple -/
theorem enum_newT (t : Addr) (ob : Obj) (items : Array Value) (hT : ob.cls = .type "tuple") (hD : ∃ n, ob.data = .seq items n) :
    Meets (Builtin.«enumerate.__new__» ⟨[.type "enumerate", .ref t], []⟩) (fun _ R s => s.heap.get? t = some ob ∧ R (.ok (.ret (.ref (s.heap.push (itOf t)).objs.size))) { s with heap := (s.heap.push (itOf t)).push (enOf s.heap.objs.size) }) :=
  .of_wp fun prog w A R s h => by
    obtain ⟨hp, g, d, tk, os⟩ := s
    obtain ⟨ho, hr⟩ := h
    have en := sub_enumerate
    have isT : Heap.IsTuple (Shared.heap ⟨hp, g, d, tk, os⟩) t items := ⟨_, ho, hT, hD⟩
    wp_walk using wpAny_loadPart' ho
    refine wpAny_stack_any fun st => wpAny_pure ?_
    split
    · rename_i cc _ _ _ _ _
      cases (cc == Value.type "enumerate") <;> (wp_walk using wpAny_loadPart' ho, wpAny_pyIter_tuple isT; exact ⟨_, rfl, hr⟩)
    · wp_walk using wpAny_loadPart' ho, wpAny_pyIter_tuple isT
      exact ⟨_, rfl, hr⟩
end
section
variable {P : Program} {w : World} {A : Around} {E : Value → Shared → Prop} {s : Shared}
theorem call_enumT {t : Addr} {items : Array Value} {Q : Value → Shared → Prop} (hL : s.heap.IsTuple t items)
    (h : ∀ h', IsEnum h' (s.heap.objs.size + 1) s.heap.objs.size 0 .none → h'.IsTupleIter s.heap.objs.size t 0 → (∀ b o, s.heap.get? b = some o → h'.get? b = some o) → Q (.ref (s.heap.objs.size + 1)) { s with heap := h' }) :
    wpAny (model P w) A (call (.type "enumerate") [.ref t]) Q E s := by
  obtain ⟨ob, ho, hc, hd⟩ := hL
  have sz : (s.heap.push (itOf t)).objs.size = s.heap.objs.size + 1 := Heap.size_push ..
  refine callType_new F.called_enumerate (by decide) (F.typeCall_enumerate_1 _) (F.newCall_enumerate_1 _) (fun obj => F.args_object_init_2 obj _) F.entry_enumerate_new (enum_newT t ob items hc hd) ⟨ho, ?_⟩
  show _ ∧ _
  rw [sz]
  have en : IsEnum ((s.heap.push (itOf t)).push (enOf s.heap.objs.size)) (s.heap.objs.size + 1) s.heap.objs.size 0 .none := by
    rw [← sz]; exact Heap.get?_push_size _ rfl
  exact ⟨⟨_, en, rfl⟩, h _ en ⟨_, Heap.get?_push_of_some _ (Heap.get?_push_size _ rfl), rfl, rfl⟩ fun b o x => Heap.get?_push_of_some _ (Heap.get?_push_of_some _ x)⟩
/-- a tuple's iterator, drawn from -/
theorem draws_tup (hh : A.handled = none) (it t : Addr) (hne : t ≠ it) (items : Array Value) : Draws P w A it [it, t] items.size (fun i v => items[i]? = some v) (fun i h => h.IsTupleIter it t i ∧ h.IsTuple t items) where
  live := fun i h ⟨⟨o, ho, _⟩, _⟩ => ⟨o, ho⟩
  frame := fun i h h' ⟨⟨o, ho, r⟩, ⟨o2, ho2, r2⟩⟩ k => ⟨⟨o, k it (by simp) _ ho, r⟩, ⟨o2, k t (by simp) _ ho2, r2⟩⟩
  item := fun i s Q E hi ⟨h1, h2⟩ hQ => RZ.nextOf_tuple_item h1 h2 (x := items[i]) (by simp [hi]) fun h' h3 sb => hQ _ h' s.toks (by simp [hi]) ⟨h3, h2.extBut sb.extBut hne⟩ sb
  done := fun s Q E ⟨h1, h2⟩ hE => RZ.nextOf_tuple_end hh h1 h2 (by simp) hE
end
/-- the turns of enumerate over the tuple at a -/
def IteT (K : PySem.W.Frag) (a : Addr) : It :=
  ⟨fun i H => ∃ (xs : List V) (x : V), SqT K H a xs ∧ xs[i]? = some x, fun i H v H' => ∃ T x, v = .ref T ∧ H T = none ∧ H' = upd H T (.tup [.int (i : Nat), x]) ∧ ∀ xs, SqT K H a xs → xs[i]? = some x, fun i H => ∃ xs : List V, SqT K H a xs ∧ xs.length ≤ i⟩

theorem turn_enumT {P : Program} {w : World} {K : PySem.W.Frag} {elts : List Expr} {kk : Nat} {tpos : Pos} (a e it : Addr) :
    Turn P w K (.Tuple elts kk tpos) (IteT K a) [e, it] e (fun i h => (∃ old, IsEnum h e it ((i : Nat) : Int) old) ∧ h.IsTupleIter it a i ∧ e ≠ it) where
  mem := by simp
  obj := by
    rintro i h ⟨⟨old, he⟩, ⟨o, ho, hc, hd⟩, _⟩ b hb
    rcases List.mem_cons.mp hb with z | hb
    · rw [z]; exact ⟨_, he, fun v q => nomatch q⟩
    · rw [List.mem_singleton.mp hb]; exact ⟨o, ho, fun v q => by rw [hd] at q; cases q⟩
  keep := by
    rintro i h h' ⟨⟨old, he⟩, ⟨o, ho, r⟩, ne⟩ k
    exact ⟨⟨old, k e (by simp) _ he⟩, ⟨o, k it (by simp) _ ho, r⟩, ne⟩
  item := by
    intro X hP hw hK hc i pins s σ H E I hf st hg
    subst hP hw hK
    obtain ⟨⟨old, he⟩, hit, ne⟩ := st
    obtain ⟨xs, x, hq, hx⟩ := hg
    obtain ⟨its, rv, tp, hz⟩ := I.tuple hq
    obtain ⟨u, hu, ru⟩ := rv.get hx
    have tup : s.heap.IsTuple a its.toArray := tp
    have lt : i < its.toArray.size := by
      rw [List.size_toArray]; exact (List.getElem?_eq_some_iff.mp hu).1
    have el : e < s.heap.objs.size := Heap.lt_size he
    have il : it < s.heap.objs.size := let ⟨_, q, _⟩ := hit; Heap.lt_size q
    have nt : a ≠ it := fun z => by
      subst z
      obtain ⟨o1, g1, c1, _⟩ := tup
      obtain ⟨o2, g2, c2, _⟩ := hit
      rw [g1] at g2; cases g2; rw [c1] at c2; exact absurd c2 (by decide)
    have ea : e ≠ a := fun z => by
      subst z
      obtain ⟨o1, g1, c1, _⟩ := tup
      rw [he] at g1; cases g1; exact absurd (show Value.type "enumerate" = Value.type "tuple" from c1) (by decide)
    have hh : X.A.in1.handled = none := by simpa using I.ok.hd hc
    refine wpAny_pyNext_enum_itemD (draws_tup hh it a nt its.toArray) he ⟨hit, tup⟩ lt ne (by simp [ne, ea]) fun y h' tk hy ho st' hT hsz hk => ?_
    have ey : y = u := by
      have : its[i]? = some y := by simpa using hy
      rw [hu] at this; exact (Option.some.inj this).symm
    subst ey
    refine ⟨_, rfl, wpAny_letOwnedTupleGo_enum (s := { s with heap := h', toks := tk + 1 }) ho fun h2 he2 sb => ?_⟩
    have hT2 : h2.get? s.heap.objs.size = some { cls := .type "tuple", data := .seq #[.int i tk, y] } := (sb.2 _ (Nat.ne_of_gt el)).trans hT
    have new : ObjOk X.prog X.w (upd H s.heap.objs.size (.tup [.int (i : Nat), x])) h2 s.heap.objs.size (.tup [.int (i : Nat), x]) :=
      ⟨by show 2 ≤ sizeLine; decide, [.int i tk, y], .cons ⟨_, rfl⟩ (.cons ru .nil), ⟨_, hT2, rfl, _, rfl⟩⟩
    have I1 : Inv X pins σ (upd H s.heap.objs.size (.tup [.int (i : Nat), x])) { s with heap := h2, toks := tk + 1 } :=
      I.turnedNew (ch := [e, it]) (fun b ob hb q => (sb.2 b (fun z => hb (by simp [z]))).trans (hk b ob (fun z => hb (by simp [z])) (fun z => hb (by simp [z])) q)) hf (Nat.le_refl _) new
    refine ⟨.ref s.heap.objs.size, _, I1, rfl, ⟨_, x, rfl, I.hok.fresh (Nat.le_refl _), rfl, fun ys hy => by rw [I.tuple_inj hy hq]; exact hx⟩, ⟨⟨y, ?_⟩, ?_, ne⟩, fun b hb => ?_⟩
    · have e1 : ((i + 1 : Nat) : Int) = (i : Int) + 1 := by omega
      rw [e1]; exact he2
    · obtain ⟨o, ho3, r⟩ := st'.1
      exact ⟨o, (sb.2 it (Ne.symm ne)).trans ho3, r⟩
    · have lb : b < s.heap.objs.size := by
        rcases List.mem_cons.mp hb with z | hb
        · rw [z]; exact el
        · rw [List.mem_singleton.mp hb]; exact il
      rw [upd_ne (Nat.ne_of_lt lb)]
      exact (hf b hb).1
  done := by
    intro X hP hw hK hc i pins s σ H E I hf st hg
    subst hP hw hK
    obtain ⟨⟨old, he⟩, hit, ne⟩ := st
    obtain ⟨xs, hq, hx⟩ := hg
    obtain ⟨its, rv, tp, hz⟩ := I.tuple hq
    have tup : s.heap.IsTuple a its.toArray := tp
    have hl := rv.length
    have nt : a ≠ it := fun z => by
      subst z
      obtain ⟨o1, g1, c1, _⟩ := tup
      obtain ⟨o2, g2, c2, _⟩ := hit
      rw [g1] at g2; cases g2; rw [c1] at c2; exact absurd c2 (by decide)
    have hh : X.A.in1.handled = none := by simpa using I.ok.hd hc
    obtain ⟨f0, f1, f2, f3, f4, f5⟩ := hf it (by simp)
    have D : Draws X.prog X.w X.A.in1 it [it, a] i (fun i v => its.toArray[i]? = some v) (fun j h => j = i ∧ h.IsTupleIter it a i ∧ h.IsTuple a its.toArray) := by
      refine ⟨fun j h ⟨_, ⟨o, ho, _⟩, _⟩ => ⟨o, ho⟩, fun j h h' ⟨ej, ⟨o, ho, r⟩, ⟨o2, ho2, r2⟩⟩ k => ⟨ej, ⟨o, k it (by simp) _ ho, r⟩, ⟨o2, k a (by simp) _ ho2, r2⟩⟩, fun j s Q E hi ⟨ej, _⟩ hQ => absurd ej (by omega), fun s Q E ⟨_, h1, h2⟩ hE => ?_⟩
      exact RZ.nextOf_tuple_end hh h1 h2 (by simp; omega) hE
    exact wpAny_pyNext_enum_endD D he ⟨rfl, hit, tup⟩ fun h' eb => ⟨rfl, I.turned (t' := s.toks) (fun b o hb q => eb b o hb q) f0 f1 f3 f4 f5⟩
  self := fun A i s Q E st h => let ⟨⟨_, he⟩, _⟩ := st; wpAny_pyIter_enum he h
section
variable {X : Cx} {K : PySem.W.Frag} {E : XK} {e a : Expr} {w wa : Wx} {k ka : Kd} {pos p : Pos}
/-- enumerate of a list or a tuple -/
def iEnumA (K : PySem.W.Frag) (ta : TA) : TI := fun σ H R => ta σ H fun vs H1 => ∃ a, vs = [.ref a] ∧ ((∃ xs, SqL K H1 a xs ∧ R (Ite K a) H1) ∨ ∃ xs, SqT K H1 a xs ∧ R (IteT K a) H1)
theorem pi_enumA {ta : TA} {tpos : Pos} {elts : List Expr} {kk : Nat} (hg : Gl X "enumerate") (hm : X.mg "enumerate" = none) (ha : PA X [e] ta) (hs : starEach [e] X.env = [(false, eval e X.env)] := by rfl) :
    PI X (.Tuple elts kk tpos) (.Call (.Name "enumerate" p) [e] [] pos) (iEnumA X.K ta) := by
  refine ⟨fun pins s σ H R I h => Call_ (ld_blt I hg hm boot_enumerate (PyProof.Rows.callWith_type1 (thn (ha.run pos pins s σ H _ I h) fun us s1 ⟨vs, H1, I1, r1, q1⟩ => ?_) hs rfl))⟩
  obtain ⟨a, ex, q⟩ := q1
  subst ex
  obtain ⟨_, rfl, r⟩ := vals1 r1
  cases r
  have fp : ∀ b ∈ [s1.heap.objs.size + 1, s1.heap.objs.size], FpOk X pins H1 b := fun b hb => by
    have hle : s1.heap.objs.size ≤ b := by
      rcases List.mem_cons.mp hb with z | hb
      · omega
      · have := List.mem_singleton.mp hb; omega
    exact I1.fpOk hle (I1.hok.fresh hle)
  rcases q with ⟨xs, hq, q⟩ | ⟨xs, hq, q⟩
  · obtain ⟨its, rv, pl, hz⟩ := I1.list hq
    refine call_enumerate_list pl.isList fun h' he hit hsz hk => wpAny_pyIter_enum he ?_
    exact ⟨s1.heap.objs.size + 1, [s1.heap.objs.size + 1, s1.heap.objs.size], _, _, H1, rfl, I1.kept (t' := s1.toks) hk, turn_enum a _ _, ⟨⟨.none, he⟩, hit, Nat.succ_ne_self _⟩, fp, q⟩
  · obtain ⟨its, rv, pl, hz⟩ := I1.tuple hq
    refine call_enumT (show s1.heap.IsTuple a its.toArray from pl) fun h' he hit hk => wpAny_pyIter_enum he ?_
    exact ⟨s1.heap.objs.size + 1, [s1.heap.objs.size + 1, s1.heap.objs.size], _, _, H1, rfl, I1.kept (t' := s1.toks) hk, turn_enumT a _ _, ⟨⟨.none, he⟩, hit, Nat.succ_ne_self _⟩, fp, q⟩
theorem wk_enumT {a : Addr} {vs : List V} {G : Hp} {ds : List D} (h : SqT K G a vs) (r : Rps K G ds vs) : Wk K (IteT K a) G (ds.zipIdx.map fun q => .tup [.int q.2, q.1]) where
  stop := fun G' H' g1 g2 => ⟨vs, sqT_mono (g1.trans g2) h, by simp [r.length]⟩
  go := fun i G' H' hi g1 g2 => by
    have hv : i < vs.length := by rw [← r.length]; simpa using hi
    exact ⟨vs, vs[i], sqT_mono (g1.trans g2) h, by simp [hv]⟩
  yld := fun i G' H' x H2 hi g1 g2 ⟨t, y, ex, ht, eH, hy⟩ => by
    subst ex eH
    obtain ⟨d, hd, rd⟩ := r.get' (hy vs (sqT_mono (g1.trans g2) h))
    have x2 := Ext.new (o := .tup [V.int ↑i, y]) g2 ht
    refine ⟨_, .tup [.int i, d], x2, ?_, .tup (SqT.of upd_same) (.cons (.int _) (.cons (rd.mono (g1.trans x2.gg)) .nil))⟩
    rw [List.getElem?_map, List.getElem?_zipIdx, hd]
    simp
def wiEnA (w : Wx) : Wa := fun xc ρ Q => w xc ρ fun d => ∃ xs, d.seq = some xs ∧ Q (xs.zipIdx.map fun q => .tup [.int q.2, q.1])
theorem ij_enumA {elts : List Expr} {kk : Nat} {tpos : Pos} (ha : EJ .e E X a w) (hg : Gl X "enumerate") (hm : X.mg "enumerate" = none) (hst : starEach [a] X.env = [(false, eval a X.env)] := by rfl) : IJ E X (.Tuple elts kk tpos) (.Call (.Name "enumerate" p) [a] [] pos) (wiEnA w) := by
  refine ⟨(pi_enumA hg hm (pa_cons ha.pe pa_nil hst) hst).imp fun σ H R' ⟨G0, H0, G, ρ, xc, R, T, q⟩ => ⟨G0, H0, G, ρ, xc, R, T, ha.mo _ _ _ _ (fun d ⟨xs, ed, q1⟩ G1 H1 v x1 r1 => ?_) q⟩, fun xc ρ Q Q' i q => ha.mo _ _ _ _ (fun d ⟨xs, ed, q⟩ => ⟨xs, ed, i _ q⟩) q⟩
  cases d <;> cases ed
  · cases r1 with | tup h r => exact ⟨_, rfl, .inr ⟨_, sqT_mono x1.gh h, q1 G1 H1 _ x1 (wk_enumT h r)⟩⟩
  · cases r1 with | lst h r => exact ⟨_, rfl, .inl ⟨_, SqL.of (x1.gh _ _ h), q1 G1 H1 _ x1 (wk_enum (SqL.of h) r)⟩⟩
  · cases r1 with | fls h r => exact ⟨_, rfl, .inl ⟨_, x1.gh.seq h, q1 G1 H1 _ x1 (wk_enum h r)⟩⟩
  · cases r1 with | xtp h c m r => exact ⟨_, rfl, .inr ⟨_, .inl (.inr ⟨_, x1.gh _ _ h⟩), q1 G1 H1 _ x1 (wk_enumT (.inl (.inr ⟨_, h⟩)) r)⟩⟩
/-- tuple(x), x a list, or a tuple whose class is known -/
def wTupX2 (w : Wx) : Wx := fun xc ρ Q => w xc ρ fun d => ∃ xs, (d = .lst xs ∨ d = .fls xs ∨ d = .xtp xs) ∧ Q (.xtp xs)
theorem callr_or {f : Value} {r r' : List V → Hp → VK → Prop} (h : CallR X f r) (h' : CallR X f r') : CallR X f (fun xs H Q => r xs H Q ∨ r' xs H Q) := fun pins s σ H xs us Q I rv q => q.elim (fun q => h pins s σ H xs us Q I rv q) fun q => h' pins s σ H xs us Q I rv q
theorem ej_tupleX2 (hg : Gl X "tuple") (hm : X.mg "tuple" = none) (ha : EJ k E X a w) (hst : starEach [a] X.env = (false, eval a X.env) :: starEach [] X.env := by rfl) : EJ .e E X (.Call (.Name "tuple" p) [a] [] pos) (wTupX2 w) := by
  have h := pe_callTy (p := p) (pos := pos) (callr_or (call_tupleX (X := X)) call_tupleT) hg hm (by decide +kernel) (pa_cons ha.pe pa_nil hst) (by decide) (by decide) hst rfl
  refine ⟨h.imp fun σ H Q ⟨G0, H0, G, ρ, xc, R, T, q⟩ => ⟨G0, H0, G, ρ, xc, R, T, ha.mo _ _ _ _ (fun d ⟨xs, ed, q1⟩ G1 H1 v x1 r1 => ?_) q⟩, fun xc ρ Q Q' i q => ha.mo _ _ _ _ (fun d ⟨xs, ed, q⟩ => ⟨xs, ed, i _ q⟩) q⟩
  have lst : ∀ {p : Addr} {vs : List V}, SqL X.K H1 p vs → Rps X.K G1 xs vs → _ ∨ _ := fun {p vs} h r => Or.inl (b := ∃ a ys, [V.ref p] = [V.ref a] ∧ SqT X.K H1 a ys ∧ Q (.ref a) H1) (show ∃ p' ys, [V.ref p] = [V.ref p'] ∧ SqL X.K H1 p' ys ∧ ∀ l (o : Obj), H1 l = none → o.cls = .type "tuple" → o.dict = none → Q (.ref l) (upd H1 l (.frz o (.tup ys))) from ⟨p, vs, rfl, h, fun l o hl hc hn => by
    have x2 := Ext.new (o := .frz o (.tup vs)) x1.gh hl
    exact q1 _ _ _ (x1.trans x2) (.xtp upd_same hc hn (r.mono x2.gg))⟩)
  rcases ed with rfl | rfl | rfl
  · obtain ⟨p, vs, rfl, h, r⟩ := rvO_lst x1.gh r1.o
    exact lst (SqL.of h) r
  · obtain ⟨p, vs, rfl, h, r⟩ := rvO_fls x1.gh r1.o
    exact lst h r
  · have r2 := r1.o
    rcases r2 with r2 | ⟨_, o, _, _, t⟩
    · cases r2 with | xtp h c m r => exact .inr ⟨_, _, rfl, .inl (.inr ⟨_, x1.gh _ _ h⟩), q1 _ _ _ x1 (.xtp h c m r)⟩
    · cases o <;> exact t.elim
end
end Tw

/-! Tw, part Z4: sorted(x) of whole numbers, x a list or a tuple. -/
namespace Tw
open PySem PySem.Spec L2 PyProof.Rows
abbrev h1Of (h : Heap) (vs : List Value) : Heap := (h.push (seqObj "list" #[] 0)).update h.objs.size (Obj.mapSeq (· ++ vs.toArray))
section
variable {P : Program} {w : World} {A : Around} {E : Value → Shared → Prop} {s : Shared}
/-- what is drawn from a tuple at once -/
theorem collect_tupT {t : Addr} {vs : List Value} {Q : List Value → Shared → Prop} (ht : s.heap.IsTuple t vs.toArray) (lim : vs.length ≤ sizeLine)
    (h : Q vs { s with heap := h1Of s.heap vs }) : wpAny (model P w) A (collect (.ref t)) Q E s := by
  obtain ⟨ob, at_, cl, k, dt⟩ := id ht
  unfold collect
  refine wpAny_bind (wpAny_runValue (codeAny_builtin entry_proto_collect' ?_))
  show wpAny _ _ (do again (.builtin "list.__iadd__" ⟨[← newList [], .ref t], []⟩)) _ _ s
  refine wpAny_bind (wpAny_newList (wpAny_pure ⟨Code.quiet_builtin _ (by decide +kernel), codeAny_builtin entry_list_iadd' ?_⟩))
  have at2 : (s.heap.push (seqObj "list" #[] 0)).get? t = some ob := Heap.get?_push_of_some _ at_
  show wpAny _ _ (Builtin.List.listExtendWith (.ref s.heap.objs.size) (.ref t) (.ref s.heap.objs.size)) _ _ { s with heap := s.heap.push (seqObj "list" #[] 0) }
  unfold Builtin.List.listExtendWith
  refine wpAny_bind (wpAny_typeOf (T := "tuple") ⟨ob, at2, cl⟩ ?_)
  have yes : (Value.type "tuple" == Value.type "tuple") = true := by rfl
  rw [if_pos (by rw [yes]; simp)]
  refine wpAny_bind (listItems_at at2 dt (wpAny_bind (listItems_at (xs := #[]) (n := 0) (Heap.get?_push_size _ rfl) rfl ?_)))
  rw [if_neg (by simp)]
  refine wpAny_bind (listUpdate_at (xs := #[]) (n := 0) (Heap.get?_push_size _ rfl) rfl (wpAny_pure ?_) (Nat.zero_le _) (by
    show (#[] ++ vs.toArray).size ≤ sizeLine + 1
    simp only [Array.size_append, List.size_toArray, List.length_nil]; omega))
  show wpAny (model P w) A (do
    let o ← load s.heap.objs.size
    match o.data with
    | .seq xs _ => pure xs.toList
    | _ => unsupported "internal:collect") Q E { s with heap := h1Of s.heap vs }
  refine wpAny_bind (wpAny_load (get?_update_seq (Heap.get?_push_size _ rfl) _) ?_)
  show wpAny _ _ (pure ((#[] : Array Value) ++ vs.toArray).toList) Q E _
  have all : ((#[] : Array Value) ++ vs.toArray).toList = vs := by simp
  rw [all]
  exact wpAny_pure h
/-- sorted(t) of a tuple -/
theorem sorted_tupO {t : Addr} {vs : List Value} {ltv : Value → Value → Bool} {Q : Value → Shared → Prop} (O : SrtO.Swo ltv) (ht : s.heap.IsTuple t vs.toArray) (lim : vs.length ≤ sizeLine)
    (hS : 2 ≤ vs.length → ∀ (h2 : Heap) (a : Addr), h2.get? a = some (seqObj "list" vs.toArray 0) → SrtO.SortableO P w A.in1.in1 { s with heap := h2 } a vs ltv)
    (h : ∀ out : List Value, SrtO.Srtd ltv out → SrtO.Stb ltv out vs → Q (.ref (s.heap.objs.size + 1)) { s with heap := sortedAll s.heap vs out.toArray }) :
    wpAny (model P w) A (call (.builtin "sorted") [.ref t]) Q E s := by
  refine Calls.call_function_entry kind_sorted plain_sorted entry_sorted (args_sorted1 _) ?_
  unfold Builtin.«sorted»
  refine wpAny_bind (m := checkCount "sorted" 1 1 _) (wpAny_pure (wpAny_bind (collect_tupT ht lim (wpAny_bind (wpAny_newList ?_ lim)))))
  have sz : (h1Of s.heap vs).objs.size = s.heap.objs.size + 1 := by rw [Heap.size_update, size_push']
  have at2 : ((h1Of s.heap vs).push (seqObj "list" vs.toArray 0)).get? (s.heap.objs.size + 1) = some (seqObj "list" vs.toArray 0) := by rw [← sz]; exact Heap.get?_push_size _ rfl
  show wpAny _ _ _ _ _ { s with heap := (h1Of s.heap vs).push (seqObj "list" vs.toArray 0) }
  rw [sz]
  refine wpAny_bind (wpAny_holding (wpAny_call_entry slot_list_sort ⟨_, at2, rfl⟩ entry_list_sort (SrtO.list_sort_ord O at2 lim (fun two => hS two _ _ at2) fun out o1 o2 => ⟨_, rfl, ?_⟩) (args_list_sort _)))
  exact wpAny_pure ⟨_, rfl, h out o1 o2⟩
end
section
variable {X : Cx} {K : PySem.W.Frag} {E : XK} {e a : Expr} {w : Wx} {k : Kd} {pos p : Pos}
def rSortIT (K : PySem.W.Frag) : List V → Hp → VK → Prop := fun vs H Q => ∃ (a : Addr) (ns : List Int), vs = [V.ref a] ∧ SqT K H a (ns.map V.int) ∧ ∀ (ms : List Int) (p : Addr), ms.Perm ns → ms.Pairwise (· ≤ ·) → H p = none → Q (.ref p) (upd H p (.lst (ms.map V.int)))
theorem cr_sortIT : CallR X (.builtin "sorted") (rSortIT X.K) := by
  intro pins s σ H vs us Q I r h
  obtain ⟨a, ns, rfl, hs, q⟩ := h
  obtain ⟨its, rv, ht, hz⟩ := I.tuple hs
  rw [Vals.ref1 r]
  have hi := rv.ints
  refine sorted_tupO SrtO.swo_int (show s.heap.IsTuple a its.toArray from ht) (by rw [← rv.length]; exact hz) (fun two h2 a' _ => SrtO.ints_sortable hi two) fun out o1 o2 => ?_
  obtain ⟨k1, k2, k3⟩ := SrtO.ints_out hi o1 o2
  obtain ⟨ep, he'⟩ := PyProof.Rows.sortedAll_at s.heap its out.toArray
  have lim : ((out.map SrtO.iv).map V.int).length ≤ sizeLine := by
    rw [List.length_map] at hz ⊢
    rw [k2.length_eq]
    exact hz
  exact ⟨.ref _, upd H (s.heap.objs.size + 1) (.lst ((out.map SrtO.iv).map V.int)), I.laid (t' := s.toks) (fun _ _ => PyProof.Rows.sortedAll_old) (Nat.le_succ _) ⟨lim, out, ep, vals_of_ints k1, he'⟩, rfl, q _ _ k2 k3 (I.hok.fresh (Nat.le_succ _))⟩
def oSortA : OpN := fun ds Q => ∃ ns : List Int, (ds = [.lst (ns.map .int)] ∨ ds = [tI ns]) ∧ ∀ ms : List Int, ms.Perm ns → ms.Pairwise (· ≤ ·) → Q (.lst (ms.map .int))
theorem brg_sortA : BrgN K .f oSortA (fun xs H Q => rSortedI K xs H Q ∨ rSortIT K xs H Q) := by
  refine ⟨fun ds G H vs Q Q2 g r ⟨ns, ed, q⟩ kk => ?_, fun ds Q Q' i ⟨ns, ed, q⟩ => ⟨ns, ed, fun ms a b => i _ (q ms a b)⟩⟩
  rcases ed with ed | ed
  · exact .inl (brg_sortI.go ds G H vs Q Q2 g r ⟨ns, ed, q⟩ kk)
  · subst ed
    obtain ⟨v, rfl, rv⟩ := rvOs_1 r
    obtain ⟨pp, vs, rfl, h1, r1⟩ := rvO_tup g rv
    rw [rps_ints r1] at h1
    exact .inr ⟨pp, ns, rfl, h1, fun ms l hp hs hl => kk _ (q ms hp hs) _ _ _ (Ext.newH g hl) ⟨l, _, rfl, hl, upd_same, ints_rps ms, g.free hl⟩⟩
theorem ej_sortA (hg : Gl X "sorted") (hm : X.mg "sorted" = none) (ha : EJ k E X a w) (hst : starEach [a] X.env = (false, eval a X.env) :: starEach [] X.env := by rfl) : EJ .f E X (.Call (.Name "sorted" p) [a] [] pos) (wN oSortA (waCons w waNil)) :=
  let h := aj_consO ha (aj_nil (kk := false)) hst
  ej_N h (pe_callB (callr_or cr_sortedI cr_sortIT) hg hm (by decide +kernel) h.pa (by decide) (by decide) hst rfl) brg_sortA
end
end Tw

/-! What each def of the first stage's laws keeps, over plain data. -/
namespace Tw.S
open PySem PySem.Spec L2 PyProof.Rows Tw
/-! data -/
def iL (l : List Int) : D := .lst (l.map .int)
def sL (l : List Str) : D := .lst (l.map .str)
def t2 (l : List (List Int)) : D := .tup (l.map tI)
def t3 (l : List (List (List Int))) : D := .tup (l.map t2)
def l2 (l : List (List Int)) : D := .lst (l.map iL)
def l3 (l : List (List (List Int))) : D := .lst (l.map l2)
def pL (l : List (List Int)) : D := .lst (l.map tI)
/-- a list, or a tuple whose class is known -/
def qD (t : Bool) (l : List D) : D := if t = true then .xtp l else .lst l
structure Tie where
  a : Str
  b : Str
  w : Str
  at_ : List Int
def tieD (t : Tie) : D := .tup [.str t.a, .str t.b, .str t.w, tI t.at_]
def tsL (l : List Tie) : D := .lst (l.map tieD)
def letters : Str := "abcdefghijklmnopqrstuvwxyz"
def isName (z : Str) : Bool := decide (1 ≤ z.length) && decide (z.length ≤ 8) && z.cps.toList.all fun c => decide (c ∈ letters.cps.toList)
def climbs (l : List Int) : Bool := (List.range (l.length - 1)).all fun i => decide (l.getD i 0 < l.getD (i + 1) 0)
def isSet (l : List Int) (n : Int) : Bool := (l.all fun x => decide (0 ≤ x) && decide (x < n)) && climbs l
/-- names that a web takes -/
structure NamesOk (names : List Str) : Prop where
  lo : 1 ≤ names.length
  hi : names.length ≤ 8
  nm : ∀ x ∈ names, isName x = true
  nd : names.Nodup
structure TieOk (names : List Str) (beats : Int) (t : Tie) : Prop where
  a : t.a ∈ names
  b : t.b ∈ names
  ne : t.a ≠ t.b
  w : t.w = "two" ∨ t.w = "one"
  at0 : t.at_ ≠ []
  at_ : isSet t.at_ beats = true
structure TiesOk (names : List Str) (beats : Int) (ts : List Tie) : Prop where
  le : ts.length ≤ 100
  ok : ∀ t ∈ ts, TieOk names beats t
def cnt (z : Str) (ts : List Tie) : Nat := (ts.filter fun t => t.a == z || t.b == z).length
def Few (ts : List Tie) : Prop := ∀ z, cnt z ts ≤ 28
/-- does a tie lead from u to v at the beat -/
def Tie.leads (t : Tie) (b : Int) (u v : Str) : Bool := decide (b ∈ t.at_) && ((t.a == u && t.b == v) || (t.b == u && t.a == v && t.w == "two"))
def leads (ts : List Tie) (b : Int) (u v : Str) : Bool := ts.any fun t => t.leads b u v
/-- passages: beat, from, to -/
abbrev Psg := Nat → Nat → Nat → Bool
def rowF (n : Nat) (p : Nat → Bool) : List Int := ((List.range n).filter p).map fun i : Nat => (i : Int)
def tabF (n c : Nat) (L : Psg) : List (List (List Int)) := (List.range c).map fun b => (List.range n).map fun u => rowF n (L b u)
def psgOf (names : List Str) (ts : List Tie) : Psg := fun b u v => leads ts b (names.getD u "") (names.getD v "")
def nextsT (names : List Str) (ts : List Tie) (c : Nat) : List (List (List Int)) := tabF names.length c (psgOf names ts)
def stepsF (l : List Int) (u : Nat) : List Int := ((u : Int) :: l).mergeSort (fun a b => decide (a ≤ b))
def stepsT (nx : List (List (List Int))) : List (List (List Int)) := nx.map fun r => r.zipIdx.map fun q => stepsF q.1 q.2
def webD (C : Addr) (names : List Str) (c : Nat) (nx : List (List (List Int))) : D := .obj C [("places", .xtp (names.map .str)), ("beats", .int c), ("_nexts", t3 nx), ("_steps", t3 (stepsT nx))]
/-- a web of these passages -/
def webP (C : Addr) (names : List Str) (c : Nat) (L : Psg) : D := webD C names c (tabF names.length c L)
/-! the ties of passages, in their one form -/
def beatsF (c : Nat) (p : Nat → Bool) : List Int := ((List.range c).filter p).map fun i : Nat => (i : Int)
def pairTies (names : List Str) (c : Nat) (L : Psg) (u v : Nat) : List Tie :=
  [⟨names.getD u "", names.getD v "", "two", beatsF c fun b => L b u v && L b v u⟩, ⟨names.getD u "", names.getD v "", "one", beatsF c fun b => L b u v && !L b v u⟩, ⟨names.getD v "", names.getD u "", "one", beatsF c fun b => L b v u && !L b u v⟩].filter fun t => !t.at_.isEmpty
def rowTies (names : List Str) (c : Nat) (L : Psg) (u : Nat) : List Tie := (List.range (names.length - (u + 1))).flatMap fun i => pairTies names c L u (u + 1 + i)
def tiesP (names : List Str) (c : Nat) (L : Psg) : List Tie := (List.range names.length).flatMap (rowTies names c L)
/-! the specs -/
/-- one thing told and the same due -/
inductive Sm : Nat → D → D → Prop
  | non {n} : Sm n .non .non
  | bl {n} (b : Bool) : Sm n (.bl b) (.bl b)
  | int {n} (i : Int) : Sm n (.int i) (.int i)
  | str {n} (z : Str) : PyData.strOk z = true → Sm n (.str z) (.str z)
  | tup {n} {xs ys : List D} : xs.length = ys.length → (∀ q ∈ xs.zip ys, Sm n q.1 q.2) → Sm (n + 1) (.tup xs) (.tup ys)
  | lst {n} {xs ys : List D} : xs.length = ys.length → (∀ q ∈ xs.zip ys, Sm n q.1 q.2) → Sm (n + 1) (.lst xs) (.lst ys)
/-- .. and what comes of it -/
inductive SmB : Nat → D → D → Bool → Prop
  | sm {n} {g d : D} : Sm n g d → SmB n g d true
  | bl {n} (b c : Bool) : SmB n (.bl b) (.bl c) (b == c)
  | str {n} (y z : Str) : PyData.strOk y = true → PyData.strOk z = true → SmB n (.str y) (.str z) (y == z)
def wfSame (n : Nat) : Wf := fun _ ds Q => ∃ g d b, ds = [g, d] ∧ SmB n g d b ∧ Q false (.bl b)
def wf_law_same : Wf := wfSame 5
def wf_law_is_int : Wf := fun _ ds Q => ∃ i : Int, ds = [.int i] ∧ Q false (.bl true)
def wf_is_name : Wf := fun _ ds Q => ∃ z, ds = [.str z] ∧ z.length ≤ sizeLine ∧ Q false (.bl (isName z))
def wf_is_set : Wf := fun _ ds Q => ∃ (l : List Int) (n : Int), ds = [tI l, .int n] ∧ l.length ≤ sizeLine ∧ Q false (.bl (isSet l n))
def wf_Web___len__ (C : Addr) : Wf := fun _ ds Q => ∃ names c nx, ds = [webD C names c nx] ∧ Q false (.int names.length)
def wf_Web___eq__ (C : Addr) : Wf := fun _ ds Q => ∃ names c nx names' c' nx', ds = [webD C names c nx, webD C names' c' nx'] ∧ NamesOk names ∧ NamesOk names' ∧ Q false (.bl (decide (names = names') && decide (nx = nx')))
def wf_check_place (C : Addr) : Wf := fun _ ds Q => ∃ names c nx p, ds = [webD C names c nx, .int p] ∧ 0 ≤ p ∧ p < names.length ∧ names.length ≤ 8 ∧ Q false .non
def wf_Web_steps (C : Addr) : Wf := fun _ ds Q => ∃ names c nx p b row cell, ds = [webD C names c nx, .int p, .int b] ∧ 0 ≤ p ∧ p < names.length ∧ names.length ≤ 8 ∧ 0 < c ∧ (stepsT nx)[(b % (c : Int)).toNat]? = some row ∧ row[p.toNat]? = some cell ∧ Q false (tI cell)
def wf_law_draws : Wf := fun _ ds Q => ∃ (sc : List Int) (k n : Nat), ds = [.fls (sc.map .int), .int k, .int n] ∧ sc.length ≤ 63 ∧ k ≤ 63 ∧ n ≤ 1000 ∧ ∀ l : List Int, l.length = n → (∀ x ∈ l, 0 ≤ x ∧ x < 1000) → Q true (iL l)
def wf_law_names : Wf := fun _ ds Q => ∃ (l : List Int) (at_ n : Nat), ds = [iL l, .int at_, .int n] ∧ (∀ x ∈ l, 0 ≤ x ∧ x < 1000) ∧ at_ + 2 < l.length ∧ 1 ≤ n ∧ n ≤ 8 ∧ ∀ names, names.length = n → NamesOk names → Q true (sL names)
def wf_law_any_names : Wf := fun _ ds Q => ∃ (sc : List Int) (k n : Nat), ds = [.fls (sc.map .int), .int k, .int n] ∧ sc.length ≤ 63 ∧ k ≤ 63 ∧ 1 ≤ n ∧ n ≤ 8 ∧ ∀ names, names.length = n → NamesOk names → Q true (sL names)
structure CodeRow where
  v : Nat
  u : Nat
  codes : List Int
  rest : Int
def codeD (r : CodeRow) : D := .lst [.int r.v, .int r.u, iL r.codes, .int r.rest]
structure CodeOk (n c : Nat) (r : CodeRow) : Prop where
  lt : r.v < r.u
  hi : r.u < n
  len : r.codes.length = c
  cd : ∀ x ∈ r.codes, 0 ≤ x ∧ x ≤ 3
def codePairs (n : Nat) : List (Nat × Nat) := (List.range n).flatMap fun u => (List.range u).map fun v => (v, u)
def wf_law_codes : Wf := fun _ ds Q => ∃ (l : List Int) (at_ n c : Nat) (kind thin : Int), ds = [iL l, .int at_, .int n, .int c, .int kind, .int thin] ∧ (∀ x ∈ l, 0 ≤ x ∧ x < 1000) ∧ at_ + 28 < l.length ∧ n ≤ 8 ∧ 1 ≤ c ∧ c ≤ 4 ∧
  ∀ rs : List CodeRow, (rs.map fun r => (r.v, r.u)) = codePairs n → (∀ r ∈ rs, CodeOk n c r) → Q true (.lst (rs.map codeD))
def wf_law_pair_ties : Wf := fun _ ds Q => ∃ (x y : Str) (codes : List Int) (style : Int), ds = [.str x, .str y, iL codes, .int style] ∧ PyData.strOk x = true ∧ PyData.strOk y = true ∧ codes.length ≤ 4 ∧
  ∀ ts : List Tie, (∀ t ∈ ts, ((t.a = x ∧ t.b = y) ∨ (t.a = y ∧ t.b = x)) ∧ (t.w = "two" ∨ t.w = "one") ∧ t.at_ ≠ [] ∧ isSet t.at_ codes.length = true) → ts.length ≤ (if style = 1 then 4 else 3) →
    (x ≠ y → ∀ b : Nat, (leads ts b x y = decide (codes.getD b 0 = 1 ∨ codes.getD b 0 = 2)) ∧ (leads ts b y x = decide (codes.getD b 0 = 1 ∨ codes.getD b 0 = 3))) → Q true (tsL ts)
def wf_law_any_ties : Wf := fun _ ds Q => ∃ (l : List Int) (names : List Str) (c : Nat), ds = [iL l, sL names, .int c] ∧ (∀ x ∈ l, 0 ≤ x ∧ x < 1000) ∧ l.length = 40 ∧ NamesOk names ∧ 1 ≤ c ∧ c ≤ 4 ∧ ∀ ts, TiesOk names c ts → Few ts → Q false (tsL ts)
def wf_law_table : Wf := fun _ ds Q => ∃ (names : List Str) (ts : List Tie) (c : Nat), ds = [sL names, tsL ts, .int c] ∧ NamesOk names ∧ TiesOk names c ts ∧ Few ts ∧ 1 ≤ c ∧ c ≤ 4 ∧ Q true (l3 (nextsT names ts c))
def wf_law_any_web : Wf := fun _ ds Q => ∃ (sc : List Int) (k k' : Nat), ds = [.fls (sc.map .int), .int k, .int k', .int 8, .int 4] ∧ sc.length ≤ 63 ∧ k ≤ 63 ∧ k' ≤ 63 ∧ ∀ names ts (c : Nat), NamesOk names → TiesOk names c ts → 1 ≤ c → c ≤ 4 → Q true (.lst [sL names, tsL ts, .int c, l3 (nextsT names ts c)])
def wf_law_web_is (C : Addr) : Wf := fun _ ds Q => ∃ (names : List Str) (c : Nat) (L : Psg), ds = [webP C names c L, sL names, .int c, l3 (tabF names.length c L)] ∧ NamesOk names ∧ 1 ≤ c ∧ c ≤ 4 ∧ Q false (.bl true)
def wi_Web : Wi := fun _ ds Q => ∃ (t t' : Bool) (names : List Str) (ts : List Tie) (c : Nat), ds = [qD t (names.map .str), qD t' (ts.map tieD), .int c] ∧ NamesOk names ∧ TiesOk names c ts ∧ 1 ≤ c ∧ c ≤ 4 ∧ Q [("places", .xtp (names.map .str)), ("beats", .int c), ("_nexts", t3 (nextsT names ts c)), ("_steps", t3 (stepsT (nextsT names ts c)))]
def wf_check_names : Wf := fun _ ds Q => ∃ t names, ds = [qD t (names.map .str)] ∧ NamesOk names ∧ Q false .non
def wf_is_tie : Wf := fun _ ds Q => ∃ (t' : Bool) (names : List Str) (t : Tie) (c : Nat), ds = [qD t' (names.map .str), tieD t, .int c] ∧ NamesOk names ∧ TieOk names c t ∧ c ≤ 4 ∧ t.at_.length ≤ sizeLine ∧ Q false (.bl true)
def wf_check_ties : Wf := fun _ ds Q => ∃ (t t' : Bool) (names : List Str) (ts : List Tie) (c : Nat), ds = [qD t (names.map .str), qD t' (ts.map tieD), .int c] ∧ NamesOk names ∧ TiesOk names c ts ∧ c ≤ 4 ∧ (∀ t ∈ ts, t.at_.length ≤ sizeLine) ∧ Q false .non
def wf_nexts_at : Wf := fun _ ds Q => ∃ (kvs : List (List Key × D)) (b n : Nat), ds = [.dT kvs, .int b, .int n] ∧ n ≤ 8 ∧ Q false (t2 ((List.range n).map fun u : Nat => rowF n fun v => hasD kvs [.inl (b : Int), .inl (u : Int), .inl (v : Int)]))
def wf_nexts_of : Wf := fun _ ds Q => ∃ (t : Bool) (names : List Str) (ts : List Tie) (c : Nat), ds = [.xtp (names.map .str), qD t (ts.map tieD), .int c] ∧ NamesOk names ∧ TiesOk names c ts ∧ 1 ≤ c ∧ c ≤ 4 ∧ Q false (t3 (nextsT names ts c))
def wf_steps_of : Wf := fun _ ds Q => ∃ nx : List (List (List Int)), ds = [t3 nx] ∧ nx.length ≤ 4 ∧ (∀ r ∈ nx, r.length ≤ 8 ∧ ∀ l ∈ r, l.length ≤ 8) ∧ Q false (t3 (stepsT nx))
def wf_ties_between : Wf := fun _ ds Q => ∃ (names : List Str) (c u v : Nat) (L : Psg), ds = [.xtp (names.map .str), t3 (tabF names.length c L), .int u, .int v] ∧ names.length ≤ 8 ∧ u < names.length ∧ v < names.length ∧ c ≤ 4 ∧ Q true (tsL (pairTies names c L u v))
def wf_ties_of : Wf := fun _ ds Q => ∃ (names : List Str) (c : Nat) (L : Psg), ds = [.xtp (names.map .str), t3 (tabF names.length c L)] ∧ names.length ≤ 8 ∧ c ≤ 4 ∧ Q true (tsL (tiesP names c L))
def wf_Web_ties (C : Addr) : Wf := fun _ ds Q => ∃ (names : List Str) (c : Nat) (L : Psg), ds = [webP C names c L] ∧ names.length ≤ 8 ∧ c ≤ 4 ∧ Q true (tsL (tiesP names c L))
def gD_K_Web_2_beats : List D → List D → List D := fun a b => a ++ b
/-! k01's own -/
def wf_law_equal (C : Addr) : Wf := fun _ ds Q => ∃ names c nx names' c' nx', ds = [webD C names c nx, webD C names' c' nx', .bl (decide (names = names') && decide (nx = nx'))] ∧ NamesOk names ∧ NamesOk names' ∧ Q false (.bl true)
/-- a tie that stands right in the one form behind the key last -/
structure KeyOk (names : List Str) (c : Nat) (L : Psg) (last : List Int) (t : Tie) (u v : Nat) : Prop where
  hu : u < names.length
  hv : v < names.length
  ne : u ≠ v
  ea : t.a = names.getD u ""
  eb : t.b = names.getD v ""
  w : t.w = "two" ∨ t.w = "one"
  at0 : t.at_ ≠ []
  at_ : isSet t.at_ c = true
  l1 : ∀ b : Nat, (b : Int) ∈ t.at_ → L b u v = true ∧ (L b v u = (t.w == "two"))
  two : t.w = "two" → u < v
def keyF (t : Tie) (u v : Nat) : List Int := [((min u v : Nat) : Int), ((max u v : Nat) : Int), if t.w = "two" then 0 else if u > v then 2 else 1]
def wf_law_tie_key : Wf := fun _ ds Q => ∃ (names : List Str) (c : Nat) (L : Psg) (last : List Int) (t : Tie) (u v : Nat), ds = [tieD t, sL names, l3 (tabF names.length c L), tI last] ∧ NamesOk names ∧ c ≤ 4 ∧ KeyOk names c L last t u v ∧ HT.lexLt last (keyF t u v) = true ∧ Q false (tI (keyF t u v))
def wf_law_one_form : Wf := fun _ ds Q => ∃ (names : List Str) (c : Nat) (L : Psg), ds = [tsL (tiesP names c L), sL names, l3 (tabF names.length c L)] ∧ NamesOk names ∧ c ≤ 4 ∧ (∀ b u, L b u u = false) ∧ Q false (.bl true)
def wf_law_rewritten : Wf := fun _ ds Q => ∃ (names : List Str) (c : Nat) (L : Psg) (l : List Int), ds = [sL names, l3 (tabF names.length c L), iL l] ∧ NamesOk names ∧ 1 ≤ c ∧ c ≤ 4 ∧ (∀ b u, L b u u = false) ∧ (∀ x ∈ l, 0 ≤ x ∧ x < 1000) ∧ l.length = 40 ∧
  ∀ ts, TiesOk names c ts → nextsT names ts c = tabF names.length c L → Q false (tsL ts)
def flip (L : Psg) (b0 u0 v0 : Nat) : Psg := fun b u v => if b = b0 ∧ u = u0 ∧ v = v0 then !L b u v else L b u v
def wf_law_toggled : Wf := fun _ ds Q => ∃ (n c b u v : Nat) (L : Psg), ds = [l3 (tabF n c L), .int b, .int u, .int v] ∧ n ≤ 8 ∧ c ≤ 4 ∧ b < c ∧ u < n ∧ v < n ∧ Q true (l3 (tabF n c (flip L b u v)))
def wf_law_bent_differs (C : Addr) : Wf := fun _ ds Q => ∃ (names : List Str) (c : Nat) (L : Psg) (l : List Int), ds = [webP C names c L, sL names, .int c, l3 (tabF names.length c L), iL l] ∧ NamesOk names ∧ 1 ≤ c ∧ c ≤ 4 ∧ (∀ b u, L b u u = false) ∧ (∀ x ∈ l, 0 ≤ x ∧ x < 1000) ∧ l.length = 40 ∧ Q false (.bl true)
def wf_law_others_differ (C : Addr) : Wf := fun _ ds Q => ∃ (names : List Str) (ts : List Tie) (c : Nat), ds = [webD C names c (nextsT names ts c), sL names, tsL ts, .int c] ∧ NamesOk names ∧ TiesOk names c ts ∧ 1 ≤ c ∧ c ≤ 4 ∧ Q false (.bl true)
def wf_law : Wf := fun _ ds Q => ∃ sc : List Int, ds = [.fls (sc.map .int)] ∧ sc.length ≤ 63 ∧ Q false (.bl true)
end Tw.S

namespace Tw.S
open PySem PySem.Spec L2 PyProof.Rows Tw

def b_law_draws : Ws :=
  (sSeq (sSet 3 (wC (.int 0)))
  (sSeq (sIf (wB (w2 oLt (wVar 1) (wN oLen (waCons (wVar 0) waNil))))
  (sSet 3 (wN oAbs (waCons (w2 oIx (wVar 0) (wVar 1)) waNil)))
  sNil)
  (sSeq (sSetO 4 (wLst waNil))
  (sSeq (sIf (wB (w2 oGe (wVar 3) (w2 oPow (wC (.int 10)) (wC (.int 18)))))
  (sSeq (sSet 3 (w2 oSub (wVar 3) (w2 oPow (wC (.int 10)) (wC (.int 18)))))
  (sSeq (sFor (wiR1 (wVar 2)) (gSet 5)
  (sSeq (sApp 4 (w2 oMod (wN oInt (waCons (wVar 3) waNil)) (wC (.int 1000))))
  (sSet 3 (w2 oDiv (wN oInt (waCons (wVar 3) waNil)) (wC (.int 1000))))))
  (sRetO 4)))
  sNil)
  (sSeq (sSet 6 (w2 oPlus (wVar 3) (w2 oMul (w2 oPlus (wVar 1) (wC (.int 1))) (wC (.int 7919)))))
  (sSeq (sFor (wiS (wSl oSl (wVar 0) woN (woS (wC (.int 6))))) (gSet 7)
  (sSet 6 (w2 oMod (wN oInt (waCons (w2 oPlus (w2 oMul (wVar 6) (wC (.int 31))) (wN oAbs (waCons (wVar 7) waNil))) waNil)) (wC (.int 2147483647)))))
  (sSeq (sFor (wiR1 (wVar 2)) (gSet 5)
  (sSeq (sSet 8 (w2 oMod (wN oInt (waCons (w2 oPlus (w2 oMul (wVar 6) (wC (.int 48271))) (w2 oMul (w2 oPlus (wVar 5) (wC (.int 1))) (wC (.int 16807)))) waNil)) (wC (.int 2147483647))))
  (sSeq (sSet 9 (w2 oMod (wN oInt (waCons (w2 oPlus (w2 oMul (wVar 8) (wVar 8)) (wVar 5)) waNil)) (wC (.int 2147483629))))
  (sSeq (sSet 10 (w2 oMod (wN oInt (waCons (w2 oPlus (w2 oMul (wVar 9) (wVar 9)) (wVar 8)) waNil)) (wC (.int 2147483587))))
  (sApp 4 (w2 oMod (w2 oDiv (wVar 10) (wC (.int 7))) (wC (.int 1000))))))))
  (sRetO 4))))))))
def b_law_names : Ws :=
  (sSeq (sSet 3 (wC (.str "abcdefghijklmnopqrstuvwxyz")))
  (sSeq (sSet 4 (wC (.int 0)))
  (sSeq (sIf (wB (w2 oEq (w2 oMod (w2 oDiv (wN oInt (waCons (w2 oIx (wVar 0) (wVar 1)) waNil)) (wC (.int 8))) (wC (.int 2))) (wC (.int 1))))
  (sSet 4 (w2 oMod (wN oInt (waCons (w2 oIx (wVar 0) (wVar 1)) waNil)) (wC (.int 8))))
  sNil)
  (sSeq (sSet 5 (w2 oIx (wVar 3) (w2 oMod (wN oInt (waCons (w2 oIx (wVar 0) (w2 oPlus (wVar 1) (wC (.int 1)))) waNil)) (wC (.int 26)))))
  (sSeq (sSet 6 (w2 oMod (w2 oDiv (wN oInt (waCons (w2 oIx (wVar 0) (w2 oPlus (wVar 1) (wC (.int 1)))) waNil)) (wC (.int 26))) (w2 oPlus (wVar 4) (wC (.int 1)))))
  (sSeq (sSet 7 (w2 oPlus (wC (.int 1)) (w2 oMod (wN oInt (waCons (w2 oIx (wVar 0) (w2 oPlus (wVar 1) (wC (.int 2)))) waNil)) (wC (.int 3)))))
  (sSeq (sSet 8 (w2 oMod (w2 oDiv (wN oInt (waCons (w2 oIx (wVar 0) (w2 oPlus (wVar 1) (wC (.int 2)))) waNil)) (wC (.int 3))) (wC (.int 26))))
  (sSeq (sSetO 9 (wLst waNil))
  (sSeq (sFor (wiR1 (wVar 2)) (gSet 10)
  (sSeq (sSet 11 (w2 oIx (wVar 3) (w2 oMod (w2 oPlus (w2 oMul (wVar 10) (wVar 7)) (wVar 8)) (wC (.int 26)))))
  (sApp 9 (w2 oPlus (w2 oPlus (w2 oMul (wVar 5) (wVar 6)) (wVar 11)) (w2 oMul (wVar 5) (w2 oSub (wVar 4) (wVar 6)))))))
  (sRetO 9))))))))))
def b_law_any_names : Ws :=
  (sSeq (sSet 3 (wCall wf_law_draws [] (waCons (wVar 0) (waCons (wVar 1) (waCons (wC (.int 64)) waNil)))))
  (sSeq (sIf (wAnd (wOr (wB (w2 oGe (wVar 1) (wN oLen (waCons (wVar 0) waNil)))) (wB (w2 oLt (wN oAbs (waCons (w2 oIx (wVar 0) (wVar 1)) waNil)) (w2 oPow (wC (.int 10)) (wC (.int 18)))))) (wB (w2 oEq (w2 oMod (wN oInt (waCons (w2 oIx (wVar 3) (wC (.int 0))) waNil)) (wC (.int 2))) (wC (.int 1)))))
  (sRetF (wCallF wf_law_names [] (waCons (wVar 3) (waCons (wC (.int 1)) (waCons (wVar 2) waNil)))))
  sNil)
  (sSeq (sSet 4 (wC (.str "abcdefghijklmnopqrstuvwxyz")))
  (sSeq (sSetO 5 (wLst waNil))
  (sSeq (sFor (wiR1 (wVar 2)) (gSet 6)
  (sSeq (sSet 7 (w2 oPlus (wC (.int 1)) (w2 oMod (w2 oDiv (wN oInt (waCons (w2 oIx (wVar 3) (w2 oPlus (w2 oMul (wC (.int 8)) (wVar 6)) (wC (.int 7)))) waNil)) (wC (.int 26))) (wC (.int 8)))))
  (sApp 5 (wJoin (wC (.str "")) (wLc (wiR1 (wVar 7)) (gSet 8) wtYes (w2 oIx (wVar 4) (w2 oMod (wN oInt (waCons (w2 oIx (wVar 3) (w2 oPlus (w2 oMul (wC (.int 8)) (wVar 6)) (wVar 8))) waNil)) (wC (.int 26)))) [8])))))
  (sSeq (sIf (wB (w2 oLt (wLenSetS (wPeek 5)) (wVar 2)))
  (sRetF (wSl oSlL (wLst (waCons (wC (.str "h")) (waCons (wC (.str "g")) (waCons (wC (.str "f")) (waCons (wC (.str "e")) (waCons (wC (.str "d")) (waCons (wC (.str "c")) (waCons (wC (.str "b")) (waCons (wC (.str "a")) waNil))))))))) woN (woS (wVar 2))))
  sNil)
  (sRetO 5)))))))
def b_law_codes : Ws :=
  (sSeq (sSet 6 (wLst (waCons (wC (.int 1)) (waCons (wC (.int 4)) (waCons (wC (.int 16)) (waCons (wC (.int 64)) waNil))))))
  (sSeq (sSetO 7 (wLst waNil))
  (sSeq (sFor (wiR1 (wVar 2)) (gSet 8)
  (sFor (wiR1 (wVar 8)) (gSet 9)
  (sSeq (sSet 10 (wN oInt (waCons (w2 oIx (wVar 0) (w2 oPlus (w2 oPlus (wVar 1) (w2 oDiv (w2 oMul (wVar 8) (w2 oSub (wVar 8) (wC (.int 1)))) (wC (.int 2)))) (wVar 9))) waNil)))
  (sSeq (sSet 11 (wLc (wiR1 (wVar 3)) (gSet 12) wtYes (w2 oMod (wN oInt (waCons (w2 oDiv (wVar 10) (w2 oIx (wVar 6) (wVar 12))) waNil)) (wC (.int 4))) [12]))
  (sSeq (sIf (wB (w2 oEq (wVar 4) (wC (.int 1))))
  (sSet 11 (wLc (wiR1 (wVar 3)) (gSet 12) wtYes (w2 oMod (wVar 10) (wC (.int 4))) [12]))
  sNil)
  (sSeq (sIf (wB (w2 oEq (wVar 4) (wC (.int 0))))
  (sSet 11 (wLc (wiR1 (wVar 3)) (gSet 12) wtYes (w2 oMod (wVar 10) (wC (.int 2))) [12]))
  sNil)
  (sSeq (sIf (wB (w2 oLt (w2 oMod (wN oInt (waCons (w2 oPlus (w2 oPlus (w2 oDiv (wVar 10) (wC (.int 256))) (wVar 8)) (wVar 9)) waNil)) (wC (.int 4))) (wVar 5)))
  (sSet 11 (wLc (wiR1 (wVar 3)) (gSet 12) wtYes (wC (.int 0)) [12]))
  sNil)
  (sApp 7 (wLst (waCons (wVar 9) (waCons (wVar 8) (waCons (wVar 11) (waCons (w2 oDiv (wVar 10) (wC (.int 256))) waNil)))))))))))))
  (sRetO 7))))
def b_law_pair_ties : Ws :=
  (sSeq (sSet 4 (wN oTuple (waCons (wLc (wiR1 (wN oLen (waCons (wVar 2) waNil))) (gSet 8) (wB (w2 oEq (w2 oIx (wVar 2) (wVar 8)) (wC (.int 1)))) (wVar 8) [8]) waNil)))
  (sSeq (sSet 5 (wN oTuple (waCons (wLc (wiR1 (wN oLen (waCons (wVar 2) waNil))) (gSet 8) (wB (w2 oEq (w2 oIx (wVar 2) (wVar 8)) (wC (.int 2)))) (wVar 8) [8]) waNil)))
  (sSeq (sSet 6 (wN oTuple (waCons (wLc (wiR1 (wN oLen (waCons (wVar 2) waNil))) (gSet 8) (wB (w2 oEq (w2 oIx (wVar 2) (wVar 8)) (wC (.int 3)))) (wVar 8) [8]) waNil)))
  (sSeq (sSetO 7 (wLst (waCons (wTup (waCons (wVar 0) (waCons (wVar 1) (waCons (wC (.str "two")) (waCons (wVar 4) waNil))))) (waCons (wTup (waCons (wVar 0) (waCons (wVar 1) (waCons (wC (.str "one")) (waCons (wVar 5) waNil))))) (waCons (wTup (waCons (wVar 1) (waCons (wVar 0) (waCons (wC (.str "one")) (waCons (wVar 6) waNil))))) waNil)))))
  (sSeq (sIf (wB (w2 oEq (wVar 3) (wC (.int 1))))
  (sSeq (sSetO 7 (wLc (wiS (wVar 4)) (gSet 8) wtYes (wTup (waCons (wVar 0) (waCons (wVar 1) (waCons (wC (.str "two")) (waCons (wTup (waCons (wVar 8) waNil)) waNil))))) [8]))
  (sSeq (sSetO 7 (w2 oCat (wPeek 7) (wLc (wiS (wVar 5)) (gSet 8) wtYes (wTup (waCons (wVar 0) (waCons (wVar 1) (waCons (wC (.str "one")) (waCons (wTup (waCons (wVar 8) waNil)) waNil))))) [8])))
  (sSetO 7 (w2 oCat (wPeek 7) (wLc (wiS (wVar 6)) (gSet 8) wtYes (wTup (waCons (wVar 1) (waCons (wVar 0) (waCons (wC (.str "one")) (waCons (wTup (waCons (wVar 8) waNil)) waNil))))) [8])))))
  sNil)
  (sSeq (sIf (wB (w2 oEq (wVar 3) (wC (.int 2))))
  (sSeq (sSetO 7 (wLst (waCons (wTup (waCons (wVar 0) (waCons (wVar 1) (waCons (wC (.str "one")) (waCons (wN oTuple (waCons (wN oSortA (waCons (w2 oPlus (wVar 4) (wVar 5)) waNil)) waNil)) waNil))))) waNil)))
  (sApp 7 (wTup (waCons (wVar 1) (waCons (wVar 0) (waCons (wC (.str "one")) (waCons (wN oTuple (waCons (wN oSortA (waCons (w2 oPlus (wVar 4) (wVar 6)) waNil)) waNil)) waNil)))))))
  sNil)
  (sSeq (sIf (wB (w2 oEq (wVar 3) (wC (.int 3))))
  (sSeq (sSetO 7 (wLst (waCons (wTup (waCons (wVar 1) (waCons (wVar 0) (waCons (wC (.str "one")) (waCons (wN oTuple (waCons (wN oSortA (waCons (w2 oPlus (wVar 4) (wVar 6)) waNil)) waNil)) waNil))))) (waCons (wTup (waCons (wVar 1) (waCons (wVar 0) (waCons (wC (.str "two")) (waCons (wVar 4) waNil))))) waNil))))
  (sApp 7 (wTup (waCons (wVar 0) (waCons (wVar 1) (waCons (wC (.str "one")) (waCons (wVar 5) waNil)))))))
  sNil)
  (sFrz 7 (sRetF (wLc (wiS (wVar 7)) (gSet 9) (wB (w2 oNe (w2 oIx (wVar 9) (wC (.int 3))) (wTup waNil))) (wVar 9) [9]))))))))))
def b_law_any_ties : Ws :=
  (sSeq (sSet 3 (wLst waNil))
  (sSeq (sSet 4 (w2 oIx (wLst (waCons (wC (.int 0)) (waCons (wC (.int 0)) (waCons (wC (.int 1)) (waCons (wC (.int 2)) waNil))))) (w2 oMod (wN oInt (waCons (w2 oIx (wVar 0) (wC (.int 6))) waNil)) (wC (.int 4)))))
  (sSeq (sFor (wiS (wCall wf_law_codes [] (waCons (wVar 0) (waCons (wC (.int 8)) (waCons (wN oLen (waCons (wVar 1) waNil)) (waCons (wVar 2) (waCons (w2 oMod (wN oInt (waCons (w2 oIx (wVar 0) (wC (.int 1))) waNil)) (wC (.int 3))) (waCons (wVar 4) waNil)))))))) (gLstD 4 (gsCons (gSet 5) (gsCons (gSet 6) (gsCons (gSet 7) (gsCons (gSet 8) gsNil)))))
  (sSeq (sSet 9 (w2 oMod (wN oInt (waCons (w2 oPlus (wVar 8) (w2 oIx (wVar 0) (wC (.int 7)))) waNil)) (wC (.int 4))))
  (sSeq (sIf (wAnd (wB (w2 oGt (wN oLen (waCons (wVar 1) waNil)) (wC (.int 7)))) (wB (w2 oEq (wVar 9) (wC (.int 1)))))
  (sSet 9 (wC (.int 0)))
  sNil)
  (sSet 3 (w2 oPlus (wVar 3) (wCall wf_law_pair_ties [] (waCons (w2 oIx (wVar 1) (wVar 5)) (waCons (w2 oIx (wVar 1) (wVar 6)) (waCons (wVar 7) (waCons (wVar 9) waNil))))))))))
  (sRet (wVar 3)))))
def b_law_table : Ws :=
  (sSeq (sSetO 3 (wLst waNil))
  (sSeq (sFor (wiR1 (wVar 2)) (gSet 4)
  (sSeq (sSetO 5 (wLst waNil))
  (sSeq (sFor (wiR1 (wN oLen (waCons (wVar 0) waNil))) (gSet 6)
  (sSeq (sSetO 7 (wLst waNil))
  (sSeq (sFor (wiS (wVar 1)) (gTupD 4 (gsCons (gSet 8) (gsCons (gSet 9) (gsCons (gSet 10) (gsCons (gSet 11) gsNil)))))
  (sSeq (sIf (wAnd (wB (w2 (oIn false) (wVar 4) (wVar 11))) (wB (w2 oEq (wVar 8) (w2 oIx (wVar 0) (wVar 6)))))
  (sApp 7 (wIdx (wVar 0) (wVar 9)))
  sNil)
  (sIf (wAnd (wB (w2 (oIn false) (wVar 4) (wVar 11))) (wAnd (wB (w2 oEq (wVar 9) (w2 oIx (wVar 0) (wVar 6)))) (wB (w2 oEq (wVar 10) (wC (.str "two"))))))
  (sApp 7 (wIdx (wVar 0) (wVar 8)))
  sNil)))
  (sApp 5 (wSortSet (wPeek 7))))))
  (sFrz 5 (sApp 3 (wVar 5))))))
  (sRetO 3)))
def b_law_any_web : Ws :=
  (sSeq (sSet 5 (wCall wf_law_draws [] (waCons (wVar 0) (waCons (wVar 1) (waCons (wC (.int 40)) waNil)))))
  (sSeq (sSet 6 (wCall wf_law_any_names [] (waCons (wVar 0) (waCons (wVar 2) (waCons (w2 oPlus (wC (.int 1)) (w2 oMod (wN oInt (waCons (w2 oIx (wVar 5) (wC (.int 0))) waNil)) (wVar 3))) waNil)))))
  (sSeq (sSet 7 (w2 oPlus (wC (.int 1)) (w2 oMod (wN oInt (waCons (w2 oIx (wVar 5) (wC (.int 2))) waNil)) (wVar 4))))
  (sSeq (sSet 8 (wCall wf_law_any_ties [] (waCons (wVar 5) (waCons (wVar 6) (waCons (wVar 7) waNil)))))
  (sRetF (wLst (waCons (wVar 6) (waCons (wVar 8) (waCons (wVar 7) (waCons (wCall wf_law_table [] (waCons (wVar 6) (waCons (wVar 8) (waCons (wVar 7) waNil)))) waNil))))))))))
def b_law_is_int : Ws :=
  (sRet (wAndV (wIsi "int" (wVar 0)) (wNotV (wIsi "bool" (wVar 0)))))
def b_law_same (wfr : Wf) : Ws :=
  (sSeq (sIf (wB (w2 (oIsN false) (wVar 1) (wC .non)))
  (sRet (w2 (oIsN false) (wVar 0) (wC .non)))
  sNil)
  (sSeq (sIf (wB (w2 oIsB (wVar 1) (wC (.bl true))))
  (sRet (w2 oIsB (wVar 0) (wC (.bl true))))
  sNil)
  (sSeq (sIf (wB (w2 oIsB (wVar 1) (wC (.bl false))))
  (sRet (w2 oIsB (wVar 0) (wC (.bl false))))
  sNil)
  (sSeq (sIf (wTru (wIsi "int" (wVar 1)))
  (sRet (wAndV (wCall wf_law_is_int [] (waCons (wVar 0) waNil)) (w2 oEq (wVar 0) (wVar 1))))
  sNil)
  (sSeq (sIf (wTru (wIsi "str" (wVar 1)))
  (sRet (wAndV (wIsi "str" (wVar 0)) (w2 oEq (wVar 0) (wVar 1))))
  sNil)
  (sSeq (sIf (wAnd (wTru (wIsi "tuple" (wVar 1))) (wNot (wTru (wIsi "tuple" (wVar 0)))))
  (sRet (wC (.bl false)))
  sNil)
  (sSeq (sIf (wAnd (wTru (wIsi "list" (wVar 1))) (wNot (wTru (wIsi "list" (wVar 0)))))
  (sRet (wC (.bl false)))
  sNil)
  (sSeq (sIf (wB (w2 oNe (wN oLen (waCons (wVar 0) waNil)) (wN oLen (waCons (wVar 1) waNil))))
  (sRet (wC (.bl false)))
  sNil)
  (sSeq (sFor (wiZ (wVar 0) (wVar 1)) (gTupD 2 (gsCons (gSet 2) (gsCons (gSet 3) gsNil)))
  (sIf (wNot (wTru (wCall wfr [] (waCons (wVar 2) (waCons (wVar 3) waNil)))))
  (sRet (wC (.bl false)))
  sNil))
  (sRet (wC (.bl true))))))))))))
def b_Web___eq__ (C_Web : Addr) : Ws :=
  (sRet (wAndV (wIsO C_Web (wVar 1)) (wAndV (w2 oEq (wWk (wFld C_Web "places" (wVar 0))) (wWk (wFld C_Web "places" (wVar 1)))) (w2 oEq (wFld C_Web "_nexts" (wVar 0)) (wFld C_Web "_nexts" (wVar 1))))))
def b_law_equal (C_Web : Addr) : Ws :=
  (sRet (wAndV (wCall wf_law_same [] (waCons (wEqO C_Web (wf_Web___eq__ C_Web) (wVar 0) (wVar 1)) (waCons (wVar 2) waNil))) (wCall wf_law_same [] (waCons (wEqO C_Web (wf_Web___eq__ C_Web) (wVar 1) (wVar 0)) (waCons (wVar 2) waNil)))))
def b_law_tie_key : Ws :=
  (sSeq (sIf (wOr (wNot (wTru (wIsi "tuple" (wVar 0)))) (wB (w2 oNe (wN oLen (waCons (wVar 0) waNil)) (wC (.int 4)))))
  (sRet (wC .non))
  sNil)
  (sSeq (sAsg (wVar 0) (gTupD 4 (gsCons (gSet 4) (gsCons (gSet 5) (gsCons (gSet 6) (gsCons (gSet 7) gsNil))))))
  (sSeq (sIf (wOr (wNot (wTru (wIsi "str" (wVar 4)))) (wOr (wNot (wTru (wIsi "str" (wVar 5)))) (wNot (wTru (wIsi "tuple" (wVar 7))))))
  (sRet (wC .non))
  sNil)
  (sSeq (sIf (wOr (wB (w2 (oIn true) (wVar 4) (wVar 1))) (wOr (wB (w2 (oIn true) (wVar 5) (wVar 1))) (wNot (wOr (wTru (wCall wf_law_same [] (waCons (wVar 6) (waCons (wC (.str "two")) waNil)))) (wTru (wCall wf_law_same [] (waCons (wVar 6) (waCons (wC (.str "one")) waNil))))))))
  (sRet (wC .non))
  sNil)
  (sSeq (sSet 8 (wIdx (wVar 1) (wVar 4)))
  (sSeq (sSet 9 (wIdx (wVar 1) (wVar 5)))
  (sSeq (sSet 10 (wC (.int 0)))
  (sSeq (sIf (wB (w2 oEq (wVar 6) (wC (.str "one"))))
  (sSet 10 (w2 oPlus (wC (.int 1)) (wN oInt (waCons (w2 oGt (wVar 8) (wVar 9)) waNil))))
  sNil)
  (sSeq (sSet 11 (wTup (waCons (wN oMin2 (waCons (wVar 8) (waCons (wVar 9) waNil))) (waCons (wN oMax2 (waCons (wVar 8) (waCons (wVar 9) waNil))) (waCons (wVar 10) waNil)))))
  (sSeq (sSet 12 (wNeg (wC (.int 1))))
  (sSeq (sFor (wiS (wVar 7)) (gSet 13)
  (sSeq (sIf (wOr (wNot (wTru (wCall wf_law_is_int [] (waCons (wVar 13) waNil)))) (wNot (wB (wCh oLt oLt (wVar 12) (wVar 13) (wN oLen (waCons (wVar 2) waNil))))))
  (sRet (wC .non))
  sNil)
  (sSeq (sIf (wOr (wB (w2 (oIn true) (wVar 9) (w2 oIx (w2 oIx (wVar 2) (wVar 13)) (wVar 8)))) (wB (w2 oNe (w2 (oIn false) (wVar 8) (w2 oIx (w2 oIx (wVar 2) (wVar 13)) (wVar 9))) (w2 oEq (wVar 6) (wC (.str "two"))))))
  (sRet (wC .non))
  sNil)
  (sSet 12 (wVar 13)))))
  (sSeq (sIf (wOr (wB (w2 oEq (wVar 7) (wTup waNil))) (wOr (wB (w2 oEq (wVar 8) (wVar 9))) (wOr (wAnd (wB (w2 oEq (wVar 10) (wC (.int 0)))) (wB (w2 oGt (wVar 8) (wVar 9)))) (wNot (wB (w2 oLtT (wVar 3) (wVar 11)))))))
  (sRet (wC .non))
  sNil)
  (sRet (wVar 11))))))))))))))
def b_law_one_form : Ws :=
  (sSeq (sIf (wNot (wTru (wIsi "list" (wVar 0))))
  (sRet (wC (.bl false)))
  sNil)
  (sSeq (sSet 3 (wTup (waCons (wNeg (wC (.int 1))) (waCons (wNeg (wC (.int 1))) (waCons (wNeg (wC (.int 1))) waNil)))))
  (sSeq (sSet 4 (wC (.int 0)))
  (sSeq (sFor (wiS (wVar 0)) (gSet 5)
  (sSeq (sSet 6 (wCall wf_law_tie_key [] (waCons (wVar 5) (waCons (wVar 1) (waCons (wVar 2) (waCons (wVar 3) waNil))))))
  (sSeq (sIf (wB (w2 (oIsN false) (wVar 6) (wC .non)))
  (sRet (wC (.bl false)))
  sNil)
  (sSeq (sSet 3 (wVar 6))
  (sSeq (sSet 4 (w2 oPlus (wVar 4) (wN oLen (waCons (w2 oIx (wVar 5) (wC (.int 3))) waNil))))
  (sIf (wB (w2 oEq (w2 oIx (wVar 6) (wC (.int 2))) (wC (.int 0))))
  (sSet 4 (w2 oPlus (wVar 4) (wN oLen (waCons (w2 oIx (wVar 5) (wC (.int 3))) waNil))))
  sNil))))))
  (sSeq (sFor (wiS (wVar 2)) (gSet 7)
  (sFor (wiS (wVar 7)) (gSet 8)
  (sSet 4 (w2 oSub (wVar 4) (wN oLen (waCons (wVar 8) waNil))))))
  (sRet (w2 oEq (wVar 4) (wC (.int 0)))))))))
def b_law_rewritten : Ws :=
  (sSeq (sSet 3 (wLst waNil))
  (sSeq (sFor (wiR1 (wN oLen (waCons (wVar 0) waNil))) (gSet 4)
  (sFor (wiR1 (wVar 4)) (gSet 5)
  (sSeq (sSetO 6 (wLst waNil))
  (sSeq (sFor (wiS (wVar 1)) (gSet 7)
  (sApp 6 (w2 oIx (wLst (waCons (wC (.int 0)) (waCons (wC (.int 2)) (waCons (wC (.int 3)) (waCons (wC (.int 1)) waNil))))) (w2 oPlus (wN oInt (waCons (w2 (oIn false) (wVar 4) (w2 oIx (wVar 7) (wVar 5))) waNil)) (w2 oMul (wC (.int 2)) (wN oInt (waCons (w2 (oIn false) (wVar 5) (w2 oIx (wVar 7) (wVar 4))) waNil)))))))
  (sSeq (sSet 8 (w2 oMod (wN oInt (waCons (w2 oIx (wVar 2) (w2 oPlus (w2 oPlus (wC (.int 8)) (w2 oDiv (w2 oMul (wVar 4) (w2 oSub (wVar 4) (wC (.int 1)))) (wC (.int 2)))) (wVar 5))) waNil)) (wC (.int 4))))
  (sSeq (sIf (wAnd (wB (w2 oGt (wN oLen (waCons (wVar 0) waNil)) (wC (.int 7)))) (wB (w2 oEq (wVar 8) (wC (.int 1)))))
  (sSet 8 (wC (.int 0)))
  sNil)
  (sFrz 6 (sSet 3 (w2 oPlus (wVar 3) (wCall wf_law_pair_ties [] (waCons (w2 oIx (wVar 0) (wVar 5)) (waCons (w2 oIx (wVar 0) (wVar 4)) (waCons (wVar 6) (waCons (wVar 8) waNil))))))))))))))
  (sSeq (sSet 9 (w2 oMod (wN oInt (waCons (w2 oIx (wVar 2) (wC (.int 0))) waNil)) (w2 oPlus (wN oLen (waCons (wVar 3) waNil)) (wC (.int 1)))))
  (sRet (w2 oPlus (w2 oPlus (wSl oSl (wVar 3) (woS (wVar 9)) woN) (wSl oSl (wVar 3) woN (woS (wVar 9)))) (wSl oSl (wVar 3) woN (woS (w2 oMod (wN oInt (waCons (w2 oIx (wVar 2) (wC (.int 1))) waNil)) (wC (.int 9))))))))))
def b_law_toggled : Ws :=
  (sSeq (sSetO 4 (wLst waNil))
  (sSeq (sFor (wiR1 (wN oLen (waCons (wVar 0) waNil))) (gSet 5)
  (sSeq (sSetO 6 (wLc (wiS (w2 oIx (wVar 0) (wVar 5))) (gSet 7) wtYes (wN oList (waCons (wVar 7) waNil)) [7]))
  (sSeq (sIf (wAnd (wB (w2 oEq (wVar 5) (wVar 1))) (wB (w2 (oIn false) (wVar 3) (w2 oIx (wPeek 6) (wVar 2)))))
  (sIput 6 (wVar 2) (wLc (wiS (w2 oIx (wPeek 6) (wVar 2))) (gSet 8) (wB (w2 oNe (wVar 8) (wVar 3))) (wVar 8) [8]))
  (sIf (wB (w2 oEq (wVar 5) (wVar 1)))
  (sIput 6 (wVar 2) (wN oSortI (waCons (w2 oPlus (w2 oIx (wPeek 6) (wVar 2)) (wLst (waCons (wVar 3) waNil))) waNil)))
  sNil))
  (sFrz 6 (sApp 4 (wVar 6))))))
  (sRetO 4)))
def b_ties_between : Ws :=
  (sSeq (sSet 4 (wLc (wiR1 (wN oLen (waCons (wVar 1) waNil))) (gSet 10) (wB (w2 (oIn false) (wVar 3) (w2 oIx (w2 oIx (wVar 1) (wVar 10)) (wVar 2)))) (wVar 10) [10]))
  (sSeq (sSet 5 (wLc (wiR1 (wN oLen (waCons (wVar 1) waNil))) (gSet 10) (wB (w2 (oIn false) (wVar 2) (w2 oIx (w2 oIx (wVar 1) (wVar 10)) (wVar 3)))) (wVar 10) [10]))
  (sSeq (sSet 6 (wN oTuple (waCons (wLc (wiS (wVar 4)) (gSet 10) (wB (w2 (oIn false) (wVar 10) (wVar 5))) (wVar 10) [10]) waNil)))
  (sSeq (sSet 7 (wN oTuple (waCons (wLc (wiS (wVar 4)) (gSet 10) (wB (w2 (oIn true) (wVar 10) (wVar 5))) (wVar 10) [10]) waNil)))
  (sSeq (sSet 8 (wN oTuple (waCons (wLc (wiS (wVar 5)) (gSet 10) (wB (w2 (oIn true) (wVar 10) (wVar 4))) (wVar 10) [10]) waNil)))
  (sSeq (sSet 9 (wTup (waCons (wTup (waCons (w2 oIx (wWk (wVar 0)) (wVar 2)) (waCons (w2 oIx (wWk (wVar 0)) (wVar 3)) (waCons (wC (.str "two")) (waCons (wVar 6) waNil))))) (waCons (wTup (waCons (w2 oIx (wWk (wVar 0)) (wVar 2)) (waCons (w2 oIx (wWk (wVar 0)) (wVar 3)) (waCons (wC (.str "one")) (waCons (wVar 7) waNil))))) (waCons (wTup (waCons (w2 oIx (wWk (wVar 0)) (wVar 3)) (waCons (w2 oIx (wWk (wVar 0)) (wVar 2)) (waCons (wC (.str "one")) (waCons (wVar 8) waNil))))) waNil)))))
  (sRetF (wLc (wiS (wVar 9)) (gSet 11) (wB (w2 oGt (wN oLen (waCons (w2 oIx (wVar 11) (wC (.int 3))) waNil)) (wC (.int 0)))) (wVar 11) [11]))))))))
def b_ties_of : Ws :=
  (sSeq (sSetO 2 (wLst waNil))
  (sSeq (sFor (wiR1 (wN oLen (waCons (wWk (wVar 0)) waNil))) (gSet 3)
  (sFor (wiR2 (w2 oPlus (wVar 3) (wC (.int 1))) (wN oLen (waCons (wWk (wVar 0)) waNil))) (gSet 4)
  (sExt 2 (wCall wf_ties_between [] (waCons (wVar 0) (waCons (wVar 1) (waCons (wVar 3) (waCons (wVar 4) waNil))))))))
  (sRetO 2)))
def b_Web_ties (C_Web : Addr) : Ws :=
  (sRetF (wCallF wf_ties_of [] (waCons (wFld C_Web "places" (wVar 0)) (waCons (wFld C_Web "_nexts" (wVar 0)) waNil))))
def b_is_name : Ws :=
  (sRet (wAndV (wCh oLe oLe (wC (.int 1)) (wN oLen (waCons (wVar 0) waNil)) (wC (.int 8))) (wN oAll (waCons (wLc (wiStr (wVar 0)) (gSet 1) wtYes (w2 (oInS false) (wVar 1) (wC (.str "abcdefghijklmnopqrstuvwxyz"))) [1]) waNil))))
def b_check_names : Ws :=
  (sSeq (sIf (wNot (wB (wCh oLe oLe (wC (.int 1)) (wN oLen (waCons (wWk (wVar 0)) waNil)) (wC (.int 8)))))
  (fun _ _ => False)
  sNil)
  (sFor (wiR1 (wN oLen (waCons (wWk (wVar 0)) waNil))) (gSet 1)
  (sIf (wOr (wNot (wTru (wCall wf_is_name [] (waCons (w2 oIx (wWk (wVar 0)) (wVar 1)) waNil)))) (wB (w2 (oIn false) (w2 oIx (wWk (wVar 0)) (wVar 1)) (wSl oSl (wWk (wVar 0)) woN (woS (wVar 1))))))
  (fun _ _ => False)
  sNil)))
def b_is_set : Ws :=
  (sSeq (sSet 2 (wLc (wiS (wVar 0)) (gSet 4) wtYes (wCh oLe oLt (wC (.int 0)) (wVar 4) (wVar 1)) [4]))
  (sSeq (sSet 3 (wLc (wiR1 (w2 oSub (wN oLen (waCons (wVar 0) waNil)) (wC (.int 1)))) (gSet 5) wtYes (w2 oLt (w2 oIx (wVar 0) (wVar 5)) (w2 oIx (wVar 0) (w2 oPlus (wVar 5) (wC (.int 1))))) [5]))
  (sRet (wAndV (wN oAll (waCons (wVar 2) waNil)) (wN oAll (waCons (wVar 3) waNil))))))
def b_is_tie : Ws :=
  (sSeq (sIf (wB (w2 oNe (wN oLen (waCons (wVar 1) waNil)) (wC (.int 4))))
  (sRet (wC (.bl false)))
  sNil)
  (sSeq (sAsg (wVar 1) (gTupD 4 (gsCons (gSet 3) (gsCons (gSet 4) (gsCons (gSet 5) (gsCons (gSet 6) gsNil))))))
  (sSeq (sIf (wOr (wB (w2 (oIn true) (wVar 3) (wWk (wVar 0)))) (wOr (wB (w2 (oIn true) (wVar 4) (wWk (wVar 0)))) (wB (w2 oEq (wVar 3) (wVar 4)))))
  (sRet (wC (.bl false)))
  sNil)
  (sRet (wAndV (w2 (oIn false) (wVar 5) (wTup (waCons (wC (.str "two")) (waCons (wC (.str "one")) waNil)))) (wAndV (w2 oGt (wN oLen (waCons (wVar 6) waNil)) (wC (.int 0))) (wCall wf_is_set [] (waCons (wVar 6) (waCons (wVar 2) waNil)))))))))
def b_check_ties : Ws :=
  (sSeq (sIf (wB (w2 oGt (wN oLen (waCons (wVar 1) waNil)) (wC (.int 100))))
  (fun _ _ => False)
  sNil)
  (sFor (wiEnA (wVar 1)) (gTupD 2 (gsCons (gSet 3) (gsCons (gSet 4) gsNil)))
  (sIf (wNot (wTru (wCall wf_is_tie [] (waCons (wVar 0) (waCons (wVar 4) (waCons (wVar 2) waNil))))))
  (fun _ _ => False)
  sNil)))
def b_nexts_at : Ws :=
  (sRet (wN oTuple (waCons (wLc (wiR1 (wVar 2)) (gSet 3) wtYes (wN oTuple (waCons (wLc (wiR1 (wVar 2)) (gSet 4) (wB (wInT (waCons (wVar 1) (waCons (wVar 3) (waCons (wVar 4) waNil))) (wVar 0))) (wVar 4) [4]) waNil)) [3]) waNil)))
def b_nexts_of : Ws :=
  (sSeq (sSetO 3 (wC (.dT [])))
  (sSeq (sFor (wiS (wVar 1)) (gTupD 4 (gsCons (gSet 4) (gsCons (gSet 5) (gsCons (gSet 6) (gsCons (gSet 7) gsNil)))))
  (sSeq (sSet 8 (wIdxT (wVar 0) (wVar 4)))
  (sSeq (sSet 9 (wIdxT (wVar 0) (wVar 5)))
  (sFor (wiS (wVar 7)) (gSet 10)
  (sSeq (sPutT 3 (waCons (wVar 10) (waCons (wVar 8) (waCons (wVar 9) waNil))) (wC (.bl true)))
  (sIf (wB (w2 oEq (wVar 6) (wC (.str "two"))))
  (sPutT 3 (waCons (wVar 10) (waCons (wVar 9) (waCons (wVar 8) waNil))) (wC (.bl true)))
  sNil))))))
  (sSeq (sSet 11 (wN oLen (waCons (wWk (wVar 0)) waNil)))
  (sFrz 3 (sRet (wN oTuple (waCons (wLc (wiR1 (wVar 2)) (gSet 10) wtYes (wCall wf_nexts_at [] (waCons (wVar 3) (waCons (wVar 10) (waCons (wVar 11) waNil)))) [10]) waNil)))))))
def b_steps_of : Ws :=
  (sRet (wN oTuple (waCons (wLc (wiS (wVar 0)) (gSet 1) wtYes (wN oTuple (waCons (wLc (wiR1 (wN oLen (waCons (wVar 1) waNil))) (gSet 2) wtYes (wN oTuple (waCons (wN oSortI (waCons (wLst (waCons (wVar 2) (waStar (w2 oIx (wVar 1) (wVar 2)) waNil))) waNil)) waNil)) [2]) waNil)) [1]) waNil)))
def b_Web___init__ (C_Web : Addr) : Ws :=
  (sSeq (sExp (wCall wf_check_names [] (waCons (wVar 1) waNil)))
  (sSeq (sIf (wNot (wB (wCh oLe oLe (wC (.int 1)) (wVar 3) (wC (.int 4)))))
  (fun _ _ => False)
  sNil)
  (sSeq (sExp (wCall wf_check_ties [] (waCons (wVar 1) (waCons (wVar 2) (waCons (wVar 3) waNil)))))
  (sSeq (fun Z ρ => OneSe ρ 0 ∧ sFldD 0 C_Web "places" (wTupX2 (wVar 1)) Z ρ)
  (sSeq (fun Z ρ => OneSe ρ 0 ∧ sFldD 0 C_Web "beats" (wVar 3) Z ρ)
  (sSeq (fun Z ρ => OneSe ρ 0 ∧ sFldD 0 C_Web "_nexts" (wCall wf_nexts_of [] (waCons (wSelf 0 C_Web "places") (waCons (wVar 2) (waCons (wVar 3) waNil)))) Z ρ)
  (fun Z ρ => OneSe ρ 0 ∧ sFldD 0 C_Web "_steps" (wCall wf_steps_of [] (waCons (wSelf 0 C_Web "_nexts") waNil)) Z ρ)))))))
def b_law_bent_differs (C_Web : Addr) : Ws :=
  (sSeq (sIf (wB (w2 oEq (wN oLen (waCons (wVar 1) waNil)) (wC (.int 1))))
  (sRet (wC (.bl true)))
  sNil)
  (sSeq (sSet 5 (w2 oMod (wN oInt (waCons (w2 oIx (wVar 4) (wC (.int 2))) waNil)) (wN oLen (waCons (wVar 1) waNil))))
  (sSeq (sSet 6 (w2 oMod (wN oInt (waCons (w2 oPlus (w2 oPlus (wVar 5) (wC (.int 1))) (w2 oMod (wN oInt (waCons (w2 oIx (wVar 4) (wC (.int 3))) waNil)) (w2 oSub (wN oLen (waCons (wVar 1) waNil)) (wC (.int 1))))) waNil)) (wN oLen (waCons (wVar 1) waNil))))
  (sSeq (sSet 7 (wCall wf_law_toggled [] (waCons (wVar 3) (waCons (w2 oMod (wN oInt (waCons (w2 oIx (wVar 4) (wC (.int 4))) waNil)) (wVar 2)) (waCons (wVar 5) (waCons (wVar 6) waNil))))))
  (sSeq (sSet 8 (wMakeK C_Web 2 (List.length (α := Str) ["beats"]) gD_K_Web_2_beats wi_Web (waCons (wN oList (waCons (wVar 1) waNil)) (waCons (wCall wf_law_rewritten [] (waCons (wVar 1) (waCons (wVar 7) (waCons (wVar 4) waNil)))) waNil)) (waCons (wVar 2) waNil)))
  (sRet (wAndV (wCall (wf_law_equal C_Web) [] (waCons (wVar 0) (waCons (wVar 8) (waCons (wC (.bl false)) waNil)))) (wCall wf_law_one_form [] (waCons (wMeth C_Web "ties" (wf_Web_ties C_Web) (wVar 8) waNil) (waCons (wVar 1) (waCons (wVar 7) waNil)))))))))))
def b_law_others_differ (C_Web : Addr) : Ws :=
  (sSeq (sIf (wAnd (wB (w2 oGt (wN oLen (waCons (wVar 1) waNil)) (wC (.int 1)))) (wNot (wTru (wCall (wf_law_equal C_Web) [] (waCons (wVar 0) (waCons (wMakeK C_Web 2 (List.length (α := Str) ["beats"]) gD_K_Web_2_beats wi_Web (waCons (w2 oPlus (wSl oSl (wVar 1) (woS (wC (.int 1))) woN) (wSl oSl (wVar 1) woN (woS (wC (.int 1))))) (waCons (wN oList (waCons (wVar 2) waNil)) waNil)) (waCons (wVar 3) waNil)) (waCons (wC (.bl false)) waNil)))))))
  (sRet (wC (.bl false)))
  sNil)
  (sSeq (sIf (wAnd (wB (w2 oLt (wVar 3) (wC (.int 4)))) (wNot (wTru (wCall (wf_law_equal C_Web) [] (waCons (wVar 0) (waCons (wMakeK C_Web 2 (List.length (α := Str) ["beats"]) gD_K_Web_2_beats wi_Web (waCons (wN oList (waCons (wVar 1) waNil)) (waCons (wN oList (waCons (wVar 2) waNil)) waNil)) (waCons (w2 oPlus (wVar 3) (wC (.int 1))) waNil)) (waCons (wC (.bl false)) waNil)))))))
  (sRet (wC (.bl false)))
  sNil)
  (sSeq (sSet 4 (w2 oIx (wLc (wiStr (wC (.str "abcdefghijklmnopqrstuvwxyz"))) (gSet 10) (wB (w2 (oIn true) (wVar 10) (wVar 1))) (wVar 10) [10]) (wC (.int 0))))
  (sSeq (sSetO 5 (wLst waNil))
  (sSeq (sFor (wiS (wVar 2)) (gTupD 4 (gsCons (gSet 6) (gsCons (gSet 7) (gsCons (gSet 8) (gsCons (gSet 9) gsNil)))))
  (sSeq (sIf (wB (w2 oEq (wVar 6) (w2 oIx (wVar 1) (wC (.int 0)))))
  (sSet 6 (wVar 4))
  sNil)
  (sSeq (sIf (wB (w2 oEq (wVar 7) (w2 oIx (wVar 1) (wC (.int 0)))))
  (sSet 7 (wVar 4))
  sNil)
  (sApp 5 (wTup (waCons (wVar 6) (waCons (wVar 7) (waCons (wVar 8) (waCons (wVar 9) waNil)))))))))
  (sRet (wCall (wf_law_equal C_Web) [] (waCons (wVar 0) (waCons (wMakeKS C_Web 2 (List.length (α := Str) ["beats"]) gD_K_Web_2_beats wi_Web (waCons (w2 oPlus (wLst (waCons (wVar 4) waNil)) (wSl oSl (wVar 1) (woS (wC (.int 1))) woN)) (waCons (wPeek 5) waNil)) (waCons (wVar 3) waNil)) (waCons (wC (.bl false)) waNil))))))))))
def b_Web___len__ (C_Web : Addr) : Ws :=
  (sRet (wN oLen (waCons (wWk (wFld C_Web "places" (wVar 0))) waNil)))
def b_check_place (C_Web : Addr) : Ws :=
  (sIf (wNot (wB (wCh oLe oLt (wC (.int 0)) (wVar 1) (wLenO C_Web (wf_Web___len__ C_Web) (wVar 0)))))
  (fun _ _ => False)
  sNil)
def b_Web_steps (C_Web : Addr) : Ws :=
  (sSeq (sExp (wCall (wf_check_place C_Web) [] (waCons (wVar 0) (waCons (wVar 1) waNil))))
  (sRet (w2 oIx (w2 oIx (wFld C_Web "_steps" (wVar 0)) (w2 oMod (wVar 2) (wFld C_Web "beats" (wVar 0)))) (wVar 1))))
def b_law_web_is (C_Web : Addr) : Ws :=
  (sSeq (sIf (wOr (wNot (wTru (wCall wf_law_same [] (waCons (wWk (wFld C_Web "places" (wVar 0))) (waCons (wN oTuple (waCons (wVar 1) waNil)) waNil))))) (wNot (wTru (wCall wf_law_same [] (waCons (wFld C_Web "beats" (wVar 0)) (waCons (wVar 2) waNil))))))
  (sRet (wC (.bl false)))
  sNil)
  (sSeq (sFor (wiR1 (wVar 2)) (gSet 4)
  (sFor (wiR1 (wN oLen (waCons (wVar 1) waNil))) (gSet 5)
  (sSeq (sSet 6 (wN oTuple (waCons (wN oSortI (waCons (w2 oPlus (wLst (waCons (wVar 5) waNil)) (w2 oIx (w2 oIx (wVar 3) (wVar 4)) (wVar 5))) waNil)) waNil)))
  (sIf (wNot (wTru (wCall wf_law_same [] (waCons (wMeth C_Web "steps" (wf_Web_steps C_Web) (wVar 0) (waCons (wVar 5) (waCons (wVar 4) waNil))) (waCons (wVar 6) waNil)))))
  (sRet (wC (.bl false)))
  sNil))))
  (sRet (wC (.bl true)))))
def b_law (C_Web : Addr) : Ws :=
  (sSeq (sAsg (wCall wf_law_any_web [] (waCons (wVar 0) (waCons (wC (.int 0)) (waCons (wC (.int 1)) (waCons (wC (.int 8)) (waCons (wC (.int 4)) waNil)))))) (gLstD 4 (gsCons (gSet 1) (gsCons (gSet 2) (gsCons (gSet 3) (gsCons (gSet 4) gsNil))))))
  (sSeq (sSetO 5 (wN oList (waCons (wVar 2) waNil)))
  (sSeq (sSet 6 (wMakeKS C_Web 2 (List.length (α := Str) ["beats"]) gD_K_Web_2_beats wi_Web (waCons (wN oList (waCons (wVar 1) waNil)) (waCons (wPeek 5) waNil)) (waCons (wVar 3) waNil)))
  (sSeq (sSetO 7 (wMethF C_Web "ties" (wf_Web_ties C_Web) (wVar 6) waNil))
  (sSeq (sIf (wOr (wB (w2 oNe (wPeek 5) (wVar 2))) (wNot (wTru (wCallS wf_law_one_form (waCons (wPeek 7) (waCons (wVar 1) (waCons (wVar 4) waNil)))))))
  (sRet (wC (.bl false)))
  sNil)
  (sSeq (sClr 5)
  (sSeq (sSet 8 (wTupX2 (wPeek 7)))
  (sSeq (sRev 7)
  (sSeq (sApp 7 (wTup (waCons (w2 oIx (wVar 1) (wC (.int 0))) (waCons (w2 oIx (wVar 1) (wC (.int 0))) (waCons (wC (.str "one")) (waCons (wTup (waCons (wC (.int 0)) waNil)) waNil))))))
  (sSeq (sIf (wNot (wTru (wCall wf_law_same [] (waCons (wMeth C_Web "ties" (wf_Web_ties C_Web) (wVar 6) waNil) (waCons (wN oList (waCons (wWk (wVar 8)) waNil)) waNil)))))
  (sRet (wC (.bl false)))
  sNil)
  (sSeq (sSet 9 (wMakeK C_Web 2 (List.length (α := Str) ["beats"]) gD_K_Web_2_beats wi_Web (waCons (wTupX2 (wVar 1)) (waCons (wVar 8) waNil)) (waCons (wVar 3) waNil)))
  (sSeq (sSet 10 (wMakeK C_Web 2 (List.length (α := Str) ["beats"]) gD_K_Web_2_beats wi_Web (waCons (wN oList (waCons (wVar 1) waNil)) (waCons (wCall wf_law_rewritten [] (waCons (wVar 1) (waCons (wVar 4) (waCons (wCall wf_law_draws [] (waCons (wVar 0) (waCons (wC (.int 2)) (waCons (wC (.int 40)) waNil)))) waNil)))) waNil)) (waCons (wVar 3) waNil)))
  (sSeq (sFor (wiS (wLst (waCons (wVar 9) (waCons (wVar 10) waNil)))) (gSet 11)
  (sSeq (sIf (wOr (wNot (wTru (wCall (wf_law_equal C_Web) [] (waCons (wVar 6) (waCons (wVar 11) (waCons (wC (.bl true)) waNil)))))) (wNot (wTru (wCall (wf_law_web_is C_Web) [] (waCons (wVar 11) (waCons (wVar 1) (waCons (wVar 3) (waCons (wVar 4) waNil))))))))
  (sRet (wC (.bl false)))
  sNil)
  (sIf (wNot (wTru (wCall wf_law_same [] (waCons (wMeth C_Web "ties" (wf_Web_ties C_Web) (wVar 11) waNil) (waCons (wN oList (waCons (wWk (wVar 8)) waNil)) waNil)))))
  (sRet (wC (.bl false)))
  sNil)))
  (sSeq (sIf (wNot (wTru (wCall (wf_law_bent_differs C_Web) [] (waCons (wVar 6) (waCons (wVar 1) (waCons (wVar 3) (waCons (wVar 4) (waCons (wCall wf_law_draws [] (waCons (wVar 0) (waCons (wC (.int 3)) (waCons (wC (.int 40)) waNil)))) waNil))))))))
  (sRet (wC (.bl false)))
  sNil)
  (sRet (wAndV (wCall (wf_law_others_differ C_Web) [] (waCons (wVar 6) (waCons (wVar 1) (waCons (wVar 2) (waCons (wVar 3) waNil))))) (wCall (wf_law_web_is C_Web) [] (waCons (wVar 6) (waCons (wVar 1) (waCons (wVar 3) (waCons (wVar 4) waNil)))))))))))))))))))))
end Tw.S

namespace Tw.S
open PySem PySem.Spec L2 PyProof.Rows Tw
abbrev Zd (xc : XC) (Q : Bool → D → Prop) : Pd := { nx := fun _ => Q false .non, rt := Q, xc := xc }
theorem atI_at {α : Type} {l : List α} {i : Int} (h0 : 0 ≤ i) (h : i < l.length) : atI l i = l[i.toNat]? := by
  unfold atI ixN
  rw [if_pos h0, if_pos h]
  rfl
theorem atI_last {α : Type} {l : List α} (h : l ≠ []) : atI l (-1) = l[l.length - 1]? := by
  have hp : 0 < l.length := List.length_pos_iff.mpr h
  unfold atI ixN
  rw [if_neg (by decide), if_pos (by omega)]
  show l[((-1 : Int) + l.length).toNat]? = _
  congr 1
  omega
theorem atI_int {l : List Int} {i : Int} (h0 : 0 ≤ i) (h : i < l.length) : atI l i = some (l.getD i.toNat 0) := by
  rw [atI_at h0 h]
  have : i.toNat < l.length := by omega
  simp [this]
theorem all_map {n : Nat} (f : Nat → Bool) : ((List.range n).map fun i => f i).all id = (List.range n).all f := by
  rw [List.all_map]; rfl
def fldOf (C : Addr) (f : Str) (d : D) (Q : D → Prop) : Prop := ∃ fs v, d = .obj C fs ∧ fs.lookup f = some v ∧ Q v
@[simp] theorem wFld_eq {C : Addr} {f : Str} {w : Wx} {xc : XC} {ρ : Evn} {Q : D → Prop} : wFld C f w xc ρ Q = w xc ρ fun d => fldOf C f d Q := rfl
theorem fldOf_mk {C : Addr} {f : Str} {fs : List (Str × D)} {v : D} {Q : D → Prop} (h : fs.lookup f = some v) : fldOf C f (.obj C fs) Q = Q v := propext
  ⟨fun ⟨fs', v', e, l, q⟩ => by cases e; rw [h] at l; cases l; exact q, fun q => ⟨_, _, rfl, h, q⟩⟩
def isO (C : Addr) (d : D) : Prop := ∃ fs, d = .obj C fs
@[simp] theorem wLenO_eq {C : Addr} {wf : Wf} {w : Wx} {xc : XC} {ρ : Evn} {Q : D → Prop} : wLenO C wf w xc ρ Q = w xc ρ fun d => isO C d ∧ wf xc [d] fun _ v => ∃ n : Int, v = .int n ∧ (0 ≤ n ∧ n < 2 ^ 63) ∧ Q v := by
  unfold wLenO isO
  congr 1
  funext d
  exact propext ⟨fun ⟨fs, e, h⟩ => ⟨⟨fs, e⟩, h⟩, fun ⟨⟨fs, e⟩, h⟩ => ⟨fs, e, h⟩⟩
def mOf (C : Addr) (m : Str) (d : D) : Prop := ∃ fs, d = .obj C fs ∧ fs.lookup m = none
@[simp] theorem wMeth_eq {C : Addr} {m : Str} {wf : Wf} {w : Wx} {u : Wa} {xc : XC} {ρ : Evn} {Q : D → Prop} : wMeth C m wf w u xc ρ Q = w xc ρ fun d => mOf C m d ∧ u xc ρ fun ds => wf xc (d :: ds) fun _ v => Q v := by
  unfold wMeth mOf
  congr 1
  funext d
  exact propext ⟨fun ⟨fs, e, l, h⟩ => ⟨⟨fs, e, l⟩, h⟩, fun ⟨⟨fs, e, l⟩, h⟩ => ⟨fs, e, l, h⟩⟩
@[simp] theorem wMethF_eq {C : Addr} {m : Str} {wf : Wf} {w : Wx} {u : Wa} {xc : XC} {ρ : Evn} {Q : D → Prop} : wMethF C m wf w u xc ρ Q = w xc ρ fun d => mOf C m d ∧ u xc ρ fun ds => wf xc (d :: ds) fun fr v => fr = true ∧ Q v := by
  unfold wMethF mOf
  congr 1
  funext d
  exact propext ⟨fun ⟨fs, e, l, h⟩ => ⟨⟨fs, e, l⟩, h⟩, fun ⟨⟨fs, e, l⟩, h⟩ => ⟨fs, e, l, h⟩⟩
section
variable {C : Addr} {names : List Str} {c : Nat} {nx : List (List (List Int))} {Q : D → Prop} {t : Bool} {ds : List D} {i : Int} {lo hi : Option Int}
@[simp] theorem web_places : fldOf C "places" (webD C names c nx) Q = Q (.xtp (names.map .str)) := fldOf_mk rfl
@[simp] theorem web_beats : fldOf C "beats" (webD C names c nx) Q = Q (.int c) := fldOf_mk rfl
@[simp] theorem web_nexts : fldOf C "_nexts" (webD C names c nx) Q = Q (t3 nx) := fldOf_mk rfl
@[simp] theorem web_steps : fldOf C "_steps" (webD C names c nx) Q = Q (t3 (stepsT nx)) := fldOf_mk rfl
@[simp] theorem isO_web : isO C (webD C names c nx) := ⟨_, rfl⟩
theorem len_go {xc : XC} {Q : D → Prop} (hn : names.length ≤ 8) (q : Q (.int names.length)) : wf_Web___len__ C xc [webD C names c nx] fun _ v => ∃ n : Int, v = .int n ∧ (0 ≤ n ∧ n < 2 ^ 63) ∧ Q v :=
  ⟨names, c, nx, rfl, _, rfl, by omega, q⟩
/-- .. read -/
def hD (t : Bool) (l : List D) : D := if t = true then .tup l else .lst l
@[simp] theorem qD_f : qD false ds = .lst ds := rfl
@[simp] theorem qD_t : qD true ds = .xtp ds := rfl
@[simp] theorem wk_qD : D.wk (qD t ds) = hD t ds := by cases t <;> rfl
@[simp] theorem len_hD : oLen [hD t ds] Q = Q (.int ds.length) := by cases t <;> rfl
@[simp] theorem len_qD : oLen [qD t ds] Q = Q (.int ds.length) := by cases t <;> rfl
@[simp] theorem ix_hD : oIx (hD t ds) (.int i) Q = ∃ d, atI ds i = some d ∧ Q d := by cases t <;> rfl
@[simp] theorem sl_hD : oSl (hD t ds) lo hi Q = Q (hD t (cutD ds lo hi)) := by cases t <;> rfl
@[simp] theorem seq_qD : D.seq (qD t ds) = some ds := by cases t <;> rfl
@[simp] theorem seq_hD : D.seq (hD t ds) = some ds := by cases t <;> rfl
theorem ok_hD (h : (D.lst ds).ok) : (hD t ds).ok := by
  cases t
  · exact h
  · obtain ⟨h1, h2⟩ := h
    refine ⟨by rw [D.isP] at h1; show D.isP (.tup ds) = true; rw [D.isP]; exact h1, ?_⟩
    rw [D.py] at h2
    show SeqAt.shaped (D.tup ds).py = true
    rw [D.py]
    unfold SeqAt.shaped at h2 ⊢
    simp only [PyData.canLay0, PyData.depth] at h2 ⊢
    exact h2
theorem in_hD {x : Str} {l : List Str} (hx : PyData.strOk x = true) (hl : ∀ z ∈ l, PyData.strOk z = true) (neg : Bool) : oIn neg (.str x) (hD t (l.map .str)) Q = Q (.bl (if neg = true then !decide (x ∈ l) else decide (x ∈ l))) := by
  cases t
  · exact oIn_s hx hl neg
  · have h := any_str (x := x) l
    have o : (D.tup (l.map .str)).ok := ok_hD (t := true) (ok_strs hl)
    show oIn neg (.str x) (.tup (l.map .str)) Q = _
    simp only [oIn, ok_str hx, o, h, true_and]
end
theorem atI_map {α : Type} {l : List α} {f : α → D} {i : Int} : atI (l.map f) i = (atI l i).map f := by
  unfold atI
  simp only [List.length_map, List.getElem?_map]
  cases ixN l.length i <;> rfl
theorem ix_map {α : Type} {l : List α} {f : α → D} {i : Int} {Q : D → Prop} : (∃ d, atI (l.map f) i = some d ∧ Q d) = ∃ x, atI l i = some x ∧ Q (f x) := by
  rw [atI_map]
  cases atI l i <;> simp
section
variable {l : List Int} {p2 : List (List Int)} {p3 : List (List (List Int))} {zs : List Str} {i : Int} {Q : D → Prop}
@[simp] theorem ix_tI : oIx (tI l) (.int i) Q = ∃ x, atI l i = some x ∧ Q (.int x) := ix_map
@[simp] theorem ix_iL : oIx (iL l) (.int i) Q = ∃ x, atI l i = some x ∧ Q (.int x) := ix_map
@[simp] theorem ix_sL : oIx (sL zs) (.int i) Q = ∃ x, atI zs i = some x ∧ Q (.str x) := ix_map
@[simp] theorem ix_t2 : oIx (t2 p2) (.int i) Q = ∃ x, atI p2 i = some x ∧ Q (tI x) := ix_map
@[simp] theorem ix_t3 : oIx (t3 p3) (.int i) Q = ∃ x, atI p3 i = some x ∧ Q (t2 x) := ix_map
@[simp] theorem ix_pL : oIx (pL p2) (.int i) Q = ∃ x, atI p2 i = some x ∧ Q (tI x) := ix_map
@[simp] theorem ix_l2 : oIx (l2 p2) (.int i) Q = ∃ x, atI p2 i = some x ∧ Q (iL x) := ix_map
@[simp] theorem ix_l3 : oIx (l3 p3) (.int i) Q = ∃ x, atI p3 i = some x ∧ Q (l2 x) := ix_map
@[simp] theorem len_tI : oLen [tI l] Q = Q (.int l.length) := by simp [tI]
@[simp] theorem len_iL : oLen [iL l] Q = Q (.int l.length) := by simp [iL]
@[simp] theorem len_sL : oLen [sL zs] Q = Q (.int zs.length) := by simp [sL]
@[simp] theorem len_pL : oLen [pL p2] Q = Q (.int p2.length) := by simp [pL]
@[simp] theorem len_t2 : oLen [t2 p2] Q = Q (.int p2.length) := by simp [t2]
@[simp] theorem seq_tI : D.seq (tI l) = some (l.map .int) := rfl
@[simp] theorem seq_iL : D.seq (iL l) = some (l.map .int) := rfl
@[simp] theorem seq_sL : D.seq (sL zs) = some (zs.map .str) := rfl
@[simp] theorem seq_pL : D.seq (pL p2) = some (p2.map tI) := rfl
@[simp] theorem seq_t3 : D.seq (t3 p3) = some (p3.map t2) := rfl
@[simp] theorem seq_t2 : D.seq (t2 p2) = some (p2.map tI) := rfl
end
theorem p_is_set (xc : XC) (ds : List D) (Q : Bool → D → Prop) (h : wf_is_set xc ds Q) : b_is_set (Zd xc Q) (ds.map .da ++ List.replicate (6 - ds.length) .no) := by
  obtain ⟨l, n, rfl, hl, q⟩ := h
  have hs := sizeLine_eq
  simp [b_is_set]
  refine lc_of l D.int (fun x => .bl (decide (0 ≤ x) && decide (x < n))) (fun x hx k1 h1 => ?_) hl ?_
  · simp
    by_cases h0 : 0 ≤ x
    · exact .inr ⟨h0, by simpa [h0] using h1⟩
    · exact .inl ⟨by omega, by simpa [h0] using h1⟩
  · refine ⟨by omega, lc_rng0 _ (fun i => .bl (decide (l.getD i 0 < l.getD (i + 1) 0))) (fun i hi k1 h1 => ?_) (by omega) ?_⟩
    · simp
      refine ⟨_, atI_int (by omega) (by omega), _, atI_int (by omega) (by omega), ?_⟩
      simpa using h1
    · refine oAll_b (bs := l.map fun x => decide (0 ≤ x) && decide (x < n)) (by simp) ?_
      unfold isSet at q
      have e : (l.map fun x => decide (0 ≤ x) && decide (x < n)).all id = l.all fun x => decide (0 ≤ x) && decide (x < n) := by rw [List.all_map]; rfl
      rw [e]
      cases hb : (l.all fun x => decide (0 ≤ x) && decide (x < n)) with
      | false => rw [hb] at q; exact .inl ⟨rfl, by simpa using q⟩
      | true =>
        rw [hb, Bool.true_and] at q
        refine .inr ⟨rfl, oAll_b (bs := (List.range (l.length - 1)).map fun i => decide (l.getD i 0 < l.getD (i + 1) 0)) (by simp) ?_⟩
        rw [all_map]
        exact q
theorem p_len (C : Addr) (xc : XC) (ds : List D) (Q : Bool → D → Prop) (h : wf_Web___len__ C xc ds Q) : b_Web___len__ C (Zd xc Q) (ds.map .da ++ List.replicate (1 - ds.length) .no) := by
  obtain ⟨names, c, nx, rfl, q⟩ := h
  simp [b_Web___len__]
  simpa using q
theorem p_check_place (C : Addr) (xc : XC) (ds : List D) (Q : Bool → D → Prop) (h : wf_check_place C xc ds Q) : b_check_place C (Zd xc Q) (ds.map .da ++ List.replicate (2 - ds.length) .no) := by
  obtain ⟨names, c, nx, p, rfl, h0, h1, h2, q⟩ := h
  simp [b_check_place]
  exact ⟨h0, len_go h2 (by simpa [h1] using q)⟩
theorem p_steps (C : Addr) (xc : XC) (ds : List D) (Q : Bool → D → Prop) (h : wf_Web_steps C xc ds Q) : b_Web_steps C (Zd xc Q) (ds.map .da ++ List.replicate (3 - ds.length) .no) := by
  obtain ⟨names, c, nx, p, b, row, cell, rfl, h0, h1, h2, h3, h4, h5, q⟩ := h
  simp [b_Web_steps]
  refine ⟨names, c, nx, p, rfl, h0, h1, h2, ?_⟩
  have hm : 0 ≤ b % (c : Int) := Int.emod_nonneg _ (by omega)
  have l1 := (List.getElem?_eq_some_iff.mp h4).1
  have l2 := (List.getElem?_eq_some_iff.mp h5).1
  simp [h3]
  exact ⟨_, (atI_at hm (by omega)).trans h4, _, (atI_at h0 (by omega)).trans h5, q⟩
theorem inS_eq {c : Nat} {z : Str} {Q : D → Prop} : oInS false (.str ⟨#[c]⟩) (.str z) Q = Q (.bl (decide (c ∈ z.cps.toList))) := rfl
theorem p_is_name (xc : XC) (ds : List D) (Q : Bool → D → Prop) (h : wf_is_name xc ds Q) : b_is_name (Zd xc Q) (ds.map .da ++ List.replicate (2 - ds.length) .no) := by
  obtain ⟨z, rfl, hl, q⟩ := h
  have hs := sizeLine_eq
  have hz : z.cps.toList.length = z.length := by simp [Str.length]
  simp [b_is_name, wiStr, hl]
  unfold isName at q
  by_cases h1 : 1 ≤ z.length
  · refine .inr ⟨by omega, ?_⟩
    by_cases h8 : z.length ≤ 8
    · refine .inr ⟨by omega, ?_⟩
      refine lc_of z.cps.toList (fun c => .str ⟨#[c]⟩) (fun c => .bl (decide (c ∈ letters.cps.toList))) (fun c hc k1 k => ?_) (by omega) ?_
      · simp only [gSet, w2, wVar, wC, List.set_cons_succ, List.set_cons_zero, List.getElem?_cons_succ, List.getElem?_cons_zero, Option.some.injEq, Sl.da.injEq, exists_eq_left', inS_eq]
        exact k
      · refine oAll_b (bs := z.cps.toList.map fun c => decide (c ∈ letters.cps.toList)) (by simp) ?_
        rw [List.all_map]
        simp [h1, h8] at q
        simpa using q
    · exact .inl ⟨by omega, by simpa [h1, h8] using q⟩
  · exact .inl ⟨by omega, by simpa [h1] using q⟩
theorem p_law_is_int (xc : XC) (ds : List D) (Q : Bool → D → Prop) (h : wf_law_is_int xc ds Q) : b_law_is_int (Zd xc Q) (ds.map .da ++ List.replicate (1 - ds.length) .no) := by
  obtain ⟨i, rfl, q⟩ := h
  simpa [b_law_is_int, wIsi] using q
theorem name_ok {z : Str} (h : isName z = true) : PyData.strOk z = true ∧ z.length ≤ 8 := by
  unfold isName at h
  rw [Bool.and_eq_true, Bool.and_eq_true] at h
  refine ⟨?_, of_decide_eq_true h.1.2⟩
  have hl : ∀ c ∈ letters.cps.toList, c < 0x110000 := by decide +kernel
  unfold PyData.strOk
  rw [← Array.all_toList, List.all_eq_true]
  intro c hc
  exact decide_eq_true (hl c (of_decide_eq_true (List.all_eq_true.mp h.2 c hc)))
theorem NamesOk.ok {names : List Str} (h : NamesOk names) : ∀ z ∈ names, PyData.strOk z = true := fun z hz => (name_ok (h.nm z hz)).1
theorem atI_strs {l : List Str} {i : Nat} (h : i < l.length) : atI l (i : Int) = some l[i] := by
  rw [atI_at (by omega) (by omega)]
  simp [h]
theorem p_check_names (xc : XC) (ds : List D) (Q : Bool → D → Prop) (h : wf_check_names xc ds Q) : b_check_names (Zd xc Q) (ds.map .da ++ List.replicate (2 - ds.length) .no) := by
  obtain ⟨tt, names, rfl, hn, q⟩ := h
  have hs := sizeLine_eq
  have lo := hn.lo
  have hi := hn.hi
  simp [b_check_names, sFor]
  refine ⟨by omega, by omega, by omega, ?_⟩
  refine for_same (List.range names.length) (fun i => .int (0 + (i : Nat))) (fun ρ => ∃ t, ρ = [Sl.da (qD tt (names.map .str)), t]) (fun i ρ N hi ⟨t, e⟩ hN => ?_) ⟨_, rfl⟩ fun ρ _ => q
  subst e
  have hi' := List.mem_range.mp hi
  have hm : names[i] ∈ names := List.getElem_mem hi'
  have ea : atI (names.map D.str) (i : Int) = some (.str names[i]) := by rw [atI_map, atI_strs hi']; rfl
  simp
  refine ⟨_, ea, _, rfl, by have := (name_ok (hn.nm _ hm)).2; omega, ?_⟩
  simp [hn.nm _ hm]
  refine ⟨_, ea, ?_⟩
  simp [wSl, woS, woN]
  have ec : cutD (names.map .str) none (some (i : Int)) = (names.take i).map .str := by
    unfold cutD
    rw [HT.sIx_none, HT.sIx_nat, List.length_map, Nat.min_eq_left (by omega), List.drop_zero, Nat.sub_zero, List.map_take]
  rw [ec, in_hD (hn.ok _ hm) (fun z hz => hn.ok z (List.mem_of_mem_take hz))]
  have hno : ¬ names[i] ∈ names.take i := fun z => by
    obtain ⟨j, hj, e⟩ := List.mem_take_iff_getElem.mp z
    have hj' : j < names.length := by omega
    have := (List.getElem_inj hn.nd).mp e
    omega
  simp [hno]
  exact hN _ ⟨_, rfl⟩
end Tw.S

namespace Tw.S
open PySem PySem.Spec L2 PyProof.Rows Tw
theorem oGt_l {i j : Int} {Q : D → Prop} : oGt (.int i) (.int j) Q = Q (.bl (decide (j < i))) := rfl
theorem word_ok {z : Str} (h : z = "two" ∨ z = "one") : PyData.strOk z = true := by rcases h with rfl | rfl <;> decide +kernel
theorem p_is_tie (xc : XC) (ds : List D) (Q : Bool → D → Prop) (h : wf_is_tie xc ds Q) : b_is_tie (Zd xc Q) (ds.map .da ++ List.replicate (7 - ds.length) .no) := by
  obtain ⟨tt, names, t, c, rfl, hn, ht, hc, hl, q⟩ := h
  have hs := sizeLine_eq
  simp [b_is_tie, tieD, sAsg, gTupD, gsCons, gsNil]
  refine ⟨_, _, ⟨rfl, rfl⟩, _, _, rfl, _, _, rfl, _, _, rfl, rfl, ?_⟩
  have oa := hn.ok _ ht.a
  have ob := hn.ok _ ht.b
  rw [in_hD oa hn.ok]
  refine .inl ⟨by simp [ht.a], ?_⟩
  rw [in_hD ob hn.ok]
  refine .inl ⟨by simp [ht.b], ?_⟩
  rw [oEq_s oa ob]
  refine .inl ⟨by simp [ht.ne], by omega, ?_⟩
  rw [oIn_ss (word_ok ht.w) (by decide +kernel) (by decide +kernel)]
  refine .inr ⟨by rcases ht.w with e | e <;> simp [e], ?_⟩
  have h0 : 0 < t.at_.length := List.length_pos_iff.mpr ht.at0
  simp
  exact .inr ⟨by omega, _, _, rfl, hl, by rw [ht.at_]; exact q⟩
theorem p_check_ties (xc : XC) (ds : List D) (Q : Bool → D → Prop) (h : wf_check_ties xc ds Q) : b_check_ties (Zd xc Q) (ds.map .da ++ List.replicate (5 - ds.length) .no) := by
  obtain ⟨tt, t', names, ts, c, rfl, hn, ht, hc, hl, q⟩ := h
  have le := ht.le
  simp [b_check_ties, sFor, wiEnA]
  refine ⟨by omega, ?_⟩
  have em : List.map (fun q => D.tup [D.int ↑q.snd, q.fst]) (List.map tieD ts).zipIdx = ts.zipIdx.map fun q => D.tup [D.int ↑q.snd, tieD q.fst] := by
    rw [List.zipIdx_map, List.map_map]; rfl
  rw [em]
  refine for_same ts.zipIdx (fun q => D.tup [D.int ↑q.snd, tieD q.fst]) (fun ρ => ∃ a b, ρ = [Sl.da (qD tt (names.map .str)), Sl.da (qD t' (ts.map tieD)), Sl.da (.int c), a, b]) (fun x ρ N hx ⟨a, b, e⟩ hN => ?_) ⟨_, _, rfl⟩ fun ρ _ => q
  subst e
  have hm : x.1 ∈ ts := (List.mem_zipIdx' hx).2 ▸ List.getElem_mem _
  simp [gTupD, gsCons, gsNil]
  refine ⟨_, _, ⟨rfl, rfl⟩, _, _, rfl, rfl, tt, names, x.1, c, rfl, hn, ht.ok _ hm, hc, hl _ hm, ?_⟩
  simp
  exact hN _ ⟨_, _, rfl⟩
/-- a set of numbers below n has at most n of them -/
theorem climb_le : ∀ {l : List Int} {n : Int}, isSet l n = true → ∀ (i : Nat) (hi : i < l.length), (i : Int) ≤ l[i] ∧ l[i] < n
  | l, n, h, i, hi => by
    unfold isSet at h
    rw [Bool.and_eq_true] at h
    have hb : ∀ (j : Nat) (hj : j < l.length), 0 ≤ l[j] ∧ l[j] < n := fun j hj => by
      have := List.all_eq_true.mp h.1 _ (List.getElem_mem hj)
      simpa using this
    refine ⟨?_, (hb i hi).2⟩
    induction i with
    | zero => exact (hb 0 hi).1
    | succ i ih =>
      have h1 := ih (by omega)
      have h2 := List.all_eq_true.mp h.2 i (List.mem_range.mpr (by omega))
      have h3 : l[i]'(by omega) < l[i + 1] := by
        have := of_decide_eq_true h2
        simpa [show i < l.length by omega, hi] using this
      omega
theorem set_len {l : List Int} {n : Nat} (h : isSet l n = true) : l.length ≤ n := by
  cases hl : l.length with
  | zero => omega
  | succ k =>
    have := climb_le h k (by omega)
    omega
theorem TieOk.short {names : List Str} {c : Nat} {t : Tie} (h : TieOk names c t) (hc : c ≤ 4) : t.at_.length ≤ sizeLine := by
  have := set_len h.at_
  have := sizeLine_eq
  omega
theorem row_le (n : Nat) (p : Nat → Bool) : (rowF n p).length ≤ n := by
  unfold rowF
  have := List.length_filter_le p (List.range n)
  simp only [List.length_map, List.length_range] at this ⊢
  omega
theorem tab_dims {n c : Nat} {L : Psg} (hn : n ≤ 8) (hc : c ≤ 4) : (tabF n c L).length ≤ 4 ∧ ∀ r ∈ tabF n c L, r.length ≤ 8 ∧ ∀ l ∈ r, l.length ≤ 8 := by
  refine ⟨by simp [tabF]; omega, fun r hr => ?_⟩
  obtain ⟨b, hb, rfl⟩ := List.mem_map.mp hr
  refine ⟨by simp; omega, fun l hl => ?_⟩
  obtain ⟨u, hu, rfl⟩ := List.mem_map.mp hl
  have := row_le n (L b u)
  omega
theorem p_Web_init (C : Addr) (xc : XC) (ds : List D) (Q : List (Str × D) → Prop) (p : Addr) (h : wi_Web xc ds Q) : b_Web___init__ C { nx := fun ρ => ∃ fs, ρ[0]? = some (.se p C fs) ∧ Q fs, rt := fun _ _ => False, xc := xc } (.se p C [] :: (ds.map .da ++ List.replicate (4 - (ds.length + 1)) .no)) := by
  obtain ⟨tt, t', names, ts, c, rfl, hn, ht, h1, h2, q⟩ := h
  have hlen : ∀ t ∈ ts, t.at_.length ≤ sizeLine := fun t h => (ht.ok t h).short h2
  simp (decide := true) [b_Web___init__, wTupX2, wSelf, sFldD, ex2, ex2', putD]
  refine ⟨tt, names, rfl, hn, by omega, by omega, tt, t', names, ts, c, rfl, hn, ht, h2, hlen, names.map .str, by cases tt <;> simp, ?_⟩
  have td := tab_dims (n := names.length) (c := c) (L := psgOf names ts) hn.hi h2
  refine ⟨t', names, ts, c, rfl, hn, ht, h1, h2, _, rfl, nextsT names ts c, rfl, td.1, td.2, ?_⟩
  simpa [putD] using q
theorem sm_nx {n : Nat} {xs ys : List D} {wfr : Wf} {xc : XC} {Q : Bool → D → Prop} {s0 s1 : Sl} (hs : ∀ q ∈ xs.zip ys, Sm n q.1 q.2) (q : Q false (.bl true)) (hw : wfr = wfSame n) :
    forW (gTupD 2 (gsCons (gSet 2) (gsCons (gSet 3) gsNil))) (sIf (wNot (wTru (wCall wfr [] (waCons (wVar 2) (waCons (wVar 3) waNil))))) (sRet (wC (.bl false))) sNil) { nx := sRet (wC (.bl true)) (Zd xc Q), rt := Q, xc := xc } ((xs.zip ys).map fun q => D.tup [q.1, q.2]) [s0, s1, Sl.no, Sl.no] := by
  subst hw
  refine for_same (xs.zip ys) (fun q => D.tup [q.1, q.2]) (fun ρ => ∃ a b, ρ = [s0, s1, a, b]) (fun x ρ N hx ⟨a, b, e⟩ hN => ?_) ⟨_, _, rfl⟩ fun ρ _ => by simpa using q
  subst e
  simp [gTupD, gsCons, gsNil]
  refine ⟨_, _, ⟨rfl, rfl⟩, _, _, rfl, rfl, _, _, _, rfl, .sm (hs x hx), ?_⟩
  simp
  exact hN _ ⟨_, _, rfl⟩
theorem p_law_same0 (wfr : Wf) (xc : XC) (ds : List D) (Q : Bool → D → Prop) (h : wfSame 0 xc ds Q) : b_law_same wfr (Zd xc Q) (ds.map .da ++ List.replicate (4 - ds.length) .no) := by
  obtain ⟨g, d, bb, rfl, hs, q⟩ := h
  simp [b_law_same, wIsi]
  cases hs
  case bl b c => cases b <;> cases c <;> simpa using q
  case str y z hy hz => simpa [oEq_s hy hz] using q
  case sm hs =>
    cases hs
    case non => simpa using q
    case bl b => cases b <;> simpa using q
    case int i => simpa [wf_law_is_int] using q
    case str z hz => simpa [oEq_s hz hz] using q
theorem p_law_same (n : Nat) (xc : XC) (ds : List D) (Q : Bool → D → Prop) (h : wfSame (n + 1) xc ds Q) : b_law_same (wfSame n) (Zd xc Q) (ds.map .da ++ List.replicate (4 - ds.length) .no) := by
  obtain ⟨g, d, bb, rfl, hs, q⟩ := h
  simp [b_law_same, wIsi]
  cases hs
  case bl b c => cases b <;> cases c <;> simpa using q
  case str y z hy hz => simpa [oEq_s hy hz] using q
  case sm hs =>
    cases hs
    case non => simpa using q
    case bl b => cases b <;> simpa using q
    case int i => simpa [wf_law_is_int] using q
    case str z hz => simpa [oEq_s hz hz] using q
    case tup xs ys hl hs =>
      simp [hl, sFor, wiZ, D.isL, D.isT, ex2]
      exact sm_nx (s0 := Sl.da (.tup xs)) (s1 := Sl.da (.tup ys)) hs q rfl
    case lst xs ys hl hs =>
      simp [hl, sFor, wiZ, D.isL, D.isT, ex2]
      exact sm_nx (s0 := Sl.da (.lst xs)) (s1 := Sl.da (.lst ys)) hs q rfl
end Tw.S

namespace Tw.S
open PySem PySem.Spec L2 PyProof.Rows Tw
section
variable {l : List Int} {p2 : List (List Int)} {zs : List Str} {Q : D → Prop}
@[simp] theorem tup_sL : oTuple [sL zs] Q = Q (.tup (zs.map .str)) := rfl
@[simp] theorem tup_iL : oTuple [iL l] Q = Q (tI l) := rfl
end
theorem sm_list {n : Nat} : ∀ {xs : List D}, (∀ x ∈ xs, Sm n x x) → ∀ q ∈ xs.zip xs, Sm n q.1 q.2
  | [], _, q, hq => by simp at hq
  | x :: xs, h, q, hq => by
    rcases List.mem_cons.mp hq with rfl | hq
    · exact h x (by simp)
    · exact sm_list (fun y hy => h y (by simp [hy])) q hq
theorem sm_strs {n : Nat} {l : List Str} (h : ∀ z ∈ l, PyData.strOk z = true) : Sm (n + 1) (.tup (l.map .str)) (.tup (l.map .str)) := by
  refine .tup rfl (sm_list fun x hx => ?_)
  obtain ⟨z, hz, rfl⟩ := List.mem_map.mp hx
  exact .str z (h z hz)
theorem sm_ints {n : Nat} {l : List Int} : Sm (n + 1) (tI l) (tI l) := by
  refine .tup rfl (sm_list fun x hx => ?_)
  obtain ⟨z, hz, rfl⟩ := List.mem_map.mp hx
  exact .int z
theorem sorted_one : ∀ {a b : List Int}, a.Perm b → a.Pairwise (· ≤ ·) → b.Pairwise (· ≤ ·) → a = b
  | [], b, p, _, _ => by rw [List.nil_perm.mp p]
  | x :: a, [], p, _, _ => by cases List.perm_nil.mp p
  | x :: a, y :: b, p, ha, hb => by
    have ha' := List.pairwise_cons.mp ha
    have hb' := List.pairwise_cons.mp hb
    have hx : x ∈ y :: b := p.subset (by simp)
    have hy : y ∈ x :: a := p.symm.subset (by simp)
    have e : x = y := by
      rcases List.mem_cons.mp hx with e | hx
      · exact e
      · rcases List.mem_cons.mp hy with e | hy
        · exact e.symm
        · have := ha'.1 y hy
          have := hb'.1 x hx
          omega
    subst e
    rw [sorted_one (List.Perm.cons_inv p) ha'.2 hb'.2]
theorem merge_srt (l : List Int) : (l.mergeSort fun a b => decide (a ≤ b)).Pairwise (· ≤ ·) := by
  have h := List.pairwise_mergeSort (le := fun a b : Int => decide (a ≤ b)) (fun a b c h1 h2 => by simp at *; omega) (fun a b => by simp; omega) l
  exact h.imp fun h => of_decide_eq_true h
theorem sort_steps {ms l : List Int} {u : Nat} (p : ms.Perm ((u : Int) :: l)) (s : ms.Pairwise (· ≤ ·)) : ms = stepsF l u :=
  sorted_one (p.trans (List.mergeSort_perm _ _).symm) s (merge_srt _)
theorem tab_at {n c : Nat} {L : Psg} {b : Nat} (hb : b < c) : atI (tabF n c L) (b : Int) = some ((List.range n).map fun u => rowF n (L b u)) := by
  rw [atI_at (by omega) (by simp [tabF]; omega)]
  simp [tabF, hb]
theorem row_at {n : Nat} {f : Nat → List Int} {u : Nat} (hu : u < n) : atI ((List.range n).map f) (u : Int) = some (f u) := by
  rw [atI_at (by omega) (by simp; omega)]
  simp [hu]
theorem steps_tab {n c : Nat} {L : Psg} : stepsT (tabF n c L) = (List.range c).map fun b => (List.range n).map fun u => stepsF (rowF n (L b u)) u := by
  unfold stepsT tabF
  rw [List.map_map]
  apply List.map_congr_left
  intro b _
  show ((List.range n).map fun u => rowF n (L b u)).zipIdx.map (fun q => stepsF q.1 q.2) = _
  apply List.ext_getElem?
  intro i
  rw [List.getElem?_map, List.getElem?_zipIdx, List.getElem?_map, List.getElem?_map]
  by_cases hi : i < n
  · simp [hi]
  · simp [hi]
theorem p_law_web_is (C : Addr) (xc : XC) (ds : List D) (Q : Bool → D → Prop) (h : wf_law_web_is C xc ds Q) : b_law_web_is C (Zd xc Q) (ds.map .da ++ List.replicate (7 - ds.length) .no) := by
  obtain ⟨names, c, L, rfl, hn, h1, h2, q⟩ := h
  have hs := sizeLine_eq
  simp [b_law_web_is, sFor, webP]
  refine ⟨_, _, _, rfl, .sm (sm_strs hn.ok), ?_⟩
  simp
  refine ⟨_, _, _, rfl, .sm (.int _), ?_⟩
  simp
  refine ⟨by omega, ?_⟩
  refine for_same (List.range c) (fun i => .int (0 + (i : Nat))) (fun ρ => ∃ a b d, ρ = [Sl.da (webD C names c (tabF names.length c L)), Sl.da (sL names), Sl.da (D.int ↑c), Sl.da (l3 (tabF names.length c L)), a, b, d]) (fun b ρ N hb ⟨a1, a2, a3, e⟩ hN => ?_) ⟨_, _, _, rfl⟩ fun ρ ⟨_, _, _, _⟩ => by simpa using q
  subst e
  have hb' := List.mem_range.mp hb
  have hi := hn.hi
  simp [sFor]
  refine ⟨by omega, ?_⟩
  refine for_same (List.range names.length) (fun i => .int (0 + (i : Nat))) (fun ρ => ∃ a d, ρ = [Sl.da (webD C names c (tabF names.length c L)), Sl.da (sL names), Sl.da (D.int ↑c), Sl.da (l3 (tabF names.length c L)), Sl.da (.int b), a, d]) (fun u ρ N' hu ⟨a1, a2, e⟩ hN' => ?_) ⟨_, _, rfl⟩ fun ρ ⟨_, _, e⟩ => hN _ ⟨_, _, _, e⟩
  subst e
  have hu' := List.mem_range.mp hu
  have hl := row_le names.length (L b u)
  simp
  refine ⟨by omega, _, tab_at hb', _, row_at hu', ?_⟩
  simp [iL]
  refine ⟨by omega, (u : Int) :: rowF names.length (L b u), by simp, fun ms hp hss => ?_⟩
  have e := sort_steps hp hss
  rw [e]
  refine ⟨⟨_, rfl, rfl⟩, names, c, _, (u : Int), (b : Int), (List.range names.length).map fun u => stepsF (rowF names.length (L b u)) u, stepsF (rowF names.length (L b u)) u, rfl, by omega, by omega, hi, by omega, ?_, ?_, ?_⟩
  · have : ((b : Int) % (c : Int)).toNat = b := by
      rw [Int.emod_eq_of_lt (by omega) (by omega)]; omega
    rw [this, steps_tab]
    simp [hb']
  · simp [hu']
  · refine ⟨_, _, _, rfl, .sm sm_ints, ?_⟩
    simp
    exact hN' _ ⟨_, _, rfl⟩
theorem p_nexts_at (xc : XC) (ds : List D) (Q : Bool → D → Prop) (h : wf_nexts_at xc ds Q) : b_nexts_at (Zd xc Q) (ds.map .da ++ List.replicate (5 - ds.length) .no) := by
  obtain ⟨kvs, b, n, rfl, hn, q⟩ := h
  have hs := sizeLine_eq
  simp [b_nexts_at]
  refine ⟨by omega, ?_⟩
  refine lc_rng0 n (fun u => tI (rowF n fun v : Nat => hasD kvs [.inl (b : Int), .inl (u : Int), .inl (v : Int)])) (fun u hu k1 h1 => ?_) (by omega) ?_
  · simp
    refine ⟨by omega, ?_⟩
    refine lc_rng0F n (fun v => hasD kvs [.inl (b : Int), .inl (u : Int), .inl (v : Int)]) (fun v => .int (v : Nat)) (fun v hv k1 k2 h1 h2 => ?_) (by omega) ?_
    · simp [wInT]
      refine ⟨by omega, [.inl (b : Int), .inl (u : Int), .inl (v : Int)], rfl, ?_⟩
      cases hv : hasD kvs [.inl (b : Int), .inl (u : Int), .inl (v : Int)] with
      | true => simpa using h1 hv
      | false => simpa using h2 hv
    · simpa [tI, rowF, Function.comp_def] using h1
  · simpa [t2, Function.comp_def] using q
theorem p_steps_of (xc : XC) (ds : List D) (Q : Bool → D → Prop) (h : wf_steps_of xc ds Q) : b_steps_of (Zd xc Q) (ds.map .da ++ List.replicate (3 - ds.length) .no) := by
  obtain ⟨nx, rfl, h4, hr, q⟩ := h
  have hs := sizeLine_eq
  simp [b_steps_of]
  refine lc_of nx t2 (fun r => t2 (r.zipIdx.map fun q => stepsF q.1 q.2)) (fun r hm k1 h1 => ?_) (by omega) ?_
  · obtain ⟨h8, hl⟩ := hr r hm
    simp
    refine ⟨by omega, ?_⟩
    refine lc_rng0 r.length (fun u => tI (stepsF (r.getD u []) u)) (fun u hu k1 h1 => ?_) (by omega) ?_
    · have hg : atI r (u : Int) = some r[u] := by rw [atI_at (by omega) (by omega)]; simp [hu]
      simp [waStar]
      refine ⟨_, hg, r[u].map .int, .inl rfl, by have := hl _ (List.getElem_mem hu); simp; omega, ((u : Int) :: r[u]), by simp, fun ms hp hs => ?_⟩
      have e := sort_steps hp hs
      rw [e]
      simpa [hu, tI] using h1
    · have e : (List.range r.length).map (fun u => tI (stepsF (r.getD u []) u)) = (r.zipIdx.map fun q => stepsF q.1 q.2).map tI := by
        apply List.ext_getElem?
        intro i
        by_cases hi : i < r.length
        · simp [hi]
        · simp [hi]
      rw [e]
      exact h1
  · simpa [t3, stepsT, Function.comp_def] using q
end Tw.S

namespace Tw.S
open PySem PySem.Spec L2 PyProof.Rows Tw
@[simp] theorem tru_tI {l : List Int} : D.tru (tI l) = some (!l.isEmpty) := by
  unfold tI
  simp
theorem foldl_flat {α β : Type} (f : α → List β) : ∀ (l : List α) (i : List β), l.foldl (fun a x => a ++ f x) i = i ++ l.flatMap f
  | [], i => by simp
  | x :: l, i => by rw [List.foldl_cons, foldl_flat f l]; simp
theorem fold_count (l : List Nat) (i : Nat) : l.foldl (fun m _ => m + 1) i = i + l.length := by
  induction l generalizing i with
  | nil => rfl
  | cons x l ih => rw [List.foldl_cons, ih]; simp; omega
theorem foldl_map_app {α β : Type} (f : α → β) : ∀ (l : List α) (i : List β), l.foldl (fun a x => a ++ [f x]) i = i ++ l.map f
  | [], i => by simp
  | x :: l, i => by rw [List.foldl_cons, foldl_map_app f l]; simp
def cutA {α : Type} (l : List α) (lo hi : Option Int) : List α := (l.drop (HT.sIx l.length 0 lo)).take (HT.sIx l.length l.length hi - HT.sIx l.length 0 lo)
theorem cutD_map {α : Type} {f : α → D} {l : List α} {lo hi : Option Int} : cutD (l.map f) lo hi = (cutA l lo hi).map f := by
  unfold cutD cutA
  rw [List.length_map, List.map_take, List.map_drop]
def r_draws : Ws := (sSeq (sSetO 4 (wLst waNil))
  (sSeq (sIf (wB (w2 oGe (wVar 3) (w2 oPow (wC (.int 10)) (wC (.int 18)))))
  (sSeq (sSet 3 (w2 oSub (wVar 3) (w2 oPow (wC (.int 10)) (wC (.int 18)))))
  (sSeq (sFor (wiR1 (wVar 2)) (gSet 5)
  (sSeq (sApp 4 (w2 oMod (wN oInt (waCons (wVar 3) waNil)) (wC (.int 1000))))
  (sSet 3 (w2 oDiv (wN oInt (waCons (wVar 3) waNil)) (wC (.int 1000))))))
  (sRetO 4)))
  sNil)
  (sSeq (sSet 6 (w2 oPlus (wVar 3) (w2 oMul (w2 oPlus (wVar 1) (wC (.int 1))) (wC (.int 7919)))))
  (sSeq (sFor (wiS (wSl oSl (wVar 0) woN (woS (wC (.int 6))))) (gSet 7)
  (sSet 6 (w2 oMod (wN oInt (waCons (w2 oPlus (w2 oMul (wVar 6) (wC (.int 31))) (wN oAbs (waCons (wVar 7) waNil))) waNil)) (wC (.int 2147483647)))))
  (sSeq (sFor (wiR1 (wVar 2)) (gSet 5)
  (sSeq (sSet 8 (w2 oMod (wN oInt (waCons (w2 oPlus (w2 oMul (wVar 6) (wC (.int 48271))) (w2 oMul (w2 oPlus (wVar 5) (wC (.int 1))) (wC (.int 16807)))) waNil)) (wC (.int 2147483647))))
  (sSeq (sSet 9 (w2 oMod (wN oInt (waCons (w2 oPlus (w2 oMul (wVar 8) (wVar 8)) (wVar 5)) waNil)) (wC (.int 2147483629))))
  (sSeq (sSet 10 (w2 oMod (wN oInt (waCons (w2 oPlus (w2 oMul (wVar 9) (wVar 9)) (wVar 8)) waNil)) (wC (.int 2147483587))))
  (sApp 4 (w2 oMod (w2 oDiv (wVar 10) (wC (.int 7))) (wC (.int 1000))))))))
  (sRetO 4))))))
theorem pre_lt {n : Nat} {pre post : List Nat} {i : Nat} (e : List.range n = pre ++ i :: post) : pre.length + 1 ≤ n := by
  have := congrArg List.length e
  simp at this
  omega
theorem p_law_draws (xc : XC) (ds : List D) (Q : Bool → D → Prop) (h : wf_law_draws xc ds Q) : b_law_draws (Zd xc Q) (ds.map .da ++ List.replicate (11 - ds.length) .no) := by
  obtain ⟨sc, k, n, rfl, hsc, hk, hn, q⟩ := h
  have hs := sizeLine_eq
  have cp : CPow 10 18 := ⟨by omega, by omega, by decide⟩
  have fin : ∀ (num : Int), r_draws (Zd xc Q) [Sl.da (.fls (sc.map .int)), Sl.da (.int k), Sl.da (.int n), Sl.da (.int num), Sl.no, Sl.no, Sl.no, Sl.no, Sl.no, Sl.no, Sl.no] := by
    intro num
    simp [r_draws, cp, sFor]
    by_cases hb : (1000000000000000000 : Int) ≤ num
    · refine .inr ⟨hb, by omega, ?_⟩
      refine for_fold (List.range n) (fun i => .int (0 + (i : Nat))) (fun m _ => m + 1) (fun m ρ => ∃ (acc : List Int) (v : Int) (a : Sl), ρ = [Sl.da (.fls (sc.map .int)), Sl.da (.int k), Sl.da (.int n), Sl.da (.int v), Sl.ow (.lst (acc.map .int)), a, Sl.no, Sl.no, Sl.no, Sl.no, Sl.no] ∧ acc.length = m ∧ ∀ x ∈ acc, 0 ≤ x ∧ x < 1000) 0 (fun pre i post ρ N e ⟨acc, v, a1, er, el, eb⟩ hN => ?_) ⟨[], _, _, rfl, rfl, by simp⟩ fun ρ ⟨acc, v, a1, er, el, eb⟩ => ?_
      · subst er
        rw [fold_count, Nat.zero_add] at hN el
        have hp := pre_lt e
        have cd : CDiv v 1000 := ⟨by omega, by omega⟩
        simp [sApp, cd]
        refine ⟨by omega, hN _ ⟨acc ++ [v % 1000], v / 1000, Sl.da (.int i), by simp, by simp; omega, fun x hx => ?_⟩⟩
        rcases List.mem_append.mp hx with hx | hx
        · exact eb x hx
        · simp at hx
          subst hx
          omega
      · subst er
        rw [fold_count, Nat.zero_add] at el
        simp [sRetO]
        exact q acc (by simpa using el) eb
    · refine .inl ⟨by omega, ?_⟩
      have cm : CMul ((k : Int) + 1) 7919 := .inr ⟨by omega, by omega⟩
      simp [cm, wSl, woN, woS, cutD_map]
      refine for_fold (cutA sc none (some 6)) D.int (fun (m : Unit) _ => ()) (fun m ρ => ∃ (t : Int) (a : Sl), ρ = [Sl.da (.fls (sc.map .int)), Sl.da (.int k), Sl.da (.int n), Sl.da (.int num), Sl.ow (.lst []), Sl.no, Sl.da (.int t), a, Sl.no, Sl.no, Sl.no]) () (fun pre c post ρ N e ⟨t, a1, er⟩ hN => ?_) ⟨_, _, rfl⟩ fun ρ ⟨t, a1, er⟩ => ?_
      · subst er
        have cm2 : CMul t 31 := .inr ⟨by omega, by omega⟩
        simp [cm2]
        exact hN _ ⟨_, _, rfl⟩
      · subst er
        simp [sFor]
        refine ⟨by omega, ?_⟩
        refine for_fold (List.range n) (fun i => .int (0 + (i : Nat))) (fun m _ => m + 1) (fun m ρ => ∃ (acc : List Int) (a b c d : Sl), ρ = [Sl.da (.fls (sc.map .int)), Sl.da (.int k), Sl.da (.int n), Sl.da (.int num), Sl.ow (.lst (acc.map .int)), a, Sl.da (.int t), a1, b, c, d] ∧ acc.length = m ∧ ∀ x ∈ acc, 0 ≤ x ∧ x < 1000) 0 (fun pre i post ρ N e ⟨acc, b1, b2, b3, b4, er, el, eb⟩ hN => ?_) ⟨[], _, _, _, _, rfl, rfl, by simp⟩ fun ρ ⟨acc, b1, b2, b3, b4, er, el, eb⟩ => ?_
        · subst er
          rw [fold_count, Nat.zero_add] at hN el
          have hp := pre_lt e
          have hi : i < n := List.mem_range.mp (by rw [e]; simp)
          have c1 : CMul t 48271 := .inr ⟨by omega, by omega⟩
          have c2 : CMul ((i : Int) + 1) 16807 := .inr ⟨by omega, by omega⟩
          simp [c1, c2]
          generalize (t * 48271 + ((i : Int) + 1) * 16807) = u
          have c3 : CMul (u % 2147483647) (u % 2147483647) := .inr ⟨by omega, by omega⟩
          simp [c3]
          generalize (u % 2147483647 * (u % 2147483647) + (i : Int)) = u2
          have c4 : CMul (u2 % 2147483629) (u2 % 2147483629) := .inr ⟨by omega, by omega⟩
          simp [c4, sApp]
          generalize (u2 % 2147483629 * (u2 % 2147483629) + u % 2147483647) = u3
          have c5 : CDiv (u3 % 2147483587) 7 := ⟨by omega, by omega⟩
          simp [c5]
          refine ⟨by omega, hN _ ⟨acc ++ [u3 % 2147483587 / 7 % 1000], _, _, _, _, by simp; exact ⟨rfl, rfl, rfl, rfl⟩, by simp; omega, fun x hx => ?_⟩⟩
          rcases List.mem_append.mp hx with hx | hx
          · exact eb x hx
          · simp at hx
            subst hx
            omega
        · subst er
          rw [fold_count, Nat.zero_add] at el
          simp [sRetO]
          exact q acc (by simpa using el) eb
  have eb : b_law_draws = sSeq (sSet 3 (wC (.int 0))) (sSeq (sIf (wB (w2 oLt (wVar 1) (wN oLen (waCons (wVar 0) waNil)))) (sSet 3 (wN oAbs (waCons (w2 oIx (wVar 0) (wVar 1)) waNil))) sNil) r_draws) := rfl
  rw [eb]
  simp
  by_cases hk : k < sc.length
  · refine .inr ⟨hk, ?_⟩
    refine ⟨_, ⟨_, atI_int (by omega) (by omega), rfl⟩, ?_⟩
    simp
    exact fin _
  · exact .inl ⟨by omega, fin 0⟩
end Tw.S

namespace Tw.S
open PySem PySem.Spec L2 PyProof.Rows Tw
theorem ll_eq : letters.cps.toList = (List.range 26).map fun i => 97 + i := by decide +kernel
theorem ll_len : letters.length = 26 := by decide +kernel
theorem ll_at {i : Int} (h0 : 0 ≤ i) (h : i < 26) : atI letters.cps.toList i = some (97 + i.toNat) := by
  have hl : letters.cps.toList.length = 26 := by rw [ll_eq]; simp
  rw [atI_at h0 (by omega), ll_eq]
  have : i.toNat < 26 := by omega
  simp [this]
theorem mul_list (c : Nat) (n : Nat) (h : n ≤ 7) : (Txt.mul ⟨#[c]⟩ (n : Int)).cps.toList = List.replicate n c := by
  match n, h with
  | 0, _ => rfl
  | 1, _ => rfl
  | 2, _ => rfl
  | 3, _ => rfl
  | 4, _ => rfl
  | 5, _ => rfl
  | 6, _ => rfl
  | 7, _ => rfl
  | n + 8, h => omega
theorem mul_len (c : Nat) (n : Nat) (h : n ≤ 7) : (Txt.mul ⟨#[c]⟩ (n : Int)).length = n := by
  have := congrArg List.length (mul_list c n h)
  simpa [Str.length] using this
theorem mul_ok0 : ∀ n : Nat, n ≤ 7 → MulOk ⟨#[0]⟩ (n : Int) := by
  intro n h
  match n, h with
  | 0, _ => exact ⟨rfl, fun h => absurd (by decide) h, fun h => absurd (by decide) h⟩
  | 1, _ => exact ⟨rfl, fun _ h => absurd h (by decide), fun _ h => absurd h (by decide)⟩
  | 2, _ => exact ⟨rfl, fun _ _ => by decide, fun _ _ => by decide +kernel⟩
  | 3, _ => exact ⟨rfl, fun _ _ => by decide, fun _ _ => by decide +kernel⟩
  | 4, _ => exact ⟨rfl, fun _ _ => by decide, fun _ _ => by decide +kernel⟩
  | 5, _ => exact ⟨rfl, fun _ _ => by decide, fun _ _ => by decide +kernel⟩
  | 6, _ => exact ⟨rfl, fun _ _ => by decide, fun _ _ => by decide +kernel⟩
  | 7, _ => exact ⟨rfl, fun _ _ => by decide, fun _ _ => by decide +kernel⟩
  | n + 8, h => omega
theorem mul_ok (c : Nat) (n : Nat) (h : n ≤ 7) : MulOk ⟨#[c]⟩ (n : Int) := mul_ok0 n h
def nmS (c spot rest d : Nat) : Str := Txt.mul ⟨#[c]⟩ (spot : Int) ++ ⟨#[d]⟩ ++ Txt.mul ⟨#[c]⟩ (rest : Int)
theorem nm_list {c spot rest d : Nat} (h1 : spot ≤ 7) (h2 : rest ≤ 7) : (nmS c spot rest d).cps.toList = List.replicate spot c ++ [d] ++ List.replicate rest c := by
  unfold nmS
  show (((Txt.mul ⟨#[c]⟩ (spot : Int)).cps ++ #[d]) ++ (Txt.mul ⟨#[c]⟩ (rest : Int)).cps).toList = _
  rw [Array.toList_append, Array.toList_append, mul_list c spot h1, mul_list c rest h2]
theorem nm_inj {c spot rest d d' : Nat} (h1 : spot ≤ 7) (h2 : rest ≤ 7) (h : nmS c spot rest d = nmS c spot rest d') : d = d' := by
  have e := congrArg (fun z : Str => z.cps.toList) h
  simp only [nm_list h1 h2] at e
  have e2 := congrArg (fun l => l[spot]?) e
  simpa using e2
theorem nm_name {c spot rest d : Nat} (h : spot + rest ≤ 7) (hc : c < 26) (hd : d < 26) : isName (nmS (97 + c) spot rest (97 + d)) = true := by
  have hl := nm_list (c := 97 + c) (spot := spot) (rest := rest) (d := 97 + d) (by omega) (by omega)
  have hlen : (nmS (97 + c) spot rest (97 + d)).length = spot + 1 + rest := by
    have := congrArg List.length hl
    simp [Str.length] at this ⊢
    omega
  have hm : ∀ x, x < 26 → 97 + x ∈ letters.cps.toList := fun x hx => by rw [ll_eq]; exact List.mem_map.mpr ⟨x, List.mem_range.mpr hx, rfl⟩
  unfold isName
  rw [hlen, hl]
  simp only [Bool.and_eq_true, decide_eq_true_eq, List.all_eq_true]
  refine ⟨⟨by omega, by omega⟩, fun x hx => ?_⟩
  simp at hx
  rcases hx with ⟨_, rfl⟩ | rfl | ⟨_, rfl⟩
  · exact hm c hc
  · exact hm d hd
  · exact hm c hc
theorem nodup_map {α β : Type} {f : α → β} : ∀ {l : List α}, l.Nodup → (∀ x ∈ l, ∀ y ∈ l, f x = f y → x = y) → (l.map f).Nodup
  | [], _, _ => by simp
  | x :: l, hn, h => by
    rw [List.map_cons, List.nodup_cons]
    rw [List.nodup_cons] at hn
    refine ⟨fun hm => ?_, nodup_map hn.2 fun a ha b hb e => h a (by simp [ha]) b (by simp [hb]) e⟩
    obtain ⟨y, hy, e⟩ := List.mem_map.mp hm
    have := h y (by simp [hy]) x (by simp) e
    subst this
    exact hn.1 hy
def r_names : Ws := (sSeq (sSet 5 (w2 oIx (wVar 3) (w2 oMod (wN oInt (waCons (w2 oIx (wVar 0) (w2 oPlus (wVar 1) (wC (.int 1)))) waNil)) (wC (.int 26)))))
  (sSeq (sSet 6 (w2 oMod (w2 oDiv (wN oInt (waCons (w2 oIx (wVar 0) (w2 oPlus (wVar 1) (wC (.int 1)))) waNil)) (wC (.int 26))) (w2 oPlus (wVar 4) (wC (.int 1)))))
  (sSeq (sSet 7 (w2 oPlus (wC (.int 1)) (w2 oMod (wN oInt (waCons (w2 oIx (wVar 0) (w2 oPlus (wVar 1) (wC (.int 2)))) waNil)) (wC (.int 3)))))
  (sSeq (sSet 8 (w2 oMod (w2 oDiv (wN oInt (waCons (w2 oIx (wVar 0) (w2 oPlus (wVar 1) (wC (.int 2)))) waNil)) (wC (.int 3))) (wC (.int 26))))
  (sSeq (sSetO 9 (wLst waNil))
  (sSeq (sFor (wiR1 (wVar 2)) (gSet 10)
  (sSeq (sSet 11 (w2 oIx (wVar 3) (w2 oMod (w2 oPlus (w2 oMul (wVar 10) (wVar 7)) (wVar 8)) (wC (.int 26)))))
  (sApp 9 (w2 oPlus (w2 oPlus (w2 oMul (wVar 5) (wVar 6)) (wVar 11)) (w2 oMul (wVar 5) (w2 oSub (wVar 4) (wVar 6)))))))
  (sRetO 9)))))))
theorem p_law_names (xc : XC) (ds : List D) (Q : Bool → D → Prop) (h : wf_law_names xc ds Q) : b_law_names (Zd xc Q) (ds.map .da ++ List.replicate (12 - ds.length) .no) := by
  obtain ⟨l, at_, n, rfl, hb, hat, hn1, hn8, q⟩ := h
  have hs := sizeLine_eq
  have hx : ∀ i : Nat, i < l.length → ∃ x, atI l (i : Int) = some x ∧ 0 ≤ x ∧ x < 1000 := fun i hi => by
    refine ⟨l[i], ?_, hb _ (List.getElem_mem hi)⟩
    rw [atI_at (by omega) (by omega)]; simp [hi]
  obtain ⟨x0, e0, a0, b0⟩ := hx at_ (by omega)
  obtain ⟨x1, e1, a1, b1⟩ := hx (at_ + 1) (by omega)
  obtain ⟨x2, e2, a2, b2⟩ := hx (at_ + 2) (by omega)
  have c1 : ((at_ + 1 : Nat) : Int) = (at_ : Int) + 1 := by omega
  have c2 : ((at_ + 2 : Nat) : Int) = (at_ : Int) + 2 := by omega
  rw [c1] at e1
  rw [c2] at e2
  have d8 : CDiv x0 8 := ⟨by omega, by omega⟩
  have d26 : CDiv x1 26 := ⟨by omega, by omega⟩
  have d3 : CDiv x2 3 := ⟨by omega, by omega⟩
  have el : (Str.ofString "abcdefghijklmnopqrstuvwxyz") = letters := rfl
  have eb : b_law_names = sSeq (sSet 3 (wC (.str letters))) (sSeq (sSet 4 (wC (.int 0))) (sSeq (sIf (wB (w2 oEq (w2 oMod (w2 oDiv (wN oInt (waCons (w2 oIx (wVar 0) (wVar 1)) waNil)) (wC (.int 8))) (wC (.int 2))) (wC (.int 1)))) (sSet 4 (w2 oMod (wN oInt (waCons (w2 oIx (wVar 0) (wVar 1)) waNil)) (wC (.int 8)))) sNil) r_names)) := rfl
  have main : ∀ extra : Nat, extra ≤ 7 → r_names (Zd xc Q) [Sl.da (iL l), Sl.da (.int at_), Sl.da (.int n), Sl.da (.str letters), Sl.da (.int extra), Sl.no, Sl.no, Sl.no, Sl.no, Sl.no, Sl.no, Sl.no] := by
    intro extra hex
    have hll := ll_len
    obtain ⟨f, hf⟩ : ∃ f : Nat, x1 % 26 = f := ⟨(x1 % 26).toNat, by omega⟩
    obtain ⟨spot, hsp⟩ : ∃ f : Nat, x1 / 26 % ((extra : Int) + 1) = f := ⟨(x1 / 26 % ((extra : Int) + 1)).toNat, by
      have := Int.emod_nonneg (x1 / 26) (show ((extra : Int) + 1) ≠ 0 by omega)
      omega⟩
    have hspl : spot ≤ extra := by
      have := Int.emod_lt_of_pos (x1 / 26) (show (0 : Int) < (extra : Int) + 1 by omega)
      omega
    obtain ⟨stride, hst⟩ : ∃ f : Nat, 1 + x2 % 3 = f := ⟨(1 + x2 % 3).toNat, by omega⟩
    obtain ⟨shift, hsh⟩ : ∃ f : Nat, x2 / 3 % 26 = f := ⟨(x2 / 3 % 26).toNat, by omega⟩
    have p1 : (0 : Int) < (extra : Int) + 1 := by omega
    have hfl : atI letters.cps.toList (x1 % 26) = some (97 + f) := by rw [ll_at (by omega) (by omega), hf]; simp
    have hz : letters.length ≤ sizeLine := by omega
    simp [r_names, e1, e2, d26, d3, hz, hfl, p1, sFor]
    rw [hsp, hst, hsh]
    refine ⟨by omega, ?_⟩
    have hs1 : 1 ≤ stride ∧ stride ≤ 3 := by omega
    have hsh26 : shift < 26 := by omega
    let nm : Nat → Str := fun i => nmS (97 + f) spot (extra - spot) (97 + (i * stride + shift) % 26)
    refine for_fold (List.range n) (fun i => .int (0 + (i : Nat))) (fun acc i => acc ++ [nm i]) (fun acc ρ => ∃ a b : Sl, ρ = [Sl.da (iL l), Sl.da (D.int at_), Sl.da (D.int n), Sl.da (D.str letters), Sl.da (D.int extra), Sl.da (D.str ⟨#[97 + f]⟩), Sl.da (D.int spot), Sl.da (D.int stride), Sl.da (D.int shift), Sl.ow (D.lst (acc.map .str)), a, b]) [] (fun pre i post ρ N e ⟨a1, a2, er⟩ hN => ?_) ⟨_, _, rfl⟩ fun ρ ⟨a1, a2, er⟩ => ?_
    · subst er
      rw [foldl_map_app, List.nil_append] at hN ⊢
      have hp := pre_lt e
      have hi : i < n := List.mem_range.mp (by rw [e]; simp)
      have hacc : (pre.map nm).length = pre.length := by simp
      generalize pre.map nm = acc at *
      have cm : CMul (i : Int) stride := .inr ⟨by omega, by omega⟩
      have ei : ((i : Int) * stride + shift) % 26 = (((i * stride + shift) % 26 : Nat) : Int) := by
        rw [Int.natCast_emod, Int.natCast_add, Int.natCast_mul]; rfl
      have hlt : (i * stride + shift) % 26 < 26 := Nat.mod_lt _ (by omega)
      have hl2 : atI letters.cps.toList (((i * stride + shift) % 26 : Nat) : Int) = some (97 + (i * stride + shift) % 26) := by rw [ll_at (by omega) (by omega), Int.toNat_natCast]
      have er : (extra : Int) - spot = ((extra - spot : Nat) : Int) := by omega
      simp [sApp, cm]
      rw [ei]
      refine ⟨hz, _, hl2, mul_ok _ _ (by omega), ?_⟩
      have l1 := mul_len (97 + f) spot (by omega)
      have l2 := mul_len (97 + f) (extra - spot) (by omega)
      have l3 : ∀ d : Nat, (⟨#[d]⟩ : Str).length = 1 := fun _ => rfl
      have l4 : ∀ a b : Str, (a ++ b).length = a.length + b.length := fun a b => by show (a.cps ++ b.cps).size = _; rw [Array.size_append]; rfl
      rw [er, l1, l3]
      refine ⟨by omega, mul_ok _ _ (by omega), ?_⟩
      rw [l4, l1, l2, l3]
      refine ⟨by omega, by omega, ?_⟩
      refine hN _ ⟨Sl.da (.int i), Sl.da (.str ⟨#[97 + (i * stride + shift) % 26]⟩), ?_⟩
      simp [nm, nmS]
    · subst er
      rw [foldl_map_app, List.nil_append]
      simp [sRetO]
      have hq := q ((List.range n).map nm) (by simp) ⟨by simp; omega, by simp; omega, fun x hx => ?_, nodup_map List.nodup_range fun x hx y hy exy => ?_⟩
      · simpa [sL, Function.comp_def] using hq
      · obtain ⟨i, _, rfl⟩ := List.mem_map.mp hx
        exact nm_name (by omega) (by omega) (Nat.mod_lt _ (by omega))
      · have h1 := nm_inj (by omega) (by omega) exy
        have hx' := List.mem_range.mp hx
        have hy' := List.mem_range.mp hy
        obtain ⟨s1, s2⟩ := hs1
        have : stride = 1 ∨ stride = 2 ∨ stride = 3 := by omega
        rcases this with rfl | rfl | rfl <;> omega
  rw [eb]
  simp [e0, d8]
  by_cases h1 : x0 / 8 % 2 = 1
  · refine .inr ⟨h1, ?_⟩
    have := main (x0 % 8).toNat (by omega)
    have ec : (((x0 % 8).toNat : Nat) : Int) = x0 % 8 := by omega
    rw [ec] at this
    exact this
  · exact .inl ⟨h1, main 0 (by omega)⟩
end Tw.S

namespace Tw.S
open PySem PySem.Spec L2 PyProof.Rows Tw
theorem has_put (kvs : List (List Key × D)) (k k' : List Key) (d : D) : hasD (putDk kvs k d) k' = (hasD kvs k' || decide (k = k')) := by
  unfold putDk
  by_cases h : hasD kvs k = true
  · rw [if_pos h]
    have e : hasD (kvs.map fun kv => if kv.1 = k then (kv.1, d) else kv) k' = hasD kvs k' := by
      unfold hasD
      rw [List.any_map]
      congr 1
      funext kv
      show decide ((if kv.1 = k then (kv.1, d) else kv).1 = k') = decide (kv.1 = k')
      split <;> rfl
    rw [e]
    by_cases hk : k = k'
    · subst hk; simp [h]
    · simp [hk]
  · rw [if_neg h]
    unfold hasD
    rw [List.any_append]
    simp
theorem put_len (kvs : List (List Key × D)) (k : List Key) (d : D) : (putDk kvs k d).length ≤ kvs.length + 1 := by
  unfold putDk
  split <;> simp
def tl (t : Tie) (bs : List Int) (b : Int) (u v : Str) : Bool := decide (b ∈ bs) && ((t.a == u && t.b == v) || (t.b == u && t.a == v && t.w == "two"))
theorem name_eq {names : List Str} (hn : names.Nodup) {i u : Nat} (hi : i < names.length) (hu : u < names.length) : (names[i] == names.getD u "") = decide (i = u) := by
  have e : names.getD u "" = names[u] := by simp [hu]
  rw [e]
  by_cases h : i = u
  · subst h; simp
  · have : ¬ names[i] = names[u] := fun z => h ((List.getElem_inj hn).mp z)
    simp [h, this]
theorem p_nexts_of (xc : XC) (ds : List D) (Q : Bool → D → Prop) (h : wf_nexts_of xc ds Q) : b_nexts_of (Zd xc Q) (ds.map .da ++ List.replicate (12 - ds.length) .no) := by
  obtain ⟨tt, names, ts, c, rfl, hn, ht, h1, h4, q⟩ := h
  have hs := sizeLine_eq
  have hi8 := hn.hi
  let H (kvs : List (List Key × D)) (f : Int → Nat → Nat → Bool) : Prop := ∀ (b : Int) (u v : Nat), u < names.length → v < names.length → hasD kvs [.inl b, .inl (u : Int), .inl (v : Int)] = f b u v
  simp [b_nexts_of, sFor]
  refine for_fold ts tieD (fun (pre : List Tie) t => pre ++ [t]) (fun pre ρ => ∃ (kvs : List (List Key × D)) (a b d e f g i j : Sl), ρ = [Sl.da (.xtp (names.map .str)), Sl.da (qD tt (ts.map tieD)), Sl.da (.int c), Sl.ow (.dT kvs), a, b, d, e, f, g, i, j] ∧ kvs.length ≤ 8 * pre.length ∧ H kvs (fun b u v => leads pre b (names.getD u "") (names.getD v ""))) [] (fun pre t post ρ N e ⟨kvs, a1, a2, a3, a4, a5, a6, a7, a8, er, el, eh⟩ hN => ?_) ⟨[], _, _, _, _, _, _, _, _, rfl, by simp, fun b u v _ _ => rfl⟩ fun ρ ⟨kvs, a1, a2, a3, a4, a5, a6, a7, a8, er, el, eh⟩ => ?_
  · subst er
    have ep : ∀ (l : List Tie) (i : List Tie), l.foldl (fun p t => p ++ [t]) i = i ++ l := by
      intro l
      induction l with
      | nil => intro i; simp
      | cons x l ih => intro i; rw [List.foldl_cons, ih]; simp
    rw [ep, List.nil_append] at hN el eh
    have hm : t ∈ ts := by rw [e]; simp
    have ok := ht.ok t hm
    have hle := ht.le
    have hpre : pre.length + 1 ≤ ts.length := by rw [e]; simp
    obtain ⟨i, hi, ei⟩ := List.mem_iff_getElem.mp ok.a
    obtain ⟨j, hj, ej⟩ := List.mem_iff_getElem.mp ok.b
    have hlen : t.at_.length ≤ 4 := Nat.le_trans (set_len ok.at_) h4
    have first : ∀ (k : Nat) (hk : k < names.length) (m : Nat), m < k → names[m]? ≠ some names[k] := fun k hk m hmk z => by
      have hml : m < names.length := by omega
      rw [List.getElem?_eq_getElem hml] at z
      have := (List.getElem_inj hn.nd).mp (Option.some.inj z)
      omega
    simp [tieD, gTupD, gsCons, gsNil, wIdxT, sFor]
    refine ⟨_, _, ⟨rfl, rfl⟩, _, _, rfl, _, _, rfl, _, _, rfl, rfl, ?_⟩
    have gi : names[i]? = some t.a := by rw [List.getElem?_eq_getElem hi, ei]
    have gj : names[j]? = some t.b := by rw [List.getElem?_eq_getElem hj, ej]
    refine ⟨names, rfl, t.a, rfl, i, gi, fun m hm => by rw [← ei]; exact first i hi m hm, names, rfl, t.b, rfl, j, gj, fun m hm => by rw [← ej]; exact first j hj m hm, _, rfl, ?_⟩
    refine for_fold t.at_ D.int (fun (pb : List Int) x => pb ++ [x]) (fun pb ρ => ∃ (kvs2 : List (List Key × D)) (d f : Sl), ρ = [Sl.da (.xtp (names.map .str)), Sl.da (qD tt (ts.map tieD)), Sl.da (.int c), Sl.ow (.dT kvs2), Sl.da (.str t.a), Sl.da (.str t.b), Sl.da (.str t.w), Sl.da (tI t.at_), Sl.da (.int i), Sl.da (.int j), d, f] ∧ kvs2.length ≤ kvs.length + 2 * pb.length ∧ H kvs2 (fun b u v => leads pre b (names.getD u "") (names.getD v "") || tl t pb b (names.getD u "") (names.getD v ""))) [] (fun pb x post2 ρ N2 e2 ⟨kvs2, d1, d2, er, el2, eh2⟩ hN2 => ?_) ⟨kvs, _, _, rfl, by simp, fun b u v hu hv => by rw [eh b u v hu hv]; simp [tl]⟩ fun ρ ⟨kvs2, d1, d2, er, el2, eh2⟩ => ?_
    · subst er
      have ep2 : ∀ (l : List Int) (i : List Int), l.foldl (fun p t => p ++ [t]) i = i ++ l := by
        intro l
        induction l with
        | nil => intro i; simp
        | cons x l ih => intro i; rw [List.foldl_cons, ih]; simp
      rw [ep2, List.nil_append] at hN2 el2 eh2
      have hpb : pb.length + 1 ≤ t.at_.length := by rw [e2]; simp
      simp [sPutT]
      refine ⟨[.inl x, .inl (i : Int), .inl (j : Int)], rfl, by omega, by omega, ?_⟩
      have pl1 := put_len kvs2 [.inl x, .inl (i : Int), .inl (j : Int)] (.bl true)
      have wo := word_ok ok.w
      have w2 : PyData.strOk "two" = true := by decide +kernel
      have stepH : ∀ (b : Int) (u v : Nat), u < names.length → v < names.length → tl t (pb ++ [x]) b (names.getD u "") (names.getD v "") = (tl t pb b (names.getD u "") (names.getD v "") || (decide (x = b) && (decide (i = u) && decide (j = v) || (decide (j = u) && decide (i = v) && t.w == "two")))) := fun b u v hu hv => by
        unfold tl
        rw [← ei, ← ej, name_eq hn.nd hi hu, name_eq hn.nd hj hv, name_eq hn.nd hj hu, name_eq hn.nd hi hv]
        have : decide (b ∈ pb ++ [x]) = (decide (b ∈ pb) || decide (x = b)) := by
          by_cases h1 : b ∈ pb <;> by_cases h2 : x = b <;> simp [h1, h2, eq_comm]
        rw [this, Bool.and_or_distrib_right]
      have kd : ∀ (p r : Nat) (b : Int) (u v : Nat), decide (([.inl x, .inl (p : Int), .inl (r : Int)] : List Key) = [.inl b, .inl (u : Int), .inl (v : Int)]) = (decide (x = b) && (decide (p = u) && decide (r = v))) := fun p r b u v => by
        by_cases h1 : x = b <;> by_cases h2 : p = u <;> by_cases h3 : r = v <;> simp [h1, h2, h3] <;> omega
      simp [oEq_s wo w2]
      by_cases hw : t.w = "two"
      · refine .inr ⟨hw, [.inl x, .inl (j : Int), .inl (i : Int)], rfl, by omega, by omega, ?_⟩
        have pl2 := put_len (putDk kvs2 [.inl x, .inl (i : Int), .inl (j : Int)] (.bl true)) [.inl x, .inl (j : Int), .inl (i : Int)] (.bl true)
        refine hN2 _ ⟨_, _, _, rfl, by simp; omega, fun b u v hu hv => ?_⟩
        dsimp only
        rw [has_put, has_put, eh2 b u v hu hv]
        dsimp only
        rw [stepH b u v hu hv, kd, kd, hw]
        generalize leads pre b (names.getD u "") (names.getD v "") = A
        generalize tl t pb b (names.getD u "") (names.getD v "") = B
        generalize decide (x = b) = C1
        generalize decide (i = u) = C2
        generalize decide (j = v) = C3
        generalize decide (j = u) = C4
        generalize decide (i = v) = C5
        have : (("two" : Str) == "two") = true := by decide
        rw [this]
        cases A <;> cases B <;> cases C1 <;> cases C2 <;> cases C3 <;> cases C4 <;> cases C5 <;> rfl
      · refine .inl ⟨hw, ?_⟩
        refine hN2 _ ⟨_, _, _, rfl, by simp; omega, fun b u v hu hv => ?_⟩
        have hw' : (t.w == ("two" : Str)) = false := by simpa using hw
        dsimp only
        rw [has_put, eh2 b u v hu hv]
        dsimp only
        rw [stepH b u v hu hv, kd, hw']
        generalize leads pre b (names.getD u "") (names.getD v "") = A
        generalize tl t pb b (names.getD u "") (names.getD v "") = B
        generalize decide (x = b) = C1
        generalize decide (i = u) = C2
        generalize decide (j = v) = C3
        generalize decide (j = u) = C4
        generalize decide (i = v) = C5
        cases A <;> cases B <;> cases C1 <;> cases C2 <;> cases C3 <;> cases C4 <;> cases C5 <;> rfl
    · subst er
      have ep2 : ∀ (l : List Int) (i : List Int), l.foldl (fun p t => p ++ [t]) i = i ++ l := by
        intro l
        induction l with
        | nil => intro i; simp
        | cons x l ih => intro i; rw [List.foldl_cons, ih]; simp
      rw [ep2, List.nil_append] at el2 eh2
      refine hN _ ⟨kvs2, _, _, _, _, _, _, _, _, rfl, by simp; omega, fun b u v hu hv => ?_⟩
      rw [eh2 b u v hu hv]
      dsimp only
      unfold leads
      rw [List.any_append]
      simp
      rfl
  · subst er
    have ep : ∀ (l : List Tie) (i : List Tie), l.foldl (fun p t => p ++ [t]) i = i ++ l := by
      intro l
      induction l with
      | nil => intro i; simp
      | cons x l ih => intro i; rw [List.foldl_cons, ih]; simp
    rw [ep, List.nil_append] at el eh
    simp [sFrz]
    refine ⟨by omega, ?_⟩
    refine lc_rng0 c (fun b => t2 ((List.range names.length).map fun u => rowF names.length (psgOf names ts b u))) (fun b hb k1 h1 => ?_) (by omega) ?_
    · simp
      refine ⟨kvs, b, names.length, rfl, hi8, ?_⟩
      have e3 : ((List.range names.length).map fun u : Nat => rowF names.length fun v : Nat => hasD kvs [.inl (b : Int), .inl (u : Int), .inl (v : Int)]) = (List.range names.length).map fun u => rowF names.length (psgOf names ts b u) := by
        apply List.map_congr_left
        intro u hu
        unfold rowF
        congr 1
        apply List.filter_congr
        intro v hv
        exact eh b u v (List.mem_range.mp hu) (List.mem_range.mp hv)
      rw [e3]
      exact h1
    · simpa [t3, nextsT, tabF, Function.comp_def] using q
end Tw.S

namespace Tw.S
open PySem PySem.Spec L2 PyProof.Rows Tw
theorem inc_climbs {l : List Nat} (h : l.Pairwise (· < ·)) : climbs (l.map fun i : Nat => (i : Int)) = true := by
  unfold climbs
  rw [List.all_eq_true]
  intro i hi
  have hi' := List.mem_range.mp hi
  simp at hi'
  have h1 : i < l.length := by omega
  have h2 : i + 1 < l.length := by omega
  have := List.pairwise_iff_getElem.mp h i (i + 1) h1 h2 (by omega)
  simp [h1, h2]
  omega
theorem beats_set (c : Nat) (p : Nat → Bool) : isSet (((List.range c).filter p).map fun i : Nat => (i : Int)) c = true := by
  unfold isSet
  rw [Bool.and_eq_true]
  refine ⟨?_, inc_climbs (List.Pairwise.filter p List.pairwise_lt_range)⟩
  rw [List.all_eq_true]
  intro x hx
  obtain ⟨i, hi, rfl⟩ := List.mem_map.mp hx
  have := List.mem_range.mp (List.mem_filter.mp hi).1
  simp
  omega
theorem cnt_app (z : Str) (a b : List Tie) : cnt z (a ++ b) = cnt z a + cnt z b := by
  unfold cnt
  rw [List.filter_append, List.length_append]
theorem cnt_le (z : Str) (a : List Tie) : cnt z a ≤ a.length := List.length_filter_le _ _
/-- a tie between these two -/
def On (x y : Str) (t : Tie) : Prop := (t.a = x ∨ t.a = y) ∧ (t.b = x ∨ t.b = y)
theorem cnt_off {z x y : Str} {l : List Tie} (h : ∀ t ∈ l, On x y t) (h1 : x ≠ z) (h2 : y ≠ z) : cnt z l = 0 := by
  unfold cnt
  rw [List.length_eq_zero_iff, List.filter_eq_nil_iff]
  intro t ht
  obtain ⟨ha, hb⟩ := h t ht
  simp
  constructor
  · rcases ha with e | e <;> rw [e] <;> assumption
  · rcases hb with e | e <;> rw [e] <;> assumption
theorem idx_strs : ∀ {names : List Str}, names.Nodup → ∀ {j : Nat} (hj : j < names.length), idxD (.str names[j]) (names.map .str) = some j
  | [], _, j, hj => by simp at hj
  | x :: names, hn, 0, hj => by
    simp [idxD, D.py, PyData.eqv]
  | x :: names, hn, j + 1, hj => by
    rw [List.nodup_cons] at hn
    have hj' : j < names.length := by simpa using hj
    have ih := idx_strs hn.2 hj'
    have hne : ¬ x = names[j] := fun z => hn.1 (z ▸ List.getElem_mem hj')
    simp [idxD, D.py, PyData.eqv, hne]
    exact ih
theorem p_law_table (xc : XC) (ds : List D) (Q : Bool → D → Prop) (h : wf_law_table xc ds Q) : b_law_table (Zd xc Q) (ds.map .da ++ List.replicate (12 - ds.length) .no) := by
  obtain ⟨names, ts, c, rfl, hn, ht, htf, h1, h4, q⟩ := h
  have hs := sizeLine_eq
  have hi8 := hn.hi
  simp [b_law_table, sFor]
  refine ⟨by omega, ?_⟩
  let f : Nat → List (List Int) := fun b => (List.range names.length).map fun u => rowF names.length (psgOf names ts b u)
  refine for_fold (List.range c) (fun i => .int (0 + (i : Nat))) (fun acc b => acc ++ [f b]) (fun acc ρ => ∃ (s4 s5 s6 s7 s8 s9 s10 s11 : Sl), ρ = [Sl.da (sL names), Sl.da (tsL ts), Sl.da (.int c), Sl.ow (l3 acc), s4, s5, s6, s7, s8, s9, s10, s11]) [] (fun pre b post ρ N e ⟨s4, s5, s6, s7, s8, s9, s10, s11, er⟩ hN => ?_) ⟨_, _, _, _, _, _, _, _, rfl⟩ fun ρ ⟨s4, s5, s6, s7, s8, s9, s10, s11, er⟩ => ?_
  · subst er
    rw [foldl_map_app, List.nil_append] at hN ⊢
    have hp := pre_lt e
    have hlp : (pre.map f).length = pre.length := by simp
    generalize pre.map f = acc3 at *
    simp [sFor]
    refine ⟨by omega, ?_⟩
    let g : Nat → List Int := fun u => rowF names.length (psgOf names ts b u)
    refine for_fold (List.range names.length) (fun i => .int (0 + (i : Nat))) (fun acc u => acc ++ [g u]) (fun acc ρ => ∃ (s6 s7 s8 s9 s10 s11 : Sl), ρ = [Sl.da (sL names), Sl.da (tsL ts), Sl.da (.int c), Sl.ow (l3 acc3), Sl.da (.int b), Sl.ow (l2 acc), s6, s7, s8, s9, s10, s11]) [] (fun pre2 u post2 ρ N2 e2 ⟨s6, s7, s8, s9, s10, s11, er⟩ hN2 => ?_) ⟨_, _, _, _, _, _, rfl⟩ fun ρ ⟨s6, s7, s8, s9, s10, s11, er⟩ => ?_
    · subst er
      rw [foldl_map_app, List.nil_append] at hN2 ⊢
      have hp2 := pre_lt e2
      have hu : u < names.length := List.mem_range.mp (by rw [e2]; simp)
      have hlp2 : (pre2.map g).length = pre2.length := by simp
      generalize pre2.map g = acc2 at *
      simp [sFor, tsL]
      refine for_fold ts tieD (fun (pre : List Tie) t => pre ++ [t]) (fun pre ρ => ∃ (es : List Int) (s8 s9 s10 s11 : Sl), ρ = [Sl.da (sL names), Sl.da (tsL ts), Sl.da (.int c), Sl.ow (l3 acc3), Sl.da (.int b), Sl.ow (l2 acc2), Sl.da (.int u), Sl.ow (iL es), s8, s9, s10, s11] ∧ es.length ≤ cnt names[u] pre ∧ ∀ x : Int, x ∈ es ↔ ∃ v : Nat, v < names.length ∧ x = v ∧ leads pre b names[u] (names.getD v "") = true) [] (fun pre3 t post3 ρ N3 e3 ⟨es, s8, s9, s10, s11, er, el, em⟩ hN3 => ?_) ⟨[], _, _, _, _, rfl, by simp [cnt], fun x => by simp [leads]⟩ fun ρ ⟨es, s8, s9, s10, s11, er, el, em⟩ => ?_
      · subst er
        have ep : ∀ (l : List Tie) (i : List Tie), l.foldl (fun p t => p ++ [t]) i = i ++ l := by
          intro l
          induction l with
          | nil => intro i; simp
          | cons x l ih => intro i; rw [List.foldl_cons, ih]; simp
        rw [ep, List.nil_append] at hN3 el em
        have hmt : t ∈ ts := by rw [e3]; simp
        have ok := ht.ok t hmt
        obtain ⟨i, hi, ei⟩ := List.mem_iff_getElem.mp ok.a
        obtain ⟨j, hj, ej⟩ := List.mem_iff_getElem.mp ok.b
        have hu' : atI names (u : Int) = some names[u] := atI_strs hu
        have oa := hn.ok _ ok.a
        have ob := hn.ok _ ok.b
        have ou := hn.ok _ (List.getElem_mem hu)
        have w2 : PyData.strOk "two" = true := by decide +kernel
        have ol := ok_strs hn.ok
        simp [tieD, gTupD, gsCons, gsNil, hu', oEq_s oa ou, oEq_s ob ou, oEq_s (word_ok ok.w) w2]
        refine ⟨_, _, ⟨rfl, rfl⟩, _, _, rfl, _, _, rfl, _, _, rfl, rfl, ?_⟩
        have hbU : ∀ V, t.leads b names[u] V = (decide ((b : Int) ∈ t.at_) && ((t.a == names[u] && t.b == V) || (t.b == names[u] && t.a == V && t.w == "two"))) := fun V => rfl
        have es_le : es.length ≤ 28 := by
          have h1 := htf names[u]
          have h2 : cnt names[u] ts = cnt names[u] pre3 + cnt names[u] (t :: post3) := by rw [← cnt_app, ← e3]
          omega
        have keep : ∀ s8 s9 s10 s11, (∀ v : Nat, v < names.length → t.leads b names[u] (names.getD v "") = false) → N3 [Sl.da (sL names), Sl.da (tsL ts), Sl.da (.int c), Sl.ow (l3 acc3), Sl.da (.int b), Sl.ow (l2 acc2), Sl.da (.int u), Sl.ow (.lst (es.map .int)), s8, s9, s10, s11] := fun s8 s9 s10 s11 hno => by
          refine hN3 _ ⟨es, s8, s9, s10, s11, rfl, by rw [cnt_app]; omega, fun x => ?_⟩
          rw [em]
          unfold leads
          constructor
          · rintro ⟨v, hv, rfl, hl⟩
            exact ⟨v, hv, rfl, by rw [List.any_append, hl]; rfl⟩
          · rintro ⟨v, hv, rfl, hl⟩
            rw [List.any_append] at hl
            simp only [List.any_cons, List.any_nil, Bool.or_false, hno v hv] at hl
            exact ⟨v, hv, rfl, hl⟩
        have add : ∀ (k : Nat) (s8 s9 s10 s11 : Sl), k < names.length → (t.a = names[u] ∨ t.b = names[u]) → (∀ v : Nat, v < names.length → t.leads b names[u] (names.getD v "") = decide (k = v)) → N3 [Sl.da (sL names), Sl.da (tsL ts), Sl.da (.int c), Sl.ow (l3 acc3), Sl.da (.int b), Sl.ow (l2 acc2), Sl.da (.int u), Sl.ow (.lst (es.map .int ++ [.int k])), s8, s9, s10, s11] := fun k s8 s9 s10 s11 hk htu hyes => by
          have c1 : cnt names[u] [t] = 1 := by
            unfold cnt
            rcases htu with h | h <;> simp [h]
          refine hN3 _ ⟨es ++ [(k : Int)], s8, s9, s10, s11, by simp [iL], by rw [cnt_app, c1]; simp; omega, fun x => ?_⟩
          rw [List.mem_append, em]
          unfold leads
          constructor
          · rintro (⟨v, hv, rfl, hl⟩ | hx)
            · exact ⟨v, hv, rfl, by rw [List.any_append, hl]; rfl⟩
            · simp at hx
              exact ⟨k, hk, hx, by rw [List.any_append]; simp only [List.any_cons, List.any_nil, Bool.or_false, hyes k hk, decide_true, Bool.or_true]⟩
          · rintro ⟨v, hv, rfl, hl⟩
            rw [List.any_append] at hl
            simp only [List.any_cons, List.any_nil, Bool.or_false, hyes v hv, Bool.or_eq_true, decide_eq_true_eq] at hl
            rcases hl with hl | hl
            · exact .inl ⟨v, hv, rfl, hl⟩
            · subst hl; exact .inr (by simp)
        have ixa : idxD (.str t.a) (names.map .str) = some i := by rw [← ei]; exact idx_strs hn.nd hi
        have ixb : idxD (.str t.b) (names.map .str) = some j := by rw [← ej]; exact idx_strs hn.nd hj
        have hu2 : atI (names.map D.str) (u : Int) = some (.str names[u]) := by rw [atI_map, hu']; rfl
        simp [oEq_s oa ou, oEq_s ob ou, oEq_s (word_ok ok.w) w2, wIdx, sApp, iL, sL]
        by_cases hb : (b : Int) ∈ t.at_
        · refine .inr ⟨hb, ?_⟩
          by_cases ha : t.a = names[u]
          · have hbn : ¬ t.b = names[u] := fun z => ok.ne (ha.trans z.symm)
            refine .inr ⟨ha, ol, ok_str ob, j, ixb, by omega, .inr ⟨hb, _, hu2, ?_⟩⟩
            rw [oEq_s ob ou]
            refine .inl ⟨by simp [hbn], add j _ _ _ _ hj (.inl ha) fun v hv => ?_⟩
            rw [hbU, ← ej, name_eq hn.nd hj hv]
            have h0 : (names[j] == names[u]) = false := by rw [ej]; simpa using hbn
            rw [h0]
            simp [hb, ha]
          · refine .inl ⟨ha, .inr ⟨hb, ?_⟩⟩
            by_cases hbb : t.b = names[u]
            · refine .inr ⟨hbb, ?_⟩
              by_cases hw : t.w = "two"
              · refine .inr ⟨hw, ol, ok_str oa, i, ixa, by omega, add i _ _ _ _ hi (.inr hbb) fun v hv => ?_⟩
                rw [hbU, ← ei, name_eq hn.nd hi hv]
                have h0 : (names[i] == names[u]) = false := by rw [ei]; simpa using ha
                rw [h0]
                simp [hb, hbb, hw]
              · refine .inl ⟨hw, keep _ _ _ _ fun v hv => ?_⟩
                rw [hbU]
                have hw' : (t.w == ("two" : Str)) = false := by simpa using hw
                have h0 : (t.a == names[u]) = false := by simpa using ha
                rw [hw', h0]
                simp
            · refine .inl ⟨hbb, keep _ _ _ _ fun v hv => ?_⟩
              rw [hbU]
              have h0 : (t.a == names[u]) = false := by simpa using ha
              have h1 : (t.b == names[u]) = false := by simpa using hbb
              rw [h0, h1]
              simp
        · refine .inl ⟨hb, .inl ⟨hb, keep _ _ _ _ fun v hv => ?_⟩⟩
          rw [hbU]
          simp [hb]
      · subst er
        have ep : ∀ (l : List Tie) (i : List Tie), l.foldl (fun p t => p ++ [t]) i = i ++ l := by
          intro l
          induction l with
          | nil => intro i; simp
          | cons x l ih => intro i; rw [List.foldl_cons, ih]; simp
        rw [ep, List.nil_append] at el em
        have fw := htf names[u]
        simp [sApp, wSortSet, wPeek, l2]
        refine ⟨es, rfl, by omega, fun ms hps hms => ?_⟩
        have ee : ms = rowF names.length (psgOf names ts b u) := by
          refine sorted_one ?_ (hps.imp fun h => Int.le_of_lt h) ?_
          · refine (List.perm_ext_iff_of_nodup (hps.imp fun h => Int.ne_of_lt h) ?_).mpr fun x => ?_
            · unfold rowF
              exact nodup_map (List.nodup_range.filter _) fun x _ y _ h => by omega
            · rw [hms, em]
              unfold rowF
              rw [List.mem_map]
              have eu : names.getD u "" = names[u] := by simp [hu]
              have ep2 : psgOf names ts b u = fun v => leads ts b names[u] (names.getD v "") := by
                funext v
                show leads ts b (names.getD u "") (names.getD v "") = _
                rw [eu]
              rw [ep2]
              constructor
              · rintro ⟨v, hv, rfl, hl⟩
                exact ⟨v, List.mem_filter.mpr ⟨List.mem_range.mpr hv, hl⟩, rfl⟩
              · rintro ⟨v, hv, rfl⟩
                obtain ⟨h1, h2⟩ := List.mem_filter.mp hv
                exact ⟨v, List.mem_range.mp h1, rfl, h2⟩
          · unfold rowF
            rw [List.pairwise_map]
            refine (List.Pairwise.filter _ List.pairwise_lt_range).imp fun h => by omega
        rw [ee]
        refine ⟨by omega, hN2 _ ⟨_, _, _, _, _, _, by simp [l2, iL, g]; exact ⟨rfl, rfl, rfl, rfl, rfl, rfl⟩⟩⟩
    · subst er
      rw [foldl_map_app, List.nil_append]
      simp [sFrz, sApp, l3]
      refine ⟨by omega, ?_⟩
      refine hN _ ⟨Sl.da (.int b), Sl.da (l2 ((List.range names.length).map g)), s6, s7, s8, s9, s10, s11, ?_⟩
      simp [l3]
      rfl
  · subst er
    rw [foldl_map_app, List.nil_append]
    simp [sRetO]
    exact q
end Tw.S

namespace Tw.S
open PySem PySem.Spec L2 PyProof.Rows Tw TL
theorem kindsR_nodup {κ : Type} [DecidableEq κ] (l : List κ) : ∀ i, i ≤ l.length → kindsR l i = i → (l.take i).Nodup
  | 0, _, _ => by simp
  | i + 1, h, e => by
    have hi : i < l.length := h
    have kl := kindsR_le l i
    unfold kindsR at e
    rw [List.getElem?_eq_getElem hi] at e
    dsimp only at e
    by_cases m : l[i] ∈ l.take i
    · rw [if_pos m] at e; omega
    · rw [if_neg m] at e
      have ih := kindsR_nodup l i (by omega) (by omega)
      rw [List.take_succ, List.getElem?_eq_getElem hi]
      show (l.take i ++ [l[i]]).Nodup
      rw [List.nodup_append]
      refine ⟨ih, by simp, fun a ha b hb e => ?_⟩
      simp at hb
      exact m (hb ▸ e ▸ ha)
theorem joinL_nil : ∀ ps : List (List Nat), joinL [] ps = ps.flatten
  | [] => rfl
  | [p] => by simp [joinL]
  | p :: q :: r => by
    have := joinL_nil (q :: r)
    simp [joinL] at this ⊢
    exact this
theorem join_signs (cs : List Nat) : (PySem.Txt.join (Str.ofString "") (cs.map fun c => (⟨#[c]⟩ : Str))).cps.toList = cs := by
  rw [join_eq]
  have h := tl_join (Str.ofString "") (cs.map fun c => (⟨#[c]⟩ : Str))
  have e1 : TL.tl (Str.ofString "") = [] := by decide +kernel
  rw [e1, joinL_nil, List.map_map] at h
  have e2 : (cs.map (TL.tl ∘ fun c => (⟨#[c]⟩ : Str))).flatten = cs := by
    induction cs with
    | nil => rfl
    | cons c cs ih =>
      have := ih (by
        have := tl_join (Str.ofString "") (cs.map fun c => (⟨#[c]⟩ : Str))
        rw [e1, joinL_nil, List.map_map] at this; exact this)
      rw [List.map_cons, List.flatten_cons, this]
      rfl
  rw [e2] at h
  exact h
def hgf : List Str := ["h", "g", "f", "e", "d", "c", "b", "a"]
theorem hgf_ok : ∀ n, n ≤ 8 → (hgf.take n).length = n ∧ (hgf.take n).all isName = true ∧ (hgf.take n).Nodup := by decide +kernel
theorem hgf_names {n : Nat} (h1 : 1 ≤ n) (h8 : n ≤ 8) : NamesOk (hgf.take n) := by
  obtain ⟨a, b, c⟩ := hgf_ok n h8
  exact ⟨by omega, by omega, fun x hx => List.all_eq_true.mp b x hx, c⟩
def r_anames : Ws := (sSeq (sSet 4 (wC (.str "abcdefghijklmnopqrstuvwxyz")))
  (sSeq (sSetO 5 (wLst waNil))
  (sSeq (sFor (wiR1 (wVar 2)) (gSet 6)
  (sSeq (sSet 7 (w2 oPlus (wC (.int 1)) (w2 oMod (w2 oDiv (wN oInt (waCons (w2 oIx (wVar 3) (w2 oPlus (w2 oMul (wC (.int 8)) (wVar 6)) (wC (.int 7)))) waNil)) (wC (.int 26))) (wC (.int 8)))))
  (sApp 5 (wJoin (wC (.str "")) (wLc (wiR1 (wVar 7)) (gSet 8) wtYes (w2 oIx (wVar 4) (w2 oMod (wN oInt (waCons (w2 oIx (wVar 3) (w2 oPlus (w2 oMul (wC (.int 8)) (wVar 6)) (wVar 8))) waNil)) (wC (.int 26)))) [8])))))
  (sSeq (sIf (wB (w2 oLt (wLenSetS (wPeek 5)) (wVar 2)))
  (sRetF (wSl oSlL (wLst (waCons (wC (.str "h")) (waCons (wC (.str "g")) (waCons (wC (.str "f")) (waCons (wC (.str "e")) (waCons (wC (.str "d")) (waCons (wC (.str "c")) (waCons (wC (.str "b")) (waCons (wC (.str "a")) waNil))))))))) woN (woS (wVar 2))))
  sNil)
  (sRetO 5)))))
theorem go_anames {xc : XC} {Q : Bool → D → Prop} {sc : D} {k : D} {n : Nat} {pool : List Int} (h1 : 1 ≤ n) (h8 : n ≤ 8) (hl : pool.length = 64) (hb : ∀ x ∈ pool, 0 ≤ x ∧ x < 1000) (q : ∀ names, names.length = n → NamesOk names → Q true (sL names)) :
    r_anames (Zd xc Q) [Sl.da sc, Sl.da k, Sl.da (.int n), Sl.da (iL pool), .no, .no, .no, .no, .no] := by
  have hs := sizeLine_eq
  have hx : ∀ i : Nat, i < pool.length → ∃ x, atI pool (i : Int) = some x ∧ 0 ≤ x ∧ x < 1000 := fun i hi => by
    refine ⟨pool[i], ?_, hb _ (List.getElem_mem hi)⟩
    rw [atI_at (by omega) (by omega)]; simp [hi]
  have el : (Str.ofString "abcdefghijklmnopqrstuvwxyz") = letters := rfl
  have hz : letters.length ≤ sizeLine := by have := ll_len; omega
  simp [r_anames, sFor]
  rw [el]
  refine ⟨by omega, ?_⟩
  refine for_fold (List.range n) (fun i => .int (0 + (i : Nat))) (fun m _ => m + 1) (fun m ρ => ∃ (acc : List Str) (a b d : Sl), ρ = [Sl.da sc, Sl.da k, Sl.da (.int n), Sl.da (iL pool), Sl.da (.str letters), Sl.ow (.lst (acc.map .str)), a, b, d] ∧ acc.length = m ∧ ∀ z ∈ acc, isName z = true) 0 (fun pre i post ρ N e ⟨acc, a1, a2, a3, er, ea, en⟩ hN => ?_) ⟨[], _, _, _, rfl, rfl, by simp⟩ fun ρ ⟨acc, a1, a2, a3, er, ea, en⟩ => ?_
  · subst er
    rw [fold_count, Nat.zero_add] at hN ea
    have hp := pre_lt e
    have hi : i < n := List.mem_range.mp (by rw [e]; simp)
    obtain ⟨y, ey, y0, y1⟩ := hx (8 * i + 7) (by omega)
    have c8 : CMul (8 : Int) (i : Int) := .inl ⟨by omega, by omega⟩
    have ec : ((8 * i + 7 : Nat) : Int) = 8 * (i : Int) + 7 := by omega
    rw [ec] at ey
    have d26 : CDiv y 26 := ⟨by omega, by omega⟩
    obtain ⟨sz, hsz⟩ : ∃ s : Nat, 1 + y / 26 % 8 = s := ⟨(1 + y / 26 % 8).toNat, by omega⟩
    simp [c8, ey, d26, hsz, sApp, wJoin]
    refine ⟨by omega, ?_⟩
    let f : Nat → Nat := fun j => 97 + ((pool.getD (8 * i + j) 0) % 26).toNat
    refine lc_rng0 sz (fun j => .str ⟨#[f j]⟩) (fun j hj k1 hk => ?_) (by omega) ?_
    · obtain ⟨x, ex, x0, x1⟩ := hx (8 * i + j) (by omega)
      have gx : pool.getD (8 * i + j) 0 = x := by
        have h2 : 8 * i + j < pool.length := by omega
        rw [atI_at (by omega) (by omega), Int.toNat_natCast, List.getElem?_eq_getElem h2] at ex
        rw [← Option.some.inj ex]
        simp [h2]
      have ec2 : ((8 * i + j : Nat) : Int) = 8 * (i : Int) + (j : Int) := by omega
      rw [ec2] at ex
      simp [hz, c8]
      refine ⟨x, ex, _, ll_at (i := x % 26) (by omega) (by omega), ?_⟩
      have : f j = 97 + (x % 26).toNat := by show 97 + _ = _; rw [gx]
      rw [← this]
      exact hk
    · refine ⟨((List.range sz).map f).map fun c => (⟨#[c]⟩ : Str), by simp [Function.comp_def], ?_, by omega, ?_⟩
      · have : ∀ l : List Nat, ((l.map fun c => (⟨#[c]⟩ : Str)).map (·.length)).sum = l.length := by
          intro l
          induction l with
          | nil => rfl
          | cons c l ih => simp only [List.map_cons, List.sum_cons, ih, List.length_cons]; show 1 + _ = _; omega
        rw [this]
        simp
        have e0 : (Str.ofString "").length = 0 := by decide +kernel
        rw [e0]
        omega
      · have hj := join_signs ((List.range sz).map f)
        generalize PySem.Txt.join (Str.ofString "") (((List.range sz).map f).map fun c => (⟨#[c]⟩ : Str)) = wz at hj ⊢
        refine hN _ ⟨acc ++ [wz], _, _, _, by simp; exact ⟨rfl, rfl, rfl⟩, by simp; omega, fun z hz' => ?_⟩
        rcases List.mem_append.mp hz' with h | h
        · exact en z h
        · simp at h
          rw [h]
          have wl : wz.length = sz := by
            have := congrArg List.length hj
            simpa [Str.length] using this
          unfold isName
          rw [hj, wl]
          simp only [Bool.and_eq_true, decide_eq_true_eq, List.all_eq_true]
          refine ⟨⟨by omega, by omega⟩, fun x hx' => ?_⟩
          obtain ⟨j, _, rfl⟩ := List.mem_map.mp hx'
          rw [ll_eq]
          refine List.mem_map.mpr ⟨((pool.getD (8 * i + j) 0) % 26).toNat, List.mem_range.mpr (by omega), rfl⟩
  · subst er
    rw [fold_count, Nat.zero_add] at ea
    simp only [List.length_range] at ea
    have kl := kindsR_le acc acc.length
    simp [wLenSetS, wPeek]
    refine ⟨acc, rfl, by omega, ?_⟩
    by_cases hk : kindsR acc acc.length < n
    · refine .inr ⟨by omega, ?_⟩
      have e8 : [D.str (Str.ofString "h"), D.str (Str.ofString "g"), D.str (Str.ofString "f"), D.str (Str.ofString "e"), D.str (Str.ofString "d"), D.str (Str.ofString "c"), D.str (Str.ofString "b"), D.str (Str.ofString "a")] = hgf.map .str := rfl
      simp [wSl, woN, woS]
      refine ⟨by omega, ?_⟩
      rw [e8]
      show Q true (.lst (cutD (hgf.map .str) none (some (n : Int))))
      have ec : cutD (hgf.map .str) none (some (n : Int)) = (hgf.take n).map .str := by
        unfold cutD
        rw [HT.sIx_none, HT.sIx_nat, List.length_map, List.drop_zero, Nat.sub_zero, List.map_take]
        have : hgf.length = 8 := rfl
        rw [this, Nat.min_eq_left h8]
      rw [ec]
      exact q _ (hgf_ok n h8).1 (hgf_names h1 h8)
    · refine .inl ⟨by omega, ?_⟩
      simp [sRetO]
      have nd := kindsR_nodup acc acc.length (Nat.le_refl _) (by omega)
      rw [List.take_length] at nd
      exact q acc ea ⟨by omega, by omega, en, nd⟩
theorem p_law_any_names (xc : XC) (ds : List D) (Q : Bool → D → Prop) (h : wf_law_any_names xc ds Q) : b_law_any_names (Zd xc Q) (ds.map .da ++ List.replicate (9 - ds.length) .no) := by
  obtain ⟨sc, k, n, rfl, hsc, hk, h1, h8, q⟩ := h
  have cp : CPow 10 18 := ⟨by omega, by omega, by decide⟩
  have eb : b_law_any_names = sSeq (sSet 3 (wCall wf_law_draws [] (waCons (wVar 0) (waCons (wVar 1) (waCons (wC (.int 64)) waNil))))) (sSeq (sIf (wAnd (wOr (wB (w2 oGe (wVar 1) (wN oLen (waCons (wVar 0) waNil)))) (wB (w2 oLt (wN oAbs (waCons (w2 oIx (wVar 0) (wVar 1)) waNil)) (w2 oPow (wC (.int 10)) (wC (.int 18)))))) (wB (w2 oEq (w2 oMod (wN oInt (waCons (w2 oIx (wVar 3) (wC (.int 0))) waNil)) (wC (.int 2))) (wC (.int 1))))) (sRetF (wCallF wf_law_names [] (waCons (wVar 3) (waCons (wC (.int 1)) (waCons (wVar 2) waNil))))) sNil) r_anames) := rfl
  rw [eb]
  simp
  refine ⟨sc, k, 64, rfl, hsc, hk, by omega, fun pool hl hb => ?_⟩
  have rest := go_anames (xc := xc) (Q := Q) (sc := .fls (sc.map .int)) (k := .int k) h1 h8 hl hb q
  obtain ⟨y, ey, y0, y1⟩ : ∃ x, atI pool 0 = some x ∧ 0 ≤ x ∧ x < 1000 := by
    refine ⟨pool[0], ?_, hb _ (List.getElem_mem (by omega))⟩
    rw [atI_at (by omega) (by omega)]; simp [hl]
  have fin : (y % 2 = 1 → wf_law_names xc [iL pool, .int 1, .int n] fun fr d => fr = true ∧ Q true d) := fun _ => ⟨pool, 1, n, rfl, hb, by omega, h1, h8, fun names e no => ⟨rfl, q names e no⟩⟩
  by_cases hlt : sc.length ≤ k
  · refine .inr ⟨by omega, ?_⟩
    simp [ey]
    by_cases h2 : y % 2 = 1
    · exact .inr ⟨h2, by simpa [wCallF] using fin h2⟩
    · exact .inl ⟨h2, rest⟩
  · refine .inl ⟨by omega, ?_⟩
    refine ⟨_, ⟨_, atI_int (by omega) (by omega), rfl⟩, cp, ?_⟩
    simp [ey]
    generalize (if sc[k]?.getD 0 < 0 then -sc[k]?.getD 0 else sc[k]?.getD 0) = vv
    by_cases hv : 1000000000000000000 ≤ vv
    · exact .inl ⟨hv, rest⟩
    · refine .inr ⟨by omega, ?_⟩
      by_cases h2 : y % 2 = 1
      · exact .inr ⟨h2, by simpa [wCallF] using fin h2⟩
      · exact .inl ⟨h2, rest⟩
end Tw.S

namespace Tw.S
open PySem PySem.Spec L2 PyProof.Rows Tw
def r_code4 : Ws := (sApp 7 (wLst (waCons (wVar 9) (waCons (wVar 8) (waCons (wVar 11) (waCons (w2 oDiv (wVar 10) (wC (.int 256))) waNil))))))
def r_code3 : Ws := (sSeq (sIf (wB (w2 oLt (w2 oMod (wN oInt (waCons (w2 oPlus (w2 oPlus (w2 oDiv (wVar 10) (wC (.int 256))) (wVar 8)) (wVar 9)) waNil)) (wC (.int 4))) (wVar 5)))
  (sSet 11 (wLc (wiR1 (wVar 3)) (gSet 12) wtYes (wC (.int 0)) [12]))
  sNil) r_code4)
def r_code2 : Ws := (sSeq (sIf (wB (w2 oEq (wVar 4) (wC (.int 0))))
  (sSet 11 (wLc (wiR1 (wVar 3)) (gSet 12) wtYes (w2 oMod (wVar 10) (wC (.int 2))) [12]))
  sNil) r_code3)
def r_code1 : Ws := (sSeq (sIf (wB (w2 oEq (wVar 4) (wC (.int 1))))
  (sSet 11 (wLc (wiR1 (wVar 3)) (gSet 12) wtYes (w2 oMod (wVar 10) (wC (.int 4))) [12]))
  sNil) r_code2)
def r_code : Ws := (sSeq (sSet 10 (wN oInt (waCons (w2 oIx (wVar 0) (w2 oPlus (w2 oPlus (wVar 1) (w2 oDiv (w2 oMul (wVar 8) (w2 oSub (wVar 8) (wC (.int 1)))) (wC (.int 2)))) (wVar 9))) waNil)))
  (sSeq (sSet 11 (wLc (wiR1 (wVar 3)) (gSet 12) wtYes (w2 oMod (wN oInt (waCons (w2 oDiv (wVar 10) (w2 oIx (wVar 6) (wVar 12))) waNil)) (wC (.int 4))) [12])) r_code1))
theorem tri_ix : ∀ u : Nat, u < 8 → ((u : Int) * ((u : Int) - 1) / 2 = ((u * (u - 1) / 2 : Nat) : Int)) ∧ u * (u - 1) / 2 + u ≤ 28 := by decide
theorem scale_at {i : Nat} (h : i < 4) : ∃ y : Int, atI [(1 : Int), 4, 16, 64] (i : Int) = some y ∧ CDiv 0 y := by
  have : i = 0 ∨ i = 1 ∨ i = 2 ∨ i = 3 := by omega
  rcases this with rfl | rfl | rfl | rfl
  · exact ⟨1, rfl, by decide, by decide⟩
  · exact ⟨4, rfl, by decide, by decide⟩
  · exact ⟨16, rfl, by decide, by decide⟩
  · exact ⟨64, rfl, by decide, by decide⟩
theorem lst_iL {c : Nat} (f : Nat → Int) : D.lst ((List.range c).map fun i => D.int (f i)) = iL ((List.range c).map f) := by unfold iL; rw [List.map_map]; rfl
theorem go_code {Z : Pd} {l : List Int} {at_ n c u v : Nat} {kind thin : Int} {rows : List D} {s10 s11 s12 : Sl} (hl : ∀ x ∈ l, 0 ≤ x ∧ x < 1000) (hat : at_ + 28 < l.length) (hn : n ≤ 8) (hc : c ≤ 4) (hu : u < n) (hv : v < u) (hr : rows.length < 100)
    (fin : ∀ (codes : List Int) (rest : Int) (a b d : Sl), codes.length = c → (∀ x ∈ codes, 0 ≤ x ∧ x ≤ 3) → Z.nx [Sl.da (iL l), Sl.da (.int at_), Sl.da (.int n), Sl.da (.int c), Sl.da (.int kind), Sl.da (.int thin), Sl.da (iL [1, 4, 16, 64]), Sl.ow (.lst (rows ++ [codeD ⟨v, u, codes, rest⟩])), Sl.da (.int u), Sl.da (.int v), a, b, d]) :
    r_code Z [Sl.da (iL l), Sl.da (.int at_), Sl.da (.int n), Sl.da (.int c), Sl.da (.int kind), Sl.da (.int thin), Sl.da (iL [1, 4, 16, 64]), Sl.ow (.lst rows), Sl.da (.int u), Sl.da (.int v), s10, s11, s12] := by
  have hs := sizeLine_eq
  obtain ⟨t1, t2⟩ := tri_ix u (by omega)
  obtain ⟨x, ex, x0, x1⟩ : ∃ x, atI l ((at_ + u * (u - 1) / 2 + v : Nat) : Int) = some x ∧ 0 ≤ x ∧ x < 1000 := by
    have hi : at_ + u * (u - 1) / 2 + v < l.length := by omega
    refine ⟨l[at_ + u * (u - 1) / 2 + v], ?_, hl _ (List.getElem_mem hi)⟩
    rw [atI_at (by omega) (by omega), Int.toNat_natCast, List.getElem?_eq_getElem hi]
  have cm : CMul (u : Int) ((u : Int) - 1) := .inl ⟨by omega, by omega⟩
  have cd : CDiv ((u : Int) * ((u : Int) - 1)) 2 := ⟨by omega, by omega⟩
  have ei : (at_ : Int) + (u : Int) * ((u : Int) - 1) / 2 + (v : Int) = ((at_ + u * (u - 1) / 2 + v : Nat) : Int) := by rw [t1]; omega
  have cd256 : CDiv x 256 := ⟨by omega, by omega⟩
  have F4 : ∀ (codes : List Int) (a : Sl), codes.length = c → (∀ y ∈ codes, 0 ≤ y ∧ y ≤ 3) → r_code4 Z [Sl.da (iL l), Sl.da (.int at_), Sl.da (.int n), Sl.da (.int c), Sl.da (.int kind), Sl.da (.int thin), Sl.da (iL [1, 4, 16, 64]), Sl.ow (.lst rows), Sl.da (.int u), Sl.da (.int v), Sl.da (.int x), Sl.da (iL codes), a] := by
    intro codes a h1 h2
    simp [r_code4, sApp, cd256]
    refine ⟨by omega, by omega, fin codes (x / 256) _ _ _ h1 h2⟩
  have F3 : ∀ (codes : List Int) (a : Sl), codes.length = c → (∀ y ∈ codes, 0 ≤ y ∧ y ≤ 3) → r_code3 Z [Sl.da (iL l), Sl.da (.int at_), Sl.da (.int n), Sl.da (.int c), Sl.da (.int kind), Sl.da (.int thin), Sl.da (iL [1, 4, 16, 64]), Sl.ow (.lst rows), Sl.da (.int u), Sl.da (.int v), Sl.da (.int x), Sl.da (iL codes), a] := by
    intro codes a h1 h2
    simp [r_code3, cd256]
    by_cases h : (x / 256 + (u : Int) + (v : Int)) % 4 < thin
    · refine .inr ⟨h, by omega, ?_⟩
      refine lc_rng0 c (fun _ => .int 0) (fun i hi k1 h1 => by simpa using h1) (by omega) ?_
      rw [lst_iL fun _ => 0]
      exact F4 _ _ (by simp) (fun y hy => by simp at hy; omega)
    · exact .inl ⟨by omega, F4 _ _ h1 h2⟩
  have F2 : ∀ (codes : List Int) (a : Sl), codes.length = c → (∀ y ∈ codes, 0 ≤ y ∧ y ≤ 3) → r_code2 Z [Sl.da (iL l), Sl.da (.int at_), Sl.da (.int n), Sl.da (.int c), Sl.da (.int kind), Sl.da (.int thin), Sl.da (iL [1, 4, 16, 64]), Sl.ow (.lst rows), Sl.da (.int u), Sl.da (.int v), Sl.da (.int x), Sl.da (iL codes), a] := by
    intro codes a h1 h2
    simp [r_code2]
    by_cases h : kind = 0
    · refine .inr ⟨h, by omega, ?_⟩
      refine lc_rng0 c (fun _ => .int (x % 2)) (fun i hi k1 h1 => by simpa using h1) (by omega) ?_
      rw [lst_iL fun _ => x % 2]
      exact F3 _ _ (by simp) (fun y hy => by simp at hy; omega)
    · exact .inl ⟨h, F3 _ _ h1 h2⟩
  have F1 : ∀ (codes : List Int) (a : Sl), codes.length = c → (∀ y ∈ codes, 0 ≤ y ∧ y ≤ 3) → r_code1 Z [Sl.da (iL l), Sl.da (.int at_), Sl.da (.int n), Sl.da (.int c), Sl.da (.int kind), Sl.da (.int thin), Sl.da (iL [1, 4, 16, 64]), Sl.ow (.lst rows), Sl.da (.int u), Sl.da (.int v), Sl.da (.int x), Sl.da (iL codes), a] := by
    intro codes a h1 h2
    simp [r_code1]
    by_cases h : kind = 1
    · refine .inr ⟨h, by omega, ?_⟩
      refine lc_rng0 c (fun _ => .int (x % 4)) (fun i hi k1 h1 => by simpa using h1) (by omega) ?_
      rw [lst_iL fun _ => x % 4]
      exact F2 _ _ (by simp) (fun y hy => by simp at hy; omega)
    · exact .inl ⟨h, F2 _ _ h1 h2⟩
  simp [r_code, cm, cd]
  rw [ei]
  refine ⟨x, ex, by omega, ?_⟩
  refine lc_rng0 c (fun i => .int (x / ((atI [(1 : Int), 4, 16, 64] (i : Int)).getD 1) % 4)) (fun i hi k1 h1 => ?_) (by omega) ?_
  · obtain ⟨y, ey, cy⟩ := scale_at (i := i) (by omega)
    rw [ey] at h1
    simp [ey]
    exact ⟨cy, by simpa using h1⟩
  · rw [lst_iL fun i => x / ((atI [(1 : Int), 4, 16, 64] (i : Int)).getD 1) % 4]
    exact F1 _ _ (by simp) (fun y hy => by simp at hy; obtain ⟨i, _, rfl⟩ := hy; omega)
theorem pairs_succ (n : Nat) : codePairs (n + 1) = codePairs n ++ (List.range n).map fun v => (v, n) := by
  unfold codePairs
  rw [List.range_succ, List.flatMap_append]
  simp
theorem pairs_len : ∀ n : Nat, n ≤ 8 → (codePairs n).length = n * (n - 1) / 2 := by decide
theorem range_ix {n : Nat} {pre post : List Nat} {u : Nat} (e : List.range n = pre ++ u :: post) : u = pre.length ∧ u < n := by
  have hu : u < n := List.mem_range.mp (by rw [e]; simp)
  have h2 : pre.length < n := by
    have := congrArg List.length e
    simp at this
    omega
  have := congrArg (fun l => l[pre.length]?) e
  simp [h2] at this
  exact ⟨this.symm, hu⟩
theorem p_law_codes (xc : XC) (ds : List D) (Q : Bool → D → Prop) (h : wf_law_codes xc ds Q) : b_law_codes (Zd xc Q) (ds.map .da ++ List.replicate (13 - ds.length) .no) := by
  obtain ⟨l, at_, n, c, kind, thin, rfl, hl, hat, hn, h1, h4, q⟩ := h
  have hs := sizeLine_eq
  have eb : b_law_codes = sSeq (sSet 6 (wLst (waCons (wC (.int 1)) (waCons (wC (.int 4)) (waCons (wC (.int 16)) (waCons (wC (.int 64)) waNil)))))) (sSeq (sSetO 7 (wLst waNil)) (sSeq (sFor (wiR1 (wVar 2)) (gSet 8) (sFor (wiR1 (wVar 8)) (gSet 9) r_code)) (sRetO 7))) := rfl
  have ei : D.lst [D.int 1, D.int 4, D.int 16, D.int 64] = iL [1, 4, 16, 64] := rfl
  rw [eb]
  simp [sFor]
  rw [ei]
  refine ⟨by omega, by omega, ?_⟩
  refine for_fold (List.range n) (fun i => .int (0 + (i : Nat))) (fun m _ => m + 1) (fun m ρ => ∃ (acc : List CodeRow) (a b d f g : Sl), ρ = [Sl.da (iL l), Sl.da (.int at_), Sl.da (.int n), Sl.da (.int c), Sl.da (.int kind), Sl.da (.int thin), Sl.da (iL [1, 4, 16, 64]), Sl.ow (.lst (acc.map codeD)), a, b, d, f, g] ∧ (acc.map fun r => (r.v, r.u)) = codePairs m ∧ ∀ r ∈ acc, CodeOk n c r) 0 (fun pre u post ρ N e ⟨acc, a1, a2, a3, a4, a5, er, ea, eo⟩ hN => ?_) ⟨[], _, _, _, _, _, rfl, rfl, by simp⟩ fun ρ ⟨acc, a1, a2, a3, a4, a5, er, ea, eo⟩ => ?_
  · subst er
    rw [fold_count, Nat.zero_add] at hN ea
    obtain ⟨hpu, hu⟩ := range_ix e
    rw [← hpu] at ea hN
    simp [sFor]
    refine ⟨by omega, ?_⟩
    refine for_fold (List.range u) (fun i => .int (0 + (i : Nat))) (fun m _ => m + 1) (fun m ρ => ∃ (acc2 : List CodeRow) (b d f g : Sl), ρ = [Sl.da (iL l), Sl.da (.int at_), Sl.da (.int n), Sl.da (.int c), Sl.da (.int kind), Sl.da (.int thin), Sl.da (iL [1, 4, 16, 64]), Sl.ow (.lst (acc2.map codeD)), Sl.da (.int u), b, d, f, g] ∧ (acc2.map fun r => (r.v, r.u)) = codePairs u ++ (List.range m).map (fun v => (v, u)) ∧ ∀ r ∈ acc2, CodeOk n c r) 0 (fun pre2 v post2 ρ N2 e2 ⟨acc2, b1, b2, b3, b4, er2, ea2, eo2⟩ hN2 => ?_) ⟨acc, _, _, _, _, rfl, by simpa using ea, eo⟩ fun ρ ⟨acc2, b1, b2, b3, b4, er2, ea2, eo2⟩ => ?_
    · subst er2
      rw [fold_count, Nat.zero_add] at hN2 ea2
      obtain ⟨hpv, hv⟩ := range_ix e2
      rw [← hpv] at ea2 hN2
      have hlen : acc2.length < 100 := by
        have h1 := congrArg List.length ea2
        simp at h1
        have h2 := pairs_len u (by omega)
        have h3 : ∀ u : Nat, u < 8 → u * (u - 1) / 2 ≤ 21 := by decide
        have := h3 u (by omega)
        omega
      simp
      refine go_code hl hat hn h4 hu hv (by simpa using hlen) fun codes rest a b d k1 k2 => hN2 _ ⟨acc2 ++ [⟨v, u, codes, rest⟩], _, _, _, _, by simp; exact ⟨rfl, rfl, rfl, rfl⟩, ?_, fun r hr => ?_⟩
      · rw [List.map_append, ea2, List.range_succ, List.map_append]
        simp
      · rcases List.mem_append.mp hr with hr | hr
        · exact eo2 r hr
        · simp at hr
          subst hr
          exact ⟨hv, hu, k1, k2⟩
    · subst er2
      rw [fold_count, Nat.zero_add, List.length_range, ← pairs_succ] at ea2
      exact hN _ ⟨acc2, _, _, _, _, _, rfl, ea2, eo2⟩
  · subst er
    rw [fold_count, Nat.zero_add, List.length_range] at ea
    simp [sRetO]
    exact q acc ea eo
end Tw.S

namespace Tw.S
open PySem PySem.Spec L2 PyProof.Rows Tw
theorem mem_beats {c : Nat} {p : Nat → Bool} {b : Nat} : ((b : Int) ∈ beatsF c p) ↔ b < c ∧ p b = true := by
  unfold beatsF
  rw [List.mem_map]
  constructor
  · rintro ⟨i, hi, e⟩
    obtain ⟨h1, h2⟩ := List.mem_filter.mp hi
    have : i = b := by omega
    subst this
    exact ⟨List.mem_range.mp h1, h2⟩
  · rintro ⟨h1, h2⟩
    exact ⟨b, List.mem_filter.mpr ⟨List.mem_range.mpr h1, h2⟩, rfl⟩
theorem set_beats (c : Nat) (p : Nat → Bool) : isSet (beatsF c p) c = true := beats_set c p
theorem set_sorted {c : Nat} {l ms : List Int} (hp : ms.Perm l) (hs : ms.Pairwise (· ≤ ·)) (hn : l.Nodup) (hb : ∀ x ∈ l, 0 ≤ x ∧ x < c) : isSet ms c = true := by
  have nd : ms.Nodup := hp.nodup_iff.mpr hn
  have lt : ms.Pairwise (· < ·) := (hs.and nd).imp fun {a b} h => by
    have := h.1
    have h2 : a ≠ b := h.2
    omega
  unfold isSet climbs
  rw [Bool.and_eq_true, List.all_eq_true, List.all_eq_true]
  refine ⟨fun x hx => ?_, fun i hi => ?_⟩
  · have := hb x (hp.mem_iff.mp hx)
    simp
    exact this
  · have hi' := List.mem_range.mp hi
    have h1 : i < ms.length := by omega
    have h2 : i + 1 < ms.length := by omega
    have := List.pairwise_iff_getElem.mp lt i (i + 1) h1 h2 (by omega)
    simp [h1, h2]
    exact this
theorem set_one {c : Nat} {x : Int} (h : 0 ≤ x ∧ x < c) : isSet [x] c = true := by
  unfold isSet climbs
  simp
  exact h
abbrev sel (codes : List Int) (k : Int) : List Int := beatsF codes.length fun b => decide (codes.getD b 0 = k)
theorem sel_bd {codes : List Int} {k : Int} : ∀ x ∈ sel codes k, 0 ≤ x ∧ x < codes.length := fun x hx => by
  obtain ⟨i, hi, rfl⟩ := List.mem_map.mp hx
  have := List.mem_range.mp (List.mem_filter.mp hi).1
  omega
theorem sel_nd {codes : List Int} {k : Int} : (sel codes k).Nodup := nodup_map (List.nodup_range.filter _) fun x _ y _ h => by omega
theorem mem_sel {codes : List Int} {k : Int} (hk : k ≠ 0) {b : Nat} : ((b : Int) ∈ sel codes k) ↔ codes.getD b 0 = k := by
  rw [mem_beats]
  constructor
  · rintro ⟨_, h⟩; exact of_decide_eq_true h
  · intro h
    refine ⟨?_, decide_eq_true h⟩
    by_cases hb : b < codes.length
    · exact hb
    · rw [List.getD_eq_getElem?_getD, List.getElem?_eq_none (by omega)] at h
      exact absurd h.symm hk
theorem sel_two_nd {codes : List Int} {k k' : Int} (h : k ≠ k') : (sel codes k ++ sel codes k').Nodup := by
  rw [List.nodup_append]
  refine ⟨sel_nd, sel_nd, fun a ha b hb e => ?_⟩
  subst e
  obtain ⟨i, hi, rfl⟩ := List.mem_map.mp ha
  obtain ⟨j, hj, ej⟩ := List.mem_map.mp hb
  have : j = i := by omega
  subst this
  have h1 := of_decide_eq_true (List.mem_filter.mp hi).2
  have h2 := of_decide_eq_true (List.mem_filter.mp hj).2
  exact h (h1.symm.trans h2)
theorem sel_len (codes : List Int) : (sel codes 1).length + (sel codes 2).length + (sel codes 3).length ≤ codes.length := by
  have go : ∀ l : List Nat, (l.filter fun b => decide (codes.getD b 0 = 1)).length + (l.filter fun b => decide (codes.getD b 0 = 2)).length + (l.filter fun b => decide (codes.getD b 0 = 3)).length ≤ l.length := by
    intro l
    induction l with
    | nil => simp
    | cons x l ih =>
      simp only [List.filter_cons, List.length_cons]
      generalize codes.getD x 0 = y
      by_cases h1 : y = 1
      · simp [h1] at ih ⊢; omega
      · by_cases h2 : y = 2
        · simp [h2] at ih ⊢; omega
        · by_cases h3 : y = 3
          · simp [h3] at ih ⊢; omega
          · simp [h1, h2, h3] at ih ⊢; omega
  have := go (List.range codes.length)
  unfold sel beatsF
  simp only [List.length_map, List.length_range] at this ⊢
  exact this
theorem leads_app (a b : List Tie) (i : Int) (u v : Str) : leads (a ++ b) i u v = (leads a i u v || leads b i u v) := by unfold leads; rw [List.any_append]
theorem leads_ne (ts : List Tie) (i : Int) (u v : Str) : leads (ts.filter fun t => !t.at_.isEmpty) i u v = leads ts i u v := by
  unfold leads
  induction ts with
  | nil => rfl
  | cons t ts ih =>
    rw [List.filter_cons]
    by_cases h : t.at_.isEmpty = true
    · rw [h]
      have e : t.at_ = [] := List.isEmpty_iff.mp h
      have z : t.leads i u v = false := by unfold Tie.leads; rw [e]; simp
      simp [z, ih]
    · have h' : t.at_.isEmpty = false := by simpa using h
      rw [h']
      simp only [Bool.not_false, if_true, List.any_cons, ih]
theorem leads_map1 (x y wd : Str) (l : List Int) (i : Int) (u v : Str) : leads (l.map fun b => ⟨x, y, wd, [b]⟩) i u v = (decide (i ∈ l) && ((x == u && y == v) || (y == u && x == v && wd == "two"))) := by
  unfold leads
  induction l with
  | nil => simp
  | cons b l ih =>
    rw [List.map_cons, List.any_cons, ih]
    unfold Tie.leads
    by_cases h : i = b
    · subst h; simp
    · simp [h]
structure PT (x y : Str) (codes : List Int) (m : Nat) (ts : List Tie) : Prop where
  ok : ∀ t ∈ ts, ((t.a = x ∧ t.b = y) ∨ (t.a = y ∧ t.b = x)) ∧ (t.w = "two" ∨ t.w = "one") ∧ isSet t.at_ codes.length = true
  len : ts.length ≤ m
  ld : x ≠ y → ∀ b : Nat, (leads ts b x y = decide (codes.getD b 0 = 1 ∨ codes.getD b 0 = 2)) ∧ (leads ts b y x = decide (codes.getD b 0 = 1 ∨ codes.getD b 0 = 3))
theorem two_one : (("two" : Str) == "two") = true ∧ (("one" : Str) == "two") = false := by decide
theorem pt_0 (x y : Str) (codes : List Int) : PT x y codes 3 [⟨x, y, "two", sel codes 1⟩, ⟨x, y, "one", sel codes 2⟩, ⟨y, x, "one", sel codes 3⟩] := by
  refine ⟨fun t ht => ?_, by simp, fun hne b => ?_⟩
  · simp at ht
    rcases ht with rfl | rfl | rfl <;> simp [set_beats]
  · have e1 : (x == y) = false := by simpa using hne
    have e2 : (y == x) = false := by simpa using fun h : y = x => hne h.symm
    simp only [leads, Tie.leads, List.any_cons, List.any_nil, mem_sel (k := 1) (by decide), mem_sel (k := 2) (by decide), mem_sel (k := 3) (by decide), two_one, e1, e2, beq_self_eq_true]
    constructor <;> by_cases h1 : codes.getD b 0 = 1 <;> by_cases h2 : codes.getD b 0 = 2 <;> by_cases h3 : codes.getD b 0 = 3 <;> simp [h1, h2, h3]
theorem pt_1 (x y : Str) (codes : List Int) (hc : codes.length ≤ 4) : PT x y codes 4 (((sel codes 1).map fun b => ⟨x, y, "two", [b]⟩) ++ ((sel codes 2).map fun b => ⟨x, y, "one", [b]⟩) ++ ((sel codes 3).map fun b => ⟨y, x, "one", [b]⟩)) := by
  refine ⟨fun t ht => ?_, ?_, fun hne b => ?_⟩
  · rw [List.mem_append, List.mem_append] at ht
    rcases ht with (ht | ht) | ht <;> obtain ⟨b, hb, rfl⟩ := List.mem_map.mp ht <;> simp [set_one (sel_bd b hb)]
  · have := sel_len codes
    simp only [List.length_append, List.length_map]
    omega
  · have e1 : (x == y) = false := by simpa using hne
    have e2 : (y == x) = false := by simpa using fun h : y = x => hne h.symm
    simp only [leads_app, leads_map1, mem_sel (k := 1) (by decide), mem_sel (k := 2) (by decide), mem_sel (k := 3) (by decide), two_one, e1, e2, beq_self_eq_true]
    constructor <;> by_cases h1 : codes.getD b 0 = 1 <;> by_cases h2 : codes.getD b 0 = 2 <;> by_cases h3 : codes.getD b 0 = 3 <;> simp [h1, h2, h3]
theorem pt_2 (x y : Str) (codes ms ms' : List Int) (h1 : ms.Perm (sel codes 1 ++ sel codes 2)) (s1 : ms.Pairwise (· ≤ ·)) (h2 : ms'.Perm (sel codes 1 ++ sel codes 3)) (s2 : ms'.Pairwise (· ≤ ·)) : PT x y codes 3 [⟨x, y, "one", ms⟩, ⟨y, x, "one", ms'⟩] := by
  have i1 := set_sorted h1 s1 (sel_two_nd (by decide)) (fun x hx => (List.mem_append.mp hx).elim (sel_bd x) (sel_bd x))
  have i2 := set_sorted h2 s2 (sel_two_nd (by decide)) (fun x hx => (List.mem_append.mp hx).elim (sel_bd x) (sel_bd x))
  refine ⟨fun t ht => ?_, by simp, fun hne b => ?_⟩
  · simp at ht
    rcases ht with rfl | rfl <;> simp [i1, i2]
  · have e1 : (x == y) = false := by simpa using hne
    have e2 : (y == x) = false := by simpa using fun h : y = x => hne h.symm
    simp only [leads, Tie.leads, List.any_cons, List.any_nil, h1.mem_iff, h2.mem_iff, List.mem_append, mem_sel (k := 1) (by decide), mem_sel (k := 2) (by decide), mem_sel (k := 3) (by decide), two_one, e1, e2, beq_self_eq_true]
    constructor <;> by_cases h1 : codes.getD b 0 = 1 <;> by_cases h2 : codes.getD b 0 = 2 <;> by_cases h3 : codes.getD b 0 = 3 <;> simp [h1, h2, h3]
theorem pt_3 (x y : Str) (codes ms' : List Int) (h2 : ms'.Perm (sel codes 1 ++ sel codes 3)) (s2 : ms'.Pairwise (· ≤ ·)) : PT x y codes 3 [⟨y, x, "one", ms'⟩, ⟨y, x, "two", sel codes 1⟩, ⟨x, y, "one", sel codes 2⟩] := by
  have i2 := set_sorted h2 s2 (sel_two_nd (by decide)) (fun x hx => (List.mem_append.mp hx).elim (sel_bd x) (sel_bd x))
  refine ⟨fun t ht => ?_, by simp, fun hne b => ?_⟩
  · simp at ht
    rcases ht with rfl | rfl | rfl <;> simp [set_beats, i2]
  · have e1 : (x == y) = false := by simpa using hne
    have e2 : (y == x) = false := by simpa using fun h : y = x => hne h.symm
    simp only [leads, Tie.leads, List.any_cons, List.any_nil, h2.mem_iff, List.mem_append, mem_sel (k := 1) (by decide), mem_sel (k := 2) (by decide), mem_sel (k := 3) (by decide), two_one, e1, e2, beq_self_eq_true]
    generalize codes.getD b 0 = g
    constructor <;> by_cases h1 : g = 1 <;> by_cases h2 : g = 2 <;> by_cases h3 : g = 3 <;> simp [h1, h2, h3]
end Tw.S

namespace Tw.S
open PySem PySem.Spec L2 PyProof.Rows Tw
def r_pt3 : Ws := (sFrz 7 (sRetF (wLc (wiS (wVar 7)) (gSet 9) (wB (w2 oNe (w2 oIx (wVar 9) (wC (.int 3))) (wTup waNil))) (wVar 9) [9])))
def r_pt2 : Ws := (sSeq (sIf (wB (w2 oEq (wVar 3) (wC (.int 3))))
  (sSeq (sSetO 7 (wLst (waCons (wTup (waCons (wVar 1) (waCons (wVar 0) (waCons (wC (.str "one")) (waCons (wN oTuple (waCons (wN oSortA (waCons (w2 oPlus (wVar 4) (wVar 6)) waNil)) waNil)) waNil))))) (waCons (wTup (waCons (wVar 1) (waCons (wVar 0) (waCons (wC (.str "two")) (waCons (wVar 4) waNil))))) waNil))))
  (sApp 7 (wTup (waCons (wVar 0) (waCons (wVar 1) (waCons (wC (.str "one")) (waCons (wVar 5) waNil)))))))
  sNil) r_pt3)
def r_pt1 : Ws := (sSeq (sIf (wB (w2 oEq (wVar 3) (wC (.int 2))))
  (sSeq (sSetO 7 (wLst (waCons (wTup (waCons (wVar 0) (waCons (wVar 1) (waCons (wC (.str "one")) (waCons (wN oTuple (waCons (wN oSortA (waCons (w2 oPlus (wVar 4) (wVar 5)) waNil)) waNil)) waNil))))) waNil)))
  (sApp 7 (wTup (waCons (wVar 1) (waCons (wVar 0) (waCons (wC (.str "one")) (waCons (wN oTuple (waCons (wN oSortA (waCons (w2 oPlus (wVar 4) (wVar 6)) waNil)) waNil)) waNil)))))))
  sNil) r_pt2)
def r_pt0 : Ws := (sSeq (sIf (wB (w2 oEq (wVar 3) (wC (.int 1))))
  (sSeq (sSetO 7 (wLc (wiS (wVar 4)) (gSet 8) wtYes (wTup (waCons (wVar 0) (waCons (wVar 1) (waCons (wC (.str "two")) (waCons (wTup (waCons (wVar 8) waNil)) waNil))))) [8]))
  (sSeq (sSetO 7 (w2 oCat (wPeek 7) (wLc (wiS (wVar 5)) (gSet 8) wtYes (wTup (waCons (wVar 0) (waCons (wVar 1) (waCons (wC (.str "one")) (waCons (wTup (waCons (wVar 8) waNil)) waNil))))) [8])))
  (sSetO 7 (w2 oCat (wPeek 7) (wLc (wiS (wVar 6)) (gSet 8) wtYes (wTup (waCons (wVar 1) (waCons (wVar 0) (waCons (wC (.str "one")) (waCons (wTup (waCons (wVar 8) waNil)) waNil))))) [8])))))
  sNil) r_pt1)
@[simp high] theorem plus_tI {a b : List Int} {Q : D → Prop} : oPlus (tI a) (tI b) Q = (a.length + b.length ≤ sizeLine ∧ Q (tI (a ++ b))) := by
  unfold tI
  simp
theorem sel_le {codes : List Int} {k : Int} : (sel codes k).length ≤ codes.length := by
  unfold sel beatsF
  have := List.length_filter_le (fun b => decide (codes.getD b 0 = k)) (List.range codes.length)
  simp only [List.length_map, List.length_range] at this ⊢
  exact this
theorem comp_sel {codes : List Int} {k : Int} {ρ : Evn} {Q : List D → Prop} (hc : codes.length ≤ 4) (h2 : ρ[2]? = some (.da (iL codes))) (h8 : ρ.length = 10) (q : Q ((sel codes k).map .int)) :
    lcW (gSet 8) (wB (w2 oEq (w2 oIx (wVar 2) (wVar 8)) (wC (.int k)))) (wVar 8) ρ Q (rngD 0 codes.length) [] := by
  have hs := sizeLine_eq
  refine lc_rng0F codes.length (fun b => decide (codes.getD b 0 = k)) (fun b => .int (b : Nat)) (fun i hi k1 k2 g1 g2 => ?_) (by omega) ?_
  · have e2 : (ρ.set 8 (.da (.int (i : Nat))))[2]? = some (.da (iL codes)) := by rw [List.getElem?_set_ne (by omega)]; exact h2
    have e8 : (ρ.set 8 (.da (.int (i : Nat))))[8]? = some (.da (.int (i : Nat))) := by rw [List.getElem?_set_self (by omega)]
    have ea : atI codes (i : Int) = some (codes.getD i 0) := by rw [atI_int (by omega) (by omega)]; simp
    simp [e2, e8, ea]
    by_cases h : codes.getD i 0 = k
    · exact .inr ⟨by simpa using h, g1 (decide_eq_true h)⟩
    · exact .inl ⟨by simpa using h, g2 (decide_eq_false h)⟩
  · have : ((List.range codes.length).filter fun b => decide (codes.getD b 0 = k)).map (fun b => D.int (b : Nat)) = (sel codes k).map .int := by
      unfold sel beatsF
      rw [List.map_map]; rfl
    rw [this]
    exact q
section
variable {xc : XC} {Q : Bool → D → Prop} {x y : Str} {codes : List Int} {style : Int}
abbrev ptE (x y : Str) (codes : List Int) (style : Int) (f : List Tie) (a b : Sl) : Evn := [Sl.da (.str x), Sl.da (.str y), Sl.da (iL codes), Sl.da (.int style), Sl.da (tI (sel codes 1)), Sl.da (tI (sel codes 2)), Sl.da (tI (sel codes 3)), Sl.ow (tsL f), a, b]
theorem go_pt3 {m : Nat} {f : List Tie} {a b : Sl} (hm : m ≤ 4) (hf : PT x y codes m f)
    (q : ∀ ts : List Tie, (∀ t ∈ ts, ((t.a = x ∧ t.b = y) ∨ (t.a = y ∧ t.b = x)) ∧ (t.w = "two" ∨ t.w = "one") ∧ t.at_ ≠ [] ∧ isSet t.at_ codes.length = true) → ts.length ≤ m →
      (x ≠ y → ∀ b : Nat, (leads ts b x y = decide (codes.getD b 0 = 1 ∨ codes.getD b 0 = 2)) ∧ (leads ts b y x = decide (codes.getD b 0 = 1 ∨ codes.getD b 0 = 3))) → Q true (tsL ts)) : r_pt3 (Zd xc Q) (ptE x y codes style f a b) := by
  have hs := sizeLine_eq
  simp [r_pt3, sFrz, tsL]
  refine lc_ofF f tieD (fun t => !t.at_.isEmpty) tieD (fun t ht k1 k2 g1 g2 => ?_) (by have := hf.len; omega) ?_
  · have e3 : ∀ P : D → Prop, oIx (tieD t) (.int 3) P = P (tI t.at_) := fun P => by
      show (∃ d, atI _ 3 = some d ∧ P d) = _
      exact propext ⟨fun ⟨d, h, p⟩ => by cases h; exact p, fun p => ⟨_, rfl, p⟩⟩
    have e0 : D.tup [] = tI [] := rfl
    simp [e3, e0]
    cases h : t.at_ with
    | nil => rw [h] at g2; exact .inl ⟨rfl, g2 rfl⟩
    | cons z r => rw [h] at g1; exact .inr ⟨by simp, g1 rfl⟩
  · have := q (f.filter fun t => !t.at_.isEmpty) (fun t ht => ?_) (Nat.le_trans (List.length_filter_le _ _) hf.len) (fun hne b => ?_)
    · exact this
    · obtain ⟨h1, h2⟩ := List.mem_filter.mp ht
      obtain ⟨k1, k2, k3⟩ := hf.ok t h1
      refine ⟨k1, k2, fun z => ?_, k3⟩
      rw [z] at h2
      simp at h2
    · rw [leads_ne, leads_ne]
      exact hf.ld hne b
theorem go_pt2 {f : List Tie} {a b : Sl} (hc : codes.length ≤ 4) (hf : ∀ (_ : style ≠ 3), PT x y codes (if style = 1 then 4 else 3) f)
    (q : ∀ ts : List Tie, (∀ t ∈ ts, ((t.a = x ∧ t.b = y) ∨ (t.a = y ∧ t.b = x)) ∧ (t.w = "two" ∨ t.w = "one") ∧ t.at_ ≠ [] ∧ isSet t.at_ codes.length = true) → ts.length ≤ (if style = 1 then 4 else 3) →
      (x ≠ y → ∀ b : Nat, (leads ts b x y = decide (codes.getD b 0 = 1 ∨ codes.getD b 0 = 2)) ∧ (leads ts b y x = decide (codes.getD b 0 = 1 ∨ codes.getD b 0 = 3))) → Q true (tsL ts)) : r_pt2 (Zd xc Q) (ptE x y codes style f a b) := by
  have hs := sizeLine_eq
  have l1 := sel_le (codes := codes) (k := 1)
  have l3 := sel_le (codes := codes) (k := 3)
  have hm : (if style = 1 then 4 else 3) ≤ 4 := by split <;> omega
  simp [r_pt2]
  by_cases h3 : style = 3
  · refine .inr ⟨h3, ?_⟩
    refine ⟨by omega, _, .inr rfl, fun ms hp hss => ?_⟩
    have e : ∀ P : D → Prop, oTuple [D.lst (ms.map .int)] P = P (tI ms) := fun P => rfl
    simp [e, sApp]
    refine ⟨by omega, by omega, by omega, by omega, ?_⟩
    have hm3 : (if style = 1 then 4 else 3) = 3 := by rw [if_neg (by omega)]
    rw [hm3] at q
    exact go_pt3 (f := [⟨y, x, "one", ms⟩, ⟨y, x, "two", sel codes 1⟩, ⟨x, y, "one", sel codes 2⟩]) (by omega) (pt_3 x y codes ms hp hss) q
  · exact .inl ⟨h3, go_pt3 hm (hf h3) q⟩
theorem go_pt1 {f : List Tie} {a b : Sl} (hc : codes.length ≤ 4) (hf : ∀ (_ : style ≠ 2) (_ : style ≠ 3), PT x y codes (if style = 1 then 4 else 3) f)
    (q : ∀ ts : List Tie, (∀ t ∈ ts, ((t.a = x ∧ t.b = y) ∨ (t.a = y ∧ t.b = x)) ∧ (t.w = "two" ∨ t.w = "one") ∧ t.at_ ≠ [] ∧ isSet t.at_ codes.length = true) → ts.length ≤ (if style = 1 then 4 else 3) →
      (x ≠ y → ∀ b : Nat, (leads ts b x y = decide (codes.getD b 0 = 1 ∨ codes.getD b 0 = 2)) ∧ (leads ts b y x = decide (codes.getD b 0 = 1 ∨ codes.getD b 0 = 3))) → Q true (tsL ts)) : r_pt1 (Zd xc Q) (ptE x y codes style f a b) := by
  have hs := sizeLine_eq
  have l1 := sel_le (codes := codes) (k := 1)
  have l2 := sel_le (codes := codes) (k := 2)
  have l3 := sel_le (codes := codes) (k := 3)
  simp [r_pt1]
  by_cases h2 : style = 2
  · refine .inr ⟨h2, ?_⟩
    refine ⟨by omega, _, .inr rfl, fun ms hp hss => ?_⟩
    have e : ∀ (ms : List Int) (P : D → Prop), oTuple [D.lst (ms.map .int)] P = P (tI ms) := fun _ P => rfl
    simp [e, sApp]
    refine ⟨by omega, by omega, by omega, _, .inr rfl, fun ms' hp' hss' => ?_⟩
    simp [e]
    refine ⟨by omega, by omega, ?_⟩
    refine go_pt2 (f := [⟨x, y, "one", ms⟩, ⟨y, x, "one", ms'⟩]) hc (fun _ => ?_) q
    rw [if_neg (by omega)]
    exact pt_2 x y codes ms ms' hp hss hp' hss'
  · exact .inl ⟨h2, go_pt2 hc (fun h3 => hf h2 h3) q⟩
theorem go_pt0 {a b : Sl} (hc : codes.length ≤ 4)
    (q : ∀ ts : List Tie, (∀ t ∈ ts, ((t.a = x ∧ t.b = y) ∨ (t.a = y ∧ t.b = x)) ∧ (t.w = "two" ∨ t.w = "one") ∧ t.at_ ≠ [] ∧ isSet t.at_ codes.length = true) → ts.length ≤ (if style = 1 then 4 else 3) →
      (x ≠ y → ∀ b : Nat, (leads ts b x y = decide (codes.getD b 0 = 1 ∨ codes.getD b 0 = 2)) ∧ (leads ts b y x = decide (codes.getD b 0 = 1 ∨ codes.getD b 0 = 3))) → Q true (tsL ts)) : r_pt0 (Zd xc Q) (ptE x y codes style [⟨x, y, "two", sel codes 1⟩, ⟨x, y, "one", sel codes 2⟩, ⟨y, x, "one", sel codes 3⟩] a b) := by
  have hs := sizeLine_eq
  have l1 := sel_le (codes := codes) (k := 1)
  have l2 := sel_le (codes := codes) (k := 2)
  have l3 := sel_le (codes := codes) (k := 3)
  have one : ∀ (p r : Nat) (xp xr wd : Str) (ρ : Evn) (l : List Int) (P : List D → Prop), l.length ≤ 4 → (∀ d, (ρ.set 8 d)[p]? = some (.da (.str xp))) → (∀ d, (ρ.set 8 d)[r]? = some (.da (.str xr))) → ρ.length = 10 → P ((l.map fun b => Tie.mk xp xr wd [b]).map tieD) →
      lcW (gSet 8) wtYes (wTup (waCons (wVar p) (waCons (wVar r) (waCons (wC (.str wd)) (waCons (wTup (waCons (wVar 8) waNil)) waNil))))) ρ P (l.map D.int) [] := by
    intro p r xp xr wd ρ l P hl hp hr h8 hP
    refine lc_of l D.int (fun b => tieD ⟨xp, xr, wd, [b]⟩) (fun b hb k1 hk => ?_) (by omega) (by simpa [Function.comp_def] using hP)
    have e8 : ∀ d, (ρ.set 8 d)[8]? = some d := fun d => by rw [List.getElem?_set_self (by omega)]
    simp [hp, hr, e8]
    exact ⟨by omega, by omega, hk⟩
  simp [r_pt0]
  by_cases h1 : style = 1
  · refine .inr ⟨h1, ?_⟩
    refine one 0 1 x y "two" _ (sel codes 1) _ (by omega) (fun _ => rfl) (fun _ => rfl) rfl ?_
    simp [wPeek]
    refine one 0 1 x y "one" _ (sel codes 2) _ (by omega) (fun _ => rfl) (fun _ => rfl) rfl ?_
    simp [wPeek]
    refine ⟨by omega, ?_⟩
    refine one 1 0 y x "one" _ (sel codes 3) _ (by omega) (fun _ => rfl) (fun _ => rfl) rfl ?_
    simp [wPeek]
    refine ⟨by omega, ?_⟩
    have := go_pt1 (xc := xc) (Q := Q) (style := style) (a := a) (b := b) (f := ((sel codes 1).map fun b => ⟨x, y, "two", [b]⟩) ++ ((sel codes 2).map fun b => ⟨x, y, "one", [b]⟩) ++ ((sel codes 3).map fun b => ⟨y, x, "one", [b]⟩)) hc (fun _ _ => by rw [if_pos h1]; exact pt_1 x y codes hc) q
    simpa [ptE, tsL] using this
  · refine .inl ⟨h1, go_pt1 hc (fun _ _ => ?_) q⟩
    rw [if_neg h1]
    exact pt_0 x y codes
end
theorem p_law_pair_ties (xc : XC) (ds : List D) (Q : Bool → D → Prop) (h : wf_law_pair_ties xc ds Q) : b_law_pair_ties (Zd xc Q) (ds.map .da ++ List.replicate (10 - ds.length) .no) := by
  obtain ⟨x, y, codes, style, rfl, ox, oy, hc, q⟩ := h
  have hs := sizeLine_eq
  have eb : b_law_pair_ties = (sSeq (sSet 4 (wN oTuple (waCons (wLc (wiR1 (wN oLen (waCons (wVar 2) waNil))) (gSet 8) (wB (w2 oEq (w2 oIx (wVar 2) (wVar 8)) (wC (.int 1)))) (wVar 8) [8]) waNil)))
  (sSeq (sSet 5 (wN oTuple (waCons (wLc (wiR1 (wN oLen (waCons (wVar 2) waNil))) (gSet 8) (wB (w2 oEq (w2 oIx (wVar 2) (wVar 8)) (wC (.int 2)))) (wVar 8) [8]) waNil)))
  (sSeq (sSet 6 (wN oTuple (waCons (wLc (wiR1 (wN oLen (waCons (wVar 2) waNil))) (gSet 8) (wB (w2 oEq (w2 oIx (wVar 2) (wVar 8)) (wC (.int 3)))) (wVar 8) [8]) waNil)))
  (sSeq (sSetO 7 (wLst (waCons (wTup (waCons (wVar 0) (waCons (wVar 1) (waCons (wC (.str "two")) (waCons (wVar 4) waNil))))) (waCons (wTup (waCons (wVar 0) (waCons (wVar 1) (waCons (wC (.str "one")) (waCons (wVar 5) waNil))))) (waCons (wTup (waCons (wVar 1) (waCons (wVar 0) (waCons (wC (.str "one")) (waCons (wVar 6) waNil))))) waNil)))))
  r_pt0)))) := rfl
  have et : ∀ (ms : List Int) (P : D → Prop), oTuple [D.lst (ms.map .int)] P = P (tI ms) := fun _ P => rfl
  rw [eb]
  simp
  refine ⟨by omega, comp_sel hc rfl rfl ?_⟩
  exact ⟨by omega, comp_sel hc rfl rfl ⟨by omega, comp_sel hc rfl rfl ⟨by omega, by omega, go_pt0 hc q⟩⟩⟩
end Tw.S

namespace Tw.S
open PySem PySem.Spec L2 PyProof.Rows Tw
@[simp high] theorem plus_tsL {a b : List Tie} {Q : D → Prop} : oPlus (tsL a) (tsL b) Q = (a.length + b.length ≤ sizeLine ∧ Q (tsL (a ++ b))) := by
  unfold tsL
  simp
def deg (w : Nat) (ps : List (Nat × Nat)) : Nat := (ps.filter fun q => q.1 == w || q.2 == w).length
theorem deg_pairs : ∀ n, n ≤ 8 → ∀ w, w < n → deg w (codePairs n) = n - 1 := by decide
theorem deg_app (w : Nat) (a b : List (Nat × Nat)) : deg w (a ++ b) = deg w a + deg w b := by unfold deg; rw [List.filter_append, List.length_append]
theorem few_of {names : List Str} {c : Int} {ts : List Tie} {k : Nat} (ok : ∀ t ∈ ts, TieOk names c t) (h : ∀ (w : Nat) (hw : w < names.length), cnt names[w] ts ≤ k) (z : Str) : cnt z ts ≤ k := by
  by_cases hz : z ∈ names
  · obtain ⟨w, hw, rfl⟩ := List.mem_iff_getElem.mp hz
    exact h w hw
  · have : cnt z ts = 0 := by
      unfold cnt
      rw [List.length_eq_zero_iff, List.filter_eq_nil_iff]
      intro t ht
      have n1 : ¬ t.a = z := fun e => hz (e ▸ (ok t ht).a)
      have n2 : ¬ t.b = z := fun e => hz (e ▸ (ok t ht).b)
      simp [n1, n2]
    omega
theorem pair_tie {names : List Str} {c v u : Nat} {t : Tie} (hn : NamesOk names) (hv : v < names.length) (hu : u < names.length) (hne : v ≠ u) (h : ((t.a = names[v] ∧ t.b = names[u]) ∨ (t.a = names[u] ∧ t.b = names[v])) ∧ (t.w = "two" ∨ t.w = "one") ∧ t.at_ ≠ [] ∧ isSet t.at_ c = true) : TieOk names c t ∧ On names[u] names[v] t := by
  obtain ⟨h1, h2, h3, h4⟩ := h
  have ne : names[v] ≠ names[u] := fun z => hne ((List.getElem_inj hn.nd).mp z)
  rcases h1 with ⟨ea, eb⟩ | ⟨ea, eb⟩
  · exact ⟨⟨ea ▸ List.getElem_mem hv, eb ▸ List.getElem_mem hu, by rw [ea, eb]; exact ne, h2, h3, h4⟩, .inr ea, .inl eb⟩
  · exact ⟨⟨ea ▸ List.getElem_mem hu, eb ▸ List.getElem_mem hv, by rw [ea, eb]; exact ne.symm, h2, h3, h4⟩, .inl ea, .inr eb⟩
theorem foldl_snoc {α : Type} : ∀ (l i : List α), l.foldl (fun p t => p ++ [t]) i = i ++ l
  | [], i => by simp
  | x :: l, i => by rw [List.foldl_cons, foldl_snoc l]; simp
def r_at : Ws := (sSet 3 (w2 oPlus (wVar 3) (wCall wf_law_pair_ties [] (waCons (w2 oIx (wVar 1) (wVar 5)) (waCons (w2 oIx (wVar 1) (wVar 6)) (waCons (wVar 7) (waCons (wVar 9) waNil)))))))
theorem any_ties_eq : b_law_any_ties = (sSeq (sSet 3 (wLst waNil))
  (sSeq (sSet 4 (w2 oIx (wLst (waCons (wC (.int 0)) (waCons (wC (.int 0)) (waCons (wC (.int 1)) (waCons (wC (.int 2)) waNil))))) (w2 oMod (wN oInt (waCons (w2 oIx (wVar 0) (wC (.int 6))) waNil)) (wC (.int 4)))))
  (sSeq (sFor (wiS (wCall wf_law_codes [] (waCons (wVar 0) (waCons (wC (.int 8)) (waCons (wN oLen (waCons (wVar 1) waNil)) (waCons (wVar 2) (waCons (w2 oMod (wN oInt (waCons (w2 oIx (wVar 0) (wC (.int 1))) waNil)) (wC (.int 3))) (waCons (wVar 4) waNil)))))))) (gLstD 4 (gsCons (gSet 5) (gsCons (gSet 6) (gsCons (gSet 7) (gsCons (gSet 8) gsNil)))))
  (sSeq (sSet 9 (w2 oMod (wN oInt (waCons (w2 oPlus (wVar 8) (w2 oIx (wVar 0) (wC (.int 7)))) waNil)) (wC (.int 4))))
  (sSeq (sIf (wAnd (wB (w2 oGt (wN oLen (waCons (wVar 1) waNil)) (wC (.int 7)))) (wB (w2 oEq (wVar 9) (wC (.int 1)))))
  (sSet 9 (wC (.int 0)))
  sNil)
  r_at)))
  (sRet (wVar 3))))) := rfl
theorem p_law_any_ties (xc : XC) (ds : List D) (Q : Bool → D → Prop) (h : wf_law_any_ties xc ds Q) : b_law_any_ties (Zd xc Q) (ds.map .da ++ List.replicate (10 - ds.length) .no) := by
  obtain ⟨l, names, c, rfl, hl, h40, hn, h1, h4, q⟩ := h
  have hs := sizeLine_eq
  have lo := hn.lo
  have hi8 := hn.hi
  have hx : ∀ i : Nat, i < 40 → ∃ x, atI l (i : Int) = some x ∧ 0 ≤ x ∧ x < 1000 := fun i hi => by
    refine ⟨l[i], ?_, hl _ (List.getElem_mem (by omega))⟩
    rw [atI_at (by omega) (by omega), Int.toNat_natCast, List.getElem?_eq_getElem (by omega)]
  obtain ⟨x1, e1, a1, b1⟩ := hx 1 (by omega)
  obtain ⟨x6, e6, a6, b6⟩ := hx 6 (by omega)
  obtain ⟨x7, e7, a7, b7⟩ := hx 7 (by omega)
  have e1' : atI l 1 = some x1 := e1
  have e6' : atI l 6 = some x6 := e6
  have e7' : atI l 7 = some x7 := e7
  obtain ⟨th, eth⟩ : ∃ d : Int, atI [D.int 0, D.int 0, D.int 1, D.int 2] (x6 % 4) = some (.int d) := by
    have : x6 % 4 = 0 ∨ x6 % 4 = 1 ∨ x6 % 4 = 2 ∨ x6 % 4 = 3 := by omega
    rcases this with h | h | h | h <;> rw [h]
    · exact ⟨0, rfl⟩
    · exact ⟨0, rfl⟩
    · exact ⟨1, rfl⟩
    · exact ⟨2, rfl⟩
  have e0 : D.lst [] = tsL [] := rfl
  obtain ⟨m, hm⟩ : ∃ m : Nat, (if names.length > 7 then 3 else 4) = m := ⟨_, rfl⟩
  have hm4 : m ≤ 4 := by rw [← hm]; split <;> omega
  rw [any_ties_eq]
  simp [e1', e6', eth, sFor]
  rw [e0]
  refine ⟨by omega, l, 8, names.length, c, x1 % 3, th, rfl, hl, by omega, hi8, h1, h4, fun rs hrs hok => ?_⟩
  simp
  refine for_fold rs codeD (fun (pre : List CodeRow) r => pre ++ [r]) (fun pre ρ => ∃ (acc : List Tie) (a b d f g : Sl), ρ = [Sl.da (iL l), Sl.da (sL names), Sl.da (.int c), Sl.da (tsL acc), Sl.da (.int th), a, b, d, f, g] ∧ acc.length ≤ m * pre.length ∧ (∀ t ∈ acc, TieOk names c t) ∧ ∀ (w : Nat) (hw : w < names.length), cnt names[w] acc ≤ m * deg w (pre.map fun r => (r.v, r.u))) [] (fun pre r post ρ N e ⟨acc, s1, s2, s3, s4, s5, er, el, eo, ec⟩ hN => ?_) ⟨[], _, _, _, _, _, rfl, by simp, by simp, fun w hw => by simp [cnt]⟩ fun ρ ⟨acc, s1, s2, s3, s4, s5, er, el, eo, ec⟩ => ?_
  · subst er
    rw [foldl_snoc, List.nil_append] at hN el ec
    have hr : r ∈ rs := by rw [e]; simp
    have ok := hok r hr
    have hu := ok.hi
    have hv : r.v < names.length := by have := ok.lt; omega
    have plen : pre.length + 1 ≤ 28 := by
      have h1 := congrArg List.length hrs
      have h2 := pairs_len names.length hi8
      have h3 : ∀ u : Nat, u ≤ 8 → u * (u - 1) / 2 ≤ 28 := by decide
      have h4 := h3 _ hi8
      rw [List.length_map, e] at h1
      simp at h1
      omega
    have hmul : m * pre.length ≤ 4 * 28 := Nat.mul_le_mul hm4 (by omega)
    have main : ∀ st : Int, (names.length > 7 → st ≠ 1) → ∀ Z : Pd, Z.nx = N → Z.xc = xc → r_at Z
        [Sl.da (iL l), Sl.da (sL names), Sl.da (.int c), Sl.da (tsL acc), Sl.da (.int th), Sl.da (.int r.v), Sl.da (.int r.u), Sl.da (iL r.codes), Sl.da (.int r.rest), Sl.da (.int st)] := by
      intro st hst Z hz hzx
      simp [r_at]
      refine ⟨_, atI_strs hv, _, atI_strs hu, names[r.v], names[r.u], r.codes, st, rfl, hn.ok _ (List.getElem_mem hv), hn.ok _ (List.getElem_mem hu), by rw [ok.len]; omega, fun ts ht hlen _ => ?_⟩
      have hne : r.v ≠ r.u := by have := ok.lt; omega
      have hlm : ts.length ≤ m := by
        refine Nat.le_trans hlen ?_
        rw [← hm]
        by_cases h7 : names.length > 7
        · rw [if_pos h7, if_neg (hst h7)]; omega
        · rw [if_neg h7]; split <;> omega
      rw [ok.len] at ht
      dsimp only
      rw [plus_tsL, hz]
      refine ⟨by omega, ?_⟩
      have hT := fun t h => pair_tie hn hv hu hne (ht t h)
      refine hN _ ⟨acc ++ ts, _, _, _, _, _, by simp; exact ⟨rfl, rfl, rfl, rfl, rfl⟩, ?_, fun t h => ?_, fun w hw => ?_⟩
      · rw [List.length_append, List.length_append, List.length_singleton, Nat.mul_add, Nat.mul_one]
        omega
      · rcases List.mem_append.mp h with h | h
        · exact eo t h
        · exact (hT t h).1
      · rw [cnt_app, List.map_append, deg_app, Nat.mul_add]
        have c1 := ec w hw
        by_cases hw2 : w = r.v ∨ w = r.u
        · have c2 := cnt_le names[w] ts
          have c3 : deg w ([r].map fun r => (r.v, r.u)) = 1 := by
            unfold deg
            rcases hw2 with rfl | rfl <;> simp
          rw [c3]
          omega
        · have c2 : cnt names[w] ts = 0 := cnt_off (fun t h => (hT t h).2) (fun z => hw2 (.inr ((List.getElem_inj hn.nd).mp z).symm)) (fun z => hw2 (.inl ((List.getElem_inj hn.nd).mp z).symm))
          omega
    simp [codeD, gLstD, gsCons, gsNil, D.isL, e7']
    refine ⟨_, _, ⟨rfl, rfl⟩, _, _, rfl, _, _, rfl, _, _, rfl, rfl, ?_⟩
    simp [e7']
    by_cases h7 : 7 < names.length
    · refine .inr ⟨by omega, ?_⟩
      by_cases hst : (r.rest + x7) % 4 = 1
      · exact .inr ⟨hst, main 0 (fun _ => by omega) _ rfl rfl⟩
      · exact .inl ⟨hst, main _ (fun _ => hst) _ rfl rfl⟩
    · exact .inl ⟨by omega, main _ (fun h => absurd h h7) _ rfl rfl⟩
  · subst er
    rw [foldl_snoc, List.nil_append] at el ec
    simp
    have plen : rs.length ≤ 28 ∧ (names.length ≤ 7 → rs.length ≤ 21) := by
      have h1 := congrArg List.length hrs
      have h2 := pairs_len names.length hi8
      have h3 : ∀ u : Nat, u ≤ 8 → u * (u - 1) / 2 ≤ 28 ∧ (u ≤ 7 → u * (u - 1) / 2 ≤ 21) := by decide
      have h4 := h3 _ hi8
      rw [List.length_map] at h1
      omega
    have tot : acc.length ≤ 84 := by
      refine Nat.le_trans el ?_
      rw [← hm]
      split
      · have := plen.1; omega
      · have := plen.2 (by omega); omega
    refine q acc ⟨by omega, eo⟩ (few_of eo fun w hw => Nat.le_trans (ec w hw) ?_)
    rw [hrs, deg_pairs _ hi8 _ hw]
    exact Nat.le_trans (Nat.mul_le_mul hm4 (show names.length - 1 ≤ 7 by omega)) (by omega)
theorem p_law_any_web (xc : XC) (ds : List D) (Q : Bool → D → Prop) (h : wf_law_any_web xc ds Q) : b_law_any_web (Zd xc Q) (ds.map .da ++ List.replicate (9 - ds.length) .no) := by
  obtain ⟨sc, k, k', rfl, hsc, hk, hk', q⟩ := h
  have hs := sizeLine_eq
  simp [b_law_any_web]
  refine ⟨sc, k, 40, rfl, hsc, hk, by omega, fun l h40 hl => ?_⟩
  have hx : ∀ i : Nat, i < 40 → ∃ x, atI l (i : Int) = some x ∧ 0 ≤ x ∧ x < 1000 := fun i hi => by
    refine ⟨l[i], ?_, hl _ (List.getElem_mem (by omega))⟩
    rw [atI_at (by omega) (by omega), Int.toNat_natCast, List.getElem?_eq_getElem (by omega)]
  obtain ⟨x0, e0, a0, b0⟩ := hx 0 (by omega)
  obtain ⟨x2, e2, a2, b2⟩ := hx 2 (by omega)
  have e0' : atI l 0 = some x0 := e0
  have e2' : atI l 2 = some x2 := e2
  obtain ⟨n, hnn⟩ : ∃ n : Nat, 1 + x0 % 8 = n := ⟨(1 + x0 % 8).toNat, by omega⟩
  obtain ⟨c, hcc⟩ : ∃ n : Nat, 1 + x2 % 4 = n := ⟨(1 + x2 % 4).toNat, by omega⟩
  simp [e0', e2', hnn, hcc]
  refine ⟨sc, k', n, rfl, hsc, hk', by omega, by omega, fun names en no => ⟨l, names, c, rfl, hl, h40, no, by omega, by omega, fun ts to few => ?_⟩⟩
  simp
  exact ⟨names, ts, c, rfl, no, to, few, by omega, by omega, by omega, q names ts c no to (by omega) (by omega)⟩
end Tw.S

namespace Tw.S
open PySem PySem.Spec L2 PyProof.Rows Tw
/-! data of a bounded depth -/
def Okd (n : Nat) (d : D) : Prop := d.isP = true ∧ d.py.canLay0 = true ∧ d.py.depth ≤ n
theorem Okd.ok {n : Nat} {d : D} (h : Okd n d) (hn : n ≤ 64) : d.ok := ⟨h.1, by unfold SeqAt.shaped; rw [h.2.1]; simp; have := h.2.2; omega⟩
theorem Okd.mono {n m : Nat} {d : D} (h : Okd n d) (hn : n ≤ m) : Okd m d := ⟨h.1, h.2.1, Nat.le_trans h.2.2 hn⟩
theorem okd_int (i : Int) : Okd 0 (.int i) := ⟨rfl, by simp [D.py, PyData.canLay0], by simp [D.py, PyData.depth]⟩
theorem okd_str {z : Str} (h : PyData.strOk z = true) : Okd 0 (.str z) := ⟨rfl, by simp [D.py, PyData.canLay0, h], by simp [D.py, PyData.depth]⟩
theorem okd_all {n : Nat} : ∀ {l : List D}, (∀ d ∈ l, Okd n d) → D.isPs l = true ∧ PyData.canLayAll0 (D.pys l) = true ∧ PyData.depthAll (D.pys l) ≤ n
  | [], _ => by simp [D.isPs, D.pys, PyData.canLayAll0, PyData.depthAll]
  | x :: l, h => by
    obtain ⟨a, b, c⟩ := h x (by simp)
    obtain ⟨a', b', c'⟩ := okd_all fun d hd => h d (List.mem_cons_of_mem _ hd)
    simp only [D.isPs, D.pys, PyData.canLayAll0, PyData.depthAll, a, a', b, b', Bool.and_self, true_and]
    omega
theorem okd_tup {n : Nat} {l : List D} (h : ∀ d ∈ l, Okd n d) : Okd (n + 1) (.tup l) := by
  obtain ⟨a, b, c⟩ := okd_all h
  exact ⟨by rw [D.isP]; exact a, by rw [D.py]; simp only [PyData.canLay0]; exact b, by rw [D.py]; simp only [PyData.depth]; omega⟩
theorem okd_lst {n : Nat} {l : List D} (h : ∀ d ∈ l, Okd n d) : Okd (n + 1) (.lst l) := by
  obtain ⟨a, b, c⟩ := okd_all h
  exact ⟨by rw [D.isP]; exact a, by rw [D.py]; simp only [PyData.canLay0]; exact b, by rw [D.py]; simp only [PyData.depth]; omega⟩
theorem okd_tI (l : List Int) : Okd 1 (tI l) := okd_tup fun d hd => by
  obtain ⟨i, _, rfl⟩ := List.mem_map.mp hd
  exact okd_int i
theorem okd_t2 (l : List (List Int)) : Okd 2 (t2 l) := okd_tup fun d hd => by
  obtain ⟨i, _, rfl⟩ := List.mem_map.mp hd
  exact okd_tI i
theorem okd_t3 (l : List (List (List Int))) : Okd 3 (t3 l) := okd_tup fun d hd => by
  obtain ⟨i, _, rfl⟩ := List.mem_map.mp hd
  exact okd_t2 i
theorem okd_strs {l : List Str} (h : ∀ z ∈ l, PyData.strOk z = true) : Okd 1 (.tup (l.map .str)) := okd_tup fun d hd => by
  obtain ⟨z, hz, rfl⟩ := List.mem_map.mp hd
  exact okd_str (h z hz)
def tieP (t : Tie) : Prop := PyData.strOk t.a = true ∧ PyData.strOk t.b = true ∧ PyData.strOk t.w = true
theorem okd_tie {t : Tie} (h : tieP t) : Okd 2 (tieD t) := okd_tup fun d hd => by
  simp at hd
  rcases hd with rfl | rfl | rfl | rfl
  · exact (okd_str h.1).mono (by omega)
  · exact (okd_str h.2.1).mono (by omega)
  · exact (okd_str h.2.2).mono (by omega)
  · exact okd_tI _
theorem okd_ties {ts : List Tie} (h : ∀ t ∈ ts, tieP t) : Okd 3 (tsL ts) := okd_lst fun d hd => by
  obtain ⟨t, ht, rfl⟩ := List.mem_map.mp hd
  exact okd_tie (h t ht)
theorem eqvAll_map {α : Type} [DecidableEq α] (F : α → PyData) (h : ∀ x y, PyData.eqv (F x) (F y) = decide (x = y)) : ∀ xs ys : List α, PyData.eqvAll (xs.map F) (ys.map F) = decide (xs = ys)
  | [], [] => by simp [PyData.eqvAll]
  | [], y :: ys => by simp [PyData.eqvAll]
  | x :: xs, [] => by simp [PyData.eqvAll]
  | x :: xs, y :: ys => by
    rw [List.map_cons, List.map_cons, PyData.eqvAll, h, eqvAll_map F h xs ys]
    by_cases e : x = y <;> by_cases e2 : xs = ys <;> simp [e, e2]
theorem py_t2 (l : List (List Int)) : (t2 l).py = .tuple (l.map encT) := by unfold t2; rw [D.py, pys_map tI encT py_tI]
theorem py_t3 (l : List (List (List Int))) : (t3 l).py = .tuple (l.map fun r => .tuple (r.map encT)) := by unfold t3; rw [D.py, pys_map t2 _ py_t2]
theorem eqv_encT (a b : List Int) : PyData.eqv (encT a) (encT b) = decide (a = b) := by
  unfold encT
  rw [PyData.eqv, eqvAll_eq]
  by_cases h : a = b <;> simp [h]
theorem eqv_t3 (a b : List (List (List Int))) : PyData.eqv (t3 a).py (t3 b).py = decide (a = b) := by
  rw [py_t3, py_t3, PyData.eqv]
  exact eqvAll_map _ (fun x y => by rw [PyData.eqv]; exact eqvAll_map _ eqv_encT x y) a b
theorem eqv_strs (a b : List Str) : PyData.eqv (D.tup (a.map .str)).py (D.tup (b.map .str)).py = decide (a = b) := by
  rw [D.py, D.py, pys_map D.str PyData.str (fun _ => by rw [D.py]), pys_map D.str PyData.str (fun _ => by rw [D.py]), PyData.eqv]
  exact eqvAll_map _ (fun x y => by rw [PyData.eqv]; by_cases h : x = y <;> simp [h]) a b
theorem oEq_t3 {a b : List (List (List Int))} {Q : D → Prop} : oEq (t3 a) (t3 b) Q = Q (.bl (decide (a = b))) := by
  unfold oEq
  rw [eqv_t3]
  simp only [(okd_t3 a).ok (by omega), (okd_t3 b).ok (by omega), true_and]
theorem oEq_strs {a b : List Str} {Q : D → Prop} (ha : ∀ z ∈ a, PyData.strOk z = true) (hb : ∀ z ∈ b, PyData.strOk z = true) : oEq (.tup (a.map .str)) (.tup (b.map .str)) Q = Q (.bl (decide (a = b))) := by
  unfold oEq
  rw [eqv_strs]
  simp only [(okd_strs ha).ok (by omega), (okd_strs hb).ok (by omega), true_and]
theorem p_Web_eq (C : Addr) (xc : XC) (ds : List D) (Q : Bool → D → Prop) (h : wf_Web___eq__ C xc ds Q) : b_Web___eq__ C (Zd xc Q) (ds.map .da ++ List.replicate (2 - ds.length) .no) := by
  obtain ⟨names, c, nx, names', c', nx', rfl, hn, hn', q⟩ := h
  simp [b_Web___eq__, wIsO]
  refine ⟨⟨_, rfl⟩, ?_⟩
  rw [oEq_strs hn.ok hn'.ok]
  by_cases e : names = names'
  · refine .inr ⟨by simp [e], ?_⟩
    rw [oEq_t3]
    simpa [e] using q
  · exact .inl ⟨by simp [e], by simpa [e] using q⟩
theorem p_law_equal (C : Addr) (xc : XC) (ds : List D) (Q : Bool → D → Prop) (h : wf_law_equal C xc ds Q) : b_law_equal C (Zd xc Q) (ds.map .da ++ List.replicate (3 - ds.length) .no) := by
  obtain ⟨names, c, nx, names', c', nx', rfl, hn, hn', q⟩ := h
  simp [b_law_equal, wEqO]
  have e1 : decide (names' = names) = decide (names = names') := decide_eq_decide.mpr eq_comm
  have e2 : decide (nx' = nx) = decide (nx = nx') := decide_eq_decide.mpr eq_comm
  refine ⟨⟨_, rfl⟩, ⟨_, rfl⟩, names, c, nx, names', c', nx', rfl, hn, hn', ?_⟩
  obtain ⟨b, hb⟩ : ∃ b, (decide (names = names') && decide (nx = nx')) = b := ⟨_, rfl⟩
  have hb' : (decide (names' = names) && decide (nx' = nx)) = b := by rw [e1, e2]; exact hb
  rw [hb]
  cases b
  · exact .inl ⟨rfl, _, _, true, rfl, .sm (.bl _), .inr ⟨rfl, ⟨_, rfl⟩, ⟨_, rfl⟩, names', c', nx', names, c, nx, rfl, hn', hn, by rw [hb']; exact .inl ⟨rfl, _, _, true, rfl, .sm (.bl _), q⟩⟩⟩
  · exact .inr ⟨rfl, _, _, true, rfl, .sm (.bl _), .inr ⟨rfl, ⟨_, rfl⟩, ⟨_, rfl⟩, names', c', nx', names, c, nx, rfl, hn', hn, by rw [hb']; exact .inr ⟨rfl, _, _, true, rfl, .sm (.bl _), q⟩⟩⟩
end Tw.S

namespace Tw.S
open PySem PySem.Spec L2 PyProof.Rows Tw
theorem ok_li (b : List Int) : (D.lst (b.map .int)).ok := (okd_lst (n := 0) fun d hd => by
  obtain ⟨i, _, rfl⟩ := List.mem_map.mp hd
  exact okd_int i).ok (by omega)
theorem oIn_li {i : Int} {l : List Int} {Q : D → Prop} (neg : Bool) : oIn neg (.int i) (.lst (l.map .int)) Q = Q (.bl (if neg = true then !decide (i ∈ l) else decide (i ∈ l))) := by
  have h := any_int (i := i) l
  simp only [oIn, ok_int, ok_li, h, true_and]
theorem oIn_ti {i : Int} {l : List Int} {Q : D → Prop} (neg : Bool) : oIn neg (.int i) (tI l) Q = Q (.bl (if neg = true then !decide (i ∈ l) else decide (i ∈ l))) := by
  have h := any_int (i := i) l
  have o := ok_tI l
  unfold tI at o ⊢
  simp only [oIn, ok_int, o, h, true_and]
theorem mem_row {n : Nat} {p : Nat → Bool} {v : Nat} : ((v : Int) ∈ rowF n p) ↔ v < n ∧ p v = true := mem_beats
theorem row_dec {n : Nat} {p : Nat → Bool} {v : Nat} (h : v < n) : decide ((v : Int) ∈ rowF n p) = p v := by
  have := mem_row (n := n) (p := p) (v := v)
  cases hp : p v with
  | true => exact decide_eq_true (this.mpr ⟨h, hp⟩)
  | false => exact decide_eq_false fun z => by rw [(this.mp z).2] at hp; cases hp
theorem beats_and (c : Nat) (p q : Nat → Bool) : (beatsF c p).filter (fun x => decide (x ∈ beatsF c q)) = beatsF c fun b => p b && q b := by
  unfold beatsF
  rw [List.filter_map, List.filter_filter]
  congr 1
  apply List.filter_congr
  intro b hb
  have : decide ((b : Int) ∈ ((List.range c).filter q).map fun i : Nat => (i : Int)) = q b := row_dec (List.mem_range.mp hb)
  show (decide ((b : Int) ∈ _) && p b) = _
  rw [this, Bool.and_comm]
theorem beats_not (c : Nat) (p q : Nat → Bool) : (beatsF c p).filter (fun x => !decide (x ∈ beatsF c q)) = beatsF c fun b => p b && !q b := by
  unfold beatsF
  rw [List.filter_map, List.filter_filter]
  congr 1
  apply List.filter_congr
  intro b hb
  have : decide ((b : Int) ∈ ((List.range c).filter q).map fun i : Nat => (i : Int)) = q b := row_dec (List.mem_range.mp hb)
  show ((!decide ((b : Int) ∈ _)) && p b) = _
  rw [this, Bool.and_comm]
theorem beats_le (c : Nat) (p : Nat → Bool) : (beatsF c p).length ≤ c := row_le c p
theorem tie_at {t : Tie} {Q : D → Prop} : oIx (tieD t) (.int 3) Q = Q (tI t.at_) := propext ⟨fun ⟨d, h, p⟩ => by cases h; exact p, fun p => ⟨_, rfl, p⟩⟩
/-- beats at which one goes -/
theorem comp_there {n c u v : Nat} {L : Psg} {i j : Nat} {ρ : Evn} {Q : List D → Prop} (hc : c ≤ 4) (hu : u < n) (hv : v < n) (hl : ρ.length = 12) (hi : i < 4) (hj : j < 4) (h1 : ρ[1]? = some (.da (t3 (tabF n c L)))) (h2 : ρ[i]? = some (.da (.int u))) (h3 : ρ[j]? = some (.da (.int v)))
    (q : Q ((beatsF c fun b => L b u v).map .int)) : lcW (gSet 10) (wB (w2 (oIn false) (wVar j) (w2 oIx (w2 oIx (wVar 1) (wVar 10)) (wVar i)))) (wVar 10) ρ Q (rngD 0 c) [] := by
  have hs := sizeLine_eq
  refine lc_rng0F c (fun b => L b u v) (fun b => .int (b : Nat)) (fun b hb k1 k2 g1 g2 => ?_) (by omega) ?_
  · have e1 : (ρ.set 10 (.da (.int (b : Nat))))[1]? = some (.da (t3 (tabF n c L))) := by rw [List.getElem?_set_ne (by omega)]; exact h1
    have e2 : (ρ.set 10 (.da (.int (b : Nat))))[i]? = some (.da (.int u)) := by rw [List.getElem?_set_ne (by omega)]; exact h2
    have e3 : (ρ.set 10 (.da (.int (b : Nat))))[j]? = some (.da (.int v)) := by rw [List.getElem?_set_ne (by omega)]; exact h3
    have e10 : (ρ.set 10 (.da (.int (b : Nat))))[10]? = some (.da (.int (b : Nat))) := by rw [List.getElem?_set_self (by omega)]
    simp [e1, e2, e3, e10]
    refine ⟨_, tab_at hb, _, row_at hu, ?_⟩
    have md := mem_row (n := n) (p := L b u) (v := v)
    cases h : L b u v with
    | true =>
      rw [h] at md
      exact .inr ⟨md.mpr ⟨hv, rfl⟩, g1 h⟩
    | false =>
      rw [h] at md
      exact .inl ⟨fun z => Bool.noConfusion (md.mp z).2, g2 h⟩
  · have : ((List.range c).filter fun b => L b u v).map (fun b => D.int (b : Nat)) = (beatsF c fun b => L b u v).map .int := by
      unfold beatsF
      rw [List.map_map]; rfl
    rw [this]
    exact q
/-- those that are, or are not, in another list -/
theorem comp_in {c : Nat} {l m : List Int} {j : Nat} {neg : Bool} {ρ : Evn} {Q : List D → Prop} (hlen : l.length ≤ 4) (hl : ρ.length = 12) (hj : j < 10) (h3 : ρ[j]? = some (.da (.lst (m.map .int))))
    (q : Q ((l.filter fun x => if neg = true then !decide (x ∈ m) else decide (x ∈ m)).map .int)) : lcW (gSet 10) (wB (w2 (oIn neg) (wVar 10) (wVar j))) (wVar 10) ρ Q (l.map D.int) [] := by
  have hs := sizeLine_eq
  refine lc_ofF l D.int (fun x => if neg = true then !decide (x ∈ m) else decide (x ∈ m)) D.int (fun x hx k1 k2 g1 g2 => ?_) (by omega) q
  have e3 : (ρ.set 10 (.da (.int x)))[j]? = some (.da (.lst (m.map .int))) := by rw [List.getElem?_set_ne (by omega)]; exact h3
  have e10 : (ρ.set 10 (.da (.int x)))[10]? = some (.da (.int x)) := by rw [List.getElem?_set_self (by omega)]
  simp [e3, e10]
  rw [oIn_li]
  cases h : (if neg = true then !decide (x ∈ m) else decide (x ∈ m)) with
  | true => exact .inr ⟨rfl, g1 h⟩
  | false => exact .inl ⟨rfl, g2 h⟩
@[simp] theorem len_t3 {l : List (List (List Int))} {Q : D → Prop} : oLen [t3 l] Q = Q (.int l.length) := by
  unfold t3
  simp
theorem p_ties_between (xc : XC) (ds : List D) (Q : Bool → D → Prop) (h : wf_ties_between xc ds Q) : b_ties_between (Zd xc Q) (ds.map .da ++ List.replicate (12 - ds.length) .no) := by
  obtain ⟨names, c, u, v, L, rfl, hn8, hu, hv, hc, q⟩ := h
  have hs := sizeLine_eq
  have tl : (tabF names.length c L).length = c := by simp [tabF]
  have nu : atI (names.map D.str) (u : Int) = some (.str (names.getD u "")) := by rw [atI_map, atI_strs hu]; simp [hu]
  have nv : atI (names.map D.str) (v : Int) = some (.str (names.getD v "")) := by rw [atI_map, atI_strs hv]; simp [hv]
  have et : ∀ (ms : List Int) (P : D → Prop), oTuple [D.lst (ms.map .int)] P = P (tI ms) := fun _ P => rfl
  have b1 := beats_le c fun b => L b u v
  have b2 := beats_le c fun b => L b v u
  simp [b_ties_between, tl, nu, nv]
  refine ⟨by omega, comp_there hc hu hv rfl (by omega) (by omega) rfl rfl rfl ⟨by omega, comp_there hc hv hu rfl (by omega) (by omega) rfl rfl rfl ?_⟩⟩
  refine comp_in (c := c) (by omega) rfl (by omega) rfl ?_
  refine comp_in (c := c) (by omega) rfl (by omega) rfl ?_
  refine comp_in (c := c) (by omega) rfl (by omega) rfl ?_
  simp only [if_neg Bool.false_ne_true, if_pos rfl, if_true, beats_and, beats_not]
  refine ⟨by omega, by omega, ?_⟩
  refine lc_ofF ([⟨names.getD u "", names.getD v "", "two", beatsF c fun b => L b u v && L b v u⟩, ⟨names.getD u "", names.getD v "", "one", beatsF c fun b => L b u v && !L b v u⟩, ⟨names.getD v "", names.getD u "", "one", beatsF c fun b => L b v u && !L b u v⟩] : List Tie) tieD (fun t => !t.at_.isEmpty) tieD (fun t ht k1 k2 g1 g2 => ?_) (by simp; omega) q
  simp
  cases h : t.at_ with
  | nil =>
    rw [h] at g1 g2
    rw [tie_at, h]
    exact .inl ⟨by simp, g2 rfl⟩
  | cons x xs =>
    rw [h] at g1 g2
    rw [tie_at, h]
    exact .inr ⟨by simp, g1 rfl⟩
theorem flat_le {α β : Type} (l : List α) (f : α → List β) (m : Nat) (h : ∀ x ∈ l, (f x).length ≤ m) : (l.flatMap f).length ≤ l.length * m := by
  induction l with
  | nil => simp
  | cons x xs ih =>
    have h1 := h x (by simp)
    have h2 := ih fun y hy => h y (by simp [hy])
    simp only [List.flatMap_cons, List.length_append, List.length_cons, Nat.add_mul, Nat.one_mul]
    omega
theorem pair_le (names : List Str) (c : Nat) (L : Psg) (u v : Nat) : (pairTies names c L u v).length ≤ 3 := by
  unfold pairTies
  exact List.length_filter_le _ _
theorem p_ties_of (xc : XC) (ds : List D) (Q : Bool → D → Prop) (h : wf_ties_of xc ds Q) : b_ties_of (Zd xc Q) (ds.map .da ++ List.replicate (5 - ds.length) .no) := by
  obtain ⟨names, c, L, rfl, hn8, hc, q⟩ := h
  have hs := sizeLine_eq
  simp [b_ties_of]
  simp [sFor]
  refine ⟨by omega, ?_⟩
  refine for_rng (fun i ρ => ∃ s3 s4, ρ = [Sl.da (.xtp (names.map .str)), Sl.da (t3 (tabF names.length c L)), Sl.ow (tsL ((List.range i).flatMap (rowTies names c L))), s3, s4]) (fun u ρ N hu ⟨s3, s4, e⟩ hN => ?_) (fun ρ ⟨s3, s4, e⟩ => by
    rw [e]
    simpa [sRetO, tiesP] using q) ⟨_, _, rfl⟩
  rw [e]
  simp [sFor]
  refine ⟨by omega, ?_⟩
  have lr : ∀ k : Nat, k ≤ u → ((List.range k).flatMap (rowTies names c L)).length ≤ k * 24 := fun k _ => by
    have := flat_le (List.range k) (rowTies names c L) 24 fun x _ => by
      have := flat_le (List.range (names.length - (x + 1))) (fun i => pairTies names c L x (x + 1 + i)) 3 fun y _ => pair_le _ _ _ _ _
      have := Nat.mul_le_mul_right 3 (show (List.range (names.length - (x + 1))).length ≤ 8 by simp; omega)
      unfold rowTies
      omega
    simpa using this
  have lu := lr u (Nat.le_refl _)
  rw [List.range_succ, List.flatMap_append] at hN
  simp only [List.flatMap_cons, List.flatMap_nil, List.append_nil] at hN
  generalize (List.range u).flatMap (rowTies names c L) = acc at *
  have ez : ((names.length : Int) - ((u : Int) + 1)).toNat = names.length - (u + 1) := by omega
  rw [ez]
  refine for_rng (fun i ρ => ∃ s4, ρ = [Sl.da (.xtp (names.map .str)), Sl.da (t3 (tabF names.length c L)), Sl.ow (tsL (acc ++ (List.range i).flatMap fun i => pairTies names c L u (u + 1 + i))), Sl.da (.int (u : Nat)), s4]) (fun i ρ N2 hi ⟨s4, e2⟩ hN2 => ?_) (fun ρ ⟨s4, e2⟩ => ?_) ⟨s4, by simp⟩
  · rw [e2]
    simp [sExt, wCall]
    have li := flat_le (List.range i) (fun i => pairTies names c L u (u + 1 + i)) 3 fun y _ => pair_le _ _ _ _ _
    have lp := pair_le names c L u (u + 1 + i)
    rw [List.range_succ, List.flatMap_append] at hN2
    simp only [List.flatMap_cons, List.flatMap_nil, List.append_nil] at hN2
    rw [List.length_range] at li
    generalize (List.range i).flatMap (fun i => pairTies names c L u (u + 1 + i)) = ac2 at *
    refine ⟨_, rfl, names, c, u, u + 1 + i, L, by simp, hn8, hu, by omega, hc, _, rfl, ?_, hN2 _ ⟨.da (.int ((u : Int) + 1 + (i : Int))), ?_⟩⟩
    · simp only [List.length_map, List.length_append]
      omega
    · simp only [tsL, List.map_append, List.append_assoc]
  · exact hN _ ⟨_, _, e2⟩
theorem p_Web_ties (C : Addr) (xc : XC) (ds : List D) (Q : Bool → D → Prop) (h : wf_Web_ties C xc ds Q) : b_Web_ties C (Zd xc Q) (ds.map .da ++ List.replicate (1 - ds.length) .no) := by
  obtain ⟨names, c, L, rfl, hn8, hc, q⟩ := h
  simp [b_Web_ties, webP, wCallF]
  exact ⟨names, c, L, rfl, hn8, hc, rfl, q⟩
end Tw.S

namespace Tw.S
open PySem PySem.Spec L2 PyProof.Rows Tw
@[simp] theorem len_l3 {l : List (List (List Int))} {Q : D → Prop} : oLen [l3 l] Q = Q (.int l.length) := by
  unfold l3
  simp
@[simp] theorem seq_l3 {l : List (List (List Int))} : D.seq (l3 l) = some (l.map l2) := rfl
@[simp] theorem seq_l2 {l : List (List Int)} : D.seq (l2 l) = some (l.map iL) := rfl
@[simp] theorem list_iL {l : List Int} {Q : D → Prop} : oList [iL l] Q = Q (iL l) := rfl
theorem oIn_iL {i : Int} {l : List Int} {Q : D → Prop} (neg : Bool) : oIn neg (.int i) (iL l) Q = Q (.bl (if neg = true then !decide (i ∈ l) else decide (i ∈ l))) := oIn_li neg
theorem flip_row (n b u v k w : Nat) (L : Psg) (h : ¬(k = b ∧ w = u)) : rowF n (flip L b u v k w) = rowF n (L k w) := by
  unfold rowF
  congr 1
  apply List.filter_congr
  intro x _
  unfold flip
  rw [if_neg fun z => h ⟨z.1, z.2.1⟩]
theorem flip_out (n b u v : Nat) (L : Psg) (h : L b u v = true) : rowF n (flip L b u v b u) = (rowF n (L b u)).filter fun x => !decide (x = (v : Int)) := by
  unfold rowF
  rw [List.filter_map, List.filter_filter]
  congr 1
  apply List.filter_congr
  intro x _
  unfold flip
  simp only [Function.comp]
  by_cases e : x = v
  · subst e
    simp [h]
  · simp [e]
    omega
theorem rowF_srt (n : Nat) (p : Nat → Bool) : (rowF n p).Pairwise (· ≤ ·) := by
  unfold rowF
  rw [List.pairwise_map]
  exact ((List.pairwise_lt_range (n := n)).filter p).imp fun h => by omega
theorem flip_in (n b u v : Nat) (L : Psg) (hv : v < n) (h : L b u v = false) {ms : List Int} (p : ms.Perm (rowF n (L b u) ++ [(v : Int)])) (s : ms.Pairwise (· ≤ ·)) : ms = rowF n (flip L b u v b u) := by
  refine sorted_one (p.trans ?_) s (rowF_srt _ _)
  have e : rowF n (L b u) ++ [(v : Int)] = ((List.range n).filter (L b u) ++ [v]).map fun i : Nat => (i : Int) := by simp [rowF]
  rw [e]
  refine List.Perm.map _ ?_
  refine (List.perm_ext_iff_of_nodup ?_ (List.nodup_range.filter _)).mpr fun x => ?_
  · rw [List.nodup_append]
    refine ⟨List.nodup_range.filter _, by simp, fun a ha c hc => ?_⟩
    simp at ha hc
    rintro rfl
    subst hc
    rw [h] at ha
    exact Bool.noConfusion ha.2
  · simp only [List.mem_append, List.mem_filter, List.mem_range, List.mem_singleton, flip, true_and]
    by_cases e : x = v
    · subst e
      simp [h, hv]
    · simp [e]
theorem p_law_toggled (xc : XC) (ds : List D) (Q : Bool → D → Prop) (h : wf_law_toggled xc ds Q) : b_law_toggled (Zd xc Q) (ds.map .da ++ List.replicate (9 - ds.length) .no) := by
  obtain ⟨n, c, b, u, v, L, rfl, hn8, hc, hb, hu, hv, q⟩ := h
  have hs := sizeLine_eq
  have tl : (tabF n c L).length = c := by simp [tabF]
  simp [b_law_toggled, sFor, tl]
  refine ⟨by omega, ?_⟩
  refine for_rng (fun i ρ => ∃ s5 s6, ρ = [Sl.da (l3 (tabF n c L)), Sl.da (.int b), Sl.da (.int u), Sl.da (.int v), Sl.ow (l3 ((List.range i).map fun k => (List.range n).map fun w => rowF n (flip L b u v k w))), s5, s6, .no, .no]) (fun k ρ N hk ⟨s5, s6, e⟩ hN => ?_) (fun ρ ⟨s5, s6, e⟩ => by
    rw [e]
    simpa [sRetO, tabF] using q) ⟨_, _, rfl⟩
  rw [e]
  simp
  refine ⟨_, tab_at hk, ?_⟩
  refine lc_of ((List.range n).map fun u => rowF n (L k u)) iL iL (fun l hl k1 h1 => ?_) (by simp; omega) ?_
  · simpa using h1
  have fin : ∀ rs : List (List Int), rs = ((List.range n).map fun w => rowF n (flip L b u v k w)) → sFrz 6 (sApp 4 (wVar 6)) { nx := N, rt := Q, bk := sRetO 4 (Zd xc Q), ct := N, xc := xc }
      [Sl.da (l3 (tabF n c L)), Sl.da (D.int b), Sl.da (D.int u), Sl.da (D.int v), Sl.ow (l3 ((List.range k).map fun k => (List.range n).map fun w => rowF n (flip L b u v k w))), Sl.da (D.int k), Sl.ow (D.lst (rs.map iL)), Sl.no, Sl.no] := by
    intro rs hr
    simp [sFrz, sApp, l3]
    refine ⟨by omega, hN _ ⟨.da (.int k), .da (D.lst (rs.map iL)), ?_⟩⟩
    rw [hr, List.range_succ]
    simp [l3, l2]
  have same : k ≠ b → ((List.range n).map fun u => rowF n (L k u)) = (List.range n).map fun w => rowF n (flip L b u v k w) := fun hne => by
    apply List.map_congr_left
    intro w _
    rw [flip_row _ _ _ _ _ _ _ fun z => hne z.1]
  have upd : ∀ new : List Int, k = b → new = rowF n (flip L b u v b u) → ((List.range n).map fun u => rowF n (L k u)).set u new = (List.range n).map fun w => rowF n (flip L b u v k w) := fun new ek en => by
    apply List.ext_getElem
    · simp
    · intro i h1 h2
      rw [List.getElem_set]
      simp
      by_cases ei : u = i
      · rw [if_pos ei, en, ek, ei]
      · rw [if_neg ei, flip_row _ _ _ _ _ _ _ fun z => ei z.2.symm]
  by_cases ek : k = b
  · subst ek
    have ru : atI ((List.range n).map fun u => rowF n (L k u)) (u : Int) = some (rowF n (L k u)) := row_at hu
    have ix : ixN n (u : Int) = some u := by
      unfold ixN
      rw [if_pos (by omega), if_pos (by omega)]
      simp
    have rows6 : ∀ {i : Int} {l : List (List Int)} {P : D → Prop}, oIx (D.lst (l.map iL)) (.int i) P = ∃ x, atI l i = some x ∧ P (iL x) := ix_l2
    have mv := mem_row (n := n) (p := L k u) (v := v)
    have rl := row_le n (L k u)
    simp [sIput, wPeek, ← List.map_map, rows6, ru, oIn_iL, ix]
    cases hL : L k u v with
    | false =>
      rw [hL] at mv
      refine .inl ⟨fun z => Bool.noConfusion (mv.mp z).2, by omega, ?_⟩
      have pl : ∀ {P : D → Prop}, oPlus (iL (rowF n (L k u))) (D.lst [D.int v]) P = ((rowF n (L k u)).length + 1 ≤ sizeLine ∧ P (iL (rowF n (L k u) ++ [(v : Int)]))) := by
        intro P
        simp [iL]
      rw [pl]
      refine ⟨by omega, _, rfl, fun ms hp hs2 => ?_⟩
      have := fin _ (upd ms rfl (flip_in n k u v L hv hL hp hs2))
      rw [List.map_set] at this
      exact this
    | true =>
      rw [hL] at mv
      refine .inr ⟨mv.mpr ⟨hv, rfl⟩, ?_⟩
      refine lc_ofF (rowF n (L k u)) D.int (fun x => !decide (x = (v : Int))) D.int (fun x hx k1 k2 g1 g2 => ?_) (by omega) ?_
      · simp
        by_cases e : x = (v : Int)
        · exact .inl ⟨e, g2 (by simp [e])⟩
        · exact .inr ⟨e, g1 (by simp [e])⟩
      · have := fin _ (upd _ rfl (flip_out n k u v L hL).symm)
        rw [List.map_set] at this
        exact this
  · have ek2 : ¬(k : Int) = b := by omega
    simp only [ek2, not_false_eq_true, true_and, false_and, or_false]
    exact fin _ (same ek)
end Tw.S

namespace Tw.S
open PySem PySem.Spec L2 PyProof.Rows Tw
theorem oNe_b {a b : Bool} {Q : D → Prop} : oNe (.bl a) (.bl b) Q = Q (.bl (a != b)) := by
  unfold oNe
  have ok : ∀ t : Bool, (D.bl t).ok := fun t => (show Okd 0 (.bl t) from ⟨rfl, by simp [D.py, PyData.canLay0], by simp [D.py, PyData.depth]⟩).ok (by omega)
  cases a <;> cases b <;> simp [ok, D.py, PyData.eqv]
def r_tk3 : Ws :=
  (sSeq (sIf (wOr (wB (w2 oEq (wVar 7) (wTup waNil))) (wOr (wB (w2 oEq (wVar 8) (wVar 9))) (wOr (wAnd (wB (w2 oEq (wVar 10) (wC (.int 0)))) (wB (w2 oGt (wVar 8) (wVar 9)))) (wNot (wB (w2 oLtT (wVar 3) (wVar 11)))))))
  (sRet (wC .non))
  sNil)
  (sRet (wVar 11)))
def r_tk2 : Ws := (sSeq (sFor (wiS (wVar 7)) (gSet 13)
  (sSeq (sIf (wOr (wNot (wTru (wCall wf_law_is_int [] (waCons (wVar 13) waNil)))) (wNot (wB (wCh oLt oLt (wVar 12) (wVar 13) (wN oLen (waCons (wVar 2) waNil))))))
  (sRet (wC .non))
  sNil)
  (sSeq (sIf (wOr (wB (w2 (oIn true) (wVar 9) (w2 oIx (w2 oIx (wVar 2) (wVar 13)) (wVar 8)))) (wB (w2 oNe (w2 (oIn false) (wVar 8) (w2 oIx (w2 oIx (wVar 2) (wVar 13)) (wVar 9))) (w2 oEq (wVar 6) (wC (.str "two"))))))
  (sRet (wC .non))
  sNil)
  (sSet 12 (wVar 13))))) r_tk3)
def r_tk1 : Ws := (sSeq (sSet 8 (wIdx (wVar 1) (wVar 4)))
  (sSeq (sSet 9 (wIdx (wVar 1) (wVar 5)))
  (sSeq (sSet 10 (wC (.int 0)))
  (sSeq (sIf (wB (w2 oEq (wVar 6) (wC (.str "one"))))
  (sSet 10 (w2 oPlus (wC (.int 1)) (wN oInt (waCons (w2 oGt (wVar 8) (wVar 9)) waNil))))
  sNil)
  (sSeq (sSet 11 (wTup (waCons (wN oMin2 (waCons (wVar 8) (waCons (wVar 9) waNil))) (waCons (wN oMax2 (waCons (wVar 8) (waCons (wVar 9) waNil))) (waCons (wVar 10) waNil)))))
  (sSeq (sSet 12 (wNeg (wC (.int 1))))
  r_tk2))))))
theorem tie_key_eq : b_law_tie_key = (sSeq (sIf (wOr (wNot (wTru (wIsi "tuple" (wVar 0)))) (wB (w2 oNe (wN oLen (waCons (wVar 0) waNil)) (wC (.int 4)))))
  (sRet (wC .non))
  sNil)
  (sSeq (sAsg (wVar 0) (gTupD 4 (gsCons (gSet 4) (gsCons (gSet 5) (gsCons (gSet 6) (gsCons (gSet 7) gsNil))))))
  (sSeq (sIf (wOr (wNot (wTru (wIsi "str" (wVar 4)))) (wOr (wNot (wTru (wIsi "str" (wVar 5)))) (wNot (wTru (wIsi "tuple" (wVar 7))))))
  (sRet (wC .non))
  sNil)
  (sSeq (sIf (wOr (wB (w2 (oIn true) (wVar 4) (wVar 1))) (wOr (wB (w2 (oIn true) (wVar 5) (wVar 1))) (wNot (wOr (wTru (wCall wf_law_same [] (waCons (wVar 6) (waCons (wC (.str "two")) waNil)))) (wTru (wCall wf_law_same [] (waCons (wVar 6) (waCons (wC (.str "one")) waNil))))))))
  (sRet (wC .non))
  sNil)
  r_tk1)))) := rfl
section
variable {xc : XC} {Q : Bool → D → Prop} {names : List Str} {c u v : Nat} {L : Psg} {last : List Int} {t : Tie}
/-- the slots -/
def tkE (names : List Str) (c : Nat) (L : Psg) (last : List Int) (t : Tie) (u v : Nat) (r : Int) (k : List Int) (a b : Sl) : Evn := [.da (tieD t), .da (sL names), .da (l3 (tabF names.length c L)), .da (tI last), .da (.str t.a), .da (.str t.b), .da (.str t.w), .da (tI t.at_), .da (.int u), .da (.int v), .da (.int r), .da (tI k), a, b]
theorem go_tk3 {r : Int} {s12 s13 : Sl} (k : KeyOk names c L last t u v) (hl : HT.lexLt last (keyF t u v) = true) (hr : r = (if t.w = "two" then 0 else if u > v then 2 else 1)) (q : Q false (tI (keyF t u v))) : r_tk3 (Zd xc Q) (tkE names c L last t u v r (keyF t u v) s12 s13) := by
  have ee : D.tup [] = tI [] := rfl
  have hne : ¬ (u : Int) = v := fun z => k.ne (by omega)
  have e1 : (t.at_ == []) = false := by
    cases h : t.at_ with
    | nil => exact absurd h k.at0
    | cons => rfl
  have lt : ∀ {P : D → Prop}, P (.bl true) → oLtT (tI last) (tI (keyF t u v)) P := fun p => ⟨_, _, rfl, rfl, by rw [hl]; exact p⟩
  simp only [r_tk3, tkE]
  simp [ee, k.at0, hne]
  have fin : oLtT (tI last) (tI (keyF t u v)) fun d => d = D.bl false ∧ Q false D.non ∨ d = D.bl true ∧ Q false (tI (keyF t u v)) := lt (.inr ⟨rfl, q⟩)
  by_cases hw : t.w = "two"
  · rw [if_pos hw] at hr
    have := k.two hw
    exact .inr ⟨hr, .inl ⟨by omega, fin⟩⟩
  · rw [if_neg hw] at hr
    exact .inl ⟨by split at hr <;> omega, fin⟩
theorem set_at {l : List Int} {n : Int} (h : isSet l n = true) {i : Nat} (hi : i < l.length) : 0 ≤ l[i] ∧ l[i] < n ∧ ∀ j, i = j + 1 → l.getD j 0 < l[i] := by
  unfold isSet at h
  rw [Bool.and_eq_true] at h
  have h1 := List.all_eq_true.mp h.1 l[i] (List.getElem_mem hi)
  simp at h1
  refine ⟨h1.1, h1.2, fun j hj => ?_⟩
  subst hj
  have h2 := h.2
  unfold climbs at h2
  have := List.all_eq_true.mp h2 j (List.mem_range.mpr (by omega))
  simp [hi] at this
  simpa using this
theorem go_tk2 {r : Int} {s13 : Sl} (hn : NamesOk names) (hc : c ≤ 4) (k : KeyOk names c L last t u v) (hl : HT.lexLt last (keyF t u v) = true) (hr : r = (if t.w = "two" then 0 else if u > v then 2 else 1)) (q : Q false (tI (keyF t u v))) : r_tk2 (Zd xc Q) (tkE names c L last t u v r (keyF t u v) (.da (.int (-1))) s13) := by
  have hs := sizeLine_eq
  have tl : (tabF names.length c L).length = c := by simp [tabF]
  simp only [r_tk2]
  simp [tkE, sFor, tI]
  refine for_inv _ (fun i ρ => ∃ s13, ρ = tkE names c L last t u v r (keyF t u v) (.da (.int (if i = 0 then -1 else t.at_.getD (i - 1) 0))) s13) (fun i x ρ N hx ⟨s13, e⟩ hN => ?_) (fun ρ ⟨s13, e⟩ => ?_) ⟨s13, rfl⟩
  · rw [e]
    obtain ⟨hi, ex⟩ := List.getElem?_eq_some_iff.mp hx
    rw [List.length_map] at hi
    rw [List.getElem_map] at ex
    obtain ⟨h0, h1, h2⟩ := set_at k.at_ hi
    obtain ⟨b, hb⟩ : ∃ b : Nat, t.at_[i] = (b : Int) := ⟨t.at_[i].toNat, by omega⟩
    have hbc : b < c := by omega
    have hbt : (b : Int) ∈ t.at_ := hb ▸ List.getElem_mem hi
    obtain ⟨l1, l2⟩ := k.l1 b hbt
    subst ex
    rw [hb] at h0 h1 h2
    have hbf : (if i = 0 then (-1 : Int) else t.at_.getD (i - 1) 0) < b := by
      split
      · omega
      · exact h2 (i - 1) (by omega)
    have w2 : PyData.strOk "two" = true := by decide +kernel
    have m1 := mem_row (n := names.length) (p := L b u) (v := v)
    have m2 := mem_row (n := names.length) (p := L b v) (v := u)
    have nx := hN (tkE names c L last t u v r (keyF t u v) (.da (.int b)) (.da (.int b))) ⟨.da (.int b), by rw [if_neg (by omega)]; simp [hi, hb]⟩
    rw [hb]
    generalize (if i = 0 then (-1 : Int) else t.at_.getD (i - 1) 0) = bf at *
    simp [tkE, wCall, wf_law_is_int, tl, oEq_s (word_ok k.w) w2, oIn_iL]
    refine .inr ⟨hbf, .inr ⟨hbc, _, tab_at hbc, _, row_at k.hu, .inl ⟨m1.mpr ⟨k.hv, l1⟩, _, tab_at hbc, _, row_at k.hv, ?_⟩⟩⟩
    have m3 : decide ((u : Int) ∈ rowF names.length (L b v)) = (t.w == "two") := by
      rw [← l2]
      exact row_dec k.hu
    rw [m3, oNe_b]
    exact .inl ⟨by simp, nx⟩
  · rw [e]
    exact go_tk3 k hl hr q
theorem go_tk1 {s8 s9 s10 s11 s12 s13 : Sl} (hn : NamesOk names) (hc : c ≤ 4) (k : KeyOk names c L last t u v) (hl : HT.lexLt last (keyF t u v) = true) (q : Q false (tI (keyF t u v))) : r_tk1 (Zd xc Q) [.da (tieD t), .da (sL names), .da (l3 (tabF names.length c L)), .da (tI last), .da (.str t.a), .da (.str t.b), .da (.str t.w), .da (tI t.at_), s8, s9, s10, s11, s12, s13] := by
  have hu := k.hu
  have hv := k.hv
  have h8 := hn.hi
  have w2 : PyData.strOk "one" = true := by decide +kernel
  have ea : names.getD u "" = names[u] := by simp [hu]
  have eb : names.getD v "" = names[v] := by simp [hv]
  have ixa : idxD (.str t.a) (names.map .str) = some u := by rw [k.ea, ea]; exact idx_strs hn.nd hu
  have ixb : idxD (.str t.b) (names.map .str) = some v := by rw [k.eb, eb]; exact idx_strs hn.nd hv
  have oa : PyData.strOk t.a = true := by rw [k.ea, ea]; exact hn.ok _ (List.getElem_mem hu)
  have ob : PyData.strOk t.b = true := by rw [k.eb, eb]; exact hn.ok _ (List.getElem_mem hv)
  have ol := ok_strs hn.ok
  have go := fun s13 r hr => go_tk2 (xc := xc) (Q := Q) (s13 := s13) (r := r) hn hc k hl hr q
  have hs := sizeLine_eq
  simp only [r_tk1]
  simp only [sL] at go ⊢
  simp [wIdx, ixa, ixb, oEq_s (word_ok k.w) w2, ol, ok_str oa, ok_str ob]
  have mn : (if (v : Int) < u then (v : Int) else u) = ((min u v : Nat) : Int) := by split <;> omega
  have mx : (if (v : Int) > u then (v : Int) else u) = ((max u v : Nat) : Int) := by split <;> omega
  have e2 : ∀ {P : D → Prop}, P (.int ((min u v : Nat) : Int)) → oMin2 [.int u, .int v] P := fun p => by
    unfold oMin2
    simp only [mn]
    exact p
  have e3 : ∀ {P : D → Prop}, P (.int ((max u v : Nat) : Int)) → oMax2 [.int u, .int v] P := fun p => by
    unfold oMax2
    simp only [mx]
    exact p
  have tt : ∀ r : Int, r = (if t.w = "two" then 0 else if u > v then 2 else 1) → D.tup [.int ((min u v : Nat) : Int), .int ((max u v : Nat) : Int), .int r] = tI (keyF t u v) := fun r hr => by
    unfold keyF
    rw [← hr]
    rfl
  by_cases hw : t.w = "one"
  · have hr : (1 + if v < u then 1 else 0 : Int) = (if t.w = "two" then 0 else if u > v then 2 else 1) := by
      have h12 : ¬ ("one" : Str) = "two" := by decide
      rw [hw]
      simp only [h12, if_false]
      by_cases h : v < u
      · rw [if_pos h, if_pos h]; rfl
      · rw [if_neg h, if_neg h]; rfl
    refine .inr ⟨hw, e2 (e3 ⟨by omega, ?_⟩)⟩
    rw [tt _ hr]
    exact go _ _ hr
  · have hw2 : t.w = "two" := k.w.resolve_right hw
    have hr : (0 : Int) = (if t.w = "two" then 0 else if u > v then 2 else 1) := by rw [if_pos hw2]
    refine .inl ⟨hw, e2 (e3 ⟨by omega, ?_⟩)⟩
    rw [tt _ hr]
    exact go _ _ hr
@[simp] theorem ty_tI (l : List Int) : D.ty (tI l) = D.ty (.tup []) := rfl
theorem p_law_tie_key (xc : XC) (ds : List D) (Q : Bool → D → Prop) (h : wf_law_tie_key xc ds Q) : b_law_tie_key (Zd xc Q) (ds.map .da ++ List.replicate (14 - ds.length) .no) := by
  obtain ⟨names, c, L, last, t, u, v, rfl, hn, hc, k, hl, q⟩ := h
  have go := fun s8 s9 s10 s11 s12 s13 => go_tk1 (xc := xc) (Q := Q) (s8 := s8) (s9 := s9) (s10 := s10) (s11 := s11) (s12 := s12) (s13 := s13) hn hc k hl q
  have oa : PyData.strOk t.a = true := by rw [k.ea]; exact hn.ok _ (by simp [k.hu])
  have ob : PyData.strOk t.b = true := by rw [k.eb]; exact hn.ok _ (by simp [k.hv])
  have ma : t.a ∈ names := by rw [k.ea]; simp [k.hu]
  have mb : t.b ∈ names := by rw [k.eb]; simp [k.hv]
  rw [tie_key_eq]
  simp only [tieD] at go ⊢
  have i1 : ∀ {P : D → Prop}, oIn true (.str t.a) (sL names) P = P (.bl false) := by
    intro P
    unfold sL
    rw [oIn_s oa hn.ok]
    simp [ma]
  have i2 : ∀ {P : D → Prop}, oIn true (.str t.b) (sL names) P = P (.bl false) := by
    intro P
    unfold sL
    rw [oIn_s ob hn.ok]
    simp [mb]
  have w1 : PyData.strOk "one" = true := by decide +kernel
  have w2 : PyData.strOk "two" = true := by decide +kernel
  simp [sAsg, gTupD, gsCons, gsNil, wIsi]
  refine ⟨_, _, ⟨rfl, rfl⟩, _, _, rfl, _, _, rfl, _, _, rfl, rfl, ?_⟩
  simp [i1, i2]
  rcases k.w with hw | hw
  · refine ⟨_, _, _, rfl, .str _ _ (by rw [hw]; exact w2) w2, .inr ⟨by rw [hw]; rfl, go _ _ _ _ _ _⟩⟩
  · refine ⟨_, _, _, rfl, .str _ _ (by rw [hw]; exact w1) w2, .inl ⟨by rw [hw]; rfl, _, _, _, rfl, .str _ _ (by rw [hw]; exact w1) w1, .inr ⟨by rw [hw]; rfl, go _ _ _ _ _ _⟩⟩⟩
end
end Tw.S

namespace Tw.S
open PySem PySem.Spec L2 PyProof.Rows Tw
/-! sums -/
def sm {α : Type} (l : List α) (f : α → Nat) : Nat := (l.map f).sum
section
variable {α β : Type}
theorem sm_nil (f : α → Nat) : sm [] f = 0 := rfl
theorem sm_cons (x : α) (l : List α) (f : α → Nat) : sm (x :: l) f = f x + sm l f := by simp [sm]
theorem sm_app (a b : List α) (f : α → Nat) : sm (a ++ b) f = sm a f + sm b f := by simp [sm]
theorem sm_add (l : List α) (f g : α → Nat) : sm l (fun x => f x + g x) = sm l f + sm l g := by
  induction l with
  | nil => rfl
  | cons x l ih => rw [sm_cons, sm_cons, sm_cons, ih]; omega
theorem sm_congr {l : List α} {f g : α → Nat} (h : ∀ x ∈ l, f x = g x) : sm l f = sm l g := by
  unfold sm
  rw [List.map_congr_left h]
theorem sm_zero (l : List α) : sm l (fun _ => 0) = 0 := by
  induction l with
  | nil => rfl
  | cons x l ih => rw [sm_cons, ih]
theorem sm_swap (l : List α) (m : List β) (f : α → β → Nat) : sm l (fun a => sm m (f a)) = sm m fun b => sm l fun a => f a b := by
  induction l with
  | nil => exact (sm_zero m).symm
  | cons x l ih => 
    rw [sm_cons, ih, ← sm_add]
    exact sm_congr fun b _ => (sm_cons x l fun a => f a b).symm
theorem sm_filter (l : List α) (p : α → Bool) : (l.filter p).length = sm l fun x => if p x = true then 1 else 0 := by
  induction l with
  | nil => rfl
  | cons x l ih =>
    rw [sm_cons, List.filter_cons]
    cases p x <;> simp [ih] 
    omega
theorem sm_flat (l : List α) (f : α → List β) (g : β → Nat) : sm (l.flatMap f) g = sm l fun a => sm (f a) g := by
  induction l with
  | nil => rfl
  | cons x l ih => rw [List.flatMap_cons, sm_app, ih, sm_cons]
theorem sm_map (l : List α) (f : α → β) (g : β → Nat) : sm (l.map f) g = sm l fun a => g (f a) := by
  unfold sm
  rw [List.map_map]
  rfl
theorem sm_filterP (l : List α) (p : α → Bool) (g : α → Nat) (h : ∀ x ∈ l, p x = false → g x = 0) : sm (l.filter p) g = sm l g := by
  induction l with
  | nil => rfl
  | cons x l ih =>
    have ih := ih fun y hy => h y (by simp [hy])
    rw [List.filter_cons, sm_cons]
    cases e : p x with
    | true => simp only [if_true, sm_cons, ih]
    | false =>
      have := h x (by simp) e
      simp only [Bool.false_eq_true, if_false, ih]
      omega
end
/-- pairs u < v told there and back are all pairs -/
theorem sm_pairs (f : Nat → Nat → Nat) (h : ∀ u, f u u = 0) (n : Nat) : (sm (List.range n) fun u => sm (List.range (n - (u + 1))) fun i => f u (u + 1 + i) + f (u + 1 + i) u) = sm (List.range n) fun u => sm (List.range n) fun v => f u v := by
  induction n with
  | zero => rfl
  | succ n ih =>
    rw [List.range_succ, sm_app, sm_app, sm_cons, sm_cons, sm_nil, sm_nil, Nat.sub_self, List.range_zero, sm_nil]
    have e1 : (sm (List.range n) fun u => sm (List.range (n + 1 - (u + 1))) fun i => f u (u + 1 + i) + f (u + 1 + i) u) = sm (List.range n) fun u => (sm (List.range (n - (u + 1))) fun i => f u (u + 1 + i) + f (u + 1 + i) u) + (f u n + f n u) := by
      apply sm_congr
      intro u hu
      have hu := List.mem_range.mp hu
      have en : n + 1 - (u + 1) = (n - (u + 1)) + 1 := by omega
      rw [en, List.range_succ, sm_app, sm_cons, sm_nil]
      have en2 : u + 1 + (n - (u + 1)) = n := by omega
      rw [en2]
      omega
    have e2 : (sm (List.range n) fun u => sm (List.range n ++ [n]) fun v => f u v) = sm (List.range n) fun u => (sm (List.range n) fun v => f u v) + f u n := by
      apply sm_congr
      intro u hu
      rw [sm_app, sm_cons, sm_nil]
      omega
    have s1 := sm_add (List.range n) (fun u => sm (List.range (n - (u + 1))) fun i => f u (u + 1 + i) + f (u + 1 + i) u) (fun u => f u n + f n u)
    have s2 := sm_add (List.range n) (fun u => f u n) (fun u => f n u)
    have s3 := sm_add (List.range n) (fun u => sm (List.range n) fun v => f u v) (fun u => f u n)
    have s4 : (sm (List.range n ++ [n]) fun v => f n v) = (sm (List.range n) fun v => f n v) + 0 := by
      rw [sm_app, sm_cons, sm_nil, h]
    rw [e1, e2]
    rw [s4, s1, s2, s3, ih]
    omega
/-- the ties with their places -/
structure KT where
  t : Tie
  u : Nat
  v : Nat
def pairKT (names : List Str) (c : Nat) (L : Psg) (u v : Nat) : List KT :=
  [⟨⟨names.getD u "", names.getD v "", "two", beatsF c fun b => L b u v && L b v u⟩, u, v⟩, ⟨⟨names.getD u "", names.getD v "", "one", beatsF c fun b => L b u v && !L b v u⟩, u, v⟩, ⟨⟨names.getD v "", names.getD u "", "one", beatsF c fun b => L b v u && !L b u v⟩, v, u⟩].filter fun k => !k.t.at_.isEmpty
def ktsP (names : List Str) (c : Nat) (L : Psg) : List KT := (List.range names.length).flatMap fun u => (List.range (names.length - (u + 1))).flatMap fun i => pairKT names c L u (u + 1 + i)
theorem pair_kt (names : List Str) (c : Nat) (L : Psg) (u v : Nat) : (pairKT names c L u v).map KT.t = pairTies names c L u v := by
  unfold pairKT
  exact (List.filter_map (f := KT.t) (p := fun t : Tie => !t.at_.isEmpty) (l := _)).symm
theorem kts_t (names : List Str) (c : Nat) (L : Psg) : (ktsP names c L).map KT.t = tiesP names c L := by
  unfold ktsP tiesP rowTies
  rw [List.map_flatMap]
  congr 1
  funext u
  rw [List.map_flatMap]
  congr 1
  funext i
  exact pair_kt _ _ _ _ _
def KT.key (k : KT) : List Int := keyF k.t k.u k.v
def KT.wt (k : KT) : Nat := k.t.at_.length + if k.t.w = "two" then k.t.at_.length else 0
theorem two_ne_one : ¬ ("one" : Str) = "two" := by decide
theorem pair_keys (names : List Str) (c : Nat) (L : Psg) {u v : Nat} (h : u < v) : (pairKT names c L u v).Pairwise fun a b => HT.lexLt a.key b.key = true := by
  unfold pairKT
  apply List.Pairwise.filter
  have m1 : min u v = u := by omega
  have m2 : max u v = v := by omega
  have m3 : min v u = u := by omega
  have m4 : max v u = v := by omega
  have h1 : ¬ v < u := by omega
  simp [KT.key, keyF, two_ne_one, m1, m2, m3, m4, HT.lexLt, h, h1]
theorem pair_key {names : List Str} {c : Nat} {L : Psg} {u v : Nat} (h : u < v) {k : KT} (hk : k ∈ pairKT names c L u v) : ∃ r : Int, 0 ≤ r ∧ k.key = [(u : Int), (v : Int), r] := by
  have hk := (List.mem_filter.mp hk).1
  have m1 : min u v = u := by omega
  have m2 : max u v = v := by omega
  have m3 : min v u = u := by omega
  have m4 : max v u = v := by omega
  have h1 : ¬ v < u := by omega
  simp only [List.mem_cons, List.not_mem_nil, or_false] at hk
  rcases hk with rfl | rfl | rfl <;> simp [KT.key, keyF, two_ne_one, m1, m2, m3, m4, h, h1]
theorem kts_keys (names : List Str) (c : Nat) (L : Psg) : (ktsP names c L).Pairwise fun a b => HT.lexLt a.key b.key = true := by
  unfold ktsP
  rw [List.pairwise_flatMap]
  refine ⟨fun u hu => ?_, ?_⟩
  · rw [List.pairwise_flatMap]
    refine ⟨fun i _ => pair_keys _ _ _ (by omega), ?_⟩
    refine List.pairwise_lt_range.imp fun {i j} hij a ha b hb => ?_
    obtain ⟨r, _, e1⟩ := pair_key (by omega) ha
    obtain ⟨r', _, e2⟩ := pair_key (by omega) hb
    rw [e1, e2]
    have h1 : ¬ u + 1 + i = u + 1 + j := by omega
    have h2 : u + 1 + i < u + 1 + j := by omega
    simp only [HT.lexLt]
    rw [if_pos trivial, if_neg (by omega)]
    exact decide_eq_true (by omega)
  · refine List.pairwise_lt_range.imp fun {i j} hij a ha b hb => ?_
    obtain ⟨i', _, ha⟩ := List.mem_flatMap.mp ha
    obtain ⟨j', _, hb⟩ := List.mem_flatMap.mp hb
    obtain ⟨r, _, e1⟩ := pair_key (by omega) ha
    obtain ⟨r', _, e2⟩ := pair_key (by omega) hb
    rw [e1, e2]
    simp only [HT.lexLt]
    rw [if_neg (by omega)]
    exact decide_eq_true (by omega)
theorem kts_ok {names : List Str} {c : Nat} {L : Psg} (last : List Int) {k : KT} (hk : k ∈ ktsP names c L) : KeyOk names c L last k.t k.u k.v := by
  unfold ktsP at hk
  obtain ⟨u, hu, hk⟩ := List.mem_flatMap.mp hk
  obtain ⟨i, hi, hk⟩ := List.mem_flatMap.mp hk
  have hu := List.mem_range.mp hu
  have hi := List.mem_range.mp hi
  have hv : u + 1 + i < names.length := by omega
  have hl : u < u + 1 + i := by omega
  generalize u + 1 + i = v at *
  obtain ⟨hk, ne⟩ := List.mem_filter.mp hk
  have ne : k.t.at_ ≠ [] := fun z => by rw [z] at ne; exact Bool.noConfusion ne
  simp only [List.mem_cons, List.not_mem_nil, or_false] at hk
  have bs := fun p => set_beats c p
  rcases hk with rfl | rfl | rfl
  · exact ⟨hu, hv, by simp; omega, rfl, rfl, .inl rfl, ne, bs _, fun b hb => by
      have := (mem_beats.mp hb).2
      simp at this
      simp [this], fun _ => hl⟩
  · exact ⟨hu, hv, by simp; omega, rfl, rfl, .inr rfl, ne, bs _, fun b hb => by
      have := (mem_beats.mp hb).2
      simp at this
      simp [this, two_one.2], fun z => absurd z two_ne_one⟩
  · exact ⟨hv, hu, by simp; omega, rfl, rfl, .inr rfl, ne, bs _, fun b hb => by
      have := (mem_beats.mp hb).2
      simp at this
      simp [this, two_one.2], fun z => absurd z two_ne_one⟩
theorem beats_sum (c : Nat) (p q : Nat → Bool) : 2 * (beatsF c fun b => p b && q b).length + (beatsF c fun b => p b && !q b).length + (beatsF c fun b => q b && !p b).length = (beatsF c p).length + (beatsF c q).length := by
  unfold beatsF
  simp only [List.length_map, sm_filter]
  have e : ∀ f : Nat → Nat, 2 * sm (List.range c) f = sm (List.range c) f + sm (List.range c) f := fun f => by omega
  rw [e, ← sm_add, ← sm_add, ← sm_add, ← sm_add]
  apply sm_congr
  intro b _
  cases p b <;> cases q b <;> rfl
theorem pair_wt (names : List Str) (c : Nat) (L : Psg) (u v : Nat) : sm (pairKT names c L u v) KT.wt = (beatsF c fun b => L b u v).length + (beatsF c fun b => L b v u).length := by
  rw [← beats_sum]
  unfold pairKT
  rw [sm_filterP]
  · simp only [sm_cons, sm_nil, KT.wt, if_pos rfl, if_neg two_ne_one]
    simp
    omega
  · intro k _ hk
    have : k.t.at_ = [] := by simpa using hk
    simp [KT.wt, this]
theorem kts_wt (names : List Str) (c : Nat) (L : Psg) (h : ∀ b u, L b u u = false) : sm (ktsP names c L) KT.wt = sm (tabF names.length c L) fun rows => sm rows List.length := by
  unfold ktsP tabF
  rw [sm_flat]
  have e1 : (fun u => sm ((List.range (names.length - (u + 1))).flatMap fun i => pairKT names c L u (u + 1 + i)) KT.wt) = fun u => sm (List.range (names.length - (u + 1))) fun i => (beatsF c fun b => L b u (u + 1 + i)).length + (beatsF c fun b => L b (u + 1 + i) u).length := by
    funext u
    rw [sm_flat]
    congr 1
    funext i
    exact pair_wt _ _ _ _ _
  rw [e1, sm_pairs (fun u v => (beatsF c fun b => L b u v).length) (fun u => by simp [h, beatsF])]
  simp only [sm_map]
  unfold beatsF rowF
  simp only [List.length_map, sm_filter]
  rw [sm_swap (List.range c)]
  apply sm_congr
  intro u _
  rw [sm_swap]
end Tw.S

namespace Tw.S
open PySem PySem.Spec L2 PyProof.Rows Tw
def lastK (pre : List KT) : List Int := (pre.getLast?.map KT.key).getD [-1, -1, -1]
theorem lastK_snoc (pre : List KT) (k : KT) : lastK (pre ++ [k]) = k.key := by simp [lastK]
theorem lastK_lt {pre post : List KT} {x : KT} (h : (pre ++ x :: post).Pairwise fun a b => HT.lexLt a.key b.key = true) : HT.lexLt (lastK pre) x.key = true := by
  rcases List.eq_nil_or_concat pre with e | ⟨p, y, e⟩
  · subst e
    simp only [lastK, List.getLast?_nil, Option.map_none, Option.getD_none, KT.key, keyF, HT.lexLt]
    rw [if_neg (by omega)]
    exact decide_eq_true (by omega)
  · subst e
    rw [List.concat_eq_append, lastK_snoc]
    rw [List.concat_eq_append, List.pairwise_append] at h
    exact h.2.2 y (by simp) x (by simp)
def r_of2 : Ws := (sSeq (sFor (wiS (wVar 2)) (gSet 7)
  (sFor (wiS (wVar 7)) (gSet 8)
  (sSet 4 (w2 oSub (wVar 4) (wN oLen (waCons (wVar 8) waNil))))))
  (sRet (w2 oEq (wVar 4) (wC (.int 0)))))
theorem one_form_eq : b_law_one_form = (sSeq (sIf (wNot (wTru (wIsi "list" (wVar 0))))
  (sRet (wC (.bl false)))
  sNil)
  (sSeq (sSet 3 (wTup (waCons (wNeg (wC (.int 1))) (waCons (wNeg (wC (.int 1))) (waCons (wNeg (wC (.int 1))) waNil)))))
  (sSeq (sSet 4 (wC (.int 0)))
  (sSeq (sFor (wiS (wVar 0)) (gSet 5)
  (sSeq (sSet 6 (wCall wf_law_tie_key [] (waCons (wVar 5) (waCons (wVar 1) (waCons (wVar 2) (waCons (wVar 3) waNil))))))
  (sSeq (sIf (wB (w2 (oIsN false) (wVar 6) (wC .non)))
  (sRet (wC (.bl false)))
  sNil)
  (sSeq (sSet 3 (wVar 6))
  (sSeq (sSet 4 (w2 oPlus (wVar 4) (wN oLen (waCons (w2 oIx (wVar 5) (wC (.int 3))) waNil))))
  (sIf (wB (w2 oEq (w2 oIx (wVar 6) (wC (.int 2))) (wC (.int 0))))
  (sSet 4 (w2 oPlus (wVar 4) (wN oLen (waCons (w2 oIx (wVar 5) (wC (.int 3))) waNil))))
  sNil))))))
  r_of2)))) := rfl
section
variable {xc : XC} {Q : Bool → D → Prop} {s0 s1 s3 s5 s6 s7 s8 : Sl}
theorem go_of2 (tab : List (List (List Int))) (m : Nat) (hm : m = sm tab fun rows => sm rows List.length) (q : Q false (.bl true)) : r_of2 (Zd xc Q) [s0, s1, .da (l3 tab), s3, .da (.int m), s5, s6, s7, s8] := by
  simp only [r_of2]
  simp [sFor]
  refine for_fold tab l2 (fun pre x => pre ++ [x]) (fun pre ρ => ∃ s7 s8, ρ = [s0, s1, .da (l3 tab), s3, .da (.int ((m : Int) - (sm pre fun rows => sm rows List.length : Nat))), s5, s6, s7, s8]) [] (fun pre x post ρ N e ⟨s7, s8, er⟩ hN => ?_) ⟨s7, s8, by simp [sm_nil]⟩ fun ρ ⟨s7, s8, er⟩ => ?_
  · rw [foldl_snoc, List.nil_append] at er hN
    rw [er]
    rw [sm_app, sm_cons, sm_nil] at hN
    generalize (sm pre fun rows => sm rows List.length) = k at *
    simp [sFor]
    refine for_fold x iL (fun pre x => pre ++ [x]) (fun pre ρ => ∃ s8, ρ = [s0, s1, .da (l3 tab), s3, .da (.int ((m : Int) - (k + sm pre List.length : Nat))), s5, s6, .da (l2 x), s8]) [] (fun pre2 y post2 ρ N2 e2 ⟨s8, er⟩ hN2 => ?_) ⟨s8, by simp [sm_nil]⟩ fun ρ ⟨s8, er⟩ => ?_
    · rw [foldl_snoc, List.nil_append] at er hN2
      rw [er]
      rw [sm_app, sm_cons, sm_nil] at hN2
      simp
      refine hN2 _ ⟨.da (iL y), ?_⟩
      have : (m : Int) - (k + sm pre2 List.length : Nat) - y.length = (m : Int) - (k + (sm pre2 List.length + (y.length + 0)) : Nat) := by omega
      simpa using this
    · rw [foldl_snoc, List.nil_append] at er
      exact hN _ ⟨_, _, er⟩
  · rw [foldl_snoc, List.nil_append] at er
    rw [er, ← hm]
    simpa using q
theorem p_law_one_form (xc : XC) (ds : List D) (Q : Bool → D → Prop) (h : wf_law_one_form xc ds Q) : b_law_one_form (Zd xc Q) (ds.map .da ++ List.replicate (9 - ds.length) .no) := by
  obtain ⟨names, c, L, rfl, hn, hc, h0, q⟩ := h
  have hs := sizeLine_eq
  have go := fun (s3 s5 s6 s7 s8 : Sl) => go_of2 (xc := xc) (Q := Q) (s0 := .da (tsL (tiesP names c L))) (s1 := .da (sL names)) (s3 := s3) (s5 := s5) (s6 := s6) (s7 := s7) (s8 := s8) (tabF names.length c L) (sm (ktsP names c L) KT.wt) (kts_wt names c L h0) q
  have ks := kts_keys names c L
  have ek : (tiesP names c L).map tieD = (ktsP names c L).map fun k => tieD k.t := by
    rw [← kts_t, List.map_map]
    rfl
  have tt : ∀ a b c : Int, D.tup [.int a, .int b, .int c] = tI [a, b, c] := fun _ _ _ => rfl
  rw [one_form_eq]
  simp only [tsL] at go ⊢
  rw [ek] at go ⊢
  have kok := fun (last : List Int) (k : KT) (hk : k ∈ ktsP names c L) => kts_ok last hk
  generalize ktsP names c L = kts at *
  simp [wIsi, sFor, tt]
  refine ⟨by omega, ?_⟩
  refine for_fold kts (fun k => tieD k.t) (fun pre x => pre ++ [x]) (fun pre ρ => ∃ s5 s6, ρ = [Sl.da (D.lst (kts.map fun k => tieD k.t)), Sl.da (sL names), Sl.da (l3 (tabF names.length c L)), .da (tI (lastK pre)), .da (.int (sm pre KT.wt : Nat)), s5, s6, .no, .no]) [] (fun pre k post ρ N e ⟨s5, s6, er⟩ hN => ?_) ⟨.no, .no, rfl⟩ fun ρ ⟨s5, s6, er⟩ => ?_
  · rw [foldl_snoc, List.nil_append] at er hN
    rw [er]
    rw [lastK_snoc, sm_app, sm_cons, sm_nil, Nat.add_zero] at hN
    have hk := kok (lastK pre) k (by rw [e]; simp)
    have hlt := lastK_lt (by rw [← e]; exact ks)
    generalize lastK pre = last at *
    generalize sm pre KT.wt = m at *
    simp [wCall]
    refine ⟨names, c, L, last, k.t, k.u, k.v, rfl, hn, hc, hk, hlt, ?_⟩
    rw [show keyF k.t k.u k.v = k.key from rfl]
    have key2 : k.key.getD 2 0 = if k.t.w = "two" then 0 else if k.u > k.v then 2 else 1 := rfl
    have kl : atI k.key 2 = some (if k.t.w = "two" then 0 else if k.u > k.v then 2 else 1) := rfl
    simp [tie_at, kl]
    refine .inl ⟨rfl, ?_⟩
    by_cases hw : k.t.w = "two"
    · refine .inr ⟨fun z => absurd hw z, hN _ ⟨.da (tieD k.t), .da (tI k.key), ?_⟩⟩
      have : (m : Int) + k.t.at_.length + k.t.at_.length = ((m + k.wt : Nat) : Int) := by
        unfold KT.wt
        rw [if_pos hw]
        omega
      rw [this]
    · refine .inl ⟨⟨hw, by split <;> omega⟩, hN _ ⟨.da (tieD k.t), .da (tI k.key), ?_⟩⟩
      have : (m : Int) + k.t.at_.length = ((m + k.wt : Nat) : Int) := by
        unfold KT.wt
        rw [if_neg hw]
        omega
      rw [this]
  · rw [foldl_snoc, List.nil_append] at er
    rw [er]
    exact go _ _ _ _ _
end
end Tw.S

namespace Tw.S
open PySem PySem.Spec L2 PyProof.Rows Tw
/-- ties written for the pairs P of the passages L -/
structure RW (names : List Str) (c : Nat) (L : Psg) (m : Nat) (P : List (Nat × Nat)) (acc : List Tie) : Prop where
  le : acc.length ≤ m * P.length
  ok : ∀ t ∈ acc, TieOk names c t
  ld : ∀ (b i j : Nat) (hb : b < c) (hi : i < names.length) (hj : j < names.length), leads acc b names[i] names[j] = (L b i j && decide ((min i j, max i j) ∈ P))
theorem leads_on {x y p q : Str} {ts : List Tie} {b : Int} (h : ∀ t ∈ ts, (t.a = x ∧ t.b = y) ∨ (t.a = y ∧ t.b = x)) (h1 : ¬ (p = x ∧ q = y)) (h2 : ¬ (p = y ∧ q = x)) : leads ts b p q = false := by
  unfold leads
  rw [List.any_eq_false]
  intro t ht hl
  unfold Tie.leads at hl
  simp at hl
  rcases h t ht with ⟨ea, eb⟩ | ⟨ea, eb⟩ <;> rcases hl.2 with ⟨z1, z2⟩ | ⟨⟨z1, z2⟩, _⟩ <;> rw [ea] at * <;> rw [eb] at *
  · exact h1 ⟨z1.symm, z2.symm⟩
  · exact h2 ⟨z1.symm, z2.symm⟩
  · exact h2 ⟨z1.symm, z2.symm⟩
  · exact h1 ⟨z1.symm, z2.symm⟩
theorem RW.step {names : List Str} {c : Nat} {L : Psg} {m : Nat} {P : List (Nat × Nat)} {acc ts : List Tie} {u v : Nat} (hn : NamesOk names) (R : RW names c L m P acc) (hvu : v < u) (hu : u < names.length) (hv : v < names.length) (hP : (v, u) ∉ P)
    (hT : ∀ t ∈ ts, ((t.a = names[v] ∧ t.b = names[u]) ∨ (t.a = names[u] ∧ t.b = names[v])) ∧ (t.w = "two" ∨ t.w = "one") ∧ t.at_ ≠ [] ∧ isSet t.at_ c = true) (hl : ts.length ≤ m)
    (hd : ∀ b : Nat, b < c → leads ts b names[v] names[u] = L b v u ∧ leads ts b names[u] names[v] = L b u v) : RW names c L m (P ++ [(v, u)]) (acc ++ ts) := by
  refine ⟨?_, fun t ht => ?_, fun b i j hb hi hj => ?_⟩
  · rw [List.length_append, List.length_append, List.length_singleton, Nat.mul_add, Nat.mul_one]
    have := R.le
    omega
  · rcases List.mem_append.mp ht with h | h
    · exact R.ok t h
    · exact (pair_tie hn hv hu (by omega) (hT t h)).1
  · rw [leads_app, R.ld b i j hb hi hj]
    have inj : ∀ {p q : Nat} (hp : p < names.length) (hq : q < names.length), names[p] = names[q] → p = q := fun hp hq e => (List.getElem_inj hn.nd).mp e
    by_cases h1 : i = v ∧ j = u
    · obtain ⟨rfl, rfl⟩ := h1
      rw [(hd b hb).1]
      have m1 : min i j = i := by omega
      have m2 : max i j = j := by omega
      rw [m1, m2]
      simp [hP]
    · by_cases h2 : i = u ∧ j = v
      · obtain ⟨rfl, rfl⟩ := h2
        rw [(hd b hb).2]
        have m1 : min i j = j := by omega
        have m2 : max i j = i := by omega
        rw [m1, m2]
        simp [hP]
      · rw [leads_on (fun t ht => (hT t ht).1) (fun z => h1 ⟨inj hi hv z.1, inj hj hu z.2⟩) (fun z => h2 ⟨inj hi hu z.1, inj hj hv z.2⟩), Bool.or_false]
        have : ((min i j, max i j) ∈ P ++ [(v, u)]) ↔ (min i j, max i j) ∈ P := by
          rw [List.mem_append, List.mem_singleton]
          refine or_iff_left fun z => ?_
          have z1 := congrArg Prod.fst z
          have z2 := congrArg Prod.snd z
          simp only at z1 z2
          rcases Nat.le_total i j with h | h
          · exact h1 ⟨by omega, by omega⟩
          · exact h2 ⟨by omega, by omega⟩
        rw [decide_eq_decide.mpr this]
theorem pair_mem {n v u : Nat} : (v, u) ∈ codePairs n ↔ v < u ∧ u < n := by
  unfold codePairs
  simp only [List.mem_flatMap, List.mem_map, List.mem_range, Prod.mk.injEq]
  constructor
  · rintro ⟨u', h1, v', h2, rfl, rfl⟩
    exact ⟨h2, h1⟩
  · rintro ⟨h1, h2⟩
    exact ⟨u, h2, v, h1, rfl, rfl⟩
theorem cut_drop {α : Type} {l : List α} {k : Nat} (h : k ≤ l.length) : cutA l (some (k : Int)) none = l.drop k := by
  unfold cutA
  rw [HT.sIx_nat, HT.sIx_none, Nat.min_eq_left h, ← List.length_drop, List.take_length]
theorem cut_take {α : Type} {l : List α} {k : Nat} : cutA l none (some (k : Int)) = l.take k := by
  unfold cutA
  rw [HT.sIx_nat, HT.sIx_none, List.drop_zero, Nat.sub_zero]
  exact (List.take_eq_take_min (l := l) (i := k)).symm
theorem tab_congr {n c : Nat} {L M : Psg} (h : ∀ b u v, b < c → u < n → v < n → L b u v = M b u v) : tabF n c L = tabF n c M := by
  unfold tabF
  apply List.map_congr_left
  intro b hb
  apply List.map_congr_left
  intro u hu
  unfold rowF
  congr 1
  apply List.filter_congr
  intro v hv
  exact h b u v (List.mem_range.mp hb) (List.mem_range.mp hu) (List.mem_range.mp hv)
def cd4 (L : Psg) (v u b : Nat) : Int := if L b v u = true then (if L b u v = true then 1 else 2) else (if L b u v = true then 3 else 0)
def r_rw3 : Ws := (sFrz 6 (sSet 3 (w2 oPlus (wVar 3) (wCall wf_law_pair_ties [] (waCons (w2 oIx (wVar 0) (wVar 5)) (waCons (w2 oIx (wVar 0) (wVar 4)) (waCons (wVar 6) (waCons (wVar 8) waNil))))))))
def r_rw2 : Ws := (sSeq (sSet 8 (w2 oMod (wN oInt (waCons (w2 oIx (wVar 2) (w2 oPlus (w2 oPlus (wC (.int 8)) (w2 oDiv (w2 oMul (wVar 4) (w2 oSub (wVar 4) (wC (.int 1)))) (wC (.int 2)))) (wVar 5))) waNil)) (wC (.int 4))))
  (sSeq (sIf (wAnd (wB (w2 oGt (wN oLen (waCons (wVar 0) waNil)) (wC (.int 7)))) (wB (w2 oEq (wVar 8) (wC (.int 1)))))
  (sSet 8 (wC (.int 0)))
  sNil)
  r_rw3))
def r_rw1 : Ws := (sSeq (sSetO 6 (wLst waNil))
  (sSeq (sFor (wiS (wVar 1)) (gSet 7)
  (sApp 6 (w2 oIx (wLst (waCons (wC (.int 0)) (waCons (wC (.int 2)) (waCons (wC (.int 3)) (waCons (wC (.int 1)) waNil))))) (w2 oPlus (wN oInt (waCons (w2 (oIn false) (wVar 4) (w2 oIx (wVar 7) (wVar 5))) waNil)) (w2 oMul (wC (.int 2)) (wN oInt (waCons (w2 (oIn false) (wVar 5) (w2 oIx (wVar 7) (wVar 4))) waNil)))))))
  r_rw2))
def r_rw4 : Ws := (sSeq (sSet 9 (w2 oMod (wN oInt (waCons (w2 oIx (wVar 2) (wC (.int 0))) waNil)) (w2 oPlus (wN oLen (waCons (wVar 3) waNil)) (wC (.int 1)))))
  (sRet (w2 oPlus (w2 oPlus (wSl oSl (wVar 3) (woS (wVar 9)) woN) (wSl oSl (wVar 3) woN (woS (wVar 9)))) (wSl oSl (wVar 3) woN (woS (w2 oMod (wN oInt (waCons (w2 oIx (wVar 2) (wC (.int 1))) waNil)) (wC (.int 9))))))))
theorem rewritten_eq : b_law_rewritten = (sSeq (sSet 3 (wLst waNil))
  (sSeq (sFor (wiR1 (wN oLen (waCons (wVar 0) waNil))) (gSet 4)
  (sFor (wiR1 (wVar 4)) (gSet 5) r_rw1)) r_rw4)) := rfl
section
variable {xc : XC} {Q : Bool → D → Prop} {names : List Str} {c u v m : Nat} {L : Psg} {l : List Int} {acc : List Tie} {P : List (Nat × Nat)}
def rwE (names : List Str) (c : Nat) (L : Psg) (l : List Int) (acc : List Tie) (a b d e f g : Sl) : Evn := [.da (sL names), .da (l3 (tabF names.length c L)), .da (iL l), .da (tsL acc), a, b, d, e, f, g]
theorem go_rw3 {Z : Pd} {st : Int} {s7 s9 : Sl} (hn : NamesOk names) (h4 : c ≤ 4) (hvu : v < u) (hu : u < names.length) (hm : m = if names.length > 7 then 3 else 4) (R : RW names c L m P acc) (hP : (v, u) ∉ P) (hPl : P.length ≤ 28) (hst : names.length > 7 → st ≠ 1)
    (q : ∀ acc' s6, RW names c L m (P ++ [(v, u)]) acc' → Z.nx (rwE names c L l acc' (.da (.int u)) (.da (.int v)) s6 s7 (.da (.int st)) s9)) : r_rw3 Z (rwE names c L l acc (.da (.int u)) (.da (.int v)) (.ow (iL ((List.range c).map (cd4 L v u)))) s7 (.da (.int st)) s9) := by
  have hs := sizeLine_eq
  have hv : v < names.length := by omega
  simp [r_rw3, rwE, sFrz, wCall]
  refine ⟨_, atI_strs hv, _, atI_strs hu, names[v], names[u], _, st, rfl, hn.ok _ (List.getElem_mem hv), hn.ok _ (List.getElem_mem hu), by simpa using h4, fun ts ht hlen hd => ?_⟩
  have hne : names[v] ≠ names[u] := fun z => by have := (List.getElem_inj hn.nd).mp z; omega
  have hlm : ts.length ≤ m := by
    refine Nat.le_trans hlen ?_
    rw [hm]
    by_cases h7 : names.length > 7
    · rw [if_pos h7, if_neg (hst h7)]; omega
    · rw [if_neg h7]; split <;> omega
  have hm4 : m ≤ 4 := by rw [hm]; split <;> omega
  have hmul : m * P.length ≤ 4 * 28 := Nat.mul_le_mul hm4 hPl
  have rle := R.le
  simp only [List.length_map, List.length_range] at ht
  dsimp only
  rw [plus_tsL]
  refine ⟨by omega, q (acc ++ ts) _ (R.step hn hvu hu hv hP ht hlm fun b hb => ?_)⟩
  have h := hd hne b
  have e : ((List.range c).map (cd4 L v u)).getD b 0 = cd4 L v u b := by simp [hb]
  rw [e] at h
  rw [h.1, h.2]
  unfold cd4
  cases L b v u <;> cases L b u v <;> decide
theorem go_rw2 {Z : Pd} {s7 s8 s9 : Sl} (hl : ∀ x ∈ l, 0 ≤ x ∧ x < 1000) (h40 : l.length = 40) (hn : NamesOk names) (h4 : c ≤ 4) (hvu : v < u) (hu : u < names.length) (hm : m = if names.length > 7 then 3 else 4) (R : RW names c L m P acc) (hP : (v, u) ∉ P) (hPl : P.length ≤ 28)
    (q : ∀ acc' s6 s8, RW names c L m (P ++ [(v, u)]) acc' → Z.nx (rwE names c L l acc' (.da (.int u)) (.da (.int v)) s6 s7 s8 s9)) : r_rw2 Z (rwE names c L l acc (.da (.int u)) (.da (.int v)) (.ow (iL ((List.range c).map (cd4 L v u)))) s7 s8 s9) := by
  have hi8 := hn.hi
  have ht := tri_ix u (by omega)
  have cm : CMul (u : Int) ((u : Int) - 1) := .inl ⟨by omega, by omega⟩
  have cd : CDiv ((u : Int) * ((u : Int) - 1)) 2 := ⟨by omega, by omega⟩
  have ei : (8 : Int) + (u : Int) * ((u : Int) - 1) / 2 + (v : Int) = ((8 + u * (u - 1) / 2 + v : Nat) : Int) := by rw [ht.1]; omega
  have ex : ∃ x, atI l ((8 + u * (u - 1) / 2 + v : Nat) : Int) = some x := ⟨_, atI_int (by omega) (by omega)⟩
  obtain ⟨x, ex⟩ := ex
  have main : ∀ st : Int, (names.length > 7 → st ≠ 1) → ∀ Z2 : Pd, Z2.nx = Z.nx → r_rw3 Z2 (rwE names c L l acc (.da (.int u)) (.da (.int v)) (.ow (iL ((List.range c).map (cd4 L v u)))) s7 (.da (.int st)) s9) := fun st hst Z2 hz => go_rw3 hn h4 hvu hu hm R hP hPl hst fun acc' s6 R' => by
    rw [hz]
    exact q _ _ _ R'
  simp only [r_rw2]
  simp [rwE, cm, cd]
  rw [ei]
  refine ⟨x, ex, ?_⟩
  by_cases h7 : 7 < names.length
  · refine .inr ⟨by omega, ?_⟩
    by_cases hst : x % 4 = 1
    · exact .inr ⟨hst, main 0 (fun _ => by omega) _ rfl⟩
    · exact .inl ⟨hst, main _ (fun _ => hst) _ rfl⟩
  · exact .inl ⟨by omega, main _ (fun h => absurd h h7) _ rfl⟩
theorem go_rw1 {Z : Pd} {s6 s7 s8 s9 : Sl} (hl : ∀ x ∈ l, 0 ≤ x ∧ x < 1000) (h40 : l.length = 40) (hn : NamesOk names) (h4 : c ≤ 4) (hvu : v < u) (hu : u < names.length) (hm : m = if names.length > 7 then 3 else 4) (R : RW names c L m P acc) (hP : (v, u) ∉ P) (hPl : P.length ≤ 28)
    (q : ∀ acc' s6 s7 s8, RW names c L m (P ++ [(v, u)]) acc' → Z.nx (rwE names c L l acc' (.da (.int u)) (.da (.int v)) s6 s7 s8 s9)) : r_rw1 Z (rwE names c L l acc (.da (.int u)) (.da (.int v)) s6 s7 s8 s9) := by
  have hs := sizeLine_eq
  have hv : v < names.length := by omega
  have et : (tabF names.length c L).map l2 = (List.range c).map fun b => l2 ((List.range names.length).map fun u => rowF names.length (L b u)) := by
    unfold tabF
    rw [List.map_map]
    rfl
  have e4 : ∀ (p q : Bool), atI [D.int 0, D.int 2, D.int 3, D.int 1] ((if p = true then 1 else 0) + 2 * (if q = true then 1 else 0)) = some (.int (if p = true then (if q = true then 1 else 2) else (if q = true then 3 else 0))) := by
    intro p q
    cases p <;> cases q <;> rfl
  simp only [r_rw1]
  simp [rwE, sFor]
  rw [et]
  refine for_fold (List.range c) (fun b => l2 ((List.range names.length).map fun u => rowF names.length (L b u))) (fun pre x => pre ++ [x]) (fun pre ρ => ∃ s7, ρ = rwE names c L l acc (.da (.int u)) (.da (.int v)) (.ow (iL (pre.map (cd4 L v u)))) s7 s8 s9) [] (fun pre b post ρ N e ⟨s7, er⟩ hN => ?_) ⟨s7, rfl⟩ fun ρ ⟨s7, er⟩ => ?_
  · rw [foldl_snoc, List.nil_append] at er hN
    rw [er]
    have hb := range_ix e
    have m1 := row_dec (n := names.length) (p := L b v) hu
    have m2 := row_dec (n := names.length) (p := L b u) hv
    simp [rwE, sApp, oIn_iL, row_at hu, row_at hv, m1, m2]
    refine ⟨_, rfl, by omega, .inl ⟨by omega, by first | omega | (split <;> omega)⟩, _, e4 _ _, by simp; omega, hN _ ⟨.da (l2 ((List.range names.length).map fun u => rowF names.length (L b u))), ?_⟩⟩
    simp [rwE, iL, cd4]
  · rw [foldl_snoc, List.nil_append] at er
    rw [er]
    exact go_rw2 hl h40 hn h4 hvu hu hm R hP hPl fun acc' s6 s8 R' => q _ _ _ _ R'
theorem go_rw4 {s4 s5 s6 s7 s8 s9 : Sl} (hl : ∀ x ∈ l, 0 ≤ x ∧ x < 1000) (h40 : l.length = 40) (hn : NamesOk names) (h1 : 1 ≤ c) (h4 : c ≤ 4) (h0 : ∀ b u, L b u u = false) (hm : m = if names.length > 7 then 3 else 4) (R : RW names c L m (codePairs names.length) acc)
    (q : ∀ ts, TiesOk names c ts → nextsT names ts c = tabF names.length c L → Q false (tsL ts)) : r_rw4 (Zd xc Q) (rwE names c L l acc s4 s5 s6 s7 s8 s9) := by
  have hs := sizeLine_eq
  have hi8 := hn.hi
  have hx : ∀ i : Nat, i < 40 → ∃ x, atI l (i : Int) = some x ∧ 0 ≤ x ∧ x < 1000 := fun i hi => by
    refine ⟨l[i], ?_, hl _ (List.getElem_mem (by omega))⟩
    rw [atI_at (by omega) (by omega), Int.toNat_natCast, List.getElem?_eq_getElem (by omega)]
  obtain ⟨x0, e0, a0, b0⟩ := hx 0 (by omega)
  obtain ⟨x1, e1, a1, b1⟩ := hx 1 (by omega)
  have e0' : atI l 0 = some x0 := e0
  have e1' : atI l 1 = some x1 := e1
  have plen := pairs_len names.length hi8
  have h3 : ∀ u : Nat, u ≤ 8 → u * (u - 1) / 2 ≤ 28 ∧ (u ≤ 7 → u * (u - 1) / 2 ≤ 21) := by decide
  have h3 := h3 _ hi8
  have tot : acc.length ≤ 84 := by
    refine Nat.le_trans R.le ?_
    rw [hm, plen]
    split
    · have := h3.1; omega
    · have := h3.2 (by omega); omega
  have sl : ∀ {lo hi : Option Int} {P : D → Prop}, oSl (tsL acc) lo hi P = P (tsL (cutA acc lo hi)) := by
    intro lo hi P
    unfold tsL
    rw [oSl_l, cutD_map]
  have nz : CDiv x0 ((acc.length : Int) + 1) := ⟨by omega, by omega⟩
  simp only [r_rw4]
  have ln : ∀ {P : D → Prop}, oLen [tsL acc] P = P (.int acc.length) := by
    intro P
    unfold tsL
    simp
  simp [rwE, e0', e1', sl, nz, ln, wSl, woS, woN]
  obtain ⟨k, hk⟩ : ∃ k : Nat, x0 % ((acc.length : Int) + 1) = k := ⟨(x0 % ((acc.length : Int) + 1)).toNat, by
    have := Int.emod_nonneg x0 (show (acc.length : Int) + 1 ≠ 0 by omega)
    omega⟩
  obtain ⟨j, hj⟩ : ∃ j : Nat, x1 % 9 = j := ⟨(x1 % 9).toNat, by omega⟩
  have hk2 : k ≤ acc.length := by
    have := Int.emod_lt_of_pos x0 (show (0 : Int) < (acc.length : Int) + 1 by omega)
    omega
  rw [hk, hj, cut_drop hk2, cut_take, cut_take]
  have l1 : (acc.drop k).length + (acc.take k).length = acc.length := by simp; omega
  have l2 : (acc.take j).length ≤ 8 := by simp; omega
  refine ⟨by omega, by omega, q _ ⟨by simp only [List.length_append]; omega, fun t ht => ?_⟩ ?_⟩
  · refine R.ok t ?_
    simp only [List.mem_append] at ht
    rcases ht with h | h | h
    · exact List.mem_of_mem_drop h
    · exact List.mem_of_mem_take h
    · exact List.mem_of_mem_take h
  · refine tab_congr fun b i v hb hi hv => ?_
    unfold psgOf
    have g1 : names.getD i "" = names[i] := by simp [hi]
    have g2 : names.getD v "" = names[v] := by simp [hv]
    rw [g1, g2, leads_app, leads_app]
    have h := R.ld b i v hb hi hv
    have hL : leads acc b names[i] names[v] = L b i v := by
      rw [h]
      by_cases e : i = v
      · subst e
        rw [h0]; rfl
      · have : (min i v, max i v) ∈ codePairs names.length := pair_mem.mpr ⟨by omega, by omega⟩
        simp [this]
    rw [← hL]
    have d : leads acc b names[i] names[v] = (leads (acc.take k) b names[i] names[v] || leads (acc.drop k) b names[i] names[v]) := by rw [← leads_app, List.take_append_drop]
    have d2 : leads acc b names[i] names[v] = (leads (acc.take j) b names[i] names[v] || leads (acc.drop j) b names[i] names[v]) := by rw [← leads_app, List.take_append_drop]
    revert d d2
    cases leads acc b names[i] names[v] <;> cases leads (acc.take k) b names[i] names[v] <;> cases leads (acc.drop k) b names[i] names[v] <;> cases leads (acc.take j) b names[i] names[v] <;> cases leads (acc.drop j) b names[i] names[v] <;> decide
theorem p_law_rewritten (xc : XC) (ds : List D) (Q : Bool → D → Prop) (h : wf_law_rewritten xc ds Q) : b_law_rewritten (Zd xc Q) (ds.map .da ++ List.replicate (10 - ds.length) .no) := by
  obtain ⟨names, c, L, l, rfl, hn, h1, h4, h0, hl, h40, q⟩ := h
  have hs := sizeLine_eq
  have hi8 := hn.hi
  obtain ⟨m, hm⟩ : ∃ m : Nat, m = if names.length > 7 then 3 else 4 := ⟨_, rfl⟩
  have e0 : D.lst [] = tsL [] := rfl
  have h3 : ∀ u : Nat, u ≤ 8 → u * (u - 1) / 2 ≤ 28 := by decide
  rw [rewritten_eq]
  simp [sFor]
  rw [e0]
  refine ⟨by omega, ?_⟩
  refine for_rng (fun u ρ => ∃ acc s4 s5 s6 s7 s8, ρ = rwE names c L l acc s4 s5 s6 s7 s8 .no ∧ RW names c L m (codePairs u) acc) (fun u ρ N hu ⟨acc, s4, s5, s6, s7, s8, e, R⟩ hN => ?_) (fun ρ ⟨acc, s4, s5, s6, s7, s8, e, R⟩ => ?_) ⟨[], .no, .no, .no, .no, .no, rfl, ⟨by simp, by simp, fun b i j hb hi hj => by simp [leads, codePairs]⟩⟩
  · rw [e]
    simp [rwE, sFor]
    refine ⟨by omega, ?_⟩
    refine for_rng (fun v ρ => ∃ acc s5 s6 s7 s8, ρ = rwE names c L l acc (.da (.int u)) s5 s6 s7 s8 .no ∧ RW names c L m (codePairs u ++ (List.range v).map fun v => (v, u)) acc) (fun v ρ N2 hv ⟨acc, s5, s6, s7, s8, e, R⟩ hN2 => ?_) (fun ρ ⟨acc, s5, s6, s7, s8, e, R⟩ => ?_) ⟨acc, s5, s6, s7, s8, rfl, by simpa using R⟩
    · rw [e]
      have hP : (v, u) ∉ codePairs u ++ (List.range v).map fun v => (v, u) := by
        rw [List.mem_append]
        rintro (z | z)
        · have := pair_mem.mp z; omega
        · obtain ⟨w, hw, ez⟩ := List.mem_map.mp z
          have := List.mem_range.mp hw
          have := congrArg Prod.fst ez
          simp at this
          omega
      have hPl : (codePairs u ++ (List.range v).map fun v => (v, u)).length ≤ 28 := by
        rw [List.length_append, pairs_len u (by omega), List.length_map, List.length_range]
        have h3 : ∀ u : Nat, u < 8 → u * (u - 1) / 2 + u ≤ 28 := by decide
        have := h3 u (by omega)
        omega
      simp [rwE]
      refine go_rw1 hl h40 hn h4 hv hu hm R hP hPl fun acc' s6 s7 s8 R' => hN2 _ ⟨acc', _, _, _, _, rfl, ?_⟩
      rw [List.range_succ, List.map_append, ← List.append_assoc]
      exact R'
    · rw [e]
      rw [← pairs_succ] at R
      exact hN _ ⟨acc, _, _, _, _, _, rfl, R⟩
  · rw [e]
    exact go_rw4 hl h40 hn h1 h4 h0 hm R q
end
end Tw.S

namespace Tw.S
open PySem PySem.Spec L2 PyProof.Rows Tw
@[simp] theorem list_sL {l : List Str} {Q : D → Prop} : oList [sL l] Q = Q (sL l) := rfl
theorem flip_tab {n c b u v : Nat} {L : Psg} (hb : b < c) (hu : u < n) (hv : v < n) : tabF n c L ≠ tabF n c (flip L b u v) := fun e => by
  have e1 := congrArg (fun t => atI t (b : Int)) e
  simp only [tab_at hb, Option.some.injEq] at e1
  have e2 := congrArg (fun t => atI t (u : Int)) e1
  simp only [row_at hu, Option.some.injEq] at e2
  have e3 := row_dec (n := n) (p := L b u) hv
  have e4 := row_dec (n := n) (p := flip L b u v b u) hv
  rw [← e2, e3] at e4
  unfold flip at e4
  rw [if_pos ⟨rfl, rfl, rfl⟩] at e4
  revert e4
  cases L b u v <;> decide
theorem flip_diag {b u v : Nat} {L : Psg} (h : ∀ b u, L b u u = false) (ne : u ≠ v) : ∀ b' u', flip L b u v b' u' u' = false := fun b' u' => by
  unfold flip
  rw [if_neg fun z => ne (z.2.1.symm.trans z.2.2), h]
theorem p_law_bent_differs (C : Addr) (xc : XC) (ds : List D) (Q : Bool → D → Prop) (h : wf_law_bent_differs C xc ds Q) : b_law_bent_differs C (Zd xc Q) (ds.map .da ++ List.replicate (9 - ds.length) .no) := by
  obtain ⟨names, c, L, l, rfl, hn, h1, h4, h0, hl, h40, q⟩ := h
  have hs := sizeLine_eq
  have lo := hn.lo
  have hi8 := hn.hi
  have hx : ∀ i : Nat, i < 40 → ∃ x, atI l (i : Int) = some x ∧ 0 ≤ x ∧ x < 1000 := fun i hi => by
    refine ⟨l[i], ?_, hl _ (List.getElem_mem (by omega))⟩
    rw [atI_at (by omega) (by omega), Int.toNat_natCast, List.getElem?_eq_getElem (by omega)]
  obtain ⟨x2, e2, a2, b2⟩ := hx 2 (by omega)
  obtain ⟨x3, e3, a3, b3⟩ := hx 3 (by omega)
  obtain ⟨x4, e4, a4, b4⟩ := hx 4 (by omega)
  have e2' : atI l 2 = some x2 := e2
  have e3' : atI l 3 = some x3 := e3
  have e4' : atI l 4 = some x4 := e4
  have d2 : CDiv x2 (names.length : Int) := ⟨by omega, by omega⟩
  have d4 : CDiv x4 (c : Int) := ⟨by omega, by omega⟩
  by_cases hn1 : names.length = 1
  · simp [b_law_bent_differs]
    exact .inr ⟨by omega, q⟩
  have d3 : CDiv x3 ((names.length : Int) - 1) := ⟨by omega, by omega⟩
  obtain ⟨u, hu⟩ : ∃ u : Nat, x2 % (names.length : Int) = u := ⟨(x2 % (names.length : Int)).toNat, by
    have := Int.emod_nonneg x2 (show (names.length : Int) ≠ 0 by omega)
    omega⟩
  have hul : u < names.length := by
    have := Int.emod_lt_of_pos x2 (show (0 : Int) < names.length by omega)
    omega
  obtain ⟨w, hw⟩ : ∃ w : Nat, x3 % ((names.length : Int) - 1) = w := ⟨(x3 % ((names.length : Int) - 1)).toNat, by
    have := Int.emod_nonneg x3 (show (names.length : Int) - 1 ≠ 0 by omega)
    omega⟩
  have hwl : w + 1 < names.length := by
    have := Int.emod_lt_of_pos x3 (show (0 : Int) < (names.length : Int) - 1 by omega)
    omega
  have d5 : CDiv ((u : Int) + 1 + w) (names.length : Int) := ⟨by omega, by omega⟩
  obtain ⟨v, hv⟩ : ∃ v : Nat, ((u : Int) + 1 + w) % (names.length : Int) = v ∧ v < names.length ∧ u ≠ v := by
    by_cases hc : u + 1 + w < names.length
    · refine ⟨u + 1 + w, ?_, hc, by omega⟩
      rw [Int.emod_eq_of_lt (by omega) (by omega)]
      omega
    · refine ⟨u + 1 + w - names.length, ?_, by omega, by omega⟩
      have : (u : Int) + 1 + w = ((u + 1 + w - names.length : Nat) : Int) + names.length := by omega
      rw [this, Int.add_emod_right, Int.emod_eq_of_lt (by omega) (by omega)]
  obtain ⟨hv, hvl, hne⟩ := hv
  obtain ⟨b, hb⟩ : ∃ b : Nat, x4 % (c : Int) = b := ⟨(x4 % (c : Int)).toNat, by
    have := Int.emod_nonneg x4 (show (c : Int) ≠ 0 by omega)
    omega⟩
  have hbl : b < c := by
    have := Int.emod_lt_of_pos x4 (show (0 : Int) < c by omega)
    omega
  simp [b_law_bent_differs, e2', e3', e4', d2, d3, d4, hu, hw, d5, hv, hb, wCall]
  refine .inl ⟨by omega, by omega, by omega, by omega, by omega, names.length, c, b, u, v, L, rfl, hi8, h4, hbl, hul, hvl, ?_⟩
  simp [wMakeK, gD_K_Web_2_beats, wCall]
  have fd := flip_diag (b := b) h0 hne
  have ft := flip_tab (L := L) hbl hul hvl
  generalize flip L b u v = M at *
  refine ⟨names, c, M, l, rfl, hn, h1, h4, fd, hl, h40, fun ts ht en => ?_⟩
  refine ⟨false, false, names, ts, c, rfl, hn, ht, h1, h4, ?_⟩
  have ew : D.obj C [("places", .xtp (names.map .str)), ("beats", .int c), ("_nexts", t3 (nextsT names ts c)), ("_steps", t3 (stepsT (nextsT names ts c)))] = webP C names c M := by
    rw [en]
    rfl
  dsimp only
  rw [ew]
  refine ⟨names, c, tabF names.length c L, names, c, tabF names.length c M, ?_, hn, hn, .inr ⟨rfl, ⟨_, rfl, rfl⟩, names, c, M, rfl, hi8, h4, names, c, M, rfl, hn, h4, fd, q⟩⟩
  have : (decide (names = names) && decide (tabF names.length c L = tabF names.length c M)) = false := by simp [ft]
  rw [this]
  rfl
end Tw.S

namespace Tw.S
open PySem PySem.Spec L2 PyProof.Rows Tw
theorem noLs_map {α : Type} {f : α → D} (h : ∀ x, (f x).noL = true) : ∀ l : List α, D.noLs (l.map f) = true
  | [] => rfl
  | x :: l => by rw [List.map_cons, D.noLs, h x, noLs_map h l]; rfl
theorem noL_tI (l : List Int) : (tI l).noL = true := by
  unfold tI
  rw [D.noL]
  exact noLs_map (fun _ => rfl) l
theorem noL_t2 (l : List (List Int)) : (t2 l).noL = true := by
  unfold t2
  rw [D.noL]
  exact noLs_map noL_tI l
theorem noL_t3 (l : List (List (List Int))) : (t3 l).noL = true := by
  unfold t3
  rw [D.noL]
  exact noLs_map noL_t2 l
theorem noL_web (names : List Str) (c : Nat) (nx : List (List (List Int))) : D.noLf [("places", .xtp (names.map .str)), ("beats", .int c), ("_nexts", t3 nx), ("_steps", t3 (stepsT nx))] = true := by
  simp only [D.noLf, noL_t3, Bool.and_true]
  rw [D.noL, D.noL]
  exact Bool.and_eq_true_iff.mpr ⟨noLs_map (fun _ => rfl) names, rfl⟩
@[simp] theorem sl_sL {l : List Str} {lo hi : Option Int} {Q : D → Prop} : oSl (sL l) lo hi Q = Q (sL (cutA l lo hi)) := by
  unfold sL
  rw [oSl_l, cutD_map]
@[simp high] theorem plus_sL {a b : List Str} {Q : D → Prop} : oPlus (sL a) (sL b) Q = (a.length + b.length ≤ sizeLine ∧ Q (sL (a ++ b))) := by
  unfold sL
  simp
@[simp] theorem list_tsL {l : List Tie} {Q : D → Prop} : oList [tsL l] Q = Q (tsL l) := rfl
theorem TiesOk.names {names names' : List Str} {c : Int} {ts : List Tie} (h : TiesOk names c ts) (s : ∀ x ∈ names, x ∈ names') : TiesOk names' c ts :=
  ⟨h.le, fun t ht => ⟨s _ (h.ok t ht).a, s _ (h.ok t ht).b, (h.ok t ht).ne, (h.ok t ht).w, (h.ok t ht).at0, (h.ok t ht).at_⟩⟩
theorem isSet_le {l : List Int} {n m : Int} (h : isSet l n = true) (hm : n ≤ m) : isSet l m = true := by
  unfold isSet at *
  rw [Bool.and_eq_true] at *
  refine ⟨List.all_eq_true.mpr fun x hx => ?_, h.2⟩
  have := List.all_eq_true.mp h.1 x hx
  simp at this ⊢
  omega
theorem TiesOk.beats {names : List Str} {c d : Int} {ts : List Tie} (h : TiesOk names c ts) (s : c ≤ d) : TiesOk names d ts :=
  ⟨h.le, fun t ht => ⟨(h.ok t ht).a, (h.ok t ht).b, (h.ok t ht).ne, (h.ok t ht).w, (h.ok t ht).at0, isSet_le (h.ok t ht).at_ s⟩⟩
theorem rot_ok {names : List Str} (hn : NamesOk names) : NamesOk (names.drop 1 ++ names.take 1) := by
  have p : (names.drop 1 ++ names.take 1).Perm names := by
    have := List.perm_append_comm (l₁ := names.drop 1) (l₂ := names.take 1)
    rwa [List.take_append_drop] at this
  exact ⟨by rw [p.length_eq]; exact hn.lo, by rw [p.length_eq]; exact hn.hi, fun x hx => hn.nm x (p.mem_iff.mp hx), p.nodup_iff.mpr hn.nd⟩
theorem rot_ne {names : List Str} (hn : NamesOk names) (h : 1 < names.length) : names ≠ names.drop 1 ++ names.take 1 := by
  have nd := hn.nd
  match names, h with
  | x :: y :: r, _ =>
    intro e
    simp at e
    rw [List.nodup_cons] at nd
    exact nd.1 (by rw [e.1]; simp)
def one (c : Nat) : Str := ⟨#[c]⟩
theorem one_inj {c d : Nat} (h : one c = one d) : c = d := by
  have := congrArg (fun z => z.cps.toList) h
  simpa [one] using this
theorem pigeon {β : Type} [BEq β] [LawfulBEq β] (f : Nat → β) (hf : ∀ a b, f a = f b → a = b) : ∀ (l : List Nat) (m : List β), l.Nodup → (∀ x ∈ l, f x ∈ m) → l.length ≤ m.length
  | [], m, _, _ => Nat.zero_le _
  | x :: l, m, nd, h => by
    rw [List.nodup_cons] at nd
    have hx := h x (by simp)
    have := pigeon f hf l (m.erase (f x)) nd.2 fun y hy => (List.mem_erase_of_ne fun e => nd.1 (hf y x e ▸ hy)).mpr (h y (by simp [hy]))
    rw [List.length_erase_of_mem hx] at this
    have := List.length_pos_of_mem hx
    rw [List.length_cons]
    omega
theorem free_letter {names : List Str} (hn : NamesOk names) : ∃ c r, (letters.cps.toList.filter fun c => !decide (one c ∈ names)) = c :: r ∧ c ∈ letters.cps.toList ∧ one c ∉ names := by
  cases e : letters.cps.toList.filter fun c => !decide (one c ∈ names) with
  | nil =>
    have h1 : ∀ c ∈ letters.cps.toList, one c ∈ names := fun c hc => by
      have := List.filter_eq_nil_iff.mp e c hc
      simpa using this
    have nd : letters.cps.toList.Nodup := by rw [ll_eq]; decide
    have := pigeon one (fun a b => one_inj) _ names nd h1
    have l26 : letters.cps.toList.length = 26 := by rw [ll_eq]; rfl
    have := hn.hi
    omega
  | cons c r =>
    have hc : c ∈ letters.cps.toList.filter fun c => !decide (one c ∈ names) := by rw [e]; simp
    obtain ⟨h1, h2⟩ := List.mem_filter.mp hc
    exact ⟨c, r, rfl, h1, by simpa using h2⟩
theorem one_name {c : Nat} (h : c ∈ letters.cps.toList) : isName (one c) = true := by
  have l1 : (one c).length = 1 := rfl
  unfold isName
  rw [l1]
  simp [one]
  simpa using h
theorem fresh_ok {names : List Str} {f : Str} (hn : NamesOk names) (hf : isName f = true) (hm : f ∉ names) : NamesOk (f :: names.drop 1) := by
  have hs := List.drop_sublist 1 names
  refine ⟨by simp, by have := hn.hi; have := hn.lo; simp; omega, fun x hx => ?_, ?_⟩
  · rcases List.mem_cons.mp hx with rfl | hx
    · exact hf
    · exact hn.nm x (hs.subset hx)
  · exact List.nodup_cons.mpr ⟨fun z => hm (hs.subset z), hn.nd.sublist hs⟩
def swp (n0 f : Str) (z : Str) : Str := if z = n0 then f else z
def swT (n0 f : Str) (t : Tie) : Tie := ⟨swp n0 f t.a, swp n0 f t.b, t.w, t.at_⟩
theorem swap_ok {names : List Str} {f : Str} {c : Int} {ts : List Tie} (hn : NamesOk names) (hm : f ∉ names) (h : TiesOk names c ts) : TiesOk (f :: names.drop 1) c (ts.map (swT (names.getD 0 "") f)) := by
  have lo := hn.lo
  obtain ⟨n0, r, e⟩ : ∃ n0 r, names = n0 :: r := by
    cases names with
    | nil => simp at lo
    | cons x r => exact ⟨x, r, rfl⟩
  subst e
  have mem : ∀ z ∈ n0 :: r, swp n0 f z ∈ f :: r := fun z hz => by
    unfold swp
    split
    · simp
    · rename_i hne
      rcases List.mem_cons.mp hz with rfl | hz
      · exact absurd rfl hne
      · simp [hz]
  refine ⟨by rw [List.length_map]; exact h.le, fun t ht => ?_⟩
  obtain ⟨s, hs, rfl⟩ := List.mem_map.mp ht
  have ok := h.ok s hs
  refine ⟨mem _ ok.a, mem _ ok.b, ?_, ok.w, ok.at0, ok.at_⟩
  show swp n0 f s.a ≠ swp n0 f s.b
  unfold swp
  have ha : s.a ≠ f := fun z => hm (z ▸ ok.a)
  have hb : s.b ≠ f := fun z => hm (z ▸ ok.b)
  by_cases h1 : s.a = n0
  · rw [if_pos h1, if_neg fun z => ok.ne (h1.trans z.symm)]
    exact hb.symm
  · rw [if_neg h1]
    split
    · exact ha
    · exact ok.ne
def r_od4 (C_Web : Addr) : Ws := (sRet (wCall (wf_law_equal C_Web) [] (waCons (wVar 0) (waCons (wMakeKS C_Web 2 (List.length (α := Str) ["beats"]) gD_K_Web_2_beats wi_Web (waCons (w2 oPlus (wLst (waCons (wVar 4) waNil)) (wSl oSl (wVar 1) (woS (wC (.int 1))) woN)) (waCons (wPeek 5) waNil)) (waCons (wVar 3) waNil)) (waCons (wC (.bl false)) waNil)))))
def r_od3 (C_Web : Addr) : Ws := (sSeq (sSet 4 (w2 oIx (wLc (wiStr (wC (.str "abcdefghijklmnopqrstuvwxyz"))) (gSet 10) (wB (w2 (oIn true) (wVar 10) (wVar 1))) (wVar 10) [10]) (wC (.int 0))))
  (sSeq (sSetO 5 (wLst waNil))
  (sSeq (sFor (wiS (wVar 2)) (gTupD 4 (gsCons (gSet 6) (gsCons (gSet 7) (gsCons (gSet 8) (gsCons (gSet 9) gsNil)))))
  (sSeq (sIf (wB (w2 oEq (wVar 6) (w2 oIx (wVar 1) (wC (.int 0)))))
  (sSet 6 (wVar 4))
  sNil)
  (sSeq (sIf (wB (w2 oEq (wVar 7) (w2 oIx (wVar 1) (wC (.int 0)))))
  (sSet 7 (wVar 4))
  sNil)
  (sApp 5 (wTup (waCons (wVar 6) (waCons (wVar 7) (waCons (wVar 8) (waCons (wVar 9) waNil)))))))))
  (r_od4 C_Web))))
def r_od2 (C_Web : Addr) : Ws := (sSeq (sIf (wAnd (wB (w2 oLt (wVar 3) (wC (.int 4)))) (wNot (wTru (wCall (wf_law_equal C_Web) [] (waCons (wVar 0) (waCons (wMakeK C_Web 2 (List.length (α := Str) ["beats"]) gD_K_Web_2_beats wi_Web (waCons (wN oList (waCons (wVar 1) waNil)) (waCons (wN oList (waCons (wVar 2) waNil)) waNil)) (waCons (w2 oPlus (wVar 3) (wC (.int 1))) waNil)) (waCons (wC (.bl false)) waNil)))))))
  (sRet (wC (.bl false)))
  sNil) (r_od3 C_Web))
theorem others_eq (C_Web : Addr) : b_law_others_differ C_Web = (sSeq (sIf (wAnd (wB (w2 oGt (wN oLen (waCons (wVar 1) waNil)) (wC (.int 1)))) (wNot (wTru (wCall (wf_law_equal C_Web) [] (waCons (wVar 0) (waCons (wMakeK C_Web 2 (List.length (α := Str) ["beats"]) gD_K_Web_2_beats wi_Web (waCons (w2 oPlus (wSl oSl (wVar 1) (woS (wC (.int 1))) woN) (wSl oSl (wVar 1) woN (woS (wC (.int 1))))) (waCons (wN oList (waCons (wVar 2) waNil)) waNil)) (waCons (wVar 3) waNil)) (waCons (wC (.bl false)) waNil)))))))
  (sRet (wC (.bl false)))
  sNil) (r_od2 C_Web)) := rfl
section
variable {C : Addr} {xc : XC} {Q : Bool → D → Prop} {names : List Str} {ts : List Tie} {c : Nat}
def odE (C : Addr) (names : List Str) (ts : List Tie) (c : Nat) (a b d e f g h : Sl) : Evn := [.da (webD C names c (nextsT names ts c)), .da (sL names), .da (tsL ts), .da (.int c), a, b, d, e, f, g, h]
theorem go_od4 {f : Str} {s6 s7 s8 s9 s10 : Sl} (hn : NamesOk names) (ht : TiesOk names c ts) (h1 : 1 ≤ c) (h4 : c ≤ 4) (hf : isName f = true) (hm : f ∉ names) (q : Q false (.bl true)) : r_od4 C (Zd xc Q) (odE C names ts c (.da (.str f)) (.ow (tsL (ts.map (swT (names.getD 0 "") f)))) s6 s7 s8 s9 s10) := by
  have hs := sizeLine_eq
  have hi8 := hn.hi
  have lo := hn.lo
  have e1 : D.lst [D.str f] = sL [f] := rfl
  have c1 : cutA names (some 1) none = names.drop 1 := cut_drop (k := 1) (by omega)
  have g0 : names.getD 0 "" = names[0] := by
    have h : 0 < names.length := by omega
    simp [h]
  have h2 := fresh_ok hn hf hm
  have h3 := swap_ok hn hm ht
  generalize ts.map (swT (names.getD 0 "") f) = ts' at *
  have ne : decide (names = f :: names.drop 1) = false := decide_eq_false fun e => hm (by rw [e]; simp)
  rw [List.drop_one] at *
  simp [r_od4, odE, wCall, wMakeKS, gD_K_Web_2_beats, wSl, woS, woN, e1, c1, wPeek]
  refine ⟨by omega, by omega, false, false, f :: names.tail, ts', c, rfl, h2, h3, h1, h4, noL_web _ _ _, names, c, nextsT names ts c, f :: names.tail, c, nextsT (f :: names.tail) ts' c, ?_, hn, h2, q⟩
  rw [ne]
  rfl
theorem go_od3 {s4 s5 s6 s7 s8 s9 s10 : Sl} (hn : NamesOk names) (ht : TiesOk names c ts) (h1 : 1 ≤ c) (h4 : c ≤ 4) (q : Q false (.bl true)) : r_od3 C (Zd xc Q) (odE C names ts c s4 s5 s6 s7 s8 s9 s10) := by
  have hs := sizeLine_eq
  obtain ⟨l, r, ef, hl, hm⟩ := free_letter hn
  have lo := hn.lo
  have a0 : atI names 0 = some names[0] := atI_strs (i := 0) (by omega)
  have g0 : names.getD 0 "" = names[0] := by
    have h : 0 < names.length := by omega
    simp [h]
  have o0 := hn.ok _ (List.getElem_mem (show 0 < names.length by omega))
  have hf := one_name hl
  have of := (name_ok hf).1
  simp [r_od3, odE, wiStr, signsD]
  refine lc_ofF letters.cps.toList (fun c => .str ⟨#[c]⟩) (fun c => !decide (one c ∈ names)) (fun c => .str (one c)) (fun c hc k1 k2 g1 g2 => ?_) (by rw [ll_eq]; simp; omega) ?_
  · have oc := (name_ok (one_name hc)).1
    have ei : ∀ {P : D → Prop}, oIn true (.str (one c)) (sL names) P = P (.bl (!decide (one c ∈ names))) := by
      intro P
      unfold sL
      rw [oIn_s oc hn.ok]
      rfl
    have e1 : (⟨#[c]⟩ : Str) = one c := rfl
    simp [e1, ei]
    by_cases h : one c ∈ names
    · exact .inl ⟨h, g2 (by simp [h])⟩
    · exact .inr ⟨h, g1 (by simp [h])⟩
  · rw [ef]
    refine ⟨.str (one l), by rw [List.map_cons]; exact atI_at (l := _ :: _) (by omega) (by simp), ?_⟩
    generalize one l = f at *
    simp [sFor, tsL]
    refine for_fold ts tieD (fun pre t => pre ++ [t]) (fun pre ρ => ∃ s6 s7 s8 s9 s10, ρ = odE C names ts c (.da (.str f)) (.ow (tsL (pre.map (swT (names.getD 0 "") f)))) s6 s7 s8 s9 s10) [] (fun pre t post ρ N e ⟨s6, s7, s8, s9, s10, er⟩ hN => ?_) ⟨s6, s7, s8, s9, _, rfl⟩ fun ρ ⟨s6, s7, s8, s9, s10, er⟩ => ?_
    · rw [foldl_snoc, List.nil_append] at er hN
      rw [er]
      rw [g0] at *
      have hmt : t ∈ ts := by rw [e]; simp
      have ok := ht.ok t hmt
      have oa := hn.ok _ ok.a
      have ob := hn.ok _ ok.b
      have pl : pre.length + 1 ≤ 100 := by
        have h1 := congrArg List.length e
        have h2 := ht.le
        simp at h1
        omega
      have fin : ∀ (a b : Str) (s10 : Sl), a = swp names[0] f t.a → b = swp names[0] f t.b → N
                [Sl.da (webD C names c (nextsT names ts c)), Sl.da (sL names), Sl.da (D.lst (List.map tieD ts)), Sl.da (D.int ↑c), Sl.da (D.str f),
                  Sl.ow (D.lst (List.map (tieD ∘ swT names[0] f) pre ++ [D.tup [D.str a, D.str b, D.str t.w, tI t.at_]])), Sl.da (D.str a), Sl.da (D.str b), Sl.da (D.str t.w), Sl.da (tI t.at_), s10] := fun a b s10 ea eb => hN _ ⟨.da (.str a), .da (.str b), .da (.str t.w), .da (tI t.at_), s10, by
        rw [ea, eb, List.map_append]
        show _ = odE _ _ _ _ _ (Sl.ow (tsL (_ ++ [_]))) _ _ _ _ _
        simp only [odE, tsL, List.map_append, List.map_map]
        rfl⟩
      simp [odE, tieD, gTupD, gsCons, gsNil]
      refine ⟨_, _, ⟨rfl, rfl⟩, _, _, rfl, _, _, rfl, _, _, rfl, rfl, ?_⟩
      simp [a0, oEq_s oa o0, oEq_s ob o0, sApp, tsL]
      by_cases ha : t.a = names[0]
      · refine .inr ⟨ha, ?_⟩
        by_cases hb : t.b = names[0]
        · exact .inr ⟨hb, by omega, by omega, fin _ _ _ (if_pos ha).symm (if_pos hb).symm⟩
        · exact .inl ⟨hb, by omega, by omega, fin _ _ _ (if_pos ha).symm (if_neg hb).symm⟩
      · refine .inl ⟨ha, ?_⟩
        by_cases hb : t.b = names[0]
        · exact .inr ⟨hb, by omega, by omega, fin _ _ _ (if_neg ha).symm (if_pos hb).symm⟩
        · exact .inl ⟨hb, by omega, by omega, fin _ _ _ (if_neg ha).symm (if_neg hb).symm⟩
    · rw [foldl_snoc, List.nil_append] at er
      rw [er]
      exact go_od4 hn ht h1 h4 hf hm q
theorem go_od2 {s4 s5 s6 s7 s8 s9 s10 : Sl} (hn : NamesOk names) (ht : TiesOk names c ts) (h1 : 1 ≤ c) (h4 : c ≤ 4) (q : Q false (.bl true)) : r_od2 C (Zd xc Q) (odE C names ts c s4 s5 s6 s7 s8 s9 s10) := by
  have hs := sizeLine_eq
  have go := go_od3 (C := C) (xc := xc) (Q := Q) (s4 := s4) (s5 := s5) (s6 := s6) (s7 := s7) (s8 := s8) (s9 := s9) (s10 := s10) hn ht h1 h4 q
  have ne : (decide (names = names) && decide (nextsT names ts c = nextsT names ts (c + 1))) = false := by
    have : nextsT names ts c ≠ nextsT names ts (c + 1) := fun e => by
      have := congrArg List.length e
      simp [nextsT, tabF] at this
    simp [this]
  have ec : (c : Int) + 1 = ((c + 1 : Nat) : Int) := by omega
  simp [r_od2, odE, wCall, wMakeK, gD_K_Web_2_beats]
  by_cases h : c < 4
  · refine .inr ⟨by omega, ?_⟩
    rw [ec]
    refine ⟨false, false, names, ts, c + 1, rfl, hn, ht.beats (by omega), by omega, by omega, names, c, nextsT names ts c, names, c + 1, nextsT names ts (c + 1), ?_, hn, hn, .inr ⟨rfl, go⟩⟩
    rw [ne]
    rfl
  · exact .inl ⟨by omega, go⟩
theorem p_law_others_differ (C : Addr) (xc : XC) (ds : List D) (Q : Bool → D → Prop) (h : wf_law_others_differ C xc ds Q) : b_law_others_differ C (Zd xc Q) (ds.map .da ++ List.replicate (11 - ds.length) .no) := by
  obtain ⟨names, ts, c, rfl, hn, ht, h1, h4, q⟩ := h
  have hs := sizeLine_eq
  rw [others_eq]
  have c1 : cutA names (some 1) none = names.drop 1 := cut_drop (k := 1) (by have := hn.lo; omega)
  have c2 : cutA names none (some 1) = names.take 1 := cut_take (k := 1)
  have go := go_od2 (C := C) (xc := xc) (Q := Q) (s4 := .no) (s5 := .no) (s6 := .no) (s7 := .no) (s8 := .no) (s9 := .no) (s10 := .no) hn ht h1 h4 q
  have hi8 := hn.hi
  simp [wCall, wMakeK, gD_K_Web_2_beats, wSl, woS, woN]
  rw [c1, c2]
  by_cases h : 1 < names.length
  · have ne : decide (names = names.drop 1 ++ names.take 1) = false := decide_eq_false (rot_ne hn h)
    have mem : ∀ x ∈ names, x ∈ names.drop 1 ++ names.take 1 := fun x hx => by
      rw [List.mem_append, or_comm, ← List.mem_append, List.take_append_drop]
      exact hx
    refine .inr ⟨by omega, by simp; omega, ?_⟩
    refine ⟨false, false, names.drop 1 ++ names.take 1, ts, c, rfl, rot_ok hn, ht.names mem, h1, h4, names, c, nextsT names ts c, names.drop 1 ++ names.take 1, c, nextsT (names.drop 1 ++ names.take 1) ts c, ?_, hn, rot_ok hn, .inr ⟨rfl, go⟩⟩
    rw [ne]
    rfl
  · exact .inl ⟨by omega, go⟩
end
end Tw.S

namespace Tw.S
open PySem PySem.Spec L2 PyProof.Rows Tw
theorem psg_diag {names : List Str} {c : Int} {ts : List Tie} (h : TiesOk names c ts) : ∀ b u, psgOf names ts b u u = false := fun b u => by
  unfold psgOf leads
  rw [List.any_eq_false]
  intro t ht hl
  have ne := (h.ok t ht).ne
  unfold Tie.leads at hl
  simp only [Bool.and_eq_true, Bool.or_eq_true, beq_iff_eq, decide_eq_true_eq] at hl
  rcases hl.2 with ⟨z1, z2⟩ | ⟨⟨z1, z2⟩, _⟩
  · exact ne (z1.trans z2.symm)
  · exact ne (z2.trans z1.symm)
theorem kt_lead {names : List Str} {c : Nat} {L : Psg} {i j b : Nat} (hi : i < names.length) (hj : j < names.length) (hb : b < c) (h0 : ∀ b u, L b u u = false) (hL : L b i j = true) : ∃ k ∈ ktsP names c L, k.t.leads b (names.getD i "") (names.getD j "") = true := by
  have hne : i ≠ j := fun e => by rw [e, h0] at hL; cases hL
  have pick : ∀ (u v : Nat) (k : KT), u < v → v < names.length → (b : Int) ∈ k.t.at_ → k ∈ [(⟨⟨names.getD u "", names.getD v "", "two", beatsF c fun b => L b u v && L b v u⟩, u, v⟩ : KT), ⟨⟨names.getD u "", names.getD v "", "one", beatsF c fun b => L b u v && !L b v u⟩, u, v⟩, ⟨⟨names.getD v "", names.getD u "", "one", beatsF c fun b => L b v u && !L b u v⟩, v, u⟩] → k ∈ ktsP names c L := fun u v k huv hv hk hm => by
    refine List.mem_flatMap.mpr ⟨u, List.mem_range.mpr (by omega), List.mem_flatMap.mpr ⟨v - (u + 1), List.mem_range.mpr (by omega), ?_⟩⟩
    have e : u + 1 + (v - (u + 1)) = v := by omega
    rw [e]
    refine List.mem_filter.mpr ⟨hm, ?_⟩
    cases h : k.t.at_ with
    | nil => rw [h] at hk; cases hk
    | cons => rfl
  by_cases hij : i < j
  · cases hB : L b j i with
    | true =>
      refine ⟨_, pick i j _ hij hj (mem_beats.mpr ⟨hb, ?_⟩) (List.mem_cons_self ..), ?_⟩
      · simp [hL, hB]
      · simp [Tie.leads, mem_beats, hb, hL, hB]
    | false =>
      refine ⟨_, pick i j _ hij hj (mem_beats.mpr ⟨hb, ?_⟩) (List.mem_cons_of_mem _ (List.mem_cons_self ..)), ?_⟩
      · simp [hL, hB]
      · simp [Tie.leads, mem_beats, hb, hL, hB]
  · have hji : j < i := by omega
    cases hB : L b j i with
    | true =>
      refine ⟨_, pick j i _ hji hi (mem_beats.mpr ⟨hb, ?_⟩) (List.mem_cons_self ..), ?_⟩
      · simp [hL, hB]
      · simp [Tie.leads, mem_beats, hb, hL, hB]
    | false =>
      refine ⟨_, pick j i _ hji hi (mem_beats.mpr ⟨hb, ?_⟩) (List.mem_cons_of_mem _ (List.mem_cons_of_mem _ (List.mem_cons_self ..))), ?_⟩
      · simp [hL, hB]
      · simp [Tie.leads, mem_beats, hb, hL, hB]
theorem ties_nexts {names : List Str} {c : Nat} {L : Psg} (hn : NamesOk names) (h0 : ∀ b u, L b u u = false) : nextsT names (tiesP names c L) c = tabF names.length c L := by
  refine tab_congr fun b i j hb hi hj => ?_
  unfold psgOf leads
  rw [← kts_t, List.any_map]
  have gi : ∀ {k : Nat} (hk : k < names.length), names.getD k "" = names[k] := fun hk => by simp [hk]
  have inj : ∀ {p q : Nat} (hp : p < names.length) (hq : q < names.length), names.getD p "" = names.getD q "" → p = q := fun hp hq e => (List.getElem_inj hn.nd).mp (by rwa [gi hp, gi hq] at e)
  cases hL : L b i j with
  | true =>
    obtain ⟨k, hk, hl⟩ := kt_lead (c := c) hi hj hb h0 hL
    exact List.any_eq_true.mpr ⟨k, hk, hl⟩
  | false =>
    rw [List.any_eq_false]
    intro k hk hl
    have ok := kts_ok [] hk
    simp only [Function.comp, Tie.leads, Bool.and_eq_true, Bool.or_eq_true, beq_iff_eq, decide_eq_true_eq] at hl
    obtain ⟨hat, hl⟩ := hl
    obtain ⟨l1, l2⟩ := ok.l1 b hat
    rw [ok.ea, ok.eb] at hl
    rcases hl with ⟨z1, z2⟩ | ⟨⟨z1, z2⟩, z3⟩
    · rw [inj ok.hu hi z1, inj ok.hv hj z2, hL] at l1
      cases l1
    · rw [inj ok.hu hj z2, inj ok.hv hi z1, hL, z3] at l2
      exact Bool.noConfusion l2
theorem ties_len (names : List Str) (c : Nat) (L : Psg) (h8 : names.length ≤ 8) : (tiesP names c L).length ≤ 84 := by
  have h1 : ∀ u, (rowTies names c L u).length ≤ (names.length - (u + 1)) * 3 := fun u => by
    have := flat_le (List.range (names.length - (u + 1))) (fun i => pairTies names c L u (u + 1 + i)) 3 fun y _ => pair_le _ _ _ _ _
    rw [List.length_range] at this
    exact this
  have h2 : ∀ l : List Nat, (l.flatMap (rowTies names c L)).length ≤ sm l fun u => (names.length - (u + 1)) * 3 := fun l => by
    induction l with
    | nil => exact Nat.le_refl _
    | cons x l ih =>
      rw [List.flatMap_cons, List.length_append, sm_cons]
      have := h1 x
      omega
  refine Nat.le_trans (h2 _) ?_
  have h3 : ∀ n, n ≤ 8 → (sm (List.range n) fun u => (n - (u + 1)) * 3) ≤ 84 := by
    unfold sm
    decide
  exact h3 _ h8
theorem ties_ok {names : List Str} {c : Nat} {L : Psg} (hn : NamesOk names) : TiesOk names c (tiesP names c L) := by
  refine ⟨by have := ties_len names c L hn.hi; omega, fun t ht => ?_⟩
  rw [← kts_t] at ht
  obtain ⟨k, hk, rfl⟩ := List.mem_map.mp ht
  have ok := kts_ok [] hk
  have hu := ok.hu
  have hv := ok.hv
  have gi : ∀ {k : Nat} (hk : k < names.length), names.getD k "" = names[k] := fun hk => by simp [hk]
  refine ⟨by rw [ok.ea, gi hu]; exact List.getElem_mem hu, by rw [ok.eb, gi hv]; exact List.getElem_mem hv, ?_, ok.w, ok.at0, ok.at_⟩
  rw [ok.ea, ok.eb, gi hu, gi hv]
  exact fun e => ok.ne ((List.getElem_inj hn.nd).mp e)
theorem sm_tie {t : Tie} (ha : PyData.strOk t.a = true) (hb : PyData.strOk t.b = true) (hw : PyData.strOk t.w = true) : Sm 4 (tieD t) (tieD t) := by
  refine .tup rfl fun q hq => ?_
  simp at hq
  rcases hq with rfl | rfl | rfl | rfl
  · exact .str _ ha
  · exact .str _ hb
  · exact .str _ hw
  · exact sm_ints
theorem sm_ties {names : List Str} {c : Int} {ts : List Tie} (hn : NamesOk names) (h : TiesOk names c ts) : Sm 5 (tsL ts) (tsL ts) := by
  refine .lst rfl (sm_list fun d hd => ?_)
  obtain ⟨t, ht, rfl⟩ := List.mem_map.mp hd
  have ok := h.ok t ht
  exact sm_tie (hn.ok _ ok.a) (hn.ok _ ok.b) (word_ok ok.w)
end Tw.S

namespace Tw.S
open PySem PySem.Spec L2 PyProof.Rows Tw
def r_l5 (C_Web : Addr) : Ws := (sSeq (sIf (wNot (wTru (wCall (wf_law_bent_differs C_Web) [] (waCons (wVar 6) (waCons (wVar 1) (waCons (wVar 3) (waCons (wVar 4) (waCons (wCall wf_law_draws [] (waCons (wVar 0) (waCons (wC (.int 3)) (waCons (wC (.int 40)) waNil)))) waNil))))))))
  (sRet (wC (.bl false)))
  sNil)
  (sRet (wAndV (wCall (wf_law_others_differ C_Web) [] (waCons (wVar 6) (waCons (wVar 1) (waCons (wVar 2) (waCons (wVar 3) waNil))))) (wCall (wf_law_web_is C_Web) [] (waCons (wVar 6) (waCons (wVar 1) (waCons (wVar 3) (waCons (wVar 4) waNil))))))))
def r_l4 (C_Web : Addr) : Ws := (sSeq (sFor (wiS (wLst (waCons (wVar 9) (waCons (wVar 10) waNil)))) (gSet 11)
  (sSeq (sIf (wOr (wNot (wTru (wCall (wf_law_equal C_Web) [] (waCons (wVar 6) (waCons (wVar 11) (waCons (wC (.bl true)) waNil)))))) (wNot (wTru (wCall (wf_law_web_is C_Web) [] (waCons (wVar 11) (waCons (wVar 1) (waCons (wVar 3) (waCons (wVar 4) waNil))))))))
  (sRet (wC (.bl false)))
  sNil)
  (sIf (wNot (wTru (wCall wf_law_same [] (waCons (wMeth C_Web "ties" (wf_Web_ties C_Web) (wVar 11) waNil) (waCons (wN oList (waCons (wWk (wVar 8)) waNil)) waNil)))))
  (sRet (wC (.bl false)))
  sNil))) (r_l5 C_Web))
def r_l3 (C_Web : Addr) : Ws := (sSeq (sSet 9 (wMakeK C_Web 2 (List.length (α := Str) ["beats"]) gD_K_Web_2_beats wi_Web (waCons (wTupX2 (wVar 1)) (waCons (wVar 8) waNil)) (waCons (wVar 3) waNil)))
  (sSeq (sSet 10 (wMakeK C_Web 2 (List.length (α := Str) ["beats"]) gD_K_Web_2_beats wi_Web (waCons (wN oList (waCons (wVar 1) waNil)) (waCons (wCall wf_law_rewritten [] (waCons (wVar 1) (waCons (wVar 4) (waCons (wCall wf_law_draws [] (waCons (wVar 0) (waCons (wC (.int 2)) (waCons (wC (.int 40)) waNil)))) waNil)))) waNil)) (waCons (wVar 3) waNil)))
  (r_l4 C_Web)))
def r_l2 (C_Web : Addr) : Ws := (sSeq (sClr 5)
  (sSeq (sSet 8 (wTupX2 (wPeek 7)))
  (sSeq (sRev 7)
  (sSeq (sApp 7 (wTup (waCons (w2 oIx (wVar 1) (wC (.int 0))) (waCons (w2 oIx (wVar 1) (wC (.int 0))) (waCons (wC (.str "one")) (waCons (wTup (waCons (wC (.int 0)) waNil)) waNil))))))
  (sSeq (sIf (wNot (wTru (wCall wf_law_same [] (waCons (wMeth C_Web "ties" (wf_Web_ties C_Web) (wVar 6) waNil) (waCons (wN oList (waCons (wWk (wVar 8)) waNil)) waNil)))))
  (sRet (wC (.bl false)))
  sNil)
  (r_l3 C_Web))))))
theorem law_eq (C_Web : Addr) : b_law C_Web = (sSeq (sAsg (wCall wf_law_any_web [] (waCons (wVar 0) (waCons (wC (.int 0)) (waCons (wC (.int 1)) (waCons (wC (.int 8)) (waCons (wC (.int 4)) waNil)))))) (gLstD 4 (gsCons (gSet 1) (gsCons (gSet 2) (gsCons (gSet 3) (gsCons (gSet 4) gsNil))))))
  (sSeq (sSetO 5 (wN oList (waCons (wVar 2) waNil)))
  (sSeq (sSet 6 (wMakeKS C_Web 2 (List.length (α := Str) ["beats"]) gD_K_Web_2_beats wi_Web (waCons (wN oList (waCons (wVar 1) waNil)) (waCons (wPeek 5) waNil)) (waCons (wVar 3) waNil)))
  (sSeq (sSetO 7 (wMethF C_Web "ties" (wf_Web_ties C_Web) (wVar 6) waNil))
  (sSeq (sIf (wOr (wB (w2 oNe (wPeek 5) (wVar 2))) (wNot (wTru (wCallS wf_law_one_form (waCons (wPeek 7) (waCons (wVar 1) (waCons (wVar 4) waNil)))))))
  (sRet (wC (.bl false)))
  sNil)
  (r_l2 C_Web)))))) := rfl
section
variable {C : Addr} {xc : XC} {Q : Bool → D → Prop} {names : List Str} {ts : List Tie} {c : Nat} {sc : List Int} {L : Psg}
def lwE (C : Addr) (sc : List Int) (names : List Str) (ts : List Tie) (c : Nat) (a b d e f g : Sl) : Evn := [.da (.fls (sc.map .int)), .da (sL names), .da (tsL ts), .da (.int c), .da (l3 (nextsT names ts c)), a, .da (webD C names c (nextsT names ts c)), b, d, e, f, g]
@[simp] theorem mOf_web {nx : List (List (List Int))} : mOf C "ties" (webD C names c nx) := ⟨_, rfl, rfl⟩
theorem go_l5 {s5 s7 s8 s9 s10 s11 : Sl} (hsc : sc.length ≤ 63) (hn : NamesOk names) (ht : TiesOk names c ts) (h1 : 1 ≤ c) (h4 : c ≤ 4) (q : Q false (.bl true)) : r_l5 C (Zd xc Q) (lwE C sc names ts c s5 s7 s8 s9 s10 s11) := by
  simp [r_l5, lwE, wCall]
  refine ⟨sc, 3, 40, rfl, hsc, by omega, by omega, fun l hl hb => ⟨names, c, psgOf names ts, l, rfl, hn, h1, h4, psg_diag ht, hb, hl, ?_⟩⟩
  refine .inr ⟨rfl, names, ts, c, rfl, hn, ht, h1, h4, .inr ⟨rfl, names, c, psgOf names ts, rfl, hn, h1, h4, q⟩⟩
theorem go_l4 {s5 s7 s11 : Sl} (hsc : sc.length ≤ 63) (hn : NamesOk names) (ht : TiesOk names c ts) (h1 : 1 ≤ c) (h4 : c ≤ 4) (q : Q false (.bl true)) : r_l4 C (Zd xc Q) (lwE C sc names ts c s5 s7 (.da (.xtp ((tiesP names c (psgOf names ts)).map tieD))) (.da (webD C names c (nextsT names ts c))) (.da (webD C names c (nextsT names ts c))) s11) := by
  have hs := sizeLine_eq
  have go := fun s11 : Sl => go_l5 (C := C) (xc := xc) (Q := Q) (s5 := s5) (s7 := s7) (s8 := .da (.xtp ((tiesP names c (psgOf names ts)).map tieD))) (s9 := .da (webD C names c (nextsT names ts c))) (s10 := .da (webD C names c (nextsT names ts c))) (s11 := s11) hsc hn ht h1 h4 q
  simp [r_l4, lwE, sFor]
  refine ⟨by omega, ?_⟩
  refine for_same [(), ()] (fun _ => webD C names c (nextsT names ts c)) (fun ρ => ∃ s11, ρ = lwE C sc names ts c s5 s7 (.da (.xtp ((tiesP names c (psgOf names ts)).map tieD))) (.da (webD C names c (nextsT names ts c))) (.da (webD C names c (nextsT names ts c))) s11) (fun x ρ N hx ⟨s11, e⟩ hN => ?_) ⟨s11, rfl⟩ fun ρ ⟨s11, e⟩ => ?_
  · rw [e]
    simp [lwE, wCall]
    refine ⟨names, c, nextsT names ts c, names, c, nextsT names ts c, by simp, hn, hn, .inr ⟨rfl, names, c, psgOf names ts, rfl, hn, h1, h4, .inr ⟨rfl, names, c, psgOf names ts, rfl, hn.hi, h4, _, _, true, rfl, .sm (sm_ties hn (ties_ok hn)), .inr ⟨rfl, ?_⟩⟩⟩⟩
    exact hN _ ⟨_, rfl⟩
  · rw [e]
    exact go _
theorem go_l3 {s5 s7 s9 s10 s11 : Sl} (hsc : sc.length ≤ 63) (hn : NamesOk names) (ht : TiesOk names c ts) (h1 : 1 ≤ c) (h4 : c ≤ 4) (q : Q false (.bl true)) : r_l3 C (Zd xc Q) (lwE C sc names ts c s5 s7 (.da (.xtp ((tiesP names c (psgOf names ts)).map tieD))) s9 s10 s11) := by
  have hs := sizeLine_eq
  have go := fun s11 => go_l4 (C := C) (xc := xc) (Q := Q) (s5 := s5) (s7 := s7) (s11 := s11) hsc hn ht h1 h4 q
  have h0 := psg_diag ht
  simp [r_l3, lwE, wCall, wMakeK, gD_K_Web_2_beats, wTupX2]
  refine ⟨_, .inl rfl, true, true, names, tiesP names c (psgOf names ts), c, rfl, hn, ties_ok hn, h1, h4, ?_⟩
  rw [ties_nexts hn h0]
  refine ⟨sc, 2, 40, rfl, hsc, by omega, by omega, fun l hl hb => ⟨names, c, psgOf names ts, l, rfl, hn, h1, h4, h0, hb, hl, fun ts2 ht2 en => ⟨false, false, names, ts2, c, rfl, hn, ht2, h1, h4, ?_⟩⟩⟩
  rw [en]
  exact go _
theorem go_l2 {s8 s9 s10 s11 : Sl} (hsc : sc.length ≤ 63) (hn : NamesOk names) (ht : TiesOk names c ts) (h1 : 1 ≤ c) (h4 : c ≤ 4) (q : Q false (.bl true)) : r_l2 C (Zd xc Q) (lwE C sc names ts c (.ow (tsL ts)) (.ow (tsL (tiesP names c (psgOf names ts)))) s8 s9 s10 s11) := by
  have hs := sizeLine_eq
  have go := fun s7 s9 s10 s11 => go_l3 (C := C) (xc := xc) (Q := Q) (s5 := .ow (D.lst [])) (s7 := s7) (s9 := s9) (s10 := s10) (s11 := s11) hsc hn ht h1 h4 q
  have lo := hn.lo
  have tl := ties_len names c (psgOf names ts) hn.hi
  have a0 : atI names 0 = some names[0] := atI_strs (i := 0) (by omega)
  simp [r_l2, lwE, wCall, wTupX2, sClr, sRev, sApp, wPeek, tsL]
  refine ⟨_, a0, _, a0, by omega, by omega, by omega, names, c, psgOf names ts, rfl, hn.hi, h4, _, _, true, rfl, .sm (sm_ties hn (ties_ok hn)), .inr ⟨rfl, go _ _ _ _⟩⟩
theorem p_law (C : Addr) (xc : XC) (ds : List D) (Q : Bool → D → Prop) (h : wf_law xc ds Q) : b_law C (Zd xc Q) (ds.map .da ++ List.replicate (12 - ds.length) .no) := by
  obtain ⟨sc, rfl, hsc, q⟩ := h
  have hs := sizeLine_eq
  rw [law_eq]
  simp [sAsg, wCall]
  refine ⟨sc, 0, 1, rfl, hsc, by omega, by omega, fun names ts c hn ht h1 h4 => ?_⟩
  simp [gLstD, gsCons, gsNil, D.isL]
  refine ⟨_, _, ⟨rfl, rfl⟩, _, _, rfl, _, _, rfl, _, _, rfl, rfl, ?_⟩
  have oe : (tsL ts).ok ∧ PyData.eqv (tsL ts).py (tsL ts).py = true := by
    have o := okd_ties (ts := ts) fun t h => ⟨hn.ok _ (ht.ok t h).a, hn.ok _ (ht.ok t h).b, word_ok (ht.ok t h).w⟩
    exact ⟨o.ok (by omega), SeqAt.eqv_refl _ o.2.1⟩
  have en : ∀ {P : D → Prop}, oNe (tsL ts) (tsL ts) P = P (.bl false) := by
    intro P
    unfold oNe
    simp [oe.1, oe.2]
  have go := fun s8 s9 s10 s11 => go_l2 (C := C) (xc := xc) (Q := Q) (s8 := s8) (s9 := s9) (s10 := s10) (s11 := s11) hsc hn ht h1 h4 q
  simp [wMakeKS, gD_K_Web_2_beats, wPeek, en]
  refine ⟨false, false, names, ts, c, rfl, hn, ht, h1, h4, noL_web _ _ _, ⟨_, rfl, rfl⟩, names, c, psgOf names ts, rfl, hn.hi, h4, rfl, ?_⟩
  simp [wCallS, wPeek]
  refine ⟨names, c, psgOf names ts, rfl, hn, h4, psg_diag ht, rfl, .inr ⟨rfl, go _ _ _ _⟩⟩
end
end Tw.S

namespace Tw.S
open PySem PySem.Spec L2 PyProof.Rows Tw
theorem mo_wfSame {n : Addr} : MoF (wfSame n) := fun xc ds Q Q' i ⟨v0, v1, v2, c0, c1, q⟩ => ⟨v0, v1, v2, c0, c1, i _ _ q⟩
theorem hn_wfSame {n : Addr} : ∀ ds xc Q, wfSame n xc ds Q → ds.length = 2 := fun ds xc Q ⟨v0, v1, v2, c0, c1, q⟩ => by rw [c0]; rfl
theorem mo_wf_law_is_int : MoF wf_law_is_int := fun xc ds Q Q' i ⟨v0, c0, q⟩ => ⟨v0, c0, i _ _ q⟩
theorem hn_wf_law_is_int : ∀ ds xc Q, wf_law_is_int xc ds Q → ds.length = 1 := fun ds xc Q ⟨v0, c0, q⟩ => by rw [c0]; rfl
theorem mo_wf_is_name : MoF wf_is_name := fun xc ds Q Q' i ⟨v0, c0, c1, q⟩ => ⟨v0, c0, c1, i _ _ q⟩
theorem hn_wf_is_name : ∀ ds xc Q, wf_is_name xc ds Q → ds.length = 1 := fun ds xc Q ⟨v0, c0, c1, q⟩ => by rw [c0]; rfl
theorem mo_wf_is_set : MoF wf_is_set := fun xc ds Q Q' i ⟨v0, v1, c0, c1, q⟩ => ⟨v0, v1, c0, c1, i _ _ q⟩
theorem hn_wf_is_set : ∀ ds xc Q, wf_is_set xc ds Q → ds.length = 2 := fun ds xc Q ⟨v0, v1, c0, c1, q⟩ => by rw [c0]; rfl
theorem mo_wf_Web___len__ {C : Addr} : MoF (wf_Web___len__ C) := fun xc ds Q Q' i ⟨v0, v1, v2, c0, q⟩ => ⟨v0, v1, v2, c0, i _ _ q⟩
theorem hn_wf_Web___len__ {C : Addr} : ∀ ds xc Q, wf_Web___len__ C xc ds Q → ds.length = 1 := fun ds xc Q ⟨v0, v1, v2, c0, q⟩ => by rw [c0]; rfl
theorem mo_wf_Web___eq__ {C : Addr} : MoF (wf_Web___eq__ C) := fun xc ds Q Q' i ⟨v0, v1, v2, v3, v4, v5, c0, c1, c2, q⟩ => ⟨v0, v1, v2, v3, v4, v5, c0, c1, c2, i _ _ q⟩
theorem hn_wf_Web___eq__ {C : Addr} : ∀ ds xc Q, wf_Web___eq__ C xc ds Q → ds.length = 2 := fun ds xc Q ⟨v0, v1, v2, v3, v4, v5, c0, c1, c2, q⟩ => by rw [c0]; rfl
theorem mo_wf_check_place {C : Addr} : MoF (wf_check_place C) := fun xc ds Q Q' i ⟨v0, v1, v2, v3, c0, c1, c2, c3, q⟩ => ⟨v0, v1, v2, v3, c0, c1, c2, c3, i _ _ q⟩
theorem hn_wf_check_place {C : Addr} : ∀ ds xc Q, wf_check_place C xc ds Q → ds.length = 2 := fun ds xc Q ⟨v0, v1, v2, v3, c0, c1, c2, c3, q⟩ => by rw [c0]; rfl
theorem mo_wf_Web_steps {C : Addr} : MoF (wf_Web_steps C) := fun xc ds Q Q' i ⟨v0, v1, v2, v3, v4, v5, v6, c0, c1, c2, c3, c4, c5, c6, q⟩ => ⟨v0, v1, v2, v3, v4, v5, v6, c0, c1, c2, c3, c4, c5, c6, i _ _ q⟩
theorem hn_wf_Web_steps {C : Addr} : ∀ ds xc Q, wf_Web_steps C xc ds Q → ds.length = 3 := fun ds xc Q ⟨v0, v1, v2, v3, v4, v5, v6, c0, c1, c2, c3, c4, c5, c6, q⟩ => by rw [c0]; rfl
theorem mo_wf_law_draws : MoF wf_law_draws := fun xc ds Q Q' i ⟨v0, v1, v2, c0, c1, c2, c3, q⟩ => ⟨v0, v1, v2, c0, c1, c2, c3, fun x0 x1 x2 => i _ _ (q x0 x1 x2)⟩
theorem hn_wf_law_draws : ∀ ds xc Q, wf_law_draws xc ds Q → ds.length = 3 := fun ds xc Q ⟨v0, v1, v2, c0, c1, c2, c3, q⟩ => by rw [c0]; rfl
theorem mo_wf_law_names : MoF wf_law_names := fun xc ds Q Q' i ⟨v0, v1, v2, c0, c1, c2, c3, c4, q⟩ => ⟨v0, v1, v2, c0, c1, c2, c3, c4, fun x0 x1 x2 => i _ _ (q x0 x1 x2)⟩
theorem hn_wf_law_names : ∀ ds xc Q, wf_law_names xc ds Q → ds.length = 3 := fun ds xc Q ⟨v0, v1, v2, c0, c1, c2, c3, c4, q⟩ => by rw [c0]; rfl
theorem mo_wf_law_any_names : MoF wf_law_any_names := fun xc ds Q Q' i ⟨v0, v1, v2, c0, c1, c2, c3, c4, q⟩ => ⟨v0, v1, v2, c0, c1, c2, c3, c4, fun x0 x1 x2 => i _ _ (q x0 x1 x2)⟩
theorem hn_wf_law_any_names : ∀ ds xc Q, wf_law_any_names xc ds Q → ds.length = 3 := fun ds xc Q ⟨v0, v1, v2, c0, c1, c2, c3, c4, q⟩ => by rw [c0]; rfl
theorem mo_wf_law_codes : MoF wf_law_codes := fun xc ds Q Q' i ⟨v0, v1, v2, v3, v4, v5, c0, c1, c2, c3, c4, c5, q⟩ => ⟨v0, v1, v2, v3, v4, v5, c0, c1, c2, c3, c4, c5, fun x0 x1 x2 => i _ _ (q x0 x1 x2)⟩
theorem hn_wf_law_codes : ∀ ds xc Q, wf_law_codes xc ds Q → ds.length = 6 := fun ds xc Q ⟨v0, v1, v2, v3, v4, v5, c0, c1, c2, c3, c4, c5, q⟩ => by rw [c0]; rfl
theorem mo_wf_law_pair_ties : MoF wf_law_pair_ties := fun xc ds Q Q' i ⟨v0, v1, v2, v3, c0, c1, c2, c3, q⟩ => ⟨v0, v1, v2, v3, c0, c1, c2, c3, fun x0 x1 x2 x3 => i _ _ (q x0 x1 x2 x3)⟩
theorem hn_wf_law_pair_ties : ∀ ds xc Q, wf_law_pair_ties xc ds Q → ds.length = 4 := fun ds xc Q ⟨v0, v1, v2, v3, c0, c1, c2, c3, q⟩ => by rw [c0]; rfl
theorem mo_wf_law_any_ties : MoF wf_law_any_ties := fun xc ds Q Q' i ⟨v0, v1, v2, c0, c1, c2, c3, c4, c5, q⟩ => ⟨v0, v1, v2, c0, c1, c2, c3, c4, c5, fun x0 x1 x2 => i _ _ (q x0 x1 x2)⟩
theorem hn_wf_law_any_ties : ∀ ds xc Q, wf_law_any_ties xc ds Q → ds.length = 3 := fun ds xc Q ⟨v0, v1, v2, c0, c1, c2, c3, c4, c5, q⟩ => by rw [c0]; rfl
theorem mo_wf_law_table : MoF wf_law_table := fun xc ds Q Q' i ⟨v0, v1, v2, c0, c1, c2, c3, c4, c5, q⟩ => ⟨v0, v1, v2, c0, c1, c2, c3, c4, c5, i _ _ q⟩
theorem hn_wf_law_table : ∀ ds xc Q, wf_law_table xc ds Q → ds.length = 3 := fun ds xc Q ⟨v0, v1, v2, c0, c1, c2, c3, c4, c5, q⟩ => by rw [c0]; rfl
theorem mo_wf_law_any_web : MoF wf_law_any_web := fun xc ds Q Q' i ⟨v0, v1, v2, c0, c1, c2, c3, q⟩ => ⟨v0, v1, v2, c0, c1, c2, c3, fun x0 x1 x2 x3 x4 x5 x6 => i _ _ (q x0 x1 x2 x3 x4 x5 x6)⟩
theorem hn_wf_law_any_web : ∀ ds xc Q, wf_law_any_web xc ds Q → ds.length = 5 := fun ds xc Q ⟨v0, v1, v2, c0, c1, c2, c3, q⟩ => by rw [c0]; rfl
theorem mo_wf_law_web_is {C : Addr} : MoF (wf_law_web_is C) := fun xc ds Q Q' i ⟨v0, v1, v2, c0, c1, c2, c3, q⟩ => ⟨v0, v1, v2, c0, c1, c2, c3, i _ _ q⟩
theorem hn_wf_law_web_is {C : Addr} : ∀ ds xc Q, wf_law_web_is C xc ds Q → ds.length = 4 := fun ds xc Q ⟨v0, v1, v2, c0, c1, c2, c3, q⟩ => by rw [c0]; rfl
theorem mo_wi_Web : MoI wi_Web := fun xc ds Q Q' i ⟨v0, v1, v2, v3, v4, c0, c1, c2, c3, c4, q⟩ => ⟨v0, v1, v2, v3, v4, c0, c1, c2, c3, c4, i _ q⟩
theorem hn_wi_Web : ∀ ds xc Q, wi_Web xc ds Q → ds.length = 3 := fun ds xc Q ⟨v0, v1, v2, v3, v4, c0, c1, c2, c3, c4, q⟩ => by rw [c0]; rfl
theorem mo_wf_check_names : MoF wf_check_names := fun xc ds Q Q' i ⟨v0, v1, c0, c1, q⟩ => ⟨v0, v1, c0, c1, i _ _ q⟩
theorem hn_wf_check_names : ∀ ds xc Q, wf_check_names xc ds Q → ds.length = 1 := fun ds xc Q ⟨v0, v1, c0, c1, q⟩ => by rw [c0]; rfl
theorem mo_wf_is_tie : MoF wf_is_tie := fun xc ds Q Q' i ⟨v0, v1, v2, v3, c0, c1, c2, c3, c4, q⟩ => ⟨v0, v1, v2, v3, c0, c1, c2, c3, c4, i _ _ q⟩
theorem hn_wf_is_tie : ∀ ds xc Q, wf_is_tie xc ds Q → ds.length = 3 := fun ds xc Q ⟨v0, v1, v2, v3, c0, c1, c2, c3, c4, q⟩ => by rw [c0]; rfl
theorem mo_wf_check_ties : MoF wf_check_ties := fun xc ds Q Q' i ⟨v0, v1, v2, v3, v4, c0, c1, c2, c3, c4, q⟩ => ⟨v0, v1, v2, v3, v4, c0, c1, c2, c3, c4, i _ _ q⟩
theorem hn_wf_check_ties : ∀ ds xc Q, wf_check_ties xc ds Q → ds.length = 3 := fun ds xc Q ⟨v0, v1, v2, v3, v4, c0, c1, c2, c3, c4, q⟩ => by rw [c0]; rfl
theorem mo_wf_nexts_at : MoF wf_nexts_at := fun xc ds Q Q' i ⟨v0, v1, v2, c0, c1, q⟩ => ⟨v0, v1, v2, c0, c1, i _ _ q⟩
theorem hn_wf_nexts_at : ∀ ds xc Q, wf_nexts_at xc ds Q → ds.length = 3 := fun ds xc Q ⟨v0, v1, v2, c0, c1, q⟩ => by rw [c0]; rfl
theorem mo_wf_nexts_of : MoF wf_nexts_of := fun xc ds Q Q' i ⟨v0, v1, v2, v3, c0, c1, c2, c3, c4, q⟩ => ⟨v0, v1, v2, v3, c0, c1, c2, c3, c4, i _ _ q⟩
theorem hn_wf_nexts_of : ∀ ds xc Q, wf_nexts_of xc ds Q → ds.length = 3 := fun ds xc Q ⟨v0, v1, v2, v3, c0, c1, c2, c3, c4, q⟩ => by rw [c0]; rfl
theorem mo_wf_steps_of : MoF wf_steps_of := fun xc ds Q Q' i ⟨v0, c0, c1, c2, q⟩ => ⟨v0, c0, c1, c2, i _ _ q⟩
theorem hn_wf_steps_of : ∀ ds xc Q, wf_steps_of xc ds Q → ds.length = 1 := fun ds xc Q ⟨v0, c0, c1, c2, q⟩ => by rw [c0]; rfl
theorem mo_wf_ties_between : MoF wf_ties_between := fun xc ds Q Q' i ⟨v0, v1, v2, v3, v4, c0, c1, c2, c3, c4, q⟩ => ⟨v0, v1, v2, v3, v4, c0, c1, c2, c3, c4, i _ _ q⟩
theorem hn_wf_ties_between : ∀ ds xc Q, wf_ties_between xc ds Q → ds.length = 4 := fun ds xc Q ⟨v0, v1, v2, v3, v4, c0, c1, c2, c3, c4, q⟩ => by rw [c0]; rfl
theorem mo_wf_ties_of : MoF wf_ties_of := fun xc ds Q Q' i ⟨v0, v1, v2, c0, c1, c2, q⟩ => ⟨v0, v1, v2, c0, c1, c2, i _ _ q⟩
theorem hn_wf_ties_of : ∀ ds xc Q, wf_ties_of xc ds Q → ds.length = 2 := fun ds xc Q ⟨v0, v1, v2, c0, c1, c2, q⟩ => by rw [c0]; rfl
theorem mo_wf_Web_ties {C : Addr} : MoF (wf_Web_ties C) := fun xc ds Q Q' i ⟨v0, v1, v2, c0, c1, c2, q⟩ => ⟨v0, v1, v2, c0, c1, c2, i _ _ q⟩
theorem hn_wf_Web_ties {C : Addr} : ∀ ds xc Q, wf_Web_ties C xc ds Q → ds.length = 1 := fun ds xc Q ⟨v0, v1, v2, c0, c1, c2, q⟩ => by rw [c0]; rfl
theorem mo_wf_law_equal {C : Addr} : MoF (wf_law_equal C) := fun xc ds Q Q' i ⟨v0, v1, v2, v3, v4, v5, c0, c1, c2, q⟩ => ⟨v0, v1, v2, v3, v4, v5, c0, c1, c2, i _ _ q⟩
theorem hn_wf_law_equal {C : Addr} : ∀ ds xc Q, wf_law_equal C xc ds Q → ds.length = 3 := fun ds xc Q ⟨v0, v1, v2, v3, v4, v5, c0, c1, c2, q⟩ => by rw [c0]; rfl
theorem mo_wf_law_tie_key : MoF wf_law_tie_key := fun xc ds Q Q' i ⟨v0, v1, v2, v3, v4, v5, v6, c0, c1, c2, c3, c4, q⟩ => ⟨v0, v1, v2, v3, v4, v5, v6, c0, c1, c2, c3, c4, i _ _ q⟩
theorem hn_wf_law_tie_key : ∀ ds xc Q, wf_law_tie_key xc ds Q → ds.length = 4 := fun ds xc Q ⟨v0, v1, v2, v3, v4, v5, v6, c0, c1, c2, c3, c4, q⟩ => by rw [c0]; rfl
theorem mo_wf_law_one_form : MoF wf_law_one_form := fun xc ds Q Q' i ⟨v0, v1, v2, c0, c1, c2, c3, q⟩ => ⟨v0, v1, v2, c0, c1, c2, c3, i _ _ q⟩
theorem hn_wf_law_one_form : ∀ ds xc Q, wf_law_one_form xc ds Q → ds.length = 3 := fun ds xc Q ⟨v0, v1, v2, c0, c1, c2, c3, q⟩ => by rw [c0]; rfl
theorem mo_wf_law_rewritten : MoF wf_law_rewritten := fun xc ds Q Q' i ⟨v0, v1, v2, v3, c0, c1, c2, c3, c4, c5, c6, q⟩ => ⟨v0, v1, v2, v3, c0, c1, c2, c3, c4, c5, c6, fun x0 x1 x2 => i _ _ (q x0 x1 x2)⟩
theorem hn_wf_law_rewritten : ∀ ds xc Q, wf_law_rewritten xc ds Q → ds.length = 3 := fun ds xc Q ⟨v0, v1, v2, v3, c0, c1, c2, c3, c4, c5, c6, q⟩ => by rw [c0]; rfl
theorem mo_wf_law_toggled : MoF wf_law_toggled := fun xc ds Q Q' i ⟨v0, v1, v2, v3, v4, v5, c0, c1, c2, c3, c4, c5, q⟩ => ⟨v0, v1, v2, v3, v4, v5, c0, c1, c2, c3, c4, c5, i _ _ q⟩
theorem hn_wf_law_toggled : ∀ ds xc Q, wf_law_toggled xc ds Q → ds.length = 4 := fun ds xc Q ⟨v0, v1, v2, v3, v4, v5, c0, c1, c2, c3, c4, c5, q⟩ => by rw [c0]; rfl
theorem mo_wf_law_bent_differs {C : Addr} : MoF (wf_law_bent_differs C) := fun xc ds Q Q' i ⟨v0, v1, v2, v3, c0, c1, c2, c3, c4, c5, c6, q⟩ => ⟨v0, v1, v2, v3, c0, c1, c2, c3, c4, c5, c6, i _ _ q⟩
theorem hn_wf_law_bent_differs {C : Addr} : ∀ ds xc Q, wf_law_bent_differs C xc ds Q → ds.length = 5 := fun ds xc Q ⟨v0, v1, v2, v3, c0, c1, c2, c3, c4, c5, c6, q⟩ => by rw [c0]; rfl
theorem mo_wf_law_others_differ {C : Addr} : MoF (wf_law_others_differ C) := fun xc ds Q Q' i ⟨v0, v1, v2, c0, c1, c2, c3, c4, q⟩ => ⟨v0, v1, v2, c0, c1, c2, c3, c4, i _ _ q⟩
theorem hn_wf_law_others_differ {C : Addr} : ∀ ds xc Q, wf_law_others_differ C xc ds Q → ds.length = 4 := fun ds xc Q ⟨v0, v1, v2, c0, c1, c2, c3, c4, q⟩ => by rw [c0]; rfl
theorem mo_wf_law : MoF wf_law := fun xc ds Q Q' i ⟨v0, c0, c1, q⟩ => ⟨v0, c0, c1, i _ _ q⟩
theorem hn_wf_law : ∀ ds xc Q, wf_law xc ds Q → ds.length = 1 := fun ds xc Q ⟨v0, c0, c1, q⟩ => by rw [c0]; rfl
end Tw.S

namespace Tw.k01
open PySem PySem.Spec L2 PyProof.Rows Tw Tw.S

def topS (i : Nat) : Stmt := PySem.Challenge.pw_tagwebs_k01_ties_there_and_back.main.body.getD i (.Pass ⟨0, 0, 0, 0⟩)
structure Txt (K : PySem.W.Frag) (mg : Str → Option Value) (C_Web : Addr) : Prop where
  b_abs : mg "abs" = none
  b_all : mg "all" = none
  b_bool : mg "bool" = none
  b_enumerate : mg "enumerate" = none
  b_int : mg "int" = none
  b_isinstance : mg "isinstance" = none
  b_len : mg "len" = none
  b_list : mg "list" = none
  b_max : mg "max" = none
  b_min : mg "min" = none
  b_range : mg "range" = none
  b_set : mg "set" = none
  b_sorted : mg "sorted" = none
  b_str : mg "str" = none
  b_tuple : mg "tuple" = none
  b_zip : mg "zip" = none
  g_LETTERS : ∃ u, mg "LETTERS" = some u ∧ RelV (.str "abcdefghijklmnopqrstuvwxyz") u
  c_Web : Cls K C_Web
  i_Web : C8.InsC K C_Web
  m_Web : mg "Web" = some (.ref C_Web)
  n_Web__nexts : NoAttr K C_Web "_nexts"
  n_Web__steps : NoAttr K C_Web "_steps"
  n_Web_beats : NoAttr K C_Web "beats"
  n_Web_places : NoAttr K C_Web "places"
abbrev s_law_draws : Stmt := topS 31
abbrev N_law_draws : List Str := ["script", "k", "count", "number", "draws", "turn", "total", "cell", "one", "two", "three"]
theorem sc_law_draws : FnScope N_law_draws ["script", "k", "count"] (defScope s_law_draws) := ⟨rfl, rfl, rfl, by decide +kernel, rfl, by decide +kernel, by decide +kernel⟩
theorem d_law_draws {P : Program} {w : World} {K : PySem.W.Frag} {mg : Str → Option Value} {base : Heap} {C_Web : Addr} (T : Txt K mg C_Web)  {f : Addr} {cdv : Value} {A : Around} {outer : List Env} {s : Shared} {H : Hp} {E : XK}
    (hr : Room 0 (A.deeper (envOfC "_law_draws" (defScope s_law_draws) s.heap.objs.size f cdv))) :
    BJ E (cxOf (L2.CX P w) P w K mg base N_law_draws "_law_draws" (defScope s_law_draws) f cdv A outer s H E) (defBody s_law_draws) b_law_draws := by
  refine bj_cons ?_ ?_
  · refine sj_name (i := 3) sc_law_draws.nd rfl (by first | exact Or.inl rfl | exact Or.inr rfl) ?_
    exact ej_int
  · refine bj_cons ?_ ?_
    · refine sj_if ?_ ?_ ?_
      · refine tj_lt (ka := .e) (kb := .e) ?_ ?_
        · exact ej_var (pv 1)
        · refine ej_len (k := .e) (by rfl) T.b_len ?_
          exact ej_var (pv 0)
      · refine bj_one ?_
        refine sj_name (i := 3) sc_law_draws.nd rfl (by first | exact Or.inl rfl | exact Or.inr rfl) ?_
        refine ej_abs (k := .e) (by rfl) T.b_abs ?_
        refine ej_ix (ka := .e) (kb := .e) ?_ ?_ (fun _ _ => rfl)
        · exact ej_var (pv 0)
        · exact ej_var (pv 1)
      · exact bj_nil
    · refine bj_cons ?_ ?_
      · refine sj_nameO (i := 4) sc_law_draws.nd rfl (by first | exact Or.inl rfl | exact Or.inr rfl) ?_
        refine ej_lst ?_
        exact aj_nil
      · refine bj_cons ?_ ?_
        · refine sj_if ?_ ?_ ?_
          · refine tj_ge (ka := .e) (kb := .e) ?_ ?_
            · exact ej_var (pv 3)
            · refine ej_pow (ka := .e) (kb := .e) ?_ ?_
              · exact ej_int
              · exact ej_int
          · refine bj_cons ?_ ?_
            · refine sj_name (i := 3) sc_law_draws.nd rfl (by first | exact Or.inl rfl | exact Or.inr rfl) ?_
              refine ej_sub (ka := .e) (kb := .e) ?_ ?_
              · exact ej_var (pv 3)
              · refine ej_pow (ka := .e) (kb := .e) ?_ ?_
                · exact ej_int
                · exact ej_int
            · refine bj_cons ?_ ?_
              · refine sj_for (tgs := [5]) (passes_of rfl) rfl ?_ ?_ ?_
                · refine ij_rng1 (ka := .e) ?_ (by rfl) T.b_range
                  exact ej_var (pv 2)
                · exact gj_name (pg_name (i := 5) sc_law_draws.nd rfl (by first | exact Or.inl rfl | exact Or.inr rfl))
                · refine bj_cons ?_ ?_
                  · refine sj_append (pv 4) ?_
                    refine ej_mod (ka := .e) (kb := .e) ?_ ?_
                    · refine ej_int1 (k := .e) (by rfl) T.b_int ?_
                      exact ej_var (pv 3)
                    · exact ej_int
                  · refine bj_one ?_
                    refine sj_name (i := 3) sc_law_draws.nd rfl (by first | exact Or.inl rfl | exact Or.inr rfl) ?_
                    refine ej_div (ka := .e) (kb := .e) ?_ ?_
                    · refine ej_int1 (k := .e) (by rfl) T.b_int ?_
                      exact ej_var (pv 3)
                    · exact ej_int
              · refine bj_one ?_
                exact sj_retO (pv 4)
          · exact bj_nil
        · refine bj_cons ?_ ?_
          · refine sj_name (i := 6) sc_law_draws.nd rfl (by first | exact Or.inl rfl | exact Or.inr rfl) ?_
            refine ej_plus (ka := .e) (kb := .e) ?_ ?_
            · exact ej_var (pv 3)
            · refine ej_mul (ka := .e) (kb := .e) ?_ ?_
              · refine ej_plus (ka := .e) (kb := .e) ?_ ?_
                · exact ej_var (pv 1)
                · exact ej_int
              · exact ej_int
          · refine bj_cons ?_ ?_
            · refine sj_for (tgs := [7]) (passes_of rfl) rfl ?_ ?_ ?_
              · refine ij_seq ?_
                refine ej_slice (ka := .e) ?_ ?_ ?_
                · exact ej_var (pv 0)
                · exact oj_none
                · refine oj_some (k := .e) ?_
                  exact ej_int
              · exact gj_name (pg_name (i := 7) sc_law_draws.nd rfl (by first | exact Or.inl rfl | exact Or.inr rfl))
              · refine bj_one ?_
                refine sj_name (i := 6) sc_law_draws.nd rfl (by first | exact Or.inl rfl | exact Or.inr rfl) ?_
                refine ej_mod (ka := .e) (kb := .e) ?_ ?_
                · refine ej_int1 (k := .e) (by rfl) T.b_int ?_
                  refine ej_plus (ka := .e) (kb := .e) ?_ ?_
                  · refine ej_mul (ka := .e) (kb := .e) ?_ ?_
                    · exact ej_var (pv 6)
                    · exact ej_int
                  · refine ej_abs (k := .e) (by rfl) T.b_abs ?_
                    exact ej_var (pv 7)
                · exact ej_int
            · refine bj_cons ?_ ?_
              · refine sj_for (tgs := [5]) (passes_of rfl) rfl ?_ ?_ ?_
                · refine ij_rng1 (ka := .e) ?_ (by rfl) T.b_range
                  exact ej_var (pv 2)
                · exact gj_name (pg_name (i := 5) sc_law_draws.nd rfl (by first | exact Or.inl rfl | exact Or.inr rfl))
                · refine bj_cons ?_ ?_
                  · refine sj_name (i := 8) sc_law_draws.nd rfl (by first | exact Or.inl rfl | exact Or.inr rfl) ?_
                    refine ej_mod (ka := .e) (kb := .e) ?_ ?_
                    · refine ej_int1 (k := .e) (by rfl) T.b_int ?_
                      refine ej_plus (ka := .e) (kb := .e) ?_ ?_
                      · refine ej_mul (ka := .e) (kb := .e) ?_ ?_
                        · exact ej_var (pv 6)
                        · exact ej_int
                      · refine ej_mul (ka := .e) (kb := .e) ?_ ?_
                        · refine ej_plus (ka := .e) (kb := .e) ?_ ?_
                          · exact ej_var (pv 5)
                          · exact ej_int
                        · exact ej_int
                    · exact ej_int
                  · refine bj_cons ?_ ?_
                    · refine sj_name (i := 9) sc_law_draws.nd rfl (by first | exact Or.inl rfl | exact Or.inr rfl) ?_
                      refine ej_mod (ka := .e) (kb := .e) ?_ ?_
                      · refine ej_int1 (k := .e) (by rfl) T.b_int ?_
                        refine ej_plus (ka := .e) (kb := .e) ?_ ?_
                        · refine ej_mul (ka := .e) (kb := .e) ?_ ?_
                          · exact ej_var (pv 8)
                          · exact ej_var (pv 8)
                        · exact ej_var (pv 5)
                      · exact ej_int
                    · refine bj_cons ?_ ?_
                      · refine sj_name (i := 10) sc_law_draws.nd rfl (by first | exact Or.inl rfl | exact Or.inr rfl) ?_
                        refine ej_mod (ka := .e) (kb := .e) ?_ ?_
                        · refine ej_int1 (k := .e) (by rfl) T.b_int ?_
                          refine ej_plus (ka := .e) (kb := .e) ?_ ?_
                          · refine ej_mul (ka := .e) (kb := .e) ?_ ?_
                            · exact ej_var (pv 9)
                            · exact ej_var (pv 9)
                          · exact ej_var (pv 8)
                        · exact ej_int
                      · refine bj_one ?_
                        refine sj_append (pv 4) ?_
                        refine ej_mod (ka := .e) (kb := .e) ?_ ?_
                        · refine ej_div (ka := .e) (kb := .e) ?_ ?_
                          · exact ej_var (pv 10)
                          · exact ej_int
                        · exact ej_int
              · refine bj_one ?_
                exact sj_retO (pv 4)
abbrev s_law_names : Stmt := topS 32
abbrev N_law_names : List Str := ["pool", "at", "count", "letters", "extra", "fill", "spot", "stride", "shift", "names", "k", "letter"]
theorem sc_law_names : FnScope N_law_names ["pool", "at", "count"] (defScope s_law_names) := ⟨rfl, rfl, rfl, by decide +kernel, rfl, by decide +kernel, by decide +kernel⟩
theorem d_law_names {P : Program} {w : World} {K : PySem.W.Frag} {mg : Str → Option Value} {base : Heap} {C_Web : Addr} (T : Txt K mg C_Web)  {f : Addr} {cdv : Value} {A : Around} {outer : List Env} {s : Shared} {H : Hp} {E : XK}
    (hr : Room 0 (A.deeper (envOfC "_law_names" (defScope s_law_names) s.heap.objs.size f cdv))) :
    BJ E (cxOf (L2.CX P w) P w K mg base N_law_names "_law_names" (defScope s_law_names) f cdv A outer s H E) (defBody s_law_names) b_law_names := by
  refine bj_cons ?_ ?_
  · refine sj_name (i := 3) sc_law_names.nd rfl (by first | exact Or.inl rfl | exact Or.inr rfl) ?_
    exact ej_str
  · refine bj_cons ?_ ?_
    · refine sj_name (i := 4) sc_law_names.nd rfl (by first | exact Or.inl rfl | exact Or.inr rfl) ?_
      exact ej_int
    · refine bj_cons ?_ ?_
      · refine sj_if ?_ ?_ ?_
        · refine tj_eq (ka := .e) (kb := .e) hr.units ?_ ?_
          · refine ej_mod (ka := .e) (kb := .e) ?_ ?_
            · refine ej_div (ka := .e) (kb := .e) ?_ ?_
              · refine ej_int1 (k := .e) (by rfl) T.b_int ?_
                refine ej_ix (ka := .e) (kb := .e) ?_ ?_ (fun _ _ => rfl)
                · exact ej_var (pv 0)
                · exact ej_var (pv 1)
              · exact ej_int
            · exact ej_int
          · exact ej_int
        · refine bj_one ?_
          refine sj_name (i := 4) sc_law_names.nd rfl (by first | exact Or.inl rfl | exact Or.inr rfl) ?_
          refine ej_mod (ka := .e) (kb := .e) ?_ ?_
          · refine ej_int1 (k := .e) (by rfl) T.b_int ?_
            refine ej_ix (ka := .e) (kb := .e) ?_ ?_ (fun _ _ => rfl)
            · exact ej_var (pv 0)
            · exact ej_var (pv 1)
          · exact ej_int
        · exact bj_nil
      · refine bj_cons ?_ ?_
        · refine sj_name (i := 5) sc_law_names.nd rfl (by first | exact Or.inl rfl | exact Or.inr rfl) ?_
          refine ej_ix (ka := .e) (kb := .e) ?_ ?_ (fun _ _ => rfl)
          · exact ej_var (pv 3)
          · refine ej_mod (ka := .e) (kb := .e) ?_ ?_
            · refine ej_int1 (k := .e) (by rfl) T.b_int ?_
              refine ej_ix (ka := .e) (kb := .e) ?_ ?_ (fun _ _ => rfl)
              · exact ej_var (pv 0)
              · refine ej_plus (ka := .e) (kb := .e) ?_ ?_
                · exact ej_var (pv 1)
                · exact ej_int
            · exact ej_int
        · refine bj_cons ?_ ?_
          · refine sj_name (i := 6) sc_law_names.nd rfl (by first | exact Or.inl rfl | exact Or.inr rfl) ?_
            refine ej_mod (ka := .e) (kb := .e) ?_ ?_
            · refine ej_div (ka := .e) (kb := .e) ?_ ?_
              · refine ej_int1 (k := .e) (by rfl) T.b_int ?_
                refine ej_ix (ka := .e) (kb := .e) ?_ ?_ (fun _ _ => rfl)
                · exact ej_var (pv 0)
                · refine ej_plus (ka := .e) (kb := .e) ?_ ?_
                  · exact ej_var (pv 1)
                  · exact ej_int
              · exact ej_int
            · refine ej_plus (ka := .e) (kb := .e) ?_ ?_
              · exact ej_var (pv 4)
              · exact ej_int
          · refine bj_cons ?_ ?_
            · refine sj_name (i := 7) sc_law_names.nd rfl (by first | exact Or.inl rfl | exact Or.inr rfl) ?_
              refine ej_plus (ka := .e) (kb := .e) ?_ ?_
              · exact ej_int
              · refine ej_mod (ka := .e) (kb := .e) ?_ ?_
                · refine ej_int1 (k := .e) (by rfl) T.b_int ?_
                  refine ej_ix (ka := .e) (kb := .e) ?_ ?_ (fun _ _ => rfl)
                  · exact ej_var (pv 0)
                  · refine ej_plus (ka := .e) (kb := .e) ?_ ?_
                    · exact ej_var (pv 1)
                    · exact ej_int
                · exact ej_int
            · refine bj_cons ?_ ?_
              · refine sj_name (i := 8) sc_law_names.nd rfl (by first | exact Or.inl rfl | exact Or.inr rfl) ?_
                refine ej_mod (ka := .e) (kb := .e) ?_ ?_
                · refine ej_div (ka := .e) (kb := .e) ?_ ?_
                  · refine ej_int1 (k := .e) (by rfl) T.b_int ?_
                    refine ej_ix (ka := .e) (kb := .e) ?_ ?_ (fun _ _ => rfl)
                    · exact ej_var (pv 0)
                    · refine ej_plus (ka := .e) (kb := .e) ?_ ?_
                      · exact ej_var (pv 1)
                      · exact ej_int
                  · exact ej_int
                · exact ej_int
              · refine bj_cons ?_ ?_
                · refine sj_nameO (i := 9) sc_law_names.nd rfl (by first | exact Or.inl rfl | exact Or.inr rfl) ?_
                  refine ej_lst ?_
                  exact aj_nil
                · refine bj_cons ?_ ?_
                  · refine sj_for (tgs := [10]) (passes_of rfl) rfl ?_ ?_ ?_
                    · refine ij_rng1 (ka := .e) ?_ (by rfl) T.b_range
                      exact ej_var (pv 2)
                    · exact gj_name (pg_name (i := 10) sc_law_names.nd rfl (by first | exact Or.inl rfl | exact Or.inr rfl))
                    · refine bj_cons ?_ ?_
                      · refine sj_name (i := 11) sc_law_names.nd rfl (by first | exact Or.inl rfl | exact Or.inr rfl) ?_
                        refine ej_ix (ka := .e) (kb := .e) ?_ ?_ (fun _ _ => rfl)
                        · exact ej_var (pv 3)
                        · refine ej_mod (ka := .e) (kb := .e) ?_ ?_
                          · refine ej_plus (ka := .e) (kb := .e) ?_ ?_
                            · refine ej_mul (ka := .e) (kb := .e) ?_ ?_
                              · exact ej_var (pv 10)
                              · exact ej_var (pv 7)
                            · exact ej_var (pv 8)
                          · exact ej_int
                      · refine bj_one ?_
                        refine sj_append (pv 9) ?_
                        refine ej_plus (ka := .e) (kb := .e) ?_ ?_
                        · refine ej_plus (ka := .e) (kb := .e) ?_ ?_
                          · refine ej_mul (ka := .e) (kb := .e) ?_ ?_
                            · exact ej_var (pv 5)
                            · exact ej_var (pv 6)
                          · exact ej_var (pv 11)
                        · refine ej_mul (ka := .e) (kb := .e) ?_ ?_
                          · exact ej_var (pv 5)
                          · refine ej_sub (ka := .e) (kb := .e) ?_ ?_
                            · exact ej_var (pv 4)
                            · exact ej_var (pv 6)
                  · refine bj_one ?_
                    exact sj_retO (pv 9)
abbrev s_law_any_names : Stmt := topS 35
abbrev N_law_any_names : List Str := ["script", "k", "count", "pool", "letters", "names", "turn", "size", "spot"]
theorem sc_law_any_names : FnScope N_law_any_names ["script", "k", "count"] (defScope s_law_any_names) := ⟨rfl, rfl, rfl, by decide +kernel, rfl, by decide +kernel, by decide +kernel⟩
theorem d_law_any_names {P : Program} {w : World} {K : PySem.W.Frag} {mg : Str → Option Value} {base : Heap} {C_Web : Addr} (T : Txt K mg C_Web) (D_law_draws : Def P w K mg base "_law_draws" 3 1 wf_law_draws) (D_law_names : Def P w K mg base "_law_names" 3 1 wf_law_names) {f : Addr} {cdv : Value} {A : Around} {outer : List Env} {s : Shared} {H : Hp} {E : XK}
    (hr : Room 1 (A.deeper (envOfC "_law_any_names" (defScope s_law_any_names) s.heap.objs.size f cdv))) :
    BJ E (cxOf (L2.CX P w) P w K mg base N_law_any_names "_law_any_names" (defScope s_law_any_names) f cdv A outer s H E) (defBody s_law_any_names) b_law_any_names := by
  refine bj_cons ?_ ?_
  · refine sj_name (i := 3) sc_law_any_names.nd rfl (by first | exact Or.inl rfl | exact Or.inr rfl) ?_
    refine ej_fn D_law_draws (hr.mono (by decide)) (by rfl) passM ?_
    refine aj_consE ?_ ?_
    · exact ej_var (pv 0)
    · refine aj_consE ?_ ?_
      · exact ej_var (pv 1)
      · refine aj_consE ?_ ?_
        · exact ej_int
        · exact aj_nil
  · refine bj_cons ?_ ?_
    · refine sj_if ?_ ?_ ?_
      · refine tj_tw ?_
        refine twj_and ?_ ?_
        · refine tj_tw ?_
          refine twj_or ?_ ?_
          · refine tj_ge (ka := .e) (kb := .e) ?_ ?_
            · exact ej_var (pv 1)
            · refine ej_len (k := .e) (by rfl) T.b_len ?_
              exact ej_var (pv 0)
          · refine twj_or1 ?_
            refine tj_lt (ka := .e) (kb := .e) ?_ ?_
            · refine ej_abs (k := .e) (by rfl) T.b_abs ?_
              refine ej_ix (ka := .e) (kb := .e) ?_ ?_ (fun _ _ => rfl)
              · exact ej_var (pv 0)
              · exact ej_var (pv 1)
            · refine ej_pow (ka := .e) (kb := .e) ?_ ?_
              · exact ej_int
              · exact ej_int
        · refine twj_and1 ?_
          refine tj_eq (ka := .e) (kb := .e) hr.units ?_ ?_
          · refine ej_mod (ka := .e) (kb := .e) ?_ ?_
            · refine ej_int1 (k := .e) (by rfl) T.b_int ?_
              refine ej_ix (ka := .e) (kb := .e) ?_ ?_ (fun _ _ => rfl)
              · exact ej_var (pv 3)
              · exact ej_int
            · exact ej_int
          · exact ej_int
      · refine bj_one ?_
        refine sj_retF ?_
        refine ej_fnF D_law_names (hr.mono (by decide)) (by rfl) passM ?_
        refine aj_consE ?_ ?_
        · exact ej_var (pv 3)
        · refine aj_consE ?_ ?_
          · exact ej_int
          · refine aj_consE ?_ ?_
            · exact ej_var (pv 2)
            · exact aj_nil
      · exact bj_nil
    · refine bj_cons ?_ ?_
      · refine sj_name (i := 4) sc_law_any_names.nd rfl (by first | exact Or.inl rfl | exact Or.inr rfl) ?_
        exact ej_str
      · refine bj_cons ?_ ?_
        · refine sj_nameO (i := 5) sc_law_any_names.nd rfl (by first | exact Or.inl rfl | exact Or.inr rfl) ?_
          refine ej_lst ?_
          exact aj_nil
        · refine bj_cons ?_ ?_
          · refine sj_for (tgs := [6]) (passes_of rfl) rfl ?_ ?_ ?_
            · refine ij_rng1 (ka := .e) ?_ (by rfl) T.b_range
              exact ej_var (pv 2)
            · exact gj_name (pg_name (i := 6) sc_law_any_names.nd rfl (by first | exact Or.inl rfl | exact Or.inr rfl))
            · refine bj_cons ?_ ?_
              · refine sj_name (i := 7) sc_law_any_names.nd rfl (by first | exact Or.inl rfl | exact Or.inr rfl) ?_
                refine ej_plus (ka := .e) (kb := .e) ?_ ?_
                · exact ej_int
                · refine ej_mod (ka := .e) (kb := .e) ?_ ?_
                  · refine ej_div (ka := .e) (kb := .e) ?_ ?_
                    · refine ej_int1 (k := .e) (by rfl) T.b_int ?_
                      refine ej_ix (ka := .e) (kb := .e) ?_ ?_ (fun _ _ => rfl)
                      · exact ej_var (pv 3)
                      · refine ej_plus (ka := .e) (kb := .e) ?_ ?_
                        · refine ej_mul (ka := .e) (kb := .e) ?_ ?_
                          · exact ej_int
                          · exact ej_var (pv 6)
                        · exact ej_int
                    · exact ej_int
                  · exact ej_int
              · refine bj_one ?_
                refine sj_append (pv 5) ?_
                refine ej_join (k := .f) ?_ ?_
                · exact ej_str
                · refine ej_comp (own := [("spot", 8)]) (tgs := [8]) rfl sc_law_any_names.nd (blkOk_by (by rfl)) ?_ (by decide) ?_ ?_ ?_
                  · refine ij_rng1 (ka := .e) ?_ (by rfl) T.b_range
                    exact ej_var (pv 7)
                  · refine fun _ _ _ _ _ => ?_
                    exact gj_name (pg_name (i := 8) sc_law_any_names.nd rfl (by first | exact Or.inl rfl | exact Or.inr rfl))
                  · refine fun _ _ _ _ _ => ?_
                    exact tsj_nil
                  · refine fun _ _ _ _ _ => ?_
                    refine ej_ix (ka := .e) (kb := .e) ?_ ?_ (fun _ _ => rfl)
                    · exact ej_var (pv 4)
                    · refine ej_mod (ka := .e) (kb := .e) ?_ ?_
                      · refine ej_int1 (k := .e) (by rfl) T.b_int ?_
                        refine ej_ix (ka := .e) (kb := .e) ?_ ?_ (fun _ _ => rfl)
                        · exact ej_var (pv 3)
                        · refine ej_plus (ka := .e) (kb := .e) ?_ ?_
                          · refine ej_mul (ka := .e) (kb := .e) ?_ ?_
                            · exact ej_int
                            · exact ej_var (pv 6)
                          · exact ej_var (pv 8)
                      · exact ej_int
          · refine bj_cons ?_ ?_
            · refine sj_if ?_ ?_ ?_
              · refine tj_lt (ka := .e) (kb := .e) ?_ ?_
                · refine ej_lenSetS (k := .o) rfl ?_ (by rfl) T.b_len (by rfl) T.b_set
                  exact ej_peek (pv 5)
                · exact ej_var (pv 2)
              · refine bj_one ?_
                refine sj_retF ?_
                refine ej_sliceL (ka := .f) ?_ ?_ ?_
                · refine ej_lst ?_
                  refine aj_consE ?_ ?_
                  · exact ej_str
                  · refine aj_consE ?_ ?_
                    · exact ej_str
                    · refine aj_consE ?_ ?_
                      · exact ej_str
                      · refine aj_consE ?_ ?_
                        · exact ej_str
                        · refine aj_consE ?_ ?_
                          · exact ej_str
                          · refine aj_consE ?_ ?_
                            · exact ej_str
                            · refine aj_consE ?_ ?_
                              · exact ej_str
                              · refine aj_consE ?_ ?_
                                · exact ej_str
                                · exact aj_nil
                · exact oj_none
                · refine oj_some (k := .e) ?_
                  exact ej_var (pv 2)
              · exact bj_nil
            · refine bj_one ?_
              exact sj_retO (pv 5)
abbrev s_law_codes : Stmt := topS 36
abbrev N_law_codes : List Str := ["pool", "at", "count", "cycle", "kind", "thin", "scale", "rows", "u", "v", "digit", "codes", "beat"]
theorem sc_law_codes : FnScope N_law_codes ["pool", "at", "count", "cycle", "kind", "thin"] (defScope s_law_codes) := ⟨rfl, rfl, rfl, by decide +kernel, rfl, by decide +kernel, by decide +kernel⟩
theorem d_law_codes {P : Program} {w : World} {K : PySem.W.Frag} {mg : Str → Option Value} {base : Heap} {C_Web : Addr} (T : Txt K mg C_Web)  {f : Addr} {cdv : Value} {A : Around} {outer : List Env} {s : Shared} {H : Hp} {E : XK}
    (hr : Room 0 (A.deeper (envOfC "_law_codes" (defScope s_law_codes) s.heap.objs.size f cdv))) :
    BJ E (cxOf (L2.CX P w) P w K mg base N_law_codes "_law_codes" (defScope s_law_codes) f cdv A outer s H E) (defBody s_law_codes) b_law_codes := by
  refine bj_cons ?_ ?_
  · refine sj_name (i := 6) sc_law_codes.nd rfl (by first | exact Or.inl rfl | exact Or.inr rfl) ?_
    refine ej_toE ?_
    refine ej_lst ?_
    refine aj_consE ?_ ?_
    · exact ej_int
    · refine aj_consE ?_ ?_
      · exact ej_int
      · refine aj_consE ?_ ?_
        · exact ej_int
        · refine aj_consE ?_ ?_
          · exact ej_int
          · exact aj_nil
  · refine bj_cons ?_ ?_
    · refine sj_nameO (i := 7) sc_law_codes.nd rfl (by first | exact Or.inl rfl | exact Or.inr rfl) ?_
      refine ej_lst ?_
      exact aj_nil
    · refine bj_cons ?_ ?_
      · refine sj_for (tgs := [8]) (passes_of rfl) rfl ?_ ?_ ?_
        · refine ij_rng1 (ka := .e) ?_ (by rfl) T.b_range
          exact ej_var (pv 2)
        · exact gj_name (pg_name (i := 8) sc_law_codes.nd rfl (by first | exact Or.inl rfl | exact Or.inr rfl))
        · refine bj_one ?_
          refine sj_for (tgs := [9]) (passes_of rfl) rfl ?_ ?_ ?_
          · refine ij_rng1 (ka := .e) ?_ (by rfl) T.b_range
            exact ej_var (pv 8)
          · exact gj_name (pg_name (i := 9) sc_law_codes.nd rfl (by first | exact Or.inl rfl | exact Or.inr rfl))
          · refine bj_cons ?_ ?_
            · refine sj_name (i := 10) sc_law_codes.nd rfl (by first | exact Or.inl rfl | exact Or.inr rfl) ?_
              refine ej_int1 (k := .e) (by rfl) T.b_int ?_
              refine ej_ix (ka := .e) (kb := .e) ?_ ?_ (fun _ _ => rfl)
              · exact ej_var (pv 0)
              · refine ej_plus (ka := .e) (kb := .e) ?_ ?_
                · refine ej_plus (ka := .e) (kb := .e) ?_ ?_
                  · exact ej_var (pv 1)
                  · refine ej_div (ka := .e) (kb := .e) ?_ ?_
                    · refine ej_mul (ka := .e) (kb := .e) ?_ ?_
                      · exact ej_var (pv 8)
                      · refine ej_sub (ka := .e) (kb := .e) ?_ ?_
                        · exact ej_var (pv 8)
                        · exact ej_int
                    · exact ej_int
                · exact ej_var (pv 9)
            · refine bj_cons ?_ ?_
              · refine sj_compS (own := [("beat", 12)]) (tgs := [12]) (i := 11) rfl sc_law_codes.nd rfl rfl (sw_true rfl rfl rfl (by decide +kernel)) (blkOk_by (by rfl)) ?_ (by decide) ?_ ?_ ?_
                · refine ij_rng1 (ka := .e) ?_ (by rfl) T.b_range
                  exact ej_var (pv 3)
                · refine fun _ _ _ _ _ => ?_
                  exact gj_name (pg_name (i := 12) sc_law_codes.nd rfl (by first | exact Or.inl rfl | exact Or.inr rfl))
                · refine fun _ _ _ _ _ => ?_
                  exact tsj_nil
                · refine fun _ _ _ _ _ => ?_
                  refine ej_mod (ka := .e) (kb := .e) ?_ ?_
                  · refine ej_int1 (k := .e) (by rfl) T.b_int ?_
                    refine ej_div (ka := .e) (kb := .e) ?_ ?_
                    · exact ej_var (pv 10)
                    · refine ej_ix (ka := .e) (kb := .e) ?_ ?_ (fun _ _ => rfl)
                      · exact ej_var (pv 6)
                      · exact ej_var (pv 12)
                  · exact ej_int
              · refine bj_cons ?_ ?_
                · refine sj_if ?_ ?_ ?_
                  · refine tj_eq (ka := .e) (kb := .e) hr.units ?_ ?_
                    · exact ej_var (pv 4)
                    · exact ej_int
                  · refine bj_one ?_
                    refine sj_compS (own := [("beat", 12)]) (tgs := [12]) (i := 11) rfl sc_law_codes.nd rfl rfl (sw_true rfl rfl rfl (by decide +kernel)) (blkOk_by (by rfl)) ?_ (by decide) ?_ ?_ ?_
                    · refine ij_rng1 (ka := .e) ?_ (by rfl) T.b_range
                      exact ej_var (pv 3)
                    · refine fun _ _ _ _ _ => ?_
                      exact gj_name (pg_name (i := 12) sc_law_codes.nd rfl (by first | exact Or.inl rfl | exact Or.inr rfl))
                    · refine fun _ _ _ _ _ => ?_
                      exact tsj_nil
                    · refine fun _ _ _ _ _ => ?_
                      refine ej_mod (ka := .e) (kb := .e) ?_ ?_
                      · exact ej_var (pv 10)
                      · exact ej_int
                  · exact bj_nil
                · refine bj_cons ?_ ?_
                  · refine sj_if ?_ ?_ ?_
                    · refine tj_eq (ka := .e) (kb := .e) hr.units ?_ ?_
                      · exact ej_var (pv 4)
                      · exact ej_int
                    · refine bj_one ?_
                      refine sj_compS (own := [("beat", 12)]) (tgs := [12]) (i := 11) rfl sc_law_codes.nd rfl rfl (sw_true rfl rfl rfl (by decide +kernel)) (blkOk_by (by rfl)) ?_ (by decide) ?_ ?_ ?_
                      · refine ij_rng1 (ka := .e) ?_ (by rfl) T.b_range
                        exact ej_var (pv 3)
                      · refine fun _ _ _ _ _ => ?_
                        exact gj_name (pg_name (i := 12) sc_law_codes.nd rfl (by first | exact Or.inl rfl | exact Or.inr rfl))
                      · refine fun _ _ _ _ _ => ?_
                        exact tsj_nil
                      · refine fun _ _ _ _ _ => ?_
                        refine ej_mod (ka := .e) (kb := .e) ?_ ?_
                        · exact ej_var (pv 10)
                        · exact ej_int
                    · exact bj_nil
                  · refine bj_cons ?_ ?_
                    · refine sj_if ?_ ?_ ?_
                      · refine tj_lt (ka := .e) (kb := .e) ?_ ?_
                        · refine ej_mod (ka := .e) (kb := .e) ?_ ?_
                          · refine ej_int1 (k := .e) (by rfl) T.b_int ?_
                            refine ej_plus (ka := .e) (kb := .e) ?_ ?_
                            · refine ej_plus (ka := .e) (kb := .e) ?_ ?_
                              · refine ej_div (ka := .e) (kb := .e) ?_ ?_
                                · exact ej_var (pv 10)
                                · exact ej_int
                              · exact ej_var (pv 8)
                            · exact ej_var (pv 9)
                          · exact ej_int
                        · exact ej_var (pv 5)
                      · refine bj_one ?_
                        refine sj_compS (own := [("beat", 12)]) (tgs := [12]) (i := 11) rfl sc_law_codes.nd rfl rfl (sw_true rfl rfl rfl (by decide +kernel)) (blkOk_by (by rfl)) ?_ (by decide) ?_ ?_ ?_
                        · refine ij_rng1 (ka := .e) ?_ (by rfl) T.b_range
                          exact ej_var (pv 3)
                        · refine fun _ _ _ _ _ => ?_
                          exact gj_name (pg_name (i := 12) sc_law_codes.nd rfl (by first | exact Or.inl rfl | exact Or.inr rfl))
                        · refine fun _ _ _ _ _ => ?_
                          exact tsj_nil
                        · refine fun _ _ _ _ _ => ?_
                          exact ej_int
                      · exact bj_nil
                    · refine bj_one ?_
                      refine sj_append (pv 7) ?_
                      refine ej_toE ?_
                      refine ej_lst ?_
                      refine aj_consE ?_ ?_
                      · exact ej_var (pv 9)
                      · refine aj_consE ?_ ?_
                        · exact ej_var (pv 8)
                        · refine aj_consE ?_ ?_
                          · exact ej_var (pv 11)
                          · refine aj_consE ?_ ?_
                            · refine ej_div (ka := .e) (kb := .e) ?_ ?_
                              · exact ej_var (pv 10)
                              · exact ej_int
                            · exact aj_nil
      · refine bj_one ?_
        exact sj_retO (pv 7)
abbrev s_law_pair_ties : Stmt := topS 37
abbrev N_law_pair_ties : List Str := ["first", "second", "codes", "style", "both", "forth", "back", "found", "beat", "tie"]
theorem sc_law_pair_ties : FnScope N_law_pair_ties ["first", "second", "codes", "style"] (defScope s_law_pair_ties) := ⟨rfl, rfl, rfl, by decide +kernel, rfl, by decide +kernel, by decide +kernel⟩
theorem d_law_pair_ties {P : Program} {w : World} {K : PySem.W.Frag} {mg : Str → Option Value} {base : Heap} {C_Web : Addr} (T : Txt K mg C_Web)  {f : Addr} {cdv : Value} {A : Around} {outer : List Env} {s : Shared} {H : Hp} {E : XK}
    (hr : Room 0 (A.deeper (envOfC "_law_pair_ties" (defScope s_law_pair_ties) s.heap.objs.size f cdv))) :
    BJ E (cxOf (L2.CX P w) P w K mg base N_law_pair_ties "_law_pair_ties" (defScope s_law_pair_ties) f cdv A outer s H E) (defBody s_law_pair_ties) b_law_pair_ties := by
  refine bj_cons ?_ ?_
  · refine sj_name (i := 4) sc_law_pair_ties.nd rfl (by first | exact Or.inl rfl | exact Or.inr rfl) ?_
    refine ej_tuple1 (k := .f) (by rfl) T.b_tuple ?_
    refine ej_comp (own := [("beat", 8)]) (tgs := [8]) rfl sc_law_pair_ties.nd (blkOk_by (by rfl)) ?_ (by decide) ?_ ?_ ?_
    · refine ij_rng1 (ka := .e) ?_ (by rfl) T.b_range
      refine ej_len (k := .e) (by rfl) T.b_len ?_
      exact ej_var (pv 2)
    · refine fun _ _ _ _ _ => ?_
      exact gj_name (pg_name (i := 8) sc_law_pair_ties.nd rfl (by first | exact Or.inl rfl | exact Or.inr rfl))
    · refine fun _ _ _ _ _ => ?_
      refine tsj_one ?_
      refine tj_eq (ka := .e) (kb := .e) hr.units ?_ ?_
      · refine ej_ix (ka := .e) (kb := .e) ?_ ?_ (fun _ _ => rfl)
        · exact ej_var (pv 2)
        · exact ej_var (pv 8)
      · exact ej_int
    · refine fun _ _ _ _ _ => ?_
      exact ej_var (pv 8)
  · refine bj_cons ?_ ?_
    · refine sj_name (i := 5) sc_law_pair_ties.nd rfl (by first | exact Or.inl rfl | exact Or.inr rfl) ?_
      refine ej_tuple1 (k := .f) (by rfl) T.b_tuple ?_
      refine ej_comp (own := [("beat", 8)]) (tgs := [8]) rfl sc_law_pair_ties.nd (blkOk_by (by rfl)) ?_ (by decide) ?_ ?_ ?_
      · refine ij_rng1 (ka := .e) ?_ (by rfl) T.b_range
        refine ej_len (k := .e) (by rfl) T.b_len ?_
        exact ej_var (pv 2)
      · refine fun _ _ _ _ _ => ?_
        exact gj_name (pg_name (i := 8) sc_law_pair_ties.nd rfl (by first | exact Or.inl rfl | exact Or.inr rfl))
      · refine fun _ _ _ _ _ => ?_
        refine tsj_one ?_
        refine tj_eq (ka := .e) (kb := .e) hr.units ?_ ?_
        · refine ej_ix (ka := .e) (kb := .e) ?_ ?_ (fun _ _ => rfl)
          · exact ej_var (pv 2)
          · exact ej_var (pv 8)
        · exact ej_int
      · refine fun _ _ _ _ _ => ?_
        exact ej_var (pv 8)
    · refine bj_cons ?_ ?_
      · refine sj_name (i := 6) sc_law_pair_ties.nd rfl (by first | exact Or.inl rfl | exact Or.inr rfl) ?_
        refine ej_tuple1 (k := .f) (by rfl) T.b_tuple ?_
        refine ej_comp (own := [("beat", 8)]) (tgs := [8]) rfl sc_law_pair_ties.nd (blkOk_by (by rfl)) ?_ (by decide) ?_ ?_ ?_
        · refine ij_rng1 (ka := .e) ?_ (by rfl) T.b_range
          refine ej_len (k := .e) (by rfl) T.b_len ?_
          exact ej_var (pv 2)
        · refine fun _ _ _ _ _ => ?_
          exact gj_name (pg_name (i := 8) sc_law_pair_ties.nd rfl (by first | exact Or.inl rfl | exact Or.inr rfl))
        · refine fun _ _ _ _ _ => ?_
          refine tsj_one ?_
          refine tj_eq (ka := .e) (kb := .e) hr.units ?_ ?_
          · refine ej_ix (ka := .e) (kb := .e) ?_ ?_ (fun _ _ => rfl)
            · exact ej_var (pv 2)
            · exact ej_var (pv 8)
          · exact ej_int
        · refine fun _ _ _ _ _ => ?_
          exact ej_var (pv 8)
      · refine bj_cons ?_ ?_
        · refine sj_nameO (i := 7) sc_law_pair_ties.nd rfl (by first | exact Or.inl rfl | exact Or.inr rfl) ?_
          refine ej_lst ?_
          refine aj_consE ?_ ?_
          · refine ej_tup ?_
            refine aj_consE ?_ ?_
            · exact ej_var (pv 0)
            · refine aj_consE ?_ ?_
              · exact ej_var (pv 1)
              · refine aj_consE ?_ ?_
                · exact ej_str
                · refine aj_consE ?_ ?_
                  · exact ej_var (pv 4)
                  · exact aj_nil
          · refine aj_consE ?_ ?_
            · refine ej_tup ?_
              refine aj_consE ?_ ?_
              · exact ej_var (pv 0)
              · refine aj_consE ?_ ?_
                · exact ej_var (pv 1)
                · refine aj_consE ?_ ?_
                  · exact ej_str
                  · refine aj_consE ?_ ?_
                    · exact ej_var (pv 5)
                    · exact aj_nil
            · refine aj_consE ?_ ?_
              · refine ej_tup ?_
                refine aj_consE ?_ ?_
                · exact ej_var (pv 1)
                · refine aj_consE ?_ ?_
                  · exact ej_var (pv 0)
                  · refine aj_consE ?_ ?_
                    · exact ej_str
                    · refine aj_consE ?_ ?_
                      · exact ej_var (pv 6)
                      · exact aj_nil
              · exact aj_nil
        · refine bj_cons ?_ ?_
          · refine sj_if ?_ ?_ ?_
            · refine tj_eq (ka := .e) (kb := .e) hr.units ?_ ?_
              · exact ej_var (pv 3)
              · exact ej_int
            · refine bj_cons ?_ ?_
              · refine sj_compSO (own := [("beat", 8)]) (tgs := [8]) (i := 7) rfl sc_law_pair_ties.nd rfl rfl (sw_true rfl rfl rfl (by decide +kernel)) (blkOk_by (by rfl)) ?_ (by decide) ?_ ?_ ?_
                · refine ij_seq ?_
                  exact ej_var (pv 4)
                · refine fun _ _ _ _ _ => ?_
                  exact gj_name (pg_name (i := 8) sc_law_pair_ties.nd rfl (by first | exact Or.inl rfl | exact Or.inr rfl))
                · refine fun _ _ _ _ _ => ?_
                  exact tsj_nil
                · refine fun _ _ _ _ _ => ?_
                  refine ej_tup ?_
                  refine aj_consE ?_ ?_
                  · exact ej_var (pv 0)
                  · refine aj_consE ?_ ?_
                    · exact ej_var (pv 1)
                    · refine aj_consE ?_ ?_
                      · exact ej_str
                      · refine aj_consE ?_ ?_
                        · refine ej_tup ?_
                          refine aj_consE ?_ ?_
                          · exact ej_var (pv 8)
                          · exact aj_nil
                        · exact aj_nil
              · refine bj_cons ?_ ?_
                · refine sj_nameO (i := 7) sc_law_pair_ties.nd rfl (by first | exact Or.inl rfl | exact Or.inr rfl) ?_
                  refine ej_cat (ka := .o) (kb := .f) ?_ ?_
                  · exact ej_peek (pv 7)
                  · refine ej_comp (own := [("beat", 8)]) (tgs := [8]) rfl sc_law_pair_ties.nd (blkOk_by (by rfl)) ?_ (by decide) ?_ ?_ ?_
                    · refine ij_seq ?_
                      exact ej_var (pv 5)
                    · refine fun _ _ _ _ _ => ?_
                      exact gj_name (pg_name (i := 8) sc_law_pair_ties.nd rfl (by first | exact Or.inl rfl | exact Or.inr rfl))
                    · refine fun _ _ _ _ _ => ?_
                      exact tsj_nil
                    · refine fun _ _ _ _ _ => ?_
                      refine ej_tup ?_
                      refine aj_consE ?_ ?_
                      · exact ej_var (pv 0)
                      · refine aj_consE ?_ ?_
                        · exact ej_var (pv 1)
                        · refine aj_consE ?_ ?_
                          · exact ej_str
                          · refine aj_consE ?_ ?_
                            · refine ej_tup ?_
                              refine aj_consE ?_ ?_
                              · exact ej_var (pv 8)
                              · exact aj_nil
                            · exact aj_nil
                · refine bj_one ?_
                  refine sj_nameO (i := 7) sc_law_pair_ties.nd rfl (by first | exact Or.inl rfl | exact Or.inr rfl) ?_
                  refine ej_cat (ka := .o) (kb := .f) ?_ ?_
                  · exact ej_peek (pv 7)
                  · refine ej_comp (own := [("beat", 8)]) (tgs := [8]) rfl sc_law_pair_ties.nd (blkOk_by (by rfl)) ?_ (by decide) ?_ ?_ ?_
                    · refine ij_seq ?_
                      exact ej_var (pv 6)
                    · refine fun _ _ _ _ _ => ?_
                      exact gj_name (pg_name (i := 8) sc_law_pair_ties.nd rfl (by first | exact Or.inl rfl | exact Or.inr rfl))
                    · refine fun _ _ _ _ _ => ?_
                      exact tsj_nil
                    · refine fun _ _ _ _ _ => ?_
                      refine ej_tup ?_
                      refine aj_consE ?_ ?_
                      · exact ej_var (pv 1)
                      · refine aj_consE ?_ ?_
                        · exact ej_var (pv 0)
                        · refine aj_consE ?_ ?_
                          · exact ej_str
                          · refine aj_consE ?_ ?_
                            · refine ej_tup ?_
                              refine aj_consE ?_ ?_
                              · exact ej_var (pv 8)
                              · exact aj_nil
                            · exact aj_nil
            · exact bj_nil
          · refine bj_cons ?_ ?_
            · refine sj_if ?_ ?_ ?_
              · refine tj_eq (ka := .e) (kb := .e) hr.units ?_ ?_
                · exact ej_var (pv 3)
                · exact ej_int
              · refine bj_cons ?_ ?_
                · refine sj_nameO (i := 7) sc_law_pair_ties.nd rfl (by first | exact Or.inl rfl | exact Or.inr rfl) ?_
                  refine ej_lst ?_
                  refine aj_consE ?_ ?_
                  · refine ej_tup ?_
                    refine aj_consE ?_ ?_
                    · exact ej_var (pv 0)
                    · refine aj_consE ?_ ?_
                      · exact ej_var (pv 1)
                      · refine aj_consE ?_ ?_
                        · exact ej_str
                        · refine aj_consE ?_ ?_
                          · refine ej_tuple1 (k := .f) (by rfl) T.b_tuple ?_
                            refine ej_sortA (k := .e) (by rfl) T.b_sorted ?_
                            refine ej_plus (ka := .e) (kb := .e) ?_ ?_
                            · exact ej_var (pv 4)
                            · exact ej_var (pv 5)
                          · exact aj_nil
                  · exact aj_nil
                · refine bj_one ?_
                  refine sj_append (pv 7) ?_
                  refine ej_tup ?_
                  refine aj_consE ?_ ?_
                  · exact ej_var (pv 1)
                  · refine aj_consE ?_ ?_
                    · exact ej_var (pv 0)
                    · refine aj_consE ?_ ?_
                      · exact ej_str
                      · refine aj_consE ?_ ?_
                        · refine ej_tuple1 (k := .f) (by rfl) T.b_tuple ?_
                          refine ej_sortA (k := .e) (by rfl) T.b_sorted ?_
                          refine ej_plus (ka := .e) (kb := .e) ?_ ?_
                          · exact ej_var (pv 4)
                          · exact ej_var (pv 6)
                        · exact aj_nil
              · exact bj_nil
            · refine bj_cons ?_ ?_
              · refine sj_if ?_ ?_ ?_
                · refine tj_eq (ka := .e) (kb := .e) hr.units ?_ ?_
                  · exact ej_var (pv 3)
                  · exact ej_int
                · refine bj_cons ?_ ?_
                  · refine sj_nameO (i := 7) sc_law_pair_ties.nd rfl (by first | exact Or.inl rfl | exact Or.inr rfl) ?_
                    refine ej_lst ?_
                    refine aj_consE ?_ ?_
                    · refine ej_tup ?_
                      refine aj_consE ?_ ?_
                      · exact ej_var (pv 1)
                      · refine aj_consE ?_ ?_
                        · exact ej_var (pv 0)
                        · refine aj_consE ?_ ?_
                          · exact ej_str
                          · refine aj_consE ?_ ?_
                            · refine ej_tuple1 (k := .f) (by rfl) T.b_tuple ?_
                              refine ej_sortA (k := .e) (by rfl) T.b_sorted ?_
                              refine ej_plus (ka := .e) (kb := .e) ?_ ?_
                              · exact ej_var (pv 4)
                              · exact ej_var (pv 6)
                            · exact aj_nil
                    · refine aj_consE ?_ ?_
                      · refine ej_tup ?_
                        refine aj_consE ?_ ?_
                        · exact ej_var (pv 1)
                        · refine aj_consE ?_ ?_
                          · exact ej_var (pv 0)
                          · refine aj_consE ?_ ?_
                            · exact ej_str
                            · refine aj_consE ?_ ?_
                              · exact ej_var (pv 4)
                              · exact aj_nil
                      · exact aj_nil
                  · refine bj_one ?_
                    refine sj_append (pv 7) ?_
                    refine ej_tup ?_
                    refine aj_consE ?_ ?_
                    · exact ej_var (pv 0)
                    · refine aj_consE ?_ ?_
                      · exact ej_var (pv 1)
                      · refine aj_consE ?_ ?_
                        · exact ej_str
                        · refine aj_consE ?_ ?_
                          · exact ej_var (pv 5)
                          · exact aj_nil
                · exact bj_nil
              · refine bj_one ?_
                refine sj_frz (i := 7) ?_
                refine sj_retF ?_
                refine ej_comp (own := [("tie", 9)]) (tgs := [9]) rfl sc_law_pair_ties.nd (blkOk_by (by rfl)) ?_ (by decide) ?_ ?_ ?_
                · refine ij_seq ?_
                  exact ej_var (pv 7)
                · refine fun _ _ _ _ _ => ?_
                  exact gj_name (pg_name (i := 9) sc_law_pair_ties.nd rfl (by first | exact Or.inl rfl | exact Or.inr rfl))
                · refine fun _ _ _ _ _ => ?_
                  refine tsj_one ?_
                  refine tj_ne (ka := .e) (kb := .e) hr.units ?_ ?_
                  · refine ej_ix (ka := .e) (kb := .e) ?_ ?_ (fun _ _ => rfl)
                    · exact ej_var (pv 9)
                    · exact ej_int
                  · refine ej_tup ?_
                    exact aj_nil
                · refine fun _ _ _ _ _ => ?_
                  exact ej_var (pv 9)
abbrev s_law_any_ties : Stmt := topS 38
abbrev N_law_any_ties : List Str := ["pool", "names", "cycle", "ties", "thin", "v", "u", "codes", "rest", "style"]
theorem sc_law_any_ties : FnScope N_law_any_ties ["pool", "names", "cycle"] (defScope s_law_any_ties) := ⟨rfl, rfl, rfl, by decide +kernel, rfl, by decide +kernel, by decide +kernel⟩
theorem d_law_any_ties {P : Program} {w : World} {K : PySem.W.Frag} {mg : Str → Option Value} {base : Heap} {C_Web : Addr} (T : Txt K mg C_Web) (D_law_codes : Def P w K mg base "_law_codes" 6 1 wf_law_codes) (D_law_pair_ties : Def P w K mg base "_law_pair_ties" 4 1 wf_law_pair_ties) {f : Addr} {cdv : Value} {A : Around} {outer : List Env} {s : Shared} {H : Hp} {E : XK}
    (hr : Room 1 (A.deeper (envOfC "_law_any_ties" (defScope s_law_any_ties) s.heap.objs.size f cdv))) :
    BJ E (cxOf (L2.CX P w) P w K mg base N_law_any_ties "_law_any_ties" (defScope s_law_any_ties) f cdv A outer s H E) (defBody s_law_any_ties) b_law_any_ties := by
  refine bj_cons ?_ ?_
  · refine sj_name (i := 3) sc_law_any_ties.nd rfl (by first | exact Or.inl rfl | exact Or.inr rfl) ?_
    refine ej_toE ?_
    refine ej_lst ?_
    exact aj_nil
  · refine bj_cons ?_ ?_
    · refine sj_name (i := 4) sc_law_any_ties.nd rfl (by first | exact Or.inl rfl | exact Or.inr rfl) ?_
      refine ej_ix (ka := .f) (kb := .e) ?_ ?_ (fun _ _ => rfl)
      · refine ej_lst ?_
        refine aj_consE ?_ ?_
        · exact ej_int
        · refine aj_consE ?_ ?_
          · exact ej_int
          · refine aj_consE ?_ ?_
            · exact ej_int
            · refine aj_consE ?_ ?_
              · exact ej_int
              · exact aj_nil
      · refine ej_mod (ka := .e) (kb := .e) ?_ ?_
        · refine ej_int1 (k := .e) (by rfl) T.b_int ?_
          refine ej_ix (ka := .e) (kb := .e) ?_ ?_ (fun _ _ => rfl)
          · exact ej_var (pv 0)
          · exact ej_int
        · exact ej_int
    · refine bj_cons ?_ ?_
      · refine sj_for (tgs := [5, 6, 7, 8]) (passes_of rfl) rfl ?_ ?_ ?_
        · refine ij_seq ?_
          refine ej_fn D_law_codes (hr.mono (by decide)) (by rfl) passM ?_
          refine aj_consE ?_ ?_
          · exact ej_var (pv 0)
          · refine aj_consE ?_ ?_
            · exact ej_int
            · refine aj_consE ?_ ?_
              · refine ej_len (k := .e) (by rfl) T.b_len ?_
                exact ej_var (pv 1)
              · refine aj_consE ?_ ?_
                · exact ej_var (pv 2)
                · refine aj_consE ?_ ?_
                  · refine ej_mod (ka := .e) (kb := .e) ?_ ?_
                    · refine ej_int1 (k := .e) (by rfl) T.b_int ?_
                      refine ej_ix (ka := .e) (kb := .e) ?_ ?_ (fun _ _ => rfl)
                      · exact ej_var (pv 0)
                      · exact ej_int
                    · exact ej_int
                  · refine aj_consE ?_ ?_
                    · exact ej_var (pv 4)
                    · exact aj_nil
        · refine gj_lst (n := 4) rfl ?_
          refine gsj_name ?_ ?_
          · exact gj_name (pg_name (i := 5) sc_law_any_ties.nd rfl (by first | exact Or.inl rfl | exact Or.inr rfl))
          · refine gsj_name ?_ ?_
            · exact gj_name (pg_name (i := 6) sc_law_any_ties.nd rfl (by first | exact Or.inl rfl | exact Or.inr rfl))
            · refine gsj_name ?_ ?_
              · exact gj_name (pg_name (i := 7) sc_law_any_ties.nd rfl (by first | exact Or.inl rfl | exact Or.inr rfl))
              · refine gsj_name ?_ ?_
                · exact gj_name (pg_name (i := 8) sc_law_any_ties.nd rfl (by first | exact Or.inl rfl | exact Or.inr rfl))
                · exact gsj_nil
        · refine bj_cons ?_ ?_
          · refine sj_name (i := 9) sc_law_any_ties.nd rfl (by first | exact Or.inl rfl | exact Or.inr rfl) ?_
            refine ej_mod (ka := .e) (kb := .e) ?_ ?_
            · refine ej_int1 (k := .e) (by rfl) T.b_int ?_
              refine ej_plus (ka := .e) (kb := .e) ?_ ?_
              · exact ej_var (pv 8)
              · refine ej_ix (ka := .e) (kb := .e) ?_ ?_ (fun _ _ => rfl)
                · exact ej_var (pv 0)
                · exact ej_int
            · exact ej_int
          · refine bj_cons ?_ ?_
            · refine sj_if ?_ ?_ ?_
              · refine tj_tw ?_
                refine twj_and ?_ ?_
                · refine tj_gt (ka := .e) (kb := .e) ?_ ?_
                  · refine ej_len (k := .e) (by rfl) T.b_len ?_
                    exact ej_var (pv 1)
                  · exact ej_int
                · refine twj_and1 ?_
                  refine tj_eq (ka := .e) (kb := .e) hr.units ?_ ?_
                  · exact ej_var (pv 9)
                  · exact ej_int
              · refine bj_one ?_
                refine sj_name (i := 9) sc_law_any_ties.nd rfl (by first | exact Or.inl rfl | exact Or.inr rfl) ?_
                exact ej_int
              · exact bj_nil
            · refine bj_one ?_
              refine sj_name (i := 3) sc_law_any_ties.nd rfl (by first | exact Or.inl rfl | exact Or.inr rfl) ?_
              refine ej_plus (ka := .e) (kb := .e) ?_ ?_
              · exact ej_var (pv 3)
              · refine ej_fn D_law_pair_ties (hr.mono (by decide)) (by rfl) passM ?_
                refine aj_consE ?_ ?_
                · refine ej_ix (ka := .e) (kb := .e) ?_ ?_ (fun _ _ => rfl)
                  · exact ej_var (pv 1)
                  · exact ej_var (pv 5)
                · refine aj_consE ?_ ?_
                  · refine ej_ix (ka := .e) (kb := .e) ?_ ?_ (fun _ _ => rfl)
                    · exact ej_var (pv 1)
                    · exact ej_var (pv 6)
                  · refine aj_consE ?_ ?_
                    · exact ej_var (pv 7)
                    · refine aj_consE ?_ ?_
                      · exact ej_var (pv 9)
                      · exact aj_nil
      · refine bj_one ?_
        refine sj_ret ?_
        exact ej_var (pv 3)
abbrev s_law_table : Stmt := topS 33
abbrev N_law_table : List Str := ["names", "ties", "cycle", "table", "beat", "row", "u", "nexts", "first", "second", "way", "when"]
theorem sc_law_table : FnScope N_law_table ["names", "ties", "cycle"] (defScope s_law_table) := ⟨rfl, rfl, rfl, by decide +kernel, rfl, by decide +kernel, by decide +kernel⟩
theorem d_law_table {P : Program} {w : World} {K : PySem.W.Frag} {mg : Str → Option Value} {base : Heap} {C_Web : Addr} (T : Txt K mg C_Web)  {f : Addr} {cdv : Value} {A : Around} {outer : List Env} {s : Shared} {H : Hp} {E : XK}
    (hr : Room 0 (A.deeper (envOfC "_law_table" (defScope s_law_table) s.heap.objs.size f cdv))) :
    BJ E (cxOf (L2.CX P w) P w K mg base N_law_table "_law_table" (defScope s_law_table) f cdv A outer s H E) (defBody s_law_table) b_law_table := by
  refine bj_cons ?_ ?_
  · refine sj_nameO (i := 3) sc_law_table.nd rfl (by first | exact Or.inl rfl | exact Or.inr rfl) ?_
    refine ej_lst ?_
    exact aj_nil
  · refine bj_cons ?_ ?_
    · refine sj_for (tgs := [4]) (passes_of rfl) rfl ?_ ?_ ?_
      · refine ij_rng1 (ka := .e) ?_ (by rfl) T.b_range
        exact ej_var (pv 2)
      · exact gj_name (pg_name (i := 4) sc_law_table.nd rfl (by first | exact Or.inl rfl | exact Or.inr rfl))
      · refine bj_cons ?_ ?_
        · refine sj_nameO (i := 5) sc_law_table.nd rfl (by first | exact Or.inl rfl | exact Or.inr rfl) ?_
          refine ej_lst ?_
          exact aj_nil
        · refine bj_cons ?_ ?_
          · refine sj_for (tgs := [6]) (passes_of rfl) rfl ?_ ?_ ?_
            · refine ij_rng1 (ka := .e) ?_ (by rfl) T.b_range
              refine ej_len (k := .e) (by rfl) T.b_len ?_
              exact ej_var (pv 0)
            · exact gj_name (pg_name (i := 6) sc_law_table.nd rfl (by first | exact Or.inl rfl | exact Or.inr rfl))
            · refine bj_cons ?_ ?_
              · refine sj_nameO (i := 7) sc_law_table.nd rfl (by first | exact Or.inl rfl | exact Or.inr rfl) ?_
                refine ej_lst ?_
                exact aj_nil
              · refine bj_cons ?_ ?_
                · refine sj_for (tgs := [8, 9, 10, 11]) (passes_of rfl) rfl ?_ ?_ ?_
                  · refine ij_seq ?_
                    exact ej_var (pv 1)
                  · refine gj_tup (n := 4) rfl ?_
                    refine gsj_name ?_ ?_
                    · exact gj_name (pg_name (i := 8) sc_law_table.nd rfl (by first | exact Or.inl rfl | exact Or.inr rfl))
                    · refine gsj_name ?_ ?_
                      · exact gj_name (pg_name (i := 9) sc_law_table.nd rfl (by first | exact Or.inl rfl | exact Or.inr rfl))
                      · refine gsj_name ?_ ?_
                        · exact gj_name (pg_name (i := 10) sc_law_table.nd rfl (by first | exact Or.inl rfl | exact Or.inr rfl))
                        · refine gsj_name ?_ ?_
                          · exact gj_name (pg_name (i := 11) sc_law_table.nd rfl (by first | exact Or.inl rfl | exact Or.inr rfl))
                          · exact gsj_nil
                  · refine bj_cons ?_ ?_
                    · refine sj_if ?_ ?_ ?_
                      · refine tj_tw ?_
                        refine twj_and ?_ ?_
                        · refine tj_in (ka := .e) (kb := .e) (units65 hr) ?_ ?_
                          · exact ej_var (pv 4)
                          · exact ej_var (pv 11)
                        · refine twj_and1 ?_
                          refine tj_eq (ka := .e) (kb := .e) hr.units ?_ ?_
                          · exact ej_var (pv 8)
                          · refine ej_ix (ka := .e) (kb := .e) ?_ ?_ (fun _ _ => rfl)
                            · exact ej_var (pv 0)
                            · exact ej_var (pv 6)
                      · refine bj_one ?_
                        refine sj_append (pv 7) ?_
                        refine ej_idx (k := .e) (units65 hr) ?_ ?_
                        · exact ej_var (pv 0)
                        · exact ej_var (pv 9)
                      · exact bj_nil
                    · refine bj_one ?_
                      refine sj_if ?_ ?_ ?_
                      · refine tj_tw ?_
                        refine twj_and ?_ ?_
                        · refine tj_in (ka := .e) (kb := .e) (units65 hr) ?_ ?_
                          · exact ej_var (pv 4)
                          · exact ej_var (pv 11)
                        · refine twj_and ?_ ?_
                          · refine tj_eq (ka := .e) (kb := .e) hr.units ?_ ?_
                            · exact ej_var (pv 9)
                            · refine ej_ix (ka := .e) (kb := .e) ?_ ?_ (fun _ _ => rfl)
                              · exact ej_var (pv 0)
                              · exact ej_var (pv 6)
                          · refine twj_and1 ?_
                            refine tj_eq (ka := .e) (kb := .e) hr.units ?_ ?_
                            · exact ej_var (pv 10)
                            · exact ej_str
                      · refine bj_one ?_
                        refine sj_append (pv 7) ?_
                        refine ej_idx (k := .e) (units65 hr) ?_ ?_
                        · exact ej_var (pv 0)
                        · exact ej_var (pv 8)
                      · exact bj_nil
                · refine bj_one ?_
                  refine sj_append (pv 5) ?_
                  refine ej_toE ?_
                  refine ej_sortSet (k := .o) ?_ rfl (by rfl) T.b_sorted (by rfl) T.b_set
                  exact ej_peek (pv 7)
          · refine bj_one ?_
            refine sj_frz (i := 5) ?_
            refine sj_append (pv 3) ?_
            exact ej_var (pv 5)
    · refine bj_one ?_
      exact sj_retO (pv 3)
abbrev s_law_any_web : Stmt := topS 39
abbrev N_law_any_web : List Str := ["script", "k", "namer", "greatest", "longest", "pool", "names", "cycle", "ties"]
theorem sc_law_any_web : FnScope N_law_any_web ["script", "k", "namer", "greatest", "longest"] (defScope s_law_any_web) := ⟨rfl, rfl, rfl, by decide +kernel, rfl, by decide +kernel, by decide +kernel⟩
theorem d_law_any_web {P : Program} {w : World} {K : PySem.W.Frag} {mg : Str → Option Value} {base : Heap} {C_Web : Addr} (T : Txt K mg C_Web) (D_law_any_names : Def P w K mg base "_law_any_names" 3 2 wf_law_any_names) (D_law_any_ties : Def P w K mg base "_law_any_ties" 3 2 wf_law_any_ties) (D_law_draws : Def P w K mg base "_law_draws" 3 1 wf_law_draws) (D_law_table : Def P w K mg base "_law_table" 3 1 wf_law_table) {f : Addr} {cdv : Value} {A : Around} {outer : List Env} {s : Shared} {H : Hp} {E : XK}
    (hr : Room 2 (A.deeper (envOfC "_law_any_web" (defScope s_law_any_web) s.heap.objs.size f cdv))) :
    BJ E (cxOf (L2.CX P w) P w K mg base N_law_any_web "_law_any_web" (defScope s_law_any_web) f cdv A outer s H E) (defBody s_law_any_web) b_law_any_web := by
  refine bj_cons ?_ ?_
  · refine sj_name (i := 5) sc_law_any_web.nd rfl (by first | exact Or.inl rfl | exact Or.inr rfl) ?_
    refine ej_fn D_law_draws (hr.mono (by decide)) (by rfl) passM ?_
    refine aj_consE ?_ ?_
    · exact ej_var (pv 0)
    · refine aj_consE ?_ ?_
      · exact ej_var (pv 1)
      · refine aj_consE ?_ ?_
        · exact ej_int
        · exact aj_nil
  · refine bj_cons ?_ ?_
    · refine sj_name (i := 6) sc_law_any_web.nd rfl (by first | exact Or.inl rfl | exact Or.inr rfl) ?_
      refine ej_fn D_law_any_names (hr.mono (by decide)) (by rfl) passM ?_
      refine aj_consE ?_ ?_
      · exact ej_var (pv 0)
      · refine aj_consE ?_ ?_
        · exact ej_var (pv 2)
        · refine aj_consE ?_ ?_
          · refine ej_plus (ka := .e) (kb := .e) ?_ ?_
            · exact ej_int
            · refine ej_mod (ka := .e) (kb := .e) ?_ ?_
              · refine ej_int1 (k := .e) (by rfl) T.b_int ?_
                refine ej_ix (ka := .e) (kb := .e) ?_ ?_ (fun _ _ => rfl)
                · exact ej_var (pv 5)
                · exact ej_int
              · exact ej_var (pv 3)
          · exact aj_nil
    · refine bj_cons ?_ ?_
      · refine sj_name (i := 7) sc_law_any_web.nd rfl (by first | exact Or.inl rfl | exact Or.inr rfl) ?_
        refine ej_plus (ka := .e) (kb := .e) ?_ ?_
        · exact ej_int
        · refine ej_mod (ka := .e) (kb := .e) ?_ ?_
          · refine ej_int1 (k := .e) (by rfl) T.b_int ?_
            refine ej_ix (ka := .e) (kb := .e) ?_ ?_ (fun _ _ => rfl)
            · exact ej_var (pv 5)
            · exact ej_int
          · exact ej_var (pv 4)
      · refine bj_cons ?_ ?_
        · refine sj_name (i := 8) sc_law_any_web.nd rfl (by first | exact Or.inl rfl | exact Or.inr rfl) ?_
          refine ej_fn D_law_any_ties (hr.mono (by decide)) (by rfl) passM ?_
          refine aj_consE ?_ ?_
          · exact ej_var (pv 5)
          · refine aj_consE ?_ ?_
            · exact ej_var (pv 6)
            · refine aj_consE ?_ ?_
              · exact ej_var (pv 7)
              · exact aj_nil
        · refine bj_one ?_
          refine sj_retF ?_
          refine ej_lst ?_
          refine aj_consE ?_ ?_
          · exact ej_var (pv 6)
          · refine aj_consE ?_ ?_
            · exact ej_var (pv 8)
            · refine aj_consE ?_ ?_
              · exact ej_var (pv 7)
              · refine aj_consE ?_ ?_
                · refine ej_fn D_law_table (hr.mono (by decide)) (by rfl) passM ?_
                  refine aj_consE ?_ ?_
                  · exact ej_var (pv 6)
                  · refine aj_consE ?_ ?_
                    · exact ej_var (pv 8)
                    · refine aj_consE ?_ ?_
                      · exact ej_var (pv 7)
                      · exact aj_nil
                · exact aj_nil
abbrev s_law_is_int : Stmt := topS 29
abbrev N_law_is_int : List Str := ["x"]
theorem sc_law_is_int : FnScope N_law_is_int ["x"] (defScope s_law_is_int) := ⟨rfl, rfl, rfl, by decide +kernel, rfl, by decide +kernel, by decide +kernel⟩
theorem d_law_is_int {P : Program} {w : World} {K : PySem.W.Frag} {mg : Str → Option Value} {base : Heap} {C_Web : Addr} (T : Txt K mg C_Web)  {f : Addr} {cdv : Value} {A : Around} {outer : List Env} {s : Shared} {H : Hp} {E : XK}
    (hr : Room 0 (A.deeper (envOfC "_law_is_int" (defScope s_law_is_int) s.heap.objs.size f cdv))) :
    BJ E (cxOf (L2.CX P w) P w K mg base N_law_is_int "_law_is_int" (defScope s_law_is_int) f cdv A outer s H E) (defBody s_law_is_int) b_law_is_int := by
  refine bj_one ?_
  refine sj_ret ?_
  refine ej_andV ?_ ?_
  · refine ej_isi (k := .e) ?_ (by rfl) T.b_isinstance (by rfl) T.b_int (by decide +kernel)
    exact ej_var (pv 0)
  · refine ej_b1 ?_
    refine ej_not1 (k := .e) ?_
    refine ej_isi (k := .e) ?_ (by rfl) T.b_isinstance (by rfl) T.b_bool (by decide +kernel)
    exact ej_var (pv 0)
abbrev s_law_same : Stmt := topS 30
abbrev N_law_same : List Str := ["got", "due", "one", "two"]
theorem sc_law_same : FnScope N_law_same ["got", "due"] (defScope s_law_same) := ⟨rfl, rfl, rfl, by decide +kernel, rfl, by decide +kernel, by decide +kernel⟩
theorem d_law_same {P : Program} {w : World} {K : PySem.W.Frag} {mg : Str → Option Value} {base : Heap} {C_Web : Addr} (T : Txt K mg C_Web) (D_law_is_int : Def P w K mg base "_law_is_int" 1 1 wf_law_is_int) {lv : Nat} {wfr : Wf} (D_law_same : Def P w K mg base "_law_same" 2 lv wfr) {f : Addr} {cdv : Value} {A : Around} {outer : List Env} {s : Shared} {H : Hp} {E : XK}
    (hr : Room (lv + 1) (A.deeper (envOfC "_law_same" (defScope s_law_same) s.heap.objs.size f cdv))) :
    BJ E (cxOf (L2.CX P w) P w K mg base N_law_same "_law_same" (defScope s_law_same) f cdv A outer s H E) (defBody s_law_same) (b_law_same wfr) := by
  refine bj_cons ?_ ?_
  · refine sj_if ?_ ?_ ?_
    · refine tj_isN (ka := .e) (kb := .e) ?_ ?_
      · exact ej_var (pv 1)
      · exact ej_non
    · refine bj_one ?_
      refine sj_ret ?_
      refine ej_isN (ka := .e) (kb := .e) ?_ ?_
      · exact ej_var (pv 0)
      · exact ej_non
    · exact bj_nil
  · refine bj_cons ?_ ?_
    · refine sj_if ?_ ?_ ?_
      · refine tj_isB (ka := .e) (kb := .e) ?_ ?_
        · exact ej_var (pv 1)
        · exact ej_bl
      · refine bj_one ?_
        refine sj_ret ?_
        refine ej_isB (ka := .e) (kb := .e) ?_ ?_
        · exact ej_var (pv 0)
        · exact ej_bl
      · exact bj_nil
    · refine bj_cons ?_ ?_
      · refine sj_if ?_ ?_ ?_
        · refine tj_isB (ka := .e) (kb := .e) ?_ ?_
          · exact ej_var (pv 1)
          · exact ej_bl
        · refine bj_one ?_
          refine sj_ret ?_
          refine ej_isB (ka := .e) (kb := .e) ?_ ?_
          · exact ej_var (pv 0)
          · exact ej_bl
        · exact bj_nil
      · refine bj_cons ?_ ?_
        · refine sj_if ?_ ?_ ?_
          · refine tj_tru (k := .e) ?_
            refine ej_isi (k := .e) ?_ (by rfl) T.b_isinstance (by rfl) T.b_int (by decide +kernel)
            exact ej_var (pv 1)
          · refine bj_one ?_
            refine sj_ret ?_
            refine ej_andV ?_ ?_
            · refine ej_fn D_law_is_int (hr.mono (by omega)) (by rfl) passM ?_
              refine aj_consE ?_ ?_
              · exact ej_var (pv 0)
              · exact aj_nil
            · refine ej_b1 ?_
              refine ej_eq (ka := .e) (kb := .e) hr.units ?_ ?_
              · exact ej_var (pv 0)
              · exact ej_var (pv 1)
          · exact bj_nil
        · refine bj_cons ?_ ?_
          · refine sj_if ?_ ?_ ?_
            · refine tj_tru (k := .e) ?_
              refine ej_isi (k := .e) ?_ (by rfl) T.b_isinstance (by rfl) T.b_str (by decide +kernel)
              exact ej_var (pv 1)
            · refine bj_one ?_
              refine sj_ret ?_
              refine ej_andV ?_ ?_
              · refine ej_isi (k := .e) ?_ (by rfl) T.b_isinstance (by rfl) T.b_str (by decide +kernel)
                exact ej_var (pv 0)
              · refine ej_b1 ?_
                refine ej_eq (ka := .e) (kb := .e) hr.units ?_ ?_
                · exact ej_var (pv 0)
                · exact ej_var (pv 1)
            · exact bj_nil
          · refine bj_cons ?_ ?_
            · refine sj_if ?_ ?_ ?_
              · refine tj_tw ?_
                refine twj_and ?_ ?_
                · refine tj_tru (k := .e) ?_
                  refine ej_isi (k := .e) ?_ (by rfl) T.b_isinstance (by rfl) T.b_tuple (by decide +kernel)
                  exact ej_var (pv 1)
                · refine twj_and1 ?_
                  refine tj_not ?_
                  refine tj_tru (k := .e) ?_
                  refine ej_isi (k := .e) ?_ (by rfl) T.b_isinstance (by rfl) T.b_tuple (by decide +kernel)
                  exact ej_var (pv 0)
              · refine bj_one ?_
                refine sj_ret ?_
                exact ej_bl
              · exact bj_nil
            · refine bj_cons ?_ ?_
              · refine sj_if ?_ ?_ ?_
                · refine tj_tw ?_
                  refine twj_and ?_ ?_
                  · refine tj_tru (k := .e) ?_
                    refine ej_isi (k := .e) ?_ (by rfl) T.b_isinstance (by rfl) T.b_list (by decide +kernel)
                    exact ej_var (pv 1)
                  · refine twj_and1 ?_
                    refine tj_not ?_
                    refine tj_tru (k := .e) ?_
                    refine ej_isi (k := .e) ?_ (by rfl) T.b_isinstance (by rfl) T.b_list (by decide +kernel)
                    exact ej_var (pv 0)
                · refine bj_one ?_
                  refine sj_ret ?_
                  exact ej_bl
                · exact bj_nil
              · refine bj_cons ?_ ?_
                · refine sj_if ?_ ?_ ?_
                  · refine tj_ne (ka := .e) (kb := .e) hr.units ?_ ?_
                    · refine ej_len (k := .e) (by rfl) T.b_len ?_
                      exact ej_var (pv 0)
                    · refine ej_len (k := .e) (by rfl) T.b_len ?_
                      exact ej_var (pv 1)
                  · refine bj_one ?_
                    refine sj_ret ?_
                    exact ej_bl
                  · exact bj_nil
                · refine bj_cons ?_ ?_
                  · refine sj_for (tgs := [2, 3]) (passes_of rfl) rfl ?_ ?_ ?_
                    · refine ij_zip ?_ ?_ (by rfl) T.b_zip
                      · exact ej_var (pv 0)
                      · exact ej_var (pv 1)
                    · refine gj_tup (n := 2) rfl ?_
                      refine gsj_name ?_ ?_
                      · exact gj_name (pg_name (i := 2) sc_law_same.nd rfl (by first | exact Or.inl rfl | exact Or.inr rfl))
                      · refine gsj_name ?_ ?_
                        · exact gj_name (pg_name (i := 3) sc_law_same.nd rfl (by first | exact Or.inl rfl | exact Or.inr rfl))
                        · exact gsj_nil
                    · refine bj_one ?_
                      refine sj_if ?_ ?_ ?_
                      · refine tj_not ?_
                        refine tj_tru (k := .e) ?_
                        refine ej_fn D_law_same (hr.mono (by omega)) (by rfl) passM ?_
                        refine aj_consE ?_ ?_
                        · exact ej_var (pv 2)
                        · refine aj_consE ?_ ?_
                          · exact ej_var (pv 3)
                          · exact aj_nil
                      · refine bj_one ?_
                        refine sj_ret ?_
                        exact ej_bl
                      · exact bj_nil
                  · refine bj_one ?_
                    refine sj_ret ?_
                    exact ej_bl
abbrev s_Web___eq__ : Stmt := inClass (topS 22) 4
abbrev N_Web___eq__ : List Str := ["self", "other"]
theorem sc_Web___eq__ : FnScope N_Web___eq__ ["self", "other"] (defScope s_Web___eq__) := ⟨rfl, rfl, rfl, by decide +kernel, rfl, by decide +kernel, by decide +kernel⟩
theorem d_Web___eq__ {P : Program} {w : World} {K : PySem.W.Frag} {mg : Str → Option Value} {base : Heap} {C_Web : Addr} (T : Txt K mg C_Web)  {f : Addr} {cdv : Value} {A : Around} {outer : List Env} {s : Shared} {H : Hp} {E : XK}
    (hr : Room 0 (A.deeper (envOfC "Web.__eq__" (defScope s_Web___eq__) s.heap.objs.size f cdv))) :
    BJ E (cxOf (L2.CX P w) P w K mg base N_Web___eq__ "Web.__eq__" (defScope s_Web___eq__) f cdv A outer s H E) (defBody s_Web___eq__) (b_Web___eq__ C_Web) := by
  refine bj_one ?_
  refine sj_ret ?_
  refine ej_andV ?_ ?_
  · refine ej_isO T.i_Web T.m_Web ?_ (by rfl) T.b_isinstance (by rfl)
    exact ej_var (pv 1)
  · refine ej_andV ?_ ?_
    · refine ej_eq (ka := .e) (kb := .e) hr.units ?_ ?_
      · refine ej_wk ?_
        refine ej_fld (k := .e) T.c_Web T.n_Web_places ?_
        exact ej_var (pv 0)
      · refine ej_wk ?_
        refine ej_fld (k := .e) T.c_Web T.n_Web_places ?_
        exact ej_var (pv 1)
    · refine ej_b1 ?_
      refine ej_eq (ka := .e) (kb := .e) hr.units ?_ ?_
      · refine ej_fld (k := .e) T.c_Web T.n_Web__nexts ?_
        exact ej_var (pv 0)
      · refine ej_fld (k := .e) T.c_Web T.n_Web__nexts ?_
        exact ej_var (pv 1)
abbrev s_law_equal : Stmt := topS 42
abbrev N_law_equal : List Str := ["one", "two", "due"]
theorem sc_law_equal : FnScope N_law_equal ["one", "two", "due"] (defScope s_law_equal) := ⟨rfl, rfl, rfl, by decide +kernel, rfl, by decide +kernel, by decide +kernel⟩
theorem d_law_equal {P : Program} {w : World} {K : PySem.W.Frag} {mg : Str → Option Value} {base : Heap} {C_Web : Addr} (T : Txt K mg C_Web) (D_law_same : Def P w K mg base "_law_same" 2 14 wf_law_same) (M_Web___eq__ : MDef P w K mg base C_Web "__eq__" 2 1 (wf_Web___eq__ C_Web)) {f : Addr} {cdv : Value} {A : Around} {outer : List Env} {s : Shared} {H : Hp} {E : XK}
    (hr : Room 14 (A.deeper (envOfC "_law_equal" (defScope s_law_equal) s.heap.objs.size f cdv))) :
    BJ E (cxOf (L2.CX P w) P w K mg base N_law_equal "_law_equal" (defScope s_law_equal) f cdv A outer s H E) (defBody s_law_equal) (b_law_equal C_Web) := by
  refine bj_one ?_
  refine sj_ret ?_
  refine ej_andV ?_ ?_
  · refine ej_fn D_law_same (hr.mono (by decide)) (by rfl) passM ?_
    refine aj_consE ?_ ?_
    · refine ej_eqO M_Web___eq__ (hr.mono (by decide)) passM ?_ ?_
      · exact ej_var (pv 0)
      · exact ej_var (pv 1)
    · refine aj_consE ?_ ?_
      · exact ej_var (pv 2)
      · exact aj_nil
  · refine ej_b1 ?_
    refine ej_fn D_law_same (hr.mono (by decide)) (by rfl) passM ?_
    refine aj_consE ?_ ?_
    · refine ej_eqO M_Web___eq__ (hr.mono (by decide)) passM ?_ ?_
      · exact ej_var (pv 1)
      · exact ej_var (pv 0)
    · refine aj_consE ?_ ?_
      · exact ej_var (pv 2)
      · exact aj_nil
abbrev s_law_tie_key : Stmt := topS 43
abbrev N_law_tie_key : List Str := ["tie", "names", "table", "last", "first", "second", "way", "when", "u", "v", "rank", "key", "before", "beat"]
theorem sc_law_tie_key : FnScope N_law_tie_key ["tie", "names", "table", "last"] (defScope s_law_tie_key) := ⟨rfl, rfl, rfl, by decide +kernel, rfl, by decide +kernel, by decide +kernel⟩
theorem d_law_tie_key {P : Program} {w : World} {K : PySem.W.Frag} {mg : Str → Option Value} {base : Heap} {C_Web : Addr} (T : Txt K mg C_Web) (D_law_is_int : Def P w K mg base "_law_is_int" 1 1 wf_law_is_int) (D_law_same : Def P w K mg base "_law_same" 2 14 wf_law_same) {f : Addr} {cdv : Value} {A : Around} {outer : List Env} {s : Shared} {H : Hp} {E : XK}
    (hr : Room 14 (A.deeper (envOfC "_law_tie_key" (defScope s_law_tie_key) s.heap.objs.size f cdv))) :
    BJ E (cxOf (L2.CX P w) P w K mg base N_law_tie_key "_law_tie_key" (defScope s_law_tie_key) f cdv A outer s H E) (defBody s_law_tie_key) b_law_tie_key := by
  refine bj_cons ?_ ?_
  · refine sj_if ?_ ?_ ?_
    · refine tj_tw ?_
      refine twj_or ?_ ?_
      · refine tj_not ?_
        refine tj_tru (k := .e) ?_
        refine ej_isi (k := .e) ?_ (by rfl) T.b_isinstance (by rfl) T.b_tuple (by decide +kernel)
        exact ej_var (pv 0)
      · refine twj_or1 ?_
        refine tj_ne (ka := .e) (kb := .e) hr.units ?_ ?_
        · refine ej_len (k := .e) (by rfl) T.b_len ?_
          exact ej_var (pv 0)
        · exact ej_int
    · refine bj_one ?_
      refine sj_ret ?_
      exact ej_non
    · exact bj_nil
  · refine bj_cons ?_ ?_
    · refine sj_tgt (tgs := [4, 5, 6, 7]) ?_ ?_
      · refine gj_tup (n := 4) rfl ?_
        refine gsj_name ?_ ?_
        · exact gj_name (pg_name (i := 4) sc_law_tie_key.nd rfl (by first | exact Or.inl rfl | exact Or.inr rfl))
        · refine gsj_name ?_ ?_
          · exact gj_name (pg_name (i := 5) sc_law_tie_key.nd rfl (by first | exact Or.inl rfl | exact Or.inr rfl))
          · refine gsj_name ?_ ?_
            · exact gj_name (pg_name (i := 6) sc_law_tie_key.nd rfl (by first | exact Or.inl rfl | exact Or.inr rfl))
            · refine gsj_name ?_ ?_
              · exact gj_name (pg_name (i := 7) sc_law_tie_key.nd rfl (by first | exact Or.inl rfl | exact Or.inr rfl))
              · exact gsj_nil
      · exact ej_var (pv 0)
    · refine bj_cons ?_ ?_
      · refine sj_if ?_ ?_ ?_
        · refine tj_tw ?_
          refine twj_or ?_ ?_
          · refine tj_not ?_
            refine tj_tru (k := .e) ?_
            refine ej_isi (k := .e) ?_ (by rfl) T.b_isinstance (by rfl) T.b_str (by decide +kernel)
            exact ej_var (pv 4)
          · refine twj_or ?_ ?_
            · refine tj_not ?_
              refine tj_tru (k := .e) ?_
              refine ej_isi (k := .e) ?_ (by rfl) T.b_isinstance (by rfl) T.b_str (by decide +kernel)
              exact ej_var (pv 5)
            · refine twj_or1 ?_
              refine tj_not ?_
              refine tj_tru (k := .e) ?_
              refine ej_isi (k := .e) ?_ (by rfl) T.b_isinstance (by rfl) T.b_tuple (by decide +kernel)
              exact ej_var (pv 7)
        · refine bj_one ?_
          refine sj_ret ?_
          exact ej_non
        · exact bj_nil
      · refine bj_cons ?_ ?_
        · refine sj_if ?_ ?_ ?_
          · refine tj_tw ?_
            refine twj_or ?_ ?_
            · refine tj_nin (ka := .e) (kb := .e) (units65 hr) ?_ ?_
              · exact ej_var (pv 4)
              · exact ej_var (pv 1)
            · refine twj_or ?_ ?_
              · refine tj_nin (ka := .e) (kb := .e) (units65 hr) ?_ ?_
                · exact ej_var (pv 5)
                · exact ej_var (pv 1)
              · refine twj_or1 ?_
                refine tj_not ?_
                refine tj_tw ?_
                refine twj_or ?_ ?_
                · refine tj_tru (k := .e) ?_
                  refine ej_fn D_law_same (hr.mono (by decide)) (by rfl) passM ?_
                  refine aj_consE ?_ ?_
                  · exact ej_var (pv 6)
                  · refine aj_consE ?_ ?_
                    · exact ej_str
                    · exact aj_nil
                · refine twj_or1 ?_
                  refine tj_tru (k := .e) ?_
                  refine ej_fn D_law_same (hr.mono (by decide)) (by rfl) passM ?_
                  refine aj_consE ?_ ?_
                  · exact ej_var (pv 6)
                  · refine aj_consE ?_ ?_
                    · exact ej_str
                    · exact aj_nil
          · refine bj_one ?_
            refine sj_ret ?_
            exact ej_non
          · exact bj_nil
        · refine bj_cons ?_ ?_
          · refine sj_name (i := 8) sc_law_tie_key.nd rfl (by first | exact Or.inl rfl | exact Or.inr rfl) ?_
            refine ej_idx (k := .e) (units65 hr) ?_ ?_
            · exact ej_var (pv 1)
            · exact ej_var (pv 4)
          · refine bj_cons ?_ ?_
            · refine sj_name (i := 9) sc_law_tie_key.nd rfl (by first | exact Or.inl rfl | exact Or.inr rfl) ?_
              refine ej_idx (k := .e) (units65 hr) ?_ ?_
              · exact ej_var (pv 1)
              · exact ej_var (pv 5)
            · refine bj_cons ?_ ?_
              · refine sj_name (i := 10) sc_law_tie_key.nd rfl (by first | exact Or.inl rfl | exact Or.inr rfl) ?_
                exact ej_int
              · refine bj_cons ?_ ?_
                · refine sj_if ?_ ?_ ?_
                  · refine tj_eq (ka := .e) (kb := .e) hr.units ?_ ?_
                    · exact ej_var (pv 6)
                    · exact ej_str
                  · refine bj_one ?_
                    refine sj_name (i := 10) sc_law_tie_key.nd rfl (by first | exact Or.inl rfl | exact Or.inr rfl) ?_
                    refine ej_plus (ka := .e) (kb := .e) ?_ ?_
                    · exact ej_int
                    · refine ej_int1 (k := .e) (by rfl) T.b_int ?_
                      refine ej_gt (ka := .e) (kb := .e) ?_ ?_
                      · exact ej_var (pv 8)
                      · exact ej_var (pv 9)
                  · exact bj_nil
                · refine bj_cons ?_ ?_
                  · refine sj_name (i := 11) sc_law_tie_key.nd rfl (by first | exact Or.inl rfl | exact Or.inr rfl) ?_
                    refine ej_tup ?_
                    refine aj_consE ?_ ?_
                    · refine ej_min2 (ka := .e) (kb := .e) rfl (by rfl) T.b_min ?_ ?_
                      · exact ej_var (pv 8)
                      · exact ej_var (pv 9)
                    · refine aj_consE ?_ ?_
                      · refine ej_max2 (ka := .e) (kb := .e) rfl (by rfl) T.b_max ?_ ?_
                        · exact ej_var (pv 8)
                        · exact ej_var (pv 9)
                      · refine aj_consE ?_ ?_
                        · exact ej_var (pv 10)
                        · exact aj_nil
                  · refine bj_cons ?_ ?_
                    · refine sj_name (i := 12) sc_law_tie_key.nd rfl (by first | exact Or.inl rfl | exact Or.inr rfl) ?_
                      refine ej_neg (k := .e) ?_
                      exact ej_int
                    · refine bj_cons ?_ ?_
                      · refine sj_for (tgs := [13]) (passes_of rfl) rfl ?_ ?_ ?_
                        · refine ij_seq ?_
                          exact ej_var (pv 7)
                        · exact gj_name (pg_name (i := 13) sc_law_tie_key.nd rfl (by first | exact Or.inl rfl | exact Or.inr rfl))
                        · refine bj_cons ?_ ?_
                          · refine sj_if ?_ ?_ ?_
                            · refine tj_tw ?_
                              refine twj_or ?_ ?_
                              · refine tj_not ?_
                                refine tj_tru (k := .e) ?_
                                refine ej_fn D_law_is_int (hr.mono (by decide)) (by rfl) passM ?_
                                refine aj_consE ?_ ?_
                                · exact ej_var (pv 13)
                                · exact aj_nil
                              · refine twj_or1 ?_
                                refine tj_not ?_
                                refine tj_ch2 (ka := .e) (kb := .e) (kc := .e) brg_lt brg_lt op_lt op_lt ?_ ?_ ?_
                                · exact ej_var (pv 12)
                                · exact ej_var (pv 13)
                                · refine ej_len (k := .e) (by rfl) T.b_len ?_
                                  exact ej_var (pv 2)
                            · refine bj_one ?_
                              refine sj_ret ?_
                              exact ej_non
                            · exact bj_nil
                          · refine bj_cons ?_ ?_
                            · refine sj_if ?_ ?_ ?_
                              · refine tj_tw ?_
                                refine twj_or ?_ ?_
                                · refine tj_nin (ka := .e) (kb := .e) (units65 hr) ?_ ?_
                                  · exact ej_var (pv 9)
                                  · refine ej_ix (ka := .e) (kb := .e) ?_ ?_ (fun _ _ => rfl)
                                    · refine ej_ix (ka := .e) (kb := .e) ?_ ?_ (fun _ _ => rfl)
                                      · exact ej_var (pv 2)
                                      · exact ej_var (pv 13)
                                    · exact ej_var (pv 8)
                                · refine twj_or1 ?_
                                  refine tj_ne (ka := .e) (kb := .e) hr.units ?_ ?_
                                  · refine ej_in (ka := .e) (kb := .e) (units65 hr) ?_ ?_
                                    · exact ej_var (pv 8)
                                    · refine ej_ix (ka := .e) (kb := .e) ?_ ?_ (fun _ _ => rfl)
                                      · refine ej_ix (ka := .e) (kb := .e) ?_ ?_ (fun _ _ => rfl)
                                        · exact ej_var (pv 2)
                                        · exact ej_var (pv 13)
                                      · exact ej_var (pv 9)
                                  · refine ej_eq (ka := .e) (kb := .e) hr.units ?_ ?_
                                    · exact ej_var (pv 6)
                                    · exact ej_str
                              · refine bj_one ?_
                                refine sj_ret ?_
                                exact ej_non
                              · exact bj_nil
                            · refine bj_one ?_
                              refine sj_name (i := 12) sc_law_tie_key.nd rfl (by first | exact Or.inl rfl | exact Or.inr rfl) ?_
                              exact ej_var (pv 13)
                      · refine bj_cons ?_ ?_
                        · refine sj_if ?_ ?_ ?_
                          · refine tj_tw ?_
                            refine twj_or ?_ ?_
                            · refine tj_eq (ka := .e) (kb := .e) hr.units ?_ ?_
                              · exact ej_var (pv 7)
                              · refine ej_tup ?_
                                exact aj_nil
                            · refine twj_or ?_ ?_
                              · refine tj_eq (ka := .e) (kb := .e) hr.units ?_ ?_
                                · exact ej_var (pv 8)
                                · exact ej_var (pv 9)
                              · refine twj_or ?_ ?_
                                · refine tj_tw ?_
                                  refine twj_and ?_ ?_
                                  · refine tj_eq (ka := .e) (kb := .e) hr.units ?_ ?_
                                    · exact ej_var (pv 10)
                                    · exact ej_int
                                  · refine twj_and1 ?_
                                    refine tj_gt (ka := .e) (kb := .e) ?_ ?_
                                    · exact ej_var (pv 8)
                                    · exact ej_var (pv 9)
                                · refine twj_or1 ?_
                                  refine tj_not ?_
                                  refine tj_ltT (ka := .e) (kb := .e) (units65 hr) ?_ ?_
                                  · exact ej_var (pv 3)
                                  · exact ej_var (pv 11)
                          · refine bj_one ?_
                            refine sj_ret ?_
                            exact ej_non
                          · exact bj_nil
                        · refine bj_one ?_
                          refine sj_ret ?_
                          exact ej_var (pv 11)
abbrev s_law_one_form : Stmt := topS 44
abbrev N_law_one_form : List Str := ["told", "names", "table", "last", "many", "tie", "key", "rows", "row"]
theorem sc_law_one_form : FnScope N_law_one_form ["told", "names", "table"] (defScope s_law_one_form) := ⟨rfl, rfl, rfl, by decide +kernel, rfl, by decide +kernel, by decide +kernel⟩
theorem d_law_one_form {P : Program} {w : World} {K : PySem.W.Frag} {mg : Str → Option Value} {base : Heap} {C_Web : Addr} (T : Txt K mg C_Web) (D_law_tie_key : Def P w K mg base "_law_tie_key" 4 15 wf_law_tie_key) {f : Addr} {cdv : Value} {A : Around} {outer : List Env} {s : Shared} {H : Hp} {E : XK}
    (hr : Room 15 (A.deeper (envOfC "_law_one_form" (defScope s_law_one_form) s.heap.objs.size f cdv))) :
    BJ E (cxOf (L2.CX P w) P w K mg base N_law_one_form "_law_one_form" (defScope s_law_one_form) f cdv A outer s H E) (defBody s_law_one_form) b_law_one_form := by
  refine bj_cons ?_ ?_
  · refine sj_if ?_ ?_ ?_
    · refine tj_not ?_
      refine tj_tru (k := .e) ?_
      refine ej_isi (k := .e) ?_ (by rfl) T.b_isinstance (by rfl) T.b_list (by decide +kernel)
      exact ej_var (pv 0)
    · refine bj_one ?_
      refine sj_ret ?_
      exact ej_bl
    · exact bj_nil
  · refine bj_cons ?_ ?_
    · refine sj_name (i := 3) sc_law_one_form.nd rfl (by first | exact Or.inl rfl | exact Or.inr rfl) ?_
      refine ej_tup ?_
      refine aj_consE ?_ ?_
      · refine ej_neg (k := .e) ?_
        exact ej_int
      · refine aj_consE ?_ ?_
        · refine ej_neg (k := .e) ?_
          exact ej_int
        · refine aj_consE ?_ ?_
          · refine ej_neg (k := .e) ?_
            exact ej_int
          · exact aj_nil
    · refine bj_cons ?_ ?_
      · refine sj_name (i := 4) sc_law_one_form.nd rfl (by first | exact Or.inl rfl | exact Or.inr rfl) ?_
        exact ej_int
      · refine bj_cons ?_ ?_
        · refine sj_for (tgs := [5]) (passes_of rfl) rfl ?_ ?_ ?_
          · refine ij_seq ?_
            exact ej_var (pv 0)
          · exact gj_name (pg_name (i := 5) sc_law_one_form.nd rfl (by first | exact Or.inl rfl | exact Or.inr rfl))
          · refine bj_cons ?_ ?_
            · refine sj_name (i := 6) sc_law_one_form.nd rfl (by first | exact Or.inl rfl | exact Or.inr rfl) ?_
              refine ej_fn D_law_tie_key (hr.mono (by decide)) (by rfl) passM ?_
              refine aj_consE ?_ ?_
              · exact ej_var (pv 5)
              · refine aj_consE ?_ ?_
                · exact ej_var (pv 1)
                · refine aj_consE ?_ ?_
                  · exact ej_var (pv 2)
                  · refine aj_consE ?_ ?_
                    · exact ej_var (pv 3)
                    · exact aj_nil
            · refine bj_cons ?_ ?_
              · refine sj_if ?_ ?_ ?_
                · refine tj_isN (ka := .e) (kb := .e) ?_ ?_
                  · exact ej_var (pv 6)
                  · exact ej_non
                · refine bj_one ?_
                  refine sj_ret ?_
                  exact ej_bl
                · exact bj_nil
              · refine bj_cons ?_ ?_
                · refine sj_name (i := 3) sc_law_one_form.nd rfl (by first | exact Or.inl rfl | exact Or.inr rfl) ?_
                  exact ej_var (pv 6)
                · refine bj_cons ?_ ?_
                  · refine sj_name (i := 4) sc_law_one_form.nd rfl (by first | exact Or.inl rfl | exact Or.inr rfl) ?_
                    refine ej_plus (ka := .e) (kb := .e) ?_ ?_
                    · exact ej_var (pv 4)
                    · refine ej_len (k := .e) (by rfl) T.b_len ?_
                      refine ej_ix (ka := .e) (kb := .e) ?_ ?_ (fun _ _ => rfl)
                      · exact ej_var (pv 5)
                      · exact ej_int
                  · refine bj_one ?_
                    refine sj_if ?_ ?_ ?_
                    · refine tj_eq (ka := .e) (kb := .e) hr.units ?_ ?_
                      · refine ej_ix (ka := .e) (kb := .e) ?_ ?_ (fun _ _ => rfl)
                        · exact ej_var (pv 6)
                        · exact ej_int
                      · exact ej_int
                    · refine bj_one ?_
                      refine sj_name (i := 4) sc_law_one_form.nd rfl (by first | exact Or.inl rfl | exact Or.inr rfl) ?_
                      refine ej_plus (ka := .e) (kb := .e) ?_ ?_
                      · exact ej_var (pv 4)
                      · refine ej_len (k := .e) (by rfl) T.b_len ?_
                        refine ej_ix (ka := .e) (kb := .e) ?_ ?_ (fun _ _ => rfl)
                        · exact ej_var (pv 5)
                        · exact ej_int
                    · exact bj_nil
        · refine bj_cons ?_ ?_
          · refine sj_for (tgs := [7]) (passes_of rfl) rfl ?_ ?_ ?_
            · refine ij_seq ?_
              exact ej_var (pv 2)
            · exact gj_name (pg_name (i := 7) sc_law_one_form.nd rfl (by first | exact Or.inl rfl | exact Or.inr rfl))
            · refine bj_one ?_
              refine sj_for (tgs := [8]) (passes_of rfl) rfl ?_ ?_ ?_
              · refine ij_seq ?_
                exact ej_var (pv 7)
              · exact gj_name (pg_name (i := 8) sc_law_one_form.nd rfl (by first | exact Or.inl rfl | exact Or.inr rfl))
              · refine bj_one ?_
                refine sj_name (i := 4) sc_law_one_form.nd rfl (by first | exact Or.inl rfl | exact Or.inr rfl) ?_
                refine ej_sub (ka := .e) (kb := .e) ?_ ?_
                · exact ej_var (pv 4)
                · refine ej_len (k := .e) (by rfl) T.b_len ?_
                  exact ej_var (pv 8)
          · refine bj_one ?_
            refine sj_ret ?_
            refine ej_eq (ka := .e) (kb := .e) hr.units ?_ ?_
            · exact ej_var (pv 4)
            · exact ej_int
abbrev s_law_rewritten : Stmt := topS 40
abbrev N_law_rewritten : List Str := ["names", "table", "pool", "ties", "u", "v", "codes", "rows", "style", "start"]
theorem sc_law_rewritten : FnScope N_law_rewritten ["names", "table", "pool"] (defScope s_law_rewritten) := ⟨rfl, rfl, rfl, by decide +kernel, rfl, by decide +kernel, by decide +kernel⟩
theorem d_law_rewritten {P : Program} {w : World} {K : PySem.W.Frag} {mg : Str → Option Value} {base : Heap} {C_Web : Addr} (T : Txt K mg C_Web) (D_law_pair_ties : Def P w K mg base "_law_pair_ties" 4 1 wf_law_pair_ties) {f : Addr} {cdv : Value} {A : Around} {outer : List Env} {s : Shared} {H : Hp} {E : XK}
    (hr : Room 1 (A.deeper (envOfC "_law_rewritten" (defScope s_law_rewritten) s.heap.objs.size f cdv))) :
    BJ E (cxOf (L2.CX P w) P w K mg base N_law_rewritten "_law_rewritten" (defScope s_law_rewritten) f cdv A outer s H E) (defBody s_law_rewritten) b_law_rewritten := by
  refine bj_cons ?_ ?_
  · refine sj_name (i := 3) sc_law_rewritten.nd rfl (by first | exact Or.inl rfl | exact Or.inr rfl) ?_
    refine ej_toE ?_
    refine ej_lst ?_
    exact aj_nil
  · refine bj_cons ?_ ?_
    · refine sj_for (tgs := [4]) (passes_of rfl) rfl ?_ ?_ ?_
      · refine ij_rng1 (ka := .e) ?_ (by rfl) T.b_range
        refine ej_len (k := .e) (by rfl) T.b_len ?_
        exact ej_var (pv 0)
      · exact gj_name (pg_name (i := 4) sc_law_rewritten.nd rfl (by first | exact Or.inl rfl | exact Or.inr rfl))
      · refine bj_one ?_
        refine sj_for (tgs := [5]) (passes_of rfl) rfl ?_ ?_ ?_
        · refine ij_rng1 (ka := .e) ?_ (by rfl) T.b_range
          exact ej_var (pv 4)
        · exact gj_name (pg_name (i := 5) sc_law_rewritten.nd rfl (by first | exact Or.inl rfl | exact Or.inr rfl))
        · refine bj_cons ?_ ?_
          · refine sj_nameO (i := 6) sc_law_rewritten.nd rfl (by first | exact Or.inl rfl | exact Or.inr rfl) ?_
            refine ej_lst ?_
            exact aj_nil
          · refine bj_cons ?_ ?_
            · refine sj_for (tgs := [7]) (passes_of rfl) rfl ?_ ?_ ?_
              · refine ij_seq ?_
                exact ej_var (pv 1)
              · exact gj_name (pg_name (i := 7) sc_law_rewritten.nd rfl (by first | exact Or.inl rfl | exact Or.inr rfl))
              · refine bj_one ?_
                refine sj_append (pv 6) ?_
                refine ej_ix (ka := .f) (kb := .e) ?_ ?_ (fun _ _ => rfl)
                · refine ej_lst ?_
                  refine aj_consE ?_ ?_
                  · exact ej_int
                  · refine aj_consE ?_ ?_
                    · exact ej_int
                    · refine aj_consE ?_ ?_
                      · exact ej_int
                      · refine aj_consE ?_ ?_
                        · exact ej_int
                        · exact aj_nil
                · refine ej_plus (ka := .e) (kb := .e) ?_ ?_
                  · refine ej_int1 (k := .e) (by rfl) T.b_int ?_
                    refine ej_in (ka := .e) (kb := .e) (units65 hr) ?_ ?_
                    · exact ej_var (pv 4)
                    · refine ej_ix (ka := .e) (kb := .e) ?_ ?_ (fun _ _ => rfl)
                      · exact ej_var (pv 7)
                      · exact ej_var (pv 5)
                  · refine ej_mul (ka := .e) (kb := .e) ?_ ?_
                    · exact ej_int
                    · refine ej_int1 (k := .e) (by rfl) T.b_int ?_
                      refine ej_in (ka := .e) (kb := .e) (units65 hr) ?_ ?_
                      · exact ej_var (pv 5)
                      · refine ej_ix (ka := .e) (kb := .e) ?_ ?_ (fun _ _ => rfl)
                        · exact ej_var (pv 7)
                        · exact ej_var (pv 4)
            · refine bj_cons ?_ ?_
              · refine sj_name (i := 8) sc_law_rewritten.nd rfl (by first | exact Or.inl rfl | exact Or.inr rfl) ?_
                refine ej_mod (ka := .e) (kb := .e) ?_ ?_
                · refine ej_int1 (k := .e) (by rfl) T.b_int ?_
                  refine ej_ix (ka := .e) (kb := .e) ?_ ?_ (fun _ _ => rfl)
                  · exact ej_var (pv 2)
                  · refine ej_plus (ka := .e) (kb := .e) ?_ ?_
                    · refine ej_plus (ka := .e) (kb := .e) ?_ ?_
                      · exact ej_int
                      · refine ej_div (ka := .e) (kb := .e) ?_ ?_
                        · refine ej_mul (ka := .e) (kb := .e) ?_ ?_
                          · exact ej_var (pv 4)
                          · refine ej_sub (ka := .e) (kb := .e) ?_ ?_
                            · exact ej_var (pv 4)
                            · exact ej_int
                        · exact ej_int
                    · exact ej_var (pv 5)
                · exact ej_int
              · refine bj_cons ?_ ?_
                · refine sj_if ?_ ?_ ?_
                  · refine tj_tw ?_
                    refine twj_and ?_ ?_
                    · refine tj_gt (ka := .e) (kb := .e) ?_ ?_
                      · refine ej_len (k := .e) (by rfl) T.b_len ?_
                        exact ej_var (pv 0)
                      · exact ej_int
                    · refine twj_and1 ?_
                      refine tj_eq (ka := .e) (kb := .e) hr.units ?_ ?_
                      · exact ej_var (pv 8)
                      · exact ej_int
                  · refine bj_one ?_
                    refine sj_name (i := 8) sc_law_rewritten.nd rfl (by first | exact Or.inl rfl | exact Or.inr rfl) ?_
                    exact ej_int
                  · exact bj_nil
                · refine bj_one ?_
                  refine sj_frz (i := 6) ?_
                  refine sj_name (i := 3) sc_law_rewritten.nd rfl (by first | exact Or.inl rfl | exact Or.inr rfl) ?_
                  refine ej_plus (ka := .e) (kb := .e) ?_ ?_
                  · exact ej_var (pv 3)
                  · refine ej_fn D_law_pair_ties (hr.mono (by decide)) (by rfl) passM ?_
                    refine aj_consE ?_ ?_
                    · refine ej_ix (ka := .e) (kb := .e) ?_ ?_ (fun _ _ => rfl)
                      · exact ej_var (pv 0)
                      · exact ej_var (pv 5)
                    · refine aj_consE ?_ ?_
                      · refine ej_ix (ka := .e) (kb := .e) ?_ ?_ (fun _ _ => rfl)
                        · exact ej_var (pv 0)
                        · exact ej_var (pv 4)
                      · refine aj_consE ?_ ?_
                        · exact ej_var (pv 6)
                        · refine aj_consE ?_ ?_
                          · exact ej_var (pv 8)
                          · exact aj_nil
    · refine bj_cons ?_ ?_
      · refine sj_name (i := 9) sc_law_rewritten.nd rfl (by first | exact Or.inl rfl | exact Or.inr rfl) ?_
        refine ej_mod (ka := .e) (kb := .e) ?_ ?_
        · refine ej_int1 (k := .e) (by rfl) T.b_int ?_
          refine ej_ix (ka := .e) (kb := .e) ?_ ?_ (fun _ _ => rfl)
          · exact ej_var (pv 2)
          · exact ej_int
        · refine ej_plus (ka := .e) (kb := .e) ?_ ?_
          · refine ej_len (k := .e) (by rfl) T.b_len ?_
            exact ej_var (pv 3)
          · exact ej_int
      · refine bj_one ?_
        refine sj_ret ?_
        refine ej_plus (ka := .e) (kb := .e) ?_ ?_
        · refine ej_plus (ka := .e) (kb := .e) ?_ ?_
          · refine ej_slice (ka := .e) ?_ ?_ ?_
            · exact ej_var (pv 3)
            · refine oj_some (k := .e) ?_
              exact ej_var (pv 9)
            · exact oj_none
          · refine ej_slice (ka := .e) ?_ ?_ ?_
            · exact ej_var (pv 3)
            · exact oj_none
            · refine oj_some (k := .e) ?_
              exact ej_var (pv 9)
        · refine ej_slice (ka := .e) ?_ ?_ ?_
          · exact ej_var (pv 3)
          · exact oj_none
          · refine oj_some (k := .e) ?_
            refine ej_mod (ka := .e) (kb := .e) ?_ ?_
            · refine ej_int1 (k := .e) (by rfl) T.b_int ?_
              refine ej_ix (ka := .e) (kb := .e) ?_ ?_ (fun _ _ => rfl)
              · exact ej_var (pv 2)
              · exact ej_int
            · exact ej_int
abbrev s_law_toggled : Stmt := topS 41
abbrev N_law_toggled : List Str := ["table", "beat", "u", "v", "bent", "k", "rows", "row", "one"]
theorem sc_law_toggled : FnScope N_law_toggled ["table", "beat", "u", "v"] (defScope s_law_toggled) := ⟨rfl, rfl, rfl, by decide +kernel, rfl, by decide +kernel, by decide +kernel⟩
theorem d_law_toggled {P : Program} {w : World} {K : PySem.W.Frag} {mg : Str → Option Value} {base : Heap} {C_Web : Addr} (T : Txt K mg C_Web)  {f : Addr} {cdv : Value} {A : Around} {outer : List Env} {s : Shared} {H : Hp} {E : XK}
    (hr : Room 0 (A.deeper (envOfC "_law_toggled" (defScope s_law_toggled) s.heap.objs.size f cdv))) :
    BJ E (cxOf (L2.CX P w) P w K mg base N_law_toggled "_law_toggled" (defScope s_law_toggled) f cdv A outer s H E) (defBody s_law_toggled) b_law_toggled := by
  refine bj_cons ?_ ?_
  · refine sj_nameO (i := 4) sc_law_toggled.nd rfl (by first | exact Or.inl rfl | exact Or.inr rfl) ?_
    refine ej_lst ?_
    exact aj_nil
  · refine bj_cons ?_ ?_
    · refine sj_for (tgs := [5]) (passes_of rfl) rfl ?_ ?_ ?_
      · refine ij_rng1 (ka := .e) ?_ (by rfl) T.b_range
        refine ej_len (k := .e) (by rfl) T.b_len ?_
        exact ej_var (pv 0)
      · exact gj_name (pg_name (i := 5) sc_law_toggled.nd rfl (by first | exact Or.inl rfl | exact Or.inr rfl))
      · refine bj_cons ?_ ?_
        · refine sj_compSO (own := [("row", 7)]) (tgs := [7]) (i := 6) rfl sc_law_toggled.nd rfl rfl (sw_true rfl rfl rfl (by decide +kernel)) (blkOk_by (by rfl)) ?_ (by decide) ?_ ?_ ?_
          · refine ij_seq ?_
            refine ej_ix (ka := .e) (kb := .e) ?_ ?_ (fun _ _ => rfl)
            · exact ej_var (pv 0)
            · exact ej_var (pv 5)
          · refine fun _ _ _ _ _ => ?_
            exact gj_name (pg_name (i := 7) sc_law_toggled.nd rfl (by first | exact Or.inl rfl | exact Or.inr rfl))
          · refine fun _ _ _ _ _ => ?_
            exact tsj_nil
          · refine fun _ _ _ _ _ => ?_
            refine ej_toE ?_
            refine ej_list1 (k := .e) (by rfl) T.b_list ?_
            exact ej_var (pv 7)
        · refine bj_cons ?_ ?_
          · refine sj_if ?_ ?_ ?_
            · refine tj_tw ?_
              refine twj_and ?_ ?_
              · refine tj_eq (ka := .e) (kb := .e) hr.units ?_ ?_
                · exact ej_var (pv 5)
                · exact ej_var (pv 1)
              · refine twj_and1 ?_
                refine tj_in (ka := .e) (kb := .e) (units65 hr) ?_ ?_
                · exact ej_var (pv 3)
                · refine ej_ix (ka := .o) (kb := .e) ?_ ?_ (fun _ _ => rfl)
                  · exact ej_peek (pv 6)
                  · exact ej_var (pv 2)
            · refine bj_one ?_
              refine sj_iput (k := .e) (pv 6) ?_ ?_
              · exact ej_var (pv 2)
              · refine ej_toE ?_
                refine ej_comp (own := [("one", 8)]) (tgs := [8]) rfl sc_law_toggled.nd (blkOk_by (by rfl)) ?_ (by decide) ?_ ?_ ?_
                · refine ij_seq ?_
                  refine ej_ix (ka := .o) (kb := .e) ?_ ?_ (fun _ _ => rfl)
                  · exact ej_peek (pv 6)
                  · exact ej_var (pv 2)
                · refine fun _ _ _ _ _ => ?_
                  exact gj_name (pg_name (i := 8) sc_law_toggled.nd rfl (by first | exact Or.inl rfl | exact Or.inr rfl))
                · refine fun _ _ _ _ _ => ?_
                  refine tsj_one ?_
                  refine tj_ne (ka := .e) (kb := .e) hr.units ?_ ?_
                  · exact ej_var (pv 8)
                  · exact ej_var (pv 3)
                · refine fun _ _ _ _ _ => ?_
                  exact ej_var (pv 8)
            · refine bj_one ?_
              refine sj_if ?_ ?_ ?_
              · refine tj_eq (ka := .e) (kb := .e) hr.units ?_ ?_
                · exact ej_var (pv 5)
                · exact ej_var (pv 1)
              · refine bj_one ?_
                refine sj_iput (k := .e) (pv 6) ?_ ?_
                · exact ej_var (pv 2)
                · refine ej_toE ?_
                  refine ej_sortI (k := .e) (by rfl) T.b_sorted ?_
                  refine ej_plus (ka := .e) (kb := .f) ?_ ?_
                  · refine ej_ix (ka := .o) (kb := .e) ?_ ?_ (fun _ _ => rfl)
                    · exact ej_peek (pv 6)
                    · exact ej_var (pv 2)
                  · refine ej_lst ?_
                    refine aj_consE ?_ ?_
                    · exact ej_var (pv 3)
                    · exact aj_nil
              · exact bj_nil
          · refine bj_one ?_
            refine sj_frz (i := 6) ?_
            refine sj_append (pv 4) ?_
            exact ej_var (pv 6)
    · refine bj_one ?_
      exact sj_retO (pv 4)
abbrev s_ties_between : Stmt := topS 20
abbrev N_ties_between : List Str := ["places", "nexts", "u", "v", "there", "back", "both", "only_there", "only_back", "ties", "beat", "tie"]
theorem sc_ties_between : FnScope N_ties_between ["places", "nexts", "u", "v"] (defScope s_ties_between) := ⟨rfl, rfl, rfl, by decide +kernel, rfl, by decide +kernel, by decide +kernel⟩
theorem d_ties_between {P : Program} {w : World} {K : PySem.W.Frag} {mg : Str → Option Value} {base : Heap} {C_Web : Addr} (T : Txt K mg C_Web)  {f : Addr} {cdv : Value} {A : Around} {outer : List Env} {s : Shared} {H : Hp} {E : XK}
    (hr : Room 0 (A.deeper (envOfC "ties_between" (defScope s_ties_between) s.heap.objs.size f cdv))) :
    BJ E (cxOf (L2.CX P w) P w K mg base N_ties_between "ties_between" (defScope s_ties_between) f cdv A outer s H E) (defBody s_ties_between) b_ties_between := by
  refine bj_cons ?_ ?_
  · refine sj_name (i := 4) sc_ties_between.nd rfl (by first | exact Or.inl rfl | exact Or.inr rfl) ?_
    refine ej_toE ?_
    refine ej_comp (own := [("beat", 10)]) (tgs := [10]) rfl sc_ties_between.nd (blkOk_by (by rfl)) ?_ (by decide) ?_ ?_ ?_
    · refine ij_rng1 (ka := .e) ?_ (by rfl) T.b_range
      refine ej_len (k := .e) (by rfl) T.b_len ?_
      exact ej_var (pv 1)
    · refine fun _ _ _ _ _ => ?_
      exact gj_name (pg_name (i := 10) sc_ties_between.nd rfl (by first | exact Or.inl rfl | exact Or.inr rfl))
    · refine fun _ _ _ _ _ => ?_
      refine tsj_one ?_
      refine tj_in (ka := .e) (kb := .e) (units65 hr) ?_ ?_
      · exact ej_var (pv 3)
      · refine ej_ix (ka := .e) (kb := .e) ?_ ?_ (fun _ _ => rfl)
        · refine ej_ix (ka := .e) (kb := .e) ?_ ?_ (fun _ _ => rfl)
          · exact ej_var (pv 1)
          · exact ej_var (pv 10)
        · exact ej_var (pv 2)
    · refine fun _ _ _ _ _ => ?_
      exact ej_var (pv 10)
  · refine bj_cons ?_ ?_
    · refine sj_name (i := 5) sc_ties_between.nd rfl (by first | exact Or.inl rfl | exact Or.inr rfl) ?_
      refine ej_toE ?_
      refine ej_comp (own := [("beat", 10)]) (tgs := [10]) rfl sc_ties_between.nd (blkOk_by (by rfl)) ?_ (by decide) ?_ ?_ ?_
      · refine ij_rng1 (ka := .e) ?_ (by rfl) T.b_range
        refine ej_len (k := .e) (by rfl) T.b_len ?_
        exact ej_var (pv 1)
      · refine fun _ _ _ _ _ => ?_
        exact gj_name (pg_name (i := 10) sc_ties_between.nd rfl (by first | exact Or.inl rfl | exact Or.inr rfl))
      · refine fun _ _ _ _ _ => ?_
        refine tsj_one ?_
        refine tj_in (ka := .e) (kb := .e) (units65 hr) ?_ ?_
        · exact ej_var (pv 2)
        · refine ej_ix (ka := .e) (kb := .e) ?_ ?_ (fun _ _ => rfl)
          · refine ej_ix (ka := .e) (kb := .e) ?_ ?_ (fun _ _ => rfl)
            · exact ej_var (pv 1)
            · exact ej_var (pv 10)
          · exact ej_var (pv 3)
      · refine fun _ _ _ _ _ => ?_
        exact ej_var (pv 10)
    · refine bj_cons ?_ ?_
      · refine sj_name (i := 6) sc_ties_between.nd rfl (by first | exact Or.inl rfl | exact Or.inr rfl) ?_
        refine ej_tuple1 (k := .f) (by rfl) T.b_tuple ?_
        refine ej_comp (own := [("beat", 10)]) (tgs := [10]) rfl sc_ties_between.nd (blkOk_by (by rfl)) ?_ (by decide) ?_ ?_ ?_
        · refine ij_seq ?_
          exact ej_var (pv 4)
        · refine fun _ _ _ _ _ => ?_
          exact gj_name (pg_name (i := 10) sc_ties_between.nd rfl (by first | exact Or.inl rfl | exact Or.inr rfl))
        · refine fun _ _ _ _ _ => ?_
          refine tsj_one ?_
          refine tj_in (ka := .e) (kb := .e) (units65 hr) ?_ ?_
          · exact ej_var (pv 10)
          · exact ej_var (pv 5)
        · refine fun _ _ _ _ _ => ?_
          exact ej_var (pv 10)
      · refine bj_cons ?_ ?_
        · refine sj_name (i := 7) sc_ties_between.nd rfl (by first | exact Or.inl rfl | exact Or.inr rfl) ?_
          refine ej_tuple1 (k := .f) (by rfl) T.b_tuple ?_
          refine ej_comp (own := [("beat", 10)]) (tgs := [10]) rfl sc_ties_between.nd (blkOk_by (by rfl)) ?_ (by decide) ?_ ?_ ?_
          · refine ij_seq ?_
            exact ej_var (pv 4)
          · refine fun _ _ _ _ _ => ?_
            exact gj_name (pg_name (i := 10) sc_ties_between.nd rfl (by first | exact Or.inl rfl | exact Or.inr rfl))
          · refine fun _ _ _ _ _ => ?_
            refine tsj_one ?_
            refine tj_nin (ka := .e) (kb := .e) (units65 hr) ?_ ?_
            · exact ej_var (pv 10)
            · exact ej_var (pv 5)
          · refine fun _ _ _ _ _ => ?_
            exact ej_var (pv 10)
        · refine bj_cons ?_ ?_
          · refine sj_name (i := 8) sc_ties_between.nd rfl (by first | exact Or.inl rfl | exact Or.inr rfl) ?_
            refine ej_tuple1 (k := .f) (by rfl) T.b_tuple ?_
            refine ej_comp (own := [("beat", 10)]) (tgs := [10]) rfl sc_ties_between.nd (blkOk_by (by rfl)) ?_ (by decide) ?_ ?_ ?_
            · refine ij_seq ?_
              exact ej_var (pv 5)
            · refine fun _ _ _ _ _ => ?_
              exact gj_name (pg_name (i := 10) sc_ties_between.nd rfl (by first | exact Or.inl rfl | exact Or.inr rfl))
            · refine fun _ _ _ _ _ => ?_
              refine tsj_one ?_
              refine tj_nin (ka := .e) (kb := .e) (units65 hr) ?_ ?_
              · exact ej_var (pv 10)
              · exact ej_var (pv 4)
            · refine fun _ _ _ _ _ => ?_
              exact ej_var (pv 10)
          · refine bj_cons ?_ ?_
            · refine sj_name (i := 9) sc_ties_between.nd rfl (by first | exact Or.inl rfl | exact Or.inr rfl) ?_
              refine ej_tup ?_
              refine aj_consE ?_ ?_
              · refine ej_tup ?_
                refine aj_consE ?_ ?_
                · refine ej_ix (ka := .e) (kb := .e) ?_ ?_ (fun _ _ => rfl)
                  · refine ej_wk ?_
                    exact ej_var (pv 0)
                  · exact ej_var (pv 2)
                · refine aj_consE ?_ ?_
                  · refine ej_ix (ka := .e) (kb := .e) ?_ ?_ (fun _ _ => rfl)
                    · refine ej_wk ?_
                      exact ej_var (pv 0)
                    · exact ej_var (pv 3)
                  · refine aj_consE ?_ ?_
                    · exact ej_str
                    · refine aj_consE ?_ ?_
                      · exact ej_var (pv 6)
                      · exact aj_nil
              · refine aj_consE ?_ ?_
                · refine ej_tup ?_
                  refine aj_consE ?_ ?_
                  · refine ej_ix (ka := .e) (kb := .e) ?_ ?_ (fun _ _ => rfl)
                    · refine ej_wk ?_
                      exact ej_var (pv 0)
                    · exact ej_var (pv 2)
                  · refine aj_consE ?_ ?_
                    · refine ej_ix (ka := .e) (kb := .e) ?_ ?_ (fun _ _ => rfl)
                      · refine ej_wk ?_
                        exact ej_var (pv 0)
                      · exact ej_var (pv 3)
                    · refine aj_consE ?_ ?_
                      · exact ej_str
                      · refine aj_consE ?_ ?_
                        · exact ej_var (pv 7)
                        · exact aj_nil
                · refine aj_consE ?_ ?_
                  · refine ej_tup ?_
                    refine aj_consE ?_ ?_
                    · refine ej_ix (ka := .e) (kb := .e) ?_ ?_ (fun _ _ => rfl)
                      · refine ej_wk ?_
                        exact ej_var (pv 0)
                      · exact ej_var (pv 3)
                    · refine aj_consE ?_ ?_
                      · refine ej_ix (ka := .e) (kb := .e) ?_ ?_ (fun _ _ => rfl)
                        · refine ej_wk ?_
                          exact ej_var (pv 0)
                        · exact ej_var (pv 2)
                      · refine aj_consE ?_ ?_
                        · exact ej_str
                        · refine aj_consE ?_ ?_
                          · exact ej_var (pv 8)
                          · exact aj_nil
                  · exact aj_nil
            · refine bj_one ?_
              refine sj_retF ?_
              refine ej_comp (own := [("tie", 11)]) (tgs := [11]) rfl sc_ties_between.nd (blkOk_by (by rfl)) ?_ (by decide) ?_ ?_ ?_
              · refine ij_seq ?_
                exact ej_var (pv 9)
              · refine fun _ _ _ _ _ => ?_
                exact gj_name (pg_name (i := 11) sc_ties_between.nd rfl (by first | exact Or.inl rfl | exact Or.inr rfl))
              · refine fun _ _ _ _ _ => ?_
                refine tsj_one ?_
                refine tj_gt (ka := .e) (kb := .e) ?_ ?_
                · refine ej_len (k := .e) (by rfl) T.b_len ?_
                  refine ej_ix (ka := .e) (kb := .e) ?_ ?_ (fun _ _ => rfl)
                  · exact ej_var (pv 11)
                  · exact ej_int
                · exact ej_int
              · refine fun _ _ _ _ _ => ?_
                exact ej_var (pv 11)
abbrev s_ties_of : Stmt := topS 19
abbrev N_ties_of : List Str := ["places", "nexts", "ties", "u", "v"]
theorem sc_ties_of : FnScope N_ties_of ["places", "nexts"] (defScope s_ties_of) := ⟨rfl, rfl, rfl, by decide +kernel, rfl, by decide +kernel, by decide +kernel⟩
theorem d_ties_of {P : Program} {w : World} {K : PySem.W.Frag} {mg : Str → Option Value} {base : Heap} {C_Web : Addr} (T : Txt K mg C_Web) (D_ties_between : Def P w K mg base "ties_between" 4 1 wf_ties_between) {f : Addr} {cdv : Value} {A : Around} {outer : List Env} {s : Shared} {H : Hp} {E : XK}
    (hr : Room 1 (A.deeper (envOfC "ties_of" (defScope s_ties_of) s.heap.objs.size f cdv))) :
    BJ E (cxOf (L2.CX P w) P w K mg base N_ties_of "ties_of" (defScope s_ties_of) f cdv A outer s H E) (defBody s_ties_of) b_ties_of := by
  refine bj_cons ?_ ?_
  · refine sj_nameO (i := 2) sc_ties_of.nd rfl (by first | exact Or.inl rfl | exact Or.inr rfl) ?_
    refine ej_lst ?_
    exact aj_nil
  · refine bj_cons ?_ ?_
    · refine sj_for (tgs := [3]) (passes_of rfl) rfl ?_ ?_ ?_
      · refine ij_rng1 (ka := .e) ?_ (by rfl) T.b_range
        refine ej_len (k := .e) (by rfl) T.b_len ?_
        refine ej_wk ?_
        exact ej_var (pv 0)
      · exact gj_name (pg_name (i := 3) sc_ties_of.nd rfl (by first | exact Or.inl rfl | exact Or.inr rfl))
      · refine bj_one ?_
        refine sj_for (tgs := [4]) (passes_of rfl) rfl ?_ ?_ ?_
        · refine ij_rng2 (ka := .e) (kb := .e) ?_ ?_ (by rfl) T.b_range
          · refine ej_plus (ka := .e) (kb := .e) ?_ ?_
            · exact ej_var (pv 3)
            · exact ej_int
          · refine ej_len (k := .e) (by rfl) T.b_len ?_
            refine ej_wk ?_
            exact ej_var (pv 0)
        · exact gj_name (pg_name (i := 4) sc_ties_of.nd rfl (by first | exact Or.inl rfl | exact Or.inr rfl))
        · refine bj_one ?_
          refine sj_extend (k := .e) (pv 2) ?_
          refine ej_fn D_ties_between (hr.mono (by decide)) (by rfl) passM ?_
          refine aj_consE ?_ ?_
          · exact ej_var (pv 0)
          · refine aj_consE ?_ ?_
            · exact ej_var (pv 1)
            · refine aj_consE ?_ ?_
              · exact ej_var (pv 3)
              · refine aj_consE ?_ ?_
                · exact ej_var (pv 4)
                · exact aj_nil
    · refine bj_one ?_
      exact sj_retO (pv 2)
abbrev s_Web_ties : Stmt := inClass (topS 22) 13
abbrev N_Web_ties : List Str := ["self"]
theorem sc_Web_ties : FnScope N_Web_ties ["self"] (defScope s_Web_ties) := ⟨rfl, rfl, rfl, by decide +kernel, rfl, by decide +kernel, by decide +kernel⟩
theorem d_Web_ties {P : Program} {w : World} {K : PySem.W.Frag} {mg : Str → Option Value} {base : Heap} {C_Web : Addr} (T : Txt K mg C_Web) (D_ties_of : Def P w K mg base "ties_of" 2 2 wf_ties_of) {f : Addr} {cdv : Value} {A : Around} {outer : List Env} {s : Shared} {H : Hp} {E : XK}
    (hr : Room 2 (A.deeper (envOfC "Web.ties" (defScope s_Web_ties) s.heap.objs.size f cdv))) :
    BJ E (cxOf (L2.CX P w) P w K mg base N_Web_ties "Web.ties" (defScope s_Web_ties) f cdv A outer s H E) (defBody s_Web_ties) (b_Web_ties C_Web) := by
  refine bj_one ?_
  refine sj_retF ?_
  refine ej_fnF D_ties_of (hr.mono (by decide)) (by rfl) passM ?_
  refine aj_consE ?_ ?_
  · refine ej_fld (k := .e) T.c_Web T.n_Web_places ?_
    exact ej_var (pv 0)
  · refine aj_consE ?_ ?_
    · refine ej_fld (k := .e) T.c_Web T.n_Web__nexts ?_
      exact ej_var (pv 0)
    · exact aj_nil
abbrev s_is_name : Stmt := topS 14
abbrev N_is_name : List Str := ["text", "sign"]
theorem sc_is_name : FnScope N_is_name ["text"] (defScope s_is_name) := ⟨rfl, rfl, rfl, by decide +kernel, rfl, by decide +kernel, by decide +kernel⟩
theorem d_is_name {P : Program} {w : World} {K : PySem.W.Frag} {mg : Str → Option Value} {base : Heap} {C_Web : Addr} (T : Txt K mg C_Web)  {f : Addr} {cdv : Value} {A : Around} {outer : List Env} {s : Shared} {H : Hp} {E : XK}
    (hr : Room 0 (A.deeper (envOfC "is_name" (defScope s_is_name) s.heap.objs.size f cdv))) :
    BJ E (cxOf (L2.CX P w) P w K mg base N_is_name "is_name" (defScope s_is_name) f cdv A outer s H E) (defBody s_is_name) b_is_name := by
  refine bj_one ?_
  refine sj_ret ?_
  refine ej_andV ?_ ?_
  · refine ej_ch2 (ka := .e) (kb := .e) (kc := .e) brg_le brg_le op_le op_le ?_ ?_ ?_
    · exact ej_int
    · refine ej_len (k := .e) (by rfl) T.b_len ?_
      exact ej_var (pv 0)
    · exact ej_int
  · refine ej_b1 ?_
    refine ej_all1 (k := .f) rfl (by rfl) T.b_all ?_
    refine ej_comp (own := [("sign", 1)]) (tgs := [1]) rfl sc_is_name.nd (blkOk_by (by rfl)) ?_ (by decide) ?_ ?_ ?_
    · refine ij_str (k := .e) ?_
      exact ej_var (pv 0)
    · refine fun _ _ _ _ _ => ?_
      exact gj_name (pg_name (i := 1) sc_is_name.nd rfl (by first | exact Or.inl rfl | exact Or.inr rfl))
    · refine fun _ _ _ _ _ => ?_
      exact tsj_nil
    · refine fun _ _ _ _ _ => ?_
      refine ej_inS (ka := .e) (kb := .e) ?_ ?_
      · exact ej_var (pv 1)
      · exact ej_glob (by rfl) T.g_LETTERS (fun _ => .str _)
abbrev s_check_names : Stmt := topS 23
abbrev N_check_names : List Str := ["places", "at"]
theorem sc_check_names : FnScope N_check_names ["places"] (defScope s_check_names) := ⟨rfl, rfl, rfl, by decide +kernel, rfl, by decide +kernel, by decide +kernel⟩
theorem d_check_names {P : Program} {w : World} {K : PySem.W.Frag} {mg : Str → Option Value} {base : Heap} {C_Web : Addr} (T : Txt K mg C_Web) (D_is_name : Def P w K mg base "is_name" 1 1 wf_is_name) {f : Addr} {cdv : Value} {A : Around} {outer : List Env} {s : Shared} {H : Hp} {E : XK}
    (hr : Room 1 (A.deeper (envOfC "check_names" (defScope s_check_names) s.heap.objs.size f cdv))) :
    BJ E (cxOf (L2.CX P w) P w K mg base N_check_names "check_names" (defScope s_check_names) f cdv A outer s H E) (defBody s_check_names) b_check_names := by
  refine bj_cons ?_ ?_
  · refine sj_if ?_ ?_ ?_
    · refine tj_not ?_
      refine tj_ch2 (ka := .e) (kb := .e) (kc := .e) brg_le brg_le op_le op_le ?_ ?_ ?_
      · exact ej_int
      · refine ej_len (k := .e) (by rfl) T.b_len ?_
        refine ej_wk ?_
        exact ej_var (pv 0)
      · exact ej_int
    · refine bj_one ?_
      exact sj_never
    · exact bj_nil
  · refine bj_one ?_
    refine sj_for (tgs := [1]) (passes_of rfl) rfl ?_ ?_ ?_
    · refine ij_rng1 (ka := .e) ?_ (by rfl) T.b_range
      refine ej_len (k := .e) (by rfl) T.b_len ?_
      refine ej_wk ?_
      exact ej_var (pv 0)
    · exact gj_name (pg_name (i := 1) sc_check_names.nd rfl (by first | exact Or.inl rfl | exact Or.inr rfl))
    · refine bj_one ?_
      refine sj_if ?_ ?_ ?_
      · refine tj_tw ?_
        refine twj_or ?_ ?_
        · refine tj_not ?_
          refine tj_tru (k := .e) ?_
          refine ej_fn D_is_name (hr.mono (by decide)) (by rfl) passM ?_
          refine aj_consE ?_ ?_
          · refine ej_ix (ka := .e) (kb := .e) ?_ ?_ (fun _ _ => rfl)
            · refine ej_wk ?_
              exact ej_var (pv 0)
            · exact ej_var (pv 1)
          · exact aj_nil
        · refine twj_or1 ?_
          refine tj_in (ka := .e) (kb := .e) (units65 hr) ?_ ?_
          · refine ej_ix (ka := .e) (kb := .e) ?_ ?_ (fun _ _ => rfl)
            · refine ej_wk ?_
              exact ej_var (pv 0)
            · exact ej_var (pv 1)
          · refine ej_slice (ka := .e) ?_ ?_ ?_
            · refine ej_wk ?_
              exact ej_var (pv 0)
            · exact oj_none
            · refine oj_some (k := .e) ?_
              exact ej_var (pv 1)
      · refine bj_one ?_
        exact sj_never
      · exact bj_nil
abbrev s_is_set : Stmt := topS 9
abbrev N_is_set : List Str := ["places", "count", "inside", "rising", "place", "at"]
theorem sc_is_set : FnScope N_is_set ["places", "count"] (defScope s_is_set) := ⟨rfl, rfl, rfl, by decide +kernel, rfl, by decide +kernel, by decide +kernel⟩
theorem d_is_set {P : Program} {w : World} {K : PySem.W.Frag} {mg : Str → Option Value} {base : Heap} {C_Web : Addr} (T : Txt K mg C_Web)  {f : Addr} {cdv : Value} {A : Around} {outer : List Env} {s : Shared} {H : Hp} {E : XK}
    (hr : Room 0 (A.deeper (envOfC "is_set" (defScope s_is_set) s.heap.objs.size f cdv))) :
    BJ E (cxOf (L2.CX P w) P w K mg base N_is_set "is_set" (defScope s_is_set) f cdv A outer s H E) (defBody s_is_set) b_is_set := by
  refine bj_cons ?_ ?_
  · refine sj_compS (own := [("place", 4)]) (tgs := [4]) (i := 2) rfl sc_is_set.nd rfl rfl (sw_true rfl rfl rfl (by decide +kernel)) (blkOk_by (by rfl)) ?_ (by decide) ?_ ?_ ?_
    · refine ij_seq ?_
      exact ej_var (pv 0)
    · refine fun _ _ _ _ _ => ?_
      exact gj_name (pg_name (i := 4) sc_is_set.nd rfl (by first | exact Or.inl rfl | exact Or.inr rfl))
    · refine fun _ _ _ _ _ => ?_
      exact tsj_nil
    · refine fun _ _ _ _ _ => ?_
      refine ej_ch2 (ka := .e) (kb := .e) (kc := .e) brg_le brg_lt op_le op_lt ?_ ?_ ?_
      · exact ej_int
      · exact ej_var (pv 4)
      · exact ej_var (pv 1)
  · refine bj_cons ?_ ?_
    · refine sj_compS (own := [("at", 5)]) (tgs := [5]) (i := 3) rfl sc_is_set.nd rfl rfl (sw_true rfl rfl rfl (by decide +kernel)) (blkOk_by (by rfl)) ?_ (by decide) ?_ ?_ ?_
      · refine ij_rng1 (ka := .e) ?_ (by rfl) T.b_range
        refine ej_sub (ka := .e) (kb := .e) ?_ ?_
        · refine ej_len (k := .e) (by rfl) T.b_len ?_
          exact ej_var (pv 0)
        · exact ej_int
      · refine fun _ _ _ _ _ => ?_
        exact gj_name (pg_name (i := 5) sc_is_set.nd rfl (by first | exact Or.inl rfl | exact Or.inr rfl))
      · refine fun _ _ _ _ _ => ?_
        exact tsj_nil
      · refine fun _ _ _ _ _ => ?_
        refine ej_lt (ka := .e) (kb := .e) ?_ ?_
        · refine ej_ix (ka := .e) (kb := .e) ?_ ?_ (fun _ _ => rfl)
          · exact ej_var (pv 0)
          · exact ej_var (pv 5)
        · refine ej_ix (ka := .e) (kb := .e) ?_ ?_ (fun _ _ => rfl)
          · exact ej_var (pv 0)
          · refine ej_plus (ka := .e) (kb := .e) ?_ ?_
            · exact ej_var (pv 5)
            · exact ej_int
    · refine bj_one ?_
      refine sj_ret ?_
      refine ej_andV ?_ ?_
      · refine ej_all1 (k := .e) rfl (by rfl) T.b_all ?_
        exact ej_var (pv 2)
      · refine ej_b1 ?_
        refine ej_all1 (k := .e) rfl (by rfl) T.b_all ?_
        exact ej_var (pv 3)
abbrev s_is_tie : Stmt := topS 16
abbrev N_is_tie : List Str := ["places", "tie", "beats", "first", "second", "way", "when"]
theorem sc_is_tie : FnScope N_is_tie ["places", "tie", "beats"] (defScope s_is_tie) := ⟨rfl, rfl, rfl, by decide +kernel, rfl, by decide +kernel, by decide +kernel⟩
theorem d_is_tie {P : Program} {w : World} {K : PySem.W.Frag} {mg : Str → Option Value} {base : Heap} {C_Web : Addr} (T : Txt K mg C_Web) (D_is_set : Def P w K mg base "is_set" 2 1 wf_is_set) {f : Addr} {cdv : Value} {A : Around} {outer : List Env} {s : Shared} {H : Hp} {E : XK}
    (hr : Room 1 (A.deeper (envOfC "is_tie" (defScope s_is_tie) s.heap.objs.size f cdv))) :
    BJ E (cxOf (L2.CX P w) P w K mg base N_is_tie "is_tie" (defScope s_is_tie) f cdv A outer s H E) (defBody s_is_tie) b_is_tie := by
  refine bj_cons ?_ ?_
  · refine sj_if ?_ ?_ ?_
    · refine tj_ne (ka := .e) (kb := .e) hr.units ?_ ?_
      · refine ej_len (k := .e) (by rfl) T.b_len ?_
        exact ej_var (pv 1)
      · exact ej_int
    · refine bj_one ?_
      refine sj_ret ?_
      exact ej_bl
    · exact bj_nil
  · refine bj_cons ?_ ?_
    · refine sj_tgt (tgs := [3, 4, 5, 6]) ?_ ?_
      · refine gj_tup (n := 4) rfl ?_
        refine gsj_name ?_ ?_
        · exact gj_name (pg_name (i := 3) sc_is_tie.nd rfl (by first | exact Or.inl rfl | exact Or.inr rfl))
        · refine gsj_name ?_ ?_
          · exact gj_name (pg_name (i := 4) sc_is_tie.nd rfl (by first | exact Or.inl rfl | exact Or.inr rfl))
          · refine gsj_name ?_ ?_
            · exact gj_name (pg_name (i := 5) sc_is_tie.nd rfl (by first | exact Or.inl rfl | exact Or.inr rfl))
            · refine gsj_name ?_ ?_
              · exact gj_name (pg_name (i := 6) sc_is_tie.nd rfl (by first | exact Or.inl rfl | exact Or.inr rfl))
              · exact gsj_nil
      · exact ej_var (pv 1)
    · refine bj_cons ?_ ?_
      · refine sj_if ?_ ?_ ?_
        · refine tj_tw ?_
          refine twj_or ?_ ?_
          · refine tj_nin (ka := .e) (kb := .e) (units65 hr) ?_ ?_
            · exact ej_var (pv 3)
            · refine ej_wk ?_
              exact ej_var (pv 0)
          · refine twj_or ?_ ?_
            · refine tj_nin (ka := .e) (kb := .e) (units65 hr) ?_ ?_
              · exact ej_var (pv 4)
              · refine ej_wk ?_
                exact ej_var (pv 0)
            · refine twj_or1 ?_
              refine tj_eq (ka := .e) (kb := .e) hr.units ?_ ?_
              · exact ej_var (pv 3)
              · exact ej_var (pv 4)
        · refine bj_one ?_
          refine sj_ret ?_
          exact ej_bl
        · exact bj_nil
      · refine bj_one ?_
        refine sj_ret ?_
        refine ej_andV ?_ ?_
        · refine ej_in (ka := .e) (kb := .e) (units65 hr) ?_ ?_
          · exact ej_var (pv 5)
          · refine ej_tup ?_
            refine aj_consE ?_ ?_
            · exact ej_str
            · refine aj_consE ?_ ?_
              · exact ej_str
              · exact aj_nil
        · refine ej_andV ?_ ?_
          · refine ej_gt (ka := .e) (kb := .e) ?_ ?_
            · refine ej_len (k := .e) (by rfl) T.b_len ?_
              exact ej_var (pv 6)
            · exact ej_int
          · refine ej_b1 ?_
            refine ej_fn D_is_set (hr.mono (by decide)) (by rfl) passM ?_
            refine aj_consE ?_ ?_
            · exact ej_var (pv 6)
            · refine aj_consE ?_ ?_
              · exact ej_var (pv 2)
              · exact aj_nil
abbrev s_check_ties : Stmt := topS 24
abbrev N_check_ties : List Str := ["places", "ties", "beats", "at", "tie"]
theorem sc_check_ties : FnScope N_check_ties ["places", "ties", "beats"] (defScope s_check_ties) := ⟨rfl, rfl, rfl, by decide +kernel, rfl, by decide +kernel, by decide +kernel⟩
theorem d_check_ties {P : Program} {w : World} {K : PySem.W.Frag} {mg : Str → Option Value} {base : Heap} {C_Web : Addr} (T : Txt K mg C_Web) (D_is_tie : Def P w K mg base "is_tie" 3 2 wf_is_tie) {f : Addr} {cdv : Value} {A : Around} {outer : List Env} {s : Shared} {H : Hp} {E : XK}
    (hr : Room 2 (A.deeper (envOfC "check_ties" (defScope s_check_ties) s.heap.objs.size f cdv))) :
    BJ E (cxOf (L2.CX P w) P w K mg base N_check_ties "check_ties" (defScope s_check_ties) f cdv A outer s H E) (defBody s_check_ties) b_check_ties := by
  refine bj_cons ?_ ?_
  · refine sj_if ?_ ?_ ?_
    · refine tj_gt (ka := .e) (kb := .e) ?_ ?_
      · refine ej_len (k := .e) (by rfl) T.b_len ?_
        exact ej_var (pv 1)
      · exact ej_int
    · refine bj_one ?_
      exact sj_never
    · exact bj_nil
  · refine bj_one ?_
    refine sj_for (tgs := [3, 4]) (passes_of rfl) rfl ?_ ?_ ?_
    · refine ij_enumA ?_ (by rfl) T.b_enumerate
      exact ej_var (pv 1)
    · refine gj_tup (n := 2) rfl ?_
      refine gsj_name ?_ ?_
      · exact gj_name (pg_name (i := 3) sc_check_ties.nd rfl (by first | exact Or.inl rfl | exact Or.inr rfl))
      · refine gsj_name ?_ ?_
        · exact gj_name (pg_name (i := 4) sc_check_ties.nd rfl (by first | exact Or.inl rfl | exact Or.inr rfl))
        · exact gsj_nil
    · refine bj_one ?_
      refine sj_if ?_ ?_ ?_
      · refine tj_not ?_
        refine tj_tru (k := .e) ?_
        refine ej_fn D_is_tie (hr.mono (by decide)) (by rfl) passM ?_
        refine aj_consE ?_ ?_
        · exact ej_var (pv 0)
        · refine aj_consE ?_ ?_
          · exact ej_var (pv 4)
          · refine aj_consE ?_ ?_
            · exact ej_var (pv 2)
            · exact aj_nil
      · refine bj_one ?_
        exact sj_never
      · exact bj_nil
abbrev s_nexts_at : Stmt := topS 18
abbrev N_nexts_at : List Str := ["given", "beat", "count", "u", "v"]
theorem sc_nexts_at : FnScope N_nexts_at ["given", "beat", "count"] (defScope s_nexts_at) := ⟨rfl, rfl, rfl, by decide +kernel, rfl, by decide +kernel, by decide +kernel⟩
theorem d_nexts_at {P : Program} {w : World} {K : PySem.W.Frag} {mg : Str → Option Value} {base : Heap} {C_Web : Addr} (T : Txt K mg C_Web)  {f : Addr} {cdv : Value} {A : Around} {outer : List Env} {s : Shared} {H : Hp} {E : XK}
    (hr : Room 0 (A.deeper (envOfC "nexts_at" (defScope s_nexts_at) s.heap.objs.size f cdv))) :
    BJ E (cxOf (L2.CX P w) P w K mg base N_nexts_at "nexts_at" (defScope s_nexts_at) f cdv A outer s H E) (defBody s_nexts_at) b_nexts_at := by
  refine bj_one ?_
  refine sj_ret ?_
  refine ej_tuple1 (k := .f) (by rfl) T.b_tuple ?_
  refine ej_comp (own := [("u", 3)]) (tgs := [3]) rfl sc_nexts_at.nd (blkOk_by (by rfl)) ?_ (by decide) ?_ ?_ ?_
  · refine ij_rng1 (ka := .e) ?_ (by rfl) T.b_range
    exact ej_var (pv 2)
  · refine fun _ _ _ _ _ => ?_
    exact gj_name (pg_name (i := 3) sc_nexts_at.nd rfl (by first | exact Or.inl rfl | exact Or.inr rfl))
  · refine fun _ _ _ _ _ => ?_
    exact tsj_nil
  · refine fun _ _ _ _ _ => ?_
    refine ej_tuple1 (k := .f) (by rfl) T.b_tuple ?_
    refine ej_comp (own := [("v", 4)]) (tgs := [4]) rfl sc_nexts_at.nd (blkOk_by (by rfl)) ?_ (by decide) ?_ ?_ ?_
    · refine ij_rng1 (ka := .e) ?_ (by rfl) T.b_range
      exact ej_var (pv 2)
    · refine fun _ _ _ _ _ => ?_
      exact gj_name (pg_name (i := 4) sc_nexts_at.nd rfl (by first | exact Or.inl rfl | exact Or.inr rfl))
    · refine fun _ _ _ _ _ => ?_
      refine tsj_one ?_
      refine tj_dinT (kb := .e) (hu_of hr) ?_ ?_
      · refine aj_consE ?_ ?_
        · exact ej_var (pv 1)
        · refine aj_consE ?_ ?_
          · exact ej_var (pv 3)
          · refine aj_consE ?_ ?_
            · exact ej_var (pv 4)
            · exact aj_nil
      · exact ej_var (pv 0)
    · refine fun _ _ _ _ _ => ?_
      exact ej_var (pv 4)
abbrev s_nexts_of : Stmt := topS 17
abbrev N_nexts_of : List Str := ["places", "ties", "beats", "given", "first", "second", "way", "when", "u", "v", "beat", "count"]
theorem sc_nexts_of : FnScope N_nexts_of ["places", "ties", "beats"] (defScope s_nexts_of) := ⟨rfl, rfl, rfl, by decide +kernel, rfl, by decide +kernel, by decide +kernel⟩
theorem d_nexts_of {P : Program} {w : World} {K : PySem.W.Frag} {mg : Str → Option Value} {base : Heap} {C_Web : Addr} (T : Txt K mg C_Web) (D_nexts_at : Def P w K mg base "nexts_at" 3 1 wf_nexts_at) {f : Addr} {cdv : Value} {A : Around} {outer : List Env} {s : Shared} {H : Hp} {E : XK}
    (hr : Room 1 (A.deeper (envOfC "nexts_of" (defScope s_nexts_of) s.heap.objs.size f cdv))) :
    BJ E (cxOf (L2.CX P w) P w K mg base N_nexts_of "nexts_of" (defScope s_nexts_of) f cdv A outer s H E) (defBody s_nexts_of) b_nexts_of := by
  refine bj_cons ?_ ?_
  · refine sj_nameO (i := 3) sc_nexts_of.nd rfl (by first | exact Or.inl rfl | exact Or.inr rfl) ?_
    exact ej_dictT
  · refine bj_cons ?_ ?_
    · refine sj_for (tgs := [4, 5, 6, 7]) (passes_of rfl) rfl ?_ ?_ ?_
      · refine ij_seq ?_
        exact ej_var (pv 1)
      · refine gj_tup (n := 4) rfl ?_
        refine gsj_name ?_ ?_
        · exact gj_name (pg_name (i := 4) sc_nexts_of.nd rfl (by first | exact Or.inl rfl | exact Or.inr rfl))
        · refine gsj_name ?_ ?_
          · exact gj_name (pg_name (i := 5) sc_nexts_of.nd rfl (by first | exact Or.inl rfl | exact Or.inr rfl))
          · refine gsj_name ?_ ?_
            · exact gj_name (pg_name (i := 6) sc_nexts_of.nd rfl (by first | exact Or.inl rfl | exact Or.inr rfl))
            · refine gsj_name ?_ ?_
              · exact gj_name (pg_name (i := 7) sc_nexts_of.nd rfl (by first | exact Or.inl rfl | exact Or.inr rfl))
              · exact gsj_nil
      · refine bj_cons ?_ ?_
        · refine sj_name (i := 8) sc_nexts_of.nd rfl (by first | exact Or.inl rfl | exact Or.inr rfl) ?_
          refine ej_idxT (k := .e) ?_ ?_
          · exact ej_var (pv 0)
          · exact ej_var (pv 4)
        · refine bj_cons ?_ ?_
          · refine sj_name (i := 9) sc_nexts_of.nd rfl (by first | exact Or.inl rfl | exact Or.inr rfl) ?_
            refine ej_idxT (k := .e) ?_ ?_
            · exact ej_var (pv 0)
            · exact ej_var (pv 5)
          · refine bj_one ?_
            refine sj_for (tgs := [10]) (passes_of rfl) rfl ?_ ?_ ?_
            · refine ij_seq ?_
              exact ej_var (pv 7)
            · exact gj_name (pg_name (i := 10) sc_nexts_of.nd rfl (by first | exact Or.inl rfl | exact Or.inr rfl))
            · refine bj_cons ?_ ?_
              · refine sj_dput (hu_of hr) (pv 3) ?_ ?_
                · refine aj_consE ?_ ?_
                  · exact ej_var (pv 10)
                  · refine aj_consE ?_ ?_
                    · exact ej_var (pv 8)
                    · refine aj_consE ?_ ?_
                      · exact ej_var (pv 9)
                      · exact aj_nil
                · exact ej_bl
              · refine bj_one ?_
                refine sj_if ?_ ?_ ?_
                · refine tj_eq (ka := .e) (kb := .e) hr.units ?_ ?_
                  · exact ej_var (pv 6)
                  · exact ej_str
                · refine bj_one ?_
                  refine sj_dput (hu_of hr) (pv 3) ?_ ?_
                  · refine aj_consE ?_ ?_
                    · exact ej_var (pv 10)
                    · refine aj_consE ?_ ?_
                      · exact ej_var (pv 9)
                      · refine aj_consE ?_ ?_
                        · exact ej_var (pv 8)
                        · exact aj_nil
                  · exact ej_bl
                · exact bj_nil
    · refine bj_cons ?_ ?_
      · refine sj_name (i := 11) sc_nexts_of.nd rfl (by first | exact Or.inl rfl | exact Or.inr rfl) ?_
        refine ej_len (k := .e) (by rfl) T.b_len ?_
        refine ej_wk ?_
        exact ej_var (pv 0)
      · refine bj_one ?_
        refine sj_frz (i := 3) ?_
        refine sj_ret ?_
        refine ej_tuple1 (k := .f) (by rfl) T.b_tuple ?_
        refine ej_comp (own := [("beat", 10)]) (tgs := [10]) rfl sc_nexts_of.nd (blkOk_by (by rfl)) ?_ (by decide) ?_ ?_ ?_
        · refine ij_rng1 (ka := .e) ?_ (by rfl) T.b_range
          exact ej_var (pv 2)
        · refine fun _ _ _ _ _ => ?_
          exact gj_name (pg_name (i := 10) sc_nexts_of.nd rfl (by first | exact Or.inl rfl | exact Or.inr rfl))
        · refine fun _ _ _ _ _ => ?_
          exact tsj_nil
        · refine fun _ _ _ _ _ => ?_
          refine ej_fn D_nexts_at (hr.mono (by decide)) (by rfl) passL ?_
          refine aj_consE ?_ ?_
          · exact ej_var (pv 3)
          · refine aj_consE ?_ ?_
            · exact ej_var (pv 10)
            · refine aj_consE ?_ ?_
              · exact ej_var (pv 11)
              · exact aj_nil
abbrev s_steps_of : Stmt := topS 27
abbrev N_steps_of : List Str := ["nexts", "row", "u"]
theorem sc_steps_of : FnScope N_steps_of ["nexts"] (defScope s_steps_of) := ⟨rfl, rfl, rfl, by decide +kernel, rfl, by decide +kernel, by decide +kernel⟩
theorem d_steps_of {P : Program} {w : World} {K : PySem.W.Frag} {mg : Str → Option Value} {base : Heap} {C_Web : Addr} (T : Txt K mg C_Web)  {f : Addr} {cdv : Value} {A : Around} {outer : List Env} {s : Shared} {H : Hp} {E : XK}
    (hr : Room 0 (A.deeper (envOfC "steps_of" (defScope s_steps_of) s.heap.objs.size f cdv))) :
    BJ E (cxOf (L2.CX P w) P w K mg base N_steps_of "steps_of" (defScope s_steps_of) f cdv A outer s H E) (defBody s_steps_of) b_steps_of := by
  refine bj_one ?_
  refine sj_ret ?_
  refine ej_tuple1 (k := .f) (by rfl) T.b_tuple ?_
  refine ej_comp (own := [("row", 1)]) (tgs := [1]) rfl sc_steps_of.nd (blkOk_by (by rfl)) ?_ (by decide) ?_ ?_ ?_
  · refine ij_seq ?_
    exact ej_var (pv 0)
  · refine fun _ _ _ _ _ => ?_
    exact gj_name (pg_name (i := 1) sc_steps_of.nd rfl (by first | exact Or.inl rfl | exact Or.inr rfl))
  · refine fun _ _ _ _ _ => ?_
    exact tsj_nil
  · refine fun _ _ _ _ _ => ?_
    refine ej_tuple1 (k := .f) (by rfl) T.b_tuple ?_
    refine ej_comp (own := [("u", 2)]) (tgs := [2]) rfl sc_steps_of.nd (blkOk_by (by rfl)) ?_ (by decide) ?_ ?_ ?_
    · refine ij_rng1 (ka := .e) ?_ (by rfl) T.b_range
      refine ej_len (k := .e) (by rfl) T.b_len ?_
      exact ej_var (pv 1)
    · refine fun _ _ _ _ _ => ?_
      exact gj_name (pg_name (i := 2) sc_steps_of.nd rfl (by first | exact Or.inl rfl | exact Or.inr rfl))
    · refine fun _ _ _ _ _ => ?_
      exact tsj_nil
    · refine fun _ _ _ _ _ => ?_
      refine ej_tuple1 (k := .f) (by rfl) T.b_tuple ?_
      refine ej_sortI (k := .f) (by rfl) T.b_sorted ?_
      refine ej_lst ?_
      refine aj_consE ?_ ?_
      · exact ej_var (pv 2)
      · refine aj_star ?_ ?_
        · refine ej_ix (ka := .e) (kb := .e) ?_ ?_ (fun _ _ => rfl)
          · exact ej_var (pv 1)
          · exact ej_var (pv 2)
        · exact aj_nil
abbrev s_Web___init__ : Stmt := inClass (topS 22) 0
abbrev N_Web___init__ : List Str := ["self", "places", "ties", "beats"]
theorem sc_Web___init__ : FnScope N_Web___init__ ["self", "places", "ties", "beats"] (defScope s_Web___init__) := ⟨rfl, rfl, rfl, by decide +kernel, rfl, by decide +kernel, by decide +kernel⟩
theorem d_Web___init__ {P : Program} {w : World} {K : PySem.W.Frag} {mg : Str → Option Value} {base : Heap} {C_Web : Addr} (T : Txt K mg C_Web) (D_check_names : Def P w K mg base "check_names" 1 2 wf_check_names) (D_check_ties : Def P w K mg base "check_ties" 3 3 wf_check_ties) (D_nexts_of : Def P w K mg base "nexts_of" 3 2 wf_nexts_of) (D_steps_of : Def P w K mg base "steps_of" 1 1 wf_steps_of) {f : Addr} {cdv : Value} {A : Around} {outer : List Env} {s : Shared} {H : Hp} {E : XK}
    (hr : Room 3 (A.deeper (envOfC "Web.__init__" (defScope s_Web___init__) s.heap.objs.size f cdv))) :
    BJ E (cxOf (L2.CX P w) P w K mg base N_Web___init__ "Web.__init__" (defScope s_Web___init__) f cdv A outer s H E) (defBody s_Web___init__) (b_Web___init__ C_Web) := by
  refine bj_cons ?_ ?_
  · refine sj_expr (k := .e) ?_
    refine ej_fn D_check_names (hr.mono (by decide)) (by rfl) passM ?_
    refine aj_consE ?_ ?_
    · exact ej_var (pv 1)
    · exact aj_nil
  · refine bj_cons ?_ ?_
    · refine sj_if ?_ ?_ ?_
      · refine tj_not ?_
        refine tj_ch2 (ka := .e) (kb := .e) (kc := .e) brg_le brg_le op_le op_le ?_ ?_ ?_
        · exact ej_int
        · exact ej_var (pv 3)
        · exact ej_int
      · refine bj_one ?_
        exact sj_never
      · exact bj_nil
    · refine bj_cons ?_ ?_
      · refine sj_expr (k := .e) ?_
        refine ej_fn D_check_ties (hr.mono (by decide)) (by rfl) passM ?_
        refine aj_consE ?_ ?_
        · exact ej_var (pv 1)
        · refine aj_consE ?_ ?_
          · exact ej_var (pv 2)
          · refine aj_consE ?_ ?_
            · exact ej_var (pv 3)
            · exact aj_nil
      · refine bj_cons ?_ ?_
        · refine sj_fset (i := 0) T.c_Web T.n_Web_places (pv 0) ?_
          refine ej_tupleX2 (k := .e) (by rfl) T.b_tuple ?_
          exact ej_var (pv 1)
        · refine bj_cons ?_ ?_
          · refine sj_fset (i := 0) T.c_Web T.n_Web_beats (pv 0) ?_
            exact ej_var (pv 3)
          · refine bj_cons ?_ ?_
            · refine sj_fset (i := 0) T.c_Web T.n_Web__nexts (pv 0) ?_
              refine ej_fn D_nexts_of (hr.mono (by decide)) (by rfl) passM ?_
              refine aj_consE ?_ ?_
              · exact ej_seF T.c_Web T.n_Web_places (pv 0)
              · refine aj_consE ?_ ?_
                · exact ej_var (pv 2)
                · refine aj_consE ?_ ?_
                  · exact ej_var (pv 3)
                  · exact aj_nil
            · refine bj_one ?_
              refine sj_fset (i := 0) T.c_Web T.n_Web__steps (pv 0) ?_
              refine ej_fn D_steps_of (hr.mono (by decide)) (by rfl) passM ?_
              refine aj_consE ?_ ?_
              · exact ej_seF T.c_Web T.n_Web__nexts (pv 0)
              · exact aj_nil
abbrev s_law_bent_differs : Stmt := topS 45
abbrev N_law_bent_differs : List Str := ["thing", "names", "cycle", "table", "pool", "u", "v", "bent", "other"]
theorem sc_law_bent_differs : FnScope N_law_bent_differs ["thing", "names", "cycle", "table", "pool"] (defScope s_law_bent_differs) := ⟨rfl, rfl, rfl, by decide +kernel, rfl, by decide +kernel, by decide +kernel⟩
theorem d_law_bent_differs {P : Program} {w : World} {K : PySem.W.Frag} {mg : Str → Option Value} {base : Heap} {C_Web : Addr} (T : Txt K mg C_Web) (D_law_equal : Def P w K mg base "_law_equal" 3 15 (wf_law_equal C_Web)) (D_law_one_form : Def P w K mg base "_law_one_form" 3 16 wf_law_one_form) (D_law_rewritten : Def P w K mg base "_law_rewritten" 3 2 wf_law_rewritten) (D_law_toggled : Def P w K mg base "_law_toggled" 4 1 wf_law_toggled) (M_Web_ties : MDef P w K mg base C_Web "ties" 1 3 (wf_Web_ties C_Web)) (K_Web_2_beats : Ctor P w K mg base "Web" C_Web 2 ["beats"] 4 gD_K_Web_2_beats wi_Web) {f : Addr} {cdv : Value} {A : Around} {outer : List Env} {s : Shared} {H : Hp} {E : XK}
    (hr : Room 16 (A.deeper (envOfC "_law_bent_differs" (defScope s_law_bent_differs) s.heap.objs.size f cdv))) :
    BJ E (cxOf (L2.CX P w) P w K mg base N_law_bent_differs "_law_bent_differs" (defScope s_law_bent_differs) f cdv A outer s H E) (defBody s_law_bent_differs) (b_law_bent_differs C_Web) := by
  refine bj_cons ?_ ?_
  · refine sj_if ?_ ?_ ?_
    · refine tj_eq (ka := .e) (kb := .e) hr.units ?_ ?_
      · refine ej_len (k := .e) (by rfl) T.b_len ?_
        exact ej_var (pv 1)
      · exact ej_int
    · refine bj_one ?_
      refine sj_ret ?_
      exact ej_bl
    · exact bj_nil
  · refine bj_cons ?_ ?_
    · refine sj_name (i := 5) sc_law_bent_differs.nd rfl (by first | exact Or.inl rfl | exact Or.inr rfl) ?_
      refine ej_mod (ka := .e) (kb := .e) ?_ ?_
      · refine ej_int1 (k := .e) (by rfl) T.b_int ?_
        refine ej_ix (ka := .e) (kb := .e) ?_ ?_ (fun _ _ => rfl)
        · exact ej_var (pv 4)
        · exact ej_int
      · refine ej_len (k := .e) (by rfl) T.b_len ?_
        exact ej_var (pv 1)
    · refine bj_cons ?_ ?_
      · refine sj_name (i := 6) sc_law_bent_differs.nd rfl (by first | exact Or.inl rfl | exact Or.inr rfl) ?_
        refine ej_mod (ka := .e) (kb := .e) ?_ ?_
        · refine ej_int1 (k := .e) (by rfl) T.b_int ?_
          refine ej_plus (ka := .e) (kb := .e) ?_ ?_
          · refine ej_plus (ka := .e) (kb := .e) ?_ ?_
            · exact ej_var (pv 5)
            · exact ej_int
          · refine ej_mod (ka := .e) (kb := .e) ?_ ?_
            · refine ej_int1 (k := .e) (by rfl) T.b_int ?_
              refine ej_ix (ka := .e) (kb := .e) ?_ ?_ (fun _ _ => rfl)
              · exact ej_var (pv 4)
              · exact ej_int
            · refine ej_sub (ka := .e) (kb := .e) ?_ ?_
              · refine ej_len (k := .e) (by rfl) T.b_len ?_
                exact ej_var (pv 1)
              · exact ej_int
        · refine ej_len (k := .e) (by rfl) T.b_len ?_
          exact ej_var (pv 1)
      · refine bj_cons ?_ ?_
        · refine sj_name (i := 7) sc_law_bent_differs.nd rfl (by first | exact Or.inl rfl | exact Or.inr rfl) ?_
          refine ej_fn D_law_toggled (hr.mono (by decide)) (by rfl) passM ?_
          refine aj_consE ?_ ?_
          · exact ej_var (pv 3)
          · refine aj_consE ?_ ?_
            · refine ej_mod (ka := .e) (kb := .e) ?_ ?_
              · refine ej_int1 (k := .e) (by rfl) T.b_int ?_
                refine ej_ix (ka := .e) (kb := .e) ?_ ?_ (fun _ _ => rfl)
                · exact ej_var (pv 4)
                · exact ej_int
              · exact ej_var (pv 2)
            · refine aj_consE ?_ ?_
              · exact ej_var (pv 5)
              · refine aj_consE ?_ ?_
                · exact ej_var (pv 6)
                · exact aj_nil
        · refine bj_cons ?_ ?_
          · refine sj_name (i := 8) sc_law_bent_differs.nd rfl (by first | exact Or.inl rfl | exact Or.inr rfl) ?_
            refine ej_makeK K_Web_2_beats (hr.mono (by decide)) (by rfl) passM ?_ ?_
            · refine aj_consE ?_ ?_
              · refine ej_toE ?_
                refine ej_list1 (k := .e) (by rfl) T.b_list ?_
                exact ej_var (pv 1)
              · refine aj_consE ?_ ?_
                · refine ej_fn D_law_rewritten (hr.mono (by decide)) (by rfl) passM ?_
                  refine aj_consE ?_ ?_
                  · exact ej_var (pv 1)
                  · refine aj_consE ?_ ?_
                    · exact ej_var (pv 7)
                    · refine aj_consE ?_ ?_
                      · exact ej_var (pv 4)
                      · exact aj_nil
                · exact aj_nil
            · refine kj_cons ?_ ?_
              · exact ej_var (pv 2)
              · exact kj_nil
          · refine bj_one ?_
            refine sj_ret ?_
            refine ej_andV ?_ ?_
            · refine ej_fn D_law_equal (hr.mono (by decide)) (by rfl) passM ?_
              refine aj_consE ?_ ?_
              · exact ej_var (pv 0)
              · refine aj_consE ?_ ?_
                · exact ej_var (pv 8)
                · refine aj_consE ?_ ?_
                  · exact ej_bl
                  · exact aj_nil
            · refine ej_b1 ?_
              refine ej_fn D_law_one_form (hr.mono (by decide)) (by rfl) passM ?_
              refine aj_consE ?_ ?_
              · refine ej_meth0 M_Web_ties (hr.mono (by decide)) passM ?_
                exact ej_var (pv 8)
              · refine aj_consE ?_ ?_
                · exact ej_var (pv 1)
                · refine aj_consE ?_ ?_
                  · exact ej_var (pv 7)
                  · exact aj_nil
abbrev s_law_others_differ : Stmt := topS 46
abbrev N_law_others_differ : List Str := ["thing", "names", "ties", "cycle", "fresh", "swapped", "first", "second", "way", "when", "letter"]
theorem sc_law_others_differ : FnScope N_law_others_differ ["thing", "names", "ties", "cycle"] (defScope s_law_others_differ) := ⟨rfl, rfl, rfl, by decide +kernel, rfl, by decide +kernel, by decide +kernel⟩
theorem d_law_others_differ {P : Program} {w : World} {K : PySem.W.Frag} {mg : Str → Option Value} {base : Heap} {C_Web : Addr} (T : Txt K mg C_Web) (D_law_equal : Def P w K mg base "_law_equal" 3 15 (wf_law_equal C_Web)) (K_Web_2_beats : Ctor P w K mg base "Web" C_Web 2 ["beats"] 4 gD_K_Web_2_beats wi_Web) {f : Addr} {cdv : Value} {A : Around} {outer : List Env} {s : Shared} {H : Hp} {E : XK}
    (hr : Room 15 (A.deeper (envOfC "_law_others_differ" (defScope s_law_others_differ) s.heap.objs.size f cdv))) :
    BJ E (cxOf (L2.CX P w) P w K mg base N_law_others_differ "_law_others_differ" (defScope s_law_others_differ) f cdv A outer s H E) (defBody s_law_others_differ) (b_law_others_differ C_Web) := by
  refine bj_cons ?_ ?_
  · refine sj_if ?_ ?_ ?_
    · refine tj_tw ?_
      refine twj_and ?_ ?_
      · refine tj_gt (ka := .e) (kb := .e) ?_ ?_
        · refine ej_len (k := .e) (by rfl) T.b_len ?_
          exact ej_var (pv 1)
        · exact ej_int
      · refine twj_and1 ?_
        refine tj_not ?_
        refine tj_tru (k := .e) ?_
        refine ej_fn D_law_equal (hr.mono (by decide)) (by rfl) passM ?_
        refine aj_consE ?_ ?_
        · exact ej_var (pv 0)
        · refine aj_consE ?_ ?_
          · refine ej_makeK K_Web_2_beats (hr.mono (by decide)) (by rfl) passM ?_ ?_
            · refine aj_consE ?_ ?_
              · refine ej_plus (ka := .e) (kb := .e) ?_ ?_
                · refine ej_slice (ka := .e) ?_ ?_ ?_
                  · exact ej_var (pv 1)
                  · refine oj_some (k := .e) ?_
                    exact ej_int
                  · exact oj_none
                · refine ej_slice (ka := .e) ?_ ?_ ?_
                  · exact ej_var (pv 1)
                  · exact oj_none
                  · refine oj_some (k := .e) ?_
                    exact ej_int
              · refine aj_consE ?_ ?_
                · refine ej_toE ?_
                  refine ej_list1 (k := .e) (by rfl) T.b_list ?_
                  exact ej_var (pv 2)
                · exact aj_nil
            · refine kj_cons ?_ ?_
              · exact ej_var (pv 3)
              · exact kj_nil
          · refine aj_consE ?_ ?_
            · exact ej_bl
            · exact aj_nil
    · refine bj_one ?_
      refine sj_ret ?_
      exact ej_bl
    · exact bj_nil
  · refine bj_cons ?_ ?_
    · refine sj_if ?_ ?_ ?_
      · refine tj_tw ?_
        refine twj_and ?_ ?_
        · refine tj_lt (ka := .e) (kb := .e) ?_ ?_
          · exact ej_var (pv 3)
          · exact ej_int
        · refine twj_and1 ?_
          refine tj_not ?_
          refine tj_tru (k := .e) ?_
          refine ej_fn D_law_equal (hr.mono (by decide)) (by rfl) passM ?_
          refine aj_consE ?_ ?_
          · exact ej_var (pv 0)
          · refine aj_consE ?_ ?_
            · refine ej_makeK K_Web_2_beats (hr.mono (by decide)) (by rfl) passM ?_ ?_
              · refine aj_consE ?_ ?_
                · refine ej_toE ?_
                  refine ej_list1 (k := .e) (by rfl) T.b_list ?_
                  exact ej_var (pv 1)
                · refine aj_consE ?_ ?_
                  · refine ej_toE ?_
                    refine ej_list1 (k := .e) (by rfl) T.b_list ?_
                    exact ej_var (pv 2)
                  · exact aj_nil
              · refine kj_cons ?_ ?_
                · refine ej_plus (ka := .e) (kb := .e) ?_ ?_
                  · exact ej_var (pv 3)
                  · exact ej_int
                · exact kj_nil
            · refine aj_consE ?_ ?_
              · exact ej_bl
              · exact aj_nil
      · refine bj_one ?_
        refine sj_ret ?_
        exact ej_bl
      · exact bj_nil
    · refine bj_cons ?_ ?_
      · refine sj_name (i := 4) sc_law_others_differ.nd rfl (by first | exact Or.inl rfl | exact Or.inr rfl) ?_
        refine ej_ix (ka := .f) (kb := .e) ?_ ?_ (fun _ _ => rfl)
        · refine ej_comp (own := [("letter", 10)]) (tgs := [10]) rfl sc_law_others_differ.nd (blkOk_by (by rfl)) ?_ (by decide) ?_ ?_ ?_
          · refine ij_str (k := .e) ?_
            exact ej_str
          · refine fun _ _ _ _ _ => ?_
            exact gj_name (pg_name (i := 10) sc_law_others_differ.nd rfl (by first | exact Or.inl rfl | exact Or.inr rfl))
          · refine fun _ _ _ _ _ => ?_
            refine tsj_one ?_
            refine tj_nin (ka := .e) (kb := .e) (units65 hr) ?_ ?_
            · exact ej_var (pv 10)
            · exact ej_var (pv 1)
          · refine fun _ _ _ _ _ => ?_
            exact ej_var (pv 10)
        · exact ej_int
      · refine bj_cons ?_ ?_
        · refine sj_nameO (i := 5) sc_law_others_differ.nd rfl (by first | exact Or.inl rfl | exact Or.inr rfl) ?_
          refine ej_lst ?_
          exact aj_nil
        · refine bj_cons ?_ ?_
          · refine sj_for (tgs := [6, 7, 8, 9]) (passes_of rfl) rfl ?_ ?_ ?_
            · refine ij_seq ?_
              exact ej_var (pv 2)
            · refine gj_tup (n := 4) rfl ?_
              refine gsj_name ?_ ?_
              · exact gj_name (pg_name (i := 6) sc_law_others_differ.nd rfl (by first | exact Or.inl rfl | exact Or.inr rfl))
              · refine gsj_name ?_ ?_
                · exact gj_name (pg_name (i := 7) sc_law_others_differ.nd rfl (by first | exact Or.inl rfl | exact Or.inr rfl))
                · refine gsj_name ?_ ?_
                  · exact gj_name (pg_name (i := 8) sc_law_others_differ.nd rfl (by first | exact Or.inl rfl | exact Or.inr rfl))
                  · refine gsj_name ?_ ?_
                    · exact gj_name (pg_name (i := 9) sc_law_others_differ.nd rfl (by first | exact Or.inl rfl | exact Or.inr rfl))
                    · exact gsj_nil
            · refine bj_cons ?_ ?_
              · refine sj_if ?_ ?_ ?_
                · refine tj_eq (ka := .e) (kb := .e) hr.units ?_ ?_
                  · exact ej_var (pv 6)
                  · refine ej_ix (ka := .e) (kb := .e) ?_ ?_ (fun _ _ => rfl)
                    · exact ej_var (pv 1)
                    · exact ej_int
                · refine bj_one ?_
                  refine sj_name (i := 6) sc_law_others_differ.nd rfl (by first | exact Or.inl rfl | exact Or.inr rfl) ?_
                  exact ej_var (pv 4)
                · exact bj_nil
              · refine bj_cons ?_ ?_
                · refine sj_if ?_ ?_ ?_
                  · refine tj_eq (ka := .e) (kb := .e) hr.units ?_ ?_
                    · exact ej_var (pv 7)
                    · refine ej_ix (ka := .e) (kb := .e) ?_ ?_ (fun _ _ => rfl)
                      · exact ej_var (pv 1)
                      · exact ej_int
                  · refine bj_one ?_
                    refine sj_name (i := 7) sc_law_others_differ.nd rfl (by first | exact Or.inl rfl | exact Or.inr rfl) ?_
                    exact ej_var (pv 4)
                  · exact bj_nil
                · refine bj_one ?_
                  refine sj_append (pv 5) ?_
                  refine ej_tup ?_
                  refine aj_consE ?_ ?_
                  · exact ej_var (pv 6)
                  · refine aj_consE ?_ ?_
                    · exact ej_var (pv 7)
                    · refine aj_consE ?_ ?_
                      · exact ej_var (pv 8)
                      · refine aj_consE ?_ ?_
                        · exact ej_var (pv 9)
                        · exact aj_nil
          · refine bj_one ?_
            refine sj_ret ?_
            refine ej_fn D_law_equal (hr.mono (by decide)) (by rfl) passM ?_
            refine aj_consE ?_ ?_
            · exact ej_var (pv 0)
            · refine aj_consE ?_ ?_
              · refine ej_makeKS K_Web_2_beats (hr.mono (by decide)) (by rfl) passM ?_ ?_
                · refine aj_consO (k := .e) ?_ ?_
                  · refine ej_plus (ka := .f) (kb := .e) ?_ ?_
                    · refine ej_lst ?_
                      refine aj_consE ?_ ?_
                      · exact ej_var (pv 4)
                      · exact aj_nil
                    · refine ej_slice (ka := .e) ?_ ?_ ?_
                      · exact ej_var (pv 1)
                      · refine oj_some (k := .e) ?_
                        exact ej_int
                      · exact oj_none
                  · refine aj_consO (k := .o) ?_ ?_
                    · exact ej_peek (pv 5)
                    · exact aj_nil
                · refine kj_cons ?_ ?_
                  · exact ej_var (pv 3)
                  · exact kj_nil
              · refine aj_consE ?_ ?_
                · exact ej_bl
                · exact aj_nil
abbrev s_Web___len__ : Stmt := inClass (topS 22) 1
abbrev N_Web___len__ : List Str := ["self"]
theorem sc_Web___len__ : FnScope N_Web___len__ ["self"] (defScope s_Web___len__) := ⟨rfl, rfl, rfl, by decide +kernel, rfl, by decide +kernel, by decide +kernel⟩
theorem d_Web___len__ {P : Program} {w : World} {K : PySem.W.Frag} {mg : Str → Option Value} {base : Heap} {C_Web : Addr} (T : Txt K mg C_Web)  {f : Addr} {cdv : Value} {A : Around} {outer : List Env} {s : Shared} {H : Hp} {E : XK}
    (hr : Room 0 (A.deeper (envOfC "Web.__len__" (defScope s_Web___len__) s.heap.objs.size f cdv))) :
    BJ E (cxOf (L2.CX P w) P w K mg base N_Web___len__ "Web.__len__" (defScope s_Web___len__) f cdv A outer s H E) (defBody s_Web___len__) (b_Web___len__ C_Web) := by
  refine bj_one ?_
  refine sj_ret ?_
  refine ej_len (k := .e) (by rfl) T.b_len ?_
  refine ej_wk ?_
  refine ej_fld (k := .e) T.c_Web T.n_Web_places ?_
  exact ej_var (pv 0)
abbrev s_check_place : Stmt := topS 11
abbrev N_check_place : List Str := ["web", "place"]
theorem sc_check_place : FnScope N_check_place ["web", "place"] (defScope s_check_place) := ⟨rfl, rfl, rfl, by decide +kernel, rfl, by decide +kernel, by decide +kernel⟩
theorem d_check_place {P : Program} {w : World} {K : PySem.W.Frag} {mg : Str → Option Value} {base : Heap} {C_Web : Addr} (T : Txt K mg C_Web) (M_Web___len__ : MDef P w K mg base C_Web "__len__" 1 1 (wf_Web___len__ C_Web)) {f : Addr} {cdv : Value} {A : Around} {outer : List Env} {s : Shared} {H : Hp} {E : XK}
    (hr : Room 2 (A.deeper (envOfC "check_place" (defScope s_check_place) s.heap.objs.size f cdv))) :
    BJ E (cxOf (L2.CX P w) P w K mg base N_check_place "check_place" (defScope s_check_place) f cdv A outer s H E) (defBody s_check_place) (b_check_place C_Web) := by
  refine bj_one ?_
  refine sj_if ?_ ?_ ?_
  · refine tj_not ?_
    refine tj_ch2 (ka := .e) (kb := .e) (kc := .e) brg_le brg_lt op_le op_lt ?_ ?_ ?_
    · exact ej_int
    · exact ej_var (pv 1)
    · refine ej_lenO M_Web___len__ (hr.mono (by decide)) passM ?_ (by rfl) T.b_len
      exact ej_var (pv 0)
  · refine bj_one ?_
    exact sj_never
  · exact bj_nil
abbrev s_Web_steps : Stmt := inClass (topS 22) 12
abbrev N_Web_steps : List Str := ["self", "place", "beat"]
theorem sc_Web_steps : FnScope N_Web_steps ["self", "place", "beat"] (defScope s_Web_steps) := ⟨rfl, rfl, rfl, by decide +kernel, rfl, by decide +kernel, by decide +kernel⟩
theorem d_Web_steps {P : Program} {w : World} {K : PySem.W.Frag} {mg : Str → Option Value} {base : Heap} {C_Web : Addr} (T : Txt K mg C_Web) (D_check_place : Def P w K mg base "check_place" 2 3 (wf_check_place C_Web)) {f : Addr} {cdv : Value} {A : Around} {outer : List Env} {s : Shared} {H : Hp} {E : XK}
    (hr : Room 3 (A.deeper (envOfC "Web.steps" (defScope s_Web_steps) s.heap.objs.size f cdv))) :
    BJ E (cxOf (L2.CX P w) P w K mg base N_Web_steps "Web.steps" (defScope s_Web_steps) f cdv A outer s H E) (defBody s_Web_steps) (b_Web_steps C_Web) := by
  refine bj_cons ?_ ?_
  · refine sj_expr (k := .e) ?_
    refine ej_fn D_check_place (hr.mono (by decide)) (by rfl) passM ?_
    refine aj_consE ?_ ?_
    · exact ej_var (pv 0)
    · refine aj_consE ?_ ?_
      · exact ej_var (pv 1)
      · exact aj_nil
  · refine bj_one ?_
    refine sj_ret ?_
    refine ej_ix (ka := .e) (kb := .e) ?_ ?_ (fun _ _ => rfl)
    · refine ej_ix (ka := .e) (kb := .e) ?_ ?_ (fun _ _ => rfl)
      · refine ej_fld (k := .e) T.c_Web T.n_Web__steps ?_
        exact ej_var (pv 0)
      · refine ej_mod (ka := .e) (kb := .e) ?_ ?_
        · exact ej_var (pv 2)
        · refine ej_fld (k := .e) T.c_Web T.n_Web_beats ?_
          exact ej_var (pv 0)
    · exact ej_var (pv 1)
abbrev s_law_web_is : Stmt := topS 34
abbrev N_law_web_is : List Str := ["thing", "names", "cycle", "table", "beat", "place", "due"]
theorem sc_law_web_is : FnScope N_law_web_is ["thing", "names", "cycle", "table"] (defScope s_law_web_is) := ⟨rfl, rfl, rfl, by decide +kernel, rfl, by decide +kernel, by decide +kernel⟩
theorem d_law_web_is {P : Program} {w : World} {K : PySem.W.Frag} {mg : Str → Option Value} {base : Heap} {C_Web : Addr} (T : Txt K mg C_Web) (D_law_same : Def P w K mg base "_law_same" 2 14 wf_law_same) (M_Web_steps : MDef P w K mg base C_Web "steps" 3 4 (wf_Web_steps C_Web)) {f : Addr} {cdv : Value} {A : Around} {outer : List Env} {s : Shared} {H : Hp} {E : XK}
    (hr : Room 14 (A.deeper (envOfC "_law_web_is" (defScope s_law_web_is) s.heap.objs.size f cdv))) :
    BJ E (cxOf (L2.CX P w) P w K mg base N_law_web_is "_law_web_is" (defScope s_law_web_is) f cdv A outer s H E) (defBody s_law_web_is) (b_law_web_is C_Web) := by
  refine bj_cons ?_ ?_
  · refine sj_if ?_ ?_ ?_
    · refine tj_tw ?_
      refine twj_or ?_ ?_
      · refine tj_not ?_
        refine tj_tru (k := .e) ?_
        refine ej_fn D_law_same (hr.mono (by decide)) (by rfl) passM ?_
        refine aj_consE ?_ ?_
        · refine ej_wk ?_
          refine ej_fld (k := .e) T.c_Web T.n_Web_places ?_
          exact ej_var (pv 0)
        · refine aj_consE ?_ ?_
          · refine ej_tuple1 (k := .e) (by rfl) T.b_tuple ?_
            exact ej_var (pv 1)
          · exact aj_nil
      · refine twj_or1 ?_
        refine tj_not ?_
        refine tj_tru (k := .e) ?_
        refine ej_fn D_law_same (hr.mono (by decide)) (by rfl) passM ?_
        refine aj_consE ?_ ?_
        · refine ej_fld (k := .e) T.c_Web T.n_Web_beats ?_
          exact ej_var (pv 0)
        · refine aj_consE ?_ ?_
          · exact ej_var (pv 2)
          · exact aj_nil
    · refine bj_one ?_
      refine sj_ret ?_
      exact ej_bl
    · exact bj_nil
  · refine bj_cons ?_ ?_
    · refine sj_for (tgs := [4]) (passes_of rfl) rfl ?_ ?_ ?_
      · refine ij_rng1 (ka := .e) ?_ (by rfl) T.b_range
        exact ej_var (pv 2)
      · exact gj_name (pg_name (i := 4) sc_law_web_is.nd rfl (by first | exact Or.inl rfl | exact Or.inr rfl))
      · refine bj_one ?_
        refine sj_for (tgs := [5]) (passes_of rfl) rfl ?_ ?_ ?_
        · refine ij_rng1 (ka := .e) ?_ (by rfl) T.b_range
          refine ej_len (k := .e) (by rfl) T.b_len ?_
          exact ej_var (pv 1)
        · exact gj_name (pg_name (i := 5) sc_law_web_is.nd rfl (by first | exact Or.inl rfl | exact Or.inr rfl))
        · refine bj_cons ?_ ?_
          · refine sj_name (i := 6) sc_law_web_is.nd rfl (by first | exact Or.inl rfl | exact Or.inr rfl) ?_
            refine ej_tuple1 (k := .f) (by rfl) T.b_tuple ?_
            refine ej_sortI (k := .e) (by rfl) T.b_sorted ?_
            refine ej_plus (ka := .f) (kb := .e) ?_ ?_
            · refine ej_lst ?_
              refine aj_consE ?_ ?_
              · exact ej_var (pv 5)
              · exact aj_nil
            · refine ej_ix (ka := .e) (kb := .e) ?_ ?_ (fun _ _ => rfl)
              · refine ej_ix (ka := .e) (kb := .e) ?_ ?_ (fun _ _ => rfl)
                · exact ej_var (pv 3)
                · exact ej_var (pv 4)
              · exact ej_var (pv 5)
          · refine bj_one ?_
            refine sj_if ?_ ?_ ?_
            · refine tj_not ?_
              refine tj_tru (k := .e) ?_
              refine ej_fn D_law_same (hr.mono (by decide)) (by rfl) passM ?_
              refine aj_consE ?_ ?_
              · refine ej_meth M_Web_steps (hr.mono (by decide)) passM ?_ ?_
                · exact ej_var (pv 0)
                · refine aj_consE ?_ ?_
                  · exact ej_var (pv 5)
                  · refine aj_consE ?_ ?_
                    · exact ej_var (pv 4)
                    · exact aj_nil
              · refine aj_consE ?_ ?_
                · exact ej_var (pv 6)
                · exact aj_nil
            · refine bj_one ?_
              refine sj_ret ?_
              exact ej_bl
            · exact bj_nil
    · refine bj_one ?_
      refine sj_ret ?_
      exact ej_bl
abbrev s_law : Stmt := topS 47
abbrev N_law : List Str := ["script", "names", "ties", "cycle", "table", "passed", "thing", "told", "kept", "again", "other", "one"]
theorem sc_law : FnScope N_law ["script"] (defScope s_law) := ⟨rfl, rfl, rfl, by decide +kernel, rfl, by decide +kernel, by decide +kernel⟩
theorem d_law {P : Program} {w : World} {K : PySem.W.Frag} {mg : Str → Option Value} {base : Heap} {C_Web : Addr} (T : Txt K mg C_Web) (D_law_any_web : Def P w K mg base "_law_any_web" 5 3 wf_law_any_web) (D_law_bent_differs : Def P w K mg base "_law_bent_differs" 5 17 (wf_law_bent_differs C_Web)) (D_law_draws : Def P w K mg base "_law_draws" 3 1 wf_law_draws) (D_law_equal : Def P w K mg base "_law_equal" 3 15 (wf_law_equal C_Web)) (D_law_one_form : Def P w K mg base "_law_one_form" 3 16 wf_law_one_form) (D_law_others_differ : Def P w K mg base "_law_others_differ" 4 16 (wf_law_others_differ C_Web)) (D_law_rewritten : Def P w K mg base "_law_rewritten" 3 2 wf_law_rewritten) (D_law_same : Def P w K mg base "_law_same" 2 14 wf_law_same) (D_law_web_is : Def P w K mg base "_law_web_is" 4 15 (wf_law_web_is C_Web)) (M_Web_ties : MDef P w K mg base C_Web "ties" 1 3 (wf_Web_ties C_Web)) (K_Web_2_beats : Ctor P w K mg base "Web" C_Web 2 ["beats"] 4 gD_K_Web_2_beats wi_Web) {f : Addr} {cdv : Value} {A : Around} {outer : List Env} {s : Shared} {H : Hp} {E : XK}
    (hr : Room 17 (A.deeper (envOfC "law" (defScope s_law) s.heap.objs.size f cdv))) :
    BJ E (cxOf (L2.CX P w) P w K mg base N_law "law" (defScope s_law) f cdv A outer s H E) (defBody s_law) (b_law C_Web) := by
  refine bj_cons ?_ ?_
  · refine sj_tgt (tgs := [1, 2, 3, 4]) ?_ ?_
    · refine gj_lst (n := 4) rfl ?_
      refine gsj_name ?_ ?_
      · exact gj_name (pg_name (i := 1) sc_law.nd rfl (by first | exact Or.inl rfl | exact Or.inr rfl))
      · refine gsj_name ?_ ?_
        · exact gj_name (pg_name (i := 2) sc_law.nd rfl (by first | exact Or.inl rfl | exact Or.inr rfl))
        · refine gsj_name ?_ ?_
          · exact gj_name (pg_name (i := 3) sc_law.nd rfl (by first | exact Or.inl rfl | exact Or.inr rfl))
          · refine gsj_name ?_ ?_
            · exact gj_name (pg_name (i := 4) sc_law.nd rfl (by first | exact Or.inl rfl | exact Or.inr rfl))
            · exact gsj_nil
    · refine ej_fn D_law_any_web (hr.mono (by decide)) (by rfl) passM ?_
      refine aj_consE ?_ ?_
      · exact ej_var (pv 0)
      · refine aj_consE ?_ ?_
        · exact ej_int
        · refine aj_consE ?_ ?_
          · exact ej_int
          · refine aj_consE ?_ ?_
            · exact ej_int
            · refine aj_consE ?_ ?_
              · exact ej_int
              · exact aj_nil
  · refine bj_cons ?_ ?_
    · refine sj_nameO (i := 5) sc_law.nd rfl (by first | exact Or.inl rfl | exact Or.inr rfl) ?_
      refine ej_list1 (k := .e) (by rfl) T.b_list ?_
      exact ej_var (pv 2)
    · refine bj_cons ?_ ?_
      · refine sj_name (i := 6) sc_law.nd rfl (by first | exact Or.inl rfl | exact Or.inr rfl) ?_
        refine ej_makeKS K_Web_2_beats (hr.mono (by decide)) (by rfl) passM ?_ ?_
        · refine aj_consO (k := .f) ?_ ?_
          · refine ej_list1 (k := .e) (by rfl) T.b_list ?_
            exact ej_var (pv 1)
          · refine aj_consO (k := .o) ?_ ?_
            · exact ej_peek (pv 5)
            · exact aj_nil
        · refine kj_cons ?_ ?_
          · exact ej_var (pv 3)
          · exact kj_nil
      · refine bj_cons ?_ ?_
        · refine sj_nameO (i := 7) sc_law.nd rfl (by first | exact Or.inl rfl | exact Or.inr rfl) ?_
          refine ej_meth0F M_Web_ties (hr.mono (by decide)) passM ?_
          exact ej_var (pv 6)
        · refine bj_cons ?_ ?_
          · refine sj_if ?_ ?_ ?_
            · refine tj_tw ?_
              refine twj_or ?_ ?_
              · refine tj_ne (ka := .o) (kb := .e) hr.units ?_ ?_
                · exact ej_peek (pv 5)
                · exact ej_var (pv 2)
              · refine twj_or1 ?_
                refine tj_not ?_
                refine tj_tru (k := .e) ?_
                refine ej_fnS D_law_one_form (hr.mono (by decide)) (by rfl) passM ?_
                refine aj_consO (k := .o) ?_ ?_
                · exact ej_peek (pv 7)
                · refine aj_consO (k := .e) ?_ ?_
                  · exact ej_var (pv 1)
                  · refine aj_consO (k := .e) ?_ ?_
                    · exact ej_var (pv 4)
                    · exact aj_nil
            · refine bj_one ?_
              refine sj_ret ?_
              exact ej_bl
            · exact bj_nil
          · refine bj_cons ?_ ?_
            · exact sj_clrS (pv 5)
            · refine bj_cons ?_ ?_
              · refine sj_name (i := 8) sc_law.nd rfl (by first | exact Or.inl rfl | exact Or.inr rfl) ?_
                refine ej_tupleX2 (k := .o) (by rfl) T.b_tuple ?_
                exact ej_peek (pv 7)
              · refine bj_cons ?_ ?_
                · exact sj_revS (pv 7)
                · refine bj_cons ?_ ?_
                  · refine sj_append (pv 7) ?_
                    refine ej_tup ?_
                    refine aj_consE ?_ ?_
                    · refine ej_ix (ka := .e) (kb := .e) ?_ ?_ (fun _ _ => rfl)
                      · exact ej_var (pv 1)
                      · exact ej_int
                    · refine aj_consE ?_ ?_
                      · refine ej_ix (ka := .e) (kb := .e) ?_ ?_ (fun _ _ => rfl)
                        · exact ej_var (pv 1)
                        · exact ej_int
                      · refine aj_consE ?_ ?_
                        · exact ej_str
                        · refine aj_consE ?_ ?_
                          · refine ej_tup ?_
                            refine aj_consE ?_ ?_
                            · exact ej_int
                            · exact aj_nil
                          · exact aj_nil
                  · refine bj_cons ?_ ?_
                    · refine sj_if ?_ ?_ ?_
                      · refine tj_not ?_
                        refine tj_tru (k := .e) ?_
                        refine ej_fn D_law_same (hr.mono (by decide)) (by rfl) passM ?_
                        refine aj_consE ?_ ?_
                        · refine ej_meth0 M_Web_ties (hr.mono (by decide)) passM ?_
                          exact ej_var (pv 6)
                        · refine aj_consE ?_ ?_
                          · refine ej_toE ?_
                            refine ej_list1 (k := .e) (by rfl) T.b_list ?_
                            refine ej_wk ?_
                            exact ej_var (pv 8)
                          · exact aj_nil
                      · refine bj_one ?_
                        refine sj_ret ?_
                        exact ej_bl
                      · exact bj_nil
                    · refine bj_cons ?_ ?_
                      · refine sj_name (i := 9) sc_law.nd rfl (by first | exact Or.inl rfl | exact Or.inr rfl) ?_
                        refine ej_makeK K_Web_2_beats (hr.mono (by decide)) (by rfl) passM ?_ ?_
                        · refine aj_consE ?_ ?_
                          · refine ej_tupleX2 (k := .e) (by rfl) T.b_tuple ?_
                            exact ej_var (pv 1)
                          · refine aj_consE ?_ ?_
                            · exact ej_var (pv 8)
                            · exact aj_nil
                        · refine kj_cons ?_ ?_
                          · exact ej_var (pv 3)
                          · exact kj_nil
                      · refine bj_cons ?_ ?_
                        · refine sj_name (i := 10) sc_law.nd rfl (by first | exact Or.inl rfl | exact Or.inr rfl) ?_
                          refine ej_makeK K_Web_2_beats (hr.mono (by decide)) (by rfl) passM ?_ ?_
                          · refine aj_consE ?_ ?_
                            · refine ej_toE ?_
                              refine ej_list1 (k := .e) (by rfl) T.b_list ?_
                              exact ej_var (pv 1)
                            · refine aj_consE ?_ ?_
                              · refine ej_fn D_law_rewritten (hr.mono (by decide)) (by rfl) passM ?_
                                refine aj_consE ?_ ?_
                                · exact ej_var (pv 1)
                                · refine aj_consE ?_ ?_
                                  · exact ej_var (pv 4)
                                  · refine aj_consE ?_ ?_
                                    · refine ej_fn D_law_draws (hr.mono (by decide)) (by rfl) passM ?_
                                      refine aj_consE ?_ ?_
                                      · exact ej_var (pv 0)
                                      · refine aj_consE ?_ ?_
                                        · exact ej_int
                                        · refine aj_consE ?_ ?_
                                          · exact ej_int
                                          · exact aj_nil
                                    · exact aj_nil
                              · exact aj_nil
                          · refine kj_cons ?_ ?_
                            · exact ej_var (pv 3)
                            · exact kj_nil
                        · refine bj_cons ?_ ?_
                          · refine sj_for (tgs := [11]) (passes_of rfl) rfl ?_ ?_ ?_
                            · refine ij_seq ?_
                              refine ej_toE ?_
                              refine ej_lst ?_
                              refine aj_consE ?_ ?_
                              · exact ej_var (pv 9)
                              · refine aj_consE ?_ ?_
                                · exact ej_var (pv 10)
                                · exact aj_nil
                            · exact gj_name (pg_name (i := 11) sc_law.nd rfl (by first | exact Or.inl rfl | exact Or.inr rfl))
                            · refine bj_cons ?_ ?_
                              · refine sj_if ?_ ?_ ?_
                                · refine tj_tw ?_
                                  refine twj_or ?_ ?_
                                  · refine tj_not ?_
                                    refine tj_tru (k := .e) ?_
                                    refine ej_fn D_law_equal (hr.mono (by decide)) (by rfl) passM ?_
                                    refine aj_consE ?_ ?_
                                    · exact ej_var (pv 6)
                                    · refine aj_consE ?_ ?_
                                      · exact ej_var (pv 11)
                                      · refine aj_consE ?_ ?_
                                        · exact ej_bl
                                        · exact aj_nil
                                  · refine twj_or1 ?_
                                    refine tj_not ?_
                                    refine tj_tru (k := .e) ?_
                                    refine ej_fn D_law_web_is (hr.mono (by decide)) (by rfl) passM ?_
                                    refine aj_consE ?_ ?_
                                    · exact ej_var (pv 11)
                                    · refine aj_consE ?_ ?_
                                      · exact ej_var (pv 1)
                                      · refine aj_consE ?_ ?_
                                        · exact ej_var (pv 3)
                                        · refine aj_consE ?_ ?_
                                          · exact ej_var (pv 4)
                                          · exact aj_nil
                                · refine bj_one ?_
                                  refine sj_ret ?_
                                  exact ej_bl
                                · exact bj_nil
                              · refine bj_one ?_
                                refine sj_if ?_ ?_ ?_
                                · refine tj_not ?_
                                  refine tj_tru (k := .e) ?_
                                  refine ej_fn D_law_same (hr.mono (by decide)) (by rfl) passM ?_
                                  refine aj_consE ?_ ?_
                                  · refine ej_meth0 M_Web_ties (hr.mono (by decide)) passM ?_
                                    exact ej_var (pv 11)
                                  · refine aj_consE ?_ ?_
                                    · refine ej_toE ?_
                                      refine ej_list1 (k := .e) (by rfl) T.b_list ?_
                                      refine ej_wk ?_
                                      exact ej_var (pv 8)
                                    · exact aj_nil
                                · refine bj_one ?_
                                  refine sj_ret ?_
                                  exact ej_bl
                                · exact bj_nil
                          · refine bj_cons ?_ ?_
                            · refine sj_if ?_ ?_ ?_
                              · refine tj_not ?_
                                refine tj_tru (k := .e) ?_
                                refine ej_fn D_law_bent_differs (hr.mono (by decide)) (by rfl) passM ?_
                                refine aj_consE ?_ ?_
                                · exact ej_var (pv 6)
                                · refine aj_consE ?_ ?_
                                  · exact ej_var (pv 1)
                                  · refine aj_consE ?_ ?_
                                    · exact ej_var (pv 3)
                                    · refine aj_consE ?_ ?_
                                      · exact ej_var (pv 4)
                                      · refine aj_consE ?_ ?_
                                        · refine ej_fn D_law_draws (hr.mono (by decide)) (by rfl) passM ?_
                                          refine aj_consE ?_ ?_
                                          · exact ej_var (pv 0)
                                          · refine aj_consE ?_ ?_
                                            · exact ej_int
                                            · refine aj_consE ?_ ?_
                                              · exact ej_int
                                              · exact aj_nil
                                        · exact aj_nil
                              · refine bj_one ?_
                                refine sj_ret ?_
                                exact ej_bl
                              · exact bj_nil
                            · refine bj_one ?_
                              refine sj_ret ?_
                              refine ej_andV ?_ ?_
                              · refine ej_fn D_law_others_differ (hr.mono (by decide)) (by rfl) passM ?_
                                refine aj_consE ?_ ?_
                                · exact ej_var (pv 6)
                                · refine aj_consE ?_ ?_
                                  · exact ej_var (pv 1)
                                  · refine aj_consE ?_ ?_
                                    · exact ej_var (pv 2)
                                    · refine aj_consE ?_ ?_
                                      · exact ej_var (pv 3)
                                      · exact aj_nil
                              · refine ej_b1 ?_
                                refine ej_fn D_law_web_is (hr.mono (by decide)) (by rfl) passM ?_
                                refine aj_consE ?_ ?_
                                · exact ej_var (pv 6)
                                · refine aj_consE ?_ ?_
                                  · exact ej_var (pv 1)
                                  · refine aj_consE ?_ ?_
                                    · exact ej_var (pv 3)
                                    · refine aj_consE ?_ ?_
                                      · exact ej_var (pv 4)
                                      · exact aj_nil
end Tw.k01

namespace Tw.k01
open PySem PySem.Spec L2 PyProof.Rows Tw Tw.S
structure Facts (K : PySem.W.Frag) (mg : Str → Option Value) (C_Web : Addr) : Prop where
  T : Txt K mg C_Web
  a_law_draws : At K mg "_law_draws" s_law_draws ["script", "k", "count"]
  a_law_names : At K mg "_law_names" s_law_names ["pool", "at", "count"]
  a_law_any_names : At K mg "_law_any_names" s_law_any_names ["script", "k", "count"]
  a_law_codes : At K mg "_law_codes" s_law_codes ["pool", "at", "count", "cycle", "kind", "thin"]
  a_law_pair_ties : At K mg "_law_pair_ties" s_law_pair_ties ["first", "second", "codes", "style"]
  a_law_any_ties : At K mg "_law_any_ties" s_law_any_ties ["pool", "names", "cycle"]
  a_law_table : At K mg "_law_table" s_law_table ["names", "ties", "cycle"]
  a_law_any_web : At K mg "_law_any_web" s_law_any_web ["script", "k", "namer", "greatest", "longest"]
  a_law_is_int : At K mg "_law_is_int" s_law_is_int ["x"]
  a_law_same : At K mg "_law_same" s_law_same ["got", "due"]
  a_Web___eq__ : AtM K C_Web "__eq__" "Web.__eq__" s_Web___eq__ ["self", "other"]
  a_law_equal : At K mg "_law_equal" s_law_equal ["one", "two", "due"]
  a_law_tie_key : At K mg "_law_tie_key" s_law_tie_key ["tie", "names", "table", "last"]
  a_law_one_form : At K mg "_law_one_form" s_law_one_form ["told", "names", "table"]
  a_law_rewritten : At K mg "_law_rewritten" s_law_rewritten ["names", "table", "pool"]
  a_law_toggled : At K mg "_law_toggled" s_law_toggled ["table", "beat", "u", "v"]
  a_ties_between : At K mg "ties_between" s_ties_between ["places", "nexts", "u", "v"]
  a_ties_of : At K mg "ties_of" s_ties_of ["places", "nexts"]
  a_Web_ties : AtM K C_Web "ties" "Web.ties" s_Web_ties ["self"]
  a_is_name : At K mg "is_name" s_is_name ["text"]
  a_check_names : At K mg "check_names" s_check_names ["places"]
  a_is_set : At K mg "is_set" s_is_set ["places", "count"]
  a_is_tie : At K mg "is_tie" s_is_tie ["places", "tie", "beats"]
  a_check_ties : At K mg "check_ties" s_check_ties ["places", "ties", "beats"]
  a_nexts_at : At K mg "nexts_at" s_nexts_at ["given", "beat", "count"]
  a_nexts_of : At K mg "nexts_of" s_nexts_of ["places", "ties", "beats"]
  a_steps_of : At K mg "steps_of" s_steps_of ["nexts"]
  a_law_bent_differs : At K mg "_law_bent_differs" s_law_bent_differs ["thing", "names", "cycle", "table", "pool"]
  a_law_others_differ : At K mg "_law_others_differ" s_law_others_differ ["thing", "names", "ties", "cycle"]
  a_Web___len__ : AtM K C_Web "__len__" "Web.__len__" s_Web___len__ ["self"]
  a_check_place : At K mg "check_place" s_check_place ["web", "place"]
  a_Web_steps : AtM K C_Web "steps" "Web.steps" s_Web_steps ["self", "place", "beat"]
  a_law_web_is : At K mg "_law_web_is" s_law_web_is ["thing", "names", "cycle", "table"]
  a_law : At K mg "law" s_law ["script"]
  a_K_Web_2_beats : AtI K mg "Web" C_Web "Web.__init__" s_Web___init__ ["self", "places", "ties", "beats"] 2 ["beats"] gD_K_Web_2_beats
theorem D_law_draws {P : Program} {w : World} {K : PySem.W.Frag} {mg : Str → Option Value} {base : Heap} {C_Web : Addr} (F : Facts K mg C_Web) : Def P w K mg base "_law_draws" 3 1 wf_law_draws :=
  def_ok F.a_law_draws sc_law_draws mo_wf_law_draws hn_wf_law_draws (fun f cdv A outer s H E hr => d_law_draws F.T  hr) (fun xc ds Q h => p_law_draws  xc ds Q h)
theorem D_law_names {P : Program} {w : World} {K : PySem.W.Frag} {mg : Str → Option Value} {base : Heap} {C_Web : Addr} (F : Facts K mg C_Web) : Def P w K mg base "_law_names" 3 1 wf_law_names :=
  def_ok F.a_law_names sc_law_names mo_wf_law_names hn_wf_law_names (fun f cdv A outer s H E hr => d_law_names F.T  hr) (fun xc ds Q h => p_law_names  xc ds Q h)
theorem D_law_any_names {P : Program} {w : World} {K : PySem.W.Frag} {mg : Str → Option Value} {base : Heap} {C_Web : Addr} (F : Facts K mg C_Web) : Def P w K mg base "_law_any_names" 3 2 wf_law_any_names :=
  def_ok F.a_law_any_names sc_law_any_names mo_wf_law_any_names hn_wf_law_any_names (fun f cdv A outer s H E hr => d_law_any_names F.T (D_law_draws F) (D_law_names F) hr) (fun xc ds Q h => p_law_any_names  xc ds Q h)
theorem D_law_codes {P : Program} {w : World} {K : PySem.W.Frag} {mg : Str → Option Value} {base : Heap} {C_Web : Addr} (F : Facts K mg C_Web) : Def P w K mg base "_law_codes" 6 1 wf_law_codes :=
  def_ok F.a_law_codes sc_law_codes mo_wf_law_codes hn_wf_law_codes (fun f cdv A outer s H E hr => d_law_codes F.T  hr) (fun xc ds Q h => p_law_codes  xc ds Q h)
theorem D_law_pair_ties {P : Program} {w : World} {K : PySem.W.Frag} {mg : Str → Option Value} {base : Heap} {C_Web : Addr} (F : Facts K mg C_Web) : Def P w K mg base "_law_pair_ties" 4 1 wf_law_pair_ties :=
  def_ok F.a_law_pair_ties sc_law_pair_ties mo_wf_law_pair_ties hn_wf_law_pair_ties (fun f cdv A outer s H E hr => d_law_pair_ties F.T  hr) (fun xc ds Q h => p_law_pair_ties  xc ds Q h)
theorem D_law_any_ties {P : Program} {w : World} {K : PySem.W.Frag} {mg : Str → Option Value} {base : Heap} {C_Web : Addr} (F : Facts K mg C_Web) : Def P w K mg base "_law_any_ties" 3 2 wf_law_any_ties :=
  def_ok F.a_law_any_ties sc_law_any_ties mo_wf_law_any_ties hn_wf_law_any_ties (fun f cdv A outer s H E hr => d_law_any_ties F.T (D_law_codes F) (D_law_pair_ties F) hr) (fun xc ds Q h => p_law_any_ties  xc ds Q h)
theorem D_law_table {P : Program} {w : World} {K : PySem.W.Frag} {mg : Str → Option Value} {base : Heap} {C_Web : Addr} (F : Facts K mg C_Web) : Def P w K mg base "_law_table" 3 1 wf_law_table :=
  def_ok F.a_law_table sc_law_table mo_wf_law_table hn_wf_law_table (fun f cdv A outer s H E hr => d_law_table F.T  hr) (fun xc ds Q h => p_law_table  xc ds Q h)
theorem D_law_any_web {P : Program} {w : World} {K : PySem.W.Frag} {mg : Str → Option Value} {base : Heap} {C_Web : Addr} (F : Facts K mg C_Web) : Def P w K mg base "_law_any_web" 5 3 wf_law_any_web :=
  def_ok F.a_law_any_web sc_law_any_web mo_wf_law_any_web hn_wf_law_any_web (fun f cdv A outer s H E hr => d_law_any_web F.T (D_law_any_names F) (D_law_any_ties F) (D_law_draws F) (D_law_table F) hr) (fun xc ds Q h => p_law_any_web  xc ds Q h)
theorem D_law_is_int {P : Program} {w : World} {K : PySem.W.Frag} {mg : Str → Option Value} {base : Heap} {C_Web : Addr} (F : Facts K mg C_Web) : Def P w K mg base "_law_is_int" 1 1 wf_law_is_int :=
  def_ok F.a_law_is_int sc_law_is_int mo_wf_law_is_int hn_wf_law_is_int (fun f cdv A outer s H E hr => d_law_is_int F.T  hr) (fun xc ds Q h => p_law_is_int  xc ds Q h)
def wfNo : Wf := fun _ _ _ => False
theorem mo_same (n : Nat) : MoF (wfSame n) := mo_wfSame
theorem hn_same (n : Nat) : ∀ ds xc Q, wfSame n xc ds Q → ds.length = 2 := hn_wfSame
theorem D_law_same_no {P : Program} {w : World} {K : PySem.W.Frag} {mg : Str → Option Value} {base : Heap} {C_Web : Addr} (F : Facts K mg C_Web) : Def P w K mg base "_law_same" 2 2 wfNo :=
  def_ok (k := 1) F.a_law_same sc_law_same (fun _ _ _ _ _ h => h.elim) (fun _ _ _ h => h.elim) (fun f cdv A outer s H E hr => bj_never) (fun xc ds Q h => h.elim)
theorem D_law_same_n {P : Program} {w : World} {K : PySem.W.Frag} {mg : Str → Option Value} {base : Heap} {C_Web : Addr} (F : Facts K mg C_Web) (n : Nat) : Def P w K mg base "_law_same" 2 (4 + 2 * n) (wfSame n) := by
  induction n with
  | zero => exact def_ok (k := 2 + 1) F.a_law_same sc_law_same (mo_same 0) (hn_same 0) (fun f cdv A outer s H E hr => d_law_same F.T (D_law_is_int F) (D_law_same_no F) hr) (fun xc ds Q h => p_law_same0 wfNo xc ds Q h)
  | succ n ih => exact def_ok (k := 4 + 2 * n + 1) F.a_law_same sc_law_same (mo_same (n + 1)) (hn_same (n + 1)) (fun f cdv A outer s H E hr => d_law_same F.T (D_law_is_int F) ih hr) (fun xc ds Q h => p_law_same n xc ds Q h)
theorem D_law_same {P : Program} {w : World} {K : PySem.W.Frag} {mg : Str → Option Value} {base : Heap} {C_Web : Addr} (F : Facts K mg C_Web) : Def P w K mg base "_law_same" 2 14 wf_law_same := D_law_same_n F 5
theorem M_Web___eq__ {P : Program} {w : World} {K : PySem.W.Frag} {mg : Str → Option Value} {base : Heap} {C_Web : Addr} (F : Facts K mg C_Web) : MDef P w K mg base C_Web "__eq__" 2 1 (wf_Web___eq__ C_Web) :=
  mdef_ok F.a_Web___eq__ F.T.c_Web sc_Web___eq__ mo_wf_Web___eq__ hn_wf_Web___eq__ (fun f cdv A outer s H E hr => d_Web___eq__ F.T  hr) (fun xc ds Q h => p_Web_eq C_Web xc ds Q h)
theorem D_law_equal {P : Program} {w : World} {K : PySem.W.Frag} {mg : Str → Option Value} {base : Heap} {C_Web : Addr} (F : Facts K mg C_Web) : Def P w K mg base "_law_equal" 3 15 (wf_law_equal C_Web) :=
  def_ok F.a_law_equal sc_law_equal mo_wf_law_equal hn_wf_law_equal (fun f cdv A outer s H E hr => d_law_equal F.T (D_law_same F) (M_Web___eq__ F) hr) (fun xc ds Q h => p_law_equal C_Web xc ds Q h)
theorem D_law_tie_key {P : Program} {w : World} {K : PySem.W.Frag} {mg : Str → Option Value} {base : Heap} {C_Web : Addr} (F : Facts K mg C_Web) : Def P w K mg base "_law_tie_key" 4 15 wf_law_tie_key :=
  def_ok F.a_law_tie_key sc_law_tie_key mo_wf_law_tie_key hn_wf_law_tie_key (fun f cdv A outer s H E hr => d_law_tie_key F.T (D_law_is_int F) (D_law_same F) hr) (fun xc ds Q h => p_law_tie_key  xc ds Q h)
theorem D_law_one_form {P : Program} {w : World} {K : PySem.W.Frag} {mg : Str → Option Value} {base : Heap} {C_Web : Addr} (F : Facts K mg C_Web) : Def P w K mg base "_law_one_form" 3 16 wf_law_one_form :=
  def_ok F.a_law_one_form sc_law_one_form mo_wf_law_one_form hn_wf_law_one_form (fun f cdv A outer s H E hr => d_law_one_form F.T (D_law_tie_key F) hr) (fun xc ds Q h => p_law_one_form  xc ds Q h)
theorem D_law_rewritten {P : Program} {w : World} {K : PySem.W.Frag} {mg : Str → Option Value} {base : Heap} {C_Web : Addr} (F : Facts K mg C_Web) : Def P w K mg base "_law_rewritten" 3 2 wf_law_rewritten :=
  def_ok F.a_law_rewritten sc_law_rewritten mo_wf_law_rewritten hn_wf_law_rewritten (fun f cdv A outer s H E hr => d_law_rewritten F.T (D_law_pair_ties F) hr) (fun xc ds Q h => p_law_rewritten  xc ds Q h)
theorem D_law_toggled {P : Program} {w : World} {K : PySem.W.Frag} {mg : Str → Option Value} {base : Heap} {C_Web : Addr} (F : Facts K mg C_Web) : Def P w K mg base "_law_toggled" 4 1 wf_law_toggled :=
  def_ok F.a_law_toggled sc_law_toggled mo_wf_law_toggled hn_wf_law_toggled (fun f cdv A outer s H E hr => d_law_toggled F.T  hr) (fun xc ds Q h => p_law_toggled  xc ds Q h)
theorem D_ties_between {P : Program} {w : World} {K : PySem.W.Frag} {mg : Str → Option Value} {base : Heap} {C_Web : Addr} (F : Facts K mg C_Web) : Def P w K mg base "ties_between" 4 1 wf_ties_between :=
  def_ok F.a_ties_between sc_ties_between mo_wf_ties_between hn_wf_ties_between (fun f cdv A outer s H E hr => d_ties_between F.T  hr) (fun xc ds Q h => p_ties_between  xc ds Q h)
theorem D_ties_of {P : Program} {w : World} {K : PySem.W.Frag} {mg : Str → Option Value} {base : Heap} {C_Web : Addr} (F : Facts K mg C_Web) : Def P w K mg base "ties_of" 2 2 wf_ties_of :=
  def_ok F.a_ties_of sc_ties_of mo_wf_ties_of hn_wf_ties_of (fun f cdv A outer s H E hr => d_ties_of F.T (D_ties_between F) hr) (fun xc ds Q h => p_ties_of  xc ds Q h)
theorem M_Web_ties {P : Program} {w : World} {K : PySem.W.Frag} {mg : Str → Option Value} {base : Heap} {C_Web : Addr} (F : Facts K mg C_Web) : MDef P w K mg base C_Web "ties" 1 3 (wf_Web_ties C_Web) :=
  mdef_ok F.a_Web_ties F.T.c_Web sc_Web_ties mo_wf_Web_ties hn_wf_Web_ties (fun f cdv A outer s H E hr => d_Web_ties F.T (D_ties_of F) hr) (fun xc ds Q h => p_Web_ties C_Web xc ds Q h)
theorem D_is_name {P : Program} {w : World} {K : PySem.W.Frag} {mg : Str → Option Value} {base : Heap} {C_Web : Addr} (F : Facts K mg C_Web) : Def P w K mg base "is_name" 1 1 wf_is_name :=
  def_ok F.a_is_name sc_is_name mo_wf_is_name hn_wf_is_name (fun f cdv A outer s H E hr => d_is_name F.T  hr) (fun xc ds Q h => p_is_name  xc ds Q h)
theorem D_check_names {P : Program} {w : World} {K : PySem.W.Frag} {mg : Str → Option Value} {base : Heap} {C_Web : Addr} (F : Facts K mg C_Web) : Def P w K mg base "check_names" 1 2 wf_check_names :=
  def_ok F.a_check_names sc_check_names mo_wf_check_names hn_wf_check_names (fun f cdv A outer s H E hr => d_check_names F.T (D_is_name F) hr) (fun xc ds Q h => p_check_names  xc ds Q h)
theorem D_is_set {P : Program} {w : World} {K : PySem.W.Frag} {mg : Str → Option Value} {base : Heap} {C_Web : Addr} (F : Facts K mg C_Web) : Def P w K mg base "is_set" 2 1 wf_is_set :=
  def_ok F.a_is_set sc_is_set mo_wf_is_set hn_wf_is_set (fun f cdv A outer s H E hr => d_is_set F.T  hr) (fun xc ds Q h => p_is_set  xc ds Q h)
theorem D_is_tie {P : Program} {w : World} {K : PySem.W.Frag} {mg : Str → Option Value} {base : Heap} {C_Web : Addr} (F : Facts K mg C_Web) : Def P w K mg base "is_tie" 3 2 wf_is_tie :=
  def_ok F.a_is_tie sc_is_tie mo_wf_is_tie hn_wf_is_tie (fun f cdv A outer s H E hr => d_is_tie F.T (D_is_set F) hr) (fun xc ds Q h => p_is_tie  xc ds Q h)
theorem D_check_ties {P : Program} {w : World} {K : PySem.W.Frag} {mg : Str → Option Value} {base : Heap} {C_Web : Addr} (F : Facts K mg C_Web) : Def P w K mg base "check_ties" 3 3 wf_check_ties :=
  def_ok F.a_check_ties sc_check_ties mo_wf_check_ties hn_wf_check_ties (fun f cdv A outer s H E hr => d_check_ties F.T (D_is_tie F) hr) (fun xc ds Q h => p_check_ties  xc ds Q h)
theorem D_nexts_at {P : Program} {w : World} {K : PySem.W.Frag} {mg : Str → Option Value} {base : Heap} {C_Web : Addr} (F : Facts K mg C_Web) : Def P w K mg base "nexts_at" 3 1 wf_nexts_at :=
  def_ok F.a_nexts_at sc_nexts_at mo_wf_nexts_at hn_wf_nexts_at (fun f cdv A outer s H E hr => d_nexts_at F.T  hr) (fun xc ds Q h => p_nexts_at  xc ds Q h)
theorem D_nexts_of {P : Program} {w : World} {K : PySem.W.Frag} {mg : Str → Option Value} {base : Heap} {C_Web : Addr} (F : Facts K mg C_Web) : Def P w K mg base "nexts_of" 3 2 wf_nexts_of :=
  def_ok F.a_nexts_of sc_nexts_of mo_wf_nexts_of hn_wf_nexts_of (fun f cdv A outer s H E hr => d_nexts_of F.T (D_nexts_at F) hr) (fun xc ds Q h => p_nexts_of  xc ds Q h)
theorem D_steps_of {P : Program} {w : World} {K : PySem.W.Frag} {mg : Str → Option Value} {base : Heap} {C_Web : Addr} (F : Facts K mg C_Web) : Def P w K mg base "steps_of" 1 1 wf_steps_of :=
  def_ok F.a_steps_of sc_steps_of mo_wf_steps_of hn_wf_steps_of (fun f cdv A outer s H E hr => d_steps_of F.T  hr) (fun xc ds Q h => p_steps_of  xc ds Q h)
theorem K_Web_2_beats {P : Program} {w : World} {K : PySem.W.Frag} {mg : Str → Option Value} {base : Heap} {C_Web : Addr} (F : Facts K mg C_Web) : Ctor P w K mg base "Web" C_Web 2 ["beats"] 4 gD_K_Web_2_beats wi_Web :=
  ctor_ok (m := 3) F.a_K_Web_2_beats rfl sc_Web___init__ mo_wi_Web hn_wi_Web (fun f cdv A outer s H E hr => d_Web___init__ F.T (D_check_names F) (D_check_ties F) (D_nexts_of F) (D_steps_of F) hr) (fun xc ds Q p h => p_Web_init C_Web xc ds Q p h)
theorem D_law_bent_differs {P : Program} {w : World} {K : PySem.W.Frag} {mg : Str → Option Value} {base : Heap} {C_Web : Addr} (F : Facts K mg C_Web) : Def P w K mg base "_law_bent_differs" 5 17 (wf_law_bent_differs C_Web) :=
  def_ok F.a_law_bent_differs sc_law_bent_differs mo_wf_law_bent_differs hn_wf_law_bent_differs (fun f cdv A outer s H E hr => d_law_bent_differs F.T (D_law_equal F) (D_law_one_form F) (D_law_rewritten F) (D_law_toggled F) (M_Web_ties F) (K_Web_2_beats F) hr) (fun xc ds Q h => p_law_bent_differs C_Web xc ds Q h)
theorem D_law_others_differ {P : Program} {w : World} {K : PySem.W.Frag} {mg : Str → Option Value} {base : Heap} {C_Web : Addr} (F : Facts K mg C_Web) : Def P w K mg base "_law_others_differ" 4 16 (wf_law_others_differ C_Web) :=
  def_ok F.a_law_others_differ sc_law_others_differ mo_wf_law_others_differ hn_wf_law_others_differ (fun f cdv A outer s H E hr => d_law_others_differ F.T (D_law_equal F) (K_Web_2_beats F) hr) (fun xc ds Q h => p_law_others_differ C_Web xc ds Q h)
theorem M_Web___len__ {P : Program} {w : World} {K : PySem.W.Frag} {mg : Str → Option Value} {base : Heap} {C_Web : Addr} (F : Facts K mg C_Web) : MDef P w K mg base C_Web "__len__" 1 1 (wf_Web___len__ C_Web) :=
  mdef_ok F.a_Web___len__ F.T.c_Web sc_Web___len__ mo_wf_Web___len__ hn_wf_Web___len__ (fun f cdv A outer s H E hr => d_Web___len__ F.T  hr) (fun xc ds Q h => p_len C_Web xc ds Q h)
theorem D_check_place {P : Program} {w : World} {K : PySem.W.Frag} {mg : Str → Option Value} {base : Heap} {C_Web : Addr} (F : Facts K mg C_Web) : Def P w K mg base "check_place" 2 3 (wf_check_place C_Web) :=
  def_ok F.a_check_place sc_check_place mo_wf_check_place hn_wf_check_place (fun f cdv A outer s H E hr => d_check_place F.T (M_Web___len__ F) hr) (fun xc ds Q h => p_check_place C_Web xc ds Q h)
theorem M_Web_steps {P : Program} {w : World} {K : PySem.W.Frag} {mg : Str → Option Value} {base : Heap} {C_Web : Addr} (F : Facts K mg C_Web) : MDef P w K mg base C_Web "steps" 3 4 (wf_Web_steps C_Web) :=
  mdef_ok F.a_Web_steps F.T.c_Web sc_Web_steps mo_wf_Web_steps hn_wf_Web_steps (fun f cdv A outer s H E hr => d_Web_steps F.T (D_check_place F) hr) (fun xc ds Q h => p_steps C_Web xc ds Q h)
theorem D_law_web_is {P : Program} {w : World} {K : PySem.W.Frag} {mg : Str → Option Value} {base : Heap} {C_Web : Addr} (F : Facts K mg C_Web) : Def P w K mg base "_law_web_is" 4 15 (wf_law_web_is C_Web) :=
  def_ok F.a_law_web_is sc_law_web_is mo_wf_law_web_is hn_wf_law_web_is (fun f cdv A outer s H E hr => d_law_web_is F.T (D_law_same F) (M_Web_steps F) hr) (fun xc ds Q h => p_law_web_is C_Web xc ds Q h)
theorem D_law {P : Program} {w : World} {K : PySem.W.Frag} {mg : Str → Option Value} {base : Heap} {C_Web : Addr} (F : Facts K mg C_Web) : Def P w K mg base "law" 1 18 (wf_law ) :=
  def_ok F.a_law sc_law mo_wf_law hn_wf_law (fun f cdv A outer s H E hr => d_law F.T (D_law_any_web F) (D_law_bent_differs F) (D_law_draws F) (D_law_equal F) (D_law_one_form F) (D_law_others_differ F) (D_law_rewritten F) (D_law_same F) (D_law_web_is F) (M_Web_ties F) (K_Web_2_beats F) hr) (fun xc ds Q h => p_law C_Web xc ds Q h)
end Tw.k01

namespace Tw.k01
open PySem PySem.Spec L2 PyProof.Rows Tw Tw.S
theorem vals_app {as bs : List V} {us ws : List Value} (h : Vals as us) (k : Vals bs ws) : Vals (as ++ bs) (us ++ ws) := h.append k
section
variable {K : PySem.W.Frag} {f : Addr} {fd : FuncData}
theorem kb_web (F : FunD K "__init__" "Web.__init__" (defArgs s_Web___init__) (defBody s_Web___init__) (defScope s_Web___init__) [] [("beats", .int 1)] f fd) :
    ∃ g gV, KBn K fd ["self", "places", "ties", "beats"] 3 ["beats"] g gV ∧ ∀ vs zs, gV vs zs = vs ++ zs := by
  obtain ⟨mv, kb⟩ := F.kbinds0 (ps := ["self", "places", "ties", "beats"]) 3 ["beats"] [] (fun us mv ws => us ++ (mv ++ ws)) (by simp) (by simp) (fun h1 h2 h3 => h1.append (h2.append h3)) (fun D doc pm an cdv ct us mv ws h1 h2 h3 => by
    match us, mv, ws, h1, h2, h3 with
    | [a, b, c], [], [d], _, _, _ => rfl)
  exact ⟨_, _, kb, fun vs zs => rfl⟩
end
end Tw.k01

namespace Tw.k01
open PySem PySem.Spec L2 PyProof.Rows Tw Tw.S
section
variable {K : PySem.W.Frag} {mg : Str → Option Value} {C f : Addr} {fd : FuncData}
theorem mk_K_Web_2_beats (F : Fun K "__init__" "Web.__init__" s_Web___init__ f fd) (M : Mk K C f) (FD : FunD K "__init__" "Web.__init__" (defArgs s_Web___init__) (defBody s_Web___init__) (defScope s_Web___init__) [] [("beats", .int 1)] f fd) (hm : mg "Web" = some (.ref C)) :
    AtI K mg "Web" C "Web.__init__" s_Web___init__ ["self", "places", "ties", "beats"] 2 ["beats"] gD_K_Web_2_beats := by
  obtain ⟨g, gV, kb, hg⟩ := kb_web FD
  exact ⟨f, fd, g, gV, fun vs zs => vs ++ zs, F, M, kb, hm, fun x vs zs _ _ => by rw [hg]; rfl, fun G ds es vs zs h1 h2 => h1.append h2⟩
end
set_option maxHeartbeats 0 in
theorem facts_mk {l : PySem.W.OpenLaw} {w : World} {K : PySem.W.Frag} {h : Heap} {mg : Str → Option Value} {fa : Addr} {C_Web : Addr} (X : K.In h) (G : h.Ns mainGlobals mg) (hfa : mg "law" = some (.ref fa))
    {f1 : Addr} {od1 an1 : Option Addr} {sl1 : Array (Option Value)} {oc1 dc1 pm1 cd1 ct1 : Value}
    {kV1 : Value}
    {f2 : Addr} {od2 an2 : Option Addr} {sl2 : Array (Option Value)} {oc2 dc2 pm2 cd2 ct2 : Value}
    {kV2 : Value}
    {f3 : Addr} {od3 an3 : Option Addr} {sl3 : Array (Option Value)} {oc3 dc3 pm3 cd3 ct3 : Value}
    {kV3 : Value}
    {f4 : Addr} {od4 an4 : Option Addr} {sl4 : Array (Option Value)} {oc4 dc4 pm4 cd4 ct4 : Value}
    {kV4 : Value}
    {f5 : Addr} {od5 an5 : Option Addr} {sl5 : Array (Option Value)} {oc5 dc5 pm5 cd5 ct5 : Value}
    {kV5 : Value}
    {f6 : Addr} {od6 an6 : Option Addr} {sl6 : Array (Option Value)} {oc6 dc6 pm6 cd6 ct6 : Value}
    {kV6 : Value}
    {f7 : Addr} {od7 an7 : Option Addr} {sl7 : Array (Option Value)} {oc7 dc7 pm7 cd7 ct7 : Value}
    {kV7 : Value}
    {f8 : Addr} {od8 an8 : Option Addr} {sl8 : Array (Option Value)} {oc8 dc8 pm8 cd8 ct8 : Value}
    {kV8 : Value}
    {f9 : Addr} {od9 an9 : Option Addr} {sl9 : Array (Option Value)} {oc9 dc9 pm9 cd9 ct9 : Value}
    {kV9 : Value}
    {f10 : Addr} {od10 an10 : Option Addr} {sl10 : Array (Option Value)} {oc10 dc10 pm10 cd10 ct10 : Value}
    {kV10 : Value}
    {f11 : Addr} {od11 an11 : Option Addr} {sl11 : Array (Option Value)} {oc11 dc11 pm11 cd11 ct11 : Value}
    {kV11 : Value}
    {f12 : Addr} {od12 an12 : Option Addr} {sl12 : Array (Option Value)} {oc12 dc12 pm12 cd12 ct12 : Value}
    {kV12 : Value}
    {f13 : Addr} {od13 an13 : Option Addr} {sl13 : Array (Option Value)} {oc13 dc13 pm13 cd13 ct13 : Value}
    {kV13 : Value}
    {f14 : Addr} {od14 an14 : Option Addr} {sl14 : Array (Option Value)} {oc14 dc14 pm14 cd14 ct14 : Value}
    {kV14 : Value}
    {f15 : Addr} {od15 an15 : Option Addr} {sl15 : Array (Option Value)} {oc15 dc15 pm15 cd15 ct15 : Value}
    {kV15 : Value}
    {f16 : Addr} {od16 an16 : Option Addr} {sl16 : Array (Option Value)} {oc16 dc16 pm16 cd16 ct16 : Value}
    {kV16 : Value}
    {f17 : Addr} {od17 an17 : Option Addr} {sl17 : Array (Option Value)} {oc17 dc17 pm17 cd17 ct17 : Value}
    {kV17 : Value}
    {f18 : Addr} {od18 an18 : Option Addr} {sl18 : Array (Option Value)} {oc18 dc18 pm18 cd18 ct18 : Value}
    {kV18 : Value}
    {f19 : Addr} {od19 an19 : Option Addr} {sl19 : Array (Option Value)} {oc19 dc19 pm19 cd19 ct19 : Value}
    {kV19 : Value}
    {f20 : Addr} {od20 an20 : Option Addr} {sl20 : Array (Option Value)} {oc20 dc20 pm20 cd20 ct20 : Value}
    {kV20 : Value}
    {f21 : Addr} {od21 an21 : Option Addr} {sl21 : Array (Option Value)} {oc21 dc21 pm21 cd21 ct21 : Value}
    {kV21 : Value}
    {f22 : Addr} {od22 an22 : Option Addr} {sl22 : Array (Option Value)} {oc22 dc22 pm22 cd22 ct22 : Value}
    {kV22 : Value}
    {f23 : Addr} {od23 an23 : Option Addr} {sl23 : Array (Option Value)} {oc23 dc23 pm23 cd23 ct23 : Value}
    {kV23 : Value}
    {f24 : Addr} {od24 an24 : Option Addr} {sl24 : Array (Option Value)} {oc24 dc24 pm24 cd24 ct24 : Value}
    {kV24 : Value}
    {f25 : Addr} {od25 an25 : Option Addr} {sl25 : Array (Option Value)} {oc25 dc25 pm25 cd25 ct25 : Value}
    {kV25 : Value}
    {f26 : Addr} {od26 an26 : Option Addr} {sl26 : Array (Option Value)} {oc26 dc26 pm26 cd26 ct26 : Value}
    {kV26 : Value}
    {f27 : Addr} {od27 an27 : Option Addr} {sl27 : Array (Option Value)} {oc27 dc27 pm27 cd27 ct27 : Value}
    {kV27 : Value}
    {f28 : Addr} {od28 an28 : Option Addr} {sl28 : Array (Option Value)} {oc28 dc28 pm28 cd28 ct28 : Value}
    {D28 : Addr}
    {t28_beats : Tok}
    {f29 : Addr} {od29 an29 : Option Addr} {sl29 : Array (Option Value)} {oc29 dc29 pm29 cd29 ct29 : Value}
    {kV29 : Value}
    {f30 : Addr} {od30 an30 : Option Addr} {sl30 : Array (Option Value)} {oc30 dc30 pm30 cd30 ct30 : Value}
    {kV30 : Value}
    {f31 : Addr} {od31 an31 : Option Addr} {sl31 : Array (Option Value)} {oc31 dc31 pm31 cd31 ct31 : Value}
    {kV31 : Value}
    {f32 : Addr} {od32 an32 : Option Addr} {sl32 : Array (Option Value)} {oc32 dc32 pm32 cd32 ct32 : Value}
    {kV32 : Value}
    {f33 : Addr} {od33 an33 : Option Addr} {sl33 : Array (Option Value)} {oc33 dc33 pm33 cd33 ct33 : Value}
    {kV33 : Value}
    {f34 : Addr} {od34 an34 : Option Addr} {sl34 : Array (Option Value)} {oc34 dc34 pm34 cd34 ct34 : Value}
    {kV34 : Value}
    {f35 : Addr} {od35 an35 : Option Addr} {sl35 : Array (Option Value)} {oc35 dc35 pm35 cd35 ct35 : Value}
    {kV35 : Value}
    {t_LETTERS : Tok}
    (cc_Web : PySem.W.nsIn K mainGlobals "Web" = some (some (.ref C_Web)))
    (a1 : PySem.W.nsIn K mainGlobals "_law_draws" = some (some (.ref f1)))
    (l1 : K.lookup f1 = some ⟨oc1, od1, .func (PySem.W.fnOf "_law_draws" "_law_draws" (defArgs s_law_draws) (defBody s_law_draws) (defScope s_law_draws) .none kV1 dc1 pm1 an1 cd1 ct1), sl1⟩)
    (c1 : PySem.W.codeIn K cd1 "_law_draws" = true)
    (k1 : PySem.W.keepIn K (.ref f1) = true)
    (a2 : PySem.W.nsIn K mainGlobals "_law_names" = some (some (.ref f2)))
    (l2 : K.lookup f2 = some ⟨oc2, od2, .func (PySem.W.fnOf "_law_names" "_law_names" (defArgs s_law_names) (defBody s_law_names) (defScope s_law_names) .none kV2 dc2 pm2 an2 cd2 ct2), sl2⟩)
    (c2 : PySem.W.codeIn K cd2 "_law_names" = true)
    (k2 : PySem.W.keepIn K (.ref f2) = true)
    (a3 : PySem.W.nsIn K mainGlobals "_law_any_names" = some (some (.ref f3)))
    (l3 : K.lookup f3 = some ⟨oc3, od3, .func (PySem.W.fnOf "_law_any_names" "_law_any_names" (defArgs s_law_any_names) (defBody s_law_any_names) (defScope s_law_any_names) .none kV3 dc3 pm3 an3 cd3 ct3), sl3⟩)
    (c3 : PySem.W.codeIn K cd3 "_law_any_names" = true)
    (k3 : PySem.W.keepIn K (.ref f3) = true)
    (a4 : PySem.W.nsIn K mainGlobals "_law_codes" = some (some (.ref f4)))
    (l4 : K.lookup f4 = some ⟨oc4, od4, .func (PySem.W.fnOf "_law_codes" "_law_codes" (defArgs s_law_codes) (defBody s_law_codes) (defScope s_law_codes) .none kV4 dc4 pm4 an4 cd4 ct4), sl4⟩)
    (c4 : PySem.W.codeIn K cd4 "_law_codes" = true)
    (k4 : PySem.W.keepIn K (.ref f4) = true)
    (a5 : PySem.W.nsIn K mainGlobals "_law_pair_ties" = some (some (.ref f5)))
    (l5 : K.lookup f5 = some ⟨oc5, od5, .func (PySem.W.fnOf "_law_pair_ties" "_law_pair_ties" (defArgs s_law_pair_ties) (defBody s_law_pair_ties) (defScope s_law_pair_ties) .none kV5 dc5 pm5 an5 cd5 ct5), sl5⟩)
    (c5 : PySem.W.codeIn K cd5 "_law_pair_ties" = true)
    (k5 : PySem.W.keepIn K (.ref f5) = true)
    (a6 : PySem.W.nsIn K mainGlobals "_law_any_ties" = some (some (.ref f6)))
    (l6 : K.lookup f6 = some ⟨oc6, od6, .func (PySem.W.fnOf "_law_any_ties" "_law_any_ties" (defArgs s_law_any_ties) (defBody s_law_any_ties) (defScope s_law_any_ties) .none kV6 dc6 pm6 an6 cd6 ct6), sl6⟩)
    (c6 : PySem.W.codeIn K cd6 "_law_any_ties" = true)
    (k6 : PySem.W.keepIn K (.ref f6) = true)
    (a7 : PySem.W.nsIn K mainGlobals "_law_table" = some (some (.ref f7)))
    (l7 : K.lookup f7 = some ⟨oc7, od7, .func (PySem.W.fnOf "_law_table" "_law_table" (defArgs s_law_table) (defBody s_law_table) (defScope s_law_table) .none kV7 dc7 pm7 an7 cd7 ct7), sl7⟩)
    (c7 : PySem.W.codeIn K cd7 "_law_table" = true)
    (k7 : PySem.W.keepIn K (.ref f7) = true)
    (a8 : PySem.W.nsIn K mainGlobals "_law_any_web" = some (some (.ref f8)))
    (l8 : K.lookup f8 = some ⟨oc8, od8, .func (PySem.W.fnOf "_law_any_web" "_law_any_web" (defArgs s_law_any_web) (defBody s_law_any_web) (defScope s_law_any_web) .none kV8 dc8 pm8 an8 cd8 ct8), sl8⟩)
    (c8 : PySem.W.codeIn K cd8 "_law_any_web" = true)
    (k8 : PySem.W.keepIn K (.ref f8) = true)
    (a9 : PySem.W.nsIn K mainGlobals "_law_is_int" = some (some (.ref f9)))
    (l9 : K.lookup f9 = some ⟨oc9, od9, .func (PySem.W.fnOf "_law_is_int" "_law_is_int" (defArgs s_law_is_int) (defBody s_law_is_int) (defScope s_law_is_int) .none kV9 dc9 pm9 an9 cd9 ct9), sl9⟩)
    (c9 : PySem.W.codeIn K cd9 "_law_is_int" = true)
    (k9 : PySem.W.keepIn K (.ref f9) = true)
    (a10 : PySem.W.nsIn K mainGlobals "_law_same" = some (some (.ref f10)))
    (l10 : K.lookup f10 = some ⟨oc10, od10, .func (PySem.W.fnOf "_law_same" "_law_same" (defArgs s_law_same) (defBody s_law_same) (defScope s_law_same) .none kV10 dc10 pm10 an10 cd10 ct10), sl10⟩)
    (c10 : PySem.W.codeIn K cd10 "_law_same" = true)
    (k10 : PySem.W.keepIn K (.ref f10) = true)
    (a11 : PySem.W.findIn K (.ref C_Web) "__eq__" = some (some (.ref f11)))
    (i11 : PySem.W.isFn K (.ref f11) = true)
    (l11 : K.lookup f11 = some ⟨oc11, od11, .func (PySem.W.fnOf "__eq__" "Web.__eq__" (defArgs s_Web___eq__) (defBody s_Web___eq__) (defScope s_Web___eq__) .none kV11 dc11 pm11 an11 cd11 ct11), sl11⟩)
    (c11 : PySem.W.codeIn K cd11 "Web.__eq__" = true)
    (k11 : PySem.W.keepIn K (.ref f11) = true)
    (a12 : PySem.W.nsIn K mainGlobals "_law_equal" = some (some (.ref f12)))
    (l12 : K.lookup f12 = some ⟨oc12, od12, .func (PySem.W.fnOf "_law_equal" "_law_equal" (defArgs s_law_equal) (defBody s_law_equal) (defScope s_law_equal) .none kV12 dc12 pm12 an12 cd12 ct12), sl12⟩)
    (c12 : PySem.W.codeIn K cd12 "_law_equal" = true)
    (k12 : PySem.W.keepIn K (.ref f12) = true)
    (a13 : PySem.W.nsIn K mainGlobals "_law_tie_key" = some (some (.ref f13)))
    (l13 : K.lookup f13 = some ⟨oc13, od13, .func (PySem.W.fnOf "_law_tie_key" "_law_tie_key" (defArgs s_law_tie_key) (defBody s_law_tie_key) (defScope s_law_tie_key) .none kV13 dc13 pm13 an13 cd13 ct13), sl13⟩)
    (c13 : PySem.W.codeIn K cd13 "_law_tie_key" = true)
    (k13 : PySem.W.keepIn K (.ref f13) = true)
    (a14 : PySem.W.nsIn K mainGlobals "_law_one_form" = some (some (.ref f14)))
    (l14 : K.lookup f14 = some ⟨oc14, od14, .func (PySem.W.fnOf "_law_one_form" "_law_one_form" (defArgs s_law_one_form) (defBody s_law_one_form) (defScope s_law_one_form) .none kV14 dc14 pm14 an14 cd14 ct14), sl14⟩)
    (c14 : PySem.W.codeIn K cd14 "_law_one_form" = true)
    (k14 : PySem.W.keepIn K (.ref f14) = true)
    (a15 : PySem.W.nsIn K mainGlobals "_law_rewritten" = some (some (.ref f15)))
    (l15 : K.lookup f15 = some ⟨oc15, od15, .func (PySem.W.fnOf "_law_rewritten" "_law_rewritten" (defArgs s_law_rewritten) (defBody s_law_rewritten) (defScope s_law_rewritten) .none kV15 dc15 pm15 an15 cd15 ct15), sl15⟩)
    (c15 : PySem.W.codeIn K cd15 "_law_rewritten" = true)
    (k15 : PySem.W.keepIn K (.ref f15) = true)
    (a16 : PySem.W.nsIn K mainGlobals "_law_toggled" = some (some (.ref f16)))
    (l16 : K.lookup f16 = some ⟨oc16, od16, .func (PySem.W.fnOf "_law_toggled" "_law_toggled" (defArgs s_law_toggled) (defBody s_law_toggled) (defScope s_law_toggled) .none kV16 dc16 pm16 an16 cd16 ct16), sl16⟩)
    (c16 : PySem.W.codeIn K cd16 "_law_toggled" = true)
    (k16 : PySem.W.keepIn K (.ref f16) = true)
    (a17 : PySem.W.nsIn K mainGlobals "ties_between" = some (some (.ref f17)))
    (l17 : K.lookup f17 = some ⟨oc17, od17, .func (PySem.W.fnOf "ties_between" "ties_between" (defArgs s_ties_between) (defBody s_ties_between) (defScope s_ties_between) .none kV17 dc17 pm17 an17 cd17 ct17), sl17⟩)
    (c17 : PySem.W.codeIn K cd17 "ties_between" = true)
    (k17 : PySem.W.keepIn K (.ref f17) = true)
    (a18 : PySem.W.nsIn K mainGlobals "ties_of" = some (some (.ref f18)))
    (l18 : K.lookup f18 = some ⟨oc18, od18, .func (PySem.W.fnOf "ties_of" "ties_of" (defArgs s_ties_of) (defBody s_ties_of) (defScope s_ties_of) .none kV18 dc18 pm18 an18 cd18 ct18), sl18⟩)
    (c18 : PySem.W.codeIn K cd18 "ties_of" = true)
    (k18 : PySem.W.keepIn K (.ref f18) = true)
    (a19 : PySem.W.findIn K (.ref C_Web) "ties" = some (some (.ref f19)))
    (i19 : PySem.W.isFn K (.ref f19) = true)
    (l19 : K.lookup f19 = some ⟨oc19, od19, .func (PySem.W.fnOf "ties" "Web.ties" (defArgs s_Web_ties) (defBody s_Web_ties) (defScope s_Web_ties) .none kV19 dc19 pm19 an19 cd19 ct19), sl19⟩)
    (c19 : PySem.W.codeIn K cd19 "Web.ties" = true)
    (k19 : PySem.W.keepIn K (.ref f19) = true)
    (a20 : PySem.W.nsIn K mainGlobals "is_name" = some (some (.ref f20)))
    (l20 : K.lookup f20 = some ⟨oc20, od20, .func (PySem.W.fnOf "is_name" "is_name" (defArgs s_is_name) (defBody s_is_name) (defScope s_is_name) .none kV20 dc20 pm20 an20 cd20 ct20), sl20⟩)
    (c20 : PySem.W.codeIn K cd20 "is_name" = true)
    (k20 : PySem.W.keepIn K (.ref f20) = true)
    (a21 : PySem.W.nsIn K mainGlobals "check_names" = some (some (.ref f21)))
    (l21 : K.lookup f21 = some ⟨oc21, od21, .func (PySem.W.fnOf "check_names" "check_names" (defArgs s_check_names) (defBody s_check_names) (defScope s_check_names) .none kV21 dc21 pm21 an21 cd21 ct21), sl21⟩)
    (c21 : PySem.W.codeIn K cd21 "check_names" = true)
    (k21 : PySem.W.keepIn K (.ref f21) = true)
    (a22 : PySem.W.nsIn K mainGlobals "is_set" = some (some (.ref f22)))
    (l22 : K.lookup f22 = some ⟨oc22, od22, .func (PySem.W.fnOf "is_set" "is_set" (defArgs s_is_set) (defBody s_is_set) (defScope s_is_set) .none kV22 dc22 pm22 an22 cd22 ct22), sl22⟩)
    (c22 : PySem.W.codeIn K cd22 "is_set" = true)
    (k22 : PySem.W.keepIn K (.ref f22) = true)
    (a23 : PySem.W.nsIn K mainGlobals "is_tie" = some (some (.ref f23)))
    (l23 : K.lookup f23 = some ⟨oc23, od23, .func (PySem.W.fnOf "is_tie" "is_tie" (defArgs s_is_tie) (defBody s_is_tie) (defScope s_is_tie) .none kV23 dc23 pm23 an23 cd23 ct23), sl23⟩)
    (c23 : PySem.W.codeIn K cd23 "is_tie" = true)
    (k23 : PySem.W.keepIn K (.ref f23) = true)
    (a24 : PySem.W.nsIn K mainGlobals "check_ties" = some (some (.ref f24)))
    (l24 : K.lookup f24 = some ⟨oc24, od24, .func (PySem.W.fnOf "check_ties" "check_ties" (defArgs s_check_ties) (defBody s_check_ties) (defScope s_check_ties) .none kV24 dc24 pm24 an24 cd24 ct24), sl24⟩)
    (c24 : PySem.W.codeIn K cd24 "check_ties" = true)
    (k24 : PySem.W.keepIn K (.ref f24) = true)
    (a25 : PySem.W.nsIn K mainGlobals "nexts_at" = some (some (.ref f25)))
    (l25 : K.lookup f25 = some ⟨oc25, od25, .func (PySem.W.fnOf "nexts_at" "nexts_at" (defArgs s_nexts_at) (defBody s_nexts_at) (defScope s_nexts_at) .none kV25 dc25 pm25 an25 cd25 ct25), sl25⟩)
    (c25 : PySem.W.codeIn K cd25 "nexts_at" = true)
    (k25 : PySem.W.keepIn K (.ref f25) = true)
    (a26 : PySem.W.nsIn K mainGlobals "nexts_of" = some (some (.ref f26)))
    (l26 : K.lookup f26 = some ⟨oc26, od26, .func (PySem.W.fnOf "nexts_of" "nexts_of" (defArgs s_nexts_of) (defBody s_nexts_of) (defScope s_nexts_of) .none kV26 dc26 pm26 an26 cd26 ct26), sl26⟩)
    (c26 : PySem.W.codeIn K cd26 "nexts_of" = true)
    (k26 : PySem.W.keepIn K (.ref f26) = true)
    (a27 : PySem.W.nsIn K mainGlobals "steps_of" = some (some (.ref f27)))
    (l27 : K.lookup f27 = some ⟨oc27, od27, .func (PySem.W.fnOf "steps_of" "steps_of" (defArgs s_steps_of) (defBody s_steps_of) (defScope s_steps_of) .none kV27 dc27 pm27 an27 cd27 ct27), sl27⟩)
    (c27 : PySem.W.codeIn K cd27 "steps_of" = true)
    (k27 : PySem.W.keepIn K (.ref f27) = true)
    (a28 : PySem.W.findIn K (.ref C_Web) "__init__" = some (some (.ref f28)))
    (i28 : PySem.W.isFn K (.ref f28) = true)
    (l28 : K.lookup f28 = some ⟨oc28, od28, .func (PySem.W.fnOf "__init__" "Web.__init__" (defArgs s_Web___init__) (defBody s_Web___init__) (defScope s_Web___init__) .none (.ref D28) dc28 pm28 an28 cd28 ct28), sl28⟩)
    (c28 : PySem.W.codeIn K cd28 "Web.__init__" = true)
    (k28 : PySem.W.keepIn K (.ref f28) = true)
    (d28_beats : PySem.W.nsIn K D28 "beats" = some (some (.int 1 t28_beats)))
    (m28 : PySem.W.makesIn K C_Web = true)
    (q28 : PySem.W.keepIn K (.ref C_Web) = true)
    (a29 : PySem.W.nsIn K mainGlobals "_law_bent_differs" = some (some (.ref f29)))
    (l29 : K.lookup f29 = some ⟨oc29, od29, .func (PySem.W.fnOf "_law_bent_differs" "_law_bent_differs" (defArgs s_law_bent_differs) (defBody s_law_bent_differs) (defScope s_law_bent_differs) .none kV29 dc29 pm29 an29 cd29 ct29), sl29⟩)
    (c29 : PySem.W.codeIn K cd29 "_law_bent_differs" = true)
    (k29 : PySem.W.keepIn K (.ref f29) = true)
    (a30 : PySem.W.nsIn K mainGlobals "_law_others_differ" = some (some (.ref f30)))
    (l30 : K.lookup f30 = some ⟨oc30, od30, .func (PySem.W.fnOf "_law_others_differ" "_law_others_differ" (defArgs s_law_others_differ) (defBody s_law_others_differ) (defScope s_law_others_differ) .none kV30 dc30 pm30 an30 cd30 ct30), sl30⟩)
    (c30 : PySem.W.codeIn K cd30 "_law_others_differ" = true)
    (k30 : PySem.W.keepIn K (.ref f30) = true)
    (a31 : PySem.W.findIn K (.ref C_Web) "__len__" = some (some (.ref f31)))
    (i31 : PySem.W.isFn K (.ref f31) = true)
    (l31 : K.lookup f31 = some ⟨oc31, od31, .func (PySem.W.fnOf "__len__" "Web.__len__" (defArgs s_Web___len__) (defBody s_Web___len__) (defScope s_Web___len__) .none kV31 dc31 pm31 an31 cd31 ct31), sl31⟩)
    (c31 : PySem.W.codeIn K cd31 "Web.__len__" = true)
    (k31 : PySem.W.keepIn K (.ref f31) = true)
    (a32 : PySem.W.nsIn K mainGlobals "check_place" = some (some (.ref f32)))
    (l32 : K.lookup f32 = some ⟨oc32, od32, .func (PySem.W.fnOf "check_place" "check_place" (defArgs s_check_place) (defBody s_check_place) (defScope s_check_place) .none kV32 dc32 pm32 an32 cd32 ct32), sl32⟩)
    (c32 : PySem.W.codeIn K cd32 "check_place" = true)
    (k32 : PySem.W.keepIn K (.ref f32) = true)
    (a33 : PySem.W.findIn K (.ref C_Web) "steps" = some (some (.ref f33)))
    (i33 : PySem.W.isFn K (.ref f33) = true)
    (l33 : K.lookup f33 = some ⟨oc33, od33, .func (PySem.W.fnOf "steps" "Web.steps" (defArgs s_Web_steps) (defBody s_Web_steps) (defScope s_Web_steps) .none kV33 dc33 pm33 an33 cd33 ct33), sl33⟩)
    (c33 : PySem.W.codeIn K cd33 "Web.steps" = true)
    (k33 : PySem.W.keepIn K (.ref f33) = true)
    (a34 : PySem.W.nsIn K mainGlobals "_law_web_is" = some (some (.ref f34)))
    (l34 : K.lookup f34 = some ⟨oc34, od34, .func (PySem.W.fnOf "_law_web_is" "_law_web_is" (defArgs s_law_web_is) (defBody s_law_web_is) (defScope s_law_web_is) .none kV34 dc34 pm34 an34 cd34 ct34), sl34⟩)
    (c34 : PySem.W.codeIn K cd34 "_law_web_is" = true)
    (k34 : PySem.W.keepIn K (.ref f34) = true)
    (a35 : PySem.W.nsIn K mainGlobals "law" = some (some (.ref f35)))
    (l35 : K.lookup f35 = some ⟨oc35, od35, .func (PySem.W.fnOf "law" "law" (defArgs s_law) (defBody s_law) (defScope s_law) .none kV35 dc35 pm35 an35 cd35 ct35), sl35⟩)
    (c35 : PySem.W.codeIn K cd35 "law" = true)
    (k35 : PySem.W.keepIn K (.ref f35) = true)
    (z_abs : PySem.W.nsIn K mainGlobals "abs" = some none)
    (z_all : PySem.W.nsIn K mainGlobals "all" = some none)
    (z_bool : PySem.W.nsIn K mainGlobals "bool" = some none)
    (z_enumerate : PySem.W.nsIn K mainGlobals "enumerate" = some none)
    (z_int : PySem.W.nsIn K mainGlobals "int" = some none)
    (z_isinstance : PySem.W.nsIn K mainGlobals "isinstance" = some none)
    (z_len : PySem.W.nsIn K mainGlobals "len" = some none)
    (z_list : PySem.W.nsIn K mainGlobals "list" = some none)
    (z_max : PySem.W.nsIn K mainGlobals "max" = some none)
    (z_min : PySem.W.nsIn K mainGlobals "min" = some none)
    (z_range : PySem.W.nsIn K mainGlobals "range" = some none)
    (z_set : PySem.W.nsIn K mainGlobals "set" = some none)
    (z_sorted : PySem.W.nsIn K mainGlobals "sorted" = some none)
    (z_str : PySem.W.nsIn K mainGlobals "str" = some none)
    (z_tuple : PySem.W.nsIn K mainGlobals "tuple" = some none)
    (z_zip : PySem.W.nsIn K mainGlobals "zip" = some none)
    (g_LETTERS : PySem.W.nsIn K mainGlobals "LETTERS" = some (some (.str "abcdefghijklmnopqrstuvwxyz" t_LETTERS)))
    (pg_Web : PySem.W.plainGet K C_Web Str.empty = true)
    (hd_Web : PySem.W.hasDictIn K C_Web = true)
    (po_Web : PySem.W.plainOver K C_Web = true)
    (sa_Web : PySem.W.findIn K (.ref C_Web) "__setattr__" = some (some (.builtin "object.__setattr__")))
    (ha_Web : PySem.W.findIn K (.ref C_Web) "__class__" = some (some (.builtin "object.__class__")))
    (hn_Web : PySem.W.specialIn K (.builtin "object.__class__") "__get__" = some (some (.builtin "getset_descriptor.__get__")))
    (htk_Web : PySem.W.takesIn K (.builtin "object.__class__") = some true)
    (hm_Web : PySem.W.mroIn K C_Web (.type "object") = some true)
    (n_Web__nexts : PySem.W.findIn K (.ref C_Web) "_nexts" = some none)
    (n_Web__steps : PySem.W.findIn K (.ref C_Web) "_steps" = some none)
    (n_Web_beats : PySem.W.findIn K (.ref C_Web) "beats" = some none)
    (n_Web_places : PySem.W.findIn K (.ref C_Web) "places" = some none) :
    ∃ fd : FuncData, (∀ (s : Shared) (v : Value), BindsTo s fd ⟨[v], []⟩ [("script", v)]) ∧ ∀ base : Heap, K.In base → base.Ns mainGlobals mg → FnOk l.prog w K mg base (L2.CX l.prog w) 18 fa fd ["script"] (spOf K 1 wf_law) := by
  have e := hfa.symm.trans (PySem.W.mg_of X G a35)
  cases e
  have T : Txt K mg C_Web := ⟨PySem.W.mg_none_of X G z_abs, PySem.W.mg_none_of X G z_all, PySem.W.mg_none_of X G z_bool, PySem.W.mg_none_of X G z_enumerate, PySem.W.mg_none_of X G z_int, PySem.W.mg_none_of X G z_isinstance, PySem.W.mg_none_of X G z_len, PySem.W.mg_none_of X G z_list, PySem.W.mg_none_of X G z_max, PySem.W.mg_none_of X G z_min, PySem.W.mg_none_of X G z_range, PySem.W.mg_none_of X G z_set, PySem.W.mg_none_of X G z_sorted, PySem.W.mg_none_of X G z_str, PySem.W.mg_none_of X G z_tuple, PySem.W.mg_none_of X G z_zip, ⟨_, PySem.W.mg_of X G g_LETTERS, ⟨_, rfl⟩⟩, ⟨pg_Web, hd_Web, po_Web, sa_Web⟩, ⟨⟨pg_Web, hd_Web, po_Web, sa_Web⟩, ha_Web, hn_Web, htk_Web, hm_Web, if_pos (beq_self_eq_true _)⟩, PySem.W.mg_of X G cc_Web, n_Web__nexts, n_Web__steps, n_Web_beats, n_Web_places⟩
  have F : Facts K mg C_Web := ⟨T, (at_mk X G a1 l1 c1 k1 (fun _ _ _ _ _ _ us hl => match us, hl with | [_, _, _], _ => rfl)),
    (at_mk X G a2 l2 c2 k2 (fun _ _ _ _ _ _ us hl => match us, hl with | [_, _, _], _ => rfl)),
    (at_mk X G a3 l3 c3 k3 (fun _ _ _ _ _ _ us hl => match us, hl with | [_, _, _], _ => rfl)),
    (at_mk X G a4 l4 c4 k4 (fun _ _ _ _ _ _ us hl => match us, hl with | [_, _, _, _, _, _], _ => rfl)),
    (at_mk X G a5 l5 c5 k5 (fun _ _ _ _ _ _ us hl => match us, hl with | [_, _, _, _], _ => rfl)),
    (at_mk X G a6 l6 c6 k6 (fun _ _ _ _ _ _ us hl => match us, hl with | [_, _, _], _ => rfl)),
    (at_mk X G a7 l7 c7 k7 (fun _ _ _ _ _ _ us hl => match us, hl with | [_, _, _], _ => rfl)),
    (at_mk X G a8 l8 c8 k8 (fun _ _ _ _ _ _ us hl => match us, hl with | [_, _, _, _, _], _ => rfl)),
    (at_mk X G a9 l9 c9 k9 (fun _ _ _ _ _ _ us hl => match us, hl with | [_], _ => rfl)),
    (at_mk X G a10 l10 c10 k10 (fun _ _ _ _ _ _ us hl => match us, hl with | [_, _], _ => rfl)),
    (⟨f11, _, fun_mk l11 c11 k11, ⟨a11, i11, k11⟩, (fun_mk l11 c11 k11).binds fun _ _ _ _ _ _ us hl => match us, hl with | [_, _], _ => rfl⟩),
    (at_mk X G a12 l12 c12 k12 (fun _ _ _ _ _ _ us hl => match us, hl with | [_, _, _], _ => rfl)),
    (at_mk X G a13 l13 c13 k13 (fun _ _ _ _ _ _ us hl => match us, hl with | [_, _, _, _], _ => rfl)),
    (at_mk X G a14 l14 c14 k14 (fun _ _ _ _ _ _ us hl => match us, hl with | [_, _, _], _ => rfl)),
    (at_mk X G a15 l15 c15 k15 (fun _ _ _ _ _ _ us hl => match us, hl with | [_, _, _], _ => rfl)),
    (at_mk X G a16 l16 c16 k16 (fun _ _ _ _ _ _ us hl => match us, hl with | [_, _, _, _], _ => rfl)),
    (at_mk X G a17 l17 c17 k17 (fun _ _ _ _ _ _ us hl => match us, hl with | [_, _, _, _], _ => rfl)),
    (at_mk X G a18 l18 c18 k18 (fun _ _ _ _ _ _ us hl => match us, hl with | [_, _], _ => rfl)),
    (⟨f19, _, fun_mk l19 c19 k19, ⟨a19, i19, k19⟩, (fun_mk l19 c19 k19).binds fun _ _ _ _ _ _ us hl => match us, hl with | [_], _ => rfl⟩),
    (at_mk X G a20 l20 c20 k20 (fun _ _ _ _ _ _ us hl => match us, hl with | [_], _ => rfl)),
    (at_mk X G a21 l21 c21 k21 (fun _ _ _ _ _ _ us hl => match us, hl with | [_], _ => rfl)),
    (at_mk X G a22 l22 c22 k22 (fun _ _ _ _ _ _ us hl => match us, hl with | [_, _], _ => rfl)),
    (at_mk X G a23 l23 c23 k23 (fun _ _ _ _ _ _ us hl => match us, hl with | [_, _, _], _ => rfl)),
    (at_mk X G a24 l24 c24 k24 (fun _ _ _ _ _ _ us hl => match us, hl with | [_, _, _], _ => rfl)),
    (at_mk X G a25 l25 c25 k25 (fun _ _ _ _ _ _ us hl => match us, hl with | [_, _, _], _ => rfl)),
    (at_mk X G a26 l26 c26 k26 (fun _ _ _ _ _ _ us hl => match us, hl with | [_, _, _], _ => rfl)),
    (at_mk X G a27 l27 c27 k27 (fun _ _ _ _ _ _ us hl => match us, hl with | [_], _ => rfl)),
    (at_mk X G a29 l29 c29 k29 (fun _ _ _ _ _ _ us hl => match us, hl with | [_, _, _, _, _], _ => rfl)),
    (at_mk X G a30 l30 c30 k30 (fun _ _ _ _ _ _ us hl => match us, hl with | [_, _, _, _], _ => rfl)),
    (⟨f31, _, fun_mk l31 c31 k31, ⟨a31, i31, k31⟩, (fun_mk l31 c31 k31).binds fun _ _ _ _ _ _ us hl => match us, hl with | [_], _ => rfl⟩),
    (at_mk X G a32 l32 c32 k32 (fun _ _ _ _ _ _ us hl => match us, hl with | [_, _], _ => rfl)),
    (⟨f33, _, fun_mk l33 c33 k33, ⟨a33, i33, k33⟩, (fun_mk l33 c33 k33).binds fun _ _ _ _ _ _ us hl => match us, hl with | [_, _, _], _ => rfl⟩),
    (at_mk X G a34 l34 c34 k34 (fun _ _ _ _ _ _ us hl => match us, hl with | [_, _, _, _], _ => rfl)),
    (at_mk X G a35 l35 c35 k35 (fun _ _ _ _ _ _ us hl => match us, hl with | [_], _ => rfl)),
    (mk_K_Web_2_beats (fun_mk l28 c28 k28) ⟨m28, a28, i28, q28⟩ ⟨⟨_, _, _, _, _, _, _, _, _, _, rfl, l28, c28, .inl ⟨rfl, rfl⟩, .inr ⟨_, rfl, fun q hq => by
      simp at hq
      subst hq
      exact ⟨_, d28_beats, ⟨_, rfl⟩⟩⟩⟩, k28⟩ (PySem.W.mg_of X G cc_Web))⟩
  exact ⟨_, fun s v => .of_eq rfl, fun base _ _ => fn_ok (fun_mk l35 c35 k35) sc_law (fun xc ds Q q => hn_wf_law ds xc Q q) (fun cdv A outer s H E hr => d_law F.T (D_law_any_web F) (D_law_bent_differs F) (D_law_draws F) (D_law_equal F) (D_law_one_form F) (D_law_others_differ F) (D_law_rewritten F) (D_law_same F) (D_law_web_is F) (M_Web_ties F) (K_Web_2_beats F) hr) (fun xc ds Q q => p_law C_Web xc ds Q q)⟩
end Tw.k01

namespace Tw.k01
open PySem PySem.Spec L2 PyProof.Rows Tw Tw.S
theorem ints_rp {K : PySem.W.Frag} {G : Hp} : ∀ ns : List Int, Rps K G (ns.map .int) (ns.map V.int)
  | [] => .nil
  | n :: ns => .cons (.int n) (ints_rp ns)
theorem sp_go {K : PySem.W.Frag} {H : Hp} {a : Addr} {ns : List Int} (hl : ns.length ≤ 63) (hS : SqL K H a (ns.map V.int)) : spOf K 1 wf_law [.ref a] H (fun v _ => v = .bl true) fun _ _ _ => False :=
  ⟨rfl, H, [.fls (ns.map .int)], xcNo, Same.refl _, .cons (.fls hS (ints_rp ns)) .nil, tieNo, ns, rfl, hl, fun G' H' v _ r => by
    have r' : Rp K G' (.bl true) v := r
    cases r'
    rfl⟩
theorem walk01 {l : PySem.W.OpenLaw} {q : Program} {loose : List Str} {XP : (Str → Option Value) → Heap → Prop} {YP : World → Heap → Prop} {d : DefRec} {K : Params → PySem.W.Frag} (hn : l.most = some 63) (hdf : d.params.defaults = [])
    (hY : ∀ (w : World) (h : Heap), YP w h → (K w.params).In h)
    (F : ∀ (w : World) (mg : Str → Option Value) (fa : Addr) (h : Heap), (K w.params).In h → h.Ns mainGlobals mg → mg d.name = some (.ref fa) →
      ∃ fd : FuncData, (∀ (s : Shared) (u : Value), BindsTo s fd ⟨[u], []⟩ [("script", u)]) ∧ ∀ base : Heap, (K w.params).In base → base.Ns mainGlobals mg → FnOk l.prog w (K w.params) mg base (L2.CX l.prog w) 18 fa fd ["script"] (spOf (K w.params) 1 wf_law)) :
    PySem.W.WalkO q loose XP YP l.row.toRowW d [] (fun f vs => PySem.call f vs) :=
  L2.walk_of (n := 63) (k := 18) (x := "script") (CX := fun w => L2.CX l.prog w) (sp := fun w => spOf (K w.params) 1 wf_law) hn (by decide) hdf ⟨rfl, by decide, by decide⟩ hY F (fun w H a ns hl _ hS => sp_go hl hS) fun w H s e s' z => by
    obtain ⟨_, _, _, _, _, _, _, _, _, _, _, _, hE⟩ := z
    exact hE
end Tw.k01

open PySem PySem.W PyProof.Rows
set_option maxHeartbeats 0 in
theorem PySem.Challenge.cw_tagwebs_k01_ties_there_and_back_holds : PySem.Challenge.rw_tagwebs_k01_ties_there_and_back.Holds := by
  w_on; o_law; k_head; (case hw => w_witness2)
  k_fill
  refine Tw.k01.walk01 (l := PySem.Challenge.rw_tagwebs_k01_ties_there_and_back) rfl rfl (fun w h Y => PySem.W.kIn_of Y) ?F
  case F =>
    intro w mg fa h KX G hmg
    refine' Tw.k01.facts_mk KX G hmg ?cc_Web ?a1 ?l1 ?c1 ?k1 ?a2 ?l2 ?c2 ?k2 ?a3 ?l3 ?c3 ?k3 ?a4 ?l4 ?c4 ?k4 ?a5 ?l5 ?c5 ?k5 ?a6 ?l6 ?c6 ?k6 ?a7 ?l7 ?c7 ?k7 ?a8 ?l8 ?c8 ?k8 ?a9 ?l9 ?c9 ?k9 ?a10 ?l10 ?c10 ?k10 ?a11 ?i11 ?l11 ?c11 ?k11 ?a12 ?l12 ?c12 ?k12 ?a13 ?l13 ?c13 ?k13 ?a14 ?l14 ?c14 ?k14 ?a15 ?l15 ?c15 ?k15 ?a16 ?l16 ?c16 ?k16 ?a17 ?l17 ?c17 ?k17 ?a18 ?l18 ?c18 ?k18 ?a19 ?i19 ?l19 ?c19 ?k19 ?a20 ?l20 ?c20 ?k20 ?a21 ?l21 ?c21 ?k21 ?a22 ?l22 ?c22 ?k22 ?a23 ?l23 ?c23 ?k23 ?a24 ?l24 ?c24 ?k24 ?a25 ?l25 ?c25 ?k25 ?a26 ?l26 ?c26 ?k26 ?a27 ?l27 ?c27 ?k27 ?a28 ?i28 ?l28 ?c28 ?k28 ?d28_beats ?m28 ?q28 ?a29 ?l29 ?c29 ?k29 ?a30 ?l30 ?c30 ?k30 ?a31 ?i31 ?l31 ?c31 ?k31 ?a32 ?l32 ?c32 ?k32 ?a33 ?i33 ?l33 ?c33 ?k33 ?a34 ?l34 ?c34 ?k34 ?a35 ?l35 ?c35 ?k35 ?z_abs ?z_all ?z_bool ?z_enumerate ?z_int ?z_isinstance ?z_len ?z_list ?z_max ?z_min ?z_range ?z_set ?z_sorted ?z_str ?z_tuple ?z_zip ?g_LETTERS ?pg_Web ?hd_Web ?po_Web ?sa_Web ?ha_Web ?hn_Web ?htk_Web ?hm_Web ?n_Web__nexts ?n_Web__steps ?n_Web_beats ?n_Web_places
    (case cc_Web => k_is)
    (case a1 => k_is)
    (case l1 => k_is)
    (case c1 => k_is)
    (case k1 => k_is)
    (case a2 => k_is)
    (case l2 => k_is)
    (case c2 => k_is)
    (case k2 => k_is)
    (case a3 => k_is)
    (case l3 => k_is)
    (case c3 => k_is)
    (case k3 => k_is)
    (case a4 => k_is)
    (case l4 => k_is)
    (case c4 => k_is)
    (case k4 => k_is)
    (case a5 => k_is)
    (case l5 => k_is)
    (case c5 => k_is)
    (case k5 => k_is)
    (case a6 => k_is)
    (case l6 => k_is)
    (case c6 => k_is)
    (case k6 => k_is)
    (case a7 => k_is)
    (case l7 => k_is)
    (case c7 => k_is)
    (case k7 => k_is)
    (case a8 => k_is)
    (case l8 => k_is)
    (case c8 => k_is)
    (case k8 => k_is)
    (case a9 => k_is)
    (case l9 => k_is)
    (case c9 => k_is)
    (case k9 => k_is)
    (case a10 => k_is)
    (case l10 => k_is)
    (case c10 => k_is)
    (case k10 => k_is)
    (case a11 => k_is)
    (case i11 => k_is)
    (case l11 => k_is)
    (case c11 => k_is)
    (case k11 => k_is)
    (case a12 => k_is)
    (case l12 => k_is)
    (case c12 => k_is)
    (case k12 => k_is)
    (case a13 => k_is)
    (case l13 => k_is)
    (case c13 => k_is)
    (case k13 => k_is)
    (case a14 => k_is)
    (case l14 => k_is)
    (case c14 => k_is)
    (case k14 => k_is)
    (case a15 => k_is)
    (case l15 => k_is)
    (case c15 => k_is)
    (case k15 => k_is)
    (case a16 => k_is)
    (case l16 => k_is)
    (case c16 => k_is)
    (case k16 => k_is)
    (case a17 => k_is)
    (case l17 => k_is)
    (case c17 => k_is)
    (case k17 => k_is)
    (case a18 => k_is)
    (case l18 => k_is)
    (case c18 => k_is)
    (case k18 => k_is)
    (case a19 => k_is)
    (case i19 => k_is)
    (case l19 => k_is)
    (case c19 => k_is)
    (case k19 => k_is)
    (case a20 => k_is)
    (case l20 => k_is)
    (case c20 => k_is)
    (case k20 => k_is)
    (case a21 => k_is)
    (case l21 => k_is)
    (case c21 => k_is)
    (case k21 => k_is)
    (case a22 => k_is)
    (case l22 => k_is)
    (case c22 => k_is)
    (case k22 => k_is)
    (case a23 => k_is)
    (case l23 => k_is)
    (case c23 => k_is)
    (case k23 => k_is)
    (case a24 => k_is)
    (case l24 => k_is)
    (case c24 => k_is)
    (case k24 => k_is)
    (case a25 => k_is)
    (case l25 => k_is)
    (case c25 => k_is)
    (case k25 => k_is)
    (case a26 => k_is)
    (case l26 => k_is)
    (case c26 => k_is)
    (case k26 => k_is)
    (case a27 => k_is)
    (case l27 => k_is)
    (case c27 => k_is)
    (case k27 => k_is)
    (case a28 => k_is)
    (case i28 => k_is)
    (case l28 => k_is)
    (case c28 => k_is)
    (case k28 => k_is)
    (case d28_beats => k_is)
    (case m28 => k_is)
    (case q28 => k_is)
    (case a29 => k_is)
    (case l29 => k_is)
    (case c29 => k_is)
    (case k29 => k_is)
    (case a30 => k_is)
    (case l30 => k_is)
    (case c30 => k_is)
    (case k30 => k_is)
    (case a31 => k_is)
    (case i31 => k_is)
    (case l31 => k_is)
    (case c31 => k_is)
    (case k31 => k_is)
    (case a32 => k_is)
    (case l32 => k_is)
    (case c32 => k_is)
    (case k32 => k_is)
    (case a33 => k_is)
    (case i33 => k_is)
    (case l33 => k_is)
    (case c33 => k_is)
    (case k33 => k_is)
    (case a34 => k_is)
    (case l34 => k_is)
    (case c34 => k_is)
    (case k34 => k_is)
    (case a35 => k_is)
    (case l35 => k_is)
    (case c35 => k_is)
    (case k35 => k_is)
    (case z_abs => k_is)
    (case z_all => k_is)
    (case z_bool => k_is)
    (case z_enumerate => k_is)
    (case z_int => k_is)
    (case z_isinstance => k_is)
    (case z_len => k_is)
    (case z_list => k_is)
    (case z_max => k_is)
    (case z_min => k_is)
    (case z_range => k_is)
    (case z_set => k_is)
    (case z_sorted => k_is)
    (case z_str => k_is)
    (case z_tuple => k_is)
    (case z_zip => k_is)
    (case g_LETTERS => k_is)
    (case pg_Web => k_is)
    (case hd_Web => k_is)
    (case po_Web => k_is)
    (case sa_Web => k_is)
    (case ha_Web => k_is)
    (case hn_Web => k_is)
    (case htk_Web => k_is)
    (case hm_Web => k_is)
    (case n_Web__nexts => k_is)
    (case n_Web__steps => k_is)
    (case n_Web_beats => k_is)
    (case n_Web_places => k_is)
