import PyProof.Rows.All
import Wide.All
import OpenK.AllK
import Wide.FinOn
import HandS.ForMost
import HandS.ExcInit
import HandS.Words
import HandS.Defaults
import HandS.Head2
import HandS.HeadHook2
import HandS.TupAny
import HandS.SortInts
import HandS.Deep
import HandS.IsInst
import HandS.Strs
import HandS.TupSets
import HandS.Star
import HandS.WordsExc
import HandS.Zip
import HandS.MakeKwOnly
import OpenK.KOps
import HandS.Style
import KE.SortData
import HandS.NoneIn
import HandS.Codes
import HandS.Zip0
import PyProof.Draws
import PyProof.EnumMake
import HandS.ExcOwn
import HandS.ExcField
import HandS.ExcIs
import KE.KExcIs
import HandS.Property
import HandS.TupMul
import HandS.More
import PyProof.TupleOfStr
import HandS.Conv
import OpenK.KMeth
import HandS.TryOnly
import PyProof.ExcBaseAll.ValueError
import HandS.IterVal
import HandS.OwnIter
import PyProof.TupleIter
import HandS.TryMany
import HandS.Text
import HandS.FStr
import HandS.Call
import HandS.ClsMeth
import HandS.CallLocal
import KE.DataMinMax
import HandS.HeadEnd
import PySem.Challenge.RW_tagwebs_k33_whole_folds_leave_as_many
set_option Elab.async false
set_option linter.all false
set_option maxRecDepth 100000
set_option autoImplicit false
/-! Tw, the head: the text's top run in the kernel, what it leaves told by tests of the written part. -/
namespace Tw
open PySem PySem.Spec L2 PyProof.Rows
/-- a def of the text: where it stands, its names, its text, its keyword-only defaults -/
structure FnE where
  adr : PySem.W.Frag → Addr
  name : Str
  qual : Str
  st : Stmt
  kwd : List (Str × He.Dv)
def fnAt (K : PySem.W.Frag) (a : Addr) : He.FnW := match K.lookup a with
  | some ⟨_, _, .func fd, _⟩ => some (fd.name, fd.qualname, fd.params, fd.body, fd.scope, fd.globals, fd.closure, fd.builtins)
  | _ => none
def FnE.val (d : FnE) : He.FnW := some (d.name, d.qual, defArgs d.st, .stmts (defBody d.st), defScope d.st, mainGlobals, [], builtinsNs)
def FnE.kws (K : PySem.W.Frag) (d : FnE) : List (Str × V) := d.kwd.map fun q => (q.1, q.2.v K)
def FnE.ok (K : PySem.W.Frag) (d : FnE) : Bool := PySem.W.keepIn K (.ref (d.adr K)) && (match K.lookup (d.adr K) with
  | some ⟨_, _, .func fd, _⟩ => PySem.W.codeIn K fd.code d.qual && (He.dflB K fd.defaults [] && He.kwdB K fd.kwdefaults (d.kws K))
  | _ => false)
theorem and2 {a b : Bool} (h : (a && b) = true) : a = true ∧ b = true := Bool.and_eq_true_iff.mp h
theorem FnE.funD {K : PySem.W.Frag} {d : FnE} (e : fnAt K (d.adr K) = d.val) (c : d.ok K = true) : ∃ fd, FunD K d.name d.qual (defArgs d.st) (defBody d.st) (defScope d.st) [] (d.kws K) (d.adr K) fd := by
  obtain ⟨kp, c2⟩ := and2 c
  unfold fnAt at e
  generalize hq : K.lookup (d.adr K) = q at e c2
  match q, e, c2 with
  | some ⟨oc, od, .func ⟨n1, n2, n3, n4, n5, n6, n7, n8, n9, n10, n11, n12, n13, n14, n15⟩, sl⟩, e, c2 =>
    have e2 : (some (n1, n2, n3, n4, n5, n6, n7, n15) : He.FnW) = some (d.name, d.qual, defArgs d.st, .stmts (defBody d.st), defScope d.st, mainGlobals, [], builtinsNs) := e
    simp only [Option.some.injEq, Prod.mk.injEq] at e2
    obtain ⟨rfl, rfl, rfl, rfl, rfl, rfl, rfl, rfl⟩ := e2
    obtain ⟨k1, k2⟩ := and2 c2
    obtain ⟨k3, k4⟩ := and2 k2
    exact ⟨_, ⟨oc, od, n8, n9, n10, n11, n12, n13, n14, sl, rfl, hq, k1, He.dflB_ok k3, He.kwdB_ok k4⟩, kp⟩
theorem FunD.fun {K : PySem.W.Frag} {x q : Str} {st : Stmt} {kws : List (Str × V)} {f : Addr} {fd : FuncData} (F : FunD K x q (defArgs st) (defBody st) (defScope st) [] kws f fd) : Fun K x q st f fd := by
  obtain ⟨⟨oc, od, dV, kV, doc, pm, an, cdv, ct, osl, e, lk, cd, hd, hk⟩, kp⟩ := F
  rcases hd with ⟨_, rfl⟩ | ⟨z, _⟩
  · exact ⟨⟨oc, od, kV, doc, pm, an, cdv, ct, osl, e, lk, cd⟩, kp⟩
  · exact absurd rfl z
/-! ### the Hook -/
abbrev AlK : Type := Bool × List He.FnW
def obsK (fn : List FnE) (ex : List (PySem.W.Frag → Bool)) (K : PySem.W.Frag) : AlK := ((ex.all fun f => f K) && fn.all fun d => d.ok K, fn.map fun d => fnAt K (d.adr K))
def valK (fn : List FnE) : AlK := (true, fn.map FnE.val)
structure SaysK (fn : List FnE) (ex : List (PySem.W.Frag → Bool)) (K : PySem.W.Frag) : Prop where
  e : obsK fn ex K = valK fn
/-- what of an object the tests need -/
def refsC (o : Obj) : List Addr := match o.data with
  | .func fd => He.refV fd.code ++ He.refV fd.kwdefaults
  | .cls cd => [cd.ns]
  | .dict es _ => es.toList.flatMap fun e => He.refV e.val
  | .fields vs => vs.toList.flatMap He.refV
  | _ => []
def grow1 (g : Addr → Option Obj) (as : List Addr) : List Addr := as.flatMap fun a => match g a with
  | some o => refsC o
  | none => []
def asC (g : Addr → Option Obj) : List Addr :=
  let l0 := [mainGlobals, cStatics]; let l1 := grow1 g l0; let l2 := grow1 g l1; let l3 := grow1 g l2; let l4 := grow1 g l3; let l5 := grow1 g l4
  l0 ++ (l1 ++ (l2 ++ (l3 ++ (l4 ++ l5))))
def obsKG (fn : List FnE) (ex : List (PySem.W.Frag → Bool)) (g : Addr → Option Obj) : AlK := obsK fn ex (He.frG g (asC g))
def hookK (fn : List FnE) (ex : List (PySem.W.Frag → Bool)) : PySem.W.Hook where
  α := AlK
  obs := fun s => obsKG fn ex s.heap.get?
  val := fun _ => valK fn
  says := fun _ h => ∃ K : PySem.W.Frag, K.In h ∧ SaysK fn ex K
  of := fun _ _ e => ⟨_, He.frG_in, ⟨e⟩⟩
  keeps := fun _ _ _ ⟨K, hK, c⟩ k => ⟨K, PySem.W.Frag.In.keeps hK k, c⟩
theorem obsKG_eq {fn : List FnE} {ex : List (PySem.W.Frag → Bool)} {g : Addr → Option Obj} {s : Shared} (h : ∀ a, g a = s.heap.get? a) : obsKG fn ex g = (hookK fn ex).obs s := by
  have e : g = s.heap.get? := funext h
  rw [e] <;> rfl
section
variable {fn : List FnE} {ex : List (PySem.W.Frag → Bool)} {K : PySem.W.Frag}
theorem SaysK.b (c : SaysK fn ex K) (i : Nat) {f : PySem.W.Frag → Bool} (h : ex[i]? = some f := by rfl) : f K = true := by
  have c1 := (and2 (show ((ex.all fun f => f K) && fn.all fun d => d.ok K) = true from congrArg (fun z : AlK => z.1) c.e)).1
  exact List.all_eq_true.mp c1 f (List.mem_of_getElem? h)
theorem SaysK.p (c : SaysK fn ex K) (i : Nat) {p : PySem.W.Frag → Prop} {dp : ∀ K, Decidable (p K)} (h : ex[i]? = some (fun K => @decide (p K) (dp K)) := by rfl) : p K := @of_decide_eq_true (p K) (dp K) (c.b i h)
theorem SaysK.d (c : SaysK fn ex K) (i : Nat) {d : FnE} (h : fn[i]? = some d := by rfl) : ∃ fd, FunD K d.name d.qual (defArgs d.st) (defBody d.st) (defScope d.st) [] (d.kws K) (d.adr K) fd := by
  have c2 := (and2 (show ((ex.all fun f => f K) && fn.all fun d => d.ok K) = true from congrArg (fun z : AlK => z.1) c.e)).2
  have e : fn.map (fun d => fnAt K (d.adr K)) = fn.map FnE.val := congrArg (fun z : AlK => z.2) c.e
  have e2 : (fn.map fun d => fnAt K (d.adr K))[i]? = (fn.map FnE.val)[i]? := by rw [e]
  rw [List.getElem?_map, List.getElem?_map, h] at e2
  exact FnE.funD (Option.some.inj e2) (List.all_eq_true.mp c2 d (List.mem_of_getElem? h))
end
/-! ### tests -/
abbrev gA (x : Str) (K : PySem.W.Frag) : Addr := He.ga K x
abbrev mA (x m : Str) (K : PySem.W.Frag) : Addr := He.ma K (He.ga K x) m
/-- the function that a property (a static method) at p wraps -/
def wrapA (T : String) (p : PySem.W.Frag → Addr) (K : PySem.W.Frag) : Addr := match PySem.W.recIn K (p K) T with
  | some (.ref f :: _) => f
  | _ => 0
def wrapB (T : String) (p : PySem.W.Frag → Addr) (K : PySem.W.Frag) : Bool := match PySem.W.recIn K (p K) T with
  | some (.ref _ :: _) => true
  | _ => false
theorem wrapB_ok {T : String} {p : PySem.W.Frag → Addr} {K : PySem.W.Frag} (h : wrapB T p K = true) : ∃ re, PySem.W.recIn K (p K) T = some (.ref (wrapA T p K) :: re) := by
  unfold wrapB at h
  unfold wrapA
  split at h
  · rename_i f re e
    rw [e]
    exact ⟨re, rfl⟩
  · cases h
def strB (x z : Str) (K : PySem.W.Frag) : Bool := match PySem.W.nsIn K mainGlobals x with
  | some (some (.str y _)) => decide (y = z)
  | _ => false
theorem strB_ok {x z : Str} {K : PySem.W.Frag} (h : strB x z K = true) : ∃ t, PySem.W.nsIn K mainGlobals x = some (some (.str z t)) := by
  unfold strB at h
  split at h
  · rename_i y t e
    rw [e, of_decide_eq_true h]
    exact ⟨t, rfl⟩
  · cases h
/-- a class of errors with an __init__ of its own -/
def oexB (C : PySem.W.Frag → Addr) (K : PySem.W.Frag) : Bool := match K.lookup (C K) with
  | some ⟨.type "type", _, .cls cd, sl⟩ => (match cd.mro, sl.toList with
    | .ref C' :: bm, [_, _, _, _, some (.builtin n), _] => decide (C' = C K) && (decide (n = "ValueError.__new__") && (!cd.hasDel && (cd.hasDict && PySem.HandSPX.refsVE bm)))
    | _, _ => false)
  | _ => false
theorem oexB_ok {C : PySem.W.Frag → Addr} {K : PySem.W.Frag} (h : oexB C K = true) : ∃ nm q N bs bm sn sub ab col dd k0 k1 k2 k3 k5, K.lookup (C K) = some (excClassObj nm q (C K) N bs bm true sn sub ab col dd k0 k1 k2 k3 k5 "ValueError.__new__") ∧ PySem.HandSPX.refsVE bm = true := by
  unfold oexB at h
  split at h
  · rename_i dd cd sl ho
    split at h
    · rename_i C' bm k0 k1 k2 k3 n k5 hm hs
      obtain ⟨h1, h2a⟩ := and2 h
      obtain ⟨h2, h3a⟩ := and2 h2a
      obtain ⟨h3, h4a⟩ := and2 h3a
      obtain ⟨h4, h5⟩ := and2 h4a
      clear h h2a h3a h4a
      have e1 := of_decide_eq_true h1
      have e2 := of_decide_eq_true h2
      obtain ⟨nm, bs, mro, ns, qn, hd, sn, sub, ab, col, del⟩ := cd
      simp only [Bool.not_eq_true'] at h3
      dsimp only at hm h3 h4
      subst hm h3 h4 e2
      have hsl : sl = #[k0, k1, k2, k3, some (.builtin "ValueError.__new__"), k5] := by
        obtain ⟨l⟩ := sl
        simp only at hs
        rw [hs]
      subst hsl
      rw [ho, e1]
      exact ⟨nm, qn, ns, bs, bm, sn, sub, ab, col, dd, k0, k1, k2, k3, k5, rfl, h5⟩
    · cases h
  · cases h
end Tw

/-! the head: a tuple of texts of a module -/
namespace Tw
open PySem PySem.Spec L2 PyProof.Rows
end Tw

namespace Tw.k33
open PySem PySem.Spec L2 PyProof.Rows Tw

def topS (i : Nat) : Stmt := PySem.Challenge.pw_tagwebs_k33_whole_folds_leave_as_many.main.body.getD i (.Pass ⟨0, 0, 0, 0⟩)
abbrev s_law_draws : Stmt := topS 45
abbrev s_law_covered : Stmt := topS 51
abbrev s_law_possible : Stmt := topS 52
abbrev s_law_finished : Stmt := topS 53
abbrev s_law_is_int : Stmt := topS 43
abbrev s_law_same : Stmt := topS 44
abbrev s_Web___len__ : Stmt := inClass (topS 32) 1
abbrev s_check_place : Stmt := topS 13
abbrev s_Web_steps : Stmt := inClass (topS 32) 12
abbrev s_is_covered : Stmt := topS 18
abbrev s_least_fold : Stmt := topS 21
abbrev s_Folding_finished : Stmt := inClass (topS 16) 3
abbrev s_Folding_shadow : Stmt := inClass (topS 16) 4
abbrev s_Folding_whole : Stmt := inClass (topS 16) 2
abbrev s_law_is_finished : Stmt := topS 54
abbrev s_law_is_plain : Stmt := topS 50
abbrev s_places_into : Stmt := topS 40
abbrev s_backward_nexts : Stmt := topS 39
abbrev s_Web_doorless : Stmt := inClass (topS 32) 9
abbrev s_Web_plain : Stmt := inClass (topS 32) 8
abbrev s_check_plain : Stmt := topS 14
abbrev s_without : Stmt := topS 19
abbrev s_left_by : Stmt := topS 20
abbrev s_Folding___init__ : Stmt := inClass (topS 16) 0
abbrev s_fold_up : Stmt := topS 17
abbrev s_law_refused_k33 : Stmt := topS 55
abbrev s_law_names : Stmt := topS 46
abbrev s_law_table : Stmt := topS 48
abbrev s_law_way_ties : Stmt := topS 47
abbrev s_law_web_of : Stmt := topS 49
abbrev s_Web___eq__ : Stmt := inClass (topS 32) 4
abbrev s_Folding___eq__ : Stmt := inClass (topS 16) 1
abbrev s_check_part : Stmt := topS 34
abbrev s_restricted_nexts : Stmt := topS 41
abbrev s_ties_between : Stmt := topS 30
abbrev s_ties_of : Stmt := topS 29
abbrev s_is_name : Stmt := topS 24
abbrev s_check_names : Stmt := topS 33
abbrev s_is_set : Stmt := topS 11
abbrev s_is_tie : Stmt := topS 26
abbrev s_check_ties : Stmt := topS 35
abbrev s_nexts_at : Stmt := topS 28
abbrev s_nexts_of : Stmt := topS 27
abbrev s_steps_of : Stmt := topS 38
abbrev s_Web___init__ : Stmt := inClass (topS 32) 0
abbrev s_woven : Stmt := topS 36
abbrev s_Web_restricted : Stmt := inClass (topS 32) 18
abbrev s_law : Stmt := topS 56
abbrev s_BadFold___init__ : Stmt := inClass (topS 9) 0
abbrev s_BadNumber___init__ : Stmt := inClass (topS 8) 0
abbrev s_BadWeb___init__ : Stmt := inClass (topS 5) 0
abbrev s_UnknownPlace___init__ : Stmt := inClass (topS 7) 0
def fns0 : List FnE := [
  ⟨(gA "_law_draws"), "_law_draws", "_law_draws", s_law_draws, []⟩,
  ⟨(gA "_law_covered"), "_law_covered", "_law_covered", s_law_covered, []⟩,
  ⟨(gA "_law_possible"), "_law_possible", "_law_possible", s_law_possible, []⟩,
  ⟨(gA "_law_finished"), "_law_finished", "_law_finished", s_law_finished, []⟩,
  ⟨(gA "_law_is_int"), "_law_is_int", "_law_is_int", s_law_is_int, []⟩,
  ⟨(gA "_law_same"), "_law_same", "_law_same", s_law_same, []⟩,
  ⟨(mA "Web" "__len__"), "__len__", "Web.__len__", s_Web___len__, []⟩,
  ⟨(gA "check_place"), "check_place", "check_place", s_check_place, []⟩,
  ⟨(mA "Web" "steps"), "steps", "Web.steps", s_Web_steps, []⟩,
  ⟨(gA "is_covered"), "is_covered", "is_covered", s_is_covered, []⟩,
  ⟨(gA "least_fold"), "least_fold", "least_fold", s_least_fold, []⟩,
  ⟨(wrapA "property" (mA "Folding" "finished")), "finished", "Folding.finished", s_Folding_finished, []⟩,
  ⟨(mA "Folding" "shadow"), "shadow", "Folding.shadow", s_Folding_shadow, []⟩,
  ⟨(wrapA "property" (mA "Folding" "whole")), "whole", "Folding.whole", s_Folding_whole, []⟩,
  ⟨(gA "_law_is_finished"), "_law_is_finished", "_law_is_finished", s_law_is_finished, []⟩,
  ⟨(gA "_law_is_plain"), "_law_is_plain", "_law_is_plain", s_law_is_plain, []⟩,
  ⟨(gA "places_into"), "places_into", "places_into", s_places_into, []⟩,
  ⟨(gA "backward_nexts"), "backward_nexts", "backward_nexts", s_backward_nexts, []⟩,
  ⟨(wrapA "property" (mA "Web" "doorless")), "doorless", "Web.doorless", s_Web_doorless, []⟩,
  ⟨(wrapA "property" (mA "Web" "plain")), "plain", "Web.plain", s_Web_plain, []⟩,
  ⟨(gA "check_plain"), "check_plain", "check_plain", s_check_plain, []⟩,
  ⟨(gA "without"), "without", "without", s_without, []⟩,
  ⟨(gA "left_by"), "left_by", "left_by", s_left_by, []⟩,
  ⟨(mA "Folding" "__init__"), "__init__", "Folding.__init__", s_Folding___init__, []⟩,
  ⟨(gA "fold_up"), "fold_up", "fold_up", s_fold_up, []⟩,
  ⟨(gA "_law_refused"), "_law_refused", "_law_refused", s_law_refused_k33, []⟩,
  ⟨(gA "_law_names"), "_law_names", "_law_names", s_law_names, []⟩,
  ⟨(gA "_law_table"), "_law_table", "_law_table", s_law_table, []⟩,
  ⟨(gA "_law_way_ties"), "_law_way_ties", "_law_way_ties", s_law_way_ties, []⟩,
  ⟨(gA "_law_web_of"), "_law_web_of", "_law_web_of", s_law_web_of, []⟩]
def fns1 : List FnE := [
  ⟨(mA "Web" "__eq__"), "__eq__", "Web.__eq__", s_Web___eq__, []⟩,
  ⟨(mA "Folding" "__eq__"), "__eq__", "Folding.__eq__", s_Folding___eq__, []⟩,
  ⟨(gA "check_part"), "check_part", "check_part", s_check_part, []⟩,
  ⟨(gA "restricted_nexts"), "restricted_nexts", "restricted_nexts", s_restricted_nexts, []⟩,
  ⟨(gA "ties_between"), "ties_between", "ties_between", s_ties_between, []⟩,
  ⟨(gA "ties_of"), "ties_of", "ties_of", s_ties_of, []⟩,
  ⟨(gA "is_name"), "is_name", "is_name", s_is_name, []⟩,
  ⟨(gA "check_names"), "check_names", "check_names", s_check_names, []⟩,
  ⟨(gA "is_set"), "is_set", "is_set", s_is_set, []⟩,
  ⟨(gA "is_tie"), "is_tie", "is_tie", s_is_tie, []⟩,
  ⟨(gA "check_ties"), "check_ties", "check_ties", s_check_ties, []⟩,
  ⟨(gA "nexts_at"), "nexts_at", "nexts_at", s_nexts_at, []⟩,
  ⟨(gA "nexts_of"), "nexts_of", "nexts_of", s_nexts_of, []⟩,
  ⟨(gA "steps_of"), "steps_of", "steps_of", s_steps_of, []⟩,
  ⟨(mA "Web" "__init__"), "__init__", "Web.__init__", s_Web___init__, [("beats", .int 1)]⟩,
  ⟨(gA "woven"), "woven", "woven", s_woven, []⟩,
  ⟨(mA "Web" "restricted"), "restricted", "Web.restricted", s_Web_restricted, []⟩,
  ⟨(gA "law"), "law", "law", s_law, []⟩,
  ⟨(mA "BadFold" "__init__"), "__init__", "BadFold.__init__", s_BadFold___init__, []⟩,
  ⟨(mA "BadNumber" "__init__"), "__init__", "BadNumber.__init__", s_BadNumber___init__, []⟩,
  ⟨(mA "BadWeb" "__init__"), "__init__", "BadWeb.__init__", s_BadWeb___init__, []⟩,
  ⟨(mA "UnknownPlace" "__init__"), "__init__", "UnknownPlace.__init__", s_UnknownPlace___init__, []⟩]
def exs0 : List (PySem.W.Frag → Bool) := [
  fun K => decide (PySem.W.nsIn K mainGlobals "Folding" = some (some (.ref (gA "Folding" K)))),
  fun K => decide (PySem.W.nsIn K mainGlobals "Web" = some (some (.ref (gA "Web" K)))),
  fun K => decide (PySem.W.nsIn K mainGlobals "BadFold" = some (some (.ref (gA "BadFold" K)))),
  fun K => decide (PySem.W.nsIn K mainGlobals "BadNumber" = some (some (.ref (gA "BadNumber" K)))),
  fun K => decide (PySem.W.nsIn K mainGlobals "BadWeb" = some (some (.ref (gA "BadWeb" K)))),
  fun K => decide (PySem.W.nsIn K mainGlobals "NotPlain" = some (some (.ref (gA "NotPlain" K)))),
  fun K => decide (PySem.W.nsIn K mainGlobals "TagError" = some (some (.ref (gA "TagError" K)))),
  fun K => decide (PySem.W.nsIn K mainGlobals "UnknownPlace" = some (some (.ref (gA "UnknownPlace" K)))),
  fun K => decide (PySem.W.nsIn K mainGlobals "_law_draws" = some (some (.ref ((gA "_law_draws") K)))),
  fun K => decide (PySem.W.nsIn K mainGlobals "_law_covered" = some (some (.ref ((gA "_law_covered") K)))),
  fun K => decide (PySem.W.nsIn K mainGlobals "_law_possible" = some (some (.ref ((gA "_law_possible") K)))),
  fun K => decide (PySem.W.nsIn K mainGlobals "_law_finished" = some (some (.ref ((gA "_law_finished") K)))),
  fun K => decide (PySem.W.nsIn K mainGlobals "_law_is_int" = some (some (.ref ((gA "_law_is_int") K)))),
  fun K => decide (PySem.W.nsIn K mainGlobals "_law_same" = some (some (.ref ((gA "_law_same") K)))),
  fun K => decide (PySem.W.findIn K (.ref (gA "Web" K)) "__len__" = some (some (.ref ((mA "Web" "__len__") K)))),
  fun K => decide (PySem.W.isFn K (.ref ((mA "Web" "__len__") K)) = true),
  fun K => decide (PySem.W.nsIn K mainGlobals "check_place" = some (some (.ref ((gA "check_place") K)))),
  fun K => decide (PySem.W.findIn K (.ref (gA "Web" K)) "steps" = some (some (.ref ((mA "Web" "steps") K)))),
  fun K => decide (PySem.W.isFn K (.ref ((mA "Web" "steps") K)) = true),
  fun K => decide (PySem.W.nsIn K mainGlobals "is_covered" = some (some (.ref ((gA "is_covered") K)))),
  fun K => decide (PySem.W.nsIn K mainGlobals "least_fold" = some (some (.ref ((gA "least_fold") K)))),
  fun K => decide (PySem.W.findIn K (.ref (gA "Folding" K)) "finished" = some (some (.ref (mA "Folding" "finished" K)))),
  fun K => decide (PySem.W.specialIn K (.ref (mA "Folding" "finished" K)) "__get__" = some (some (.builtin "property.__get__"))),
  fun K => decide (PySem.W.takesIn K (.ref (mA "Folding" "finished" K)) = some true),
  wrapB "property" (mA "Folding" "finished"),
  fun K => decide (PySem.W.findIn K (.ref (gA "Folding" K)) "shadow" = some (some (.ref ((mA "Folding" "shadow") K)))),
  fun K => decide (PySem.W.isFn K (.ref ((mA "Folding" "shadow") K)) = true),
  fun K => decide (PySem.W.findIn K (.ref (gA "Folding" K)) "whole" = some (some (.ref (mA "Folding" "whole" K)))),
  fun K => decide (PySem.W.specialIn K (.ref (mA "Folding" "whole" K)) "__get__" = some (some (.builtin "property.__get__"))),
  fun K => decide (PySem.W.takesIn K (.ref (mA "Folding" "whole" K)) = some true)]
def exs1 : List (PySem.W.Frag → Bool) := [
  wrapB "property" (mA "Folding" "whole"),
  fun K => decide (PySem.W.nsIn K mainGlobals "_law_is_finished" = some (some (.ref ((gA "_law_is_finished") K)))),
  fun K => decide (PySem.W.nsIn K mainGlobals "_law_is_plain" = some (some (.ref ((gA "_law_is_plain") K)))),
  fun K => decide (PySem.W.nsIn K mainGlobals "places_into" = some (some (.ref ((gA "places_into") K)))),
  fun K => decide (PySem.W.nsIn K mainGlobals "backward_nexts" = some (some (.ref ((gA "backward_nexts") K)))),
  fun K => decide (PySem.W.findIn K (.ref (gA "Web" K)) "doorless" = some (some (.ref (mA "Web" "doorless" K)))),
  fun K => decide (PySem.W.specialIn K (.ref (mA "Web" "doorless" K)) "__get__" = some (some (.builtin "property.__get__"))),
  fun K => decide (PySem.W.takesIn K (.ref (mA "Web" "doorless" K)) = some true),
  wrapB "property" (mA "Web" "doorless"),
  fun K => decide (PySem.W.findIn K (.ref (gA "Web" K)) "plain" = some (some (.ref (mA "Web" "plain" K)))),
  fun K => decide (PySem.W.specialIn K (.ref (mA "Web" "plain" K)) "__get__" = some (some (.builtin "property.__get__"))),
  fun K => decide (PySem.W.takesIn K (.ref (mA "Web" "plain" K)) = some true),
  wrapB "property" (mA "Web" "plain"),
  fun K => decide (PySem.W.nsIn K mainGlobals "check_plain" = some (some (.ref ((gA "check_plain") K)))),
  fun K => decide (PySem.W.nsIn K mainGlobals "without" = some (some (.ref ((gA "without") K)))),
  fun K => decide (PySem.W.nsIn K mainGlobals "left_by" = some (some (.ref ((gA "left_by") K)))),
  fun K => decide (PySem.W.findIn K (.ref (gA "Folding" K)) "__init__" = some (some (.ref ((mA "Folding" "__init__") K)))),
  fun K => decide (PySem.W.isFn K (.ref ((mA "Folding" "__init__") K)) = true),
  fun K => decide (PySem.W.makesIn K (gA "Folding" K) = true),
  fun K => decide (PySem.W.keepIn K (.ref (gA "Folding" K)) = true),
  fun K => decide (PySem.W.nsIn K mainGlobals "fold_up" = some (some (.ref ((gA "fold_up") K)))),
  fun K => decide (PySem.W.nsIn K mainGlobals "_law_refused" = some (some (.ref ((gA "_law_refused") K)))),
  fun K => decide (PySem.W.nsIn K mainGlobals "_law_names" = some (some (.ref ((gA "_law_names") K)))),
  fun K => decide (PySem.W.nsIn K mainGlobals "_law_table" = some (some (.ref ((gA "_law_table") K)))),
  fun K => decide (PySem.W.nsIn K mainGlobals "_law_way_ties" = some (some (.ref ((gA "_law_way_ties") K)))),
  fun K => decide (PySem.W.nsIn K mainGlobals "_law_web_of" = some (some (.ref ((gA "_law_web_of") K)))),
  fun K => decide (PySem.W.findIn K (.ref (gA "Web" K)) "__eq__" = some (some (.ref ((mA "Web" "__eq__") K)))),
  fun K => decide (PySem.W.isFn K (.ref ((mA "Web" "__eq__") K)) = true),
  fun K => decide (PySem.W.findIn K (.ref (gA "Folding" K)) "__eq__" = some (some (.ref ((mA "Folding" "__eq__") K)))),
  fun K => decide (PySem.W.isFn K (.ref ((mA "Folding" "__eq__") K)) = true)]
def exs2 : List (PySem.W.Frag → Bool) := [
  fun K => decide (PySem.W.nsIn K mainGlobals "check_part" = some (some (.ref ((gA "check_part") K)))),
  fun K => decide (PySem.W.nsIn K mainGlobals "restricted_nexts" = some (some (.ref ((gA "restricted_nexts") K)))),
  fun K => decide (PySem.W.nsIn K mainGlobals "ties_between" = some (some (.ref ((gA "ties_between") K)))),
  fun K => decide (PySem.W.nsIn K mainGlobals "ties_of" = some (some (.ref ((gA "ties_of") K)))),
  fun K => decide (PySem.W.nsIn K mainGlobals "is_name" = some (some (.ref ((gA "is_name") K)))),
  fun K => decide (PySem.W.nsIn K mainGlobals "check_names" = some (some (.ref ((gA "check_names") K)))),
  fun K => decide (PySem.W.nsIn K mainGlobals "is_set" = some (some (.ref ((gA "is_set") K)))),
  fun K => decide (PySem.W.nsIn K mainGlobals "is_tie" = some (some (.ref ((gA "is_tie") K)))),
  fun K => decide (PySem.W.nsIn K mainGlobals "check_ties" = some (some (.ref ((gA "check_ties") K)))),
  fun K => decide (PySem.W.nsIn K mainGlobals "nexts_at" = some (some (.ref ((gA "nexts_at") K)))),
  fun K => decide (PySem.W.nsIn K mainGlobals "nexts_of" = some (some (.ref ((gA "nexts_of") K)))),
  fun K => decide (PySem.W.nsIn K mainGlobals "steps_of" = some (some (.ref ((gA "steps_of") K)))),
  fun K => decide (PySem.W.findIn K (.ref (gA "Web" K)) "__init__" = some (some (.ref ((mA "Web" "__init__") K)))),
  fun K => decide (PySem.W.isFn K (.ref ((mA "Web" "__init__") K)) = true),
  fun K => decide (PySem.W.makesIn K (gA "Web" K) = true),
  fun K => decide (PySem.W.keepIn K (.ref (gA "Web" K)) = true),
  fun K => decide (PySem.W.nsIn K mainGlobals "woven" = some (some (.ref ((gA "woven") K)))),
  fun K => decide (PySem.W.findIn K (.ref (gA "Web" K)) "restricted" = some (some (.ref ((mA "Web" "restricted") K)))),
  fun K => decide (PySem.W.isFn K (.ref ((mA "Web" "restricted") K)) = true),
  fun K => decide (PySem.W.nsIn K mainGlobals "law" = some (some (.ref ((gA "law") K)))),
  fun K => decide (PySem.W.findIn K (.ref (gA "BadFold" K)) "__init__" = some (some (.ref ((mA "BadFold" "__init__") K)))),
  fun K => decide (PySem.W.typeIn K (.ref ((mA "BadFold" "__init__") K)) = some (.type "function")),
  oexB (gA "BadFold"),
  fun K => decide (PySem.W.findIn K (.ref (gA "BadFold" K)) "__setattr__" = some (some (.builtin "object.__setattr__"))),
  fun K => decide (PySem.W.subIn K (.ref (gA "BadFold" K)) (.type "BaseException") = some true),
  fun K => decide (PySem.W.typeIn K (.ref (gA "BadFold" K)) = some (.type "type")),
  fun K => decide (PySem.W.keepIn K (.ref (gA "BadFold" K)) = true),
  fun K => decide (PySem.W.findIn K (.ref (gA "BadFold" K)) "number" = some none),
  fun K => decide (PySem.W.findIn K (.ref (gA "BadNumber" K)) "__init__" = some (some (.ref ((mA "BadNumber" "__init__") K)))),
  fun K => decide (PySem.W.typeIn K (.ref ((mA "BadNumber" "__init__") K)) = some (.type "function"))]
def exs3 : List (PySem.W.Frag → Bool) := [
  oexB (gA "BadNumber"),
  fun K => decide (PySem.W.findIn K (.ref (gA "BadNumber" K)) "__setattr__" = some (some (.builtin "object.__setattr__"))),
  fun K => decide (PySem.W.subIn K (.ref (gA "BadNumber" K)) (.type "BaseException") = some true),
  fun K => decide (PySem.W.typeIn K (.ref (gA "BadNumber" K)) = some (.type "type")),
  fun K => decide (PySem.W.keepIn K (.ref (gA "BadNumber" K)) = true),
  fun K => decide (PySem.W.findIn K (.ref (gA "BadNumber" K)) "number" = some none),
  fun K => decide (PySem.W.findIn K (.ref (gA "BadWeb" K)) "__init__" = some (some (.ref ((mA "BadWeb" "__init__") K)))),
  fun K => decide (PySem.W.typeIn K (.ref ((mA "BadWeb" "__init__") K)) = some (.type "function")),
  oexB (gA "BadWeb"),
  fun K => decide (PySem.W.findIn K (.ref (gA "BadWeb" K)) "__setattr__" = some (some (.builtin "object.__setattr__"))),
  fun K => decide (PySem.W.subIn K (.ref (gA "BadWeb" K)) (.type "BaseException") = some true),
  fun K => decide (PySem.W.typeIn K (.ref (gA "BadWeb" K)) = some (.type "type")),
  fun K => decide (PySem.W.keepIn K (.ref (gA "BadWeb" K)) = true),
  fun K => decide (PySem.W.findIn K (.ref (gA "BadWeb" K)) "part" = some none),
  fun K => decide (PySem.W.findIn K (.ref (gA "BadWeb" K)) "place" = some none),
  fun K => decide (PySem.W.findIn K (.ref (gA "UnknownPlace" K)) "__init__" = some (some (.ref ((mA "UnknownPlace" "__init__") K)))),
  fun K => decide (PySem.W.typeIn K (.ref ((mA "UnknownPlace" "__init__") K)) = some (.type "function")),
  oexB (gA "UnknownPlace"),
  fun K => decide (PySem.W.findIn K (.ref (gA "UnknownPlace" K)) "__setattr__" = some (some (.builtin "object.__setattr__"))),
  fun K => decide (PySem.W.subIn K (.ref (gA "UnknownPlace" K)) (.type "BaseException") = some true),
  fun K => decide (PySem.W.typeIn K (.ref (gA "UnknownPlace" K)) = some (.type "type")),
  fun K => decide (PySem.W.keepIn K (.ref (gA "UnknownPlace" K)) = true),
  fun K => decide (PySem.W.findIn K (.ref (gA "UnknownPlace" K)) "place" = some none),
  fun K => decide (PySem.W.excIn K (gA "NotPlain" K) [.type "ValueError", .type "Exception", .type "BaseException", .type "object"] "ValueError.__new__" = true),
  fun K => decide (PySem.W.keepIn K (.ref (gA "NotPlain" K)) = true),
  fun K => decide (PySem.W.subIn K (.ref (gA "NotPlain" K)) (.type "BaseException") = some true),
  fun K => decide (PySem.W.typeIn K (.ref (gA "NotPlain" K)) = some (.type "type")),
  fun K => decide (PySem.W.nsIn K mainGlobals "abs" = some none),
  fun K => decide (PySem.W.nsIn K mainGlobals "all" = some none),
  fun K => decide (PySem.W.nsIn K mainGlobals "bool" = some none)]
def exs4 : List (PySem.W.Frag → Bool) := [
  fun K => decide (PySem.W.nsIn K mainGlobals "enumerate" = some none),
  fun K => decide (PySem.W.nsIn K mainGlobals "int" = some none),
  fun K => decide (PySem.W.nsIn K mainGlobals "isinstance" = some none),
  fun K => decide (PySem.W.nsIn K mainGlobals "len" = some none),
  fun K => decide (PySem.W.nsIn K mainGlobals "list" = some none),
  fun K => decide (PySem.W.nsIn K mainGlobals "min" = some none),
  fun K => decide (PySem.W.nsIn K mainGlobals "range" = some none),
  fun K => decide (PySem.W.nsIn K mainGlobals "set" = some none),
  fun K => decide (PySem.W.nsIn K mainGlobals "sorted" = some none),
  fun K => decide (PySem.W.nsIn K mainGlobals "str" = some none),
  fun K => decide (PySem.W.nsIn K mainGlobals "tuple" = some none),
  fun K => decide (PySem.W.nsIn K mainGlobals "zip" = some none),
  strB "LETTERS" "abcdefghijklmnopqrstuvwxyz",
  fun K => decide (PySem.W.plainGet K (gA "Folding" K) Str.empty = true),
  fun K => decide (PySem.W.hasDictIn K (gA "Folding" K) = true),
  fun K => decide (PySem.W.plainOver K (gA "Folding" K) = true),
  fun K => decide (PySem.W.findIn K (.ref (gA "Folding" K)) "__setattr__" = some (some (.builtin "object.__setattr__"))),
  fun K => decide (PySem.W.plainGet K (gA "Web" K) Str.empty = true),
  fun K => decide (PySem.W.hasDictIn K (gA "Web" K) = true),
  fun K => decide (PySem.W.plainOver K (gA "Web" K) = true),
  fun K => decide (PySem.W.findIn K (.ref (gA "Web" K)) "__setattr__" = some (some (.builtin "object.__setattr__"))),
  fun K => decide (PySem.W.findIn K (.ref (gA "Folding" K)) "__class__" = some (some (.builtin "object.__class__"))),
  fun K => decide (PySem.W.specialIn K (.builtin "object.__class__") "__get__" = some (some (.builtin "getset_descriptor.__get__"))),
  fun K => decide (PySem.W.takesIn K (.builtin "object.__class__") = some true),
  fun K => decide (PySem.W.mroIn K (gA "Folding" K) (.type "object") = some true),
  fun K => decide (PySem.W.findIn K (.ref (gA "Web" K)) "__class__" = some (some (.builtin "object.__class__"))),
  fun K => decide (PySem.W.mroIn K (gA "Web" K) (.type "object") = some true),
  fun K => decide (PySem.W.hasDictIn K (gA "NotPlain" K) = true),
  fun K => decide (PySem.W.subIn K (.ref (gA "NotPlain" K)) (.ref (gA "NotPlain" K)) = some true),
  fun K => decide (PySem.W.findIn K (.ref (gA "NotPlain" K)) "__getattribute__" = some (some (.builtin "BaseException.__getattribute__")))]
def exs5 : List (PySem.W.Frag → Bool) := [
  fun K => decide (PySem.W.findIn K (.ref (gA "NotPlain" K)) "__getattr__" = some none),
  fun K => decide (PySem.W.findIn K (.ref (gA "NotPlain" K)) "__class__" = some (some (.builtin "object.__class__"))),
  fun K => decide (PySem.W.mroIn K (gA "NotPlain" K) (.type "object") = some true),
  fun K => decide (PySem.W.hasDictIn K (gA "TagError" K) = true),
  fun K => decide (PySem.W.typeIn K (.ref (gA "TagError" K)) = some (.type "type")),
  fun K => decide (PySem.W.subIn K (.ref (gA "NotPlain" K)) (.ref (gA "TagError" K)) = some true),
  fun K => decide (PySem.W.findIn K (.ref (gA "Folding" K)) "folds" = some none),
  fun K => decide (PySem.W.findIn K (.ref (gA "Folding" K)) "left" = some none),
  fun K => decide (PySem.W.findIn K (.ref (gA "Folding" K)) "web" = some none),
  fun K => decide (PySem.W.findIn K (.ref (gA "Web" K)) "_nexts" = some none),
  fun K => decide (PySem.W.findIn K (.ref (gA "Web" K)) "_steps" = some none),
  fun K => decide (PySem.W.findIn K (.ref (gA "Web" K)) "beats" = some none),
  fun K => decide (PySem.W.findIn K (.ref (gA "Web" K)) "places" = some none)]
def fns : List FnE := fns0 ++ (fns1)
def exs : List (PySem.W.Frag → Bool) := exs0 ++ (exs1 ++ (exs2 ++ (exs3 ++ (exs4 ++ (exs5)))))
def nms0 : List PySem.Str := [("_wall" : PySem.Str), ("TagError" : PySem.Str), ("Unlike" : PySem.Str), ("NotPlain" : PySem.Str), ("BadWeb" : PySem.Str), ("UnknownName" : PySem.Str), ("UnknownPlace" : PySem.Str), ("BadNumber" : PySem.Str), ("BadFold" : PySem.Str), ("is_set" : PySem.Str), ("check_place" : PySem.Str), ("check_plain" : PySem.Str), ("Folding" : PySem.Str), ("fold_up" : PySem.Str), ("is_covered" : PySem.Str), ("without" : PySem.Str), ("left_by" : PySem.Str), ("least_fold" : PySem.Str), ("LETTERS" : PySem.Str), ("is_name" : PySem.Str), ("is_tie" : PySem.Str), ("nexts_of" : PySem.Str), ("nexts_at" : PySem.Str), ("ties_of" : PySem.Str), ("ties_between" : PySem.Str), ("Web" : PySem.Str), ("check_names" : PySem.Str), ("check_part" : PySem.Str), ("check_ties" : PySem.Str), ("woven" : PySem.Str)]
def nms1 : List PySem.Str := [("picked" : PySem.Str), ("steps_of" : PySem.Str), ("backward_nexts" : PySem.Str), ("places_into" : PySem.Str), ("restricted_nexts" : PySem.Str), ("_law_is_int" : PySem.Str), ("_law_same" : PySem.Str), ("_law_draws" : PySem.Str), ("_law_names" : PySem.Str), ("_law_way_ties" : PySem.Str), ("_law_table" : PySem.Str), ("_law_web_of" : PySem.Str), ("_law_is_plain" : PySem.Str), ("_law_covered" : PySem.Str), ("_law_possible" : PySem.Str), ("_law_finished" : PySem.Str), ("_law_is_finished" : PySem.Str), ("_law_refused" : PySem.Str)]
def nms : List PySem.Str := nms0 ++ (nms1)
open PySem.W PySem.Calls
abbrev Rw : OpenRow := OpenLaw.row PySem.Challenge.rw_tagwebs_k33_whole_folds_leave_as_many
abbrev qv : Program := view Rw.prog [56]
abbrev hk : Hook := Tw.hookK fns exs
def ob (s : SharedT) : Tw.AlK := Tw.obsKG fns exs (HandSHeadRun.getT s)
theorem ob_eq (s : SharedT) : ob s = hk.obs s.abs := Tw.obsKG_eq (HandSHeadRun.getT_eq s)
set_option maxHeartbeats 0 in
theorem run (w : World) : HandSHeadRun.RunEq Rw qv hk ob 40000 nms w := by
  intro os
  kernel_rfl
end Tw.k33

/-! Tw, part A: data without the heap, how it lies in the abstract heap, the slots of a def. -/
namespace Tw
open PySem PySem.Spec L2

/-- data: what a value is worth, whatever its address -/
inductive D where
  | non | bl (b : Bool) | int (i : Int) | str (x : Str)
  | tup (xs : List D) | lst (xs : List D) | fls (xs : List D) | xtp (xs : List D)
  | obj (C : Addr) (fs : List (Str × D))
  | dK (kvs : List (Key × D)) | dT (kvs : List (List Key × D))

section
variable (K : PySem.W.Frag) (G : Hp)
mutual
/-- the data d stands at the value v, all of its objects within the part G of the heap, which does not change -/
inductive Rp : D → V → Prop
  | non : Rp .non .non
  | bl (b : Bool) : Rp (.bl b) (.bl b)
  | int (i : Int) : Rp (.int i) (.int i)
  | str (x : Str) : Rp (.str x) (.str x)
  | tup {a : Addr} {vs : List V} {ds : List D} : SqT K G a vs → Rps ds vs → Rp (.tup ds) (.ref a)
  | xtp {a : Addr} {vs : List V} {ds : List D} {o : Obj} : G a = some (.frz o (.tup vs)) → o.cls = .type "tuple" → o.dict = none → Rps ds vs → Rp (.xtp ds) (.ref a)
  | lst {a : Addr} {vs : List V} {ds : List D} : G a = some (.lst vs) → Rps ds vs → Rp (.lst ds) (.ref a)
  | fls {a : Addr} {vs : List V} {ds : List D} : SqL K G a vs → Rps ds vs → Rp (.fls ds) (.ref a)
  | obj {a C dx : Addr} {vf : List (Str × V)} {fs : List (Str × D)} : G a = some (.ins C dx vf) → Rfs fs vf → Rp (.obj C fs) (.ref a)
  | dK {a : Addr} {vk : List (Key × V)} {kvs : List (Key × D)} : G a = some (.dK vk) → Rks kvs vk → Rp (.dK kvs) (.ref a)
  | dT {a : Addr} {vk : List (List Key × V)} {kvs : List (List Key × D)} : G a = some (.dT vk) → Rts kvs vk → Rp (.dT kvs) (.ref a)
inductive Rps : List D → List V → Prop
  | nil : Rps [] []
  | cons {d : D} {v : V} {ds : List D} {vs : List V} : Rp d v → Rps ds vs → Rps (d :: ds) (v :: vs)
inductive Rfs : List (Str × D) → List (Str × V) → Prop
  | nil : Rfs [] []
  | cons {f : Str} {d : D} {v : V} {ds : List (Str × D)} {vs : List (Str × V)} : Rp d v → Rfs ds vs → Rfs ((f, d) :: ds) ((f, v) :: vs)
inductive Rks : List (Key × D) → List (Key × V) → Prop
  | nil : Rks [] []
  | cons {f : Key} {d : D} {v : V} {ds : List (Key × D)} {vs : List (Key × V)} : Rp d v → Rks ds vs → Rks ((f, d) :: ds) ((f, v) :: vs)
inductive Rts : List (List Key × D) → List (List Key × V) → Prop
  | nil : Rts [] []
  | cons {f : List Key} {d : D} {v : V} {ds : List (List Key × D)} {vs : List (List Key × V)} : Rp d v → Rts ds vs → Rts ((f, d) :: ds) ((f, v) :: vs)
end
end

section
variable {K : PySem.W.Frag} {G G' : Hp}
theorem sqT_mono {a : Addr} {xs : List V} (e : Same G G') (h : SqT K G a xs) : SqT K G' a xs := by
  rcases h with (h | ⟨o, h⟩) | h
  · exact .inl (.inl (e _ _ h))
  · exact .inl (.inr ⟨o, e _ _ h⟩)
  · exact .inr h
mutual
theorem Rp.mono (e : Same G G') : ∀ {d : D} {v : V}, Rp K G d v → Rp K G' d v
  | _, _, .non => .non
  | _, _, .bl b => .bl b
  | _, _, .int i => .int i
  | _, _, .str x => .str x
  | _, _, .tup h r => .tup (sqT_mono e h) (Rps.mono e r)
  | _, _, .xtp h c n r => .xtp (e _ _ h) c n (Rps.mono e r)
  | _, _, .lst h r => .lst (e _ _ h) (Rps.mono e r)
  | _, _, .fls h r => .fls (e.seq h) (Rps.mono e r)
  | _, _, .obj h r => .obj (e _ _ h) (Rfs.mono e r)
  | _, _, .dK h r => .dK (e _ _ h) (Rks.mono e r)
  | _, _, .dT h r => .dT (e _ _ h) (Rts.mono e r)
theorem Rps.mono (e : Same G G') : ∀ {d : List D} {v : List V}, Rps K G d v → Rps K G' d v
  | _, _, .nil => .nil
  | _, _, .cons h r => .cons (Rp.mono e h) (Rps.mono e r)
theorem Rfs.mono (e : Same G G') : ∀ {d : List (Str × D)} {v : List (Str × V)}, Rfs K G d v → Rfs K G' d v
  | _, _, .nil => .nil
  | _, _, .cons h r => .cons (Rp.mono e h) (Rfs.mono e r)
theorem Rks.mono (e : Same G G') : ∀ {d : List (Key × D)} {v : List (Key × V)}, Rks K G d v → Rks K G' d v
  | _, _, .nil => .nil
  | _, _, .cons h r => .cons (Rp.mono e h) (Rks.mono e r)
theorem Rts.mono (e : Same G G') : ∀ {d : List (List Key × D)} {v : List (List Key × V)}, Rts K G d v → Rts K G' d v
  | _, _, .nil => .nil
  | _, _, .cons h r => .cons (Rp.mono e h) (Rts.mono e r)
end
theorem Rps.length : ∀ {ds : List D} {vs : List V}, Rps K G ds vs → ds.length = vs.length
  | _, _, .nil => rfl
  | _, _, .cons _ r => congrArg (· + 1) (Rps.length r)
theorem Rps.append : ∀ {ds es : List D} {vs ws : List V}, Rps K G ds vs → Rps K G es ws → Rps K G (ds ++ es) (vs ++ ws)
  | _, _, _, _, .nil, q => q
  | _, _, _, _, .cons h r, q => .cons h (Rps.append r q)
theorem Rps.get : ∀ {ds : List D} {vs : List V} {i : Nat} {d : D}, Rps K G ds vs → ds[i]? = some d → ∃ v, vs[i]? = some v ∧ Rp K G d v
  | _, _, _, _, .nil, e => by simp at e
  | _, _, 0, _, .cons h _, e => by simp at e; subst e; exact ⟨_, rfl, h⟩
  | _, _, i + 1, d, .cons _ r, e => by
    obtain ⟨v, h1, h2⟩ := Rps.get (i := i) (d := d) r (by simpa using e)
    exact ⟨v, by simpa using h1, h2⟩
theorem Rps.get' : ∀ {ds : List D} {vs : List V} {i : Nat} {v : V}, Rps K G ds vs → vs[i]? = some v → ∃ d, ds[i]? = some d ∧ Rp K G d v
  | _, _, _, _, .nil, e => by simp at e
  | _, _, 0, _, .cons h _, e => by simp at e; subst e; exact ⟨_, rfl, h⟩
  | _, _, i + 1, v, .cons _ r, e => by
    obtain ⟨d, h1, h2⟩ := Rps.get' (i := i) (v := v) r (by simpa using e)
    exact ⟨d, by simpa using h1, h2⟩
theorem Rps.take : ∀ {ds : List D} {vs : List V} (n : Nat), Rps K G ds vs → Rps K G (ds.take n) (vs.take n)
  | _, _, 0, _ => .nil
  | _, _, _ + 1, .nil => .nil
  | _, _, n + 1, .cons h r => .cons h (Rps.take n r)
theorem Rps.drop : ∀ {ds : List D} {vs : List V} (n : Nat), Rps K G ds vs → Rps K G (ds.drop n) (vs.drop n)
  | _, _, 0, r => r
  | _, _, _ + 1, .nil => .nil
  | _, _, n + 1, .cons _ r => Rps.drop n r
theorem Rps.set {d : D} {v : V} (h : Rp K G d v) : ∀ {ds : List D} {vs : List V} (i : Nat), Rps K G ds vs → Rps K G (ds.set i d) (vs.set i v)
  | _, _, _, .nil => .nil
  | _, _, 0, .cons _ r => .cons h r
  | _, _, i + 1, .cons q r => .cons q (Rps.set h i r)
theorem Rfs.look : ∀ {fs : List (Str × D)} {vf : List (Str × V)} {f : Str} {d : D}, Rfs K G fs vf → fs.lookup f = some d → ∃ v, vf.lookup f = some v ∧ Rp K G d v
  | _, _, _, _, .nil, e => by simp at e
  | _, _, f, d, .cons (f := g) h r, e => by
    simp only [List.lookup_cons] at e ⊢
    cases q : f == g with
    | true => rw [q] at e; simp at e; subst e; exact ⟨_, rfl, h⟩
    | false => rw [q] at e; exact Rfs.look r e
theorem Rfs.lookN : ∀ {fs : List (Str × D)} {vf : List (Str × V)} {f : Str}, Rfs K G fs vf → fs.lookup f = none → vf.lookup f = none
  | _, _, _, .nil, e => rfl
  | _, _, f, .cons (f := g) h r, e => by
    simp only [List.lookup_cons] at e ⊢
    cases q : f == g with
    | true => rw [q] at e; cases e
    | false => rw [q] at e; exact Rfs.lookN r e
theorem Rfs.length : ∀ {ds : List (Str × D)} {vs : List (Str × V)}, Rfs K G ds vs → ds.length = vs.length
  | _, _, .nil => rfl
  | _, _, .cons _ r => congrArg (· + 1) (Rfs.length r)
/-- an attribute stored, in data -/
def putD (f : Str) (d : D) : List (Str × D) → List (Str × D)
  | [] => [(f, d)]
  | (g, e) :: r => if g = f then (g, d) :: r else (g, e) :: putD f d r
end

/-- what an object of one's own is, its parts within G -/
def Top (K : PySem.W.Frag) (G : Hp) : D → HO → Prop
  | .lst ds, .lst vs => Rps K G ds vs
  | .dK kvs, .dK vk => Rks K G kvs vk
  | .dT kvs, .dT vk => Rts K G kvs vk
  | _, _ => False
theorem Top.mono {K : PySem.W.Frag} {G G' : Hp} (e : Same G G') {d : D} {o : HO} (h : Top K G d o) : Top K G' d o := by
  cases d <;> cases o <;> first | exact h.elim | skip
  · exact Rps.mono e h
  · exact Rks.mono e h
  · exact Rts.mono e h
theorem Top.rp {K : PySem.W.Frag} {G : Hp} {d : D} {o : HO} {a : Addr} (h : Top K G d o) (ha : G a = some o) : Rp K G d (.ref a) := by
  cases d <;> cases o <;> first | exact h.elim | skip
  · exact .lst ha h
  · exact .dK ha h
  · exact .dT ha h

/-- a slot: nothing known, data, an object of the def's own that it may change -/
inductive Sl where
  | no | da (d : D) | ow (d : D) | se (a C : Addr) (fs : List (Str × D))
  /-- an error that was caught: its own dict, its fields -/
  | ex (a p : Addr) (fs : List (Str × D))
  /-- .. one that has no dict -/
  | e0 (a : Addr)
abbrev Evn := List Sl

/-- how things go on: G the unchanging part, H the heap; objects that stood outside of G stay outside -/
structure Ext (G H G' H' : Hp) : Prop where
  gg : Same G G'
  hh : Same H H'
  gh : Same G' H'
  gn : ∀ a, H a ≠ none → G a = none → G' a = none
theorem Ext.refl {G H : Hp} (h : Same G H) : Ext G H G H := ⟨Same.refl _, Same.refl _, h, fun _ _ q => q⟩
theorem Same.nn {H H' : Hp} (e : Same H H') {a : Addr} (h : H a ≠ none) : H' a ≠ none := by
  cases q : H a with
  | none => exact absurd q h
  | some o => rw [e _ _ q]; simp
theorem Ext.trans {G H G1 H1 G2 H2 : Hp} (a : Ext G H G1 H1) (b : Ext G1 H1 G2 H2) : Ext G H G2 H2 :=
  ⟨a.gg.trans b.gg, a.hh.trans b.hh, b.gh, fun c h q => b.gn c (Same.nn a.hh h) (a.gn c h q)⟩
theorem same_upd {H : Hp} {p : Addr} {o : HO} (h : H p = none) : Same H (upd H p o) := fun b u e => by
  rw [upd_ne (ne_of_none e h)]; exact e
/-- a new object, laid and never changed -/
theorem Ext.new {G H : Hp} (h : Same G H) {p : Addr} {o : HO} (hp : H p = none) : Ext G H (upd G p o) (upd H p o) := by
  have gp : G p = none := h.free hp
  refine ⟨same_upd gp, same_upd hp, fun b u e => ?_, fun a ha q => ?_⟩
  · by_cases hb : b = p
    · subst hb; rw [upd_same] at e ⊢; exact e
    · rw [upd_ne hb] at e ⊢; exact h _ _ e
  · rw [upd_ne (fun z => ha (by rw [z]; exact hp))]; exact q
/-- a new object, of one's own -/
theorem Ext.newH {G H : Hp} (h : Same G H) {p : Addr} {o : HO} (hp : H p = none) : Ext G H G (upd H p o) :=
  ⟨Same.refl _, same_upd hp, h.trans (same_upd hp), fun _ _ q => q⟩

def SlotR (K : PySem.W.Frag) (G H H0 : Hp) : Sl → Option (Option V) → Prop
  | .no, _ => True
  | .da d, x => ∃ v, x = some (some v) ∧ Rp K G d v
  | .ow d, x => ∃ a o, x = some (some (.ref a)) ∧ H a = some o ∧ Top K G d o ∧ G a = none ∧ H0 a = none
  | .se a C fs, x => x = some (some (.ref a)) ∧ ∃ dx vf, H a = some (.ins C dx vf) ∧ Rfs K G fs vf ∧ G a = none ∧ H0 a = none
  | .ex a p fs, x => x = some (some (.ref a)) ∧ ∃ vf, G p = some (.xd vf) ∧ Rfs K G fs vf
  | .e0 a, x => x = some (some (.ref a))
theorem Top.noIns {K : PySem.W.Frag} {G : Hp} {d : D} {C dx : Addr} {vf : List (Str × V)} (t : Top K G d (.ins C dx vf)) : False := by
  cases d <;> exact t

/-- the slots ρ in data, σ by values; G0, H0: what stood at the def's entry -/
structure Rel (K : PySem.W.Frag) (G0 H0 G : Hp) (ρ : Evn) (σ : St) (H : Hp) : Prop where
  len : ρ.length = σ.length
  gh : Same G H
  g0 : Same G0 G
  h0 : Same H0 H
  gn : ∀ a, H0 a ≠ none → G0 a = none → G a = none
  sl : ∀ (i : Nat) (s : Sl), ρ[i]? = some s → SlotR K G H H0 s σ[i]?
  dj : ∀ (i j : Nat) (d e : D) (a : Addr), ρ[i]? = some (.ow d) → ρ[j]? = some (.ow e) → σ[i]? = some (some (.ref a)) → σ[j]? = some (some (.ref a)) → i = j
section
variable {K : PySem.W.Frag} {G0 H0 G G' H H' : Hp} {ρ : Evn} {σ : St}
theorem Rel.ext (R : Rel K G0 H0 G ρ σ H) (e : Ext G H G' H') : Rel K G0 H0 G' ρ σ H' := by
  refine ⟨R.len, e.gh, R.g0.trans e.gg, R.h0.trans e.hh, fun a h q => e.gn a (Same.nn R.h0 h) (R.gn a h q), fun i s hs => ?_, R.dj⟩
  have q := R.sl i s hs
  cases s with
  | no => trivial
  | da d => obtain ⟨v, e1, r⟩ := q; exact ⟨v, e1, r.mono e.gg⟩
  | ow d =>
    obtain ⟨a, o, e1, e2, t, g, z⟩ := q
    exact ⟨a, o, e1, e.hh _ _ e2, t.mono e.gg, e.gn a (by rw [e2]; simp) g, z⟩
  | se a C fs =>
    obtain ⟨e1, dx, vf, e2, t, g, z⟩ := q
    exact ⟨e1, dx, vf, e.hh _ _ e2, t.mono e.gg, e.gn a (by rw [e2]; simp) g, z⟩
  | e0 b => exact q
  | ex b p fs =>
    obtain ⟨e1, vf, e2, t⟩ := q
    exact ⟨e1, vf, e.gg _ _ e2, t.mono e.gg⟩
theorem Rel.start {vs : List V} {ds : List D} {N : List Str} (h : Same G H) (r : Rps K G ds vs) :
    Rel K G H G (ds.map .da ++ List.replicate (N.length - ds.length) .no) (L2.start N vs) H := by
  have hl := r.length
  refine ⟨by simp [L2.start, hl], h, Same.refl _, Same.refl _, fun _ _ q => q, fun i s hs => ?_, fun i j d e a hi hj _ _ => ?_⟩
  · unfold L2.start
    by_cases hi : i < ds.length
    · rw [List.getElem?_append_left (by simpa using hi), List.getElem?_map] at hs
      rw [List.getElem?_append_left (by simp; omega), List.getElem?_map]
      rw [List.getElem?_eq_getElem hi] at hs
      simp at hs; subst hs
      obtain ⟨v, e, q⟩ := r.get (List.getElem?_eq_getElem hi)
      exact ⟨v, by rw [e]; rfl, q⟩
    · rw [List.getElem?_append_right (by simp; omega)] at hs
      rw [List.getElem?_replicate] at hs
      split at hs
      · cases hs; trivial
      · cases hs
  · exfalso
    rcases List.getElem?_eq_some_iff.mp hi with ⟨hl, he⟩
    have hm : Sl.ow d ∈ ds.map Sl.da ++ List.replicate (N.length - ds.length) Sl.no := by rw [← he]; exact List.getElem_mem hl
    simp at hm
/-- a slot stored with data -/
theorem Rel.set {i : Nat} {d : D} {v : V} (R : Rel K G0 H0 G ρ σ H) (r : Rp K G d v) : Rel K G0 H0 G (ρ.set i (.da d)) (σ.set i (some v)) H := by
  refine ⟨by simp [R.len], R.gh, R.g0, R.h0, R.gn, fun j s hs => ?_, fun j k d' e a hj hk h1 h2 => ?_⟩
  · by_cases hj : j = i
    · subst hj
      have hlt : j < ρ.length := by
        rcases List.getElem?_eq_some_iff.mp hs with ⟨hl, _⟩; simpa using hl
      rw [List.getElem?_set_self hlt] at hs
      cases hs
      rw [List.getElem?_set_self (by rw [← R.len]; exact hlt)]
      exact ⟨v, rfl, r⟩
    · rw [List.getElem?_set_ne (Ne.symm hj)] at hs ⊢
      exact R.sl j s hs
  · have nj : j ≠ i := fun z => by
      subst z
      rcases List.getElem?_eq_some_iff.mp hj with ⟨hl, he⟩
      simp at he
    have nk : k ≠ i := fun z => by
      subst z
      rcases List.getElem?_eq_some_iff.mp hk with ⟨hl, he⟩
      simp at he
    rw [List.getElem?_set_ne (Ne.symm nj)] at hj h1
    rw [List.getElem?_set_ne (Ne.symm nk)] at hk h2
    exact R.dj j k d' e a hj hk h1 h2
/-- .. with an object of one's own, that is in no slot yet -/
theorem Rel.setO {i : Nat} {d : D} {a : Addr} {o : HO} (R : Rel K G0 H0 G ρ σ H) (ha : H a = some o) (t : Top K G d o) (ga : G a = none) (ha0 : H0 a = none)
    (nw : ∀ (j : Nat) (e : D), ρ[j]? = some (.ow e) → σ[j]? ≠ some (some (.ref a))) : Rel K G0 H0 G (ρ.set i (.ow d)) (σ.set i (some (.ref a))) H := by
  refine ⟨by simp [R.len], R.gh, R.g0, R.h0, R.gn, fun j s hs => ?_, fun j k d' e b hj hk h1 h2 => ?_⟩
  · by_cases hj : j = i
    · subst hj
      have hlt : j < ρ.length := by
        rcases List.getElem?_eq_some_iff.mp hs with ⟨hl, _⟩; simpa using hl
      rw [List.getElem?_set_self hlt] at hs
      cases hs
      rw [List.getElem?_set_self (by rw [← R.len]; exact hlt)]
      exact ⟨a, o, rfl, ha, t, ga, ha0⟩
    · rw [List.getElem?_set_ne (Ne.symm hj)] at hs ⊢
      exact R.sl j s hs
  · by_cases nj : j = i
    · by_cases nk : k = i
      · rw [nj, nk]
      · exfalso
        subst nj
        rw [List.getElem?_set_ne (Ne.symm nk)] at hk h2
        have hlt : j < σ.length := by
          rcases List.getElem?_eq_some_iff.mp h1 with ⟨hl, _⟩; simpa using hl
        rw [List.getElem?_set_self hlt] at h1
        cases h1
        exact nw k e hk h2
    · rw [List.getElem?_set_ne (Ne.symm nj)] at hj h1
      by_cases nk : k = i
      · exfalso
        subst nk
        have hlt : k < σ.length := by
          rcases List.getElem?_eq_some_iff.mp h2 with ⟨hl, _⟩; simpa using hl
        rw [List.getElem?_set_self hlt] at h2
        cases h2
        exact nw j d' hj h1
      · rw [List.getElem?_set_ne (Ne.symm nk)] at hk h2
        exact R.dj j k d' e b hj hk h1 h2
/-- an own object changed -/
theorem Rel.chg {i : Nat} {d d' : D} {a : Addr} {o' : HO} (R : Rel K G0 H0 G ρ σ H) (hi : ρ[i]? = some (.ow d)) (hs : σ[i]? = some (some (.ref a))) (t : Top K G d' o') :
    Rel K G0 H0 G (ρ.set i (.ow d')) σ (upd H a o') := by
  obtain ⟨a', o, e1, e2, t0, ga, ha0⟩ := R.sl i _ hi
  rw [hs] at e1
  cases e1
  have hlt : i < ρ.length := (List.getElem?_eq_some_iff.mp hi).1
  refine ⟨by simpa using R.len, fun b u e => ?_, R.g0, fun b u e => ?_, R.gn, fun j s hj => ?_, fun j k x y b hj hk h1 h2 => ?_⟩
  · rw [upd_ne (fun z => by subst z; rw [ga] at e; cases e)]; exact R.gh _ _ e
  · rw [upd_ne (fun z => by subst z; rw [ha0] at e; cases e)]; exact R.h0 _ _ e
  · by_cases hji : j = i
    · subst hji
      rw [List.getElem?_set_self hlt] at hj
      cases hj
      exact ⟨a, o', hs, upd_same, t, ga, ha0⟩
    · rw [List.getElem?_set_ne (Ne.symm hji)] at hj
      have q := R.sl j s hj
      cases s with
      | no => trivial
      | da x => exact q
      | ow x =>
        obtain ⟨b, u, f1, f2, f3, f4, f5⟩ := q
        refine ⟨b, u, f1, ?_, f3, f4, f5⟩
        rw [upd_ne (fun z => by subst z; exact hji (R.dj j i x d b hj hi f1 hs))]
        exact f2
      | e0 b => exact q
      | ex b p fs => exact q
      | se b C fs =>
        obtain ⟨f1, dx, vf, f2, f3⟩ := q
        refine ⟨f1, dx, vf, ?_, f3⟩
        rw [upd_ne (fun z => by subst z; rw [e2] at f2; cases f2; exact t0.noIns)]
        exact f2
  · have go : ∀ {j : Nat} {x : D}, (ρ.set i (.ow d'))[j]? = some (.ow x) → ∃ x', ρ[j]? = some (.ow x') := fun {j x} h => by
      by_cases hji : j = i
      · subst hji; exact ⟨d, hi⟩
      · rw [List.getElem?_set_ne (Ne.symm hji)] at h; exact ⟨x, h⟩
    obtain ⟨x', hx⟩ := go hj
    obtain ⟨y', hy⟩ := go hk
    exact R.dj j k x' y' b hx hy h1 h2
/-- an own object is from now on never changed -/
theorem Rel.frz {i : Nat} {d : D} (R : Rel K G0 H0 G ρ σ H) (hi : ρ[i]? = some (.ow d)) : ∃ G', Same G G' ∧ Rel K G0 H0 G' (ρ.set i (.da d)) σ H := by
  obtain ⟨a, o, e1, e2, t, ga, ha0⟩ := R.sl i _ hi
  have gg : Same G (upd G a o) := same_upd ga
  have hlt : i < ρ.length := (List.getElem?_eq_some_iff.mp hi).1
  refine ⟨upd G a o, gg, ⟨by simpa using R.len, fun b u e => ?_, R.g0.trans gg, R.h0, fun b h q => ?_, fun j s hj => ?_, fun j k x y b hj hk h1 h2 => ?_⟩⟩
  · by_cases hb : b = a
    · subst hb; rw [upd_same] at e; cases e; exact e2
    · rw [upd_ne hb] at e; exact R.gh _ _ e
  · rw [upd_ne (fun z => by subst z; exact h ha0)]; exact R.gn b h q
  · by_cases hji : j = i
    · subst hji
      rw [List.getElem?_set_self hlt] at hj
      cases hj
      exact ⟨.ref a, e1, (t.mono gg).rp upd_same⟩
    · rw [List.getElem?_set_ne (Ne.symm hji)] at hj
      have q := R.sl j s hj
      cases s with
      | no => trivial
      | da x => obtain ⟨v, f1, f2⟩ := q; exact ⟨v, f1, f2.mono gg⟩
      | ow x =>
        obtain ⟨b, u, f1, f2, f3, f4, f5⟩ := q
        refine ⟨b, u, f1, f2, f3.mono gg, ?_, f5⟩
        rw [upd_ne (fun z => by subst z; exact hji (R.dj j i x d b hj hi f1 e1))]
        exact f4
      | e0 b => exact q
      | ex b p fs =>
        obtain ⟨f1, vf, f2, f3⟩ := q
        exact ⟨f1, vf, gg _ _ f2, f3.mono gg⟩
      | se b C fs =>
        obtain ⟨f1, dx, vf, f2, f3, f4, f5⟩ := q
        refine ⟨f1, dx, vf, f2, f3.mono gg, ?_, f5⟩
        rw [upd_ne (fun z => by subst z; rw [e2] at f2; cases f2; exact t.noIns)]
        exact f4
  · have go : ∀ {j : Nat} {x : D}, (ρ.set i (.da d))[j]? = some (.ow x) → ρ[j]? = some (.ow x) := fun {j x} h => by
      by_cases hji : j = i
      · subst hji; rw [List.getElem?_set_self hlt] at h; cases h
      · rw [List.getElem?_set_ne (Ne.symm hji)] at h; exact h
    exact R.dj j k x y b (go hj) (go hk) h1 h2
/-- slots forgotten -/
theorem Rel.wipe (R : Rel K G0 H0 G ρ σ H) : ∀ vs : List Nat, ∃ ρ', ρ' = vs.foldr (fun v r => r.set v .no) ρ ∧ Rel K G0 H0 G ρ' (L2.wipe σ vs) H
  | [] => ⟨ρ, rfl, R⟩
  | v :: vs => by
    obtain ⟨ρ', e, R'⟩ := Rel.wipe R vs
    refine ⟨ρ'.set v .no, by rw [List.foldr_cons, ← e], ?_⟩
    have go : ∀ {j : Nat} {s : Sl}, (ρ'.set v .no)[j]? = some s → s = .no ∨ (j ≠ v ∧ ρ'[j]? = some s) := fun {j s} h => by
      by_cases hj : j = v
      · subst hj
        have hlt : j < ρ'.length := by
          rcases List.getElem?_eq_some_iff.mp h with ⟨hl, _⟩; simpa using hl
        rw [List.getElem?_set_self hlt] at h; cases h; exact .inl rfl
      · rw [List.getElem?_set_ne (Ne.symm hj)] at h; exact .inr ⟨hj, h⟩
    have ws : ∀ {j : Nat}, j ≠ v → (L2.wipe σ (v :: vs))[j]? = (L2.wipe σ vs)[j]? := fun {j} h => by
      show ((L2.wipe σ vs).set v none)[j]? = _
      rw [List.getElem?_set_ne (Ne.symm h)]
    refine ⟨by show _ = ((L2.wipe σ vs).set v none).length; simpa using R'.len, R'.gh, R'.g0, R'.h0, R'.gn, fun j s hj => ?_, fun j k x y b hj hk h1 h2 => ?_⟩
    · rcases go hj with rfl | ⟨n, h⟩
      · trivial
      · rw [ws n]; exact R'.sl j s h
    · rcases go hj with z | ⟨n, h⟩
      · cases z
      · rcases go hk with z | ⟨n', h'⟩
        · cases z
        · rw [ws n] at h1
          rw [ws n'] at h2
          exact R'.dj j k x y b h h' h1 h2
end
end Tw

/-! Tw, part B: expressions, by what they are worth in data. -/
namespace Tw
open PySem PySem.Spec L2

/-- an exception that leaves the def: its class, its fields -/
abbrev XC := Addr → List (Str × D) → Prop
def TieX (K : PySem.W.Frag) (G0 H0 : Hp) (E : XK) (xc : XC) : Prop :=
  ∀ (C : Addr) (fs : List (Str × D)) (G' H' : Hp) (dx : Option Addr), Ext G0 H0 G' H' →
    (match dx with | some p => H0 p = none ∧ ∃ vf, H' p = some (.xd vf) ∧ Rfs K G' fs vf | none => fs = []) → xc C fs → E (.ref C) dx H'

/-- how a value is held: e: for good; o: as it stands (perhaps one's own); f: a new object, one's own -/
inductive Kd where
  | e | o | f
def RvO (K : PySem.W.Frag) (G H : Hp) (d : D) (v : V) : Prop := Rp K G d v ∨ ∃ a o, v = .ref a ∧ H a = some o ∧ Top K G d o
def RvF (K : PySem.W.Frag) (H G' H' : Hp) (d : D) (v : V) : Prop := ∃ a o, v = .ref a ∧ H a = none ∧ H' a = some o ∧ Top K G' d o ∧ G' a = none
def RvK (K : PySem.W.Frag) : Kd → Hp → Hp → Hp → D → V → Prop
  | .e, _, G', _, d, v => Rp K G' d v
  | .o, _, G', H', d, v => RvO K G' H' d v
  | .f, H, G', H', d, v => RvF K H G' H' d v
section
variable {K : PySem.W.Frag} {G H G' H' : Hp} {d : D} {v : V} {k : Kd}
theorem RvK.o (h : RvK K k H G' H' d v) : RvO K G' H' d v := by
  cases k with
  | e => exact .inl h
  | o => exact h
  | f => obtain ⟨a, o, e1, _, e2, t, _⟩ := h; exact .inr ⟨a, o, e1, e2, t⟩
theorem RvO.ext (x : Ext G H G' H') (h : RvO K G H d v) : RvO K G' H' d v := by
  rcases h with h | ⟨a, o, e, e2, t⟩
  · exact .inl (h.mono x.gg)
  · exact .inr ⟨a, o, e, x.hh _ _ e2, t.mono x.gg⟩
/-- a new object, held for good from now on -/
theorem RvF.frz (x : Ext G H G' H') (h : RvF K H G' H' d v) : ∃ G2, Ext G H G2 H' ∧ Rp K G2 d v := by
  obtain ⟨a, o, rfl, h1, h2, t, g⟩ := h
  have gg : Same G' (upd G' a o) := same_upd g
  refine ⟨upd G' a o, ⟨x.gg.trans gg, x.hh, fun b u e => ?_, fun b hb q => ?_⟩, (t.mono gg).rp upd_same⟩
  · by_cases z : b = a
    · subst z; rw [upd_same] at e; cases e; exact h2
    · rw [upd_ne z] at e; exact x.gh _ _ e
  · rw [upd_ne (fun z => hb (by rw [z]; exact h1))]
    exact x.gn b hb q
end

abbrev Wx := XC → Evn → (D → Prop) → Prop
def liftW (K : PySem.W.Frag) (E : XK) (k : Kd) (w : Wx) : TE := fun σ H Q => ∃ G0 H0 G ρ xc, Rel K G0 H0 G ρ σ H ∧ TieX K G0 H0 E xc ∧ w xc ρ fun d => ∀ G' H' v, Ext G H G' H' → RvK K k H G' H' d v → Q v H'
/-- the expression e is worth what w says -/
structure EJ (k : Kd) (E : XK) (X : Cx) (e : Expr) (w : Wx) : Prop where
  pe : PE X e (liftW X.K E k w)
  mo : ∀ xc ρ (Q Q' : D → Prop), (∀ d, Q d → Q' d) → w xc ρ Q → w xc ρ Q'
theorem _root_.L2.PE.imp {X : Cx} {e : Expr} {t t' : TE} (h : PE X e t) (i : ∀ σ H Q, t' σ H Q → t σ H Q) : PE X e t' := ⟨fun pins s σ H Q I q => h.run pins s σ H Q I (i _ _ _ q)⟩
theorem _root_.L2.PA.imp {X : Cx} {e : List Expr} {t t' : TA} (h : PA X e t) (i : ∀ σ H Q, t' σ H Q → t σ H Q) : PA X e t' := ⟨fun p pins s σ H Q I q => h.run p pins s σ H Q I (i _ _ _ q)⟩
theorem _root_.L2.PT.imp {X : Cx} {e : Expr} {t t' : TT} (h : PT X e t) (i : ∀ σ H Q, t' σ H Q → t σ H Q) : PT X e t' := ⟨fun pins s σ H Q I q => h.run pins s σ H Q I (i _ _ _ q)⟩
theorem _root_.L2.PS.imp {X : Cx} {e : Stmt} {t t' : TS} (h : PS X e t) (i : ∀ D σ H, t' D σ H → t D σ H) : PS X e t' := ⟨fun pins s σ H D I q => h.run pins s σ H D I (i _ _ _ q)⟩
theorem _root_.L2.PSs.imp {X : Cx} {e : List Stmt} {t t' : TS} (h : PSs X e t) (i : ∀ D σ H, t' D σ H → t D σ H) : PSs X e t' := ⟨fun pins s σ H D I q => h.run pins s σ H D I (i _ _ _ q)⟩

section
variable {X : Cx} {E : XK} {e a b c : Expr} {w wa wb wc : Wx} {k ka kb : Kd} {pos : Pos}
theorem EJ.toE (h : EJ .f E X e w) : EJ .e E X e w := by
  refine ⟨h.pe.imp fun σ H Q ⟨G0, H0, G, ρ, xc, R, T, q⟩ => ⟨G0, H0, G, ρ, xc, R, T, h.mo _ _ _ _ (fun d hd G' H' v x r => ?_) q⟩, h.mo⟩
  obtain ⟨G2, x2, r2⟩ := RvF.frz x r
  exact hd G2 H' v x2 r2
/-! ### names, constants -/
@[simp] def wVar (i : Nat) : Wx := fun _ ρ Q => ∃ d, ρ[i]? = some (.da d) ∧ Q d
def wPeek (i : Nat) : Wx := fun _ ρ Q => ∃ d, (ρ[i]? = some (.da d) ∨ ρ[i]? = some (.ow d)) ∧ Q d
@[simp] def wC (d : D) : Wx := fun _ _ Q => Q d
theorem ej_var {i : Nat} (h : PE X e (tVar i)) : EJ .e E X e (wVar i) := by
  refine ⟨h.imp fun σ H Q ⟨G0, H0, G, ρ, xc, R, T, d, e1, q⟩ => ?_, fun xc ρ Q Q' i ⟨d, e1, q⟩ => ⟨d, e1, i d q⟩⟩
  obtain ⟨v, e2, r⟩ := R.sl i _ e1
  exact ⟨v, e2, q G H v (.refl R.gh) r⟩
theorem ej_peek {i : Nat} (h : PE X e (tVar i)) : EJ .o E X e (wPeek i) := by
  refine ⟨h.imp fun σ H Q ⟨G0, H0, G, ρ, xc, R, T, d, e1, q⟩ => ?_, fun xc ρ Q Q' i ⟨d, e1, q⟩ => ⟨d, e1, i d q⟩⟩
  rcases e1 with e1 | e1
  · obtain ⟨v, e2, r⟩ := R.sl i _ e1
    exact ⟨v, e2, q G H v (.refl R.gh) (.inl r)⟩
  · obtain ⟨p, o, e2, e3, t, g, z⟩ := R.sl i _ e1
    exact ⟨_, e2, q G H _ (.refl R.gh) (.inr ⟨p, o, rfl, e3, t⟩)⟩
theorem ej_c {d : D} {v : V} (h : PE X e (tC v)) (r : ∀ G, Rp X.K G d v) : EJ .e E X e (wC d) :=
  ⟨h.imp fun σ H Q ⟨G0, H0, G, ρ, xc, R, T, q⟩ => q G H v (.refl R.gh) (r G), fun xc ρ Q Q' i q => i d q⟩
theorem ej_int {i : Int} {j pos} : EJ .e E X (.Constant (.int i) j pos) (wC (.int i)) := ej_c pe_int fun _ => .int i
theorem ej_bl {i : Bool} {j pos} : EJ .e E X (.Constant (.bool i) j pos) (wC (.bl i)) := ej_c pe_bl fun _ => .bl i
theorem ej_str {i : Str} {j pos} : EJ .e E X (.Constant (.str i) j pos) (wC (.str i)) := ej_c pe_str fun _ => .str i
theorem ej_non {j pos} : EJ .e E X (.Constant .none j pos) (wC .non) := ej_c pe_non fun _ => .non

/-! ### two operands -/
abbrev Op2 := D → D → (D → Prop) → Prop
@[simp] def w2 (op : Op2) (wa wb : Wx) : Wx := fun xc ρ Q => wa xc ρ fun x => wb xc ρ fun y => op x y Q
def Mo2 (op : Op2) : Prop := ∀ x y (Q Q' : D → Prop), (∀ d, Q d → Q' d) → op x y Q → op x y Q'
/-- the operator op on data is the rule r on values -/
structure Brg2 (K : PySem.W.Frag) (k : Kd) (op : Op2) (r : R2) : Prop where
  go : ∀ (x y : D) (G H : Hp) (vx vy : V) (Q : D → Prop) (Q2 : VK), Same G H → RvO K G H x vx → RvO K G H y vy → op x y Q → (∀ d, Q d → ∀ G' H' v, Ext G H G' H' → RvK K k H G' H' d v → Q2 v H') → r vx vy H Q2
  mo : Mo2 op
theorem ej_2 {op : Op2} {r : R2} (ha : EJ ka E X a wa) (hb : EJ kb E X b wb) (hpe : PE X e (tOp r (liftW X.K E ka wa) (liftW X.K E kb wb))) (B : Brg2 X.K k op r) : EJ k E X e (w2 op wa wb) := by
  refine ⟨hpe.imp fun σ H Q ⟨G0, H0, G, ρ, xc, R, T, q⟩ => ⟨G0, H0, G, ρ, xc, R, T, ha.mo _ _ _ _ (fun x q1 G1 H1 v1 x1 r1 => ?_) q⟩, fun xc ρ Q Q' i q => ha.mo _ _ _ _ (fun x q => hb.mo _ _ _ _ (fun y q => B.mo _ _ _ _ i q) q) q⟩
  refine ⟨G0, H0, G1, ρ, xc, R.ext x1, T, hb.mo _ _ _ _ (fun y q2 G2 H2 v2 x2 r2 => ?_) q1⟩
  exact B.go x y G2 H2 v1 v2 _ _ x2.gh (r1.o.ext x2) r2.o q2 fun d q3 G' H' v x3 r3 => q3 G' H' v (x1.trans (x2.trans x3)) (by
    cases k with
    | e => exact r3
    | o => exact r3
    | f =>
      obtain ⟨p, o, e1, e2, e3⟩ := r3
      exact ⟨p, o, e1, (x1.trans x2).hh.free e2, e3⟩)

/-! ### tests -/
abbrev Wt := XC → Evn → (Bool → Prop) → Prop
def liftT (K : PySem.W.Frag) (E : XK) (w : Wt) : TT := fun σ H Q => ∃ G0 H0 G ρ xc, Rel K G0 H0 G ρ σ H ∧ TieX K G0 H0 E xc ∧ w xc ρ fun d => ∀ G' H', Ext G H G' H' → Q d H'
structure TJ (E : XK) (X : Cx) (e : Expr) (w : Wt) : Prop where
  pt : PT X e (liftT X.K E w)
  mo : ∀ xc ρ (Q Q' : Bool → Prop), (∀ d, Q d → Q' d) → w xc ρ Q → w xc ρ Q'
structure TWJ (E : XK) (X : Cx) (e : Expr) (w : Wt) : Prop where
  pw : PW X e (liftT X.K E w)
  mo : ∀ xc ρ (Q Q' : Bool → Prop), (∀ d, Q d → Q' d) → w xc ρ Q → w xc ρ Q'
theorem _root_.L2.PW.imp {X : Cx} {e : Expr} {t t' : TT} (h : PW X e t) (i : ∀ σ H Q, t' σ H Q → t σ H Q) : PW X e t' := ⟨fun wh pins s σ H Q I q => h.run wh pins s σ H Q I (i _ _ _ q)⟩
theorem TWJ.t {wt : Wt} (h : TWJ E X e wt) : TJ E X e wt := ⟨h.pw.pt, h.mo⟩
/-- a value that is a bool -/
@[simp] def wB (w : Wx) : Wt := fun xc ρ Q => w xc ρ fun d => ∃ b, d = .bl b ∧ Q b
theorem rvO_bl {K : PySem.W.Frag} {G H : Hp} {b : Bool} {v : V} (h : RvO K G H (.bl b) v) : v = .bl b := by
  rcases h with h | ⟨p, o, _, _, t⟩
  · cases h; rfl
  · cases o <;> exact t.elim
theorem rvO_int {K : PySem.W.Frag} {G H : Hp} {b : Int} {v : V} (h : RvO K G H (.int b) v) : v = .int b := by
  rcases h with h | ⟨p, o, _, _, t⟩
  · cases h; rfl
  · cases o <;> exact t.elim
theorem rvO_str {K : PySem.W.Frag} {G H : Hp} {b : Str} {v : V} (h : RvO K G H (.str b) v) : v = .str b := by
  rcases h with h | ⟨p, o, _, _, t⟩
  · cases h; rfl
  · cases o <;> exact t.elim
theorem rvO_non {K : PySem.W.Frag} {G H : Hp} {v : V} (h : RvO K G H .non v) : v = .non := by
  rcases h with h | ⟨p, o, _, _, t⟩
  · cases h; rfl
  · cases o <;> exact t.elim
theorem rvO_lst {K : PySem.W.Frag} {G H : Hp} {ds : List D} {v : V} (g : Same G H) (h : RvO K G H (.lst ds) v) : ∃ p vs, v = .ref p ∧ H p = some (.lst vs) ∧ Rps K G ds vs := by
  rcases h with h | ⟨p, o, e, e2, t⟩
  · cases h with | lst h r => exact ⟨_, _, rfl, g _ _ h, r⟩
  · cases o <;> first | exact t.elim | skip
    exact ⟨p, _, e, e2, t⟩
theorem rvO_fls {K : PySem.W.Frag} {G H : Hp} {ds : List D} {v : V} (g : Same G H) (h : RvO K G H (.fls ds) v) : ∃ p vs, v = .ref p ∧ SqL K H p vs ∧ Rps K G ds vs := by
  rcases h with h | ⟨p, o, e, e2, t⟩
  · cases h with | fls h r => exact ⟨_, _, rfl, g.seq h, r⟩
  · cases o <;> exact t.elim
theorem rvO_tup {K : PySem.W.Frag} {G H : Hp} {ds : List D} {v : V} (g : Same G H) (h : RvO K G H (.tup ds) v) : ∃ p vs, v = .ref p ∧ SqT K H p vs ∧ Rps K G ds vs := by
  rcases h with h | ⟨p, o, e, e2, t⟩
  · cases h with | tup h r => exact ⟨_, _, rfl, sqT_mono g h, r⟩
  · cases o <;> exact t.elim
theorem rvO_xtp {K : PySem.W.Frag} {G H : Hp} {ds : List D} {v : V} (g : Same G H) (h : RvO K G H (.xtp ds) v) : ∃ p vs o, v = .ref p ∧ H p = some (.frz o (.tup vs)) ∧ o.cls = .type "tuple" ∧ o.dict = none ∧ Rps K G ds vs := by
  rcases h with h | ⟨p, o, e, e2, t⟩
  · cases h with | xtp h c n r => exact ⟨_, _, _, rfl, g _ _ h, c, n, r⟩
  · cases o <;> exact t.elim
/-- a comparison as a test: from its rule -/
theorem tj_2 {op : Op2} {r : R2} (ha : EJ ka E X a wa) (hb : EJ kb E X b wb) (hpt : PT X e (tTest (tOp r (liftW X.K E ka wa) (liftW X.K E kb wb)))) (B : Brg2 X.K k op r) : TJ E X e (wB (w2 op wa wb)) := by
  refine ⟨hpt.imp fun σ H Q ⟨G0, H0, G, ρ, xc, R, T, q⟩ => ⟨G0, H0, G, ρ, xc, R, T, ha.mo _ _ _ _ (fun x q1 G1 H1 v1 x1 r1 => ?_) q⟩, fun xc ρ Q Q' i q => ha.mo _ _ _ _ (fun x q => hb.mo _ _ _ _ (fun y q => B.mo _ _ _ _ (fun d ⟨b, e, q⟩ => ⟨b, e, i b q⟩) q) q) q⟩
  refine ⟨G0, H0, G1, ρ, xc, R.ext x1, T, hb.mo _ _ _ _ (fun y q2 G2 H2 v2 x2 r2 => ?_) q1⟩
  refine B.go x y G2 H2 v1 v2 _ _ x2.gh (r1.o.ext x2) r2.o q2 fun d q3 G' H' v x3 r3 => ?_
  obtain ⟨bb, rfl, q3⟩ := q3
  exact ⟨bb, rvO_bl r3.o, q3 G' H' (x1.trans (x2.trans x3))⟩
@[simp] def wNot (w : Wt) : Wt := fun xc ρ Q => w xc ρ fun b => Q (!b)
@[simp] def wAnd (w u : Wt) : Wt := fun xc ρ Q => w xc ρ fun b => if b = true then u xc ρ Q else Q false
@[simp] def wOr (w u : Wt) : Wt := fun xc ρ Q => w xc ρ fun b => if b = true then Q true else u xc ρ Q
variable {ta tb : Wt} {rest : List Expr}
theorem tj_not (h : TJ E X a ta) : TJ E X (.UnaryOp .Not a pos) (wNot ta) :=
  ⟨(pt_not h.pt).imp fun σ H Q ⟨G0, H0, G, ρ, xc, R, T, q⟩ => ⟨G0, H0, G, ρ, xc, R, T, q⟩, fun xc ρ Q Q' i q => h.mo _ _ _ _ (fun b q => i _ q) q⟩
theorem twj_and1 (h : TJ E X a ta) : TWJ E X (.BoolOp .And [a] pos) ta := ⟨pw_and1 h.pt, h.mo⟩
theorem twj_or1 (h : TJ E X a ta) : TWJ E X (.BoolOp .Or [a] pos) ta := ⟨pw_or1 h.pt, h.mo⟩
theorem twj_and (ha : TJ E X a ta) (hb : TWJ E X (.BoolOp .And (b :: rest) pos) tb) : TWJ E X (.BoolOp .And (a :: b :: rest) pos) (wAnd ta tb) := by
  refine ⟨PW.imp (pw_and ha.pt hb.pw) fun σ H Q ⟨G0, H0, G, ρ, xc, R, T, q⟩ => ⟨G0, H0, G, ρ, xc, R, T, ha.mo _ _ _ _ (fun x q1 G1 H1 x1 => ?_) q⟩, fun xc ρ Q Q' i q => ha.mo _ _ _ _ (fun x q => ?_) q⟩
  · cases x with
    | true =>
      rw [if_pos rfl] at q1 ⊢
      exact ⟨G0, H0, G1, ρ, xc, R.ext x1, T, hb.mo _ _ _ _ (fun y q2 G2 H2 x2 => q2 G2 H2 (x1.trans x2)) q1⟩
    | false => rw [if_neg Bool.false_ne_true] at q1 ⊢; exact q1 G1 H1 x1
  · cases x with
    | true => rw [if_pos rfl] at q ⊢; exact hb.mo _ _ _ _ i q
    | false => rw [if_neg Bool.false_ne_true] at q ⊢; exact i _ q
theorem twj_or (ha : TJ E X a ta) (hb : TWJ E X (.BoolOp .Or (b :: rest) pos) tb) : TWJ E X (.BoolOp .Or (a :: b :: rest) pos) (wOr ta tb) := by
  refine ⟨PW.imp (pw_or ha.pt hb.pw) fun σ H Q ⟨G0, H0, G, ρ, xc, R, T, q⟩ => ⟨G0, H0, G, ρ, xc, R, T, ha.mo _ _ _ _ (fun x q1 G1 H1 x1 => ?_) q⟩, fun xc ρ Q Q' i q => ha.mo _ _ _ _ (fun x q => ?_) q⟩
  · cases x with
    | false =>
      rw [if_neg Bool.false_ne_true] at q1 ⊢
      exact ⟨G0, H0, G1, ρ, xc, R.ext x1, T, hb.mo _ _ _ _ (fun y q2 G2 H2 x2 => q2 G2 H2 (x1.trans x2)) q1⟩
    | true => rw [if_pos rfl] at q1 ⊢; exact q1 G1 H1 x1
  · cases x with
    | false => rw [if_neg Bool.false_ne_true] at q ⊢; exact hb.mo _ _ _ _ i q
    | true => rw [if_pos rfl] at q ⊢; exact i _ q
@[simp] def wIf (t : Wt) (wa wb : Wx) : Wx := fun xc ρ Q => t xc ρ fun b => if b = true then wa xc ρ Q else wb xc ρ Q
theorem ej_if (hc : TJ E X c ta) (ha : EJ .e E X a wa) (hb : EJ .e E X b wb) : EJ .e E X (.IfExp c a b pos) (wIf ta wa wb) := by
  refine ⟨(pe_ifExp hc.pt ha.pe hb.pe).imp fun σ H Q ⟨G0, H0, G, ρ, xc, R, T, q⟩ => ⟨G0, H0, G, ρ, xc, R, T, hc.mo _ _ _ _ (fun x q1 G1 H1 x1 => ?_) q⟩, fun xc ρ Q Q' i q => hc.mo _ _ _ _ (fun x q => ?_) q⟩
  · cases x with
    | true =>
      rw [if_pos rfl] at q1 ⊢
      exact ⟨G0, H0, G1, ρ, xc, R.ext x1, T, ha.mo _ _ _ _ (fun y q2 G2 H2 v x2 r => q2 G2 H2 v (x1.trans x2) r) q1⟩
    | false =>
      rw [if_neg Bool.false_ne_true] at q1 ⊢
      exact ⟨G0, H0, G1, ρ, xc, R.ext x1, T, hb.mo _ _ _ _ (fun y q2 G2 H2 v x2 r => q2 G2 H2 v (x1.trans x2) r) q1⟩
  · cases x with
    | true => rw [if_pos rfl] at q ⊢; exact ha.mo _ _ _ _ i q
    | false => rw [if_neg Bool.false_ne_true] at q ⊢; exact hb.mo _ _ _ _ i q

/-! ### argument lists, displays -/
abbrev Wa := XC → Evn → (List D → Prop) → Prop
inductive RvOs (K : PySem.W.Frag) (G H : Hp) : List D → List V → Prop
  | nil : RvOs K G H [] []
  | cons {d : D} {v : V} {ds : List D} {vs : List V} : RvO K G H d v → RvOs K G H ds vs → RvOs K G H (d :: ds) (v :: vs)
def liftA (K : PySem.W.Frag) (E : XK) (k : Bool) (w : Wa) : TA := fun σ H Q => ∃ G0 H0 G ρ xc, Rel K G0 H0 G ρ σ H ∧ TieX K G0 H0 E xc ∧ w xc ρ fun ds => ∀ G' H' vs, Ext G H G' H' → (if k = true then Rps K G' ds vs else RvOs K G' H' ds vs) → Q vs H'
/-- k = true: all of them for good -/
structure AJ (k : Bool) (E : XK) (X : Cx) (es : List Expr) (w : Wa) : Prop where
  pa : PA X es (liftA X.K E k w)
  mo : ∀ xc ρ (Q Q' : List D → Prop), (∀ d, Q d → Q' d) → w xc ρ Q → w xc ρ Q'
@[simp] def waNil : Wa := fun _ _ Q => Q []
@[simp] def waCons (w : Wx) (u : Wa) : Wa := fun xc ρ Q => w xc ρ fun d => u xc ρ fun ds => Q (d :: ds)
theorem RvOs.ext {K : PySem.W.Frag} {G H G' H' : Hp} (x : Ext G H G' H') : ∀ {ds : List D} {vs : List V}, RvOs K G H ds vs → RvOs K G' H' ds vs
  | _, _, .nil => .nil
  | _, _, .cons h r => .cons (h.ext x) (RvOs.ext x r)
theorem aj_nil {kk : Bool} : AJ kk E X [] waNil := by
  refine ⟨pa_nil.imp fun σ H Q ⟨G0, H0, G, ρ, xc, R, T, q⟩ => q G H [] (.refl R.gh) (by cases kk <;> simp <;> constructor), fun _ _ _ _ i q => i _ q⟩
variable {es : List Expr} {u : Wa}
theorem aj_consE (ha : EJ .e E X e w) (hr : AJ true E X es u) (hs : starEach (e :: es) X.env = (false, eval e X.env) :: starEach es X.env := by rfl) : AJ true E X (e :: es) (waCons w u) := by
  refine ⟨(pa_cons ha.pe hr.pa hs).imp fun σ H Q ⟨G0, H0, G, ρ, xc, R, T, q⟩ => ⟨G0, H0, G, ρ, xc, R, T, ha.mo _ _ _ _ (fun x q1 G1 H1 v1 x1 r1 => ?_) q⟩, fun xc ρ Q Q' i q => ha.mo _ _ _ _ (fun x q => hr.mo _ _ _ _ (fun ds q => i _ q) q) q⟩
  refine ⟨G0, H0, G1, ρ, xc, R.ext x1, T, hr.mo _ _ _ _ (fun y q2 G2 H2 v2 x2 r2 => ?_) q1⟩
  rw [if_pos rfl] at r2
  exact q2 G2 H2 (v1 :: v2) (x1.trans x2) (by rw [if_pos rfl]; exact .cons (Rp.mono x2.gg r1) r2)
theorem aj_consO (ha : EJ k E X e w) (hr : AJ false E X es u) (hs : starEach (e :: es) X.env = (false, eval e X.env) :: starEach es X.env := by rfl) : AJ false E X (e :: es) (waCons w u) := by
  refine ⟨(pa_cons ha.pe hr.pa hs).imp fun σ H Q ⟨G0, H0, G, ρ, xc, R, T, q⟩ => ⟨G0, H0, G, ρ, xc, R, T, ha.mo _ _ _ _ (fun x q1 G1 H1 v1 x1 r1 => ?_) q⟩, fun xc ρ Q Q' i q => ha.mo _ _ _ _ (fun x q => hr.mo _ _ _ _ (fun ds q => i _ q) q) q⟩
  refine ⟨G0, H0, G1, ρ, xc, R.ext x1, T, hr.mo _ _ _ _ (fun y q2 G2 H2 v2 x2 r2 => ?_) q1⟩
  rw [if_neg Bool.false_ne_true] at r2
  exact q2 G2 H2 (v1 :: v2) (x1.trans x2) (by rw [if_neg Bool.false_ne_true]; exact .cons (r1.o.ext x2) r2)
@[simp] def wTup (u : Wa) : Wx := fun xc ρ Q => u xc ρ fun ds => ds.length ≤ sizeLine ∧ Q (.tup ds)
@[simp] def wLst (u : Wa) : Wx := fun xc ρ Q => u xc ρ fun ds => ds.length ≤ sizeLine ∧ Q (.lst ds)
theorem ej_tup {x1} (h : AJ true E X es u) : EJ .e E X (.Tuple es x1 pos) (wTup u) := by
  refine ⟨(pe_tup h.pa).imp fun σ H Q ⟨G0, H0, G, ρ, xc, R, T, q⟩ => ⟨G0, H0, G, ρ, xc, R, T, h.mo _ _ _ _ (fun ds ⟨z, q1⟩ G1 H1 vs e1 r1 => ?_) q⟩, fun xc ρ Q Q' i q => h.mo _ _ _ _ (fun ds ⟨z, q⟩ => ⟨z, i _ q⟩) q⟩
  rw [if_pos rfl] at r1
  refine ⟨by rw [← r1.length]; exact z, fun p hp => ?_⟩
  have x2 := Ext.new (o := .tup vs) e1.gh hp
  exact q1 _ _ _ (e1.trans x2) (Rp.tup (SqT.of upd_same) (r1.mono x2.gg))
theorem ej_lst (h : AJ true E X es u) : EJ .f E X (.List es pos) (wLst u) := by
  refine ⟨(pe_lst h.pa).imp fun σ H Q ⟨G0, H0, G, ρ, xc, R, T, q⟩ => ⟨G0, H0, G, ρ, xc, R, T, h.mo _ _ _ _ (fun ds ⟨z, q1⟩ G1 H1 vs e1 r1 => ?_) q⟩, fun xc ρ Q Q' i q => h.mo _ _ _ _ (fun ds ⟨z, q⟩ => ⟨z, i _ q⟩) q⟩
  rw [if_pos rfl] at r1
  refine ⟨by rw [← r1.length]; exact z, fun p hp => ?_⟩
  have x2 := Ext.newH (o := .lst vs) e1.gh hp
  exact q1 _ _ _ (e1.trans x2) ⟨p, .lst vs, rfl, e1.hh.free hp, upd_same, r1, e1.gh.free hp⟩

/-! ### built-in functions, methods of built-in types -/
abbrev OpN := List D → (D → Prop) → Prop
structure BrgN (K : PySem.W.Frag) (k : Kd) (op : OpN) (r : List V → Hp → VK → Prop) : Prop where
  go : ∀ (ds : List D) (G H : Hp) (vs : List V) (Q : D → Prop) (Q2 : VK), Same G H → RvOs K G H ds vs → op ds Q → (∀ d, Q d → ∀ G' H' v, Ext G H G' H' → RvK K k H G' H' d v → Q2 v H') → r vs H Q2
  mo : ∀ ds (Q Q' : D → Prop), (∀ d, Q d → Q' d) → op ds Q → op ds Q'
@[simp] def wN (op : OpN) (u : Wa) : Wx := fun xc ρ Q => u xc ρ fun ds => op ds Q
theorem rv_later {K : PySem.W.Frag} {k : Kd} {H H1 G' H' : Hp} {d : D} {v : V} (s : Same H H1) (r : RvK K k H1 G' H' d v) : RvK K k H G' H' d v := by
  cases k with
  | e => exact r
  | o => exact r
  | f => obtain ⟨p, o, e1, e2, e3⟩ := r; exact ⟨p, o, e1, s.free e2, e3⟩
theorem ej_N {op : OpN} {r : List V → Hp → VK → Prop} (h : AJ false E X es u) (hpe : PE X e (tCB r (liftA X.K E false u))) (B : BrgN X.K k op r) : EJ k E X e (wN op u) := by
  refine ⟨hpe.imp fun σ H Q ⟨G0, H0, G, ρ, xc, R, T, q⟩ => ⟨G0, H0, G, ρ, xc, R, T, h.mo _ _ _ _ (fun ds q1 G1 H1 vs e1 r1 => ?_) q⟩, fun xc ρ Q Q' i q => h.mo _ _ _ _ (fun ds q => B.mo _ _ _ i q) q⟩
  rw [if_neg Bool.false_ne_true] at r1
  exact B.go ds G1 H1 vs _ _ e1.gh r1 q1 fun d q2 G' H' v x2 r2 => q2 G' H' v (e1.trans x2) (rv_later e1.hh r2)
end
end Tw

/-! Tw, part C: the operators, on data. -/
namespace Tw
open PySem PySem.Spec L2 PyProof.Rows

/-! ### data as the library's data -/
mutual
def D.py : D → PyData
  | .non => .none | .bl b => .bool b | .int i => .int i | .str x => .str x
  | .tup xs => .tuple (D.pys xs) | .xtp xs => .tuple (D.pys xs) | .lst xs => .list (D.pys xs) | .fls xs => .list (D.pys xs)
  | .obj _ _ => .none | .dK _ => .none | .dT _ => .none
def D.pys : List D → List PyData
  | [] => []
  | x :: xs => D.py x :: D.pys xs
end
mutual
/-- no object of an own class, no dict -/
def D.isP : D → Bool
  | .non => true | .bl _ => true | .int _ => true | .str _ => true
  | .tup xs => D.isPs xs | .xtp xs => D.isPs xs | .lst xs => D.isPs xs | .fls xs => D.isPs xs
  | .obj _ _ => false | .dK _ => false | .dT _ => false
def D.isPs : List D → Bool
  | [] => true
  | x :: xs => D.isP x && D.isPs xs
end
section
variable {K : PySem.W.Frag} {G H : Hp}
mutual
theorem Rp.dp : ∀ {d : D} {v : V}, Rp K G d v → d.isP = true → Dp K G v d.py
  | _, _, .non, _ => by rw [D.py]; exact .non
  | _, _, .bl b, _ => by rw [D.py]; exact .bl b
  | _, _, .int i, _ => by rw [D.py]; exact .int i
  | _, _, .str x, _ => by rw [D.py]; exact .str x
  | _, _, .tup h r, p => by rw [D.isP] at p; rw [D.py]; exact .tup h (Rps.dp r p)
  | _, _, .xtp h _ _ r, p => by rw [D.isP] at p; rw [D.py]; exact .tup (.inl (.inr ⟨_, h⟩)) (Rps.dp r p)
  | _, _, .lst h r, p => by rw [D.isP] at p; rw [D.py]; exact .lst (SqL.of h) (Rps.dp r p)
  | _, _, .fls h r, p => by rw [D.isP] at p; rw [D.py]; exact .lst h (Rps.dp r p)
  | _, _, .obj _ _, p => by simp [D.isP] at p
  | _, _, .dK _ _, p => by simp [D.isP] at p
  | _, _, .dT _ _, p => by simp [D.isP] at p
theorem Rps.dp : ∀ {d : List D} {v : List V}, Rps K G d v → D.isPs d = true → DpAll K G v (D.pys d)
  | _, _, .nil, _ => by rw [D.pys]; exact .nil
  | _, _, .cons h r, p => by
    rw [D.isPs, Bool.and_eq_true] at p
    rw [D.pys]
    exact .cons (Rp.dp h p.1) (Rps.dp r p.2)
end
theorem RvO.dp {d : D} {v : V} (g : Same G H) (h : RvO K G H d v) (p : d.isP = true) : Dp K H v d.py := by
  rcases h with h | ⟨a, o, rfl, e2, t⟩
  · exact (h.mono g).dp p
  · cases d <;> cases o <;> first | exact t.elim | skip
    · rw [D.isP] at p; rw [D.py]; exact .lst (SqL.of e2) (Rps.dp (Rps.mono g t) p)
    · simp [D.isP] at p
    · simp [D.isP] at p
theorem pys_map {α : Type} (f : α → D) (g : α → PyData) (h : ∀ a, (f a).py = g a) : ∀ l : List α, D.pys (l.map f) = l.map g
  | [] => by rw [List.map_nil, D.pys]; rfl
  | a :: l => by rw [List.map_cons, D.pys, h, pys_map f g h l]; rfl
theorem isPs_all : ∀ l : List D, D.isPs l = l.all D.isP
  | [] => by rw [D.isPs]; rfl
  | a :: l => by rw [D.isPs, isPs_all l]; rfl
end

section
variable {X : Cx}
theorem opr_or {f : Value → Value → Sem Value} {r r' : R2} (h : OpR X f r) (h' : OpR X f r') : OpR X f (fun x y H Q => r x y H Q ∨ r' x y H Q) :=
  fun pins s σ H x y v u Q I rx ry q => q.elim (h pins s σ H x y v u Q I rx ry) (h' pins s σ H x y v u Q I rx ry)
variable {K : PySem.W.Frag}

/-! ### + -/
def oAdd : Op2
  | .int i, .int j, Q => Q (.int (i + j))
  | .str x, .str y, Q => x.length + y.length ≤ sizeLine ∧ Q (.str (x ++ y))
  | .tup xs, .tup ys, Q => xs.length + ys.length ≤ sizeLine ∧ Q (.tup (xs ++ ys))
  | _, _, _ => False
abbrev rAdd3 (K : PySem.W.Frag) : R2 := fun x y H Q => (∃ i j, x = .int i ∧ y = .int j ∧ Q (.int (i + j)) H) ∨ ((∃ i j, x = .str i ∧ y = .str j ∧ i.length + j.length ≤ sizeLine ∧ Q (.str (i ++ j)) H) ∨ rCatA K x y H Q)
theorem op_add3 : OpR X (binaryOp .Add) (rAdd3 X.K) := opr_or (r' := fun x y H Q => (∃ i j, x = .str i ∧ y = .str j ∧ i.length + j.length ≤ sizeLine ∧ Q (.str (i ++ j)) H) ∨ rCatA X.K x y H Q) op_add (opr_or op_add_str op_catA)
theorem rps_nil {G : Hp} {vs : List V} {ds : List D} (r : Rps K G ds vs) (h : vs = []) : ds = [] := by subst h; cases r; rfl
theorem brg_add : Brg2 K .e oAdd (rAdd3 K) := by
  refine ⟨fun x y G H vx vy Q Q2 g rx ry q k => ?_, fun x y Q Q' i q => ?_⟩
  · cases x <;> cases y <;> first | exact q.elim | skip
    · rw [rvO_int rx, rvO_int ry]
      exact .inl ⟨_, _, rfl, rfl, k _ q G H _ (.refl g) (.int _)⟩
    · obtain ⟨z, q⟩ := q
      rw [rvO_str rx, rvO_str ry]
      exact .inr (.inl ⟨_, _, rfl, rfl, z, k _ q G H _ (.refl g) (.str _)⟩)
    · obtain ⟨z, q⟩ := q
      obtain ⟨p, vs, rfl, h1, r1⟩ := rvO_tup g rx
      obtain ⟨p', vs', rfl, h2, r2⟩ := rvO_tup g ry
      rename_i xs ys
      have gt : ∀ {p : Addr} {vs : List V} {ds : List D} {v : V}, RvO K G H (.tup ds) v → v = .ref p → Rp K G (.tup ds) v := fun {p vs ds v} h e => by
        rcases h with h | ⟨_, o, _, _, t⟩
        · exact h
        · cases o <;> exact t.elim
      refine .inr (.inr ⟨p, p', vs, vs', rfl, rfl, h1, h2, by rw [← r1.length, ← r2.length]; exact z, fun e => ?_, fun e1 e => ?_, fun e1 e2 q' hq' => ?_⟩)
      · have e' := rps_nil r1 e
        subst e'
        exact k _ q G H _ (.refl g) (gt (p := p') (vs := []) ry rfl)
      · have e' := rps_nil r2 e
        subst e'
        rw [List.append_nil] at q
        exact k _ q G H _ (.refl g) (gt (p := p) (vs := []) rx rfl)
      · have x2 := Ext.new (o := .tup (vs ++ vs')) g hq'
        exact k _ q _ _ _ x2 (.tup (SqT.of upd_same) ((r1.append r2).mono x2.gg))
  · cases x <;> cases y <;> first | exact q.elim | skip
    · exact i _ q
    · exact ⟨q.1, i _ q.2⟩
    · exact ⟨q.1, i _ q.2⟩
/-- list + list: a new one -/
def oCat : Op2
  | .lst xs, .lst ys, Q => xs.length + ys.length ≤ sizeLine ∧ Q (.lst (xs ++ ys))
  | _, _, _ => False
theorem brg_cat : Brg2 K .f oCat rCat := by
  refine ⟨fun x y G H vx vy Q Q2 g rx ry q k => ?_, fun x y Q Q' i q => ?_⟩
  · cases x <;> cases y <;> first | exact q.elim | skip
    obtain ⟨z, q⟩ := q
    obtain ⟨p, vs, rfl, h1, r1⟩ := rvO_lst g rx
    obtain ⟨p', vs', rfl, h2, r2⟩ := rvO_lst g ry
    refine ⟨p, p', vs, vs', rfl, rfl, h1, h2, by rw [← r1.length, ← r2.length]; exact z, fun q' hq' => ?_⟩
    have x2 := Ext.newH (o := .lst (vs ++ vs')) g hq'
    exact k _ q _ _ _ x2 ⟨q', _, rfl, hq', upd_same, r1.append r2, g.free hq'⟩
  · cases x <;> cases y <;> first | exact q.elim | skip
    exact ⟨q.1, i _ q.2⟩

/-! ### ints -/
def oI (C : Int → Int → Prop) (f : Int → Int → D) : Op2
  | .int i, .int j, Q => C i j ∧ Q (f i j)
  | _, _, _ => False
theorem brg_I {C : Int → Int → Prop} {f : Int → Int → D} {f' : Int → Int → V} (hf : ∀ i j G, Rp K G (f i j) (f' i j)) : Brg2 K .e (oI C f) (rI C f') := by
  refine ⟨fun x y G H vx vy Q Q2 g rx ry q k => ?_, fun x y Q Q' i q => ?_⟩
  · cases x <;> cases y <;> first | exact q.elim | skip
    obtain ⟨z, q⟩ := q
    rw [rvO_int rx, rvO_int ry]
    exact ⟨_, _, rfl, rfl, z, k _ q G H _ (.refl g) (hf _ _ G)⟩
  · cases x <;> cases y <;> first | exact q.elim | skip
    exact ⟨q.1, i _ q.2⟩
def oI0 (f : Int → Int → D) : Op2
  | .int i, .int j, Q => Q (f i j)
  | _, _, _ => False
theorem brg_I0 {f : Int → Int → D} {f' : Int → Int → V} (hf : ∀ i j G, Rp K G (f i j) (f' i j)) : Brg2 K .e (oI0 f) (rI0 f') := by
  refine ⟨fun x y G H vx vy Q Q2 g rx ry q k => ?_, fun x y Q Q' i q => ?_⟩
  · cases x <;> cases y <;> first | exact q.elim | skip
    rw [rvO_int rx, rvO_int ry]
    exact ⟨_, _, rfl, rfl, k _ q G H _ (.refl g) (hf _ _ G)⟩
  · cases x <;> cases y <;> first | exact q.elim | skip
    exact i _ q
abbrev oSub : Op2 := oI0 fun i j => .int (i - j)
abbrev oMulI : Op2 := oI CMul fun i j => .int (i * j)
abbrev oDiv : Op2 := oI CDiv fun i j => .int (i / j)
abbrev oMod : Op2 := oI (fun _ j => 0 < j) fun i j => .int (i % j)
abbrev oPow : Op2 := oI CPow fun i j => .int (i ^ j.toNat)
abbrev oLt : Op2 := oI0 fun i j => .bl (decide (i < j))
abbrev oLe : Op2 := oI0 fun i j => .bl (decide (i ≤ j))
abbrev oGt : Op2 := oI0 fun i j => .bl (decide (j < i))
abbrev oGe : Op2 := oI0 fun i j => .bl (decide (j ≤ i))
theorem brg_sub : Brg2 K .e oSub (rI0 fun i j => .int (i - j)) := brg_I0 fun i j G => .int _
theorem brg_mulI : Brg2 K .e oMulI (rI CMul fun i j => .int (i * j)) := brg_I fun i j G => .int _
theorem brg_div : Brg2 K .e oDiv (rI CDiv fun i j => .int (i / j)) := brg_I fun i j G => .int _
theorem brg_mod : Brg2 K .e oMod (rI (fun _ j => 0 < j) fun i j => .int (i % j)) := brg_I fun i j G => .int _
theorem brg_pow : Brg2 K .e oPow (rI CPow fun i j => .int (i ^ j.toNat)) := brg_I fun i j G => .int _
theorem brg_lt : Brg2 K .e oLt (rI0 fun i j => .bl (decide (i < j))) := brg_I0 fun i j G => .bl _
theorem brg_le : Brg2 K .e oLe (rI0 fun i j => .bl (decide (i ≤ j))) := brg_I0 fun i j G => .bl _
theorem brg_gt : Brg2 K .e oGt (rI0 fun i j => .bl (decide (j < i))) := brg_I0 fun i j G => .bl _
theorem brg_ge : Brg2 K .e oGe (rI0 fun i j => .bl (decide (j ≤ i))) := brg_I0 fun i j G => .bl _
/-- a text times an int -/
def oMulS : Op2
  | .str x, .int n, Q => MulOk x n ∧ Q (.str (Txt.mul x n))
  | _, _, _ => False
def rMulS : R2 := fun x y H Q => ∃ z n, x = .str z ∧ y = .int n ∧ MulOk z n ∧ Q (.str (Txt.mul z n)) H
theorem op_mulS : OpR X (binaryOp .Mult) rMulS := by
  intro pins s σ H x y v u Q I rx ry h
  obtain ⟨z, n, rfl, rfl, ok, q⟩ := h
  obtain ⟨t, rfl⟩ := rx
  obtain ⟨t', rfl⟩ := ry
  exact SB.mul ok fun t' k => ⟨.str (Txt.mul z n), H, I.tok _, ⟨_, rfl⟩, q⟩
theorem brg_mulS : Brg2 K .e oMulS rMulS := by
  refine ⟨fun x y G H vx vy Q Q2 g rx ry q k => ?_, fun x y Q Q' i q => ?_⟩
  · cases x <;> cases y <;> first | exact q.elim | skip
    obtain ⟨z, q⟩ := q
    rw [rvO_str rx, rvO_int ry]
    exact ⟨_, _, rfl, rfl, z, k _ q G H _ (.refl g) (.str _)⟩
  · cases x <;> cases y <;> first | exact q.elim | skip
    exact ⟨q.1, i _ q.2⟩

/-! ### == and != of data, in -/
def D.ok (d : D) : Prop := d.isP = true ∧ SeqAt.shaped d.py = true
def oEq : Op2 := fun x y Q => x.ok ∧ y.ok ∧ Q (.bl (PyData.eqv x.py y.py))
def oNe : Op2 := fun x y Q => x.ok ∧ y.ok ∧ Q (.bl (!PyData.eqv x.py y.py))
theorem brg_eq : Brg2 K .e oEq (rEqD K) := by
  refine ⟨fun x y G H vx vy Q Q2 g rx ry ⟨a, b, q⟩ k => ?_, fun x y Q Q' i ⟨a, b, q⟩ => ⟨a, b, i _ q⟩⟩
  exact ⟨_, _, rx.dp g a.1, ry.dp g b.1, a.2, b.2, k _ q G H _ (.refl g) (.bl _)⟩
theorem brg_ne : Brg2 K .e oNe (rNeD K) := by
  refine ⟨fun x y G H vx vy Q Q2 g rx ry ⟨a, b, q⟩ k => ?_, fun x y Q Q' i ⟨a, b, q⟩ => ⟨a, b, i _ q⟩⟩
  exact ⟨_, _, rx.dp g a.1, ry.dp g b.1, a.2, b.2, k _ q G H _ (.refl g) (.bl _)⟩
/-- in a list or tuple -/
def oIn (neg : Bool) : Op2
  | x, .lst ys, Q => x.ok ∧ (D.lst ys).ok ∧ Q (.bl (if neg = true then !(D.pys ys).any (fun z => PyData.eqv z x.py) else (D.pys ys).any fun z => PyData.eqv z x.py))
  | x, .xtp ys, Q => x.ok ∧ (D.xtp ys).ok ∧ Q (.bl (if neg = true then !(D.pys ys).any (fun z => PyData.eqv z x.py) else (D.pys ys).any fun z => PyData.eqv z x.py))
  | x, .tup ys, Q => x.ok ∧ (D.tup ys).ok ∧ Q (.bl (if neg = true then !(D.pys ys).any (fun z => PyData.eqv z x.py) else (D.pys ys).any fun z => PyData.eqv z x.py))
  | _, _, _ => False
/-- a sign in a text -/
def oInS (neg : Bool) : Op2
  | .str ⟨⟨[c]⟩⟩, .str z, Q => Q (.bl (if neg = true then !decide (c ∈ z.cps.toList) else decide (c ∈ z.cps.toList)))
  | _, _, _ => False
theorem op_in2 (neg : Bool) : OpR X (compareOp (if neg = true then .NotIn else .In)) (fun x y H Q => ∃ (c : Nat) (z : Str), x = .str ⟨#[c]⟩ ∧ y = .str z ∧ Q (.bl (if neg = true then !decide (c ∈ z.cps.toList) else decide (c ∈ z.cps.toList))) H) := by
  cases neg with
  | true => exact op_notIn_sign
  | false => exact op_in_sign
theorem brg_inS (neg : Bool) : Brg2 K .e (oInS neg) (fun x y H Q => ∃ (c : Nat) (z : Str), x = .str ⟨#[c]⟩ ∧ y = .str z ∧ Q (.bl (if neg = true then !decide (c ∈ z.cps.toList) else decide (c ∈ z.cps.toList))) H) := by
  refine ⟨fun x y G H vx vy Q Q2 g rx ry q k => ?_, fun x y Q Q' i q => ?_⟩
  · unfold oInS at q
    split at q
    · rw [rvO_str rx, rvO_str ry]
      exact ⟨_, _, rfl, rfl, k _ q G H _ (.refl g) (.bl _)⟩
    · exact q.elim
  · unfold oInS at q ⊢
    split at q
    · exact i _ q
    · exact q.elim
def rInQ (K : PySem.W.Frag) (neg : Bool) : R2 := fun x y H Q => ∃ d ds, Dp K H x d ∧ (Dp K H y (.list ds) ∧ SeqAt.shaped (.list ds) = true ∨ Dp K H y (.tuple ds) ∧ SeqAt.shaped (.tuple ds) = true) ∧ SeqAt.shaped d = true ∧
  Q (.bl (if neg = true then !(ds.any fun z => PyData.eqv z d) else ds.any fun z => PyData.eqv z d)) H
end
end Tw

namespace Tw
open PySem PySem.Spec L2 PyProof.Rows
section
variable {X : Cx} {K : PySem.W.Frag}
theorem op_inQ (hu : X.A.units + 65 < cLine) : OpR X (compareOp .In) (rInQ X.K false) := by
  intro pins s σ H x y v u Q I rx ry h
  obtain ⟨d, ds, hd, he, sd, q⟩ := h
  obtain ⟨as, r1⟩ := Dp.reads I d x v hd rx
  rcases he with ⟨he, se⟩ | ⟨he, se⟩
  · obtain ⟨bs, r2⟩ := Dp.reads I (.list ds) y u he ry
    exact SeqAt.in_list_reads r2 r1 (SeqAt.canLay_of_shaped se) (SeqAt.canLay_of_shaped sd) (room_in_shaped sd hu) ⟨.bl _, H, I, rfl, q⟩
  · obtain ⟨bs, r2⟩ := Dp.reads I (.tuple ds) y u he ry
    exact SeqAt.in_tuple_reads r2 r1 (SeqAt.canLay_of_shaped se) (SeqAt.canLay_of_shaped sd) (room_in_shaped sd hu) ⟨.bl _, H, I, rfl, q⟩
theorem op_notInQ (hu : X.A.units + 65 < cLine) : OpR X (compareOp .NotIn) (rInQ X.K true) := by
  intro pins s σ H x y v u Q I rx ry h
  obtain ⟨d, ds, hd, he, sd, q⟩ := h
  obtain ⟨as, r1⟩ := Dp.reads I d x v hd rx
  rcases he with ⟨he, se⟩ | ⟨he, se⟩
  · obtain ⟨bs, r2⟩ := Dp.reads I (.list ds) y u he ry
    exact SeqAt.notIn_list_reads r2 r1 (SeqAt.canLay_of_shaped se) (SeqAt.canLay_of_shaped sd) (room_in_shaped sd hu) ⟨.bl _, H, I, rfl, q⟩
  · obtain ⟨bs, r2⟩ := Dp.reads I (.tuple ds) y u he ry
    exact SeqAt.notIn_tuple_reads r2 r1 (SeqAt.canLay_of_shaped se) (SeqAt.canLay_of_shaped sd) (room_in_shaped sd hu) ⟨.bl _, H, I, rfl, q⟩
theorem brg_in (neg : Bool) : Brg2 K .e (oIn neg) (rInQ K neg) := by
  refine ⟨fun x y G H vx vy Q Q2 g rx ry q k => ?_, fun x y Q Q' i q => ?_⟩
  · unfold oIn at q
    split at q
    · obtain ⟨a, b, q⟩ := q
      have h := ry.dp g b.1
      have sb := b.2
      rw [D.py] at h sb
      exact ⟨_, _, rx.dp g a.1, .inl ⟨h, sb⟩, a.2, k _ q G H _ (.refl g) (.bl _)⟩
    · obtain ⟨a, b, q⟩ := q
      have h := ry.dp g b.1
      have sb := b.2
      rw [D.py] at h sb
      exact ⟨_, _, rx.dp g a.1, .inr ⟨h, sb⟩, a.2, k _ q G H _ (.refl g) (.bl _)⟩
    · obtain ⟨a, b, q⟩ := q
      have h := ry.dp g b.1
      have sb := b.2
      rw [D.py] at h sb
      exact ⟨_, _, rx.dp g a.1, .inr ⟨h, sb⟩, a.2, k _ q G H _ (.refl g) (.bl _)⟩
    · exact q.elim
  · unfold oIn at q ⊢
    split at q
    · exact ⟨q.1, q.2.1, i _ q.2.2⟩
    · exact ⟨q.1, q.2.1, i _ q.2.2⟩
    · exact ⟨q.1, q.2.1, i _ q.2.2⟩
    · exact q.elim

/-! ### is None, is not None -/
def D.isN : D → Bool
  | .non => true
  | _ => false
def oIsN (neg : Bool) : Op2
  | x, .non, Q => Q (.bl (if neg = true then !x.isN else x.isN))
  | _, _, _ => False
theorem rp_non {G H : Hp} {d : D} {v : V} (h : RvO K G H d v) : decide (v = .non) = d.isN := by
  rcases h with h | ⟨p, o, rfl, e, t⟩
  · cases h <;> simp [D.isN]
  · cases d <;> cases o <;> first | exact t.elim | simp [D.isN]
theorem brg_isN : Brg2 K .e (oIsN false) (fun x y H Q => y = .non ∧ Q (.bl (decide (x = .non))) H) := by
  refine ⟨fun x y G H vx vy Q Q2 g rx ry q k => ?_, fun x y Q Q' i q => ?_⟩
  · cases y <;> first | exact q.elim | skip
    exact ⟨rvO_non ry, by rw [rp_non rx]; exact k _ q G H _ (.refl g) (.bl _)⟩
  · cases y <;> first | exact q.elim | skip
    exact i _ q
theorem brg_notN : Brg2 K .e (oIsN true) (fun x y H Q => y = .non ∧ Q (.bl (!decide (x = .non))) H) := by
  refine ⟨fun x y G H vx vy Q Q2 g rx ry q k => ?_, fun x y Q Q' i q => ?_⟩
  · cases y <;> first | exact q.elim | skip
    exact ⟨rvO_non ry, by rw [rp_non rx]; exact k _ q G H _ (.refl g) (.bl _)⟩
  · cases y <;> first | exact q.elim | skip
    exact i _ q

/-! ### items -/
theorem atI_get {G : Hp} {ds : List D} {vs : List V} {i : Int} {d : D} (r : Rps K G ds vs) (h : atI ds i = some d) : ∃ v, atI vs i = some v ∧ Rp K G d v := by
  unfold atI at h ⊢
  rw [← r.length]
  cases e : ixN ds.length i with
  | none => rw [e] at h; cases h
  | some j =>
    rw [e] at h
    exact r.get (i := j) h
def oIx : Op2
  | .lst xs, .int i, Q => ∃ d, atI xs i = some d ∧ Q d
  | .fls xs, .int i, Q => ∃ d, atI xs i = some d ∧ Q d
  | .tup xs, .int i, Q => ∃ d, atI xs i = some d ∧ Q d
  | .str z, .int i, Q => z.length ≤ sizeLine ∧ ∃ c, atI z.cps.toList i = some c ∧ Q (.str ⟨#[c]⟩)
  | _, _, _ => False
theorem brg_ix : Brg2 K .e oIx (rIx K) := by
  refine ⟨fun x y G H vx vy Q Q2 g rx ry q k => ?_, fun x y Q Q' i q => ?_⟩
  · cases x <;> cases y <;> first | exact q.elim | skip
    · obtain ⟨z, c, hc, q⟩ := q
      rw [rvO_str rx, rvO_int ry]
      exact .inr (.inr ⟨_, _, c, rfl, rfl, z, hc, k _ q G H _ (.refl g) (.str _)⟩)
    · obtain ⟨d, hd, q⟩ := q
      obtain ⟨p, vs, rfl, h1, r1⟩ := rvO_tup g rx
      obtain ⟨v, hv, rv⟩ := atI_get r1 hd
      rw [rvO_int ry]
      exact .inr (.inl ⟨p, vs, _, v, rfl, rfl, h1, hv, k _ q G H _ (.refl g) rv⟩)
    · obtain ⟨d, hd, q⟩ := q
      obtain ⟨p, vs, rfl, h1, r1⟩ := rvO_lst g rx
      obtain ⟨v, hv, rv⟩ := atI_get r1 hd
      rw [rvO_int ry]
      exact .inl ⟨p, vs, _, v, rfl, rfl, SqL.of h1, hv, k _ q G H _ (.refl g) rv⟩
    · obtain ⟨d, hd, q⟩ := q
      obtain ⟨p, vs, rfl, h1, r1⟩ := rvO_fls g rx
      obtain ⟨v, hv, rv⟩ := atI_get r1 hd
      rw [rvO_int ry]
      exact .inl ⟨p, vs, _, v, rfl, rfl, h1, hv, k _ q G H _ (.refl g) rv⟩
  · cases x <;> cases y <;> first | exact q.elim | skip
    · obtain ⟨z, c, h, q⟩ := q; exact ⟨z, c, h, i _ q⟩
    all_goals (obtain ⟨d, h, q⟩ := q; exact ⟨d, h, i _ q⟩)

/-! ### slices -/
abbrev OpS := D → Option Int → Option Int → (D → Prop) → Prop
def cutD (xs : List D) (lo hi : Option Int) : List D := (xs.drop (HT.sIx xs.length 0 lo)).take (HT.sIx xs.length xs.length hi - HT.sIx xs.length 0 lo)
theorem rps_cut {G : Hp} {ds : List D} {vs : List V} (r : Rps K G ds vs) (lo hi : Option Int) : Rps K G (cutD ds lo hi) (cutV vs lo hi) := by
  unfold cutD cutV
  rw [r.length]
  exact (r.drop _).take _
structure BrgS (K : PySem.W.Frag) (k : Kd) (op : OpS) (r : V → Option Int → Option Int → Hp → VK → Prop) : Prop where
  go : ∀ (x : D) (lo hi : Option Int) (G H : Hp) (vx : V) (Q : D → Prop) (Q2 : VK), Same G H → RvO K G H x vx → op x lo hi Q → (∀ d, Q d → ∀ G' H' v, Ext G H G' H' → RvK K k H G' H' d v → Q2 v H') → r vx lo hi H Q2
  mo : ∀ x lo hi (Q Q' : D → Prop), (∀ d, Q d → Q' d) → op x lo hi Q → op x lo hi Q'
def oSlL : OpS
  | .lst xs, lo, hi, Q => Q (.lst (cutD xs lo hi))
  | .fls xs, lo, hi, Q => Q (.lst (cutD xs lo hi))
  | _, _, _, _ => False
theorem brg_slL : BrgS K .f oSlL (rSlL K) := by
  refine ⟨fun x lo hi G H vx Q Q2 g rx q k => ?_, fun x lo hi Q Q' i q => ?_⟩
  · cases x <;> first | exact q.elim | skip
    · obtain ⟨p, vs, rfl, h1, r1⟩ := rvO_lst g rx
      refine ⟨p, vs, rfl, SqL.of h1, fun l hl => ?_⟩
      exact k _ q _ _ _ (Ext.newH g hl) ⟨l, _, rfl, hl, upd_same, rps_cut r1 lo hi, g.free hl⟩
    · obtain ⟨p, vs, rfl, h1, r1⟩ := rvO_fls g rx
      refine ⟨p, vs, rfl, h1, fun l hl => ?_⟩
      exact k _ q _ _ _ (Ext.newH g hl) ⟨l, _, rfl, hl, upd_same, rps_cut r1 lo hi, g.free hl⟩
  · cases x <;> first | exact q.elim | exact i _ q
def oSlT : OpS
  | .tup xs, lo, hi, Q => Q (.tup (cutD xs lo hi))
  | _, _, _, _ => False
theorem brg_slT : BrgS K .e oSlT (rSlA K) := by
  refine ⟨fun x lo hi G H vx Q Q2 g rx q k => ?_, fun x lo hi Q Q' i q => ?_⟩
  · cases x <;> first | exact q.elim | skip
    obtain ⟨p, vs, rfl, h1, r1⟩ := rvO_tup g rx
    refine ⟨p, vs, rfl, h1, fun e => ?_, fun _ l hl => ?_⟩
    · have r2 := rps_cut r1 lo hi
      have e2 : cutV vs lo hi = vs := by unfold cutV; rw [e.1, e.2]; simp
      rw [e2] at r2
      refine k _ q G H _ (.refl g) ?_
      rcases rx with h | ⟨_, o, _, _, t⟩
      · cases h with | tup hq r3 => exact .tup hq (by
          have := r2.length
          unfold cutD
          rw [r1.length, e.1, e.2]
          have e3 := r3.length
          have e4 := r1.length
          rw [List.drop_zero, Nat.sub_zero, List.take_of_length_le (by omega)]
          exact r3)
      · cases o <;> exact t.elim
    · have x2 := Ext.new (o := .tup (cutV vs lo hi)) g hl
      exact k _ q _ _ _ x2 (.tup (SqT.of upd_same) ((rps_cut r1 lo hi).mono x2.gg))
  · cases x <;> first | exact q.elim | exact i _ q
def oSlS : OpS
  | .str z, lo, hi, Q => z.length ≤ sizeLine ∧ Q (.str (cutS z lo hi))
  | _, _, _, _ => False
theorem brg_slS : BrgS K .e oSlS rSlS := by
  refine ⟨fun x lo hi G H vx Q Q2 g rx q k => ?_, fun x lo hi Q Q' i q => ?_⟩
  · cases x <;> first | exact q.elim | skip
    rw [rvO_str rx]
    exact ⟨_, rfl, q.1, k _ q.2 G H _ (.refl g) (.str _)⟩
  · cases x <;> first | exact q.elim | exact ⟨q.1, i _ q.2⟩
abbrev Wo := XC → Evn → (Option Int → Prop) → Prop
def liftO (K : PySem.W.Frag) (E : XK) (w : Wo) : TO := fun σ H Q => ∃ G0 H0 G ρ xc, Rel K G0 H0 G ρ σ H ∧ TieX K G0 H0 E xc ∧ w xc ρ fun d => ∀ G' H', Ext G H G' H' → Q d H'
structure OJ (E : XK) (X : Cx) (e : Option Expr) (w : Wo) : Prop where
  po : PO X e (liftO X.K E w)
  mo : ∀ xc ρ (Q Q' : Option Int → Prop), (∀ d, Q d → Q' d) → w xc ρ Q → w xc ρ Q'
def woN : Wo := fun _ _ Q => Q none
def woS (w : Wx) : Wo := fun xc ρ Q => w xc ρ fun d => ∃ i, d = .int i ∧ Q (some i)
theorem PO.imp {X : Cx} {e : Option Expr} {t t' : TO} (h : PO X e t) (i : ∀ σ H Q, t' σ H Q → t σ H Q) : PO X e t' := ⟨fun pins s σ H Q I q => h.run pins s σ H Q I (i _ _ _ q)⟩
variable {E : XK} {e a b c : Expr} {w wa wb wc : Wx} {k ka kb : Kd} {pos : Pos}
theorem oj_none : OJ E X none woN := ⟨PO.imp po_none fun σ H Q ⟨G0, H0, G, ρ, xc, R, T, q⟩ => q G H (.refl R.gh), fun _ _ _ _ i q => i _ q⟩
theorem oj_some (h : EJ k E X e w) : OJ E X (some e) (woS w) := by
  refine ⟨PO.imp (po_some h.pe) fun σ H Q ⟨G0, H0, G, ρ, xc, R, T, q⟩ => ⟨G0, H0, G, ρ, xc, R, T, h.mo _ _ _ _ (fun d ⟨i, e, q1⟩ G1 H1 v x1 r1 => ?_) q⟩, fun _ _ _ _ i q => h.mo _ _ _ _ (fun d ⟨j, e, q⟩ => ⟨j, e, i _ q⟩) q⟩
  subst e
  exact ⟨i, rvO_int r1.o, q1 G1 H1 x1⟩
def wSl (op : OpS) (wa : Wx) (lo hi : Wo) : Wx := fun xc ρ Q => wa xc ρ fun x => lo xc ρ fun l => hi xc ρ fun u => op x l u Q
theorem ej_sl {op : OpS} {r : V → Option Int → Option Int → Hp → VK → Prop} {lo hi : Option Expr} {wl wu : Wo} {p2 : Pos} (hr : SlR X r) (B : BrgS X.K k op r) (ha : EJ ka E X a wa) (hl : OJ E X lo wl) (hu : OJ E X hi wu) :
    EJ k E X (.Subscript a (.Slice lo hi none p2) pos) (wSl op wa wl wu) := by
  refine ⟨(pe_slice hr ha.pe hl.po hu.po).imp fun σ H Q ⟨G0, H0, G, ρ, xc, R, T, q⟩ => ⟨G0, H0, G, ρ, xc, R, T, ha.mo _ _ _ _ (fun x q1 G1 H1 v1 x1 r1 => ?_) q⟩, fun xc ρ Q Q' i q => ha.mo _ _ _ _ (fun x q => hl.mo _ _ _ _ (fun l q => hu.mo _ _ _ _ (fun u q => B.mo _ _ _ _ _ i q) q) q) q⟩
  refine ⟨G0, H0, G1, ρ, xc, R.ext x1, T, hl.mo _ _ _ _ (fun l q2 G2 H2 x2 => ?_) q1⟩
  refine ⟨G0, H0, G2, ρ, xc, (R.ext x1).ext x2, T, hu.mo _ _ _ _ (fun u q3 G3 H3 x3 => ?_) q2⟩
  have x13 := x2.trans x3
  exact B.go x l u G3 H3 v1 _ _ x3.gh (r1.o.ext x13) q3 fun d q4 G' H' v x4 r4 => q4 G' H' v (x1.trans (x13.trans x4)) (rv_later (x1.trans x13).hh r4)
theorem ej_ix (ha : EJ ka E X a wa) (hb : EJ kb E X b wb) (hs : PlainIx b) : EJ .e E X (.Subscript a b pos) (w2 oIx wa wb) := ej_2 ha hb (pe_ix ix_seq ha.pe hb.pe hs) brg_ix
end
end Tw

/-! Tw, part S: sorted(set(xs)), xs a list of ints. -/
namespace Tw
open PySem PySem.Spec L2 PyProof.Rows
section
variable {P : Program} {w : World} {A : Around} {E : Value → Shared → Prop} {s : Shared}
abbrev fresh0 (w : World) : Obj := { cls := .type "set", dict := none, data := .set #[] 0 (.fresh 0 0 (!w.params.followText "set-order")) }
theorem nodup_le64 : ∀ (l S : List Int), l.Nodup → (∀ k ∈ l, k ∈ S) → l.length ≤ S.length
  | [], _, _, _ => Nat.zero_le _
  | a :: l, S, nd, sub => by
    have ha : a ∈ S := sub a List.mem_cons_self
    have h := nodup_le64 l (S.erase a) (List.nodup_cons.mp nd).2 fun k hk => (List.mem_erase_of_ne (fun e => by subst e; exact (List.nodup_cons.mp nd).1 hk)).mpr (sub k (List.mem_cons_of_mem _ hk))
    rw [List.length_erase_of_mem ha] at h
    have := List.length_pos_of_mem ha
    simp only [List.length_cons]; omega
def few64 (ns : List Int) : Prop := ∃ S : List Int, S.length < 64 ∧ ∀ k ∈ ns, k ∈ S
/-- m different numbers of the first i -/
def mOf (ns : List Int) (i m : Nat) : Prop := ∃ l : List Int, l.Nodup ∧ l.length = m ∧ ∀ k ∈ l, k ∈ ns.take i
theorem mOf_lt {ns : List Int} {i m : Nat} (few : few64 ns) (h : mOf ns i m) : m < 64 := by
  obtain ⟨S, hs, sub⟩ := few
  obtain ⟨l, nd, rfl, hl⟩ := h
  have := nodup_le64 l S nd fun k hk => sub k (List.mem_of_mem_take (hl k hk))
  omega
/-- the loop of set.update over ints -/
theorem upd_ints {it : Addr} {fp wr : List Addr} {Gs : Array GenState → Array GenState → Prop} {n : Nat} {Pv : Nat → Value → Prop} {St : Nat → Shared → Prop} {R : Result → Shared → Prop}
    (Wk : WalksS P w A.in1 it fp wr Gs n Pv St) (z : Addr) (zf : z ∉ fp) (ns : List Int) (en : n = ns.length) (few : few64 ns) (val : ∀ i v, Pv i v → ∃ k t, ns[i]? = some k ∧ v = .int k t)
    (h0 : Heap) (z0 : h0.get? z = none) (w0 : ∀ b ∈ wr, h0.get? b = none) :
    ∀ (j i : Nat) (s : Shared), n - i = j → i ≤ n → St i s → (∀ b o, h0.get? b = some o → s.heap.get? b = some o) → (∃ m, mOf ns i m ∧ SetR w s.heap z (fun k => decide (k ∈ ns.take i)) m) →
      (∀ s' m, Moved (z :: wr) Gs s s' → mOf ns n m → SetR w s'.heap z (fun k => decide (k ∈ ns.take n)) m → (∀ b o, h0.get? b = some o → s'.heap.get? b = some o) → R (.ok (.ret .none)) s') →
      codeAny (model P w) A (.builtin "set.update.loop" ⟨[.ref z, .ref it], []⟩) R s := by
  have zw : z ∉ wr := fun q => zf (Wk.sub _ q)
  have up : ∀ b ∈ wr, b ∈ z :: wr := fun b q => List.mem_cons_of_mem _ q
  have held : ∀ {s s' : Shared}, Moved wr Gs s s' → (∀ b o, h0.get? b = some o → s.heap.get? b = some o) → ∀ b o, h0.get? b = some o → s'.heap.get? b = some o := fun mv kp b o q =>
    mv.heap b o (fun hb => by rw [w0 b hb] at q; cases q) (kp b o q)
  intro j
  induction j with
  | zero =>
    intro i s ej hi st kp ⟨m, hm, hz⟩ fin
    obtain rfl : i = n := by omega
    refine codeAny_builtin F.entry_set_update_loop ?_
    rw [Around.under_plainId F.plain_set_update_loop _]
    show wpAny _ A.in1 (pyNext (.ref it) >>= _) _ _ s
    refine wpAny_bind (Wk.done s _ _ st fun s' mv => ?_)
    show wpAny _ A.in1 (ret Value.none) _ _ s'
    exact wpAny_pure (fin s' m (mv.mono up) hm (hz.at fun o q => mv.heap z o zw q) (held mv kp))
  | succ j ih =>
    intro i s ej hi st kp ⟨m, hm, hz⟩ fin
    have lt : i < n := by omega
    refine codeAny_builtin F.entry_set_update_loop ?_
    rw [Around.under_plainId F.plain_set_update_loop _]
    show wpAny _ A.in1 (pyNext (.ref it) >>= _) _ _ s
    refine wpAny_bind (Wk.item i s _ _ lt st fun v s' pv' st' mv => ?_)
    obtain ⟨k, t, hk, rfl⟩ := val i v pv'
    have kp' := held mv kp
    have hz' : SetR w s'.heap z _ m := hz.at fun o q => mv.heap z o zw q
    show wpAny _ A.in1 (holding [Value.int k t] (setAdd z (.int k t)) >>= _) _ _ s'
    refine wpAny_bind (wpAny_holding ?_)
    unfold setAdd
    refine wpAny_holding ?_
    refine wpAny_bind (wpAny_pyHash_int ?_)
    have m64 := mOf_lt few hm
    refine setR_add_hashed (P := P) hz' (by unfold scanBound; omega) fun h' sb r => ?_
    have tk : ns.take (i + 1) = ns.take i ++ [k] := by rw [List.take_succ, hk]; rfl
    have kp2 : ∀ b o, h0.get? b = some o → h'.get? b = some o := fun b o q => (sb.2 b (fun e => by rw [e, z0] at q; cases q)).trans (kp' b o q)
    have fr : ∀ b ∈ fp, ∀ o, s'.heap.get? b = some o → h'.get? b = some o := fun b hb o q => by
      rw [sb.2 b (fun e => zf (by rw [← e]; exact hb))]; exact q
    refine wpAny_pure ⟨plainId_quiet F.plain_set_update_loop _, ih (i + 1) _ (by omega) lt (Wk.frame _ s' _ _ st' (Nat.le_add_right _ _) fr) kp2 ?_ fun s'' m2 mv2 hm2 hz2 kp3 => ?_⟩
    · refine ⟨_, ?_, r.congr fun q => ?_⟩
      · obtain ⟨l, nd, el, hl⟩ := hm
        have hl2 : ∀ q ∈ l, q ∈ ns.take (i + 1) := fun q hq => by rw [tk]; exact List.mem_append_left _ (hl q hq)
        by_cases hk : k ∈ ns.take i
        · simp only [hk, decide_true, if_true]
          exact ⟨l, nd, el, hl2⟩
        · simp only [hk, decide_false]
          refine ⟨k :: l, List.nodup_cons.mpr ⟨fun q => hk (hl k q), nd⟩, by simp [el], fun q hq => ?_⟩
          rcases List.mem_cons.mp hq with e | hq
          · rw [tk, e]; simp
          · exact hl2 q hq
      · rw [tk]; simp only [List.mem_append, List.mem_singleton]
        by_cases a : q ∈ ns.take i <;> by_cases b : q = k <;> simp [a, b]
    · refine fin s'' m2 (Moved.trans Wk.gtrans ((mv.mono up).then_heap (Nat.le_add_right _ _) fun b o hb q => ?_) mv2) hm2 hz2 kp3
      rw [sb.2 b (fun e => hb (by rw [e]; exact List.mem_cons_self))]; exact q

set_option maxHeartbeats 3200000 in
/-- set(xs) of ints -/
theorem call_setI {l : Addr} {items : Array Value} (ns : List Int) {Q : Value → Shared → Prop} (hh : A.handled = none) (il : s.heap.IsList l items) (ii : IntsAre items.toList ns) (few : few64 ns)
    (h : ∀ (h' : Heap) (tk : Nat) m, m < 64 → SetR w h' s.heap.objs.size (fun k => decide (k ∈ ns)) m → (∀ b o, s.heap.get? b = some o → h'.get? b = some o) → Q (.ref s.heap.objs.size) { s with heap := h', toks := tk }) :
    wpAny (model P w) A (call (.type "set") [.ref l]) Q E s := by
  have sz : items.size = ns.length := by
    have q := ii.length
    rw [Array.length_toList] at q
    exact q
  obtain ⟨c, tl, hmro⟩ := F.called_set.mro
  have c1 := F.called_set.made
  have c2 := F.called_set.sub
  refine wpAny_call (codeAny_of_tree ?_)
  show wpAny _ _ (callAny (.type "set") _) _ _ _
  refine wpAny_pure ⟨Code.quiet_builtin _ (by decide +kernel), codeAny_builtin F.entry_type_call ?_⟩
  rw [Around.under_plain (weight_type_call_type "set" [.ref l] []) rfl]
  have c3 := F.called_set.notType
  have c4 := F.called_set.canCreate
  have c5 := F.typeCall_set_1 (.ref l)
  repeat (any_goals (first | assumption | wp_step))
  refine codeAny_mono (code_set_led1 (.ref l) (E := E) (Q₁ := fun obj s₁ => obj = .ref s.heap.objs.size ∧ s₁ = { s with heap := s.heap.push (fresh0 w) }) ⟨rfl, rfl⟩) fun r s₁ hr => ?_
  cases r with
  | error e => exact hr
  | ok fl =>
    cases fl with
    | ret obj =>
      obtain ⟨rfl, rfl⟩ := hr
      have hS : (s.heap.push (fresh0 w)).get? s.heap.objs.size = some (fresh0 w) := Heap.get?_push_size _ rfl
      have hT : Shared.TypeIs { s with heap := s.heap.push (fresh0 w) } (.ref s.heap.objs.size) "set" := ⟨_, hS, rfl⟩
      have c6 := F.called_set.init.lookup
      have c7 := F.called_set.init.bind (.ref s.heap.objs.size)
      repeat (any_goals (first | assumption | wp_step))
      refine codeAny_mono (codeAny_call_builtin (R := wants (fun r s₂ => r = .none ∧ ∃ h' tk m, s₂ = { s with heap := h', toks := tk } ∧ m < 64 ∧ SetR w h' s.heap.objs.size (fun k => decide (k ∈ ns)) m ∧
          (∀ b o, s.heap.get? b = some o → h'.get? b = some o)) E) F.called_set.init.plain F.entry_set_init (check_set_init_1 hT ?_)) fun r₂ s₂ hr₂ => ?_
      · obtain ⟨ol, hol, hcl, nl, hdl⟩ := il
        obtain ⟨ocls, odict, odata, oslots⟩ := ol
        simp only at hcl hdl
        subst hcl; subst hdl
        have hol' : (s.heap.push (fresh0 w)).get? l = some { cls := .type "list", dict := odict, data := .seq items nl, slots := oslots } := Heap.get?_push_of_some _ hol
        have d1 := F.sub_list_set
        have d2 := F.sub_list_frozenset
        have d3 : (Value.type "list" == Value.type "dict") = false := by decide
        have hl1 : (s.heap.push (fresh0 w)).IsList l items := ⟨_, hol', rfl, nl, rfl⟩
        unfold Builtin.«set.__init__» noKeywords Builtin.Frozenset.updateFrom
        generalize hPI : pyIter = PI
        wp_walk
        subst hPI
        refine wpAny_pyIter_list hl1 ?_
        refine wpAny_bind (wpAny_runValue ?_)
        have ls : l < s.heap.objs.size := Heap.lt_size hol
        have hh3 : A.in1.in1.in1.handled = none := by simp [hh]
        have nI : l ≠ (s.heap.push (fresh0 w)).objs.size := by
          rw [Heap.size_push]
          exact Nat.ne_of_lt (Nat.lt_succ_of_lt ls)
        have nf : s.heap.objs.size ∉ [(s.heap.push (fresh0 w)).objs.size, l] := by
          rw [Heap.size_push]; simp only [List.mem_cons, List.not_mem_nil, or_false, not_or]
          exact ⟨Nat.ne_of_lt (Nat.lt_succ_self _), Nat.ne_of_gt ls⟩
        have val : ∀ (i : Nat) (v : Value), items[i]? = some v → ∃ k t, ns[i]? = some k ∧ v = .int k t := fun i v hv => by
          have q : items.toList[i]? = some v := by rw [Array.getElem?_toList]; exact hv
          have lt2 : i < ns.length := by
            rw [← sz]; exact (Array.getElem?_eq_some_iff.mp hv).1
          obtain ⟨t, e⟩ := ii.int_at i v q
          exact ⟨ns.getD i 0, t, by rw [List.getD_eq_getElem?_getD, List.getElem?_eq_getElem lt2]; rfl, e⟩
        have nn : ∀ b, s.heap.objs.size ≤ b → s.heap.get? b = none := fun b hb => by
          cases q : s.heap.get? b with
          | none => rfl
          | some o => exact absurd (Nat.lt_of_lt_of_le (Heap.lt_size q) hb) (Nat.lt_irrefl _)
        refine upd_ints ((Walks.list hh3 _ l nI items).toS) s.heap.objs.size nf ns sz few val s.heap (nn _ (Nat.le_refl _)) (fun b hb => nn b (by
            rw [List.mem_singleton.mp hb, Heap.size_push]
            exact Nat.le_succ _)) (items.size - 0) 0 _ (by omega) (Nat.zero_le _)
          ⟨⟨_, Heap.get?_push_size _ rfl, rfl, rfl⟩, (hl1.push _)⟩ (fun b o e => Heap.get?_push_of_some _ (Heap.get?_push_of_some _ e)) ?hS0 ?hR
        case hS0 =>
          refine ⟨0, ⟨[], List.nodup_nil, rfl, fun _ q => by cases q⟩, ((setR_fresh (h := s.heap) w).at fun o e => Heap.get?_push_of_some _ e).congr fun k => by simp⟩
        case hR =>
          intro s' m mv hm hz kp
          obtain ⟨h', g2, d', tk', os'⟩ := s'
          have eg : g2 = s.gens := mv.gens
          have ed : d' = s.drawn := mv.drawn
          have eo : os' = s.os := mv.os
          subst eg; subst ed; subst eo
          show wpAny _ _ _ _ _ _
          refine wpAny_pure ?_
          show wpAny _ _ (ret Value.none) _ _ _
          have hm := mOf_lt few hm
          have et : ns.take items.size = ns := by rw [sz, List.take_length]
          rw [et] at hz
          exact wpAny_pure ⟨rfl, h', tk', m, rfl, hm, hz, kp⟩
      · cases r₂ with
        | error e => exact hr₂
        | ok fl₂ =>
          cases fl₂ with
          | ret r =>
            obtain ⟨rfl, h', tk, m, rfl, hm, hz, kp⟩ := hr₂
            repeat (any_goals (first | assumption | wp_step))
            exact h _ _ _ hm hz kp
          | _ => exact hr₂.elim
    | _ => exact hr.elim
end
section
variable {X : Cx}
def rSetI (K : PySem.W.Frag) (w : World) : List V → Hp → VK → Prop := fun xs H Q => ∃ (l : Addr) (ns : List Int), xs = [V.ref l] ∧ SqL K H l (ns.map V.int) ∧ few64 ns ∧
  ∀ p m, H p = none → m < 64 → Q (.ref p) (upd H p (SetO w p (fun k => decide (k ∈ ns)) m))
theorem cr_setI (hc : X.calm = true) : CallR X (.type "set") (rSetI X.K X.w) := by
  intro pins s σ H xs us Q I r h
  obtain ⟨l, ns, rfl, hl, few, q⟩ := h
  rw [Vals.ref1 r]
  obtain ⟨its, rv, pl, hz⟩ := I.list hl
  have hn : H s.heap.objs.size = none := I.hok.fresh (Nat.le_refl _)
  refine call_setI ns (I.ok.hd hc) pl.isList (by simpa using ints_of_vals rv) few fun h' tk m hm R kp => ?_
  exact ⟨.ref s.heap.objs.size, _, I.laid (t' := tk) kp (Nat.le_refl _) (setO_new R), rfl, q _ m hn hm⟩
end
end Tw

/-! Tw, part D: built-in functions on data; calls of defs; statements. -/
namespace Tw
open PySem PySem.Spec L2 PyProof.Rows
section
variable {X : Cx} {K : PySem.W.Frag} {E : XK} {e a b c o : Expr} {es : List Expr} {w wa wb wc : Wx} {k ka kb : Kd} {pos p : Pos} {u : Wa}

/-! ### len, int, abs, list, tuple, sorted, any, all -/
theorem rvOs_1 {G H : Hp} {d : D} {vs : List V} (h : RvOs K G H [d] vs) : ∃ v, vs = [v] ∧ RvO K G H d v := by
  cases h with | cons h r => cases r; exact ⟨_, rfl, h⟩
def oLen : OpN
  | [.lst xs], Q => Q (.int xs.length)
  | [.fls xs], Q => Q (.int xs.length)
  | [.tup xs], Q => Q (.int xs.length)
  | [.xtp xs], Q => Q (.int xs.length)
  | [.str z], Q => z.length ≤ sizeLine ∧ Q (.int z.length)
  | _, _ => False
theorem brg_len : BrgN K .e oLen (fun xs H Q => ∃ x n, xs = [x] ∧ LenV K x H n ∧ Q (V.int ↑n) H) := by
  refine ⟨fun ds G H vs Q Q2 g r q kk => ?_, fun ds Q Q' i q => ?_⟩
  · unfold oLen at q
    split at q
    · obtain ⟨v, rfl, rv⟩ := rvOs_1 r
      obtain ⟨pp, vs, rfl, h1, r1⟩ := rvO_lst g rv
      exact ⟨_, _, rfl, .inl ⟨vs, SqL.of h1, r1.length⟩, kk _ q G H _ (.refl g) (.int _)⟩
    · obtain ⟨v, rfl, rv⟩ := rvOs_1 r
      obtain ⟨pp, vs, rfl, h1, r1⟩ := rvO_fls g rv
      exact ⟨_, _, rfl, .inl ⟨vs, h1, r1.length⟩, kk _ q G H _ (.refl g) (.int _)⟩
    · obtain ⟨v, rfl, rv⟩ := rvOs_1 r
      obtain ⟨pp, vs, rfl, h1, r1⟩ := rvO_tup g rv
      exact ⟨_, _, rfl, .inr ⟨vs, h1, r1.length⟩, kk _ q G H _ (.refl g) (.int _)⟩
    · obtain ⟨v, rfl, rv⟩ := rvOs_1 r
      obtain ⟨pp, vs, o, rfl, h1, _, _, r1⟩ := rvO_xtp g rv
      exact ⟨_, _, rfl, .inr ⟨vs, .inl (.inr ⟨_, h1⟩), r1.length⟩, kk _ q G H _ (.refl g) (.int _)⟩
    · obtain ⟨v, rfl, rv⟩ := rvOs_1 r
      rw [rvO_str rv]
      exact ⟨_, _, rfl, ⟨q.1, rfl⟩, kk _ q.2 G H _ (.refl g) (.int _)⟩
    · exact q.elim
  · unfold oLen at q ⊢
    split at q <;> first | exact i _ q | exact ⟨q.1, i _ q.2⟩ | exact q.elim
def oInt : OpN
  | [.int i], Q => Q (.int i)
  | [.bl k], Q => Q (.int (if k = true then 1 else 0))
  | _, _ => False
theorem brg_int : BrgN K .e oInt (fun xs H Q => (∃ i, xs = [V.int i] ∧ Q (V.int i) H) ∨ ∃ k, xs = [V.bl k] ∧ Q (V.int (if k = true then 1 else 0)) H) := by
  refine ⟨fun ds G H vs Q Q2 g r q kk => ?_, fun ds Q Q' i q => ?_⟩
  · unfold oInt at q
    split at q
    · obtain ⟨v, rfl, rv⟩ := rvOs_1 r
      rw [rvO_int rv]
      exact .inl ⟨_, rfl, kk _ q G H _ (.refl g) (.int _)⟩
    · obtain ⟨v, rfl, rv⟩ := rvOs_1 r
      rw [rvO_bl rv]
      exact .inr ⟨_, rfl, kk _ q G H _ (.refl g) (.int _)⟩
    · exact q.elim
  · unfold oInt at q ⊢
    split at q <;> first | exact i _ q | exact q.elim
def oAbs : OpN
  | [.int i], Q => Q (.int (if i < 0 then -i else i))
  | _, _ => False
theorem brg_abs : BrgN K .e oAbs (fun xs H Q => ∃ i, xs = [V.int i] ∧ Q (V.int (if i < 0 then -i else i)) H) := by
  refine ⟨fun ds G H vs Q Q2 g r q kk => ?_, fun ds Q Q' i q => ?_⟩
  · unfold oAbs at q
    split at q
    · obtain ⟨v, rfl, rv⟩ := rvOs_1 r
      rw [rvO_int rv]
      exact ⟨_, rfl, kk _ q G H _ (.refl g) (.int _)⟩
    · exact q.elim
  · unfold oAbs at q ⊢
    split at q <;> first | exact i _ q | exact q.elim
/-- list(x): a new list -/
def oList : OpN
  | [.lst xs], Q => Q (.lst xs)
  | [.fls xs], Q => Q (.lst xs)
  | [.tup xs], Q => Q (.lst xs)
  | _, _ => False
theorem brg_list : BrgN K .f oList (fun xs H Q => ∃ p ys, xs = [V.ref p] ∧ (SqL K H p ys ∨ SqT K H p ys) ∧ ∀ (l : Addr), H l = none → Q (V.ref l) (upd H l (HO.lst ys))) := by
  refine ⟨fun ds G H vs Q Q2 g r q kk => ?_, fun ds Q Q' i q => ?_⟩
  · have fin : ∀ {xs : List D} {vs : List V}, Q (.lst xs) → Rps K G xs vs → ∀ l, H l = none → Q2 (V.ref l) (upd H l (HO.lst vs)) := fun q r1 l hl =>
      kk _ q _ _ _ (Ext.newH g hl) ⟨l, _, rfl, hl, upd_same, r1, g.free hl⟩
    unfold oList at q
    split at q
    · obtain ⟨v, rfl, rv⟩ := rvOs_1 r
      obtain ⟨pp, vs, rfl, h1, r1⟩ := rvO_lst g rv
      exact ⟨pp, vs, rfl, .inl (SqL.of h1), fin q r1⟩
    · obtain ⟨v, rfl, rv⟩ := rvOs_1 r
      obtain ⟨pp, vs, rfl, h1, r1⟩ := rvO_fls g rv
      exact ⟨pp, vs, rfl, .inl h1, fin q r1⟩
    · obtain ⟨v, rfl, rv⟩ := rvOs_1 r
      obtain ⟨pp, vs, rfl, h1, r1⟩ := rvO_tup g rv
      exact ⟨pp, vs, rfl, .inr h1, fin q r1⟩
    · exact q.elim
  · unfold oList at q ⊢
    split at q <;> first | exact i _ q | exact q.elim
def oTuple : OpN
  | [.lst xs], Q => Q (.tup xs)
  | [.fls xs], Q => Q (.tup xs)
  | [.tup xs], Q => Q (.tup xs)
  | _, _ => False
theorem brg_tuple : BrgN K .e oTuple (fun xs H Q => ∃ p ys, xs = [V.ref p] ∧ ((SqL K H p ys ∧ ∀ (l : Addr), H l = none → Q (V.ref l) (upd H l (HO.tup ys))) ∨ SqT K H p ys ∧ Q (V.ref p) H)) := by
  refine ⟨fun ds G H vs Q Q2 g r q kk => ?_, fun ds Q Q' i q => ?_⟩
  · have fin : ∀ {xs : List D} {vs : List V}, Q (.tup xs) → Rps K G xs vs → ∀ l, H l = none → Q2 (V.ref l) (upd H l (HO.tup vs)) := fun {xs vs} q r1 l hl => by
      have x2 := Ext.new (o := .tup vs) g hl
      exact kk _ q _ _ _ x2 (.tup (SqT.of upd_same) (r1.mono x2.gg))
    unfold oTuple at q
    split at q
    · obtain ⟨v, rfl, rv⟩ := rvOs_1 r
      obtain ⟨pp, vs, rfl, h1, r1⟩ := rvO_lst g rv
      exact ⟨pp, vs, rfl, .inl ⟨SqL.of h1, fin q r1⟩⟩
    · obtain ⟨v, rfl, rv⟩ := rvOs_1 r
      obtain ⟨pp, vs, rfl, h1, r1⟩ := rvO_fls g rv
      exact ⟨pp, vs, rfl, .inl ⟨h1, fin q r1⟩⟩
    · obtain ⟨v, rfl, rv⟩ := rvOs_1 r
      rcases rv with rv | ⟨_, o, _, _, t⟩
      · cases rv with | tup h1 r1 => exact ⟨_, _, rfl, .inr ⟨sqT_mono g h1, kk _ q G H _ (.refl g) (.tup h1 r1)⟩⟩
      · cases o <;> exact t.elim
    · exact q.elim
  · unfold oTuple at q ⊢
    split at q <;> first | exact i _ q | exact q.elim
theorem rps_ints {G : Hp} : ∀ {ns : List Int} {vs : List V}, Rps K G (ns.map .int) vs → vs = ns.map .int
  | [], _, .nil => rfl
  | n :: ns, _, .cons h r => by
    cases h
    rw [rps_ints r]; rfl
theorem ints_rps {G : Hp} : ∀ ns : List Int, Rps K G (ns.map .int) (ns.map .int)
  | [] => .nil
  | n :: ns => .cons (.int n) (ints_rps ns)
theorem rps_bls {G : Hp} : ∀ {ns : List Bool} {vs : List V}, Rps K G (ns.map .bl) vs → vs = ns.map .bl
  | [], _, .nil => rfl
  | n :: ns, _, .cons h r => by
    cases h
    rw [rps_bls r]; rfl
/-- sorted(x), x a list of ints -/
def oSortI : OpN := fun ds Q => ∃ ns : List Int, ds = [.lst (ns.map .int)] ∧ ∀ ms : List Int, ms.Perm ns → ms.Pairwise (· ≤ ·) → Q (.lst (ms.map .int))
theorem brg_sortI : BrgN K .f oSortI (rSortedI K) := by
  refine ⟨fun ds G H vs Q Q2 g r ⟨ns, ed, q⟩ kk => ?_, fun ds Q Q' i ⟨ns, ed, q⟩ => ⟨ns, ed, fun ms a b => i _ (q ms a b)⟩⟩
  subst ed
  obtain ⟨v, rfl, rv⟩ := rvOs_1 r
  obtain ⟨pp, vs, rfl, h1, r1⟩ := rvO_lst g rv
  refine ⟨pp, ns, rfl, SqL.of (by rw [h1, rps_ints r1]), fun ms l hp hs hl => ?_⟩
  exact kk _ (q ms hp hs) _ _ _ (Ext.newH g hl) ⟨l, _, rfl, hl, upd_same, ints_rps ms, g.free hl⟩
def oAll : OpN := fun ds Q => ∃ bs : List Bool, ds = [.lst (bs.map .bl)] ∧ Q (.bl (bs.all id))
theorem brg_all : BrgN K .e oAll (rAll K) := by
  refine ⟨fun ds G H vs Q Q2 g r ⟨ns, ed, q⟩ kk => ?_, fun ds Q Q' i ⟨ns, ed, q⟩ => ⟨ns, ed, i _ q⟩⟩
  subst ed
  obtain ⟨v, rfl, rv⟩ := rvOs_1 r
  obtain ⟨pp, vs, rfl, h1, r1⟩ := rvO_lst g rv
  exact ⟨pp, ns, rfl, SqL.of (by rw [h1, rps_bls r1]), kk _ q G H _ (.refl g) (.bl _)⟩
/-- sorted(set(x)), x a list of ints -/
def wSortSet (w : Wx) : Wx := fun xc ρ Q => w xc ρ fun d => ∃ ns : List Int, d = .lst (ns.map .int) ∧ few64 ns ∧ ∀ ms : List Int, ms.Pairwise (· < ·) → (∀ k, k ∈ ms ↔ k ∈ ns) → Q (.lst (ms.map .int))
theorem ej_sortSet {p2 q2 : Pos} (ha : EJ k E X a w) (hc : X.calm = true) (hg : Gl X "sorted") (hm : X.mg "sorted" = none) (hg2 : Gl X "set") (hm2 : X.mg "set" = none)
    (hst : starEach [a] X.env = (false, eval a X.env) :: starEach [] X.env := by rfl) (hst2 : starEach [(.Call (.Name "set" p2) [a] [] q2)] X.env = (false, eval (.Call (.Name "set" p2) [a] [] q2) X.env) :: starEach [] X.env := by rfl) :
    EJ .f E X (.Call (.Name "sorted" p) [.Call (.Name "set" p2) [a] [] q2] [] pos) (wSortSet w) := by
  have h := pe_callB (p := p) (pos := pos) (cr_sortedSet hc) hg hm (by decide +kernel) (pa_cons (pe_callTy (p := p2) (pos := q2) (cr_setI hc) hg2 hm2 (by decide +kernel) (pa_cons ha.pe pa_nil hst) (by decide) (by decide) hst rfl) pa_nil hst2) (by decide) (by decide) hst2 rfl
  refine ⟨h.imp fun σ H Q ⟨G0, H0, G, ρ, xc, R, T, q⟩ => ⟨G0, H0, G, ρ, xc, R, T, ha.mo _ _ _ _ (fun d ⟨ns, ed, few, q1⟩ G1 H1 v x1 r1 => ?_) q⟩, fun xc ρ Q Q' i q => ha.mo _ _ _ _ (fun d ⟨ns, ed, few, q⟩ => ⟨ns, ed, few, fun ms a b => i _ (q ms a b)⟩) q⟩
  subst ed
  obtain ⟨pp, vs, rfl, h1, r2⟩ := rvO_lst x1.gh r1.o
  refine ⟨pp, ns, rfl, SqL.of (by rw [h1, rps_ints r2]), few, fun s m hs hm => ?_⟩
  refine ⟨s, _, m, rfl, upd_same, by omega, fun ms l hp hk _ hl => ?_⟩
  have hl1 : H1 l = none := by
    by_cases z : l = s
    · rw [z, upd_same] at hl; cases hl
    · rw [upd_ne z] at hl; exact hl
  have x2 : Ext G1 H1 G1 (upd (upd H1 s (SetO X.w s (fun k => decide (k ∈ ns)) m)) l (.lst (ms.map .int))) := (Ext.newH x1.gh hs).trans (Ext.newH (Ext.newH x1.gh hs).gh hl)
  exact q1 ms hp (fun k => by rw [hk k]; simp) _ _ _ (x1.trans x2) ⟨l, _, rfl, x1.hh.free hl1, upd_same, ints_rps ms, x1.gh.free hl1⟩
/-- a unary minus -/
@[simp] def wNeg (w : Wx) : Wx := fun xc ρ Q => w xc ρ fun d => ∃ i, d = .int i ∧ Q (.int (-i))
/-! ### two comparisons in a chain -/
@[simp] def wCh (op op' : Op2) (wa wb wc : Wx) : Wx := fun xc ρ Q => wa xc ρ fun x => wb xc ρ fun y => op x y fun z => ∃ t, z = .bl t ∧ if t = true then wc xc ρ fun z' => op' y z' Q else Q (.bl false)
theorem ch_go {op op' : Op2} {r r' : R2} {kc : Kd} (ha : EJ ka E X a wa) (hb : EJ kb E X b wb) (hc : EJ kc E X c wc) (B : Brg2 X.K .e op r) (B' : Brg2 X.K .e op' r')
    {σ : L2.St} {H G0 H0 G : Hp} {ρ : Evn} {xc : XC} {Qd : D → Prop} {Q : VK} (R : Rel X.K G0 H0 G ρ σ H) (T : TieX X.K G0 H0 E xc) (q : wCh op op' wa wb wc xc ρ Qd) (fin : ∀ d G' H' v, Qd d → Ext G H G' H' → Rp X.K G' d v → Q v H') :
    tChain r r' (liftW X.K E ka wa) (liftW X.K E kb wb) (liftW X.K E kc wc) σ H Q := by
  refine ⟨G0, H0, G, ρ, xc, R, T, ha.mo _ _ _ _ (fun x q1 G1 H1 v1 x1 r1 => ?_) q⟩
  refine ⟨G0, H0, G1, ρ, xc, R.ext x1, T, hb.mo _ _ _ _ (fun y q2 G2 H2 v2 x2 r2 => ?_) q1⟩
  refine B.go x y G2 H2 v1 v2 _ _ x2.gh (r1.o.ext x2) r2.o q2 fun z q3 G3 H3 v3 x3 r3 => ?_
  obtain ⟨t, rfl, q3⟩ := q3
  refine ⟨t, rvO_bl (H := H3) (.inl r3), ?_⟩
  have x13 := x1.trans (x2.trans x3)
  cases t with
  | true =>
    rw [if_pos rfl] at q3 ⊢
    refine ⟨G0, H0, G3, ρ, xc, R.ext x13, T, hc.mo _ _ _ _ (fun z' q4 G4 H4 v4 x4 r4 => ?_) q3⟩
    exact B'.go y z' G4 H4 v2 v4 _ _ x4.gh (r2.o.ext (x3.trans x4)) r4.o q4 fun d q5 G5 H5 v5 x5 r5 => fin d G5 H5 v5 q5 (x13.trans (x4.trans x5)) r5
  | false =>
    rw [if_neg Bool.false_ne_true] at q3 ⊢
    exact fin _ G3 H3 _ q3 x13 (.bl _)
theorem ch_mo {op op' : Op2} {kc : Kd} (ha : EJ ka E X a wa) (hb : EJ kb E X b wb) (hc : EJ kc E X c wc) (m : Mo2 op) (m' : Mo2 op') {xc : XC} {ρ : Evn} {Q Q' : D → Prop} (i : ∀ d, Q d → Q' d) (q : wCh op op' wa wb wc xc ρ Q) : wCh op op' wa wb wc xc ρ Q' :=
  ha.mo _ _ _ _ (fun x q => hb.mo _ _ _ _ (fun y q => m _ _ _ _ (fun z ⟨t, e, q⟩ => ⟨t, e, by
    cases t with
    | true => rw [if_pos rfl] at q ⊢; exact hc.mo _ _ _ _ (fun z' q => m' _ _ _ _ i q) q
    | false => rw [if_neg Bool.false_ne_true] at q ⊢; exact i _ q⟩) q) q) q
theorem ej_ch {op op' : Op2} {r r' : R2} {kc : Kd} (ha : EJ ka E X a wa) (hb : EJ kb E X b wb) (hc : EJ kc E X c wc) (h : PE X e (tChain r r' (liftW X.K E ka wa) (liftW X.K E kb wb) (liftW X.K E kc wc))) (B : Brg2 X.K .e op r) (B' : Brg2 X.K .e op' r') :
    EJ .e E X e (wCh op op' wa wb wc) :=
  ⟨h.imp fun σ H Q ⟨G0, H0, G, ρ, xc, R, T, q⟩ => ch_go ha hb hc B B' R T q fun d G' H' v q x r => q G' H' v x r, fun xc ρ Q Q' i q => ch_mo ha hb hc B.mo B'.mo i q⟩
theorem tj_ch {op op' : Op2} {r r' : R2} {kc : Kd} (ha : EJ ka E X a wa) (hb : EJ kb E X b wb) (hc : EJ kc E X c wc) (h : PT X e (tTest (tChain r r' (liftW X.K E ka wa) (liftW X.K E kb wb) (liftW X.K E kc wc)))) (B : Brg2 X.K .e op r) (B' : Brg2 X.K .e op' r') :
    TJ E X e (wB (wCh op op' wa wb wc)) :=
  ⟨h.imp fun σ H Q ⟨G0, H0, G, ρ, xc, R, T, q⟩ => ch_go ha hb hc B B' R T q fun d G' H' v q x r => by
    obtain ⟨t, rfl, q⟩ := q
    exact ⟨t, rvO_bl (H := H') (.inl r), q G' H' x⟩, fun xc ρ Q Q' i q => ch_mo ha hb hc B.mo B'.mo (fun d ⟨b, e, q⟩ => ⟨b, e, i b q⟩) q⟩

/-! ### truth of a value -/
def D.tru : D → Option Bool
  | .non => some false | .bl b => some b | .int i => some (i != 0)
  | .lst xs => some (!xs.isEmpty) | .fls xs => some (!xs.isEmpty) | .tup xs => some (!xs.isEmpty) | .xtp xs => some (!xs.isEmpty) | .dK kvs => some (!kvs.isEmpty)
  | _ => none
@[simp] def wTru (w : Wx) : Wt := fun xc ρ Q => w xc ρ fun d => ∃ t, d.tru = some t ∧ Q t
theorem emp_len {α β : Type} {l : List α} {m : List β} (h : l.length = m.length) : l.isEmpty = m.isEmpty := by
  cases l <;> cases m <;> first | rfl | simp at h
theorem Rks.length {G : Hp} : ∀ {ds : List (Key × D)} {vs : List (Key × V)}, Rks K G ds vs → ds.length = vs.length
  | _, _, .nil => rfl
  | _, _, .cons _ r => congrArg (· + 1) (Rks.length r)
theorem tru_of {G H : Hp} {d : D} {v : V} {t : Bool} (g : Same G H) (r : RvO K G H d v) (h : d.tru = some t) : TruV K v H t := by
  cases d with
  | non => rw [rvO_non r]; exact (Option.some.inj h).symm
  | bl b => rw [rvO_bl r]; exact (Option.some.inj h).symm
  | int i => rw [rvO_int r]; exact (Option.some.inj h).symm
  | lst xs =>
    obtain ⟨p, vs, rfl, h1, r1⟩ := rvO_lst g r
    exact .inl ⟨vs, SqL.of h1, by rw [← Option.some.inj h, emp_len r1.length]⟩
  | fls xs =>
    obtain ⟨p, vs, rfl, h1, r1⟩ := rvO_fls g r
    exact .inl ⟨vs, h1, by rw [← Option.some.inj h, emp_len r1.length]⟩
  | tup xs =>
    obtain ⟨p, vs, rfl, h1, r1⟩ := rvO_tup g r
    exact .inr (.inl ⟨vs, h1, by rw [← Option.some.inj h, emp_len r1.length]⟩)
  | xtp xs =>
    obtain ⟨p, vs, o, rfl, h1, _, _, r1⟩ := rvO_xtp g r
    exact .inr (.inl ⟨vs, .inl (.inr ⟨_, h1⟩), by rw [← Option.some.inj h, emp_len r1.length]⟩)
  | dK kvs =>
    rcases r with r | ⟨p, o, rfl, e2, t⟩
    · cases r with | dK h1 r1 => exact .inr (.inr ⟨_, g _ _ h1, by rw [← Option.some.inj h, emp_len r1.length]⟩)
    · cases o <;> first | exact t.elim | skip
      exact .inr (.inr ⟨_, e2, by rw [← Option.some.inj h, emp_len (Rks.length t)]⟩)
  | str _ => cases h
  | obj _ _ => cases h
  | dT _ => cases h
theorem tj_tru (ha : EJ k E X a w) (he : ∀ whole, isTrue a X.env whole = (do let v ← whole; standAt a.pos; holding [v] (truthy v)) := by intro _; rfl) : TJ E X a (wTru w) := by
  refine ⟨(pt_truth ha.pe he).imp fun σ H Q ⟨G0, H0, G, ρ, xc, R, T, q⟩ => ⟨G0, H0, G, ρ, xc, R, T, ha.mo _ _ _ _ (fun d ⟨t, et, q1⟩ G1 H1 v x1 r1 => ?_) q⟩, fun xc ρ Q Q' i q => ha.mo _ _ _ _ (fun d ⟨t, et, q⟩ => ⟨t, et, i _ q⟩) q⟩
  exact ⟨t, tru_of x1.gh r1.o et, q1 G1 H1 x1⟩

/-! ### isinstance of a built-in class -/
def D.ty : D → Option String
  | .non => some "NoneType" | .bl _ => some "bool" | .int _ => some "int" | .str _ => some "str"
  | .lst _ => some "list" | .fls _ => some "list" | .tup _ => some "tuple" | .xtp _ => some "tuple" | .dK _ => some "dict" | .dT _ => some "dict" | .obj _ _ => none
theorem ty_of {G H : Hp} {d : D} {v : V} {t : String} (g : Same G H) (r : RvO K G H d v) (h : d.ty = some t) : TyX K H v (.type t) := by
  cases d with
  | non => rw [rvO_non r]; cases h; exact .base .non
  | bl b => rw [rvO_bl r]; cases h; exact .base (.bl _)
  | int i => rw [rvO_int r]; cases h; exact .base (.int _)
  | str i => rw [rvO_str r]; cases h; exact .base (.str _)
  | lst xs => obtain ⟨p, vs, rfl, h1, r1⟩ := rvO_lst g r; cases h; exact .base (.lst h1)
  | fls xs =>
    obtain ⟨p, vs, rfl, h1, r1⟩ := rvO_fls g r
    cases h
    rcases h1 with (h1 | ⟨o, h1⟩) | ⟨o, its, n, hk, hc, _⟩
    · exact .base (.lst h1)
    · exact .base (.frz h1)
    · exact .kList hk hc
  | tup xs =>
    obtain ⟨p, vs, rfl, h1, r1⟩ := rvO_tup g r
    cases h
    rcases h1 with (h1 | ⟨o, h1⟩) | ⟨o, its, n, hk, hc, _⟩
    · exact .base (.tup h1)
    · exact .fTuple h1
    · exact .kTuple hk hc
  | xtp xs =>
    obtain ⟨p, vs, o, rfl, h1, _, _, r1⟩ := rvO_xtp g r
    cases h
    exact .fTuple h1
  | dK kvs =>
    cases h
    rcases r with r | ⟨p, o, rfl, e2, t⟩
    · cases r with | dK h1 r1 => exact .base (.dK (g _ _ h1))
    · cases o <;> first | exact t.elim | exact .base (.dK e2)
  | dT kvs =>
    cases h
    rcases r with r | ⟨p, o, rfl, e2, t⟩
    · cases r with | dT h1 r1 => exact .base (.dT (g _ _ h1))
    · cases o <;> first | exact t.elim | exact .base (.dT e2)
  | obj _ _ => cases h
def wIsi (n : String) (w : Wx) : Wx := fun xc ρ Q => w xc ρ fun d => ∃ t b, d.ty = some t ∧ kitB t n = some b ∧ Q (.bl b)
theorem ej_isi {n : String} {x : Str} {p2 : Pos} (ha : EJ k E X a w) (hg : Gl X "isinstance") (hm : X.mg "isinstance" = none) (hg2 : Gl X x) (hm2 : X.mg x = none) (hv : bootBuiltins x = some (.type n)) (hn : x ≠ "__name__" := by decide) (hd : (x == ("__debug__" : Str)) = false := by decide)
    (hst : starEach [a, .Name x p2] X.env = (false, eval a X.env) :: starEach [.Name x p2] X.env := by rfl) (hst2 : starEach [(.Name x p2)] X.env = (false, eval (.Name x p2) X.env) :: starEach [] X.env := by rfl) (hpl : (backTo pos (starEach [(.Name x p2)] X.env)).any (·.1) = false := by rfl) :
    EJ .e E X (.Call (.Name "isinstance" p) [a, .Name x p2] [] pos) (wIsi n w) := by
  have h := pe_callB (p := p) (pos := pos) call_isi hg hm (by decide +kernel) (pa_cons ha.pe (pa_cons (pe_bltn (v := .ty n) (pos := p2) hg2 hm2 hv rfl hn hd) pa_nil hst2) hst) (by decide) (by decide) hst hpl
  refine ⟨h.imp fun σ H Q ⟨G0, H0, G, ρ, xc, R, T, q⟩ => ⟨G0, H0, G, ρ, xc, R, T, ha.mo _ _ _ _ (fun d ⟨t, bb, et, ek, q1⟩ G1 H1 v x1 r1 => ?_) q⟩, fun xc ρ Q Q' i q => ha.mo _ _ _ _ (fun d ⟨t, bb, et, ek, q⟩ => ⟨t, bb, et, ek, i _ q⟩) q⟩
  exact ⟨v, .ty n, .type t, .type n, bb, rfl, .ty n, ty_of x1.gh r1.o et, kit_ty ek, q1 G1 H1 _ x1 (.bl _)⟩
end
end Tw

/-! Tw, part E: calls of defs, targets, walks, statements. -/
namespace Tw
open PySem PySem.Spec L2 PyProof.Rows
theorem TieX.later {K : PySem.W.Frag} {G0 H0 G H : Hp} {E : XK} {xc : XC} (T : TieX K G0 H0 E xc) (x : Ext G0 H0 G H) : TieX K G H E xc := fun C fs G' H' dx x2 h q => by
  refine T C fs G' H' dx (x.trans x2) ?_ q
  cases dx with
  | none => exact h
  | some p => exact ⟨x.hh.free h.1, h.2⟩
theorem Rel.ex {K : PySem.W.Frag} {G0 H0 G H : Hp} {ρ : Evn} {σ : L2.St} (R : Rel K G0 H0 G ρ σ H) : Ext G0 H0 G H := ⟨R.g0, R.h0, R.gh, R.gn⟩
/-- what a def hands back: true: a new object, the caller's own -/
def RvR (K : PySem.W.Frag) (fr : Bool) (H G' H' : Hp) (d : D) (v : V) : Prop := if fr = true then RvF K H G' H' d v else Rp K G' d v
abbrev Wf := XC → List D → (Bool → D → Prop) → Prop
def spOf (K : PySem.W.Frag) (n : Nat) (wf : Wf) : Sp := fun vs H Q E => vs.length = n ∧ ∃ G ds xc, Same G H ∧ Rps K G ds vs ∧ TieX K G H E xc ∧ wf xc ds fun fr d => ∀ G' H' v, Ext G H G' H' → RvR K fr H G' H' d v → Q v H'
def MoF (wf : Wf) : Prop := ∀ xc ds (Q Q' : Bool → D → Prop), (∀ fr d, Q fr d → Q' fr d) → wf xc ds Q → wf xc ds Q'
section
variable {X : Cx} {K : PySem.W.Frag} {E : XK} {e a b c o : Expr} {es : List Expr} {w wa wb wc : Wx} {k ka kb : Kd} {pos p : Pos} {u : Wa}
@[simp] def wCall (wf : Wf) (dd : List D) (u : Wa) : Wx := fun xc ρ Q => u xc ρ fun ds => wf xc (ds ++ dd) fun _ d => Q d
/-- a call whose reading is that of its arguments, then the promise -/
theorem ej_call {wf : Wf} {n : Nat} {dd : List D} {dvs : List V} (m : MoF wf) (hd : ∀ G, Rps X.K G dd dvs) (h : AJ true E X es u) (hpe : PE X e (tCall (spOf X.K n wf) dvs E (liftA X.K E true u))) (hn : ∀ ds xc Q, wf xc ds Q → ds.length = n) : EJ .e E X e (wCall wf dd u) := by
  refine ⟨hpe.imp fun σ H Q ⟨G0, H0, G, ρ, xc, R, T, q⟩ => ⟨G0, H0, G, ρ, xc, R, T, h.mo _ _ _ _ (fun ds q1 G1 H1 vs x1 r1 => ?_) q⟩, fun xc ρ Q Q' i q => h.mo _ _ _ _ (fun ds q => m _ _ _ _ (fun fr d q => i _ q) q) q⟩
  rw [if_pos rfl] at r1
  have r2 : Rps X.K G1 (ds ++ dd) (vs ++ dvs) := r1.append (hd G1)
  refine ⟨by rw [← r2.length]; exact hn _ _ _ q1, G1, ds ++ dd, xc, x1.gh, r2, T.later (R.ex.trans x1), m _ _ _ _ (fun fr d q2 G' H' v x2 r3 => ?_) q1⟩
  cases fr with
  | false => exact q2 G' H' v (x1.trans x2) r3
  | true =>
    obtain ⟨G3, x3, r4⟩ := RvF.frz x2 r3
    exact q2 G3 H' v (x1.trans x3) r4
/-! ### targets -/
/-- a target: what it takes, the slots that it stores -/
abbrev Wg := D → Evn → (Evn → Prop) → Prop
theorem wipe_at (σ : L2.St) : ∀ (vs : List Nat) (j : Nat), (L2.wipe σ vs)[j]? = if j ∈ vs then (if j < σ.length then some none else none) else σ[j]?
  | [], j => by simp [L2.wipe]
  | v :: vs, j => by
    unfold L2.wipe
    by_cases h : v = j
    · subst h
      by_cases hl : v < σ.length
      · rw [List.getElem?_set_self (by rw [wipe_length]; exact hl)]; simp [hl]
      · rw [List.getElem?_eq_none (by rw [List.length_set, wipe_length]; omega)]; simp [hl]
    · rw [List.getElem?_set_ne h, wipe_at σ vs j]
      have : (j ∈ v :: vs) ↔ j ∈ vs := by simp [Ne.symm h]
      simp only [this]
theorem wipe_set (σ : L2.St) (vs : List Nat) (t : Nat) (x : Option V) (h : t ∈ vs) : L2.wipe (σ.set t x) vs = L2.wipe σ vs := by
  apply List.ext_getElem?
  intro j
  rw [wipe_at, wipe_at]
  by_cases hj : j ∈ vs
  · simp [hj]
  · simp only [hj, if_false]
    rw [List.getElem?_set_ne (fun z => hj (by rw [← z]; exact h))]
theorem wipe_wipe (σ : L2.St) (vs : List Nat) : L2.wipe (L2.wipe σ vs) vs = L2.wipe σ vs := by
  apply List.ext_getElem?
  intro j
  rw [wipe_at, wipe_at, wipe_length]
  by_cases hj : j ∈ vs <;> simp [hj]
def liftG (K : PySem.W.Frag) (tg : List Nat) (g : Wg) : TG := fun v σ H Q => ∃ G0 H0 G ρ d, Rel K G0 H0 G ρ σ H ∧ Rp K G d v ∧ g d ρ fun ρ' => ∀ σ', Rel K G0 H0 G ρ' σ' H → (∀ vs, (∀ t ∈ tg, t ∈ vs) → L2.wipe σ' vs = L2.wipe σ vs) → Q σ' H
structure GJ (X : Cx) (e : Expr) (tg : List Nat) (g : Wg) : Prop where
  pg : PG X e (liftG X.K tg g)
  mo : ∀ d ρ (Q Q' : Evn → Prop), (∀ r, Q r → Q' r) → g d ρ Q → g d ρ Q'
abbrev Wgs := List D → Evn → (Evn → Prop) → Prop
def liftGs (K : PySem.W.Frag) (tg : List Nat) (g : Wgs) : TGs := fun v σ H Q => ∃ G0 H0 G ρ d, Rel K G0 H0 G ρ σ H ∧ Rps K G d v ∧ g d ρ fun ρ' => ∀ σ', Rel K G0 H0 G ρ' σ' H → (∀ vs, (∀ t ∈ tg, t ∈ vs) → L2.wipe σ' vs = L2.wipe σ vs) → Q σ' H
structure GsJ (X : Cx) (e : List Expr) (tg : List Nat) (g : Wgs) : Prop where
  pg : PGs X e (liftGs X.K tg g)
  mo : ∀ d ρ (Q Q' : Evn → Prop), (∀ r, Q r → Q' r) → g d ρ Q → g d ρ Q'
theorem _root_.L2.PG.imp {X : Cx} {e : Expr} {t t' : TG} (h : PG X e t) (i : ∀ v σ H Q, t' v σ H Q → t v σ H Q) : PG X e t' := ⟨fun pins s σ H v u Q I r q => h.run pins s σ H v u Q I r (i _ _ _ _ q)⟩
theorem _root_.L2.PGs.imp {X : Cx} {e : List Expr} {t t' : TGs} (h : PGs X e t) (i : ∀ v σ H Q, t' v σ H Q → t v σ H Q) : PGs X e t' := ⟨fun pins s σ H v u Q I r q => h.run pins s σ H v u Q I r (i _ _ _ _ q)⟩
@[simp] def gSet (i : Nat) : Wg := fun d ρ Q => Q (ρ.set i (.da d))
theorem gj_name {i : Nat} (h : PG X e (gName i)) : GJ X e [i] (gSet i) :=
  ⟨h.imp fun v σ H Q ⟨G0, H0, G, ρ, d, R, r, q⟩ => q _ (R.set r) fun vs hv => wipe_set σ vs i _ (hv i (by simp)), fun d ρ Q Q' i q => i _ q⟩
def gsNil : Wgs := fun ds ρ Q => ds = [] ∧ Q ρ
def gsCons (g : Wg) (gs : Wgs) : Wgs := fun ds ρ Q => ∃ d r, ds = d :: r ∧ g d ρ fun ρ' => gs r ρ' Q
theorem gsj_nil : GsJ X [] [] gsNil := by
  refine ⟨pgs_nil.imp fun v σ H Q ⟨G0, H0, G, ρ, d, R, r, ed, q⟩ => ?_, fun d ρ Q Q' i q => ⟨q.1, i _ q.2⟩⟩
  subst ed
  cases r
  exact ⟨rfl, q σ R fun vs _ => rfl⟩
theorem gsj_cons {tg tgs : List Nat} {g : Wg} {gs : Wgs} (h1 : GJ X e tg g) (h2 : GsJ X es tgs gs) (hs : (assignEach (e :: es) X.env).map (·.2) = assign e X.env :: (assignEach es X.env).map (·.2) := by rfl) : GsJ X (e :: es) (tg ++ tgs) (gsCons g gs) := by
  refine ⟨(pgs_cons h1.pg h2.pg hs).imp fun v σ H Q ⟨G0, H0, G, ρ, ds, R, r, d, ds', ed, q⟩ => ?_, fun d ρ Q Q' i ⟨d', r, e, q⟩ => ⟨d', r, e, h1.mo _ _ _ _ (fun ρ' q => h2.mo _ _ _ _ i q) q⟩⟩
  subst ed
  cases r with
  | cons r rr =>
    refine ⟨_, _, rfl, G0, H0, G, ρ, d, R, r, h1.mo _ _ _ _ (fun ρ' q1 σ1 R1 w1 => ?_) q⟩
    refine ⟨G0, H0, G, ρ', ds', R1, rr, h2.mo _ _ _ _ (fun ρ2 q2 σ2 R2 w2 => ?_) q1⟩
    exact q2 σ2 R2 fun vs hv => (w2 vs fun t ht => hv t (List.mem_append_right _ ht)).trans (w1 vs fun t ht => hv t (List.mem_append_left _ ht))
def gTupD (n : Nat) (gs : Wgs) : Wg := fun d ρ Q => ∃ ds, (d = .tup ds) ∧ ds.length = n ∧ gs ds ρ Q
theorem gj_tup {kk : Nat} {tgs : List Nat} {gs : Wgs} {n : Nat} (hc : X.calm = true) (h : GsJ X es tgs gs) (hn : (assignEach es X.env).length = n := by rfl) (hst : (assignEach es X.env).findIdx? (·.1) = none := by rfl) : GJ X (.Tuple es kk pos) tgs (gTupD n gs) := by
  refine ⟨(pg_tup hc h.pg hn hst).imp fun v σ H Q ⟨G0, H0, G, ρ, d, R, r, ds, ed, hl, q⟩ => ?_, fun d ρ Q Q' i ⟨ds, e, l, q⟩ => ⟨ds, e, l, h.mo _ _ _ _ i q⟩⟩
  subst ed
  cases r with
  | tup hq r1 => exact ⟨_, _, rfl, sqT_mono R.gh hq, by rw [← r1.length]; exact hl, G0, H0, G, ρ, ds, R, r1, q⟩

/-! ### what is walked -/
structure Wk (K : PySem.W.Frag) (J : It) (G : Hp) (items : List D) : Prop where
  stop : ∀ G' H', Same G G' → Same G' H' → J.stop items.length H'
  go : ∀ i G' H', i < items.length → Same G G' → Same G' H' → J.go i H'
  yld : ∀ i G' H' x H2, i < items.length → Same G G' → Same G' H' → J.yld i H' x H2 → ∃ G2 d, Ext G' H' G2 H2 ∧ items[i]? = some d ∧ Rp K G2 d x
def liftI (K : PySem.W.Frag) (E : XK) (w : Wa) : TI := fun σ H R => ∃ G0 H0 G ρ xc, Rel K G0 H0 G ρ σ H ∧ TieX K G0 H0 E xc ∧ w xc ρ fun items => ∀ G' H' J, Ext G H G' H' → Wk K J G' items → R J H'
structure IJ (E : XK) (X : Cx) (tg iter : Expr) (w : Wa) : Prop where
  pi : PI X tg iter (liftI X.K E w)
  mo : ∀ xc ρ (Q Q' : List D → Prop), (∀ d, Q d → Q' d) → w xc ρ Q → w xc ρ Q'
theorem _root_.L2.PI.imp {X : Cx} {tg e : Expr} {t t' : TI} (h : PI X tg e t) (i : ∀ σ H Q, t' σ H Q → t σ H Q) : PI X tg e t' := ⟨fun pins s σ H Q I q => h.run pins s σ H Q I (i _ _ _ q)⟩
theorem wk_list {a : Addr} {vs : List V} {G : Hp} {ds : List D} (h : SqL K G a vs) (r : Rps K G ds vs) : Wk K (Itl K a) G ds where
  stop := fun G' H' g1 g2 => ⟨vs, (g1.trans g2).seq h, by rw [r.length]; exact Nat.le_refl _⟩
  go := fun i G' H' hi g1 g2 => ⟨vs, vs[i]'(by rw [← r.length]; exact hi), (g1.trans g2).seq h, by simp⟩
  yld := fun i G' H' x H2 hi g1 g2 ⟨e, y⟩ => by
    subst e
    obtain ⟨d, hd, rd⟩ := r.get' (y vs ((g1.trans g2).seq h))
    exact ⟨G', d, .refl g2, hd, rd.mono g1⟩
theorem wk_tup {a : Addr} {vs : List V} {G : Hp} {ds : List D} (h : SqT K G a vs) (r : Rps K G ds vs) : Wk K (Itt K a) G ds where
  stop := fun G' H' g1 g2 => ⟨vs, sqT_mono (g1.trans g2) h, by rw [r.length]; exact Nat.le_refl _⟩
  go := fun i G' H' hi g1 g2 => ⟨vs, vs[i]'(by rw [← r.length]; exact hi), sqT_mono (g1.trans g2) h, by simp⟩
  yld := fun i G' H' x H2 hi g1 g2 ⟨e, y⟩ => by
    subst e
    obtain ⟨d, hd, rd⟩ := r.get' (y vs (sqT_mono (g1.trans g2) h))
    exact ⟨G', d, .refl g2, hd, rd.mono g1⟩
def rngD (lo : Int) (n : Nat) : List D := (List.range n).map fun i => .int (lo + (i : Nat))
theorem wk_rng {G : Hp} (lo : Int) (n : Nat) : Wk K (Itr lo n) G (rngD lo n) where
  stop := fun G' H' _ _ => by show n ≤ (rngD lo n).length; simp [rngD]
  go := fun i G' H' hi _ _ => by show i < n; simpa [rngD] using hi
  yld := fun i G' H' x H2 hi g1 g2 ⟨e, y⟩ => by
    subst e y
    refine ⟨G', .int (lo + (i : Nat)), .refl g2, ?_, .int _⟩
    have : i < n := by simpa [rngD] using hi
    simp [rngD, this]
@[simp] def wiR1 (w : Wx) : Wa := fun xc ρ Q => w xc ρ fun d => ∃ n : Int, d = .int n ∧ (-(2 ^ 62) ≤ n ∧ n < 2 ^ 62) ∧ Q (rngD 0 n.toNat)
@[simp] def wiR2 (wa wb : Wx) : Wa := fun xc ρ Q => wa xc ρ fun x => wb xc ρ fun y => ∃ i j : Int, x = .int i ∧ y = .int j ∧ (-(2 ^ 62) ≤ i ∧ i < 2 ^ 62 ∧ -(2 ^ 62) ≤ j ∧ j < 2 ^ 62) ∧ Q (rngD i (j - i).toNat)
theorem ij_rng1 {tg : Expr} (ha : EJ ka E X a wa) (hg : Gl X "range") (hm : X.mg "range" = none) (hst : starEach [a] X.env = (false, eval a X.env) :: starEach [] X.env := by rfl) : IJ E X tg (.Call (.Name "range" p) [a] [] pos) (wiR1 wa) := by
  refine ⟨(pi_range1 hg hm (pa_cons ha.pe pa_nil hst) hst).imp fun σ H R' ⟨G0, H0, G, ρ, xc, R, T, q⟩ => ⟨G0, H0, G, ρ, xc, R, T, ha.mo _ _ _ _ (fun d ⟨n, ed, hn, q1⟩ G1 H1 v x1 r1 => ?_) q⟩, fun xc ρ Q Q' i q => ha.mo _ _ _ _ (fun d ⟨n, ed, hn, q⟩ => ⟨n, ed, hn, i _ q⟩) q⟩
  subst ed
  rw [rvO_int r1.o]
  exact ⟨n, rfl, hn.1, hn.2, q1 G1 H1 _ x1 (wk_rng 0 n.toNat)⟩
theorem ij_rng2 {tg : Expr} (ha : EJ ka E X a wa) (hb : EJ kb E X b wb) (hg : Gl X "range") (hm : X.mg "range" = none) (hst : starEach [a, b] X.env = [(false, eval a X.env), (false, eval b X.env)] := by rfl) (hst2 : starEach [b] X.env = [(false, eval b X.env)] := by rfl) :
    IJ E X tg (.Call (.Name "range" p) [a, b] [] pos) (wiR2 wa wb) := by
  refine ⟨(pi_range2 hg hm (pa_cons ha.pe (pa_cons hb.pe pa_nil hst2) (by rw [hst, hst2])) hst hst2).imp fun σ H R' ⟨G0, H0, G, ρ, xc, R, T, q⟩ => ⟨G0, H0, G, ρ, xc, R, T, ha.mo _ _ _ _ (fun d q1 G1 H1 v x1 r1 => ?_) q⟩, fun xc ρ Q Q' i q => ha.mo _ _ _ _ (fun x q => hb.mo _ _ _ _ (fun y ⟨m, n, e1, e2, hn, q⟩ => ⟨m, n, e1, e2, hn, i _ q⟩) q) q⟩
  refine ⟨G0, H0, G1, ρ, xc, R.ext x1, T, hb.mo _ _ _ _ (fun y ⟨m, n, e1, e2, hn, q2⟩ G2 H2 v2 x2 r2 => ?_) q1⟩
  subst e1 e2
  rw [rvO_int r1.o, rvO_int r2.o]
  exact ⟨m, n, rfl, hn, q2 G2 H2 _ (x1.trans x2) (wk_rng m (n - m).toNat)⟩
end
end Tw

/-! Tw, part F: statements, comprehensions, the body of a def. -/
namespace Tw
open PySem PySem.Spec L2 PyProof.Rows

/-- what is wanted behind a statement, in data -/
structure Pd where
  nx : Evn → Prop
  rt : Bool → D → Prop
  bk : Evn → Prop := fun _ => False
  ct : Evn → Prop := fun _ => False
  xc : XC
structure Ties (K : PySem.W.Frag) (G0 H0 G : Hp) (E : XK) (D' : Ends) (Z : Pd) : Prop where
  nx : ∀ ρ σ G' H', Rel K G0 H0 G' ρ σ H' → Same G G' → Z.nx ρ → D'.nx σ H'
  rt : ∀ fr d G' H' v, Ext G0 H0 G' H' → RvR K fr H0 G' H' d v → Z.rt fr d → D'.rt v H'
  bk : ∀ ρ σ G' H', Rel K G0 H0 G' ρ σ H' → Same G G' → Z.bk ρ → D'.bk σ H'
  ct : ∀ ρ σ G' H', Rel K G0 H0 G' ρ σ H' → Same G G' → Z.ct ρ → D'.ct σ H'
  xc : TieX K G0 H0 E Z.xc
theorem Ties.on {K : PySem.W.Frag} {G0 H0 G G1 : Hp} {E : XK} {D' : Ends} {Z : Pd} (T : Ties K G0 H0 G E D' Z) (g : Same G G1) : Ties K G0 H0 G1 E D' Z :=
  ⟨fun ρ σ G' H' R s q => T.nx ρ σ G' H' R (g.trans s) q, T.rt, fun ρ σ G' H' R s q => T.bk ρ σ G' H' R (g.trans s) q, fun ρ σ G' H' R s q => T.ct ρ σ G' H' R (g.trans s) q, T.xc⟩
abbrev Ws := Pd → Evn → Prop
def liftS (K : PySem.W.Frag) (E : XK) (w : Ws) : TS := fun D' σ H => ∃ G0 H0 G ρ Z, Rel K G0 H0 G ρ σ H ∧ Ties K G0 H0 G E D' Z ∧ w Z ρ
structure SJ (E : XK) (X : Cx) (st : Stmt) (w : Ws) : Prop where
  ps : PS X st (liftS X.K E w)
structure BJ (E : XK) (X : Cx) (st : List Stmt) (w : Ws) : Prop where
  ps : PSs X st (liftS X.K E w)
section
variable {X : Cx} {K : PySem.W.Frag} {E : XK} {e a b c o : Expr} {es : List Expr} {w wa wb wc : Wx} {k ka kb : Kd} {pos p : Pos} {u : Wa} {st : Stmt} {rest body : List Stmt} {s s1 s2 : Ws}
@[simp] def sNil : Ws := fun Z ρ => Z.nx ρ
@[simp] def sSeq (s1 s2 : Ws) : Ws := fun Z ρ => s1 { Z with nx := s2 Z } ρ
theorem bj_nil : BJ E X [] sNil := ⟨pss_nil.imp fun D' σ H ⟨G0, H0, G, ρ, Z, R, T, q⟩ => T.nx ρ σ G H R (Same.refl _) q⟩
theorem bj_cons (h1 : SJ E X st s1) (h2 : BJ E X rest s2) : BJ E X (st :: rest) (sSeq s1 s2) :=
  ⟨(pss_cons h1.ps h2.ps).imp fun D' σ H ⟨G0, H0, G, ρ, Z, R, T, q⟩ => ⟨G0, H0, G, ρ, { Z with nx := s2 Z }, R,
    ⟨fun ρ' σ' G' H' R' g q' => ⟨G0, H0, G', ρ', Z, R', T.on g, q'⟩, T.rt, T.bk, T.ct, T.xc⟩, q⟩⟩
theorem bj_one (h1 : SJ E X st s1) : BJ E X [st] s1 := ⟨pss_one h1.ps⟩
theorem bj_never {sts : List Stmt} : BJ E X sts (fun _ _ => False) := ⟨pss_never.imp fun D' σ H ⟨G0, H0, G, ρ, Z, R, T, q⟩ => q⟩
/-- a statement that is not come to -/
theorem sj_never : SJ E X st (fun _ _ => False) := ⟨ps_never.imp fun D' σ H ⟨G0, H0, G, ρ, Z, R, T, q⟩ => q⟩
theorem sj_break : SJ E X (.Break pos) (fun Z ρ => Z.bk ρ) := ⟨ps_break.imp fun D' σ H ⟨G0, H0, G, ρ, Z, R, T, q⟩ => T.bk ρ σ G H R (Same.refl _) q⟩
/-- an own object is never changed from now on -/
def sFrz (i : Nat) (s : Ws) : Ws := fun Z ρ => ∃ d, ρ[i]? = some (.ow d) ∧ s Z (ρ.set i (.da d))
theorem sj_frz {i : Nat} (h : SJ E X st s) : SJ E X st (sFrz i s) := ⟨h.ps.imp fun D' σ H ⟨G0, H0, G, ρ, Z, R, T, d, hi, q⟩ => by
  obtain ⟨G', g, R'⟩ := R.frz hi
  exact ⟨G0, H0, G', _, Z, R', T.on g, q⟩⟩
/-- x = e -/
@[simp] def sSet (i : Nat) (w : Wx) : Ws := fun Z ρ => w Z.xc ρ fun d => Z.nx (ρ.set i (.da d))
theorem sj_set {i : Nat} (he : EJ .e E X e w) (h : PS X st (tAsg (liftW X.K E .e w) (gName i))) : SJ E X st (sSet i w) :=
  ⟨h.imp fun D' σ H ⟨G0, H0, G, ρ, Z, R, T, q⟩ => ⟨G0, H0, G, ρ, Z.xc, R, T.xc, he.mo _ _ _ _ (fun d q1 G1 H1 v x1 r1 => T.nx _ _ _ _ ((R.ext x1).set r1) x1.gg q1) q⟩⟩
/-- x = e, a new object of one's own -/
@[simp] def sSetO (i : Nat) (w : Wx) : Ws := fun Z ρ => w Z.xc ρ fun d => Z.nx (ρ.set i (.ow d))
theorem sj_setO {i : Nat} (he : EJ .f E X e w) (h : PS X st (tAsg (liftW X.K E .f w) (gName i))) : SJ E X st (sSetO i w) :=
  ⟨h.imp fun D' σ H ⟨G0, H0, G, ρ, Z, R, T, q⟩ => ⟨G0, H0, G, ρ, Z.xc, R, T.xc, he.mo _ _ _ _ (fun d q1 G1 H1 v x1 r1 => by
    obtain ⟨p, o, rfl, h1, h2, t, g⟩ := r1
    refine T.nx _ _ _ _ ((R.ext x1).setO h2 t g (R.h0.free h1) fun j d' hj hs => ?_) x1.gg q1
    obtain ⟨p', o', e1, e2, _⟩ := R.sl j _ hj
    rw [hs] at e1
    cases e1
    rw [h1] at e2
    cases e2) q⟩⟩
/-- target = e -/
def sAsg (w : Wx) (g : Wg) : Ws := fun Z ρ => w Z.xc ρ fun d => g d ρ Z.nx
theorem sj_asg {tgs : List Nat} {g : Wg} {t : Expr} (he : EJ .e E X e w) (hg : GJ X t tgs g) (h : PS X st (tAsg (liftW X.K E .e w) (liftG X.K tgs g))) : SJ E X st (sAsg w g) :=
  ⟨h.imp fun D' σ H ⟨G0, H0, G, ρ, Z, R, T, q⟩ => ⟨G0, H0, G, ρ, Z.xc, R, T.xc, he.mo _ _ _ _ (fun d q1 G1 H1 v x1 r1 => ⟨G0, H0, G1, ρ, d, R.ext x1, r1, hg.mo _ _ _ _ (fun ρ' q2 σ' R' _ => T.nx _ _ _ _ R' x1.gg q2) q1⟩) q⟩⟩
/-- an expression alone -/
@[simp] def sExp (w : Wx) : Ws := fun Z ρ => w Z.xc ρ fun _ => Z.nx ρ
theorem sj_exp (he : EJ k E X e w) (h : PS X st (tDrop (liftW X.K E k w))) : SJ E X st (sExp w) :=
  ⟨h.imp fun D' σ H ⟨G0, H0, G, ρ, Z, R, T, q⟩ => ⟨G0, H0, G, ρ, Z.xc, R, T.xc, he.mo _ _ _ _ (fun d q1 G1 H1 v x1 r1 => T.nx _ _ _ _ (R.ext x1) x1.gg q1) q⟩⟩
/-- return e -/
@[simp] def sRet (w : Wx) : Ws := fun Z ρ => w Z.xc ρ fun d => Z.rt false d
theorem sj_ret (he : EJ .e E X e w) : SJ E X (.Return (some e) pos) (sRet w) :=
  ⟨(ps_ret he.pe).imp fun D' σ H ⟨G0, H0, G, ρ, Z, R, T, q⟩ => ⟨G0, H0, G, ρ, Z.xc, R, T.xc, he.mo _ _ _ _ (fun d q1 G1 H1 v x1 r1 => T.rt false d G1 H1 v (R.ex.trans x1) r1 q1) q⟩⟩
@[simp] def sRetF (w : Wx) : Ws := fun Z ρ => w Z.xc ρ fun d => Z.rt true d
theorem sj_retF (he : EJ .f E X e w) : SJ E X (.Return (some e) pos) (sRetF w) :=
  ⟨(ps_ret he.pe).imp fun D' σ H ⟨G0, H0, G, ρ, Z, R, T, q⟩ => ⟨G0, H0, G, ρ, Z.xc, R, T.xc, he.mo _ _ _ _ (fun d q1 G1 H1 v x1 r1 => T.rt true d G1 H1 v (R.ex.trans x1) (rv_later (k := .f) R.h0 r1) q1) q⟩⟩
/-- return x, an own object -/
def sRetO (i : Nat) : Ws := fun Z ρ => ∃ d, ρ[i]? = some (.ow d) ∧ Z.rt true d
theorem sj_retO {i : Nat} (h : PE X e (tVar i)) : SJ E X (.Return (some e) pos) (sRetO i) :=
  ⟨(ps_ret h).imp fun D' σ H ⟨G0, H0, G, ρ, Z, R, T, d, hi, q⟩ => by
    obtain ⟨p, o, e1, e2, t, g, z⟩ := R.sl i _ hi
    exact ⟨_, e1, T.rt true d G H _ R.ex ⟨p, o, rfl, z, e2, t, g⟩ q⟩⟩
/-- if -/
@[simp] def sIf (t : Wt) (s1 s2 : Ws) : Ws := fun Z ρ => t Z.xc ρ fun b => if b = true then s1 Z ρ else s2 Z ρ
theorem sj_if {tt : Wt} {b1 b2 : List Stmt} (hc : TJ E X c tt) (h1 : BJ E X b1 s1) (h2 : BJ E X b2 s2) : SJ E X (.If c b1 b2 pos) (sIf tt s1 s2) :=
  ⟨(ps_if hc.pt h1.ps h2.ps).imp fun D' σ H ⟨G0, H0, G, ρ, Z, R, T, q⟩ => ⟨G0, H0, G, ρ, Z.xc, R, T.xc, hc.mo _ _ _ _ (fun b q1 G1 H1 x1 => by
    cases b with
    | true => rw [if_pos rfl] at q1 ⊢; exact ⟨G0, H0, G1, ρ, Z, R.ext x1, T.on x1.gg, q1⟩
    | false => rw [if_neg Bool.false_ne_true] at q1 ⊢; exact ⟨G0, H0, G1, ρ, Z, R.ext x1, T.on x1.gg, q1⟩) q⟩⟩
/-- the turns of a for -/
def forW (g : Wg) (b : Ws) (Z : Pd) : List D → Evn → Prop
  | [], ρ => Z.nx ρ
  | x :: xs, ρ => g x ρ fun ρ' => b { Z with nx := forW g b Z xs, ct := forW g b Z xs, bk := Z.nx } ρ'
def sFor (wi : Wa) (g : Wg) (b : Ws) : Ws := fun Z ρ => wi Z.xc ρ fun items => forW g b Z items ρ
theorem sj_for {tg iter : Expr} {wi : Wa} {tgs : List Nat} {g : Wg} (hp : PassesOwn (model X.prog X.w) X.A X.env X.xe) (hc : X.calm = true) (hi : IJ E X tg iter wi) (hg : GJ X tg tgs g) (hb : BJ E X body s)
    (hs : ∀ x, foldedSetIterable iter X.env x = pure x := by intro _; rfl) : SJ E X (.For tg iter body [] pos) (sFor wi g s) := by
  refine ⟨(ps_for hp hc hi.pi hg.pg hb.ps hs).imp fun D' σ H ⟨G0, H0, G, ρ, Z, R, T, q⟩ => ⟨G0, H0, G, ρ, Z.xc, R, T.xc, hi.mo _ _ _ _ (fun items q1 G1 H1 J x1 wk => ?_) q⟩⟩
  refine ⟨fun i m σ H => m = items.length - i ∧ i ≤ items.length ∧ ∃ G2 ρ2, Same G1 G2 ∧ Rel X.K G0 H0 G2 ρ2 σ H ∧ forW g s Z (items.drop i) ρ2, ⟨_, rfl, Nat.zero_le _, G1, ρ, Same.refl _, R.ext x1, q1⟩, ?_⟩
  rintro i m σ2 H2 ⟨rfl, hi, G2, ρ2, s2, R2, q2⟩
  by_cases hlt : i < items.length
  · have ed : items.drop i = items[i] :: items.drop (i + 1) := List.drop_eq_getElem_cons hlt
    rw [ed] at q2
    refine .inr ⟨wk.go i G2 H2 hlt s2 R2.gh, fun σ' H' => ∃ G3 ρ3, Same G1 G3 ∧ Rel X.K G0 H0 G3 ρ3 σ' H' ∧ forW g s Z (items.drop (i + 1)) ρ3, fun σ' H' q3 => ⟨items.length - (i + 1), by omega, rfl, hlt, q3⟩, fun x H3 y => ?_⟩
    obtain ⟨G3, d, x3, hd, rd⟩ := wk.yld i G2 H2 x H3 hlt s2 R2.gh y
    rw [List.getElem?_eq_getElem hlt] at hd
    cases hd
    refine ⟨G0, H0, G3, ρ2, _, R2.ext x3, rd, hg.mo _ _ _ _ (fun ρ' q3 σ' R' _ => ?_) q2⟩
    have s3 : Same G1 G3 := s2.trans x3.gg
    refine ⟨G0, H0, G3, ρ', { Z with nx := forW g s Z (items.drop (i + 1)), ct := forW g s Z (items.drop (i + 1)), bk := Z.nx }, R', ⟨fun ρ4 σ4 G4 H4 R4 s4 q4 => ⟨G4, ρ4, s3.trans s4, R4, q4⟩, T.rt, fun ρ4 σ4 G4 H4 R4 s4 q4 => T.nx ρ4 σ4 G4 H4 R4 (x1.gg.trans (s3.trans s4)) q4, fun ρ4 σ4 G4 H4 R4 s4 q4 => ⟨G4, ρ4, s3.trans s4, R4, q4⟩, T.xc⟩, q3⟩
  · have e : i = items.length := by omega
    subst e
    rw [List.drop_length] at q2
    exact .inl ⟨wk.stop G2 H2 s2 R2.gh, T.nx ρ2 σ2 G2 H2 R2 (x1.gg.trans s2) q2⟩
end
end Tw

/-! Tw, part G: comprehensions, while, methods of lists, the body of a def. -/
namespace Tw
open PySem PySem.Spec L2 PyProof.Rows
def s00 : Shared := {}
@[simp] def wipeD (ρ : Evn) (vs : List Nat) : Evn := vs.foldr (fun v r => r.set v .no) ρ
abbrev xcNo : XC := fun _ _ => False
theorem tieNo {K : PySem.W.Frag} {G0 H0 : Hp} {E : XK} : TieX K G0 H0 E xcNo := fun _ _ _ _ _ _ _ q => q.elim
section
variable {X : Cx} {K : PySem.W.Frag} {E : XK} {e a b c o : Expr} {es : List Expr} {w wa wb wc : Wx} {k ka kb : Kd} {pos p : Pos} {u : Wa} {st : Stmt} {rest body : List Stmt} {s s1 s2 : Ws}
/-- the tests of a comprehension -/
structure TsJ (E : XK) (X : Cx) (es : List Expr) (w : Wt) : Prop where
  pt : PTs X es (liftT X.K E w)
  mo : ∀ xc ρ (Q Q' : Bool → Prop), (∀ d, Q d → Q' d) → w xc ρ Q → w xc ρ Q'
theorem _root_.L2.PTs.imp {X : Cx} {e : List Expr} {t t' : TT} (h : PTs X e t) (i : ∀ σ H Q, t' σ H Q → t σ H Q) : PTs X e t' := ⟨fun pins s σ H Q I q => h.run pins s σ H Q I (i _ _ _ q)⟩
def wtYes : Wt := fun _ _ Q => Q true
theorem tsj_nil : TsJ E X [] wtYes := ⟨pts_nil.imp fun σ H Q ⟨G0, H0, G, ρ, xc, R, T, q⟩ => q G H (.refl R.gh), fun _ _ _ _ i q => i _ q⟩
theorem tsj_one {tt : Wt} (h : TJ E X c tt) : TsJ E X [c] tt := ⟨pts_one h.pt, h.mo⟩
/-- the turns of a comprehension, acc what it has made -/
def lcW (g : Wg) (tt : Wt) (we : Wx) (ρ : Evn) (Q : List D → Prop) : List D → List D → Prop
  | [], acc => Q acc
  | x :: xs, acc => g x ρ fun ρ' => tt xcNo ρ' fun t => if t = true then we xcNo ρ' fun y => acc.length < sizeLine ∧ lcW g tt we ρ Q xs (acc ++ [y]) else lcW g tt we ρ Q xs acc
theorem lcW_mo {g : Wg} {tt : Wt} {we : Wx} {ρ : Evn} {Q Q' : List D → Prop} (mg : ∀ d ρ (Q Q' : Evn → Prop), (∀ r, Q r → Q' r) → g d ρ Q → g d ρ Q') (mt : ∀ xc ρ (Q Q' : Bool → Prop), (∀ d, Q d → Q' d) → tt xc ρ Q → tt xc ρ Q')
    (me : ∀ xc ρ (Q Q' : D → Prop), (∀ d, Q d → Q' d) → we xc ρ Q → we xc ρ Q') (i : ∀ d, Q d → Q' d) : ∀ xs acc, lcW g tt we ρ Q xs acc → lcW g tt we ρ Q' xs acc
  | [], acc, q => i _ q
  | x :: xs, acc, q => mg _ _ _ _ (fun ρ' q => mt _ _ _ _ (fun t q => by
      cases t with
      | true => rw [if_pos rfl] at q ⊢; exact me _ _ _ _ (fun y q => ⟨q.1, lcW_mo mg mt me i xs _ q.2⟩) q
      | false => rw [if_neg Bool.false_ne_true] at q ⊢; exact lcW_mo mg mt me i xs acc q) q) q
@[simp] def wLc (wi : Wa) (g : Wg) (tt : Wt) (we : Wx) (vs : List Nat) : Wx := fun xc ρ Q => wi xc ρ fun items => lcW g tt we (wipeD ρ vs) (fun acc => Q (.lst acc)) items []
/-- an object that is in no slot changed -/
theorem Rel.chgX {G0 H0 G H : Hp} {ρ : Evn} {σ : L2.St} {a : Addr} {o : HO} (R : Rel K G0 H0 G ρ σ H) (ni : ∀ C dx vf, H a ≠ some (.ins C dx vf)) (ga : G a = none) (ha0 : H0 a = none) (nw : ∀ (j : Nat) (e : D), ρ[j]? = some (.ow e) → σ[j]? ≠ some (some (.ref a))) : Rel K G0 H0 G ρ σ (upd H a o) := by
  refine ⟨R.len, fun b u q => ?_, R.g0, fun b u q => ?_, R.gn, fun i s hs => ?_, R.dj⟩
  · rw [upd_ne (fun z => by subst z; rw [ga] at q; cases q)]; exact R.gh _ _ q
  · rw [upd_ne (fun z => by subst z; rw [ha0] at q; cases q)]; exact R.h0 _ _ q
  · have q := R.sl i s hs
    cases s with
    | no => trivial
    | da x => exact q
    | ow x =>
      obtain ⟨b, u, f1, f2, f3, f4, f5⟩ := q
      refine ⟨b, u, f1, ?_, f3, f4, f5⟩
      rw [upd_ne (fun z => by subst z; exact nw i x hs f1)]
      exact f2
    | e0 b0 => exact q
    | ex b0 p fs0 => exact q
    | se b C fs =>
      obtain ⟨f1, dx, vf, f2, f3⟩ := q
      refine ⟨f1, dx, vf, ?_, f3⟩
      rw [upd_ne (fun z => by subst z; exact ni _ _ _ f2)]
      exact f2
theorem lc_imp {tg iter : Expr} {own : List (Str × Nat)} {wi : Wa} {tgs : List Nat} {g : Wg} {tt : Wt} {we : Wx}
    (hi : IJ E X tg iter wi) (hsub : ∀ t ∈ tgs, t ∈ own.map (·.2))
    (mg : ∀ d ρ (Q Q' : Evn → Prop), (∀ r, Q r → Q' r) → g d ρ Q → g d ρ Q') (mt : ∀ xc ρ (Q Q' : Bool → Prop), (∀ d, Q d → Q' d) → tt xc ρ Q → tt xc ρ Q') (me : ∀ xc ρ (Q Q' : D → Prop), (∀ d, Q d → Q' d) → we xc ρ Q → we xc ρ Q')
    (σ : L2.St) (H : Hp) (Q : VK) (h : liftW X.K E .f (wLc wi g tt we (own.map (·.2))) σ H Q) : tLc (liftI X.K E wi) (liftG X.K tgs g) (liftT X.K E0 tt) (liftW X.K E0 .e we) (own.map (·.2)) σ H Q := by
  obtain ⟨G0, H0, G, ρ, xc, R, T, q⟩ := h
  refine ⟨G0, H0, G, ρ, xc, R, T, hi.mo _ _ _ _ (fun items q1 G1 H1 J x1 wk => ?_) q⟩
  intro D' hD
  have R1 := R.ext x1
  have nD : ∀ (j : Nat) (e : D), ρ[j]? = some (.ow e) → σ[j]? ≠ some (some (.ref D')) := fun j d' hj hs => by
    obtain ⟨p', o', e1, e2, _⟩ := R1.sl j _ hj
    rw [hs] at e1
    cases e1
    rw [hD] at e2
    cases e2
  have hD0 : H0 D' = none := R1.h0.free hD
  obtain ⟨ρw, ew, Rw⟩ := R1.wipe (own.map (·.2))
  have ew' : wipeD ρ (own.map (·.2)) = ρw := ew.symm
  rw [ew'] at q1
  have nDw : ∀ (j : Nat) (e : D), ρw[j]? = some (.ow e) → (L2.wipe σ (own.map (·.2)))[j]? ≠ some (some (.ref D')) := fun j d' hj hs => by
    obtain ⟨p', o', e1, e2, _⟩ := Rw.sl j _ hj
    rw [hs] at e1
    cases e1
    rw [hD] at e2
    cases e2
  refine ⟨fun i m H2 => m = items.length - i ∧ i ≤ items.length ∧ ∃ G2 vs acc, Same G1 G2 ∧ Same H1 H2 ∧ (∀ a, H1 a ≠ none → G1 a = none → G2 a = none) ∧ G2 D' = none ∧ H2 D' = some (.lst vs) ∧ Rps X.K G2 acc vs ∧ Rel X.K G0 H0 G2 ρw (L2.wipe σ (own.map (·.2))) H2 ∧
    lcW g tt we ρw (fun acc => ∀ G' H' v, Ext G H G' H' → RvK X.K .f H G' H' (.lst acc) v → Q v H') (items.drop i) acc, ⟨_, rfl, Nat.zero_le _, G1, [], [], Same.refl _, same_upd hD, fun _ _ q => q, x1.gh.free hD, upd_same, .nil, Rw.chgX (fun _ _ _ z => by rw [hD] at z; cases z) (x1.gh.free hD) hD0 nDw, q1⟩, ?_⟩
  rintro i m H2 ⟨rfl, hi', G2, vs, acc, s2, h2, n2, gD, eD, ra, R2, q2⟩
  by_cases hlt : i < items.length
  · have ed : items.drop i = items[i] :: items.drop (i + 1) := List.drop_eq_getElem_cons hlt
    rw [ed] at q2
    refine .inr ⟨wk.go i G2 H2 hlt s2 R2.gh, _, fun H' q3 => ⟨items.length - (i + 1), by omega, rfl, hlt, q3⟩, fun x H3 y => ?_⟩
    obtain ⟨G3, d, x3, hd, rd⟩ := wk.yld i G2 H2 x H3 hlt s2 R2.gh y
    rw [List.getElem?_eq_getElem hlt] at hd
    cases hd
    refine ⟨G0, H0, G3, ρw, _, R2.ext x3, rd, mg _ _ _ _ (fun ρ' q3 σ' R' wv => ?_) q2⟩
    refine ⟨(wv _ hsub).trans (wipe_wipe _ _), G0, H0, G3, ρ', xcNo, R', tieNo, mt _ _ _ _ (fun t q4 G4 H4 x4 => ?_) q3⟩
    have x34 := x3.trans x4
    have n4 : ∀ a, H1 a ≠ none → G1 a = none → G4 a = none := fun a ha hg' => x34.gn a (Same.nn h2 ha) (n2 a ha hg')
    cases t with
    | true =>
      rw [if_pos rfl] at q4
      refine iteT ?_
      refine ⟨G0, H0, G4, ρ', xcNo, R'.ext x4, tieNo, me _ _ _ _ (fun yd q5 G5 H5 v x5 r5 => ?_) q4⟩
      have x35 := x34.trans x5
      have e5 : H5 D' = some (.lst vs) := x35.hh _ _ eD
      have g5 : G5 D' = none := x35.gn D' (by rw [eD]; simp) gD
      refine ⟨vs, e5, by rw [← ra.length]; exact q5.1, G5, vs ++ [v], acc ++ [yd], s2.trans x35.gg, fun b ob hb => ?_, fun a ha hg' => x5.gn a (Same.nn (h2.trans x34.hh) ha) (n4 a ha hg'), g5, upd_same, (ra.mono x35.gg).append (.cons r5 .nil), (R2.ext x35).chgX (fun _ _ _ z => by rw [e5] at z; cases z) g5 hD0 nDw, q5.2⟩
      rw [upd_ne (ne_of_none hb hD)]
      exact x35.hh _ _ (h2 _ _ hb)
    | false =>
      rw [if_neg Bool.false_ne_true] at q4
      refine iteF ?_
      exact ⟨G4, vs, acc, s2.trans x34.gg, h2.trans x34.hh, n4, x34.gn D' (by rw [eD]; simp) gD, x34.hh _ _ eD, ra.mono x34.gg, R2.ext x34, q4⟩
  · have e : i = items.length := by omega
    subst e
    rw [List.drop_length] at q2
    refine .inl ⟨wk.stop G2 H2 s2 R2.gh, ?_⟩
    exact q2 G2 H2 (.ref D') (x1.trans ⟨s2, h2, R2.gh, n2⟩) ⟨D', _, rfl, x1.hh.free hD, eD, ra, gD⟩
theorem ej_lc {tg iter : Expr} {own : List (Str × Nat)} {wi : Wa} {tgs : List Nat} {g : Wg} {tt : Wt} {we : Wx}
    (hpe : PE X e (tLc (liftI X.K E wi) (liftG X.K tgs g) (liftT X.K E0 tt) (liftW X.K E0 .e we) (own.map (·.2))))
    (hi : IJ E X tg iter wi) (hsub : ∀ t ∈ tgs, t ∈ own.map (·.2))
    (mg : ∀ d ρ (Q Q' : Evn → Prop), (∀ r, Q r → Q' r) → g d ρ Q → g d ρ Q') (mt : ∀ xc ρ (Q Q' : Bool → Prop), (∀ d, Q d → Q' d) → tt xc ρ Q → tt xc ρ Q') (me : ∀ xc ρ (Q Q' : D → Prop), (∀ d, Q d → Q' d) → we xc ρ Q → we xc ρ Q') :
    EJ .f E X e (wLc wi g tt we (own.map (·.2))) :=
  ⟨hpe.imp fun σ H Q h => lc_imp hi hsub mg mt me σ H Q h, fun xc ρ Q Q' i q => hi.mo _ _ _ _ (fun items q => lcW_mo mg mt me (fun d q => i _ q) _ _ q) q⟩
/-- [elt for target in iter if ..] -/
theorem ej_comp {tg iter elt : Expr} {ifs : List Expr} {scope : Scope} {own : List (Str × Nat)} {wi : Wa} {tgs : List Nat} {g : Wg} {tt : Wt} {we : Wx} (hc : X.calm = true) (hN : X.N.Nodup) (ok : BlkOk X.N X.env.scope scope own)
    (hi : IJ E X tg iter wi) (hsub : ∀ t ∈ tgs, t ∈ own.map (·.2))
    (hg : ∀ (s : Shared) (H : Hp) (C : Addr) (cl : List (Str × Addr)) (fp : List Addr), GJ (X.blk s H scope (compEnvC scope cl C X.env) fp) tg tgs g)
    (ht : ∀ (s : Shared) (H : Hp) (C : Addr) (cl : List (Str × Addr)) (fp : List Addr), TsJ E0 (X.blk s H scope (compEnvC scope cl C X.env) fp) ifs tt)
    (he : ∀ (s : Shared) (H : Hp) (C : Addr) (cl : List (Str × Addr)) (fp : List Addr), EJ .e E0 (X.blk s H scope (compEnvC scope cl C X.env) fp) elt we)
    (hs : ∀ x, foldedSetIterable iter X.env x = pure x := by intro _; rfl) : EJ .f E X (.ListComp elt [⟨tg, iter, ifs, 0⟩] scope pos) (wLc wi g tt we (own.map (·.2))) :=
  ej_lc (pe_lc (g := liftG X.K tgs g) (tt := liftT X.K E0 tt) (te := liftW X.K E0 .e we) hc hN hi.pi ok (fun s H C cl fp => (hg s H C cl fp).pg) (fun s H C cl fp => (ht s H C cl fp).pt) (fun s H C cl fp => (he s H C cl fp).pe) hs) hi hsub
    (hg s00 (fun _ => none) s00.heap.objs.size [] []).mo (ht s00 (fun _ => none) s00.heap.objs.size [] []).mo (he s00 (fun _ => none) s00.heap.objs.size [] []).mo
/-- y = [..], y a local that is no cell -/
theorem comp_set {tg iter elt : Expr} {ifs : List Expr} {scope : Scope} {own : List (Str × Nat)} {wi : Wa} {tgs : List Nat} {g : Wg} {tt : Wt} {we : Wx} {i : Nat} {y : Str} {py spos : Pos} (hc : X.calm = true) (hN : X.N.Nodup) (hy : X.N[i]? = some y) (hyl : X.env.scope.names.lookup y = some .local)
    (hsw : swapsWith (.ListComp elt [⟨tg, iter, ifs, 0⟩] scope pos) (some (.Name y py)) spos.line X.env = pure true) (ok : BlkOk X.N X.env.scope scope own)
    (hi : IJ E X tg iter wi) (hsub : ∀ t ∈ tgs, t ∈ own.map (·.2))
    (hg : ∀ (s : Shared) (H : Hp) (C : Addr) (cl : List (Str × Addr)) (fp : List Addr), GJ (X.blk s H scope (compEnvC scope cl C X.env) fp) tg tgs g)
    (ht : ∀ (s : Shared) (H : Hp) (C : Addr) (cl : List (Str × Addr)) (fp : List Addr), TsJ E0 (X.blk s H scope (compEnvC scope cl C X.env) fp) ifs tt)
    (he : ∀ (s : Shared) (H : Hp) (C : Addr) (cl : List (Str × Addr)) (fp : List Addr), EJ .e E0 (X.blk s H scope (compEnvC scope cl C X.env) fp) elt we)
    (hs : ∀ x, foldedSetIterable iter X.env x = pure x := by intro _; rfl) :
    PS X (.Assign [.Name y py] (.ListComp elt [⟨tg, iter, ifs, 0⟩] scope pos) spos) (tAsg (liftW X.K E .f (wLc wi g tt we (own.map (·.2)))) (gName i)) ∧ EJ .f E X (.ListComp elt [⟨tg, iter, ifs, 0⟩] scope pos) (wLc wi g tt we (own.map (·.2))) := by
  refine ⟨(ps_setLc (g := liftG X.K tgs g) (tt := liftT X.K E0 tt) (te := liftW X.K E0 .e we) hc hN hy hyl hsw hi.pi ok (fun s H C cl fp => (hg s H C cl fp).pg) (fun s H C cl fp => (ht s H C cl fp).pt) (fun s H C cl fp => (he s H C cl fp).pe) hs).imp fun D' σ H h => ?_, ej_comp hc hN ok hi hsub hg ht he hs⟩
  exact lc_imp hi hsub (hg s00 (fun _ => none) s00.heap.objs.size [] []).mo (ht s00 (fun _ => none) s00.heap.objs.size [] []).mo (he s00 (fun _ => none) s00.heap.objs.size [] []).mo σ H _ h
end
end Tw

/-! Tw, part H: defs, their calls; own lists and dicts; while; zip, enumerate; stars. -/
namespace Tw
open PySem PySem.Spec L2 PyProof.Rows

/-! ### defs -/
section
variable {P : Program} {w : World} {K : PySem.W.Frag} {mg : Str → Option Value} {base : Heap}
theorem fn_ok {x qual : Str} {st : Stmt} {f : Addr} {fd : FuncData} {N ps : List Str} {k : Nat} {wf : Wf} {wb : Ws} (F : Fun K x qual st f fd) (S : FnScope N ps (defScope st)) (hn : ∀ xc ds Q, wf xc ds Q → ds.length = ps.length)
    (hb : ∀ (cdv : Value) (A : Around) (outer : List Env) (s : Shared) (H : Hp) (E : XK), Room k (A.deeper (envOfC qual (defScope st) s.heap.objs.size f cdv)) →
      BJ E (cxOf (L2.CX P w) P w K mg base N qual (defScope st) f cdv A outer s H E) (defBody st) wb)
    (hw : ∀ xc ds (Q : Bool → D → Prop), wf xc ds Q → wb { nx := fun _ => Q false .non, rt := Q, xc := xc } (ds.map .da ++ List.replicate (N.length - ds.length) .no)) :
    FnOk P w K mg base (L2.CX P w) (k + 1) f fd ps (spOf K ps.length wf) := by
  refine F.okX S (fun vs H Q E h => h.1) (fun cdv A outer s H vs Q E hr h => ?_)
  obtain ⟨hl, G, ds, xc, g, r, T, q⟩ := h
  have q' := hw xc ds _ q
  refine ⟨_, (hb cdv A outer s H E hr).ps, G, H, G, _, _, Rel.start g r, ⟨?_, ?_, ?_, ?_, ?_⟩, q'⟩
  · exact fun ρ σ G' H' R _ q => q G' H' .non R.ex (.non : Rp K G' .non .non)
  · exact fun fr d G' H' v x r q => q G' H' v x r
  · exact fun _ _ _ _ _ _ q => q.elim
  · exact fun _ _ _ _ _ _ q => q.elim
  · exact T
/-- a def of the text by its name -/
structure At (K : PySem.W.Frag) (mg : Str → Option Value) (x : Str) (st : Stmt) (ps : List Str) : Prop where
  ex : ∃ f fd, Fun K x x st f fd ∧ mg x = some (.ref f) ∧ Binds K fd ps []
/-- .. and what it keeps -/
structure Def (P : Program) (w : World) (K : PySem.W.Frag) (mg : Str → Option Value) (base : Heap) (x : Str) (n k : Nat) (wf : Wf) : Prop where
  ex : ∃ f fd ps, FnOk P w K mg base (L2.CX P w) k f fd ps (spOf K n wf) ∧ mg x = some (.ref f) ∧ PySem.W.keepIn K (.ref f) = true ∧ Binds K fd ps []
  mo : MoF wf
  hn : ∀ ds xc Q, wf xc ds Q → ds.length = n
theorem def_ok {x : Str} {st : Stmt} {N ps : List Str} {k : Nat} {wf : Wf} {wb : Ws} (A : At K mg x st ps) (S : FnScope N ps (defScope st)) (m : MoF wf) (hn : ∀ ds xc Q, wf xc ds Q → ds.length = ps.length)
    (hb : ∀ (f : Addr) (cdv : Value) (A : Around) (outer : List Env) (s : Shared) (H : Hp) (E : XK), Room k (A.deeper (envOfC x (defScope st) s.heap.objs.size f cdv)) →
      BJ E (cxOf (L2.CX P w) P w K mg base N x (defScope st) f cdv A outer s H E) (defBody st) wb)
    (hw : ∀ xc ds (Q : Bool → D → Prop), wf xc ds Q → wb { nx := fun _ => Q false .non, rt := Q, xc := xc } (ds.map .da ++ List.replicate (N.length - ds.length) .no)) :
    Def P w K mg base x ps.length (k + 1) wf := by
  obtain ⟨f, fd, F, hm, b⟩ := A.ex
  exact ⟨⟨f, fd, ps, fn_ok F S (fun xc ds Q q => hn ds xc Q q) (hb f) hw, hm, F.kp, b⟩, m, hn⟩
end
section
variable {X : Cx} {K : PySem.W.Frag} {E : XK} {e a b c o : Expr} {es : List Expr} {w wa wb wc : Wx} {k ka kb : Kd} {pos p : Pos} {u : Wa} {st : Stmt} {rest body : List Stmt} {s s1 s2 : Ws}
theorem ej_fn {x : Str} {n j : Nat} {wf : Wf} (F : Def X.prog X.w X.K X.mg X.base x n j wf) (hr : Room j X.A) (hg : Gl X x) (hx : Passes (L2.CX X.prog X.w) X E) (ha : AJ true E X (e :: es) u)
    (hdb : (x == ("__debug__" : Str)) = false := by decide) (he : starEach (e :: es) X.env = (false, eval e X.env) :: starEach es X.env := by rfl) (hpl : (backTo pos (starEach es X.env)).any (·.1) = false := by rfl) :
    EJ .e E X (.Call (.Name x p) (e :: es) [] pos) (wCall wf [] u) := by
  obtain ⟨f, fd, ps, Fo, hm, kp, b⟩ := F.ex
  exact ej_call F.mo (dvs := []) (fun _ => .nil) ha (pe_call Fo hr hg hm kp b .nil hx ha.pa hdb he hpl) F.hn
/-- in the body of a def (not in a comprehension, not in a try) -/
theorem passM {P : Program} {w0 : World} {K : PySem.W.Frag} {mg : Str → Option Value} {base : Heap} {N : List Str} {q : Str} {sc : Scope} {f : Addr} {cdv : Value} {A : Around} {outer : List Env} {s : Shared} {H : Hp} {E : XK} :
    Passes (L2.CX P w0) (cxOf (L2.CX P w0) P w0 K mg base N q sc f cdv A outer s H E) E := passes_call (takes_of rfl rfl rfl rfl) fun _ _ _ _ h => h

/-! ### own lists -/
theorem own_lst {G0 H0 G H : Hp} {ρ : Evn} {σ : L2.St} {i : Nat} {ds : List D} (R : Rel K G0 H0 G ρ σ H) (hi : ρ[i]? = some (.ow (.lst ds))) : ∃ a vs, σ[i]? = some (some (.ref a)) ∧ H a = some (.lst vs) ∧ Rps K G ds vs := by
  obtain ⟨a, o, e1, e2, t, _⟩ := R.sl i _ hi
  cases o <;> first | exact t.elim | exact ⟨a, _, e1, e2, t⟩
/-- xs.append(e) -/
def sApp (i : Nat) (w : Wx) : Ws := fun Z ρ => ∃ ds, ρ[i]? = some (.ow (.lst ds)) ∧ w Z.xc ρ fun d => ds.length < sizeLine ∧ Z.nx (ρ.set i (.ow (.lst (ds ++ [d]))))
theorem sj_app {i : Nat} {name : Str} {id : String} (he : EJ .e E X e w) (h : PS X st (tDrop (tBM X.K "list" rAppend (tVar i) (tCons (liftW X.K E .e w) tNil)))) : SJ E X st (sApp i w) :=
  ⟨h.imp fun D' σ H ⟨G0, H0, G, ρ, Z, R, T, ds, hi, q⟩ => by
    obtain ⟨l, vs, e1, e2, r⟩ := own_lst R hi
    refine ⟨_, e1, .inl ⟨rfl, vs, SqL.of e2⟩, G0, H0, G, ρ, Z.xc, R, T.xc, he.mo _ _ _ _ (fun d ⟨z, q1⟩ G1 H1 v x1 r1 => ?_) q⟩
    refine ⟨l, vs, v, rfl, rfl, x1.hh _ _ e2, by rw [← r.length]; exact z, ?_⟩
    exact T.nx _ _ _ _ ((R.ext x1).chg hi e1 (show Top X.K G1 (.lst (ds ++ [d])) (.lst (vs ++ [v])) from (r.mono x1.gg).append (.cons r1 .nil))) x1.gg q1⟩
theorem rps_erase {G : Hp} : ∀ {ds : List D} {vs : List V} (j : Nat), Rps K G ds vs → Rps K G (ds.eraseIdx j) (vs.eraseIdx j)
  | _, _, _, .nil => .nil
  | _, _, 0, .cons h r => r
  | _, _, j + 1, .cons h r => .cons h (rps_erase j r)
/-! ### dicts with tuple keys -/
theorem ej_dictT : EJ .f E X (.Dict [] [] pos) (wC (.dT [])) :=
  ⟨pe_dnewT.imp fun σ H Q ⟨G0, H0, G, ρ, xc, R, T, q⟩ p hp => q G _ _ (Ext.newH R.gh hp) ⟨p, _, rfl, hp, upd_same, .nil, R.gh.free hp⟩, fun xc ρ Q Q' i q => i _ q⟩
/-- a key, as data -/
def kD : Key → D
  | .inl i => .int i
  | .inr x => .str x
theorem rp_key {G : Hp} : ∀ {k : Key} {v : V}, Rp K G (kD k) v → v = kV k
  | .inl _, _, h => by cases h; rfl
  | .inr _, _, h => by cases h; rfl
theorem rps_keys {G : Hp} : ∀ {ks : List Key} {vs : List V}, Rps K G (ks.map kD) vs → vs = ks.map kV
  | [], _, .nil => rfl
  | k :: ks, _, .cons h r => by rw [rp_key h, rps_keys r]; rfl
section
variable {κ : Type} [DecidableEq κ]
def hasD (kvs : List (κ × D)) (k : κ) : Bool := kvs.any fun kv => decide (kv.1 = k)
def putDk (kvs : List (κ × D)) (k : κ) (v : D) : List (κ × D) := if hasD kvs k = true then kvs.map (fun kv => if kv.1 = k then (kv.1, v) else kv) else kvs ++ [(k, v)]
end
theorem rts_any {G : Hp} (k : List Key) : ∀ {ds : List (List Key × D)} {vs : List (List Key × V)}, Rts K G ds vs → (vs.any fun kv => decide (kv.1 = k)) = hasD ds k
  | _, _, .nil => rfl
  | _, _, .cons h r => by
    have := rts_any k r
    unfold hasD at this ⊢
    simp only [List.any_cons, this]
theorem rts_app {G : Hp} : ∀ {ds es : List (List Key × D)} {vs ws : List (List Key × V)}, Rts K G ds vs → Rts K G es ws → Rts K G (ds ++ es) (vs ++ ws)
  | _, _, _, _, .nil, q => q
  | _, _, _, _, .cons h r, q => .cons h (rts_app r q)
theorem rts_map {G : Hp} {k : List Key} {d : D} {v : V} (hv : Rp K G d v) : ∀ {ds : List (List Key × D)} {vs : List (List Key × V)}, Rts K G ds vs → Rts K G (ds.map fun kv => if kv.1 = k then (kv.1, d) else kv) (vs.map fun kv => if kv.1 = k then (kv.1, v) else kv)
  | _, _, .nil => .nil
  | _, _, .cons (f := f) h r => by
    simp only [List.map_cons]
    by_cases e : f = k
    · simp only [e, if_true]; exact .cons hv (rts_map hv r)
    · simp only [e, if_false]; exact .cons h (rts_map hv r)
theorem rts_put {G : Hp} {k : List Key} {d : D} {v : V} (hv : Rp K G d v) {ds : List (List Key × D)} {vs : List (List Key × V)} (r : Rts K G ds vs) : Rts K G (putDk ds k d) (putK vs k v) := by
  unfold putDk putK
  rw [rts_any k r]
  split
  · exact rts_map hv r
  · exact rts_app r (.cons hv .nil)
theorem Rts.length {G : Hp} : ∀ {ds : List (List Key × D)} {vs : List (List Key × V)}, Rts K G ds vs → ds.length = vs.length
  | _, _, .nil => rfl
  | _, _, .cons _ r => congrArg (· + 1) (Rts.length r)
/-- d[(..)] = v, d an own dict with tuple keys, the key written -/
def sPutT (i : Nat) (wk : Wa) (wv : Wx) : Ws := fun Z ρ => ∃ kvs, ρ[i]? = some (.ow (.dT kvs)) ∧ wv Z.xc ρ fun v => wk Z.xc ρ fun ys => ∃ ks : List Key, ys = ks.map kD ∧ ys.length ≤ sizeLine ∧ kvs.length < sizeLine ∧ Z.nx (ρ.set i (.ow (.dT (putDk kvs ks v))))
theorem sj_putT {i : Nat} (hk : AJ true E X es u) (hv : EJ .e E X b wb) (h : PS X st (sDPut (tVar i) (tTup (liftA X.K E true u)) (liftW X.K E .e wb))) : SJ E X st (sPutT i u wb) :=
  ⟨h.imp fun D' σ H ⟨G0, H0, G, ρ, Z, R, T, kvs, hi, q⟩ => by
    obtain ⟨l, o, e1, e2, t, gl, hl⟩ := R.sl i _ hi
    cases o <;> first | exact t.elim | skip
    rename_i vk
    refine ⟨G0, H0, G, ρ, Z.xc, R, T.xc, hv.mo _ _ _ _ (fun d q1 G1 H1 v x1 r1 => ?_) q⟩
    refine ⟨_, e1, G0, H0, G1, ρ, Z.xc, R.ext x1, T.xc, hk.mo _ _ _ _ (fun ys ⟨ks, ey, zl, z, q2⟩ G2 H2 vs x2 r2 => ?_) q1⟩
    subst ey
    rw [if_pos rfl] at r2
    refine ⟨by rw [← r2.length]; exact zl, fun p hp => ?_⟩
    have x3 := Ext.newH (o := .tup vs) x2.gh hp
    have x13 := x1.trans (x2.trans x3)
    have t' : Rts X.K G kvs vk := t
    refine ⟨l, _, rfl, .inr ⟨vk, ks, p, x13.hh _ _ e2, rfl, by rw [upd_same, rps_keys r2], by rw [← Rts.length t']; exact z, rfl⟩, ?_⟩
    exact T.nx _ _ _ _ ((R.ext x13).chg hi e1 (show Top X.K G2 (.dT (putDk kvs ks d)) (.dT (putK vk ks v)) from rts_put (r1.mono x2.gg) (t'.mono (x1.gg.trans x2.gg)))) x13.gg q2⟩
/-- (..) in d -/
def wInT (wk : Wa) (wd : Wx) : Wx := fun xc ρ Q => wk xc ρ fun ys => ys.length ≤ sizeLine ∧ wd xc ρ fun x => ∃ kvs ks, x = .dT kvs ∧ ys = ks.map kD ∧ Q (.bl (hasD kvs ks))
theorem wInT_mo {wk : Wa} {wd : Wx} (hk : ∀ xc ρ (Q Q' : List D → Prop), (∀ d, Q d → Q' d) → wk xc ρ Q → wk xc ρ Q') (hd : ∀ xc ρ (Q Q' : D → Prop), (∀ d, Q d → Q' d) → wd xc ρ Q → wd xc ρ Q') {xc : XC} {ρ : Evn} {Q Q' : D → Prop} (i : ∀ d, Q d → Q' d) (q : wInT wk wd xc ρ Q) : wInT wk wd xc ρ Q' :=
  hk _ _ _ _ (fun y q => ⟨q.1, hd _ _ _ _ (fun x ⟨kvs, ks, ex, ey, q⟩ => ⟨kvs, ks, ex, ey, i _ q⟩) q.2⟩) q
theorem tj_inT (hk : AJ true E X es u) (hd : EJ kb E X b wb) (h : PT X e (tB (tDIn (tTup (liftA X.K E true u)) (liftW X.K E kb wb)))) : TJ E X e (wB (wInT u wb)) := by
  refine ⟨h.imp fun σ H Q ⟨G0, H0, G, ρ, xc, R, T, q⟩ => ⟨G0, H0, G, ρ, xc, R, T, hk.mo _ _ _ _ (fun ys ⟨zl, q1⟩ G1 H1 vs x1 r1 => ?_) q⟩, fun xc ρ Q Q' i q => wInT_mo hk.mo hd.mo (fun d ⟨bb, eb, q⟩ => ⟨bb, eb, i _ q⟩) q⟩
  rw [if_pos rfl] at r1
  refine ⟨by rw [← r1.length]; exact zl, fun p hp => ?_⟩
  have x2 := Ext.newH (o := .tup vs) x1.gh hp
  refine ⟨G0, H0, G1, ρ, xc, R.ext (x1.trans x2), T, hd.mo _ _ _ _ (fun x ⟨kvs, ks, ex, ey, bb, ebb, q2⟩ G2 H2 xv x3 r2 => ?_) q1⟩
  subst ex ey
  cases ebb
  have hb : H2 p = some (.tup (ks.map kV)) := by rw [← rps_keys r1]; exact x3.hh _ _ upd_same
  have x13 := (x1.trans x2).trans x3
  have fin2 : ∀ {l : Addr} {vk : List (List Key × V)}, H2 l = some (.dT vk) → Rts X.K G2 kvs vk → ∃ a' o', V.ref l = .ref a' ∧ DGet H2 a' (.ref p) o' ∧ ∃ c, V.bl o'.isSome = .bl c ∧ Q c H2 := fun {l vk} hl t => by
    refine ⟨l, _, rfl, .inr ⟨vk, ks, p, .inl hl, rfl, hb, rfl⟩, _, rfl, ?_⟩
    rw [← valV_any, rts_any ks t]
    exact q2 G2 H2 x13
  rcases r2.o with r2 | ⟨l, o, rfl, e2, t⟩
  · cases r2 with | dT hl t => exact fin2 (x3.gh _ _ hl) t
  · cases o <;> first | exact t.elim | exact fin2 e2 t
end
end Tw

/-! Tw, part I: operators joined over their kinds; enumerate, zip; stars; while. -/
namespace Tw
open PySem PySem.Spec L2 PyProof.Rows
section
variable {X : Cx} {K : PySem.W.Frag} {E : XK} {e a b c o : Expr} {es : List Expr} {w wa wb wc : Wx} {k ka kb : Kd} {pos p : Pos} {u : Wa} {st : Stmt} {rest body : List Stmt} {s s1 s2 : Ws}
/-- a bridge whose answer is a new object, as one that is kept for good -/
theorem Brg2.toE {op : Op2} {r : R2} (B : Brg2 K .f op r) : Brg2 K .e op r :=
  ⟨fun x y G H vx vy Q Q2 g rx ry q kk => B.go x y G H vx vy Q Q2 g rx ry q fun d hd G' H' v x1 r1 => by
    obtain ⟨G2, x2, r2⟩ := RvF.frz x1 r1
    exact kk d hd G2 H' v x2 r2, B.mo⟩
theorem BrgS.toE {op : OpS} {r : V → Option Int → Option Int → Hp → VK → Prop} (B : BrgS K .f op r) : BrgS K .e op r :=
  ⟨fun x lo hi G H vx Q Q2 g rx q kk => B.go x lo hi G H vx Q Q2 g rx q fun d hd G' H' v x1 r1 => by
    obtain ⟨G2, x2, r2⟩ := RvF.frz x1 r1
    exact kk d hd G2 H' v x2 r2, B.mo⟩
def oOr (op op' : Op2) : Op2 := fun x y Q => op x y Q ∨ op' x y Q
theorem Brg2.or {op op' : Op2} {r r' : R2} (B : Brg2 K k op r) (B' : Brg2 K k op' r') : Brg2 K k (oOr op op') (fun x y H Q => r x y H Q ∨ r' x y H Q) :=
  ⟨fun x y G H vx vy Q Q2 g rx ry q kk => q.elim (fun q => .inl (B.go x y G H vx vy Q Q2 g rx ry q kk)) fun q => .inr (B'.go x y G H vx vy Q Q2 g rx ry q kk), fun x y Q Q' i q => q.elim (fun q => .inl (B.mo _ _ _ _ i q)) fun q => .inr (B'.mo _ _ _ _ i q)⟩
/-- +, whatever the two are -/
def oPlus : Op2
  | .int i, .int j, Q => Q (.int (i + j))
  | .str x, .str y, Q => x.length + y.length ≤ sizeLine ∧ Q (.str (x ++ y))
  | .tup xs, .tup ys, Q => xs.length + ys.length ≤ sizeLine ∧ Q (.tup (xs ++ ys))
  | .lst xs, .lst ys, Q => xs.length + ys.length ≤ sizeLine ∧ Q (.lst (xs ++ ys))
  | _, _, _ => False
theorem oPlus_or {x y : D} {Q : D → Prop} (h : oPlus x y Q) : oAdd x y Q ∨ oCat x y Q := by
  cases x <;> cases y <;> first | exact h.elim | exact .inl h | exact .inr h
theorem ej_plus (ha : EJ ka E X a wa) (hb : EJ kb E X b wb) : EJ .e E X (.BinOp a .Add b pos) (w2 oPlus wa wb) := by
  have B := (brg_add (K := X.K)).or brg_cat.toE
  refine ej_2 ha hb (pe_op (opr_or op_add3 op_cat) ha.pe hb.pe) ⟨fun x y G H vx vy Q Q2 g rx ry q kk => B.go x y G H vx vy Q Q2 g rx ry (oPlus_or q) kk, fun x y Q Q' i q => ?_⟩
  cases x <;> cases y <;> first | exact q.elim | exact i _ q | exact ⟨q.1, i _ q.2⟩
/-- * of ints, of a text and an int -/
def oMul : Op2
  | .int i, .int j, Q => CMul i j ∧ Q (.int (i * j))
  | .str x, .int n, Q => MulOk x n ∧ Q (.str (Txt.mul x n))
  | _, _, _ => False
theorem oMul_or {x y : D} {Q : D → Prop} (h : oMul x y Q) : oMulI x y Q ∨ oMulS x y Q := by
  cases x <;> cases y <;> first | exact h.elim | exact .inl h | exact .inr h
theorem ej_mul (ha : EJ ka E X a wa) (hb : EJ kb E X b wb) : EJ .e E X (.BinOp a .Mult b pos) (w2 oMul wa wb) := by
  have B := (brg_mulI (K := X.K)).or brg_mulS
  refine ej_2 ha hb (pe_op (opr_or op_mul op_mulS) ha.pe hb.pe) ⟨fun x y G H vx vy Q Q2 g rx ry q kk => B.go x y G H vx vy Q Q2 g rx ry (oMul_or q) kk, fun x y Q Q' i q => ?_⟩
  cases x <;> cases y <;> first | exact q.elim | exact ⟨q.1, i _ q.2⟩
theorem ej_sub (ha : EJ ka E X a wa) (hb : EJ kb E X b wb) : EJ .e E X (.BinOp a .Sub b pos) (w2 oSub wa wb) := ej_2 ha hb (pe_op op_sub ha.pe hb.pe) brg_sub
theorem ej_div (ha : EJ ka E X a wa) (hb : EJ kb E X b wb) : EJ .e E X (.BinOp a .FloorDiv b pos) (w2 oDiv wa wb) := ej_2 ha hb (pe_op op_fdiv ha.pe hb.pe) brg_div
theorem ej_mod (ha : EJ ka E X a wa) (hb : EJ kb E X b wb) : EJ .e E X (.BinOp a .Mod b pos) (w2 oMod wa wb) := ej_2 ha hb (pe_op op_mod ha.pe hb.pe) brg_mod
theorem ej_pow (ha : EJ ka E X a wa) (hb : EJ kb E X b wb) : EJ .e E X (.BinOp a .Pow b pos) (w2 oPow wa wb) := ej_2 ha hb (pe_op op_pow ha.pe hb.pe) brg_pow
/-! comparisons, as values and as tests -/
theorem ej_lt (ha : EJ ka E X a wa) (hb : EJ kb E X b wb) : EJ .e E X (.Compare a [.Lt] [b] pos) (w2 oLt wa wb) := ej_2 ha hb (pe_cmpR op_lt ha.pe hb.pe (nomark _)) brg_lt
theorem ej_gt (ha : EJ ka E X a wa) (hb : EJ kb E X b wb) : EJ .e E X (.Compare a [.Gt] [b] pos) (w2 oGt wa wb) := ej_2 ha hb (pe_cmpR op_gt ha.pe hb.pe (nomark _)) brg_gt
theorem ej_eq (hu : X.A.units + 64 < cLine) (ha : EJ ka E X a wa) (hb : EJ kb E X b wb) : EJ .e E X (.Compare a [.Eq] [b] pos) (w2 oEq wa wb) := ej_2 ha hb (pe_cmpR (op_eqD hu) ha.pe hb.pe (nomark _)) brg_eq
theorem tj_lt (ha : EJ ka E X a wa) (hb : EJ kb E X b wb) : TJ E X (.Compare a [.Lt] [b] pos) (wB (w2 oLt wa wb)) := tj_2 ha hb (pt_cmpR op_lt ha.pe hb.pe (nomark _)) brg_lt
theorem tj_gt (ha : EJ ka E X a wa) (hb : EJ kb E X b wb) : TJ E X (.Compare a [.Gt] [b] pos) (wB (w2 oGt wa wb)) := tj_2 ha hb (pt_cmpR op_gt ha.pe hb.pe (nomark _)) brg_gt
theorem tj_ge (ha : EJ ka E X a wa) (hb : EJ kb E X b wb) : TJ E X (.Compare a [.GtE] [b] pos) (wB (w2 oGe wa wb)) := tj_2 ha hb (pt_cmpR op_ge ha.pe hb.pe (nomark _)) brg_ge
theorem tj_eq (hu : X.A.units + 64 < cLine) (ha : EJ ka E X a wa) (hb : EJ kb E X b wb) : TJ E X (.Compare a [.Eq] [b] pos) (wB (w2 oEq wa wb)) := tj_2 ha hb (pt_cmpR (op_eqD hu) ha.pe hb.pe (nomark _)) brg_eq
theorem tj_ne (hu : X.A.units + 64 < cLine) (ha : EJ ka E X a wa) (hb : EJ kb E X b wb) : TJ E X (.Compare a [.NotEq] [b] pos) (wB (w2 oNe wa wb)) := tj_2 ha hb (pt_cmpR (op_neD hu) ha.pe hb.pe (nomark _)) brg_ne
theorem ej_in (hu : X.A.units + 65 < cLine) (ha : EJ ka E X a wa) (hb : EJ kb E X b wb) (hm : behindInMarks .In b = false := by rfl) : EJ .e E X (.Compare a [.In] [b] pos) (w2 (oIn false) wa wb) := ej_2 ha hb (pe_cmpR (op_inQ hu) ha.pe hb.pe hm) (brg_in false)
theorem tj_in (hu : X.A.units + 65 < cLine) (ha : EJ ka E X a wa) (hb : EJ kb E X b wb) (hm : behindInMarks .In b = false := by rfl) : TJ E X (.Compare a [.In] [b] pos) (wB (w2 (oIn false) wa wb)) := tj_2 ha hb (pt_cmpR (op_inQ hu) ha.pe hb.pe hm) (brg_in false)
theorem tj_nin (hu : X.A.units + 65 < cLine) (ha : EJ ka E X a wa) (hb : EJ kb E X b wb) (hm : behindInMarks .NotIn b = false := by rfl) : TJ E X (.Compare a [.NotIn] [b] pos) (wB (w2 (oIn true) wa wb)) := tj_2 ha hb (pt_cmpR (op_notInQ hu) ha.pe hb.pe hm) (brg_in true)
theorem ej_inS (ha : EJ ka E X a wa) (hb : EJ kb E X b wb) (hm : behindInMarks .In b = false := by rfl) : EJ .e E X (.Compare a [.In] [b] pos) (w2 (oInS false) wa wb) := ej_2 ha hb (pe_cmpR (op_in2 false) ha.pe hb.pe hm) (brg_inS false)
theorem tj_isN (ha : EJ ka E X a wa) (hb : EJ kb E X b wb) : TJ E X (.Compare a [.Is] [b] pos) (wB (w2 (oIsN false) wa wb)) := tj_2 ha hb (pt_cmpR op_isN ha.pe hb.pe (nomark _)) brg_isN
theorem tj_notN (ha : EJ ka E X a wa) (hb : EJ kb E X b wb) : TJ E X (.Compare a [.IsNot] [b] pos) (wB (w2 (oIsN true) wa wb)) := tj_2 ha hb (pt_cmpR op_notN ha.pe hb.pe (nomark _)) brg_notN
theorem ej_isN (ha : EJ ka E X a wa) (hb : EJ kb E X b wb) : EJ .e E X (.Compare a [.Is] [b] pos) (w2 (oIsN false) wa wb) := ej_2 ha hb (pe_cmpR op_isN ha.pe hb.pe (nomark _)) brg_isN
/-! slices, whatever is cut -/
def oSl : OpS
  | .lst xs, lo, hi, Q => Q (.lst (cutD xs lo hi))
  | .fls xs, lo, hi, Q => Q (.lst (cutD xs lo hi))
  | .tup xs, lo, hi, Q => Q (.tup (cutD xs lo hi))
  | .str z, lo, hi, Q => z.length ≤ sizeLine ∧ Q (.str (cutS z lo hi))
  | _, _, _, _ => False
abbrev rSl3 (K : PySem.W.Frag) : V → Option Int → Option Int → Hp → VK → Prop := fun x lo hi H Q => rSlL K x lo hi H Q ∨ rSlA K x lo hi H Q ∨ rSlS x lo hi H Q
theorem sl_3 : SlR X (rSl3 X.K) := sl_list.or (sl_tupA.or sl_str)
theorem brg_sl : BrgS K .e oSl (rSl3 K) := by
  refine ⟨fun x lo hi G H vx Q Q2 g rx q kk => ?_, fun x lo hi Q Q' i q => ?_⟩
  · cases x <;> first | exact q.elim | skip
    · exact .inr (.inr (brg_slS.go _ lo hi G H vx Q Q2 g rx q kk))
    · exact .inr (.inl (brg_slT.go _ lo hi G H vx Q Q2 g rx q kk))
    · exact .inl (brg_slL.toE.go _ lo hi G H vx Q Q2 g rx q kk)
    · exact .inl (brg_slL.toE.go _ lo hi G H vx Q Q2 g rx q kk)
  · cases x <;> first | exact q.elim | exact i _ q | exact ⟨q.1, i _ q.2⟩
theorem ej_slice {lo hi : Option Expr} {wl wu : Wo} {p2 : Pos} (ha : EJ ka E X a wa) (hl : OJ E X lo wl) (hu : OJ E X hi wu) : EJ .e E X (.Subscript a (.Slice lo hi none p2) pos) (wSl oSl wa wl wu) := ej_sl sl_3 brg_sl ha hl hu
/-! ### a star in a display -/
def waStar (w : Wx) (u : Wa) : Wa := fun xc ρ Q => w xc ρ fun d => ∃ xs, (d = .tup xs ∨ d = .lst xs) ∧ u xc ρ fun ds => Q (xs ++ ds)
theorem aj_star (ha : EJ .e E X e w) (hr : AJ true E X es u) (hs : starEach (.Starred e p :: es) X.env = (true, eval e X.env) :: starEach es X.env := by rfl) : AJ true E X (.Starred e p :: es) (waStar w u) := by
  refine ⟨(StX.pa_star ha.pe hr.pa hs).imp fun σ H Q ⟨G0, H0, G, ρ, xc, R, T, q⟩ => ⟨G0, H0, G, ρ, xc, R, T, ha.mo _ _ _ _ (fun d ⟨xs, ed, q1⟩ G1 H1 v x1 r1 => ?_) q⟩, fun xc ρ Q Q' i q => ha.mo _ _ _ _ (fun d ⟨xs, ed, q⟩ => ⟨xs, ed, hr.mo _ _ _ _ (fun ds q => i _ q) q⟩) q⟩
  have fin : ∀ {vs : List V}, Rps X.K G1 xs vs → liftA X.K E true u σ H1 fun ys H2 => Q (vs ++ ys) H2 := fun {vs} rv => by
    refine ⟨G0, H0, G1, ρ, xc, R.ext x1, T, hr.mo _ _ _ _ (fun ds q2 G2 H2 ws x2 r2 => ?_) q1⟩
    rw [if_pos rfl] at r2
    exact q2 G2 H2 _ (x1.trans x2) (by rw [if_pos rfl]; exact (rv.mono x2.gg).append r2)
  rcases ed with rfl | rfl
  · cases r1 with | tup h r => exact ⟨_, _, rfl, .inl (sqT_mono x1.gh h), fin r⟩
  · cases r1 with | lst h r => exact ⟨_, _, rfl, .inr (SqL.of (x1.gh _ _ h)), fin r⟩

/-! ### enumerate, zip -/
theorem wk_enum {a : Addr} {vs : List V} {G : Hp} {ds : List D} (h : SqL K G a vs) (r : Rps K G ds vs) : Wk K (Ite K a) G (ds.zipIdx.map fun q => .tup [.int q.2, q.1]) where
  stop := fun G' H' g1 g2 => ⟨vs, (g1.trans g2).seq h, by simp [r.length]⟩
  go := fun i G' H' hi g1 g2 => by
    have hv : i < vs.length := by rw [← r.length]; simpa using hi
    exact ⟨vs, vs[i], (g1.trans g2).seq h, by simp [hv]⟩
  yld := fun i G' H' x H2 hi g1 g2 ⟨t, y, ex, ht, eH, hy⟩ => by
    subst ex eH
    obtain ⟨d, hd, rd⟩ := r.get' (hy vs ((g1.trans g2).seq h))
    have x2 := Ext.new (o := .tup [V.int ↑i, y]) g2 ht
    refine ⟨_, .tup [.int i, d], x2, ?_, .tup (SqT.of upd_same) (.cons (.int _) (.cons (rd.mono (g1.trans x2.gg)) .nil))⟩
    rw [List.getElem?_map, List.getElem?_zipIdx, hd]
    simp
/-! ### for over a list or a tuple -/
theorem pi_seq {tg l : Expr} {tl : TE} (hl : PE X l tl) : PI X tg l (fun σ H R => tl σ H fun x H1 => ∃ a, x = .ref a ∧ ((∃ xs, SqL X.K H1 a xs ∧ R (Itl X.K a) H1) ∨ ∃ xs, SqT X.K H1 a xs ∧ R (Itt X.K a) H1)) := by
  refine ⟨fun pins s σ H R I h => ?_⟩
  have hA := fun (h : iList X.K tl σ H R) => (pi_list (tg := tg) hl).run pins s σ H R I h
  refine thn (hl.run pins s σ H _ I h) fun v s1 ⟨x, H1, I1, r1, a, e, q1⟩ => ?_
  subst e
  cases r1
  rcases q1 with ⟨xs, hq, q⟩ | ⟨xs, hq, q⟩
  · obtain ⟨its, rv, pl, hz⟩ := I1.list hq
    refine wpAny_pyIter_list pl.isList ⟨s1.heap.objs.size, [s1.heap.objs.size], _, _, H1, rfl, I1.kept (t' := s1.toks) fun b o e => Heap.get?_push_of_some _ e, turn_list a _, ⟨_, Heap.get?_push_size _ rfl, rfl, rfl⟩, fun b hb => ?_, q⟩
    have e : b = s1.heap.objs.size := by simpa using hb
    subst e
    exact I1.fpOk (Nat.le_refl _) (I1.hok.fresh (Nat.le_refl _))
  · obtain ⟨its, rv, pl, hz⟩ := I1.tuple hq
    refine wpAny_pyIter_tuple (show s1.heap.IsTuple a its.toArray from pl) ⟨s1.heap.objs.size, [s1.heap.objs.size], _, _, H1, rfl, I1.kept (t' := s1.toks) fun b o e => Heap.get?_push_of_some _ e, turn_tuple a _, ⟨_, Heap.get?_push_size _ rfl, rfl, rfl⟩, fun b hb => ?_, q⟩
    have e : b = s1.heap.objs.size := by simpa using hb
    subst e
    exact I1.fpOk (Nat.le_refl _) (I1.hok.fresh (Nat.le_refl _))
def D.seq : D → Option (List D)
  | .lst xs => some xs | .fls xs => some xs | .tup xs => some xs | .xtp xs => some xs
  | _ => none
@[simp] def wiS (w : Wx) : Wa := fun xc ρ Q => w xc ρ fun d => ∃ xs, d.seq = some xs ∧ Q xs
theorem ij_seq {tg : Expr} (ha : EJ .e E X a w) : IJ E X tg a (wiS w) := by
  refine ⟨(pi_seq ha.pe).imp fun σ H R' ⟨G0, H0, G, ρ, xc, R, T, q⟩ => ⟨G0, H0, G, ρ, xc, R, T, ha.mo _ _ _ _ (fun d ⟨xs, ed, q1⟩ G1 H1 v x1 r1 => ?_) q⟩, fun xc ρ Q Q' i q => ha.mo _ _ _ _ (fun d ⟨xs, ed, q⟩ => ⟨xs, ed, i _ q⟩) q⟩
  cases d with
  | tup ys =>
    cases ed
    cases r1 with | tup h r => exact ⟨_, rfl, .inr ⟨_, sqT_mono x1.gh h, q1 G1 H1 _ x1 (wk_tup h r)⟩⟩
  | xtp ys =>
    cases ed
    cases r1 with | xtp h _ _ r => exact ⟨_, rfl, .inr ⟨_, .inl (.inr ⟨_, x1.gh _ _ h⟩), q1 G1 H1 _ x1 (wk_tup (.inl (.inr ⟨_, h⟩)) r)⟩⟩
  | lst ys =>
    cases ed
    cases r1 with | lst h r => exact ⟨_, rfl, .inl ⟨_, SqL.of (x1.gh _ _ h), q1 G1 H1 _ x1 (wk_list (SqL.of h) r)⟩⟩
  | fls ys =>
    cases ed
    cases r1 with | fls h r => exact ⟨_, rfl, .inl ⟨_, x1.gh.seq h, q1 G1 H1 _ x1 (wk_list h r)⟩⟩
  | _ => cases ed
end
end Tw

/-! Tw, part J: objects of own classes. -/
namespace Tw
open PySem PySem.Spec L2 PyProof.Rows

/-! ### attributes -/
theorem rfs_put {K : PySem.W.Frag} {G : Hp} {f : Str} {d : D} {v : V} (h : Rp K G d v) : ∀ {fs : List (Str × D)} {vf : List (Str × V)}, Rfs K G fs vf → Rfs K G (putD f d fs) (putF f v vf)
  | _, _, .nil => .cons h .nil
  | _, _, .cons (f := g) q r => by
    unfold putD putF
    by_cases e : g = f
    · rw [if_pos e, if_pos e]; exact .cons h r
    · rw [if_neg e, if_neg e]; exact .cons q (rfs_put h r)
section
variable {X : Cx} {K : PySem.W.Frag} {E : XK} {e a b c o : Expr} {es : List Expr} {w wa wb wc : Wx} {k ka kb : Kd} {pos p : Pos} {u : Wa} {st : Stmt} {rest body : List Stmt} {s s1 s2 : Ws}
theorem rvO_obj {G H : Hp} {C : Addr} {fs : List (Str × D)} {v : V} (g : Same G H) (h : RvO K G H (.obj C fs) v) : ∃ p dx vf, v = .ref p ∧ H p = some (.ins C dx vf) ∧ Rfs K G fs vf := by
  rcases h with h | ⟨p, o, e, e2, t⟩
  · cases h with | obj h r => exact ⟨_, _, _, rfl, g _ _ h, r⟩
  · cases o <;> exact t.elim
def wFld (C : Addr) (f : Str) (w : Wx) : Wx := fun xc ρ Q => w xc ρ fun d => ∃ fs v, d = .obj C fs ∧ fs.lookup f = some v ∧ Q v
theorem ej_fld {C : Addr} {f : Str} (c : Cls X.K C) (n : NoAttr X.K C f) (ha : EJ k E X a w) (hb : attributeBase a f X.env (eval a X.env) = eval a X.env := by rfl) : EJ .e E X (.Attribute a f pos) (wFld C f w) := by
  refine ⟨(pe_fld ha.pe hb).imp fun σ H Q ⟨G0, H0, G, ρ, xc, R, T, q⟩ => ⟨G0, H0, G, ρ, xc, R, T, ha.mo _ _ _ _ (fun d ⟨fs, v, ed, el, q1⟩ G1 H1 vx x1 r1 => ?_) q⟩, fun xc ρ Q Q' i q => ha.mo _ _ _ _ (fun d ⟨fs, v, ed, el, q⟩ => ⟨fs, v, ed, el, i _ q⟩) q⟩
  subst ed
  obtain ⟨p, dx, vf, rfl, h1, r⟩ := rvO_obj x1.gh r1.o
  obtain ⟨vv, e2, r2⟩ := r.look el
  exact ⟨p, C, dx, vf, vv, rfl, h1, c, n, e2, q1 G1 H1 vv x1 r2⟩
theorem ej_seF {i : Nat} {f : Str} {C0 : Addr} (c : Cls X.K C0) (n : NoAttr X.K C0 f) (h : PE X a (tVar i)) (hb : attributeBase a f X.env (eval a X.env) = eval a X.env := by rfl) :
    EJ .e E X (.Attribute a f pos) (fun xc ρ Q => ∃ a fs v, ρ[i]? = some (.se a C0 fs) ∧ fs.lookup f = some v ∧ Q v) := by
  refine ⟨(pe_fld h hb).imp fun σ H Q ⟨G0, H0, G, ρ, xc, R, T, a', fs, v, hi, el, q⟩ => ?_, fun xc ρ Q Q' i ⟨a', fs, v, hi, el, q⟩ => ⟨a', fs, v, hi, el, i _ q⟩⟩
  obtain ⟨e1, dx, vf, e2, r, _⟩ := R.sl i _ hi
  obtain ⟨vv, e3, r2⟩ := r.look el
  exact ⟨_, e1, a', C0, dx, vf, vv, rfl, e2, c, n, e3, q G H vv (.refl R.gh) r2⟩
/-- self.f = e in an __init__ -/
def sFldD (i : Nat) (C : Addr) (f : Str) (w : Wx) : Ws := fun Z ρ => w Z.xc ρ fun d => ∃ a fs, ρ[i]? = some (.se a C fs) ∧ fs.length < 1000 ∧ Z.nx (ρ.set i (.se a C (putD f d fs)))
theorem Rel.fset {G0 H0 G H : Hp} {ρ : Evn} {σ : L2.St} {i : Nat} {a C dx : Addr} {fs fs' : List (Str × D)} {vf vf' : List (Str × V)} (R : Rel K G0 H0 G ρ σ H) (hi : ρ[i]? = some (.se a C fs)) (ha : H a = some (.ins C dx vf)) (r : Rfs K G fs' vf')
    (one : ∀ (j : Nat) C' fs', ρ[j]? = some (.se a C' fs') → j = i) : Rel K G0 H0 G (ρ.set i (.se a C fs')) σ (upd H a (.ins C dx vf')) := by
  obtain ⟨e1, dx', vf0, e2, t0, ga, ha0⟩ := R.sl i _ hi
  have hlt : i < ρ.length := (List.getElem?_eq_some_iff.mp hi).1
  refine ⟨by simpa using R.len, fun b u e => ?_, R.g0, fun b u e => ?_, R.gn, fun j s hj => ?_, fun j k x y b hj hk h1 h2 => ?_⟩
  · rw [upd_ne (fun z => by subst z; rw [ga] at e; cases e)]; exact R.gh _ _ e
  · rw [upd_ne (fun z => by subst z; rw [ha0] at e; cases e)]; exact R.h0 _ _ e
  · by_cases hji : j = i
    · subst hji
      rw [List.getElem?_set_self hlt] at hj
      cases hj
      exact ⟨e1, dx, vf', upd_same, r, ga, ha0⟩
    · rw [List.getElem?_set_ne (Ne.symm hji)] at hj
      have q := R.sl j s hj
      cases s with
      | no => trivial
      | da x => exact q
      | ow x =>
        obtain ⟨b, u, f1, f2, f3, f4, f5⟩ := q
        refine ⟨b, u, f1, ?_, f3, f4, f5⟩
        rw [upd_ne (fun z => by subst z; rw [ha] at f2; cases f2; exact f3.noIns)]
        exact f2
      | e0 b0 => exact q
      | ex b0 p fs0 => exact q
      | se b C' fs2 =>
        obtain ⟨f1, dx2, vf2, f2, f3⟩ := q
        refine ⟨f1, dx2, vf2, ?_, f3⟩
        rw [upd_ne (fun z => by subst z; exact hji (one j _ _ hj))]
        exact f2
  · have go : ∀ {j : Nat} {x : D}, (ρ.set i (.se a C fs'))[j]? = some (.ow x) → ρ[j]? = some (.ow x) := fun {j x} h => by
      by_cases hji : j = i
      · subst hji; rw [List.getElem?_set_self hlt] at h; cases h
      · rw [List.getElem?_set_ne (Ne.symm hji)] at h; exact h
    exact R.dj j k x y b (go hj) (go hk) h1 h2
/-- no slot but this one is under construction -/
def OneSe (ρ : Evn) (i : Nat) : Prop := ∀ (j : Nat) a C fs, ρ[j]? = some (.se a C fs) → j = i
theorem sj_fld {i : Nat} {C : Addr} {f : Str} (c : Cls X.K C) (n : NoAttr X.K C f) (ha : EJ .e E X a w) (h : PS X st (sFld X.K (tVar i) (liftW X.K E .e w) f)) : SJ E X st (fun Z ρ => OneSe ρ i ∧ sFldD i C f w Z ρ) :=
  ⟨h.imp fun D' σ H ⟨G0, H0, G, ρ, Z, R, T, one, q⟩ => ⟨G0, H0, G, ρ, Z.xc, R, T.xc, ha.mo _ _ _ _ (fun d ⟨p, fs, hi, hl, q1⟩ G1 H1 v x1 r1 => by
    have R1 := R.ext x1
    obtain ⟨e1, dx, vf, e2, r, _⟩ := R1.sl i _ hi
    refine ⟨_, e1, p, C, dx, vf, rfl, e2, c, n, by rw [← r.length]; exact hl, ?_⟩
    exact T.nx _ _ _ _ (R1.fset hi e2 (rfs_put r1 r) fun j C' fs' hj => one j _ _ _ hj) x1.gg q1) q⟩⟩

/-! ### the promise of an __init__; C(..) -/
abbrev Wi := XC → List D → (List (Str × D) → Prop) → Prop
def MoI (wf : Wi) : Prop := ∀ xc ds (Q Q' : List (Str × D) → Prop), (∀ d, Q d → Q' d) → wf xc ds Q → wf xc ds Q'
def hid (H : Hp) (p : Addr) : Hp := fun b => if b = p then none else H b
theorem hid_same {H : Hp} {p : Addr} : hid H p p = none := if_pos rfl
theorem hid_ne {H : Hp} {p b : Addr} (h : b ≠ p) : hid H p b = H b := if_neg h
def spIni (K : PySem.W.Frag) (C : Addr) (n : Nat) (wf : Wi) : Sp := fun vs H Q E => vs.length = n + 1 ∧ ∃ p dx vs' G ds xc, vs = .ref p :: vs' ∧ H p = some (.ins C dx []) ∧ G p = none ∧ Same G (hid H p) ∧ Rps K G ds vs' ∧ TieX K G (hid H p) E xc ∧
  wf xc ds fun fs => ∀ G' H' dx' vf, Ext G (hid H p) G' H' → H' p = some (.ins C dx' vf) → G' p = none → Rfs K G' fs vf → Q .non H'
theorem ini_ok {P : Program} {w0 : World} {mg : Str → Option Value} {base : Heap} {x qual : Str} {st : Stmt} {f fd C} {N ps : List Str} {k : Nat} {wf : Wi} {wb : Ws} {n : Nat} (hps : ps.length = n + 1) (F : Fun K x qual st f fd) (S : FnScope N ps (defScope st)) (hn : ∀ xc ds Q, wf xc ds Q → ds.length = n)
    (hb : ∀ (cdv : Value) (A : Around) (outer : List Env) (s : Shared) (H : Hp) (E : XK), Room k (A.deeper (envOfC qual (defScope st) s.heap.objs.size f cdv)) →
      BJ E (cxOf (L2.CX P w0) P w0 K mg base N qual (defScope st) f cdv A outer s H E) (defBody st) wb)
    (hw : ∀ xc ds (Q : List (Str × D) → Prop) p, wf xc ds Q → wb { nx := fun ρ => ∃ fs, ρ[0]? = some (.se p C fs) ∧ Q fs, rt := fun _ _ => False, xc := xc } (.se p C [] :: (ds.map .da ++ List.replicate (N.length - (ds.length + 1)) .no))) :
    FnOk P w0 K mg base (L2.CX P w0) (k + 1) f fd ps (spIni K C n wf) := by
  refine F.okX S (fun vs H Q E h => h.1.trans hps.symm) (fun cdv A outer s H vs Q E hr h => ?_)
  obtain ⟨hl, p, dx, vs', G, ds, xc, rfl, hp, gp, g, r, T, q⟩ := h
  have q' := hw xc ds _ p q
  have gH : Same G H := fun b o e => by
    have := g b o e
    unfold hid at this
    split at this
    · cases this
    · exact this
  have hH : Same (hid H p) H := fun b o e => by
    unfold hid at e
    split at e
    · cases e
    · exact e
  have lds : ds.length = n := hn _ _ _ q
  have Rs := Rel.start (N := N.tail) gH r
  refine ⟨_, (hb cdv A outer s H E hr).ps, G, hid H p, G, _, _, ⟨?_, gH, Same.refl _, hH, fun _ _ z => z, fun i sl hs => ?_, fun i j d e b hi hj _ _ => ?_⟩, ⟨?_, ?_, ?_, ?_, ?_⟩, q'⟩
  · have := r.length
    simp [L2.start]; omega
  · cases i with
    | zero =>
      simp at hs
      subst hs
      exact ⟨rfl, dx, [], hp, .nil, gp, hid_same⟩
    | succ i =>
      have hs' : (ds.map Sl.da ++ List.replicate (N.length - (ds.length + 1)) Sl.no)[i]? = some sl := by simpa using hs
      by_cases hi : i < ds.length
      · rw [List.getElem?_append_left (by simpa using hi), List.getElem?_map, List.getElem?_eq_getElem hi] at hs'
        simp at hs'
        subst hs'
        obtain ⟨v, e, rv⟩ := r.get (List.getElem?_eq_getElem hi)
        refine ⟨v, ?_, rv⟩
        unfold L2.start
        have hi2 : i < vs'.length := by rw [← r.length]; exact hi
        have e3 : vs'[i] = v := by rw [List.getElem?_eq_getElem hi2] at e; exact Option.some.inj e
        rw [List.getElem?_append_left (by simp; omega)]
        simp [hi2, e3]
      · rw [List.getElem?_append_right (by simp; omega), List.getElem?_replicate] at hs'
        split at hs'
        · cases hs'; trivial
        · cases hs'
  · exfalso
    rcases List.getElem?_eq_some_iff.mp hi with ⟨hl, he⟩
    have hm : Sl.ow d ∈ (Sl.se p C [] :: (ds.map Sl.da ++ List.replicate (N.length - (ds.length + 1)) Sl.no)) := by rw [← he]; exact List.getElem_mem hl
    simp at hm
  · rintro ρ σ G' H' R s1 ⟨fs, hi, qf⟩
    obtain ⟨e1, dx', vf, e2, rf, gp', _⟩ := R.sl 0 _ hi
    exact qf G' H' dx' vf R.ex e2 gp' rf
  · exact fun _ _ _ _ _ _ _ q => q.elim
  · exact fun _ _ _ _ _ _ q => q.elim
  · exact fun _ _ _ _ _ _ q => q.elim
  · exact T
end
end Tw

/-! Tw, part K: objects made, their methods, len of an object. -/
namespace Tw
open PySem PySem.Spec L2 PyProof.Rows
section
variable {X : Cx} {K : PySem.W.Frag} {E : XK} {e a b c o : Expr} {es : List Expr} {w wa wb wc : Wx} {k ka kb : Kd} {pos p : Pos} {u ut : Wa} {st : Stmt} {rest body : List Stmt} {s s1 s2 : Ws}
/-! ### keywords -/
structure KJ (E : XK) (X : Cx) (kws : List Keyword) (w : Wa) : Prop where
  pk : PK X kws (liftA X.K E true w)
  mo : ∀ xc ρ (Q Q' : List D → Prop), (∀ d, Q d → Q' d) → w xc ρ Q → w xc ρ Q'
theorem _root_.L2.PK.imp {X : Cx} {e : List Keyword} {t t' : TA} (h : PK X e t) (i : ∀ σ H Q, t' σ H Q → t σ H Q) : PK X e t' := ⟨fun p pins s σ H Q I q => h.run p pins s σ H Q I (i _ _ _ q)⟩
/-- C(.., k=..): gD puts the written arguments and the keywords' values (and defaults) into the parameters' order -/
structure Ctor (P : Program) (w : World) (K : PySem.W.Frag) (mg : Str → Option Value) (base : Heap) (x : Str) (C : Addr) (n : Nat) (ks : List Str) (j : Nat) (gD : List D → List D → List D) (wi : Wi) : Prop where
  ex : ∃ (f : Addr) (fd : FuncData) (ps : List Str) (g : List Value → List Value → List Value) (gV gR : List V → List V → List V) (m : Nat), Mk K C f ∧ FnOk P w K mg base (L2.CX P w) j f fd ps (spIni K C m wi) ∧ KBn K fd ps (n + 1) ks g gV ∧ mg x = some (.ref C) ∧
    (∀ x vs zs, vs.length = n → zs.length = ks.length → gV (V.ref x :: vs) zs = V.ref x :: gR vs zs) ∧ (∀ G ds es vs zs, Rps K G ds vs → Rps K G es zs → Rps K G (gD ds es) (gR vs zs)) ∧
    (∀ ds xc Q, wi xc ds Q → ds.length = m)
  mo : MoI wi
def wMakeK (C : Addr) (n m : Nat) (gD : List D → List D → List D) (wi : Wi) (u ut : Wa) : Wx := fun xc ρ Q => u xc ρ fun ds => ut xc ρ fun es => ds.length = n ∧ es.length = m ∧ wi xc (gD ds es) fun fs => Q (.obj C fs)
theorem same_hid {H G' : Hp} {x : Addr} (hx : H x = none) {H' : Hp} (h : Same H H') : Same H (hid H' x) := fun b o q => by
  rw [hid_ne (ne_of_none q hx)]; exact h _ _ q
theorem ini_go {G1 H1 : Hp} {C x dx : Addr} {n : Nat} {wi : Wi} {Q : VK} {xc : XC} {ds : List D} {vs : List V} {Qd : List (Str × D) → Prop} (g1 : Same G1 H1) (hx : H1 x = none) (hdx : H1 dx = none) (ne : dx ≠ x) (r : Rps K G1 ds vs) (hl : vs.length = n) (T : TieX K G1 H1 E xc) (mo : MoI wi)
    (q : wi xc ds Qd) (fin : ∀ fs, Qd fs → ∀ G' H' v, Ext G1 H1 G' H' → Rp K G' (.obj C fs) v → Q v H') :
    spIni K C n wi (.ref x :: vs) (upd (upd H1 dx (.own x)) x (.ins C dx [])) (fun v H2 => v = .non ∧ Q (.ref x) H2) E := by
  have g2 : Same H1 (hid (upd (upd H1 dx (.own x)) x (.ins C dx [])) x) := same_hid (G' := G1) hx (fun b o q => by rw [upd_ne (ne_of_none q hx), upd_ne (ne_of_none q hdx)]; exact q)
  have gn : ∀ b, hid (upd (upd H1 dx (.own x)) x (.ins C dx [])) x b ≠ none → b = dx ∨ H1 b ≠ none := fun b hb => by
    by_cases h1 : b = x
    · rw [h1, hid_same] at hb; exact absurd rfl hb
    · rw [hid_ne h1, upd_ne h1] at hb
      by_cases h2 : b = dx
      · exact .inl h2
      · rw [upd_ne h2] at hb; exact .inr hb
  refine ⟨by simp [hl], x, dx, vs, G1, ds, xc, rfl, upd_same, g1.free hx, g1.trans g2, r, fun C' fs G' H' d2 x2 h qx => ?_, mo _ _ _ _ (fun fs qf G' H' dx' vf x2 hp gp rf => ?_) q⟩
  · refine T C' fs G' H' d2 ⟨x2.gg, g2.trans x2.hh, x2.gh, fun b hb gb => x2.gn b (Same.nn g2 hb) gb⟩ ?_ qx
    cases d2 with
    | none => exact h
    | some p => exact ⟨g2.free h.1, h.2⟩
  · refine ⟨rfl, fin fs qf (upd G' x (.ins C dx' vf)) H' _ ⟨x2.gg.trans (same_upd gp), g2.trans x2.hh, fun b o e => ?_, fun b hb gb => ?_⟩ (.obj upd_same (rf.mono (same_upd gp)))⟩
    · by_cases z : b = x
      · subst z; rw [upd_same] at e; cases e; exact hp
      · rw [upd_ne z] at e; exact x2.gh _ _ e
    · rw [upd_ne (fun z => hb (by rw [z]; exact hx))]
      exact x2.gn b (Same.nn g2 hb) gb
theorem ej_makeK {x : Str} {C : Addr} {n j : Nat} {ks : List Str} {gD : List D → List D → List D} {wi : Wi} {kws : List Keyword} (F : Ctor X.prog X.w X.K X.mg X.base x C n ks j gD wi) (hr : Room (j + 1) X.A) (hg : Gl X x) (hx : Passes (L2.CX X.prog X.w) X E) (ha : AJ true E X (e :: es) u) (hk : KJ E X kws ut)
    (h1 : ((backToKw pos (keywordEach kws X.env)).all fun x => x.1.isSome) = true := by rfl) (h2 : List.filterMap (fun x => x.1) (backToKw pos (keywordEach kws X.env)) = ks := by rfl) (h3 : (x == ("__debug__" : Str)) = false := by decide)
    (h4 : starEach (e :: es) X.env = (false, eval e X.env) :: starEach es X.env := by rfl) (h5 : (((backTo pos (starEach (e :: es) X.env)).any fun x => x.1) || (backToKw pos (keywordEach kws X.env)).any fun x => x.1.isNone) = false := by rfl) :
    EJ .e E X (.Call (.Name x p) (e :: es) kws pos) (wMakeK C n ks.length gD wi u ut) := by
  obtain ⟨f, fd, ps, g, gV, gR, m, M, Fo, hb, hm, hv, hd, hn⟩ := F.ex
  refine ⟨(pe_makeK M Fo hr hg hm hb hx ha.pa hk.pk h1 h2 h3 h4 h5).imp fun σ H Q ⟨G0, H0, G, ρ, xc, R, T, q⟩ => ⟨G0, H0, G, ρ, xc, R, T, ha.mo _ _ _ _ (fun ds q1 G1 H1 vs x1 r1 => ?_) q⟩, fun xc ρ Q Q' i q => ha.mo _ _ _ _ (fun ds q => hk.mo _ _ _ _ (fun es q => ⟨q.1, q.2.1, F.mo _ _ _ _ (fun fs q => i _ q) q.2.2⟩) q) q⟩
  rw [if_pos rfl] at r1
  refine ⟨G0, H0, G1, ρ, xc, R.ext x1, T, hk.mo _ _ _ _ (fun es ⟨l1, l2, q2⟩ G2 H2 zs x2 r2 => ?_) q1⟩
  rw [if_pos rfl] at r2
  have lv : vs.length = n := by rw [← r1.length]; exact l1
  have lz : zs.length = ks.length := by rw [← r2.length]; exact l2
  refine ⟨lv, lz, fun y dx hy hdx ne => ?_⟩
  rw [hv y vs zs lv lz]
  have r3 := hd G2 ds es vs zs (r1.mono x2.gg) r2
  exact ini_go x2.gh hy hdx ne r3 (by rw [← r3.length]; exact hn _ _ _ q2) (T.later (R.ex.trans (x1.trans x2))) F.mo q2 fun fs qf G' H' v x3 r4 => qf G' H' v (x1.trans (x2.trans x3)) r4

/-! ### methods -/
structure MDef (P : Program) (w : World) (K : PySem.W.Frag) (mg : Str → Option Value) (base : Heap) (C : Addr) (m : Str) (n j : Nat) (wf : Wf) : Prop where
  ex : ∃ f fd ps, FnOk P w K mg base (L2.CX P w) j f fd ps (spOf K n wf) ∧ Meth K C m f ∧ Binds K fd ps []
  cl : Cls K C
  mo : MoF wf
  hn : ∀ ds xc Q, wf xc ds Q → ds.length = n
def wMeth (C : Addr) (m : Str) (wf : Wf) (w : Wx) (u : Wa) : Wx := fun xc ρ Q => w xc ρ fun d => ∃ fs, d = .obj C fs ∧ fs.lookup m = none ∧ u xc ρ fun ds => wf xc (d :: ds) fun _ v => Q v
def wMethF (C : Addr) (m : Str) (wf : Wf) (w : Wx) (u : Wa) : Wx := fun xc ρ Q => w xc ρ fun d => ∃ fs, d = .obj C fs ∧ fs.lookup m = none ∧ u xc ρ fun ds => wf xc (d :: ds) fun fr v => fr = true ∧ Q v
theorem meth_pe {C : Addr} {m : Str} {n : Nat} {wf : Wf} (mo : MoF wf) (hn : ∀ ds xc Q, wf xc ds Q → ds.length = n) (ho : EJ .e E X o w) (h : AJ true E X es u) (hpe : PE X e (tMeth C m (spOf X.K n wf) [] E (liftW X.K E .e w) (liftA X.K E true u))) :
    EJ .e E X e (wMeth C m wf w u) := by
  refine ⟨hpe.imp fun σ H Q ⟨G0, H0, G, ρ, xc, R, T, q⟩ => ⟨G0, H0, G, ρ, xc, R, T, ho.mo _ _ _ _ (fun d ⟨fs, ed, el, q1⟩ G1 H1 v x1 r1 => ?_) q⟩, fun xc ρ Q Q' i q => ho.mo _ _ _ _ (fun d ⟨fs, ed, el, q⟩ => ⟨fs, ed, el, h.mo _ _ _ _ (fun ds q => mo _ _ _ _ (fun fr v q => i _ q) q) q⟩) q⟩
  subst ed
  obtain ⟨a, dx, vf, rfl, ha, rf⟩ := rvO_obj x1.gh (.inl r1)
  refine ⟨a, dx, vf, rfl, ha, rf.lookN el, G0, H0, G1, ρ, xc, R.ext x1, T, h.mo _ _ _ _ (fun ds q2 G2 H2 vs x2 r2 => ?_) q1⟩
  rw [if_pos rfl] at r2
  have r3 : Rps X.K G2 (.obj C fs :: ds) (V.ref a :: (vs ++ [])) := by rw [List.append_nil]; exact .cons (Rp.mono x2.gg r1) r2
  refine ⟨by rw [← r3.length]; exact hn _ _ _ q2, G2, _, xc, x2.gh, r3, T.later (R.ex.trans (x1.trans x2)), mo _ _ _ _ (fun fr d q3 G' H' v x3 r4 => ?_) q2⟩
  have x13 := x1.trans x2
  cases fr with
  | false => exact q3 G' H' v (x13.trans x3) r4
  | true =>
    obtain ⟨G3, x4, r5⟩ := RvF.frz x3 r4
    exact q3 G3 H' v (x13.trans x4) r5
theorem ej_meth {C : Addr} {m : Str} {n j : Nat} {wf : Wf} {pl : Sem Bool} {apos : Pos} (F : MDef X.prog X.w X.K X.mg X.base C m n j wf) (hr : Room j X.A) (hx : Passes (L2.CX X.prog X.w) X E) (ho : EJ .e E X o w) (h : AJ true E X (e :: es) u)
    (h1 : starEach (e :: es) X.env = (false, eval e X.env) :: starEach es X.env := by rfl) (h2 : (backTo pos (starEach es X.env)).any (·.1) = false := by rfl)
    (h3 : eval (.Call (.Attribute o m apos) (e :: es) [] pos) X.env = (do
      let ov ← eval o X.env
      standAt apos.atName
      let (f, first) ← holding [ov] (getMethod ov m pl)
      callWith pos f first (backTo pos (starEach (e :: es) X.env)) (backToKw pos (keywordEach [] X.env))) := by rfl) :
    EJ .e E X (.Call (.Attribute o m apos) (e :: es) [] pos) (wMeth C m wf w u) := by
  obtain ⟨f, fd, ps, Fo, hm, b⟩ := F.ex
  exact meth_pe F.mo F.hn ho h (pe_meth ho.pe F.cl hm Fo hr b .nil hx h.pa h1 h2 h3)
/-! ### len of an object -/
def rLenO (K : PySem.W.Frag) (C : Addr) (sp : Sp) (E : XK) : List V → Hp → VK → Prop := fun xs H Q => ∃ a dx fs, xs = [V.ref a] ∧ H a = some (.ins C dx fs) ∧ sp [.ref a] H (fun v H' => ∃ n : Int, v = .int n ∧ (0 ≤ n ∧ n < 2 ^ 63) ∧ Q (.int n) H') E
theorem call_lenO {C f : Addr} {fd : FuncData} {ps : List Str} {j : Nat} {sp : Sp} (F : FnOk X.prog X.w X.K X.mg X.base (L2.CX X.prog X.w) j f fd ps sp) (hm : Meth X.K C "__len__" f) (hb : Binds X.K fd ps []) (hr : Room (j + 1) X.A) (hx : Passes (L2.CX X.prog X.w) X E) :
    CallR X (.builtin "len") (rLenO X.K C sp E) := by
  intro pins s σ H xs us Q I r h
  obtain ⟨a, dx, fs, rfl, ha, q⟩ := h
  rw [Vals.ref1 r]
  obtain ⟨mA, J, _⟩ := ins_get I.hok ha
  obtain ⟨od, J, _⟩ := J.look
  obtain ⟨m, hF⟩ := I.fr
  refine PySem.W.len_K hF I.ok.mod.kin J hm.at_ hm.fn ?_
  have e0 : Env0 X.prog X.w X.K X.mg X.base X.A.in1 X.stack s H := I.env0.in1
  have hl := F.len _ _ _ _ q
  have r2 : Vals [V.ref a] [Value.ref a] := .cons rfl .nil
  refine wpAny_call (codeAny_mono (F.run X.A.in1 X.stack s H ⟨[.ref a], []⟩ [.ref a] [.ref a] _ E hr.in1 e0 (by
    have := hb s [.ref a] I.kIn (by simpa using hl)
    simpa using this) r2 q) fun r s' hq => ?_)
  cases r with
  | error e => exact hx pins σ H s e s' I hq
  | ok fl =>
    cases fl with
    | ret u =>
      obtain ⟨z, H', I', rz, n, ez, hn, qn⟩ := I.after hq
      subst ez
      obtain ⟨t, rfl⟩ := rz
      exact ⟨hn, .int n, H', I'.tok _, ⟨_, rfl⟩, qn⟩
    | next => exact False.elim hq
    | brk => exact False.elim hq
    | cont => exact False.elim hq
def wLenO (C : Addr) (wf : Wf) (w : Wx) : Wx := fun xc ρ Q => w xc ρ fun d => ∃ fs, d = .obj C fs ∧ wf xc [d] fun _ v => ∃ n : Int, v = .int n ∧ (0 ≤ n ∧ n < 2 ^ 63) ∧ Q v
theorem ej_lenO {C : Addr} {j : Nat} {wf : Wf} (F : MDef X.prog X.w X.K X.mg X.base C "__len__" 1 j wf) (hr : Room (j + 1) X.A) (hx : Passes (L2.CX X.prog X.w) X E) (ha : EJ .e E X a w) (hg : Gl X "len") (hm : X.mg "len" = none)
    (hst : starEach [a] X.env = (false, eval a X.env) :: starEach [] X.env := by rfl) : EJ .e E X (.Call (.Name "len" p) [a] [] pos) (wLenO C wf w) := by
  obtain ⟨f, fd, ps, Fo, hme, b⟩ := F.ex
  have h := pe_callB (p := p) (pos := pos) (call_lenO Fo hme b hr hx) hg hm PySem.boot_len (pa_cons ha.pe pa_nil hst) (by decide) (by decide) hst rfl
  refine ⟨h.imp fun σ H Q ⟨G0, H0, G, ρ, xc, R, T, q⟩ => ⟨G0, H0, G, ρ, xc, R, T, ha.mo _ _ _ _ (fun d ⟨fs, ed, q1⟩ G1 H1 v x1 r1 => ?_) q⟩, fun xc ρ Q Q' i q => ha.mo _ _ _ _ (fun d ⟨fs, ed, q⟩ => ⟨fs, ed, F.mo _ _ _ _ (fun fr v ⟨n, en, hn, q⟩ => ⟨n, en, hn, i _ q⟩) q⟩) q⟩
  subst ed
  obtain ⟨l, dx, vf, rfl, hl, rf⟩ := rvO_obj x1.gh (.inl r1)
  refine ⟨l, dx, vf, rfl, hl, rfl, G1, _, xc, x1.gh, .cons r1 .nil, T.later (R.ex.trans x1), F.mo _ _ _ _ (fun fr d ⟨n, en, hn, q2⟩ G' H' v x2 r2 => ?_) q1⟩
  subst en
  have e3 : v = .int n := by
    cases fr with
    | false => exact rvO_int (G := G') (H := H') (.inl r2)
    | true => obtain ⟨_, o, _, _, _, t, _⟩ := r2; cases o <;> exact t.elim
  exact ⟨n, e3, hn, q2 G' H' _ (x1.trans x2) (.int n)⟩
end
end Tw

/-! Tw, part L: short rules, one a construct. -/
namespace Tw
open PySem PySem.Spec L2 PyProof.Rows
theorem units65 {A : Around} {k : Nat} (r : Room k A) : A.units + 65 < cLine := by have := r.un; omega
section
variable {X : Cx} {K : PySem.W.Frag} {E : XK} {e a b c o : Expr} {es : List Expr} {w wa wb wc : Wx} {k ka kb kc : Kd} {pos p pos' : Pos} {u ut : Wa} {st : Stmt} {rest body : List Stmt} {s s1 s2 : Ws} {i : Nat} {x : Str}
/-! built-in functions -/
theorem ej_len (hg : Gl X "len") (hm : X.mg "len" = none) (ha : EJ k E X a w) (hst : starEach [a] X.env = (false, eval a X.env) :: starEach [] X.env := by rfl) : EJ .e E X (.Call (.Name "len" p) [a] [] pos) (wN oLen (waCons w waNil)) :=
  let h := aj_consO ha (aj_nil (kk := false)) hst
  ej_N h (pe_callB call_len hg hm PySem.boot_len h.pa (by decide) (by decide) hst rfl) brg_len
theorem ej_abs (hg : Gl X "abs") (hm : X.mg "abs" = none) (ha : EJ k E X a w) (hst : starEach [a] X.env = (false, eval a X.env) :: starEach [] X.env := by rfl) : EJ .e E X (.Call (.Name "abs" p) [a] [] pos) (wN oAbs (waCons w waNil)) :=
  let h := aj_consO ha (aj_nil (kk := false)) hst
  ej_N h (pe_callB call_abs hg hm (by decide +kernel) h.pa (by decide) (by decide) hst rfl) brg_abs
theorem ej_int1 (hg : Gl X "int") (hm : X.mg "int" = none) (ha : EJ k E X a w) (hst : starEach [a] X.env = (false, eval a X.env) :: starEach [] X.env := by rfl) : EJ .e E X (.Call (.Name "int" p) [a] [] pos) (wN oInt (waCons w waNil)) :=
  let h := aj_consO ha (aj_nil (kk := false)) hst
  ej_N h (pe_callTy call_int1 hg hm (by decide +kernel) h.pa (by decide) (by decide) hst rfl) brg_int
theorem ej_list1 (hg : Gl X "list") (hm : X.mg "list" = none) (ha : EJ k E X a w) (hst : starEach [a] X.env = (false, eval a X.env) :: starEach [] X.env := by rfl) : EJ .f E X (.Call (.Name "list" p) [a] [] pos) (wN oList (waCons w waNil)) :=
  let h := aj_consO ha (aj_nil (kk := false)) hst
  ej_N h (pe_callTy call_list_of hg hm (by decide +kernel) h.pa (by decide) (by decide) hst rfl) brg_list
theorem ej_tuple1 (hg : Gl X "tuple") (hm : X.mg "tuple" = none) (ha : EJ k E X a w) (hst : starEach [a] X.env = (false, eval a X.env) :: starEach [] X.env := by rfl) : EJ .e E X (.Call (.Name "tuple" p) [a] [] pos) (wN oTuple (waCons w waNil)) :=
  let h := aj_consO ha (aj_nil (kk := false)) hst
  ej_N h (pe_callTy call_tuple_of hg hm (by decide +kernel) h.pa (by decide) (by decide) hst rfl) brg_tuple
theorem ej_sortI (hg : Gl X "sorted") (hm : X.mg "sorted" = none) (ha : EJ k E X a w) (hst : starEach [a] X.env = (false, eval a X.env) :: starEach [] X.env := by rfl) : EJ .f E X (.Call (.Name "sorted" p) [a] [] pos) (wN oSortI (waCons w waNil)) :=
  let h := aj_consO ha (aj_nil (kk := false)) hst
  ej_N h (pe_callB cr_sortedI hg hm (by decide +kernel) h.pa (by decide) (by decide) hst rfl) brg_sortI
theorem ej_all1 (hc : X.calm = true) (hg : Gl X "all") (hm : X.mg "all" = none) (ha : EJ k E X a w) (hst : starEach [a] X.env = (false, eval a X.env) :: starEach [] X.env := by rfl) : EJ .e E X (.Call (.Name "all" p) [a] [] pos) (wN oAll (waCons w waNil)) :=
  let h := aj_consO ha (aj_nil (kk := false)) hst
  ej_N h (pe_callB (cr_all hc) hg hm (by decide +kernel) h.pa (by decide) (by decide) hst rfl) brg_all
/-- a constant of the module -/
theorem ej_glob {d : D} {v : V} (hg : Gl X x) (h : ∃ u, X.mg x = some u ∧ RelV v u) (r : ∀ G, Rp X.K G d v) (hd : (x == ("__debug__" : Str)) = false := by decide) : EJ .e E X (.Name x pos) (wC d) := by
  obtain ⟨u, h1, h2⟩ := h
  exact ej_c (pe_glob hg h1 h2 hd) r
/-! tests -/
theorem tj_ch2 {op op' : CmpOp} {f f' : Op2} {r r' : R2} (B : Brg2 X.K .e f r) (B' : Brg2 X.K .e f' r') (ho : OpR X (compareOp op) r) (ho' : OpR X (compareOp op') r') (ha : EJ ka E X a wa) (hb : EJ kb E X b wb) (hc : EJ kc E X c wc) (hl : lastMarks [op, op'] [b, c] = false := by rfl) :
    TJ E X (.Compare a [op, op'] [b, c] pos) (wB (wCh f f' wa wb wc)) := tj_ch ha hb hc (pt_chain ho ho' ha.pe hb.pe hc.pe hl) B B'
theorem ej_ch2 {op op' : CmpOp} {f f' : Op2} {r r' : R2} (B : Brg2 X.K .e f r) (B' : Brg2 X.K .e f' r') (ho : OpR X (compareOp op) r) (ho' : OpR X (compareOp op') r') (ha : EJ ka E X a wa) (hb : EJ kb E X b wb) (hc : EJ kc E X c wc) (hl : lastMarks [op, op'] [b, c] = false := by rfl) :
    EJ .e E X (.Compare a [op, op'] [b, c] pos) (wCh f f' wa wb wc) := ej_ch ha hb hc (pe_chain ho ho' ha.pe hb.pe hc.pe hl) B B'
/-- a and b, a or b as a value, a True or False -/
@[simp] def wAndV (wa wb : Wx) : Wx := fun xc ρ Q => wa xc ρ fun x => ∃ t, x = .bl t ∧ if t = true then wb xc ρ Q else Q (.bl false)
@[simp] def wOrV (wa wb : Wx) : Wx := fun xc ρ Q => wa xc ρ fun x => ∃ t, x = .bl t ∧ if t = true then Q (.bl true) else wb xc ρ Q
/-! statements -/
theorem sj_name (nd : X.N.Nodup) (hi : X.N[i]? = some x) (hx : Loc X.env.scope x) (he : EJ .e E X e w) (hs : swapsWith e (some (.Name x pos')) pos.line X.env = pure false := by rfl) (hf : X.fn x = true ∨ X.env.scope.names.lookup x = some .local := by first | exact .inl rfl | exact .inr rfl) :
    SJ E X (.Assign [.Name x pos'] e pos) (sSet i w) := sj_set he (ps_set nd hi hx he.pe hs hf)
theorem sj_nameO (nd : X.N.Nodup) (hi : X.N[i]? = some x) (hx : Loc X.env.scope x) (he : EJ .f E X e w) (hs : swapsWith e (some (.Name x pos')) pos.line X.env = pure false := by rfl) (hf : X.fn x = true ∨ X.env.scope.names.lookup x = some .local := by first | exact .inl rfl | exact .inr rfl) :
    SJ E X (.Assign [.Name x pos'] e pos) (sSetO i w) := sj_setO he (ps_set nd hi hx he.pe hs hf)
/-- y = [..] -/
theorem frz_asg (h : PS X st (tAsg (liftW X.K E .f w) (gName i))) (he : EJ .f E X e w) : PS X st (tAsg (liftW X.K E .e w) (gName i)) := h.imp fun D' σ H ⟨G0, H0, G, ρ, xc, R, T, q⟩ => ⟨G0, H0, G, ρ, xc, R, T, he.mo _ _ _ _ (fun d hd G' H' v x1 r1 => by
  obtain ⟨G2, x2, r2⟩ := RvF.frz x1 r1
  exact hd G2 H' v x2 r2) q⟩
theorem sj_comp (h : PS X st (tAsg (liftW X.K E .f w) (gName i)) ∧ EJ .f E X e w) : SJ E X st (sSet i w) := sj_set h.2.toE (frz_asg h.1 h.2)
theorem sj_tgt {tg : Expr} {tgs : List Nat} {g : Wg} (hg : GJ X tg tgs g) (he : EJ .e E X e w) (h1 : swapsWithSole [tg] e pos.line X.env = pure false := by rfl) (h2 : swappedStores [tg] e X.env = pure none := by rfl) (h3 : (assignEach [tg] X.env).map (·.2) = [assign tg X.env] := by rfl) :
    SJ E X (.Assign [tg] e pos) (sAsg w g) := sj_asg he hg (ps_asg he.pe hg.pg h1 h2 h3)
theorem sj_expr (he : EJ k E X e w) (hs : swapsWith e none pos.line X.env = pure false := by rfl) : SJ E X (.Expr e pos) (sExp w) := sj_exp he (ps_expr he.pe hs)
theorem sj_append {apos cpos : Pos} {n : Expr} (hv : PE X n (tVar i)) (he : EJ .e E X e w)
    (h1 : attributeBase n "append" X.env (eval n X.env) = eval n X.env := by rfl) (h2 : ((backTo cpos (starEach [e] X.env)).all (fun x => !x.1) && (backToKw cpos (keywordEach [] X.env)).all (fun x => x.1.isSome) && decide ([e].length + ([] : List Keyword).length + (if ([] : List Keyword).isEmpty = true then 0 else 1) < 30)) = true := by rfl)
    (h3 : (apos.endLine == cpos.line) = true := by rfl) (hst : starEach [e] X.env = (false, eval e X.env) :: starEach [] X.env := by rfl) (hs : swapsWith (.Call (.Attribute n "append" apos) [e] [] cpos) none pos.line X.env = pure false := by rfl) :
    SJ E X (.Expr (.Call (.Attribute n "append" apos) [e] [] cpos) pos) (sApp i w) :=
  sj_app (name := "append") (id := "list.append") he (ps_expr (pe_bm PySem.F.plainAttrs_list PySem.F.slot_list_append PySem.F.type_list_append mt_append hv (pa_cons he.pe pa_nil hst) h1 h2 h3 hst rfl) hs)
theorem sj_dput {n : Expr} {kk : Nat} {tp : Pos} (hu : X.A.units + 1 < cLine) (hv : PE X n (tVar i)) (hk : AJ true E X es u) (hb : EJ .e E X b wb) (hs : swapsWith b (some (.Subscript n (.Tuple es kk tp) pos')) pos.line X.env = pure false := by rfl) :
    SJ E X (.Assign [.Subscript n (.Tuple es kk tp) pos'] b pos) (sPutT i u wb) := sj_putT hk hb (ps_dput hu hv (pe_tup hk.pa) hb.pe hs)
theorem tj_dinT {kk : Nat} {tp : Pos} (hu : X.A.units + 1 < cLine) (hk : AJ true E X es u) (hd : EJ kb E X b wb) (h1 : behindInMarks .In b = false := by rfl) : TJ E X (.Compare (.Tuple es kk tp) [.In] [b] pos) (wB (wInT u wb)) := tj_inT hk hd (pt_cmp (pc_din hu (pe_tup hk.pa) hd.pe) h1)
theorem sj_fset {n : Expr} {f : Str} {C : Addr} (c : Cls X.K C) (no : NoAttr X.K C f) (hv : PE X n (tVar i)) (he : EJ .e E X e w) (hs : swapsWith e (some (.Attribute n f pos')) pos.line X.env = pure false := by rfl) :
    SJ E X (.Assign [.Attribute n f pos'] e pos) (fun Z ρ => OneSe ρ i ∧ sFldD i C f w Z ρ) := sj_fld c no he (ps_fld hv he.pe hs)
end
end Tw

/-! Tw, part M: more short rules. -/
namespace Tw
open PySem PySem.Spec L2 PyProof.Rows
section
variable {X : Cx} {K : PySem.W.Frag} {E : XK} {e a b c o : Expr} {es : List Expr} {w wa wb wc : Wx} {k ka kb kc : Kd} {pos p pos' : Pos} {u ut : Wa} {st : Stmt} {rest body : List Stmt} {s s1 s2 : Ws} {i : Nat} {x : Str}
theorem ej_toE (h : EJ .f E X e w) : EJ .e E X e w := h.toE
theorem tj_tw {wt : Wt} (h : TWJ E X e wt) : TJ E X e wt := h.t
theorem ej_b1 {op : BoolOp} (ha : EJ .e E X a wa) : EJ .e E X (.BoolOp op [a] pos) wa := ⟨pe_one ha.pe, ha.mo⟩
theorem ej_andV {rs : List Expr} (ha : EJ .e E X a wa) (hb : EJ .e E X (.BoolOp .And (b :: rs) pos) wb) : EJ .e E X (.BoolOp .And (a :: b :: rs) pos) (wAndV wa wb) := by
  refine ⟨(pe_and ha.pe hb.pe).imp fun σ H Q ⟨G0, H0, G, ρ, xc, R, T, q⟩ => ⟨G0, H0, G, ρ, xc, R, T, ha.mo _ _ _ _ (fun d ⟨t, ed, q1⟩ G1 H1 v x1 r1 => ?_) q⟩, fun xc ρ Q Q' i q => ha.mo _ _ _ _ (fun d ⟨t, ed, q⟩ => ⟨t, ed, ?_⟩) q⟩
  · subst ed
    refine ⟨t, rvO_bl r1.o, ?_⟩
    cases t with
    | true => rw [if_pos rfl] at q1; exact iteT ⟨G0, H0, G1, ρ, xc, R.ext x1, T, hb.mo _ _ _ _ (fun y q2 G2 H2 v x2 r => q2 G2 H2 v (x1.trans x2) r) q1⟩
    | false => rw [if_neg Bool.false_ne_true] at q1; exact iteF (q1 G1 H1 _ x1 (.bl _))
  · cases t with
    | true => rw [if_pos rfl] at q ⊢; exact hb.mo _ _ _ _ i q
    | false => rw [if_neg Bool.false_ne_true] at q ⊢; exact i _ q
theorem ej_orV {rs : List Expr} (ha : EJ .e E X a wa) (hb : EJ .e E X (.BoolOp .Or (b :: rs) pos) wb) : EJ .e E X (.BoolOp .Or (a :: b :: rs) pos) (wOrV wa wb) := by
  refine ⟨(pe_or ha.pe hb.pe).imp fun σ H Q ⟨G0, H0, G, ρ, xc, R, T, q⟩ => ⟨G0, H0, G, ρ, xc, R, T, ha.mo _ _ _ _ (fun d ⟨t, ed, q1⟩ G1 H1 v x1 r1 => ?_) q⟩, fun xc ρ Q Q' i q => ha.mo _ _ _ _ (fun d ⟨t, ed, q⟩ => ⟨t, ed, ?_⟩) q⟩
  · subst ed
    refine ⟨t, rvO_bl r1.o, ?_⟩
    cases t with
    | false => rw [if_neg Bool.false_ne_true] at q1; exact iteF ⟨G0, H0, G1, ρ, xc, R.ext x1, T, hb.mo _ _ _ _ (fun y q2 G2 H2 v x2 r => q2 G2 H2 v (x1.trans x2) r) q1⟩
    | true => rw [if_pos rfl] at q1; exact iteT (q1 G1 H1 _ x1 (.bl _))
  · cases t with
    | false => rw [if_neg Bool.false_ne_true] at q ⊢; exact hb.mo _ _ _ _ i q
    | true => rw [if_pos rfl] at q ⊢; exact i _ q
@[simp] def wNotV (w : Wx) : Wx := fun xc ρ Q => w xc ρ fun d => ∃ t, d = .bl t ∧ Q (.bl (!t))
theorem ej_not1 (ha : EJ k E X a w) : EJ .e E X (.UnaryOp .Not a pos) (wNotV w) := by
  refine ⟨(pe_not ha.pe).imp fun σ H Q ⟨G0, H0, G, ρ, xc, R, T, q⟩ => ⟨G0, H0, G, ρ, xc, R, T, ha.mo _ _ _ _ (fun d ⟨t, ed, q1⟩ G1 H1 v x1 r1 => ?_) q⟩, fun xc ρ Q Q' i q => ha.mo _ _ _ _ (fun d ⟨t, ed, q⟩ => ⟨t, ed, i _ q⟩) q⟩
  subst ed
  exact ⟨t, rvO_bl r1.o, q1 G1 H1 _ x1 (.bl _)⟩
/-! for over a text -/
def signsD (z : Str) : List D := z.cps.toList.map fun c => .str ⟨#[c]⟩
theorem wk_str {G : Hp} (z : Str) : Wk K (Its z) G (signsD z) where
  stop := fun G' H' _ _ => by show z.cps.size ≤ (signsD z).length; simp [signsD]
  go := fun i G' H' hi _ _ => by show i < z.cps.size; simpa [signsD] using hi
  yld := fun i G' H' x H2 hi g1 g2 ⟨ee, cc, hc, ev⟩ => by
    subst ee ev
    exact ⟨G', .str ⟨#[cc]⟩, .refl g2, by simp [signsD, hc], .str _⟩
def wiStr (w : Wx) : Wa := fun xc ρ Q => w xc ρ fun d => ∃ z, d = .str z ∧ Q (signsD z)
theorem ij_str {tg : Expr} (ha : EJ k E X a w) : IJ E X tg a (wiStr w) := by
  refine ⟨(pi_str ha.pe).imp fun σ H R' ⟨G0, H0, G, ρ, xc, R, T, q⟩ => ⟨G0, H0, G, ρ, xc, R, T, ha.mo _ _ _ _ (fun d ⟨z, ed, q1⟩ G1 H1 v x1 r1 => ?_) q⟩, fun xc ρ Q Q' i q => ha.mo _ _ _ _ (fun d ⟨z, ed, q⟩ => ⟨z, ed, i _ q⟩) q⟩
  subst ed
  exact ⟨z, rvO_str r1.o, q1 G1 H1 _ x1 (wk_str z)⟩
theorem gsj_name {tgs : List Nat} {gs : Wgs} (h1 : GJ X e [i] (gSet i)) (h2 : GsJ X es tgs gs) (hs : (assignEach (e :: es) X.env).map (·.2) = assign e X.env :: (assignEach es X.env).map (·.2) := by rfl) : GsJ X (e :: es) (i :: tgs) (gsCons (gSet i) gs) := gsj_cons h1 h2 hs
/-- y = [..] -/
theorem sj_compS {tg iter elt : Expr} {ifs : List Expr} {scope : Scope} {own : List (Str × Nat)} {wi : Wa} {tgs : List Nat} {g : Wg} {tt : Wt} {we : Wx} {y : Str} {py spos : Pos} (hc : X.calm = true) (hN : X.N.Nodup) (hy : X.N[i]? = some y) (hyl : X.env.scope.names.lookup y = some .local)
    (hsw : swapsWith (.ListComp elt [⟨tg, iter, ifs, 0⟩] scope pos) (some (.Name y py)) spos.line X.env = pure true) (ok : BlkOk X.N X.env.scope scope own)
    (hi : IJ E X tg iter wi) (hsub : ∀ t ∈ tgs, t ∈ own.map (·.2))
    (hg : ∀ (s : Shared) (H : Hp) (C : Addr) (cl : List (Str × Addr)) (fp : List Addr), GJ (X.blk s H scope (compEnvC scope cl C X.env) fp) tg tgs g)
    (ht : ∀ (s : Shared) (H : Hp) (C : Addr) (cl : List (Str × Addr)) (fp : List Addr), TsJ E0 (X.blk s H scope (compEnvC scope cl C X.env) fp) ifs tt)
    (he : ∀ (s : Shared) (H : Hp) (C : Addr) (cl : List (Str × Addr)) (fp : List Addr), EJ .e E0 (X.blk s H scope (compEnvC scope cl C X.env) fp) elt we)
    (hs : ∀ x, foldedSetIterable iter X.env x = pure x := by intro _; rfl) :
    SJ E X (.Assign [.Name y py] (.ListComp elt [⟨tg, iter, ifs, 0⟩] scope pos) spos) (sSet i (wLc wi g tt we (own.map (·.2)))) := sj_comp (comp_set hc hN hy hyl hsw ok hi hsub hg ht he hs)
/-! zip of two lists or tuples of one length -/
theorem wk_zip {a b : Addr} {vs ws : List V} {G : Hp} {ds es : List D} (h : SqL K G a vs) (h' : SqL K G b ws) (r : Rps K G ds vs) (r' : Rps K G es ws) : Wk K (Itz K a b) G ((ds.zip es).map fun q => .tup [q.1, q.2]) where
  stop := fun G' H' g1 g2 => ⟨vs, ws, (g1.trans g2).seq h, (g1.trans g2).seq h', by
    have := r.length; have := r'.length
    simp only [List.length_map, List.length_zip]; omega⟩
  go := fun i G' H' hi g1 g2 => by
    have l1 := r.length; have l2 := r'.length
    simp only [List.length_map, List.length_zip] at hi
    have h1 : i < vs.length := by omega
    have h2 : i < ws.length := by omega
    exact ⟨vs, ws, vs[i], ws[i], (g1.trans g2).seq h, (g1.trans g2).seq h', by simp [h1], by simp [h2]⟩
  yld := fun i G' H' x H2 hi g1 g2 ⟨t, y, z, ex, ht, eH, hy, hz⟩ => by
    subst ex eH
    obtain ⟨d, hd, rd⟩ := r.get' (hy vs ((g1.trans g2).seq h))
    obtain ⟨d', hd', rd'⟩ := r'.get' (hz ws ((g1.trans g2).seq h'))
    have x2 := Ext.new (o := .tup [y, z]) g2 ht
    refine ⟨_, .tup [d, d'], x2, ?_, .tup (SqT.of upd_same) (.cons (rd.mono (g1.trans x2.gg)) (.cons (rd'.mono (g1.trans x2.gg)) .nil))⟩
    have e2 : (ds.zip es)[i]? = some (d, d') := List.getElem?_zip_eq_some.mpr ⟨hd, hd'⟩
    rw [List.getElem?_map, e2]
    rfl
/-! is True, is False -/
def D.isB : D → Bool → Bool
  | .bl t, t' => t == t'
  | _, _ => false
def oIsB : Op2
  | x, .bl t, Q => Q (.bl (x.isB t))
  | _, _, _ => False
def V.isB : V → Bool → Bool
  | .bl t, t' => t == t'
  | _, _ => false
def rIsT : R2 := fun x y H Q => ∃ t, y = .bl t ∧ Q (.bl (V.isB x t)) H
theorem op_isT : OpR X (compareOp .Is) rIsT := by
  intro pins s σ H x y v u Q I rx ry h
  obtain ⟨t, rfl, q⟩ := h
  cases ry
  cases x with
  | non => cases rx; exact PySem.wpAny_is_plain rfl (fin_bl I q rfl)
  | bl t' => cases rx; exact PySem.wpAny_is_plain rfl (fin_bl I q (by cases t <;> cases t' <;> rfl))
  | int i => obtain ⟨t', rfl⟩ := rx; exact PySem.wpAny_is_plain rfl (fin_bl I q rfl)
  | str i => obtain ⟨t', rfl⟩ := rx; exact PySem.wpAny_is_plain rfl (fin_bl I q rfl)
  | byt i => obtain ⟨t', rfl⟩ := rx; exact PySem.wpAny_is_plain rfl (fin_bl I q rfl)
  | flt i => obtain ⟨t', rfl⟩ := rx; exact PySem.wpAny_is_plain rfl (fin_bl I q rfl)
  | ref i => cases rx; exact PySem.wpAny_is_plain rfl (fin_bl I q rfl)
  | ty i => cases rx; exact PySem.wpAny_is_plain rfl (fin_bl I q rfl)
theorem rvO_isB {G H : Hp} {d : D} {v : V} (h : RvO K G H d v) (t : Bool) : V.isB v t = d.isB t := by
  rcases h with h | ⟨p, o, rfl, e, tt⟩
  · cases h <;> rfl
  · cases d <;> cases o <;> first | exact tt.elim | rfl
theorem brg_isB : Brg2 K .e oIsB rIsT := by
  refine ⟨fun x y G H vx vy Q Q2 g rx ry q kk => ?_, fun x y Q Q' i q => ?_⟩
  · cases y <;> first | exact q.elim | skip
    exact ⟨_, rvO_bl ry, by rw [rvO_isB rx]; exact kk _ q G H _ (.refl g) (.bl _)⟩
  · cases y <;> first | exact q.elim | skip
    exact i _ q
theorem tj_isB (ha : EJ ka E X a wa) (hb : EJ kb E X b wb) : TJ E X (.Compare a [.Is] [b] pos) (wB (w2 oIsB wa wb)) := tj_2 ha hb (pt_cmpR op_isT ha.pe hb.pe (nomark _)) brg_isB
theorem ej_isB (ha : EJ ka E X a wa) (hb : EJ kb E X b wb) : EJ .e E X (.Compare a [.Is] [b] pos) (w2 oIsB wa wb) := ej_2 ha hb (pe_cmpR op_isT ha.pe hb.pe (nomark _)) brg_isB
/-! keywords -/
theorem kj_nil : KJ E X [] waNil := ⟨pk_nil.imp fun σ H Q ⟨G0, H0, G, ρ, xc, R, T, q⟩ => q G H [] (.refl R.gh) (by rw [if_pos rfl]; exact .nil), fun _ _ _ _ i q => i _ q⟩
theorem kj_cons {n : Str} {kp : Pos} {kws : List Keyword} (ha : EJ .e E X a w) (hk : KJ E X kws u) : KJ E X (⟨some n, a, kp⟩ :: kws) (waCons w u) := by
  refine ⟨PK.imp (pk_cons ha.pe hk.pk) fun σ H Q ⟨G0, H0, G, ρ, xc, R, T, q⟩ => ⟨G0, H0, G, ρ, xc, R, T, ha.mo _ _ _ _ (fun x q1 G1 H1 v1 x1 r1 => ?_) q⟩, fun xc ρ Q Q' i q => ha.mo _ _ _ _ (fun x q => hk.mo _ _ _ _ (fun ds q => i _ q) q) q⟩
  refine ⟨G0, H0, G1, ρ, xc, R.ext x1, T, hk.mo _ _ _ _ (fun y q2 G2 H2 v2 x2 r2 => ?_) q1⟩
  rw [if_pos rfl] at r2
  exact q2 G2 H2 (v1 :: v2) (x1.trans x2) (by rw [if_pos rfl]; exact .cons (Rp.mono x2.gg r1) r2)
end
end Tw

/-! Tw, part N: what the words mean on known data; loops by an invariant. -/
namespace Tw
open PySem PySem.Spec L2 PyProof.Rows
section
variable {i j : Int} {Q : D → Prop} {x y : Str} {xs ys : List D} {t : Bool}
@[simp] theorem oLt_i : oLt (.int i) (.int j) Q = Q (.bl (decide (i < j))) := rfl
@[simp] theorem oLe_i : oLe (.int i) (.int j) Q = Q (.bl (decide (i ≤ j))) := rfl
@[simp] theorem oGt_i : oGt (.int i) (.int j) Q = Q (.bl (decide (j < i))) := rfl
@[simp] theorem oGe_i : oGe (.int i) (.int j) Q = Q (.bl (decide (j ≤ i))) := rfl
@[simp] theorem oSub_i : oSub (.int i) (.int j) Q = Q (.int (i - j)) := rfl
@[simp] theorem oPlus_i : oPlus (.int i) (.int j) Q = Q (.int (i + j)) := rfl
@[simp] theorem oPlus_s : oPlus (.str x) (.str y) Q = (x.length + y.length ≤ sizeLine ∧ Q (.str (x ++ y))) := rfl
@[simp] theorem oPlus_t : oPlus (.tup xs) (.tup ys) Q = (xs.length + ys.length ≤ sizeLine ∧ Q (.tup (xs ++ ys))) := rfl
@[simp] theorem oPlus_l : oPlus (.lst xs) (.lst ys) Q = (xs.length + ys.length ≤ sizeLine ∧ Q (.lst (xs ++ ys))) := rfl
@[simp] theorem oCat_l : oCat (.lst xs) (.lst ys) Q = (xs.length + ys.length ≤ sizeLine ∧ Q (.lst (xs ++ ys))) := rfl
@[simp] theorem oMul_i : oMul (.int i) (.int j) Q = (CMul i j ∧ Q (.int (i * j))) := rfl
@[simp] theorem oMul_s : oMul (.str x) (.int j) Q = (MulOk x j ∧ Q (.str (Txt.mul x j))) := rfl
@[simp] theorem oDiv_i : oDiv (.int i) (.int j) Q = (CDiv i j ∧ Q (.int (i / j))) := rfl
@[simp] theorem oMod_i : oMod (.int i) (.int j) Q = (0 < j ∧ Q (.int (i % j))) := rfl
@[simp] theorem oPow_i : oPow (.int i) (.int j) Q = (CPow i j ∧ Q (.int (i ^ j.toNat))) := rfl
@[simp] theorem oIx_l : oIx (.lst xs) (.int i) Q = ∃ d, atI xs i = some d ∧ Q d := rfl
@[simp] theorem oIx_f : oIx (.fls xs) (.int i) Q = ∃ d, atI xs i = some d ∧ Q d := rfl
@[simp] theorem oIx_t : oIx (.tup xs) (.int i) Q = ∃ d, atI xs i = some d ∧ Q d := rfl
@[simp] theorem oIx_s : oIx (.str x) (.int i) Q = (x.length ≤ sizeLine ∧ ∃ c, atI x.cps.toList i = some c ∧ Q (.str ⟨#[c]⟩)) := rfl
@[simp] theorem oSl_l {lo hi : Option Int} : oSl (.lst xs) lo hi Q = Q (.lst (cutD xs lo hi)) := rfl
@[simp] theorem oSl_f {lo hi : Option Int} : oSl (.fls xs) lo hi Q = Q (.lst (cutD xs lo hi)) := rfl
@[simp] theorem oSl_t {lo hi : Option Int} : oSl (.tup xs) lo hi Q = Q (.tup (cutD xs lo hi)) := rfl
@[simp] theorem oLen_l : oLen [.lst xs] Q = Q (.int xs.length) := rfl
@[simp] theorem oLen_f : oLen [.fls xs] Q = Q (.int xs.length) := rfl
@[simp] theorem oLen_t : oLen [.tup xs] Q = Q (.int xs.length) := rfl
@[simp] theorem oLen_s : oLen [.str x] Q = (x.length ≤ sizeLine ∧ Q (.int x.length)) := rfl
@[simp] theorem oInt_i : oInt [.int i] Q = Q (.int i) := rfl
@[simp] theorem oInt_b : oInt [.bl t] Q = Q (.int (if t = true then 1 else 0)) := rfl
@[simp] theorem oAbs_i : oAbs [.int i] Q = Q (.int (if i < 0 then -i else i)) := rfl
@[simp] theorem oList_l : oList [.lst xs] Q = Q (.lst xs) := rfl
@[simp] theorem oList_t : oList [.tup xs] Q = Q (.lst xs) := rfl
@[simp] theorem oTuple_l : oTuple [.lst xs] Q = Q (.tup xs) := rfl
@[simp] theorem oTuple_t : oTuple [.tup xs] Q = Q (.tup xs) := rfl
@[simp] theorem tru_b : D.tru (.bl t) = some t := rfl
@[simp] theorem tru_l : D.tru (.lst xs) = some (!xs.isEmpty) := rfl
@[simp] theorem tru_t : D.tru (.tup xs) = some (!xs.isEmpty) := rfl
@[simp] theorem tru_i : D.tru (.int i) = some (i != 0) := rfl
@[simp] theorem seq_l : D.seq (.lst xs) = some xs := rfl
@[simp] theorem seq_f : D.seq (.fls xs) = some xs := rfl
@[simp] theorem seq_t : D.seq (.tup xs) = some xs := rfl
end
theorem oAll_b {bs : List Bool} {ds : List D} {Q : D → Prop} (e : ds = bs.map .bl) (q : Q (.bl (bs.all id))) : oAll [.lst ds] Q := ⟨bs, by rw [e], q⟩
/-- a for by an invariant: the turn's end is a letter, N -/
theorem for_inv {g : Wg} {b : Ws} {Z : Pd} (items : List D) (Pv : Nat → Evn → Prop)
    (hs : ∀ (i : Nat) (x : D) (ρ : Evn) (N : Evn → Prop), items[i]? = some x → Pv i ρ → (∀ ρ', Pv (i + 1) ρ' → N ρ') → g x ρ fun ρ' => b { Z with nx := N, ct := N, bk := Z.nx } ρ') (hd : ∀ ρ, Pv items.length ρ → Z.nx ρ) {ρ : Evn} (h0 : Pv 0 ρ) : forW g b Z items ρ := by
  have go : ∀ (l : List D) (i : Nat) (ρ : Evn), items.drop i = l → i ≤ items.length → Pv i ρ → forW g b Z l ρ := by
    intro l
    induction l with
    | nil =>
      intro i ρ e hi p
      have : items.length ≤ i := List.drop_eq_nil_iff.mp e
      have e2 : i = items.length := by omega
      subst e2
      exact hd ρ p
    | cons x l ih =>
      intro i ρ e hi p
      have hx : items[i]? = some x := by
        have := congrArg (fun l => l[0]?) e
        simpa using this
      have hlt : i < items.length := (List.getElem?_eq_some_iff.mp hx).1
      refine hs i x ρ _ hx p fun ρ' p' => ih (i + 1) ρ' ?_ hlt p'
      rw [← List.drop_drop, e]; rfl
  exact go items 0 ρ rfl (Nat.zero_le _) h0
/-- .. over a range -/
theorem for_rng {g : Wg} {b : Ws} {Z : Pd} {lo : Int} {n : Nat} (Pv : Nat → Evn → Prop)
    (hs : ∀ (i : Nat) (ρ : Evn) (N : Evn → Prop), i < n → Pv i ρ → (∀ ρ', Pv (i + 1) ρ' → N ρ') → g (.int (lo + (i : Nat))) ρ fun ρ' => b { Z with nx := N, ct := N, bk := Z.nx } ρ') (hd : ∀ ρ, Pv n ρ → Z.nx ρ) {ρ : Evn} (h0 : Pv 0 ρ) : forW g b Z (rngD lo n) ρ := by
  have hl : (rngD lo n).length = n := by simp [rngD]
  refine for_inv _ Pv (fun i x ρ N hx p hn => ?_) (by rw [hl]; exact hd) h0
  have hi : i < n := by rw [← hl]; exact (List.getElem?_eq_some_iff.mp hx).1
  have e : (rngD lo n)[i]? = some (.int (lo + (i : Nat))) := by simp [rngD, hi]
  rw [e] at hx
  cases hx
  exact hs i ρ N hi p hn
end Tw

/-! Tw, part O: calls with objects of one's own lent, extend, index, zip of any two, a tuple turned round. -/
namespace Tw
open PySem PySem.Spec L2 PyProof.Rows
section
variable {X : Cx} {K : PySem.W.Frag} {E : XK} {e a b c o : Expr} {es : List Expr} {w wa wb wc : Wx} {k ka kb : Kd} {pos p : Pos} {u : Wa} {st : Stmt} {rest body : List Stmt} {s s1 s2 : Ws}
/-! ### xs.extend(ys), xs.pop(n) -/
def sExt (i : Nat) (w : Wx) : Ws := fun Z ρ => ∃ ds, ρ[i]? = some (.ow (.lst ds)) ∧ w Z.xc ρ fun d => ∃ es, d = .lst es ∧ ds.length + es.length ≤ sizeLine ∧ Z.nx (ρ.set i (.ow (.lst (ds ++ es))))
theorem sj_ext {i : Nat} (he : EJ k E X e w) (h : PS X st (tDrop (tBM X.K "list" rExtend (tVar i) (tCons (liftW X.K E k w) tNil)))) : SJ E X st (sExt i w) :=
  ⟨h.imp fun D' σ H ⟨G0, H0, G, ρ, Z, R, T, ds, hi, q⟩ => by
    obtain ⟨l, vs, e1, e2, r⟩ := own_lst R hi
    refine ⟨_, e1, .inl ⟨rfl, vs, SqL.of e2⟩, G0, H0, G, ρ, Z.xc, R, T.xc, he.mo _ _ _ _ (fun d ⟨es, ed, z, q1⟩ G1 H1 v x1 r1 => ?_) q⟩
    subst ed
    obtain ⟨b, ws, rfl, hb, r2⟩ := rvO_lst x1.gh r1.o
    refine ⟨l, b, vs, ws, rfl, rfl, x1.hh _ _ e2, hb, by rw [← r.length, ← r2.length]; exact z, ?_⟩
    exact T.nx _ _ _ _ ((R.ext x1).chg hi e1 (show Top X.K G1 (.lst (ds ++ es)) (.lst (vs ++ ws)) from (r.mono x1.gg).append r2)) x1.gg q1⟩
theorem sj_extend {apos cpos : Pos} {i : Nat} {n : Expr} (hv : PE X n (tVar i)) (he : EJ k E X e w)
    (h1 : attributeBase n "extend" X.env (eval n X.env) = eval n X.env := by rfl) (h2 : ((backTo cpos (starEach [e] X.env)).all (fun x => !x.1) && (backToKw cpos (keywordEach [] X.env)).all (fun x => x.1.isSome) && decide ([e].length + ([] : List Keyword).length + (if ([] : List Keyword).isEmpty = true then 0 else 1) < 30)) = true := by rfl)
    (h3 : (apos.endLine == cpos.line) = true := by rfl) (hst : starEach [e] X.env = (false, eval e X.env) :: starEach [] X.env := by rfl) (hs : swapsWith (.Call (.Attribute n "extend" apos) [e] [] cpos) none pos.line X.env = pure false := by rfl) :
    SJ E X (.Expr (.Call (.Attribute n "extend" apos) [e] [] cpos) pos) (sExt i w) :=
  sj_ext he (ps_expr (pe_bm PySem.F.plainAttrs_list PySem.F.slot_list_extend PySem.F.type_list_extend mt_extend hv (pa_cons he.pe pa_nil hst) h1 h2 h3 hst rfl) hs)
/-! ### xs.index(y) of a list -/
def idxD (x : D) : List D → Option Nat
  | [] => none
  | y :: ys => if PyData.eqv y.py x.py = true then some 0 else (idxD x ys).map (· + 1)
def wIdx (wo w : Wx) : Wx := fun xc ρ Q => wo xc ρ fun d => ∃ ys, (d = .lst ys ∨ d = .fls ys) ∧ w xc ρ fun x => ∃ j, (D.lst ys).ok ∧ x.ok ∧ idxD x ys = some j ∧ Q (.int j)
theorem idxD_ok {x : D} : ∀ {ys : List D} {j : Nat}, idxD x ys = some j → ∃ z, (D.pys ys)[j]? = some z ∧ PyData.eqv z x.py = true ∧ ∀ (m : Nat) (z' : PyData), m < j → (D.pys ys)[m]? = some z' → PyData.eqv z' x.py = false
  | [], j, h => by cases h
  | y :: ys, j, h => by
    unfold idxD at h
    rw [D.pys]
    by_cases e : PyData.eqv y.py x.py = true
    · rw [if_pos e] at h
      cases h
      exact ⟨_, rfl, e, fun m z' hm _ => by omega⟩
    · rw [if_neg e] at h
      cases q : idxD x ys with
      | none => rw [q] at h; cases h
      | some i =>
        rw [q] at h
        cases h
        obtain ⟨z, h1, h2, h3⟩ := idxD_ok q
        refine ⟨z, h1, h2, fun m z' hm hz => ?_⟩
        cases m with
        | zero =>
          have hz' : some y.py = some z' := hz
          rw [← Option.some.inj hz']
          exact Bool.eq_false_iff.mpr e
        | succ m => exact h3 m z' (Nat.lt_of_succ_lt_succ hm) hz
theorem ej_idx {apos cpos : Pos} (hu : X.A.units + 65 < cLine) (ho : EJ .e E X o wa) (he : EJ k E X e w)
    (h1 : attributeBase o "index" X.env (eval o X.env) = eval o X.env := by rfl) (h2 : ((backTo cpos (starEach [e] X.env)).all (fun x => !x.1) && (backToKw cpos (keywordEach [] X.env)).all (fun x => x.1.isSome) && decide ([e].length + ([] : List Keyword).length + (if ([] : List Keyword).isEmpty = true then 0 else 1) < 30)) = true := by rfl)
    (h3 : (apos.endLine == cpos.line) = true := by rfl) (hst : starEach [e] X.env = (false, eval e X.env) :: starEach [] X.env := by rfl) :
    EJ .e E X (.Call (.Attribute o "index" apos) [e] [] cpos) (wIdx wa w) := by
  refine ⟨(pe_bm PySem.F.plainAttrs_list PySem.F.slot_list_index PySem.F.type_list_index (mt_indexD hu) ho.pe (pa_cons he.pe pa_nil hst) h1 h2 h3 hst rfl).imp fun σ H Q ⟨G0, H0, G, ρ, xc, R, T, q⟩ => ⟨G0, H0, G, ρ, xc, R, T, ho.mo _ _ _ _ (fun d ⟨ys, ed, q1⟩ G1 H1 v x1 r1 => ?_) q⟩,
    fun xc ρ Q Q' i q => ho.mo _ _ _ _ (fun d ⟨ys, ed, q⟩ => ⟨ys, ed, he.mo _ _ _ _ (fun x ⟨j, a, b, c, q⟩ => ⟨j, a, b, c, i _ q⟩) q⟩) q⟩
  have hq : ∃ p vs, v = .ref p ∧ SqL X.K G1 p vs ∧ Rps X.K G1 ys vs := by
    rcases ed with rfl | rfl
    · cases r1 with | lst h r => exact ⟨_, _, rfl, SqL.of h, r⟩
    · cases r1 with | fls h r => exact ⟨_, _, rfl, h, r⟩
  obtain ⟨p, vs, rfl, hs, rs⟩ := hq
  refine ⟨.inl ⟨rfl, vs, x1.gh.seq hs⟩, G0, H0, G1, ρ, xc, R.ext x1, T, he.mo _ _ _ _ (fun x ⟨j, oy, ox, hj, q2⟩ G2 H2 v2 x2 r2 => ?_) q1⟩
  obtain ⟨z, z1, z2, z3⟩ := idxD_ok hj
  have hd : Dp X.K H2 (.ref p) (.list (D.pys ys)) := by
    have h : Rp X.K G1 (.fls ys) (.ref p) := Rp.fls hs rs
    have h2 := (RvO.dp (G := G2) x2.gh (.inl (Rp.mono x2.gg h)) oy.1 : Dp X.K H2 (.ref p) (D.fls ys).py)
    rw [D.py] at h2
    exact h2
  refine ⟨p, v2, x.py, D.pys ys, j, z, rfl, rfl, hd, RvO.dp x2.gh r2.o ox.1, ?_, ox.2, z1, z2, z3, q2 G2 H2 _ (x1.trans x2) (.int _)⟩
  have := oy.2
  rw [D.py] at this
  exact this
end
end Tw

/-! Tw, part P: a tuple turned round; tuple(xs) that knows its class; index in it; zip of any two. -/
namespace Tw
open PySem PySem.Spec L2 PyProof.Rows
section
open PySem.Builtin
variable {prog : Program} {w : World} {A : Around} {E : Value → Shared → Prop} {s : Shared}
end
section
variable {X : Cx} {K : PySem.W.Frag} {E : XK} {e a b c o : Expr} {es : List Expr} {w wa wb wc : Wx} {k ka kb : Kd} {pos p : Pos} {u : Wa} {st : Stmt} {rest body : List Stmt} {s s1 s2 : Ws}
/-! ### tuple(xs), its class known -/
theorem call_tupleX : CallR X (.type "tuple") (fun xs H Q => ∃ p ys, xs = [.ref p] ∧ SqL X.K H p ys ∧ ∀ l (o : Obj), H l = none → o.cls = .type "tuple" → o.dict = none → Q (.ref l) (upd H l (.frz o (.tup ys)))) := by
  intro pins s σ H xs us Q I r h
  obtain ⟨p, ys, rfl, hq, q⟩ := h
  obtain ⟨u, rfl, rx⟩ := vals1 r
  cases rx
  obtain ⟨its, r', pl, hz⟩ := I.list hq
  have hlen := r'.length
  refine call_tuple_list pl.isList (fun h' kp => ?_) (by simp only [List.size_toArray] <;> omega)
  have I1 : Inv X pins σ H { s with heap := h' } := I.kept (t' := s.toks) kp
  have I2 : Inv X pins σ (upd H h'.objs.size (.frz { cls := .type "tuple", data := .seq its.toArray } (.tup ys))) { s with heap := h'.push { cls := .type "tuple", data := .seq its.toArray } } :=
    I1.laid (t' := s.toks) (fun b o e => Heap.get?_push_of_some _ e) (Nat.le_refl _) (show ObjOk X.prog X.w _ _ _ (.frz _ (.tup ys)) from ⟨Heap.get?_push_size _ rfl, hz, its, r', IsTup.new _ _⟩)
  exact ⟨.ref h'.objs.size, _, I2, rfl, q _ _ (I1.hok.fresh (Nat.le_refl _)) rfl rfl⟩
def wTupX (w : Wx) : Wx := fun xc ρ Q => w xc ρ fun d => ∃ xs, (d = .lst xs ∨ d = .fls xs) ∧ Q (.xtp xs)
theorem ej_tupleX (hg : Gl X "tuple") (hm : X.mg "tuple" = none) (ha : EJ k E X a w) (hst : starEach [a] X.env = (false, eval a X.env) :: starEach [] X.env := by rfl) : EJ .e E X (.Call (.Name "tuple" p) [a] [] pos) (wTupX w) := by
  have h := pe_callTy (p := p) (pos := pos) (call_tupleX (X := X)) hg hm (by decide +kernel) (pa_cons ha.pe pa_nil hst) (by decide) (by decide) hst rfl
  refine ⟨h.imp fun σ H Q ⟨G0, H0, G, ρ, xc, R, T, q⟩ => ⟨G0, H0, G, ρ, xc, R, T, ha.mo _ _ _ _ (fun d ⟨xs, ed, q1⟩ G1 H1 v x1 r1 => ?_) q⟩, fun xc ρ Q Q' i q => ha.mo _ _ _ _ (fun d ⟨xs, ed, q⟩ => ⟨xs, ed, i _ q⟩) q⟩
  have hq : ∃ p vs, v = .ref p ∧ SqL X.K H1 p vs ∧ Rps X.K G1 xs vs := by
    rcases ed with rfl | rfl
    · obtain ⟨p, vs, e, h, r⟩ := rvO_lst x1.gh r1.o
      exact ⟨p, vs, e, SqL.of h, r⟩
    · exact rvO_fls x1.gh r1.o
  obtain ⟨p, vs, rfl, h, r⟩ := hq
  refine ⟨p, vs, rfl, h, fun l o hl hc hn => ?_⟩
  have x2 := Ext.new (o := .frz o (.tup vs)) x1.gh hl
  exact q1 _ _ _ (x1.trans x2) (Rp.xtp upd_same hc hn (r.mono x2.gg))
/-- its class forgotten -/
def D.wk : D → D
  | .xtp xs => .tup xs
  | d => d
@[simp] theorem wk_x {xs : List D} : D.wk (.xtp xs) = .tup xs := rfl
@[simp] theorem wk_t {xs : List D} : D.wk (.tup xs) = .tup xs := rfl
@[simp] theorem wk_l {xs : List D} : D.wk (.lst xs) = .lst xs := rfl
@[simp] theorem wk_f {xs : List D} : D.wk (.fls xs) = .fls xs := rfl
@[simp] theorem wk_i {i : Int} : D.wk (.int i) = .int i := rfl
@[simp] theorem wk_s {z : Str} : D.wk (.str z) = .str z := rfl
@[simp] def wWk (w : Wx) : Wx := fun xc ρ Q => w xc ρ fun d => Q d.wk
theorem rp_wk {G : Hp} {d : D} {v : V} (h : Rp K G d v) : Rp K G d.wk v := by
  cases h with
  | xtp h _ _ r => exact .tup (.inl (.inr ⟨_, h⟩)) r
  | non => exact .non
  | bl b => exact .bl b
  | int b => exact .int b
  | str b => exact .str b
  | tup h r => exact .tup h r
  | lst h r => exact .lst h r
  | fls h r => exact .fls h r
  | obj h r => exact .obj h r
  | dK h r => exact .dK h r
  | dT h r => exact .dT h r
theorem ej_wk (h : EJ .e E X e w) : EJ .e E X e (wWk w) :=
  ⟨h.pe.imp fun σ H Q ⟨G0, H0, G, ρ, xc, R, T, q⟩ => ⟨G0, H0, G, ρ, xc, R, T, h.mo _ _ _ _ (fun d q1 G1 H1 v x1 r1 => q1 G1 H1 v x1 (rp_wk r1)) q⟩, fun xc ρ Q Q' i q => h.mo _ _ _ _ (fun d q => i _ q) q⟩
/-- t.index(x), t made by tuple(xs), of texts -/
def wIdxT (wo w : Wx) : Wx := fun xc ρ Q => wo xc ρ fun d => ∃ ys : List Str, d = .xtp (ys.map .str) ∧ w xc ρ fun x => ∃ (z : Str) (j : Nat), x = .str z ∧ ys[j]? = some z ∧ (∀ m, m < j → ys[m]? ≠ some z) ∧ Q (.int j)
theorem rps_strs {G : Hp} : ∀ {ys : List Str} {vs : List V}, Rps K G (ys.map .str) vs → vs = ys.map .str
  | [], _, .nil => rfl
  | y :: ys, _, .cons h r => by cases h; rw [rps_strs r]; rfl
theorem pe_bmX {o e : Expr} {es : List Expr} {to : TE} {t : TA} {name : Str} {apos cpos : Pos} {id : String} {r : V → List V → Hp → VK → Prop} (pa : PlainAttrs "tuple") (slot : Slot "tuple" name id) (hty : typeOf (.builtin id) = pure (.type "method_descriptor")) (hm : MtR X id r) (ho : PE X o to) (ha : PA X (e :: es) t)
    (hbase : attributeBase o name X.env (eval o X.env) = eval o X.env := by rfl)
    (hfew : ((backTo cpos (starEach (e :: es) X.env)).all (fun x => !x.1) && (backToKw cpos (keywordEach [] X.env)).all (fun x => x.1.isSome)
      && decide ((e :: es).length + ([] : List Keyword).length + (if ([] : List Keyword).isEmpty then 0 else 1) < 30)) = true := by rfl)
    (hline : (apos.endLine == cpos.line) = true := by rfl) (hs : starEach (e :: es) X.env = (false, eval e X.env) :: starEach es X.env := by rfl) (hplain : (backTo cpos (starEach es X.env)).any (·.1) = false := by rfl) :
    PE X (.Call (.Attribute o name apos) (e :: es) [] cpos) (fun σ H Q => to σ H fun x H1 => (∃ p ob u, x = .ref p ∧ H1 p = some (.frz ob u) ∧ ob.cls = .type "tuple" ∧ ob.dict = none) ∧ t σ H1 fun xs H2 => r x xs H2 Q) := by
  refine ⟨fun pins s σ H Q I h => ?_⟩
  refine wpAny_Call_method_late hbase hfew hline rfl (thn (ho.run pins s σ H _ I h) fun v s1 ⟨x, H1, I1, r1, ty, q1⟩ => ?_)
  obtain ⟨p, ob, u, rfl, hp, hc, hn⟩ := ty
  cases r1
  have hob := (I1.hok p _ hp).1
  refine ⟨"tuple", id, pa, slot, hty, ⟨ob, hob, hc⟩, fun a e => by cases e; exact ⟨ob, hob, hn⟩, ?_⟩
  have hA := ha.run cpos pins s1 σ H1 _ I1 q1
  rw [hs] at hA ⊢
  refine Calls.callWith_builtin (by show (false || (backTo cpos (starEach es X.env)).any (·.1)) = false; rw [hplain] <;> rfl) (Calls.evalArgs_plain ?_)
  exact thn hA fun us s2 ⟨vs, H2, I2, r2, q2⟩ => hm pins s2 σ H2 (.ref p) vs (.ref p) us Q I2 (show RelV (.ref p) (.ref p) from rfl) r2 q2
theorem ej_idxT {apos cpos : Pos} (ho : EJ .e E X o wa) (he : EJ k E X e w)
    (h1 : attributeBase o "index" X.env (eval o X.env) = eval o X.env := by rfl) (h2 : ((backTo cpos (starEach [e] X.env)).all (fun x => !x.1) && (backToKw cpos (keywordEach [] X.env)).all (fun x => x.1.isSome) && decide ([e].length + ([] : List Keyword).length + (if ([] : List Keyword).isEmpty = true then 0 else 1) < 30)) = true := by rfl)
    (h3 : (apos.endLine == cpos.line) = true := by rfl) (hst : starEach [e] X.env = (false, eval e X.env) :: starEach [] X.env := by rfl) :
    EJ .e E X (.Call (.Attribute o "index" apos) [e] [] cpos) (wIdxT wa w) := by
  refine ⟨(pe_bmX PySem.F.plainAttrs_tuple PySem.F.slot_tuple_index PySem.F.type_tuple_index mt_tup_index ho.pe (pa_cons he.pe pa_nil hst) h1 h2 h3 hst rfl).imp fun σ H Q ⟨G0, H0, G, ρ, xc, R, T, q⟩ => ⟨G0, H0, G, ρ, xc, R, T, ho.mo _ _ _ _ (fun d ⟨ys, ed, q1⟩ G1 H1 v x1 r1 => ?_) q⟩,
    fun xc ρ Q Q' i q => ho.mo _ _ _ _ (fun d ⟨ys, ed, q⟩ => ⟨ys, ed, he.mo _ _ _ _ (fun x ⟨z, j, a, b, c, q⟩ => ⟨z, j, a, b, c, i _ q⟩) q⟩) q⟩
  subst ed
  cases r1 with
  | xtp h hc hn r =>
    have ev := rps_strs r
    subst ev
    refine ⟨⟨_, _, _, rfl, x1.gh _ _ h, hc, hn⟩, G0, H0, G1, ρ, xc, R.ext x1, T, he.mo _ _ _ _ (fun x ⟨z, j, ez, h1, h2, q2⟩ G2 H2 v2 x2 r2 => ?_) q1⟩
    subst ez
    rw [rvO_str r2.o]
    exact ⟨_, ys, z, j, rfl, rfl, .inl (.inr ⟨_, x2.gh _ _ (x2.gg _ _ h)⟩), h1, h2, q2 G2 H2 _ (x1.trans x2) (.int _)⟩

/-! ### zip of two lists or two tuples -/
theorem wk_zipT {a b : Addr} {vs ws : List V} {G : Hp} {ds es : List D} (h : SqT K G a vs) (h' : SqT K G b ws) (r : Rps K G ds vs) (r' : Rps K G es ws) : Wk K (RZ.ItzT K a b) G ((ds.zip es).map fun q => .tup [q.1, q.2]) where
  stop := fun G' H' g1 g2 => ⟨vs, ws, sqT_mono (g1.trans g2) h, sqT_mono (g1.trans g2) h', by
    have := r.length; have := r'.length
    simp only [List.length_map, List.length_zip]; omega⟩
  go := fun i G' H' hi g1 g2 => by
    have l1 := r.length; have l2 := r'.length
    simp only [List.length_map, List.length_zip] at hi
    have h1 : i < vs.length := by omega
    have h2 : i < ws.length := by omega
    exact ⟨vs, ws, vs[i], ws[i], sqT_mono (g1.trans g2) h, sqT_mono (g1.trans g2) h', by simp [h1], by simp [h2]⟩
  yld := fun i G' H' x H2 hi g1 g2 ⟨t, y, z, ex, ht, eH, hy, hz⟩ => by
    subst ex eH
    obtain ⟨d, hd, rd⟩ := r.get' (hy vs (sqT_mono (g1.trans g2) h))
    obtain ⟨d', hd', rd'⟩ := r'.get' (hz ws (sqT_mono (g1.trans g2) h'))
    have x2 := Ext.new (o := .tup [y, z]) g2 ht
    refine ⟨_, .tup [d, d'], x2, ?_, .tup (SqT.of upd_same) (.cons (rd.mono (g1.trans x2.gg)) (.cons (rd'.mono (g1.trans x2.gg)) .nil))⟩
    have e2 : (ds.zip es)[i]? = some (d, d') := List.getElem?_zip_eq_some.mpr ⟨hd, hd'⟩
    rw [List.getElem?_map, e2]
    rfl
def D.isT : D → Option (List D)
  | .tup xs => some xs | .xtp xs => some xs
  | _ => none
def D.isL : D → Option (List D)
  | .lst xs => some xs | .fls xs => some xs
  | _ => none
theorem rp_isT {G : Hp} {d : D} {v : V} {xs : List D} (h : Rp K G d v) (e : d.isT = some xs) : ∃ p vs, v = .ref p ∧ SqT K G p vs ∧ Rps K G xs vs := by
  cases d with
  | tup ys => cases e; cases h with | tup h r => exact ⟨_, _, rfl, h, r⟩
  | xtp ys => cases e; cases h with | xtp h _ _ r => exact ⟨_, _, rfl, .inl (.inr ⟨_, h⟩), r⟩
  | _ => cases e
theorem rp_isL {G : Hp} {d : D} {v : V} {xs : List D} (h : Rp K G d v) (e : d.isL = some xs) : ∃ p vs, v = .ref p ∧ SqL K G p vs ∧ Rps K G xs vs := by
  cases d with
  | lst ys => cases e; cases h with | lst h r => exact ⟨_, _, rfl, SqL.of h, r⟩
  | fls ys => cases e; cases h with | fls h r => exact ⟨_, _, rfl, h, r⟩
  | _ => cases e
def wiZ (wa wb : Wx) : Wa := fun xc ρ Q => wa xc ρ fun x => wb xc ρ fun y => ∃ xs ys, ((x.isL = some xs ∧ y.isL = some ys) ∨ (x.isT = some xs ∧ y.isT = some ys)) ∧ Q ((xs.zip ys).map fun q => .tup [q.1, q.2])
theorem ij_zip {elts : List Expr} {kk : Nat} {tpos : Pos} (ha : EJ .e E X a wa) (hb : EJ .e E X b wb) (hg : Gl X "zip") (hm : X.mg "zip" = none) (hst : starEach [a, b] X.env = (false, eval a X.env) :: starEach [b] X.env := by rfl) (hst2 : starEach [b] X.env = (false, eval b X.env) :: starEach [] X.env := by rfl) (hpl : (backTo pos (starEach [b] X.env)).any (·.1) = false := by rfl) :
    IJ E X (.Tuple elts kk tpos) (.Call (.Name "zip" p) [a, b] [] pos) (wiZ wa wb) := by
  refine ⟨(RZ.pi_zipA hg hm (pa_cons ha.pe (pa_cons hb.pe pa_nil hst2) hst) hst hpl).imp fun σ H R' ⟨G0, H0, G, ρ, xc, R, T, q⟩ => ⟨G0, H0, G, ρ, xc, R, T, ha.mo _ _ _ _ (fun x q1 G1 H1 v1 x1 r1 => ?_) q⟩,
    fun xc ρ Q Q' i q => ha.mo _ _ _ _ (fun x q => hb.mo _ _ _ _ (fun y ⟨xs, ys, e, q⟩ => ⟨xs, ys, e, i _ q⟩) q) q⟩
  refine ⟨G0, H0, G1, ρ, xc, R.ext x1, T, hb.mo _ _ _ _ (fun y ⟨xs, ys, e, q2⟩ G2 H2 v2 x2 r2 => ?_) q1⟩
  have r1' : Rp X.K G2 x v1 := Rp.mono x2.gg r1
  rcases e with ⟨e1, e2⟩ | ⟨e1, e2⟩
  · obtain ⟨p1, vs, rfl, h1, m1⟩ := rp_isL r1' e1
    obtain ⟨p2, ws, rfl, h2, m2⟩ := rp_isL (show Rp X.K G2 y v2 from r2) e2
    exact ⟨p1, p2, vs, ws, rfl, .inl ⟨x2.gh.seq h1, x2.gh.seq h2, q2 G2 H2 _ (x1.trans x2) (wk_zip h1 h2 m1 m2)⟩⟩
  · obtain ⟨p1, vs, rfl, h1, m1⟩ := rp_isT r1' e1
    obtain ⟨p2, ws, rfl, h2, m2⟩ := rp_isT (show Rp X.K G2 y v2 from r2) e2
    exact ⟨p1, p2, vs, ws, rfl, .inr ⟨sqT_mono x2.gh h1, sqT_mono x2.gh h2, q2 G2 H2 _ (x1.trans x2) (wk_zipT h1 h2 m1 m2)⟩⟩
end
end Tw

/-! Tw, part Q: sorted of a list of tuples of ints, the empty one among them too. -/
namespace Tw
open PySem PySem.Spec PySem.W PySem.Calls PySem.SeqAt PyProof.Rows
section
variable {prog : Program} {w : World} {A : Around} {E : Value → Shared → Prop} {s : Shared}
def encT (b : List Int) : PyData := .tuple (b.map .int)
theorem encT_alike (bs : List (List Int)) : AllAlike (bs.map encT) := AllAlike.of fun b b' => by
  unfold encT
  rw [alike]
  exact alike_ints b b'
theorem encT_depth (b : List Int) : (encT b).depth = 1 := by
  unfold encT
  rw [PyData.depth, depth_ints]
theorem encT_le : dataLe false encT = fun p q => decide (p ≤ q) := by
  have h := dataLe_rows (fun b : List Int => b)
  rw [← h]
  funext p q
  show (!dataLt (encT q) (encT p)) = (!dataLt (.list (q.map .int)) (.list (p.map .int)))
  unfold encT
  rw [dataLt_list, dataLt_tuple]
end
end Tw

/-! Tw, part R: sorted of tuples as a rule; a return that chooses. -/
namespace Tw
open PySem PySem.Spec L2 PyProof.Rows
section
variable {X : Cx} {K : PySem.W.Frag} {E : XK} {e a b c o : Expr} {es : List Expr} {w wa wb wc : Wx} {k ka kb : Kd} {pos p : Pos} {u : Wa} {st : Stmt} {rest body : List Stmt} {s s1 s2 : Ws}
theorem each_vals {R : V → List Int → Prop} {vs : List V} {bs : List (List Int)} (e : PySem.W.EachIs R vs bs) : ∀ {us : List Value}, Vals vs us → PySem.W.EachIs (fun u b => ∃ v, RelV v u ∧ R v b) us bs := by
  induction e with
  | nil => intro us r; cases r; exact .nil
  | cons h t ih => intro us r; cases r with | cons r1 r2 => exact .cons ⟨_, r1, h⟩ (ih r2)
def tI (b : List Int) : D := .tup (b.map .int)
theorem rps_tI {G : Hp} : ∀ {bs : List (List Int)} {vs : List V}, Rps K G (bs.map tI) vs → PySem.W.EachIs (fun v b => Rp K G (tI b) v) vs bs
  | [], _, .nil => .nil
  | b :: bs, _, .cons h r => .cons h (rps_tI r)
theorem isPs_ints (b : List Int) : D.isPs (b.map .int) = true := by
  rw [isPs_all, List.all_map, List.all_eq_true]
  intro x _
  rfl
theorem py_tI (b : List Int) : (tI b).py = encT b := by
  unfold tI encT
  rw [D.py, pys_map D.int PyData.int fun i => by rw [D.py]]
theorem isP_tI (b : List Int) : (tI b).isP = true := by
  unfold tI
  rw [D.isP]
  exact isPs_ints b
/-! ### return x if c else e: x an own object -/
/-! ### a, b = a list -/
def gLstD (n : Nat) (gs : Wgs) : Wg := fun d ρ Q => ∃ ds, d.isL = some ds ∧ ds.length = n ∧ gs ds ρ Q
theorem gj_lst {kk : Nat} {tgs : List Nat} {gs : Wgs} {n : Nat} (hc : X.calm = true) (h : GsJ X es tgs gs) (hn : (assignEach es X.env).length = n := by rfl) (hst : (assignEach es X.env).findIdx? (·.1) = none := by rfl) : GJ X (.Tuple es kk pos) tgs (gLstD n gs) := by
  refine ⟨(pg_unl hc h.pg hn hst).imp fun v σ H Q ⟨G0, H0, G, ρ, d, R, r, ds, ed, hl, q⟩ => ?_, fun d ρ Q Q' i ⟨ds, e, l, q⟩ => ⟨ds, e, l, h.mo _ _ _ _ i q⟩⟩
  obtain ⟨p, vs, rfl, h1, m1⟩ := rp_isL r ed
  exact ⟨p, vs, rfl, R.gh.seq h1, by rw [← m1.length]; exact hl, G0, H0, G, ρ, ds, R, m1, q⟩
def wSelf (i : Nat) (C0 : Addr) (f : Str) : Wx := fun xc ρ Q => ∃ a fs v, ρ[i]? = some (.se a C0 fs) ∧ fs.lookup f = some v ∧ Q v
end
end Tw

/-! Tw, part U: loops over lists of anything that stand for data. -/
namespace Tw
open PySem PySem.Spec L2 PyProof.Rows
section
variable {α β : Type} {g : Wg} {b : Ws} {Z : Pd} {we : Wx} {tt : Wt} {ρ : Evn} {Q : List D → Prop}
theorem lc_ofF (l : List α) (c : α → D) (p : α → Bool) (f : α → D)
    (h : ∀ x ∈ l, ∀ (k1 : D → Prop) (k2 : Prop), (p x = true → k1 (f x)) → (p x = false → k2) → g (c x) ρ fun ρ' => tt xcNo ρ' fun t => if t = true then we xcNo ρ' k1 else k2)
    (hz : l.length ≤ sizeLine) (q : Q ((l.filter p).map f)) : lcW g tt we ρ Q (l.map c) [] := by
  have go : ∀ (r : List α) (acc : List D), (∀ x ∈ r, x ∈ l) → acc.length + r.length ≤ sizeLine → Q (acc ++ (r.filter p).map f) → lcW g tt we ρ Q (r.map c) acc := by
    intro r
    induction r with
    | nil => intro acc _ _ q; simpa [lcW] using q
    | cons x r ih =>
      intro acc hm hl q
      simp only [List.length_cons] at hl
      refine h x (hm x (by simp)) _ _ (fun hp => ⟨by omega, ih _ (fun y hy => hm y (by simp [hy])) (by simp; omega) ?_⟩) fun hp => ih _ (fun y hy => hm y (by simp [hy])) (by omega) ?_
      · simpa [List.filter_cons, hp] using q
      · simpa [List.filter_cons, hp] using q
  exact go l [] (fun _ h => h) (by simpa using hz) (by simpa using q)
theorem lc_of (l : List α) (c : α → D) (f : α → D) (h : ∀ x ∈ l, ∀ (k1 : D → Prop), k1 (f x) → g (c x) ρ fun ρ' => we xcNo ρ' k1) (hz : l.length ≤ sizeLine) (q : Q (l.map f)) : lcW g wtYes we ρ Q (l.map c) [] :=
  lc_ofF l c (fun _ => true) f (fun x hx k1 k2 h1 _ => by
    have := h x hx (fun y => k1 y) (h1 rfl)
    simpa [wtYes] using this) hz (by rw [List.filter_eq_self.mpr (fun _ _ => rfl)]; exact q)
/-- over a range from 0 -/
theorem lc_rng0 (n : Nat) (f : Nat → D) (h : ∀ i, i < n → ∀ (k1 : D → Prop), k1 (f i) → g (.int (i : Nat)) ρ fun ρ' => we xcNo ρ' k1) (hz : n ≤ sizeLine) (q : Q ((List.range n).map f)) : lcW g wtYes we ρ Q (rngD 0 n) [] :=
  lc_of (List.range n) (fun i => .int (0 + (i : Nat))) f (fun i hi k1 h1 => by rw [Int.zero_add]; exact h i (List.mem_range.mp hi) k1 h1) (by simpa using hz) q
theorem lc_rng0F (n : Nat) (p : Nat → Bool) (f : Nat → D) (h : ∀ i, i < n → ∀ (k1 : D → Prop) (k2 : Prop), (p i = true → k1 (f i)) → (p i = false → k2) → g (.int (i : Nat)) ρ fun ρ' => tt xcNo ρ' fun t => if t = true then we xcNo ρ' k1 else k2) (hz : n ≤ sizeLine) (q : Q (((List.range n).filter p).map f)) : lcW g tt we ρ Q (rngD 0 n) [] :=
  lc_ofF (List.range n) (fun i => .int (0 + (i : Nat))) p f (fun i hi k1 k2 h1 h2 => by rw [Int.zero_add]; exact h i (List.mem_range.mp hi) k1 k2 h1 h2) (by simpa using hz) q
/-- a for, by a fold: R says how the fold's state stands in the slots -/
theorem for_fold (l : List α) (c : α → D) (step : β → α → β) (R : β → Evn → Prop) (s0 : β)
    (hs : ∀ (pre : List α) (x : α) (post : List α) (ρ : Evn) (N : Evn → Prop), l = pre ++ x :: post → R (pre.foldl step s0) ρ → (∀ ρ', R (step (pre.foldl step s0) x) ρ' → N ρ') → g (c x) ρ fun ρ' => b { Z with nx := N, ct := N, bk := Z.nx } ρ')
    (h0 : R s0 ρ) (hd : ∀ ρ, R (l.foldl step s0) ρ → Z.nx ρ) : forW g b Z (l.map c) ρ := by
  have go : ∀ (r pre : List α) (ρ : Evn), l = pre ++ r → R (pre.foldl step s0) ρ → forW g b Z (r.map c) ρ := by
    intro r
    induction r with
    | nil => intro pre ρ e h; rw [List.append_nil] at e; subst e; exact hd ρ h
    | cons x r ih =>
      intro pre ρ e h
      refine hs pre x r ρ _ e h fun ρ' h' => ih (pre ++ [x]) ρ' (by rw [e]; simp) (by rw [List.foldl_append]; exact h')
  exact go l [] ρ rfl h0
/-- .. that changes nothing but temporary slots -/
theorem for_same (l : List α) (c : α → D) (R : Evn → Prop) (hs : ∀ (x : α) (ρ : Evn) (N : Evn → Prop), x ∈ l → R ρ → (∀ ρ', R ρ' → N ρ') → g (c x) ρ fun ρ' => b { Z with nx := N, ct := N, bk := Z.nx } ρ')
    (h0 : R ρ) (hd : ∀ ρ, R ρ → Z.nx ρ) : forW g b Z (l.map c) ρ :=
  for_fold l c (fun (_ : Unit) _ => ()) (fun _ ρ => R ρ) () (fun pre x post ρ N e h hn => hs x ρ N (by rw [e]; simp) h hn) h0 hd
end
/-! ### words on slots that are written out -/
@[simp] theorem atI_ints {l : List Int} {i : Int} : atI (l.map D.int) i = (atI l i).map D.int := by
  unfold atI
  simp only [List.length_map, List.getElem?_map]
  cases ixN l.length i <;> rfl
end Tw

/-! Tw, part V: ==, != and in, on known data. -/
namespace Tw
open PySem PySem.Spec L2 PyProof.Rows
open PySem.PyData (strOk)
theorem eqvAll_eq {xs ys : List Int} : PyData.eqvAll (xs.map .int) (ys.map .int) = (xs == ys) := by
  induction xs generalizing ys with
  | nil => cases ys <;> simp [PyData.eqvAll]
  | cons x xs ih => cases ys <;> simp [PyData.eqvAll, PyData.eqv, ih]
theorem lay_ints (xs : List Int) : PyData.canLayAll0 (xs.map .int) = true := by
  induction xs with
  | nil => simp [PyData.canLayAll0]
  | cons x xs ih => simp [PyData.canLayAll0, PyData.canLay0, ih]
theorem ok_tI (b : List Int) : (tI b).ok := by
  refine ⟨isP_tI b, ?_⟩
  rw [py_tI]
  unfold SeqAt.shaped
  rw [encT_depth]
  unfold encT
  simp [PyData.canLay0, lay_ints]
theorem ok_int (i : Int) : (D.int i).ok := ⟨rfl, by simp [D.py, SeqAt.shaped, PyData.canLay0, PyData.depth]⟩
theorem ok_str {z : Str} (h : strOk z = true) : (D.str z).ok := ⟨rfl, by simp [D.py, SeqAt.shaped, PyData.canLay0, PyData.depth, h]⟩
theorem ok_ptI (b : List (List Int)) : (D.lst (b.map tI)).ok := by
  have h1 : D.pys (b.map tI) = b.map encT := pys_map tI encT py_tI b
  refine ⟨?_, ?_⟩
  · rw [D.isP, isPs_all, List.all_map, List.all_eq_true]
    intro x _
    exact isP_tI x
  · rw [D.py, h1]
    unfold SeqAt.shaped
    have h2 : PyData.canLayAll0 (b.map encT) = true := by
      induction b with
      | nil => simp [PyData.canLayAll0]
      | cons x xs ih => simp [PyData.canLayAll0, ih (pys_map tI encT py_tI xs), encT, PyData.canLay0, lay_ints]
    have h3 : PyData.depthAll (b.map encT) ≤ 1 := by
      clear h1 h2
      induction b with
      | nil => simp [PyData.depthAll]
      | cons x xs ih => simp only [List.map_cons, PyData.depthAll, encT_depth]; omega
    rw [PyData.canLay0, h2, PyData.depth]
    simp
    omega
theorem ok_strs {l : List Str} (h : ∀ z ∈ l, strOk z = true) : (D.lst (l.map .str)).ok := by
  have h1 : D.pys (l.map .str) = l.map PyData.str := pys_map D.str PyData.str (fun _ => by rw [D.py]) l
  refine ⟨?_, ?_⟩
  · rw [D.isP, isPs_all, List.all_map, List.all_eq_true]
    intro x _
    rfl
  · rw [D.py, h1]
    unfold SeqAt.shaped
    have h2 : PyData.canLayAll0 (l.map PyData.str) = true := by
      clear h1
      induction l with
      | nil => simp [PyData.canLayAll0]
      | cons x xs ih => simp [PyData.canLayAll0, ih fun z hz => h z (by simp [hz]), PyData.canLay0, h x]
    have h3 : PyData.depthAll (l.map PyData.str) = 0 := by
      clear h1 h2 h
      induction l with
      | nil => simp [PyData.depthAll]
      | cons x xs ih => simp only [List.map_cons, PyData.depthAll, ih, PyData.depth]; omega
    rw [PyData.canLay0, h2, PyData.depth, h3]
    simp
section
variable {i j : Int} {Q : D → Prop} {x y : Str} {a b : List Int}
@[simp] theorem oEq_i : oEq (.int i) (.int j) Q = Q (.bl (i == j)) := by
  unfold oEq
  simp [ok_int, D.py, PyData.eqv]
@[simp] theorem oNe_i : oNe (.int i) (.int j) Q = Q (.bl (!(i == j))) := by
  unfold oNe
  simp [ok_int, D.py, PyData.eqv]
theorem oEq_s (hx : strOk x = true) (hy : strOk y = true) : oEq (.str x) (.str y) Q = Q (.bl (x == y)) := by
  unfold oEq
  simp [ok_str hx, ok_str hy, D.py, PyData.eqv]
@[simp] theorem oEq_t : oEq (tI a) (tI b) Q = Q (.bl (a == b)) := by
  unfold oEq
  rw [py_tI, py_tI]
  unfold encT
  simp [ok_tI, PyData.eqv, eqvAll_eq]
@[simp] theorem oNe_t : oNe (tI a) (tI b) Q = Q (.bl (!(a == b))) := by
  unfold oNe
  rw [py_tI, py_tI]
  unfold encT
  simp [ok_tI, PyData.eqv, eqvAll_eq]
theorem any_int (l : List Int) : (D.pys (l.map .int)).any (fun z => PyData.eqv z (D.int i).py) = decide (i ∈ l) := by
  rw [pys_map D.int PyData.int (fun _ => by rw [D.py]), List.any_map, D.py]
  induction l with
  | nil => rfl
  | cons x xs ih =>
    rw [List.any_cons, ih]
    show ((x == i) || decide (i ∈ xs)) = _
    by_cases e : x = i
    · subst e; simp
    · have e' : ¬ i = x := fun z => e z.symm
      simp [e, e']
theorem any_str (l : List Str) : (D.pys (l.map .str)).any (fun z => PyData.eqv z (D.str x).py) = decide (x ∈ l) := by
  rw [pys_map D.str PyData.str (fun _ => by rw [D.py]), List.any_map, D.py]
  induction l with
  | nil => rfl
  | cons y xs ih =>
    rw [List.any_cons, ih]
    show ((y == x) || decide (x ∈ xs)) = _
    by_cases e : y = x
    · subst e; simp
    · have e' : ¬ x = y := fun z => e z.symm
      simp [e, e']
theorem any_t (l : List (List Int)) : (D.pys (l.map tI)).any (fun z => PyData.eqv z (tI a).py) = decide (a ∈ l) := by
  rw [pys_map tI encT py_tI, List.any_map, py_tI]
  induction l with
  | nil => rfl
  | cons y xs ih =>
    rw [List.any_cons, ih]
    have h0 : ((fun z => PyData.eqv z (encT a)) ∘ encT) y = (y == a) := by
      show PyData.eqv (encT y) (encT a) = _
      unfold encT
      rw [PyData.eqv, eqvAll_eq]
    rw [h0]
    by_cases e : y = a
    · subst e; simp
    · have e' : ¬ a = y := fun z => e z.symm
      simp [e, e']
@[simp] theorem oIn_i : oIn false (.int i) (tI a) Q = Q (.bl (decide (i ∈ a))) := by
  have h := any_int (i := i) a
  have o := ok_tI a
  unfold tI at o ⊢
  simp only [oIn, ok_int, o, h, true_and]
  rfl
@[simp] theorem oIn_t {l : List (List Int)} : oIn false (tI a) (.lst (l.map tI)) Q = Q (.bl (decide (a ∈ l))) := by
  have h := any_t (a := a) l
  simp only [oIn, ok_tI, ok_ptI, h, true_and]
  rfl
theorem oIn_s {l : List Str} (hx : strOk x = true) (hl : ∀ z ∈ l, strOk z = true) (neg : Bool) : oIn neg (.str x) (.lst (l.map .str)) Q = Q (.bl (if neg = true then !decide (x ∈ l) else decide (x ∈ l))) := by
  have h := any_str (x := x) l
  simp only [oIn, ok_str hx, ok_strs hl, h, true_and]
end
end Tw

/-! Tw, part X: classes of known data, is, in short tuples, objects made. -/
namespace Tw
open PySem PySem.Spec L2 PyProof.Rows
open PySem.PyData (strOk)
@[simp] theorem kit_NoneType_int : kitB "NoneType" "int" = some false := by decide +kernel
@[simp] theorem kit_NoneType_bool : kitB "NoneType" "bool" = some false := by decide +kernel
@[simp] theorem kit_NoneType_str : kitB "NoneType" "str" = some false := by decide +kernel
@[simp] theorem kit_NoneType_tuple : kitB "NoneType" "tuple" = some false := by decide +kernel
@[simp] theorem kit_NoneType_list : kitB "NoneType" "list" = some false := by decide +kernel
@[simp] theorem kit_bool_int : kitB "bool" "int" = some true := by decide +kernel
@[simp] theorem kit_bool_bool : kitB "bool" "bool" = some true := by decide +kernel
@[simp] theorem kit_bool_str : kitB "bool" "str" = some false := by decide +kernel
@[simp] theorem kit_bool_tuple : kitB "bool" "tuple" = some false := by decide +kernel
@[simp] theorem kit_bool_list : kitB "bool" "list" = some false := by decide +kernel
@[simp] theorem kit_int_int : kitB "int" "int" = some true := by decide +kernel
@[simp] theorem kit_int_bool : kitB "int" "bool" = some false := by decide +kernel
@[simp] theorem kit_int_str : kitB "int" "str" = some false := by decide +kernel
@[simp] theorem kit_int_tuple : kitB "int" "tuple" = some false := by decide +kernel
@[simp] theorem kit_int_list : kitB "int" "list" = some false := by decide +kernel
@[simp] theorem kit_str_int : kitB "str" "int" = some false := by decide +kernel
@[simp] theorem kit_str_bool : kitB "str" "bool" = some false := by decide +kernel
@[simp] theorem kit_str_str : kitB "str" "str" = some true := by decide +kernel
@[simp] theorem kit_str_tuple : kitB "str" "tuple" = some false := by decide +kernel
@[simp] theorem kit_str_list : kitB "str" "list" = some false := by decide +kernel
@[simp] theorem kit_list_int : kitB "list" "int" = some false := by decide +kernel
@[simp] theorem kit_list_bool : kitB "list" "bool" = some false := by decide +kernel
@[simp] theorem kit_list_str : kitB "list" "str" = some false := by decide +kernel
@[simp] theorem kit_list_tuple : kitB "list" "tuple" = some false := by decide +kernel
@[simp] theorem kit_list_list : kitB "list" "list" = some true := by decide +kernel
@[simp] theorem kit_tuple_int : kitB "tuple" "int" = some false := by decide +kernel
@[simp] theorem kit_tuple_bool : kitB "tuple" "bool" = some false := by decide +kernel
@[simp] theorem kit_tuple_str : kitB "tuple" "str" = some false := by decide +kernel
@[simp] theorem kit_tuple_tuple : kitB "tuple" "tuple" = some true := by decide +kernel
@[simp] theorem kit_tuple_list : kitB "tuple" "list" = some false := by decide +kernel

section
variable {Q : D → Prop} {d : D} {t neg : Bool} {i : Int} {x y z : Str} {xs : List D}
@[simp] theorem oIsN_d : oIsN neg d .non Q = Q (.bl (if neg = true then !d.isN else d.isN)) := by cases d <;> rfl
@[simp] theorem oIsB_d : oIsB d (.bl t) Q = Q (.bl (d.isB t)) := by cases d <;> rfl
@[simp] theorem isN_non : D.isN .non = true := rfl
@[simp] theorem isN_i : D.isN (.int i) = false := rfl
@[simp] theorem isN_b : D.isN (.bl t) = false := rfl
@[simp] theorem isN_s : D.isN (.str x) = false := rfl
@[simp] theorem isN_t : D.isN (.tup xs) = false := rfl
@[simp] theorem isN_l : D.isN (.lst xs) = false := rfl
@[simp] theorem isB_non : D.isB .non t = false := rfl
@[simp] theorem isB_i : D.isB (.int i) t = false := rfl
@[simp] theorem isB_b {s : Bool} : D.isB (.bl s) t = (s == t) := rfl
@[simp] theorem isB_s : D.isB (.str x) t = false := rfl
@[simp] theorem isB_t : D.isB (.tup xs) t = false := rfl
@[simp] theorem isB_l : D.isB (.lst xs) t = false := rfl
@[simp] theorem ty_non : D.ty .non = some "NoneType" := rfl
@[simp] theorem ty_i : D.ty (.int i) = some "int" := rfl
@[simp] theorem ty_b : D.ty (.bl t) = some "bool" := rfl
@[simp] theorem ty_s : D.ty (.str x) = some "str" := rfl
@[simp] theorem ty_t : D.ty (.tup xs) = some "tuple" := rfl
@[simp] theorem ty_l : D.ty (.lst xs) = some "list" := rfl
theorem oIn_ss (hx : strOk x = true) (hy : strOk y = true) (hz : strOk z = true) : oIn neg (.str x) (.tup [.str y, .str z]) Q = Q (.bl (if neg = true then !(x == y || x == z) else (x == y || x == z))) := by
  have h := any_str (x := x) [y, z]
  have o : (D.tup [.str y, .str z]).ok := by
    refine ⟨rfl, ?_⟩
    simp [D.py, D.pys, SeqAt.shaped, PyData.canLay0, PyData.canLayAll0, PyData.depth, PyData.depthAll, hy, hz]
  have e : decide (x ∈ [y, z]) = (x == y || x == z) := by
    by_cases e1 : x = y <;> by_cases e2 : x = z <;> simp [e1, e2]
  rw [e] at h
  simp only [List.map_cons, List.map_nil] at h
  simp only [oIn, ok_str hx, o, h, true_and]
theorem ex2 {α β : Type} {p : α} {q : β} {P : α → β → Prop} : (∃ a b, (p = a ∧ q = b) ∧ P a b) = P p q := propext ⟨fun ⟨_, _, ⟨rfl, rfl⟩, h⟩ => h, fun h => ⟨_, _, ⟨rfl, rfl⟩, h⟩⟩
theorem ex2' {α β : Type} {p : α} {q : β} {P : α → β → Prop} : (∃ a b, (p = a ∧ b = q) ∧ P a b) = P p q := propext ⟨fun ⟨_, _, ⟨rfl, rfl⟩, h⟩ => h, fun h => ⟨_, _, ⟨rfl, rfl⟩, h⟩⟩
def Sl.noSe : Sl → Bool
  | .se _ _ _ => false
  | _ => true
@[simp] theorem noSe_da : Sl.noSe (.da d) = true := rfl
@[simp] theorem noSe_no : Sl.noSe .no = true := rfl
theorem oneSe {a C : Addr} {fs : List (Str × D)} {l : List Sl} (h : l.all Sl.noSe = true) : OneSe (.se a C fs :: l) 0 := fun j a' C' fs' hj => by
  cases j with
  | zero => rfl
  | succ j =>
    have hj' : l[j]? = some (.se a' C' fs') := by simpa using hj
    have hm := List.mem_of_getElem? hj'
    have := List.all_eq_true.mp h _ hm
    cases this
@[simp] theorem oneSe_iff {a C : Addr} {fs : List (Str × D)} {l : List Sl} : OneSe (.se a C fs :: l) 0 = (l.all Sl.noSe = true) := propext ⟨fun h => List.all_eq_true.mpr fun s hs => by
  obtain ⟨j, hj⟩ := List.getElem?_of_mem hs
  cases s with
  | se a' C' fs' =>
    have := h (j + 1) a' C' fs' (by simpa using hj)
    omega
  | _ => rfl, oneSe⟩
end
end Tw

/-! Tw, part Y: methods and constructors from where they stand. -/
namespace Tw
open PySem PySem.Spec L2 PyProof.Rows
section
variable {P : Program} {w : World} {K : PySem.W.Frag} {mg : Str → Option Value} {base : Heap}
/-- a method of the text -/
structure AtM (K : PySem.W.Frag) (C : Addr) (m q : Str) (st : Stmt) (ps : List Str) : Prop where
  ex : ∃ f fd, Fun K m q st f fd ∧ Meth K C m f ∧ Binds K fd ps []
theorem mdef_ok {C : Addr} {m q : Str} {st : Stmt} {N ps : List Str} {k : Nat} {wf : Wf} {wb : Ws} (A : AtM K C m q st ps) (cl : Cls K C) (S : FnScope N ps (defScope st)) (mo : MoF wf) (hn : ∀ ds xc Q, wf xc ds Q → ds.length = ps.length)
    (hb : ∀ (f : Addr) (cdv : Value) (A : Around) (outer : List Env) (s : Shared) (H : Hp) (E : XK), Room k (A.deeper (envOfC q (defScope st) s.heap.objs.size f cdv)) →
      BJ E (cxOf (L2.CX P w) P w K mg base N q (defScope st) f cdv A outer s H E) (defBody st) wb)
    (hw : ∀ xc ds (Q : Bool → D → Prop), wf xc ds Q → wb { nx := fun _ => Q false .non, rt := Q, xc := xc } (ds.map .da ++ List.replicate (N.length - ds.length) .no)) :
    MDef P w K mg base C m ps.length (k + 1) wf := by
  obtain ⟨f, fd, F, hm, b⟩ := A.ex
  exact ⟨⟨f, fd, ps, fn_ok F S (fun xc ds Q q => hn ds xc Q q) (hb f) hw, hm, b⟩, cl, mo, hn⟩
/-- an __init__ of the text -/
structure AtI (K : PySem.W.Frag) (mg : Str → Option Value) (x : Str) (C : Addr) (q : Str) (st : Stmt) (ps : List Str) (n : Nat) (ks : List Str) (gD : List D → List D → List D) : Prop where
  ex : ∃ (f : Addr) (fd : FuncData) (g : List Value → List Value → List Value) (gV gR : List V → List V → List V), Fun K "__init__" q st f fd ∧ Mk K C f ∧ KBn K fd ps (n + 1) ks g gV ∧ mg x = some (.ref C) ∧
    (∀ x vs zs, vs.length = n → zs.length = ks.length → gV (V.ref x :: vs) zs = V.ref x :: gR vs zs) ∧ (∀ G ds es vs zs, Rps K G ds vs → Rps K G es zs → Rps K G (gD ds es) (gR vs zs))
theorem ctor_ok {x : Str} {C : Addr} {q : Str} {st : Stmt} {N ps : List Str} {n m k : Nat} {ks : List Str} {gD : List D → List D → List D} {wi : Wi} {wb : Ws} (A : AtI K mg x C q st ps n ks gD) (hps : ps.length = m + 1) (S : FnScope N ps (defScope st)) (mo : MoI wi) (hn : ∀ ds xc Q, wi xc ds Q → ds.length = m)
    (hb : ∀ (f : Addr) (cdv : Value) (A : Around) (outer : List Env) (s : Shared) (H : Hp) (E : XK), Room k (A.deeper (envOfC q (defScope st) s.heap.objs.size f cdv)) →
      BJ E (cxOf (L2.CX P w) P w K mg base N q (defScope st) f cdv A outer s H E) (defBody st) wb)
    (hw : ∀ xc ds (Q : List (Str × D) → Prop) p, wi xc ds Q → wb { nx := fun ρ => ∃ fs, ρ[0]? = some (.se p C fs) ∧ Q fs, rt := fun _ _ => False, xc := xc } (.se p C [] :: (ds.map .da ++ List.replicate (N.length - (ds.length + 1)) .no))) :
    Ctor P w K mg base x C n ks (k + 1) gD wi := by
  obtain ⟨f, fd, g, gV, gR, F, M, B, hm, h1, h2⟩ := A.ex
  exact ⟨⟨f, fd, ps, g, gV, gR, m, M, ini_ok hps F S (fun xc ds Q q => hn ds xc Q q) (hb f) hw, B, hm, h1, h2, hn⟩, mo⟩
end
end Tw

/-! Tw, part Z: len(set(xs)), xs a list of texts; sep.join(xs). -/
namespace Tw
open PySem PySem.Spec L2 PyProof.Rows
section
variable {P : Program} {w : World} {A : Around} {E : Value → Shared → Prop} {s : Shared}
/-- how many different ones stand in a list -/
def kinds {κ : Type} [DecidableEq κ] : List κ → Nat
  | [] => 0
  | x :: r => if x ∈ r then kinds r else kinds r + 1
/-- how many different ones, told from the front -/
def kindsR {κ : Type} [DecidableEq κ] (l : List κ) : Nat → Nat
  | 0 => 0
  | i + 1 => match l[i]? with
    | some x => if x ∈ l.take i then kindsR l i else kindsR l i + 1
    | none => kindsR l i
theorem kindsR_le {κ : Type} [DecidableEq κ] (l : List κ) : ∀ i, kindsR l i ≤ i
  | 0 => Nat.le_refl _
  | i + 1 => by
    have := kindsR_le l i
    unfold kindsR
    split
    · split <;> omega
    · omega
theorem setOfS_at {P : Program} {w : World} {h h' : Heap} {a : Addr} {S : Str → Bool} {n : Nat} (R : h.SetOf (strKind P w) a S n) (k : ∀ o, h.get? a = some o → h'.get? a = some o) : h'.SetOf (strKind P w) a S n := by
  obtain ⟨o, es, ep, t, ho, r⟩ := R
  exact ⟨o, es, ep, t, k o ho, r⟩
/-- the loop of set.update over texts -/
theorem upd_strs {it : Addr} {fp wr : List Addr} {Gs : Array GenState → Array GenState → Prop} {n : Nat} {Pv : Nat → Value → Prop} {St : Nat → Shared → Prop} {R : Result → Shared → Prop}
    (Wk : WalksS P w A.in1 it fp wr Gs n Pv St) (z : Addr) (zf : z ∉ fp) (ns : List Str) (en : n = ns.length) (few : ns.length < 64) (val : ∀ i v, Pv i v → ∃ k t, ns[i]? = some k ∧ v = .str k t)
    (h0 : Heap) (z0 : h0.get? z = none) (w0 : ∀ b ∈ wr, h0.get? b = none) :
    ∀ (j i : Nat) (s : Shared), n - i = j → i ≤ n → St i s → (∀ b o, h0.get? b = some o → s.heap.get? b = some o) → (s.heap.SetOf (strKind P w) z (fun k => decide (k ∈ ns.take i)) (kindsR ns i)) →
      (∀ s', Moved (z :: wr) Gs s s' → s'.heap.SetOf (strKind P w) z (fun k => decide (k ∈ ns.take n)) (kindsR ns n) → (∀ b o, h0.get? b = some o → s'.heap.get? b = some o) → R (.ok (.ret .none)) s') →
      codeAny (model P w) A (.builtin "set.update.loop" ⟨[.ref z, .ref it], []⟩) R s := by
  have zw : z ∉ wr := fun q => zf (Wk.sub _ q)
  have up : ∀ b ∈ wr, b ∈ z :: wr := fun b q => List.mem_cons_of_mem _ q
  have held : ∀ {s s' : Shared}, Moved wr Gs s s' → (∀ b o, h0.get? b = some o → s.heap.get? b = some o) → ∀ b o, h0.get? b = some o → s'.heap.get? b = some o := fun mv kp b o q =>
    mv.heap b o (fun hb => by rw [w0 b hb] at q; cases q) (kp b o q)
  intro j
  induction j with
  | zero =>
    intro i s ej hi st kp hz fin
    obtain rfl : i = n := by omega
    refine codeAny_builtin F.entry_set_update_loop ?_
    rw [Around.under_plainId F.plain_set_update_loop _]
    show wpAny _ A.in1 (pyNext (.ref it) >>= _) _ _ s
    refine wpAny_bind (Wk.done s _ _ st fun s' mv => ?_)
    show wpAny _ A.in1 (ret Value.none) _ _ s'
    exact wpAny_pure (fin s' (mv.mono up) (setOfS_at hz fun o q => mv.heap z o zw q) (held mv kp))
  | succ j ih =>
    intro i s ej hi st kp hz fin
    have lt : i < n := by omega
    refine codeAny_builtin F.entry_set_update_loop ?_
    rw [Around.under_plainId F.plain_set_update_loop _]
    show wpAny _ A.in1 (pyNext (.ref it) >>= _) _ _ s
    refine wpAny_bind (Wk.item i s _ _ lt st fun v s' pv' st' mv => ?_)
    obtain ⟨k, t, hk, rfl⟩ := val i v pv'
    have kp' := held mv kp
    have hz' : s'.heap.SetOf (strKind P w) z _ _ := setOfS_at hz fun o q => mv.heap z o zw q
    show wpAny _ A.in1 (holding [Value.str k t] (setAdd z (.str k t)) >>= _) _ _ s'
    refine wpAny_bind (wpAny_holding ?_)
    unfold setAdd
    refine wpAny_holding ?_
    refine wpAny_bind ((strKind P w).pyHash (k := k) (strKind_is _ _ _ _) ?_)
    have kl := kindsR_le ns i
    refine wpAny_setAddHashed_of (knd := strKind P w) (s := { s' with toks := s'.toks + 1 }) (k := k) (strKind_is _ _ _ _) rfl hz' (by unfold scanBound; omega) fun h' sb r => ?_
    have tk : ns.take (i + 1) = ns.take i ++ [k] := by rw [List.take_succ, hk]; rfl
    have kp2 : ∀ b o, h0.get? b = some o → h'.get? b = some o := fun b o q => (sb.2 b (fun e => by rw [e, z0] at q; cases q)).trans (kp' b o q)
    have fr : ∀ b ∈ fp, ∀ o, s'.heap.get? b = some o → h'.get? b = some o := fun b hb o q => by
      rw [sb.2 b (fun e => zf (by rw [← e]; exact hb))]; exact q
    have r2 : h'.SetOf (strKind P w) z (fun k => decide (k ∈ ns.take (i + 1))) (kindsR ns (i + 1)) := by
      refine SetOf_congr r (fun q => ?_) ?_
      · rw [tk]; simp only [List.mem_append, List.mem_singleton]
        by_cases a : q ∈ ns.take i <;> by_cases b : q = k <;> simp [a, b]
      · rw [kindsR, hk]
        by_cases a : k ∈ ns.take i <;> simp [a]
    refine wpAny_pure ⟨plainId_quiet F.plain_set_update_loop _, ih (i + 1) _ (by omega) lt (Wk.frame _ s' _ _ st' (Nat.le_add_right _ _) fr) kp2 r2 fun s'' mv2 hz2 kp3 => ?_⟩
    refine fin s'' (Moved.trans Wk.gtrans ((mv.mono up).then_heap (Nat.le_add_right _ _) fun b o hb q => ?_) mv2) hz2 kp3
    rw [sb.2 b (fun e => hb (by rw [e]; exact List.mem_cons_self))]; exact q
set_option maxHeartbeats 3200000 in
/-- set(xs) of texts -/
theorem call_setS {l : Addr} {items : Array Value} (ns : List Str) {Q : Value → Shared → Prop} (hh : A.handled = none) (il : s.heap.IsList l items) (ii : ∀ (i : Nat) (v : Value), items[i]? = some v → ∃ k t, ns[i]? = some k ∧ v = .str k t) (sz : items.size = ns.length) (few : ns.length < 64)
    (h : ∀ (h' : Heap) (tk : Nat), h'.SetOf (strKind P w) s.heap.objs.size (fun k => decide (k ∈ ns)) (kindsR ns ns.length) → (∀ b o, s.heap.get? b = some o → h'.get? b = some o) → Q (.ref s.heap.objs.size) { s with heap := h', toks := tk }) :
    wpAny (model P w) A (call (.type "set") [.ref l]) Q E s := by
  obtain ⟨c, tl, hmro⟩ := F.called_set.mro
  have c1 := F.called_set.made
  have c2 := F.called_set.sub
  refine wpAny_call (codeAny_of_tree ?_)
  show wpAny _ _ (callAny (.type "set") _) _ _ _
  refine wpAny_pure ⟨Code.quiet_builtin _ (by decide +kernel), codeAny_builtin F.entry_type_call ?_⟩
  rw [Around.under_plain (weight_type_call_type "set" [.ref l] []) rfl]
  have c3 := F.called_set.notType
  have c4 := F.called_set.canCreate
  have c5 := F.typeCall_set_1 (.ref l)
  repeat (any_goals (first | assumption | wp_step))
  refine codeAny_mono (code_set_led1 (.ref l) (E := E) (Q₁ := fun obj s₁ => obj = .ref s.heap.objs.size ∧ s₁ = { s with heap := s.heap.push (fresh0 w) }) ⟨rfl, rfl⟩) fun r s₁ hr => ?_
  cases r with
  | error e => exact hr
  | ok fl =>
    cases fl with
    | ret obj =>
      obtain ⟨rfl, rfl⟩ := hr
      have hS : (s.heap.push (fresh0 w)).get? s.heap.objs.size = some (fresh0 w) := Heap.get?_push_size _ rfl
      have hT : Shared.TypeIs { s with heap := s.heap.push (fresh0 w) } (.ref s.heap.objs.size) "set" := ⟨_, hS, rfl⟩
      have c6 := F.called_set.init.lookup
      have c7 := F.called_set.init.bind (.ref s.heap.objs.size)
      repeat (any_goals (first | assumption | wp_step))
      refine codeAny_mono (codeAny_call_builtin (R := wants (fun r s₂ => r = .none ∧ ∃ h' tk, s₂ = { s with heap := h', toks := tk } ∧ h'.SetOf (strKind P w) s.heap.objs.size (fun k => decide (k ∈ ns)) (kindsR ns ns.length) ∧
          (∀ b o, s.heap.get? b = some o → h'.get? b = some o)) E) F.called_set.init.plain F.entry_set_init (check_set_init_1 hT ?_)) fun r₂ s₂ hr₂ => ?_
      · obtain ⟨ol, hol, hcl, nl, hdl⟩ := il
        obtain ⟨ocls, odict, odata, oslots⟩ := ol
        simp only at hcl hdl
        subst hcl; subst hdl
        have hol' : (s.heap.push (fresh0 w)).get? l = some { cls := .type "list", dict := odict, data := .seq items nl, slots := oslots } := Heap.get?_push_of_some _ hol
        have d1 := F.sub_list_set
        have d2 := F.sub_list_frozenset
        have d3 : (Value.type "list" == Value.type "dict") = false := by decide
        have hl1 : (s.heap.push (fresh0 w)).IsList l items := ⟨_, hol', rfl, nl, rfl⟩
        unfold Builtin.«set.__init__» noKeywords Builtin.Frozenset.updateFrom
        generalize hPI : pyIter = PI
        wp_walk
        subst hPI
        refine wpAny_pyIter_list hl1 ?_
        refine wpAny_bind (wpAny_runValue ?_)
        have ls : l < s.heap.objs.size := Heap.lt_size hol
        have hh3 : A.in1.in1.in1.handled = none := by simp [hh]
        have nI : l ≠ (s.heap.push (fresh0 w)).objs.size := by
          rw [Heap.size_push]
          exact Nat.ne_of_lt (Nat.lt_succ_of_lt ls)
        have nf : s.heap.objs.size ∉ [(s.heap.push (fresh0 w)).objs.size, l] := by
          rw [Heap.size_push]; simp only [List.mem_cons, List.not_mem_nil, or_false, not_or]
          exact ⟨Nat.ne_of_lt (Nat.lt_succ_self _), Nat.ne_of_gt ls⟩
        have nn : ∀ b, s.heap.objs.size ≤ b → s.heap.get? b = none := fun b hb => by
          cases q : s.heap.get? b with
          | none => rfl
          | some o => exact absurd (Nat.lt_of_lt_of_le (Heap.lt_size q) hb) (Nat.lt_irrefl _)
        refine upd_strs ((Walks.list hh3 _ l nI items).toS) s.heap.objs.size nf ns sz few ii s.heap (nn _ (Nat.le_refl _)) (fun b hb => nn b (by
            rw [List.mem_singleton.mp hb, Heap.size_push]
            exact Nat.le_succ _)) (items.size - 0) 0 _ (by omega) (Nat.zero_le _)
          ⟨⟨_, Heap.get?_push_size _ rfl, rfl, rfl⟩, (hl1.push _)⟩ (fun b o e => Heap.get?_push_of_some _ (Heap.get?_push_of_some _ e)) ?hS0 ?hR
        case hS0 =>
          have new : (s.heap.push (fresh0 w)).SetOf (strKind P w) s.heap.objs.size (fun _ => false) 0 :=
            ⟨_, #[], 0, _, Heap.get?_push_size _ rfl, ⟨rfl, rfl, rfl⟩, rfl, (fun e he => by simp at he), (fun k => by simp), (by decide), (by rfl), rfl⟩
          exact SetOf_congr (setOfS_at new fun o e => Heap.get?_push_of_some _ e) (fun k => by simp) rfl
        case hR =>
          intro s' mv hz kp
          obtain ⟨h', g2, d', tk', os'⟩ := s'
          have eg : g2 = s.gens := mv.gens
          have ed : d' = s.drawn := mv.drawn
          have eo : os' = s.os := mv.os
          subst eg; subst ed; subst eo
          show wpAny _ _ _ _ _ _
          refine wpAny_pure ?_
          show wpAny _ _ (ret Value.none) _ _ _
          have et : ns.take items.size = ns := by rw [sz, List.take_length]
          rw [et, sz] at hz
          exact wpAny_pure ⟨rfl, h', tk', rfl, hz, kp⟩
      · cases r₂ with
        | error e => exact hr₂
        | ok fl₂ =>
          cases fl₂ with
          | ret r =>
            obtain ⟨rfl, h', tk, rfl, hz, kp⟩ := hr₂
            repeat (any_goals (first | assumption | wp_step))
            exact h _ _ hz kp
          | _ => exact hr₂.elim
    | _ => exact hr.elim
end
section
variable {X : Cx} {K : PySem.W.Frag} {E : XK} {e a b c o : Expr} {es : List Expr} {w wa wb wc : Wx} {k ka kb : Kd} {pos p : Pos}
/-! sep.join(xs) -/
end
end Tw

/-! Tw, part Z2: == by an own __eq__, isinstance of an own class, xs[i] = e, min, max, order of tuples, reverse, clear, objects made of lent lists. -/
namespace Tw
open PySem PySem.Spec L2 PyProof.Rows
section
variable {X : Cx} {K : PySem.W.Frag} {E : XK} {e a b c o : Expr} {es : List Expr} {w wa wb wc : Wx} {k ka kb : Kd} {pos p : Pos} {u ut : Wa} {st : Stmt} {rest body : List Stmt} {s s1 s2 : Ws}
/-! ### a == b by the class's own __eq__ -/
def rEqO (C : Addr) (sp : Sp) (E : XK) : R2 := fun x y H Q => ∃ a dx fs b dy gs, x = .ref a ∧ y = .ref b ∧ H a = some (.ins C dx fs) ∧ H b = some (.ins C dy gs) ∧ sp [.ref a, .ref b] H (fun v H' => ∃ t, v = .bl t ∧ Q (.bl t) H') E
theorem op_eqO {C f : Addr} {fd : FuncData} {ps : List Str} {j : Nat} {sp : Sp} (F : FnOk X.prog X.w X.K X.mg X.base (L2.CX X.prog X.w) j f fd ps sp) (hm : Meth X.K C "__eq__" f) (hb : Binds X.K fd ps []) (hr : Room j X.A) (hx : Passes (L2.CX X.prog X.w) X E) :
    OpR X (compareOp .Eq) (rEqO C sp E) := by
  intro pins s σ H x y v u Q I rx ry h
  obtain ⟨a, dx, fs, b, dy, gs, rfl, rfl, ha, hb', q⟩ := h
  cases rx; cases ry
  obtain ⟨mA, J, _⟩ := ins_get I.hok ha
  obtain ⟨mB, J', _⟩ := ins_get I.hok hb'
  obtain ⟨od, J, _⟩ := J.look
  obtain ⟨od', J', _⟩ := J'.look
  obtain ⟨m, hF⟩ := I.fr
  show wpAny _ X.A (richCompare .Eq (.ref a) (.ref b)) _ _ s
  refine PySem.W.cmp_K (op := .Eq) (tb := .ref C) hr.units0 hF I.ok.mod.kin J J'.type (by simp [PySem.W.notFirst]) hm.at_ hm.fn ?_
  have hl := F.len _ _ _ _ q
  refine wpAny_call (codeAny_mono (F.run X.A X.stack s H ⟨[.ref a, .ref b], []⟩ [.ref a, .ref b] [.ref a, .ref b] _ E hr I.env0 (by
    simpa using hb s [.ref a, .ref b] I.kIn (by simpa using hl)) (.cons rfl (.cons rfl .nil)) q) fun r s' hq => ?_)
  cases r with
  | error e => exact hx pins σ H s e s' I hq
  | ok fl =>
    cases fl with
    | ret w =>
      obtain ⟨z, H', I', rz, t, ez, qt⟩ := I.after hq
      subst ez; cases rz
      exact ⟨.bl t, H', I', rfl, qt⟩
    | next => exact False.elim hq
    | brk => exact False.elim hq
    | cont => exact False.elim hq
def wEqO (C : Addr) (wf : Wf) (wa wb : Wx) : Wx := fun xc ρ Q => wa xc ρ fun x => wb xc ρ fun y => (∃ fs, x = .obj C fs) ∧ (∃ gs, y = .obj C gs) ∧ wf xc [x, y] fun _ v => ∃ t, v = .bl t ∧ Q (.bl t)
theorem ej_eqO {C : Addr} {j : Nat} {wf : Wf} (F : MDef X.prog X.w X.K X.mg X.base C "__eq__" 2 j wf) (hr : Room j X.A) (hx : Passes (L2.CX X.prog X.w) X E) (ha : EJ .e E X a wa) (hb : EJ .e E X b wb) : EJ .e E X (.Compare a [.Eq] [b] pos) (wEqO C wf wa wb) := by
  obtain ⟨f, fd, ps, Fo, hm, bd⟩ := F.ex
  refine ⟨(pe_cmpR (op_eqO Fo hm bd hr hx) ha.pe hb.pe (nomark _)).imp fun σ H Q ⟨G0, H0, G, ρ, xc, R, T, q⟩ => ⟨G0, H0, G, ρ, xc, R, T, ha.mo _ _ _ _ (fun x q1 G1 H1 v1 x1 r1 => ⟨G0, H0, G1, ρ, xc, R.ext x1, T, hb.mo _ _ _ _ (fun y q2 G2 H2 v2 x2 r2 => ?_) q1⟩) q⟩,
    fun xc ρ Q Q' i q => ha.mo _ _ _ _ (fun x q => hb.mo _ _ _ _ (fun y ⟨h1, h2, q⟩ => ⟨h1, h2, F.mo _ _ _ _ (fun fr v ⟨t, e, q⟩ => ⟨t, e, i _ q⟩) q⟩) q) q⟩
  obtain ⟨⟨fs, ex⟩, ⟨gs, ey⟩, q3⟩ := q2
  subst ex ey
  have r1' : Rp X.K G2 (.obj C fs) v1 := Rp.mono x2.gg r1
  have r2' : Rp X.K G2 (.obj C gs) v2 := r2
  obtain ⟨p1, dx, vf, rfl, h1, _⟩ := rvO_obj x2.gh (.inl r1')
  obtain ⟨p2, dy, vg, rfl, h2, _⟩ := rvO_obj x2.gh (.inl r2')
  refine ⟨p1, dx, vf, p2, dy, vg, rfl, rfl, h1, h2, rfl, G2, _, xc, x2.gh, .cons r1' (.cons r2' .nil), T.later (R.ex.trans (x1.trans x2)), F.mo _ _ _ _ (fun fr d ⟨t, ed, q4⟩ G' H' v x3 r3 => ?_) q3⟩
  subst ed
  have e3 : v = .bl t := by
    cases fr with
    | false => exact rvO_bl (G := G') (H := H') (.inl r3)
    | true => obtain ⟨_, o, _, _, _, t, _⟩ := r3; cases o <;> exact t.elim
  exact ⟨t, e3, q4 G' H' _ (x1.trans (x2.trans x3)) (.bl t)⟩
/-! ### isinstance(e, C) of an instance of C -/
def wIsO (C : Addr) (w : Wx) : Wx := fun xc ρ Q => w xc ρ fun d => (∃ fs, d = .obj C fs) ∧ Q (.bl true)
theorem ej_isO {C : Addr} {x : Str} {p2 : Pos} (c : C8.InsC X.K C) (hmC : X.mg x = some (.ref C)) (ha : EJ .e E X a w) (hg : Gl X "isinstance") (hm : X.mg "isinstance" = none) (hg2 : Gl X x) (hd : (x == ("__debug__" : Str)) = false := by decide)
    (hst : starEach [a, .Name x p2] X.env = (false, eval a X.env) :: starEach [.Name x p2] X.env := by rfl) (hst2 : starEach [(.Name x p2)] X.env = (false, eval (.Name x p2) X.env) :: starEach [] X.env := by rfl) (hpl : (backTo pos (starEach [(.Name x p2)] X.env)).any (·.1) = false := by rfl) :
    EJ .e E X (.Call (.Name "isinstance" p) [a, .Name x p2] [] pos) (wIsO C w) := by
  have hpa := pa_cons ha.pe (pa_cons (pe_glob (pos := p2) hg2 hmC (show RelV (.ref C) (.ref C) from rfl) hd) pa_nil hst2) hst
  have h := pe_callB (p := p) (pos := pos) (C8.call_isC c) hg hm (by decide +kernel) hpa (by decide) (by decide) hst hpl
  refine ⟨h.imp fun σ H Q ⟨G0, H0, G, ρ, xc, R, T, q⟩ => ⟨G0, H0, G, ρ, xc, R, T, ha.mo _ _ _ _ (fun d ⟨⟨fs, ed⟩, q1⟩ G1 H1 v x1 r1 => ?_) q⟩, fun xc ρ Q Q' i q => ha.mo _ _ _ _ (fun d ⟨ed, q⟩ => ⟨ed, i _ q⟩) q⟩
  subst ed
  obtain ⟨l, dx, vf, rfl, hl, _⟩ := rvO_obj x1.gh (.inl r1)
  exact ⟨l, dx, vf, rfl, hl, q1 G1 H1 _ x1 (.bl _)⟩
/-! ### xs[i] = e, xs an own list -/
/-! ### min, max of two whole numbers -/
/-! ### t < t', tuples of whole numbers -/
/-! ### xs.reverse(), xs.clear() -/
/-! ### C(..) whose arguments are lent: the new object has nothing of them -/
mutual
def D.noL : D → Bool
  | .non => true | .bl _ => true | .int _ => true | .str _ => true
  | .tup xs => D.noLs xs | .xtp xs => D.noLs xs | .obj _ fs => D.noLf fs
  | .lst _ => false | .fls _ => false | .dK _ => false | .dT _ => false
def D.noLs : List D → Bool
  | [] => true
  | x :: xs => D.noL x && D.noLs xs
def D.noLf : List (Str × D) → Bool
  | [] => true
  | (_, x) :: xs => D.noL x && D.noLf xs
end
def HO.isTop : HO → Bool
  | .lst _ => true | .dK _ => true | .dT _ => true
  | _ => false
section
variable {G G' : Hp} (cut : ∀ a o, G a = some o → HO.isTop o = false → G' a = some o)
include cut
mutual
theorem Rp.cut : ∀ {d : D} {v : V}, Rp K G d v → d.noL = true → Rp K G' d v
  | _, _, .non, _ => .non
  | _, _, .bl b, _ => .bl b
  | _, _, .int i, _ => .int i
  | _, _, .str x, _ => .str x
  | _, _, .tup h r, n => by
    rw [D.noL] at n
    refine .tup ?_ (Rps.cut r n)
    rcases h with (h | ⟨o, h⟩) | h
    · exact .inl (.inl (cut _ _ h rfl))
    · exact .inl (.inr ⟨o, cut _ _ h rfl⟩)
    · exact .inr h
  | _, _, .xtp h c m r, n => by rw [D.noL] at n; exact .xtp (cut _ _ h rfl) c m (Rps.cut r n)
  | _, _, .obj h r, n => by rw [D.noL] at n; exact .obj (cut _ _ h rfl) (Rfs.cut r n)
  | _, _, .lst _ _, n => by rw [D.noL] at n; cases n
  | _, _, .fls _ _, n => by rw [D.noL] at n; cases n
  | _, _, .dK _ _, n => by rw [D.noL] at n; cases n
  | _, _, .dT _ _, n => by rw [D.noL] at n; cases n
theorem Rps.cut : ∀ {d : List D} {v : List V}, Rps K G d v → D.noLs d = true → Rps K G' d v
  | _, _, .nil, _ => .nil
  | _, _, .cons h r, n => by rw [D.noLs, Bool.and_eq_true] at n; exact .cons (Rp.cut h n.1) (Rps.cut r n.2)
theorem Rfs.cut : ∀ {d : List (Str × D)} {v : List (Str × V)}, Rfs K G d v → D.noLf d = true → Rfs K G' d v
  | _, _, .nil, _ => .nil
  | _, _, .cons h r, n => by rw [D.noLf, Bool.and_eq_true] at n; exact .cons (Rp.cut h n.1) (Rfs.cut r n.2)
end
end
end
end Tw

/-! Tw, part Z3: enumerate of a tuple; tuple(x) of a tuple whose class is known. -/
namespace Tw
open PySem PySem.Spec L2 PyProof.Rows
abbrev itOf (t : Addr) : Obj := { cls := .type "tuple_iterator", data := .fields #[.ref t, .int 0 0] }
abbrev enOf (i : Addr) : Obj := { cls := .type "enumerate", data := .fields #[.none, .bool false, .ref i, rawInt 0, .none, .none] }
section
open AutoSeq1 (wpAny_loadPart')
/-- enumerate.__new__ over a tuple -/
theorem enum_newT (t : Addr) (ob : Obj) (items : Array Value) (hT : ob.cls = .type "tuple") (hD : ∃ n, ob.data = .seq items n) :
    Meets (Builtin.«enumerate.__new__» ⟨[.type "enumerate", .ref t], []⟩) (fun _ R s => s.heap.get? t = some ob ∧ R (.ok (.ret (.ref (s.heap.push (itOf t)).objs.size))) { s with heap := (s.heap.push (itOf t)).push (enOf s.heap.objs.size) }) :=
  .of_wp fun prog w A R s h => by
    obtain ⟨hp, g, d, tk, os⟩ := s
    obtain ⟨ho, hr⟩ := h
    have en := sub_enumerate
    have isT : Heap.IsTuple (Shared.heap ⟨hp, g, d, tk, os⟩) t items := ⟨_, ho, hT, hD⟩
    wp_walk using wpAny_loadPart' ho
    refine wpAny_stack_any fun st => wpAny_pure ?_
    split
    · rename_i cc _ _ _ _ _
      cases (cc == Value.type "enumerate") <;> (wp_walk using wpAny_loadPart' ho, wpAny_pyIter_tuple isT; exact ⟨_, rfl, hr⟩)
    · wp_walk using wpAny_loadPart' ho, wpAny_pyIter_tuple isT
      exact ⟨_, rfl, hr⟩
end
section
variable {P : Program} {w : World} {A : Around} {E : Value → Shared → Prop} {s : Shared}
theorem call_enumT {t : Addr} {items : Array Value} {Q : Value → Shared → Prop} (hL : s.heap.IsTuple t items)
    (h : ∀ h', IsEnum h' (s.heap.objs.size + 1) s.heap.objs.size 0 .none → h'.IsTupleIter s.heap.objs.size t 0 → (∀ b o, s.heap.get? b = some o → h'.get? b = some o) → Q (.ref (s.heap.objs.size + 1)) { s with heap := h' }) :
    wpAny (model P w) A (call (.type "enumerate") [.ref t]) Q E s := by
  obtain ⟨ob, ho, hc, hd⟩ := hL
  have sz : (s.heap.push (itOf t)).objs.size = s.heap.objs.size + 1 := Heap.size_push ..
  refine callType_new F.called_enumerate (by decide) (F.typeCall_enumerate_1 _) (F.newCall_enumerate_1 _) (fun obj => F.args_object_init_2 obj _) F.entry_enumerate_new (enum_newT t ob items hc hd) ⟨ho, ?_⟩
  show _ ∧ _
  rw [sz]
  have en : IsEnum ((s.heap.push (itOf t)).push (enOf s.heap.objs.size)) (s.heap.objs.size + 1) s.heap.objs.size 0 .none := by
    rw [← sz]; exact Heap.get?_push_size _ rfl
  exact ⟨⟨_, en, rfl⟩, h _ en ⟨_, Heap.get?_push_of_some _ (Heap.get?_push_size _ rfl), rfl, rfl⟩ fun b o x => Heap.get?_push_of_some _ (Heap.get?_push_of_some _ x)⟩
/-- a tuple's iterator, drawn from -/
theorem draws_tup (hh : A.handled = none) (it t : Addr) (hne : t ≠ it) (items : Array Value) : Draws P w A it [it, t] items.size (fun i v => items[i]? = some v) (fun i h => h.IsTupleIter it t i ∧ h.IsTuple t items) where
  live := fun i h ⟨⟨o, ho, _⟩, _⟩ => ⟨o, ho⟩
  frame := fun i h h' ⟨⟨o, ho, r⟩, ⟨o2, ho2, r2⟩⟩ k => ⟨⟨o, k it (by simp) _ ho, r⟩, ⟨o2, k t (by simp) _ ho2, r2⟩⟩
  item := fun i s Q E hi ⟨h1, h2⟩ hQ => RZ.nextOf_tuple_item h1 h2 (x := items[i]) (by simp [hi]) fun h' h3 sb => hQ _ h' s.toks (by simp [hi]) ⟨h3, h2.extBut sb.extBut hne⟩ sb
  done := fun s Q E ⟨h1, h2⟩ hE => RZ.nextOf_tuple_end hh h1 h2 (by simp) hE
end
/-- the turns of enumerate over the tuple at a -/
def IteT (K : PySem.W.Frag) (a : Addr) : It :=
  ⟨fun i H => ∃ (xs : List V) (x : V), SqT K H a xs ∧ xs[i]? = some x, fun i H v H' => ∃ T x, v = .ref T ∧ H T = none ∧ H' = upd H T (.tup [.int (i : Nat), x]) ∧ ∀ xs, SqT K H a xs → xs[i]? = some x, fun i H => ∃ xs : List V, SqT K H a xs ∧ xs.length ≤ i⟩

theorem turn_enumT {P : Program} {w : World} {K : PySem.W.Frag} {elts : List Expr} {kk : Nat} {tpos : Pos} (a e it : Addr) :
    Turn P w K (.Tuple elts kk tpos) (IteT K a) [e, it] e (fun i h => (∃ old, IsEnum h e it ((i : Nat) : Int) old) ∧ h.IsTupleIter it a i ∧ e ≠ it) where
  mem := by simp
  obj := by
    rintro i h ⟨⟨old, he⟩, ⟨o, ho, hc, hd⟩, _⟩ b hb
    rcases List.mem_cons.mp hb with z | hb
    · rw [z]; exact ⟨_, he, fun v q => nomatch q⟩
    · rw [List.mem_singleton.mp hb]; exact ⟨o, ho, fun v q => by rw [hd] at q; cases q⟩
  keep := by
    rintro i h h' ⟨⟨old, he⟩, ⟨o, ho, r⟩, ne⟩ k
    exact ⟨⟨old, k e (by simp) _ he⟩, ⟨o, k it (by simp) _ ho, r⟩, ne⟩
  item := by
    intro X hP hw hK hc i pins s σ H E I hf st hg
    subst hP hw hK
    obtain ⟨⟨old, he⟩, hit, ne⟩ := st
    obtain ⟨xs, x, hq, hx⟩ := hg
    obtain ⟨its, rv, tp, hz⟩ := I.tuple hq
    obtain ⟨u, hu, ru⟩ := rv.get hx
    have tup : s.heap.IsTuple a its.toArray := tp
    have lt : i < its.toArray.size := by
      rw [List.size_toArray]; exact (List.getElem?_eq_some_iff.mp hu).1
    have el : e < s.heap.objs.size := Heap.lt_size he
    have il : it < s.heap.objs.size := let ⟨_, q, _⟩ := hit; Heap.lt_size q
    have nt : a ≠ it := fun z => by
      subst z
      obtain ⟨o1, g1, c1, _⟩ := tup
      obtain ⟨o2, g2, c2, _⟩ := hit
      rw [g1] at g2; cases g2; rw [c1] at c2; exact absurd c2 (by decide)
    have ea : e ≠ a := fun z => by
      subst z
      obtain ⟨o1, g1, c1, _⟩ := tup
      rw [he] at g1; cases g1; exact absurd (show Value.type "enumerate" = Value.type "tuple" from c1) (by decide)
    have hh : X.A.in1.handled = none := by simpa using I.ok.hd hc
    refine wpAny_pyNext_enum_itemD (draws_tup hh it a nt its.toArray) he ⟨hit, tup⟩ lt ne (by simp [ne, ea]) fun y h' tk hy ho st' hT hsz hk => ?_
    have ey : y = u := by
      have : its[i]? = some y := by simpa using hy
      rw [hu] at this; exact (Option.some.inj this).symm
    subst ey
    refine ⟨_, rfl, wpAny_letOwnedTupleGo_enum (s := { s with heap := h', toks := tk + 1 }) ho fun h2 he2 sb => ?_⟩
    have hT2 : h2.get? s.heap.objs.size = some { cls := .type "tuple", data := .seq #[.int i tk, y] } := (sb.2 _ (Nat.ne_of_gt el)).trans hT
    have new : ObjOk X.prog X.w (upd H s.heap.objs.size (.tup [.int (i : Nat), x])) h2 s.heap.objs.size (.tup [.int (i : Nat), x]) :=
      ⟨by show 2 ≤ sizeLine; decide, [.int i tk, y], .cons ⟨_, rfl⟩ (.cons ru .nil), ⟨_, hT2, rfl, _, rfl⟩⟩
    have I1 : Inv X pins σ (upd H s.heap.objs.size (.tup [.int (i : Nat), x])) { s with heap := h2, toks := tk + 1 } :=
      I.turnedNew (ch := [e, it]) (fun b ob hb q => (sb.2 b (fun z => hb (by simp [z]))).trans (hk b ob (fun z => hb (by simp [z])) (fun z => hb (by simp [z])) q)) hf (Nat.le_refl _) new
    refine ⟨.ref s.heap.objs.size, _, I1, rfl, ⟨_, x, rfl, I.hok.fresh (Nat.le_refl _), rfl, fun ys hy => by rw [I.tuple_inj hy hq]; exact hx⟩, ⟨⟨y, ?_⟩, ?_, ne⟩, fun b hb => ?_⟩
    · have e1 : ((i + 1 : Nat) : Int) = (i : Int) + 1 := by omega
      rw [e1]; exact he2
    · obtain ⟨o, ho3, r⟩ := st'.1
      exact ⟨o, (sb.2 it (Ne.symm ne)).trans ho3, r⟩
    · have lb : b < s.heap.objs.size := by
        rcases List.mem_cons.mp hb with z | hb
        · rw [z]; exact el
        · rw [List.mem_singleton.mp hb]; exact il
      rw [upd_ne (Nat.ne_of_lt lb)]
      exact (hf b hb).1
  done := by
    intro X hP hw hK hc i pins s σ H E I hf st hg
    subst hP hw hK
    obtain ⟨⟨old, he⟩, hit, ne⟩ := st
    obtain ⟨xs, hq, hx⟩ := hg
    obtain ⟨its, rv, tp, hz⟩ := I.tuple hq
    have tup : s.heap.IsTuple a its.toArray := tp
    have hl := rv.length
    have nt : a ≠ it := fun z => by
      subst z
      obtain ⟨o1, g1, c1, _⟩ := tup
      obtain ⟨o2, g2, c2, _⟩ := hit
      rw [g1] at g2; cases g2; rw [c1] at c2; exact absurd c2 (by decide)
    have hh : X.A.in1.handled = none := by simpa using I.ok.hd hc
    obtain ⟨f0, f1, f2, f3, f4, f5⟩ := hf it (by simp)
    have D : Draws X.prog X.w X.A.in1 it [it, a] i (fun i v => its.toArray[i]? = some v) (fun j h => j = i ∧ h.IsTupleIter it a i ∧ h.IsTuple a its.toArray) := by
      refine ⟨fun j h ⟨_, ⟨o, ho, _⟩, _⟩ => ⟨o, ho⟩, fun j h h' ⟨ej, ⟨o, ho, r⟩, ⟨o2, ho2, r2⟩⟩ k => ⟨ej, ⟨o, k it (by simp) _ ho, r⟩, ⟨o2, k a (by simp) _ ho2, r2⟩⟩, fun j s Q E hi ⟨ej, _⟩ hQ => absurd ej (by omega), fun s Q E ⟨_, h1, h2⟩ hE => ?_⟩
      exact RZ.nextOf_tuple_end hh h1 h2 (by simp; omega) hE
    exact wpAny_pyNext_enum_endD D he ⟨rfl, hit, tup⟩ fun h' eb => ⟨rfl, I.turned (t' := s.toks) (fun b o hb q => eb b o hb q) f0 f1 f3 f4 f5⟩
  self := fun A i s Q E st h => let ⟨⟨_, he⟩, _⟩ := st; wpAny_pyIter_enum he h
section
variable {X : Cx} {K : PySem.W.Frag} {E : XK} {e a : Expr} {w wa : Wx} {k ka : Kd} {pos p : Pos}
/-- enumerate of a list or a tuple -/
def iEnumA (K : PySem.W.Frag) (ta : TA) : TI := fun σ H R => ta σ H fun vs H1 => ∃ a, vs = [.ref a] ∧ ((∃ xs, SqL K H1 a xs ∧ R (Ite K a) H1) ∨ ∃ xs, SqT K H1 a xs ∧ R (IteT K a) H1)
theorem pi_enumA {ta : TA} {tpos : Pos} {elts : List Expr} {kk : Nat} (hg : Gl X "enumerate") (hm : X.mg "enumerate" = none) (ha : PA X [e] ta) (hs : starEach [e] X.env = [(false, eval e X.env)] := by rfl) :
    PI X (.Tuple elts kk tpos) (.Call (.Name "enumerate" p) [e] [] pos) (iEnumA X.K ta) := by
  refine ⟨fun pins s σ H R I h => Call_ (ld_blt I hg hm boot_enumerate (PyProof.Rows.callWith_type1 (thn (ha.run pos pins s σ H _ I h) fun us s1 ⟨vs, H1, I1, r1, q1⟩ => ?_) hs rfl))⟩
  obtain ⟨a, ex, q⟩ := q1
  subst ex
  obtain ⟨_, rfl, r⟩ := vals1 r1
  cases r
  have fp : ∀ b ∈ [s1.heap.objs.size + 1, s1.heap.objs.size], FpOk X pins H1 b := fun b hb => by
    have hle : s1.heap.objs.size ≤ b := by
      rcases List.mem_cons.mp hb with z | hb
      · omega
      · have := List.mem_singleton.mp hb; omega
    exact I1.fpOk hle (I1.hok.fresh hle)
  rcases q with ⟨xs, hq, q⟩ | ⟨xs, hq, q⟩
  · obtain ⟨its, rv, pl, hz⟩ := I1.list hq
    refine call_enumerate_list pl.isList fun h' he hit hsz hk => wpAny_pyIter_enum he ?_
    exact ⟨s1.heap.objs.size + 1, [s1.heap.objs.size + 1, s1.heap.objs.size], _, _, H1, rfl, I1.kept (t' := s1.toks) hk, turn_enum a _ _, ⟨⟨.none, he⟩, hit, Nat.succ_ne_self _⟩, fp, q⟩
  · obtain ⟨its, rv, pl, hz⟩ := I1.tuple hq
    refine call_enumT (show s1.heap.IsTuple a its.toArray from pl) fun h' he hit hk => wpAny_pyIter_enum he ?_
    exact ⟨s1.heap.objs.size + 1, [s1.heap.objs.size + 1, s1.heap.objs.size], _, _, H1, rfl, I1.kept (t' := s1.toks) hk, turn_enumT a _ _, ⟨⟨.none, he⟩, hit, Nat.succ_ne_self _⟩, fp, q⟩
theorem wk_enumT {a : Addr} {vs : List V} {G : Hp} {ds : List D} (h : SqT K G a vs) (r : Rps K G ds vs) : Wk K (IteT K a) G (ds.zipIdx.map fun q => .tup [.int q.2, q.1]) where
  stop := fun G' H' g1 g2 => ⟨vs, sqT_mono (g1.trans g2) h, by simp [r.length]⟩
  go := fun i G' H' hi g1 g2 => by
    have hv : i < vs.length := by rw [← r.length]; simpa using hi
    exact ⟨vs, vs[i], sqT_mono (g1.trans g2) h, by simp [hv]⟩
  yld := fun i G' H' x H2 hi g1 g2 ⟨t, y, ex, ht, eH, hy⟩ => by
    subst ex eH
    obtain ⟨d, hd, rd⟩ := r.get' (hy vs (sqT_mono (g1.trans g2) h))
    have x2 := Ext.new (o := .tup [V.int ↑i, y]) g2 ht
    refine ⟨_, .tup [.int i, d], x2, ?_, .tup (SqT.of upd_same) (.cons (.int _) (.cons (rd.mono (g1.trans x2.gg)) .nil))⟩
    rw [List.getElem?_map, List.getElem?_zipIdx, hd]
    simp
def wiEnA (w : Wx) : Wa := fun xc ρ Q => w xc ρ fun d => ∃ xs, d.seq = some xs ∧ Q (xs.zipIdx.map fun q => .tup [.int q.2, q.1])
theorem ij_enumA {elts : List Expr} {kk : Nat} {tpos : Pos} (ha : EJ .e E X a w) (hg : Gl X "enumerate") (hm : X.mg "enumerate" = none) (hst : starEach [a] X.env = [(false, eval a X.env)] := by rfl) : IJ E X (.Tuple elts kk tpos) (.Call (.Name "enumerate" p) [a] [] pos) (wiEnA w) := by
  refine ⟨(pi_enumA hg hm (pa_cons ha.pe pa_nil hst) hst).imp fun σ H R' ⟨G0, H0, G, ρ, xc, R, T, q⟩ => ⟨G0, H0, G, ρ, xc, R, T, ha.mo _ _ _ _ (fun d ⟨xs, ed, q1⟩ G1 H1 v x1 r1 => ?_) q⟩, fun xc ρ Q Q' i q => ha.mo _ _ _ _ (fun d ⟨xs, ed, q⟩ => ⟨xs, ed, i _ q⟩) q⟩
  cases d <;> cases ed
  · cases r1 with | tup h r => exact ⟨_, rfl, .inr ⟨_, sqT_mono x1.gh h, q1 G1 H1 _ x1 (wk_enumT h r)⟩⟩
  · cases r1 with | lst h r => exact ⟨_, rfl, .inl ⟨_, SqL.of (x1.gh _ _ h), q1 G1 H1 _ x1 (wk_enum (SqL.of h) r)⟩⟩
  · cases r1 with | fls h r => exact ⟨_, rfl, .inl ⟨_, x1.gh.seq h, q1 G1 H1 _ x1 (wk_enum h r)⟩⟩
  · cases r1 with | xtp h c m r => exact ⟨_, rfl, .inr ⟨_, .inl (.inr ⟨_, x1.gh _ _ h⟩), q1 G1 H1 _ x1 (wk_enumT (.inl (.inr ⟨_, h⟩)) r)⟩⟩
/-- tuple(x), x a list, or a tuple whose class is known -/
def wTupX2 (w : Wx) : Wx := fun xc ρ Q => w xc ρ fun d => ∃ xs, (d = .lst xs ∨ d = .fls xs ∨ d = .xtp xs) ∧ Q (.xtp xs)
theorem callr_or {f : Value} {r r' : List V → Hp → VK → Prop} (h : CallR X f r) (h' : CallR X f r') : CallR X f (fun xs H Q => r xs H Q ∨ r' xs H Q) := fun pins s σ H xs us Q I rv q => q.elim (fun q => h pins s σ H xs us Q I rv q) fun q => h' pins s σ H xs us Q I rv q
theorem ej_tupleX2 (hg : Gl X "tuple") (hm : X.mg "tuple" = none) (ha : EJ k E X a w) (hst : starEach [a] X.env = (false, eval a X.env) :: starEach [] X.env := by rfl) : EJ .e E X (.Call (.Name "tuple" p) [a] [] pos) (wTupX2 w) := by
  have h := pe_callTy (p := p) (pos := pos) (callr_or (call_tupleX (X := X)) call_tupleT) hg hm (by decide +kernel) (pa_cons ha.pe pa_nil hst) (by decide) (by decide) hst rfl
  refine ⟨h.imp fun σ H Q ⟨G0, H0, G, ρ, xc, R, T, q⟩ => ⟨G0, H0, G, ρ, xc, R, T, ha.mo _ _ _ _ (fun d ⟨xs, ed, q1⟩ G1 H1 v x1 r1 => ?_) q⟩, fun xc ρ Q Q' i q => ha.mo _ _ _ _ (fun d ⟨xs, ed, q⟩ => ⟨xs, ed, i _ q⟩) q⟩
  have lst : ∀ {p : Addr} {vs : List V}, SqL X.K H1 p vs → Rps X.K G1 xs vs → _ ∨ _ := fun {p vs} h r => Or.inl (b := ∃ a ys, [V.ref p] = [V.ref a] ∧ SqT X.K H1 a ys ∧ Q (.ref a) H1) (show ∃ p' ys, [V.ref p] = [V.ref p'] ∧ SqL X.K H1 p' ys ∧ ∀ l (o : Obj), H1 l = none → o.cls = .type "tuple" → o.dict = none → Q (.ref l) (upd H1 l (.frz o (.tup ys))) from ⟨p, vs, rfl, h, fun l o hl hc hn => by
    have x2 := Ext.new (o := .frz o (.tup vs)) x1.gh hl
    exact q1 _ _ _ (x1.trans x2) (.xtp upd_same hc hn (r.mono x2.gg))⟩)
  rcases ed with rfl | rfl | rfl
  · obtain ⟨p, vs, rfl, h, r⟩ := rvO_lst x1.gh r1.o
    exact lst (SqL.of h) r
  · obtain ⟨p, vs, rfl, h, r⟩ := rvO_fls x1.gh r1.o
    exact lst h r
  · have r2 := r1.o
    rcases r2 with r2 | ⟨_, o, _, _, t⟩
    · cases r2 with | xtp h c m r => exact .inr ⟨_, _, rfl, .inl (.inr ⟨_, x1.gh _ _ h⟩), q1 _ _ _ x1 (.xtp h c m r)⟩
    · cases o <;> exact t.elim
end
end Tw

/-! Tw, part Z4: sorted(x) of whole numbers, x a list or a tuple. -/
namespace Tw
open PySem PySem.Spec L2 PyProof.Rows
section
variable {P : Program} {w : World} {A : Around} {E : Value → Shared → Prop} {s : Shared}
end
section
variable {X : Cx} {K : PySem.W.Frag} {E : XK} {e a : Expr} {w : Wx} {k : Kd} {pos p : Pos}
end
end Tw

/-! Tw, part T: own errors with one field, raised. -/
namespace Tw
open PySem PySem.Spec L2 PyProof.Rows
section
variable {P : Program} {w : World} {K : PySem.W.Frag} {mg : Str → Option Value} {base : Heap}
end
section
variable {X : Cx} {E : XK} {a : Expr} {w : Wx} {x f g : Str} {C fI : Addr} {fd : FuncData} {k : Nat} {p pos pos2 : Pos}
end
end Tw

/-! Tw, part T: try .. except C as e. -/
namespace Tw
open PySem PySem.Spec L2 PyProof.Rows
section
variable {K : PySem.W.Frag} {G0 H0 G H G' H' : Hp} {ρ : Evn} {σ : L2.St}
theorem Rel.setX {i : Nat} {s : Sl} {x : Option V} (R : Rel K G0 H0 G ρ σ H) (ns : ∀ d, s ≠ .ow d) (r : SlotR K G H H0 s (some x)) : Rel K G0 H0 G (ρ.set i s) (σ.set i x) H := by
  refine ⟨by simp [R.len], R.gh, R.g0, R.h0, R.gn, fun j s' hs => ?_, fun j k d' e a hj hk h1 h2 => ?_⟩
  · by_cases hj : j = i
    · subst hj
      have hlt : j < ρ.length := by
        rcases List.getElem?_eq_some_iff.mp hs with ⟨hl, _⟩; simpa using hl
      rw [List.getElem?_set_self hlt] at hs
      cases hs
      rw [List.getElem?_set_self (by rw [← R.len]; exact hlt)]
      exact r
    · rw [List.getElem?_set_ne (Ne.symm hj)] at hs ⊢
      exact R.sl j s' hs
  · have nj : j ≠ i := fun z => by
      subst z
      rcases List.getElem?_eq_some_iff.mp hj with ⟨hl, he⟩
      simp at he
      exact ns _ he
    have nk : k ≠ i := fun z => by
      subst z
      rcases List.getElem?_eq_some_iff.mp hk with ⟨hl, he⟩
      simp at he
      exact ns _ he
    rw [List.getElem?_set_ne (Ne.symm nj)] at hj h1
    rw [List.getElem?_set_ne (Ne.symm nk)] at hk h2
    exact R.dj j k d' e a hj hk h1 h2
end
/-! ### an expression whose errors are caught by the def itself -/
def ETop : XK := fun _ _ _ => True
theorem tieTop {K : PySem.W.Frag} {G H : Hp} {xc : XC} : TieX K G H ETop xc := fun _ _ _ _ _ _ _ _ => trivial
def liftX (K : PySem.W.Frag) (W : WX) (w : Wx) : TE := fun σ H Q => ∃ G0 H0 G ρ xc, Rel K G0 H0 G ρ σ H ∧ TieX K G H (fun c d H' => W c d σ H') xc ∧ w xc ρ fun d => ∀ G' H' v, Ext G H G' H' → Rp K G' d v → Q v H'
structure EX (X : Cx) (e : Expr) (w : Wx) : Prop where
  pe : ∀ (W : WX) (pn : List (Addr × Obj)) (xe : Value → Shared → Prop), Takes (X.tr pn xe) W → PE (X.tr pn xe) e (liftX X.K W w)
  mo : ∀ xc ρ (Q Q' : D → Prop), (∀ d, Q d → Q' d) → w xc ρ Q → w xc ρ Q'
section
variable {X : Cx} {W : WX} {o e : Expr} {es : List Expr} {ta : TE} {t : TA} {C f : Addr} {fd : FuncData} {ps : List Str} {sp : Sp} {k : Nat} {m : Str} {apos pos : Pos}
end
section
variable {X : Cx} {o e : Expr} {es : List Expr} {w : Wx} {u : Wa} {k : Nat} {pos : Pos}
theorem TieX.laterX {K : PySem.W.Frag} {G H G' H' : Hp} {E : XK} {xc : XC} (T : TieX K G H E xc) (x : Ext G H G' H') : TieX K G' H' E xc := T.later x
end
end Tw

namespace Tw
open PySem PySem.Spec L2 PyProof.Rows
/-- what becomes of an error in the clause 'except c as n' (n in slot i): ok tells the classes that the clause names -/
def hX (ok : Addr → Prop) (i : Nat) (s : Addr → Value → Option Addr → Ws) (Z : Pd) (ρ : Evn) : XC := fun C fs => ok C ∧
  (∀ a p, s a (.ref C) (some p) { Z with nx := fun ρ' => Z.nx (ρ'.set i .no), bk := fun ρ' => Z.bk (ρ'.set i .no), ct := fun ρ' => Z.ct (ρ'.set i .no) } (ρ.set i (.ex a p fs))) ∧
  (fs = [] → ∀ a, s a (.ref C) none { Z with nx := fun ρ' => Z.nx (ρ'.set i .no), bk := fun ρ' => Z.bk (ρ'.set i .no), ct := fun ρ' => Z.ct (ρ'.set i .no) } (ρ.set i (.e0 a)))
/-- try: e except c as n: .. -/
def sTryE (ok : Addr → Prop) (i : Nat) (w : Wx) (s : Addr → Value → Option Addr → Ws) : Ws := fun Z ρ => w (hX ok i s Z ρ) ρ fun _ => Z.nx ρ
section
variable {X : Cx} {E : XK} {e : Expr} {w : Wx} {x n : Str} {c : Value} {i j : Nat} {b₀ : Stmt} {suite body : List Stmt} {np pos pos' : Pos} {ok : Addr → Prop} {s : Addr → Value → Option Addr → Ws}
theorem ties_suite {K : PySem.W.Frag} {G0 H0 G G1 : Hp} {D' : Ends} {Z : Pd} (T : Ties K G0 H0 G E D' Z) (g : Same G G1) :
    Ties K G0 H0 G1 ETop { nx := fun σ' H' => D'.nx (σ'.set i none) H', rt := D'.rt, bk := fun σ' H' => D'.bk (σ'.set i none) H', ct := fun σ' H' => D'.ct (σ'.set i none) H' } { Z with nx := fun ρ' => Z.nx (ρ'.set i .no), bk := fun ρ' => Z.bk (ρ'.set i .no), ct := fun ρ' => Z.ct (ρ'.set i .no) } :=
  ⟨fun ρ σ G' H' R s q => T.nx _ _ _ _ (R.setX (s := .no) (by intro d z; cases z) trivial) (g.trans s) q, T.rt, fun ρ σ G' H' R s q => T.bk _ _ _ _ (R.setX (s := .no) (by intro d z; cases z) trivial) (g.trans s) q,
    fun ρ σ G' H' R s q => T.ct _ _ _ _ (R.setX (s := .no) (by intro d z; cases z) trivial) (g.trans s) q, tieTop⟩
theorem catch_go {G0 H0 G H : Hp} {σ : L2.St} {D' : Ends} {Z : Pd} {ρ : Evn} (R : Rel X.K G0 H0 G ρ σ H) (T : Ties X.K G0 H0 G E D' Z) (hm : ∀ C, ok C → PySem.W.exmOne X.K (.ref C) c = some true) :
    TieX X.K G H (fun cls d H' => wAs X.K c i (fun a cls d => liftS X.K ETop (s a cls d)) (fun _ _ _ _ => False) D' cls d σ H') (hX ok i s Z ρ) := by
  intro C fs G' H' dx x hd ⟨ho, q1, q2⟩
  refine ⟨true, hm C ho, fun _ a ha => ?_, fun z => Bool.noConfusion z⟩
  cases dx with
  | none =>
    have hfs : fs = [] := hd
    refine ⟨G0, H0, G', _, _, (R.ext x).setX (s := .e0 a) (by intro d z; cases z) rfl, ties_suite T x.gg, q2 hfs a⟩
  | some p =>
    obtain ⟨hp, vf, hp2, rf⟩ := hd
    have gs : Same G' (upd G' p (.xd vf)) := fun b u e => by
      by_cases hb : b = p
      · subst hb
        rw [upd_same]
        have := x.gh _ _ e
        rw [hp2] at this
        exact this
      · rw [upd_ne hb]; exact e
    have x2 : Ext G H (upd G' p (.xd vf)) H' := ⟨x.gg.trans gs, x.hh, fun b u e => by
      by_cases hb : b = p
      · subst hb
        rw [upd_same] at e
        rw [hp2]; exact e
      · rw [upd_ne hb] at e; exact x.gh _ _ e, fun b hb q => by
      have : b ≠ p := fun z => hb (z ▸ hp)
      rw [upd_ne this]
      exact x.gn b hb q⟩
    refine ⟨G0, H0, upd G' p (.xd vf), _, _, (R.ext x2).setX (s := .ex a p fs) (by intro d z; cases z) ⟨rfl, vf, upd_same, rf.mono gs⟩, ties_suite T x2.gg, q1 a p⟩
theorem sj_tryE (hs : X.stack = X.env :: X.outer) (hf : X.env.frame = some X.env.locals) (hN : X.N.Nodup) (hi : X.N[i]? = some n) (hln : X.env.kindOf n = some .local) (hc : Names X x c) (he : EX X e w) (hm : ∀ C, ok C → PySem.W.exmOne X.K (.ref C) c = some true)
    {pos1 : Pos} (hst : ∀ pn xe (t : TE), PE (X.tr pn xe) e t → PS (X.tr pn xe) (.Expr e pos1) (tDrop t))
    (hsu : ∀ (a : Addr) (oe : Obj) (cls : Value) (d : Option Addr) (pn : List (Addr × Obj)), Zc cls d oe → (∃ vs, oe.data = .fields vs) → BJ ETop (X.suite a ((a, oe) :: pn)) (b₀ :: suite) (s a cls d)) :
    SJ E X (.Try [.Expr e pos1] [.ExceptHandler (some (.Name x np)) (some n) (b₀ :: suite) pos'] [] [] pos) (sTryE ok i w s) := by
  refine ⟨(ps_try_as (i := i) (tb := fun W => tDrop (liftX X.K W w)) (ts := fun a cls d => liftS X.K ETop (s a cls d)) (Wout := fun _ _ _ _ => False) hs hf hN hi hln hc takes0
    (fun W pn xe tk _ => pss_one (hst pn xe _ (he.pe W pn xe tk))) (fun a oe cls d pn hz hf => (hsu a oe cls d pn hz hf).ps)).imp fun D' σ H ⟨G0, H0, G, ρ, Z, R, T, q⟩ => ?_⟩
  exact ⟨G0, H0, G, ρ, _, R, catch_go R T hm, he.mo _ _ _ _ (fun d q1 G1 H1 v x1 r1 => T.nx _ _ _ _ (R.ext x1) x1.gg q1) q⟩
end
end Tw

namespace Tw
open PySem PySem.Spec L2 PyProof.Rows
section
variable {X : Cx} {a C : Addr} {oe : Obj} {cls : Value} {d : Option Addr} {pn : List (Addr × Obj)} {e : Expr} {pos : Pos} {f : Str} {i : Nat}
end
end Tw

/-! Tw, part T: f(..) in a try. -/
namespace Tw
open PySem PySem.Spec L2 PyProof.Rows
section
variable {X : Cx} {e : Expr} {es : List Expr} {u : Wa} {p pos : Pos} {x : Str}
theorem ex_call {n j : Nat} {wf : Wf} (F : Def X.prog X.w X.K X.mg X.base x n j wf) (hr : Room j X.A) (hg : Gl X x) (h : ∀ pn xe, AJ true ETop (X.tr pn xe) (e :: es) u)
    (hdb : (x == ("__debug__" : Str)) = false := by decide) (he : starEach (e :: es) X.env = (false, eval e X.env) :: starEach es X.env := by rfl) (hpl : (backTo pos (starEach es X.env)).any (·.1) = false := by rfl) :
    EX X (.Call (.Name x p) (e :: es) [] pos) (wCall wf [] u) := by
  obtain ⟨f, fd, ps, Fo, hm, hk, hb⟩ := F.ex
  have h0 := h [] (fun _ _ => True)
  refine ⟨fun W pn xe tk => ?_, fun xc ρ Q Q' i q => h0.mo _ _ _ _ (fun ds q => F.mo _ _ _ _ (fun fr d q => i _ q) q) q⟩
  refine (pe_callS (X := X.tr pn xe) (E := WE W) Fo hr hg hm hk hb (fun σ => passAt tk σ) (h pn xe).pa hdb he hpl).imp fun σ H Q ⟨G0, H0, G, ρ, xc, R, T, q⟩ => ⟨G0, H0, G, ρ, xc, R, tieTop, (h pn xe).mo _ _ _ _ (fun ds q1 G1 H1 vs x1 r1 => ?_) q⟩
  rw [if_pos rfl] at r1
  rw [List.append_nil] at q1
  refine ⟨by rw [← r1.length]; exact F.hn _ _ _ q1, G1, ds, xc, x1.gh, r1, T.laterX x1, F.mo _ _ _ _ (fun fr d q2 G' H' v x2 r3 => ?_) q1⟩
  cases fr with
  | false => exact q2 G' H' v (x1.trans x2) r3
  | true =>
    obtain ⟨G3, x3, r4⟩ := RvF.frz x2 r3
    exact q2 G3 H' v (x1.trans x3) r4
end
end Tw

/-! Tw, part T: own errors with several fields. -/
namespace Tw
open PySem PySem.Spec L2 PyProof.Rows
/-- what __init__(self, f1, ..): self.f1 = f1; .. keeps -/
def spErrN (C : Addr) (fs : List Str) : Sp := fun vs H Q _ => ∃ (a : Addr) (ws : List V), vs = .ref a :: ws ∧ ws.length = fs.length ∧ H a = some (exo a C none) ∧ ∀ dx, H dx = none → dx ≠ a → Q .non (upd (upd H dx (exd dx (fs.zip ws).reverse)) a (exo a C (some dx)))
section
variable {P : Program} {w : World} {K : PySem.W.Frag} {mg : Str → Option Value} {base : Heap}
end
/-- raise C(e1, ..), C with the fields fs -/
def sRaiseN (C : Addr) (fs : List Str) (u : Wa) : Ws := fun Z ρ => u Z.xc ρ fun ds => ds.length = fs.length ∧ Z.xc C (fs.zip ds).reverse
theorem rfs_zip {K : PySem.W.Frag} {G : Hp} : ∀ {fs : List Str} {ds : List D} {vs : List V}, Rps K G ds vs → Rfs K G (fs.zip ds) (fs.zip vs)
  | [], _, _, _ => by simp; exact .nil
  | f :: fs, _, _, .nil => by simp; exact .nil
  | f :: fs, _, _, .cons h r => .cons h (rfs_zip r)
theorem rfs_app {K : PySem.W.Frag} {G : Hp} : ∀ {a c : List (Str × D)} {b d : List (Str × V)}, Rfs K G a b → Rfs K G c d → Rfs K G (a ++ c) (b ++ d)
  | _, _, _, _, .nil, h => h
  | _, _, _, _, .cons x r, h => .cons x (rfs_app r h)
theorem rfs_rev {K : PySem.W.Frag} {G : Hp} : ∀ {a : List (Str × D)} {b : List (Str × V)}, Rfs K G a b → Rfs K G a.reverse b.reverse
  | _, _, .nil => .nil
  | _, _, .cons x r => by
    rw [List.reverse_cons, List.reverse_cons]
    exact rfs_app (rfs_rev r) (.cons x .nil)
section
variable {X : Cx} {E : XK} {a : Expr} {es : List Expr} {u : Wa} {x : Str} {fs ps : List Str} {C fI : Addr} {fd : FuncData} {k : Nat} {p pos pos2 : Pos}
theorem sj_raiseN (hc : X.calm = true) (tk : Takes X (fun cls d _ H => E cls d H)) (T : OexC X.K C) (iC : PySem.W.findIn X.K (.ref C) "__init__" = some (some (.ref fI))) (tI : PySem.W.typeIn X.K (.ref fI) = some (.type "function"))
    (F : FnOk X.prog X.w X.K X.mg X.base (L2.CX X.prog X.w) k fI fd ps (spErrN C fs)) (hr : Room (k + 1) X.A) (hb : Binds X.K fd ps []) (hl : fs.length ≤ 1000) (hg : Gl X x) (hm : X.mg x = some (.ref C)) (ha : AJ true E X (a :: es) u)
    (hdb : (x == ("__debug__" : Str)) = false := by decide) (he : starEach (a :: es) X.env = (false, eval a X.env) :: starEach es X.env := by rfl) (hpl : (backTo pos (starEach es X.env)).any (·.1) = false := by rfl) :
    SJ E X (.Raise (some (.Call (.Name x p) (a :: es) [] pos)) none pos2) (sRaiseN C fs u) := by
  refine ⟨(ps_raise hc tk (pmk_oex (dvs := []) (ds := []) T iC tI F hr hb .nil passL hg hm ha.pa hdb he hpl)).imp fun D' σ H ⟨G0, H0, G, ρ, Z, R, Ti, q⟩ => ?_⟩
  refine ⟨G0, H0, G, ρ, Z.xc, R, Ti.xc, ha.mo _ _ _ _ (fun ds ⟨ln, q1⟩ G1 H1 vs x1 r1 => ?_) q⟩
  rw [if_pos rfl] at r1
  have lv : vs.length = fs.length := by rw [← r1.length]; exact ln
  refine ⟨by rw [lv]; exact hl, fun b hn => ⟨b, vs ++ [], rfl, by simpa using lv, upd_same, fun dx hdx hne => ⟨rfl, dx, (fs.zip vs).reverse, upd_same, ?_, ?_, ?_⟩⟩⟩
  · rw [upd_ne hne, upd_same, List.append_nil]
  · rw [upd_ne hne] at hdx
    exact hdx
  · have hd1 : H1 dx = none := by rw [upd_ne hne] at hdx; exact hdx
    have eq2 : upd (del (upd (upd (upd H1 b (exo b C none)) dx (exd dx (fs.zip (vs ++ [])).reverse)) b (exo b C (some dx))) b) dx (HO.xd (fs.zip vs).reverse) = upd H1 dx (HO.xd (fs.zip vs).reverse) := funext fun c => by
      by_cases hc : c = dx
      · subst hc; rw [upd_same, upd_same]
      · rw [upd_ne hc, upd_ne hc]
        by_cases hb : c = b
        · subst hb; rw [del_same, hn]
        · rw [del_ne hb, upd_ne hb, upd_ne hc, upd_ne hb]
    rw [eq2]
    have x2 : Ext G0 H0 G1 H1 := (R.ext x1).ex
    have sm : Same H1 (upd H1 dx (HO.xd (fs.zip vs).reverse)) := same_upd hd1
    refine Ti.xc C (fs.zip ds).reverse G1 _ (some dx) ⟨x2.gg, x2.hh.trans sm, x2.gh.trans sm, x2.gn⟩ ⟨?_, (fs.zip vs).reverse, upd_same, rfs_rev (rfs_zip r1)⟩ q1
    cases e : H0 dx with
    | none => rfl
    | some o => rw [x2.hh _ _ e] at hd1; cases hd1
end
end Tw

/-! Tw, part T: an own error's class as one fact. -/
namespace Tw
open PySem PySem.Spec L2 PyProof.Rows
/-- the class x at C, whose __init__ stores the fields fs -/
structure Err (P : Program) (w : World) (K : PySem.W.Frag) (mg : Str → Option Value) (base : Heap) (x : Str) (C : Addr) (fs : List Str) (k : Nat) : Prop where
  ex : ∃ (fI : Addr) (fd : FuncData) (ps : List Str), FnOk P w K mg base (L2.CX P w) k fI fd ps (spErrN C fs) ∧ Binds K fd ps [] ∧ PySem.W.findIn K (.ref C) "__init__" = some (some (.ref fI)) ∧ PySem.W.typeIn K (.ref fI) = some (.type "function")
  ox : OexC K C
  hm : mg x = some (.ref C)
  hl : fs.length ≤ 1000
section
variable {X : Cx} {E : XK} {a : Expr} {es : List Expr} {u : Wa} {x : Str} {fs : List Str} {C : Addr} {k : Nat} {p pos pos2 : Pos}
theorem sj_raiseE (F : Err X.prog X.w X.K X.mg X.base x C fs k) (hr : Room (k + 1) X.A) (tk : Takes X (fun cls d _ H => E cls d H)) (ha : AJ true E X (a :: es) u) (hc : X.calm = true := by rfl) (hg : Gl X x := by rfl)
    (hdb : (x == ("__debug__" : Str)) = false := by decide) (he : starEach (a :: es) X.env = (false, eval a X.env) :: starEach es X.env := by rfl) (hpl : (backTo pos (starEach es X.env)).any (·.1) = false := by rfl) :
    SJ E X (.Raise (some (.Call (.Name x p) (a :: es) [] pos)) none pos2) (sRaiseN C fs u) := by
  obtain ⟨fI, fd, ps, Fo, hb, iC, tI⟩ := F.ex
  exact sj_raiseN hc tk F.ox iC tI Fo hr hb F.hl hg F.hm ha hdb he hpl
/-- in the pure proofs: a raise hands its fields to xc -/
theorem raiseN_eq {Z : Pd} {ρ : Evn} {Cc : Addr} {gs : List Str} {v : Wa} : sRaiseN Cc gs v Z ρ = v Z.xc ρ fun ds => ds.length = gs.length ∧ Z.xc Cc (gs.zip ds).reverse := rfl
end
end Tw

/-! What each def of the first stage's laws keeps, over plain data. -/
namespace Tw.S
open PySem PySem.Spec L2 PyProof.Rows Tw
/-! data -/
def iL (l : List Int) : D := .lst (l.map .int)
def sL (l : List Str) : D := .lst (l.map .str)
def t2 (l : List (List Int)) : D := .tup (l.map tI)
def t3 (l : List (List (List Int))) : D := .tup (l.map t2)
def l2 (l : List (List Int)) : D := .lst (l.map iL)
def l3 (l : List (List (List Int))) : D := .lst (l.map l2)
def pL (l : List (List Int)) : D := .lst (l.map tI)
/-- a list, or a tuple whose class is known -/
def qD (t : Bool) (l : List D) : D := if t = true then .xtp l else .lst l
structure Tie where
  a : Str
  b : Str
  w : Str
  at_ : List Int
def tieD (t : Tie) : D := .tup [.str t.a, .str t.b, .str t.w, tI t.at_]
def tsL (l : List Tie) : D := .lst (l.map tieD)
/-- a list, or a tuple that is only read -/
def hD (t : Bool) (l : List D) : D := if t = true then .tup l else .lst l
def letters : Str := "abcdefghijklmnopqrstuvwxyz"
def isName (z : Str) : Bool := decide (1 ≤ z.length) && decide (z.length ≤ 8) && z.cps.toList.all fun c => decide (c ∈ letters.cps.toList)
def climbs (l : List Int) : Bool := (List.range (l.length - 1)).all fun i => decide (l.getD i 0 < l.getD (i + 1) 0)
def isSet (l : List Int) (n : Int) : Bool := (l.all fun x => decide (0 ≤ x) && decide (x < n)) && climbs l
/-- names that a web takes -/
structure NamesOk (names : List Str) : Prop where
  lo : 1 ≤ names.length
  hi : names.length ≤ 8
  nm : ∀ x ∈ names, isName x = true
  nd : names.Nodup
structure TieOk (names : List Str) (beats : Int) (t : Tie) : Prop where
  a : t.a ∈ names
  b : t.b ∈ names
  ne : t.a ≠ t.b
  w : t.w = "two" ∨ t.w = "one"
  at0 : t.at_ ≠ []
  at_ : isSet t.at_ beats = true
structure TiesOk (names : List Str) (beats : Int) (ts : List Tie) : Prop where
  le : ts.length ≤ 100
  ok : ∀ t ∈ ts, TieOk names beats t
def cnt (z : Str) (ts : List Tie) : Nat := (ts.filter fun t => t.a == z || t.b == z).length
/-- does a tie lead from u to v at the beat -/
def Tie.leads (t : Tie) (b : Int) (u v : Str) : Bool := decide (b ∈ t.at_) && ((t.a == u && t.b == v) || (t.b == u && t.a == v && t.w == "two"))
def leads (ts : List Tie) (b : Int) (u v : Str) : Bool := ts.any fun t => t.leads b u v
/-- passages: beat, from, to -/
abbrev Psg := Nat → Nat → Nat → Bool
def rowF (n : Nat) (p : Nat → Bool) : List Int := ((List.range n).filter p).map fun i : Nat => (i : Int)
def tabF (n c : Nat) (L : Psg) : List (List (List Int)) := (List.range c).map fun b => (List.range n).map fun u => rowF n (L b u)
def psgOf (names : List Str) (ts : List Tie) : Psg := fun b u v => leads ts b (names.getD u "") (names.getD v "")
def nextsT (names : List Str) (ts : List Tie) (c : Nat) : List (List (List Int)) := tabF names.length c (psgOf names ts)
def stepsF (l : List Int) (u : Nat) : List Int := ((u : Int) :: l).mergeSort (fun a b => decide (a ≤ b))
def stepsT (nx : List (List (List Int))) : List (List (List Int)) := nx.map fun r => r.zipIdx.map fun q => stepsF q.1 q.2
def webD (C : Addr) (names : List Str) (c : Nat) (nx : List (List (List Int))) : D := .obj C [("places", .xtp (names.map .str)), ("beats", .int c), ("_nexts", t3 nx), ("_steps", t3 (stepsT nx))]
/-- a web of these passages -/
def webP (C : Addr) (names : List Str) (c : Nat) (L : Psg) : D := webD C names c (tabF names.length c L)
/-! the ties of passages, in their one form -/
def beatsF (c : Nat) (p : Nat → Bool) : List Int := ((List.range c).filter p).map fun i : Nat => (i : Int)
def pairTies (names : List Str) (c : Nat) (L : Psg) (u v : Nat) : List Tie :=
  [⟨names.getD u "", names.getD v "", "two", beatsF c fun b => L b u v && L b v u⟩, ⟨names.getD u "", names.getD v "", "one", beatsF c fun b => L b u v && !L b v u⟩, ⟨names.getD v "", names.getD u "", "one", beatsF c fun b => L b v u && !L b u v⟩].filter fun t => !t.at_.isEmpty
def rowTies (names : List Str) (c : Nat) (L : Psg) (u : Nat) : List Tie := (List.range (names.length - (u + 1))).flatMap fun i => pairTies names c L u (u + 1 + i)
def tiesP (names : List Str) (c : Nat) (L : Psg) : List Tie := (List.range names.length).flatMap (rowTies names c L)
/-! the specs -/
/-- one thing told and the same due -/
inductive Sm : Nat → D → D → Prop
  | non {n} : Sm n .non .non
  | bl {n} (b : Bool) : Sm n (.bl b) (.bl b)
  | int {n} (i : Int) : Sm n (.int i) (.int i)
  | str {n} (z : Str) : PyData.strOk z = true → Sm n (.str z) (.str z)
  | tup {n} {xs ys : List D} : xs.length = ys.length → (∀ q ∈ xs.zip ys, Sm n q.1 q.2) → Sm (n + 1) (.tup xs) (.tup ys)
  | lst {n} {xs ys : List D} : xs.length = ys.length → (∀ q ∈ xs.zip ys, Sm n q.1 q.2) → Sm (n + 1) (.lst xs) (.lst ys)
/-- .. and what comes of it -/
inductive SmB : Nat → D → D → Bool → Prop
  | sm {n} {g d : D} : Sm n g d → SmB n g d true
  | bl {n} (b c : Bool) : SmB n (.bl b) (.bl c) (b == c)
  | str {n} (y z : Str) : PyData.strOk y = true → PyData.strOk z = true → SmB n (.str y) (.str z) (y == z)
def wfSame (n : Nat) : Wf := fun _ ds Q => ∃ g d b, ds = [g, d] ∧ SmB n g d b ∧ Q false (.bl b)
def wf_law_same : Wf := wfSame 5
def wf_law_is_int : Wf := fun _ ds Q => ∃ i : Int, ds = [.int i] ∧ Q false (.bl true)
def wf_is_name : Wf := fun _ ds Q => ∃ z, ds = [.str z] ∧ z.length ≤ sizeLine ∧ Q false (.bl (isName z))
def wf_is_set : Wf := fun _ ds Q => ∃ (l : List Int) (n : Int), ds = [tI l, .int n] ∧ l.length ≤ sizeLine ∧ Q false (.bl (isSet l n))
def wf_Web___len__ (C : Addr) : Wf := fun _ ds Q => ∃ names c nx, ds = [webD C names c nx] ∧ Q false (.int names.length)
def wf_Web___eq__ (C : Addr) : Wf := fun _ ds Q => ∃ names c nx names' c' nx', ds = [webD C names c nx, webD C names' c' nx'] ∧ NamesOk names ∧ NamesOk names' ∧ Q false (.bl (decide (names = names') && decide (nx = nx')))
def wf_check_place (C CU : Addr) : Wf := fun xc ds Q => ∃ (names : List Str) (c : Nat) (nx : List (List (List Int))) (p : Int), ds = [webD C names c nx, .int p] ∧ names.length ≤ 8 ∧ (¬(0 ≤ p ∧ p < names.length) → xc CU [("place", .int p)]) ∧ (0 ≤ p → p < names.length → Q false .non)
def wf_Web_steps (C CU : Addr) : Wf := fun xc ds Q => ∃ (names : List Str) (c : Nat) (nx : List (List (List Int))) (p b : Int), ds = [webD C names c nx, .int p, .int b] ∧ names.length ≤ 8 ∧ 0 < c ∧ (¬(0 ≤ p ∧ p < names.length) → xc CU [("place", .int p)]) ∧ (0 ≤ p → p < names.length → ∃ row cell, (stepsT nx)[(b % (c : Int)).toNat]? = some row ∧ row[p.toNat]? = some cell ∧ Q false (tI cell))
def wf_law_draws : Wf := fun _ ds Q => ∃ (sc : List Int) (k n : Nat), ds = [.fls (sc.map .int), .int k, .int n] ∧ sc.length ≤ 63 ∧ k ≤ 63 ∧ n ≤ 1000 ∧ ∀ l : List Int, l.length = n → (∀ x ∈ l, 0 ≤ x ∧ x < 1000) → Q true (iL l)
def wf_law_names : Wf := fun _ ds Q => ∃ (l : List Int) (at_ n : Nat), ds = [iL l, .int at_, .int n] ∧ (∀ x ∈ l, 0 ≤ x ∧ x < 1000) ∧ at_ + 2 < l.length ∧ 1 ≤ n ∧ n ≤ 8 ∧ ∀ names, names.length = n → NamesOk names → Q true (sL names)
structure CodeRow where
  v : Nat
  u : Nat
  codes : List Int
  rest : Int
structure CodeOk (n c : Nat) (r : CodeRow) : Prop where
  lt : r.v < r.u
  hi : r.u < n
  len : r.codes.length = c
  cd : ∀ x ∈ r.codes, 0 ≤ x ∧ x ≤ 3
def wf_law_table : Wf := fun _ ds Q => ∃ (names : List Str) (ts : List Tie) (c : Nat), ds = [sL names, tsL ts, .int c] ∧ NamesOk names ∧ TiesOk names c ts ∧ 1 ≤ c ∧ c ≤ 4 ∧ Q true (l3 (nextsT names ts c))
def wi_Web : Wi := fun _ ds Q => ∃ (t t' : Bool) (names : List Str) (ts : List Tie) (c : Nat), ds = [qD t (names.map .str), qD t' (ts.map tieD), .int c] ∧ NamesOk names ∧ TiesOk names c ts ∧ 1 ≤ c ∧ c ≤ 4 ∧ Q [("places", .xtp (names.map .str)), ("beats", .int c), ("_nexts", t3 (nextsT names ts c)), ("_steps", t3 (stepsT (nextsT names ts c)))]
def wf_check_names : Wf := fun _ ds Q => ∃ t names, ds = [qD t (names.map .str)] ∧ NamesOk names ∧ Q false .non
def tieB (names : List Str) (c : Int) (t : Tie) : Bool := decide (t.a ∈ names) && decide (t.b ∈ names) && !decide (t.a = t.b) && (decide (t.w = "two") || decide (t.w = "one")) && !t.at_.isEmpty && isSet t.at_ c
def otD (o : Option Tie) : D := match o with | none => .tup [] | some t => tieD t
def wf_is_tie : Wf := fun _ ds Q => ∃ (t' : Bool) (names : List Str) (o : Option Tie) (c : Int), ds = [qD t' (names.map .str), otD o, .int c] ∧ (∀ z ∈ names, PyData.strOk z = true) ∧ (∀ t, o = some t → PyData.strOk t.a = true ∧ PyData.strOk t.b = true ∧ PyData.strOk t.w = true ∧ t.at_.length ≤ sizeLine) ∧ Q false (.bl (match o with | none => false | some t => tieB names c t))
def wf_check_ties : Wf := fun _ ds Q => ∃ (t t' : Bool) (names : List Str) (ts : List Tie) (c : Nat), ds = [qD t (names.map .str), qD t' (ts.map tieD), .int c] ∧ NamesOk names ∧ TiesOk names c ts ∧ c ≤ 4 ∧ (∀ t ∈ ts, t.at_.length ≤ sizeLine) ∧ Q false .non
def wf_nexts_at : Wf := fun _ ds Q => ∃ (kvs : List (List Key × D)) (b n : Nat), ds = [.dT kvs, .int b, .int n] ∧ n ≤ 8 ∧ Q false (t2 ((List.range n).map fun u : Nat => rowF n fun v => hasD kvs [.inl (b : Int), .inl (u : Int), .inl (v : Int)]))
def wf_nexts_of : Wf := fun _ ds Q => ∃ (t : Bool) (names : List Str) (ts : List Tie) (c : Nat), ds = [.xtp (names.map .str), qD t (ts.map tieD), .int c] ∧ NamesOk names ∧ TiesOk names c ts ∧ 1 ≤ c ∧ c ≤ 4 ∧ Q false (t3 (nextsT names ts c))
def wf_steps_of : Wf := fun _ ds Q => ∃ nx : List (List (List Int)), ds = [t3 nx] ∧ nx.length ≤ 4 ∧ (∀ r ∈ nx, r.length ≤ 8 ∧ ∀ l ∈ r, l.length ≤ 8) ∧ Q false (t3 (stepsT nx))
/-- rows of a table, as lists or tuples -/
def rD (a b : Bool) (r : List (List Int)) : D := hD a (r.map fun l => hD b (l.map .int))
def wf_ties_between : Wf := fun _ ds Q => ∃ (t a b : Bool) (names : List Str) (c u v : Nat) (L : Psg), ds = [.xtp (names.map .str), hD t ((tabF names.length c L).map (rD a b)), .int u, .int v] ∧ names.length ≤ 8 ∧ u < names.length ∧ v < names.length ∧ c ≤ 4 ∧ Q true (tsL (pairTies names c L u v))
def wf_ties_of : Wf := fun _ ds Q => ∃ (t a b : Bool) (names : List Str) (c : Nat) (L : Psg), ds = [.xtp (names.map .str), hD t ((tabF names.length c L).map (rD a b))] ∧ names.length ≤ 8 ∧ c ≤ 4 ∧ Q true (tsL (tiesP names c L))
def gD_K_Web_2_beats : List D → List D → List D := fun a b => a ++ b
/-! k01's own -/
/-- a tie that stands right in the one form behind the key last -/
structure KeyOk (names : List Str) (c : Nat) (L : Psg) (last : List Int) (t : Tie) (u v : Nat) : Prop where
  hu : u < names.length
  hv : v < names.length
  ne : u ≠ v
  ea : t.a = names.getD u ""
  eb : t.b = names.getD v ""
  w : t.w = "two" ∨ t.w = "one"
  at0 : t.at_ ≠ []
  at_ : isSet t.at_ c = true
  l1 : ∀ b : Nat, (b : Int) ∈ t.at_ → L b u v = true ∧ (L b v u = (t.w == "two"))
  two : t.w = "two" → u < v
def keyF (t : Tie) (u v : Nat) : List Int := [((min u v : Nat) : Int), ((max u v : Nat) : Int), if t.w = "two" then 0 else if u > v then 2 else 1]
def wf_law : Wf := fun _ ds Q => ∃ sc : List Int, ds = [.fls (sc.map .int)] ∧ sc.length ≤ 63 ∧ Q false (.bl true)
end Tw.S

namespace Tw.S
open PySem PySem.Spec L2 PyProof.Rows Tw
theorem mo_wfSame {n : Addr} : MoF (wfSame n) := fun xc ds Q Q' i ⟨v0, v1, v2, c0, c1, q⟩ => ⟨v0, v1, v2, c0, c1, i _ _ q⟩
theorem hn_wfSame {n : Addr} : ∀ ds xc Q, wfSame n xc ds Q → ds.length = 2 := fun ds xc Q ⟨v0, v1, v2, c0, c1, q⟩ => by rw [c0]; rfl
theorem mo_wf_law_is_int : MoF wf_law_is_int := fun xc ds Q Q' i ⟨v0, c0, q⟩ => ⟨v0, c0, i _ _ q⟩
theorem hn_wf_law_is_int : ∀ ds xc Q, wf_law_is_int xc ds Q → ds.length = 1 := fun ds xc Q ⟨v0, c0, q⟩ => by rw [c0]; rfl
theorem mo_wf_is_name : MoF wf_is_name := fun xc ds Q Q' i ⟨v0, c0, c1, q⟩ => ⟨v0, c0, c1, i _ _ q⟩
theorem hn_wf_is_name : ∀ ds xc Q, wf_is_name xc ds Q → ds.length = 1 := fun ds xc Q ⟨v0, c0, c1, q⟩ => by rw [c0]; rfl
theorem mo_wf_is_set : MoF wf_is_set := fun xc ds Q Q' i ⟨v0, v1, c0, c1, q⟩ => ⟨v0, v1, c0, c1, i _ _ q⟩
theorem hn_wf_is_set : ∀ ds xc Q, wf_is_set xc ds Q → ds.length = 2 := fun ds xc Q ⟨v0, v1, c0, c1, q⟩ => by rw [c0]; rfl
theorem mo_wf_Web___len__ {C : Addr} : MoF (wf_Web___len__ C) := fun xc ds Q Q' i ⟨v0, v1, v2, c0, q⟩ => ⟨v0, v1, v2, c0, i _ _ q⟩
theorem hn_wf_Web___len__ {C : Addr} : ∀ ds xc Q, wf_Web___len__ C xc ds Q → ds.length = 1 := fun ds xc Q ⟨v0, v1, v2, c0, q⟩ => by rw [c0]; rfl
theorem mo_wf_Web___eq__ {C : Addr} : MoF (wf_Web___eq__ C) := fun xc ds Q Q' i ⟨v0, v1, v2, v3, v4, v5, c0, c1, c2, q⟩ => ⟨v0, v1, v2, v3, v4, v5, c0, c1, c2, i _ _ q⟩
theorem hn_wf_Web___eq__ {C : Addr} : ∀ ds xc Q, wf_Web___eq__ C xc ds Q → ds.length = 2 := fun ds xc Q ⟨v0, v1, v2, v3, v4, v5, c0, c1, c2, q⟩ => by rw [c0]; rfl
theorem mo_wf_check_place {C : Addr} {CU : Addr} : MoF (wf_check_place C CU) := fun xc ds Q Q' i ⟨v0, v1, v2, v3, c0, c1, c2, q⟩ => ⟨v0, v1, v2, v3, c0, c1, c2, (fun x1 => (fun x2 => i _ _ (((q x1) x2))))⟩
theorem hn_wf_check_place {C : Addr} {CU : Addr} : ∀ ds xc Q, wf_check_place C CU xc ds Q → ds.length = 2 := fun ds xc Q ⟨v0, v1, v2, v3, c0, c1, c2, q⟩ => by rw [c0]; rfl
theorem mo_wf_Web_steps {C : Addr} {CU : Addr} : MoF (wf_Web_steps C CU) := fun xc ds Q Q' i ⟨v0, v1, v2, v3, v4, c0, c1, c2, c3, q⟩ => ⟨v0, v1, v2, v3, v4, c0, c1, c2, c3, (fun x1 => (fun x2 => (match ((q x1) x2) with | ⟨x3, x4, x5, x6, x7⟩ => ⟨x3, x4, x5, x6, i _ _ x7⟩)))⟩
theorem hn_wf_Web_steps {C : Addr} {CU : Addr} : ∀ ds xc Q, wf_Web_steps C CU xc ds Q → ds.length = 3 := fun ds xc Q ⟨v0, v1, v2, v3, v4, c0, c1, c2, c3, q⟩ => by rw [c0]; rfl
theorem mo_wf_law_draws : MoF wf_law_draws := fun xc ds Q Q' i ⟨v0, v1, v2, c0, c1, c2, c3, q⟩ => ⟨v0, v1, v2, c0, c1, c2, c3, (fun x1 => (fun x2 => (fun x3 => i _ _ ((((q x1) x2) x3)))))⟩
theorem hn_wf_law_draws : ∀ ds xc Q, wf_law_draws xc ds Q → ds.length = 3 := fun ds xc Q ⟨v0, v1, v2, c0, c1, c2, c3, q⟩ => by rw [c0]; rfl
theorem mo_wf_law_names : MoF wf_law_names := fun xc ds Q Q' i ⟨v0, v1, v2, c0, c1, c2, c3, c4, q⟩ => ⟨v0, v1, v2, c0, c1, c2, c3, c4, (fun x1 => (fun x2 => (fun x3 => i _ _ ((((q x1) x2) x3)))))⟩
theorem hn_wf_law_names : ∀ ds xc Q, wf_law_names xc ds Q → ds.length = 3 := fun ds xc Q ⟨v0, v1, v2, c0, c1, c2, c3, c4, q⟩ => by rw [c0]; rfl
theorem mo_wf_law_table : MoF wf_law_table := fun xc ds Q Q' i ⟨v0, v1, v2, c0, c1, c2, c3, c4, q⟩ => ⟨v0, v1, v2, c0, c1, c2, c3, c4, i _ _ q⟩
theorem hn_wf_law_table : ∀ ds xc Q, wf_law_table xc ds Q → ds.length = 3 := fun ds xc Q ⟨v0, v1, v2, c0, c1, c2, c3, c4, q⟩ => by rw [c0]; rfl
theorem mo_wi_Web : MoI wi_Web := fun xc ds Q Q' i ⟨v0, v1, v2, v3, v4, c0, c1, c2, c3, c4, q⟩ => ⟨v0, v1, v2, v3, v4, c0, c1, c2, c3, c4, i _ q⟩
theorem hn_wi_Web : ∀ ds xc Q, wi_Web xc ds Q → ds.length = 3 := fun ds xc Q ⟨v0, v1, v2, v3, v4, c0, c1, c2, c3, c4, q⟩ => by rw [c0]; rfl
theorem mo_wf_check_names : MoF wf_check_names := fun xc ds Q Q' i ⟨v0, v1, c0, c1, q⟩ => ⟨v0, v1, c0, c1, i _ _ q⟩
theorem hn_wf_check_names : ∀ ds xc Q, wf_check_names xc ds Q → ds.length = 1 := fun ds xc Q ⟨v0, v1, c0, c1, q⟩ => by rw [c0]; rfl
theorem mo_wf_is_tie : MoF wf_is_tie := fun xc ds Q Q' i ⟨v0, v1, v2, v3, c0, c1, c2, q⟩ => ⟨v0, v1, v2, v3, c0, c1, c2, i _ _ q⟩
theorem hn_wf_is_tie : ∀ ds xc Q, wf_is_tie xc ds Q → ds.length = 3 := fun ds xc Q ⟨v0, v1, v2, v3, c0, c1, c2, q⟩ => by rw [c0]; rfl
theorem mo_wf_check_ties : MoF wf_check_ties := fun xc ds Q Q' i ⟨v0, v1, v2, v3, v4, c0, c1, c2, c3, c4, q⟩ => ⟨v0, v1, v2, v3, v4, c0, c1, c2, c3, c4, i _ _ q⟩
theorem hn_wf_check_ties : ∀ ds xc Q, wf_check_ties xc ds Q → ds.length = 3 := fun ds xc Q ⟨v0, v1, v2, v3, v4, c0, c1, c2, c3, c4, q⟩ => by rw [c0]; rfl
theorem mo_wf_nexts_at : MoF wf_nexts_at := fun xc ds Q Q' i ⟨v0, v1, v2, c0, c1, q⟩ => ⟨v0, v1, v2, c0, c1, i _ _ q⟩
theorem hn_wf_nexts_at : ∀ ds xc Q, wf_nexts_at xc ds Q → ds.length = 3 := fun ds xc Q ⟨v0, v1, v2, c0, c1, q⟩ => by rw [c0]; rfl
theorem mo_wf_nexts_of : MoF wf_nexts_of := fun xc ds Q Q' i ⟨v0, v1, v2, v3, c0, c1, c2, c3, c4, q⟩ => ⟨v0, v1, v2, v3, c0, c1, c2, c3, c4, i _ _ q⟩
theorem hn_wf_nexts_of : ∀ ds xc Q, wf_nexts_of xc ds Q → ds.length = 3 := fun ds xc Q ⟨v0, v1, v2, v3, c0, c1, c2, c3, c4, q⟩ => by rw [c0]; rfl
theorem mo_wf_steps_of : MoF wf_steps_of := fun xc ds Q Q' i ⟨v0, c0, c1, c2, q⟩ => ⟨v0, c0, c1, c2, i _ _ q⟩
theorem hn_wf_steps_of : ∀ ds xc Q, wf_steps_of xc ds Q → ds.length = 1 := fun ds xc Q ⟨v0, c0, c1, c2, q⟩ => by rw [c0]; rfl
theorem mo_wf_ties_between : MoF wf_ties_between := fun xc ds Q Q' i ⟨v0, v1, v2, v3, v4, v5, v6, v7, c0, c1, c2, c3, c4, q⟩ => ⟨v0, v1, v2, v3, v4, v5, v6, v7, c0, c1, c2, c3, c4, i _ _ q⟩
theorem hn_wf_ties_between : ∀ ds xc Q, wf_ties_between xc ds Q → ds.length = 4 := fun ds xc Q ⟨v0, v1, v2, v3, v4, v5, v6, v7, c0, c1, c2, c3, c4, q⟩ => by rw [c0]; rfl
theorem mo_wf_ties_of : MoF wf_ties_of := fun xc ds Q Q' i ⟨v0, v1, v2, v3, v4, v5, c0, c1, c2, q⟩ => ⟨v0, v1, v2, v3, v4, v5, c0, c1, c2, i _ _ q⟩
theorem hn_wf_ties_of : ∀ ds xc Q, wf_ties_of xc ds Q → ds.length = 2 := fun ds xc Q ⟨v0, v1, v2, v3, v4, v5, c0, c1, c2, q⟩ => by rw [c0]; rfl
theorem hn_wf_law : ∀ ds xc Q, wf_law xc ds Q → ds.length = 1 := fun ds xc Q ⟨v0, c0, c1, q⟩ => by rw [c0]; rfl
end Tw.S

namespace Tw.S
open PySem PySem.Spec L2 PyProof.Rows Tw

def b_law_draws : Ws :=
  (sSeq (sSet 3 (wC (.int 0)))
  (sSeq (sIf (wB (w2 oLt (wVar 1) (wN oLen (waCons (wVar 0) waNil))))
  (sSet 3 (wN oAbs (waCons (w2 oIx (wVar 0) (wVar 1)) waNil)))
  sNil)
  (sSeq (sSetO 4 (wLst waNil))
  (sSeq (sIf (wB (w2 oGe (wVar 3) (w2 oPow (wC (.int 10)) (wC (.int 18)))))
  (sSeq (sSet 3 (w2 oSub (wVar 3) (w2 oPow (wC (.int 10)) (wC (.int 18)))))
  (sSeq (sFor (wiR1 (wVar 2)) (gSet 5)
  (sSeq (sApp 4 (w2 oMod (wN oInt (waCons (wVar 3) waNil)) (wC (.int 1000))))
  (sSet 3 (w2 oDiv (wN oInt (waCons (wVar 3) waNil)) (wC (.int 1000))))))
  (sRetO 4)))
  sNil)
  (sSeq (sSet 6 (w2 oPlus (wVar 3) (w2 oMul (w2 oPlus (wVar 1) (wC (.int 1))) (wC (.int 7919)))))
  (sSeq (sFor (wiS (wSl oSl (wVar 0) woN (woS (wC (.int 6))))) (gSet 7)
  (sSet 6 (w2 oMod (wN oInt (waCons (w2 oPlus (w2 oMul (wVar 6) (wC (.int 31))) (wN oAbs (waCons (wVar 7) waNil))) waNil)) (wC (.int 2147483647)))))
  (sSeq (sFor (wiR1 (wVar 2)) (gSet 5)
  (sSeq (sSet 8 (w2 oMod (wN oInt (waCons (w2 oPlus (w2 oMul (wVar 6) (wC (.int 48271))) (w2 oMul (w2 oPlus (wVar 5) (wC (.int 1))) (wC (.int 16807)))) waNil)) (wC (.int 2147483647))))
  (sSeq (sSet 9 (w2 oMod (wN oInt (waCons (w2 oPlus (w2 oMul (wVar 8) (wVar 8)) (wVar 5)) waNil)) (wC (.int 2147483629))))
  (sSeq (sSet 10 (w2 oMod (wN oInt (waCons (w2 oPlus (w2 oMul (wVar 9) (wVar 9)) (wVar 8)) waNil)) (wC (.int 2147483587))))
  (sApp 4 (w2 oMod (w2 oDiv (wVar 10) (wC (.int 7))) (wC (.int 1000))))))))
  (sRetO 4))))))))
def b_law_names : Ws :=
  (sSeq (sSet 3 (wC (.str "abcdefghijklmnopqrstuvwxyz")))
  (sSeq (sSet 4 (wC (.int 0)))
  (sSeq (sIf (wB (w2 oEq (w2 oMod (w2 oDiv (wN oInt (waCons (w2 oIx (wVar 0) (wVar 1)) waNil)) (wC (.int 8))) (wC (.int 2))) (wC (.int 1))))
  (sSet 4 (w2 oMod (wN oInt (waCons (w2 oIx (wVar 0) (wVar 1)) waNil)) (wC (.int 8))))
  sNil)
  (sSeq (sSet 5 (w2 oIx (wVar 3) (w2 oMod (wN oInt (waCons (w2 oIx (wVar 0) (w2 oPlus (wVar 1) (wC (.int 1)))) waNil)) (wC (.int 26)))))
  (sSeq (sSet 6 (w2 oMod (w2 oDiv (wN oInt (waCons (w2 oIx (wVar 0) (w2 oPlus (wVar 1) (wC (.int 1)))) waNil)) (wC (.int 26))) (w2 oPlus (wVar 4) (wC (.int 1)))))
  (sSeq (sSet 7 (w2 oPlus (wC (.int 1)) (w2 oMod (wN oInt (waCons (w2 oIx (wVar 0) (w2 oPlus (wVar 1) (wC (.int 2)))) waNil)) (wC (.int 3)))))
  (sSeq (sSet 8 (w2 oMod (w2 oDiv (wN oInt (waCons (w2 oIx (wVar 0) (w2 oPlus (wVar 1) (wC (.int 2)))) waNil)) (wC (.int 3))) (wC (.int 26))))
  (sSeq (sSetO 9 (wLst waNil))
  (sSeq (sFor (wiR1 (wVar 2)) (gSet 10)
  (sSeq (sSet 11 (w2 oIx (wVar 3) (w2 oMod (w2 oPlus (w2 oMul (wVar 10) (wVar 7)) (wVar 8)) (wC (.int 26)))))
  (sApp 9 (w2 oPlus (w2 oPlus (w2 oMul (wVar 5) (wVar 6)) (wVar 11)) (w2 oMul (wVar 5) (w2 oSub (wVar 4) (wVar 6)))))))
  (sRetO 9))))))))))
def b_law_table : Ws :=
  (sSeq (sSetO 3 (wLst waNil))
  (sSeq (sFor (wiR1 (wVar 2)) (gSet 4)
  (sSeq (sSetO 5 (wLst waNil))
  (sSeq (sFor (wiR1 (wN oLen (waCons (wVar 0) waNil))) (gSet 6)
  (sSeq (sSetO 7 (wLst waNil))
  (sSeq (sFor (wiS (wVar 1)) (gTupD 4 (gsCons (gSet 8) (gsCons (gSet 9) (gsCons (gSet 10) (gsCons (gSet 11) gsNil)))))
  (sSeq (sIf (wAnd (wB (w2 (oIn false) (wVar 4) (wVar 11))) (wB (w2 oEq (wVar 8) (w2 oIx (wVar 0) (wVar 6)))))
  (sApp 7 (wIdx (wVar 0) (wVar 9)))
  sNil)
  (sIf (wAnd (wB (w2 (oIn false) (wVar 4) (wVar 11))) (wAnd (wB (w2 oEq (wVar 9) (w2 oIx (wVar 0) (wVar 6)))) (wB (w2 oEq (wVar 10) (wC (.str "two"))))))
  (sApp 7 (wIdx (wVar 0) (wVar 8)))
  sNil)))
  (sApp 5 (wSortSet (wPeek 7))))))
  (sFrz 5 (sApp 3 (wVar 5))))))
  (sRetO 3)))
def b_law_is_int : Ws :=
  (sRet (wAndV (wIsi "int" (wVar 0)) (wNotV (wIsi "bool" (wVar 0)))))
def b_law_same (wfr : Wf) : Ws :=
  (sSeq (sIf (wB (w2 (oIsN false) (wVar 1) (wC .non)))
  (sRet (w2 (oIsN false) (wVar 0) (wC .non)))
  sNil)
  (sSeq (sIf (wB (w2 oIsB (wVar 1) (wC (.bl true))))
  (sRet (w2 oIsB (wVar 0) (wC (.bl true))))
  sNil)
  (sSeq (sIf (wB (w2 oIsB (wVar 1) (wC (.bl false))))
  (sRet (w2 oIsB (wVar 0) (wC (.bl false))))
  sNil)
  (sSeq (sIf (wTru (wIsi "int" (wVar 1)))
  (sRet (wAndV (wCall wf_law_is_int [] (waCons (wVar 0) waNil)) (w2 oEq (wVar 0) (wVar 1))))
  sNil)
  (sSeq (sIf (wTru (wIsi "str" (wVar 1)))
  (sRet (wAndV (wIsi "str" (wVar 0)) (w2 oEq (wVar 0) (wVar 1))))
  sNil)
  (sSeq (sIf (wAnd (wTru (wIsi "tuple" (wVar 1))) (wNot (wTru (wIsi "tuple" (wVar 0)))))
  (sRet (wC (.bl false)))
  sNil)
  (sSeq (sIf (wAnd (wTru (wIsi "list" (wVar 1))) (wNot (wTru (wIsi "list" (wVar 0)))))
  (sRet (wC (.bl false)))
  sNil)
  (sSeq (sIf (wB (w2 oNe (wN oLen (waCons (wVar 0) waNil)) (wN oLen (waCons (wVar 1) waNil))))
  (sRet (wC (.bl false)))
  sNil)
  (sSeq (sFor (wiZ (wVar 0) (wVar 1)) (gTupD 2 (gsCons (gSet 2) (gsCons (gSet 3) gsNil)))
  (sIf (wNot (wTru (wCall wfr [] (waCons (wVar 2) (waCons (wVar 3) waNil)))))
  (sRet (wC (.bl false)))
  sNil))
  (sRet (wC (.bl true))))))))))))
def b_Web___eq__ (C_Web : Addr) : Ws :=
  (sRet (wAndV (wIsO C_Web (wVar 1)) (wAndV (w2 oEq (wWk (wFld C_Web "places" (wVar 0))) (wWk (wFld C_Web "places" (wVar 1)))) (w2 oEq (wFld C_Web "_nexts" (wVar 0)) (wFld C_Web "_nexts" (wVar 1))))))
def b_ties_between : Ws :=
  (sSeq (sSet 4 (wLc (wiR1 (wN oLen (waCons (wVar 1) waNil))) (gSet 10) (wB (w2 (oIn false) (wVar 3) (w2 oIx (w2 oIx (wVar 1) (wVar 10)) (wVar 2)))) (wVar 10) [10]))
  (sSeq (sSet 5 (wLc (wiR1 (wN oLen (waCons (wVar 1) waNil))) (gSet 10) (wB (w2 (oIn false) (wVar 2) (w2 oIx (w2 oIx (wVar 1) (wVar 10)) (wVar 3)))) (wVar 10) [10]))
  (sSeq (sSet 6 (wN oTuple (waCons (wLc (wiS (wVar 4)) (gSet 10) (wB (w2 (oIn false) (wVar 10) (wVar 5))) (wVar 10) [10]) waNil)))
  (sSeq (sSet 7 (wN oTuple (waCons (wLc (wiS (wVar 4)) (gSet 10) (wB (w2 (oIn true) (wVar 10) (wVar 5))) (wVar 10) [10]) waNil)))
  (sSeq (sSet 8 (wN oTuple (waCons (wLc (wiS (wVar 5)) (gSet 10) (wB (w2 (oIn true) (wVar 10) (wVar 4))) (wVar 10) [10]) waNil)))
  (sSeq (sSet 9 (wTup (waCons (wTup (waCons (w2 oIx (wWk (wVar 0)) (wVar 2)) (waCons (w2 oIx (wWk (wVar 0)) (wVar 3)) (waCons (wC (.str "two")) (waCons (wVar 6) waNil))))) (waCons (wTup (waCons (w2 oIx (wWk (wVar 0)) (wVar 2)) (waCons (w2 oIx (wWk (wVar 0)) (wVar 3)) (waCons (wC (.str "one")) (waCons (wVar 7) waNil))))) (waCons (wTup (waCons (w2 oIx (wWk (wVar 0)) (wVar 3)) (waCons (w2 oIx (wWk (wVar 0)) (wVar 2)) (waCons (wC (.str "one")) (waCons (wVar 8) waNil))))) waNil)))))
  (sRetF (wLc (wiS (wVar 9)) (gSet 11) (wB (w2 oGt (wN oLen (waCons (w2 oIx (wVar 11) (wC (.int 3))) waNil)) (wC (.int 0)))) (wVar 11) [11]))))))))
def b_ties_of : Ws :=
  (sSeq (sSetO 2 (wLst waNil))
  (sSeq (sFor (wiR1 (wN oLen (waCons (wWk (wVar 0)) waNil))) (gSet 3)
  (sFor (wiR2 (w2 oPlus (wVar 3) (wC (.int 1))) (wN oLen (waCons (wWk (wVar 0)) waNil))) (gSet 4)
  (sExt 2 (wCall wf_ties_between [] (waCons (wVar 0) (waCons (wVar 1) (waCons (wVar 3) (waCons (wVar 4) waNil))))))))
  (sRetO 2)))
def b_is_name : Ws :=
  (sRet (wAndV (wCh oLe oLe (wC (.int 1)) (wN oLen (waCons (wVar 0) waNil)) (wC (.int 8))) (wN oAll (waCons (wLc (wiStr (wVar 0)) (gSet 1) wtYes (w2 (oInS false) (wVar 1) (wC (.str "abcdefghijklmnopqrstuvwxyz"))) [1]) waNil))))
def b_check_names : Ws :=
  (sSeq (sIf (wNot (wB (wCh oLe oLe (wC (.int 1)) (wN oLen (waCons (wWk (wVar 0)) waNil)) (wC (.int 8)))))
  (fun _ _ => False)
  sNil)
  (sFor (wiR1 (wN oLen (waCons (wWk (wVar 0)) waNil))) (gSet 1)
  (sIf (wOr (wNot (wTru (wCall wf_is_name [] (waCons (w2 oIx (wWk (wVar 0)) (wVar 1)) waNil)))) (wB (w2 (oIn false) (w2 oIx (wWk (wVar 0)) (wVar 1)) (wSl oSl (wWk (wVar 0)) woN (woS (wVar 1))))))
  (fun _ _ => False)
  sNil)))
def b_is_set : Ws :=
  (sSeq (sSet 2 (wLc (wiS (wVar 0)) (gSet 4) wtYes (wCh oLe oLt (wC (.int 0)) (wVar 4) (wVar 1)) [4]))
  (sSeq (sSet 3 (wLc (wiR1 (w2 oSub (wN oLen (waCons (wVar 0) waNil)) (wC (.int 1)))) (gSet 5) wtYes (w2 oLt (w2 oIx (wVar 0) (wVar 5)) (w2 oIx (wVar 0) (w2 oPlus (wVar 5) (wC (.int 1))))) [5]))
  (sRet (wAndV (wN oAll (waCons (wVar 2) waNil)) (wN oAll (waCons (wVar 3) waNil))))))
def b_is_tie : Ws :=
  (sSeq (sIf (wB (w2 oNe (wN oLen (waCons (wVar 1) waNil)) (wC (.int 4))))
  (sRet (wC (.bl false)))
  sNil)
  (sSeq (sAsg (wVar 1) (gTupD 4 (gsCons (gSet 3) (gsCons (gSet 4) (gsCons (gSet 5) (gsCons (gSet 6) gsNil))))))
  (sSeq (sIf (wOr (wB (w2 (oIn true) (wVar 3) (wWk (wVar 0)))) (wOr (wB (w2 (oIn true) (wVar 4) (wWk (wVar 0)))) (wB (w2 oEq (wVar 3) (wVar 4)))))
  (sRet (wC (.bl false)))
  sNil)
  (sRet (wAndV (w2 (oIn false) (wVar 5) (wTup (waCons (wC (.str "two")) (waCons (wC (.str "one")) waNil)))) (wAndV (w2 oGt (wN oLen (waCons (wVar 6) waNil)) (wC (.int 0))) (wCall wf_is_set [] (waCons (wVar 6) (waCons (wVar 2) waNil)))))))))
def b_check_ties : Ws :=
  (sSeq (sIf (wB (w2 oGt (wN oLen (waCons (wVar 1) waNil)) (wC (.int 100))))
  (fun _ _ => False)
  sNil)
  (sFor (wiEnA (wVar 1)) (gTupD 2 (gsCons (gSet 3) (gsCons (gSet 4) gsNil)))
  (sIf (wNot (wTru (wCall wf_is_tie [] (waCons (wVar 0) (waCons (wVar 4) (waCons (wVar 2) waNil))))))
  (fun _ _ => False)
  sNil)))
def b_nexts_at : Ws :=
  (sRet (wN oTuple (waCons (wLc (wiR1 (wVar 2)) (gSet 3) wtYes (wN oTuple (waCons (wLc (wiR1 (wVar 2)) (gSet 4) (wB (wInT (waCons (wVar 1) (waCons (wVar 3) (waCons (wVar 4) waNil))) (wVar 0))) (wVar 4) [4]) waNil)) [3]) waNil)))
def b_nexts_of : Ws :=
  (sSeq (sSetO 3 (wC (.dT [])))
  (sSeq (sFor (wiS (wVar 1)) (gTupD 4 (gsCons (gSet 4) (gsCons (gSet 5) (gsCons (gSet 6) (gsCons (gSet 7) gsNil)))))
  (sSeq (sSet 8 (wIdxT (wVar 0) (wVar 4)))
  (sSeq (sSet 9 (wIdxT (wVar 0) (wVar 5)))
  (sFor (wiS (wVar 7)) (gSet 10)
  (sSeq (sPutT 3 (waCons (wVar 10) (waCons (wVar 8) (waCons (wVar 9) waNil))) (wC (.bl true)))
  (sIf (wB (w2 oEq (wVar 6) (wC (.str "two"))))
  (sPutT 3 (waCons (wVar 10) (waCons (wVar 9) (waCons (wVar 8) waNil))) (wC (.bl true)))
  sNil))))))
  (sSeq (sSet 11 (wN oLen (waCons (wWk (wVar 0)) waNil)))
  (sFrz 3 (sRet (wN oTuple (waCons (wLc (wiR1 (wVar 2)) (gSet 10) wtYes (wCall wf_nexts_at [] (waCons (wVar 3) (waCons (wVar 10) (waCons (wVar 11) waNil)))) [10]) waNil)))))))
def b_steps_of : Ws :=
  (sRet (wN oTuple (waCons (wLc (wiS (wVar 0)) (gSet 1) wtYes (wN oTuple (waCons (wLc (wiR1 (wN oLen (waCons (wVar 1) waNil))) (gSet 2) wtYes (wN oTuple (waCons (wN oSortI (waCons (wLst (waCons (wVar 2) (waStar (w2 oIx (wVar 1) (wVar 2)) waNil))) waNil)) waNil)) [2]) waNil)) [1]) waNil)))
def b_Web___init__ (C_Web : Addr) : Ws :=
  (sSeq (sExp (wCall wf_check_names [] (waCons (wVar 1) waNil)))
  (sSeq (sIf (wNot (wB (wCh oLe oLe (wC (.int 1)) (wVar 3) (wC (.int 4)))))
  (fun _ _ => False)
  sNil)
  (sSeq (sExp (wCall wf_check_ties [] (waCons (wVar 1) (waCons (wVar 2) (waCons (wVar 3) waNil)))))
  (sSeq (fun Z ρ => OneSe ρ 0 ∧ sFldD 0 C_Web "places" (wTupX2 (wVar 1)) Z ρ)
  (sSeq (fun Z ρ => OneSe ρ 0 ∧ sFldD 0 C_Web "beats" (wVar 3) Z ρ)
  (sSeq (fun Z ρ => OneSe ρ 0 ∧ sFldD 0 C_Web "_nexts" (wCall wf_nexts_of [] (waCons (wSelf 0 C_Web "places") (waCons (wVar 2) (waCons (wVar 3) waNil)))) Z ρ)
  (fun Z ρ => OneSe ρ 0 ∧ sFldD 0 C_Web "_steps" (wCall wf_steps_of [] (waCons (wSelf 0 C_Web "_nexts") waNil)) Z ρ)))))))
def b_Web___len__ (C_Web : Addr) : Ws :=
  (sRet (wN oLen (waCons (wWk (wFld C_Web "places" (wVar 0))) waNil)))
def b_check_place (C_Web : Addr) (C_UnknownPlace : Addr) : Ws :=
  (sIf (wNot (wB (wCh oLe oLt (wC (.int 0)) (wVar 1) (wLenO C_Web (wf_Web___len__ C_Web) (wVar 0)))))
  (sRaiseN C_UnknownPlace ["place"] (waCons (wVar 1) waNil))
  sNil)
def b_Web_steps (C_Web : Addr) (C_UnknownPlace : Addr) : Ws :=
  (sSeq (sExp (wCall (wf_check_place C_Web C_UnknownPlace) [] (waCons (wVar 0) (waCons (wVar 1) waNil))))
  (sRet (w2 oIx (w2 oIx (wFld C_Web "_steps" (wVar 0)) (w2 oMod (wVar 2) (wFld C_Web "beats" (wVar 0)))) (wVar 1))))
end Tw.S

namespace Tw.S
open PySem PySem.Spec L2 PyProof.Rows Tw
abbrev Zd (xc : XC) (Q : Bool → D → Prop) : Pd := { nx := fun _ => Q false .non, rt := Q, xc := xc }
theorem atI_at {α : Type} {l : List α} {i : Int} (h0 : 0 ≤ i) (h : i < l.length) : atI l i = l[i.toNat]? := by
  unfold atI ixN
  rw [if_pos h0, if_pos h]
  rfl
theorem atI_int {l : List Int} {i : Int} (h0 : 0 ≤ i) (h : i < l.length) : atI l i = some (l.getD i.toNat 0) := by
  rw [atI_at h0 h]
  have : i.toNat < l.length := by omega
  simp [this]
theorem all_map {n : Nat} (f : Nat → Bool) : ((List.range n).map fun i => f i).all id = (List.range n).all f := by
  rw [List.all_map]; rfl
def fldOf (C : Addr) (f : Str) (d : D) (Q : D → Prop) : Prop := ∃ fs v, d = .obj C fs ∧ fs.lookup f = some v ∧ Q v
@[simp] theorem wFld_eq {C : Addr} {f : Str} {w : Wx} {xc : XC} {ρ : Evn} {Q : D → Prop} : wFld C f w xc ρ Q = w xc ρ fun d => fldOf C f d Q := rfl
theorem fldOf_mk {C : Addr} {f : Str} {fs : List (Str × D)} {v : D} {Q : D → Prop} (h : fs.lookup f = some v) : fldOf C f (.obj C fs) Q = Q v := propext
  ⟨fun ⟨fs', v', e, l, q⟩ => by cases e; rw [h] at l; cases l; exact q, fun q => ⟨_, _, rfl, h, q⟩⟩
def isO (C : Addr) (d : D) : Prop := ∃ fs, d = .obj C fs
@[simp] theorem wLenO_eq {C : Addr} {wf : Wf} {w : Wx} {xc : XC} {ρ : Evn} {Q : D → Prop} : wLenO C wf w xc ρ Q = w xc ρ fun d => isO C d ∧ wf xc [d] fun _ v => ∃ n : Int, v = .int n ∧ (0 ≤ n ∧ n < 2 ^ 63) ∧ Q v := by
  unfold wLenO isO
  congr 1
  funext d
  exact propext ⟨fun ⟨fs, e, h⟩ => ⟨⟨fs, e⟩, h⟩, fun ⟨⟨fs, e⟩, h⟩ => ⟨fs, e, h⟩⟩
def mOf (C : Addr) (m : Str) (d : D) : Prop := ∃ fs, d = .obj C fs ∧ fs.lookup m = none
@[simp] theorem wMeth_eq {C : Addr} {m : Str} {wf : Wf} {w : Wx} {u : Wa} {xc : XC} {ρ : Evn} {Q : D → Prop} : wMeth C m wf w u xc ρ Q = w xc ρ fun d => mOf C m d ∧ u xc ρ fun ds => wf xc (d :: ds) fun _ v => Q v := by
  unfold wMeth mOf
  congr 1
  funext d
  exact propext ⟨fun ⟨fs, e, l, h⟩ => ⟨⟨fs, e, l⟩, h⟩, fun ⟨⟨fs, e, l⟩, h⟩ => ⟨fs, e, l, h⟩⟩
@[simp] theorem wMethF_eq {C : Addr} {m : Str} {wf : Wf} {w : Wx} {u : Wa} {xc : XC} {ρ : Evn} {Q : D → Prop} : wMethF C m wf w u xc ρ Q = w xc ρ fun d => mOf C m d ∧ u xc ρ fun ds => wf xc (d :: ds) fun fr v => fr = true ∧ Q v := by
  unfold wMethF mOf
  congr 1
  funext d
  exact propext ⟨fun ⟨fs, e, l, h⟩ => ⟨⟨fs, e, l⟩, h⟩, fun ⟨⟨fs, e, l⟩, h⟩ => ⟨fs, e, l, h⟩⟩
section
variable {C : Addr} {names : List Str} {c : Nat} {nx : List (List (List Int))} {Q : D → Prop} {t : Bool} {ds : List D} {i : Int} {lo hi : Option Int}
@[simp] theorem web_places : fldOf C "places" (webD C names c nx) Q = Q (.xtp (names.map .str)) := fldOf_mk rfl
@[simp] theorem web_beats : fldOf C "beats" (webD C names c nx) Q = Q (.int c) := fldOf_mk rfl
@[simp] theorem web_nexts : fldOf C "_nexts" (webD C names c nx) Q = Q (t3 nx) := fldOf_mk rfl
@[simp] theorem web_steps : fldOf C "_steps" (webD C names c nx) Q = Q (t3 (stepsT nx)) := fldOf_mk rfl
@[simp] theorem isO_web : isO C (webD C names c nx) := ⟨_, rfl⟩
theorem len_go {xc : XC} {Q : D → Prop} (hn : names.length ≤ 8) (q : Q (.int names.length)) : wf_Web___len__ C xc [webD C names c nx] fun _ v => ∃ n : Int, v = .int n ∧ (0 ≤ n ∧ n < 2 ^ 63) ∧ Q v :=
  ⟨names, c, nx, rfl, _, rfl, by omega, q⟩
@[simp] theorem qD_f : qD false ds = .lst ds := rfl
@[simp] theorem qD_t : qD true ds = .xtp ds := rfl
@[simp] theorem wk_qD : D.wk (qD t ds) = hD t ds := by cases t <;> rfl
@[simp] theorem len_hD : oLen [hD t ds] Q = Q (.int ds.length) := by cases t <;> rfl
@[simp] theorem len_qD : oLen [qD t ds] Q = Q (.int ds.length) := by cases t <;> rfl
@[simp] theorem ix_hD : oIx (hD t ds) (.int i) Q = ∃ d, atI ds i = some d ∧ Q d := by cases t <;> rfl
@[simp] theorem sl_hD : oSl (hD t ds) lo hi Q = Q (hD t (cutD ds lo hi)) := by cases t <;> rfl
@[simp] theorem seq_qD : D.seq (qD t ds) = some ds := by cases t <;> rfl
@[simp] theorem seq_hD : D.seq (hD t ds) = some ds := by cases t <;> rfl
theorem ok_hD (h : (D.lst ds).ok) : (hD t ds).ok := by
  cases t
  · exact h
  · obtain ⟨h1, h2⟩ := h
    refine ⟨by rw [D.isP] at h1; show D.isP (.tup ds) = true; rw [D.isP]; exact h1, ?_⟩
    rw [D.py] at h2
    show SeqAt.shaped (D.tup ds).py = true
    rw [D.py]
    unfold SeqAt.shaped at h2 ⊢
    simp only [PyData.canLay0, PyData.depth] at h2 ⊢
    exact h2
theorem in_hD {x : Str} {l : List Str} (hx : PyData.strOk x = true) (hl : ∀ z ∈ l, PyData.strOk z = true) (neg : Bool) : oIn neg (.str x) (hD t (l.map .str)) Q = Q (.bl (if neg = true then !decide (x ∈ l) else decide (x ∈ l))) := by
  cases t
  · exact oIn_s hx hl neg
  · have h := any_str (x := x) l
    have o : (D.tup (l.map .str)).ok := ok_hD (t := true) (ok_strs hl)
    show oIn neg (.str x) (.tup (l.map .str)) Q = _
    simp only [oIn, ok_str hx, o, h, true_and]
end
theorem atI_map {α : Type} {l : List α} {f : α → D} {i : Int} : atI (l.map f) i = (atI l i).map f := by
  unfold atI
  simp only [List.length_map, List.getElem?_map]
  cases ixN l.length i <;> rfl
theorem ix_map {α : Type} {l : List α} {f : α → D} {i : Int} {Q : D → Prop} : (∃ d, atI (l.map f) i = some d ∧ Q d) = ∃ x, atI l i = some x ∧ Q (f x) := by
  rw [atI_map]
  cases atI l i <;> simp
section
variable {l : List Int} {p2 : List (List Int)} {p3 : List (List (List Int))} {zs : List Str} {i : Int} {Q : D → Prop}
@[simp] theorem ix_tI : oIx (tI l) (.int i) Q = ∃ x, atI l i = some x ∧ Q (.int x) := ix_map
@[simp] theorem ix_iL : oIx (iL l) (.int i) Q = ∃ x, atI l i = some x ∧ Q (.int x) := ix_map
@[simp] theorem ix_sL : oIx (sL zs) (.int i) Q = ∃ x, atI zs i = some x ∧ Q (.str x) := ix_map
@[simp] theorem ix_t2 : oIx (t2 p2) (.int i) Q = ∃ x, atI p2 i = some x ∧ Q (tI x) := ix_map
@[simp] theorem ix_t3 : oIx (t3 p3) (.int i) Q = ∃ x, atI p3 i = some x ∧ Q (t2 x) := ix_map
@[simp] theorem ix_pL : oIx (pL p2) (.int i) Q = ∃ x, atI p2 i = some x ∧ Q (tI x) := ix_map
@[simp] theorem ix_l2 : oIx (l2 p2) (.int i) Q = ∃ x, atI p2 i = some x ∧ Q (iL x) := ix_map
@[simp] theorem ix_l3 : oIx (l3 p3) (.int i) Q = ∃ x, atI p3 i = some x ∧ Q (l2 x) := ix_map
@[simp] theorem len_tI : oLen [tI l] Q = Q (.int l.length) := by simp [tI]
@[simp] theorem len_iL : oLen [iL l] Q = Q (.int l.length) := by simp [iL]
@[simp] theorem len_sL : oLen [sL zs] Q = Q (.int zs.length) := by simp [sL]
@[simp] theorem len_pL : oLen [pL p2] Q = Q (.int p2.length) := by simp [pL]
@[simp] theorem len_t2 : oLen [t2 p2] Q = Q (.int p2.length) := by simp [t2]
@[simp] theorem seq_tI : D.seq (tI l) = some (l.map .int) := rfl
@[simp] theorem seq_iL : D.seq (iL l) = some (l.map .int) := rfl
@[simp] theorem seq_sL : D.seq (sL zs) = some (zs.map .str) := rfl
@[simp] theorem seq_pL : D.seq (pL p2) = some (p2.map tI) := rfl
@[simp] theorem seq_t3 : D.seq (t3 p3) = some (p3.map t2) := rfl
@[simp] theorem seq_t2 : D.seq (t2 p2) = some (p2.map tI) := rfl
end
theorem p_is_set (xc : XC) (ds : List D) (Q : Bool → D → Prop) (h : wf_is_set xc ds Q) : b_is_set (Zd xc Q) (ds.map .da ++ List.replicate (6 - ds.length) .no) := by
  obtain ⟨l, n, rfl, hl, q⟩ := h
  have hs := sizeLine_eq
  simp [b_is_set]
  refine lc_of l D.int (fun x => .bl (decide (0 ≤ x) && decide (x < n))) (fun x hx k1 h1 => ?_) hl ?_
  · simp
    by_cases h0 : 0 ≤ x
    · exact .inr ⟨h0, by simpa [h0] using h1⟩
    · exact .inl ⟨by omega, by simpa [h0] using h1⟩
  · refine ⟨by omega, lc_rng0 _ (fun i => .bl (decide (l.getD i 0 < l.getD (i + 1) 0))) (fun i hi k1 h1 => ?_) (by omega) ?_⟩
    · simp
      refine ⟨_, atI_int (by omega) (by omega), _, atI_int (by omega) (by omega), ?_⟩
      simpa using h1
    · refine oAll_b (bs := l.map fun x => decide (0 ≤ x) && decide (x < n)) (by simp) ?_
      unfold isSet at q
      have e : (l.map fun x => decide (0 ≤ x) && decide (x < n)).all id = l.all fun x => decide (0 ≤ x) && decide (x < n) := by rw [List.all_map]; rfl
      rw [e]
      cases hb : (l.all fun x => decide (0 ≤ x) && decide (x < n)) with
      | false => rw [hb] at q; exact .inl ⟨rfl, by simpa using q⟩
      | true =>
        rw [hb, Bool.true_and] at q
        refine .inr ⟨rfl, oAll_b (bs := (List.range (l.length - 1)).map fun i => decide (l.getD i 0 < l.getD (i + 1) 0)) (by simp) ?_⟩
        rw [all_map]
        exact q
theorem p_len (C : Addr) (xc : XC) (ds : List D) (Q : Bool → D → Prop) (h : wf_Web___len__ C xc ds Q) : b_Web___len__ C (Zd xc Q) (ds.map .da ++ List.replicate (1 - ds.length) .no) := by
  obtain ⟨names, c, nx, rfl, q⟩ := h
  simp [b_Web___len__]
  simpa using q
theorem p_check_place (C CU : Addr) (xc : XC) (ds : List D) (Q : Bool → D → Prop) (h : wf_check_place C CU xc ds Q) : b_check_place C CU (Zd xc Q) (ds.map .da ++ List.replicate (2 - ds.length) .no) := by
  obtain ⟨names, c, nx, p, rfl, h2, qx, q⟩ := h
  simp [b_check_place, raiseN_eq]
  by_cases h0 : 0 ≤ p
  · refine .inr ⟨h0, len_go h2 ?_⟩
    by_cases h1 : p < names.length
    · simpa [h1] using q h0 h1
    · simpa [h1] using qx fun z => h1 z.2
  · exact .inl ⟨by omega, qx fun z => h0 z.1⟩
theorem p_steps (C CU : Addr) (xc : XC) (ds : List D) (Q : Bool → D → Prop) (h : wf_Web_steps C CU xc ds Q) : b_Web_steps C CU (Zd xc Q) (ds.map .da ++ List.replicate (3 - ds.length) .no) := by
  obtain ⟨names, c, nx, p, b, rfl, h2, h3, qx, q⟩ := h
  simp [b_Web_steps]
  refine ⟨names, c, nx, p, rfl, h2, qx, fun h0 h1 => ?_⟩
  obtain ⟨row, cell, h4, h5, q⟩ := q h0 h1
  have hm : 0 ≤ b % (c : Int) := Int.emod_nonneg _ (by omega)
  have l1 := (List.getElem?_eq_some_iff.mp h4).1
  have l2 := (List.getElem?_eq_some_iff.mp h5).1
  simp [h3]
  exact ⟨_, (atI_at hm (by omega)).trans h4, _, (atI_at h0 (by omega)).trans h5, q⟩
theorem inS_eq {c : Nat} {z : Str} {Q : D → Prop} : oInS false (.str ⟨#[c]⟩) (.str z) Q = Q (.bl (decide (c ∈ z.cps.toList))) := rfl
theorem p_is_name (xc : XC) (ds : List D) (Q : Bool → D → Prop) (h : wf_is_name xc ds Q) : b_is_name (Zd xc Q) (ds.map .da ++ List.replicate (2 - ds.length) .no) := by
  obtain ⟨z, rfl, hl, q⟩ := h
  have hs := sizeLine_eq
  have hz : z.cps.toList.length = z.length := by simp [Str.length]
  simp [b_is_name, wiStr, hl]
  unfold isName at q
  by_cases h1 : 1 ≤ z.length
  · refine .inr ⟨by omega, ?_⟩
    by_cases h8 : z.length ≤ 8
    · refine .inr ⟨by omega, ?_⟩
      refine lc_of z.cps.toList (fun c => .str ⟨#[c]⟩) (fun c => .bl (decide (c ∈ letters.cps.toList))) (fun c hc k1 k => ?_) (by omega) ?_
      · simp only [gSet, w2, wVar, wC, List.set_cons_succ, List.set_cons_zero, List.getElem?_cons_succ, List.getElem?_cons_zero, Option.some.injEq, Sl.da.injEq, exists_eq_left', inS_eq]
        exact k
      · refine oAll_b (bs := z.cps.toList.map fun c => decide (c ∈ letters.cps.toList)) (by simp) ?_
        rw [List.all_map]
        simp [h1, h8] at q
        simpa using q
    · exact .inl ⟨by omega, by simpa [h1, h8] using q⟩
  · exact .inl ⟨by omega, by simpa [h1] using q⟩
theorem p_law_is_int (xc : XC) (ds : List D) (Q : Bool → D → Prop) (h : wf_law_is_int xc ds Q) : b_law_is_int (Zd xc Q) (ds.map .da ++ List.replicate (1 - ds.length) .no) := by
  obtain ⟨i, rfl, q⟩ := h
  simpa [b_law_is_int, wIsi] using q
theorem name_ok {z : Str} (h : isName z = true) : PyData.strOk z = true ∧ z.length ≤ 8 := by
  unfold isName at h
  rw [Bool.and_eq_true, Bool.and_eq_true] at h
  refine ⟨?_, of_decide_eq_true h.1.2⟩
  have hl : ∀ c ∈ letters.cps.toList, c < 0x110000 := by decide +kernel
  unfold PyData.strOk
  rw [← Array.all_toList, List.all_eq_true]
  intro c hc
  exact decide_eq_true (hl c (of_decide_eq_true (List.all_eq_true.mp h.2 c hc)))
theorem NamesOk.ok {names : List Str} (h : NamesOk names) : ∀ z ∈ names, PyData.strOk z = true := fun z hz => (name_ok (h.nm z hz)).1
theorem atI_strs {l : List Str} {i : Nat} (h : i < l.length) : atI l (i : Int) = some l[i] := by
  rw [atI_at (by omega) (by omega)]
  simp [h]
theorem p_check_names (xc : XC) (ds : List D) (Q : Bool → D → Prop) (h : wf_check_names xc ds Q) : b_check_names (Zd xc Q) (ds.map .da ++ List.replicate (2 - ds.length) .no) := by
  obtain ⟨tt, names, rfl, hn, q⟩ := h
  have hs := sizeLine_eq
  have lo := hn.lo
  have hi := hn.hi
  simp [b_check_names, sFor]
  refine ⟨by omega, by omega, by omega, ?_⟩
  refine for_same (List.range names.length) (fun i => .int (0 + (i : Nat))) (fun ρ => ∃ t, ρ = [Sl.da (qD tt (names.map .str)), t]) (fun i ρ N hi ⟨t, e⟩ hN => ?_) ⟨_, rfl⟩ fun ρ _ => q
  subst e
  have hi' := List.mem_range.mp hi
  have hm : names[i] ∈ names := List.getElem_mem hi'
  have ea : atI (names.map D.str) (i : Int) = some (.str names[i]) := by rw [atI_map, atI_strs hi']; rfl
  simp
  refine ⟨_, ea, _, rfl, by have := (name_ok (hn.nm _ hm)).2; omega, ?_⟩
  simp [hn.nm _ hm]
  refine ⟨_, ea, ?_⟩
  simp [wSl, woS, woN]
  have ec : cutD (names.map .str) none (some (i : Int)) = (names.take i).map .str := by
    unfold cutD
    rw [HT.sIx_none, HT.sIx_nat, List.length_map, Nat.min_eq_left (by omega), List.drop_zero, Nat.sub_zero, List.map_take]
  rw [ec, in_hD (hn.ok _ hm) (fun z hz => hn.ok z (List.mem_of_mem_take hz))]
  have hno : ¬ names[i] ∈ names.take i := fun z => by
    obtain ⟨j, hj, e⟩ := List.mem_take_iff_getElem.mp z
    have hj' : j < names.length := by omega
    have := (List.getElem_inj hn.nd).mp e
    omega
  simp [hno]
  exact hN _ ⟨_, rfl⟩
end Tw.S

namespace Tw.S
open PySem PySem.Spec L2 PyProof.Rows Tw
theorem word_ok {z : Str} (h : z = "two" ∨ z = "one") : PyData.strOk z = true := by rcases h with rfl | rfl <;> decide +kernel
theorem tieB_ok {names : List Str} {c : Int} {t : Tie} (h : TieOk names c t) : tieB names c t = true := by
  unfold tieB
  simp [h.a, h.b, h.ne, h.w, h.at0, h.at_]
theorem p_is_tie (xc : XC) (ds : List D) (Q : Bool → D → Prop) (h : wf_is_tie xc ds Q) : b_is_tie (Zd xc Q) (ds.map .da ++ List.replicate (7 - ds.length) .no) := by
  obtain ⟨tt, names, o, c, rfl, hn, ho, q⟩ := h
  have hs := sizeLine_eq
  cases o with
  | none =>
    simp [b_is_tie, otD]
    exact q
  | some t =>
    obtain ⟨oa, ob, ow, hl⟩ := ho t rfl
    replace q : Q false (.bl (tieB names c t)) := q
    unfold tieB at q
    simp [b_is_tie, otD, tieD, sAsg, gTupD, gsCons, gsNil]
    refine ⟨_, _, ⟨rfl, rfl⟩, _, _, rfl, _, _, rfl, _, _, rfl, rfl, ?_⟩
    rw [in_hD oa hn]
    by_cases ha : t.a ∈ names
    · refine .inl ⟨by simp [ha], ?_⟩
      rw [in_hD ob hn]
      by_cases hb : t.b ∈ names
      · refine .inl ⟨by simp [hb], ?_⟩
        rw [oEq_s oa ob]
        by_cases he : t.a = t.b
        · refine .inr ⟨by simp [he], ?_⟩
          simpa [he] using q
        · refine .inl ⟨by simp [he], by omega, ?_⟩
          rw [oIn_ss ow (by decide +kernel) (by decide +kernel)]
          by_cases hw : t.w = "two" ∨ t.w = "one"
          · refine .inr ⟨by rcases hw with e | e <;> simp [e], ?_⟩
            simp
            by_cases h0 : t.at_ = []
            · refine .inl ⟨by simp [h0], ?_⟩
              simpa [h0] using q
            · have := List.length_pos_iff.mpr h0
              refine .inr ⟨by omega, _, _, rfl, hl, ?_⟩
              have h0' : t.at_.isEmpty = false := List.isEmpty_eq_false_iff.mpr h0
              rcases hw with e | e <;> simpa [ha, hb, he, e, h0'] using q
          · refine .inl ⟨by simp only [not_or] at hw; simp [hw.1, hw.2], ?_⟩
            simp only [not_or] at hw
            simpa [hw.1, hw.2] using q
      · refine .inr ⟨by simp [hb], ?_⟩
        simpa [hb] using q
    · refine .inr ⟨by simp [ha], ?_⟩
      simpa [ha] using q
theorem p_check_ties (xc : XC) (ds : List D) (Q : Bool → D → Prop) (h : wf_check_ties xc ds Q) : b_check_ties (Zd xc Q) (ds.map .da ++ List.replicate (5 - ds.length) .no) := by
  obtain ⟨tt, t', names, ts, c, rfl, hn, ht, hc, hl, q⟩ := h
  have le := ht.le
  simp [b_check_ties, sFor, wiEnA]
  refine ⟨by omega, ?_⟩
  have em : List.map (fun q => D.tup [D.int ↑q.snd, q.fst]) (List.map tieD ts).zipIdx = ts.zipIdx.map fun q => D.tup [D.int ↑q.snd, tieD q.fst] := by
    rw [List.zipIdx_map, List.map_map]; rfl
  rw [em]
  refine for_same ts.zipIdx (fun q => D.tup [D.int ↑q.snd, tieD q.fst]) (fun ρ => ∃ a b, ρ = [Sl.da (qD tt (names.map .str)), Sl.da (qD t' (ts.map tieD)), Sl.da (.int c), a, b]) (fun x ρ N hx ⟨a, b, e⟩ hN => ?_) ⟨_, _, rfl⟩ fun ρ _ => q
  subst e
  have hm : x.1 ∈ ts := (List.mem_zipIdx' hx).2 ▸ List.getElem_mem _
  simp [gTupD, gsCons, gsNil]
  have tk := ht.ok _ hm
  refine ⟨_, _, ⟨rfl, rfl⟩, _, _, rfl, rfl, tt, names, some x.1, c, rfl, hn.ok, fun t e => by cases e; exact ⟨hn.ok _ tk.a, hn.ok _ tk.b, word_ok tk.w, hl _ hm⟩, ?_⟩
  simp [tieB_ok tk]
  exact hN _ ⟨_, _, rfl⟩
/-- a set of numbers below n has at most n of them -/
theorem climb_le : ∀ {l : List Int} {n : Int}, isSet l n = true → ∀ (i : Nat) (hi : i < l.length), (i : Int) ≤ l[i] ∧ l[i] < n
  | l, n, h, i, hi => by
    unfold isSet at h
    rw [Bool.and_eq_true] at h
    have hb : ∀ (j : Nat) (hj : j < l.length), 0 ≤ l[j] ∧ l[j] < n := fun j hj => by
      have := List.all_eq_true.mp h.1 _ (List.getElem_mem hj)
      simpa using this
    refine ⟨?_, (hb i hi).2⟩
    induction i with
    | zero => exact (hb 0 hi).1
    | succ i ih =>
      have h1 := ih (by omega)
      have h2 := List.all_eq_true.mp h.2 i (List.mem_range.mpr (by omega))
      have h3 : l[i]'(by omega) < l[i + 1] := by
        have := of_decide_eq_true h2
        simpa [show i < l.length by omega, hi] using this
      omega
theorem set_len {l : List Int} {n : Nat} (h : isSet l n = true) : l.length ≤ n := by
  cases hl : l.length with
  | zero => omega
  | succ k =>
    have := climb_le h k (by omega)
    omega
theorem TieOk.short {names : List Str} {c : Nat} {t : Tie} (h : TieOk names c t) (hc : c ≤ 4) : t.at_.length ≤ sizeLine := by
  have := set_len h.at_
  have := sizeLine_eq
  omega
theorem row_le (n : Nat) (p : Nat → Bool) : (rowF n p).length ≤ n := by
  unfold rowF
  have := List.length_filter_le p (List.range n)
  simp only [List.length_map, List.length_range] at this ⊢
  omega
theorem tab_dims {n c : Nat} {L : Psg} (hn : n ≤ 8) (hc : c ≤ 4) : (tabF n c L).length ≤ 4 ∧ ∀ r ∈ tabF n c L, r.length ≤ 8 ∧ ∀ l ∈ r, l.length ≤ 8 := by
  refine ⟨by simp [tabF]; omega, fun r hr => ?_⟩
  obtain ⟨b, hb, rfl⟩ := List.mem_map.mp hr
  refine ⟨by simp; omega, fun l hl => ?_⟩
  obtain ⟨u, hu, rfl⟩ := List.mem_map.mp hl
  have := row_le n (L b u)
  omega
theorem p_Web_init (C : Addr) (xc : XC) (ds : List D) (Q : List (Str × D) → Prop) (p : Addr) (h : wi_Web xc ds Q) : b_Web___init__ C { nx := fun ρ => ∃ fs, ρ[0]? = some (.se p C fs) ∧ Q fs, rt := fun _ _ => False, xc := xc } (.se p C [] :: (ds.map .da ++ List.replicate (4 - (ds.length + 1)) .no)) := by
  obtain ⟨tt, t', names, ts, c, rfl, hn, ht, h1, h2, q⟩ := h
  have hlen : ∀ t ∈ ts, t.at_.length ≤ sizeLine := fun t h => (ht.ok t h).short h2
  simp (decide := true) [b_Web___init__, wTupX2, wSelf, sFldD, ex2, ex2', putD]
  refine ⟨tt, names, rfl, hn, by omega, by omega, tt, t', names, ts, c, rfl, hn, ht, h2, hlen, names.map .str, by cases tt <;> simp, ?_⟩
  have td := tab_dims (n := names.length) (c := c) (L := psgOf names ts) hn.hi h2
  refine ⟨t', names, ts, c, rfl, hn, ht, h1, h2, _, rfl, nextsT names ts c, rfl, td.1, td.2, ?_⟩
  simpa [putD] using q
theorem sm_nx {n : Nat} {xs ys : List D} {wfr : Wf} {xc : XC} {Q : Bool → D → Prop} {s0 s1 : Sl} (hs : ∀ q ∈ xs.zip ys, Sm n q.1 q.2) (q : Q false (.bl true)) (hw : wfr = wfSame n) :
    forW (gTupD 2 (gsCons (gSet 2) (gsCons (gSet 3) gsNil))) (sIf (wNot (wTru (wCall wfr [] (waCons (wVar 2) (waCons (wVar 3) waNil))))) (sRet (wC (.bl false))) sNil) { nx := sRet (wC (.bl true)) (Zd xc Q), rt := Q, xc := xc } ((xs.zip ys).map fun q => D.tup [q.1, q.2]) [s0, s1, Sl.no, Sl.no] := by
  subst hw
  refine for_same (xs.zip ys) (fun q => D.tup [q.1, q.2]) (fun ρ => ∃ a b, ρ = [s0, s1, a, b]) (fun x ρ N hx ⟨a, b, e⟩ hN => ?_) ⟨_, _, rfl⟩ fun ρ _ => by simpa using q
  subst e
  simp [gTupD, gsCons, gsNil]
  refine ⟨_, _, ⟨rfl, rfl⟩, _, _, rfl, rfl, _, _, _, rfl, .sm (hs x hx), ?_⟩
  simp
  exact hN _ ⟨_, _, rfl⟩
theorem p_law_same0 (wfr : Wf) (xc : XC) (ds : List D) (Q : Bool → D → Prop) (h : wfSame 0 xc ds Q) : b_law_same wfr (Zd xc Q) (ds.map .da ++ List.replicate (4 - ds.length) .no) := by
  obtain ⟨g, d, bb, rfl, hs, q⟩ := h
  simp [b_law_same, wIsi]
  cases hs
  case bl b c => cases b <;> cases c <;> simpa using q
  case str y z hy hz => simpa [oEq_s hy hz] using q
  case sm hs =>
    cases hs
    case non => simpa using q
    case bl b => cases b <;> simpa using q
    case int i => simpa [wf_law_is_int] using q
    case str z hz => simpa [oEq_s hz hz] using q
theorem p_law_same (n : Nat) (xc : XC) (ds : List D) (Q : Bool → D → Prop) (h : wfSame (n + 1) xc ds Q) : b_law_same (wfSame n) (Zd xc Q) (ds.map .da ++ List.replicate (4 - ds.length) .no) := by
  obtain ⟨g, d, bb, rfl, hs, q⟩ := h
  simp [b_law_same, wIsi]
  cases hs
  case bl b c => cases b <;> cases c <;> simpa using q
  case str y z hy hz => simpa [oEq_s hy hz] using q
  case sm hs =>
    cases hs
    case non => simpa using q
    case bl b => cases b <;> simpa using q
    case int i => simpa [wf_law_is_int] using q
    case str z hz => simpa [oEq_s hz hz] using q
    case tup xs ys hl hs =>
      simp [hl, sFor, wiZ, D.isL, D.isT, ex2]
      exact sm_nx (s0 := Sl.da (.tup xs)) (s1 := Sl.da (.tup ys)) hs q rfl
    case lst xs ys hl hs =>
      simp [hl, sFor, wiZ, D.isL, D.isT, ex2]
      exact sm_nx (s0 := Sl.da (.lst xs)) (s1 := Sl.da (.lst ys)) hs q rfl
end Tw.S

namespace Tw.S
open PySem PySem.Spec L2 PyProof.Rows Tw
section
variable {l : List Int} {p2 : List (List Int)} {zs : List Str} {Q : D → Prop}
@[simp] theorem tup_sL : oTuple [sL zs] Q = Q (.tup (zs.map .str)) := rfl
@[simp] theorem tup_iL : oTuple [iL l] Q = Q (tI l) := rfl
end
theorem sm_list {n : Nat} : ∀ {xs : List D}, (∀ x ∈ xs, Sm n x x) → ∀ q ∈ xs.zip xs, Sm n q.1 q.2
  | [], _, q, hq => by simp at hq
  | x :: xs, h, q, hq => by
    rcases List.mem_cons.mp hq with rfl | hq
    · exact h x (by simp)
    · exact sm_list (fun y hy => h y (by simp [hy])) q hq
theorem sm_ints {n : Nat} {l : List Int} : Sm (n + 1) (tI l) (tI l) := by
  refine .tup rfl (sm_list fun x hx => ?_)
  obtain ⟨z, hz, rfl⟩ := List.mem_map.mp hx
  exact .int z
theorem sorted_one : ∀ {a b : List Int}, a.Perm b → a.Pairwise (· ≤ ·) → b.Pairwise (· ≤ ·) → a = b
  | [], b, p, _, _ => by rw [List.nil_perm.mp p]
  | x :: a, [], p, _, _ => by cases List.perm_nil.mp p
  | x :: a, y :: b, p, ha, hb => by
    have ha' := List.pairwise_cons.mp ha
    have hb' := List.pairwise_cons.mp hb
    have hx : x ∈ y :: b := p.subset (by simp)
    have hy : y ∈ x :: a := p.symm.subset (by simp)
    have e : x = y := by
      rcases List.mem_cons.mp hx with e | hx
      · exact e
      · rcases List.mem_cons.mp hy with e | hy
        · exact e.symm
        · have := ha'.1 y hy
          have := hb'.1 x hx
          omega
    subst e
    rw [sorted_one (List.Perm.cons_inv p) ha'.2 hb'.2]
theorem merge_srt (l : List Int) : (l.mergeSort fun a b => decide (a ≤ b)).Pairwise (· ≤ ·) := by
  have h := List.pairwise_mergeSort (le := fun a b : Int => decide (a ≤ b)) (fun a b c h1 h2 => by simp at *; omega) (fun a b => by simp; omega) l
  exact h.imp fun h => of_decide_eq_true h
theorem sort_steps {ms l : List Int} {u : Nat} (p : ms.Perm ((u : Int) :: l)) (s : ms.Pairwise (· ≤ ·)) : ms = stepsF l u :=
  sorted_one (p.trans (List.mergeSort_perm _ _).symm) s (merge_srt _)
theorem tab_at {n c : Nat} {L : Psg} {b : Nat} (hb : b < c) : atI (tabF n c L) (b : Int) = some ((List.range n).map fun u => rowF n (L b u)) := by
  rw [atI_at (by omega) (by simp [tabF]; omega)]
  simp [tabF, hb]
theorem row_at {n : Nat} {f : Nat → List Int} {u : Nat} (hu : u < n) : atI ((List.range n).map f) (u : Int) = some (f u) := by
  rw [atI_at (by omega) (by simp; omega)]
  simp [hu]
theorem steps_tab {n c : Nat} {L : Psg} : stepsT (tabF n c L) = (List.range c).map fun b => (List.range n).map fun u => stepsF (rowF n (L b u)) u := by
  unfold stepsT tabF
  rw [List.map_map]
  apply List.map_congr_left
  intro b _
  show ((List.range n).map fun u => rowF n (L b u)).zipIdx.map (fun q => stepsF q.1 q.2) = _
  apply List.ext_getElem?
  intro i
  rw [List.getElem?_map, List.getElem?_zipIdx, List.getElem?_map, List.getElem?_map]
  by_cases hi : i < n
  · simp [hi]
  · simp [hi]
theorem p_nexts_at (xc : XC) (ds : List D) (Q : Bool → D → Prop) (h : wf_nexts_at xc ds Q) : b_nexts_at (Zd xc Q) (ds.map .da ++ List.replicate (5 - ds.length) .no) := by
  obtain ⟨kvs, b, n, rfl, hn, q⟩ := h
  have hs := sizeLine_eq
  simp [b_nexts_at]
  refine ⟨by omega, ?_⟩
  refine lc_rng0 n (fun u => tI (rowF n fun v : Nat => hasD kvs [.inl (b : Int), .inl (u : Int), .inl (v : Int)])) (fun u hu k1 h1 => ?_) (by omega) ?_
  · simp
    refine ⟨by omega, ?_⟩
    refine lc_rng0F n (fun v => hasD kvs [.inl (b : Int), .inl (u : Int), .inl (v : Int)]) (fun v => .int (v : Nat)) (fun v hv k1 k2 h1 h2 => ?_) (by omega) ?_
    · simp [wInT]
      refine ⟨by omega, [.inl (b : Int), .inl (u : Int), .inl (v : Int)], rfl, ?_⟩
      cases hv : hasD kvs [.inl (b : Int), .inl (u : Int), .inl (v : Int)] with
      | true => simpa using h1 hv
      | false => simpa using h2 hv
    · simpa [tI, rowF, Function.comp_def] using h1
  · simpa [t2, Function.comp_def] using q
theorem p_steps_of (xc : XC) (ds : List D) (Q : Bool → D → Prop) (h : wf_steps_of xc ds Q) : b_steps_of (Zd xc Q) (ds.map .da ++ List.replicate (3 - ds.length) .no) := by
  obtain ⟨nx, rfl, h4, hr, q⟩ := h
  have hs := sizeLine_eq
  simp [b_steps_of]
  refine lc_of nx t2 (fun r => t2 (r.zipIdx.map fun q => stepsF q.1 q.2)) (fun r hm k1 h1 => ?_) (by omega) ?_
  · obtain ⟨h8, hl⟩ := hr r hm
    simp
    refine ⟨by omega, ?_⟩
    refine lc_rng0 r.length (fun u => tI (stepsF (r.getD u []) u)) (fun u hu k1 h1 => ?_) (by omega) ?_
    · have hg : atI r (u : Int) = some r[u] := by rw [atI_at (by omega) (by omega)]; simp [hu]
      simp [waStar]
      refine ⟨_, hg, r[u].map .int, .inl rfl, by have := hl _ (List.getElem_mem hu); simp; omega, ((u : Int) :: r[u]), by simp, fun ms hp hs => ?_⟩
      have e := sort_steps hp hs
      rw [e]
      simpa [hu, tI] using h1
    · have e : (List.range r.length).map (fun u => tI (stepsF (r.getD u []) u)) = (r.zipIdx.map fun q => stepsF q.1 q.2).map tI := by
        apply List.ext_getElem?
        intro i
        by_cases hi : i < r.length
        · simp [hi]
        · simp [hi]
      rw [e]
      exact h1
  · simpa [t3, stepsT, Function.comp_def] using q
end Tw.S

namespace Tw.S
open PySem PySem.Spec L2 PyProof.Rows Tw
@[simp] theorem tru_tI {l : List Int} : D.tru (tI l) = some (!l.isEmpty) := by
  unfold tI
  simp
theorem foldl_flat {α β : Type} (f : α → List β) : ∀ (l : List α) (i : List β), l.foldl (fun a x => a ++ f x) i = i ++ l.flatMap f
  | [], i => by simp
  | x :: l, i => by rw [List.foldl_cons, foldl_flat f l]; simp
theorem fold_count (l : List Nat) (i : Nat) : l.foldl (fun m _ => m + 1) i = i + l.length := by
  induction l generalizing i with
  | nil => rfl
  | cons x l ih => rw [List.foldl_cons, ih]; simp; omega
theorem foldl_map_app {α β : Type} (f : α → β) : ∀ (l : List α) (i : List β), l.foldl (fun a x => a ++ [f x]) i = i ++ l.map f
  | [], i => by simp
  | x :: l, i => by rw [List.foldl_cons, foldl_map_app f l]; simp
def cutA {α : Type} (l : List α) (lo hi : Option Int) : List α := (l.drop (HT.sIx l.length 0 lo)).take (HT.sIx l.length l.length hi - HT.sIx l.length 0 lo)
theorem cutD_map {α : Type} {f : α → D} {l : List α} {lo hi : Option Int} : cutD (l.map f) lo hi = (cutA l lo hi).map f := by
  unfold cutD cutA
  rw [List.length_map, List.map_take, List.map_drop]
def r_draws : Ws := (sSeq (sSetO 4 (wLst waNil))
  (sSeq (sIf (wB (w2 oGe (wVar 3) (w2 oPow (wC (.int 10)) (wC (.int 18)))))
  (sSeq (sSet 3 (w2 oSub (wVar 3) (w2 oPow (wC (.int 10)) (wC (.int 18)))))
  (sSeq (sFor (wiR1 (wVar 2)) (gSet 5)
  (sSeq (sApp 4 (w2 oMod (wN oInt (waCons (wVar 3) waNil)) (wC (.int 1000))))
  (sSet 3 (w2 oDiv (wN oInt (waCons (wVar 3) waNil)) (wC (.int 1000))))))
  (sRetO 4)))
  sNil)
  (sSeq (sSet 6 (w2 oPlus (wVar 3) (w2 oMul (w2 oPlus (wVar 1) (wC (.int 1))) (wC (.int 7919)))))
  (sSeq (sFor (wiS (wSl oSl (wVar 0) woN (woS (wC (.int 6))))) (gSet 7)
  (sSet 6 (w2 oMod (wN oInt (waCons (w2 oPlus (w2 oMul (wVar 6) (wC (.int 31))) (wN oAbs (waCons (wVar 7) waNil))) waNil)) (wC (.int 2147483647)))))
  (sSeq (sFor (wiR1 (wVar 2)) (gSet 5)
  (sSeq (sSet 8 (w2 oMod (wN oInt (waCons (w2 oPlus (w2 oMul (wVar 6) (wC (.int 48271))) (w2 oMul (w2 oPlus (wVar 5) (wC (.int 1))) (wC (.int 16807)))) waNil)) (wC (.int 2147483647))))
  (sSeq (sSet 9 (w2 oMod (wN oInt (waCons (w2 oPlus (w2 oMul (wVar 8) (wVar 8)) (wVar 5)) waNil)) (wC (.int 2147483629))))
  (sSeq (sSet 10 (w2 oMod (wN oInt (waCons (w2 oPlus (w2 oMul (wVar 9) (wVar 9)) (wVar 8)) waNil)) (wC (.int 2147483587))))
  (sApp 4 (w2 oMod (w2 oDiv (wVar 10) (wC (.int 7))) (wC (.int 1000))))))))
  (sRetO 4))))))
theorem pre_lt {n : Nat} {pre post : List Nat} {i : Nat} (e : List.range n = pre ++ i :: post) : pre.length + 1 ≤ n := by
  have := congrArg List.length e
  simp at this
  omega
theorem p_law_draws (xc : XC) (ds : List D) (Q : Bool → D → Prop) (h : wf_law_draws xc ds Q) : b_law_draws (Zd xc Q) (ds.map .da ++ List.replicate (11 - ds.length) .no) := by
  obtain ⟨sc, k, n, rfl, hsc, hk, hn, q⟩ := h
  have hs := sizeLine_eq
  have cp : CPow 10 18 := ⟨by omega, by omega, by decide⟩
  have fin : ∀ (num : Int), r_draws (Zd xc Q) [Sl.da (.fls (sc.map .int)), Sl.da (.int k), Sl.da (.int n), Sl.da (.int num), Sl.no, Sl.no, Sl.no, Sl.no, Sl.no, Sl.no, Sl.no] := by
    intro num
    simp [r_draws, cp, sFor]
    by_cases hb : (1000000000000000000 : Int) ≤ num
    · refine .inr ⟨hb, by omega, ?_⟩
      refine for_fold (List.range n) (fun i => .int (0 + (i : Nat))) (fun m _ => m + 1) (fun m ρ => ∃ (acc : List Int) (v : Int) (a : Sl), ρ = [Sl.da (.fls (sc.map .int)), Sl.da (.int k), Sl.da (.int n), Sl.da (.int v), Sl.ow (.lst (acc.map .int)), a, Sl.no, Sl.no, Sl.no, Sl.no, Sl.no] ∧ acc.length = m ∧ ∀ x ∈ acc, 0 ≤ x ∧ x < 1000) 0 (fun pre i post ρ N e ⟨acc, v, a1, er, el, eb⟩ hN => ?_) ⟨[], _, _, rfl, rfl, by simp⟩ fun ρ ⟨acc, v, a1, er, el, eb⟩ => ?_
      · subst er
        rw [fold_count, Nat.zero_add] at hN el
        have hp := pre_lt e
        have cd : CDiv v 1000 := ⟨by omega, by omega⟩
        simp [sApp, cd]
        refine ⟨by omega, hN _ ⟨acc ++ [v % 1000], v / 1000, Sl.da (.int i), by simp, by simp; omega, fun x hx => ?_⟩⟩
        rcases List.mem_append.mp hx with hx | hx
        · exact eb x hx
        · simp at hx
          subst hx
          omega
      · subst er
        rw [fold_count, Nat.zero_add] at el
        simp [sRetO]
        exact q acc (by simpa using el) eb
    · refine .inl ⟨by omega, ?_⟩
      have cm : CMul ((k : Int) + 1) 7919 := .inr ⟨by omega, by omega⟩
      simp [cm, wSl, woN, woS, cutD_map]
      refine for_fold (cutA sc none (some 6)) D.int (fun (m : Unit) _ => ()) (fun m ρ => ∃ (t : Int) (a : Sl), ρ = [Sl.da (.fls (sc.map .int)), Sl.da (.int k), Sl.da (.int n), Sl.da (.int num), Sl.ow (.lst []), Sl.no, Sl.da (.int t), a, Sl.no, Sl.no, Sl.no]) () (fun pre c post ρ N e ⟨t, a1, er⟩ hN => ?_) ⟨_, _, rfl⟩ fun ρ ⟨t, a1, er⟩ => ?_
      · subst er
        have cm2 : CMul t 31 := .inr ⟨by omega, by omega⟩
        simp [cm2]
        exact hN _ ⟨_, _, rfl⟩
      · subst er
        simp [sFor]
        refine ⟨by omega, ?_⟩
        refine for_fold (List.range n) (fun i => .int (0 + (i : Nat))) (fun m _ => m + 1) (fun m ρ => ∃ (acc : List Int) (a b c d : Sl), ρ = [Sl.da (.fls (sc.map .int)), Sl.da (.int k), Sl.da (.int n), Sl.da (.int num), Sl.ow (.lst (acc.map .int)), a, Sl.da (.int t), a1, b, c, d] ∧ acc.length = m ∧ ∀ x ∈ acc, 0 ≤ x ∧ x < 1000) 0 (fun pre i post ρ N e ⟨acc, b1, b2, b3, b4, er, el, eb⟩ hN => ?_) ⟨[], _, _, _, _, rfl, rfl, by simp⟩ fun ρ ⟨acc, b1, b2, b3, b4, er, el, eb⟩ => ?_
        · subst er
          rw [fold_count, Nat.zero_add] at hN el
          have hp := pre_lt e
          have hi : i < n := List.mem_range.mp (by rw [e]; simp)
          have c1 : CMul t 48271 := .inr ⟨by omega, by omega⟩
          have c2 : CMul ((i : Int) + 1) 16807 := .inr ⟨by omega, by omega⟩
          simp [c1, c2]
          generalize (t * 48271 + ((i : Int) + 1) * 16807) = u
          have c3 : CMul (u % 2147483647) (u % 2147483647) := .inr ⟨by omega, by omega⟩
          simp [c3]
          generalize (u % 2147483647 * (u % 2147483647) + (i : Int)) = u2
          have c4 : CMul (u2 % 2147483629) (u2 % 2147483629) := .inr ⟨by omega, by omega⟩
          simp [c4, sApp]
          generalize (u2 % 2147483629 * (u2 % 2147483629) + u % 2147483647) = u3
          have c5 : CDiv (u3 % 2147483587) 7 := ⟨by omega, by omega⟩
          simp [c5]
          refine ⟨by omega, hN _ ⟨acc ++ [u3 % 2147483587 / 7 % 1000], _, _, _, _, by simp; exact ⟨rfl, rfl, rfl, rfl⟩, by simp; omega, fun x hx => ?_⟩⟩
          rcases List.mem_append.mp hx with hx | hx
          · exact eb x hx
          · simp at hx
            subst hx
            omega
        · subst er
          rw [fold_count, Nat.zero_add] at el
          simp [sRetO]
          exact q acc (by simpa using el) eb
  have eb : b_law_draws = sSeq (sSet 3 (wC (.int 0))) (sSeq (sIf (wB (w2 oLt (wVar 1) (wN oLen (waCons (wVar 0) waNil)))) (sSet 3 (wN oAbs (waCons (w2 oIx (wVar 0) (wVar 1)) waNil))) sNil) r_draws) := rfl
  rw [eb]
  simp
  by_cases hk : k < sc.length
  · refine .inr ⟨hk, ?_⟩
    refine ⟨_, ⟨_, atI_int (by omega) (by omega), rfl⟩, ?_⟩
    simp
    exact fin _
  · exact .inl ⟨by omega, fin 0⟩
end Tw.S

namespace Tw.S
open PySem PySem.Spec L2 PyProof.Rows Tw
theorem ll_eq : letters.cps.toList = (List.range 26).map fun i => 97 + i := by decide +kernel
theorem ll_len : letters.length = 26 := by decide +kernel
theorem ll_at {i : Int} (h0 : 0 ≤ i) (h : i < 26) : atI letters.cps.toList i = some (97 + i.toNat) := by
  have hl : letters.cps.toList.length = 26 := by rw [ll_eq]; simp
  rw [atI_at h0 (by omega), ll_eq]
  have : i.toNat < 26 := by omega
  simp [this]
theorem mul_list (c : Nat) (n : Nat) (h : n ≤ 7) : (Txt.mul ⟨#[c]⟩ (n : Int)).cps.toList = List.replicate n c := by
  match n, h with
  | 0, _ => rfl
  | 1, _ => rfl
  | 2, _ => rfl
  | 3, _ => rfl
  | 4, _ => rfl
  | 5, _ => rfl
  | 6, _ => rfl
  | 7, _ => rfl
  | n + 8, h => omega
theorem mul_len (c : Nat) (n : Nat) (h : n ≤ 7) : (Txt.mul ⟨#[c]⟩ (n : Int)).length = n := by
  have := congrArg List.length (mul_list c n h)
  simpa [Str.length] using this
theorem mul_ok0 : ∀ n : Nat, n ≤ 7 → MulOk ⟨#[0]⟩ (n : Int) := by
  intro n h
  match n, h with
  | 0, _ => exact ⟨rfl, fun h => absurd (by decide) h, fun h => absurd (by decide) h⟩
  | 1, _ => exact ⟨rfl, fun _ h => absurd h (by decide), fun _ h => absurd h (by decide)⟩
  | 2, _ => exact ⟨rfl, fun _ _ => by decide, fun _ _ => by decide +kernel⟩
  | 3, _ => exact ⟨rfl, fun _ _ => by decide, fun _ _ => by decide +kernel⟩
  | 4, _ => exact ⟨rfl, fun _ _ => by decide, fun _ _ => by decide +kernel⟩
  | 5, _ => exact ⟨rfl, fun _ _ => by decide, fun _ _ => by decide +kernel⟩
  | 6, _ => exact ⟨rfl, fun _ _ => by decide, fun _ _ => by decide +kernel⟩
  | 7, _ => exact ⟨rfl, fun _ _ => by decide, fun _ _ => by decide +kernel⟩
  | n + 8, h => omega
theorem mul_ok (c : Nat) (n : Nat) (h : n ≤ 7) : MulOk ⟨#[c]⟩ (n : Int) := mul_ok0 n h
def nmS (c spot rest d : Nat) : Str := Txt.mul ⟨#[c]⟩ (spot : Int) ++ ⟨#[d]⟩ ++ Txt.mul ⟨#[c]⟩ (rest : Int)
theorem nm_list {c spot rest d : Nat} (h1 : spot ≤ 7) (h2 : rest ≤ 7) : (nmS c spot rest d).cps.toList = List.replicate spot c ++ [d] ++ List.replicate rest c := by
  unfold nmS
  show (((Txt.mul ⟨#[c]⟩ (spot : Int)).cps ++ #[d]) ++ (Txt.mul ⟨#[c]⟩ (rest : Int)).cps).toList = _
  rw [Array.toList_append, Array.toList_append, mul_list c spot h1, mul_list c rest h2]
theorem nm_inj {c spot rest d d' : Nat} (h1 : spot ≤ 7) (h2 : rest ≤ 7) (h : nmS c spot rest d = nmS c spot rest d') : d = d' := by
  have e := congrArg (fun z : Str => z.cps.toList) h
  simp only [nm_list h1 h2] at e
  have e2 := congrArg (fun l => l[spot]?) e
  simpa using e2
theorem nm_name {c spot rest d : Nat} (h : spot + rest ≤ 7) (hc : c < 26) (hd : d < 26) : isName (nmS (97 + c) spot rest (97 + d)) = true := by
  have hl := nm_list (c := 97 + c) (spot := spot) (rest := rest) (d := 97 + d) (by omega) (by omega)
  have hlen : (nmS (97 + c) spot rest (97 + d)).length = spot + 1 + rest := by
    have := congrArg List.length hl
    simp [Str.length] at this ⊢
    omega
  have hm : ∀ x, x < 26 → 97 + x ∈ letters.cps.toList := fun x hx => by rw [ll_eq]; exact List.mem_map.mpr ⟨x, List.mem_range.mpr hx, rfl⟩
  unfold isName
  rw [hlen, hl]
  simp only [Bool.and_eq_true, decide_eq_true_eq, List.all_eq_true]
  refine ⟨⟨by omega, by omega⟩, fun x hx => ?_⟩
  simp at hx
  rcases hx with ⟨_, rfl⟩ | rfl | ⟨_, rfl⟩
  · exact hm c hc
  · exact hm d hd
  · exact hm c hc
theorem nodup_map {α β : Type} {f : α → β} : ∀ {l : List α}, l.Nodup → (∀ x ∈ l, ∀ y ∈ l, f x = f y → x = y) → (l.map f).Nodup
  | [], _, _ => by simp
  | x :: l, hn, h => by
    rw [List.map_cons, List.nodup_cons]
    rw [List.nodup_cons] at hn
    refine ⟨fun hm => ?_, nodup_map hn.2 fun a ha b hb e => h a (by simp [ha]) b (by simp [hb]) e⟩
    obtain ⟨y, hy, e⟩ := List.mem_map.mp hm
    have := h y (by simp [hy]) x (by simp) e
    subst this
    exact hn.1 hy
def r_names : Ws := (sSeq (sSet 5 (w2 oIx (wVar 3) (w2 oMod (wN oInt (waCons (w2 oIx (wVar 0) (w2 oPlus (wVar 1) (wC (.int 1)))) waNil)) (wC (.int 26)))))
  (sSeq (sSet 6 (w2 oMod (w2 oDiv (wN oInt (waCons (w2 oIx (wVar 0) (w2 oPlus (wVar 1) (wC (.int 1)))) waNil)) (wC (.int 26))) (w2 oPlus (wVar 4) (wC (.int 1)))))
  (sSeq (sSet 7 (w2 oPlus (wC (.int 1)) (w2 oMod (wN oInt (waCons (w2 oIx (wVar 0) (w2 oPlus (wVar 1) (wC (.int 2)))) waNil)) (wC (.int 3)))))
  (sSeq (sSet 8 (w2 oMod (w2 oDiv (wN oInt (waCons (w2 oIx (wVar 0) (w2 oPlus (wVar 1) (wC (.int 2)))) waNil)) (wC (.int 3))) (wC (.int 26))))
  (sSeq (sSetO 9 (wLst waNil))
  (sSeq (sFor (wiR1 (wVar 2)) (gSet 10)
  (sSeq (sSet 11 (w2 oIx (wVar 3) (w2 oMod (w2 oPlus (w2 oMul (wVar 10) (wVar 7)) (wVar 8)) (wC (.int 26)))))
  (sApp 9 (w2 oPlus (w2 oPlus (w2 oMul (wVar 5) (wVar 6)) (wVar 11)) (w2 oMul (wVar 5) (w2 oSub (wVar 4) (wVar 6)))))))
  (sRetO 9)))))))
theorem p_law_names (xc : XC) (ds : List D) (Q : Bool → D → Prop) (h : wf_law_names xc ds Q) : b_law_names (Zd xc Q) (ds.map .da ++ List.replicate (12 - ds.length) .no) := by
  obtain ⟨l, at_, n, rfl, hb, hat, hn1, hn8, q⟩ := h
  have hs := sizeLine_eq
  have hx : ∀ i : Nat, i < l.length → ∃ x, atI l (i : Int) = some x ∧ 0 ≤ x ∧ x < 1000 := fun i hi => by
    refine ⟨l[i], ?_, hb _ (List.getElem_mem hi)⟩
    rw [atI_at (by omega) (by omega)]; simp [hi]
  obtain ⟨x0, e0, a0, b0⟩ := hx at_ (by omega)
  obtain ⟨x1, e1, a1, b1⟩ := hx (at_ + 1) (by omega)
  obtain ⟨x2, e2, a2, b2⟩ := hx (at_ + 2) (by omega)
  have c1 : ((at_ + 1 : Nat) : Int) = (at_ : Int) + 1 := by omega
  have c2 : ((at_ + 2 : Nat) : Int) = (at_ : Int) + 2 := by omega
  rw [c1] at e1
  rw [c2] at e2
  have d8 : CDiv x0 8 := ⟨by omega, by omega⟩
  have d26 : CDiv x1 26 := ⟨by omega, by omega⟩
  have d3 : CDiv x2 3 := ⟨by omega, by omega⟩
  have el : (Str.ofString "abcdefghijklmnopqrstuvwxyz") = letters := rfl
  have eb : b_law_names = sSeq (sSet 3 (wC (.str letters))) (sSeq (sSet 4 (wC (.int 0))) (sSeq (sIf (wB (w2 oEq (w2 oMod (w2 oDiv (wN oInt (waCons (w2 oIx (wVar 0) (wVar 1)) waNil)) (wC (.int 8))) (wC (.int 2))) (wC (.int 1)))) (sSet 4 (w2 oMod (wN oInt (waCons (w2 oIx (wVar 0) (wVar 1)) waNil)) (wC (.int 8)))) sNil) r_names)) := rfl
  have main : ∀ extra : Nat, extra ≤ 7 → r_names (Zd xc Q) [Sl.da (iL l), Sl.da (.int at_), Sl.da (.int n), Sl.da (.str letters), Sl.da (.int extra), Sl.no, Sl.no, Sl.no, Sl.no, Sl.no, Sl.no, Sl.no] := by
    intro extra hex
    have hll := ll_len
    obtain ⟨f, hf⟩ : ∃ f : Nat, x1 % 26 = f := ⟨(x1 % 26).toNat, by omega⟩
    obtain ⟨spot, hsp⟩ : ∃ f : Nat, x1 / 26 % ((extra : Int) + 1) = f := ⟨(x1 / 26 % ((extra : Int) + 1)).toNat, by
      have := Int.emod_nonneg (x1 / 26) (show ((extra : Int) + 1) ≠ 0 by omega)
      omega⟩
    have hspl : spot ≤ extra := by
      have := Int.emod_lt_of_pos (x1 / 26) (show (0 : Int) < (extra : Int) + 1 by omega)
      omega
    obtain ⟨stride, hst⟩ : ∃ f : Nat, 1 + x2 % 3 = f := ⟨(1 + x2 % 3).toNat, by omega⟩
    obtain ⟨shift, hsh⟩ : ∃ f : Nat, x2 / 3 % 26 = f := ⟨(x2 / 3 % 26).toNat, by omega⟩
    have p1 : (0 : Int) < (extra : Int) + 1 := by omega
    have hfl : atI letters.cps.toList (x1 % 26) = some (97 + f) := by rw [ll_at (by omega) (by omega), hf]; simp
    have hz : letters.length ≤ sizeLine := by omega
    simp [r_names, e1, e2, d26, d3, hz, hfl, p1, sFor]
    rw [hsp, hst, hsh]
    refine ⟨by omega, ?_⟩
    have hs1 : 1 ≤ stride ∧ stride ≤ 3 := by omega
    have hsh26 : shift < 26 := by omega
    let nm : Nat → Str := fun i => nmS (97 + f) spot (extra - spot) (97 + (i * stride + shift) % 26)
    refine for_fold (List.range n) (fun i => .int (0 + (i : Nat))) (fun acc i => acc ++ [nm i]) (fun acc ρ => ∃ a b : Sl, ρ = [Sl.da (iL l), Sl.da (D.int at_), Sl.da (D.int n), Sl.da (D.str letters), Sl.da (D.int extra), Sl.da (D.str ⟨#[97 + f]⟩), Sl.da (D.int spot), Sl.da (D.int stride), Sl.da (D.int shift), Sl.ow (D.lst (acc.map .str)), a, b]) [] (fun pre i post ρ N e ⟨a1, a2, er⟩ hN => ?_) ⟨_, _, rfl⟩ fun ρ ⟨a1, a2, er⟩ => ?_
    · subst er
      rw [foldl_map_app, List.nil_append] at hN ⊢
      have hp := pre_lt e
      have hi : i < n := List.mem_range.mp (by rw [e]; simp)
      have hacc : (pre.map nm).length = pre.length := by simp
      generalize pre.map nm = acc at *
      have cm : CMul (i : Int) stride := .inr ⟨by omega, by omega⟩
      have ei : ((i : Int) * stride + shift) % 26 = (((i * stride + shift) % 26 : Nat) : Int) := by
        rw [Int.natCast_emod, Int.natCast_add, Int.natCast_mul]; rfl
      have hlt : (i * stride + shift) % 26 < 26 := Nat.mod_lt _ (by omega)
      have hl2 : atI letters.cps.toList (((i * stride + shift) % 26 : Nat) : Int) = some (97 + (i * stride + shift) % 26) := by rw [ll_at (by omega) (by omega), Int.toNat_natCast]
      have er : (extra : Int) - spot = ((extra - spot : Nat) : Int) := by omega
      simp [sApp, cm]
      rw [ei]
      refine ⟨hz, _, hl2, mul_ok _ _ (by omega), ?_⟩
      have l1 := mul_len (97 + f) spot (by omega)
      have l2 := mul_len (97 + f) (extra - spot) (by omega)
      have l3 : ∀ d : Nat, (⟨#[d]⟩ : Str).length = 1 := fun _ => rfl
      have l4 : ∀ a b : Str, (a ++ b).length = a.length + b.length := fun a b => by show (a.cps ++ b.cps).size = _; rw [Array.size_append]; rfl
      rw [er, l1, l3]
      refine ⟨by omega, mul_ok _ _ (by omega), ?_⟩
      rw [l4, l1, l2, l3]
      refine ⟨by omega, by omega, ?_⟩
      refine hN _ ⟨Sl.da (.int i), Sl.da (.str ⟨#[97 + (i * stride + shift) % 26]⟩), ?_⟩
      simp [nm, nmS]
    · subst er
      rw [foldl_map_app, List.nil_append]
      simp [sRetO]
      have hq := q ((List.range n).map nm) (by simp) ⟨by simp; omega, by simp; omega, fun x hx => ?_, nodup_map List.nodup_range fun x hx y hy exy => ?_⟩
      · simpa [sL, Function.comp_def] using hq
      · obtain ⟨i, _, rfl⟩ := List.mem_map.mp hx
        exact nm_name (by omega) (by omega) (Nat.mod_lt _ (by omega))
      · have h1 := nm_inj (by omega) (by omega) exy
        have hx' := List.mem_range.mp hx
        have hy' := List.mem_range.mp hy
        obtain ⟨s1, s2⟩ := hs1
        have : stride = 1 ∨ stride = 2 ∨ stride = 3 := by omega
        rcases this with rfl | rfl | rfl <;> omega
  rw [eb]
  simp [e0, d8]
  by_cases h1 : x0 / 8 % 2 = 1
  · refine .inr ⟨h1, ?_⟩
    have := main (x0 % 8).toNat (by omega)
    have ec : (((x0 % 8).toNat : Nat) : Int) = x0 % 8 := by omega
    rw [ec] at this
    exact this
  · exact .inl ⟨h1, main 0 (by omega)⟩
end Tw.S

namespace Tw.S
open PySem PySem.Spec L2 PyProof.Rows Tw
theorem has_put (kvs : List (List Key × D)) (k k' : List Key) (d : D) : hasD (putDk kvs k d) k' = (hasD kvs k' || decide (k = k')) := by
  unfold putDk
  by_cases h : hasD kvs k = true
  · rw [if_pos h]
    have e : hasD (kvs.map fun kv => if kv.1 = k then (kv.1, d) else kv) k' = hasD kvs k' := by
      unfold hasD
      rw [List.any_map]
      congr 1
      funext kv
      show decide ((if kv.1 = k then (kv.1, d) else kv).1 = k') = decide (kv.1 = k')
      split <;> rfl
    rw [e]
    by_cases hk : k = k'
    · subst hk; simp [h]
    · simp [hk]
  · rw [if_neg h]
    unfold hasD
    rw [List.any_append]
    simp
theorem put_len (kvs : List (List Key × D)) (k : List Key) (d : D) : (putDk kvs k d).length ≤ kvs.length + 1 := by
  unfold putDk
  split <;> simp
def tl (t : Tie) (bs : List Int) (b : Int) (u v : Str) : Bool := decide (b ∈ bs) && ((t.a == u && t.b == v) || (t.b == u && t.a == v && t.w == "two"))
theorem name_eq {names : List Str} (hn : names.Nodup) {i u : Nat} (hi : i < names.length) (hu : u < names.length) : (names[i] == names.getD u "") = decide (i = u) := by
  have e : names.getD u "" = names[u] := by simp [hu]
  rw [e]
  by_cases h : i = u
  · subst h; simp
  · have : ¬ names[i] = names[u] := fun z => h ((List.getElem_inj hn).mp z)
    simp [h, this]
theorem p_nexts_of (xc : XC) (ds : List D) (Q : Bool → D → Prop) (h : wf_nexts_of xc ds Q) : b_nexts_of (Zd xc Q) (ds.map .da ++ List.replicate (12 - ds.length) .no) := by
  obtain ⟨tt, names, ts, c, rfl, hn, ht, h1, h4, q⟩ := h
  have hs := sizeLine_eq
  have hi8 := hn.hi
  let H (kvs : List (List Key × D)) (f : Int → Nat → Nat → Bool) : Prop := ∀ (b : Int) (u v : Nat), u < names.length → v < names.length → hasD kvs [.inl b, .inl (u : Int), .inl (v : Int)] = f b u v
  simp [b_nexts_of, sFor]
  refine for_fold ts tieD (fun (pre : List Tie) t => pre ++ [t]) (fun pre ρ => ∃ (kvs : List (List Key × D)) (a b d e f g i j : Sl), ρ = [Sl.da (.xtp (names.map .str)), Sl.da (qD tt (ts.map tieD)), Sl.da (.int c), Sl.ow (.dT kvs), a, b, d, e, f, g, i, j] ∧ kvs.length ≤ 8 * pre.length ∧ H kvs (fun b u v => leads pre b (names.getD u "") (names.getD v ""))) [] (fun pre t post ρ N e ⟨kvs, a1, a2, a3, a4, a5, a6, a7, a8, er, el, eh⟩ hN => ?_) ⟨[], _, _, _, _, _, _, _, _, rfl, by simp, fun b u v _ _ => rfl⟩ fun ρ ⟨kvs, a1, a2, a3, a4, a5, a6, a7, a8, er, el, eh⟩ => ?_
  · subst er
    have ep : ∀ (l : List Tie) (i : List Tie), l.foldl (fun p t => p ++ [t]) i = i ++ l := by
      intro l
      induction l with
      | nil => intro i; simp
      | cons x l ih => intro i; rw [List.foldl_cons, ih]; simp
    rw [ep, List.nil_append] at hN el eh
    have hm : t ∈ ts := by rw [e]; simp
    have ok := ht.ok t hm
    have hle := ht.le
    have hpre : pre.length + 1 ≤ ts.length := by rw [e]; simp
    obtain ⟨i, hi, ei⟩ := List.mem_iff_getElem.mp ok.a
    obtain ⟨j, hj, ej⟩ := List.mem_iff_getElem.mp ok.b
    have hlen : t.at_.length ≤ 4 := Nat.le_trans (set_len ok.at_) h4
    have first : ∀ (k : Nat) (hk : k < names.length) (m : Nat), m < k → names[m]? ≠ some names[k] := fun k hk m hmk z => by
      have hml : m < names.length := by omega
      rw [List.getElem?_eq_getElem hml] at z
      have := (List.getElem_inj hn.nd).mp (Option.some.inj z)
      omega
    simp [tieD, gTupD, gsCons, gsNil, wIdxT, sFor]
    refine ⟨_, _, ⟨rfl, rfl⟩, _, _, rfl, _, _, rfl, _, _, rfl, rfl, ?_⟩
    have gi : names[i]? = some t.a := by rw [List.getElem?_eq_getElem hi, ei]
    have gj : names[j]? = some t.b := by rw [List.getElem?_eq_getElem hj, ej]
    refine ⟨names, rfl, t.a, rfl, i, gi, fun m hm => by rw [← ei]; exact first i hi m hm, names, rfl, t.b, rfl, j, gj, fun m hm => by rw [← ej]; exact first j hj m hm, _, rfl, ?_⟩
    refine for_fold t.at_ D.int (fun (pb : List Int) x => pb ++ [x]) (fun pb ρ => ∃ (kvs2 : List (List Key × D)) (d f : Sl), ρ = [Sl.da (.xtp (names.map .str)), Sl.da (qD tt (ts.map tieD)), Sl.da (.int c), Sl.ow (.dT kvs2), Sl.da (.str t.a), Sl.da (.str t.b), Sl.da (.str t.w), Sl.da (tI t.at_), Sl.da (.int i), Sl.da (.int j), d, f] ∧ kvs2.length ≤ kvs.length + 2 * pb.length ∧ H kvs2 (fun b u v => leads pre b (names.getD u "") (names.getD v "") || tl t pb b (names.getD u "") (names.getD v ""))) [] (fun pb x post2 ρ N2 e2 ⟨kvs2, d1, d2, er, el2, eh2⟩ hN2 => ?_) ⟨kvs, _, _, rfl, by simp, fun b u v hu hv => by rw [eh b u v hu hv]; simp [tl]⟩ fun ρ ⟨kvs2, d1, d2, er, el2, eh2⟩ => ?_
    · subst er
      have ep2 : ∀ (l : List Int) (i : List Int), l.foldl (fun p t => p ++ [t]) i = i ++ l := by
        intro l
        induction l with
        | nil => intro i; simp
        | cons x l ih => intro i; rw [List.foldl_cons, ih]; simp
      rw [ep2, List.nil_append] at hN2 el2 eh2
      have hpb : pb.length + 1 ≤ t.at_.length := by rw [e2]; simp
      simp [sPutT]
      refine ⟨[.inl x, .inl (i : Int), .inl (j : Int)], rfl, by omega, by omega, ?_⟩
      have pl1 := put_len kvs2 [.inl x, .inl (i : Int), .inl (j : Int)] (.bl true)
      have wo := word_ok ok.w
      have w2 : PyData.strOk "two" = true := by decide +kernel
      have stepH : ∀ (b : Int) (u v : Nat), u < names.length → v < names.length → tl t (pb ++ [x]) b (names.getD u "") (names.getD v "") = (tl t pb b (names.getD u "") (names.getD v "") || (decide (x = b) && (decide (i = u) && decide (j = v) || (decide (j = u) && decide (i = v) && t.w == "two")))) := fun b u v hu hv => by
        unfold tl
        rw [← ei, ← ej, name_eq hn.nd hi hu, name_eq hn.nd hj hv, name_eq hn.nd hj hu, name_eq hn.nd hi hv]
        have : decide (b ∈ pb ++ [x]) = (decide (b ∈ pb) || decide (x = b)) := by
          by_cases h1 : b ∈ pb <;> by_cases h2 : x = b <;> simp [h1, h2, eq_comm]
        rw [this, Bool.and_or_distrib_right]
      have kd : ∀ (p r : Nat) (b : Int) (u v : Nat), decide (([.inl x, .inl (p : Int), .inl (r : Int)] : List Key) = [.inl b, .inl (u : Int), .inl (v : Int)]) = (decide (x = b) && (decide (p = u) && decide (r = v))) := fun p r b u v => by
        by_cases h1 : x = b <;> by_cases h2 : p = u <;> by_cases h3 : r = v <;> simp [h1, h2, h3] <;> omega
      simp [oEq_s wo w2]
      by_cases hw : t.w = "two"
      · refine .inr ⟨hw, [.inl x, .inl (j : Int), .inl (i : Int)], rfl, by omega, by omega, ?_⟩
        have pl2 := put_len (putDk kvs2 [.inl x, .inl (i : Int), .inl (j : Int)] (.bl true)) [.inl x, .inl (j : Int), .inl (i : Int)] (.bl true)
        refine hN2 _ ⟨_, _, _, rfl, by simp; omega, fun b u v hu hv => ?_⟩
        dsimp only
        rw [has_put, has_put, eh2 b u v hu hv]
        dsimp only
        rw [stepH b u v hu hv, kd, kd, hw]
        generalize leads pre b (names.getD u "") (names.getD v "") = A
        generalize tl t pb b (names.getD u "") (names.getD v "") = B
        generalize decide (x = b) = C1
        generalize decide (i = u) = C2
        generalize decide (j = v) = C3
        generalize decide (j = u) = C4
        generalize decide (i = v) = C5
        have : (("two" : Str) == "two") = true := by decide
        rw [this]
        cases A <;> cases B <;> cases C1 <;> cases C2 <;> cases C3 <;> cases C4 <;> cases C5 <;> rfl
      · refine .inl ⟨hw, ?_⟩
        refine hN2 _ ⟨_, _, _, rfl, by simp; omega, fun b u v hu hv => ?_⟩
        have hw' : (t.w == ("two" : Str)) = false := by simpa using hw
        dsimp only
        rw [has_put, eh2 b u v hu hv]
        dsimp only
        rw [stepH b u v hu hv, kd, hw']
        generalize leads pre b (names.getD u "") (names.getD v "") = A
        generalize tl t pb b (names.getD u "") (names.getD v "") = B
        generalize decide (x = b) = C1
        generalize decide (i = u) = C2
        generalize decide (j = v) = C3
        generalize decide (j = u) = C4
        generalize decide (i = v) = C5
        cases A <;> cases B <;> cases C1 <;> cases C2 <;> cases C3 <;> cases C4 <;> cases C5 <;> rfl
    · subst er
      have ep2 : ∀ (l : List Int) (i : List Int), l.foldl (fun p t => p ++ [t]) i = i ++ l := by
        intro l
        induction l with
        | nil => intro i; simp
        | cons x l ih => intro i; rw [List.foldl_cons, ih]; simp
      rw [ep2, List.nil_append] at el2 eh2
      refine hN _ ⟨kvs2, _, _, _, _, _, _, _, _, rfl, by simp; omega, fun b u v hu hv => ?_⟩
      rw [eh2 b u v hu hv]
      dsimp only
      unfold leads
      rw [List.any_append]
      simp
      rfl
  · subst er
    have ep : ∀ (l : List Tie) (i : List Tie), l.foldl (fun p t => p ++ [t]) i = i ++ l := by
      intro l
      induction l with
      | nil => intro i; simp
      | cons x l ih => intro i; rw [List.foldl_cons, ih]; simp
    rw [ep, List.nil_append] at el eh
    simp [sFrz]
    refine ⟨by omega, ?_⟩
    refine lc_rng0 c (fun b => t2 ((List.range names.length).map fun u => rowF names.length (psgOf names ts b u))) (fun b hb k1 h1 => ?_) (by omega) ?_
    · simp
      refine ⟨kvs, b, names.length, rfl, hi8, ?_⟩
      have e3 : ((List.range names.length).map fun u : Nat => rowF names.length fun v : Nat => hasD kvs [.inl (b : Int), .inl (u : Int), .inl (v : Int)]) = (List.range names.length).map fun u => rowF names.length (psgOf names ts b u) := by
        apply List.map_congr_left
        intro u hu
        unfold rowF
        congr 1
        apply List.filter_congr
        intro v hv
        exact eh b u v (List.mem_range.mp hu) (List.mem_range.mp hv)
      rw [e3]
      exact h1
    · simpa [t3, nextsT, tabF, Function.comp_def] using q
end Tw.S

namespace Tw.S
open PySem PySem.Spec L2 PyProof.Rows Tw
theorem inc_climbs {l : List Nat} (h : l.Pairwise (· < ·)) : climbs (l.map fun i : Nat => (i : Int)) = true := by
  unfold climbs
  rw [List.all_eq_true]
  intro i hi
  have hi' := List.mem_range.mp hi
  simp at hi'
  have h1 : i < l.length := by omega
  have h2 : i + 1 < l.length := by omega
  have := List.pairwise_iff_getElem.mp h i (i + 1) h1 h2 (by omega)
  simp [h1, h2]
  omega
theorem beats_set (c : Nat) (p : Nat → Bool) : isSet (((List.range c).filter p).map fun i : Nat => (i : Int)) c = true := by
  unfold isSet
  rw [Bool.and_eq_true]
  refine ⟨?_, inc_climbs (List.Pairwise.filter p List.pairwise_lt_range)⟩
  rw [List.all_eq_true]
  intro x hx
  obtain ⟨i, hi, rfl⟩ := List.mem_map.mp hx
  have := List.mem_range.mp (List.mem_filter.mp hi).1
  simp
  omega
theorem cnt_app (z : Str) (a b : List Tie) : cnt z (a ++ b) = cnt z a + cnt z b := by
  unfold cnt
  rw [List.filter_append, List.length_append]
theorem cnt_le (z : Str) (a : List Tie) : cnt z a ≤ a.length := List.length_filter_le _ _
/-- a tie between these two -/
def On (x y : Str) (t : Tie) : Prop := (t.a = x ∨ t.a = y) ∧ (t.b = x ∨ t.b = y)
theorem cnt_off {z x y : Str} {l : List Tie} (h : ∀ t ∈ l, On x y t) (h1 : x ≠ z) (h2 : y ≠ z) : cnt z l = 0 := by
  unfold cnt
  rw [List.length_eq_zero_iff, List.filter_eq_nil_iff]
  intro t ht
  obtain ⟨ha, hb⟩ := h t ht
  simp
  constructor
  · rcases ha with e | e <;> rw [e] <;> assumption
  · rcases hb with e | e <;> rw [e] <;> assumption
theorem idx_strs : ∀ {names : List Str}, names.Nodup → ∀ {j : Nat} (hj : j < names.length), idxD (.str names[j]) (names.map .str) = some j
  | [], _, j, hj => by simp at hj
  | x :: names, hn, 0, hj => by
    simp [idxD, D.py, PyData.eqv]
  | x :: names, hn, j + 1, hj => by
    rw [List.nodup_cons] at hn
    have hj' : j < names.length := by simpa using hj
    have ih := idx_strs hn.2 hj'
    have hne : ¬ x = names[j] := fun z => hn.1 (z ▸ List.getElem_mem hj')
    simp [idxD, D.py, PyData.eqv, hne]
    exact ih
theorem p_law_table (xc : XC) (ds : List D) (Q : Bool → D → Prop) (h : wf_law_table xc ds Q) : b_law_table (Zd xc Q) (ds.map .da ++ List.replicate (12 - ds.length) .no) := by
  obtain ⟨names, ts, c, rfl, hn, ht, h1, h4, q⟩ := h
  have hs := sizeLine_eq
  have hi8 := hn.hi
  simp [b_law_table, sFor]
  refine ⟨by omega, ?_⟩
  let f : Nat → List (List Int) := fun b => (List.range names.length).map fun u => rowF names.length (psgOf names ts b u)
  refine for_fold (List.range c) (fun i => .int (0 + (i : Nat))) (fun acc b => acc ++ [f b]) (fun acc ρ => ∃ (s4 s5 s6 s7 s8 s9 s10 s11 : Sl), ρ = [Sl.da (sL names), Sl.da (tsL ts), Sl.da (.int c), Sl.ow (l3 acc), s4, s5, s6, s7, s8, s9, s10, s11]) [] (fun pre b post ρ N e ⟨s4, s5, s6, s7, s8, s9, s10, s11, er⟩ hN => ?_) ⟨_, _, _, _, _, _, _, _, rfl⟩ fun ρ ⟨s4, s5, s6, s7, s8, s9, s10, s11, er⟩ => ?_
  · subst er
    rw [foldl_map_app, List.nil_append] at hN ⊢
    have hp := pre_lt e
    have hlp : (pre.map f).length = pre.length := by simp
    generalize pre.map f = acc3 at *
    simp [sFor]
    refine ⟨by omega, ?_⟩
    let g : Nat → List Int := fun u => rowF names.length (psgOf names ts b u)
    refine for_fold (List.range names.length) (fun i => .int (0 + (i : Nat))) (fun acc u => acc ++ [g u]) (fun acc ρ => ∃ (s6 s7 s8 s9 s10 s11 : Sl), ρ = [Sl.da (sL names), Sl.da (tsL ts), Sl.da (.int c), Sl.ow (l3 acc3), Sl.da (.int b), Sl.ow (l2 acc), s6, s7, s8, s9, s10, s11]) [] (fun pre2 u post2 ρ N2 e2 ⟨s6, s7, s8, s9, s10, s11, er⟩ hN2 => ?_) ⟨_, _, _, _, _, _, rfl⟩ fun ρ ⟨s6, s7, s8, s9, s10, s11, er⟩ => ?_
    · subst er
      rw [foldl_map_app, List.nil_append] at hN2 ⊢
      have hp2 := pre_lt e2
      have hu : u < names.length := List.mem_range.mp (by rw [e2]; simp)
      have hlp2 : (pre2.map g).length = pre2.length := by simp
      generalize pre2.map g = acc2 at *
      simp [sFor, tsL]
      refine for_fold ts tieD (fun (pre : List Tie) t => pre ++ [t]) (fun pre ρ => ∃ (es : List Int) (s8 s9 s10 s11 : Sl), ρ = [Sl.da (sL names), Sl.da (tsL ts), Sl.da (.int c), Sl.ow (l3 acc3), Sl.da (.int b), Sl.ow (l2 acc2), Sl.da (.int u), Sl.ow (iL es), s8, s9, s10, s11] ∧ es.length ≤ cnt names[u] pre ∧ ∀ x : Int, x ∈ es ↔ ∃ v : Nat, v < names.length ∧ x = v ∧ leads pre b names[u] (names.getD v "") = true) [] (fun pre3 t post3 ρ N3 e3 ⟨es, s8, s9, s10, s11, er, el, em⟩ hN3 => ?_) ⟨[], _, _, _, _, rfl, by simp [cnt], fun x => by simp [leads]⟩ fun ρ ⟨es, s8, s9, s10, s11, er, el, em⟩ => ?_
      · subst er
        have ep : ∀ (l : List Tie) (i : List Tie), l.foldl (fun p t => p ++ [t]) i = i ++ l := by
          intro l
          induction l with
          | nil => intro i; simp
          | cons x l ih => intro i; rw [List.foldl_cons, ih]; simp
        rw [ep, List.nil_append] at hN3 el em
        have hmt : t ∈ ts := by rw [e3]; simp
        have ok := ht.ok t hmt
        obtain ⟨i, hi, ei⟩ := List.mem_iff_getElem.mp ok.a
        obtain ⟨j, hj, ej⟩ := List.mem_iff_getElem.mp ok.b
        have hu' : atI names (u : Int) = some names[u] := atI_strs hu
        have oa := hn.ok _ ok.a
        have ob := hn.ok _ ok.b
        have ou := hn.ok _ (List.getElem_mem hu)
        have w2 : PyData.strOk "two" = true := by decide +kernel
        have ol := ok_strs hn.ok
        simp [tieD, gTupD, gsCons, gsNil, hu', oEq_s oa ou, oEq_s ob ou, oEq_s (word_ok ok.w) w2]
        refine ⟨_, _, ⟨rfl, rfl⟩, _, _, rfl, _, _, rfl, _, _, rfl, rfl, ?_⟩
        have hbU : ∀ V, t.leads b names[u] V = (decide ((b : Int) ∈ t.at_) && ((t.a == names[u] && t.b == V) || (t.b == names[u] && t.a == V && t.w == "two"))) := fun V => rfl
        have es_le : es.length ≤ 100 := by
          have h1 := cnt_le names[u] pre3
          have h2 := ht.le
          have h3 : ts.length = pre3.length + (t :: post3).length := by rw [e3, List.length_append]
          omega
        have keep : ∀ s8 s9 s10 s11, (∀ v : Nat, v < names.length → t.leads b names[u] (names.getD v "") = false) → N3 [Sl.da (sL names), Sl.da (tsL ts), Sl.da (.int c), Sl.ow (l3 acc3), Sl.da (.int b), Sl.ow (l2 acc2), Sl.da (.int u), Sl.ow (.lst (es.map .int)), s8, s9, s10, s11] := fun s8 s9 s10 s11 hno => by
          refine hN3 _ ⟨es, s8, s9, s10, s11, rfl, by rw [cnt_app]; omega, fun x => ?_⟩
          rw [em]
          unfold leads
          constructor
          · rintro ⟨v, hv, rfl, hl⟩
            exact ⟨v, hv, rfl, by rw [List.any_append, hl]; rfl⟩
          · rintro ⟨v, hv, rfl, hl⟩
            rw [List.any_append] at hl
            simp only [List.any_cons, List.any_nil, Bool.or_false, hno v hv] at hl
            exact ⟨v, hv, rfl, hl⟩
        have add : ∀ (k : Nat) (s8 s9 s10 s11 : Sl), k < names.length → (t.a = names[u] ∨ t.b = names[u]) → (∀ v : Nat, v < names.length → t.leads b names[u] (names.getD v "") = decide (k = v)) → N3 [Sl.da (sL names), Sl.da (tsL ts), Sl.da (.int c), Sl.ow (l3 acc3), Sl.da (.int b), Sl.ow (l2 acc2), Sl.da (.int u), Sl.ow (.lst (es.map .int ++ [.int k])), s8, s9, s10, s11] := fun k s8 s9 s10 s11 hk htu hyes => by
          have c1 : cnt names[u] [t] = 1 := by
            unfold cnt
            rcases htu with h | h <;> simp [h]
          refine hN3 _ ⟨es ++ [(k : Int)], s8, s9, s10, s11, by simp [iL], by rw [cnt_app, c1]; simp; omega, fun x => ?_⟩
          rw [List.mem_append, em]
          unfold leads
          constructor
          · rintro (⟨v, hv, rfl, hl⟩ | hx)
            · exact ⟨v, hv, rfl, by rw [List.any_append, hl]; rfl⟩
            · simp at hx
              exact ⟨k, hk, hx, by rw [List.any_append]; simp only [List.any_cons, List.any_nil, Bool.or_false, hyes k hk, decide_true, Bool.or_true]⟩
          · rintro ⟨v, hv, rfl, hl⟩
            rw [List.any_append] at hl
            simp only [List.any_cons, List.any_nil, Bool.or_false, hyes v hv, Bool.or_eq_true, decide_eq_true_eq] at hl
            rcases hl with hl | hl
            · exact .inl ⟨v, hv, rfl, hl⟩
            · subst hl; exact .inr (by simp)
        have ixa : idxD (.str t.a) (names.map .str) = some i := by rw [← ei]; exact idx_strs hn.nd hi
        have ixb : idxD (.str t.b) (names.map .str) = some j := by rw [← ej]; exact idx_strs hn.nd hj
        have hu2 : atI (names.map D.str) (u : Int) = some (.str names[u]) := by rw [atI_map, hu']; rfl
        simp [oEq_s oa ou, oEq_s ob ou, oEq_s (word_ok ok.w) w2, wIdx, sApp, iL, sL]
        by_cases hb : (b : Int) ∈ t.at_
        · refine .inr ⟨hb, ?_⟩
          by_cases ha : t.a = names[u]
          · have hbn : ¬ t.b = names[u] := fun z => ok.ne (ha.trans z.symm)
            refine .inr ⟨ha, ol, ok_str ob, j, ixb, by omega, .inr ⟨hb, _, hu2, ?_⟩⟩
            rw [oEq_s ob ou]
            refine .inl ⟨by simp [hbn], add j _ _ _ _ hj (.inl ha) fun v hv => ?_⟩
            rw [hbU, ← ej, name_eq hn.nd hj hv]
            have h0 : (names[j] == names[u]) = false := by rw [ej]; simpa using hbn
            rw [h0]
            simp [hb, ha]
          · refine .inl ⟨ha, .inr ⟨hb, ?_⟩⟩
            by_cases hbb : t.b = names[u]
            · refine .inr ⟨hbb, ?_⟩
              by_cases hw : t.w = "two"
              · refine .inr ⟨hw, ol, ok_str oa, i, ixa, by omega, add i _ _ _ _ hi (.inr hbb) fun v hv => ?_⟩
                rw [hbU, ← ei, name_eq hn.nd hi hv]
                have h0 : (names[i] == names[u]) = false := by rw [ei]; simpa using ha
                rw [h0]
                simp [hb, hbb, hw]
              · refine .inl ⟨hw, keep _ _ _ _ fun v hv => ?_⟩
                rw [hbU]
                have hw' : (t.w == ("two" : Str)) = false := by simpa using hw
                have h0 : (t.a == names[u]) = false := by simpa using ha
                rw [hw', h0]
                simp
            · refine .inl ⟨hbb, keep _ _ _ _ fun v hv => ?_⟩
              rw [hbU]
              have h0 : (t.a == names[u]) = false := by simpa using ha
              have h1 : (t.b == names[u]) = false := by simpa using hbb
              rw [h0, h1]
              simp
        · refine .inl ⟨hb, .inl ⟨hb, keep _ _ _ _ fun v hv => ?_⟩⟩
          rw [hbU]
          simp [hb]
      · subst er
        have ep : ∀ (l : List Tie) (i : List Tie), l.foldl (fun p t => p ++ [t]) i = i ++ l := by
          intro l
          induction l with
          | nil => intro i; simp
          | cons x l ih => intro i; rw [List.foldl_cons, ih]; simp
        rw [ep, List.nil_append] at el em
        simp [sApp, wSortSet, wPeek, l2]
        refine ⟨es, rfl, ⟨(List.range names.length).map fun i : Nat => (i : Int), by simp; omega, fun k hk => ?_⟩, fun ms hps hms => ?_⟩
        · obtain ⟨v, hv, e, _⟩ := (em k).mp hk
          exact List.mem_map.mpr ⟨v, List.mem_range.mpr hv, e.symm⟩
        have ee : ms = rowF names.length (psgOf names ts b u) := by
          refine sorted_one ?_ (hps.imp fun h => Int.le_of_lt h) ?_
          · refine (List.perm_ext_iff_of_nodup (hps.imp fun h => Int.ne_of_lt h) ?_).mpr fun x => ?_
            · unfold rowF
              exact nodup_map (List.nodup_range.filter _) fun x _ y _ h => by omega
            · rw [hms, em]
              unfold rowF
              rw [List.mem_map]
              have eu : names.getD u "" = names[u] := by simp [hu]
              have ep2 : psgOf names ts b u = fun v => leads ts b names[u] (names.getD v "") := by
                funext v
                show leads ts b (names.getD u "") (names.getD v "") = _
                rw [eu]
              rw [ep2]
              constructor
              · rintro ⟨v, hv, rfl, hl⟩
                exact ⟨v, List.mem_filter.mpr ⟨List.mem_range.mpr hv, hl⟩, rfl⟩
              · rintro ⟨v, hv, rfl⟩
                obtain ⟨h1, h2⟩ := List.mem_filter.mp hv
                exact ⟨v, List.mem_range.mp h1, rfl, h2⟩
          · unfold rowF
            rw [List.pairwise_map]
            refine (List.Pairwise.filter _ List.pairwise_lt_range).imp fun h => by omega
        rw [ee]
        refine ⟨by omega, hN2 _ ⟨_, _, _, _, _, _, by simp [l2, iL, g]; exact ⟨rfl, rfl, rfl, rfl, rfl, rfl⟩⟩⟩
    · subst er
      rw [foldl_map_app, List.nil_append]
      simp [sFrz, sApp, l3]
      refine ⟨by omega, ?_⟩
      refine hN _ ⟨Sl.da (.int b), Sl.da (l2 ((List.range names.length).map g)), s6, s7, s8, s9, s10, s11, ?_⟩
      simp [l3]
      rfl
  · subst er
    rw [foldl_map_app, List.nil_append]
    simp [sRetO]
    exact q
end Tw.S

namespace Tw.S
open PySem PySem.Spec L2 PyProof.Rows Tw TL
def hgf : List Str := ["h", "g", "f", "e", "d", "c", "b", "a"]
end Tw.S

namespace Tw.S
open PySem PySem.Spec L2 PyProof.Rows Tw
end Tw.S

namespace Tw.S
open PySem PySem.Spec L2 PyProof.Rows Tw
theorem mem_beats {c : Nat} {p : Nat → Bool} {b : Nat} : ((b : Int) ∈ beatsF c p) ↔ b < c ∧ p b = true := by
  unfold beatsF
  rw [List.mem_map]
  constructor
  · rintro ⟨i, hi, e⟩
    obtain ⟨h1, h2⟩ := List.mem_filter.mp hi
    have : i = b := by omega
    subst this
    exact ⟨List.mem_range.mp h1, h2⟩
  · rintro ⟨h1, h2⟩
    exact ⟨b, List.mem_filter.mpr ⟨List.mem_range.mpr h1, h2⟩, rfl⟩
theorem set_beats (c : Nat) (p : Nat → Bool) : isSet (beatsF c p) c = true := beats_set c p
theorem leads_app (a b : List Tie) (i : Int) (u v : Str) : leads (a ++ b) i u v = (leads a i u v || leads b i u v) := by unfold leads; rw [List.any_append]
structure PT (x y : Str) (codes : List Int) (m : Nat) (ts : List Tie) : Prop where
  ok : ∀ t ∈ ts, ((t.a = x ∧ t.b = y) ∨ (t.a = y ∧ t.b = x)) ∧ (t.w = "two" ∨ t.w = "one") ∧ isSet t.at_ codes.length = true
  len : ts.length ≤ m
  ld : x ≠ y → ∀ b : Nat, (leads ts b x y = decide (codes.getD b 0 = 1 ∨ codes.getD b 0 = 2)) ∧ (leads ts b y x = decide (codes.getD b 0 = 1 ∨ codes.getD b 0 = 3))
theorem two_one : (("two" : Str) == "two") = true ∧ (("one" : Str) == "two") = false := by decide
end Tw.S

namespace Tw.S
open PySem PySem.Spec L2 PyProof.Rows Tw
@[simp high] theorem plus_tI {a b : List Int} {Q : D → Prop} : oPlus (tI a) (tI b) Q = (a.length + b.length ≤ sizeLine ∧ Q (tI (a ++ b))) := by
  unfold tI
  simp
section
variable {xc : XC} {Q : Bool → D → Prop} {x y : Str} {codes : List Int} {style : Int}
end
end Tw.S

namespace Tw.S
open PySem PySem.Spec L2 PyProof.Rows Tw
@[simp high] theorem plus_tsL {a b : List Tie} {Q : D → Prop} : oPlus (tsL a) (tsL b) Q = (a.length + b.length ≤ sizeLine ∧ Q (tsL (a ++ b))) := by
  unfold tsL
  simp
theorem pair_tie {names : List Str} {c v u : Nat} {t : Tie} (hn : NamesOk names) (hv : v < names.length) (hu : u < names.length) (hne : v ≠ u) (h : ((t.a = names[v] ∧ t.b = names[u]) ∨ (t.a = names[u] ∧ t.b = names[v])) ∧ (t.w = "two" ∨ t.w = "one") ∧ t.at_ ≠ [] ∧ isSet t.at_ c = true) : TieOk names c t ∧ On names[u] names[v] t := by
  obtain ⟨h1, h2, h3, h4⟩ := h
  have ne : names[v] ≠ names[u] := fun z => hne ((List.getElem_inj hn.nd).mp z)
  rcases h1 with ⟨ea, eb⟩ | ⟨ea, eb⟩
  · exact ⟨⟨ea ▸ List.getElem_mem hv, eb ▸ List.getElem_mem hu, by rw [ea, eb]; exact ne, h2, h3, h4⟩, .inr ea, .inl eb⟩
  · exact ⟨⟨ea ▸ List.getElem_mem hu, eb ▸ List.getElem_mem hv, by rw [ea, eb]; exact ne.symm, h2, h3, h4⟩, .inl ea, .inr eb⟩
theorem foldl_snoc {α : Type} : ∀ (l i : List α), l.foldl (fun p t => p ++ [t]) i = i ++ l
  | [], i => by simp
  | x :: l, i => by rw [List.foldl_cons, foldl_snoc l]; simp
end Tw.S

namespace Tw.S
open PySem PySem.Spec L2 PyProof.Rows Tw
/-! data of a bounded depth -/
def Okd (n : Nat) (d : D) : Prop := d.isP = true ∧ d.py.canLay0 = true ∧ d.py.depth ≤ n
theorem Okd.ok {n : Nat} {d : D} (h : Okd n d) (hn : n ≤ 64) : d.ok := ⟨h.1, by unfold SeqAt.shaped; rw [h.2.1]; simp; have := h.2.2; omega⟩
theorem Okd.mono {n m : Nat} {d : D} (h : Okd n d) (hn : n ≤ m) : Okd m d := ⟨h.1, h.2.1, Nat.le_trans h.2.2 hn⟩
theorem okd_int (i : Int) : Okd 0 (.int i) := ⟨rfl, by simp [D.py, PyData.canLay0], by simp [D.py, PyData.depth]⟩
theorem okd_str {z : Str} (h : PyData.strOk z = true) : Okd 0 (.str z) := ⟨rfl, by simp [D.py, PyData.canLay0, h], by simp [D.py, PyData.depth]⟩
theorem okd_all {n : Nat} : ∀ {l : List D}, (∀ d ∈ l, Okd n d) → D.isPs l = true ∧ PyData.canLayAll0 (D.pys l) = true ∧ PyData.depthAll (D.pys l) ≤ n
  | [], _ => by simp [D.isPs, D.pys, PyData.canLayAll0, PyData.depthAll]
  | x :: l, h => by
    obtain ⟨a, b, c⟩ := h x (by simp)
    obtain ⟨a', b', c'⟩ := okd_all fun d hd => h d (List.mem_cons_of_mem _ hd)
    simp only [D.isPs, D.pys, PyData.canLayAll0, PyData.depthAll, a, a', b, b', Bool.and_self, true_and]
    omega
theorem okd_tup {n : Nat} {l : List D} (h : ∀ d ∈ l, Okd n d) : Okd (n + 1) (.tup l) := by
  obtain ⟨a, b, c⟩ := okd_all h
  exact ⟨by rw [D.isP]; exact a, by rw [D.py]; simp only [PyData.canLay0]; exact b, by rw [D.py]; simp only [PyData.depth]; omega⟩
theorem okd_lst {n : Nat} {l : List D} (h : ∀ d ∈ l, Okd n d) : Okd (n + 1) (.lst l) := by
  obtain ⟨a, b, c⟩ := okd_all h
  exact ⟨by rw [D.isP]; exact a, by rw [D.py]; simp only [PyData.canLay0]; exact b, by rw [D.py]; simp only [PyData.depth]; omega⟩
theorem okd_tI (l : List Int) : Okd 1 (tI l) := okd_tup fun d hd => by
  obtain ⟨i, _, rfl⟩ := List.mem_map.mp hd
  exact okd_int i
theorem okd_t2 (l : List (List Int)) : Okd 2 (t2 l) := okd_tup fun d hd => by
  obtain ⟨i, _, rfl⟩ := List.mem_map.mp hd
  exact okd_tI i
theorem okd_t3 (l : List (List (List Int))) : Okd 3 (t3 l) := okd_tup fun d hd => by
  obtain ⟨i, _, rfl⟩ := List.mem_map.mp hd
  exact okd_t2 i
theorem okd_strs {l : List Str} (h : ∀ z ∈ l, PyData.strOk z = true) : Okd 1 (.tup (l.map .str)) := okd_tup fun d hd => by
  obtain ⟨z, hz, rfl⟩ := List.mem_map.mp hd
  exact okd_str (h z hz)
theorem eqvAll_map {α : Type} [DecidableEq α] (F : α → PyData) (h : ∀ x y, PyData.eqv (F x) (F y) = decide (x = y)) : ∀ xs ys : List α, PyData.eqvAll (xs.map F) (ys.map F) = decide (xs = ys)
  | [], [] => by simp [PyData.eqvAll]
  | [], y :: ys => by simp [PyData.eqvAll]
  | x :: xs, [] => by simp [PyData.eqvAll]
  | x :: xs, y :: ys => by
    rw [List.map_cons, List.map_cons, PyData.eqvAll, h, eqvAll_map F h xs ys]
    by_cases e : x = y <;> by_cases e2 : xs = ys <;> simp [e, e2]
theorem py_t2 (l : List (List Int)) : (t2 l).py = .tuple (l.map encT) := by unfold t2; rw [D.py, pys_map tI encT py_tI]
theorem py_t3 (l : List (List (List Int))) : (t3 l).py = .tuple (l.map fun r => .tuple (r.map encT)) := by unfold t3; rw [D.py, pys_map t2 _ py_t2]
theorem eqv_encT (a b : List Int) : PyData.eqv (encT a) (encT b) = decide (a = b) := by
  unfold encT
  rw [PyData.eqv, eqvAll_eq]
  by_cases h : a = b <;> simp [h]
theorem eqv_t3 (a b : List (List (List Int))) : PyData.eqv (t3 a).py (t3 b).py = decide (a = b) := by
  rw [py_t3, py_t3, PyData.eqv]
  exact eqvAll_map _ (fun x y => by rw [PyData.eqv]; exact eqvAll_map _ eqv_encT x y) a b
theorem eqv_strs (a b : List Str) : PyData.eqv (D.tup (a.map .str)).py (D.tup (b.map .str)).py = decide (a = b) := by
  rw [D.py, D.py, pys_map D.str PyData.str (fun _ => by rw [D.py]), pys_map D.str PyData.str (fun _ => by rw [D.py]), PyData.eqv]
  exact eqvAll_map _ (fun x y => by rw [PyData.eqv]; by_cases h : x = y <;> simp [h]) a b
theorem oEq_t3 {a b : List (List (List Int))} {Q : D → Prop} : oEq (t3 a) (t3 b) Q = Q (.bl (decide (a = b))) := by
  unfold oEq
  rw [eqv_t3]
  simp only [(okd_t3 a).ok (by omega), (okd_t3 b).ok (by omega), true_and]
theorem oEq_strs {a b : List Str} {Q : D → Prop} (ha : ∀ z ∈ a, PyData.strOk z = true) (hb : ∀ z ∈ b, PyData.strOk z = true) : oEq (.tup (a.map .str)) (.tup (b.map .str)) Q = Q (.bl (decide (a = b))) := by
  unfold oEq
  rw [eqv_strs]
  simp only [(okd_strs ha).ok (by omega), (okd_strs hb).ok (by omega), true_and]
theorem p_Web_eq (C : Addr) (xc : XC) (ds : List D) (Q : Bool → D → Prop) (h : wf_Web___eq__ C xc ds Q) : b_Web___eq__ C (Zd xc Q) (ds.map .da ++ List.replicate (2 - ds.length) .no) := by
  obtain ⟨names, c, nx, names', c', nx', rfl, hn, hn', q⟩ := h
  simp [b_Web___eq__, wIsO]
  refine ⟨⟨_, rfl⟩, ?_⟩
  rw [oEq_strs hn.ok hn'.ok]
  by_cases e : names = names'
  · refine .inr ⟨by simp [e], ?_⟩
    rw [oEq_t3]
    simpa [e] using q
  · exact .inl ⟨by simp [e], by simpa [e] using q⟩
end Tw.S

namespace Tw.S
open PySem PySem.Spec L2 PyProof.Rows Tw
theorem ok_li (b : List Int) : (D.lst (b.map .int)).ok := (okd_lst (n := 0) fun d hd => by
  obtain ⟨i, _, rfl⟩ := List.mem_map.mp hd
  exact okd_int i).ok (by omega)
theorem oIn_li {i : Int} {l : List Int} {Q : D → Prop} (neg : Bool) : oIn neg (.int i) (.lst (l.map .int)) Q = Q (.bl (if neg = true then !decide (i ∈ l) else decide (i ∈ l))) := by
  have h := any_int (i := i) l
  simp only [oIn, ok_int, ok_li, h, true_and]
theorem oIn_ti {i : Int} {l : List Int} {Q : D → Prop} (neg : Bool) : oIn neg (.int i) (tI l) Q = Q (.bl (if neg = true then !decide (i ∈ l) else decide (i ∈ l))) := by
  have h := any_int (i := i) l
  have o := ok_tI l
  unfold tI at o ⊢
  simp only [oIn, ok_int, o, h, true_and]
theorem mem_row {n : Nat} {p : Nat → Bool} {v : Nat} : ((v : Int) ∈ rowF n p) ↔ v < n ∧ p v = true := mem_beats
theorem row_dec {n : Nat} {p : Nat → Bool} {v : Nat} (h : v < n) : decide ((v : Int) ∈ rowF n p) = p v := by
  have := mem_row (n := n) (p := p) (v := v)
  cases hp : p v with
  | true => exact decide_eq_true (this.mpr ⟨h, hp⟩)
  | false => exact decide_eq_false fun z => by rw [(this.mp z).2] at hp; cases hp
theorem beats_and (c : Nat) (p q : Nat → Bool) : (beatsF c p).filter (fun x => decide (x ∈ beatsF c q)) = beatsF c fun b => p b && q b := by
  unfold beatsF
  rw [List.filter_map, List.filter_filter]
  congr 1
  apply List.filter_congr
  intro b hb
  have : decide ((b : Int) ∈ ((List.range c).filter q).map fun i : Nat => (i : Int)) = q b := row_dec (List.mem_range.mp hb)
  show (decide ((b : Int) ∈ _) && p b) = _
  rw [this, Bool.and_comm]
theorem beats_not (c : Nat) (p q : Nat → Bool) : (beatsF c p).filter (fun x => !decide (x ∈ beatsF c q)) = beatsF c fun b => p b && !q b := by
  unfold beatsF
  rw [List.filter_map, List.filter_filter]
  congr 1
  apply List.filter_congr
  intro b hb
  have : decide ((b : Int) ∈ ((List.range c).filter q).map fun i : Nat => (i : Int)) = q b := row_dec (List.mem_range.mp hb)
  show ((!decide ((b : Int) ∈ _)) && p b) = _
  rw [this, Bool.and_comm]
theorem beats_le (c : Nat) (p : Nat → Bool) : (beatsF c p).length ≤ c := row_le c p
theorem tie_at {t : Tie} {Q : D → Prop} : oIx (tieD t) (.int 3) Q = Q (tI t.at_) := propext ⟨fun ⟨d, h, p⟩ => by cases h; exact p, fun p => ⟨_, rfl, p⟩⟩
@[simp high] theorem ix_hD2 {t a b : Bool} {l : List (List (List Int))} {i : Int} {Q : D → Prop} : oIx (hD t (l.map (rD a b))) (.int i) Q = ∃ x, atI l i = some x ∧ Q (rD a b x) := by
  rw [ix_hD]
  exact ix_map
@[simp high] theorem ix_rD {a b : Bool} {l : List (List Int)} {i : Int} {Q : D → Prop} : oIx (rD a b l) (.int i) Q = ∃ x, atI l i = some x ∧ Q (hD b (x.map .int)) := by
  unfold rD
  rw [ix_hD]
  exact ix_map
theorem oIn_hi {x : Int} {t neg : Bool} {l : List Int} {Q : D → Prop} : oIn neg (.int x) (hD t (l.map .int)) Q = Q (.bl (if neg = true then !decide (x ∈ l) else decide (x ∈ l))) := by
  cases t
  · exact oIn_li neg
  · exact oIn_ti neg
/-- beats at which one goes -/
theorem comp_there {n c u v : Nat} {L : Psg} {i j : Nat} {t t1 t2 : Bool} {ρ : Evn} {Q : List D → Prop} (hc : c ≤ 4) (hu : u < n) (hv : v < n) (hl : ρ.length = 12) (hi : i < 4) (hj : j < 4) (h1 : ρ[1]? = some (.da (hD t ((tabF n c L).map (rD t1 t2))))) (h2 : ρ[i]? = some (.da (.int u))) (h3 : ρ[j]? = some (.da (.int v)))
    (q : Q ((beatsF c fun b => L b u v).map .int)) : lcW (gSet 10) (wB (w2 (oIn false) (wVar j) (w2 oIx (w2 oIx (wVar 1) (wVar 10)) (wVar i)))) (wVar 10) ρ Q (rngD 0 c) [] := by
  have hs := sizeLine_eq
  refine lc_rng0F c (fun b => L b u v) (fun b => .int (b : Nat)) (fun b hb k1 k2 g1 g2 => ?_) (by omega) ?_
  · have e1 : (ρ.set 10 (.da (.int (b : Nat))))[1]? = some (.da (hD t ((tabF n c L).map (rD t1 t2)))) := by rw [List.getElem?_set_ne (by omega)]; exact h1
    have e2 : (ρ.set 10 (.da (.int (b : Nat))))[i]? = some (.da (.int u)) := by rw [List.getElem?_set_ne (by omega)]; exact h2
    have e3 : (ρ.set 10 (.da (.int (b : Nat))))[j]? = some (.da (.int v)) := by rw [List.getElem?_set_ne (by omega)]; exact h3
    have e10 : (ρ.set 10 (.da (.int (b : Nat))))[10]? = some (.da (.int (b : Nat))) := by rw [List.getElem?_set_self (by omega)]
    simp [e1, e2, e3, e10]
    refine ⟨_, tab_at hb, _, row_at hu, ?_⟩
    rw [oIn_hi]
    have md := mem_row (n := n) (p := L b u) (v := v)
    cases h : L b u v with
    | true =>
      rw [h] at md
      exact .inr ⟨congrArg D.bl (decide_eq_true (md.mpr ⟨hv, rfl⟩)), g1 h⟩
    | false =>
      rw [h] at md
      exact .inl ⟨congrArg D.bl (decide_eq_false fun z => Bool.noConfusion (md.mp z).2), g2 h⟩
  · have : ((List.range c).filter fun b => L b u v).map (fun b => D.int (b : Nat)) = (beatsF c fun b => L b u v).map .int := by
      unfold beatsF
      rw [List.map_map]; rfl
    rw [this]
    exact q
/-- those that are, or are not, in another list -/
theorem comp_in {c : Nat} {l m : List Int} {j : Nat} {neg : Bool} {ρ : Evn} {Q : List D → Prop} (hlen : l.length ≤ 4) (hl : ρ.length = 12) (hj : j < 10) (h3 : ρ[j]? = some (.da (.lst (m.map .int))))
    (q : Q ((l.filter fun x => if neg = true then !decide (x ∈ m) else decide (x ∈ m)).map .int)) : lcW (gSet 10) (wB (w2 (oIn neg) (wVar 10) (wVar j))) (wVar 10) ρ Q (l.map D.int) [] := by
  have hs := sizeLine_eq
  refine lc_ofF l D.int (fun x => if neg = true then !decide (x ∈ m) else decide (x ∈ m)) D.int (fun x hx k1 k2 g1 g2 => ?_) (by omega) q
  have e3 : (ρ.set 10 (.da (.int x)))[j]? = some (.da (.lst (m.map .int))) := by rw [List.getElem?_set_ne (by omega)]; exact h3
  have e10 : (ρ.set 10 (.da (.int x)))[10]? = some (.da (.int x)) := by rw [List.getElem?_set_self (by omega)]
  simp [e3, e10]
  rw [oIn_li]
  cases h : (if neg = true then !decide (x ∈ m) else decide (x ∈ m)) with
  | true => exact .inr ⟨rfl, g1 h⟩
  | false => exact .inl ⟨rfl, g2 h⟩
@[simp] theorem len_t3 {l : List (List (List Int))} {Q : D → Prop} : oLen [t3 l] Q = Q (.int l.length) := by
  unfold t3
  simp
theorem p_ties_between (xc : XC) (ds : List D) (Q : Bool → D → Prop) (h : wf_ties_between xc ds Q) : b_ties_between (Zd xc Q) (ds.map .da ++ List.replicate (12 - ds.length) .no) := by
  obtain ⟨t, ta, tb, names, c, u, v, L, rfl, hn8, hu, hv, hc, q⟩ := h
  have hs := sizeLine_eq
  have tl : (tabF names.length c L).length = c := by simp [tabF]
  have nu : atI (names.map D.str) (u : Int) = some (.str (names.getD u "")) := by rw [atI_map, atI_strs hu]; simp [hu]
  have nv : atI (names.map D.str) (v : Int) = some (.str (names.getD v "")) := by rw [atI_map, atI_strs hv]; simp [hv]
  have et : ∀ (ms : List Int) (P : D → Prop), oTuple [D.lst (ms.map .int)] P = P (tI ms) := fun _ P => rfl
  have b1 := beats_le c fun b => L b u v
  have b2 := beats_le c fun b => L b v u
  simp [b_ties_between, tl, nu, nv]
  refine ⟨by omega, comp_there hc hu hv rfl (by omega) (by omega) rfl rfl rfl ⟨by omega, comp_there hc hv hu rfl (by omega) (by omega) rfl rfl rfl ?_⟩⟩
  refine comp_in (c := c) (by omega) rfl (by omega) rfl ?_
  refine comp_in (c := c) (by omega) rfl (by omega) rfl ?_
  refine comp_in (c := c) (by omega) rfl (by omega) rfl ?_
  simp only [if_neg Bool.false_ne_true, if_pos rfl, if_true, beats_and, beats_not]
  refine ⟨by omega, by omega, ?_⟩
  refine lc_ofF ([⟨names.getD u "", names.getD v "", "two", beatsF c fun b => L b u v && L b v u⟩, ⟨names.getD u "", names.getD v "", "one", beatsF c fun b => L b u v && !L b v u⟩, ⟨names.getD v "", names.getD u "", "one", beatsF c fun b => L b v u && !L b u v⟩] : List Tie) tieD (fun t => !t.at_.isEmpty) tieD (fun t ht k1 k2 g1 g2 => ?_) (by simp; omega) q
  simp
  cases h : t.at_ with
  | nil =>
    rw [h] at g1 g2
    rw [tie_at, h]
    exact .inl ⟨by simp, g2 rfl⟩
  | cons x xs =>
    rw [h] at g1 g2
    rw [tie_at, h]
    exact .inr ⟨by simp, g1 rfl⟩
theorem flat_le {α β : Type} (l : List α) (f : α → List β) (m : Nat) (h : ∀ x ∈ l, (f x).length ≤ m) : (l.flatMap f).length ≤ l.length * m := by
  induction l with
  | nil => simp
  | cons x xs ih =>
    have h1 := h x (by simp)
    have h2 := ih fun y hy => h y (by simp [hy])
    simp only [List.flatMap_cons, List.length_append, List.length_cons, Nat.add_mul, Nat.one_mul]
    omega
theorem pair_le (names : List Str) (c : Nat) (L : Psg) (u v : Nat) : (pairTies names c L u v).length ≤ 3 := by
  unfold pairTies
  exact List.length_filter_le _ _
theorem p_ties_of (xc : XC) (ds : List D) (Q : Bool → D → Prop) (h : wf_ties_of xc ds Q) : b_ties_of (Zd xc Q) (ds.map .da ++ List.replicate (5 - ds.length) .no) := by
  obtain ⟨t, ta, tb, names, c, L, rfl, hn8, hc, q⟩ := h
  have hs := sizeLine_eq
  simp [b_ties_of]
  simp [sFor]
  refine ⟨by omega, ?_⟩
  refine for_rng (fun i ρ => ∃ s3 s4, ρ = [Sl.da (.xtp (names.map .str)), Sl.da (hD t ((tabF names.length c L).map (rD ta tb))), Sl.ow (tsL ((List.range i).flatMap (rowTies names c L))), s3, s4]) (fun u ρ N hu ⟨s3, s4, e⟩ hN => ?_) (fun ρ ⟨s3, s4, e⟩ => by
    rw [e]
    simpa [sRetO, tiesP] using q) ⟨_, _, rfl⟩
  rw [e]
  simp [sFor]
  refine ⟨by omega, ?_⟩
  have lr : ∀ k : Nat, k ≤ u → ((List.range k).flatMap (rowTies names c L)).length ≤ k * 24 := fun k _ => by
    have := flat_le (List.range k) (rowTies names c L) 24 fun x _ => by
      have := flat_le (List.range (names.length - (x + 1))) (fun i => pairTies names c L x (x + 1 + i)) 3 fun y _ => pair_le _ _ _ _ _
      have := Nat.mul_le_mul_right 3 (show (List.range (names.length - (x + 1))).length ≤ 8 by simp; omega)
      unfold rowTies
      omega
    simpa using this
  have lu := lr u (Nat.le_refl _)
  rw [List.range_succ, List.flatMap_append] at hN
  simp only [List.flatMap_cons, List.flatMap_nil, List.append_nil] at hN
  generalize (List.range u).flatMap (rowTies names c L) = acc at *
  have ez : ((names.length : Int) - ((u : Int) + 1)).toNat = names.length - (u + 1) := by omega
  rw [ez]
  refine for_rng (fun i ρ => ∃ s4, ρ = [Sl.da (.xtp (names.map .str)), Sl.da (hD t ((tabF names.length c L).map (rD ta tb))), Sl.ow (tsL (acc ++ (List.range i).flatMap fun i => pairTies names c L u (u + 1 + i))), Sl.da (.int (u : Nat)), s4]) (fun i ρ N2 hi ⟨s4, e2⟩ hN2 => ?_) (fun ρ ⟨s4, e2⟩ => ?_) ⟨s4, by simp⟩
  · rw [e2]
    simp [sExt, wCall]
    have li := flat_le (List.range i) (fun i => pairTies names c L u (u + 1 + i)) 3 fun y _ => pair_le _ _ _ _ _
    have lp := pair_le names c L u (u + 1 + i)
    rw [List.range_succ, List.flatMap_append] at hN2
    simp only [List.flatMap_cons, List.flatMap_nil, List.append_nil] at hN2
    rw [List.length_range] at li
    generalize (List.range i).flatMap (fun i => pairTies names c L u (u + 1 + i)) = ac2 at *
    refine ⟨_, rfl, t, ta, tb, names, c, u, u + 1 + i, L, by simp, hn8, hu, by omega, hc, _, rfl, ?_, hN2 _ ⟨.da (.int ((u : Int) + 1 + (i : Int))), ?_⟩⟩
    · simp only [List.length_map, List.length_append]
      omega
    · simp only [tsL, List.map_append, List.append_assoc]
  · exact hN _ ⟨_, _, e2⟩
end Tw.S

namespace Tw.S
open PySem PySem.Spec L2 PyProof.Rows Tw
@[simp] theorem len_l3 {l : List (List (List Int))} {Q : D → Prop} : oLen [l3 l] Q = Q (.int l.length) := by
  unfold l3
  simp
@[simp] theorem seq_l3 {l : List (List (List Int))} : D.seq (l3 l) = some (l.map l2) := rfl
@[simp] theorem seq_l2 {l : List (List Int)} : D.seq (l2 l) = some (l.map iL) := rfl
@[simp] theorem list_iL {l : List Int} {Q : D → Prop} : oList [iL l] Q = Q (iL l) := rfl
theorem oIn_iL {i : Int} {l : List Int} {Q : D → Prop} (neg : Bool) : oIn neg (.int i) (iL l) Q = Q (.bl (if neg = true then !decide (i ∈ l) else decide (i ∈ l))) := oIn_li neg
theorem rowF_srt (n : Nat) (p : Nat → Bool) : (rowF n p).Pairwise (· ≤ ·) := by
  unfold rowF
  rw [List.pairwise_map]
  exact ((List.pairwise_lt_range (n := n)).filter p).imp fun h => by omega
end Tw.S

namespace Tw.S
open PySem PySem.Spec L2 PyProof.Rows Tw
section
variable {xc : XC} {Q : Bool → D → Prop} {names : List Str} {c u v : Nat} {L : Psg} {last : List Int} {t : Tie}
@[simp] theorem ty_tI (l : List Int) : D.ty (tI l) = D.ty (.tup []) := rfl
end
end Tw.S

namespace Tw.S
open PySem PySem.Spec L2 PyProof.Rows Tw
/-! sums -/
def sm {α : Type} (l : List α) (f : α → Nat) : Nat := (l.map f).sum
section
variable {α β : Type}
theorem sm_cons (x : α) (l : List α) (f : α → Nat) : sm (x :: l) f = f x + sm l f := by simp [sm]
end
/-- the ties with their places -/
structure KT where
  t : Tie
  u : Nat
  v : Nat
def pairKT (names : List Str) (c : Nat) (L : Psg) (u v : Nat) : List KT :=
  [⟨⟨names.getD u "", names.getD v "", "two", beatsF c fun b => L b u v && L b v u⟩, u, v⟩, ⟨⟨names.getD u "", names.getD v "", "one", beatsF c fun b => L b u v && !L b v u⟩, u, v⟩, ⟨⟨names.getD v "", names.getD u "", "one", beatsF c fun b => L b v u && !L b u v⟩, v, u⟩].filter fun k => !k.t.at_.isEmpty
def ktsP (names : List Str) (c : Nat) (L : Psg) : List KT := (List.range names.length).flatMap fun u => (List.range (names.length - (u + 1))).flatMap fun i => pairKT names c L u (u + 1 + i)
theorem pair_kt (names : List Str) (c : Nat) (L : Psg) (u v : Nat) : (pairKT names c L u v).map KT.t = pairTies names c L u v := by
  unfold pairKT
  exact (List.filter_map (f := KT.t) (p := fun t : Tie => !t.at_.isEmpty) (l := _)).symm
theorem kts_t (names : List Str) (c : Nat) (L : Psg) : (ktsP names c L).map KT.t = tiesP names c L := by
  unfold ktsP tiesP rowTies
  rw [List.map_flatMap]
  congr 1
  funext u
  rw [List.map_flatMap]
  congr 1
  funext i
  exact pair_kt _ _ _ _ _
def KT.key (k : KT) : List Int := keyF k.t k.u k.v
def KT.wt (k : KT) : Nat := k.t.at_.length + if k.t.w = "two" then k.t.at_.length else 0
theorem two_ne_one : ¬ ("one" : Str) = "two" := by decide
theorem kts_ok {names : List Str} {c : Nat} {L : Psg} (last : List Int) {k : KT} (hk : k ∈ ktsP names c L) : KeyOk names c L last k.t k.u k.v := by
  unfold ktsP at hk
  obtain ⟨u, hu, hk⟩ := List.mem_flatMap.mp hk
  obtain ⟨i, hi, hk⟩ := List.mem_flatMap.mp hk
  have hu := List.mem_range.mp hu
  have hi := List.mem_range.mp hi
  have hv : u + 1 + i < names.length := by omega
  have hl : u < u + 1 + i := by omega
  generalize u + 1 + i = v at *
  obtain ⟨hk, ne⟩ := List.mem_filter.mp hk
  have ne : k.t.at_ ≠ [] := fun z => by rw [z] at ne; exact Bool.noConfusion ne
  simp only [List.mem_cons, List.not_mem_nil, or_false] at hk
  have bs := fun p => set_beats c p
  rcases hk with rfl | rfl | rfl
  · exact ⟨hu, hv, by simp; omega, rfl, rfl, .inl rfl, ne, bs _, fun b hb => by
      have := (mem_beats.mp hb).2
      simp at this
      simp [this], fun _ => hl⟩
  · exact ⟨hu, hv, by simp; omega, rfl, rfl, .inr rfl, ne, bs _, fun b hb => by
      have := (mem_beats.mp hb).2
      simp at this
      simp [this, two_one.2], fun z => absurd z two_ne_one⟩
  · exact ⟨hv, hu, by simp; omega, rfl, rfl, .inr rfl, ne, bs _, fun b hb => by
      have := (mem_beats.mp hb).2
      simp at this
      simp [this, two_one.2], fun z => absurd z two_ne_one⟩
end Tw.S

namespace Tw.S
open PySem PySem.Spec L2 PyProof.Rows Tw
section
variable {xc : XC} {Q : Bool → D → Prop} {s0 s1 s3 s5 s6 s7 s8 : Sl}
end
end Tw.S

namespace Tw.S
open PySem PySem.Spec L2 PyProof.Rows Tw
/-- ties written for the pairs P of the passages L -/
structure RW (names : List Str) (c : Nat) (L : Psg) (m : Nat) (P : List (Nat × Nat)) (acc : List Tie) : Prop where
  le : acc.length ≤ m * P.length
  ok : ∀ t ∈ acc, TieOk names c t
  ld : ∀ (b i j : Nat) (hb : b < c) (hi : i < names.length) (hj : j < names.length), leads acc b names[i] names[j] = (L b i j && decide ((min i j, max i j) ∈ P))
theorem leads_on {x y p q : Str} {ts : List Tie} {b : Int} (h : ∀ t ∈ ts, (t.a = x ∧ t.b = y) ∨ (t.a = y ∧ t.b = x)) (h1 : ¬ (p = x ∧ q = y)) (h2 : ¬ (p = y ∧ q = x)) : leads ts b p q = false := by
  unfold leads
  rw [List.any_eq_false]
  intro t ht hl
  unfold Tie.leads at hl
  simp at hl
  rcases h t ht with ⟨ea, eb⟩ | ⟨ea, eb⟩ <;> rcases hl.2 with ⟨z1, z2⟩ | ⟨⟨z1, z2⟩, _⟩ <;> rw [ea] at * <;> rw [eb] at *
  · exact h1 ⟨z1.symm, z2.symm⟩
  · exact h2 ⟨z1.symm, z2.symm⟩
  · exact h2 ⟨z1.symm, z2.symm⟩
  · exact h1 ⟨z1.symm, z2.symm⟩
theorem RW.step {names : List Str} {c : Nat} {L : Psg} {m : Nat} {P : List (Nat × Nat)} {acc ts : List Tie} {u v : Nat} (hn : NamesOk names) (R : RW names c L m P acc) (hvu : v < u) (hu : u < names.length) (hv : v < names.length) (hP : (v, u) ∉ P)
    (hT : ∀ t ∈ ts, ((t.a = names[v] ∧ t.b = names[u]) ∨ (t.a = names[u] ∧ t.b = names[v])) ∧ (t.w = "two" ∨ t.w = "one") ∧ t.at_ ≠ [] ∧ isSet t.at_ c = true) (hl : ts.length ≤ m)
    (hd : ∀ b : Nat, b < c → leads ts b names[v] names[u] = L b v u ∧ leads ts b names[u] names[v] = L b u v) : RW names c L m (P ++ [(v, u)]) (acc ++ ts) := by
  refine ⟨?_, fun t ht => ?_, fun b i j hb hi hj => ?_⟩
  · rw [List.length_append, List.length_append, List.length_singleton, Nat.mul_add, Nat.mul_one]
    have := R.le
    omega
  · rcases List.mem_append.mp ht with h | h
    · exact R.ok t h
    · exact (pair_tie hn hv hu (by omega) (hT t h)).1
  · rw [leads_app, R.ld b i j hb hi hj]
    have inj : ∀ {p q : Nat} (hp : p < names.length) (hq : q < names.length), names[p] = names[q] → p = q := fun hp hq e => (List.getElem_inj hn.nd).mp e
    by_cases h1 : i = v ∧ j = u
    · obtain ⟨rfl, rfl⟩ := h1
      rw [(hd b hb).1]
      have m1 : min i j = i := by omega
      have m2 : max i j = j := by omega
      rw [m1, m2]
      simp [hP]
    · by_cases h2 : i = u ∧ j = v
      · obtain ⟨rfl, rfl⟩ := h2
        rw [(hd b hb).2]
        have m1 : min i j = j := by omega
        have m2 : max i j = i := by omega
        rw [m1, m2]
        simp [hP]
      · rw [leads_on (fun t ht => (hT t ht).1) (fun z => h1 ⟨inj hi hv z.1, inj hj hu z.2⟩) (fun z => h2 ⟨inj hi hu z.1, inj hj hv z.2⟩), Bool.or_false]
        have : ((min i j, max i j) ∈ P ++ [(v, u)]) ↔ (min i j, max i j) ∈ P := by
          rw [List.mem_append, List.mem_singleton]
          refine or_iff_left fun z => ?_
          have z1 := congrArg Prod.fst z
          have z2 := congrArg Prod.snd z
          simp only at z1 z2
          rcases Nat.le_total i j with h | h
          · exact h1 ⟨by omega, by omega⟩
          · exact h2 ⟨by omega, by omega⟩
        rw [decide_eq_decide.mpr this]
theorem cut_take {α : Type} {l : List α} {k : Nat} : cutA l none (some (k : Int)) = l.take k := by
  unfold cutA
  rw [HT.sIx_nat, HT.sIx_none, List.drop_zero, Nat.sub_zero]
  exact (List.take_eq_take_min (l := l) (i := k)).symm
theorem tab_congr {n c : Nat} {L M : Psg} (h : ∀ b u v, b < c → u < n → v < n → L b u v = M b u v) : tabF n c L = tabF n c M := by
  unfold tabF
  apply List.map_congr_left
  intro b hb
  apply List.map_congr_left
  intro u hu
  unfold rowF
  congr 1
  apply List.filter_congr
  intro v hv
  exact h b u v (List.mem_range.mp hb) (List.mem_range.mp hu) (List.mem_range.mp hv)
section
variable {xc : XC} {Q : Bool → D → Prop} {names : List Str} {c u v m : Nat} {L : Psg} {l : List Int} {acc : List Tie} {P : List (Nat × Nat)}
end
end Tw.S

namespace Tw.S
open PySem PySem.Spec L2 PyProof.Rows Tw
@[simp] theorem list_sL {l : List Str} {Q : D → Prop} : oList [sL l] Q = Q (sL l) := rfl
end Tw.S

namespace Tw.S
open PySem PySem.Spec L2 PyProof.Rows Tw
@[simp] theorem sl_sL {l : List Str} {lo hi : Option Int} {Q : D → Prop} : oSl (sL l) lo hi Q = Q (sL (cutA l lo hi)) := by
  unfold sL
  rw [oSl_l, cutD_map]
@[simp high] theorem plus_sL {a b : List Str} {Q : D → Prop} : oPlus (sL a) (sL b) Q = (a.length + b.length ≤ sizeLine ∧ Q (sL (a ++ b))) := by
  unfold sL
  simp
@[simp] theorem list_tsL {l : List Tie} {Q : D → Prop} : oList [tsL l] Q = Q (tsL l) := rfl
theorem TiesOk.names {names names' : List Str} {c : Int} {ts : List Tie} (h : TiesOk names c ts) (s : ∀ x ∈ names, x ∈ names') : TiesOk names' c ts :=
  ⟨h.le, fun t ht => ⟨s _ (h.ok t ht).a, s _ (h.ok t ht).b, (h.ok t ht).ne, (h.ok t ht).w, (h.ok t ht).at0, (h.ok t ht).at_⟩⟩
theorem isSet_le {l : List Int} {n m : Int} (h : isSet l n = true) (hm : n ≤ m) : isSet l m = true := by
  unfold isSet at *
  rw [Bool.and_eq_true] at *
  refine ⟨List.all_eq_true.mpr fun x hx => ?_, h.2⟩
  have := List.all_eq_true.mp h.1 x hx
  simp at this ⊢
  omega
theorem TiesOk.beats {names : List Str} {c d : Int} {ts : List Tie} (h : TiesOk names c ts) (s : c ≤ d) : TiesOk names d ts :=
  ⟨h.le, fun t ht => ⟨(h.ok t ht).a, (h.ok t ht).b, (h.ok t ht).ne, (h.ok t ht).w, (h.ok t ht).at0, isSet_le (h.ok t ht).at_ s⟩⟩
def one (c : Nat) : Str := ⟨#[c]⟩
section
variable {C : Addr} {xc : XC} {Q : Bool → D → Prop} {names : List Str} {ts : List Tie} {c : Nat}
end
end Tw.S

namespace Tw.S
open PySem PySem.Spec L2 PyProof.Rows Tw
theorem psg_diag {names : List Str} {c : Int} {ts : List Tie} (h : TiesOk names c ts) : ∀ b u, psgOf names ts b u u = false := fun b u => by
  unfold psgOf leads
  rw [List.any_eq_false]
  intro t ht hl
  have ne := (h.ok t ht).ne
  unfold Tie.leads at hl
  simp only [Bool.and_eq_true, Bool.or_eq_true, beq_iff_eq, decide_eq_true_eq] at hl
  rcases hl.2 with ⟨z1, z2⟩ | ⟨⟨z1, z2⟩, _⟩
  · exact ne (z1.trans z2.symm)
  · exact ne (z2.trans z1.symm)
theorem kt_lead {names : List Str} {c : Nat} {L : Psg} {i j b : Nat} (hi : i < names.length) (hj : j < names.length) (hb : b < c) (h0 : ∀ b u, L b u u = false) (hL : L b i j = true) : ∃ k ∈ ktsP names c L, k.t.leads b (names.getD i "") (names.getD j "") = true := by
  have hne : i ≠ j := fun e => by rw [e, h0] at hL; cases hL
  have pick : ∀ (u v : Nat) (k : KT), u < v → v < names.length → (b : Int) ∈ k.t.at_ → k ∈ [(⟨⟨names.getD u "", names.getD v "", "two", beatsF c fun b => L b u v && L b v u⟩, u, v⟩ : KT), ⟨⟨names.getD u "", names.getD v "", "one", beatsF c fun b => L b u v && !L b v u⟩, u, v⟩, ⟨⟨names.getD v "", names.getD u "", "one", beatsF c fun b => L b v u && !L b u v⟩, v, u⟩] → k ∈ ktsP names c L := fun u v k huv hv hk hm => by
    refine List.mem_flatMap.mpr ⟨u, List.mem_range.mpr (by omega), List.mem_flatMap.mpr ⟨v - (u + 1), List.mem_range.mpr (by omega), ?_⟩⟩
    have e : u + 1 + (v - (u + 1)) = v := by omega
    rw [e]
    refine List.mem_filter.mpr ⟨hm, ?_⟩
    cases h : k.t.at_ with
    | nil => rw [h] at hk; cases hk
    | cons => rfl
  by_cases hij : i < j
  · cases hB : L b j i with
    | true =>
      refine ⟨_, pick i j _ hij hj (mem_beats.mpr ⟨hb, ?_⟩) (List.mem_cons_self ..), ?_⟩
      · simp [hL, hB]
      · simp [Tie.leads, mem_beats, hb, hL, hB]
    | false =>
      refine ⟨_, pick i j _ hij hj (mem_beats.mpr ⟨hb, ?_⟩) (List.mem_cons_of_mem _ (List.mem_cons_self ..)), ?_⟩
      · simp [hL, hB]
      · simp [Tie.leads, mem_beats, hb, hL, hB]
  · have hji : j < i := by omega
    cases hB : L b j i with
    | true =>
      refine ⟨_, pick j i _ hji hi (mem_beats.mpr ⟨hb, ?_⟩) (List.mem_cons_self ..), ?_⟩
      · simp [hL, hB]
      · simp [Tie.leads, mem_beats, hb, hL, hB]
    | false =>
      refine ⟨_, pick j i _ hji hi (mem_beats.mpr ⟨hb, ?_⟩) (List.mem_cons_of_mem _ (List.mem_cons_of_mem _ (List.mem_cons_self ..))), ?_⟩
      · simp [hL, hB]
      · simp [Tie.leads, mem_beats, hb, hL, hB]
theorem ties_nexts {names : List Str} {c : Nat} {L : Psg} (hn : NamesOk names) (h0 : ∀ b u, L b u u = false) : nextsT names (tiesP names c L) c = tabF names.length c L := by
  refine tab_congr fun b i j hb hi hj => ?_
  unfold psgOf leads
  rw [← kts_t, List.any_map]
  have gi : ∀ {k : Nat} (hk : k < names.length), names.getD k "" = names[k] := fun hk => by simp [hk]
  have inj : ∀ {p q : Nat} (hp : p < names.length) (hq : q < names.length), names.getD p "" = names.getD q "" → p = q := fun hp hq e => (List.getElem_inj hn.nd).mp (by rwa [gi hp, gi hq] at e)
  cases hL : L b i j with
  | true =>
    obtain ⟨k, hk, hl⟩ := kt_lead (c := c) hi hj hb h0 hL
    exact List.any_eq_true.mpr ⟨k, hk, hl⟩
  | false =>
    rw [List.any_eq_false]
    intro k hk hl
    have ok := kts_ok [] hk
    simp only [Function.comp, Tie.leads, Bool.and_eq_true, Bool.or_eq_true, beq_iff_eq, decide_eq_true_eq] at hl
    obtain ⟨hat, hl⟩ := hl
    obtain ⟨l1, l2⟩ := ok.l1 b hat
    rw [ok.ea, ok.eb] at hl
    rcases hl with ⟨z1, z2⟩ | ⟨⟨z1, z2⟩, z3⟩
    · rw [inj ok.hu hi z1, inj ok.hv hj z2, hL] at l1
      cases l1
    · rw [inj ok.hu hj z2, inj ok.hv hi z1, hL, z3] at l2
      exact Bool.noConfusion l2
theorem ties_len (names : List Str) (c : Nat) (L : Psg) (h8 : names.length ≤ 8) : (tiesP names c L).length ≤ 84 := by
  have h1 : ∀ u, (rowTies names c L u).length ≤ (names.length - (u + 1)) * 3 := fun u => by
    have := flat_le (List.range (names.length - (u + 1))) (fun i => pairTies names c L u (u + 1 + i)) 3 fun y _ => pair_le _ _ _ _ _
    rw [List.length_range] at this
    exact this
  have h2 : ∀ l : List Nat, (l.flatMap (rowTies names c L)).length ≤ sm l fun u => (names.length - (u + 1)) * 3 := fun l => by
    induction l with
    | nil => exact Nat.le_refl _
    | cons x l ih =>
      rw [List.flatMap_cons, List.length_append, sm_cons]
      have := h1 x
      omega
  refine Nat.le_trans (h2 _) ?_
  have h3 : ∀ n, n ≤ 8 → (sm (List.range n) fun u => (n - (u + 1)) * 3) ≤ 84 := by
    unfold sm
    decide
  exact h3 _ h8
theorem ties_ok {names : List Str} {c : Nat} {L : Psg} (hn : NamesOk names) : TiesOk names c (tiesP names c L) := by
  refine ⟨by have := ties_len names c L hn.hi; omega, fun t ht => ?_⟩
  rw [← kts_t] at ht
  obtain ⟨k, hk, rfl⟩ := List.mem_map.mp ht
  have ok := kts_ok [] hk
  have hu := ok.hu
  have hv := ok.hv
  have gi : ∀ {k : Nat} (hk : k < names.length), names.getD k "" = names[k] := fun hk => by simp [hk]
  refine ⟨by rw [ok.ea, gi hu]; exact List.getElem_mem hu, by rw [ok.eb, gi hv]; exact List.getElem_mem hv, ?_, ok.w, ok.at0, ok.at_⟩
  rw [ok.ea, ok.eb, gi hu, gi hv]
  exact fun e => ok.ne ((List.getElem_inj hn.nd).mp e)
end Tw.S

namespace Tw.S
open PySem PySem.Spec L2 PyProof.Rows Tw
section
variable {C : Addr} {xc : XC} {Q : Bool → D → Prop} {names : List Str} {ts : List Tie} {c : Nat} {sc : List Int} {L : Psg}
@[simp] theorem mOf_web {nx : List (List (List Int))} : mOf C "ties" (webD C names c nx) := ⟨_, rfl, rfl⟩
end
end Tw.S

/-! Tw, part T: x.upper(). -/
namespace Tw
open PySem PySem.Spec L2 PyProof.Rows
section
variable {X : Cx} {E : XK} {o : Expr} {w : Wx} {apos pos : Pos}
end
end Tw

/-! Tw, part T: isinstance of the error that a clause holds. -/
namespace Tw
open PySem PySem.Spec L2 PyProof.Rows
def rIsX (K : PySem.W.Frag) (D a : Addr) (dx : Addr) : List V → Hp → VK → Prop := fun xs H Q => (∃ vf, H dx = some (.xd vf)) ∧
  ((∃ c u b, xs = [.ref a, c] ∧ ClsV c u ∧ PySem.W.kitOne K (.ref D) u = some b ∧ Q (.bl b) H) ∨
   (∃ tp cs us b, xs = [.ref a, .ref tp] ∧ H tp = some (.tup cs) ∧ Paired ClsV cs us ∧ PySem.W.kitAny K (.ref D) us = some b ∧ Q (.bl b) H))
theorem call_isX {X : Cx} {a D dx : Addr} {oe : Obj} {pn : List (Addr × Obj)} (C : ExcC X.K D) (hz : Zc (.ref D) (some dx) oe) (hf : ∃ vs, oe.data = .fields vs) : CallR (X.suite a ((a, oe) :: pn)) (.builtin "isinstance") (rIsX X.K D a dx) := by
  intro pins s σ H xs us Q I r h
  obtain ⟨⟨vf, hvf⟩, h⟩ := h
  have hx : ObjOk X.prog X.w H s.heap dx (.xd vf) := I.hok dx _ hvf
  obtain ⟨mA, hns, _⟩ := hx
  obtain ⟨od, ho, _⟩ := lookIn_ns hns
  obtain ⟨hget, _⟩ := I.pin (a, oe) (List.mem_append.mpr (.inl List.mem_cons_self))
  have hcl : (PySem.W.clsIn X.K D).isSome = true := by
    obtain ⟨cd, hc, _⟩ := PySem.W.any_some C.hd
    rw [hc]; rfl
  obtain ⟨vs, hv⟩ := hf
  have J : PySem.W.InstAt s.heap a oe D (some od) := ⟨hget, hz.1, by unfold PySem.W.notCls; rw [hv], by rw [hz.2]; exact ho⟩
  have Z := PySem.W.kitx_exc (K := X.K) (x := a) (ox := oe) (od := some od) (C := D) hcl C.hg C.hk C.hs C.ha C.hn C.ht C.hm
  rcases h with ⟨c, u, b, rfl, k, e, q⟩ | ⟨tp, cs, ws, b, rfl, hT, k, e, q⟩
  · obtain ⟨u1, u2, rfl, r1, r2⟩ := vals2 r
    have e2 := k.eq r2
    subst e2
    cases (show u1 = Value.ref a from r1)
    exact PySem.W.kia_one Z I.kIn J e (fun z => nomatch z) fun tk => ⟨.bl b, H, I.tok tk, rfl, q⟩
  · obtain ⟨u1, u2, rfl, r1, r2⟩ := vals2 r
    cases (show u1 = Value.ref a from r1)
    cases (show u2 = Value.ref tp from r2)
    obtain ⟨_, its, rv, o, h1, h2, n, h3⟩ := (show ObjOk X.prog X.w H s.heap tp (.tup cs) from I.hok tp _ hT)
    have e3 := ClsV.all k rv
    subst e3
    obtain ⟨oc, od', dt, sl⟩ := o
    simp only at h2 h3
    subst h2 h3
    exact PySem.W.kia_tup Z I.kIn J h1 e (fun z => nomatch z) fun tk => ⟨.bl b, H, I.tok tk, rfl, q⟩
/-- .. one without a dict -/
def rIs0 (K : PySem.W.Frag) (D a : Addr) : List V → Hp → VK → Prop := fun xs H Q =>
  ((∃ c u b, xs = [.ref a, c] ∧ ClsV c u ∧ PySem.W.kitOne K (.ref D) u = some b ∧ Q (.bl b) H) ∨
   (∃ tp cs us b, xs = [.ref a, .ref tp] ∧ H tp = some (.tup cs) ∧ Paired ClsV cs us ∧ PySem.W.kitAny K (.ref D) us = some b ∧ Q (.bl b) H))
theorem call_is0 {X : Cx} {a D : Addr} {oe : Obj} {pn : List (Addr × Obj)} (C : ExcC X.K D) (hz : Zc (.ref D) none oe) (hf : ∃ vs, oe.data = .fields vs) : CallR (X.suite a ((a, oe) :: pn)) (.builtin "isinstance") (rIs0 X.K D a) := by
  intro pins s σ H xs us Q I r h
  obtain ⟨hget, _⟩ := I.pin (a, oe) (List.mem_append.mpr (.inl List.mem_cons_self))
  obtain ⟨vs, hv⟩ := hf
  have J : PySem.W.InstAt s.heap a oe D none := by
    obtain ⟨oc, od, oda, osl⟩ := oe
    obtain ⟨h1, h2⟩ := hz
    dsimp only at h1 h2 hv
    subst h1 h2 hv
    exact ⟨hget, rfl, rfl, trivial⟩
  have Z := PySem.W.handS_kitx_exc (K := X.K) (x := a) (ox := oe) (D := D) C.hg C.hk C.hs C.hd C.ha C.hn C.ht C.hm
  rcases h with ⟨c, u, b, rfl, k, e, q⟩ | ⟨tp, cs, ws, b, rfl, hT, k, e, q⟩
  · obtain ⟨u1, u2, rfl, r1, r2⟩ := vals2 r
    have e2 := k.eq r2
    subst e2
    cases (show u1 = Value.ref a from r1)
    exact PySem.W.kia_one Z I.kIn J e (fun z => nomatch z) fun tk => ⟨.bl b, H, I.tok tk, rfl, q⟩
  · obtain ⟨u1, u2, rfl, r1, r2⟩ := vals2 r
    cases (show u1 = Value.ref a from r1)
    cases (show u2 = Value.ref tp from r2)
    obtain ⟨_, its, rv, o, h1, h2, n, h3⟩ := (show ObjOk X.prog X.w H s.heap tp (.tup cs) from I.hok tp _ hT)
    have e3 := ClsV.all k rv
    subst e3
    obtain ⟨oc, od', dt, sl⟩ := o
    simp only at h2 h3
    subst h2 h3
    exact PySem.W.kia_tup Z I.kIn J h1 e (fun z => nomatch z) fun tk => ⟨.bl b, H, I.tok tk, rfl, q⟩
/-- isinstance(e, ..), e the error in slot i, its class at D: b -/
def wIsX (a : Addr) (i : Nat) (D : Addr) (cls : Value) (d : Option Addr) (b : Bool) : Wx := fun _ ρ Q => (∃ p fs, cls = .ref D ∧ d = some p ∧ ρ[i]? = some (.ex a p fs) ∧ Q (.bl b)) ∨ (cls = .ref D ∧ d = none ∧ ρ[i]? = some (.e0 a) ∧ Q (.bl b))
section
variable {X : Cx} {a D : Addr} {oe : Obj} {cls : Value} {d : Option Addr} {pn : List (Addr × Obj)} {e c : Expr} {es : List Expr} {pos p p2 : Pos} {i : Nat} {b : Bool} {v : V} {u : Value} {vs : List V} {us : List Value}
/-- names of classes -/
structure PCs (X : Cx) (es : List Expr) (vs : List V) (us : List Value) : Prop where
  pa : PA X es (fun σ H Q => Q vs H)
  cv : Paired ClsV vs us
theorem ej_isX (C : ExcC X.K D) (hz : Zc cls d oe) (hf : ∃ vs, oe.data = .fields vs) (hv : PE (X.suite a ((a, oe) :: pn)) e (tVar i)) (hc : PE (X.suite a ((a, oe) :: pn)) c (tC v)) (k : ClsV v u) (hk : PySem.W.kitOne X.K (.ref D) u = some b)
    (hg : Gl (X.suite a ((a, oe) :: pn)) "isinstance") (hm : X.mg "isinstance" = none)
    (h1 : starEach (e :: c :: []) (X.suite a ((a, oe) :: pn)).env = (false, eval e (X.suite a ((a, oe) :: pn)).env) :: starEach (c :: []) (X.suite a ((a, oe) :: pn)).env := by rfl) (h2 : starEach (c :: []) (X.suite a ((a, oe) :: pn)).env = (false, eval c (X.suite a ((a, oe) :: pn)).env) :: starEach [] (X.suite a ((a, oe) :: pn)).env := by rfl)
    (h3 : (backTo pos (starEach [c] (X.suite a ((a, oe) :: pn)).env)).any (·.1) = false := by rfl) :
    EJ .e ETop (X.suite a ((a, oe) :: pn)) (.Call (.Name "isinstance" p) [e, c] [] pos) (wIsX a i D cls d b) := by
  refine ⟨⟨fun pins s σ H Q I hh => ?_⟩, fun xc ρ Q Q' im h => h.elim (fun ⟨q1, fs, ec, ed, hi, q⟩ => .inl ⟨q1, fs, ec, ed, hi, im _ q⟩) fun ⟨ec, ed, hi, q⟩ => .inr ⟨ec, ed, hi, im _ q⟩⟩
  obtain ⟨G0, H0, G, ρ, xc, R, Tx, hh⟩ := hh
  rcases hh with ⟨dx, fs, ec, ed, hi, q⟩ | ⟨ec, ed, hi, q⟩
  rotate_left
  · subst ec ed
    have e1 : σ[i]? = some (some (.ref a)) := R.sl i _ hi
    refine (pe_callB (X := X.suite a ((a, oe) :: pn)) (call_is0 C hz hf) hg hm rfl (pa_cons hv (pa_cons hc pa_nil h2) h1) (by decide) (by decide) h1 h3).run pins s σ H Q I ?_
    exact ⟨.ref a, e1, .inl ⟨v, u, b, rfl, k, hk, q G H _ (.refl R.gh) (.bl b)⟩⟩
  subst ec ed
  obtain ⟨e1, vf, e2, rf⟩ := R.sl i _ hi
  refine (pe_callB (X := X.suite a ((a, oe) :: pn)) (call_isX (dx := dx) C hz hf) hg hm rfl (pa_cons hv (pa_cons hc pa_nil h2) h1) (by decide) (by decide) h1 h3).run pins s σ H Q I ?_
  exact ⟨.ref a, e1, ⟨vf, R.gh _ _ e2⟩, .inl ⟨v, u, b, rfl, k, hk, q G H _ (.refl R.gh) (.bl b)⟩⟩
end
end Tw

/-! Tw, part T: properties whose getters raise nothing. -/
namespace Tw
open PySem PySem.Spec L2 PyProof.Rows
structure PDef (P : Program) (w : World) (K : PySem.W.Frag) (mg : Str → Option Value) (base : Heap) (C : Addr) (m : Str) (j : Nat) (wf : Wf) : Prop where
  ex : ∃ p f fd ps, FnOk P w K mg base (L2.CX P w) j f fd ps (spOf K 1 wf) ∧ PropOf K C m p f ∧ Binds K fd ps []
  cl : Cls K C
  mo : MoF wf
def wProp (C : Addr) (wf : Wf) (w : Wx) : Wx := fun xc ρ Q => w xc ρ fun d => (∃ fs, d = .obj C fs) ∧ wf xcNo [d] fun _ v => Q v
def EFalse : XK := fun _ _ _ => False
theorem passFalse {X : Cx} {CX : CXT} (h : ∀ (E : XK) (st : List Env) (H : Hp) (s : Shared) (e : Value) (s' : Shared), CX st H s E e s' → ∃ c d H', E c d H') : Passes CX X EFalse := fun pins σ H s e s' I z => by
  obtain ⟨c, d, H', q⟩ := h _ _ _ _ _ _ z
  exact q.elim
section
variable {X : Cx} {E : XK} {a : Expr} {w : Wx} {pos : Pos} {m : Str}
theorem ej_prop {C : Addr} {j : Nat} {wf : Wf} (F : PDef X.prog X.w X.K X.mg X.base C m j wf) (hr : Room (j + 1) X.A) (ha : EJ .e E X a w) (hab : attributeBase a m X.env (eval a X.env) = eval a X.env := by rfl) : EJ .e E X (.Attribute a m pos) (wProp C wf w) := by
  obtain ⟨pp, f, fd, ps, Fo, hp, b⟩ := F.ex
  have hx : Passes (L2.CX X.prog X.w) X.nox EFalse := passFalse fun E st H s e s' z => by
    obtain ⟨_, _, H', c, d, _, _, _, _, _, _, _, hE⟩ := z
    exact ⟨c, d, H', hE⟩
  refine ⟨(pe_prop (dvs := []) ha.pe F.cl hp Fo hr b .nil hx hab).imp fun σ H Q ⟨G0, H0, G, ρ, xc, R, T, q⟩ => ⟨G0, H0, G, ρ, xc, R, T, ha.mo _ _ _ _ (fun d ⟨⟨fs, ed⟩, q1⟩ G1 H1 v x1 r1 => ?_) q⟩,
    fun xc ρ Q Q' i q => ha.mo _ _ _ _ (fun d ⟨h, q⟩ => ⟨h, F.mo _ _ _ _ (fun fr v q => i _ q) q⟩) q⟩
  subst ed
  obtain ⟨l, dx, vf, rfl, hl, rf⟩ := rvO_obj x1.gh (.inl r1)
  refine ⟨l, dx, vf, rfl, hl, rfl, G1, _, xcNo, x1.gh, .cons r1 .nil, tieNo, F.mo _ _ _ _ (fun fr d q2 G' H' v x2 r2 => ?_) q1⟩
  cases fr with
  | false => exact q2 G' H' v (x1.trans x2) r2
  | true =>
    obtain ⟨G3, x3, r3⟩ := RvF.frz x2 r2
    exact q2 G3 H' v (x1.trans x3) r3
end
end Tw

/-! Tw, part T: tuple * int. -/
namespace Tw
open PySem PySem.Spec L2 PyProof.Rows
section
variable {X : Cx} {E : XK} {a b : Expr} {wa wb : Wx} {ka kb : Kd} {pos : Pos}
end
end Tw

/-! what the defs of k04 keep -/
namespace Tw.S
open PySem PySem.Spec L2 PyProof.Rows Tw
def backP (L : Psg) : Psg := fun b u v => L b v u
def Irr (L : Psg) : Prop := ∀ b u, L b u u = false
def rowT (n : Nat) (L : Psg) (b : Nat) : List (List Int) := (List.range n).map fun u => rowF n (L b u)
theorem tabF_rowT (n c : Nat) (L : Psg) : tabF n c L = (List.range c).map (rowT n L) := rfl
def doorB (n c : Nat) (L : Psg) : Bool := (List.range c).all fun b => decide (rowT n L b = rowT n L 0)
def plainB (n c : Nat) (L : Psg) : Bool := doorB n c L && decide (tabF n c L = tabF n c (backP L))
def wf_woven (C : Addr) : Wf := fun _ ds Q => ∃ (t a b : Bool) (names : List Str) (c : Nat) (L : Psg), ds = [.xtp (names.map .str), hD t ((tabF names.length c L).map (rD a b))] ∧ NamesOk names ∧ 1 ≤ c ∧ c ≤ 4 ∧ Irr L ∧ Q false (webP C names c L)
def wf_places_into : Wf := fun _ ds Q => ∃ (n b v : Nat) (L : Psg), ds = [t2 (rowT n L b), .int v] ∧ n ≤ 8 ∧ v < n ∧ Q false (tI (rowF n fun u => L b u v))
def wf_backward_nexts : Wf := fun _ ds Q => ∃ (n c : Nat) (L : Psg), ds = [t3 (tabF n c L)] ∧ n ≤ 8 ∧ c ≤ 4 ∧ Q false (t3 (tabF n c (backP L)))
def wf_Web_doorless (C : Addr) : Wf := fun _ ds Q => ∃ (names : List Str) (c : Nat) (L : Psg), ds = [webP C names c L] ∧ names.length ≤ 8 ∧ 1 ≤ c ∧ c ≤ 4 ∧ Q false (.bl (doorB names.length c L))
def wf_Web_plain (C : Addr) : Wf := fun _ ds Q => ∃ (names : List Str) (c : Nat) (L : Psg), ds = [webP C names c L] ∧ names.length ≤ 8 ∧ 1 ≤ c ∧ c ≤ 4 ∧ Q false (.bl (plainB names.length c L))
def wf_law_is_plain : Wf := fun _ ds Q => ∃ (n c : Nat) (L : Psg), ds = [l3 (tabF n c L)] ∧ n ≤ 8 ∧ 1 ≤ c ∧ c ≤ 4 ∧ Q false (.bl (plainB n c L))
end Tw.S

namespace Tw.S
open PySem PySem.Spec L2 PyProof.Rows Tw
theorem mo_wf_woven {C : Addr} : MoF (wf_woven C) := fun xc ds Q Q' i ⟨v0, v1, v2, v3, v4, v5, c0, c1, c2, c3, c4, q⟩ => ⟨v0, v1, v2, v3, v4, v5, c0, c1, c2, c3, c4, i _ _ q⟩
theorem hn_wf_woven {C : Addr} : ∀ ds xc Q, wf_woven C xc ds Q → ds.length = 2 := fun ds xc Q ⟨v0, v1, v2, v3, v4, v5, c0, c1, c2, c3, c4, q⟩ => by rw [c0]; rfl
theorem mo_wf_places_into : MoF wf_places_into := fun xc ds Q Q' i ⟨v0, v1, v2, v3, c0, c1, c2, q⟩ => ⟨v0, v1, v2, v3, c0, c1, c2, i _ _ q⟩
theorem hn_wf_places_into : ∀ ds xc Q, wf_places_into xc ds Q → ds.length = 2 := fun ds xc Q ⟨v0, v1, v2, v3, c0, c1, c2, q⟩ => by rw [c0]; rfl
theorem mo_wf_backward_nexts : MoF wf_backward_nexts := fun xc ds Q Q' i ⟨v0, v1, v2, c0, c1, c2, q⟩ => ⟨v0, v1, v2, c0, c1, c2, i _ _ q⟩
theorem hn_wf_backward_nexts : ∀ ds xc Q, wf_backward_nexts xc ds Q → ds.length = 1 := fun ds xc Q ⟨v0, v1, v2, c0, c1, c2, q⟩ => by rw [c0]; rfl
theorem mo_wf_Web_doorless {C : Addr} : MoF (wf_Web_doorless C) := fun xc ds Q Q' i ⟨v0, v1, v2, c0, c1, c2, c3, q⟩ => ⟨v0, v1, v2, c0, c1, c2, c3, i _ _ q⟩
theorem hn_wf_Web_doorless {C : Addr} : ∀ ds xc Q, wf_Web_doorless C xc ds Q → ds.length = 1 := fun ds xc Q ⟨v0, v1, v2, c0, c1, c2, c3, q⟩ => by rw [c0]; rfl
theorem mo_wf_Web_plain {C : Addr} : MoF (wf_Web_plain C) := fun xc ds Q Q' i ⟨v0, v1, v2, c0, c1, c2, c3, q⟩ => ⟨v0, v1, v2, c0, c1, c2, c3, i _ _ q⟩
theorem hn_wf_Web_plain {C : Addr} : ∀ ds xc Q, wf_Web_plain C xc ds Q → ds.length = 1 := fun ds xc Q ⟨v0, v1, v2, c0, c1, c2, c3, q⟩ => by rw [c0]; rfl
theorem mo_wf_law_is_plain : MoF wf_law_is_plain := fun xc ds Q Q' i ⟨v0, v1, v2, c0, c1, c2, c3, q⟩ => ⟨v0, v1, v2, c0, c1, c2, c3, i _ _ q⟩
theorem hn_wf_law_is_plain : ∀ ds xc Q, wf_law_is_plain xc ds Q → ds.length = 1 := fun ds xc Q ⟨v0, v1, v2, c0, c1, c2, c3, q⟩ => by rw [c0]; rfl
end Tw.S

/-! Tw, part T: classes of errors and properties of the text, by what the written part says of them. -/
namespace Tw
open PySem PySem.Spec L2 PyProof.Rows
section
variable {P : Program} {w : World} {K : PySem.W.Frag} {mg : Str → Option Value} {base : Heap}
theorem err_ok1 {qual f g : Str} {st : Stmt} {fI : Addr} {fd : FuncData} {C : Addr} {k : Nat} (F : Fun K "__init__" qual st fI fd) (S : FnScope (["self", g] : List Str) (["self", g] : List Str) (defScope st)) (T : OexC K C) (nf : PySem.W.findIn K (.ref C) f = some none)
    (hb : ∀ (cdv : Value) (A : Around) (outer : List Env) (s : Shared) (H : Hp) (E : XK), PSs (cxOf (L2.CX P w) P w K mg base (["self", g] : List Str) qual (defScope st) fI cdv A outer s H E) (defBody st) (tOst K f (tVar 0) (tVar 1))) :
    FnOk P w K mg base (L2.CX P w) (k + 1) fI fd ["self", g] (spErrN C [f]) := by
  refine F.okX S (fun vs H Q E h => ?_) (fun cdv A outer s H vs Q E hr h => ⟨_, hb cdv A outer s H E, ?_⟩)
  · obtain ⟨a, ws, rfl, hl, _⟩ := h
    simp [hl]
  · obtain ⟨a, ws, rfl, hl, ha, h⟩ := h
    match ws, hl with
    | [v], _ => exact ⟨v, rfl, .ref a, rfl, a, C, rfl, T, nf, .inl ⟨ha, h⟩⟩
theorem err_ok2 {qual f1 f2 g1 g2 : Str} {st : Stmt} {fI : Addr} {fd : FuncData} {C : Addr} {k : Nat} (F : Fun K "__init__" qual st fI fd) (S : FnScope (["self", g1, g2] : List Str) (["self", g1, g2] : List Str) (defScope st))
    (T : OexC K C) (nf1 : PySem.W.findIn K (.ref C) f1 = some none) (nf2 : PySem.W.findIn K (.ref C) f2 = some none)
    (hb : ∀ (cdv : Value) (A : Around) (outer : List Env) (s : Shared) (H : Hp) (E : XK), PSs (cxOf (L2.CX P w) P w K mg base (["self", g1, g2] : List Str) qual (defScope st) fI cdv A outer s H E) (defBody st) (tSeq (tOst K f1 (tVar 0) (tVar 1)) (tOst K f2 (tVar 0) (tVar 2)))) :
    FnOk P w K mg base (L2.CX P w) (k + 1) fI fd ["self", g1, g2] (spErrN C [f1, f2]) := by
  refine F.okX S (fun vs H Q E h => ?_) (fun cdv A outer s H vs Q E hr h => ⟨_, hb cdv A outer s H E, ?_⟩)
  · obtain ⟨a, ws, rfl, hl, _⟩ := h
    simp [hl]
  · obtain ⟨a, ws, rfl, hl, ha, h⟩ := h
    match ws, hl with
    | [v1, v2], _ =>
      refine ⟨v1, rfl, .ref a, rfl, a, C, rfl, T, nf1, .inl ⟨ha, fun dx hdx hne => ?_⟩⟩
      refine ⟨v2, rfl, .ref a, rfl, a, C, rfl, T, nf2, .inr ⟨dx, [(f1, v1)], upd_same, ?_, by simp, ?_⟩⟩
      · rw [upd_ne hne, upd_same]
      · have e : upd (upd (upd H dx (exd dx [(f1, v1)])) a (exo a C (some dx))) dx (exd dx [(f2, v2), (f1, v1)]) = upd (upd H dx (exd dx ([f1, f2].zip [v1, v2]).reverse)) a (exo a C (some dx)) := funext fun b => by
          by_cases h1 : b = dx
          · subst h1
            rw [upd_same, upd_ne hne, upd_same]
            rfl
          · rw [upd_ne h1]
            by_cases h2 : b = a
            · subst h2; rw [upd_same, upd_same]
            · rw [upd_ne h2, upd_ne h2, upd_ne h1, upd_ne h1]
        have := h dx hdx hne
        rw [← e] at this
        exact this
/-- an error's class: its __init__ -/
structure AtE (K : PySem.W.Frag) (mg : Str → Option Value) (x : Str) (C : Addr) (qual : Str) (st : Stmt) (ps fs : List Str) : Prop where
  ex : ∃ fI fd, Fun K "__init__" qual st fI fd ∧ Binds K fd ps [] ∧ PySem.W.findIn K (.ref C) "__init__" = some (some (.ref fI)) ∧ PySem.W.typeIn K (.ref fI) = some (.type "function")
  ox : OexC K C
  hm : mg x = some (.ref C)
  nf : ∀ f ∈ fs, PySem.W.findIn K (.ref C) f = some none
theorem err_mk1 {x qual f g : Str} {st : Stmt} {C : Addr} (A : AtE K mg x C qual st ["self", g] [f]) (S : FnScope (["self", g] : List Str) (["self", g] : List Str) (defScope st))
    (hb : ∀ (fI : Addr) (cdv : Value) (A : Around) (outer : List Env) (s : Shared) (H : Hp) (E : XK), PSs (cxOf (L2.CX P w) P w K mg base (["self", g] : List Str) qual (defScope st) fI cdv A outer s H E) (defBody st) (tOst K f (tVar 0) (tVar 1))) : Err P w K mg base x C [f] 1 := by
  obtain ⟨fI, fd, F, b, iC, tI⟩ := A.ex
  exact ⟨⟨fI, fd, _, err_ok1 (k := 0) F S A.ox (A.nf f (by simp)) (hb fI), b, iC, tI⟩, A.ox, A.hm, by simp⟩
theorem err_mk2 {x qual f1 f2 g1 g2 : Str} {st : Stmt} {C : Addr} (A : AtE K mg x C qual st ["self", g1, g2] [f1, f2]) (S : FnScope (["self", g1, g2] : List Str) (["self", g1, g2] : List Str) (defScope st))
    (hb : ∀ (fI : Addr) (cdv : Value) (A : Around) (outer : List Env) (s : Shared) (H : Hp) (E : XK), PSs (cxOf (L2.CX P w) P w K mg base (["self", g1, g2] : List Str) qual (defScope st) fI cdv A outer s H E) (defBody st) (tSeq (tOst K f1 (tVar 0) (tVar 1)) (tOst K f2 (tVar 0) (tVar 2)))) : Err P w K mg base x C [f1, f2] 1 := by
  obtain ⟨fI, fd, F, b, iC, tI⟩ := A.ex
  exact ⟨⟨fI, fd, _, err_ok2 (k := 0) F S A.ox (A.nf f1 (by simp)) (A.nf f2 (by simp)) (hb fI), b, iC, tI⟩, A.ox, A.hm, by simp⟩
/-- a property of a class -/
structure AtP (K : PySem.W.Frag) (C : Addr) (m qual : Str) (st : Stmt) : Prop where
  ex : ∃ p f fd, Fun K m qual st f fd ∧ PropOf K C m p f ∧ Binds K fd ["self"] []
theorem pdef_ok {C : Addr} {m qual : Str} {st : Stmt} {N : List Str} {k : Nat} {wf : Wf} {wb : Ws} (A : AtP K C m qual st) (c : Cls K C) (S : FnScope N ["self"] (defScope st)) (mo : MoF wf) (hn : ∀ ds xc Q, wf xc ds Q → ds.length = 1)
    (hb : ∀ (f : Addr) (cdv : Value) (A : Around) (outer : List Env) (s : Shared) (H : Hp) (E : XK), Room k (A.deeper (envOfC qual (defScope st) s.heap.objs.size f cdv)) →
      BJ E (cxOf (L2.CX P w) P w K mg base N qual (defScope st) f cdv A outer s H E) (defBody st) wb)
    (hw : ∀ xc ds (Q : Bool → D → Prop), wf xc ds Q → wb { nx := fun _ => Q false .non, rt := Q, xc := xc } (ds.map .da ++ List.replicate (N.length - ds.length) .no)) :
    PDef P w K mg base C m (k + 1) wf := by
  obtain ⟨p, f, fd, F, hp, b⟩ := A.ex
  exact ⟨⟨p, f, fd, _, fn_ok F S (fun xc ds Q q => hn ds xc Q q) (hb f) hw, hp, b⟩, c, mo⟩
theorem cls_some {C : Addr} (h : PySem.W.hasDictIn K C = true) : (PySem.W.clsIn K C).isSome = true := by
  obtain ⟨cd, hc, _⟩ := PySem.W.any_some h
  rw [hc]; rfl
/-- isinstance against an own class -/
theorem kit_ref {X c : Addr} {b : Bool} (hd : PySem.W.hasDictIn K c = true) (ht : PySem.W.typeIn K (.ref c) = some (.type "type")) (hs : PySem.W.subIn K (.ref X) (.ref c) = some b) (hx : PySem.W.subIn K (.ref X) (.ref X) = some true) : PySem.W.kitOne K (.ref X) (.ref c) = some b := by
  unfold PySem.W.kitOne
  by_cases e : X = c
  · subst e
    rw [if_pos (beq_self_eq_true _)]
    exact hx.symm.trans hs
  · rw [if_neg (by simpa using e)]
    show (if ((PySem.W.clsIn K c).isSome && PySem.W.typeIn K (.ref c) == some (.type "type")) = true then PySem.W.subIn K (.ref X) (.ref c) else none) = some b
    rw [cls_some hd, ht, if_pos (by rfl)]
    exact hs
theorem kit_ty {X : Addr} {T : String} {b : Bool} (hm : PySem.W.kitMeta T = true) (hs : PySem.W.subIn K (.ref X) (.type T) = some b) : PySem.W.kitOne K (.ref X) (.type T) = some b := by
  unfold PySem.W.kitOne
  rw [if_neg (by intro z; cases (beq_iff_eq.mp z))]
  show (if PySem.W.kitMeta T = true then PySem.W.subIn K (.ref X) (.type T) else none) = some b
  rw [if_pos hm]
  exact hs
end
end Tw

/-! Tw, part T: while; values popped; insert. -/
namespace Tw
open PySem PySem.Spec L2 PyProof.Rows
/-- while t: b, by what holds between the turns and a number that falls -/
def sWhile (t : Wt) (b : Ws) : Ws := fun Z ρ => ∃ W : Nat → Evn → Prop, (∃ m, W m ρ) ∧ ∀ m ρ, W m ρ → t Z.xc ρ fun c => if c = true then b { Z with nx := fun ρ' => ∃ m', m' < m ∧ W m' ρ', ct := fun ρ' => ∃ m', m' < m ∧ W m' ρ', bk := Z.nx } ρ else Z.nx ρ
section
variable {X : Cx} {E : XK} {c e : Expr} {body : List Stmt} {t : Wt} {s : Ws} {pos : Pos}
theorem sj_while (hp : PassesOwn (model X.prog X.w) X.A X.env X.xe) (hc : TJ E X c t) (hb : BJ E X body s) : SJ E X (.While c body [] pos) (sWhile t s) :=
  ⟨(ps_while hp hc.pt hb.ps).imp fun D' σ H ⟨G0, H0, G, ρ, Z, R, T, W, ⟨m0, w0⟩, hw⟩ => by
    refine ⟨fun m σ' H' => ∃ G2 ρ2, Same G G2 ∧ Rel X.K G0 H0 G2 ρ2 σ' H' ∧ W m ρ2, ⟨m0, G, ρ, Same.refl _, R, w0⟩, ?_⟩
    rintro m σ2 H2 ⟨G2, ρ2, s2, R2, w2⟩
    refine ⟨G0, H0, G2, ρ2, Z.xc, R2, T.xc, hc.mo _ _ _ _ (fun b q1 G3 H3 x3 => ?_) (hw m ρ2 w2)⟩
    cases b with
    | true =>
      rw [if_pos rfl] at q1 ⊢
      refine ⟨fun σ' H' => ∃ m', m' < m ∧ ∃ G4 ρ4, Same G G4 ∧ Rel X.K G0 H0 G4 ρ4 σ' H' ∧ W m' ρ4, fun σ' H' ⟨m', h1, h2⟩ => ⟨m', h1, h2⟩, ?_⟩
      have s3 : Same G G3 := s2.trans x3.gg
      exact ⟨G0, H0, G3, ρ2, { Z with nx := fun ρ' => ∃ m', m' < m ∧ W m' ρ', ct := fun ρ' => ∃ m', m' < m ∧ W m' ρ', bk := Z.nx }, R2.ext x3,
        ⟨fun ρ4 σ4 G4 H4 R4 s4 ⟨m', h1, h2⟩ => ⟨m', h1, G4, ρ4, s3.trans s4, R4, h2⟩, T.rt, fun ρ4 σ4 G4 H4 R4 s4 q4 => T.nx ρ4 σ4 G4 H4 R4 (s3.trans s4) q4, fun ρ4 σ4 G4 H4 R4 s4 ⟨m', h1, h2⟩ => ⟨m', h1, G4, ρ4, s3.trans s4, R4, h2⟩, T.xc⟩, q1⟩
    | false =>
      rw [if_neg Bool.false_ne_true] at q1 ⊢
      exact T.nx ρ2 σ2 G3 H3 (R2.ext x3) (s2.trans x3.gg) q1⟩
end
section
variable {X : Cx} {E : XK} {n e a b : Expr} {w u : Wx} {i j : Nat} {k : Kd} {y : Str} {py pos apos cpos : Pos}
end
end Tw

/-! Tw, part T: comprehensions with two fors. -/
namespace Tw
open PySem PySem.Spec L2 PyProof.Rows
def lc2W (g : Wg) (tt : Wt) (wi1 : Wa) (vs1 : List Nat) (g1 : Wg) (tt1 : Wt) (we : Wx) (ρ : Evn) (Q : List D → Prop) : List D → List D → Prop
  | [], acc => Q acc
  | x :: xs, acc => g x ρ fun ρ' => tt xcNo ρ' fun t => if t = true then wi1 xcNo ρ' fun items => lcW g1 tt1 we (wipeD ρ' vs1) (fun acc' => lc2W g tt wi1 vs1 g1 tt1 we ρ Q xs acc') items acc else lc2W g tt wi1 vs1 g1 tt1 we ρ Q xs acc
@[simp] def wLc2 (wi : Wa) (g : Wg) (tt : Wt) (wi1 : Wa) (vs1 : List Nat) (g1 : Wg) (tt1 : Wt) (we : Wx) (vs : List Nat) : Wx := fun xc ρ Q => wi xc ρ fun items => lc2W g tt wi1 vs1 g1 tt1 we (wipeD ρ vs) (fun acc => Q (.lst acc)) items []
theorem lc2W_mo {g g1 : Wg} {tt tt1 : Wt} {wi1 : Wa} {vs1 : List Nat} {we : Wx} {ρ : Evn} {Q Q' : List D → Prop} (mg : ∀ d ρ (Q Q' : Evn → Prop), (∀ r, Q r → Q' r) → g d ρ Q → g d ρ Q') (mt : ∀ xc ρ (Q Q' : Bool → Prop), (∀ d, Q d → Q' d) → tt xc ρ Q → tt xc ρ Q')
    (mi : ∀ xc ρ (Q Q' : List D → Prop), (∀ d, Q d → Q' d) → wi1 xc ρ Q → wi1 xc ρ Q')
    (mg1 : ∀ d ρ (Q Q' : Evn → Prop), (∀ r, Q r → Q' r) → g1 d ρ Q → g1 d ρ Q') (mt1 : ∀ xc ρ (Q Q' : Bool → Prop), (∀ d, Q d → Q' d) → tt1 xc ρ Q → tt1 xc ρ Q')
    (me : ∀ xc ρ (Q Q' : D → Prop), (∀ d, Q d → Q' d) → we xc ρ Q → we xc ρ Q') (i : ∀ d, Q d → Q' d) : ∀ xs acc, lc2W g tt wi1 vs1 g1 tt1 we ρ Q xs acc → lc2W g tt wi1 vs1 g1 tt1 we ρ Q' xs acc
  | [], acc, q => i _ q
  | x :: xs, acc, q => mg _ _ _ _ (fun ρ' q => mt _ _ _ _ (fun t q => by
      cases t with
      | true => rw [if_pos rfl] at q ⊢; exact mi _ _ _ _ (fun items q => lcW_mo mg1 mt1 me (fun a q => lc2W_mo mg mt mi mg1 mt1 me i xs a q) _ _ q) q
      | false => rw [if_neg Bool.false_ne_true] at q ⊢; exact lc2W_mo mg mt mi mg1 mt1 me i xs acc q) q) q
theorem wipeD_ow {ρ : Evn} {j : Nat} {e : D} : ∀ {vs : List Nat}, (wipeD ρ vs)[j]? = some (.ow e) → j ∉ vs ∧ ρ[j]? = some (.ow e)
  | [], h => ⟨by simp, h⟩
  | v :: vs, h => by
    have h' : ((wipeD ρ vs).set v .no)[j]? = some (.ow e) := h
    by_cases hj : j = v
    · subst hj
      have hlt : j < (wipeD ρ vs).length := by
        rcases List.getElem?_eq_some_iff.mp h' with ⟨hl, _⟩; simpa using hl
      rw [List.getElem?_set_self hlt] at h'; cases h'
    · rw [List.getElem?_set_ne (Ne.symm hj)] at h'
      obtain ⟨a, b⟩ := wipeD_ow h'
      exact ⟨by simp [hj, a], b⟩
/-- a target that stores data alone -/
def GDa (g : Wg) : Prop := ∀ d ρ Q, g d ρ Q → g d ρ fun ρ' => Q ρ' ∧ ∀ (j : Nat) (e : D), ρ'[j]? = some (.ow e) → ρ[j]? = some (.ow e)
theorem set_da {ρ : Evn} {i j : Nat} {d e : D} (h : (ρ.set i (.da d))[j]? = some (.ow e)) : ρ[j]? = some (.ow e) := by
  by_cases hj : j = i
  · subst hj
    have hlt : j < ρ.length := by
      rcases List.getElem?_eq_some_iff.mp h with ⟨hl, _⟩; simpa using hl
    rw [List.getElem?_set_self hlt] at h; cases h
  · rwa [List.getElem?_set_ne (Ne.symm hj)] at h
theorem gda_set (i : Nat) : GDa (gSet i) := fun d ρ Q q => ⟨q, fun j e h => set_da h⟩
section
variable {X : Cx} {E : XK} {e : Expr} {pos : Pos}
theorem lc2_imp {tg iter : Expr} {own : List (Str × Nat)} {wi wi1 : Wa} {tgs tgs1 vs1 : List Nat} {g g1 : Wg} {tt tt1 : Wt} {we : Wx}
    (hi : IJ E X tg iter wi) (hsub : ∀ t ∈ tgs, t ∈ own.map (·.2)) (hsub1 : ∀ t ∈ tgs1, t ∈ vs1) (gd : GDa g)
    (mg : ∀ d ρ (Q Q' : Evn → Prop), (∀ r, Q r → Q' r) → g d ρ Q → g d ρ Q') (mt : ∀ xc ρ (Q Q' : Bool → Prop), (∀ d, Q d → Q' d) → tt xc ρ Q → tt xc ρ Q') (mi : ∀ xc ρ (Q Q' : List D → Prop), (∀ d, Q d → Q' d) → wi1 xc ρ Q → wi1 xc ρ Q')
    (mg1 : ∀ d ρ (Q Q' : Evn → Prop), (∀ r, Q r → Q' r) → g1 d ρ Q → g1 d ρ Q') (mt1 : ∀ xc ρ (Q Q' : Bool → Prop), (∀ d, Q d → Q' d) → tt1 xc ρ Q → tt1 xc ρ Q') (me : ∀ xc ρ (Q Q' : D → Prop), (∀ d, Q d → Q' d) → we xc ρ Q → we xc ρ Q')
    (σ : L2.St) (H : Hp) (Q : VK) (h : liftW X.K E .f (wLc2 wi g tt wi1 vs1 g1 tt1 we (own.map (·.2))) σ H Q) : tLc2 (liftI X.K E wi) (liftG X.K tgs g) (liftT X.K E0 tt) (liftI X.K E0 wi1) (liftG X.K tgs1 g1) (liftT X.K E0 tt1) (liftW X.K E0 .e we) (own.map (·.2)) vs1 σ H Q := by
  obtain ⟨G0, H0, G, ρ, xc, R, T, q⟩ := h
  refine ⟨G0, H0, G, ρ, xc, R, T, hi.mo _ _ _ _ (fun items q1 G1 H1 J x1 wk => ?_) q⟩
  intro D' hD
  have R1 := R.ext x1
  have hD0 : H0 D' = none := R1.h0.free hD
  obtain ⟨ρw, ew, Rw⟩ := R1.wipe (own.map (·.2))
  have ew' : wipeD ρ (own.map (·.2)) = ρw := ew.symm
  rw [ew'] at q1
  have nDw : ∀ (j : Nat) (e : D), ρw[j]? = some (.ow e) → (L2.wipe σ (own.map (·.2)))[j]? ≠ some (some (.ref D')) := fun j d' hj hs => by
    obtain ⟨p', o', e1, e2, _⟩ := Rw.sl j _ hj
    rw [hs] at e1
    cases e1
    rw [hD] at e2
    cases e2
  refine ⟨fun i m H2 => m = items.length - i ∧ i ≤ items.length ∧ ∃ G2 vs acc, Same G1 G2 ∧ Same H1 H2 ∧ (∀ a, H1 a ≠ none → G1 a = none → G2 a = none) ∧ G2 D' = none ∧ H2 D' = some (.lst vs) ∧ Rps X.K G2 acc vs ∧ Rel X.K G0 H0 G2 ρw (L2.wipe σ (own.map (·.2))) H2 ∧
    lc2W g tt wi1 vs1 g1 tt1 we ρw (fun acc => ∀ G' H' v, Ext G H G' H' → RvK X.K .f H G' H' (.lst acc) v → Q v H') (items.drop i) acc, ⟨_, rfl, Nat.zero_le _, G1, [], [], Same.refl _, same_upd hD, fun _ _ q => q, x1.gh.free hD, upd_same, .nil, Rw.chgX (fun _ _ _ z => by rw [hD] at z; cases z) (x1.gh.free hD) hD0 nDw, q1⟩, ?_⟩
  rintro i m H2 ⟨rfl, hi', G2, vs, acc, s2, h2, n2, gD, eD, ra, R2, q2⟩
  by_cases hlt : i < items.length
  · have ed : items.drop i = items[i] :: items.drop (i + 1) := List.drop_eq_getElem_cons hlt
    rw [ed] at q2
    refine .inr ⟨wk.go i G2 H2 hlt s2 R2.gh, _, fun H' q3 => ⟨items.length - (i + 1), by omega, rfl, hlt, q3⟩, fun x H3 y => ?_⟩
    obtain ⟨G3, d, x3, hd, rd⟩ := wk.yld i G2 H2 x H3 hlt s2 R2.gh y
    rw [List.getElem?_eq_getElem hlt] at hd
    cases hd
    refine ⟨G0, H0, G3, ρw, _, R2.ext x3, rd, mg _ _ _ _ (fun ρ' q3 σ' R' wv => ?_) (gd _ _ _ q2)⟩
    obtain ⟨q3, ow3⟩ := q3
    have wv' : L2.wipe σ' (own.map (·.2)) = L2.wipe σ (own.map (·.2)) := (wv _ hsub).trans (wipe_wipe _ _)
    refine ⟨wv', G0, H0, G3, ρ', xcNo, R', tieNo, mt _ _ _ _ (fun t q4 G4 H4 x4 => ?_) q3⟩
    have x34 := x3.trans x4
    have n4 : ∀ a, H1 a ≠ none → G1 a = none → G4 a = none := fun a ha hg' => x34.gn a (Same.nn h2 ha) (n2 a ha hg')
    cases t with
    | true =>
      rw [if_pos rfl] at q4
      refine iteT ?_
      have R4 := R'.ext x4
      refine ⟨G0, H0, G4, ρ', xcNo, R4, tieNo, mi _ _ _ _ (fun items1 q5 G5 H5 J1 x5 wk1 => ?_) q4⟩
      have x35 := x34.trans x5
      have R5 := R4.ext x5
      obtain ⟨ρv, ev, Rv⟩ := R5.wipe vs1
      have ev' : wipeD ρ' vs1 = ρv := ev.symm
      rw [ev'] at q5
      have nDv : ∀ (j : Nat) (e : D), ρv[j]? = some (.ow e) → (L2.wipe σ' vs1)[j]? ≠ some (some (.ref D')) := fun j d' hj hs => by
        rw [← ev'] at hj
        obtain ⟨hj1, hj2⟩ := wipeD_ow hj
        have hj3 := ow3 _ _ hj2
        have hno : j ∉ own.map (·.2) := by
          rw [← ew'] at hj3
          exact (wipeD_ow hj3).1
        refine nDw j d' hj3 ?_
        have a1 := wipe_at σ' vs1 j
        rw [if_neg hj1] at a1
        have a2 := wipe_at σ' (own.map (·.2)) j
        rw [if_neg hno] at a2
        rw [← wv', a2, ← a1]
        exact hs
      have e5 : H5 D' = some (.lst vs) := x35.hh _ _ eD
      have g5 : G5 D' = none := x35.gn D' (by rw [eD]; simp) gD
      have n5 : ∀ a, H1 a ≠ none → G1 a = none → G5 a = none := fun a ha hg' => x5.gn a (Same.nn (h2.trans x34.hh) ha) (n4 a ha hg')
      refine ⟨fun j k H6 => k = items1.length - j ∧ j ≤ items1.length ∧ ∃ G6 vs6 acc6, Same G5 G6 ∧ Same H1 H6 ∧ (∀ a, H1 a ≠ none → G1 a = none → G6 a = none) ∧ G6 D' = none ∧ H6 D' = some (.lst vs6) ∧ Rps X.K G6 acc6 vs6 ∧ Rel X.K G0 H0 G6 ρw (L2.wipe σ (own.map (·.2))) H6 ∧ Rel X.K G0 H0 G6 ρv (L2.wipe σ' vs1) H6 ∧
        lcW g1 tt1 we ρv (fun acc' => lc2W g tt wi1 vs1 g1 tt1 we ρw (fun acc => ∀ G' H' v, Ext G H G' H' → RvK X.K .f H G' H' (.lst acc) v → Q v H') (items.drop (i + 1)) acc') (items1.drop j) acc6, ⟨_, rfl, Nat.zero_le _, G5, vs, acc, Same.refl _, h2.trans x35.hh, n5, g5, e5, ra.mono x35.gg, R2.ext x35, Rv, q5⟩, ?_⟩
      rintro j k H6 ⟨rfl, hj', G6, vs6, acc6, s6, h6, n6, gD6, eD6, ra6, R6, Rv6, q6⟩
      by_cases hlt1 : j < items1.length
      · have ed1 : items1.drop j = items1[j] :: items1.drop (j + 1) := List.drop_eq_getElem_cons hlt1
        rw [ed1] at q6
        refine .inr ⟨wk1.go j G6 H6 hlt1 s6 Rv6.gh, _, fun H' q7 => ⟨items1.length - (j + 1), by omega, rfl, hlt1, q7⟩, fun x H7 y => ?_⟩
        obtain ⟨G7, d7, x7, hd7, rd7⟩ := wk1.yld j G6 H6 x H7 hlt1 s6 Rv6.gh y
        rw [List.getElem?_eq_getElem hlt1] at hd7
        cases hd7
        refine ⟨G0, H0, G7, ρv, _, Rv6.ext x7, rd7, mg1 _ _ _ _ (fun ρ'' q7 σ'' R'' wv1 => ?_) q6⟩
        refine ⟨(wv1 _ hsub1).trans (wipe_wipe _ _), G0, H0, G7, ρ'', xcNo, R'', tieNo, mt1 _ _ _ _ (fun t q8 G8 H8 x8 => ?_) q7⟩
        have x78 := x7.trans x8
        have n8 : ∀ a, H1 a ≠ none → G1 a = none → G8 a = none := fun a ha hg' => x78.gn a (Same.nn h6 ha) (n6 a ha hg')
        cases t with
        | true =>
          rw [if_pos rfl] at q8
          refine iteT ?_
          refine ⟨G0, H0, G8, ρ'', xcNo, R''.ext x8, tieNo, me _ _ _ _ (fun yd q9 G9 H9 v x9 r9 => ?_) q8⟩
          have x79 := x78.trans x9
          have e9 : H9 D' = some (.lst vs6) := x79.hh _ _ eD6
          have g9 : G9 D' = none := x79.gn D' (by rw [eD6]; simp) gD6
          refine ⟨vs6, e9, by rw [← ra6.length]; exact q9.1, G9, vs6 ++ [v], acc6 ++ [yd], s6.trans x79.gg, fun b ob hb => ?_, fun a ha hg' => x9.gn a (Same.nn (h6.trans x78.hh) ha) (n8 a ha hg'), g9, upd_same, (ra6.mono x79.gg).append (.cons r9 .nil), (R6.ext x79).chgX (fun _ _ _ z => by rw [e9] at z; cases z) g9 hD0 nDw, (Rv6.ext x79).chgX (fun _ _ _ z => by rw [e9] at z; cases z) g9 hD0 nDv, q9.2⟩
          rw [upd_ne (ne_of_none hb hD)]
          exact x79.hh _ _ (h6 _ _ hb)
        | false =>
          rw [if_neg Bool.false_ne_true] at q8
          refine iteF ?_
          exact ⟨G8, vs6, acc6, s6.trans x78.gg, h6.trans x78.hh, n8, x78.gn D' (by rw [eD6]; simp) gD6, x78.hh _ _ eD6, ra6.mono x78.gg, R6.ext x78, Rv6.ext x78, q8⟩
      · have e : j = items1.length := by omega
        subst e
        rw [List.drop_length] at q6
        exact .inl ⟨wk1.stop G6 H6 s6 Rv6.gh, G6, vs6, acc6, (s2.trans x35.gg).trans s6, h6, n6, gD6, eD6, ra6, R6, q6⟩
    | false =>
      rw [if_neg Bool.false_ne_true] at q4
      refine iteF ?_
      exact ⟨G4, vs, acc, s2.trans x34.gg, h2.trans x34.hh, n4, x34.gn D' (by rw [eD]; simp) gD, x34.hh _ _ eD, ra.mono x34.gg, R2.ext x34, q4⟩
  · have e : i = items.length := by omega
    subst e
    rw [List.drop_length] at q2
    refine .inl ⟨wk.stop G2 H2 s2 R2.gh, ?_⟩
    exact q2 G2 H2 (.ref D') (x1.trans ⟨s2, h2, R2.gh, n2⟩) ⟨D', _, rfl, x1.hh.free hD, eD, ra, gD⟩
/-- [elt for target in iter if .. for target1 in iter1 if ..] -/
theorem ej_comp2 {tg iter tg1 iter1 elt : Expr} {ifs ifs1 : List Expr} {scope : Scope} {own : List (Str × Nat)} {wi wi1 : Wa} {tgs tgs1 : List Nat} {g g1 : Wg} {tt tt1 : Wt} {we : Wx} (hc : X.calm = true) (hN : X.N.Nodup) (ok : BlkOk X.N X.env.scope scope own)
    (hi : IJ E X tg iter wi) (hsub : ∀ t ∈ tgs, t ∈ own.map (·.2)) (hsub1 : ∀ t ∈ tgs1, t ∈ own.map (·.2)) (gd : GDa g)
    (hg : ∀ (s : Shared) (H : Hp) (C : Addr) (cl : List (Str × Addr)) (fp : List Addr), GJ (X.blk s H scope (compEnvC scope cl C X.env) fp) tg tgs g)
    (ht : ∀ (s : Shared) (H : Hp) (C : Addr) (cl : List (Str × Addr)) (fp : List Addr), TsJ E0 (X.blk s H scope (compEnvC scope cl C X.env) fp) ifs tt)
    (hi1 : ∀ (s : Shared) (H : Hp) (C : Addr) (cl : List (Str × Addr)) (fp : List Addr), IJ E0 (X.blk s H scope (compEnvC scope cl C X.env) fp) tg1 iter1 wi1)
    (hg1 : ∀ (s : Shared) (H : Hp) (C : Addr) (cl : List (Str × Addr)) (fp : List Addr), GJ (X.blk s H scope (compEnvC scope cl C X.env) fp) tg1 tgs1 g1)
    (ht1 : ∀ (s : Shared) (H : Hp) (C : Addr) (cl : List (Str × Addr)) (fp : List Addr), TsJ E0 (X.blk s H scope (compEnvC scope cl C X.env) fp) ifs1 tt1)
    (he : ∀ (s : Shared) (H : Hp) (C : Addr) (cl : List (Str × Addr)) (fp : List Addr), EJ .e E0 (X.blk s H scope (compEnvC scope cl C X.env) fp) elt we)
    (hs : ∀ x, foldedSetIterable iter X.env x = pure x := by intro _; rfl) (hs1 : ∀ env x, foldedSetIterable iter1 env x = pure x := by intro _ _; rfl) : EJ .f E X (.ListComp elt [⟨tg, iter, ifs, 0⟩, ⟨tg1, iter1, ifs1, 0⟩] scope pos) (wLc2 wi g tt wi1 tgs1 g1 tt1 we (own.map (·.2))) := by
  have A := hg s00 (fun _ => none) s00.heap.objs.size [] []
  have B := ht s00 (fun _ => none) s00.heap.objs.size [] []
  have C1 := hi1 s00 (fun _ => none) s00.heap.objs.size [] []
  have A1 := hg1 s00 (fun _ => none) s00.heap.objs.size [] []
  have B1 := ht1 s00 (fun _ => none) s00.heap.objs.size [] []
  have F1 := he s00 (fun _ => none) s00.heap.objs.size [] []
  exact ⟨(pe_lc2 (vs1 := tgs1) (g := liftG X.K tgs g) (tt := liftT X.K E0 tt) (wi1 := liftI X.K E0 wi1) (g1 := liftG X.K tgs1 g1) (tt1 := liftT X.K E0 tt1) (te := liftW X.K E0 .e we) hc hN hi.pi ok hsub1 (fun s H C cl fp => (hg s H C cl fp).pg) (fun s H C cl fp => (ht s H C cl fp).pt) (fun s H C cl fp => (hi1 s H C cl fp).pi) (fun s H C cl fp => (hg1 s H C cl fp).pg) (fun s H C cl fp => (ht1 s H C cl fp).pt) (fun s H C cl fp => (he s H C cl fp).pe) hs hs1).imp fun σ H Q h => lc2_imp hi hsub (fun _ h => h) gd A.mo B.mo C1.mo A1.mo B1.mo F1.mo σ H Q h,
    fun xc ρ Q Q' i q => hi.mo _ _ _ _ (fun items q => lc2W_mo A.mo B.mo C1.mo A1.mo B1.mo F1.mo (fun d q => i _ q) _ _ q) q⟩
theorem comp2_set {tg iter tg1 iter1 elt : Expr} {ifs ifs1 : List Expr} {scope : Scope} {own : List (Str × Nat)} {wi wi1 : Wa} {tgs tgs1 : List Nat} {g g1 : Wg} {tt tt1 : Wt} {we : Wx} {i : Nat} {y : Str} {py spos : Pos} (hc : X.calm = true) (hN : X.N.Nodup) (hy : X.N[i]? = some y) (hyl : X.env.scope.names.lookup y = some .local)
    (hsw : swapsWith (.ListComp elt [⟨tg, iter, ifs, 0⟩, ⟨tg1, iter1, ifs1, 0⟩] scope pos) (some (.Name y py)) spos.line X.env = pure true) (ok : BlkOk X.N X.env.scope scope own)
    (hi : IJ E X tg iter wi) (hsub : ∀ t ∈ tgs, t ∈ own.map (·.2)) (hsub1 : ∀ t ∈ tgs1, t ∈ own.map (·.2)) (gd : GDa g)
    (hg : ∀ (s : Shared) (H : Hp) (C : Addr) (cl : List (Str × Addr)) (fp : List Addr), GJ (X.blk s H scope (compEnvC scope cl C X.env) fp) tg tgs g)
    (ht : ∀ (s : Shared) (H : Hp) (C : Addr) (cl : List (Str × Addr)) (fp : List Addr), TsJ E0 (X.blk s H scope (compEnvC scope cl C X.env) fp) ifs tt)
    (hi1 : ∀ (s : Shared) (H : Hp) (C : Addr) (cl : List (Str × Addr)) (fp : List Addr), IJ E0 (X.blk s H scope (compEnvC scope cl C X.env) fp) tg1 iter1 wi1)
    (hg1 : ∀ (s : Shared) (H : Hp) (C : Addr) (cl : List (Str × Addr)) (fp : List Addr), GJ (X.blk s H scope (compEnvC scope cl C X.env) fp) tg1 tgs1 g1)
    (ht1 : ∀ (s : Shared) (H : Hp) (C : Addr) (cl : List (Str × Addr)) (fp : List Addr), TsJ E0 (X.blk s H scope (compEnvC scope cl C X.env) fp) ifs1 tt1)
    (he : ∀ (s : Shared) (H : Hp) (C : Addr) (cl : List (Str × Addr)) (fp : List Addr), EJ .e E0 (X.blk s H scope (compEnvC scope cl C X.env) fp) elt we)
    (hs : ∀ x, foldedSetIterable iter X.env x = pure x := by intro _; rfl) (hs1 : ∀ env x, foldedSetIterable iter1 env x = pure x := by intro _ _; rfl) :
    PS X (.Assign [.Name y py] (.ListComp elt [⟨tg, iter, ifs, 0⟩, ⟨tg1, iter1, ifs1, 0⟩] scope pos) spos) (tAsg (liftW X.K E .f (wLc2 wi g tt wi1 tgs1 g1 tt1 we (own.map (·.2)))) (gName i)) ∧ EJ .f E X (.ListComp elt [⟨tg, iter, ifs, 0⟩, ⟨tg1, iter1, ifs1, 0⟩] scope pos) (wLc2 wi g tt wi1 tgs1 g1 tt1 we (own.map (·.2))) := by
  have A := hg s00 (fun _ => none) s00.heap.objs.size [] []
  have B := ht s00 (fun _ => none) s00.heap.objs.size [] []
  have C1 := hi1 s00 (fun _ => none) s00.heap.objs.size [] []
  have A1 := hg1 s00 (fun _ => none) s00.heap.objs.size [] []
  have B1 := ht1 s00 (fun _ => none) s00.heap.objs.size [] []
  have F1 := he s00 (fun _ => none) s00.heap.objs.size [] []
  exact ⟨(ps_setLc2 (vs1 := tgs1) (g := liftG X.K tgs g) (tt := liftT X.K E0 tt) (wi1 := liftI X.K E0 wi1) (g1 := liftG X.K tgs1 g1) (tt1 := liftT X.K E0 tt1) (te := liftW X.K E0 .e we) hc hN hy hyl hsw hi.pi ok hsub1 (fun s H C cl fp => (hg s H C cl fp).pg) (fun s H C cl fp => (ht s H C cl fp).pt) (fun s H C cl fp => (hi1 s H C cl fp).pi) (fun s H C cl fp => (hg1 s H C cl fp).pg) (fun s H C cl fp => (ht1 s H C cl fp).pt) (fun s H C cl fp => (he s H C cl fp).pe) hs hs1).imp fun D' σ H h => lc2_imp hi hsub (fun _ h => h) gd A.mo B.mo C1.mo A1.mo B1.mo F1.mo σ H _ h,
    ej_comp2 hc hN ok hi hsub hsub1 gd hg ht hi1 hg1 ht1 he hs hs1⟩
theorem sj_compS2 {tg iter tg1 iter1 elt : Expr} {ifs ifs1 : List Expr} {scope : Scope} {own : List (Str × Nat)} {wi wi1 : Wa} {tgs tgs1 : List Nat} {g g1 : Wg} {tt tt1 : Wt} {we : Wx} {i : Nat} {y : Str} {py spos : Pos} (hc : X.calm = true) (hN : X.N.Nodup) (hy : X.N[i]? = some y) (hyl : X.env.scope.names.lookup y = some .local)
    (hsw : swapsWith (.ListComp elt [⟨tg, iter, ifs, 0⟩, ⟨tg1, iter1, ifs1, 0⟩] scope pos) (some (.Name y py)) spos.line X.env = pure true) (ok : BlkOk X.N X.env.scope scope own)
    (hi : IJ E X tg iter wi) (hsub : ∀ t ∈ tgs, t ∈ own.map (·.2)) (hsub1 : ∀ t ∈ tgs1, t ∈ own.map (·.2)) (gd : GDa g)
    (hg : ∀ (s : Shared) (H : Hp) (C : Addr) (cl : List (Str × Addr)) (fp : List Addr), GJ (X.blk s H scope (compEnvC scope cl C X.env) fp) tg tgs g)
    (ht : ∀ (s : Shared) (H : Hp) (C : Addr) (cl : List (Str × Addr)) (fp : List Addr), TsJ E0 (X.blk s H scope (compEnvC scope cl C X.env) fp) ifs tt)
    (hi1 : ∀ (s : Shared) (H : Hp) (C : Addr) (cl : List (Str × Addr)) (fp : List Addr), IJ E0 (X.blk s H scope (compEnvC scope cl C X.env) fp) tg1 iter1 wi1)
    (hg1 : ∀ (s : Shared) (H : Hp) (C : Addr) (cl : List (Str × Addr)) (fp : List Addr), GJ (X.blk s H scope (compEnvC scope cl C X.env) fp) tg1 tgs1 g1)
    (ht1 : ∀ (s : Shared) (H : Hp) (C : Addr) (cl : List (Str × Addr)) (fp : List Addr), TsJ E0 (X.blk s H scope (compEnvC scope cl C X.env) fp) ifs1 tt1)
    (he : ∀ (s : Shared) (H : Hp) (C : Addr) (cl : List (Str × Addr)) (fp : List Addr), EJ .e E0 (X.blk s H scope (compEnvC scope cl C X.env) fp) elt we)
    (hs : ∀ x, foldedSetIterable iter X.env x = pure x := by intro _; rfl) (hs1 : ∀ env x, foldedSetIterable iter1 env x = pure x := by intro _ _; rfl) :
    SJ E X (.Assign [.Name y py] (.ListComp elt [⟨tg, iter, ifs, 0⟩, ⟨tg1, iter1, ifs1, 0⟩] scope pos) spos) (sSet i (wLc2 wi g tt wi1 tgs1 g1 tt1 we (own.map (·.2)))) := sj_comp (comp2_set hc hN hy hyl hsw ok hi hsub hsub1 gd hg ht hi1 hg1 ht1 he hs hs1)
end
end Tw

/-! Tw, part T: dicts with single keys. -/
namespace Tw
open PySem PySem.Spec L2 PyProof.Rows
section
variable {K : PySem.W.Frag}
end
section
variable {X : Cx} {E : XK} {n e a b : Expr} {w wa wb : Wx} {i : Nat} {k ka kb : Kd} {pos pos' p : Pos}
end
end Tw

/-! Tw, part T16: sorted(set(x)), x a list or a tuple of ints. -/
namespace Tw
open PySem PySem.Spec L2 PyProof.Rows
theorem sub_tuple_set : isSubtype (.type "tuple") (.type "set") = pure false := by rw [isSubtype_type]; kernel_rfl
theorem sub_tuple_frozenset : isSubtype (.type "tuple") (.type "frozenset") = pure false := by rw [isSubtype_type]; kernel_rfl
section
variable {P : Program} {w : World} {A : Around} {E : Value → Shared → Prop} {s : Shared}
set_option maxHeartbeats 3200000 in
/-- set(t) of a tuple of ints -/
theorem call_setIT {l : Addr} {items : Array Value} (ns : List Int) {Q : Value → Shared → Prop} (hh : A.handled = none) (il : s.heap.IsTuple l items) (ii : IntsAre items.toList ns) (few : few64 ns)
    (h : ∀ (h' : Heap) (tk : Nat) m, m < 64 → SetR w h' s.heap.objs.size (fun k => decide (k ∈ ns)) m → (∀ b o, s.heap.get? b = some o → h'.get? b = some o) → Q (.ref s.heap.objs.size) { s with heap := h', toks := tk }) :
    wpAny (model P w) A (call (.type "set") [.ref l]) Q E s := by
  have sz : items.size = ns.length := by
    have q := ii.length
    rw [Array.length_toList] at q
    exact q
  obtain ⟨c, tl, hmro⟩ := F.called_set.mro
  have c1 := F.called_set.made
  have c2 := F.called_set.sub
  refine wpAny_call (codeAny_of_tree ?_)
  show wpAny _ _ (callAny (.type "set") _) _ _ _
  refine wpAny_pure ⟨Code.quiet_builtin _ (by decide +kernel), codeAny_builtin F.entry_type_call ?_⟩
  rw [Around.under_plain (weight_type_call_type "set" [.ref l] []) rfl]
  have c3 := F.called_set.notType
  have c4 := F.called_set.canCreate
  have c5 := F.typeCall_set_1 (.ref l)
  repeat (any_goals (first | assumption | wp_step))
  refine codeAny_mono (code_set_led1 (.ref l) (E := E) (Q₁ := fun obj s₁ => obj = .ref s.heap.objs.size ∧ s₁ = { s with heap := s.heap.push (fresh0 w) }) ⟨rfl, rfl⟩) fun r s₁ hr => ?_
  cases r with
  | error e => exact hr
  | ok fl =>
    cases fl with
    | ret obj =>
      obtain ⟨rfl, rfl⟩ := hr
      have hS : (s.heap.push (fresh0 w)).get? s.heap.objs.size = some (fresh0 w) := Heap.get?_push_size _ rfl
      have hT : Shared.TypeIs { s with heap := s.heap.push (fresh0 w) } (.ref s.heap.objs.size) "set" := ⟨_, hS, rfl⟩
      have c6 := F.called_set.init.lookup
      have c7 := F.called_set.init.bind (.ref s.heap.objs.size)
      repeat (any_goals (first | assumption | wp_step))
      refine codeAny_mono (codeAny_call_builtin (R := wants (fun r s₂ => r = .none ∧ ∃ h' tk m, s₂ = { s with heap := h', toks := tk } ∧ m < 64 ∧ SetR w h' s.heap.objs.size (fun k => decide (k ∈ ns)) m ∧
          (∀ b o, s.heap.get? b = some o → h'.get? b = some o)) E) F.called_set.init.plain F.entry_set_init (check_set_init_1 hT ?_)) fun r₂ s₂ hr₂ => ?_
      · obtain ⟨ol, hol, hcl, nl, hdl⟩ := il
        obtain ⟨ocls, odict, odata, oslots⟩ := ol
        simp only at hcl hdl
        subst hcl; subst hdl
        have hol' : (s.heap.push (fresh0 w)).get? l = some { cls := .type "tuple", dict := odict, data := .seq items nl, slots := oslots } := Heap.get?_push_of_some _ hol
        have d1 := sub_tuple_set
        have d2 := sub_tuple_frozenset
        have d3 : (Value.type "tuple" == Value.type "dict") = false := by decide
        have hl1 : (s.heap.push (fresh0 w)).IsTuple l items := ⟨_, hol', rfl, nl, rfl⟩
        unfold Builtin.«set.__init__» noKeywords Builtin.Frozenset.updateFrom
        generalize hPI : pyIter = PI
        wp_walk
        subst hPI
        refine wpAny_pyIter_tuple hl1 ?_
        refine wpAny_bind (wpAny_runValue ?_)
        have ls : l < s.heap.objs.size := Heap.lt_size hol
        have hh3 : A.in1.in1.in1.handled = none := by simp [hh]
        have nI : l ≠ (s.heap.push (fresh0 w)).objs.size := by
          rw [Heap.size_push]
          exact Nat.ne_of_lt (Nat.lt_succ_of_lt ls)
        have nf : s.heap.objs.size ∉ [(s.heap.push (fresh0 w)).objs.size, l] := by
          rw [Heap.size_push]; simp only [List.mem_cons, List.not_mem_nil, or_false, not_or]
          exact ⟨Nat.ne_of_lt (Nat.lt_succ_self _), Nat.ne_of_gt ls⟩
        have val : ∀ (i : Nat) (v : Value), items[i]? = some v → ∃ k t, ns[i]? = some k ∧ v = .int k t := fun i v hv => by
          have q : items.toList[i]? = some v := by rw [Array.getElem?_toList]; exact hv
          have lt2 : i < ns.length := by
            rw [← sz]; exact (Array.getElem?_eq_some_iff.mp hv).1
          obtain ⟨t, e⟩ := ii.int_at i v q
          exact ⟨ns.getD i 0, t, by rw [List.getD_eq_getElem?_getD, List.getElem?_eq_getElem lt2]; rfl, e⟩
        have nn : ∀ b, s.heap.objs.size ≤ b → s.heap.get? b = none := fun b hb => by
          cases q : s.heap.get? b with
          | none => rfl
          | some o => exact absurd (Nat.lt_of_lt_of_le (Heap.lt_size q) hb) (Nat.lt_irrefl _)
        refine upd_ints ((Walks.tuple hh3 _ l nI items).toS) s.heap.objs.size nf ns sz few val s.heap (nn _ (Nat.le_refl _)) (fun b hb => nn b (by
            rw [List.mem_singleton.mp hb, Heap.size_push]
            exact Nat.le_succ _)) (items.size - 0) 0 _ (by omega) (Nat.zero_le _)
          ⟨⟨_, Heap.get?_push_size _ rfl, rfl, rfl⟩, (hl1.push _)⟩ (fun b o e => Heap.get?_push_of_some _ (Heap.get?_push_of_some _ e)) ?hS0 ?hR
        case hS0 =>
          refine ⟨0, ⟨[], List.nodup_nil, rfl, fun _ q => by cases q⟩, ((setR_fresh (h := s.heap) w).at fun o e => Heap.get?_push_of_some _ e).congr fun k => by simp⟩
        case hR =>
          intro s' m mv hm hz kp
          obtain ⟨h', g2, d', tk', os'⟩ := s'
          have eg : g2 = s.gens := mv.gens
          have ed : d' = s.drawn := mv.drawn
          have eo : os' = s.os := mv.os
          subst eg; subst ed; subst eo
          show wpAny _ _ _ _ _ _
          refine wpAny_pure ?_
          show wpAny _ _ (ret Value.none) _ _ _
          have hm := mOf_lt few hm
          have et : ns.take items.size = ns := by rw [sz, List.take_length]
          rw [et] at hz
          exact wpAny_pure ⟨rfl, h', tk', m, rfl, hm, hz, kp⟩
      · cases r₂ with
        | error e => exact hr₂
        | ok fl₂ =>
          cases fl₂ with
          | ret r =>
            obtain ⟨rfl, h', tk, m, rfl, hm, hz, kp⟩ := hr₂
            repeat (any_goals (first | assumption | wp_step))
            exact h _ _ _ hm hz kp
          | _ => exact hr₂.elim
    | _ => exact hr.elim
end
section
variable {X : Cx} {E : XK} {a : Expr} {w : Wx} {k : Kd} {pos p : Pos}
end
end Tw

/-! Tw, part T17: own operators on two objects, static methods, tuple of a text. -/
namespace Tw
open PySem PySem.Spec L2 PyProof.Rows
section
variable {X : Cx} {E : XK} {a b o e : Expr} {es : List Expr} {w wa wb : Wx} {u : Wa} {k ka kb : Kd} {pos p apos : Pos}
/-! ### a & b by the class's own __and__ -/
/-! ### C.m(..), m a static method -/
structure SMet (K : PySem.W.Frag) (C : Addr) (m : Str) (f : Addr) : Prop where
  mc : ∃ mc, PySem.W.readsIn K C mc = true ∧ ∃ p, PySem.W.findCls K (.ref C) mc m = some (.get (.builtin "staticmethod.__get__") (.ref p) .none (.ref C)) ∧ ∃ rest, PySem.W.recIn K p "staticmethod" = some (.ref f :: rest)
  ga : PySem.W.specialIn K (.ref C) "__getattribute__" = some (some (.builtin "type.__getattribute__"))
  kp : PySem.W.keepIn K (.ref f) = true
structure SDef (P : Program) (w : World) (K : PySem.W.Frag) (mg : Str → Option Value) (base : Heap) (x : Str) (C : Addr) (m : Str) (n j : Nat) (wf : Wf) : Prop where
  ex : ∃ f fd ps, FnOk P w K mg base (L2.CX P w) j f fd ps (spOf K n wf) ∧ SMet K C m f ∧ Binds K fd ps []
  cn : mg x = some (.ref C)
  mo : MoF wf
  hn : ∀ ds xc Q, wf xc ds Q → ds.length = n
/-! ### tuple(z), z a text -/
end
section
variable {P : Program} {w : World} {K : PySem.W.Frag} {mg : Str → Option Value} {base : Heap}
structure AtS (K : PySem.W.Frag) (mg : Str → Option Value) (x : Str) (C : Addr) (m q : Str) (st : Stmt) (ps : List Str) : Prop where
  ex : ∃ f fd, Fun K m q st f fd ∧ SMet K C m f ∧ Binds K fd ps []
  cn : mg x = some (.ref C)
end
end Tw

/-! Tw, part T18: raise of an own error without fields; except without a name. -/
namespace Tw
open PySem PySem.Spec L2 PyProof.Rows
abbrev bmV : List Value := [.type "ValueError", .type "Exception", .type "BaseException", .type "object"]
structure Err0 (K : PySem.W.Frag) (mg : Str → Option Value) (x : Str) (C : Addr) : Prop where
  q : PySem.W.excIn K C bmV "ValueError.__new__" = true
  hm : mg x = some (.ref C)
  kC : PySem.W.keepIn K (.ref C) = true
  eB : PySem.W.subIn K (.ref C) (.type "BaseException") = some true
  tT : PySem.W.typeIn K (.ref C) = some (.type "type")
def sRaise0 (C : Addr) : Ws := fun Z _ => Z.xc C []
section
variable {X : Cx} {E : XK} {e : Expr} {w : Wx} {x : Str} {c : Value} {b₀ : Stmt} {suite : List Stmt} {p np pos pos' pos2 : Pos} {ok : Addr → Prop} {s : Ws} {C : Addr}
theorem pmk0 (F : Err0 X.K X.mg x C) (hg : Gl X x) (hdb : (x == ("__debug__" : Str)) = false := by decide) : PMk X (.Call (.Name x p) [] [] pos) (fun _ H Q => Q (.ref C) none H) := by
  intro pins s σ H Q I h
  refine wpAny_Call_Name_kw (ld_glob I hg F.hm ?_ hdb)
  refine PySem.W.callWith_K0 (first := []) I.kIn F.kC ?_
  show wpAny _ _ (call (.ref C) []) _ _ _
  obtain ⟨bm, N, nm, qn, bs, hdct, sn, sub, ab, col, dd, k0, k1, k2, k3, k5, mN, hC, hN, hni, T⟩ := exc_obj I.kIn F.q
  refine wpAny_call_exc_subT PySem.F.excBase_ValueError T hC hN hni (fun h' e hm => ?_) (Nat.zero_le _)
  exact mk_of I hm (raises_own F.eB F.tT) h (I.hok.gone hm.new)
theorem sj_raise0 (F : Err0 X.K X.mg x C) (tk : Takes X (fun cls d _ H => E cls d H)) (hc : X.calm = true := by rfl) (hg : Gl X x := by rfl) (hdb : (x == ("__debug__" : Str)) = false := by decide) :
    SJ E X (.Raise (some (.Call (.Name x p) [] [] pos)) none pos2) (sRaise0 C) := by
  refine ⟨(ps_raise hc tk (pmk0 (p := p) (pos := pos) F hg hdb)).imp fun D' σ H ⟨G0, H0, G, ρ, Z, R, Ti, q⟩ => ?_⟩
  exact Ti.xc C [] G H none R.ex rfl q
def hO (ok : Addr → Prop) (s : Ws) (Z : Pd) (ρ : Evn) : XC := fun C _ => ok C ∧ s Z ρ
theorem catch_goO {G0 H0 G H : Hp} {σ : L2.St} {D' : Ends} {Z : Pd} {ρ : Evn} (R : Rel X.K G0 H0 G ρ σ H) (T : Ties X.K G0 H0 G E D' Z) (hm : ∀ C, ok C → PySem.W.exmOne X.K (.ref C) c = some true) :
    TieX X.K G H (fun cls d H' => wOnly X.K c (fun _ _ _ => liftS X.K ETop s) (fun _ _ _ _ => False) D' cls d σ H') (hO ok s Z ρ) := by
  intro C fs G' H' dx x hd ⟨ho, q⟩
  exact ⟨true, hm C ho, fun _ a ha => ⟨G0, H0, G', _, _, R.ext x, ⟨fun ρ σ G2 H2 R2 s2 q2 => T.nx _ _ _ _ R2 (x.gg.trans s2) q2, T.rt, fun ρ σ G2 H2 R2 s2 q2 => T.bk _ _ _ _ R2 (x.gg.trans s2) q2, fun ρ σ G2 H2 R2 s2 q2 => T.ct _ _ _ _ R2 (x.gg.trans s2) q2, tieTop⟩, q⟩, fun z => Bool.noConfusion z⟩
end
end Tw

/-! Tw, part T19: list(range(n)), tuple(range(n)). -/
namespace Tw
open PySem PySem.Spec L2 PyProof.Rows
section
variable {X : Cx} {E : XK} {a : Expr} {w : Wx} {k : Kd} {pos p p2 q2 : Pos}
def wLstR (w : Wx) : Wx := fun xc ρ Q => w xc ρ fun d => ∃ n : Nat, d = .int n ∧ n ≤ 16777216 ∧ Q (.lst ((List.range n).map fun i : Nat => .int (i : Nat)))
def wTupR (w : Wx) : Wx := fun xc ρ Q => w xc ρ fun d => ∃ n : Nat, d = .int n ∧ n ≤ 16777216 ∧ Q (.tup ((List.range n).map fun i : Nat => .int (i : Nat)))
theorem rg_ints (n : Nat) : (List.range n).map (fun i : Nat => D.int (i : Nat)) = ((List.range n).map fun i : Nat => (i : Int)).map D.int := by rw [List.map_map]; rfl
theorem rgV_ints (n : Nat) : rgV 0 (n : Int) = ((List.range n).map fun i : Nat => (i : Int)).map V.int := by
  unfold rgV
  rw [List.map_map, Int.sub_zero, Int.toNat_natCast]
  refine List.map_congr_left fun i _ => ?_
  simp
theorem ej_listR (hc : X.calm = true) (hg : Gl X "list") (hm : X.mg "list" = none) (hg2 : Gl X "range") (hm2 : X.mg "range" = none) (ha : EJ k E X a w)
    (h1 : starEach [a] X.env = (false, eval a X.env) :: starEach [] X.env := by rfl) (h2 : starEach [(.Call (.Name "range" p2) [a] [] q2)] X.env = (false, eval (.Call (.Name "range" p2) [a] [] q2) X.env) :: starEach [] X.env := by rfl) :
    EJ .f E X (.Call (.Name "list" p) [.Call (.Name "range" p2) [a] [] q2] [] pos) (wLstR w) := by
  refine ⟨(pe_listRg (p := p) (pos := pos) hc hg hm (prg_1 (p := p2) (pos := q2) hg2 hm2 ha.pe h1) h2).imp fun σ H Q ⟨G0, H0, G, ρ, xc, R, T, q⟩ => ⟨G0, H0, G, ρ, xc, R, T, ha.mo _ _ _ _ (fun d ⟨n, ed, hn, q1⟩ G1 H1 v x1 r1 => ?_) q⟩, fun xc ρ Q Q' i q => ha.mo _ _ _ _ (fun d ⟨n, ed, hn, q⟩ => ⟨n, ed, hn, i _ q⟩) q⟩
  subst ed
  refine ⟨n, rvO_int r1.o, .of_le (by omega) (by omega) (by omega) (by omega), fun q hq => ?_⟩
  rw [rg_ints] at q1
  rw [rgV_ints]
  exact q1 _ _ _ (x1.trans (Ext.newH x1.gh hq)) ⟨q, _, rfl, x1.hh.free hq, upd_same, ints_rps _, x1.gh.free hq⟩
theorem ej_tupR (hc : X.calm = true) (hg : Gl X "tuple") (hm : X.mg "tuple" = none) (hg2 : Gl X "range") (hm2 : X.mg "range" = none) (ha : EJ k E X a w)
    (h1 : starEach [a] X.env = (false, eval a X.env) :: starEach [] X.env := by rfl) (h2 : starEach [(.Call (.Name "range" p2) [a] [] q2)] X.env = (false, eval (.Call (.Name "range" p2) [a] [] q2) X.env) :: starEach [] X.env := by rfl) :
    EJ .e E X (.Call (.Name "tuple" p) [.Call (.Name "range" p2) [a] [] q2] [] pos) (wTupR w) := by
  refine ⟨(pe_tupRg (p := p) (pos := pos) hc hg hm (prg_1 (p := p2) (pos := q2) hg2 hm2 ha.pe h1) h2).imp fun σ H Q ⟨G0, H0, G, ρ, xc, R, T, q⟩ => ⟨G0, H0, G, ρ, xc, R, T, ha.mo _ _ _ _ (fun d ⟨n, ed, hn, q1⟩ G1 H1 v x1 r1 => ?_) q⟩, fun xc ρ Q Q' i q => ha.mo _ _ _ _ (fun d ⟨n, ed, hn, q⟩ => ⟨n, ed, hn, i _ q⟩) q⟩
  subst ed
  refine ⟨n, rvO_int r1.o, .of_le (by omega) (by omega) (by omega) (by omega), fun q hq => ?_⟩
  rw [rg_ints] at q1
  rw [rgV_ints]
  have x2 := Ext.new (o := .tup (((List.range n).map fun i : Nat => (i : Int)).map V.int)) x1.gh hq
  exact q1 _ _ _ (x1.trans x2) (Rp.tup (SqT.of upd_same) (ints_rps _))
end
end Tw

/-! Tw, part T20: classes whose __iter__ gives iter of a tuple among their fields: list(o), for x in o. -/
namespace Tw
open PySem PySem.Spec L2 PyProof.Rows
/-- at it the iterator of the tuple at t, at its place i -/
def ItT (t it : Addr) (i : Nat) : HO := .ext fun h => h.IsTupleIter it t i
section
variable {X : Cx} {pins : List (Addr × Obj)} {σ : L2.St} {H : Hp} {s : Shared} {t it : Addr} {i : Nat}
/-- iter(e), e a tuple: the iterator is new -/
def rIterT (K : PySem.W.Frag) (n : Nat) : List V → Hp → VK → Prop := fun xs H Q => ∃ (t : Addr) (zs : List V), xs = [.ref t] ∧ SqT K H t zs ∧ ∀ it, H it = none → n ≤ it → Q (.ref it) (upd H it (ItT t it 0))
end
/-- what the body of such an __iter__ says -/
def tItB (K : PySem.W.Frag) (F : Str) (n : Nat) : TS := tRet (tCB (rIterT K n) (tCons (tFld K (tVar 0) F) tNil))
/-- __iter__ of the class at C gives iter(self.F) -/
structure OwnIt (P : Program) (w : World) (K : PySem.W.Frag) (mg : Str → Option Value) (base : Heap) (C : Addr) (F : Str) : Prop where
  ex : ∃ (f : Addr) (fd : FuncData) (q : Str) (st : Stmt), Fun K "__iter__" q st f fd ∧ Meth K C "__iter__" f ∧ Binds K fd ["self"] [] ∧ FnScope (["self"] : List Str) ["self"] (defScope st) ∧
    ∀ (cdv : Value) (A : Around) (outer : List Env) (s : Shared) (H : Hp) (E : XK), PSs (cxOf (L2.CX P w) P w K mg base (["self"] : List Str) q (defScope st) f cdv A outer s H E) (defBody st) (tItB K F s.heap.objs.size)
  cl : Cls K C
  na : NoAttr K C F
section
variable {P : Program} {w : World} {K : PySem.W.Frag} {mg : Str → Option Value} {base : Heap}
end
section
variable {X : Cx} {pins : List (Addr × Obj)} {σ : L2.St} {H : Hp} {s : Shared} {C a dx t : Addr} {F : Str} {vf : List (Str × V)} {zs : List V} {A1 : Around} {n : Nat}
end
section
variable {X : Cx} {E : XK} {e a b c o : Expr} {es : List Expr} {w wa wb : Wx} {u : Wa} {k ka kb : Kd} {pos p apos : Pos}
/-! ### list(o) -/
/-! ### for x in o -/
/-! ### x in o by the class's own __contains__ -/
end
section
variable {P : Program} {w : World} {K : PySem.W.Frag} {mg : Str → Option Value} {base : Heap}
end
end Tw

/-! Tw, part T21: try with several clauses, each with a name or without. -/
namespace Tw
open PySem PySem.Spec L2 PyProof.Rows
/-- a clause: the class it names, its name's slot (if any), its suite -/
structure Cl where
  c : Value
  i : Option Nat
  ts : Addr → Value → Option Addr → TS
def Cl.ends (k : Cl) (D : Ends) : Ends := match k.i with
  | none => D
  | some i => { D with nx := fun σ H => D.nx (σ.set i none) H, bk := fun σ H => D.bk (σ.set i none) H, ct := fun σ H => D.ct (σ.set i none) H }
def Cl.ent (k : Cl) (a : Addr) (σ : L2.St) : L2.St := match k.i with
  | none => σ
  | some i => σ.set i (some (.ref a))
/-- what such clauses wish of an error of the body; one that none of them takes does not come -/
def wMix (K : PySem.W.Frag) (D : Ends) : List Cl → WX
  | [] => fun _ _ _ _ => False
  | k :: r => fun cls d σ H => ∃ b, PySem.W.exmOne K cls k.c = some b ∧ (b = true → ∀ a, H a = none → k.ts a cls d (k.ends D) (k.ent a σ) H) ∧ (b = false → wMix K D r cls d σ H)
inductive ClsOk (X : Cx) : List ExceptHandler → List Cl → Prop
  | nil : ClsOk X [] []
  | one {x : Str} {k : Cl} {b₀ : Stmt} {suite : List Stmt} {np pos' : Pos} {hds : List ExceptHandler} {l : List Cl} (nm : Names X x k.c) (hi : k.i = none)
      (su : ∀ (a : Addr) (oe : Obj) (cls : Value) (d : Option Addr) (pn : List (Addr × Obj)), Zc cls d oe → (∃ vs, oe.data = .fields vs) → PSs (X.suite a ((a, oe) :: pn)) (b₀ :: suite) (k.ts a cls d)) (r : ClsOk X hds l) :
      ClsOk X (.ExceptHandler (some (.Name x np)) none (b₀ :: suite) pos' :: hds) (k :: l)
  | as {x n : Str} {k : Cl} {i : Nat} {b₀ : Stmt} {suite : List Stmt} {np pos' : Pos} {hds : List ExceptHandler} {l : List Cl} (nm : Names X x k.c) (hi : k.i = some i) (hN : X.N.Nodup) (hn : X.N[i]? = some n) (hl : X.env.kindOf n = some .local)
      (su : ∀ (a : Addr) (oe : Obj) (cls : Value) (d : Option Addr) (pn : List (Addr × Obj)), Zc cls d oe → (∃ vs, oe.data = .fields vs) → PSs (X.suite a ((a, oe) :: pn)) (b₀ :: suite) (k.ts a cls d)) (r : ClsOk X hds l) :
      ClsOk X (.ExceptHandler (some (.Name x np)) (some n) (b₀ :: suite) pos' :: hds) (k :: l)
section
variable {X : Cx} {body : List Stmt} {h₀ : ExceptHandler} {hds : List ExceptHandler} {l : List Cl} {pos : Pos} {tb : WX → TS}
end
/-! ### in data -/
/-- a clause in data: the classes that it takes, those that it passes on, its name's slot, its suite -/
inductive Ck where
  | one (ok no : Addr → Prop) (w : Ws)
  | as (ok no : Addr → Prop) (i : Nat) (s : Addr → Value → Option Addr → Ws)
def hMix (Z : Pd) (ρ : Evn) : List Ck → XC
  | [] => fun _ _ => False
  | .one ok no w :: r => fun C fs => (ok C ∧ w Z ρ) ∨ (no C ∧ hMix Z ρ r C fs)
  | .as ok no i s :: r => fun C fs => hX ok i s Z ρ C fs ∨ (no C ∧ hMix Z ρ r C fs)
inductive MJ (X : Cx) : List ExceptHandler → List Ck → Prop
  | nil : MJ X [] []
  | one {x : Str} {c : Value} {ok no : Addr → Prop} {w : Ws} {b₀ : Stmt} {suite : List Stmt} {np pos' : Pos} {hds : List ExceptHandler} {l : List Ck} (nm : Names X x c) (hm : ∀ C, ok C → PySem.W.exmOne X.K (.ref C) c = some true) (hn : ∀ C, no C → PySem.W.exmOne X.K (.ref C) c = some false)
      (su : ∀ (a : Addr) (oe : Obj) (cls : Value) (d : Option Addr) (pn : List (Addr × Obj)), Zc cls d oe → (∃ vs, oe.data = .fields vs) → BJ ETop (X.suite a ((a, oe) :: pn)) (b₀ :: suite) w) (r : MJ X hds l) :
      MJ X (.ExceptHandler (some (.Name x np)) none (b₀ :: suite) pos' :: hds) (.one ok no w :: l)
  | as {x n : Str} {c : Value} {ok no : Addr → Prop} {i : Nat} {s : Addr → Value → Option Addr → Ws} {b₀ : Stmt} {suite : List Stmt} {np pos' : Pos} {hds : List ExceptHandler} {l : List Ck} (nm : Names X x c) (hm : ∀ C, ok C → PySem.W.exmOne X.K (.ref C) c = some true) (hn : ∀ C, no C → PySem.W.exmOne X.K (.ref C) c = some false)
      (hN : X.N.Nodup) (hi : X.N[i]? = some n) (hl : X.env.kindOf n = some .local)
      (su : ∀ (a : Addr) (oe : Obj) (cls : Value) (d : Option Addr) (pn : List (Addr × Obj)), Zc cls d oe → (∃ vs, oe.data = .fields vs) → BJ ETop (X.suite a ((a, oe) :: pn)) (b₀ :: suite) (s a cls d)) (r : MJ X hds l) :
      MJ X (.ExceptHandler (some (.Name x np)) (some n) (b₀ :: suite) pos' :: hds) (.as ok no i s :: l)
section
variable {X : Cx} {E : XK} {e : Expr} {w : Wx} {hds : List ExceptHandler} {h₀ : ExceptHandler} {ks : List Ck} {pos : Pos} {j : Nat}
theorem MJ.go (m : MJ X hds ks) : ∃ l, ClsOk X hds l ∧ ∀ {G0 H0 G H : Hp} {σ : L2.St} {D' : Ends} {Z : Pd} {ρ : Evn}, Rel X.K G0 H0 G ρ σ H → Ties X.K G0 H0 G E D' Z → TieX X.K G H (fun cls d H' => wMix X.K D' l cls d σ H') (hMix Z ρ ks) := by
  induction m with
  | nil => exact ⟨[], .nil, fun _ _ _ _ _ _ _ _ _ q => q⟩
  | @one x c ok no w b₀ suite np pos' hds l nm hm hn su r ih =>
    obtain ⟨l', hc, tie⟩ := ih
    refine ⟨⟨c, none, fun _ _ _ => liftS X.K ETop w⟩ :: l', .one nm rfl (fun a oe cls d pn hz hf => (su a oe cls d pn hz hf).ps) hc, fun {G0 H0 G H σ D' Z ρ} R T C fs G' H' dx x hd q => ?_⟩
    rcases q with ⟨ho, q⟩ | ⟨ho, q⟩
    · obtain ⟨b, h1, h2, h3⟩ := catch_goO (s := w) (ok := ok) R T hm C fs G' H' dx x hd ⟨ho, q⟩
      exact ⟨b, h1, h2, fun z => (h3 z).elim⟩
    · exact ⟨false, hn C ho, fun z => Bool.noConfusion z, fun _ => tie R T C fs G' H' dx x hd q⟩
  | @as x n c ok no i s b₀ suite np pos' hds l nm hm hn hN hi hl su r ih =>
    obtain ⟨l', hc, tie⟩ := ih
    refine ⟨⟨c, some i, fun a cls d => liftS X.K ETop (s a cls d)⟩ :: l', .as nm rfl hN hi hl (fun a oe cls d pn hz hf => (su a oe cls d pn hz hf).ps) hc, fun {G0 H0 G H σ D' Z ρ} R T C fs G' H' dx x hd q => ?_⟩
    rcases q with q | ⟨ho, q⟩
    · obtain ⟨b, h1, h2, h3⟩ := catch_go (s := s) (ok := ok) (i := i) R T hm C fs G' H' dx x hd q
      exact ⟨b, h1, h2, fun z => (h3 z).elim⟩
    · exact ⟨false, hn C ho, fun z => Bool.noConfusion z, fun _ => tie R T C fs G' H' dx x hd q⟩
end
/-! ### ys.append(xs.pop(e)) -/
def sAppPop (i j : Nat) (w : Wx) : Ws := fun Z ρ => i ≠ j ∧ ∃ ds es, ρ[i]? = some (.ow (.lst es)) ∧ ρ[j]? = some (.ow (.lst ds)) ∧ w Z.xc ρ fun d => ∃ n k v, d = .int n ∧ (-(2 ^ 63) ≤ n ∧ n < 2 ^ 63) ∧ seqIndex? n ds.length = some k ∧ ds[k]? = some v ∧ es.length < sizeLine ∧
  Z.nx ((ρ.set j (.ow (.lst (ds.eraseIdx k)))).set i (.ow (.lst (es ++ [v]))))
section
variable {X : Cx} {E : XK} {n m e : Expr} {w : Wx} {i j : Nat} {k : Kd} {pos apos cpos apos2 cpos2 : Pos}
theorem sj_appPop (hN : PE X n (tVar i)) (hM : PE X m (tVar j)) (he : EJ k E X e w)
    (h1 : attributeBase m "pop" X.env (eval m X.env) = eval m X.env := by rfl) (h2 : ((backTo cpos2 (starEach [e] X.env)).all (fun x => !x.1) && (backToKw cpos2 (keywordEach [] X.env)).all (fun x => x.1.isSome) && decide ([e].length + ([] : List Keyword).length + (if ([] : List Keyword).isEmpty = true then 0 else 1) < 30)) = true := by rfl)
    (h3 : (apos2.endLine == cpos2.line) = true := by rfl) (hst : starEach [e] X.env = (false, eval e X.env) :: starEach [] X.env := by rfl)
    (k1 : attributeBase n "append" X.env (eval n X.env) = eval n X.env := by rfl) (k2 : ((backTo cpos (starEach [.Call (.Attribute m "pop" apos2) [e] [] cpos2] X.env)).all (fun x => !x.1) && (backToKw cpos (keywordEach [] X.env)).all (fun x => x.1.isSome) && decide (([Expr.Call (.Attribute m "pop" apos2) [e] [] cpos2] : List Expr).length + ([] : List Keyword).length + (if ([] : List Keyword).isEmpty = true then 0 else 1) < 30)) = true := by rfl)
    (k3 : (apos.endLine == cpos.line) = true := by rfl) (kst : starEach [.Call (.Attribute m "pop" apos2) [e] [] cpos2] X.env = (false, eval (.Call (.Attribute m "pop" apos2) [e] [] cpos2) X.env) :: starEach [] X.env := by rfl)
    (hs : swapsWith (.Call (.Attribute n "append" apos) [.Call (.Attribute m "pop" apos2) [e] [] cpos2] [] cpos) none pos.line X.env = pure false := by rfl) :
    SJ E X (.Expr (.Call (.Attribute n "append" apos) [.Call (.Attribute m "pop" apos2) [e] [] cpos2] [] cpos) pos) (sAppPop i j w) := by
  have pp := pe_bm (cpos := cpos2) (apos := apos2) PySem.F.plainAttrs_list PySem.F.slot_list_pop PySem.F.type_list_pop mt_popAt hM (pa_cons he.pe pa_nil hst) h1 h2 h3 hst rfl
  refine ⟨(ps_expr (pe_bm PySem.F.plainAttrs_list PySem.F.slot_list_append PySem.F.type_list_append mt_append hN (pa_cons pp pa_nil kst) k1 k2 k3 kst rfl) hs).imp fun D' σ H ⟨G0, H0, G, ρ, Z, R, T, ne, ds, es, hi, hj, q⟩ => ?_⟩
  obtain ⟨l, vs, e1, e2, r⟩ := own_lst R hj
  obtain ⟨l', vs', f1, f2, r'⟩ := own_lst R hi
  have nl : l' ≠ l := fun z => by
    subst z
    exact ne (R.dj i j _ _ _ hi hj f1 e1)
  refine ⟨_, f1, .inl ⟨rfl, vs', SqL.of f2⟩, _, e1, .inl ⟨rfl, vs, SqL.of e2⟩, G0, H0, G, ρ, Z.xc, R, T.xc, he.mo _ _ _ _ (fun d ⟨m, kk, v0, ed, hn, hk, hd, hz, q1⟩ G1 H1 v x1 r1 => ?_) q⟩
  subst ed
  obtain ⟨v1, hv1, rv⟩ := r.get hd
  refine ⟨l, vs, m, kk, v1, rfl, by rw [rvO_int r1.o], x1.hh _ _ e2, hn.1, hn.2, by rw [← r.length]; exact hk, hv1, ?_⟩
  have R2 := (R.ext x1).chg hj e1 (show Top X.K G1 (.lst (ds.eraseIdx kk)) (.lst (vs.eraseIdx kk)) from rps_erase kk (r.mono x1.gg))
  have hi2 : (ρ.set j (.ow (.lst (ds.eraseIdx kk))))[i]? = some (.ow (.lst es)) := by rw [List.getElem?_set_ne (Ne.symm ne)]; exact hi
  refine ⟨l', vs', v1, rfl, rfl, ?_, by rw [← r'.length]; exact hz, ?_⟩
  · rw [upd_ne nl]; exact x1.hh _ _ f2
  · exact T.nx _ _ _ _ (R2.chg hi2 f1 (show Top X.K G1 (.lst (es ++ [v0])) (.lst (vs' ++ [v1])) from (r'.mono x1.gg).append (.cons (rv.mono x1.gg) .nil))) x1.gg q1
end
/-! ### one def, read in two ways -/
section
variable {P : Program} {w : World} {K : PySem.W.Frag} {mg : Str → Option Value} {base : Heap}
end
section
variable {X : Cx} {E : XK} {a b : Expr} {wa wb : Wx} {ka kb : Kd} {pos : Pos}
end
/-! ### a tuple's display, its class kept -/
section
variable {X : Cx} {E : XK} {es : List Expr} {u : Wa} {pos : Pos}
end
end Tw

/-! Tw, part T22: a call that is lent objects of one's own and hands back a new list that has nothing of them. -/
namespace Tw
open PySem PySem.Spec L2 PyProof.Rows
section
variable {X : Cx} {E : XK} {e : Expr} {es : List Expr} {pos p : Pos} {u : Wa}
end
end Tw

/-! what the defs of k05 keep -/
namespace Tw.S
open PySem PySem.Spec L2 PyProof.Rows Tw
def outB (n : Nat) (x : Int) : Bool := !(decide (0 ≤ x) && decide (x < n))
/-- the first entry that is no place or stood before -/
def wrongP (n : Nat) (ps : List Int) : Option Int := ((List.range ps.length).find? fun k => outB n (ps.getD k 0) || decide (ps.getD k 0 ∈ ps.take k)).map fun k => ps.getD k 0
def wrongN (ws : List Str) : Option Nat := (List.range ws.length).find? fun k => !isName (ws.getD k "") || decide (ws.getD k "" ∈ ws.take k)
inductive Er where
  | web (p : Str) (k : Nat)
  | place (x : Int)
def Er.d : Er → D
  | .web p k => .tup [.str "BadWeb", .str p, .int k]
  | .place x => .tup [.str "UnknownPlace", .int x]
def badP (n : Nat) (ps : List Int) : Option Er := if ps = [] then some (.web "places" 0) else (wrongP n ps).map .place
def badN (n : Nat) (ws : List Str) : Option Er := if ws.length ≠ n then some (.web "places" 0) else (wrongN ws).map (.web "place")
inductive Ch where
  | part (ps : List Int)
  | nam (ws : List Str)
def Ch.word : Ch → Str
  | .part _ => "part"
  | .nam _ => "names"
def Ch.d (t : Bool) : Ch → D
  | .part ps => qD t (ps.map .int)
  | .nam ws => qD t (ws.map .str)
def Ch.bad (names : List Str) : Ch → Option Er
  | .part ps => badP names.length ps
  | .nam ws => badN names.length ws
def permQ (ps : List Int) (L : Psg) : Psg := fun b i j => L b (ps.getD i 0).toNat (ps.getD j 0).toNat
def Ch.names (names : List Str) : Ch → List Str
  | .part ps => ps.map fun x => names.getD x.toNat ""
  | .nam ws => ws
def Words (ws : List Str) : Prop := ∀ z ∈ ws, PyData.strOk z = true ∧ z.length ≤ 100
def wf_check_part (C CB CU : Addr) : Wf := fun xc ds Q => ∃ (t : Bool) (names : List Str) (c : Nat) (L : Psg) (ps : List Int), ds = [webP C names c L, qD t (ps.map .int)] ∧ names.length ≤ 8 ∧ ps.length ≤ 20 ∧ (ps = [] → xc CB [("place", .int 0), ("part", .str "places")]) ∧ (∀ x, ps ≠ [] → wrongP names.length ps = some x → xc CU [("place", .int x)]) ∧ (ps ≠ [] → wrongP names.length ps = none → Q false .non)
def wf_restricted_nexts : Wf := fun _ ds Q => ∃ (t : Bool) (n b : Nat) (L : Psg) (ps : List Int), ds = [t2 (rowT n L b), qD t (ps.map .int)] ∧ n ≤ 8 ∧ ps.length ≤ 8 ∧ (∀ x ∈ ps, 0 ≤ x ∧ x < n) ∧ Q true (l2 (rowT ps.length (permQ ps L) b))
def wf_Web_restricted (C CB CU : Addr) : Wf := fun xc ds Q => ∃ (t : Bool) (names : List Str) (c : Nat) (L : Psg) (ps : List Int), ds = [webP C names c L, qD t (ps.map .int)] ∧ NamesOk names ∧ 1 ≤ c ∧ c ≤ 4 ∧ Irr L ∧ ps.length ≤ 20 ∧ (ps = [] → xc CB [("place", .int 0), ("part", .str "places")]) ∧ (∀ x, ps ≠ [] → wrongP names.length ps = some x → xc CU [("place", .int x)]) ∧ (ps ≠ [] → wrongP names.length ps = none → Q false (webP C (ps.map fun x => names.getD x.toNat "") c (permQ ps L)))
end Tw.S

namespace Tw.S
open PySem PySem.Spec L2 PyProof.Rows Tw
theorem mo_wf_check_part {C : Addr} {CB : Addr} {CU : Addr} : MoF (wf_check_part C CB CU) := fun xc ds Q Q' i ⟨v0, v1, v2, v3, v4, c0, c1, c2, c3, c4, q⟩ => ⟨v0, v1, v2, v3, v4, c0, c1, c2, c3, c4, (fun x1 => (fun x2 => i _ _ (((q x1) x2))))⟩
theorem hn_wf_check_part {C : Addr} {CB : Addr} {CU : Addr} : ∀ ds xc Q, wf_check_part C CB CU xc ds Q → ds.length = 2 := fun ds xc Q ⟨v0, v1, v2, v3, v4, c0, c1, c2, c3, c4, q⟩ => by rw [c0]; rfl
theorem mo_wf_restricted_nexts : MoF wf_restricted_nexts := fun xc ds Q Q' i ⟨v0, v1, v2, v3, v4, c0, c1, c2, c3, q⟩ => ⟨v0, v1, v2, v3, v4, c0, c1, c2, c3, i _ _ q⟩
theorem hn_wf_restricted_nexts : ∀ ds xc Q, wf_restricted_nexts xc ds Q → ds.length = 2 := fun ds xc Q ⟨v0, v1, v2, v3, v4, c0, c1, c2, c3, q⟩ => by rw [c0]; rfl
theorem mo_wf_Web_restricted {C : Addr} {CB : Addr} {CU : Addr} : MoF (wf_Web_restricted C CB CU) := fun xc ds Q Q' i ⟨v0, v1, v2, v3, v4, c0, c1, c2, c3, c4, c5, c6, c7, q⟩ => ⟨v0, v1, v2, v3, v4, c0, c1, c2, c3, c4, c5, c6, c7, (fun x1 => (fun x2 => i _ _ (((q x1) x2))))⟩
theorem hn_wf_Web_restricted {C : Addr} {CB : Addr} {CU : Addr} : ∀ ds xc Q, wf_Web_restricted C CB CU xc ds Q → ds.length = 2 := fun ds xc Q ⟨v0, v1, v2, v3, v4, c0, c1, c2, c3, c4, c5, c6, c7, q⟩ => by rw [c0]; rfl
end Tw.S

/-! Tw, part T23: split, str of a number, f-strings, a tuple of texts of the module and its index. -/
namespace Tw
open PySem PySem.Spec L2 PyProof.Rows
section
variable {X : Cx} {K : PySem.W.Frag} {E : XK} {e a o : Expr} {es : List Expr} {w wa : Wx} {k : Kd} {pos p : Pos}
/-! s.split(y) -/
/-! str(n) -/
/-! f-strings -/
inductive JJ (X : Cx) (E : XK) : List Expr → List Wx → Prop
  | nil : JJ X E [] []
  | cons {e : Expr} {w : Wx} {es : List Expr} {ws : List Wx} (h : EJ .e E X e w) (r : JJ X E es ws) : JJ X E (e :: es) (w :: ws)
def wJsG : List Wx → Str → Wx
  | [], acc => fun _ _ Q => Q (.str acc)
  | w :: ws, acc => fun xc ρ Q => w xc ρ fun x => ∃ y : Str, x = .str y ∧ (acc ++ y).length ≤ sizeLine ∧ wJsG ws (acc ++ y) xc ρ Q
theorem JJ.mo {ws : List Wx} (h : JJ X E es ws) : ∀ (acc : Str) xc ρ (Q Q' : D → Prop), (∀ d, Q d → Q' d) → wJsG ws acc xc ρ Q → wJsG ws acc xc ρ Q' := by
  induction h with
  | nil => exact fun acc xc ρ Q Q' i q => i _ q
  | cons h r ih => exact fun acc xc ρ Q Q' i q => h.mo _ _ _ _ (fun d ⟨y, e, z, q⟩ => ⟨y, e, z, ih _ _ _ _ _ i q⟩) q
theorem JJ.go {ws : List Wx} (h : JJ X E es ws) : ∀ {σ : L2.St} {H G0 H0 G : Hp} {ρ : Evn} {xc : XC} {Qd : D → Prop} {Q : Str → Hp → Prop} {acc : Str} (R : Rel X.K G0 H0 G ρ σ H) (T : TieX X.K G0 H0 E xc) (q : wJsG ws acc xc ρ Qd)
    (fin : ∀ y G' H', Qd (.str y) → Ext G H G' H' → Q y H'), tJs (ws.map (liftW X.K E .e)) acc σ H Q := by
  induction h with
  | nil => exact fun R T q fin => fin _ _ _ q (Ext.refl R.gh)
  | @cons e w es ws h r ih =>
    intro σ H G0 H0 G ρ xc Qd Q acc R T q fin
    show liftW X.K E .e w σ H fun x H1 => ∃ y : Str, x = .str y ∧ (acc ++ y).length ≤ sizeLine ∧ tJs (ws.map (liftW X.K E .e)) (acc ++ y) σ H1 Q
    refine ⟨G0, H0, G, ρ, xc, R, T, h.mo _ _ _ _ (fun d ⟨y, ed, z, q1⟩ G1 H1 v x1 r1 => ?_) q⟩
    subst ed
    cases r1
    exact ⟨y, rfl, z, ih (R.ext x1) T q1 fun y G' H' q2 x2 => fin y G' H' q2 (x1.trans x2)⟩
/-! a tuple of texts of the module -/
structure TupG (K : PySem.W.Frag) (mg : Str → Option Value) (x : Str) (ys : List Str) : Prop where
  ex : ∃ (a : Addr) (o : Obj) (its : Array Value) (n : Nat), mg x = some (.ref a) ∧ List.lookup a K = some o ∧ o.cls = .type "tuple" ∧ o.dict = none ∧ o.data = .seq its n ∧ its.size ≤ sizeLine ∧ Vals (ys.map V.str) its.toList
end
end Tw

/-! Tw, part T24: int(x) of a text. -/
namespace Tw
open PySem PySem.Spec L2 PyProof.Rows
section
variable {X : Cx} {K : PySem.W.Frag} {E : XK} {e a o : Expr} {es : List Expr} {w wa : Wx} {k : Kd} {pos p : Pos}
end
end Tw

/-! Tw, part T25: C(..) and C.m(..), m a class method, that may fail and are lent own lists; cls(..). -/
namespace Tw
open PySem PySem.Spec L2 PyProof.Rows
/-! ### what was lent goes back -/
section
variable {X : Cx} {C f : Addr} {fd : FuncData} {ps ks : List Str} {sp : Sp} {k n : Nat} {g : List Value → List Value → List Value} {gV : List V → List V → List V}
  {pins : List (Addr × Obj)} {σ : L2.St} {H : Hp} {s : Shared} {Q : VK} {us ws : List Value} {vs zs : List V}
/-! ### C(..) with a way out that depends on the slots -/
/-! ### cls(..), cls a local -/
/-! ### C.m(..), m a class method -/
end
/-! ### words -/
def spCls (K : PySem.W.Frag) (C : Addr) (n : Nat) (wf : Wf) : Sp := fun vs H Q E => vs.length = n + 1 ∧ ∃ vs' G ds xc, vs = .ref C :: vs' ∧ Same G H ∧ Rps K G ds vs' ∧ TieX K G H E xc ∧ wf xc ds fun fr d => ∀ G' H' v, Ext G H G' H' → RvR K fr H G' H' d v → Q v H'
structure CDef (P : Program) (w : World) (K : PySem.W.Frag) (mg : Str → Option Value) (base : Heap) (x : Str) (C : Addr) (m : Str) (n : Nat) (ks : List Str) (j : Nat) (gD : List D → List D → List D) (wf : Wf) : Prop where
  ex : ∃ (f : Addr) (fd : FuncData) (ps : List Str) (g : List Value → List Value → List Value) (gV gR : List V → List V → List V) (p : Addr) (mc : Value) (nn : Nat), FnOk P w K mg base (L2.CX P w) j f fd ps (spCls K C nn wf) ∧ ClX.CRead K C mc ∧ ClX.CMet K C mc m p f ∧ KBn K fd ps (n + 1) ks g gV ∧ mg x = some (.ref C) ∧
    (∀ x vs zs, vs.length = n → zs.length = ks.length → gV (V.ref x :: vs) zs = V.ref x :: gR vs zs) ∧ (∀ G ds es vs zs, Rps K G ds vs → Rps K G es zs → Rps K G (gD ds es) (gR vs zs)) ∧ (∀ ds xc Q, wf xc ds Q → ds.length = nn)
  mo : MoF wf
section
variable {X : Cx} {E : XK} {e : Expr} {es : List Expr} {u ut : Wa} {kws : List Keyword} {pos p apos : Pos} {x : Str} {C : Addr} {n j : Nat} {ks : List Str} {gD : List D → List D → List D} {wi : Wi} {wf : Wf}
end
section
variable {P : Program} {w : World} {K : PySem.W.Frag} {mg : Str → Option Value} {base : Heap}
structure AtC (K : PySem.W.Frag) (mg : Str → Option Value) (x : Str) (C : Addr) (m q : Str) (st : Stmt) (ps : List Str) (n : Nat) (ks : List Str) (gD : List D → List D → List D) : Prop where
  ex : ∃ (f : Addr) (fd : FuncData) (g : List Value → List Value → List Value) (gV gR : List V → List V → List V) (p : Addr) (mc : Value), Fun K m q st f fd ∧ ClX.CRead K C mc ∧ ClX.CMet K C mc m p f ∧ KBn K fd ps (n + 1) ks g gV ∧ mg x = some (.ref C) ∧
    (∀ x vs zs, vs.length = n → zs.length = ks.length → gV (V.ref x :: vs) zs = V.ref x :: gR vs zs) ∧ (∀ G ds es vs zs, Rps K G ds vs → Rps K G es zs → Rps K G (gD ds es) (gR vs zs))
end
/-! ### try: xs.append(e) except C as n -/
section
variable {X : Cx} {E : XK} {e n : Expr} {w : Wx} {x nm : Str} {c : Value} {i j : Nat} {b₀ : Stmt} {suite : List Stmt} {np pos pos' pos1 apos cpos : Pos} {ok : Addr → Prop} {s : Addr → Value → Option Addr → Ws}
end
/-! ### C.m(..), m a static method, in a try -/
section
variable {X : Cx} {e : Expr} {es : List Expr} {u : Wa} {p pos apos : Pos} {x : Str}
end
/-! ### list * int -/
section
variable {X : Cx} {E : XK} {a b : Expr} {wa wb : Wx} {ka kb : Kd} {pos : Pos}
end
end Tw

/-! Tw, part T26: a call that is lent lists of one's own and hands back a new list that may have lists within, none of which can be a lent one: those have 20 members or more, or begin with a list that begins with an object. -/
namespace Tw
open PySem PySem.Spec L2 PyProof.Rows
def D.hid : D → Bool
  | .lst xs => decide (20 ≤ xs.length) || (match xs with | .lst (.obj _ _ :: _) :: _ => true | _ => false)
  | _ => false
def HO.Hid (G : Hp) (o : HO) : Prop := ∃ vs, o = .lst vs ∧ (20 ≤ vs.length ∨ ∃ (a : Addr) (rest : List V) (c : Addr) (ws : List V) (C dx : Addr) (vf : List (Str × V)), vs = .ref a :: rest ∧ G a = some (.lst (.ref c :: ws)) ∧ G c = some (.ins C dx vf))
theorem HO.Hid.mono {G G' : Hp} (e : Same G G') {o : HO} (h : HO.Hid G o) : HO.Hid G' o := by
  obtain ⟨vs, rfl, h⟩ := h
  refine ⟨vs, rfl, ?_⟩
  rcases h with h | ⟨a, rest, c, ws, C, dx, vf, h1, h2, h3⟩
  · exact .inl h
  · exact .inr ⟨a, rest, c, ws, C, dx, vf, h1, e _ _ h2, e _ _ h3⟩
section
variable {K : PySem.W.Frag}
def okF2 : List D → Bool
  | [] => true | .int _ :: _ => true | .str _ :: _ => true | .lst _ :: _ => true | _ => false
def okF : List D → Bool
  | [] => true | .str _ :: _ => true | .int _ :: _ => true | .obj _ _ :: _ => true | .lst ys :: _ => okF2 ys | _ => false
mutual
def D.noH : D → Bool
  | .non => true | .bl _ => true | .int _ => true | .str _ => true
  | .tup xs => D.noHs xs | .xtp xs => D.noHs xs | .obj _ fs => D.noHf fs
  | .lst xs => decide (xs.length < 20) && okF xs && D.noHs xs
  | .fls _ => false | .dK _ => false | .dT _ => false
def D.noHs : List D → Bool
  | [] => true
  | x :: xs => D.noH x && D.noHs xs
def D.noHf : List (Str × D) → Bool
  | [] => true
  | (_, x) :: xs => D.noH x && D.noHf xs
end
theorem no_hid {G : Hp} {xs : List D} {vs : List V} (r : Rps K G xs vs) (l : xs.length < 20) (k : okF xs = true) : ¬HO.Hid G (.lst vs) := by
  rintro ⟨vs', e, hh⟩
  cases e
  have := Rps.length r
  rcases hh with hh | ⟨a, rest, c, ws, C, dx, vf, rfl, g1, g2⟩
  · omega
  · cases r with
    | cons r1 r2 =>
      cases r1 with
      | tup _ _ => cases k
      | xtp _ _ _ _ => cases k
      | fls _ _ => cases k
      | dK _ _ => cases k
      | dT _ _ => cases k
      | obj h2 _ => rw [h2] at g1; cases g1
      | lst h2 r3 =>
        rw [h2] at g1
        cases g1
        cases r3 with
        | cons r4 r5 =>
          have k' := k
          unfold okF at k'
          cases r4 with
          | tup _ _ => cases k'
          | xtp _ _ _ _ => cases k'
          | fls _ _ => cases k'
          | dK _ _ => cases k'
          | dT _ _ => cases k'
          | obj _ _ => cases k'
          | lst h3 _ => rw [h3] at g2; cases g2
section
variable {G G' : Hp} (cut : ∀ a o, G a = some o → HO.isTop o = false → G' a = some o) (cutL : ∀ a vs, G a = some (.lst vs) → ¬HO.Hid G (.lst vs) → G' a = some (.lst vs))
include cut cutL
mutual
theorem Rp.cutH : ∀ {d : D} {v : V}, Rp K G d v → d.noH = true → Rp K G' d v
  | _, _, .non, _ => .non
  | _, _, .bl b, _ => .bl b
  | _, _, .int i, _ => .int i
  | _, _, .str x, _ => .str x
  | _, _, .tup h r, n => by
    rw [D.noH] at n
    refine .tup ?_ (Rps.cutH r n)
    rcases h with (h | ⟨o, h⟩) | h
    · exact .inl (.inl (cut _ _ h rfl))
    · exact .inl (.inr ⟨o, cut _ _ h rfl⟩)
    · exact .inr h
  | _, _, .xtp h c m r, n => by rw [D.noH] at n; exact .xtp (cut _ _ h rfl) c m (Rps.cutH r n)
  | _, _, .obj h r, n => by rw [D.noH] at n; exact .obj (cut _ _ h rfl) (Rfs.cutH r n)
  | _, _, .lst h r, n => by
    rw [D.noH, Bool.and_eq_true, Bool.and_eq_true] at n
    exact .lst (cutL _ _ h (no_hid r (of_decide_eq_true n.1.1) n.1.2)) (Rps.cutH r n.2)
  | _, _, .fls _ _, n => by rw [D.noH] at n; cases n
  | _, _, .dK _ _, n => by rw [D.noH] at n; cases n
  | _, _, .dT _ _, n => by rw [D.noH] at n; cases n
theorem Rps.cutH : ∀ {d : List D} {v : List V}, Rps K G d v → D.noHs d = true → Rps K G' d v
  | _, _, .nil, _ => .nil
  | _, _, .cons h r, n => by rw [D.noHs, Bool.and_eq_true] at n; exact .cons (Rp.cutH h n.1) (Rps.cutH r n.2)
theorem Rfs.cutH : ∀ {d : List (Str × D)} {v : List (Str × V)}, Rfs K G d v → D.noHf d = true → Rfs K G' d v
  | _, _, .nil, _ => .nil
  | _, _, .cons h r, n => by rw [D.noHf, Bool.and_eq_true] at n; exact .cons (Rp.cutH h n.1) (Rfs.cutH r n.2)
end
end
end
section
variable {X : Cx} {E : XK} {e : Expr} {es : List Expr} {pos p : Pos} {u : Wa}
end
end Tw

/-! Tw, part W1: sets of tuples of any size up to 3999, the walk through a table of 2 ^ k slots. -/
namespace Tw
open PySem L2
def MaskG (m : Nat) : Prop := ∃ k, 3 ≤ k ∧ (k ≤ 13 ∧ k % 2 = 1) ∧ m + 1 = 2 ^ k
/-- f (f (.. 0)), f x = 5 x + 1 -/
def sG : Nat → Nat
  | 0 => 0
  | b + 1 => 5 * sG b + 1
theorem sG_add (a : Nat) : ∀ b, sG (a + b) = sG a + sG b * (4 * sG a + 1)
  | 0 => by simp [sG]
  | b + 1 => by
    rw [← Nat.add_assoc, sG, sG_add a b, sG, Nat.add_mul, Nat.mul_add, Nat.mul_assoc]
    omega
theorem sG_two (b : Nat) : sG (2 * b) = 2 * (sG b * (2 * sG b + 1)) := by
  rw [Nat.two_mul, sG_add, Nat.mul_add, Nat.mul_add, Nat.mul_left_comm (sG b) 4, Nat.mul_left_comm (sG b) 2]
  omega
theorem sG_par : ∀ b, sG b % 2 = b % 2
  | 0 => rfl
  | b + 1 => by
    have := sG_par b
    rw [sG]
    omega
theorem cop2 (k s : Nat) : Nat.Coprime (2 ^ k) (2 * s + 1) := by
  refine Nat.Coprime.pow_left k ?_
  unfold Nat.Coprime
  rw [Nat.gcd_rec, show (2 * s + 1) % 2 = 1 by omega]
  decide
theorem dvd_sG : ∀ k b, 2 ^ k ∣ sG b ↔ 2 ^ k ∣ b
  | 0, b => by simp
  | k + 1, b => by
    rcases Nat.mod_two_eq_zero_or_one b with h | h
    · obtain ⟨c, rfl⟩ : ∃ c, b = 2 * c := ⟨b / 2, by omega⟩
      rw [sG_two, Nat.pow_succ, Nat.mul_comm (2 ^ k) 2]
      rw [Nat.mul_dvd_mul_iff_left (by omega), Nat.mul_dvd_mul_iff_left (by omega), ← dvd_sG k c]
      exact ⟨fun h => (cop2 k (sG c)).dvd_of_dvd_mul_right h, fun h => Nat.dvd_trans h (Nat.dvd_mul_right _ _)⟩
    · have p := sG_par b
      constructor
      · intro hd
        have : 2 ∣ sG b := Nat.dvd_trans ⟨2 ^ k, by rw [Nat.pow_succ, Nat.mul_comm]⟩ hd
        omega
      · intro hd
        have : 2 ∣ b := Nat.dvd_trans ⟨2 ^ k, by rw [Nat.pow_succ, Nat.mul_comm]⟩ hd
        omega
theorem lcg_sG (m : Nat) : ∀ b, lcgN m b = sG b % (m + 1)
  | 0 => by simp [lcgN, sG]
  | b + 1 => by
    show (lcgN m b * 5 + 1) % (m + 1) = _
    rw [lcg_sG m b, sG, Nat.mul_comm 5, Nat.add_mod, Nat.mod_mul_mod, ← Nat.add_mod]
theorem lcg_inj {k m : Nat} (hm : m + 1 = 2 ^ k) {a b : Nat} (hab : a ≤ b) (hb : b ≤ m) (e : lcgN m a = lcgN m b) : a = b := by
  rw [lcg_sG, lcg_sG, hm] at e
  obtain ⟨d, rfl⟩ : ∃ d, b = a + d := ⟨b - a, by omega⟩
  rw [sG_add] at e
  have h1 : 2 ^ k ∣ sG d * (4 * sG a + 1) := by
    have := (Nat.sub_mod_eq_zero_of_mod_eq e.symm)
    rw [Nat.add_sub_cancel_left] at this
    exact Nat.dvd_of_mod_eq_zero this
  have h2 : 2 ^ k ∣ sG d := by
    have c := cop2 k (2 * sG a)
    rw [show 2 * (2 * sG a) + 1 = 4 * sG a + 1 by omega] at c
    exact c.dvd_of_dvd_mul_right h1
  have h3 := (dvd_sG k d).mp h2
  rcases Nat.eq_zero_or_pos d with h | h
  · omega
  · have := Nat.le_of_dvd h h3
    omega
theorem lcg_lt {m : Nat} (b : Nat) : lcgN m b ≤ m := by
  rw [lcg_sG]
  exact Nat.le_of_lt_succ (Nat.mod_lt _ (Nat.succ_pos m))
theorem nodup_mapN {f : Nat → Nat} : ∀ {l : List Nat}, l.Nodup → (∀ x ∈ l, ∀ y ∈ l, f x = f y → x = y) → (l.map f).Nodup
  | [], _, _ => List.nodup_nil
  | x :: l, nd, h => by
    rw [List.nodup_cons] at nd
    rw [List.map_cons, List.nodup_cons]
    refine ⟨fun hx => ?_, nodup_mapN nd.2 fun y hy z hz => h y (by simp [hy]) z (by simp [hz])⟩
    obtain ⟨y, hy, e⟩ := List.mem_map.mp hx
    have := h y (by simp [hy]) x (by simp) e
    subst this
    exact nd.1 hy
theorem lcg_allG {m : Nat} (hm : MaskG m) {j : Nat} (hj : j ≤ m) : ∃ b, b ≤ m ∧ lcgN m b = j := by
  obtain ⟨k, _, _, hk⟩ := hm
  by_cases h : j ∈ (List.range (m + 1)).map (lcgN m)
  · obtain ⟨b, hb, e⟩ := List.mem_map.mp h
    exact ⟨b, Nat.le_of_lt_succ (List.mem_range.mp hb), e⟩
  · exfalso
    have nd : ((List.range (m + 1)).map (lcgN m)).Nodup := nodup_mapN List.nodup_range fun x hx y hy e => by
      have hx := List.mem_range.mp hx
      have hy := List.mem_range.mp hy
      rcases Nat.le_total x y with c | c
      · exact lcg_inj hk c (by omega) e
      · exact (lcg_inj hk c (by omega) e.symm).symm
    have nd2 : (j :: (List.range (m + 1)).map (lcgN m)).Nodup := List.nodup_cons.mpr ⟨h, nd⟩
    have := nat_nodup_len _ (List.range (m + 1)) nd2 fun x hx => by
      rcases List.mem_cons.mp hx with rfl | hx
      · exact List.mem_range.mpr (by omega)
      · obtain ⟨b, _, e⟩ := List.mem_map.mp hx
        rw [← e]
        exact List.mem_range.mpr (Nat.lt_succ_of_le (lcg_lt b))
    simp at this
    omega
theorem lcg_roundG {m : Nat} (hm : MaskG m) : lcgN m (m + 1) = 0 := by
  obtain ⟨k, _, _, hk⟩ := hm
  rw [lcg_sG, hk]
  exact Nat.mod_eq_zero_of_dvd ((dvd_sG k _).mpr (Nat.dvd_refl _))
theorem lcgN_modG {m : Nat} (hm : MaskG m) : ∀ k, lcgN m (m + 1 + k) = lcgN m k
  | 0 => by rw [Nat.add_zero, lcg_roundG hm]; rfl
  | k + 1 => by
    show (lcgN m (m + 1 + k) * 5 + 1) % (m + 1) = (lcgN m k * 5 + 1) % (m + 1)
    rw [lcgN_modG hm k]
theorem lcgI_allG {m : Nat} (hm : MaskG m) {i j : Nat} (hi : i ≤ m) (hj : j ≤ m) : ∃ k, k ≤ m ∧ lcgI m i k = j := by
  obtain ⟨a, ha, ea⟩ := lcg_allG hm hi
  obtain ⟨b, hb, eb⟩ := lcg_allG hm hj
  rw [← ea]
  rcases Nat.lt_or_ge b a with c | c
  · refine ⟨b + (m + 1) - a, by omega, ?_⟩
    rw [lcgN_add, show a + (b + (m + 1) - a) = m + 1 + b by omega, lcgN_modG hm, eb]
  · refine ⟨b - a, by omega, ?_⟩
    rw [lcgN_add, show a + (b - a) = b by omega, eb]
theorem run_meetsG {m : Nat} (hm : MaskG m) (h : Int) {j : Nat} (hj : j ≤ m) : ∃ n, n ≤ m + 12 ∧ runI m (SetTable.bits h) n = j := by
  obtain ⟨k, hk, e⟩ := lcgI_allG hm (runI_le m (SetTable.bits h) 12) hj
  exact ⟨12 + k, by omega, by rw [runI_tail (bits_lt h) k]; exact e⟩
theorem nth_meetsG {m : Nat} (hm : MaskG m) (h : Int) {j : Nat} (hj : j ≤ m) : ∃ k, k < 10 * SetTable.turns m ∧ way m h k = j := by
  obtain ⟨n, hn, e⟩ := run_meetsG hm h hj
  obtain ⟨k, hk, e2⟩ := run_nth m (SetTable.bits h) n
  refine ⟨k, ?_, ?_⟩
  · show k < 10 * (m + 15)
    omega
  · show (nth m _ k).j = j
    rw [e2]
    exact e
theorem way_leG {m : Nat} {h : Int} {k : Nat} : way m h k ≤ m := by
  have hi : SetTable.bits h % (m + 1) ≤ m := Nat.le_of_lt_succ (Nat.mod_lt (SetTable.bits h) (Nat.succ_pos m))
  have r := runEnd_bd hi
  have q := nth_in (m := m) k (runAt m (SetTable.bits h % (m + 1)) (SetTable.bits h)) (by
    show SetTable.bits h % (m + 1) + (SetTable.runEnd m (SetTable.bits h % (m + 1)) - SetTable.bits h % (m + 1)) ≤ m
    omega)
  show (nth m _ k).j ≤ m
  omega
theorem free_findG {m : Nat} (hm : MaskG m) (owner : Array (Option Nat)) (h : Int) {j : Nat} (hj : j ≤ m) (hf : oAt owner j = none) :
    ∃ K, SetTable.layClean.free m owner (SetTable.turns m) (SetTable.bits h % (m + 1)) (SetTable.bits h) = some (way m h K) ∧ oAt owner (way m h K) = none ∧ ∀ k, k < K → oAt owner (way m h k) ≠ none := by
  obtain ⟨n, hn, e⟩ := run_meetsG hm h hj
  have hw : (nth m (runAt m (SetTable.bits h % (m + 1)) (SetTable.bits h)) (off m (SetTable.bits h % (m + 1)) (SetTable.bits h) n)).j = j := by
    rw [nth_off, itL_run]
    exact e
  obtain ⟨K, k1, k2, k3⟩ := st_least (p := fun k => oAt owner (nth m (runAt m (SetTable.bits h % (m + 1)) (SetTable.bits h)) k).j = none) (off m (SetTable.bits h % (m + 1)) (SetTable.bits h) n) (by
    show oAt owner _ = none
    rw [hw]; exact hf)
  refine ⟨K, free_spec m owner (SetTable.turns m) n _ _ K (by show n < m + 15; omega) k1 (fun k hk => ?_) (by rw [k2]; rfl), k2, k3⟩
  have q := k3 k hk
  cases z : oAt owner (nth m (runAt m (SetTable.bits h % (m + 1)) (SetTable.bits h)) k).j with
  | none => exact absurd z q
  | some v => rfl
end Tw

/-! Tw, part W2: tables of any size: laying, putting. -/
namespace Tw
open PySem L2
theorem own_stepG {m : Nat} (hm : MaskG m) {done : List Int} {owner : Array (Option Nat)} (W : Own m done owner) (hl : done.length ≤ m) (h : Int) :
    ∃ j, SetTable.layClean.free m owner (SetTable.turns m) (SetTable.bits h % (m + 1)) (SetTable.bits h) = some j ∧ Own m (done ++ [h]) (owner.setIfInBounds j (some done.length)) := by
  obtain ⟨ps, hps, hin⟩ := W.ps
  obtain ⟨j0, h0, hn0⟩ := st_missing ps (m + 1) (by omega)
  have hj0 : oAt owner j0 = none := by
    cases z : oAt owner j0 with
    | none => rfl
    | some k => exact absurd (hin j0 (by omega) (by rw [z]; exact fun e => nomatch e)) hn0
  obtain ⟨K, e1, e2, e3⟩ := free_findG hm owner h (Nat.le_of_lt_succ h0) hj0
  have hjm : way m h K ≤ m := way_leG
  have hjs : way m h K < owner.size := by rw [W.sz]; omega
  refine ⟨way m h K, e1, ?_⟩
  have hself := oAt_set_self (some done.length) hjs
  have mono : ∀ {i : Nat}, oAt owner i ≠ none → oAt (owner.setIfInBounds (way m h K) (some done.length)) i ≠ none := fun {i} hi => by
    by_cases c : i = way m h K
    · rw [c, hself]; exact fun e => nomatch e
    · rw [oAt_set_ne (some done.length) c]; exact hi
  refine ⟨by rw [Array.size_setIfInBounds]; exact W.sz, fun j k hj e => ?_, fun k hk => ?_, ⟨way m h K :: ps, by simp [hps], fun j hj e => ?_⟩⟩
  · by_cases c : j = way m h K
    · rw [c, hself] at e
      have ek := Option.some.inj e
      refine ⟨h, K, ?_, c.symm, fun k' hk' => mono (e3 k' hk')⟩
      rw [← ek, List.getElem?_append_right (Nat.le_refl _), Nat.sub_self]
      rfl
    · rw [oAt_set_ne (some done.length) c] at e
      obtain ⟨h', K', a1, a2, a3⟩ := W.at_ j k hj e
      exact ⟨h', K', by rw [List.getElem?_append_left (List.getElem?_eq_some_iff.mp a1).1]; exact a1, a2, fun k' hk' => mono (a3 k' hk')⟩
  · by_cases c : k < done.length
    · obtain ⟨j, hj, e⟩ := W.all k c
      refine ⟨j, hj, ?_⟩
      rw [oAt_set_ne (some done.length) (fun z => by rw [z, e2] at e; cases e)]
      exact e
    · rw [List.length_append, List.length_singleton] at hk
      have ek : k = done.length := by omega
      exact ⟨way m h K, hjm, by rw [ek]; exact hself⟩
  · by_cases c : j = way m h K
    · rw [c]; exact List.mem_cons_self
    · rw [oAt_set_ne (some done.length) c] at e
      exact List.mem_cons_of_mem _ (hin j hj e)
theorem fold_okG {m : Nat} (hm : MaskG m) : ∀ (rest done : List Int) (owner : Array (Option Nat)), Own m done owner → done.length + rest.length ≤ m →
    ∃ owner', List.foldl (stepF m) (some (owner, done.length)) rest = some (owner', (done ++ rest).length) ∧ Own m (done ++ rest) owner'
  | [], done, owner, W, _ => ⟨owner, by rw [List.append_nil]; rfl, by rw [List.append_nil]; exact W⟩
  | h :: rest, done, owner, W, hl => by
    rw [List.length_cons] at hl
    obtain ⟨j, e, W'⟩ := own_stepG hm W (by omega) h
    have hl' : (done ++ [h]).length = done.length + 1 := by rw [List.length_append]; rfl
    obtain ⟨owner', f, W2⟩ := fold_okG hm rest (done ++ [h]) _ W' (by omega)
    have ea : done ++ [h] ++ rest = done ++ h :: rest := by rw [List.append_assoc]; rfl
    refine ⟨owner', ?_, by rw [← ea]; exact W2⟩
    rw [List.foldl_cons, stepF_some e, ← ea, ← hl']
    exact f
theorem layClean_okG {m : Nat} (hm : MaskG m) {hs : Array Int} (hn : hs.size ≤ m) : ∃ owner, SetTable.layClean m hs = some owner ∧ Own m hs.toList owner := by
  obtain ⟨owner, f, W⟩ := fold_okG hm hs.toList [] (Array.replicate (m + 1) none) (Own.init m) (by rw [Array.length_toList]; simpa using hn)
  refine ⟨owner, ?_, by rw [List.nil_append] at W; exact W⟩
  rw [layClean_eq m hs]
  have f' : List.foldl (stepF m) (some (Array.replicate (m + 1) none, 0)) hs.toList = some (owner, ([] ++ hs.toList).length) := f
  rw [f']
  rfl
structure TabG (t : SetTable) (hs : List Int) : Prop where
  ris : Ris t.place.toList
  dm : t.dummies = #[]
  sz : t.place.size = hs.length
  mok : MaskG t.mask
  bd : ∀ x ∈ t.place.toList, x ≤ t.mask
  reach : ∀ (i : Nat) (h : Int) (j : Nat), hs[i]? = some h → t.place.toList[i]? = some j → ∃ k, way t.mask h k = j ∧ ∀ k', k' < k → way t.mask h k' ∈ t.place.toList
theorem relaid_okG (t : SetTable) {hs : Array Int} {wanted M : Nat} (hw : SetTable.sizeAbove wanted - 1 = M) (hM : MaskG M) (hn : hs.size ≤ M) :
    ∃ t' order, t.relaid hs wanted = some (t', order) ∧ order.toList.Perm (List.range hs.size) ∧ TabG t' (order.toList.map fun i => hs.getD i 0) ∧ t'.mask = M ∧ t'.led = t.led ∧ t'.plain = t.plain ∧ t'.dummies = #[] := by
  obtain ⟨owner, e, W⟩ := layClean_okG hM hn
  have hr : t.relaid hs wanted = some (tabOf t M owner, ((liveOf M owner).map fun x => x.snd).toArray) := by
    rw [relaid_eq t hs wanted, hw, e]
    rfl
  have ris := ris_live (fun j => owner.getD j none) (List.range (M + 1)) List.pairwise_lt_range
  have r1 : ((liveOf M owner).map fun x => x.fst).Pairwise (· < ·) := ris.1
  have r2 := ris.2
  have nd : ((liveOf M owner).map fun x => x.fst).Nodup := r1.imp fun h => Nat.ne_of_lt h
  obtain ⟨ps, p1, p2⟩ := W.ps
  have a := nat_nodup_len ((liveOf M owner).map fun x => x.fst) ps nd fun x hx => by
    obtain ⟨⟨y, k⟩, hq, rfl⟩ := List.mem_map.mp hx
    obtain ⟨b1, b2⟩ := (mem_live W.sz).mp hq
    exact p2 y b1 (by rw [b2]; exact fun z => nomatch z)
  have b := nat_nodup_len (List.range hs.size) ((liveOf M owner).map fun x => x.snd) List.nodup_range fun k hk => by
    obtain ⟨j, b1, b2⟩ := W.all k (by rw [Array.length_toList]; exact List.mem_range.mp hk)
    exact List.mem_map.mpr ⟨(j, k), (mem_live W.sz).mpr ⟨b1, b2⟩, rfl⟩
  have hz : hs.toList.length = hs.size := rfl
  rw [List.length_map] at a
  rw [List.length_map, List.length_range] at b
  have hlen : (liveOf M owner).length = hs.size := by omega
  refine ⟨tabOf t M owner, ((liveOf M owner).map fun x => x.snd).toArray, hr, ?_, ⟨r1, rfl, ?_, hM, fun x hx => Nat.le_of_lt_succ (List.mem_range.mp (r2 x hx)), fun i h j h1 h2 => ?_⟩, rfl, rfl, rfl, rfl⟩
  · refine perm_range hs.size _ (by show ((liveOf M owner).map _).length = _; rw [List.length_map]; exact hlen) fun k hk => ?_
    obtain ⟨j, b1, b2⟩ := W.all k (by rw [Array.length_toList]; exact hk)
    exact List.mem_map.mpr ⟨(j, k), (mem_live W.sz).mpr ⟨b1, b2⟩, rfl⟩
  · show ((liveOf M owner).map fun x => x.fst).toArray.size = _
    rw [List.size_toArray, List.length_map, List.length_map]
    show _ = ((liveOf M owner).map fun x => x.snd).length
    rw [List.length_map]
  · have h1' : (((liveOf M owner).map fun x => x.snd).map fun i => hs.getD i 0)[i]? = some h := h1
    have h2' : ((liveOf M owner).map fun x => x.fst)[i]? = some j := h2
    rw [List.getElem?_map] at h2'
    rw [List.getElem?_map, List.getElem?_map] at h1'
    cases hq : (liveOf M owner)[i]? with
    | none => rw [hq] at h2'; cases h2'
    | some q =>
      obtain ⟨y, k⟩ := q
      rw [hq] at h1' h2'
      have ej : y = j := Option.some.inj h2'
      have eh : hs.getD k 0 = h := Option.some.inj h1'
      subst ej
      obtain ⟨b1, b2⟩ := (mem_live W.sz).mp (List.mem_of_getElem? hq)
      obtain ⟨h0, K, a1, a2, a3⟩ := W.at_ y k b1 b2
      have e0 : hs.getD k 0 = h0 := by rw [Array.getD_eq_getD_getElem?, ← Array.getElem?_toList, a1]; rfl
      have ehh : h0 = h := e0.symm.trans eh
      subst ehh
      refine ⟨K, a2, fun k' hk' => ?_⟩
      show way M h0 k' ∈ (liveOf M owner).map fun x => x.fst
      cases z : oAt owner (way M h0 k') with
      | none => exact absurd z (a3 k' hk')
      | some k2 => exact List.mem_map.mpr ⟨(way M h0 k', k2), (mem_live W.sz).mpr ⟨way_leG, z⟩, rfl⟩
theorem TabG.before {t : SetTable} {hs : List Int} (T : TabG t hs) {h : Int} {K i j : Nat} (hK : ¬way t.mask h K ∈ t.place.toList) (hi : hs[i]? = some h) (hj : t.place.toList[i]? = some j) : ∃ k, k < K ∧ way t.mask h k = j := by
  obtain ⟨k, e, hb⟩ := T.reach i h j hi hj
  refine ⟨k, ?_, e⟩
  rcases Nat.lt_trichotomy k K with c | c | c
  · exact c
  · subst c
    rw [e] at hK
    exact absurd (List.mem_of_getElem? hj) hK
  · exact absurd (hb K c) hK
theorem TabG.first {t : SetTable} {hs : List Int} (T : TabG t hs) (hl : hs.length ≤ t.mask) (h : Int) : ∃ K, K < 10 * SetTable.turns t.mask ∧ ¬way t.mask h K ∈ t.place.toList ∧ ∀ k, k < K → way t.mask h k ∈ t.place.toList := by
  have hlen : t.place.toList.length < t.mask + 1 := by rw [Array.length_toList, T.sz]; omega
  obtain ⟨j, hj, hn⟩ := st_missing t.place.toList (t.mask + 1) hlen
  obtain ⟨k, hk, e⟩ := nth_meetsG T.mok h (Nat.le_of_lt_succ hj)
  obtain ⟨K, h1, h2, h3⟩ := st_least (p := fun k => ¬way t.mask h k ∈ t.place.toList) k (by show ¬way t.mask h k ∈ _; rw [e]; exact hn)
  refine ⟨K, Nat.lt_of_le_of_lt h1 hk, h2, fun k' hk' => ?_⟩
  rcases Classical.em (way t.mask h k' ∈ t.place.toList) with c | c
  · exact c
  · exact absurd c (h3 k' hk')
theorem TabG.put {t : SetTable} {hs : List Int} (T : TabG t hs) {h : Int} {K : Nat} (hK : ¬way t.mask h K ∈ t.place.toList) (hb : ∀ k, k < K → way t.mask h k ∈ t.place.toList) :
    (t.put (way t.mask h K)).snd = SetTable.below t.place (way t.mask h K) ∧ SetTable.below t.place (way t.mask h K) ≤ hs.length ∧
    TabG (t.put (way t.mask h K)).fst (hs.take (SetTable.below t.place (way t.mask h K)) ++ h :: hs.drop (SetTable.below t.place (way t.mask h K))) ∧
    (t.put (way t.mask h K)).fst.mask = t.mask ∧ (t.put (way t.mask h K)).fst.led = t.led ∧ (t.put (way t.mask h K)).fst.plain = t.plain ∧ (t.put (way t.mask h K)).fst.moves = t.moves ∧ (t.put (way t.mask h K)).fst.finger = t.finger ∧ (t.put (way t.mask h K)).fst.fill = hs.length + 1 := by
  have hjm : way t.mask h K ≤ t.mask := way_leG
  obtain ⟨j, hj⟩ : ∃ j, j = way t.mask h K := ⟨_, rfl⟩
  rw [← hj]
  rw [← hj] at hjm hK
  obtain ⟨c1, _, _⟩ := below_cut T.ris j
  have hpl : SetTable.below t.place j ≤ t.place.toList.length := by rw [Array.length_toList]; exact c1
  have hph : SetTable.below t.place j ≤ hs.length := by rw [← T.sz]; exact c1
  have hsz : t.place.toList.length = hs.length := by rw [Array.length_toList]; exact T.sz
  have hnp : ¬t.place[SetTable.below t.place j]? = some j := fun e => hK (List.mem_of_getElem? (by rw [Array.getElem?_toList]; exact e))
  have hpp := put_place t j
  have hsize : (t.put j).fst.place.size = hs.length + 1 := by rw [← Array.length_toList, hpp, len_ins t.place.toList hpl j, hsz]
  have up : ∀ {x : Nat}, x ∈ t.place.toList → x ∈ (t.put j).fst.place.toList := fun {x} hx => by rw [hpp]; exact mem_ins.mpr (.inr hx)
  refine ⟨rfl, hph, ⟨ris_insert T.ris hnp, put_dm T.dm j, by rw [len_ins hs hph h]; exact hsize, T.mok, fun x hx => ?_, fun i h' j' h1 h2 => ?_⟩, rfl, rfl, rfl, rfl, rfl, ?_⟩
  · rw [hpp] at hx
    rcases mem_ins.mp hx with z | z
    · rw [z]; exact hjm
    · exact T.bd x z
  · rw [tins_get hs hph h i] at h1
    rw [hpp, tins_get t.place.toList hpl j i] at h2
    show ∃ k, way t.mask h' k = j' ∧ ∀ k', k' < k → way t.mask h' k' ∈ (t.put j).fst.place.toList
    by_cases c : i < SetTable.below t.place j
    · rw [if_pos c] at h1 h2
      obtain ⟨k, e, z⟩ := T.reach i h' j' h1 h2
      exact ⟨k, e, fun k' hk' => up (z k' hk')⟩
    · rw [if_neg c] at h1 h2
      by_cases d : i = SetTable.below t.place j
      · rw [if_pos d] at h1 h2
        cases h1
        cases h2
        exact ⟨K, hj.symm, fun k' hk' => up (hb k' hk')⟩
      · rw [if_neg d] at h1 h2
        obtain ⟨k, e, z⟩ := T.reach (i - 1) h' j' h1 h2
        exact ⟨k, e, fun k' hk' => up (z k' hk')⟩
  · show (t.put j).fst.place.size + (t.put j).fst.dummies.size = _
    rw [hsize, put_dm T.dm j]
    rfl
end Tw

/-! Tw, part W3: sets of tuples of any size: search, relaying. -/
namespace Tw
open PySem L2
structure SetG (P : Program) (w : World) (h : Heap) (a : Addr) (L : List (Addr × List Int)) (es : Array (Int × Value)) (ep : Nat) (t : SetTable) : Prop where
  ob : ∃ o, h.get? a = some o ∧ o.ExactSet ∧ o.data = Data.set es ep t
  rows : es.toList = rowsOf P w L
  tab : TabG t (L.map fun p => thash P w p.snd)
  nd : (L.map fun x => x.snd).Nodup
  tup : ∀ p ∈ L, IsT P w h p.snd p.fst
  plain : t.plain = true
  led : w.params.followText "set-order" = true ∨ t.led = true
  room : L.length * 5 < t.mask * 3
  few : L.length < 4000
section
variable {P : Program} {w : World} {A : Around} {E : Value → Shared → Prop} {s : Shared} {a : Addr} {L : List (Addr × List Int)} {es : Array (Int × Value)} {ep : Nat} {t : SetTable}
theorem SetG.size {h : Heap} (R : SetG P w h a L es ep t) : es.size = L.length := by
  have h := congrArg List.length R.rows
  unfold rowsOf at h
  rw [List.length_map, Array.length_toList] at h
  exact h
theorem SetG.entry {h : Heap} (R : SetG P w h a L es ep t) {i : Nat} {p : Addr × List Int} (h : L[i]? = some p) : es[i]? = some (thash P w p.snd, .ref p.fst) := by
  rw [← Array.getElem?_toList, R.rows]
  show (L.map _)[i]? = _
  rw [List.getElem?_map, h]
  rfl
theorem SetG.fits {h : Heap} (R : SetG P w h a L es ep t) : t.fits es.size = true := by
  have h1 := R.tab.sz
  have h2 := R.size
  have h3 := R.room
  rw [List.length_map] at h1
  show (t.place.size == es.size && decide (t.place.size + t.dummies.size ≤ t.mask)) = true
  rw [R.tab.dm, Bool.and_eq_true, beq_iff_eq, decide_eq_true_eq]
  refine ⟨by omega, ?_⟩
  show t.place.size + 0 ≤ t.mask
  omega
theorem mask_oddG {m : Nat} (h : MaskG m) : m % 2 = 1 := by
  obtain ⟨k, k3, _, e⟩ := h
  obtain ⟨j, rfl⟩ : ∃ j, k = j + 1 := ⟨k - 1, by omega⟩
  rw [Nat.pow_succ] at e
  omega
theorem mask_leG {m : Nat} (h : MaskG m) : m ≤ 8191 := by
  obtain ⟨k, _, k1, e⟩ := h
  have : 2 ^ k ≤ 2 ^ 13 := Nat.pow_le_pow_right (by omega) k1.1
  have e2 : 2 ^ 13 = 8192 := by decide
  omega
theorem SetG.gw {h : Heap} (R : SetG P w h a L es ep t) : ¬t.gaveWay = true := by
  show ¬(t.mask % 2 == 0) = true
  rw [mask_oddG R.tab.mok]
  decide
theorem SetG.keep {h h' : Heap} (R : SetG P w h a L es ep t) (ha : ∀ o, h.get? a = some o → h'.get? a = some o) (ht : ∀ p ∈ L, IsT P w h' p.snd p.fst) : SetG P w h' a L es ep t := by
  obtain ⟨o, ho, r⟩ := R.ob
  exact ⟨⟨o, ha o ho, r⟩, R.rows, R.tab, R.nd, ht, R.plain, R.led, R.room, R.few⟩
theorem setG_fresh {h : Heap} (ho : h.get? a = some { cls := .type "set", data := .set #[] 0 (SetTable.fresh 0 0 !w.params.followText "set-order") }) : SetG P w h a [] #[] 0 (SetTable.fresh 0 0 !w.params.followText "set-order") := by
  refine ⟨⟨_, ho, ⟨⟨rfl, rfl, rfl⟩, rfl⟩⟩, rfl, ⟨List.Pairwise.nil, rfl, rfl, ⟨3, by omega, by omega, rfl⟩, fun x hx => ?_, fun i h j hi => ?_⟩, List.nodup_nil, fun p hp => ?_, rfl, ?_, by show 0 * 5 < 7 * 3; decide, by show 0 < 4000; decide⟩
  · cases hx
  · simp at hi
  · cases hp
  · show _ ∨ (!w.params.followText "set-order") = true
    cases w.params.followText "set-order"
    · exact .inr rfl
    · exact .inl rfl
theorem nth_dummy {m : Nat} : ∀ (n : Nat) (p : SetTable.Probe), p.dummy = none → (nth m p n).dummy = none
  | 0, _, h => h
  | n + 1, p, h => nth_dummy n (adv m p) (by
    unfold adv
    split
    · exact h
    · exact h)
theorem search_fromG (R : SetG P w s.heap a L es ep t) {x : Addr} {k : List Int} (hx : IsT P w s.heap k x) (hu : A.units < cLine) {K : Nat} (hKf : K < 10 * SetTable.turns t.mask) (hK : ¬way t.mask (thash P w k) K ∈ t.place.toList)
    (hKb : ∀ c, c < K → way t.mask (thash P w k) c ∈ t.place.toList) {Q : SetFound → Shared → Prop} (hin : k ∈ (L.map fun x => x.snd) → Q (.there none) s) (hout : ¬k ∈ (L.map fun x => x.snd) → Q (.free (way t.mask (thash P w k) K) false) s) :
    ∀ (f c : Nat) (stand : Option SetTable.Probe), stand.getD (t.probeStart (thash P w k)) = nth t.mask (runAt t.mask (SetTable.bits (thash P w k) % (t.mask + 1)) (SetTable.bits (thash P w k))) c → c ≤ K → K - c < f →
      (∀ (i : Nat) (p : Addr × List Int), L[i]? = some p → p.snd = k → ∃ c', c ≤ c' ∧ c' < K ∧ t.place.toList[i]? = some (way t.mask (thash P w k) c')) →
      wpAny (model P w) A (setSearchFrom a (.ref x) (thash P w k) true f stand) Q E s := by
  intro f
  induction f with
  | zero => intro c stand _ _ hf; exact absurd hf (Nat.not_lt_zero _)
  | succ f ih =>
    intro c stand hst hc hf hre
    obtain ⟨o, ho, hex, hd⟩ := R.ob
    obtain ⟨p0, hp0⟩ : ∃ p, p = runAt t.mask (SetTable.bits (thash P w k) % (t.mask + 1)) (SetTable.bits (thash P w k)) := ⟨_, rfl⟩
    rw [← hp0] at hst
    have wy : ∀ q, (nth t.mask p0 q).j = way t.mask (thash P w k) q := fun q => by rw [hp0]
    rw [setSearchFrom_succ a (.ref x) (thash P w k) true f stand]
    refine wpAny_bind (wpAny_setState_of ho hd R.fits ?_)
    refine wp_if_neg R.gw (wpAny_bind (wpAny_pure ?_))
    have hnd : (nth t.mask p0 c).dummy = none := nth_dummy c p0 (by rw [hp0]; rfl)
    have sh : ∀ q, nth t.mask (nth t.mask p0 c) q = nth t.mask p0 (c + q) := fun q => (nth_add t.mask c p0 q).symm
    have e1 : ∀ q, (nth t.mask (nth t.mask p0 c) q).j = way t.mask (thash P w k) (c + q) := fun q => by rw [sh, wy]
    have spec := go_spec t R.tab.ris R.tab.dm (fun i => (Option.map (fun x => x.fst) es[i]?).getD 0) (thash P w k) (10 * SetTable.turns t.mask) (K - c) (nth t.mask p0 c) hnd (by omega)
      (fun q hq => by rw [e1 q]; exact hKb (c + q) (by omega)) (by rw [e1, show c + (K - c) = K by omega]; exact hK)
    have hashAt : ∀ (i : Nat) (p : Addr × List Int), L[i]? = some p → (Option.map (fun x => x.fst) es[i]?).getD 0 = thash P w p.snd := fun i p hp => by rw [R.entry hp]; rfl
    rcases spec with ⟨q, i, hq, hi, hh, hno, hpr⟩ | ⟨hno, hpr⟩
    · have hpr' : t.probe (fun i => (Option.map (fun x => x.fst) es[i]?).getD 0) (thash P w k) (stand.getD (t.probeStart (thash P w k))) = some (.candidate (way t.mask (thash P w k) (c + q)) i (nth t.mask p0 (c + (q + 1)))) := by
        rw [hst, ← e1 q, ← sh (q + 1)]
        exact hpr
      rw [hpr']
      rw [e1 q] at hi
      have hil : i < L.length := by
        have h1 := (List.getElem?_eq_some_iff.mp hi).1
        have h2 := R.tab.sz
        rw [Array.length_toList] at h1
        rw [List.length_map] at h2
        omega
      have hp : L[i]? = some L[i] := List.getElem?_eq_getElem hil
      have hmem := List.mem_of_getElem? hp
      have hpt := R.tup L[i] hmem
      have hsl := slot_live R.tab.ris hi
      have rest : wpAny (model P w) A (searchRest a (.ref x) (thash P w k) true f es t (way t.mask (thash P w k) (c + q)) i (nth t.mask p0 (c + (q + 1)))) Q E s := by
        unfold searchRest
        rw [R.entry hp]
        refine wpAny_bind (wpAny_holding (wpAny_eqBool_tuple hu hpt hx (wpAny_bind (wpAny_setState_of ho hd R.fits ?_))))
        by_cases hkk : L[i].snd = k
        · exact wp_if_pos (by simp [hkk]) (wpAny_pure (hin (List.mem_map.mpr ⟨L[i], hmem, hkk⟩)))
        · refine wp_if_neg (by simp [hkk]) (wpAny_bind (wpAny_pure ?_))
          rw [sameMem t]
          simp only [if_true, hsl, R.entry hp]
          refine wpAny_bind (wpAny_isSame_ref_self (wpAny_bind (wpAny_pure ?_)))
          simp only [if_true]
          refine wp_if_neg (by simp [hkk]) (ih (c + (q + 1)) (some (nth t.mask p0 (c + (q + 1)))) (by rw [← hp0]; rfl) (by omega) (by omega) fun i0 p h0 hk0 => ?_)
          obtain ⟨c', a1, a2, a3⟩ := hre i0 p h0 hk0
          refine ⟨c', ?_, a2, a3⟩
          rcases Nat.lt_or_ge c' (c + q) with z | z
          · exfalso
            refine hno (c' - c) i0 (by omega) (by rw [e1, show c + (c' - c) = c' by omega]; exact a3) ?_
            rw [hashAt i0 p h0, hk0]
          · rcases Nat.lt_or_ge (c + q) c' with y | y
            · omega
            · exfalso
              have ec : c' = c + q := by omega
              rw [ec] at a3
              have s0 := slot_live R.tab.ris a3
              rw [hsl] at s0
              cases s0
              rw [hp] at h0
              exact hkk ((congrArg Prod.snd (Option.some.inj h0)).trans hk0)
      by_cases hl : t.led = true
      · exact wp_if_neg (by simp [hl]) rest
      · refine wp_if_pos (by simp [hl]) (wpAny_bind (seen_tup hx (fun y hy => ?_) (wp_if_neg (by decide) rest)))
        obtain ⟨e, he, ee⟩ := List.mem_map.mp hy
        have he1 : e ∈ es.toList := by
          have := he
          simp at this
          simpa using this.1
        rw [R.rows] at he1
        obtain ⟨p2, hp2, e2⟩ := List.mem_map.mp he1
        exact ⟨p2.snd, p2.fst, by rw [← ee, ← e2], R.tup p2 hp2⟩
    · have hpr' : t.probe (fun i => (Option.map (fun x => x.fst) es[i]?).getD 0) (thash P w k) (stand.getD (t.probeStart (thash P w k))) = some (.empty (way t.mask (thash P w k) K) none) := by
        rw [hst, show way t.mask (thash P w k) K = (nth t.mask (nth t.mask p0 c) (K - c)).j by rw [e1, show c + (K - c) = K by omega]]
        exact hpr
      rw [hpr']
      refine wpAny_pure (hout fun hm => ?_)
      obtain ⟨p, h0, hk0⟩ := List.mem_map.mp hm
      obtain ⟨i0, hi0, e0⟩ := List.getElem_of_mem h0
      have h00 : L[i0]? = some p := by rw [List.getElem?_eq_getElem hi0, e0]
      obtain ⟨c', a1, a2, a3⟩ := hre i0 p h00 hk0
      refine hno (c' - c) i0 (by omega) (by rw [e1, show c + (c' - c) = c' by omega]; exact a3) ?_
      rw [hashAt i0 p h00, hk0]
theorem search_atG (R : SetG P w s.heap a L es ep t) {x : Addr} {k : List Int} (hx : IsT P w s.heap k x) (hu : A.units < cLine) {Q : SetFound → Shared → Prop} (hin : k ∈ (L.map fun x => x.snd) → Q (.there none) s)
    (hout : ∀ K, ¬k ∈ (L.map fun x => x.snd) → ¬way t.mask (thash P w k) K ∈ t.place.toList → (∀ c, c < K → way t.mask (thash P w k) c ∈ t.place.toList) → Q (.free (way t.mask (thash P w k) K) false) s) :
    wpAny (model P w) A (setSearch a (.ref x) (thash P w k) true) Q E s := by
  have hroom := R.room
  obtain ⟨K, hKf, hK, hKb⟩ := R.tab.first (by rw [List.length_map]; omega) (thash P w k)
  have hbig : K - 0 < 100000 := by
    have := mask_leG R.tab.mok
    have : K < 10 * (t.mask + 15) := hKf
    omega
  show wpAny (model P w) A (setSearchFrom a (.ref x) (thash P w k) true 100000 none) Q E s
  refine search_fromG R hx hu hKf hK hKb hin (fun hn => hout K hn hK hKb) 100000 0 none rfl (Nat.zero_le K) hbig fun i p hp hk => ?_
  have hi : (L.map fun p => thash P w p.snd)[i]? = some (thash P w k) := by rw [List.getElem?_map, hp, ← hk]; rfl
  have hil : i < t.place.toList.length := by
    have h1 := (List.getElem?_eq_some_iff.mp hp).1
    have h2 := R.tab.sz
    rw [List.length_map] at h2
    rw [Array.length_toList]
    omega
  have hj := List.getElem?_eq_getElem hil
  obtain ⟨c, hc, e⟩ := R.tab.before hK hi hj
  exact ⟨c, Nat.zero_le c, hc, by rw [hj, e]⟩
theorem relay_atG {o : Obj} (ho : s.heap.get? a = some o) (hex : o.ExactSet) (hd : o.data = Data.set es ep t) (hrows : es.toList = rowsOf P w L) (hsz : t.place.size = es.size) (hdm : t.dummies = #[]) (hfl : es.size ≤ t.mask) (nd : (L.map fun x => x.snd).Nodup)
    (tup : ∀ p ∈ L, IsT P w s.heap p.snd p.fst) (pl : t.plain = true) (ld : w.params.followText "set-order" = true ∨ t.led = true) (few : L.length < 4000) {wanted M : Nat} (hw : SetTable.sizeAbove wanted - 1 = M) (hM : MaskG M) (hw2 : SetTable.sizeAbove wanted ≤ 8192) (hn : L.length * 5 < M * 3)
    {Q : Unit → Shared → Prop} (hQ : ∀ (h' : Heap) (L' : List (Addr × List Int)) (es' : Array (Int × Value)) (ep' : Nat) (t' : SetTable), Heap.SameBut a s.heap h' → SetG P w h' a L' es' ep' t' → L'.Perm L → Q () { s with heap := h' }) :
    wpAny (model P w) A (setRelay a wanted) Q E s := by
  have hsl : es.size = L.length := by
    have h := congrArg List.length hrows
    unfold rowsOf at h
    rw [List.length_map, Array.length_toList] at h
    exact h
  have hfits : t.fits es.size = true := by
    show (t.place.size == es.size && decide (t.place.size + t.dummies.size ≤ t.mask)) = true
    rw [hdm, Bool.and_eq_true, beq_iff_eq, decide_eq_true_eq]
    refine ⟨by omega, ?_⟩
    show t.place.size + 0 ≤ t.mask
    omega
  obtain ⟨t', order, e, hp, T, em, el, ep2, ed⟩ := relaid_okG t (hs := es.map fun x => x.fst) hw hM (by rw [Array.size_map, hsl]; omega)
  rw [Array.size_map, hsl] at hp
  obtain ⟨L2, r1, r2, r3⟩ := order_rows L es order hrows hp
  have hs2 : (order.filterMap fun i => es[i]?).size = es.size := by
    have h := congrArg List.length r1
    unfold rowsOf at h
    rw [List.length_map, Array.length_toList, r2.length_eq] at h
    rw [h, hsl]
  have sll := sizeLine_eq
  rw [setRelay_eq a wanted]
  refine wpAny_bind (wpAny_setState_of ho hd hfits ?_)
  refine wp_if_neg (by omega) ?_
  rw [e]
  refine wpAny_bind (wp_if_neg (by rw [hs2]; simp) (wpAny_pure ?_))
  have sb := Heap.SameBut.update s.heap a (Obj.putSet (order.filterMap fun i => es[i]?) t')
  refine wpAny_storeSet_of ho hd (hQ _ L2 (order.filterMap fun i => es[i]?) (ep + 1) t' sb ⟨⟨{ cls := o.cls, dict := o.dict, data := .set (order.filterMap fun i => es[i]?) (ep + 1) t', slots := o.slots }, store_at ho hd, ⟨⟨hex.1, hex.2.1, hex.2.2⟩, rfl⟩⟩, r1, r3 ▸ T, (r2.map fun x => x.2).nodup_iff.mpr nd, fun p hpm => isT_same (tup p (r2.mem_iff.mp hpm)) ho hd sb, by rw [ep2]; exact pl, by rw [el]; exact ld, by rw [r2.length_eq, em]; exact hn, by rw [r2.length_eq]; exact few⟩ r2) (by rw [hs2, hsl]; omega)
end
end Tw

/-! Tw, part W4: sets of tuples of any size: adding, set(xs). -/
namespace Tw
open PySem L2
theorem mask_cases {m : Nat} (h : MaskG m) : m = 7 ∨ m = 31 ∨ m = 127 ∨ m = 511 ∨ m = 2047 ∨ m = 8191 := by
  obtain ⟨k, k3, ⟨k1, k2⟩, e⟩ := h
  have : k = 3 ∨ k = 5 ∨ k = 7 ∨ k = 9 ∨ k = 11 ∨ k = 13 := by omega
  rcases this with rfl | rfl | rfl | rfl | rfl | rfl <;> simp at e <;> omega
theorem mask_of {m : Nat} (h : m = 7 ∨ m = 31 ∨ m = 127 ∨ m = 511 ∨ m = 2047 ∨ m = 8191) : MaskG m := by
  rcases h with rfl | rfl | rfl | rfl | rfl | rfl
  · exact ⟨3, by omega, by omega, rfl⟩
  · exact ⟨5, by omega, by omega, rfl⟩
  · exact ⟨7, by omega, by omega, rfl⟩
  · exact ⟨9, by omega, by omega, rfl⟩
  · exact ⟨11, by omega, by omega, rfl⟩
  · exact ⟨13, by omega, by omega, rfl⟩
/-- where a full table goes -/
theorem grow_to {m n : Nat} (h : MaskG m) (h1 : n * 5 < m * 3) (h2 : (n + 1) * 5 ≥ m * 3) (few : n + 1 < 4000) : ∃ M, SetTable.sizeAbove (SetTable.grown (n + 1)) - 1 = M ∧ MaskG M ∧ SetTable.sizeAbove (SetTable.grown (n + 1)) ≤ 8192 ∧ (n + 1) * 5 < M * 3 ∧ n + 1 ≤ m := by
  rcases mask_cases h with rfl | rfl | rfl | rfl | rfl | rfl
  · obtain rfl : n = 4 := by omega
    exact ⟨31, by decide, mask_of (by omega), by decide, by omega, by omega⟩
  · obtain rfl : n = 18 := by omega
    exact ⟨127, by decide, mask_of (by omega), by decide, by omega, by omega⟩
  · obtain rfl : n = 76 := by omega
    exact ⟨511, by decide, mask_of (by omega), by decide, by omega, by omega⟩
  · obtain rfl : n = 306 := by omega
    exact ⟨2047, by decide, mask_of (by omega), by decide, by omega, by omega⟩
  · obtain rfl : n = 1228 := by omega
    exact ⟨8191, by decide, mask_of (by omega), by decide, by omega, by omega⟩
  · omega
section
variable {P : Program} {w : World} {A : Around} {E : Value → Shared → Prop} {s : Shared} {a : Addr} {L : List (Addr × List Int)} {es : Array (Int × Value)} {ep : Nat} {t : SetTable}
theorem add_atG (R : SetG P w s.heap a L es ep t) {x : Addr} {k : List Int} (hx : IsT P w s.heap k x) (hu : A.units < cLine) (hfew : L.length + 1 < 4000) {Q : Bool → Shared → Prop}
    (hQ : ∀ (b : Bool) (h' : Heap) (L' : List (Addr × List Int)) (es' : Array (Int × Value)) (ep' : Nat) (t' : SetTable), Heap.SameBut a s.heap h' → SetG P w h' a L' es' ep' t' → (k ∈ (L.map fun x => x.snd) → L' = L) → (¬k ∈ (L.map fun x => x.snd) → L'.Perm ((x, k) :: L)) → Q b { s with heap := h' }) :
    wpAny (model P w) A (setAddHashed a (.ref x) (thash P w k)) Q E s := by
  obtain ⟨o, ho, hex, hd⟩ := R.ob
  have hsl := R.size
  have hroom := R.room
  have sll := sizeLine_eq
  show wpAny (model P w) A (holding [.ref x] (setAddHashedIn a (.ref x) (thash P w k) (99999 + 1))) Q E s
  refine wpAny_holding ?_
  rw [setAddHashedIn_succ a (.ref x) (thash P w k) 99999]
  refine wpAny_bind (wpAny_setState_of ho hd R.fits ?_)
  refine wp_if_neg (by simp [byScan, Value.scannable]) (wpAny_bind (search_atG R hx hu (fun hm => ?_) fun K hm hK hb => ?_))
  · exact wpAny_pure (hQ false s.heap L es ep t (Heap.SameBut.refl a s.heap) R (fun _ => rfl) fun z => absurd hm z)
  · refine wpAny_bind (wpAny_setState_of ho hd R.fits ?_)
    have hput := R.tab.put hK hb
    obtain ⟨p, hp⟩ : ∃ p, p = SetTable.below t.place (way t.mask (thash P w k) K) := ⟨_, rfl⟩
    rw [← hp] at hput
    obtain ⟨t1, p', hpt⟩ : ∃ t1 p', t.put (way t.mask (thash P w k) K) = (t1, p') := ⟨_, _, rfl⟩
    rw [hpt] at hput
    dsimp only
    rw [hpt]
    dsimp only
    obtain ⟨q1, q2, q3, q4, q5, q6, q7, q8, q9⟩ := hput
    dsimp only at q1 q3 q4 q5 q6 q7 q8 q9
    subst q1
    have hp1 : t1.plain = true := by rw [q6]; exact R.plain
    refine wp_if_pos hp1 (wpAny_bind (hashBy_tup hx ?_))
    simp only [if_true]
    obtain ⟨L1, eL1⟩ : ∃ L1, L1 = L.take p' ++ (x, k) :: L.drop p' := ⟨_, rfl⟩
    obtain ⟨es1, ees⟩ : ∃ es1, es1 = SetTable.insertAt es p' (thash P w k, Value.ref x) := ⟨_, rfl⟩
    rw [← ees]
    have hin : es1.toList = rowsOf P w L1 := by
      rw [ees, eL1, SetTable.toList_insertAt es p' (thash P w k, .ref x), rows_put L p' x k, R.rows]
    have pm : L1.Perm ((x, k) :: L) := by rw [eL1]; exact put_perm L p' (x, k)
    have hlen := pm.length_eq
    rw [List.length_cons] at hlen
    have hhs : (L1.map fun p => thash P w p.snd) = (L.map fun p => thash P w p.snd).take p' ++ thash P w k :: (L.map fun p => thash P w p.snd).drop p' := by
      rw [eL1, List.map_append, List.map_cons, List.map_take, List.map_drop]
    rw [← hhs] at q3
    have nd1 : (L1.map fun x => x.snd).Nodup := (pm.map fun x => x.2).nodup_iff.mpr (by rw [List.map_cons]; exact List.nodup_cons.mpr ⟨hm, R.nd⟩)
    have hes : es1.size = L.length + 1 := by
      have h := congrArg List.length hin
      unfold rowsOf at h
      rw [List.length_map, Array.length_toList] at h
      omega
    rw [List.length_map] at q9
    have ld1 : w.params.followText "set-order" = true ∨ t1.led = true := by rw [q5]; exact R.led
    refine wpAny_bind (wpAny_storeSet_of ho hd ?_ (by omega))
    have sb := Heap.SameBut.update s.heap a (Obj.putSet es1 t1)
    have ho1 := store_at (es' := es1) (t' := t1) ho hd
    have tup1 : ∀ p ∈ L1, IsT P w (s.heap.update a (Obj.putSet es1 t1)) p.snd p.fst := fun p hp => by
      rcases List.mem_cons.mp (pm.mem_iff.mp hp) with e | hp
      · rw [e]; exact isT_same hx ho hd sb
      · exact isT_same (R.tup p hp) ho hd sb
    by_cases hf : t1.tooFull = true
    · refine wp_if_pos (by simp [hf]) (wpAny_bind ?_)
      have hfull : (L.length + 1) * 5 ≥ t1.mask * 3 := by
        have h := hf
        unfold SetTable.tooFull at h
        rw [decide_eq_true_eq, q9] at h
        exact h
      rw [q4] at hfull
      rw [hsl]
      obtain ⟨M, g1, g2, g3, g4, g5⟩ := grow_to R.tab.mok hroom hfull hfew
      refine relay_atG (o := { cls := o.cls, dict := o.dict, data := .set es1 (ep + 1) t1, slots := o.slots }) (es := es1) (ep := ep + 1) (t := t1) ho1 ⟨hex.1, hex.2.1, hex.2.2⟩ rfl hin ?_ q3.dm (by rw [q4]; omega) nd1 tup1 hp1 ld1 (by omega) g1 g2 g3 (by rw [hlen]; exact g4) fun h2 L2 es2 ep2 t2 sb2 R2 pm2 => wpAny_pure (hQ true h2 L2 es2 ep2 t2 (sb.trans sb2) R2 (fun z => absurd z hm) fun _ => pm2.trans pm)
      have h := q3.sz
      rw [List.length_map] at h
      omega
    · refine wp_if_neg (by simp [hf]) (wpAny_pure (hQ true _ L1 es1 (ep + 1) t1 sb ⟨⟨_, ho1, ⟨⟨hex.1, hex.2.1, hex.2.2⟩, rfl⟩⟩, hin, q3, nd1, tup1, hp1, ld1, ?_, by omega⟩ (fun z => absurd z hm) fun _ => pm))
      have h := hf
      unfold SetTable.tooFull at h
      rw [decide_eq_true_eq, q9] at h
      omega
end
end Tw

/-! Tw, part W5: set(xs) of tuples of ints, of any size below 4000. -/
namespace Tw
open PySem PySem.Spec L2 PyProof.Rows
theorem nodup_leG {α : Type} [DecidableEq α] : ∀ (l S : List α), l.Nodup → (∀ k ∈ l, k ∈ S) → l.length ≤ S.length
  | [], _, _, _ => Nat.zero_le _
  | a :: l, S, nd, sub => by
    have ha : a ∈ S := sub a List.mem_cons_self
    have h := nodup_leG l (S.erase a) (List.nodup_cons.mp nd).2 fun k hk => (List.mem_erase_of_ne (fun e => by subst e; exact (List.nodup_cons.mp nd).1 hk)).mpr (sub k (List.mem_cons_of_mem _ hk))
    rw [List.length_erase_of_mem ha] at h
    have := List.length_pos_of_mem ha
    simp only [List.length_cons]; omega
def fewT (ks : List (Addr × List Int)) : Prop := ∃ S : List (List Int), S.length < 3999 ∧ ∀ p ∈ ks, p.2 ∈ S
section
variable {P : Program} {w : World} {A : Around} {E : Value → Shared → Prop} {s : Shared}
theorem got_few {ks : List (Addr × List Int)} (few : fewT ks) {i : Nat} {L : List (Addr × List Int)} (g : Got ks i L) (nd : (L.map fun x => x.snd).Nodup) : L.length + 1 < 4000 := by
  obtain ⟨S, hs, sub⟩ := few
  have := nodup_leG (L.map fun x => x.snd) S nd fun k hk => by
    obtain ⟨p, hp, rfl⟩ := List.mem_map.mp hk
    exact sub p (List.mem_of_mem_take (g.sub p hp))
  rw [List.length_map] at this
  omega
theorem upd_tups {it : Addr} {fp wr : List Addr} {Gs : Array GenState → Array GenState → Prop} {n : Nat} {Pv : Nat → Value → Prop} {St : Nat → Shared → Prop} {R : Result → Shared → Prop}
    (Wk : WalksS P w A.in1 it fp wr Gs n Pv St) (z : Addr) (zf : z ∉ fp) (ks : List (Addr × List Int)) (en : n = ks.length) (few : fewT ks) (val : ∀ i v, Pv i v → ∃ p, ks[i]? = some p ∧ v = .ref p.1)
    (h0 : Heap) (tup : ∀ p ∈ ks, IsT P w h0 p.2 p.1) (z0 : h0.get? z = none) (w0 : ∀ b ∈ wr, h0.get? b = none) (hu : A.in1.units < cLine) :
    ∀ (j i : Nat) (s : Shared), n - i = j → i ≤ n → St i s → (∀ b o, h0.get? b = some o → s.heap.get? b = some o) → (∃ L es ep t, SetG P w s.heap z L es ep t ∧ Got ks i L) →
      (∀ s' L es ep t, Moved (z :: wr) Gs s s' → SetG P w s'.heap z L es ep t → Got ks n L → (∀ b o, h0.get? b = some o → s'.heap.get? b = some o) → R (.ok (.ret .none)) s') →
      codeAny (model P w) A (.builtin "set.update.loop" ⟨[.ref z, .ref it], []⟩) R s := by
  have zw : z ∉ wr := fun q => zf (Wk.sub _ q)
  have up : ∀ b ∈ wr, b ∈ z :: wr := fun b q => List.mem_cons_of_mem _ q
  have held : ∀ {s s' : Shared}, Moved wr Gs s s' → (∀ b o, h0.get? b = some o → s.heap.get? b = some o) → ∀ b o, h0.get? b = some o → s'.heap.get? b = some o := fun mv kp b o q =>
    mv.heap b o (fun hb => by rw [w0 b hb] at q; cases q) (kp b o q)
  have tups : ∀ {h : Heap} {i : Nat} {L : List (Addr × List Int)}, Got ks i L → (∀ b o, h0.get? b = some o → h.get? b = some o) → ∀ p ∈ L, IsT P w h p.2 p.1 := fun g kp p hp => isT_keep (tup p (List.mem_of_mem_take (g.sub p hp))) kp
  intro j
  induction j with
  | zero =>
    intro i s ej hi st kp ⟨L, es, ep, t, hz, hg⟩ fin
    obtain rfl : i = n := by omega
    refine codeAny_builtin F.entry_set_update_loop ?_
    rw [Around.under_plainId F.plain_set_update_loop _]
    show wpAny _ A.in1 (pyNext (.ref it) >>= _) _ _ s
    refine wpAny_bind (Wk.done s _ _ st fun s' mv => ?_)
    show wpAny _ A.in1 (ret Value.none) _ _ s'
    exact wpAny_pure (fin s' L es ep t (mv.mono up) (hz.keep (fun o q => mv.heap z o zw q) (tups hg (held mv kp))) hg (held mv kp))
  | succ j ih =>
    intro i s ej hi st kp ⟨L, es, ep, t, hz, hg⟩ fin
    have lt : i < n := by omega
    refine codeAny_builtin F.entry_set_update_loop ?_
    rw [Around.under_plainId F.plain_set_update_loop _]
    show wpAny _ A.in1 (pyNext (.ref it) >>= _) _ _ s
    refine wpAny_bind (Wk.item i s _ _ lt st fun v s' pv' st' mv => ?_)
    obtain ⟨p, hk, rfl⟩ := val i v pv'
    have kp' := held mv kp
    have hz' : SetG P w s'.heap z L es ep t := hz.keep (fun o q => mv.heap z o zw q) (tups hg kp')
    have hpm : p ∈ ks := List.mem_of_getElem? hk
    show wpAny _ A.in1 (holding [Value.ref p.1] (setAdd z (.ref p.1)) >>= _) _ _ s'
    refine wpAny_bind (wpAny_holding ?_)
    unfold setAdd
    refine wpAny_holding ?_
    have it0 := isT_keep (tup p hpm) kp'
    refine wpAny_bind (wpAny_pyHash_tuple hu it0 ?_)
    refine add_atG (s := { s' with toks := s'.toks + (p.2.length + 1) }) hz' it0 hu (got_few few hg hz.nd) fun b h' L' es' ep' t' sb r rin rout => ?_
    have kp2 : ∀ b o, h0.get? b = some o → h'.get? b = some o := fun b o q => (sb.2 b (fun e => by rw [e, z0] at q; cases q)).trans (kp' b o q)
    have fr : ∀ b ∈ fp, ∀ o, s'.heap.get? b = some o → h'.get? b = some o := fun b hb o q => by
      rw [sb.2 b (fun e => zf (by rw [← e]; exact hb))]; exact q
    refine wpAny_pure ⟨plainId_quiet F.plain_set_update_loop _, ih (i + 1) _ (by omega) lt (Wk.frame _ s' _ _ st' (Nat.le_add_right _ _) fr) kp2 ⟨L', es', ep', t', r, ?_⟩ fun s'' L2 es2 ep2 t2 mv2 hz2 hg2 kp3 => ?_⟩
    · by_cases hin : p.2 ∈ L.map fun x => x.snd
      · rw [rin hin]; exact hg.same hk hin
      · exact hg.more hk (rout hin)
    · refine fin s'' L2 es2 ep2 t2 (Moved.trans Wk.gtrans ((mv.mono up).then_heap (Nat.le_add_right _ _) fun b o hb q => ?_) mv2) hz2 hg2 kp3
      rw [sb.2 b (fun e => hb (by rw [e]; exact List.mem_cons_self))]; exact q

set_option maxHeartbeats 3200000 in
/-- set(xs) of tuples of ints -/
theorem call_setG {l : Addr} {items : Array Value} (ks : List (Addr × List Int)) {Q : Value → Shared → Prop} (hh : A.handled = none) (il : s.heap.IsList l items) (ii : items.toList = ks.map fun p => Value.ref p.1) (tup : ∀ p ∈ ks, IsT P w s.heap p.2 p.1) (few : fewT ks) (hu : A.units + 3 < cLine)
    (h : ∀ (h' : Heap) (tk : Nat) L es ep t, SetG P w h' s.heap.objs.size L es ep t → Got ks ks.length L → (∀ b o, s.heap.get? b = some o → h'.get? b = some o) → Q (.ref s.heap.objs.size) { s with heap := h', toks := tk }) :
    wpAny (model P w) A (call (.type "set") [.ref l]) Q E s := by
  have sz : items.size = ks.length := by
    have q := congrArg List.length ii
    rw [Array.length_toList, List.length_map] at q
    exact q
  obtain ⟨c, tl, hmro⟩ := F.called_set.mro
  have c1 := F.called_set.made
  have c2 := F.called_set.sub
  refine wpAny_call (codeAny_of_tree ?_)
  show wpAny _ _ (callAny (.type "set") _) _ _ _
  refine wpAny_pure ⟨Code.quiet_builtin _ (by decide +kernel), codeAny_builtin F.entry_type_call ?_⟩
  rw [Around.under_plain (weight_type_call_type "set" [.ref l] []) rfl]
  have c3 := F.called_set.notType
  have c4 := F.called_set.canCreate
  have c5 := F.typeCall_set_1 (.ref l)
  repeat (any_goals (first | assumption | wp_step))
  refine codeAny_mono (code_set_led1 (.ref l) (E := E) (Q₁ := fun obj s₁ => obj = .ref s.heap.objs.size ∧ s₁ = { s with heap := s.heap.push (fresh0 w) }) ⟨rfl, rfl⟩) fun r s₁ hr => ?_
  cases r with
  | error e => exact hr
  | ok fl =>
    cases fl with
    | ret obj =>
      obtain ⟨rfl, rfl⟩ := hr
      have hS : (s.heap.push (fresh0 w)).get? s.heap.objs.size = some (fresh0 w) := Heap.get?_push_size _ rfl
      have hT : Shared.TypeIs { s with heap := s.heap.push (fresh0 w) } (.ref s.heap.objs.size) "set" := ⟨_, hS, rfl⟩
      have c6 := F.called_set.init.lookup
      have c7 := F.called_set.init.bind (.ref s.heap.objs.size)
      repeat (any_goals (first | assumption | wp_step))
      refine codeAny_mono (codeAny_call_builtin (R := wants (fun r s₂ => r = .none ∧ ∃ h' tk L es ep t, s₂ = { s with heap := h', toks := tk } ∧ SetG P w h' s.heap.objs.size L es ep t ∧ Got ks ks.length L ∧
          (∀ b o, s.heap.get? b = some o → h'.get? b = some o)) E) F.called_set.init.plain F.entry_set_init (check_set_init_1 hT ?_)) fun r₂ s₂ hr₂ => ?_
      · obtain ⟨ol, hol, hcl, nl, hdl⟩ := il
        obtain ⟨ocls, odict, odata, oslots⟩ := ol
        simp only at hcl hdl
        subst hcl; subst hdl
        have hol' : (s.heap.push (fresh0 w)).get? l = some { cls := .type "list", dict := odict, data := .seq items nl, slots := oslots } := Heap.get?_push_of_some _ hol
        have d1 := F.sub_list_set
        have d2 := F.sub_list_frozenset
        have d3 : (Value.type "list" == Value.type "dict") = false := by decide
        have hl1 : (s.heap.push (fresh0 w)).IsList l items := ⟨_, hol', rfl, nl, rfl⟩
        unfold Builtin.«set.__init__» noKeywords Builtin.Frozenset.updateFrom
        generalize hPI : pyIter = PI
        wp_walk
        subst hPI
        refine wpAny_pyIter_list hl1 ?_
        refine wpAny_bind (wpAny_runValue ?_)
        have ls : l < s.heap.objs.size := Heap.lt_size hol
        have hh3 : A.in1.in1.in1.handled = none := by simp [hh]
        have nI : l ≠ (s.heap.push (fresh0 w)).objs.size := by
          rw [Heap.size_push]
          exact Nat.ne_of_lt (Nat.lt_succ_of_lt ls)
        have nf : s.heap.objs.size ∉ [(s.heap.push (fresh0 w)).objs.size, l] := by
          rw [Heap.size_push]; simp only [List.mem_cons, List.not_mem_nil, or_false, not_or]
          exact ⟨Nat.ne_of_lt (Nat.lt_succ_self _), Nat.ne_of_gt ls⟩
        have val : ∀ (i : Nat) (v : Value), items[i]? = some v → ∃ p, ks[i]? = some p ∧ v = .ref p.1 := fun i v hv => by
          have q : items.toList[i]? = some v := by rw [Array.getElem?_toList]; exact hv
          rw [ii, List.getElem?_map] at q
          cases e : ks[i]? with
          | none => rw [e] at q; cases q
          | some p => rw [e] at q; exact ⟨p, rfl, (Option.some.inj q).symm⟩
        have nn : ∀ b, s.heap.objs.size ≤ b → s.heap.get? b = none := fun b hb => by
          cases q : s.heap.get? b with
          | none => rfl
          | some o => exact absurd (Nat.lt_of_lt_of_le (Heap.lt_size q) hb) (Nat.lt_irrefl _)
        refine upd_tups ((Walks.list hh3 _ l nI items).toS) s.heap.objs.size nf ks sz few val s.heap tup (nn _ (Nat.le_refl _)) (fun b hb => nn b (by
            rw [List.mem_singleton.mp hb, Heap.size_push]
            exact Nat.le_succ _)) (by show A.units + 1 + 1 + 1 < cLine; omega) (items.size - 0) 0 _ (by omega) (Nat.zero_le _)
          ⟨⟨_, Heap.get?_push_size _ rfl, rfl, rfl⟩, (hl1.push _)⟩ (fun b o e => Heap.get?_push_of_some _ (Heap.get?_push_of_some _ e)) ?hS0 ?hR
        case hS0 =>
          exact ⟨[], #[], 0, _, setG_fresh (Heap.get?_push_of_some _ hS), Got.zero ks⟩
        case hR =>
          intro s' L es ep t mv hz hg kp
          obtain ⟨h', g2, d', tk', os'⟩ := s'
          have eg : g2 = s.gens := mv.gens
          have ed : d' = s.drawn := mv.drawn
          have eo : os' = s.os := mv.os
          subst eg; subst ed; subst eo
          show wpAny _ _ _ _ _ _
          refine wpAny_pure ?_
          show wpAny _ _ (ret Value.none) _ _ _
          exact wpAny_pure ⟨rfl, h', tk', L, es, ep, t, rfl, hz, sz ▸ hg, kp⟩
      · cases r₂ with
        | error e => exact hr₂
        | ok fl₂ =>
          cases fl₂ with
          | ret r =>
            obtain ⟨rfl, h', tk, L, es, ep, t, rfl, hz, hg, kp⟩ := hr₂
            repeat (any_goals (first | assumption | wp_step))
            exact h _ _ L es ep t hz hg kp
          | _ => exact hr₂.elim
    | _ => exact hr.elim
end
end Tw

/-! Tw, part W6: sorted(set(xs)) of tuples of ints. -/
namespace Tw
open PySem PySem.Spec PySem.W L2 PyProof.Rows
section
variable {P : Program} {w : World} {A : Around} {E : Value → Shared → Prop} {s : Shared} {a : Addr} {L : List (Addr × List Int)} {es : Array (Int × Value)} {ep : Nat} {t : SetTable}
end
end Tw

/-! Tw, part W7: sorted(set(xs)) of tuples of ints, as a rule. -/
namespace Tw
open PySem PySem.Spec L2 PyProof.Rows
structure SetG0 (P : Program) (w : World) (h : Heap) (a : Addr) (L : List (Addr × List Int)) : Prop where
  ex : ∃ es ep t, (∃ o, h.get? a = some o ∧ o.ExactSet ∧ o.data = Data.set es ep t) ∧ es.toList = L2.rowsOf P w L ∧ TabG t (L.map fun p => thash P w p.snd) ∧ (L.map fun x => x.snd).Nodup ∧ t.plain = true ∧ (w.params.followText "set-order" = true ∨ t.led = true) ∧ L.length * 5 < t.mask * 3 ∧ L.length < 4000
section
variable {P : Program} {w : World} {h : Heap} {a : Addr} {L : List (Addr × List Int)} {es : Array (Int × Value)} {ep : Nat} {t : SetTable}
theorem SetG.t0 (R : SetG P w h a L es ep t) : SetG0 P w h a L := ⟨es, ep, t, R.ob, R.rows, R.tab, R.nd, R.plain, R.led, R.room, R.few⟩
end
section
variable {X : Cx}
end
section
variable {X : Cx} {K : PySem.W.Frag} {E : XK} {a : Expr} {w : Wx} {k : Kd} {pos p : Pos}
end
end Tw

/-! Tw, part W8: xs.pop() as a row of its own. -/
namespace Tw
open PySem PySem.Spec L2 PyProof.Rows
section
variable {X : Cx} {E : XK} {n : Expr} {i : Nat} {pos apos cpos : Pos}
end
section
variable {X : Cx} {E : XK} {e o : Expr} {es : List Expr} {w : Wx} {u : Wa} {pos : Pos}
end
end Tw

/-! what the defs of k13 keep -/
namespace Tw.S
open PySem PySem.Spec L2 PyProof.Rows Tw
/-! posts -/
def least (ap : Nat) (p : List Int) : Nat := match p.getLast? with | some x => x.toNat + ap | none => 0
def grow (n ap : Nat) (p : List Int) : List (List Int) := (List.range (n - least ap p)).map fun i : Nat => p ++ [((least ap p + i : Nat) : Int)]
def longer (n ap : Nat) (ps : List (List Int)) : List (List Int) := ps.flatMap (grow n ap)
def levels (n ap : Nat) : Nat → List (List Int)
  | 0 => [[]]
  | k + 1 => longer n ap (levels n ap k)
/-- a game -/
structure Gm where
  names : List Str
  c : Nat
  L : Psg
  k : Nat
  tr : Str
  pc : Str
  lt : Option Nat
def ltD (o : Option Nat) : D := match o with | none => .non | some i => .int i
def Gm.d (CG CW : Addr) (g : Gm) : D := .obj CG [("web", webP CW g.names g.c g.L), ("seekers", .int g.k), ("travel", .str g.tr), ("pace", .str g.pc), ("late", ltD g.lt)]
def teamOk (k : Nat) (tr : Str) : Prop := 1 ≤ k ∧ ((tr = "walk" ∧ k ≤ 4) ∨ (tr = "fly" ∧ k ≤ 8))
structure Gm.Ok (g : Gm) : Prop where
  nm : NamesOk g.names
  lo : 1 ≤ g.c
  hi : g.c ≤ 4
  ir : ∀ b u, g.L b u u = false
  tm : teamOk g.k g.tr
  pc : g.pc = "step" ∨ g.pc = "swift"
  lt : ∀ i, g.lt = some i → i ≤ 3
def Gm.fly (g : Gm) : Bool := g.tr == "fly"
def beatG (c : Nat) (b : Int) : Nat := (b % (c : Int)).toNat
/-! to which posts one may go -/
/-- each tie goes both ways, at each beat -/
def PlainT (c : Nat) (ts : List Tie) : Prop := ∀ t ∈ ts, t.w = "two" ∧ t.at_ = (List.range c).map fun i : Nat => (i : Int)
/-! the specs -/
def wf_law_way_ties : Wf := fun _ ds Q => ∃ (l : List Int) (at_ : Nat) (names : List Str) (c : Nat) (kind : Int), ds = [iL l, .int at_, sL names, .int c, .int kind] ∧ (∀ x ∈ l, 0 ≤ x ∧ x < 1000) ∧ at_ + 28 < l.length ∧ NamesOk names ∧ 1 ≤ c ∧ c ≤ 4 ∧ ∀ ts, TiesOk names c ts → (kind = 0 → PlainT c ts) → Q true (tsL ts)
end Tw.S

namespace Tw.S
open PySem PySem.Spec L2 PyProof.Rows Tw
theorem mo_wf_law_way_ties : MoF wf_law_way_ties := fun xc ds Q Q' i ⟨v0, v1, v2, v3, v4, c0, c1, c2, c3, c4, c5, q⟩ => ⟨v0, v1, v2, v3, v4, c0, c1, c2, c3, c4, c5, (fun x1 => (fun x2 => (fun x3 => i _ _ ((((q x1) x2) x3)))))⟩
theorem hn_wf_law_way_ties : ∀ ds xc Q, wf_law_way_ties xc ds Q → ds.length = 5 := fun ds xc Q ⟨v0, v1, v2, v3, v4, c0, c1, c2, c3, c4, c5, q⟩ => by rw [c0]; rfl
end Tw.S

namespace Tw.S
/-! foldings: whichever way one folds to the end, equally many places are left -/
def Near (R : Nat → Nat → Bool) (x y : Nat) : Prop := x = y ∨ R x y = true
/-- in what is left, v covers u -/
def Cov (R : Nat → Nat → Bool) (L : List Nat) (u v : Nat) : Prop := u ≠ v ∧ u ∈ L ∧ v ∈ L ∧ ∀ p ∈ L, Near R u p → Near R v p
def less (L : List Nat) (u : Nat) : List Nat := L.filter fun x => decide (x ≠ u)
inductive FoldTo (R : Nat → Nat → Bool) : List Nat → List (Nat × Nat) → List Nat → Prop
  | nil {L : List Nat} : FoldTo R L [] L
  | cons {L A : List Nat} {u v : Nat} {fs : List (Nat × Nat)} : Cov R L u v → FoldTo R (less L u) fs A → FoldTo R L ((u, v) :: fs) A
def Stiff (R : Nat → Nat → Bool) (A : List Nat) : Prop := ∀ u v, ¬ Cov R A u v
theorem mem_less {L : List Nat} {u x : Nat} : x ∈ less L u ↔ x ∈ L ∧ x ≠ u := by
  unfold less
  rw [List.mem_filter, decide_eq_true_eq]
theorem less_nd {L : List Nat} {u : Nat} (h : L.Nodup) : (less L u).Nodup := h.filter _
theorem fold_sub {R : Nat → Nat → Bool} {L A : List Nat} {fs : List (Nat × Nat)} (h : FoldTo R L fs A) : ∀ x ∈ A, x ∈ L := by
  induction h with
  | nil => exact fun x hx => hx
  | cons c f ih => exact fun x hx => (mem_less.mp (ih x hx)).1
theorem fold_nd {R : Nat → Nat → Bool} {L A : List Nat} {fs : List (Nat × Nat)} (h : FoldTo R L fs A) (nd : L.Nodup) : A.Nodup := by
  induction h with
  | nil => exact nd
  | cons c f ih => exact ih (less_nd nd)
section
variable {R : Nat → Nat → Bool}
theorem near_symm (sy : ∀ x y, R x y = R y x) {x y : Nat} (h : Near R x y) : Near R y x := by
  rcases h with h | h
  · exact .inl h.symm
  · exact .inr (by rw [sy]; exact h)
/-- one fold keeps nearness -/
theorem step_near (sy : ∀ x y, R x y = R y x) {L : List Nat} {u v : Nat} (c : Cov R L u v) {x y : Nat} (hx : x ∈ L) (hy : y ∈ L) (h : Near R x y) : Near R (if x = u then v else x) (if y = u then v else y) := by
  by_cases ex : x = u
  · by_cases ey : y = u
    · rw [if_pos ex, if_pos ey]; exact .inl rfl
    · rw [if_pos ex, if_neg ey]
      exact c.2.2.2 y hy (ex ▸ h)
  · by_cases ey : y = u
    · rw [if_neg ex, if_pos ey]
      exact near_symm sy (c.2.2.2 x hx (near_symm sy (ey ▸ h)))
    · rw [if_neg ex, if_neg ey]; exact h
/-- a folding brings each place to one that is left -/
theorem retract (sy : ∀ x y, R x y = R y x) {L A : List Nat} {fs : List (Nat × Nat)} (h : FoldTo R L fs A) : ∃ f : Nat → Nat, (∀ x ∈ L, f x ∈ A) ∧ (∀ x ∈ A, f x = x) ∧ ∀ x ∈ L, ∀ y ∈ L, Near R x y → Near R (f x) (f y) := by
  induction h with
  | nil => exact ⟨id, fun x hx => hx, fun x _ => rfl, fun x _ y _ h => h⟩
  | @cons L A u v fs c fo ih =>
    obtain ⟨f, f1, f2, f3⟩ := ih
    have st : ∀ x ∈ L, (if x = u then v else x) ∈ less L u := fun x hx => by
      by_cases e : x = u
      · rw [if_pos e]; exact mem_less.mpr ⟨c.2.2.1, fun z => c.1 z.symm⟩
      · rw [if_neg e]; exact mem_less.mpr ⟨hx, e⟩
    refine ⟨fun x => f (if x = u then v else x), fun x hx => f1 _ (st x hx), fun x hx => ?_, fun x hx y hy h => f3 _ (st x hx) _ (st y hy) (step_near sy c hx hy h)⟩
    have := (mem_less.mp (fold_sub fo x hx)).2
    show f (if x = u then v else x) = x
    rw [if_neg this]
    exact f2 x hx
/-- the other folding moves no place of a stiff rest for the first one's eyes -/
theorem other_way (sy : ∀ x y, R x y = R y x) {V A : List Nat} {f : Nat → Nat} (hA : ∀ x ∈ A, x ∈ V) (st : Stiff R A) (f1 : ∀ x ∈ V, f x ∈ A) (f3 : ∀ x ∈ V, ∀ y ∈ V, Near R x y → Near R (f x) (f y)) {M B : List Nat} {fs : List (Nat × Nat)} (h : FoldTo R M fs B) :
    (∀ x ∈ M, x ∈ V) → ∀ g : Nat → Nat, (∀ x ∈ V, g x ∈ M) → (∀ x ∈ V, ∀ y ∈ V, Near R x y → Near R (g x) (g y)) → (∀ x ∈ A, f (g x) = x) → ∃ g' : Nat → Nat, (∀ x ∈ A, g' x ∈ B) ∧ ∀ x ∈ A, f (g' x) = x := by
  induction h with
  | nil => exact fun hM g g1 g2 g3 => ⟨g, fun x hx => g1 x (hA x hx), g3⟩
  | @cons M B u v fs c fo ih =>
    intro hM g g1 g2 g3
    refine ih (fun x hx => hM x (mem_less.mp hx).1) (fun x => if g x = u then v else g x) (fun x hx => ?_) (fun x hx y hy h => step_near sy c (g1 x hx) (g1 y hy) (g2 x hx y hy h)) fun x hx => ?_
    · show (if g x = u then v else g x) ∈ less M u
      by_cases e : g x = u
      · rw [if_pos e]; exact mem_less.mpr ⟨c.2.2.1, fun z => c.1 z.symm⟩
      · rw [if_neg e]; exact mem_less.mpr ⟨g1 x hx, e⟩
    · show f (if g x = u then v else g x) = x
      by_cases e : g x = u
      · rw [if_pos e]
        have hv : v ∈ V := hM v c.2.2.1
        by_cases ef : f v = x
        · exact ef
        · refine absurd ⟨fun z => ef z.symm, hx, f1 v hv, fun y hy hn => ?_⟩ (st x (f v))
          have h1 := g2 x (hA x hx) y (hA y hy) hn
          rw [e] at h1
          have h2 := c.2.2.2 (g y) (g1 y (hA y hy)) h1
          have h3 := f3 v hv (g y) (hM _ (g1 y (hA y hy))) h2
          rw [g3 y hy] at h3
          exact h3
      · rw [if_neg e]; exact g3 x hx
theorem as_many_le (sy : ∀ x y, R x y = R y x) {V A B : List Nat} {fs gs : List (Nat × Nat)} (nd : V.Nodup) (hf : FoldTo R V fs A) (st : Stiff R A) (hg : FoldTo R V gs B) : A.length ≤ B.length := by
  obtain ⟨f, f1, f2, f3⟩ := retract sy hf
  obtain ⟨g, g1, g2⟩ := other_way sy (fold_sub hf) st f1 f3 hg (fun x hx => hx) id (fun x hx => hx) (fun x _ y _ h => h) f2
  have ndm : (A.map g).Nodup := by
    have nA := fold_nd hf nd
    have inj : ∀ x ∈ A, ∀ y ∈ A, g x = g y → x = y := fun x hx y hy e => by rw [← g2 x hx, ← g2 y hy, e]
    clear f1 f2 f3 g1 hf st hg
    induction A with
    | nil => exact List.nodup_nil
    | cons a A ih =>
      rw [List.nodup_cons] at nA
      rw [List.map_cons, List.nodup_cons]
      refine ⟨fun z => ?_, ih (fun x hx => g2 x (by simp [hx])) nA.2 fun x hx y hy e => inj x (by simp [hx]) y (by simp [hy]) e⟩
      obtain ⟨y, hy, e⟩ := List.mem_map.mp z
      have := inj y (by simp [hy]) a (by simp) e
      exact nA.1 (this ▸ hy)
  have := List.Nodup.length_le_of_subset ndm fun z hz => by
    obtain ⟨x, hx, rfl⟩ := List.mem_map.mp hz
    exact g1 x hx
  rwa [List.length_map] at this
/-- whichever way one folds to the end, equally many places are left -/
theorem as_many (sy : ∀ x y, R x y = R y x) {V A B : List Nat} {fs gs : List (Nat × Nat)} (nd : V.Nodup) (hf : FoldTo R V fs A) (sf : Stiff R A) (hg : FoldTo R V gs B) (sg : Stiff R B) : A.length = B.length :=
  Nat.le_antisymm (as_many_le sy nd hf sf hg) (as_many_le sy nd hg sg hf)
/-- the same web under other numbers -/
theorem fold_map {R' : Nat → Nat → Bool} {s : Nat → Nat} {L A : List Nat} {fs : List (Nat × Nat)} (h : FoldTo R' L fs A) (inj : ∀ x ∈ L, ∀ y ∈ L, s x = s y → x = y) (hr : ∀ x ∈ L, ∀ y ∈ L, R' x y = R (s x) (s y)) : FoldTo R (L.map s) (fs.map fun q => (s q.1, s q.2)) (A.map s) := by
  induction h with
  | nil => exact .nil
  | @cons L A u v fs c fo ih =>
    have sub : ∀ x ∈ less L u, x ∈ L := fun x hx => (mem_less.mp hx).1
    have nr : ∀ x ∈ L, ∀ y ∈ L, (Near R (s x) (s y) ↔ Near R' x y) := fun x hx y hy => by
      unfold Near
      rw [← hr x hx y hy]
      constructor
      · rintro (h | h)
        · exact .inl (inj x hx y hy h)
        · exact .inr h
      · rintro (h | h)
        · exact .inl (by rw [h])
        · exact .inr h
    have el : less (L.map s) (s u) = (less L u).map s := by
      unfold less
      rw [List.filter_map]
      congr 1
      refine List.filter_congr fun x hx => ?_
      show decide (s x ≠ s u) = decide (x ≠ u)
      rw [decide_eq_decide]
      exact ⟨fun h e => h (by rw [e]), fun h e => h (inj x hx u c.2.1 e)⟩
    refine .cons ⟨fun e => c.1 (inj u c.2.1 v c.2.2.1 e), List.mem_map_of_mem c.2.1, List.mem_map_of_mem c.2.2.1, fun p hp hn => ?_⟩ (el ▸ ih (fun x hx y hy => inj x (sub x hx) y (sub y hy)) fun x hx y hy => hr x (sub x hx) y (sub y hy))
    obtain ⟨q, hq, rfl⟩ := List.mem_map.mp hp
    exact (nr v c.2.2.1 q hq).mpr (c.2.2.2 q hq ((nr u c.2.1 q hq).mp hn))
theorem stiff_map {R' : Nat → Nat → Bool} {s : Nat → Nat} {A : List Nat} (h : Stiff R' A) (inj : ∀ x ∈ A, ∀ y ∈ A, s x = s y → x = y) (hr : ∀ x ∈ A, ∀ y ∈ A, R' x y = R (s x) (s y)) : Stiff R (A.map s) := by
  intro u v c
  obtain ⟨x, hx, rfl⟩ := List.mem_map.mp c.2.1
  obtain ⟨y, hy, rfl⟩ := List.mem_map.mp c.2.2.1
  have nr : ∀ x ∈ A, ∀ y ∈ A, (Near R (s x) (s y) ↔ Near R' x y) := fun x hx y hy => by
    unfold Near
    rw [← hr x hx y hy]
    constructor
    · rintro (h | h)
      · exact .inl (inj x hx y hy h)
      · exact .inr h
    · rintro (h | h)
      · exact .inl (by rw [h])
      · exact .inr h
  exact h x y ⟨fun e => c.1 (by rw [e]), hx, hy, fun p hp hn => (nr y hy p hp).mp (c.2.2.2 (s p) (List.mem_map_of_mem hp) ((nr x hx p hp).mpr hn))⟩
end
def covB (n : Nat) (R : Nat → Nat → Bool) (L : List Nat) (u v : Nat) : Bool := u != v && L.contains u && L.contains v && L.all fun p => !(p == u || R u p) || (p == v || R v p)
def possF (n : Nat) (R : Nat → Nat → Bool) (L : List Nat) : List (Nat × Nat) := L.flatMap fun u => (L.filter fun v => covB n R L u v).map fun v => (u, v)
def greedy (n : Nat) (R : Nat → Nat → Bool) : Nat → List Nat → List (Nat × Nat) × List Nat
  | 0, L => ([], L)
  | k + 1, L => match (possF n R L).head? with
    | none => ([], L)
    | some q => (q :: (greedy n R k (less L q.1)).1, (greedy n R k (less L q.1)).2)
def shadowF (fs : List (Nat × Nat)) (x : Nat) : Nat := fs.foldl (fun x q => if x = q.1 then q.2 else x) x
theorem covB_iff {n : Nat} {R : Nat → Nat → Bool} {L : List Nat} {u v : Nat} : covB n R L u v = true ↔ Cov R L u v := by
  unfold covB Cov Near
  simp only [Bool.and_eq_true, bne_iff_ne, List.contains_iff_mem, List.all_eq_true, Bool.or_eq_true, Bool.not_eq_true', Bool.or_eq_false_iff, beq_iff_eq, beq_eq_false_iff_ne]
  constructor
  · rintro ⟨⟨⟨h1, h2⟩, h3⟩, h4⟩
    refine ⟨h1, h2, h3, fun p hp hn => ?_⟩
    rcases h4 p hp with ⟨a, b⟩ | h
    · rcases hn with hn | hn
      · exact absurd hn.symm a
      · rw [hn] at b; cases b
    · rcases h with h | h
      · exact .inl h.symm
      · exact .inr h
  · rintro ⟨h1, h2, h3, h4⟩
    refine ⟨⟨⟨h1, h2⟩, h3⟩, fun p hp => ?_⟩
    by_cases hn : p = u ∨ R u p = true
    · rcases h4 p hp (hn.imp (fun h => h.symm) id) with h | h
      · exact .inr (.inl h.symm)
      · exact .inr (.inr h)
    · refine .inl ⟨fun z => hn (.inl z), ?_⟩
      cases e : R u p with
      | false => rfl
      | true => exact absurd (.inr e) hn
theorem mem_poss {n : Nat} {R : Nat → Nat → Bool} {L : List Nat} {q : Nat × Nat} : q ∈ possF n R L ↔ Cov R L q.1 q.2 := by
  unfold possF
  rw [List.mem_flatMap]
  constructor
  · rintro ⟨u, hu, h⟩
    obtain ⟨v, hv, rfl⟩ := List.mem_map.mp h
    exact covB_iff.mp (List.mem_filter.mp hv).2
  · intro c
    exact ⟨q.1, c.2.1, List.mem_map.mpr ⟨q.2, List.mem_filter.mpr ⟨c.2.2.1, covB_iff.mpr c⟩, rfl⟩⟩
theorem poss_nil {n : Nat} {R : Nat → Nat → Bool} {L : List Nat} : possF n R L = [] ↔ Stiff R L := by
  constructor
  · intro h u v c
    have : (u, v) ∈ possF n R L := mem_poss.mpr c
    rw [h] at this
    cases this
  · intro h
    cases e : possF n R L with
    | nil => rfl
    | cons q r => exact absurd (mem_poss.mp (by rw [e]; simp)) (h q.1 q.2)
theorem less_len {L : List Nat} {u : Nat} (nd : L.Nodup) (h : u ∈ L) : (less L u).length + 1 = L.length := by
  induction L with
  | nil => cases h
  | cons a L ih =>
    rw [List.nodup_cons] at nd
    unfold less at ih ⊢
    by_cases e : a = u
    · subst e
      have e2 : L.filter (fun x => decide (x ≠ a)) = L := List.filter_eq_self.mpr fun x hx => decide_eq_true fun z => nd.1 (z ▸ hx)
      rw [List.filter_cons_of_neg (by simp), e2]
      rfl
    · rw [List.filter_cons_of_pos (by simpa using e)]
      have := ih nd.2 (by rcases List.mem_cons.mp h with z | z; exact absurd z.symm e; exact z)
      simp only [List.length_cons]
      omega
theorem stiff_nil {R : Nat → Nat → Bool} : Stiff R [] := fun u v c => by cases c.2.1
/-- the least folds, one after another -/
theorem greedy_ok {n : Nat} {R : Nat → Nat → Bool} : ∀ (k : Nat) (L : List Nat), L.Nodup → L.length ≤ k → FoldTo R L (greedy n R k L).1 (greedy n R k L).2 ∧ Stiff R (greedy n R k L).2
  | 0, L, nd, h => by
    have : L = [] := List.length_eq_zero_iff.mp (by omega)
    subst this
    exact ⟨.nil, stiff_nil⟩
  | k + 1, L, nd, h => by
    unfold greedy
    cases e : (possF n R L).head? with
    | none =>
      have := List.head?_eq_none_iff.mp e
      exact ⟨.nil, poss_nil.mp this⟩
    | some q =>
      have hq := mem_poss.mp (List.mem_of_mem_head? e)
      have hl := less_len nd hq.2.1
      obtain ⟨f, s⟩ := greedy_ok k (less L q.1) (less_nd nd) (by omega)
      exact ⟨.cons hq f, s⟩
theorem fold_len {R : Nat → Nat → Bool} {L A : List Nat} {fs : List (Nat × Nat)} (h : FoldTo R L fs A) (nd : L.Nodup) : fs.length + A.length = L.length := by
  induction h with
  | nil => simp
  | cons c f ih =>
    have := less_len nd c.2.1
    have := ih (less_nd nd)
    simp only [List.length_cons]
    omega
theorem fold_app {R : Nat → Nat → Bool} {L A B : List Nat} {fs gs : List (Nat × Nat)} (h : FoldTo R L fs A) (h2 : FoldTo R A gs B) : FoldTo R L (fs ++ gs) B := by
  induction h with
  | nil => exact h2
  | cons c f ih => exact .cons c (ih h2)
/-- a folding cut short -/
theorem fold_take {R : Nat → Nat → Bool} {L A : List Nat} {fs : List (Nat × Nat)} (h : FoldTo R L fs A) : ∀ k, k < fs.length → ∃ B, FoldTo R L (fs.take k) B ∧ ¬ Stiff R B := by
  induction h with
  | nil => intro k hk; simp at hk
  | @cons L A u v fs c f ih =>
    intro k hk
    cases k with
    | zero => exact ⟨L, .nil, fun st => st u v c⟩
    | succ k =>
      obtain ⟨B, h1, h2⟩ := ih k (by simpa using hk)
      exact ⟨B, .cons c h1, h2⟩
theorem shadow_in {R : Nat → Nat → Bool} {L A : List Nat} {fs : List (Nat × Nat)} (h : FoldTo R L fs A) : ∀ x ∈ L, shadowF fs x ∈ A := by
  induction h with
  | nil => exact fun x hx => hx
  | @cons L A u v fs c f ih =>
    intro x hx
    unfold shadowF
    rw [List.foldl_cons]
    refine ih _ ?_
    by_cases e : x = u
    · rw [if_pos e]; exact mem_less.mpr ⟨c.2.2.1, fun z => c.1 z.symm⟩
    · rw [if_neg e]; exact mem_less.mpr ⟨hx, e⟩
/-- the folds stand in order -/
theorem poss_pair {n : Nat} {R : Nat → Nat → Bool} {L : List Nat} (h : L.Pairwise (· < ·)) : (possF n R L).Pairwise fun p q => p.1 < q.1 ∨ p.1 = q.1 ∧ p.2 < q.2 := by
  unfold possF
  rw [List.pairwise_flatMap]
  refine ⟨fun u hu => ?_, h.imp fun {a b} hab => ?_⟩
  · rw [List.pairwise_map]
    exact (h.filter _).imp fun h => .inr ⟨rfl, h⟩
  · intro x hx y hy
    obtain ⟨v, _, rfl⟩ := List.mem_map.mp hx
    obtain ⟨w, _, rfl⟩ := List.mem_map.mp hy
    exact .inl hab
def pairI (q : Nat × Nat) : List Int := [(q.1 : Int), q.2]
theorem pairI_le {p q : Nat × Nat} (h : p.1 < q.1 ∨ p.1 = q.1 ∧ p.2 < q.2) : pairI p ≤ pairI q := by
  unfold pairI
  rw [List.cons_le_cons_iff]
  rcases h with h | ⟨h1, h2⟩
  · exact .inl (by omega)
  · refine .inr ⟨by rw [h1], ?_⟩
    rw [List.cons_le_cons_iff]
    exact .inl (by omega)
theorem poss_head {n : Nat} {R : Nat → Nat → Bool} {L : List Nat} (h : L.Pairwise (· < ·)) {q : Nat × Nat} (e : (possF n R L).head? = some q) : ∀ b ∈ (possF n R L).map pairI, (∀ c ∈ (possF n R L).map pairI, b ≤ c) → b = pairI q := by
  have hp := poss_pair (n := n) (R := R) h
  cases el : possF n R L with
  | nil => rw [el] at e; cases e
  | cons r rs =>
    rw [el] at e hp
    have : r = q := by simpa using e
    subst this
    intro b hb hm
    have h1 := hm (pairI r) (by simp)
    rw [List.map_cons] at hb
    rcases List.mem_cons.mp hb with hb | hb
    · exact hb
    · obtain ⟨c, hc, rfl⟩ := List.mem_map.mp hb
      have := pairI_le ((List.pairwise_cons.mp hp).1 c hc)
      exact List.le_antisymm h1 this
theorem less_asc {L : List Nat} {u : Nat} (h : L.Pairwise (· < ·)) : (less L u).Pairwise (· < ·) := h.filter _
def leftAfter (L : List Nat) (fs : List (Nat × Nat)) : List Nat := fs.foldl (fun L q => less L q.1) L
theorem fold_split {R : Nat → Nat → Bool} {A : List Nat} {gs : List (Nat × Nat)} : ∀ {fs : List (Nat × Nat)} {L : List Nat}, FoldTo R L (fs ++ gs) A → FoldTo R L fs (leftAfter L fs) ∧ FoldTo R (leftAfter L fs) gs A
  | [], L, h => ⟨.nil, h⟩
  | (u, v) :: fs, L, h => by
    cases h with
    | cons c f =>
      obtain ⟨a, b⟩ := fold_split f
      exact ⟨.cons c a, b⟩
theorem fold_left {R : Nat → Nat → Bool} {L A : List Nat} {fs : List (Nat × Nat)} (h : FoldTo R L fs A) : A = leftAfter L fs := by
  induction h with
  | nil => rfl
  | cons c f ih => exact ih
theorem fold_cov {R : Nat → Nat → Bool} {L A : List Nat} {u v : Nat} {gs : List (Nat × Nat)} (h : FoldTo R L ((u, v) :: gs) A) : Cov R L u v := by
  cases h with
  | cons c f => exact c
theorem greedy_none {n : Nat} {R : Nat → Nat → Bool} {L : List Nat} (k : Nat) (h : (possF n R L).head? = none) : greedy n R k L = ([], L) := by
  cases k with
  | zero => rfl
  | succ k => unfold greedy; rw [h]
theorem greedy_some {n : Nat} {R : Nat → Nat → Bool} {L : List Nat} {k : Nat} {q : Nat × Nat} (h : (possF n R L).head? = some q) : greedy n R (k + 1) L = (q :: (greedy n R k (less L q.1)).1, (greedy n R k (less L q.1)).2) := by
  conv => lhs; unfold greedy
  rw [h]
end Tw.S

/-! Tw, part W9: len(set(xs)) of ints. -/
namespace Tw
open PySem PySem.Spec L2 PyProof.Rows
section
variable {X : Cx} {K : PySem.W.Frag} {E : XK} {a : Expr} {w : Wx} {k : Kd} {pos p : Pos}
end
end Tw

/-! Tw, part T27: a pair whose second is a call that may raise, in a try. -/
namespace Tw
open PySem PySem.Spec L2 PyProof.Rows
section
variable {X : Cx} {e0 e : Expr} {w0 w : Wx} {x1 : Nat} {pos : Pos}
end
end Tw

/-! Tw, part T28: sorted(set(x)) of a list or a tuple of ints with fewer than 64 different ones. -/
namespace Tw
open PySem PySem.Spec L2 PyProof.Rows
section
variable {X : Cx} {E : XK} {a : Expr} {w : Wx} {k : Kd} {pos p : Pos}
end
end Tw

/-! Tw, part T29: x if c else y of two new lists. -/
namespace Tw
open PySem PySem.Spec L2 PyProof.Rows
section
variable {X : Cx} {E : XK} {a b c : Expr} {wa wb : Wx} {ta : Wt} {pos : Pos}
end
end Tw

/-! Tw, part T30: min of a list of tuples of ints. -/
namespace Tw
open PySem PySem.Spec L2 PyProof.Rows
open PySem.W (EachIs dataLt minD)
theorem encT_lt (p q : List Int) : PySem.W.dataLt (encT q) (encT p) = decide (q < p) := by
  have h := congrFun (congrFun encT_le p) q
  have h2 : (!PySem.W.dataLt (encT q) (encT p)) = decide (p ≤ q) := h
  have h3 : PySem.W.dataLt (encT q) (encT p) = !decide (p ≤ q) := by rw [← h2, Bool.not_not]
  rw [h3]
  by_cases e : p ≤ q
  · rw [decide_eq_true e, decide_eq_false (List.not_lt.mpr e)]; rfl
  · rw [decide_eq_false e, decide_eq_true (List.not_le.mp e)]; rfl
def minL (b : List Int) (bs : List (List Int)) : List Int := bs.foldl (fun a y => if y < a then y else a) b
theorem minD_encT (b : List Int) : ∀ (bs : List (List Int)), PySem.W.minD (encT b) (bs.map encT) = encT (minL b bs) := by
  intro bs
  unfold PySem.W.minD minL
  induction bs generalizing b with
  | nil => rfl
  | cons c bs ih =>
    rw [List.map_cons, List.foldl_cons, List.foldl_cons, encT_lt]
    by_cases e : c < b
    · rw [decide_eq_true e, if_pos rfl, if_pos e]; exact ih c
    · rw [decide_eq_false e, if_neg Bool.false_ne_true, if_neg e]; exact ih b
theorem minL_le (b : List Int) (bs : List (List Int)) : minL b bs ≤ b ∧ ∀ x ∈ bs, minL b bs ≤ x := by
  unfold minL
  induction bs generalizing b with
  | nil => exact ⟨List.le_refl _, fun x hx => by cases hx⟩
  | cons c bs ih =>
    rw [List.foldl_cons]
    by_cases e : c < b
    · rw [if_pos e]
      obtain ⟨h1, h2⟩ := ih c
      exact ⟨List.le_trans h1 (List.le_of_lt e), fun x hx => by
        rcases List.mem_cons.mp hx with rfl | hx
        · exact h1
        · exact h2 x hx⟩
    · rw [if_neg e]
      obtain ⟨h1, h2⟩ := ih b
      exact ⟨h1, fun x hx => by
        rcases List.mem_cons.mp hx with rfl | hx
        · exact List.le_trans h1 (List.not_lt.mp e)
        · exact h2 x hx⟩
theorem encT_inj {a b : List Int} (h : encT a = encT b) : a = b := by
  unfold encT at h
  have h2 : a.map PyData.int = b.map PyData.int := by injection h
  clear h
  induction a generalizing b with
  | nil => cases b with
    | nil => rfl
    | cons y b => cases h2
  | cons x a ih => cases b with
    | nil => cases h2
    | cons y b =>
      rw [List.map_cons, List.map_cons] at h2
      injection h2 with h3 h4
      injection h3 with h5
      rw [h5, ih h4]
theorem each_at {α β : Type} {R : α → β → Prop} {us : List α} {bs : List β} (e : EachIs R us bs) : ∀ {i : Nat} {u : α}, us[i]? = some u → ∃ b, b ∈ bs ∧ R u b := by
  induction e with
  | nil => intro i u h; simp at h
  | cons h t ih =>
    intro i u hi
    cases i with
    | zero => simp at hi; subst hi; exact ⟨_, by simp, h⟩
    | succ i =>
      obtain ⟨b, hb, r⟩ := ih (i := i) (by simpa using hi)
      exact ⟨b, by simp [hb], r⟩
theorem reads_all {h : Heap} {us : List Value} {bs : List (List Int)} (e : EachIs (fun u b => ∃ as, Reads h u (encT b) as) us bs) : ∃ as, ReadsAll h us (bs.map encT) as := by
  induction e with
  | nil => exact ⟨[], .nil⟩
  | cons r t ih =>
    obtain ⟨as, r⟩ := r
    obtain ⟨bs, ih⟩ := ih
    exact ⟨_, .cons r ih⟩
theorem depth_encT (bs : List (List Int)) : PyData.depthAll (bs.map encT) ≤ 2 := by
  induction bs with
  | nil => simp [PyData.depthAll]
  | cons b bs ih =>
    rw [List.map_cons, PyData.depthAll, encT_depth]
    omega
section
variable {X : Cx} {K : PySem.W.Frag} {E : XK} {a : Expr} {w : Wx} {k : Kd} {pos p : Pos}
def rMinT (K : PySem.W.Frag) : List V → Hp → VK → Prop := fun xs H Q => ∃ (l : Addr) (vs : List V) (bs : List (List Int)) (R : V → List Int → Prop), xs = [.ref l] ∧ SqL K H l vs ∧ PySem.W.EachIs R vs bs ∧ (∀ v b, R v b → Dp K H v (encT b)) ∧ bs ≠ [] ∧
  ∀ v b, R v b → b ∈ bs → (∀ b' ∈ bs, b ≤ b') → Q v H
theorem cr_minT (hc : X.calm = true) (hu : X.A.units + 65 < cLine) : CallR X (.builtin "min") (rMinT X.K) := by
  intro pins s σ H xs us Q I r h
  obtain ⟨a, vs, bs, R, rfl, hs, e, hd, hne, q⟩ := h
  obtain ⟨its, rv, hl, hz⟩ := I.list hs
  rw [Vals.ref1 r]
  have e1 := each_vals e rv
  have er : EachIs (fun u b => ∃ as, Reads s.heap u (encT b) as) its bs := e1.mono fun u b ⟨v, r1, r2⟩ => Dp.reads I _ v u (hd v b r2) r1
  obtain ⟨as, ra⟩ := reads_all er
  cases bs with
  | nil => exact absurd rfl hne
  | cons b0 bs =>
    refine PySem.W.min_list_data (x := encT b0) (xs := bs.map encT) (as := as) (I.ok.hd hc) hl.isList (by simpa using ra) ⟨fun x hx y hy => encT_alike (b0 :: bs) x (by simpa using hx) y (by simpa using hy), fun x hx => ?_⟩ (by have := depth_encT (b0 :: bs); rw [List.map_cons] at this; omega) fun i v h' tk ds hv hr kp => ?_
    · rcases List.mem_cons.mp hx with rfl | hx
      · intro z; cases z
      · obtain ⟨b, _, rfl⟩ := List.mem_map.mp hx
        intro z; cases z
    · obtain ⟨b, hb, x, rx, rb⟩ := each_at e1 (i := i) (by simpa using hv)
      obtain ⟨as2, r2⟩ := Dp.reads I _ x v (hd x b rb) rx
      have r3 := PyProof.Rows.Reads.keeps kp r2
      have eb : encT b = PySem.W.minD (encT b0) (bs.map encT) := (PySem.Reads.unique r3 _ _ hr).1
      rw [minD_encT] at eb
      have eb2 := encT_inj eb
      have hm := minL_le b0 bs
      refine ⟨x, H, I.kept (t' := tk) kp, rx, q x b rb hb fun b' hb' => ?_⟩
      rw [eb2]
      rcases List.mem_cons.mp hb' with rfl | hb'
      · exact hm.1
      · exact hm.2 b' hb'
/-- min(x), x a list of tuples of ints -/
def oMinT : OpN := fun ds Q => ∃ bs : List (List Int), ds = [.lst (bs.map tI)] ∧ bs ≠ [] ∧ ∀ b, b ∈ bs → (∀ b' ∈ bs, b ≤ b') → Q (tI b)
theorem brg_minT : BrgN K .e oMinT (rMinT K) := by
  refine ⟨fun ds G H vs Q Q2 g r ⟨bs, ed, hne, q⟩ kk => ?_, fun ds Q Q' i ⟨ns, ed, hne, q⟩ => ⟨ns, ed, hne, fun b h1 h2 => i _ (q b h1 h2)⟩⟩
  subst ed
  obtain ⟨v, rfl, rv⟩ := rvOs_1 r
  obtain ⟨pp, vs, rfl, h1, r1⟩ := rvO_lst g rv
  refine ⟨pp, vs, bs, fun v b => Rp K G (tI b) v, rfl, SqL.of h1, rps_tI r1, fun v b h => ?_, hne, fun v b hr hb hm => ?_⟩
  · rw [← py_tI]; exact (h.mono g).dp (isP_tI b)
  · exact kk _ (q b hb hm) _ _ _ (.refl g) hr
theorem ej_minT (hc : X.calm = true) (hu : X.A.units + 65 < cLine) (hg : Gl X "min") (hm : X.mg "min" = none) (ha : EJ k E X a w) (hst : starEach [a] X.env = (false, eval a X.env) :: starEach [] X.env := by rfl) : EJ .e E X (.Call (.Name "min" p) [a] [] pos) (wN oMinT (waCons w waNil)) :=
  let h := aj_consO ha (aj_nil (kk := false)) hst
  ej_N h (pe_callB (cr_minT hc hu) hg hm (by decide +kernel) h.pa (by decide) (by decide) hst rfl) brg_minT
end
end Tw

/-! what the defs of k33 keep -/
namespace Tw.S
open PySem PySem.Spec L2 PyProof.Rows Tw
def natI (l : List Nat) : List Int := l.map fun x : Nat => (x : Int)
def fsI (fs : List (Nat × Nat)) : List (List Int) := fs.map pairI
/-- a web that is plain -/
structure Pw where
  names : List Str
  c : Nat
  L : Psg
def Pw.n (w : Pw) : Nat := w.names.length
def Pw.d (CW : Addr) (w : Pw) : D := webP CW w.names w.c w.L
def Pw.R (w : Pw) : Nat → Nat → Bool := fun u v => decide (u < w.n) && decide (v < w.n) && w.L 0 u v
def Pw.V (w : Pw) : List Nat := List.range w.n
structure Pw.Ok (w : Pw) : Prop where
  nm : NamesOk w.names
  lo : 1 ≤ w.c
  hi : w.c ≤ 4
  ir : Irr w.L
  pl : plainB w.names.length w.c w.L = true
def foldF (CW : Addr) (w : Pw) (fs : List (Nat × Nat)) (A : List Nat) : List (Str × D) := [("web", w.d CW), ("folds", t2 (fsI fs)), ("left", tI (natI A))]
def foldD (CF CW : Addr) (w : Pw) (fs : List (Nat × Nat)) (A : List Nat) : D := .obj CF (foldF CW w fs A)
def lfD : Option (Nat × Nat) → D
  | none => .non
  | some q => tI (pairI q)
def rowsR (n : Nat) (R : Nat → Nat → Bool) : D := l2 ((List.range n).map fun u => rowF n (R u))
def Pw.gr (w : Pw) : List (Nat × Nat) × List Nat := greedy w.n w.R w.n w.V
def wf_check_plain (CW CN : Addr) : Wf := fun xc ds Q => ∃ (names : List Str) (c : Nat) (L : Psg), ds = [webP CW names c L] ∧ NamesOk names ∧ 1 ≤ c ∧ c ≤ 4 ∧ (plainB names.length c L = false → xc CN []) ∧ (plainB names.length c L = true → Q false .non)
def wf_is_covered (CW : Addr) : Wf := fun _ ds Q => ∃ (w : Pw) (A : List Nat) (u v : Nat), ds = [w.d CW, tI (natI A), .int u, .int v] ∧ w.Ok ∧ (∀ x ∈ A, x < w.n) ∧ A.length ≤ 8 ∧ Q false (.bl (covB w.n w.R A u v))
def wf_without : Wf := fun _ ds Q => ∃ (A : List Nat) (u : Nat), ds = [tI (natI A), .int u] ∧ A.length ≤ 8 ∧ Q false (tI (natI (less A u)))
def wf_least_fold (CW : Addr) : Wf := fun _ ds Q => ∃ (w : Pw) (A : List Nat), ds = [w.d CW, tI (natI A)] ∧ w.Ok ∧ A.Pairwise (· < ·) ∧ (∀ x ∈ A, x < w.n) ∧ A.length ≤ 8 ∧ Q false (lfD (possF w.n w.R A).head?)
def wf_left_by (CW : Addr) : Wf := fun _ ds Q => ∃ (w : Pw) (fs : List (Nat × Nat)) (A : List Nat), ds = [w.d CW, t2 (fsI fs)] ∧ w.Ok ∧ FoldTo w.R w.V fs A ∧ Q false (tI (natI A))
def wi_Folding (CW : Addr) : Wi := fun _ ds Q => ∃ (w : Pw) (fs : List (Nat × Nat)) (A : List Nat), ds = [w.d CW, pL (fsI fs)] ∧ w.Ok ∧ FoldTo w.R w.V fs A ∧ Q (foldF CW w fs A)
def wf_fold_up (CF CW CN : Addr) : Wf := fun xc ds Q => ∃ (w : Pw), ds = [w.d CW] ∧ NamesOk w.names ∧ 1 ≤ w.c ∧ w.c ≤ 4 ∧ Irr w.L ∧ (plainB w.names.length w.c w.L = false → xc CN []) ∧ (plainB w.names.length w.c w.L = true → Q false (foldD CF CW w w.gr.1 w.gr.2))
def wf_Folding_whole (CF : Addr) : Wf := fun _ ds Q => ∃ (CW : Addr) (w : Pw) (fs : List (Nat × Nat)) (A : List Nat), ds = [foldD CF CW w fs A] ∧ Q false (.bl ((A.length : Int) == 1))
def wf_Folding_finished (CF CW : Addr) : Wf := fun _ ds Q => ∃ (w : Pw) (fs : List (Nat × Nat)) (A : List Nat), ds = [foldD CF CW w fs A] ∧ w.Ok ∧ FoldTo w.R w.V fs A ∧ Q false (.bl (possF w.n w.R A).isEmpty)
def wf_Folding_shadow (CF CW : Addr) : Wf := fun _ ds Q => ∃ (w : Pw) (fs : List (Nat × Nat)) (A : List Nat) (x : Nat), ds = [foldD CF CW w fs A, .int fs.length, .int x] ∧ w.Ok ∧ FoldTo w.R w.V fs A ∧ x < w.n ∧ Q false (.int (shadowF fs x : Nat))
def wf_Folding___eq__ (CF CW : Addr) : Wf := fun _ ds Q => ∃ (w : Pw) (fs : List (Nat × Nat)) (A : List Nat), ds = [foldD CF CW w fs A, foldD CF CW w fs A] ∧ w.Ok ∧ FoldTo w.R w.V fs A ∧ Q false (.bl true)
def wf_law_web_of : Wf := fun _ ds Q => ∃ (l : List Int) (g k lg : Nat), ds = [iL l, .int 1, .int g, .int k, .int lg] ∧ (∀ x ∈ l, 0 ≤ x ∧ x < 1000) ∧ l.length = 40 ∧ 1 ≤ g ∧ g ≤ 8 ∧ 1 ≤ k ∧ k ≤ 3 ∧ 1 ≤ lg ∧ lg ≤ 4 ∧ ∀ names ts (c : Nat), NamesOk names → TiesOk names c ts → 1 ≤ c → c ≤ 4 → (k = 1 → PlainT c ts) → Q true (.lst [sL names, tsL ts, .int c, l3 (nextsT names ts c)])
def wf_law_covered : Wf := fun _ ds Q => ∃ (n : Nat) (R : Nat → Nat → Bool) (A : List Nat) (u v : Nat), ds = [rowsR n R, iL (natI A), .int u, .int v] ∧ n ≤ 8 ∧ (∀ x ∈ A, x < n) ∧ A.length ≤ 8 ∧ u ∈ A ∧ v ∈ A ∧ Q false (.bl (covB n R A u v))
def wf_law_possible : Wf := fun _ ds Q => ∃ (n : Nat) (R : Nat → Nat → Bool) (A : List Nat), ds = [rowsR n R, iL (natI A)] ∧ n ≤ 8 ∧ (∀ x ∈ A, x < n) ∧ A.length ≤ 8 ∧ Q true (pL ((possF n R A).map pairI))
def wf_law_finished : Wf := fun _ ds Q => ∃ (n : Nat) (R : Nat → Nat → Bool) (pool : List Int), ds = [rowsR n R, iL pool] ∧ n ≤ 8 ∧ n ≤ pool.length ∧ (∀ x ∈ pool, 0 ≤ x ∧ x < 1000) ∧ ∀ (fs : List (Nat × Nat)) (A : List Nat), FoldTo R (List.range n) fs A → Stiff R A → ((∀ x ∈ pool, x = 0) → (fs, A) = greedy n R n (List.range n)) → Q true (.lst [pL (fsI fs), iL (natI A)])
def wf_law_is_finished (CF CW : Addr) : Wf := fun _ ds Q => ∃ (w : Pw) (fs : List (Nat × Nat)) (A : List Nat), ds = [foldD CF CW w fs A, rowsR w.n w.R, pL (fsI fs), iL (natI A)] ∧ w.Ok ∧ FoldTo w.R w.V fs A ∧ Stiff w.R A ∧ Q false (.bl true)
def wf_law_refused_k33 (CF CW : Addr) : Wf := fun _ ds Q => ∃ (w : Pw), ds = [w.d CW] ∧ NamesOk w.names ∧ 1 ≤ w.c ∧ w.c ≤ 4 ∧ Irr w.L ∧ plainB w.names.length w.c w.L = false ∧ Q false (.bl true)
def gD_K_Folding_2 : List D → List D → List D := fun a b => a ++ b
end Tw.S

namespace Tw.S
open PySem PySem.Spec L2 PyProof.Rows Tw
theorem mo_wf_check_plain {CW : Addr} {CN : Addr} : MoF (wf_check_plain CW CN) := fun xc ds Q Q' i ⟨v0, v1, v2, c0, c1, c2, c3, c4, q⟩ => ⟨v0, v1, v2, c0, c1, c2, c3, c4, (fun x1 => i _ _ ((q x1)))⟩
theorem hn_wf_check_plain {CW : Addr} {CN : Addr} : ∀ ds xc Q, wf_check_plain CW CN xc ds Q → ds.length = 1 := fun ds xc Q ⟨v0, v1, v2, c0, c1, c2, c3, c4, q⟩ => by rw [c0]; rfl
theorem mo_wf_is_covered {CW : Addr} : MoF (wf_is_covered CW) := fun xc ds Q Q' i ⟨v0, v1, v2, v3, c0, c1, c2, c3, q⟩ => ⟨v0, v1, v2, v3, c0, c1, c2, c3, i _ _ q⟩
theorem hn_wf_is_covered {CW : Addr} : ∀ ds xc Q, wf_is_covered CW xc ds Q → ds.length = 4 := fun ds xc Q ⟨v0, v1, v2, v3, c0, c1, c2, c3, q⟩ => by rw [c0]; rfl
theorem mo_wf_without : MoF wf_without := fun xc ds Q Q' i ⟨v0, v1, c0, c1, q⟩ => ⟨v0, v1, c0, c1, i _ _ q⟩
theorem hn_wf_without : ∀ ds xc Q, wf_without xc ds Q → ds.length = 2 := fun ds xc Q ⟨v0, v1, c0, c1, q⟩ => by rw [c0]; rfl
theorem mo_wf_least_fold {CW : Addr} : MoF (wf_least_fold CW) := fun xc ds Q Q' i ⟨v0, v1, c0, c1, c2, c3, c4, q⟩ => ⟨v0, v1, c0, c1, c2, c3, c4, i _ _ q⟩
theorem hn_wf_least_fold {CW : Addr} : ∀ ds xc Q, wf_least_fold CW xc ds Q → ds.length = 2 := fun ds xc Q ⟨v0, v1, c0, c1, c2, c3, c4, q⟩ => by rw [c0]; rfl
theorem mo_wf_left_by {CW : Addr} : MoF (wf_left_by CW) := fun xc ds Q Q' i ⟨v0, v1, v2, c0, c1, c2, q⟩ => ⟨v0, v1, v2, c0, c1, c2, i _ _ q⟩
theorem hn_wf_left_by {CW : Addr} : ∀ ds xc Q, wf_left_by CW xc ds Q → ds.length = 2 := fun ds xc Q ⟨v0, v1, v2, c0, c1, c2, q⟩ => by rw [c0]; rfl
theorem mo_wi_Folding {CW : Addr} : MoI (wi_Folding CW) := fun xc ds Q Q' i ⟨v0, v1, v2, c0, c1, c2, q⟩ => ⟨v0, v1, v2, c0, c1, c2, i _ q⟩
theorem hn_wi_Folding {CW : Addr} : ∀ ds xc Q, wi_Folding CW xc ds Q → ds.length = 2 := fun ds xc Q ⟨v0, v1, v2, c0, c1, c2, q⟩ => by rw [c0]; rfl
theorem mo_wf_fold_up {CF : Addr} {CW : Addr} {CN : Addr} : MoF (wf_fold_up CF CW CN) := fun xc ds Q Q' i ⟨v0, c0, c1, c2, c3, c4, c5, q⟩ => ⟨v0, c0, c1, c2, c3, c4, c5, (fun x1 => i _ _ ((q x1)))⟩
theorem hn_wf_fold_up {CF : Addr} {CW : Addr} {CN : Addr} : ∀ ds xc Q, wf_fold_up CF CW CN xc ds Q → ds.length = 1 := fun ds xc Q ⟨v0, c0, c1, c2, c3, c4, c5, q⟩ => by rw [c0]; rfl
theorem mo_wf_Folding_whole {CF : Addr} : MoF (wf_Folding_whole CF) := fun xc ds Q Q' i ⟨v0, v1, v2, v3, c0, q⟩ => ⟨v0, v1, v2, v3, c0, i _ _ q⟩
theorem hn_wf_Folding_whole {CF : Addr} : ∀ ds xc Q, wf_Folding_whole CF xc ds Q → ds.length = 1 := fun ds xc Q ⟨v0, v1, v2, v3, c0, q⟩ => by rw [c0]; rfl
theorem mo_wf_Folding_finished {CF : Addr} {CW : Addr} : MoF (wf_Folding_finished CF CW) := fun xc ds Q Q' i ⟨v0, v1, v2, c0, c1, c2, q⟩ => ⟨v0, v1, v2, c0, c1, c2, i _ _ q⟩
theorem hn_wf_Folding_finished {CF : Addr} {CW : Addr} : ∀ ds xc Q, wf_Folding_finished CF CW xc ds Q → ds.length = 1 := fun ds xc Q ⟨v0, v1, v2, c0, c1, c2, q⟩ => by rw [c0]; rfl
theorem mo_wf_Folding_shadow {CF : Addr} {CW : Addr} : MoF (wf_Folding_shadow CF CW) := fun xc ds Q Q' i ⟨v0, v1, v2, v3, c0, c1, c2, c3, q⟩ => ⟨v0, v1, v2, v3, c0, c1, c2, c3, i _ _ q⟩
theorem hn_wf_Folding_shadow {CF : Addr} {CW : Addr} : ∀ ds xc Q, wf_Folding_shadow CF CW xc ds Q → ds.length = 3 := fun ds xc Q ⟨v0, v1, v2, v3, c0, c1, c2, c3, q⟩ => by rw [c0]; rfl
theorem mo_wf_Folding___eq__ {CF : Addr} {CW : Addr} : MoF (wf_Folding___eq__ CF CW) := fun xc ds Q Q' i ⟨v0, v1, v2, c0, c1, c2, q⟩ => ⟨v0, v1, v2, c0, c1, c2, i _ _ q⟩
theorem hn_wf_Folding___eq__ {CF : Addr} {CW : Addr} : ∀ ds xc Q, wf_Folding___eq__ CF CW xc ds Q → ds.length = 2 := fun ds xc Q ⟨v0, v1, v2, c0, c1, c2, q⟩ => by rw [c0]; rfl
theorem mo_wf_law_web_of : MoF wf_law_web_of := fun xc ds Q Q' i ⟨v0, v1, v2, v3, c0, c1, c2, c3, c4, c5, c6, c7, c8, q⟩ => ⟨v0, v1, v2, v3, c0, c1, c2, c3, c4, c5, c6, c7, c8, (fun x1 x2 x3 => (fun x4 => (fun x5 => (fun x6 => (fun x7 => (fun x8 => i _ _ (((((((q x1 x2 x3) x4) x5) x6) x7) x8))))))))⟩
theorem hn_wf_law_web_of : ∀ ds xc Q, wf_law_web_of xc ds Q → ds.length = 5 := fun ds xc Q ⟨v0, v1, v2, v3, c0, c1, c2, c3, c4, c5, c6, c7, c8, q⟩ => by rw [c0]; rfl
theorem mo_wf_law_covered : MoF wf_law_covered := fun xc ds Q Q' i ⟨v0, v1, v2, v3, v4, c0, c1, c2, c3, c4, c5, q⟩ => ⟨v0, v1, v2, v3, v4, c0, c1, c2, c3, c4, c5, i _ _ q⟩
theorem hn_wf_law_covered : ∀ ds xc Q, wf_law_covered xc ds Q → ds.length = 4 := fun ds xc Q ⟨v0, v1, v2, v3, v4, c0, c1, c2, c3, c4, c5, q⟩ => by rw [c0]; rfl
theorem mo_wf_law_possible : MoF wf_law_possible := fun xc ds Q Q' i ⟨v0, v1, v2, c0, c1, c2, c3, q⟩ => ⟨v0, v1, v2, c0, c1, c2, c3, i _ _ q⟩
theorem hn_wf_law_possible : ∀ ds xc Q, wf_law_possible xc ds Q → ds.length = 2 := fun ds xc Q ⟨v0, v1, v2, c0, c1, c2, c3, q⟩ => by rw [c0]; rfl
theorem mo_wf_law_finished : MoF wf_law_finished := fun xc ds Q Q' i ⟨v0, v1, v2, c0, c1, c2, c3, q⟩ => ⟨v0, v1, v2, c0, c1, c2, c3, (fun x1 x2 => (fun x3 => (fun x4 => (fun x5 => i _ _ (((((q x1 x2) x3) x4) x5))))))⟩
theorem hn_wf_law_finished : ∀ ds xc Q, wf_law_finished xc ds Q → ds.length = 2 := fun ds xc Q ⟨v0, v1, v2, c0, c1, c2, c3, q⟩ => by rw [c0]; rfl
theorem mo_wf_law_is_finished {CF : Addr} {CW : Addr} : MoF (wf_law_is_finished CF CW) := fun xc ds Q Q' i ⟨v0, v1, v2, c0, c1, c2, c3, q⟩ => ⟨v0, v1, v2, c0, c1, c2, c3, i _ _ q⟩
theorem hn_wf_law_is_finished {CF : Addr} {CW : Addr} : ∀ ds xc Q, wf_law_is_finished CF CW xc ds Q → ds.length = 4 := fun ds xc Q ⟨v0, v1, v2, c0, c1, c2, c3, q⟩ => by rw [c0]; rfl
theorem mo_wf_law_refused_k33 {CF : Addr} {CW : Addr} : MoF (wf_law_refused_k33 CF CW) := fun xc ds Q Q' i ⟨v0, c0, c1, c2, c3, c4, c5, q⟩ => ⟨v0, c0, c1, c2, c3, c4, c5, i _ _ q⟩
theorem hn_wf_law_refused_k33 {CF : Addr} {CW : Addr} : ∀ ds xc Q, wf_law_refused_k33 CF CW xc ds Q → ds.length = 1 := fun ds xc Q ⟨v0, c0, c1, c2, c3, c4, c5, q⟩ => by rw [c0]; rfl
end Tw.S

namespace Tw.S
open PySem PySem.Spec L2 PyProof.Rows Tw

def b_law_covered : Ws :=
  (sSeq (sIf (wB (w2 oEq (wVar 2) (wVar 3)))
  (sRet (wC (.bl false)))
  sNil)
  (sSeq (sFor (wiS (wVar 1)) (gSet 4)
  (sIf (wAnd (wOr (wB (w2 oEq (wVar 4) (wVar 2))) (wB (w2 (oIn false) (wVar 4) (w2 oIx (wVar 0) (wVar 2))))) (wAnd (wB (w2 oNe (wVar 4) (wVar 3))) (wB (w2 (oIn true) (wVar 4) (w2 oIx (wVar 0) (wVar 3))))))
  (sRet (wC (.bl false)))
  sNil))
  (sRet (wC (.bl true)))))
def b_law_possible : Ws :=
  (sSeq (sSetO 2 (wLst waNil))
  (sSeq (sFor (wiS (wVar 1)) (gSet 3)
  (sFor (wiS (wVar 1)) (gSet 4)
  (sIf (wTru (wCall wf_law_covered [] (waCons (wVar 0) (waCons (wVar 1) (waCons (wVar 3) (waCons (wVar 4) waNil))))))
  (sApp 2 (wTup (waCons (wVar 3) (waCons (wVar 4) waNil))))
  sNil)))
  (sRetO 2)))
def r_law_finished_3 : Ws :=
  (sFrz 3 (sRetF (wLst (waCons (wVar 3) (waCons (wVar 2) waNil)))))
def r_law_finished_2 : Ws :=
  (sSeq (sFor (wiR1 (wN oLen (waCons (wVar 0) waNil))) (gSet 4)
  (sSeq (sSet 5 (wCall wf_law_possible [] (waCons (wVar 0) (waCons (wVar 2) waNil))))
  (sSeq (sIf (wB (w2 oEq (wVar 5) (wLst waNil)))
  (fun Z ρ => Z.bk ρ)
  sNil)
  (sSeq (sApp 3 (w2 oIx (wVar 5) (w2 oMod (wN oInt (waCons (w2 oIx (wVar 1) (wVar 4)) waNil)) (wN oLen (waCons (wVar 5) waNil)))))
  (sSet 2 (wLc (wiS (wVar 2)) (gSet 6) (wB (w2 oNe (wVar 6) (w2 oIx (w2 oIx (wPeek 3) (wVar 4)) (wC (.int 0))))) (wVar 6) [6]))))))
  (r_law_finished_3))
def r_law_finished_1 : Ws :=
  (sSeq (sSetO 3 (wLst waNil))
  (r_law_finished_2))
def b_law_finished : Ws :=
  (sSeq (sSet 2 (wLstR (wN oLen (waCons (wVar 0) waNil))))
  (r_law_finished_1))
def b_is_covered (C_Web : Addr) (C_UnknownPlace : Addr) : Ws :=
  (sSeq (sIf (wOr (wB (w2 oEq (wVar 2) (wVar 3))) (wOr (wB (w2 (oIn true) (wVar 2) (wVar 1))) (wB (w2 (oIn true) (wVar 3) (wVar 1)))))
  (sRet (wC (.bl false)))
  sNil)
  (sRet (wN oAll (waCons (wLc (wiS (wMeth C_Web "steps" (wf_Web_steps C_Web C_UnknownPlace) (wVar 0) (waCons (wVar 2) (waCons (wC (.int 0)) waNil)))) (gSet 4) (wB (w2 (oIn false) (wVar 4) (wVar 1))) (w2 (oIn false) (wVar 4) (wMeth C_Web "steps" (wf_Web_steps C_Web C_UnknownPlace) (wVar 0) (waCons (wVar 3) (waCons (wC (.int 0)) waNil)))) [4]) waNil))))
def b_least_fold (C_Web : Addr) : Ws :=
  (sSeq (sSet 2 (wLc2 (wiS (wVar 1)) (gSet 3) wtYes (wiS (wVar 1)) [4] (gSet 4) (wTru (wCall (wf_is_covered C_Web) [] (waCons (wVar 0) (waCons (wVar 1) (waCons (wVar 3) (waCons (wVar 4) waNil)))))) (wTup (waCons (wVar 3) (waCons (wVar 4) waNil))) [3, 4]))
  (sRet (wIf (wTru (wVar 2)) (wN oMinT (waCons (wVar 2) waNil)) (wC .non))))
def b_Folding_finished (C_Folding : Addr) (C_Web : Addr) : Ws :=
  (sRet (w2 (oIsN false) (wCall (wf_least_fold C_Web) [] (waCons (wFld C_Folding "web" (wVar 0)) (waCons (wFld C_Folding "left" (wVar 0)) waNil))) (wC .non)))
def b_Folding_shadow (C_Folding : Addr) (C_Web : Addr) (C_BadNumber : Addr) (C_UnknownPlace : Addr) : Ws :=
  (sSeq (sIf (wNot (wB (wCh oLe oLe (wC (.int 0)) (wVar 1) (wN oLen (waCons (wFld C_Folding "folds" (wVar 0)) waNil)))))
  (sRaiseN C_BadNumber ["number"] (waCons (wVar 1) waNil))
  sNil)
  (sSeq (sExp (wCall (wf_check_place C_Web C_UnknownPlace) [] (waCons (wFld C_Folding "web" (wVar 0)) (waCons (wVar 2) waNil))))
  (sSeq (sFor (wiS (wSl oSl (wFld C_Folding "folds" (wVar 0)) woN (woS (wVar 1)))) (gTupD 2 (gsCons (gSet 3) (gsCons (gSet 4) gsNil)))
  (sIf (wB (w2 oEq (wVar 2) (wVar 3)))
  (sSet 2 (wVar 4))
  sNil))
  (sRet (wVar 2)))))
def b_Folding_whole (C_Folding : Addr) : Ws :=
  (sRet (w2 oEq (wN oLen (waCons (wFld C_Folding "left" (wVar 0)) waNil)) (wC (.int 1))))
def r_law_is_finished_4 (C_Folding : Addr) (C_Web : Addr) : Ws :=
  (sRet (wC (.bl true)))
def r_law_is_finished_3 (C_Folding : Addr) (C_Web : Addr) : Ws :=
  (sSeq (sFor (wiR1 (wN oLen (waCons (wVar 1) waNil))) (gSet 4)
  (sIf (wB (w2 (oIn true) (wMeth C_Folding "shadow" (wf_Folding_shadow C_Folding C_Web) (wVar 0) (waCons (wN oLen (waCons (wVar 2) waNil)) (waCons (wVar 4) waNil))) (wVar 3)))
  (sRet (wC (.bl false)))
  sNil))
  (r_law_is_finished_4 C_Folding C_Web))
def r_law_is_finished_2 (C_Folding : Addr) (C_Web : Addr) : Ws :=
  (sSeq (sIf (wNot (wTru (wCall wf_law_same [] (waCons (wProp C_Folding (wf_Folding_finished C_Folding C_Web) (wVar 0)) (waCons (wC (.bl true)) waNil)))))
  (sRet (wC (.bl false)))
  sNil)
  (r_law_is_finished_3 C_Folding C_Web))
def r_law_is_finished_1 (C_Folding : Addr) (C_Web : Addr) : Ws :=
  (sSeq (sIf (wOr (wNot (wTru (wCall wf_law_same [] (waCons (wFld C_Folding "left" (wVar 0)) (waCons (wN oTuple (waCons (wVar 3) waNil)) waNil))))) (wNot (wTru (wCall wf_law_same [] (waCons (wProp C_Folding (wf_Folding_whole C_Folding) (wVar 0)) (waCons (w2 oEq (wN oLen (waCons (wVar 3) waNil)) (wC (.int 1))) waNil))))))
  (sRet (wC (.bl false)))
  sNil)
  (r_law_is_finished_2 C_Folding C_Web))
def b_law_is_finished (C_Folding : Addr) (C_Web : Addr) : Ws :=
  (sSeq (sIf (wOr (wNot (wTru (wIsO C_Folding (wVar 0)))) (wNot (wTru (wCall wf_law_same [] (waCons (wFld C_Folding "folds" (wVar 0)) (waCons (wN oTuple (waCons (wVar 2) waNil)) waNil))))))
  (sRet (wC (.bl false)))
  sNil)
  (r_law_is_finished_1 C_Folding C_Web))
def b_check_plain (C_Web : Addr) (C_NotPlain : Addr) : Ws :=
  (sIf (wNot (wTru (wProp C_Web (wf_Web_plain C_Web) (wVar 0))))
  (sRaise0 C_NotPlain)
  sNil)
def b_without : Ws :=
  (sRet (wN oTuple (waCons (wLc (wiS (wVar 0)) (gSet 2) (wB (w2 oNe (wVar 2) (wVar 1))) (wVar 2) [2]) waNil)))
def b_left_by (C_Web : Addr) (C_BadFold : Addr) : Ws :=
  (sSeq (sSet 2 (wTupR (wLenO C_Web (wf_Web___len__ C_Web) (wVar 0))))
  (sSeq (sFor (wiEnA (wVar 1)) (gTupD 2 (gsCons (gSet 3) (gsCons (gSet 4) gsNil)))
  (sSeq (sIf (wOr (wB (w2 oNe (wN oLen (waCons (wVar 4) waNil)) (wC (.int 2)))) (wNot (wTru (wCall (wf_is_covered C_Web) [] (waCons (wVar 0) (waCons (wVar 2) (waCons (w2 oIx (wVar 4) (wC (.int 0))) (waCons (w2 oIx (wVar 4) (wC (.int 1))) waNil))))))))
  (sRaiseN C_BadFold ["number"] (waCons (wVar 3) waNil))
  sNil)
  (sSet 2 (wCall wf_without [] (waCons (wVar 2) (waCons (w2 oIx (wVar 4) (wC (.int 0))) waNil))))))
  (sRet (wVar 2))))
def b_Folding___init__ (C_Folding : Addr) (C_Web : Addr) (C_NotPlain : Addr) : Ws :=
  (sSeq (sExp (wCall (wf_check_plain C_Web C_NotPlain) [] (waCons (wVar 1) waNil)))
  (sSeq (fun Z ρ => OneSe ρ 0 ∧ sFldD 0 C_Folding "web" (wVar 1) Z ρ)
  (sSeq (fun Z ρ => OneSe ρ 0 ∧ sFldD 0 C_Folding "folds" (wN oTuple (waCons (wLc (wiS (wVar 2)) (gSet 3) wtYes (wN oTuple (waCons (wVar 3) waNil)) [3]) waNil)) Z ρ)
  (fun Z ρ => OneSe ρ 0 ∧ sFldD 0 C_Folding "left" (wCall (wf_left_by C_Web) [] (waCons (wVar 1) (waCons (wSelf 0 C_Folding "folds") waNil))) Z ρ))))
def b_fold_up (C_Folding : Addr) (C_Web : Addr) (C_NotPlain : Addr) : Ws :=
  (sSeq (sExp (wCall (wf_check_plain C_Web C_NotPlain) [] (waCons (wVar 0) waNil)))
  (sSeq (sSetO 1 (wLst waNil))
  (sSeq (sSet 2 (wTupR (wLenO C_Web (wf_Web___len__ C_Web) (wVar 0))))
  (sSeq (sSet 3 (wCall (wf_least_fold C_Web) [] (waCons (wVar 0) (waCons (wVar 2) waNil))))
  (sSeq (sWhile (wB (w2 (oIsN true) (wVar 3) (wC .non)))
  (sSeq (sApp 1 (wVar 3))
  (sSeq (sSet 2 (wCall wf_without [] (waCons (wVar 2) (waCons (w2 oIx (wVar 3) (wC (.int 0))) waNil))))
  (sSet 3 (wCall (wf_least_fold C_Web) [] (waCons (wVar 0) (waCons (wVar 2) waNil)))))))
  (sFrz 1 (sRet (wMakeK C_Folding 2 (List.length (α := Str) []) gD_K_Folding_2 (wi_Folding C_Web) (waCons (wVar 0) (waCons (wVar 1) waNil)) waNil))))))))
def b_law_refused_k33 (C_Folding : Addr) (C_Web : Addr) (C_NotPlain : Addr) : Ws :=
  (sSeq (sSet 1 (wTup (waCons (wC (.str "let")) waNil)))
  (sSeq (sTryE (fun C => C = C_NotPlain) 2 (wCall (wf_fold_up C_Folding C_Web C_NotPlain) [] (waCons (wVar 0) waNil)) (fun a cls d => (sSet 1 (wTup (waCons (wC (.str "NotPlain")) (waCons (wIsX a 2 C_NotPlain cls d true) waNil))))))
  (sRet (wCall wf_law_same [] (waCons (wVar 1) (waCons (wTup (waCons (wC (.str "NotPlain")) (waCons (wC (.bl true)) waNil))) waNil))))))
def r_law_web_of_7 : Ws :=
  (sRetF (wLst (waCons (wVar 8) (waCons (wVar 9) (waCons (wVar 7) (waCons (wCall wf_law_table [] (waCons (wVar 8) (waCons (wVar 9) (waCons (wVar 7) waNil)))) waNil))))))
def r_law_web_of_6 : Ws :=
  (sSeq (sSet 9 (wCall wf_law_way_ties [] (waCons (wVar 0) (waCons (wC (.int 6)) (waCons (wVar 8) (waCons (wVar 7) (waCons (wVar 6) waNil)))))))
  (r_law_web_of_7))
def r_law_web_of_5 : Ws :=
  (sSeq (sSet 8 (wCall wf_law_names [] (waCons (wVar 0) (waCons (wC (.int 3)) (waCons (wVar 5) waNil)))))
  (r_law_web_of_6))
def r_law_web_of_4 : Ws :=
  (sSeq (sIf (wAnd (wB (w2 oLt (wVar 6) (wC (.int 2)))) (wB (w2 oEq (w2 oMod (wN oInt (waCons (w2 oIx (wVar 0) (wC (.int 2))) waNil)) (wC (.int 7))) (wC (.int 1)))))
  (sSet 7 (wC (.int 2)))
  sNil)
  (r_law_web_of_5))
def r_law_web_of_3 : Ws :=
  (sSeq (sIf (wB (w2 oEq (wVar 6) (wC (.int 2))))
  (sSet 7 (w2 oPlus (wC (.int 1)) (w2 oMod (wN oInt (waCons (w2 oIx (wVar 0) (wC (.int 2))) waNil)) (wVar 4))))
  sNil)
  (r_law_web_of_4))
def r_law_web_of_2 : Ws :=
  (sSeq (sSet 7 (wC (.int 1)))
  (r_law_web_of_3))
def r_law_web_of_1 : Ws :=
  (sSeq (sSet 6 (w2 oMod (wN oInt (waCons (w2 oIx (wVar 0) (wC (.int 1))) waNil)) (wVar 3)))
  (r_law_web_of_2))
def b_law_web_of : Ws :=
  (sSeq (sSet 5 (w2 oPlus (wVar 1) (w2 oMod (wN oInt (waCons (w2 oIx (wVar 0) (wC (.int 0))) waNil)) (w2 oPlus (w2 oSub (wVar 2) (wVar 1)) (wC (.int 1))))))
  (r_law_web_of_1))
def b_Folding___eq__ (C_Folding : Addr) (C_Web : Addr) : Ws :=
  (sRet (wAndV (wIsO C_Folding (wVar 1)) (wAndV (wEqO C_Web (wf_Web___eq__ C_Web) (wFld C_Folding "web" (wVar 0)) (wFld C_Folding "web" (wVar 1))) (w2 oEq (wFld C_Folding "folds" (wVar 0)) (wFld C_Folding "folds" (wVar 1))))))
def r_law_k33_17 (C_Folding : Addr) (C_Web : Addr) (C_BadWeb : Addr) (C_NotPlain : Addr) (C_UnknownPlace : Addr) : Ws :=
  (sRet (wOrV (wCall wf_law_is_plain [] (waCons (wVar 4) waNil)) (wCall (wf_law_refused_k33 C_Folding C_Web) [] (waCons (wMakeK C_Web 2 (List.length (α := Str) ["beats"]) gD_K_Web_2_beats wi_Web (waCons (wN oList (waCons (wVar 1) waNil)) (waCons (wN oList (waCons (wVar 2) waNil)) waNil)) (waCons (wVar 3) waNil)) waNil))))
def r_law_k33_16 (C_Folding : Addr) (C_Web : Addr) (C_BadWeb : Addr) (C_NotPlain : Addr) (C_UnknownPlace : Addr) : Ws :=
  (sSeq (sAsg (wCall wf_law_web_of [] (waCons (wCall wf_law_draws [] (waCons (wVar 0) (waCons (wC (.int 5)) (waCons (wC (.int 40)) waNil)))) (waCons (wC (.int 1)) (waCons (wC (.int 5)) (waCons (wC (.int 3)) (waCons (wC (.int 3)) waNil)))))) (gLstD 4 (gsCons (gSet 1) (gsCons (gSet 2) (gsCons (gSet 3) (gsCons (gSet 4) gsNil))))))
  (r_law_k33_17 C_Folding C_Web C_BadWeb C_NotPlain C_UnknownPlace))
def r_law_k33_15 (C_Folding : Addr) (C_Web : Addr) (C_BadWeb : Addr) (C_NotPlain : Addr) (C_UnknownPlace : Addr) : Ws :=
  (sSeq (sIf (wNot (wTru (wCall wf_law_same [] (waCons (wEqO C_Folding (wf_Folding___eq__ C_Folding C_Web) (wCall (wf_fold_up C_Folding C_Web C_NotPlain) [] (waCons (wVar 7) waNil)) (wMakeK C_Folding 2 (List.length (α := Str) []) gD_K_Folding_2 (wi_Folding C_Web) (waCons (wVar 7) (waCons (wN oList (waCons (wVar 8) waNil)) waNil)) waNil)) (waCons (wC (.bl true)) waNil)))))
  (sRet (wC (.bl false)))
  sNil)
  (r_law_k33_16 C_Folding C_Web C_BadWeb C_NotPlain C_UnknownPlace))
def r_law_k33_14 (C_Folding : Addr) (C_Web : Addr) (C_BadWeb : Addr) (C_NotPlain : Addr) (C_UnknownPlace : Addr) : Ws :=
  (sSeq (sIf (wNot (wTru (wCall wf_law_same [] (waCons (wFld C_Folding "folds" (wCall (wf_fold_up C_Folding C_Web C_NotPlain) [] (waCons (wMeth C_Web "restricted" (wf_Web_restricted C_Web C_BadWeb C_UnknownPlace) (wVar 7) (waCons (wN oList (waCons (wVar 9) waNil)) waNil)) waNil))) (waCons (wTup waNil) waNil)))))
  (sRet (wC (.bl false)))
  sNil)
  (r_law_k33_15 C_Folding C_Web C_BadWeb C_NotPlain C_UnknownPlace))
def r_law_k33_13 (C_Folding : Addr) (C_Web : Addr) (C_BadWeb : Addr) (C_NotPlain : Addr) (C_UnknownPlace : Addr) : Ws :=
  (sSeq (sIf (wOr (wNot (wTru (wCall wf_law_same [] (waCons (wN oLen (waCons (wFld C_Folding "left" (wVar 16)) waNil)) (waCons (wN oLen (waCons (wVar 9) waNil)) waNil))))) (wNot (wTru (wCall wf_law_same [] (waCons (wProp C_Folding (wf_Folding_whole C_Folding) (wVar 16)) (waCons (w2 oEq (wN oLen (waCons (wVar 9) waNil)) (wC (.int 1))) waNil))))))
  (sRet (wC (.bl false)))
  sNil)
  (r_law_k33_14 C_Folding C_Web C_BadWeb C_NotPlain C_UnknownPlace))
def r_law_k33_12 (C_Folding : Addr) (C_Web : Addr) (C_BadWeb : Addr) (C_NotPlain : Addr) (C_UnknownPlace : Addr) : Ws :=
  (sSeq (sSet 16 (wCall (wf_fold_up C_Folding C_Web C_NotPlain) [] (waCons (wMeth C_Web "restricted" (wf_Web_restricted C_Web C_BadWeb C_UnknownPlace) (wVar 7) (waCons (wN oList (waCons (wPeek 15) waNil)) waNil)) waNil)))
  (r_law_k33_13 C_Folding C_Web C_BadWeb C_NotPlain C_UnknownPlace))
def r_law_k33_11 (C_Folding : Addr) (C_Web : Addr) (C_BadWeb : Addr) (C_NotPlain : Addr) (C_UnknownPlace : Addr) : Ws :=
  (sSeq (sFor (wiR1 (wVar 6)) (gSet 10)
  (sAppPop 15 14 (w2 oMod (wN oInt (waCons (w2 oIx (wVar 13) (wVar 10)) waNil)) (wN oLen (waCons (wPeek 14) waNil)))))
  (r_law_k33_12 C_Folding C_Web C_BadWeb C_NotPlain C_UnknownPlace))
def r_law_k33_10 (C_Folding : Addr) (C_Web : Addr) (C_BadWeb : Addr) (C_NotPlain : Addr) (C_UnknownPlace : Addr) : Ws :=
  (sSeq (sSetO 15 (wLst waNil))
  (r_law_k33_11 C_Folding C_Web C_BadWeb C_NotPlain C_UnknownPlace))
def r_law_k33_9 (C_Folding : Addr) (C_Web : Addr) (C_BadWeb : Addr) (C_NotPlain : Addr) (C_UnknownPlace : Addr) : Ws :=
  (sSeq (sSetO 14 (wLstR (wVar 6)))
  (r_law_k33_10 C_Folding C_Web C_BadWeb C_NotPlain C_UnknownPlace))
def r_law_k33_8 (C_Folding : Addr) (C_Web : Addr) (C_BadWeb : Addr) (C_NotPlain : Addr) (C_UnknownPlace : Addr) : Ws :=
  (sSeq (sSet 13 (wCall wf_law_draws [] (waCons (wVar 0) (waCons (wC (.int 4)) (waCons (wC (.int 8)) waNil)))))
  (r_law_k33_9 C_Folding C_Web C_BadWeb C_NotPlain C_UnknownPlace))
def r_law_k33_7 (C_Folding : Addr) (C_Web : Addr) (C_BadWeb : Addr) (C_NotPlain : Addr) (C_UnknownPlace : Addr) : Ws :=
  (sSeq (sFor (wiR1 (wC (.int 3))) (gSet 10)
  (sSeq (sAsg (wCall wf_law_finished [] (waCons (wVar 5) (waCons (wCall wf_law_draws [] (waCons (wVar 0) (waCons (w2 oPlus (wC (.int 1)) (wVar 10)) (waCons (wC (.int 8)) waNil)))) waNil))) (gLstD 2 (gsCons (gSet 11) (gsCons (gSet 12) gsNil))))
  (sIf (wOr (wNot (wTru (wCall (wf_law_is_finished C_Folding C_Web) [] (waCons (wMakeK C_Folding 2 (List.length (α := Str) []) gD_K_Folding_2 (wi_Folding C_Web) (waCons (wVar 7) (waCons (wN oList (waCons (wVar 11) waNil)) waNil)) waNil) (waCons (wVar 5) (waCons (wVar 11) (waCons (wVar 12) waNil))))))) (wB (w2 oNe (wN oLen (waCons (wVar 12) waNil)) (wN oLen (waCons (wVar 9) waNil)))))
  (sRet (wC (.bl false)))
  sNil)))
  (r_law_k33_8 C_Folding C_Web C_BadWeb C_NotPlain C_UnknownPlace))
def r_law_k33_6 (C_Folding : Addr) (C_Web : Addr) (C_BadWeb : Addr) (C_NotPlain : Addr) (C_UnknownPlace : Addr) : Ws :=
  (sSeq (sFor (wiR1 (wN oLen (waCons (wVar 8) waNil))) (gSet 10)
  (sIf (wNot (wTru (wCall wf_law_same [] (waCons (wProp C_Folding (wf_Folding_finished C_Folding C_Web) (wMakeK C_Folding 2 (List.length (α := Str) []) gD_K_Folding_2 (wi_Folding C_Web) (waCons (wVar 7) (waCons (wSl oSl (wVar 8) woN (woS (wVar 10))) waNil)) waNil)) (waCons (wC (.bl false)) waNil)))))
  (sRet (wC (.bl false)))
  sNil))
  (r_law_k33_7 C_Folding C_Web C_BadWeb C_NotPlain C_UnknownPlace))
def r_law_k33_5 (C_Folding : Addr) (C_Web : Addr) (C_BadWeb : Addr) (C_NotPlain : Addr) (C_UnknownPlace : Addr) : Ws :=
  (sSeq (sIf (wNot (wTru (wCall (wf_law_is_finished C_Folding C_Web) [] (waCons (wCall (wf_fold_up C_Folding C_Web C_NotPlain) [] (waCons (wVar 7) waNil)) (waCons (wVar 5) (waCons (wVar 8) (waCons (wVar 9) waNil)))))))
  (sRet (wC (.bl false)))
  sNil)
  (r_law_k33_6 C_Folding C_Web C_BadWeb C_NotPlain C_UnknownPlace))
def r_law_k33_4 (C_Folding : Addr) (C_Web : Addr) (C_BadWeb : Addr) (C_NotPlain : Addr) (C_UnknownPlace : Addr) : Ws :=
  (sSeq (sAsg (wCall wf_law_finished [] (waCons (wVar 5) (waCons (wLc (wiR1 (wVar 6)) (gSet 17) wtYes (wC (.int 0)) [17]) waNil))) (gLstD 2 (gsCons (gSet 8) (gsCons (gSet 9) gsNil))))
  (r_law_k33_5 C_Folding C_Web C_BadWeb C_NotPlain C_UnknownPlace))
def r_law_k33_3 (C_Folding : Addr) (C_Web : Addr) (C_BadWeb : Addr) (C_NotPlain : Addr) (C_UnknownPlace : Addr) : Ws :=
  (sSeq (sSet 7 (wMakeK C_Web 2 (List.length (α := Str) ["beats"]) gD_K_Web_2_beats wi_Web (waCons (wN oList (waCons (wVar 1) waNil)) (waCons (wN oList (waCons (wVar 2) waNil)) waNil)) (waCons (wVar 3) waNil)))
  (r_law_k33_4 C_Folding C_Web C_BadWeb C_NotPlain C_UnknownPlace))
def r_law_k33_2 (C_Folding : Addr) (C_Web : Addr) (C_BadWeb : Addr) (C_NotPlain : Addr) (C_UnknownPlace : Addr) : Ws :=
  (sSeq (sSet 6 (wN oLen (waCons (wVar 1) waNil)))
  (r_law_k33_3 C_Folding C_Web C_BadWeb C_NotPlain C_UnknownPlace))
def r_law_k33_1 (C_Folding : Addr) (C_Web : Addr) (C_BadWeb : Addr) (C_NotPlain : Addr) (C_UnknownPlace : Addr) : Ws :=
  (sSeq (sSet 5 (w2 oIx (wVar 4) (wC (.int 0))))
  (r_law_k33_2 C_Folding C_Web C_BadWeb C_NotPlain C_UnknownPlace))
def b_law_k33 (C_Folding : Addr) (C_Web : Addr) (C_BadWeb : Addr) (C_NotPlain : Addr) (C_UnknownPlace : Addr) : Ws :=
  (sSeq (sAsg (wCall wf_law_web_of [] (waCons (wCall wf_law_draws [] (waCons (wVar 0) (waCons (wC (.int 0)) (waCons (wC (.int 40)) waNil)))) (waCons (wC (.int 1)) (waCons (wC (.int 8)) (waCons (wC (.int 1)) (waCons (wC (.int 2)) waNil)))))) (gLstD 4 (gsCons (gSet 1) (gsCons (gSet 2) (gsCons (gSet 3) (gsCons (gSet 4) gsNil))))))
  (r_law_k33_1 C_Folding C_Web C_BadWeb C_NotPlain C_UnknownPlace))
end Tw.S

namespace Tw.S
open PySem PySem.Spec L2 PyProof.Rows Tw

def r_law_way_ties_3 : Ws :=
  (sRetO 6)
def r_law_way_ties_2 : Ws :=
  (sSeq (sFor (wiR1 (wN oLen (waCons (wVar 2) waNil))) (gSet 7)
  (sFor (wiR1 (wVar 7)) (gSet 8)
  (sSeq (sSet 9 (wN oInt (waCons (w2 oIx (wVar 0) (w2 oPlus (w2 oPlus (wVar 1) (w2 oDiv (w2 oMul (wVar 7) (w2 oSub (wVar 7) (wC (.int 1)))) (wC (.int 2)))) (wVar 8))) waNil)))
  (sSeq (sSet 10 (wLc (wiR1 (wVar 3)) (gSet 16) wtYes (w2 oMul (wC (.int 3)) (w2 oMod (wVar 9) (wC (.int 2)))) [16]))
  (sSeq (sIf (wB (w2 oEq (wVar 4) (wC (.int 1))))
  (sSet 10 (wLc (wiR1 (wVar 3)) (gSet 16) wtYes (w2 oMod (wVar 9) (wC (.int 4))) [16]))
  sNil)
  (sSeq (sIf (wB (w2 oEq (wVar 4) (wC (.int 2))))
  (sSet 10 (wLc (wiR1 (wVar 3)) (gSet 16) wtYes (w2 oMod (w2 oDiv (wVar 9) (w2 oIx (wVar 5) (wVar 16))) (wC (.int 4))) [16]))
  sNil)
  (sFor (wiS (wLst (waCons (wTup (waCons (wC (.int 3)) (waCons (wVar 8) (waCons (wVar 7) (waCons (wC (.str "two")) waNil))))) (waCons (wTup (waCons (wC (.int 1)) (waCons (wVar 8) (waCons (wVar 7) (waCons (wC (.str "one")) waNil))))) (waCons (wTup (waCons (wC (.int 2)) (waCons (wVar 7) (waCons (wVar 8) (waCons (wC (.str "one")) waNil))))) waNil))))) (gTupD 4 (gsCons (gSet 11) (gsCons (gSet 12) (gsCons (gSet 13) (gsCons (gSet 14) gsNil)))))
  (sSeq (sSet 15 (wN oTuple (waCons (wLc (wiR1 (wVar 3)) (gSet 16) (wB (w2 oEq (w2 oIx (wVar 10) (wVar 16)) (wVar 11))) (wVar 16) [16]) waNil)))
  (sIf (wB (w2 oNe (wVar 15) (wTup waNil)))
  (sApp 6 (wTup (waCons (w2 oIx (wVar 2) (wVar 12)) (waCons (w2 oIx (wVar 2) (wVar 13)) (waCons (wVar 14) (waCons (wVar 15) waNil))))))
  sNil)))))))))
  (r_law_way_ties_3))
def r_law_way_ties_1 : Ws :=
  (sSeq (sSetO 6 (wLst waNil))
  (r_law_way_ties_2))
def b_law_way_ties : Ws :=
  (sSeq (sSet 5 (wLst (waCons (wC (.int 1)) (waCons (wC (.int 4)) (waCons (wC (.int 16)) (waCons (wC (.int 64)) waNil))))))
  (r_law_way_ties_1))
end Tw.S

namespace Tw.S
open PySem PySem.Spec L2 PyProof.Rows Tw
section
variable {CG CW : Addr} {g : Gm} {Q : D → Prop}
@[simp] theorem gm_web : fldOf CG "web" (g.d CG CW) Q = Q (webP CW g.names g.c g.L) := fldOf_mk rfl
@[simp] theorem gm_seek : fldOf CG "seekers" (g.d CG CW) Q = Q (.int g.k) := fldOf_mk rfl
@[simp] theorem gm_trav : fldOf CG "travel" (g.d CG CW) Q = Q (.str g.tr) := fldOf_mk rfl
end
end Tw.S

namespace Tw.S
open PySem PySem.Spec L2 PyProof.Rows Tw
end Tw.S

namespace Tw.S
open PySem PySem.Spec L2 PyProof.Rows Tw
end Tw.S

namespace Tw.S
open PySem PySem.Spec L2 PyProof.Rows Tw
end Tw.S

namespace Tw.S
open PySem PySem.Spec L2 PyProof.Rows Tw
def cutI (l : List Int) (lo hi : Option Int) : List Int := (l.drop (HT.sIx l.length 0 lo)).take (HT.sIx l.length l.length hi - HT.sIx l.length 0 lo)
@[simp] theorem sl_tI {l : List Int} {lo hi : Option Int} {Q : D → Prop} : oSl (tI l) lo hi Q = Q (tI (cutI l lo hi)) := by
  unfold tI cutI
  show Q (.tup (cutD (l.map .int) lo hi)) = _
  unfold cutD
  rw [List.length_map, List.map_take, List.map_drop]
theorem tup1 {a : Int} : D.tup [D.int a] = tI [a] := rfl
theorem tup0 : D.tup [] = tI [] := rfl
end Tw.S

namespace Tw.S
open PySem PySem.Spec L2 PyProof.Rows Tw
def r_ways : Ws := (sFor (wiS (wLst (waCons (wTup (waCons (wC (.int 3)) (waCons (wVar 8) (waCons (wVar 7) (waCons (wC (.str "two")) waNil))))) (waCons (wTup (waCons (wC (.int 1)) (waCons (wVar 8) (waCons (wVar 7) (waCons (wC (.str "one")) waNil))))) (waCons (wTup (waCons (wC (.int 2)) (waCons (wVar 7) (waCons (wVar 8) (waCons (wC (.str "one")) waNil))))) waNil))))) (gTupD 4 (gsCons (gSet 11) (gsCons (gSet 12) (gsCons (gSet 13) (gsCons (gSet 14) gsNil)))))
  (sSeq (sSet 15 (wN oTuple (waCons (wLc (wiR1 (wVar 3)) (gSet 16) (wB (w2 oEq (w2 oIx (wVar 10) (wVar 16)) (wVar 11))) (wVar 16) [16]) waNil)))
  (sIf (wB (w2 oNe (wVar 15) (wTup waNil)))
  (sApp 6 (wTup (waCons (w2 oIx (wVar 2) (wVar 12)) (waCons (w2 oIx (wVar 2) (wVar 13)) (waCons (wVar 14) (waCons (wVar 15) waNil))))))
  sNil)))
structure Way where
  way : Int
  a : Nat
  b : Nat
  w : Str
def wayD (x : Way) : D := .tup [.int x.way, .int x.a, .int x.b, .str x.w]
theorem go_ways {Z : Pd} {l : List Int} {at_ c u v : Nat} {names : List Str} {kind : Int} {pw dg : D} {ws : List Int} {acc : List Tie} {s11 s12 s13 s14 s15 s16 : Sl} (hn : NamesOk names) (hc : c ≤ 4) (hw : ws.length = c) (hu : u < names.length) (hv : v < u)
    (hb : acc.length + 3 ≤ 1000)
    {P : Prop} (hP : P → ∃ d : Int, (d = 0 ∨ d = 3) ∧ ∀ i, i < c → ws.getD i 0 = d)
    (fin : ∀ (new : List Tie) (a b d e f g : Sl), new.length ≤ 3 → (∀ t ∈ new, TieOk names c t ∧ On names[u] (names[v]'(by omega)) t ∧ (P → (t.w = "two" ∧ t.at_ = (List.range c).map fun i : Nat => (i : Int)))) → Z.nx [Sl.da (iL l), Sl.da (.int at_), Sl.da (sL names), Sl.da (.int c), Sl.da (.int kind), Sl.da pw, Sl.ow (tsL (acc ++ new)), Sl.da (.int u), Sl.da (.int v), Sl.da dg, Sl.da (iL ws), a, b, d, e, f, g]) :
    r_ways Z [Sl.da (iL l), Sl.da (.int at_), Sl.da (sL names), Sl.da (.int c), Sl.da (.int kind), Sl.da pw, Sl.ow (tsL acc), Sl.da (.int u), Sl.da (.int v), Sl.da dg, Sl.da (iL ws), s11, s12, s13, s14, s15, s16] := by
  have hs := sizeLine_eq
  have et : [D.tup [.int 3, .int v, .int u, .str "two"], D.tup [.int 1, .int v, .int u, .str "one"], D.tup [.int 2, .int u, .int v, .str "one"]] = [Way.mk 3 v u "two", Way.mk 1 v u "one", Way.mk 2 u v "one"].map wayD := rfl
  have hws : ∀ x ∈ [Way.mk 3 v u "two", Way.mk 1 v u "one", Way.mk 2 u v "one"], x.a < names.length ∧ x.b < names.length ∧ x.a ≠ x.b ∧ (x.w = "two" ∨ x.w = "one") ∧ (x.a = u ∨ x.a = v) ∧ (x.b = u ∨ x.b = v) ∧ (x.way = 3 ∧ x.w = "two" ∨ x.way = 1 ∨ x.way = 2) := by
    intro x hx
    simp at hx
    rcases hx with rfl | rfl | rfl <;> simp <;> omega
  simp [r_ways, sFor]
  refine ⟨by omega, by omega, ?_⟩
  rw [et]
  have hwl : [Way.mk 3 v u "two", Way.mk 1 v u "one", Way.mk 2 u v "one"].length = 3 := rfl
  generalize [Way.mk 3 v u "two", Way.mk 1 v u "one", Way.mk 2 u v "one"] = wl at *
  refine for_fold wl wayD (fun m _ => m + 1) (fun m ρ => ∃ (acc' : List Tie) (a b d e f g : Sl), ρ = [Sl.da (iL l), Sl.da (.int at_), Sl.da (sL names), Sl.da (.int c), Sl.da (.int kind), Sl.da pw, Sl.ow (tsL (acc ++ acc')), Sl.da (.int u), Sl.da (.int v), Sl.da dg, Sl.da (iL ws), a, b, d, e, f, g] ∧ acc'.length ≤ m ∧ ∀ t ∈ acc', TieOk names c t ∧ On names[u] (names[v]'(by omega)) t ∧ (P → (t.w = "two" ∧ t.at_ = (List.range c).map fun i : Nat => (i : Int)))) 0 (fun pre x post ρ N e ⟨acc', b1, b2, b3, b4, b5, b6, er, el, eo⟩ hN => ?_) ⟨[], _, _, _, _, _, _, by rw [List.append_nil], by simp, by simp⟩ fun ρ ⟨acc', b1, b2, b3, b4, b5, b6, er, el, eo⟩ => ?_
  · subst er
    have em : pre.foldl (fun m _ => m + 1) 0 = pre.length := by
      have : ∀ (l : List Way) (i : Nat), l.foldl (fun m _ => m + 1) i = i + l.length := by
        intro l
        induction l with
        | nil => intro i; rfl
        | cons x l ih => intro i; rw [List.foldl_cons, ih]; simp; omega
      rw [this]; simp
    rw [em] at hN el
    have hpre : pre.length + 1 ≤ 3 := by
      have := congrArg List.length e
      simp at this
      omega
    obtain ⟨w1, w2', w3, w4, w5, w6, w7⟩ := hws x (by rw [e]; simp)
    have hne : names[x.a] ≠ names[x.b] := fun z => w3 ((List.getElem_inj hn.nd).mp z)
    simp [wayD, gTupD, gsCons, gsNil]
    refine ⟨_, _, ⟨rfl, rfl⟩, _, _, rfl, _, _, rfl, _, _, rfl, rfl, by omega, ?_⟩
    refine lc_rng0F c (fun i => decide (ws.getD i 0 = x.way)) (fun i => .int (i : Nat)) (fun i hi k1 k2 h1 h2 => ?_) (by omega) ?_
    · have hg : atI ws (i : Int) = some (ws.getD i 0) := by rw [atI_int (by omega) (by omega)]; simp
      generalize ws.getD i 0 = y at hg h1 h2
      simp [hg]
      by_cases hy : y = x.way
      · exact .inr ⟨hy, by simpa [hy] using h1⟩
      · exact .inl ⟨hy, by simpa [hy] using h2⟩
    · have ew : D.tup (((List.range c).filter fun i => decide (ws.getD i 0 = x.way)).map fun i : Nat => D.int (i : Nat)) = tI (((List.range c).filter fun i => decide (ws.getD i 0 = x.way)).map fun i : Nat => (i : Int)) := by
        unfold tI
        rw [List.map_map]; rfl
      have hset := beats_set c fun i => decide (ws.getD i 0 = x.way)
      simp only [oTuple_l, ew]
      generalize hwhen : (((List.range c).filter fun i => decide (ws.getD i 0 = x.way)).map fun i : Nat => (i : Int)) = when at *
      rw [tup0, oNe_t]
      by_cases h0 : when = []
      · refine .inl ⟨by simp [h0], hN _ ⟨acc', _, _, _, _, _, _, rfl, by omega, eo⟩⟩
      · refine .inr ⟨by simp [h0], ?_⟩
        simp [sApp, tsL, atI_strs w1, atI_strs w2']
        refine ⟨by omega, by omega, hN _ ⟨acc' ++ [⟨names[x.a], names[x.b], x.w, when⟩], _, _, _, _, _, _, by simp [tsL, tieD]; exact ⟨rfl, rfl, rfl, rfl, rfl, rfl⟩, by simp; omega, fun t ht => ?_⟩⟩
        rcases List.mem_append.mp ht with ht | ht
        · exact eo t ht
        · simp at ht
          subst ht
          refine ⟨⟨List.getElem_mem w1, List.getElem_mem w2', hne, w4, h0, hset⟩, ⟨?_, ?_⟩, fun hp => ?_⟩
          · rcases w5 with e | e <;> simp [e]
          · rcases w6 with e | e <;> simp [e]
          · obtain ⟨d, hd, hall⟩ := hP hp
            obtain ⟨z, hz⟩ := List.exists_mem_of_ne_nil _ h0
            rw [← hwhen] at hz
            obtain ⟨i0, hi0, _⟩ := List.mem_map.mp hz
            have hi1 := List.mem_filter.mp hi0
            have e1 := of_decide_eq_true hi1.2
            rw [hall i0 (List.mem_range.mp hi1.1)] at e1
            have ex : x.way = 3 ∧ x.w = "two" := by
              rcases w7 with h | h | h
              · exact h
              · rcases hd with hd | hd <;> omega
              · rcases hd with hd | hd <;> omega
            refine ⟨ex.2, ?_⟩
            show when = _
            rw [← hwhen]
            congr 1
            refine List.filter_eq_self.mpr fun i hi => decide_eq_true ?_
            rw [hall i (List.mem_range.mp hi), e1]
  · subst er
    have em : wl.foldl (fun m _ => m + 1) 0 = wl.length := by
      have : ∀ (l : List Way) (i : Nat), l.foldl (fun m _ => m + 1) i = i + l.length := by
        intro l
        induction l with
        | nil => intro i; rfl
        | cons x l ih => intro i; rw [List.foldl_cons, ih]; simp; omega
      rw [this]; simp
    exact fin acc' _ _ _ _ _ _ (by omega) eo
def r_digit : Ws := (sSeq (sSet 9 (wN oInt (waCons (w2 oIx (wVar 0) (w2 oPlus (w2 oPlus (wVar 1) (w2 oDiv (w2 oMul (wVar 7) (w2 oSub (wVar 7) (wC (.int 1)))) (wC (.int 2)))) (wVar 8))) waNil)))
  (sSeq (sSet 10 (wLc (wiR1 (wVar 3)) (gSet 16) wtYes (w2 oMul (wC (.int 3)) (w2 oMod (wVar 9) (wC (.int 2)))) [16]))
  (sSeq (sIf (wB (w2 oEq (wVar 4) (wC (.int 1))))
  (sSet 10 (wLc (wiR1 (wVar 3)) (gSet 16) wtYes (w2 oMod (wVar 9) (wC (.int 4))) [16]))
  sNil)
  (sSeq (sIf (wB (w2 oEq (wVar 4) (wC (.int 2))))
  (sSet 10 (wLc (wiR1 (wVar 3)) (gSet 16) wtYes (w2 oMod (w2 oDiv (wVar 9) (w2 oIx (wVar 5) (wVar 16))) (wC (.int 4))) [16]))
  sNil) r_ways))))
theorem tri_le : ∀ u : Nat, u < 8 → u * (u - 1) / 2 ≤ 21 ∧ ((u : Int) * ((u : Int) - 1)) / 2 = ((u * (u - 1) / 2 : Nat) : Int) := by decide
theorem go_digit {Z : Pd} {l : List Int} {at_ c u v : Nat} {names : List Str} {kind : Int} {acc : List Tie} {s9 s10 s11 s12 s13 s14 s15 s16 : Sl} (hn : NamesOk names) (hl : ∀ x ∈ l, 0 ≤ x ∧ x < 1000) (hat : at_ + 28 < l.length) (hc : c ≤ 4) (hu : u < names.length) (hv : v < u)
    (hb : acc.length + 3 ≤ 1000)
    (fin : ∀ (new : List Tie) (z y a b d e f g : Sl), new.length ≤ 3 → (∀ t ∈ new, TieOk names c t ∧ On names[u] (names[v]'(by omega)) t ∧ (kind = 0 → (t.w = "two" ∧ t.at_ = (List.range c).map fun i : Nat => (i : Int)))) → Z.nx [Sl.da (iL l), Sl.da (.int at_), Sl.da (sL names), Sl.da (.int c), Sl.da (.int kind), Sl.da (iL [1, 4, 16, 64]), Sl.ow (tsL (acc ++ new)), Sl.da (.int u), Sl.da (.int v), z, y, a, b, d, e, f, g]) :
    r_digit Z [Sl.da (iL l), Sl.da (.int at_), Sl.da (sL names), Sl.da (.int c), Sl.da (.int kind), Sl.da (iL [1, 4, 16, 64]), Sl.ow (tsL acc), Sl.da (.int u), Sl.da (.int v), s9, s10, s11, s12, s13, s14, s15, s16] := by
  have hs := sizeLine_eq
  have hi := hn.hi
  obtain ⟨t1, t2⟩ := tri_le u (by omega)
  have hlt : at_ + u * (u - 1) / 2 + v < l.length := by omega
  obtain ⟨x, ex, x0, x1⟩ : ∃ x, atI l ((at_ : Int) + ((u : Int) * ((u : Int) - 1)) / 2 + (v : Int)) = some x ∧ 0 ≤ x ∧ x < 1000 := by
    refine ⟨l[at_ + u * (u - 1) / 2 + v], ?_, hl _ (List.getElem_mem hlt)⟩
    have ee : (at_ : Int) + ((u : Int) * ((u : Int) - 1)) / 2 + (v : Int) = ((at_ + u * (u - 1) / 2 + v : Nat) : Int) := by rw [t2]; omega
    rw [ee, atI_at (by omega) (by omega), Int.toNat_natCast, List.getElem?_eq_getElem hlt]
  have cm : CMul (u : Int) ((u : Int) - 1) := .inr ⟨by omega, by omega⟩
  have cd : CDiv ((u : Int) * ((u : Int) - 1)) 2 := ⟨by omega, by omega⟩
  have fin2 : ∀ (ws : List Int), ws.length = c → (kind = 0 → ∃ d : Int, (d = 0 ∨ d = 3) ∧ ∀ i, i < c → ws.getD i 0 = d) → ∀ g16, r_ways Z [Sl.da (iL l), Sl.da (.int at_), Sl.da (sL names), Sl.da (.int c), Sl.da (.int kind), Sl.da (iL [1, 4, 16, 64]), Sl.ow (tsL acc), Sl.da (.int u), Sl.da (.int v), Sl.da (.int x), Sl.da (iL ws), s11, s12, s13, s14, s15, g16] := fun ws hw hP g16 =>
    go_ways (P := kind = 0) hn hc hw hu hv hb hP fun new a b d e f g h1 h2 => fin new _ _ a b d e f g h1 h2
  simp [r_digit, cm, cd, ex]
  refine ⟨by omega, ?_⟩
  refine lc_rng0 c (fun _ => .int (3 * (x % 2))) (fun i hi k1 h1 => ?_) (by omega) ?_
  · have c1 : CMul 3 (x % 2) := .inl ⟨by omega, by omega⟩
    simpa [c1] using h1
  · have e1 : D.lst ((List.range c).map fun _ => D.int (3 * (x % 2))) = iL ((List.range c).map fun _ => 3 * (x % 2)) := by unfold iL; rw [List.map_map]; rfl
    rw [e1]
    by_cases k1 : kind = 1
    · refine .inr ⟨k1, by omega, ?_⟩
      refine lc_rng0 c (fun _ => .int (x % 4)) (fun i hi kk h1 => ?_) (by omega) ?_
      · simpa using h1
      · have e2 : D.lst ((List.range c).map fun _ => D.int (x % 4)) = iL ((List.range c).map fun _ => x % 4) := by unfold iL; rw [List.map_map]; rfl
        rw [e2]
        exact .inl ⟨by omega, fin2 _ (by simp) (fun z => by omega) _⟩
    · refine .inl ⟨k1, ?_⟩
      by_cases k2 : kind = 2
      · refine .inr ⟨k2, by omega, ?_⟩
        refine lc_rng0 c (fun i => .int (x / ([1, 4, 16, 64].getD i 1) % 4)) (fun i hi kk h1 => ?_) (by omega) ?_
        · have hg : atI [(1 : Int), 4, 16, 64] (i : Int) = some ([1, 4, 16, 64].getD i 1) := by
            have : i = 0 ∨ i = 1 ∨ i = 2 ∨ i = 3 := by omega
            rcases this with rfl | rfl | rfl | rfl <;> rfl
          have hp : (0 : Int) < [1, 4, 16, 64].getD i 1 ∧ ([1, 4, 16, 64].getD i 1 : Int) < 1073741824 := by
            have : i = 0 ∨ i = 1 ∨ i = 2 ∨ i = 3 := by omega
            rcases this with rfl | rfl | rfl | rfl <;> decide
          generalize ([1, 4, 16, 64].getD i 1 : Int) = y at hg hp h1
          have c2 : CDiv x y := hp
          simp [hg, c2]
          exact h1
        · have e2 : D.lst ((List.range c).map fun i => D.int (x / ([1, 4, 16, 64].getD i 1) % 4)) = iL ((List.range c).map fun i => x / ([1, 4, 16, 64].getD i 1) % 4) := by unfold iL; rw [List.map_map]; rfl
          rw [e2]
          exact fin2 _ (by simp) (fun z => by omega) _
      · exact .inl ⟨k2, fin2 _ (by simp) (fun z => ⟨3 * (x % 2), by omega, fun i hi => by simp [hi]⟩) _⟩
theorem p_law_way_ties (xc : XC) (ds : List D) (Q : Bool → D → Prop) (h : wf_law_way_ties xc ds Q) : b_law_way_ties (Zd xc Q) (ds.map .da ++ List.replicate (17 - ds.length) .no) := by
  obtain ⟨l, at_, names, c, kind, rfl, hl, hat, hn, h1, h4, q⟩ := h
  have hs := sizeLine_eq
  have hi := hn.hi
  have eb : b_law_way_ties = sSeq (sSet 5 (wLst (waCons (wC (.int 1)) (waCons (wC (.int 4)) (waCons (wC (.int 16)) (waCons (wC (.int 64)) waNil)))))) (sSeq (sSetO 6 (wLst waNil)) (sSeq (sFor (wiR1 (wN oLen (waCons (wVar 2) waNil))) (gSet 7) (sFor (wiR1 (wVar 7)) (gSet 8) r_digit)) (sRetO 6))) := rfl
  have ei : D.lst [D.int 1, D.int 4, D.int 16, D.int 64] = iL [1, 4, 16, 64] := rfl
  have e0 : D.lst [] = tsL [] := rfl
  rw [eb]
  simp [sFor]
  rw [ei, e0]
  refine ⟨by omega, by omega, ?_⟩
  refine for_fold (List.range names.length) (fun i => .int (0 + (i : Nat))) (fun m _ => m + 1) (fun m ρ => ∃ (acc : List Tie) (r a b d e f g h i j : Sl), ρ = [Sl.da (iL l), Sl.da (.int at_), Sl.da (sL names), Sl.da (.int c), Sl.da (.int kind), Sl.da (iL [1, 4, 16, 64]), Sl.ow (tsL acc), r, a, b, d, e, f, g, h, i, j] ∧ acc.length ≤ 3 * (m * (m - 1) / 2) ∧ (∀ t ∈ acc, TieOk names c t ∧ (kind = 0 → (t.w = "two" ∧ t.at_ = (List.range c).map fun i : Nat => (i : Int)))) ∧ ∀ (w : Nat) (hw : w < names.length), cnt names[w] acc ≤ if w < m then 3 * (m - 1) else 0) 0 (fun pre u post ρ N e ⟨acc, r0, r1, r2, r3, r4, r5, r6, r7, r8, r9, er, el, eo, ec⟩ hN => ?_) ⟨[], _, _, _, _, _, _, _, _, _, _, rfl, by simp, by simp, fun w hw => by simp [cnt]⟩ fun ρ ⟨acc, r0, r1, r2, r3, r4, r5, r6, r7, r8, r9, er, el, eo, ec⟩ => ?_
  · subst er
    rw [fold_count, Nat.zero_add] at hN el ec
    have hp := pre_lt e
    have hu : u < names.length := List.mem_range.mp (by rw [e]; simp)
    have hpu : u = pre.length := by
      have := congrArg (fun l => l[pre.length]?) e
      simp [hu, hp] at this
      have h2 : pre.length < names.length := by omega
      simp [h2] at this
      exact this.symm
    have ht := (tri_le pre.length (by omega)).1
    have hstep : ∀ m : Nat, m < 8 → m * (m - 1) / 2 + m = (m + 1) * m / 2 := by decide
    have hst := hstep pre.length (by omega)
    simp [sFor]
    refine ⟨by omega, ?_⟩
    refine for_fold (List.range u) (fun i => .int (0 + (i : Nat))) (fun m _ => m + 1) (fun m ρ => ∃ (acc2 : List Tie) (a b d e f g h i j : Sl), ρ = [Sl.da (iL l), Sl.da (.int at_), Sl.da (sL names), Sl.da (.int c), Sl.da (.int kind), Sl.da (iL [1, 4, 16, 64]), Sl.ow (tsL acc2), Sl.da (.int u), a, b, d, e, f, g, h, i, j] ∧ acc2.length ≤ acc.length + 3 * m ∧ (∀ t ∈ acc2, TieOk names c t ∧ (kind = 0 → (t.w = "two" ∧ t.at_ = (List.range c).map fun i : Nat => (i : Int)))) ∧ ∀ (w : Nat) (hw : w < names.length), cnt names[w] acc2 ≤ if w < u then 3 * (u - 1) + (if w < m then 3 else 0) else if w = u then 3 * m else 0) 0 (fun pre2 v post2 ρ N2 e2 ⟨acc2, a1, a2, a3, a4, a5, a6, a7, a8, a9, er2, el2, eo2, ec2⟩ hN2 => ?_) ⟨acc, _, _, _, _, _, _, _, _, _, rfl, by simp, eo, fun w hw => by
      have := ec w hw
      rw [← hpu] at this
      split at this <;> rename_i hh
      · rw [if_pos hh]; omega
      · rw [if_neg hh]; omega⟩ fun ρ ⟨acc2, a1, a2, a3, a4, a5, a6, a7, a8, a9, er2, el2, eo2, ec2⟩ => ?_
    · subst er2
      rw [fold_count, Nat.zero_add] at hN2 el2 ec2
      have hp2 := pre_lt e2
      have hv : v < u := List.mem_range.mp (by rw [e2]; simp)
      have hpv : v = pre2.length := by
        have := congrArg (fun l => l[pre2.length]?) e2
        have h2 : pre2.length < u := by omega
        simp [h2] at this
        exact this.symm
      simp
      refine go_digit hn hl hat h4 hu hv (by omega) fun new z y a b d e f g k1 k2 => hN2 _ ⟨acc2 ++ new, _, _, _, _, _, _, _, _, _, rfl, by rw [List.length_append]; omega, fun t ht => ?_, fun w hw => ?_⟩
      · rcases List.mem_append.mp ht with ht | ht
        · exact eo2 t ht
        · exact ⟨(k2 t ht).1, (k2 t ht).2.2⟩
      · rw [cnt_app]
        have c1 := ec2 w hw
        have c2 := cnt_le names[w] new
        have c3 : w ≠ u → w ≠ v → cnt names[w] new = 0 := fun n1 n2 => cnt_off (fun t ht => (k2 t ht).2.1) (fun z => n1 ((List.getElem_inj hn.nd).mp z).symm) (fun z => n2 ((List.getElem_inj hn.nd).mp z).symm)
        by_cases w1 : w < u
        · rw [if_pos w1] at c1 ⊢
          by_cases w2 : w = v
          · rw [if_neg (by omega)] at c1
            rw [if_pos (by omega)]
            omega
          · have := c3 (by omega) w2
            by_cases w3 : w < pre2.length
            · rw [if_pos w3] at c1
              rw [if_pos (by omega)]
              omega
            · rw [if_neg w3] at c1
              rw [if_neg (by omega)]
              omega
        · rw [if_neg w1] at c1 ⊢
          by_cases w2 : w = u
          · rw [if_pos w2] at c1 ⊢; omega
          · rw [if_neg w2] at c1 ⊢
            have := c3 w2 (by omega)
            omega
    · subst er2
      rw [fold_count, Nat.zero_add] at el2 ec2
      simp only [List.length_range] at el2 ec2
      refine hN _ ⟨acc2, _, _, _, _, _, _, _, _, _, _, rfl, ?_, eo2, fun w hw => ?_⟩
      · rw [Nat.add_sub_cancel]
        omega
      · have c1 := ec2 w hw
        rw [← hpu]
        by_cases w1 : w < u
        · rw [if_pos w1, if_pos w1] at c1
          rw [if_pos (by omega)]
          omega
        · rw [if_neg w1] at c1
          by_cases w2 : w = u
          · rw [if_pos w2] at c1
            rw [if_pos (by omega)]
            omega
          · rw [if_neg w2] at c1
            rw [if_neg (by omega)]
            omega
  · subst er
    rw [fold_count, Nat.zero_add] at el ec
    simp only [List.length_range] at el ec
    have ht := hn.hi
    have hmax : ∀ m : Nat, m ≤ 8 → m * (m - 1) / 2 ≤ 28 := by decide
    have := hmax names.length ht
    simp [sRetO]
    exact q acc ⟨by omega, fun t ht => (eo t ht).1⟩ fun h t ht => (eo t ht).2 h
end Tw.S

namespace Tw.S
open PySem PySem.Spec L2 PyProof.Rows Tw
/-! which lists are posts -/
/-! sorted sets of tuples -/
/-! where one may go -/
structure WaysOk (n j : Nat) (ways : List (List Int)) : Prop where
  ne : ways ≠ []
  lev : ∀ w ∈ ways, w ∈ levels n 0 j
  nd : ways.Nodup
end Tw.S

namespace Tw.S
open PySem PySem.Spec L2 PyProof.Rows Tw
theorem mem_row13 {n : Nat} {f : Nat → Bool} {x : Int} : x ∈ rowF n f ↔ ∃ v : Nat, v < n ∧ f v = true ∧ x = v := by
  unfold rowF
  rw [List.mem_map]
  constructor
  · rintro ⟨v, hv, e⟩
    have := List.mem_filter.mp hv
    exact ⟨v, List.mem_range.mp this.1, this.2, e.symm⟩
  · rintro ⟨v, h1, h2, e⟩
    exact ⟨v, List.mem_filter.mpr ⟨List.mem_range.mpr h1, h2⟩, e.symm⟩
theorem nd_row13 (n : Nat) (f : Nat → Bool) : (rowF n f).Nodup := by
  unfold rowF
  exact nodup_map (List.nodup_range.filter _) fun x _ y _ h => by omega
theorem steps_row13 {n u : Nat} {f : Nat → Bool} (hu : u < n) (hf : f u = false) : stepsF (rowF n f) u = rowF n fun v => decide (v = u) || f v := by
  unfold stepsF
  refine sorted_one ((List.mergeSort_perm _ _).trans ?_) (merge_srt _) (rowF_srt _ _)
  refine (List.perm_ext_iff_of_nodup (List.nodup_cons.mpr ⟨fun z => ?_, nd_row13 _ _⟩) (nd_row13 _ _)).mpr fun x => ?_
  · obtain ⟨v, _, h2, e⟩ := mem_row13.mp z
    have : u = v := by omega
    rw [← this, hf] at h2
    cases h2
  · rw [List.mem_cons, mem_row13, mem_row13]
    constructor
    · rintro (e | ⟨v, h1, h2, e⟩)
      · exact ⟨u, hu, by simp, e⟩
      · exact ⟨v, h1, by simp [h2], e⟩
    · rintro ⟨v, h1, h2, e⟩
      rw [Bool.or_eq_true, decide_eq_true_eq] at h2
      rcases h2 with h2 | h2
      · exact .inl (by rw [e, h2])
      · exact .inr ⟨v, h1, h2, e⟩
theorem row_len (n : Nat) (f : Nat → Bool) : (rowF n f).length ≤ n := by
  unfold rowF
  rw [List.length_map]
  have := List.length_filter_le f (List.range n)
  rwa [List.length_range] at this
theorem beatG_lt {c : Nat} {b : Int} (hc : 1 ≤ c) : beatG c b < c := by
  have h1 := Int.emod_nonneg b (show (c : Int) ≠ 0 by omega)
  have h2 := Int.emod_lt_of_pos b (show (0 : Int) < c by omega)
  unfold beatG
  omega
theorem steps_go13 {C CU : Addr} {xc : XC} {names : List Str} {c u : Nat} {L : Psg} {b : Int} {Q : Bool → D → Prop} (hn : names.length ≤ 8) (hc : 1 ≤ c) (hu : u < names.length) (hL : ∀ b u, L b u u = false) (q : Q false (tI (rowF names.length fun v => decide (v = u) || L (beatG c b) u v))) :
    wf_Web_steps C CU xc [webP C names c L, .int u, .int b] Q := by
  refine ⟨names, c, _, u, b, rfl, hn, hc, fun z => absurd z (by omega), fun _ _ => ⟨(List.range names.length).map fun u => stepsF (rowF names.length (L (beatG c b) u)) u, _, ?_, ?_, q⟩⟩
  · rw [steps_tab]
    have := beatG_lt (c := c) (b := b) hc
    unfold beatG at this ⊢
    simp [this]
  · simp [hu, steps_row13 hu (hL (beatG c b) u)]
end Tw.S

namespace Tw.S
open PySem PySem.Spec L2 PyProof.Rows Tw
section
variable {CF CW : Addr} {w : Pw} {fs : List (Nat × Nat)} {A : List Nat} {Q : D → Prop}
@[simp] theorem fd_web : fldOf CF "web" (foldD CF CW w fs A) Q = Q (w.d CW) := fldOf_mk rfl
@[simp] theorem fd_folds : fldOf CF "folds" (foldD CF CW w fs A) Q = Q (t2 (fsI fs)) := fldOf_mk rfl
@[simp] theorem fd_left : fldOf CF "left" (foldD CF CW w fs A) Q = Q (tI (natI A)) := fldOf_mk rfl
end
theorem mem_natI {A : List Nat} {x : Nat} : (x : Int) ∈ natI A ↔ x ∈ A := by
  unfold natI
  rw [List.mem_map]
  constructor
  · rintro ⟨y, hy, e⟩
    have : y = x := by omega
    exact this ▸ hy
  · intro h; exact ⟨x, h, rfl⟩
theorem natI_len (A : List Nat) : (natI A).length = A.length := by simp [natI]
theorem fsI_len (A : List (Nat × Nat)) : (fsI A).length = A.length := by simp [fsI]
theorem oIn_nT {x : Nat} {A : List Nat} {Q : D → Prop} {neg : Bool} : oIn neg (.int x) (tI (natI A)) Q = Q (.bl (if neg = true then !decide (x ∈ A) else decide (x ∈ A))) := by
  have h := any_int (i := (x : Int)) (natI A)
  have o := ok_tI (natI A)
  have e : decide ((x : Int) ∈ natI A) = decide (x ∈ A) := by rw [decide_eq_decide]; exact mem_natI
  rw [e] at h
  unfold tI at o ⊢
  simp only [oIn, ok_int, o, h, true_and]
theorem oIn_nL {x : Nat} {A : List Nat} {Q : D → Prop} {neg : Bool} : oIn neg (.int x) (iL (natI A)) Q = Q (.bl (if neg = true then !decide (x ∈ A) else decide (x ∈ A))) := by
  have h := any_int (i := (x : Int)) (natI A)
  have o := ok_tI (natI A)
  have e : decide ((x : Int) ∈ natI A) = decide (x ∈ A) := by rw [decide_eq_decide]; exact mem_natI
  rw [e] at h
  unfold tI at o
  have o2 : (D.lst ((natI A).map .int)).ok := o
  unfold iL
  simp only [oIn, ok_int, o2, h, true_and]
theorem oEq_nn {x y : Nat} {Q : D → Prop} : oEq (.int x) (.int y) Q = Q (.bl (decide (x = y))) := by
  unfold oEq
  simp [ok_int, D.py, PyData.eqv]
  have e : ((x : Int) == (y : Int)) = decide (x = y) := by
    rw [Bool.eq_iff_iff]
    simp
    omega
  rw [e]
theorem oNe_nn {x y : Nat} {Q : D → Prop} : oNe (.int x) (.int y) Q = Q (.bl (decide (x ≠ y))) := by
  unfold oNe
  simp [ok_int, D.py, PyData.eqv]
  have e : ((x : Int) == (y : Int)) = decide (x = y) := by
    rw [Bool.eq_iff_iff]
    simp
    omega
  rw [e]
theorem tI_nat (A : List Nat) : tI (natI A) = .tup (A.map fun x : Nat => D.int (x : Nat)) := by
  unfold tI natI
  rw [List.map_map]
  rfl
theorem iL_nat (A : List Nat) : iL (natI A) = .lst (A.map fun x : Nat => D.int (x : Nat)) := by
  unfold iL natI
  rw [List.map_map]
  rfl
theorem lc_accF {α : Type} {g : Wg} {tt : Wt} {we : Wx} {ρ : Evn} {Q : List D → Prop} (c : α → D) (p : α → Bool) (f : α → D) : ∀ (l : List α) (acc : List D), (∀ x ∈ l, ∀ (k1 : D → Prop) (k2 : Prop), (p x = true → k1 (f x)) → (p x = false → k2) → g (c x) ρ fun ρ' => tt xcNo ρ' fun t => if t = true then we xcNo ρ' k1 else k2) → acc.length + l.length ≤ sizeLine → Q (acc ++ (l.filter p).map f) → lcW g tt we ρ Q (l.map c) acc
  | [], acc, _, _, q => by simpa [lcW] using q
  | x :: l, acc, h, hz, q => by
    rw [List.length_cons] at hz
    refine h x (by simp) _ _ (fun hp => ⟨by omega, lc_accF c p f l _ (fun y hy => h y (by simp [hy])) (by simp; omega) ?_⟩) fun hp => lc_accF c p f l _ (fun y hy => h y (by simp [hy])) (by omega) ?_
    · simpa [List.filter_cons, hp] using q
    · simpa [List.filter_cons, hp] using q
theorem fold_asc {R : Nat → Nat → Bool} {L A : List Nat} {fs : List (Nat × Nat)} (h : FoldTo R L fs A) (asc : L.Pairwise (· < ·)) : A.Pairwise (· < ·) := by
  induction h with
  | nil => exact asc
  | cons c f ih => exact ih (less_asc asc)
theorem p_check_plain (CW CN : Addr) (xc : XC) (ds : List D) (Q : Bool → D → Prop) (h : wf_check_plain CW CN xc ds Q) : b_check_plain CW CN (Zd xc Q) (ds.map .da ++ List.replicate (1 - ds.length) .no) := by
  obtain ⟨names, c, L, rfl, hn, h1, h4, q1, q2⟩ := h
  have hi := hn.hi
  simp [b_check_plain, sRaise0, wProp]
  refine ⟨⟨_, rfl⟩, names, c, L, rfl, hi, h1, h4, ?_⟩
  cases e : plainB names.length c L with
  | false => exact .inl ⟨rfl, q1 e⟩
  | true => exact .inr ⟨rfl, q2 e⟩
theorem beat0 {c : Nat} : beatG c 0 = 0 := by simp [beatG]
theorem cov_rows {w : Pw} {A : List Nat} {u v : Nat} (hA : ∀ x ∈ A, x < w.n) (hne : u ≠ v) (hu : u ∈ A) (hv : v ∈ A) : (((rowF w.names.length fun x => decide (x = u) || w.L (beatG w.c 0) u x).filter fun x => decide (x ∈ natI A)).map fun x => decide (x ∈ rowF w.names.length fun x => decide (x = v) || w.L (beatG w.c 0) v x)).all id = covB w.n w.R A u v := by
  have nr : ∀ x p : Nat, x < w.n → p < w.n → (Near w.R x p ↔ (decide (p = x) || w.L (beatG w.c 0) x p) = true) := fun x p hx hp => by
    unfold Near Pw.R
    rw [beat0, Bool.or_eq_true, decide_eq_true_eq]
    constructor
    · rintro (h | h)
      · exact .inl h.symm
      · rw [Bool.and_eq_true] at h
        exact .inr h.2
    · rintro (h | h)
      · exact .inl h.symm
      · refine .inr ?_
        rw [decide_eq_true hx, decide_eq_true hp]
        exact h
  rw [Bool.eq_iff_iff, covB_iff, List.all_map, List.all_eq_true]
  constructor
  · intro h
    refine ⟨hne, hu, hv, fun p hp hn => ?_⟩
    have hpn := hA p hp
    have := h (p : Int) (List.mem_filter.mpr ⟨mem_row13.mpr ⟨p, hpn, (nr u p (hA u hu) hpn).mp hn, rfl⟩, decide_eq_true (mem_natI.mpr hp)⟩)
    obtain ⟨p', h1, h2, e⟩ := mem_row13.mp (of_decide_eq_true this)
    have e' : p = p' := by omega
    subst e'
    exact (nr v p (hA v hv) hpn).mpr h2
  · rintro ⟨_, _, _, h⟩ x hx
    obtain ⟨h1, h2⟩ := List.mem_filter.mp hx
    obtain ⟨p, hp, hf, rfl⟩ := mem_row13.mp h1
    have hpA := mem_natI.mp (of_decide_eq_true h2)
    exact decide_eq_true (mem_row13.mpr ⟨p, hp, (nr v p (hA v hv) hp).mp (h p hpA ((nr u p (hA u hu) hp).mpr hf)), rfl⟩)
theorem p_without (xc : XC) (ds : List D) (Q : Bool → D → Prop) (h : wf_without xc ds Q) : b_without (Zd xc Q) (ds.map .da ++ List.replicate (3 - ds.length) .no) := by
  obtain ⟨A, u, rfl, hl, q⟩ := h
  have hs := sizeLine_eq
  rw [tI_nat]
  simp [b_without]
  refine lc_ofF A (fun x : Nat => D.int (x : Nat)) (fun x => decide (x ≠ u)) (fun x => D.int (x : Nat)) (fun x hx k1 k2 h1 h2 => ?_) (by omega) ?_
  · simp [oNe_nn]
    by_cases e : x = u
    · exact .inl ⟨by omega, h2 (by simpa using e)⟩
    · exact .inr ⟨by omega, h1 (by simpa using e)⟩
  · rw [tI_nat] at q
    exact q
theorem p_Folding_whole (CF : Addr) (xc : XC) (ds : List D) (Q : Bool → D → Prop) (h : wf_Folding_whole CF xc ds Q) : b_Folding_whole CF (Zd xc Q) (ds.map .da ++ List.replicate (1 - ds.length) .no) := by
  obtain ⟨CW, w, fs, A, rfl, q⟩ := h
  have hs := sizeLine_eq
  simp [b_Folding_whole, natI_len]
  exact q
theorem p_is_covered (CW CU : Addr) (xc : XC) (ds : List D) (Q : Bool → D → Prop) (h : wf_is_covered CW xc ds Q) : b_is_covered CW CU (Zd xc Q) (ds.map .da ++ List.replicate (5 - ds.length) .no) := by
  obtain ⟨w, A, u, v, rfl, hw, hA, hl, q⟩ := h
  have hs := sizeLine_eq
  have hi := hw.nm.hi
  simp only [b_is_covered, sSeq, sIf, wOr]
  simp [oIn_nT, oEq_nn]
  have cb : u = v ∨ u ∉ A ∨ v ∉ A → covB w.n w.R A u v = false := fun h => by
    cases e : covB w.n w.R A u v with
    | false => rfl
    | true =>
      obtain ⟨a, b, c, _⟩ := covB_iff.mp e
      rcases h with h | h | h
      · exact absurd h a
      · exact absurd b h
      · exact absurd c h
  by_cases e1 : u = v
  · rw [cb (.inl e1)] at q
    exact .inr ⟨by omega, q⟩
  refine .inl ⟨by omega, ?_⟩
  by_cases e2 : u ∈ A
  · refine .inl ⟨e2, ?_⟩
    by_cases e3 : v ∈ A
    · refine .inl ⟨e3, ⟨_, rfl, rfl⟩, steps_go13 hi hw.lo (hA u e2) hw.ir ⟨_, rfl, ?_⟩⟩
      have rl := row_len w.names.length fun x => decide (x = u) || w.L (beatG w.c 0) u x
      refine lc_ofF _ D.int (fun x => decide (x ∈ natI A)) (fun x => .bl (decide (x ∈ rowF w.names.length fun x => decide (x = v) || w.L (beatG w.c 0) v x))) (fun x hx k1 k2 h1 h2 => ?_) (by omega) ?_
      · simp
        by_cases hm : x ∈ natI A
        · refine .inr ⟨hm, ⟨_, rfl, rfl⟩, steps_go13 hi hw.lo (hA v e3) hw.ir ?_⟩
          simp
          exact h1 (by simpa using hm)
        · exact .inl ⟨hm, h2 (by simpa using hm)⟩
      · refine oAll_b (bs := ((rowF w.names.length fun x => decide (x = u) || w.L (beatG w.c 0) u x).filter fun x => decide (x ∈ natI A)).map fun x => decide (x ∈ rowF w.names.length fun x => decide (x = v) || w.L (beatG w.c 0) v x)) (by rw [List.map_map]; rfl) ?_
        rw [cov_rows hA e1 e2 e3]
        exact q
    · rw [cb (.inr (.inr e3))] at q
      exact .inr ⟨e3, q⟩
  · rw [cb (.inr (.inl e2))] at q
    exact .inr ⟨e2, q⟩
theorem p_least_fold (CW : Addr) (xc : XC) (ds : List D) (Q : Bool → D → Prop) (h : wf_least_fold CW xc ds Q) : b_least_fold CW (Zd xc Q) (ds.map .da ++ List.replicate (5 - ds.length) .no) := by
  obtain ⟨w, A, rfl, hw, hasc, hA, hl, q⟩ := h
  have hs := sizeLine_eq
  rw [tI_nat]
  simp [b_least_fold]
  have go : ∀ (r : List Nat) (acc : List (Nat × Nat)) (Qd : List D → Prop), acc.length + 8 * r.length ≤ 1000 → Qd ((acc ++ r.flatMap fun u => (A.filter fun v => covB w.n w.R A u v).map fun v => (u, v)).map fun q => tI (pairI q)) →
      lc2W (gSet 3) wtYes (wiS (wVar 1)) [4] (gSet 4) (wTru (wCall (wf_is_covered CW) [] (waCons (wVar 0) (waCons (wVar 1) (waCons (wVar 3) (waCons (wVar 4) waNil)))))) (wTup (waCons (wVar 3) (waCons (wVar 4) waNil)))
        [Sl.da (w.d CW), Sl.da (.tup (A.map fun x : Nat => D.int (x : Nat))), .no, .no, .no] Qd (r.map fun x : Nat => D.int (x : Nat)) (acc.map fun q => tI (pairI q)) := by
    intro r
    induction r with
    | nil => intro acc Qd _ q; simpa [lc2W] using q
    | cons u r ih =>
      intro acc Qd hz q
      rw [List.length_cons] at hz
      rw [List.map_cons, lc2W]
      simp [wtYes]
      have fl := List.length_filter_le (fun v => covB w.n w.R A u v) A
      refine lc_accF (fun x : Nat => D.int (x : Nat)) (fun v => covB w.n w.R A u v) (fun v => tI (pairI (u, v))) A _ (fun v hv k1 k2 h1 h2 => ?_) (by simp; omega) ?_
      · simp [wCall]
        refine ⟨w, A, u, v, by rw [tI_nat], hw, hA, hl, ?_⟩
        cases e : covB w.n w.R A u v with
        | true => exact .inr ⟨rfl, by omega, h1 e⟩
        | false => exact .inl ⟨rfl, h2 e⟩
      · have := ih (acc ++ (A.filter fun v => covB w.n w.R A u v).map fun v => (u, v)) Qd (by simp; omega) (by simpa using q)
        simpa [Function.comp_def] using this
  refine go A [] _ (by simp; omega) ?_
  rw [List.nil_append]
  show (_ ∧ _) ∨ (_ ∧ _)
  have ep : (A.flatMap fun u => (A.filter fun v => covB w.n w.R A u v).map fun v => (u, v)) = possF w.n w.R A := rfl
  rw [ep]
  cases e : (possF w.n w.R A).head? with
  | none =>
    have h0 := List.head?_eq_none_iff.mp e
    rw [e] at q
    rw [h0]
    exact .inl ⟨rfl, q⟩
  | some x =>
    rw [e] at q
    have hne : possF w.n w.R A ≠ [] := fun z => by rw [z] at e; cases e
    refine .inr ⟨by simpa using hne, ?_⟩
    refine ⟨(possF w.n w.R A).map pairI, by rw [List.map_map]; rfl, by simpa using hne, fun b hb hm => ?_⟩
    rw [poss_head hasc e b hb hm]
    exact q
theorem p_Folding_finished (CF CW : Addr) (xc : XC) (ds : List D) (Q : Bool → D → Prop) (h : wf_Folding_finished CF CW xc ds Q) : b_Folding_finished CF CW (Zd xc Q) (ds.map .da ++ List.replicate (1 - ds.length) .no) := by
  obtain ⟨w, fs, A, rfl, hw, hf, q⟩ := h
  have hs := sizeLine_eq
  simp [b_Folding_finished, wCall]
  have hl := fold_len hf List.nodup_range
  have hi := hw.nm.hi
  have vl : w.V.length = w.names.length := by simp [Pw.V, Pw.n]
  refine ⟨w, A, rfl, hw, fold_asc hf List.pairwise_lt_range, fun x hx => List.mem_range.mp (fold_sub hf x hx), by omega, ?_⟩
  have e : (lfD (possF w.n w.R A).head?).isN = (possF w.n w.R A).isEmpty := by
    cases possF w.n w.R A <;> rfl
  dsimp only
  rw [e]
  exact q
theorem oEq_t2s {l : List (List Int)} {Q : D → Prop} : oEq (t2 l) (t2 l) Q = Q (.bl true) := by
  have o := ok_ptI l
  have o1 : (t2 l).ok := o
  unfold oEq
  have o2 := o1.2
  unfold SeqAt.shaped at o2
  rw [Bool.and_eq_true] at o2
  simp only [o1, true_and]
  rw [SeqAt.eqv_refl _ o2.1]
theorem p_Folding___eq__ (CF CW : Addr) (xc : XC) (ds : List D) (Q : Bool → D → Prop) (h : wf_Folding___eq__ CF CW xc ds Q) : b_Folding___eq__ CF CW (Zd xc Q) (ds.map .da ++ List.replicate (2 - ds.length) .no) := by
  obtain ⟨w, fs, A, rfl, hw, hf, q⟩ := h
  have hs := sizeLine_eq
  simp [b_Folding___eq__, wIsO, wEqO]
  refine ⟨⟨_, rfl⟩, ⟨_, rfl⟩, w.names, w.c, tabF w.names.length w.c w.L, w.names, w.c, tabF w.names.length w.c w.L, rfl, hw.nm, hw.nm, .inr ⟨by simp, ?_⟩⟩
  rw [oEq_t2s]
  exact q
theorem p_Folding_shadow (CF CW CB CU : Addr) (xc : XC) (ds : List D) (Q : Bool → D → Prop) (h : wf_Folding_shadow CF CW xc ds Q) : b_Folding_shadow CF CW CB CU (Zd xc Q) (ds.map .da ++ List.replicate (5 - ds.length) .no) := by
  obtain ⟨w, fs, A, x, rfl, hw, hf, hx, q⟩ := h
  have hs := sizeLine_eq
  have hi := hw.nm.hi
  simp only [b_Folding_shadow, sSeq, sIf, wNot, wCh]
  simp [wCall, sFor, t2, fsI_len]
  refine ⟨w.names, w.c, _, x, rfl, hi, fun z => absurd z (by unfold Pw.n at hx; omega), fun _ _ => ?_⟩
  have ec : cutD ((fsI fs).map tI) none (some (fs.length : Int)) = fs.map fun q => tI (pairI q) := by
    unfold cutD
    rw [HT.sIx_none, HT.sIx_nat]
    simp [fsI]
    rw [List.take_of_length_le (by simp)]
    rfl
  have ed : ∀ Q : D → Prop, oSl (D.tup ((fsI fs).map tI)) none (some (fs.length : Int)) Q = Q (.tup (fs.map fun q => tI (pairI q))) := fun Q => by
    show Q (.tup (cutD _ _ _)) = _
    rw [ec]
  simp [wSl, woN, woS, t2, ed]
  refine for_fold fs (fun q => tI (pairI q)) (fun x (q : Nat × Nat) => if x = q.1 then q.2 else x) (fun (x : Nat) ρ => ∃ a b, ρ = [Sl.da (foldD CF CW w fs A), Sl.da (.int fs.length), Sl.da (.int x), a, b]) x (fun pre r post ρ N e ⟨a, b, er⟩ hN => ?_) ⟨_, _, rfl⟩ fun ρ ⟨a, b, er⟩ => ?_
  · subst er
    have ep : tI (pairI r) = .tup [.int r.1, .int r.2] := rfl
    rw [ep]
    simp [gTupD, gsCons, gsNil]
    refine ⟨_, _, ⟨rfl, rfl⟩, _, _, rfl, rfl, ?_⟩
    simp [oEq_nn]
    by_cases h : pre.foldl (fun x (q : Nat × Nat) => if x = q.1 then q.2 else x) x = r.1
    · rw [if_pos h] at hN
      exact .inr ⟨by omega, hN _ ⟨_, _, rfl⟩⟩
    · rw [if_neg h] at hN
      exact .inl ⟨by omega, hN _ ⟨_, _, rfl⟩⟩
  · subst er
    simp
    exact q
theorem p_left_by (CW CB : Addr) (xc : XC) (ds : List D) (Q : Bool → D → Prop) (h : wf_left_by CW xc ds Q) : b_left_by CW CB (Zd xc Q) (ds.map .da ++ List.replicate (5 - ds.length) .no) := by
  obtain ⟨w, fs, A, rfl, hw, hf, q⟩ := h
  have hs := sizeLine_eq
  have hi := hw.nm.hi
  have fl := fold_len hf List.nodup_range
  have vl : w.V.length = w.names.length := by simp [Pw.V, Pw.n]
  simp [b_left_by, sFor, wTupR, wCall]
  refine ⟨⟨_, rfl⟩, w.names, w.c, _, rfl, _, rfl, ⟨by omega, by omega⟩, w.names.length, rfl, by omega, ?_⟩
  simp only [wiEnA]
  refine ⟨_, rfl, (fsI fs).map tI, rfl, ?_⟩
  have eV : D.tup ((List.range w.names.length).map fun i : Nat => D.int (i : Nat)) = tI (natI w.V) := by rw [tI_nat]; rfl
  rw [eV]
  have ez : ((fsI fs).map tI).zipIdx.map (fun q => D.tup [.int q.2, q.1]) = fs.zipIdx.map fun q => D.tup [.int q.2, tI (pairI q.1)] := by
    unfold fsI
    rw [List.map_map, List.zipIdx_map, List.map_map]
    rfl
  rw [ez]
  refine for_fold fs.zipIdx (fun q => D.tup [.int q.2, tI (pairI q.1)]) (fun L q => less L q.1.1) (fun L ρ => ∃ a b, ρ = [Sl.da (w.d CW), Sl.da (t2 (fsI fs)), Sl.da (tI (natI L)), a, b]) w.V (fun pre r post ρ N e ⟨a, b, er⟩ hN => ?_) ⟨_, _, rfl⟩ fun ρ ⟨a, b, er⟩ => ?_
  · subst er
    have e1 : fs = pre.map Prod.fst ++ (r.1 :: post.map Prod.fst) := by
      have := congrArg (List.map Prod.fst) e
      simpa [List.zipIdx_map_fst] using this
    have e2 : pre.foldl (fun L q => less L q.1.1) w.V = leftAfter w.V (pre.map Prod.fst) := by
      unfold leftAfter
      rw [List.foldl_map]
    rw [e2] at hN ⊢
    rw [e1] at hf
    obtain ⟨f1, f2⟩ := fold_split hf
    have hc := fold_cov f2
    have l1 := fold_len f1 List.nodup_range
    have ep : tI (pairI r.1) = .tup [.int r.1.1, .int r.1.2] := rfl
    have hb : ∀ x ∈ leftAfter w.V (pre.map Prod.fst), x < w.n := fun x hx => List.mem_range.mp (fold_sub f1 x hx)
    generalize leftAfter w.V (pre.map Prod.fst) = L at *
    have a0 : atI [D.int r.1.1, D.int r.1.2] 0 = some (D.int r.1.1) := rfl
    have a1 : atI [D.int r.1.1, D.int r.1.2] 1 = some (D.int r.1.2) := rfl
    simp [gTupD, gsCons, gsNil]
    refine ⟨_, _, ⟨rfl, rfl⟩, _, _, rfl, rfl, ?_⟩
    rw [ep]
    have oL : ∀ Q : D → Prop, oLen [D.tup [D.int r.1.1, D.int r.1.2]] Q = Q (.int 2) := fun Q => rfl
    have on : ∀ Q : D → Prop, oNe (.int 2) (.int 2) Q = Q (.bl false) := fun Q => by
      unfold oNe
      simp [ok_int, D.py, PyData.eqv]
    rw [oL, on]
    refine .inl ⟨rfl, _, a0, _, a1, w, L, r.1.1, r.1.2, rfl, hw, hb, by omega, .inr ⟨by rw [covB_iff.mpr hc]; rfl, _, a0, L, r.1.1, rfl, by omega, hN _ ⟨_, _, rfl⟩⟩⟩
  · subst er
    have e2 : fs.zipIdx.foldl (fun L q => less L q.1.1) w.V = leftAfter w.V fs := by
      unfold leftAfter
      conv => rhs; rw [← List.zipIdx_map_fst 0 fs]
      rw [List.foldl_map]
    rw [e2, ← fold_left hf]
    simp
    exact q
theorem p_Folding_init (CF CW CN : Addr) (xc : XC) (ds : List D) (Q : List (Str × D) → Prop) (p : Addr) (h : wi_Folding CW xc ds Q) : b_Folding___init__ CF CW CN { nx := fun ρ => ∃ fs, ρ[0]? = some (.se p CF fs) ∧ Q fs, rt := fun _ _ => False, xc := xc } (.se p CF [] :: (ds.map .da ++ List.replicate (4 - (ds.length + 1)) .no)) := by
  obtain ⟨w, fs, A, rfl, hw, hf, q⟩ := h
  have hs := sizeLine_eq
  have hi := hw.nm.hi
  have fl := fold_len hf List.nodup_range
  have vl : w.V.length = w.names.length := by simp [Pw.V, Pw.n]
  simp (decide := true) [b_Folding___init__, sFldD, ex2, ex2', putD, wCall, wSelf]
  refine ⟨w.names, w.c, w.L, rfl, hw.nm, hw.lo, hw.hi, fun e => (by rw [hw.pl] at e; cases e), fun _ => ?_⟩
  refine lc_of (fsI fs) tI tI (fun x hx k1 h1 => ?_) (by rw [fsI_len]; omega) ?_
  · simp [tI]
    exact h1
  · refine ⟨_, rfl, w, fs, A, rfl, hw, hf, q⟩
theorem p_fold_up (CF CW CN : Addr) (xc : XC) (ds : List D) (Q : Bool → D → Prop) (h : wf_fold_up CF CW CN xc ds Q) : b_fold_up CF CW CN (Zd xc Q) (ds.map .da ++ List.replicate (4 - ds.length) .no) := by
  obtain ⟨w, rfl, hn, h1, h4, ir, q1, q2⟩ := h
  have hs := sizeLine_eq
  have hi := hn.hi
  simp [b_fold_up, wTupR, wCall, wMakeK, gD_K_Folding_2]
  refine ⟨w.names, w.c, w.L, rfl, hn, h1, h4, q1, fun pl => ?_⟩
  have hw : w.Ok := ⟨hn, h1, h4, ir, pl⟩
  have q := q2 pl
  have eV : D.tup ((List.range w.names.length).map fun i : Nat => D.int (i : Nat)) = tI (natI w.V) := by rw [tI_nat]; rfl
  refine ⟨⟨_, rfl⟩, w.names, w.c, _, rfl, _, rfl, ⟨by omega, by omega⟩, w.names.length, rfl, by omega, ?_⟩
  rw [eV]
  have vl : w.V.length = w.names.length := by simp [Pw.V, Pw.n]
  refine ⟨w, w.V, rfl, hw, List.pairwise_lt_range, fun x hx => List.mem_range.mp hx, by omega, ?_⟩
  refine ⟨fun m ρ => ∃ (fs : List (Nat × Nat)) (A : List Nat), ρ = [Sl.da (w.d CW), Sl.ow (pL (fsI fs)), Sl.da (tI (natI A)), Sl.da (lfD (possF w.n w.R A).head?)] ∧ FoldTo w.R w.V fs A ∧ m = A.length ∧ w.gr = (fs ++ (greedy w.n w.R A.length A).1, (greedy w.n w.R A.length A).2), ⟨w.V.length, [], w.V, rfl, .nil, rfl, ?_⟩, fun m ρ ⟨fs, A, er, hf, em, hg⟩ => ?_⟩
  · unfold Pw.gr
    rw [vl]
    rfl
  · subst er
    have fl := fold_len hf List.nodup_range
    have hsub : ∀ x ∈ A, x < w.n := fun x hx => List.mem_range.mp (fold_sub hf x hx)
    have hasc := fold_asc hf List.pairwise_lt_range
    cases e : (possF w.n w.R A).head? with
    | none =>
      rw [greedy_none A.length e, List.append_nil] at hg
      rw [hg] at q
      simp [lfD, sFrz]
      simp [wMakeK, gD_K_Folding_2]
      exact ⟨w, fs, A, rfl, hw, hf, q⟩
    | some r =>
      have hc := mem_poss.mp (List.mem_of_mem_head? e)
      have ll := less_len (fold_nd hf List.nodup_range) hc.2.1
      have ep : lfD (some r) = .tup [.int r.1, .int r.2] := rfl
      rw [ep]
      simp [sApp]
      refine ⟨(fsI fs).map tI, rfl, by simp [fsI]; omega, _, rfl, A, r.1, rfl, by omega, w, less A r.1, rfl, hw, less_asc hasc, fun x hx => hsub x (mem_less.mp hx).1, by omega, (less A r.1).length, by omega, fs ++ [r], less A r.1, ⟨by simp [fsI, pL]; rfl, rfl, rfl⟩, fold_app hf (.cons hc .nil), rfl, ?_⟩
      rw [← ll, greedy_some e] at hg
      rw [hg]
      simp
end Tw.S

namespace Tw.S
open PySem PySem.Spec L2 PyProof.Rows Tw
theorem p_law_web_of (xc : XC) (ds : List D) (Q : Bool → D → Prop) (h : wf_law_web_of xc ds Q) : b_law_web_of (Zd xc Q) (ds.map .da ++ List.replicate (10 - ds.length) .no) := by
  obtain ⟨l, g, k, lg, rfl, hl, h40, hg1, hg8, hk1, hk3, hlg1, hlg4, q⟩ := h
  have hs := sizeLine_eq
  have dr : ∀ i : Int, 0 ≤ i → i < 40 → ∃ x, atI l i = some x ∧ 0 ≤ x ∧ x < 1000 := fun i h0 h1 => by
    refine ⟨l[i.toNat], ?_, hl _ (List.getElem_mem (by omega))⟩
    rw [atI_at h0 (by omega), List.getElem?_eq_getElem (by omega)]
  obtain ⟨x0, e0, _, _⟩ := dr 0 (by omega) (by omega)
  obtain ⟨x1, e1, _, _⟩ := dr 1 (by omega) (by omega)
  obtain ⟨x2, e2, _, _⟩ := dr 2 (by omega) (by omega)
  have em : (g : Int) - 1 + 1 = g := by omega
  have m0 := Int.emod_nonneg x0 (show (g : Int) ≠ 0 by omega)
  have m1 := Int.emod_lt_of_pos x0 (show (0 : Int) < g by omega)
  have n0 := Int.emod_nonneg x1 (show (k : Int) ≠ 0 by omega)
  have n1 := Int.emod_lt_of_pos x1 (show (0 : Int) < k by omega)
  have o0 := Int.emod_nonneg x2 (show (lg : Int) ≠ 0 by omega)
  have o1 := Int.emod_lt_of_pos x2 (show (0 : Int) < lg by omega)
  obtain ⟨n, hn⟩ : ∃ n : Nat, 1 + x0 % g = n := ⟨(1 + x0 % g).toNat, by omega⟩
  have fin : ∀ c : Nat, 1 ≤ c → c ≤ 4 → r_law_web_of_5 (Zd xc Q) [Sl.da (iL l), Sl.da (.int 1), Sl.da (.int g), Sl.da (.int k), Sl.da (.int lg), Sl.da (.int n), Sl.da (.int (x1 % k)), Sl.da (.int c), .no, .no] := fun c h1 h4 => by
    simp [r_law_web_of_5, r_law_web_of_6, r_law_web_of_7, wCall]
    refine ⟨l, 3, n, rfl, hl, by omega, by omega, by omega, fun names en no => ⟨l, 6, names, c, x1 % k, rfl, hl, by omega, no, h1, h4, fun ts to pl => ⟨names, ts, c, rfl, no, to, h1, h4, by omega, q names ts c no to h1 h4 fun hk => pl ?_⟩⟩⟩
    subst hk
    omega
  simp [b_law_web_of, e0, em, hn]
  refine ⟨by omega, ?_⟩
  simp [r_law_web_of_1, e1]
  refine ⟨by omega, ?_⟩
  simp only [r_law_web_of_2, r_law_web_of_3, r_law_web_of_4, sSeq, sIf, wAnd]
  simp [e2]
  have f1 := fin 1 (by omega) (by omega)
  have f2 := fin 2 (by omega) (by omega)
  obtain ⟨c, hc⟩ : ∃ c : Nat, 1 + x2 % lg = c := ⟨(1 + x2 % lg).toNat, by omega⟩
  have f3 := fin c (by omega) (by omega)
  rw [hc]
  by_cases k2 : x1 % k = 2
  · exact .inr ⟨k2, by omega, .inl ⟨by omega, f3⟩⟩
  · refine .inl ⟨k2, .inr ⟨by omega, ?_⟩⟩
    by_cases k7 : x2 % 7 = 1
    · exact .inr ⟨k7, f2⟩
    · exact .inl ⟨k7, f1⟩
theorem rows_at {n u : Nat} {R : Nat → Nat → Bool} (hu : u < n) (Q : D → Prop) : oIx (rowsR n R) (.int u) Q = Q (iL (rowF n (R u))) := by
  unfold rowsR l2
  rw [oIx_l, atI_at (by omega) (by simp; omega)]
  simp [hu]
theorem rows_lenR (n : Nat) (R : Nat → Nat → Bool) (Q : D → Prop) : oLen [rowsR n R] Q = Q (.int n) := by
  unfold rowsR l2
  simp
theorem oIn_nR {neg : Bool} {x n : Nat} {f : Nat → Bool} (hx : x < n) (Q : D → Prop) : oIn neg (.int x) (iL (rowF n f)) Q = Q (.bl (if neg = true then !f x else f x)) := by
  have e : decide ((x : Int) ∈ rowF n f) = f x := by
    rw [Bool.eq_iff_iff, decide_eq_true_eq, mem_row13]
    constructor
    · rintro ⟨v, _, h, e⟩
      have : x = v := by omega
      exact this ▸ h
    · intro h; exact ⟨x, hx, h, rfl⟩
  have h := any_int (i := (x : Int)) (rowF n f)
  rw [e] at h
  have o := ok_tI (rowF n f)
  unfold tI at o
  have o2 : (D.lst ((rowF n f).map .int)).ok := o
  unfold iL
  simp only [oIn, ok_int, o2, h, true_and]
theorem p_law_covered (xc : XC) (ds : List D) (Q : Bool → D → Prop) (h : wf_law_covered xc ds Q) : b_law_covered (Zd xc Q) (ds.map .da ++ List.replicate (5 - ds.length) .no) := by
  obtain ⟨n, R, A, u, v, rfl, hn, hA, hl, hu, hv, q⟩ := h
  have hs := sizeLine_eq
  have hun := hA u hu
  have hvn := hA v hv
  rw [iL_nat]
  simp only [b_law_covered, sSeq, sIf, wAnd, wOr]
  simp [oEq_nn, sFor]
  by_cases e1 : u = v
  · refine .inr ⟨by omega, ?_⟩
    have : covB n R A u v = false := by
      cases e : covB n R A u v with
      | false => rfl
      | true => exact absurd e1 (covB_iff.mp e).1
    rw [this] at q
    exact q
  refine .inl ⟨by omega, ?_⟩
  refine for_fold A (fun x : Nat => D.int (x : Nat)) (fun pre x => pre ++ [x]) (fun pre ρ => (∃ a, ρ = [Sl.da (rowsR n R), Sl.da (.lst (A.map fun x : Nat => D.int (x : Nat))), Sl.da (.int u), Sl.da (.int v), a]) ∧ ∀ p ∈ pre, Near R u p → Near R v p) [] (fun pre x post ρ N e ⟨⟨a, er⟩, hp⟩ hN => ?_) ⟨⟨_, rfl⟩, by simp⟩ fun ρ ⟨⟨a, er⟩, hp⟩ => ?_
  · subst er
    rw [foldl_snoc, List.nil_append] at hN hp
    have hx : x ∈ A := by rw [e]; simp
    have hxn := hA x hx
    simp [oEq_nn, oNe_nn, rows_at hun, rows_at hvn, oIn_nR hxn]
    have good : (Near R u x → Near R v x) → N [Sl.da (rowsR n R), Sl.da (.lst (A.map fun x : Nat => D.int (x : Nat))), Sl.da (.int u), Sl.da (.int v), Sl.da (.int x)] := fun h => hN _ ⟨⟨_, rfl⟩, fun p hq => by
      rcases List.mem_append.mp hq with hq | hq
      · exact hp p hq
      · rw [List.mem_singleton.mp hq]; exact h⟩
    have bad : Near R u x → ¬ Near R v x → Q false (.bl false) := fun h1 h2 => by
      have : covB n R A u v = false := by
        cases e : covB n R A u v with
        | false => rfl
        | true => exact absurd ((covB_iff.mp e).2.2.2 x hx h1) h2
      rw [this] at q
      exact q
    by_cases hxu : x = u
    · refine .inr ⟨by omega, ?_⟩
      by_cases hxv : x = v
      · exact .inl ⟨by omega, good fun _ => .inl hxv.symm⟩
      · refine .inr ⟨by omega, ?_⟩
        cases e : R v x with
        | true => exact .inl ⟨rfl, good fun _ => .inr e⟩
        | false => exact .inr ⟨rfl, bad (.inl hxu.symm) fun z => by
            rcases z with z | z
            · exact hxv z.symm
            · rw [e] at z; cases z⟩
    · refine .inl ⟨by omega, ?_⟩
      cases eu : R u x with
      | false => exact .inl ⟨rfl, good fun z => by
          rcases z with z | z
          · exact absurd z.symm hxu
          · rw [eu] at z; cases z⟩
      | true =>
        refine .inr ⟨rfl, ?_⟩
        by_cases hxv : x = v
        · exact .inl ⟨by omega, good fun _ => .inl hxv.symm⟩
        · refine .inr ⟨by omega, ?_⟩
          cases e : R v x with
          | true => exact .inl ⟨rfl, good fun _ => .inr e⟩
          | false => exact .inr ⟨rfl, bad (.inr eu) fun z => by
              rcases z with z | z
              · exact hxv z.symm
              · rw [e] at z; cases z⟩
  · subst er
    rw [foldl_snoc, List.nil_append] at hp
    have : covB n R A u v = true := covB_iff.mpr ⟨e1, hu, hv, hp⟩
    rw [this] at q
    simp
    exact q
theorem p_law_possible (xc : XC) (ds : List D) (Q : Bool → D → Prop) (h : wf_law_possible xc ds Q) : b_law_possible (Zd xc Q) (ds.map .da ++ List.replicate (5 - ds.length) .no) := by
  obtain ⟨n, R, A, rfl, hn, hA, hl, q⟩ := h
  have hs := sizeLine_eq
  have hlen : ∀ r : List Nat, (r.flatMap fun u => (A.filter fun v => covB n R A u v).map fun v => (u, v)).length ≤ 8 * r.length := fun r => by
    induction r with
    | nil => simp
    | cons u r ih =>
      have := List.length_filter_le (fun v => covB n R A u v) A
      rw [List.flatMap_cons, List.length_append, List.length_map, List.length_cons]
      omega
  rw [iL_nat]
  simp [b_law_possible, sFor]
  refine for_fold A (fun x : Nat => D.int (x : Nat)) (fun acc u => acc ++ (A.filter fun v => covB n R A u v).map fun v => (u, v)) (fun acc ρ => ∃ a b, ρ = [Sl.da (rowsR n R), Sl.da (.lst (A.map fun x : Nat => D.int (x : Nat))), Sl.ow (.lst ((acc : List (Nat × Nat)).map fun q => tI (pairI q))), a, b]) [] (fun pre u post ρ N e ⟨a, b, er⟩ hN => ?_) ⟨_, _, rfl⟩ fun ρ ⟨a, b, er⟩ => ?_
  · subst er
    rw [foldl_flat, List.nil_append] at hN ⊢
    have hu : u ∈ A := by rw [e]; simp
    have lp : pre.length + 1 ≤ A.length := by rw [e]; simp
    have l1 := hlen pre
    generalize (pre.flatMap fun u => (A.filter fun v => covB n R A u v).map fun v => (u, v)) = acc at *
    simp [sFor]
    refine for_fold A (fun x : Nat => D.int (x : Nat)) (fun acc2 v => acc2 ++ (if covB n R A u v = true then [(u, v)] else [])) (fun acc2 ρ => (∃ b, ρ = [Sl.da (rowsR n R), Sl.da (.lst (A.map fun x : Nat => D.int (x : Nat))), Sl.ow (.lst ((acc ++ (acc2 : List (Nat × Nat))).map fun q => tI (pairI q))), Sl.da (.int u), b])) [] (fun pre2 v post2 ρ N2 e2 ⟨b, er⟩ hN2 => ?_) ⟨b, by simp⟩ fun ρ ⟨b, er⟩ => ?_
    · subst er
      rw [foldl_flat, List.nil_append] at hN2 ⊢
      have hv : v ∈ A := by rw [e2]; simp
      have lp2 : pre2.length + 1 ≤ A.length := by rw [e2]; simp
      have l2' : ∀ r : List Nat, (r.flatMap fun v => if covB n R A u v = true then [(u, v)] else []).length ≤ r.length := fun r => by
        induction r with
        | nil => simp
        | cons y r ih =>
          have e1 : (if covB n R A u y = true then [(u, y)] else []).length ≤ 1 := by split <;> simp
          rw [List.flatMap_cons, List.length_append, List.length_cons]
          omega
      have l3 := l2' pre2
      generalize (pre2.flatMap fun v => if covB n R A u v = true then [(u, v)] else []) = acc2 at *
      simp [wCall]
      refine ⟨n, R, A, u, v, by rw [iL_nat], hn, hA, hl, hu, hv, ?_⟩
      cases ec : covB n R A u v with
      | false =>
        rw [ec] at hN2
        exact .inl ⟨rfl, hN2 _ ⟨_, by simp; rfl⟩⟩
      | true =>
        rw [ec] at hN2
        refine .inr ⟨rfl, ?_⟩
        simp [sApp]
        refine ⟨by omega, by omega, hN2 _ ⟨Sl.da (.int v), by simp; rfl⟩⟩
    · subst er
      rw [foldl_flat, List.nil_append]
      have ef : ∀ r : List Nat, (r.flatMap fun v => if covB n R A u v = true then [(u, v)] else []) = (r.filter fun v => covB n R A u v).map fun v => (u, v) := fun r => by
        induction r with
        | nil => rfl
        | cons y r ih =>
          rw [List.flatMap_cons, ih]
          cases e : covB n R A u y <;> simp [e]
      rw [ef]
      exact hN _ ⟨_, _, rfl⟩
  · subst er
    rw [foldl_flat, List.nil_append]
    simp [sRetO]
    have e : pL ((possF n R A).map pairI) = .lst ((A.flatMap fun u => (A.filter fun v => covB n R A u v).map fun v => (u, v)).map fun q => tI (pairI q)) := by
      unfold pL
      rw [List.map_map]
      rfl
    rw [e] at q
    exact q
end Tw.S

namespace Tw.S
open PySem PySem.Spec L2 PyProof.Rows Tw
theorem same33 {xc : XC} {g d : D} {P : Bool → D → Prop} (s : Sm 5 g d) (q : P false (.bl true)) : wf_law_same xc [g, d] P := ⟨g, d, true, rfl, .sm s, q⟩
theorem sm_t2 {l : List (List Int)} : Sm 5 (t2 l) (t2 l) := .tup rfl (sm_list fun x hx => by
  obtain ⟨p, _, rfl⟩ := List.mem_map.mp hx
  exact sm_ints)
theorem oEq_nil33 {l : List (List Int)} {Q : D → Prop} : oEq (pL l) (.lst []) Q = Q (.bl l.isEmpty) := by
  have o1 : (pL l).ok := ok_ptI l
  have o2 : (D.lst []).ok := ok_ptI []
  unfold oEq
  simp only [o1, o2, true_and]
  cases l <;> simp [pL, D.py, PyData.eqv, D.pys, PyData.eqvAll]
theorem pick33 {α : Type} {l : List α} (h : l ≠ []) (x : Int) : ∃ p, atI l (x % (l.length : Int)) = some p ∧ p ∈ l ∧ (x = 0 → l.head? = some p) := by
  have hl := List.length_pos_iff.mpr h
  have h0 := Int.emod_nonneg x (show (l.length : Int) ≠ 0 by omega)
  have h1 := Int.emod_lt_of_pos x (show (0 : Int) < (l.length : Int) by omega)
  have hlt : (x % (l.length : Int)).toNat < l.length := by omega
  refine ⟨l[(x % (l.length : Int)).toNat], by rw [atI_at h0 h1]; simp [hlt], List.getElem_mem hlt, fun hx => ?_⟩
  subst hx
  cases l with
  | nil => exact absurd rfl h
  | cons a l => simp
theorem atI_pair {l : List (Nat × Nat)} {i : Int} {r : Nat × Nat} (h : atI l i = some r) (Q : D → Prop) : oIx (pL (l.map pairI)) (.int i) Q = Q (tI (pairI r)) := by
  have e : pL (l.map pairI) = .lst (l.map fun q => tI (pairI q)) := by unfold pL; rw [List.map_map]; rfl
  rw [e, oIx_l, atI_map, h]
  simp
theorem p_law_finished (xc : XC) (ds : List D) (Q : Bool → D → Prop) (h : wf_law_finished xc ds Q) : b_law_finished (Zd xc Q) (ds.map .da ++ List.replicate (7 - ds.length) .no) := by
  obtain ⟨n, R, pool, rfl, hn, hp, hb, q⟩ := h
  have hs := sizeLine_eq
  have e0 : D.lst ((List.range n).map fun i : Nat => D.int (i : Nat)) = iL (natI (List.range n)) := by rw [iL_nat]
  simp [b_law_finished, wLstR, rows_lenR, r_law_finished_1]
  refine ⟨n, rfl, by omega, ?_⟩
  rw [e0]
  have fin : ∀ (fs : List (Nat × Nat)) (A : List Nat) (a b : Sl), FoldTo R (List.range n) fs A → Stiff R A → ((∀ x ∈ pool, x = 0) → greedy n R n (List.range n) = (fs ++ (greedy n R A.length A).1, (greedy n R A.length A).2)) → r_law_finished_3 (Zd xc Q) [Sl.da (rowsR n R), Sl.da (iL pool), Sl.da (iL (natI A)), Sl.ow (pL (fsI fs)), a, b, .no] := fun fs A a b hf st hz => by
    simp [r_law_finished_3, sFrz]
    refine ⟨by omega, q fs A hf st fun hh => ?_⟩
    have hno : (possF n R A).head? = none := by rw [poss_nil.mpr st]; rfl
    rw [hz hh, greedy_none A.length hno, List.append_nil]
  simp [r_law_finished_2, sFor, rows_lenR]
  refine ⟨by omega, ?_⟩
  refine for_rng (fun i ρ => ∃ (fs : List (Nat × Nat)) (A : List Nat) (a b : Sl), ρ = [Sl.da (rowsR n R), Sl.da (iL pool), Sl.da (iL (natI A)), Sl.ow (pL (fsI fs)), a, b, .no] ∧ FoldTo R (List.range n) fs A ∧ fs.length = i ∧ ((∀ x ∈ pool, x = 0) → greedy n R n (List.range n) = (fs ++ (greedy n R A.length A).1, (greedy n R A.length A).2))) (fun i ρ N hi hI hN => ?step) (fun ρ hI => ?fin) ⟨[], List.range n, _, _, rfl, .nil, rfl, fun _ => by rw [List.length_range]; rfl⟩
  case step =>
    obtain ⟨fs, A, a, b, er, hf, hl, hz⟩ := hI
    subst er
    have fl := fold_len hf List.nodup_range
    rw [List.length_range] at fl
    have hA : ∀ x ∈ A, x < n := fun x hx => List.mem_range.mp (fold_sub hf x hx)
    simp [wCall]
    refine ⟨n, R, A, rfl, hn, hA, by omega, ?_⟩
    simp only [sSeq, sIf]
    simp [oEq_nil33]
    by_cases hno : possF n R A = []
    · exact .inr ⟨hno, fin fs A _ _ hf (poss_nil.mp hno) hz⟩
    · refine .inl ⟨hno, ?_⟩
      obtain ⟨y, ey, ym⟩ : ∃ x, atI pool (i : Int) = some x ∧ x ∈ pool := by
        refine ⟨pool[i], ?_, List.getElem_mem (by omega)⟩
        rw [atI_at (by omega) (by omega), Int.toNat_natCast, List.getElem?_eq_getElem (by omega)]
      obtain ⟨r, hr1, hr2, hr3⟩ := pick33 hno y
      have hc := mem_poss.mp hr2
      have hpos := List.length_pos_iff.mpr hno
      have lenO : ∀ Q : D → Prop, oLen [pL ((possF n R A).map pairI)] Q = Q (.int (possF n R A).length) := fun Q => by unfold pL; simp
      simp [ey, lenO, atI_pair hr1, hpos, sApp]
      refine ⟨(fsI fs).map tI, rfl, by simp [fsI]; omega, ?_⟩
      have eA : (natI A).map D.int = A.map fun x : Nat => D.int (x : Nat) := by unfold natI; rw [List.map_map]; rfl
      rw [eA]
      have last : atI ((fsI fs).map tI ++ [tI (pairI r)]) (i : Int) = some (tI (pairI r)) := by
        rw [atI_at (by omega) (by simp [fsI]; omega)]
        have e1 : ((fsI fs).map tI).length = i := by simp [fsI, hl]
        rw [Int.toNat_natCast, List.getElem?_append_right (by omega), e1]
        simp
      have ix0 : ∀ Q : D → Prop, oIx (tI (pairI r)) (.int 0) Q = Q (.int r.1) := fun Q => by
        have e : tI (pairI r) = .tup [.int r.1, .int r.2] := rfl
        rw [e, oIx_t]
        simp [atI, ixN]
      refine lc_ofF A (fun x : Nat => D.int (x : Nat)) (fun x => decide (x ≠ r.1)) (fun x => D.int (x : Nat)) (fun x hx k1 k2 h1 h2 => ?_) (by omega) ?_
      · simp [wPeek, last, ix0, oNe_nn]
        by_cases e : x = r.1
        · exact .inl ⟨by omega, h2 (by simpa using e)⟩
        · exact .inr ⟨by omega, h1 (by simpa using e)⟩
      · have ll := less_len (fold_nd hf List.nodup_range) hc.2.1
        refine hN _ ⟨fs ++ [r], less A r.1, _, _, by rw [iL_nat]; simp [pL, fsI]; exact ⟨by unfold less; simp, rfl, rfl⟩, fold_app hf (.cons hc .nil), by simp [hl], fun hh => ?_⟩
        rw [hz hh, ← ll, greedy_some (hr3 (hh y ym))]
        simp
  case fin =>
    obtain ⟨fs, A, a, b, er, hf, hl, hz⟩ := hI
    subst er
    have fl := fold_len hf List.nodup_range
    rw [List.length_range] at fl
    have hA : A = [] := List.length_eq_zero_iff.mp (by omega)
    exact fin fs A a b hf (by rw [hA]; exact stiff_nil) hz
theorem p_law_is_finished (CF CW : Addr) (xc : XC) (ds : List D) (Q : Bool → D → Prop) (h : wf_law_is_finished CF CW xc ds Q) : b_law_is_finished CF CW (Zd xc Q) (ds.map .da ++ List.replicate (5 - ds.length) .no) := by
  obtain ⟨w, fs, A, rfl, hw, hf, st, q⟩ := h
  have hs := sizeLine_eq
  have hi := hw.nm.hi
  have fl := fold_len hf List.nodup_range
  have vl : w.V.length = w.names.length := by simp [Pw.V, Pw.n]
  have et : ∀ Q : D → Prop, oTuple [pL (fsI fs)] Q = Q (t2 (fsI fs)) := fun Q => rfl
  have el : ∀ Q : D → Prop, oTuple [iL (natI A)] Q = Q (tI (natI A)) := fun Q => rfl
  have ln : ∀ Q : D → Prop, oLen [iL (natI A)] Q = Q (.int A.length) := fun Q => by unfold iL; simp [natI_len]
  have lf : ∀ Q : D → Prop, oLen [pL (fsI fs)] Q = Q (.int fs.length) := fun Q => by unfold pL; simp [fsI_len]
  simp only [b_law_is_finished, sSeq, sIf, wOr, wNot]
  simp [wIsO, wCall, et]
  refine ⟨⟨_, rfl⟩, same33 sm_t2 ?_⟩
  refine .inr ⟨rfl, ?_⟩
  simp only [r_law_is_finished_1, sSeq, sIf, wOr, wNot]
  simp [wProp, wCall, el, ln]
  refine same33 sm_ints ?_
  refine .inr ⟨rfl, ⟨_, rfl⟩, CW, w, fs, A, rfl, ?_⟩
  refine same33 (.bl _) ?_
  refine .inr ⟨rfl, ?_⟩
  simp [r_law_is_finished_2, wProp, wCall]
  refine ⟨⟨_, rfl⟩, w, fs, A, rfl, hw, hf, ?_⟩
  rw [poss_nil.mpr st]
  refine same33 (.bl _) ?_
  refine .inr ⟨rfl, ?_⟩
  simp [r_law_is_finished_3, sFor, rows_lenR]
  refine ⟨by unfold Pw.n; omega, ?_⟩
  refine for_same (List.range w.n) (fun i => .int (0 + (i : Nat))) (fun ρ => ∃ a, ρ = [Sl.da (foldD CF CW w fs A), Sl.da (rowsR w.n w.R), Sl.da (pL (fsI fs)), Sl.da (iL (natI A)), a]) (fun x ρ N hx ⟨a, er⟩ hN => ?_) ⟨_, rfl⟩ fun ρ ⟨a, er⟩ => ?_
  · subst er
    have hx := List.mem_range.mp hx
    simp [lf]
    refine ⟨⟨_, rfl, rfl⟩, w, fs, A, x, rfl, hw, hf, hx, ?_⟩
    simp [oIn_nL]
    exact .inl ⟨shadow_in hf x (List.mem_range.mpr hx), hN _ ⟨_, rfl⟩⟩
  · subst er
    simp [r_law_is_finished_4]
    exact q
theorem p_law_refused_k33 (CF CW CN : Addr) (xc : XC) (ds : List D) (Q : Bool → D → Prop) (h : wf_law_refused_k33 CF CW xc ds Q) : b_law_refused_k33 CF CW CN (Zd xc Q) (ds.map .da ++ List.replicate (3 - ds.length) .no) := by
  obtain ⟨w, rfl, hn, h1, h4, ir, pl, q⟩ := h
  have hs := sizeLine_eq
  have sm : Sm 5 (.tup [.str "NotPlain", .bl true]) (.tup [.str "NotPlain", .bl true]) := .tup rfl (sm_list fun x hx => by
    simp at hx
    rcases hx with rfl | rfl
    · exact .str _ (by decide +kernel)
    · exact .bl _)
  simp [b_law_refused_k33, sTryE, wCall]
  refine ⟨by omega, w, rfl, hn, h1, h4, ir, fun _ => ?_, fun e => (by rw [pl] at e; cases e)⟩
  unfold hX
  refine ⟨rfl, fun a p => ?_, fun _ a => ?_⟩
  · simp [wIsX]
    exact ⟨by omega, same33 sm q⟩
  · simp [wIsX]
    exact ⟨by omega, same33 sm q⟩
end Tw.S

namespace Tw.S
open PySem PySem.Spec L2 PyProof.Rows Tw

def b_law_is_plain : Ws :=
  (sSeq (sFor (wiS (wVar 0)) (gSet 1)
  (sFor (wiR1 (wN oLen (waCons (wVar 1) waNil))) (gSet 2)
  (sFor (wiS (w2 oIx (wVar 1) (wVar 2))) (gSet 3)
  (sFor (wiS (wVar 0)) (gSet 4)
  (sIf (wOr (wB (w2 (oIn true) (wVar 3) (w2 oIx (wVar 4) (wVar 2)))) (wB (w2 (oIn true) (wVar 2) (w2 oIx (wVar 4) (wVar 3)))))
  (sRet (wC (.bl false)))
  sNil)))))
  (sRet (wC (.bl true))))
def b_Web_doorless (C_Web : Addr) : Ws :=
  (sRet (wN oAll (waCons (wLc (wiS (wFld C_Web "_nexts" (wVar 0))) (gSet 1) wtYes (w2 oEq (wVar 1) (w2 oIx (wFld C_Web "_nexts" (wVar 0)) (wC (.int 0)))) [1]) waNil)))
def b_places_into : Ws :=
  (sRet (wN oTuple (waCons (wLc (wiR1 (wN oLen (waCons (wVar 0) waNil))) (gSet 2) (wB (w2 (oIn false) (wVar 1) (w2 oIx (wVar 0) (wVar 2)))) (wVar 2) [2]) waNil)))
def b_backward_nexts : Ws :=
  (sRet (wN oTuple (waCons (wLc (wiS (wVar 0)) (gSet 1) wtYes (wN oTuple (waCons (wLc (wiR1 (wN oLen (waCons (wVar 1) waNil))) (gSet 2) wtYes (wCall wf_places_into [] (waCons (wVar 1) (waCons (wVar 2) waNil))) [2]) waNil)) [1]) waNil)))
def b_Web_plain (C_Web : Addr) : Ws :=
  (sRet (wAndV (wProp C_Web (wf_Web_doorless C_Web) (wVar 0)) (w2 oEq (wFld C_Web "_nexts" (wVar 0)) (wCall wf_backward_nexts [] (waCons (wFld C_Web "_nexts" (wVar 0)) waNil)))))
def b_woven (C_Web : Addr) : Ws :=
  (sRet (wMakeK C_Web 2 (List.length (α := Str) ["beats"]) gD_K_Web_2_beats wi_Web (waCons (wVar 0) (waCons (wCall wf_ties_of [] (waCons (wVar 0) (waCons (wVar 1) waNil))) waNil)) (waCons (wN oLen (waCons (wVar 1) waNil)) waNil)))
end Tw.S

namespace Tw.S
open PySem PySem.Spec L2 PyProof.Rows Tw
section
variable {α : Type} {g : Wg} {b : Ws} {Z : Pd} {ρ : Evn}
/-- a for that leaves at the first item that fails -/
theorem for_all (l : List α) (c : α → D) (R : Evn → Prop) (p : α → Bool) (E : Prop)
    (hs : ∀ (x : α) (ρ : Evn) (N : Evn → Prop), x ∈ l → R ρ → (p x = true → ∀ ρ', R ρ' → N ρ') → (p x = false → E) → g (c x) ρ fun ρ' => b { Z with nx := N, ct := N, bk := Z.nx } ρ')
    (h0 : R ρ) (hd : l.all p = true → ∀ ρ, R ρ → Z.nx ρ) (hf : l.all p = false → E) : forW g b Z (l.map c) ρ := by
  have go : ∀ (r pre : List α) (ρ : Evn), l = pre ++ r → pre.all p = true → R ρ → forW g b Z (r.map c) ρ := by
    intro r
    induction r with
    | nil => intro pre ρ e h1 h; rw [List.append_nil] at e; subst e; exact hd h1 ρ h
    | cons x r ih =>
      intro pre ρ e h1 h
      refine hs x ρ _ (by rw [e]; simp) h (fun hp ρ' h' => ih (pre ++ [x]) ρ' (by rw [e]; simp) (by simp [h1, hp]) h') fun hp => hf ?_
      rw [e, List.all_append, List.all_cons, hp]
      simp
  exact go l [] ρ rfl rfl h0
end
section
variable {g : Wg} {b : Ws} {Z : Pd} {ρ : Evn}
end
section
variable {n c : Nat} {L M : Psg}
theorem rowF_inj {p q : Nat → Bool} : rowF n p = rowF n q ↔ ∀ v, v < n → p v = q v := by
  constructor
  · intro h v hv
    have h1 := mem_row (n := n) (p := p) (v := v)
    have h2 := mem_row (n := n) (p := q) (v := v)
    rw [h] at h1
    have := h1.symm.trans h2
    cases hp : p v <;> cases hq : q v <;> simp [hp, hq, hv] at this ⊢
  · intro h
    unfold rowF
    congr 1
    exact List.filter_congr fun v hv => h v (List.mem_range.mp hv)
theorem map_range_inj {α : Type} {f g : Nat → α} : (List.range n).map f = (List.range n).map g ↔ ∀ i, i < n → f i = g i := by
  constructor
  · intro h i hi
    have := congrArg (fun l => l[i]?) h
    simpa [hi] using this
  · intro h
    exact List.map_congr_left fun i hi => h i (List.mem_range.mp hi)
theorem rowT_inj {b b' : Nat} : rowT n L b = rowT n M b' ↔ ∀ u v, u < n → v < n → L b u v = M b' u v := by
  unfold rowT
  rw [map_range_inj]
  exact ⟨fun h u v hu hv => rowF_inj.mp (h u hu) v hv, fun h u hu => rowF_inj.mpr fun v hv => h u v hu hv⟩
theorem tabF_inj : tabF n c L = tabF n c M ↔ ∀ b u v, b < c → u < n → v < n → L b u v = M b u v := by
  rw [tabF_rowT, tabF_rowT, map_range_inj]
  exact ⟨fun h b u v hb hu hv => rowT_inj.mp (h b hb) u v hu hv, fun h b hb => rowT_inj.mpr fun u v hu hv => h b u v hb hu hv⟩
theorem door_iff : doorB n c L = true ↔ ∀ b u v, b < c → u < n → v < n → L b u v = L 0 u v := by
  unfold doorB
  rw [List.all_eq_true]
  constructor
  · intro h b u v hb hu hv
    exact rowT_inj.mp (of_decide_eq_true (h b (List.mem_range.mpr hb))) u v hu hv
  · intro h b hb
    exact decide_eq_true (rowT_inj.mpr fun u v hu hv => h b u v (List.mem_range.mp hb) hu hv)
theorem plain_iff (hc : 1 ≤ c) : plainB n c L = true ↔ ∀ b u v b', b < c → u < n → v < n → b' < c → L b u v = true → L b' u v = true ∧ L b' v u = true := by
  unfold plainB
  rw [Bool.and_eq_true, door_iff, decide_eq_true_eq, tabF_inj]
  constructor
  · intro ⟨h1, h2⟩ b u v b' hb hu hv hb' hl
    have e : L b' u v = true := by rw [h1 b' u v hb' hu hv, ← h1 b u v hb hu hv]; exact hl
    exact ⟨e, by have := h2 b' u v hb' hu hv; rw [e] at this; exact this.symm⟩
  · intro h
    refine ⟨fun b u v hb hu hv => ?_, fun b u v hb hu hv => ?_⟩
    · cases e : L b u v with
      | true => exact (h b u v 0 hb hu hv (by omega) e).1.symm
      | false =>
        cases e2 : L 0 u v with
        | true => rw [(h 0 u v b (by omega) hu hv hb e2).1] at e; cases e
        | false => rfl
    · show L b u v = L b v u
      cases e : L b u v with
      | true => exact (h b u v b hb hu hv hb e).2.symm
      | false =>
        cases e2 : L b v u with
        | true => rw [(h b v u b hb hv hu hb e2).2] at e; cases e
        | false => rfl
end
theorem rowT_at {n : Nat} {L : Psg} {b u : Nat} (hu : u < n) : atI (rowT n L b) (u : Int) = some (rowF n (L b u)) := row_at hu
theorem tabT_at {n c : Nat} {L : Psg} {b : Nat} (hb : b < c) : atI (tabF n c L) (b : Int) = some (rowT n L b) := tab_at hb
@[simp] theorem rowT_len (n : Nat) (L : Psg) (b : Nat) : (rowT n L b).length = n := by simp [rowT]
@[simp] theorem tabF_len (n c : Nat) (L : Psg) : (tabF n c L).length = c := by simp [tabF]
@[simp] theorem len_l2 {l : List (List Int)} {Q : D → Prop} : oLen [l2 l] Q = Q (.int l.length) := by
  unfold l2
  simp
theorem oEq_t2 {a b : List (List Int)} {Q : D → Prop} : oEq (t2 a) (t2 b) Q = Q (.bl (decide (a = b))) := by
  have e : PyData.eqv (t2 a).py (t2 b).py = decide (a = b) := by
    rw [py_t2, py_t2, PyData.eqv]
    exact eqvAll_map encT eqv_encT a b
  unfold oEq
  rw [e]
  simp [(okd_t2 a).ok (by omega), (okd_t2 b).ok (by omega)]
end Tw.S

namespace Tw.S
open PySem PySem.Spec L2 PyProof.Rows Tw
theorem p_law_is_plain (xc : XC) (ds : List D) (Q : Bool → D → Prop) (h : wf_law_is_plain xc ds Q) : b_law_is_plain (Zd xc Q) (ds.map .da ++ List.replicate (5 - ds.length) .no) := by
  obtain ⟨n, c, L, rfl, hn, h1, h4, q⟩ := h
  have hs := sizeLine_eq
  have he : plainB n c L = (List.range c).all fun b => (List.range n).all fun u => ((List.range n).filter (L b u)).all fun v => (List.range c).all fun b' => L b' u v && L b' v u := by
    rw [Bool.eq_iff_iff, plain_iff h1]
    simp only [List.all_eq_true, List.mem_range, List.mem_filter, Bool.and_eq_true]
    exact ⟨fun h b hb u hu v ⟨hv, hl⟩ b' hb' => h b u v b' hb hu hv hb' hl, fun h b u v b' hb hu hv hb' hl => h b hb u hu v ⟨hv, hl⟩ b' hb'⟩
  rw [he] at q
  simp [b_law_is_plain, sFor]
  have et : l3 (tabF n c L) = .lst ((List.range c).map fun b => l2 (rowT n L b)) := by rw [l3, tabF_rowT, List.map_map]; rfl
  have em : (tabF n c L).map l2 = (List.range c).map fun b => l2 (rowT n L b) := by rw [tabF_rowT, List.map_map]; rfl
  rw [em]
  refine for_all (List.range c) (fun b => l2 (rowT n L b)) (fun ρ => ∃ a b d e, ρ = [Sl.da (l3 (tabF n c L)), a, b, d, e]) _ (Q false (.bl false)) (fun b ρ N hb ⟨a1, a2, a3, a4, e⟩ ht hf => ?_) ⟨_, _, _, _, rfl⟩ (fun ha ρ _ => by rw [ha] at q; simpa using q) (fun ha => by rw [ha] at q; exact q)
  rw [e]
  have hb' := List.mem_range.mp hb
  simp [sFor]
  refine ⟨by omega, ?_⟩
  refine for_all (List.range n) (fun i => .int (0 + (i : Nat))) (fun ρ => ∃ d e f, ρ = [Sl.da (l3 (tabF n c L)), Sl.da (l2 (rowT n L b)), d, e, f]) _ (Q false (.bl false)) (fun u ρ N hu ⟨a2, a3, a4, e⟩ ht hf => ?_) ⟨_, _, _, rfl⟩ (fun ha ρ ⟨_, _, _, e⟩ => ht ha _ ⟨_, _, _, _, e⟩) (fun ha => hf ha)
  rw [e]
  have hu' := List.mem_range.mp hu
  simp [sFor]
  refine ⟨_, rowT_at hu', ?_⟩
  have er : (rowF n (L b u)).map D.int = ((List.range n).filter (L b u)).map fun i : Nat => D.int i := by
    unfold rowF
    rw [List.map_map]
    rfl
  rw [er]
  refine for_all ((List.range n).filter (L b u)) (fun i => .int (i : Nat)) (fun ρ => ∃ d e, ρ = [Sl.da (l3 (tabF n c L)), Sl.da (l2 (rowT n L b)), Sl.da (.int u), d, e]) _ (Q false (.bl false)) (fun v ρ N hv ⟨a3, a4, e⟩ ht hf => ?_) ⟨_, _, rfl⟩ (fun ha ρ ⟨_, _, e⟩ => ht ha _ ⟨_, _, _, e⟩) (fun ha => hf ha)
  rw [e]
  have hv' := List.mem_range.mp (List.mem_filter.mp hv).1
  simp [sFor]
  rw [em]
  refine for_all (List.range c) (fun b => l2 (rowT n L b)) (fun ρ => ∃ e, ρ = [Sl.da (l3 (tabF n c L)), Sl.da (l2 (rowT n L b)), Sl.da (.int u), Sl.da (.int v), e]) _ (Q false (.bl false)) (fun b' ρ N hb' ⟨a4, e⟩ ht hf => ?_) ⟨_, rfl⟩ (fun ha ρ ⟨_, e⟩ => ht ha _ ⟨_, _, e⟩) (fun ha => hf ha)
  rw [e]
  simp
  have hb2 := List.mem_range.mp hb'
  refine ⟨_, rowT_at hu', ?_⟩
  rw [oIn_iL]
  have m1 := mem_row (n := n) (p := L b' u) (v := v)
  have m2 := mem_row (n := n) (p := L b' v) (v := u)
  cases l1 : L b' u v with
  | false =>
    rw [l1] at m1
    refine .inr ⟨by simpa using fun z => Bool.noConfusion (m1.mp z).2, hf (by rw [l1]; rfl)⟩
  | true =>
    rw [l1] at m1
    refine .inl ⟨by simpa using m1.mpr ⟨hv', rfl⟩, _, rowT_at hv', ?_⟩
    rw [oIn_iL]
    cases l2 : L b' v u with
    | false =>
      rw [l2] at m2
      refine .inr ⟨by simpa using fun z => Bool.noConfusion (m2.mp z).2, hf (by rw [l1, l2]; rfl)⟩
    | true =>
      rw [l2] at m2
      exact .inl ⟨by simpa using m2.mpr ⟨hu', rfl⟩, ht (by rw [l1, l2]; rfl) _ ⟨_, rfl⟩⟩
end Tw.S

namespace Tw.S
open PySem PySem.Spec L2 PyProof.Rows Tw
theorem tabs_map (n c : Nat) (L : Psg) : (tabF n c L).map t2 = (List.range c).map fun b => t2 (rowT n L b) := by rw [tabF_rowT, List.map_map]; rfl
theorem p_Web_doorless (C : Addr) (xc : XC) (ds : List D) (Q : Bool → D → Prop) (h : wf_Web_doorless C xc ds Q) : b_Web_doorless C (Zd xc Q) (ds.map .da ++ List.replicate (2 - ds.length) .no) := by
  obtain ⟨names, c, L, rfl, hn, h1, h4, q⟩ := h
  have hs := sizeLine_eq
  simp [b_Web_doorless, webP]
  rw [tabs_map]
  refine lc_of (List.range c) (fun b => t2 (rowT names.length L b)) (fun b => .bl (decide (rowT names.length L b = rowT names.length L 0))) (fun b hb k1 h1' => ?_) (by simp; omega) ?_
  · simp
    refine ⟨_, tabT_at (b := 0) (by omega), ?_⟩
    rw [oEq_t2]
    exact h1'
  · refine oAll_b (bs := (List.range c).map fun b => decide (rowT names.length L b = rowT names.length L 0)) (by simp) ?_
    rw [List.all_map]
    exact q
theorem p_places_into (xc : XC) (ds : List D) (Q : Bool → D → Prop) (h : wf_places_into xc ds Q) : b_places_into (Zd xc Q) (ds.map .da ++ List.replicate (3 - ds.length) .no) := by
  obtain ⟨n, b, v, L, rfl, hn, hv, q⟩ := h
  have hs := sizeLine_eq
  simp [b_places_into]
  refine ⟨by omega, lc_rng0F n (fun u => L b u v) (fun u => .int (u : Nat)) (fun u hu k1 k2 g1 g2 => ?_) (by omega) ?_⟩
  · simp
    refine ⟨_, rowT_at hu, ?_⟩
    have md := mem_row (n := n) (p := L b u) (v := v)
    cases h : L b u v with
    | true =>
      rw [h] at md
      exact .inr ⟨md.mpr ⟨hv, rfl⟩, g1 h⟩
    | false =>
      rw [h] at md
      exact .inl ⟨fun z => Bool.noConfusion (md.mp z).2, g2 h⟩
  · have : ((List.range n).filter fun u => L b u v).map (fun u => D.int (u : Nat)) = (rowF n fun u => L b u v).map .int := by
      unfold rowF
      rw [List.map_map]; rfl
    rw [this]
    exact q
theorem p_backward_nexts (xc : XC) (ds : List D) (Q : Bool → D → Prop) (h : wf_backward_nexts xc ds Q) : b_backward_nexts (Zd xc Q) (ds.map .da ++ List.replicate (3 - ds.length) .no) := by
  obtain ⟨n, c, L, rfl, hn, h4, q⟩ := h
  have hs := sizeLine_eq
  simp [b_backward_nexts]
  rw [tabs_map]
  refine lc_of (List.range c) (fun b => t2 (rowT n L b)) (fun b => t2 (rowT n (backP L) b)) (fun b hb k1 h1' => ?_) (by simp; omega) ?_
  · simp
    refine ⟨by omega, lc_rng0 n (fun u => tI (rowF n fun x => L b x u)) (fun v hv k2 h2' => ?_) (by omega) ?_⟩
    · simp [wCall]
      exact ⟨n, b, v, L, rfl, hn, hv, h2'⟩
    · have : (List.range n).map (fun u => tI (rowF n fun x => L b x u)) = (rowT n (backP L) b).map tI := by
        unfold rowT
        rw [List.map_map]; rfl
      rw [this]
      exact h1'
  · have : (List.range c).map (fun b => t2 (rowT n (backP L) b)) = (tabF n c (backP L)).map t2 := (tabs_map _ _ _).symm
    rw [this]
    exact q
theorem p_Web_plain (C : Addr) (xc : XC) (ds : List D) (Q : Bool → D → Prop) (h : wf_Web_plain C xc ds Q) : b_Web_plain C (Zd xc Q) (ds.map .da ++ List.replicate (1 - ds.length) .no) := by
  obtain ⟨names, c, L, rfl, hn, h1, h4, q⟩ := h
  have hs := sizeLine_eq
  simp [b_Web_plain, wProp, wCall]
  refine ⟨⟨_, rfl⟩, names, c, L, rfl, hn, h1, h4, ?_⟩
  unfold plainB at q
  cases hd : doorB names.length c L with
  | false =>
    rw [hd] at q
    simpa using q
  | true =>
    rw [hd] at q
    simp [webP]
    refine ⟨names.length, c, L, rfl, hn, h4, ?_⟩
    dsimp only
    rw [oEq_t3]
    simpa using q
theorem p_woven (C : Addr) (xc : XC) (ds : List D) (Q : Bool → D → Prop) (h : wf_woven C xc ds Q) : b_woven C (Zd xc Q) (ds.map .da ++ List.replicate (2 - ds.length) .no) := by
  obtain ⟨t, ta, tb, names, c, L, rfl, hn, h1, h4, h0, q⟩ := h
  have hs := sizeLine_eq
  have hi := hn.hi
  simp [b_woven, wCall, wMakeK, gD_K_Web_2_beats]
  refine ⟨t, ta, tb, names, c, L, rfl, hi, h4, true, false, names, tiesP names c L, c, rfl, hn, ties_ok hn, h1, h4, ?_⟩
  rw [ties_nexts hn h0]
  exact q
end Tw.S

namespace Tw.S
open PySem PySem.Spec L2 PyProof.Rows Tw
theorem drawn {l : List Int} (hl : ∀ x ∈ l, 0 ≤ x ∧ x < 1000) (i : Int) (h0 : 0 ≤ i) (h : i < l.length) : ∃ x, atI l i = some x ∧ 0 ≤ x ∧ x < 1000 := by
  refine ⟨l[i.toNat], ?_, hl _ (List.getElem_mem (by omega))⟩
  rw [atI_at h0 h, List.getElem?_eq_getElem (by omega)]
theorem cm2 : CMul 2 1000000000 := .inl ⟨by omega, by omega⟩
end Tw.S

namespace Tw.S
open PySem PySem.Spec L2 PyProof.Rows Tw
section
variable {n c : Nat} {L : Psg} {k m : Int}
end
@[simp] theorem mOf_webP {C : Addr} {names : List Str} {c : Nat} {L : Psg} : mOf C "turned" (webP C names c L) := ⟨_, rfl, rfl⟩
@[simp] theorem mOf_webB {C : Addr} {names : List Str} {c : Nat} {L : Psg} : mOf C "backward" (webP C names c L) := ⟨_, rfl, rfl⟩
@[simp] theorem mOf_webU {C : Addr} {names : List Str} {c : Nat} {L : Psg} : mOf C "unrolled" (webP C names c L) := ⟨_, rfl, rfl⟩
@[simp] theorem mOf_webS {C : Addr} {names : List Str} {c : Nat} {L : Psg} : mOf C "steps" (webP C names c L) := ⟨_, rfl, rfl⟩
end Tw.S

/-! what the defs of k06 keep -/
namespace Tw.S
open PySem PySem.Spec L2 PyProof.Rows Tw
/-- what one comes to along R from S, never to a barred one -/
inductive Rch (R : Nat → Nat → Bool) (bar S : Int → Prop) : Nat → Prop
  | st {v : Nat} : S v → ¬bar v → Rch R bar S v
  | go {u v : Nat} : Rch R bar S u → R u v = true → ¬bar v → Rch R bar S v
/-- r lists the places of which p holds -/
def Lists (n : Nat) (p : Nat → Prop) (r : List Int) : Prop := isSet r n = true ∧ ∀ v : Nat, v < n → ((v : Int) ∈ r ↔ p v)
def RR (n : Nat) (R : Nat → Nat → Bool) : Nat → Nat → Bool := fun u v => decide (u < n) && decide (v < n) && R u v
def reachP (n : Nat) (R : Nat → Nat → Bool) (s b : List Int) : Nat → Prop := Rch (RR n R) (fun x => x ∈ b) (fun x => x ∈ s)
end Tw.S

namespace Tw.S
open PySem PySem.Spec L2 PyProof.Rows Tw

end Tw.S

namespace Tw.S
open PySem PySem.Spec L2 PyProof.Rows Tw
section
variable {α : Type} {g : Wg} {b : Ws} {Z : Pd} {ρ : Evn}
/-- a for that leaves at the first item of which p holds -/
theorem for_first (l : List α) (c : α → D) (R : Evn → Prop) (p : α → Bool) (E : α → Prop)
    (hs : ∀ (x : α) (ρ : Evn) (N : Evn → Prop), x ∈ l → R ρ → (p x = false → ∀ ρ', R ρ' → N ρ') → (p x = true → E x) → g (c x) ρ fun ρ' => b { Z with nx := N, ct := N, bk := Z.nx } ρ')
    (h0 : R ρ) (hd : l.find? p = none → ∀ ρ, R ρ → Z.nx ρ) (hf : ∀ x, l.find? p = some x → E x) : forW g b Z (l.map c) ρ := by
  have go : ∀ (r pre : List α) (ρ : Evn), l = pre ++ r → pre.find? p = none → R ρ → forW g b Z (r.map c) ρ := by
    intro r
    induction r with
    | nil => intro pre ρ e h1 h; rw [List.append_nil] at e; subst e; exact hd h1 ρ h
    | cons x r ih =>
      intro pre ρ e h1 h
      refine hs x ρ _ (by rw [e]; simp) h (fun hp ρ' h' => ih (pre ++ [x]) ρ' (by rw [e]; simp) (by simp [List.find?_append, h1, hp]) h') fun hp => hf x ?_
      rw [e, List.find?_append, h1]
      simp [hp]
  exact go l [] ρ rfl rfl h0
end
@[simp] theorem seq_hD' {t : Bool} {l : List Int} : D.seq (hD t (l.map .int)) = some (l.map .int) := seq_hD
theorem climbs_pw : ∀ {l : List Int}, climbs l = true ↔ l.Pairwise (· < ·)
  | [] => by simp [climbs]
  | [x] => by simp [climbs]
  | x :: y :: r => by
    have ih := climbs_pw (l := y :: r)
    have e : climbs (x :: y :: r) = (decide (x < y) && climbs (y :: r)) := by
      unfold climbs
      simp only [List.length_cons, Nat.add_sub_cancel]
      rw [List.range_succ_eq_map, List.all_cons, List.all_map]
      rfl
    rw [e, Bool.and_eq_true, ih, decide_eq_true_eq, List.pairwise_cons (a := x)]
    constructor
    · intro ⟨h1, h2⟩
      refine ⟨fun z hz => ?_, h2⟩
      rcases List.mem_cons.mp hz with rfl | hz
      · exact h1
      · exact Int.lt_trans h1 ((List.pairwise_cons.mp h2).1 z hz)
    · exact fun ⟨h1, h2⟩ => ⟨h1 y (by simp), h2⟩
theorem isSet_pw {l : List Int} {n : Int} : isSet l n = true ↔ (∀ x ∈ l, 0 ≤ x ∧ x < n) ∧ l.Pairwise (· < ·) := by
  unfold isSet
  rw [Bool.and_eq_true, climbs_pw, List.all_eq_true]
  simp
def asc (n : Int) : Int → List Int → Bool
  | _, [] => true
  | b, x :: r => (decide (b < x) && decide (x < n)) && asc n x r
end Tw.S

namespace Tw.S
open PySem PySem.Spec L2 PyProof.Rows Tw
theorem mem_stepsF {l : List Int} {u : Nat} {x : Int} : x ∈ stepsF l u ↔ x = u ∨ x ∈ l := by
  unfold stepsF
  rw [(List.mergeSort_perm _ _).mem_iff, List.mem_cons]
theorem sub_len {β : Type} [BEq β] [LawfulBEq β] : ∀ (l m : List β), l.Nodup → (∀ x ∈ l, x ∈ m) → l.length ≤ m.length
  | [], m, _, _ => Nat.zero_le _
  | x :: l, m, nd, h => by
    rw [List.nodup_cons] at nd
    have hx := h x (by simp)
    have := sub_len l (m.erase x) nd.2 fun y hy => (List.mem_erase_of_ne fun e => nd.1 (by rw [← e]; exact hy)).mpr (h y (by simp [hy]))
    rw [List.length_erase_of_mem hx] at this
    have := List.length_pos_of_mem hx
    rw [List.length_cons]
    omega
section
variable {n : Nat} {R : Nat → Nat → Bool} {s bar : List Int}
theorem reach_lt (hs : ∀ x ∈ s, 0 ≤ x ∧ x < (n : Int)) {v : Nat} (h : reachP n R s bar v) : v < n := by
  cases h with
  | st h _ => have := hs _ h; omega
  | go _ h _ =>
    unfold RR at h
    rw [Bool.and_eq_true, Bool.and_eq_true, decide_eq_true_eq, decide_eq_true_eq] at h
    exact h.1.2
/-- how the walk stands: ks seen, a ahead -/
structure RInv (n : Nat) (R : Nat → Nat → Bool) (s bar ks a : List Int) : Prop where
  nd : ks.Nodup
  k : ∀ x ∈ ks, ∃ v : Nat, x = v ∧ reachP n R s bar v
  ha : ∀ x ∈ a, ∃ v : Nat, x = v ∧ reachP n R s bar v
  st : ∀ x ∈ s, x ∉ bar → x ∈ ks ∨ x ∈ a
  cl : ∀ u v : Nat, (u : Int) ∈ ks → RR n R u v = true → (v : Int) ∉ bar → (v : Int) ∈ ks ∨ (v : Int) ∈ a
theorem nodup_lt {ks : List Int} (nd : ks.Nodup) (h : ∀ x ∈ ks, ∃ v : Nat, x = v ∧ v < n) : ks.length ≤ n := by
  have := sub_len _ ((List.range n).map fun i : Nat => (i : Int)) nd fun x hx => by
    obtain ⟨v, rfl, hv⟩ := h x hx
    exact List.mem_map.mpr ⟨v, List.mem_range.mpr hv, rfl⟩
  simpa using this
theorem mem_rowF {m : Nat} {f : Nat → Bool} {x : Int} : x ∈ rowF m f ↔ ∃ v : Nat, x = v ∧ v < m ∧ f v = true := by
  unfold rowF
  simp only [List.mem_map, List.mem_filter, List.mem_range]
  exact ⟨fun ⟨v, ⟨h1, h2⟩, e⟩ => ⟨v, e.symm, h1, h2⟩, fun ⟨v, e, h1, h2⟩ => ⟨v, ⟨h1, h2⟩, e.symm⟩⟩
theorem RInv.len {ks a : List Int} (h : RInv n R s bar ks a) (hs : ∀ x ∈ s, 0 ≤ x ∧ x < (n : Int)) : ks.length ≤ n :=
  nodup_lt h.nd fun x hx => (h.k x hx).imp fun v ⟨e, r⟩ => ⟨e, reach_lt hs r⟩
theorem RInv.skip {ks a : List Int} {x : Int} (h : RInv n R s bar ks (a ++ [x])) (hx : x ∈ ks) : RInv n R s bar ks a := by
  refine ⟨h.nd, h.k, fun y hy => h.ha y (by simp [hy]), fun y h1 h2 => ?_, fun u v h1 h2 h3 => ?_⟩
  · rcases h.st y h1 h2 with h4 | h4
    · exact .inl h4
    · rcases List.mem_append.mp h4 with h4 | h4
      · exact .inr h4
      · rw [List.mem_singleton.mp h4]; exact .inl hx
  · rcases h.cl u v h1 h2 h3 with h4 | h4
    · exact .inl h4
    · rcases List.mem_append.mp h4 with h4 | h4
      · exact .inr h4
      · rw [List.mem_singleton.mp h4]; exact .inl hx
theorem RInv.put {ks a : List Int} {u : Nat} (h : RInv n R s bar ks (a ++ [(u : Int)])) (hu : u < n) (hx : (u : Int) ∉ ks) : RInv n R s bar (ks ++ [(u : Int)]) (a ++ (stepsF (rowF n (R u)) u).filter fun y => !decide (y ∈ bar)) := by
  obtain ⟨w, ew, hw⟩ := h.ha u (by simp)
  have : w = u := by omega
  subst this
  have keep : ∀ y : Int, y ∈ ks ∨ y ∈ a ++ [(w : Int)] → y ∈ ks ++ [(w : Int)] ∨ y ∈ a ++ (stepsF (rowF n (R w)) w).filter fun y => !decide (y ∈ bar) := by
    intro y hy
    rcases hy with h4 | h4
    · exact .inl (by simp [h4])
    · rcases List.mem_append.mp h4 with h4 | h4
      · exact .inr (by simp [h4])
      · exact .inl (by simp [List.mem_singleton.mp h4])
  refine ⟨?_, fun y hy => ?_, fun y hy => ?_, fun y h1 h2 => keep y (h.st y h1 h2), fun u v h1 h2 h3 => ?_⟩
  · rw [List.nodup_append]
    refine ⟨h.nd, by simp, fun a ha b hb e => hx ?_⟩
    rw [← List.mem_singleton.mp hb, ← e]; exact ha
  · rcases List.mem_append.mp hy with hy | hy
    · exact h.k y hy
    · exact ⟨w, List.mem_singleton.mp hy, hw⟩
  · rcases List.mem_append.mp hy with hy | hy
    · exact h.ha y (by simp [hy])
    · obtain ⟨h1, h2⟩ := List.mem_filter.mp hy
      have h2 : y ∉ bar := by simpa using h2
      rcases mem_stepsF.mp h1 with e | h1
      · exact ⟨w, e, hw⟩
      · obtain ⟨v, e, h3, h4⟩ := mem_rowF.mp h1
        refine ⟨v, e, .go hw ?_ ?_⟩
        · unfold RR
          simp [hu, h3, h4]
        · rw [← e]; exact h2
  · rcases List.mem_append.mp h1 with h1 | h1
    · exact keep v (h.cl u v h1 h2 h3)
    · have : u = w := by have := List.mem_singleton.mp h1; omega
      subst this
      refine .inr (List.mem_append.mpr (.inr (List.mem_filter.mpr ⟨mem_stepsF.mpr (.inr (mem_rowF.mpr ⟨v, rfl, ?_⟩)), by simpa using h3⟩)))
      unfold RR at h2
      rw [Bool.and_eq_true, Bool.and_eq_true, decide_eq_true_eq, decide_eq_true_eq] at h2
      exact ⟨h2.1.2, h2.2⟩
theorem RInv.fin {ks : List Int} (h : RInv n R s bar ks []) (hs : ∀ x ∈ s, 0 ≤ x ∧ x < (n : Int)) {ms : List Int} (p : ms.Perm ks) (so : ms.Pairwise (· ≤ ·)) : Lists n (reachP n R s bar) ms := by
  refine ⟨isSet_pw.mpr ⟨fun x hx => ?_, ?_⟩, fun v hv => ⟨fun hx => ?_, fun hr => ?_⟩⟩
  · obtain ⟨v, rfl, hr⟩ := h.k x (p.mem_iff.mp hx)
    have := reach_lt hs hr
    omega
  · have nd := p.nodup_iff.mpr h.nd
    exact (List.pairwise_and_iff.mpr ⟨so, nd⟩).imp fun ⟨h1, h2⟩ => by omega
  · obtain ⟨w, e, hr⟩ := h.k _ (p.mem_iff.mp hx)
    have : v = w := by omega
    rw [this]; exact hr
  · refine p.mem_iff.mpr ?_
    have : ∀ v : Nat, reachP n R s bar v → (v : Int) ∈ ks := fun v hr => by
      induction hr with
      | st h1 h2 => exact (h.st _ h1 h2).resolve_right (by simp)
      | go _ h2 h3 ih => exact (h.cl _ _ ih h2 h3).resolve_right (by simp)
    exact this v hr
end
end Tw.S

namespace Tw.S
open PySem PySem.Spec L2 PyProof.Rows Tw
end Tw.S

/-! what the defs of k00 keep -/
namespace Tw.S
open PySem PySem.Spec L2 PyProof.Rows Tw
/-- words that are no names of the web -/
structure Strange (names l : List Str) : Prop where
  ok : ∀ z ∈ l, PyData.strOk z = true ∧ z ∉ names
  le : l.length ≤ 100
end Tw.S

namespace Tw.S
open PySem PySem.Spec L2 PyProof.Rows Tw

end Tw.S

namespace Tw.S
open PySem PySem.Spec L2 PyProof.Rows Tw
theorem raiseN0 {C : Addr} {f : Str} {w : Wx} : sRaiseN C [f] (waCons w waNil) = fun Z ρ => w Z.xc ρ fun d => Z.xc C [(f, d)] := by
  unfold sRaiseN
  simp
@[simp] theorem mOf_webI {C : Addr} {names : List Str} {c : Nat} {L : Psg} : mOf C "index" (webP C names c L) := ⟨_, rfl, rfl⟩
@[simp] theorem mOf_webL {C : Addr} {names : List Str} {c : Nat} {L : Psg} : mOf C "leads" (webP C names c L) := ⟨_, rfl, rfl⟩
end Tw.S

namespace Tw.S
open PySem PySem.Spec L2 PyProof.Rows Tw
end Tw.S

namespace Tw.S
open PySem PySem.Spec L2 PyProof.Rows Tw
/-! which texts are right -/
@[simp] theorem oSl_str {z : Str} {lo hi : Option Int} {Q : D → Prop} : oSl (.str z) lo hi Q = (z.length ≤ sizeLine ∧ Q (.str (cutS z lo hi))) := rfl
end Tw.S

namespace Tw.S
open PySem PySem.Spec L2 PyProof.Rows Tw
end Tw.S

namespace Tw.S
open PySem PySem.Spec L2 PyProof.Rows Tw
end Tw.S

namespace Tw.S
open PySem PySem.Spec L2 PyProof.Rows Tw

def b_check_part (C_Web : Addr) (C_BadWeb : Addr) (C_UnknownPlace : Addr) : Ws :=
  (sSeq (sIf (wB (w2 oEq (wN oLen (waCons (wWk (wVar 1)) waNil)) (wC (.int 0))))
  (sRaiseN C_BadWeb ["part", "place"] (waCons (wC (.str "places")) (waCons (wC (.int 0)) waNil)))
  sNil)
  (sFor (wiR1 (wN oLen (waCons (wWk (wVar 1)) waNil))) (gSet 2)
  (sSeq (sExp (wCall (wf_check_place C_Web C_UnknownPlace) [] (waCons (wVar 0) (waCons (w2 oIx (wWk (wVar 1)) (wVar 2)) waNil))))
  (sIf (wB (w2 (oIn false) (w2 oIx (wWk (wVar 1)) (wVar 2)) (wSl oSl (wWk (wVar 1)) woN (woS (wVar 2)))))
  (sRaiseN C_UnknownPlace ["place"] (waCons (w2 oIx (wWk (wVar 1)) (wVar 2)) waNil))
  sNil))))
def b_restricted_nexts : Ws :=
  (sSeq (sSet 2 (wN oLen (waCons (wWk (wVar 1)) waNil)))
  (sRetF (wLc (wiR1 (wVar 2)) (gSet 3) wtYes (wLc (wiR1 (wVar 2)) (gSet 4) (wB (w2 (oIn false) (w2 oIx (wWk (wVar 1)) (wVar 4)) (w2 oIx (wVar 0) (w2 oIx (wWk (wVar 1)) (wVar 3))))) (wVar 4) [4]) [3])))
def b_Web_restricted (C_Web : Addr) (C_BadWeb : Addr) (C_UnknownPlace : Addr) : Ws :=
  (sSeq (sExp (wCall (wf_check_part C_Web C_BadWeb C_UnknownPlace) [] (waCons (wVar 0) (waCons (wVar 1) waNil))))
  (sSeq (sSet 2 (wTupX (wLc (wiS (wWk (wVar 1))) (gSet 3) wtYes (w2 oIx (wWk (wFld C_Web "places" (wVar 0))) (wVar 3)) [3])))
  (sRet (wCall (wf_woven C_Web) [] (waCons (wVar 2) (waCons (wLc (wiS (wFld C_Web "_nexts" (wVar 0))) (gSet 4) wtYes (wCall wf_restricted_nexts [] (waCons (wVar 4) (waCons (wVar 1) waNil))) [4]) waNil))))))
end Tw.S

namespace Tw.S
open PySem PySem.Spec L2 PyProof.Rows Tw
theorem raiseN2 {C : Addr} {f g : Str} {w w' : Wx} : sRaiseN C [f, g] (waCons w (waCons w' waNil)) = fun Z ρ => w Z.xc ρ fun d => w' Z.xc ρ fun e => Z.xc C [(g, e), (f, d)] := by
  funext Z ρ
  simp [sRaiseN]
theorem getD_at {l : List Int} {i : Nat} (h : i < l.length) : atI (l.map D.int) (i : Int) = some (.int (l.getD i 0)) := by
  rw [atI_at (by omega) (by simp; omega)]
  simp [h]
theorem getD_mem {α : Type} {l : List α} {i : Nat} {z : α} (h : i < l.length) : l.getD i z ∈ l := by
  rw [List.getD_eq_getElem?_getD, List.getElem?_eq_getElem h]
  exact List.getElem_mem h
theorem nd_of_first {α : Type} [DecidableEq α] {l : List α} {z : α} (h : ∀ k, k < l.length → l.getD k z ∉ l.take k) : l.Nodup := by
  unfold List.Nodup
  rw [List.pairwise_iff_getElem]
  intro i j hi hj hij e
  refine h j hj ?_
  rw [List.getD_eq_getElem?_getD, List.getElem?_eq_getElem hj]
  show l[j] ∈ _
  rw [← e, List.mem_take_iff_getElem]
  exact ⟨i, by omega, rfl⟩
theorem first_nd {α : Type} {l : List α} {z : α} (nd : l.Nodup) {k : Nat} (h : k < l.length) : l.getD k z ∉ l.take k := fun m => by
  rw [List.getD_eq_getElem?_getD, List.getElem?_eq_getElem h] at m
  obtain ⟨j, hj, e⟩ := List.mem_take_iff_getElem.mp m
  have := (List.getElem_inj nd).mp e
  omega
theorem outB_iff {n : Nat} {x : Int} : outB n x = true ↔ ¬(0 ≤ x ∧ x < n) := by
  unfold outB
  rw [Bool.not_eq_true', ← Bool.not_eq_true, Bool.and_eq_true, decide_eq_true_eq, decide_eq_true_eq]
def pBad (n : Nat) (ps : List Int) (k : Nat) : Bool := outB n (ps.getD k 0) || decide (ps.getD k 0 ∈ ps.take k)
theorem wrongP_none {n : Nat} {ps : List Int} : wrongP n ps = none ↔ (∀ x ∈ ps, 0 ≤ x ∧ x < n) ∧ ps.Nodup := by
  unfold wrongP
  rw [Option.map_eq_none_iff, List.find?_eq_none]
  constructor
  · intro h
    have hk : ∀ k, k < ps.length → ¬outB n (ps.getD k 0) = true ∧ ps.getD k 0 ∉ ps.take k := fun k hk => by
      have := h k (List.mem_range.mpr hk)
      rw [Bool.or_eq_true, not_or, decide_eq_true_eq] at this
      exact this
    refine ⟨fun x hx => ?_, nd_of_first fun k h => (hk k h).2⟩
    obtain ⟨i, hi, rfl⟩ := List.getElem_of_mem hx
    have := (hk i hi).1
    rw [outB_iff, Classical.not_not, List.getD_eq_getElem?_getD, List.getElem?_eq_getElem hi] at this
    exact this
  · intro ⟨h1, h2⟩ k hk
    have hk' := List.mem_range.mp hk
    rw [Bool.or_eq_true, not_or, decide_eq_true_eq, outB_iff, Classical.not_not]
    exact ⟨h1 _ (getD_mem hk'), first_nd h2 hk'⟩
section
variable {α : Type} {g : Wg} {b : Ws} {Z : Pd} {ρ : Evn}
end
theorem p_check_part (C CB CU : Addr) (xc : XC) (ds : List D) (Q : Bool → D → Prop) (h : wf_check_part C CB CU xc ds Q) : b_check_part C CB CU (Zd xc Q) (ds.map .da ++ List.replicate (3 - ds.length) .no) := by
  obtain ⟨t, names, c, L, ps, rfl, hn, hl, q1, q2, q3⟩ := h
  have hs := sizeLine_eq
  simp [b_check_part, sFor, raiseN2, raiseN0]
  by_cases e0 : ps = []
  · exact .inr ⟨e0, q1 e0⟩
  refine .inl ⟨e0, by omega, ?_⟩
  refine for_first (List.range ps.length) (fun i => .int (0 + (i : Nat))) (fun ρ => ∃ a, ρ = [Sl.da (webP C names c L), Sl.da (qD t (ps.map D.int)), a]) (pBad names.length ps) (fun k => xc CU [("place", .int (ps.getD k 0))]) (fun i ρ N hi ⟨a, er⟩ hg hb => ?_) ⟨_, rfl⟩ (fun hd ρ _ => q3 e0 (by unfold wrongP; exact (Option.map_eq_none_iff).mpr hd)) (fun k hf => q2 _ e0 (by unfold wrongP; exact Option.map_eq_some_iff.mpr ⟨k, hf, rfl⟩))
  have hi' := List.mem_range.mp hi
  have ea := getD_at hi'
  obtain ⟨x, ex⟩ : ∃ x, ps.getD i 0 = x := ⟨_, rfl⟩
  rw [ex] at ea hb
  rw [er, Int.zero_add]
  simp [ea, wCall]
  refine ⟨names, c, _, x, rfl, hn, fun z => hb (by unfold pBad; rw [ex, outB_iff.mpr z]; rfl), fun z0 z1 => ?_⟩
  have ob : outB names.length x = false := by rw [← Bool.not_eq_true, outB_iff, Classical.not_not]; exact ⟨z0, z1⟩
  simp [ea, wSl, woS, woN, cutD_map, cut_take]
  rw [← List.map_take, oIn_hi]
  by_cases e : x ∈ ps.take i
  · exact .inr ⟨by simpa using e, hb (by unfold pBad; rw [ex, decide_eq_true e, Bool.or_true])⟩
  · exact .inl ⟨by simpa using e, hg (by unfold pBad; rw [ex, ob, decide_eq_false e]; rfl) _ ⟨_, rfl⟩⟩
theorem p_restricted_nexts (xc : XC) (ds : List D) (Q : Bool → D → Prop) (h : wf_restricted_nexts xc ds Q) : b_restricted_nexts (Zd xc Q) (ds.map .da ++ List.replicate (5 - ds.length) .no) := by
  obtain ⟨t, n, b, L, ps, rfl, hn, hl, ok, q⟩ := h
  have hs := sizeLine_eq
  have at_i : ∀ i : Nat, i < ps.length → ∃ x, atI (ps.map D.int) (i : Int) = some (.int x) ∧ 0 ≤ x ∧ x < n ∧ ps.getD i 0 = x := fun i hi => by
    refine ⟨ps[i], ?_, (ok _ (List.getElem_mem hi)).1, (ok _ (List.getElem_mem hi)).2, by simp [hi]⟩
    rw [atI_at (by omega) (by simp; omega)]
    simp [hi]
  simp [b_restricted_nexts]
  refine ⟨by omega, lc_rng0 ps.length (fun u => iL (rowF ps.length (permQ ps L b u))) (fun u hu k1 h1 => ?_) (by omega) ?_⟩
  · obtain ⟨x, ex, x0, x1, gx⟩ := at_i u hu
    simp
    refine ⟨by omega, lc_rng0F ps.length (permQ ps L b u) (fun v => .int (v : Nat)) (fun v hv k2 k3 g1 g2 => ?_) (by omega) ?_⟩
    · obtain ⟨y, ey, y0, y1, gy⟩ := at_i v hv
      have at_x : atI (rowT n L b) x = some (rowF n (L b x.toNat)) := by
        have := rowT_at (n := n) (L := L) (b := b) (u := x.toNat) (by omega)
        rwa [show ((x.toNat : Nat) : Int) = x by omega] at this
      simp [ex, ey, at_x]
      have e : decide (y ∈ rowF n (L b x.toNat)) = permQ ps L b u v := by
        unfold permQ
        rw [gx, gy, Bool.eq_iff_iff, decide_eq_true_eq, mem_rowF]
        constructor
        · rintro ⟨w, rfl, _, h7⟩; exact h7
        · exact fun h => ⟨y.toNat, by omega, by omega, h⟩
      cases hp : permQ ps L b u v with
      | true =>
        rw [hp] at e
        exact .inr ⟨of_decide_eq_true e, g1 hp⟩
      | false =>
        rw [hp] at e
        exact .inl ⟨of_decide_eq_false e, g2 hp⟩
    · have : ((List.range ps.length).filter (permQ ps L b u)).map (fun v => D.int (v : Nat)) = (rowF ps.length (permQ ps L b u)).map D.int := by
        unfold rowF
        rw [List.map_map]; rfl
      rw [this]
      exact h1
  · have : (List.range ps.length).map (fun u => iL (rowF ps.length (permQ ps L b u))) = (rowT ps.length (permQ ps L) b).map iL := by
      unfold rowT
      rw [List.map_map]; rfl
    rw [this]
    exact q
theorem part_names {names : List Str} {ps : List Int} (hn : NamesOk names) (h0 : ps ≠ []) (ok : ∀ x ∈ ps, 0 ≤ x ∧ x < names.length) (nd : ps.Nodup) : NamesOk (ps.map fun x => names.getD x.toNat "") := by
  have hi := hn.hi
  have hl : ps.length ≤ 8 := by
    have := nodup_lt (n := names.length) nd fun x hx => ⟨x.toNat, by have := ok x hx; omega, by have := ok x hx; omega⟩
    omega
  have hl1 : 1 ≤ ps.length := by
    cases ps with
    | nil => exact absurd rfl h0
    | cons x r => simp
  refine ⟨by simpa using hl1, by simpa using hl, fun x hx => ?_, ?_⟩
  · obtain ⟨y, hy, rfl⟩ := List.mem_map.mp hx
    have := ok y hy
    rw [List.getD_eq_getElem?_getD, List.getElem?_eq_getElem (by omega)]
    exact hn.nm _ (List.getElem_mem _)
  · unfold List.Nodup
    rw [List.pairwise_map]
    refine List.Pairwise.imp_of_mem (fun {x y} hx hy h e => ?_) nd
    have ox := ok x hx
    have oy := ok y hy
    rw [List.getD_eq_getElem?_getD, List.getElem?_eq_getElem (show x.toNat < names.length by omega), List.getD_eq_getElem?_getD, List.getElem?_eq_getElem (show y.toNat < names.length by omega)] at e
    have := (List.getElem_inj hn.nd).mp e
    omega
theorem webP_places5 {C : Addr} {names : List Str} {c : Nat} {L : Psg} {Q : D → Prop} : fldOf C "places" (webP C names c L) Q = Q (.xtp (names.map .str)) := fldOf_mk rfl
theorem webP_nexts5 {C : Addr} {names : List Str} {c : Nat} {L : Psg} {Q : D → Prop} : fldOf C "_nexts" (webP C names c L) Q = Q (t3 (tabF names.length c L)) := fldOf_mk rfl
theorem p_Web_restricted (C CB CU : Addr) (xc : XC) (ds : List D) (Q : Bool → D → Prop) (h : wf_Web_restricted C CB CU xc ds Q) : b_Web_restricted C CB CU (Zd xc Q) (ds.map .da ++ List.replicate (5 - ds.length) .no) := by
  obtain ⟨t, names, c, L, ps, rfl, hn, h1, h4, ir, hl20, q1, q2, q3⟩ := h
  have hs := sizeLine_eq
  have hi := hn.hi
  simp [b_Web_restricted, wCall, webP_places5, webP_nexts5, wTupX]
  refine ⟨t, names, c, L, ps, rfl, hi, hl20, q1, q2, fun h0 hw => ?_⟩
  obtain ⟨ok, nd⟩ := wrongP_none.mp hw
  have q := q3 h0 hw
  have pn := part_names hn h0 ok nd
  have hl : ps.length ≤ 8 := by simpa using pn.hi
  refine lc_of ps D.int (fun x => .str (names.getD x.toNat "")) (fun x hx k1 h1' => ?_) (by omega) ?_
  · have := ok x hx
    have ex : atI (names.map D.str) x = some (.str (names.getD x.toNat "")) := by
      rw [atI_at (by omega) (by simp; omega)]
      simp [show x.toNat < names.length by omega]
    simp [webP_places5, ex]
    exact h1'
  · have tm : (tabF names.length c L).map t2 = (List.range c).map fun b => t2 (rowT names.length L b) := by
      rw [tabF_rowT, List.map_map]; rfl
    rw [tm]
    refine lc_of (List.range c) (fun b => t2 (rowT names.length L b)) (fun b => l2 (rowT ps.length (permQ ps L) b)) (fun b hb k1 h1' => ?_) (by simp; omega) ?_
    · simp [wCall]
      exact ⟨t, names.length, b, L, ps, rfl, hi, hl, ok, h1'⟩
    · refine ⟨false, false, false, ps.map fun x => names.getD x.toNat "", c, permQ ps L, ?_, pn, h1, h4, fun b u => ir b _, q⟩
      rw [List.map_map, List.length_map, tabF_rowT, List.map_map]
      rfl
end Tw.S

namespace Tw.S
open PySem PySem.Spec L2 PyProof.Rows Tw
theorem psg_plain {names : List Str} {ts : List Tie} {c : Nat} (hc : 1 ≤ c) (hp : PlainT c ts) : plainB names.length c (psgOf names ts) = true := by
  rw [plain_iff hc]
  intro b u v b' hb hu hv hb' h
  unfold psgOf leads at h ⊢
  rw [List.any_eq_true] at h
  obtain ⟨t, ht, h⟩ := h
  obtain ⟨ew, ea⟩ := hp t ht
  have hin : decide ((b' : Int) ∈ t.at_) = true := by
    rw [ea]
    exact decide_eq_true (List.mem_map.mpr ⟨b', List.mem_range.mpr hb', rfl⟩)
  unfold Tie.leads at h
  rw [Bool.and_eq_true, Bool.or_eq_true] at h
  have h2 := h.2
  rw [ew] at h2
  refine ⟨List.any_eq_true.mpr ⟨t, ht, ?_⟩, List.any_eq_true.mpr ⟨t, ht, ?_⟩⟩
  · unfold Tie.leads
    rw [hin, ew, Bool.true_and, Bool.or_eq_true]
    exact h2
  · unfold Tie.leads
    rw [hin, ew, Bool.true_and, Bool.or_eq_true]
    rcases h2 with h2 | h2
    · rw [Bool.and_eq_true] at h2
      right
      rw [h2.2, h2.1]
      rfl
    · rw [Bool.and_eq_true, Bool.and_eq_true] at h2
      left
      rw [h2.1.1, h2.1.2]
      rfl
theorem rows_eq (w : Pw) : l2 ((List.range w.names.length).map fun u => rowF w.names.length (w.L 0 u)) = rowsR w.n w.R := by
  unfold rowsR Pw.n
  congr 1
  refine List.map_congr_left fun u hu => ?_
  unfold rowF
  congr 1
  refine List.filter_congr fun v hv => ?_
  unfold Pw.R Pw.n
  rw [decide_eq_true (List.mem_range.mp hu), decide_eq_true (List.mem_range.mp hv)]
  rfl
theorem R_symm {w : Pw} (hw : w.Ok) (x y : Nat) : w.R x y = w.R y x := by
  have h := (plain_iff hw.lo).mp hw.pl
  have lo := hw.lo
  unfold Pw.R Pw.n
  rw [Bool.eq_iff_iff]
  simp only [Bool.and_eq_true, decide_eq_true_eq]
  constructor
  · rintro ⟨⟨a, b⟩, c⟩
    exact ⟨⟨b, a⟩, (h 0 x y 0 (by omega) a b (by omega) c).2⟩
  · rintro ⟨⟨a, b⟩, c⟩
    exact ⟨⟨b, a⟩, (h 0 y x 0 (by omega) a b (by omega) c).2⟩
/-- the web of some of its places -/
def Pw.sub (w : Pw) (ps : List Nat) : Pw := ⟨(natI ps).map fun x => w.names.getD x.toNat "", w.c, permQ (natI ps) w.L⟩
theorem sub_n (w : Pw) (ps : List Nat) : (w.sub ps).n = ps.length := by simp [Pw.sub, Pw.n, natI]
theorem natI_nd {ps : List Nat} (h : ps.Nodup) : (natI ps).Nodup := nodup_map h fun x _ y _ e => by omega
theorem natI_in {ps : List Nat} {n : Nat} (h : ∀ x ∈ ps, x < n) : ∀ x ∈ natI ps, 0 ≤ x ∧ x < (n : Int) := fun x hx => by
  obtain ⟨y, hy, rfl⟩ := List.mem_map.mp hx
  have := h y hy
  omega
theorem natI_at (ps : List Nat) (i : Nat) : ((natI ps).getD i 0).toNat = ps.getD i 0 := by
  unfold natI
  by_cases h : i < ps.length
  · simp [List.getD, h]
  · simp [List.getD, h]
theorem sub_ok {w : Pw} (hw : w.Ok) {ps : List Nat} (ne : ps ≠ []) (nd : ps.Nodup) (hb : ∀ x ∈ ps, x < w.names.length) : (w.sub ps).Ok := by
  have h := (plain_iff hw.lo).mp hw.pl
  refine ⟨part_names hw.nm (by simpa [natI] using ne) (natI_in hb) (natI_nd nd), hw.lo, hw.hi, fun b i => hw.ir b _, ?_⟩
  have hn : (w.sub ps).names.length = ps.length := sub_n w ps
  rw [hn]
  refine (plain_iff hw.lo).mpr fun b u v b' h1 h2 h3 h4 h5 => ?_
  have bd : ∀ i, i < ps.length → ps.getD i 0 < w.names.length := fun i hi => hb _ (by simp [List.getD, hi])
  have e : ∀ b i j, (w.sub ps).L b i j = w.L b (ps.getD i 0) (ps.getD j 0) := fun b i j => by
    show w.L b ((natI ps).getD i 0).toNat ((natI ps).getD j 0).toNat = _
    rw [natI_at, natI_at]
  rw [e] at h5 ⊢
  rw [e]
  exact h b _ _ b' h1 (bd u h2) (bd v h3) h4 h5
theorem sub_R {w : Pw} {ps : List Nat} (hb : ∀ x ∈ ps, x < w.names.length) {i j : Nat} (hi : i < ps.length) (hj : j < ps.length) : (w.sub ps).R i j = w.R (ps.getD i 0) (ps.getD j 0) := by
  have bd : ∀ i, i < ps.length → ps.getD i 0 < w.n := fun i hi => hb _ (by simp [List.getD, hi])
  show (decide (i < (w.sub ps).n) && decide (j < (w.sub ps).n) && w.L 0 ((natI ps).getD i 0).toNat ((natI ps).getD j 0).toNat) = _
  rw [sub_n, natI_at, natI_at]
  unfold Pw.R
  rw [decide_eq_true hi, decide_eq_true hj, decide_eq_true (bd i hi), decide_eq_true (bd j hj)]
theorem range_at (ps : List Nat) : (List.range ps.length).map (fun i => ps.getD i 0) = ps := by
  refine List.ext_getElem (by simp) fun i h1 h2 => ?_
  simp [List.getD, h2]
theorem at_inj {ps : List Nat} (nd : ps.Nodup) : ∀ x ∈ List.range ps.length, ∀ y ∈ List.range ps.length, ps.getD x 0 = ps.getD y 0 → x = y := fun x hx y hy e => by
  have h1 := List.mem_range.mp hx
  have h2 := List.mem_range.mp hy
  simp only [List.getD, List.getElem?_eq_getElem h1, List.getElem?_eq_getElem h2, Option.getD_some] at e
  exact (List.getElem_inj nd).mp e
/-- a folding of the web of some places is one of these places -/
theorem sub_fold {w : Pw} {ps : List Nat} (nd : ps.Nodup) (hb : ∀ x ∈ ps, x < w.names.length) {gs : List (Nat × Nat)} {B : List Nat} (h : FoldTo (w.sub ps).R (List.range ps.length) gs B) : FoldTo w.R ps (gs.map fun q => (ps.getD q.1 0, ps.getD q.2 0)) (B.map fun i => ps.getD i 0) := by
  have := fold_map (R := w.R) (s := fun i => ps.getD i 0) h (at_inj nd) fun x hx y hy => sub_R hb (List.mem_range.mp hx) (List.mem_range.mp hy)
  rwa [range_at] at this
theorem cov_perm {R : Nat → Nat → Bool} {L L' : List Nat} {u v : Nat} (p : ∀ x, x ∈ L ↔ x ∈ L') (c : Cov R L u v) : Cov R L' u v := ⟨c.1, (p u).mp c.2.1, (p v).mp c.2.2.1, fun x hx h => c.2.2.2 x ((p x).mpr hx) h⟩
theorem fold_perm {R : Nat → Nat → Bool} {L A : List Nat} {fs : List (Nat × Nat)} (h : FoldTo R L fs A) : ∀ {L' : List Nat}, L.Perm L' → ∃ A', FoldTo R L' fs A' ∧ A.Perm A' := by
  induction h with
  | nil => exact fun p => ⟨_, .nil, p⟩
  | cons c f ih =>
    intro L' p
    obtain ⟨A', h1, h2⟩ := ih (p.filter _)
    exact ⟨A', .cons (cov_perm (fun x => p.mem_iff) c) h1, h2⟩
theorem stiff_perm {R : Nat → Nat → Bool} {L L' : List Nat} (p : L.Perm L') (h : Stiff R L) : Stiff R L' := fun u v c => h u v (cov_perm (fun x => p.symm.mem_iff) c)
theorem gr_ok (w : Pw) : FoldTo w.R w.V w.gr.1 w.gr.2 ∧ Stiff w.R w.gr.2 := greedy_ok w.n w.V List.nodup_range (by simp [Pw.V])
/-- the same web with its places in another order keeps as many -/
theorem sub_many {w : Pw} (hw : w.Ok) {ps : List Nat} (p : ps.Perm w.V) {fs : List (Nat × Nat)} {A : List Nat} (hf : FoldTo w.R w.V fs A) (st : Stiff w.R A) : (w.sub ps).gr.2.length = A.length := by
  have nd : ps.Nodup := p.nodup_iff.mpr List.nodup_range
  have hb : ∀ x ∈ ps, x < w.names.length := fun x hx => List.mem_range.mp (p.mem_iff.mp hx)
  obtain ⟨g1, g2⟩ := gr_ok (w.sub ps)
  have eV : (w.sub ps).V = List.range ps.length := by unfold Pw.V; rw [sub_n]
  rw [eV] at g1
  have h1 := sub_fold nd hb g1
  have hsub : ∀ x ∈ (w.sub ps).gr.2, x ∈ List.range ps.length := fold_sub g1
  have h2 : Stiff w.R ((w.sub ps).gr.2.map fun i => ps.getD i 0) := stiff_map g2 (fun x hx y hy => at_inj nd x (hsub x hx) y (hsub y hy)) fun x hx y hy => sub_R hb (List.mem_range.mp (hsub x hx)) (List.mem_range.mp (hsub y hy))
  obtain ⟨B, h3, h4⟩ := fold_perm h1 p
  have := as_many (R_symm hw) List.nodup_range h3 (stiff_perm h4 h2) hf st
  rw [← this, ← h4.length_eq, List.length_map]
/-- .. and the web of what is left at the end can't be folded -/
theorem sub_stiff {w : Pw} {A : List Nat} (nd : A.Nodup) (hb : ∀ x ∈ A, x < w.names.length) (st : Stiff w.R A) : (w.sub A).gr.1 = [] := by
  have eV : (w.sub A).V = List.range A.length := by unfold Pw.V; rw [sub_n]
  have h : Stiff (w.sub A).R (List.range A.length) := fun i j c => by
    have := sub_fold nd hb (.cons c .nil)
    exact st _ _ (fold_cov this)
  unfold Pw.gr
  rw [eV, greedy_none _ (by rw [poss_nil.mpr h]; rfl)]
end Tw.S

namespace Tw.S
open PySem PySem.Spec L2 PyProof.Rows Tw
theorem pick_perm {α : Type} : ∀ (l : List α) (i : Nat) (h : i < l.length), (l[i] :: l.eraseIdx i).Perm l
  | [], i, h => by simp at h
  | a :: l, 0, h => List.Perm.refl _
  | a :: l, i + 1, h => (List.Perm.swap a (l[i]'(by simpa using h)) (l.eraseIdx i)).trans ((pick_perm l i (by simpa using h)).cons a)
theorem sqIx33 {n i : Nat} (h : i < n) : seqIndex? (i : Int) n = some i := by
  unfold seqIndex?
  rw [if_neg (show ¬(i : Int) < 0 by omega)]
  simp [h]
section
variable {CF CW CB CN CU : Addr} {xc : XC} {Q : Bool → D → Prop} {S1 S2 S3 S4 S5 S6 S7 S8 S9 S10 S11 S12 S13 S14 S15 S16 S17 : Sl} {sc : List Int}
theorem go_last33 (hsc : sc.length ≤ 63) (q : Q false (.bl true)) : r_law_k33_16 CF CW CB CN CU (Zd xc Q) [Sl.da (.fls (sc.map .int)), S1, S2, S3, S4, S5, S6, S7, S8, S9, S10, S11, S12, S13, S14, S15, S16, S17] := by
  have hs := sizeLine_eq
  simp [r_law_k33_16, sAsg, wCall]
  refine ⟨sc, 5, 40, rfl, hsc, by omega, by omega, fun d5 l5 b5 => ⟨d5, 5, 3, 3, rfl, b5, l5, by omega, by omega, by omega, by omega, by omega, by omega, fun names ts c hn ht h1 h4 _ => ?_⟩⟩
  simp [gLstD, gsCons, gsNil, D.isL]
  refine ⟨_, _, ⟨rfl, rfl⟩, _, _, rfl, _, _, rfl, _, _, rfl, rfl, ?_⟩
  have hi := hn.hi
  have irr : Irr (psgOf names ts) := psg_diag ht
  simp [r_law_k33_17, wCall, wMakeK, gD_K_Web_2_beats]
  refine ⟨names.length, c, psgOf names ts, rfl, hi, h1, h4, ?_⟩
  cases e : plainB names.length c (psgOf names ts) with
  | true => exact .inr ⟨rfl, q⟩
  | false => exact .inl ⟨rfl, false, false, names, ts, c, rfl, hn, ht, h1, h4, ⟨names, c, psgOf names ts⟩, rfl, hn, h1, h4, irr, e, q⟩
theorem go_moved33 {w : Pw} (hw : w.Ok) {fs : List (Nat × Nat)} {A ps : List Nat} (hsc : sc.length ≤ 63) (hf : FoldTo w.R w.V fs A) (st : Stiff w.R A) (hg : (fs, A) = w.gr) (p : ps.Perm w.V) (q : Q false (.bl true)) :
    r_law_k33_12 CF CW CB CN CU (Zd xc Q) [Sl.da (.fls (sc.map .int)), S1, S2, S3, S4, Sl.da (rowsR w.n w.R), Sl.da (.int w.names.length), Sl.da (w.d CW), Sl.da (pL (fsI fs)), Sl.da (iL (natI A)), S10, S11, S12, S13, S14, Sl.ow (iL (natI ps)), .no, .no] := by
  have hs := sizeLine_eq
  have hi := hw.nm.hi
  have lo := hw.nm.lo
  have vl : w.V.length = w.names.length := by simp [Pw.V, Pw.n]
  have pl := p.length_eq
  have hb : ∀ x ∈ ps, x < w.names.length := fun x hx => List.mem_range.mp (p.mem_iff.mp hx)
  have nd : ps.Nodup := p.nodup_iff.mpr List.nodup_range
  have pne : ps ≠ [] := fun z => by rw [z] at pl; simp at pl; omega
  have hAb : ∀ x ∈ A, x < w.names.length := fun x hx => List.mem_range.mp (fold_sub hf x hx)
  have ndA := fold_nd hf List.nodup_range
  have fl := fold_len hf List.nodup_range
  have hAne : A ≠ [] := List.ne_nil_of_mem (shadow_in hf 0 (List.mem_range.mpr (by unfold Pw.n; omega)))
  have ln : ∀ (B : List Nat) (Q : D → Prop), oLen [iL (natI B)] Q = Q (.int B.length) := fun B Q => by unfold iL; simp [natI_len]
  have lt : ∀ (B : List Nat) (Q : D → Prop), oLen [tI (natI B)] Q = Q (.int B.length) := fun B Q => by unfold tI; simp [natI_len]
  have restr : ∀ (B : List Nat), B ≠ [] → B.Nodup → (∀ x ∈ B, x < w.names.length) → B.length ≤ 20 → ∀ (xc : XC) (K : Bool → D → Prop), K false ((w.sub B).d CW) → wf_Web_restricted CW CB CU xc [w.d CW, .lst ((natI B).map .int)] K := fun B h1 h2 h3 h4 xc K k =>
    ⟨false, w.names, w.c, w.L, natI B, rfl, hw.nm, hw.lo, hw.hi, hw.ir, by rw [natI_len]; exact h4, fun z => absurd z (by simpa [natI] using h1), fun x _ z => (by rw [wrongP_none.mpr ⟨natI_in h3, natI_nd h2⟩] at z; cases z), fun _ _ => k⟩
  have foldU : ∀ (u : Pw), u.Ok → ∀ (xc : XC) (K : Bool → D → Prop), K false (foldD CF CW u u.gr.1 u.gr.2) → wf_fold_up CF CW CN xc [u.d CW] K := fun u hu xc K k => ⟨u, rfl, hu.nm, hu.lo, hu.hi, hu.ir, fun z => (by rw [hu.pl] at z; cases z), fun _ => k⟩
  have m1 := sub_many hw p hf st
  have oL : ∀ B : List Nat, oList [iL (natI B)] = fun Q => Q (.lst ((natI B).map .int)) := fun B => rfl
  simp [r_law_k33_12, wPeek, wCall, oL]
  refine ⟨⟨_, rfl, rfl⟩, restr ps pne nd hb (by omega) _ _ ?_⟩
  refine foldU _ (sub_ok hw pne nd hb) _ _ ?_
  simp only [r_law_k33_13, sSeq, sIf, wOr, wNot]
  simp [wCall, wProp, ln, lt, m1]
  refine same33 (.int _) ?_
  refine .inr ⟨rfl, ⟨_, rfl⟩, CW, w.sub ps, _, _, rfl, ?_⟩
  rw [m1]
  refine same33 (.bl _) ?_
  refine .inr ⟨rfl, ?_⟩
  simp [r_law_k33_14, wCall, oL]
  refine ⟨⟨_, rfl, rfl⟩, restr A hAne ndA hAb (by omega) _ _ ?_⟩
  refine foldU _ (sub_ok hw hAne ndA hAb) _ _ ?_
  simp
  rw [sub_stiff ndA hAb st]
  refine same33 (g := .tup []) (d := .tup []) (.tup rfl (by simp)) ?_
  refine .inr ⟨rfl, ?_⟩
  simp [r_law_k33_15, wCall, wEqO, wMakeK, gD_K_Folding_2]
  refine foldU w hw _ _ ?_
  rw [← hg]
  have oLp : oList [pL (fsI fs)] = fun Q => Q (pL (fsI fs)) := rfl
  rw [oLp]
  refine ⟨w, fs, A, rfl, hw, hf, ⟨_, rfl⟩, w, fs, A, rfl, hw, hf, .inr ⟨rfl, ?_⟩⟩
  refine same33 (.bl _) ?_
  exact .inr ⟨rfl, go_last33 hsc q⟩
end
theorem p_law_k33 (CF CW CB CN CU : Addr) (xc : XC) (ds : List D) (Q : Bool → D → Prop) (h : wf_law xc ds Q) : b_law_k33 CF CW CB CN CU (Zd xc Q) (ds.map .da ++ List.replicate (18 - ds.length) .no) := by
  obtain ⟨sc, rfl, hsc, q⟩ := h
  have hs := sizeLine_eq
  simp [b_law_k33, sAsg, wCall]
  refine ⟨sc, 0, 40, rfl, hsc, by omega, by omega, fun d0 l0 b0 => ⟨d0, 8, 1, 2, rfl, b0, l0, by omega, by omega, by omega, by omega, by omega, by omega, fun names ts c hn ht h1 h4 hpl => ?_⟩⟩
  simp [gLstD, gsCons, gsNil, D.isL]
  refine ⟨_, _, ⟨rfl, rfl⟩, _, _, rfl, _, _, rfl, _, _, rfl, rfl, ?_⟩
  have hi := hn.hi
  have irr : Irr (psgOf names ts) := psg_diag ht
  obtain ⟨w, ew⟩ : ∃ w : Pw, w = ⟨names, c, psgOf names ts⟩ := ⟨_, rfl⟩
  have hw : w.Ok := by
    rw [ew]
    exact ⟨hn, h1, h4, irr, psg_plain h1 (hpl rfl)⟩
  have en : names = w.names := by rw [ew]
  have ec : c = w.c := by rw [ew]
  have e0 : ∀ Q : D → Prop, oIx (l3 (nextsT names ts c)) (.int 0) Q = Q (rowsR w.n w.R) := fun Q => by
    have e1 : nextsT names ts c = tabF w.names.length w.c w.L := by rw [ew]; rfl
    have e2 := tab_at (n := w.names.length) (c := w.c) (L := w.L) (b := 0) hw.lo
    rw [e1]
    unfold l3
    have e3 : ((0 : Nat) : Int) = 0 := rfl
    rw [e3] at e2
    rw [oIx_l, atI_map, e2]
    simp [rows_eq]
  simp [r_law_k33_1, e0]
  simp [r_law_k33_2]
  simp [r_law_k33_3, wMakeK, gD_K_Web_2_beats]
  refine ⟨false, false, names, ts, c, rfl, hn, ht, h1, h4, ?_⟩
  have ed : D.obj CW [("places", .xtp (names.map .str)), ("beats", .int c), ("_nexts", t3 (nextsT names ts c)), ("_steps", t3 (stepsT (nextsT names ts c)))] = w.d CW := by rw [ew]; rfl
  dsimp only
  rw [ed]
  have el : names.length = w.names.length := by rw [en]
  rw [el]
  have hi : w.names.length ≤ 8 := hw.nm.hi
  have lo := hw.nm.lo
  have vl : w.V.length = w.names.length := by simp [Pw.V, Pw.n]
  simp [r_law_k33_4, sAsg, wCall]
  refine ⟨by omega, ?_⟩
  refine lc_rng0 w.names.length (fun _ => .int 0) (fun i hi k1 h1 => by simpa using h1) (by omega) ?_
  have epool : D.lst ((List.range w.names.length).map fun _ => D.int 0) = iL ((List.range w.names.length).map fun _ => (0 : Int)) := by
    unfold iL
    rw [List.map_map]
    rfl
  rw [epool]
  have z0 : ∀ x ∈ (List.range w.names.length).map (fun _ => (0 : Int)), x = 0 := fun x hx => by
    obtain ⟨_, _, rfl⟩ := List.mem_map.mp hx
    rfl
  refine ⟨w.n, w.R, _, rfl, hi, by simp [Pw.n], fun x hx => (by rw [z0 x hx]; omega), fun fs A hf st hz => ?_⟩
  have hg : (fs, A) = w.gr := hz z0
  have fl := fold_len hf List.nodup_range
  have wn : w.n = w.names.length := rfl
  rw [List.length_range, wn] at fl
  have lf : ∀ (B : List (Nat × Nat)) (Q : D → Prop), oLen [pL (fsI B)] Q = Q (.int B.length) := fun B Q => by unfold pL; simp [fsI_len]
  have ln : ∀ (B : List Nat) (Q : D → Prop), oLen [iL (natI B)] Q = Q (.int B.length) := fun B Q => by unfold iL; simp [natI_len]
  have oLp : ∀ B : List (Nat × Nat), oList [pL (fsI B)] = fun Q => Q (pL (fsI B)) := fun B => rfl
  simp [gLstD, gsCons, gsNil, D.isL]
  refine ⟨_, _, ⟨rfl, rfl⟩, _, _, rfl, rfl, ?_⟩
  simp [r_law_k33_5, wCall]
  refine ⟨w, rfl, hw.nm, hw.lo, hw.hi, hw.ir, fun z => (by rw [hw.pl] at z; cases z), fun _ => ?_⟩
  rw [← hg]
  refine ⟨w, fs, A, rfl, hw, hf, st, .inr ⟨rfl, ?_⟩⟩
  simp [r_law_k33_6, sFor, lf]
  refine ⟨by omega, ?_⟩
  refine for_rng (fun i ρ => ∃ a, ρ = [Sl.da (.fls (sc.map .int)), Sl.da (sL names), Sl.da (tsL ts), Sl.da (.int c), Sl.da (l3 (nextsT names ts c)), Sl.da (rowsR w.n w.R), Sl.da (.int w.names.length), Sl.da (w.d CW), Sl.da (pL (fsI fs)), Sl.da (iL (natI A)), a, .no, .no, .no, .no, .no, .no, .no]) (fun i ρ N hi2 hI hN => ?step6) (fun ρ hI => ?fin6) ⟨_, rfl⟩
  case step6 =>
    obtain ⟨a, er⟩ := hI
    subst er
    obtain ⟨B, hB, hns⟩ := fold_take hf i hi2
    have esl : ∀ Q : D → Prop, oSl (pL (fsI fs)) none (some (i : Int)) Q = Q (pL (fsI (fs.take i))) := fun Q => by
      show Q (.lst (cutD _ _ _)) = _
      unfold cutD
      rw [HT.sIx_none, HT.sIx_nat]
      simp [fsI, pL]
      rw [Nat.min_eq_left (by omega)]
    simp [wSl, woN, woS, esl, wMakeK, gD_K_Folding_2, wProp, wCall]
    refine ⟨w, fs.take i, B, rfl, hw, hB, w, fs.take i, B, rfl, hw, hB, ?_⟩
    have he : (possF w.n w.R B).isEmpty = false := by
      cases e : possF w.n w.R B with
      | nil => exact absurd (poss_nil.mp e) hns
      | cons a l => rfl
    rw [he]
    refine same33 (.bl _) ?_
    exact .inr ⟨rfl, hN _ ⟨_, rfl⟩⟩
  case fin6 =>
    obtain ⟨a, er⟩ := hI
    subst er
    simp [r_law_k33_7, sFor]
    refine for_rng (fun i ρ => ∃ a b d, ρ = [Sl.da (.fls (sc.map .int)), Sl.da (sL names), Sl.da (tsL ts), Sl.da (.int c), Sl.da (l3 (nextsT names ts c)), Sl.da (rowsR w.n w.R), Sl.da (.int w.names.length), Sl.da (w.d CW), Sl.da (pL (fsI fs)), Sl.da (iL (natI A)), a, b, d, .no, .no, .no, .no, .no]) (fun i ρ N hi2 hI hN => ?step7) (fun ρ hI => ?fin7) ⟨_, _, _, rfl⟩
    case step7 =>
      obtain ⟨a, b, d, er⟩ := hI
      subst er
      simp [sAsg, wCall]
      refine ⟨sc, 1 + i, 8, by simp, hsc, by omega, by omega, fun l l8 lb => ?_⟩
      refine ⟨w.n, w.R, l, rfl, hi, by unfold Pw.n; omega, lb, fun gs B hgf hgs _ => ?_⟩
      simp [gLstD, gsCons, gsNil, D.isL]
      refine ⟨_, _, ⟨rfl, rfl⟩, _, _, rfl, rfl, ?_⟩
      simp [wCall, wMakeK, gD_K_Folding_2, oLp, ln]
      have em := as_many (R_symm hw) List.nodup_range hgf hgs hf st
      refine ⟨w, gs, B, rfl, hw, hgf, w, gs, B, rfl, hw, hgf, hgs, .inr ⟨rfl, ?_⟩⟩
      rw [em, natI_len]
      exact .inl ⟨rfl, hN _ ⟨_, _, _, rfl⟩⟩
    case fin7 =>
      obtain ⟨a, b, d, er⟩ := hI
      subst er
      simp [r_law_k33_8, wCall]
      refine ⟨sc, 4, 8, rfl, hsc, by omega, by omega, fun d4 l4 b4 => ?_⟩
      simp [r_law_k33_9, r_law_k33_10, wLstR]
      refine ⟨w.names.length, rfl, by omega, ?_⟩
      have e14 : D.lst ((List.range w.names.length).map fun i : Nat => D.int (i : Nat)) = iL (natI w.V) := by rw [iL_nat]; rfl
      rw [e14]
      simp [r_law_k33_11, sFor]
      refine ⟨by omega, ?_⟩
      refine for_rng (fun i ρ => ∃ (ps os : List Nat) (a : Sl), ρ = [Sl.da (.fls (sc.map .int)), Sl.da (sL names), Sl.da (tsL ts), Sl.da (.int c), Sl.da (l3 (nextsT names ts c)), Sl.da (rowsR w.n w.R), Sl.da (.int w.names.length), Sl.da (w.d CW), Sl.da (pL (fsI fs)), Sl.da (iL (natI A)), a, b, d, Sl.da (iL d4), Sl.ow (iL (natI ps)), Sl.ow (iL (natI os)), .no, .no] ∧ (os ++ ps).Perm w.V ∧ os.length = i) (fun i ρ N hi2 hI hN => ?step11) (fun ρ hI => ?fin11) ⟨w.V, [], a, rfl, List.Perm.refl _, rfl⟩
      case step11 =>
        obtain ⟨ps, os, a2, er, hp, hl⟩ := hI
        subst er
        have pl := hp.length_eq
        rw [List.length_append, vl] at pl
        obtain ⟨y, ey, _, _⟩ : ∃ x, atI d4 (i : Int) = some x ∧ 0 ≤ x ∧ x < 1000 := by
          refine ⟨d4[i], ?_, b4 _ (List.getElem_mem (by omega))⟩
          rw [atI_at (by omega) (by omega), Int.toNat_natCast, List.getElem?_eq_getElem (by omega)]
        obtain ⟨s, es, hs2⟩ : ∃ u : Nat, y % (ps.length : Int) = u ∧ u < ps.length := by
          have h1 := Int.emod_nonneg y (show (ps.length : Int) ≠ 0 by omega)
          have h2 := Int.emod_lt_of_pos y (show (0 : Int) < ps.length by omega)
          exact ⟨(y % (ps.length : Int)).toNat, by omega, by omega⟩
        have hpos : 0 < ps.length := by omega
        simp only [sAppPop]
        refine ⟨by decide, (natI ps).map .int, (natI os).map .int, rfl, rfl, ?_⟩
        simp [wPeek, ey, ln, es, hpos]
        refine ⟨by omega, s, by rw [natI_len]; exact sqIx33 hs2, .int ps[s], ⟨ps[s], by simp [natI, hs2], rfl⟩, by rw [natI_len]; omega, ?_⟩
        have q1 : ((natI ps).map D.int).eraseIdx s = (natI (ps.eraseIdx s)).map D.int := by
          rw [List.eraseIdx_eq_take_drop_succ, List.eraseIdx_eq_take_drop_succ]
          simp [natI, List.map_take, List.map_drop]
        have q2 : (natI os).map D.int ++ [D.int ps[s]] = (natI (os ++ [ps[s]])).map D.int := by simp [natI]
        rw [q1, q2]
        refine hN _ ⟨ps.eraseIdx s, os ++ [ps[s]], _, rfl, ?_, by simp [hl]⟩
        rw [List.append_assoc]
        exact (List.Perm.append_left os (pick_perm ps s hs2)).trans hp
      case fin11 =>
        obtain ⟨ps, os, a2, er, hp, hl⟩ := hI
        subst er
        have pl := hp.length_eq
        rw [List.length_append, vl] at pl
        have p0 : ps = [] := List.length_eq_zero_iff.mp (by omega)
        rw [p0, List.append_nil] at hp
        exact go_moved33 hw hsc hf st hg hp q
end Tw.S

namespace Tw.k33
open PySem PySem.Spec L2 PyProof.Rows Tw Tw.S

structure Txt (K : PySem.W.Frag) (mg : Str → Option Value) (C_Folding : Addr) (C_Web : Addr) (C_BadFold : Addr) (C_BadNumber : Addr) (C_BadWeb : Addr) (C_NotPlain : Addr) (C_TagError : Addr) (C_UnknownPlace : Addr) : Prop where
  b_abs : mg "abs" = none
  b_all : mg "all" = none
  b_bool : mg "bool" = none
  b_enumerate : mg "enumerate" = none
  b_int : mg "int" = none
  b_isinstance : mg "isinstance" = none
  b_len : mg "len" = none
  b_list : mg "list" = none
  b_min : mg "min" = none
  b_range : mg "range" = none
  b_set : mg "set" = none
  b_sorted : mg "sorted" = none
  b_str : mg "str" = none
  b_tuple : mg "tuple" = none
  b_zip : mg "zip" = none
  g_LETTERS : ∃ u, mg "LETTERS" = some u ∧ RelV (.str "abcdefghijklmnopqrstuvwxyz") u
  c_Folding : Cls K C_Folding
  c_Web : Cls K C_Web
  i_Folding : C8.InsC K C_Folding
  m_Folding : mg "Folding" = some (.ref C_Folding)
  i_Web : C8.InsC K C_Web
  m_Web : mg "Web" = some (.ref C_Web)
  r_BadFold : mg "BadFold" = some (.ref C_BadFold)
  r_BadNumber : mg "BadNumber" = some (.ref C_BadNumber)
  r_BadWeb : mg "BadWeb" = some (.ref C_BadWeb)
  r_NotPlain : mg "NotPlain" = some (.ref C_NotPlain)
  r_TagError : mg "TagError" = some (.ref C_TagError)
  r_UnknownPlace : mg "UnknownPlace" = some (.ref C_UnknownPlace)
  x_NotPlain_NotPlain : PySem.W.exmOne K (.ref C_NotPlain) (.ref C_NotPlain) = some true
  ec_NotPlain : ExcC K C_NotPlain
  ki_NotPlain_TagError : PySem.W.kitOne K (.ref C_NotPlain) (.ref C_TagError) = some true
  n_Folding_folds : NoAttr K C_Folding "folds"
  n_Folding_left : NoAttr K C_Folding "left"
  n_Folding_web : NoAttr K C_Folding "web"
  n_Web__nexts : NoAttr K C_Web "_nexts"
  n_Web__steps : NoAttr K C_Web "_steps"
  n_Web_beats : NoAttr K C_Web "beats"
  n_Web_places : NoAttr K C_Web "places"
abbrev N_law_draws : List Str := ["script", "k", "count", "number", "draws", "turn", "total", "cell", "one", "two", "three"]
theorem sc_law_draws : FnScope N_law_draws ["script", "k", "count"] (defScope s_law_draws) := ⟨rfl, rfl, rfl, by decide +kernel, rfl, by decide +kernel, by decide +kernel⟩
theorem d_law_draws {P : Program} {w : World} {K : PySem.W.Frag} {mg : Str → Option Value} {base : Heap} {C_Folding : Addr} {C_Web : Addr} {C_BadFold : Addr} {C_BadNumber : Addr} {C_BadWeb : Addr} {C_NotPlain : Addr} {C_TagError : Addr} {C_UnknownPlace : Addr} (T : Txt K mg C_Folding C_Web C_BadFold C_BadNumber C_BadWeb C_NotPlain C_TagError C_UnknownPlace)  {f : Addr} {cdv : Value} {A : Around} {outer : List Env} {s : Shared} {H : Hp} {E : XK}
    (hr : Room 0 (A.deeper (envOfC "_law_draws" (defScope s_law_draws) s.heap.objs.size f cdv))) :
    BJ E (cxOf (L2.CX P w) P w K mg base N_law_draws "_law_draws" (defScope s_law_draws) f cdv A outer s H E) (defBody s_law_draws) b_law_draws := by
  refine bj_cons ?_ ?_
  · refine sj_name (i := 3) sc_law_draws.nd rfl (by first | exact Or.inl rfl | exact Or.inr rfl) ?_
    exact ej_int
  · refine bj_cons ?_ ?_
    · refine sj_if ?_ ?_ ?_
      · refine tj_lt (ka := .e) (kb := .e) ?_ ?_
        · exact ej_var (pv 1)
        · refine ej_len (k := .e) (by rfl) T.b_len ?_
          exact ej_var (pv 0)
      · refine bj_one ?_
        refine sj_name (i := 3) sc_law_draws.nd rfl (by first | exact Or.inl rfl | exact Or.inr rfl) ?_
        refine ej_abs (k := .e) (by rfl) T.b_abs ?_
        refine ej_ix (ka := .e) (kb := .e) ?_ ?_ (fun _ _ => rfl)
        · exact ej_var (pv 0)
        · exact ej_var (pv 1)
      · exact bj_nil
    · refine bj_cons ?_ ?_
      · refine sj_nameO (i := 4) sc_law_draws.nd rfl (by first | exact Or.inl rfl | exact Or.inr rfl) ?_
        refine ej_lst ?_
        exact aj_nil
      · refine bj_cons ?_ ?_
        · refine sj_if ?_ ?_ ?_
          · refine tj_ge (ka := .e) (kb := .e) ?_ ?_
            · exact ej_var (pv 3)
            · refine ej_pow (ka := .e) (kb := .e) ?_ ?_
              · exact ej_int
              · exact ej_int
          · refine bj_cons ?_ ?_
            · refine sj_name (i := 3) sc_law_draws.nd rfl (by first | exact Or.inl rfl | exact Or.inr rfl) ?_
              refine ej_sub (ka := .e) (kb := .e) ?_ ?_
              · exact ej_var (pv 3)
              · refine ej_pow (ka := .e) (kb := .e) ?_ ?_
                · exact ej_int
                · exact ej_int
            · refine bj_cons ?_ ?_
              · refine sj_for (tgs := [5]) (passes_of rfl) rfl ?_ ?_ ?_
                · refine ij_rng1 (ka := .e) ?_ (by rfl) T.b_range
                  exact ej_var (pv 2)
                · exact gj_name (pg_name (i := 5) sc_law_draws.nd rfl (by first | exact Or.inl rfl | exact Or.inr rfl))
                · refine bj_cons ?_ ?_
                  · refine sj_append (pv 4) ?_
                    refine ej_mod (ka := .e) (kb := .e) ?_ ?_
                    · refine ej_int1 (k := .e) (by rfl) T.b_int ?_
                      exact ej_var (pv 3)
                    · exact ej_int
                  · refine bj_one ?_
                    refine sj_name (i := 3) sc_law_draws.nd rfl (by first | exact Or.inl rfl | exact Or.inr rfl) ?_
                    refine ej_div (ka := .e) (kb := .e) ?_ ?_
                    · refine ej_int1 (k := .e) (by rfl) T.b_int ?_
                      exact ej_var (pv 3)
                    · exact ej_int
              · refine bj_one ?_
                exact sj_retO (pv 4)
          · exact bj_nil
        · refine bj_cons ?_ ?_
          · refine sj_name (i := 6) sc_law_draws.nd rfl (by first | exact Or.inl rfl | exact Or.inr rfl) ?_
            refine ej_plus (ka := .e) (kb := .e) ?_ ?_
            · exact ej_var (pv 3)
            · refine ej_mul (ka := .e) (kb := .e) ?_ ?_
              · refine ej_plus (ka := .e) (kb := .e) ?_ ?_
                · exact ej_var (pv 1)
                · exact ej_int
              · exact ej_int
          · refine bj_cons ?_ ?_
            · refine sj_for (tgs := [7]) (passes_of rfl) rfl ?_ ?_ ?_
              · refine ij_seq ?_
                refine ej_slice (ka := .e) ?_ ?_ ?_
                · exact ej_var (pv 0)
                · exact oj_none
                · refine oj_some (k := .e) ?_
                  exact ej_int
              · exact gj_name (pg_name (i := 7) sc_law_draws.nd rfl (by first | exact Or.inl rfl | exact Or.inr rfl))
              · refine bj_one ?_
                refine sj_name (i := 6) sc_law_draws.nd rfl (by first | exact Or.inl rfl | exact Or.inr rfl) ?_
                refine ej_mod (ka := .e) (kb := .e) ?_ ?_
                · refine ej_int1 (k := .e) (by rfl) T.b_int ?_
                  refine ej_plus (ka := .e) (kb := .e) ?_ ?_
                  · refine ej_mul (ka := .e) (kb := .e) ?_ ?_
                    · exact ej_var (pv 6)
                    · exact ej_int
                  · refine ej_abs (k := .e) (by rfl) T.b_abs ?_
                    exact ej_var (pv 7)
                · exact ej_int
            · refine bj_cons ?_ ?_
              · refine sj_for (tgs := [5]) (passes_of rfl) rfl ?_ ?_ ?_
                · refine ij_rng1 (ka := .e) ?_ (by rfl) T.b_range
                  exact ej_var (pv 2)
                · exact gj_name (pg_name (i := 5) sc_law_draws.nd rfl (by first | exact Or.inl rfl | exact Or.inr rfl))
                · refine bj_cons ?_ ?_
                  · refine sj_name (i := 8) sc_law_draws.nd rfl (by first | exact Or.inl rfl | exact Or.inr rfl) ?_
                    refine ej_mod (ka := .e) (kb := .e) ?_ ?_
                    · refine ej_int1 (k := .e) (by rfl) T.b_int ?_
                      refine ej_plus (ka := .e) (kb := .e) ?_ ?_
                      · refine ej_mul (ka := .e) (kb := .e) ?_ ?_
                        · exact ej_var (pv 6)
                        · exact ej_int
                      · refine ej_mul (ka := .e) (kb := .e) ?_ ?_
                        · refine ej_plus (ka := .e) (kb := .e) ?_ ?_
                          · exact ej_var (pv 5)
                          · exact ej_int
                        · exact ej_int
                    · exact ej_int
                  · refine bj_cons ?_ ?_
                    · refine sj_name (i := 9) sc_law_draws.nd rfl (by first | exact Or.inl rfl | exact Or.inr rfl) ?_
                      refine ej_mod (ka := .e) (kb := .e) ?_ ?_
                      · refine ej_int1 (k := .e) (by rfl) T.b_int ?_
                        refine ej_plus (ka := .e) (kb := .e) ?_ ?_
                        · refine ej_mul (ka := .e) (kb := .e) ?_ ?_
                          · exact ej_var (pv 8)
                          · exact ej_var (pv 8)
                        · exact ej_var (pv 5)
                      · exact ej_int
                    · refine bj_cons ?_ ?_
                      · refine sj_name (i := 10) sc_law_draws.nd rfl (by first | exact Or.inl rfl | exact Or.inr rfl) ?_
                        refine ej_mod (ka := .e) (kb := .e) ?_ ?_
                        · refine ej_int1 (k := .e) (by rfl) T.b_int ?_
                          refine ej_plus (ka := .e) (kb := .e) ?_ ?_
                          · refine ej_mul (ka := .e) (kb := .e) ?_ ?_
                            · exact ej_var (pv 9)
                            · exact ej_var (pv 9)
                          · exact ej_var (pv 8)
                        · exact ej_int
                      · refine bj_one ?_
                        refine sj_append (pv 4) ?_
                        refine ej_mod (ka := .e) (kb := .e) ?_ ?_
                        · refine ej_div (ka := .e) (kb := .e) ?_ ?_
                          · exact ej_var (pv 10)
                          · exact ej_int
                        · exact ej_int
              · refine bj_one ?_
                exact sj_retO (pv 4)
abbrev N_law_covered : List Str := ["row", "left", "u", "v", "place"]
theorem sc_law_covered : FnScope N_law_covered ["row", "left", "u", "v"] (defScope s_law_covered) := ⟨rfl, rfl, rfl, by decide +kernel, rfl, by decide +kernel, by decide +kernel⟩
theorem d_law_covered {P : Program} {w : World} {K : PySem.W.Frag} {mg : Str → Option Value} {base : Heap} {C_Folding : Addr} {C_Web : Addr} {C_BadFold : Addr} {C_BadNumber : Addr} {C_BadWeb : Addr} {C_NotPlain : Addr} {C_TagError : Addr} {C_UnknownPlace : Addr} (T : Txt K mg C_Folding C_Web C_BadFold C_BadNumber C_BadWeb C_NotPlain C_TagError C_UnknownPlace)  {f : Addr} {cdv : Value} {A : Around} {outer : List Env} {s : Shared} {H : Hp} {E : XK}
    (hr : Room 0 (A.deeper (envOfC "_law_covered" (defScope s_law_covered) s.heap.objs.size f cdv))) :
    BJ E (cxOf (L2.CX P w) P w K mg base N_law_covered "_law_covered" (defScope s_law_covered) f cdv A outer s H E) (defBody s_law_covered) b_law_covered := by
  refine bj_cons ?_ ?_
  · refine sj_if ?_ ?_ ?_
    · refine tj_eq (ka := .e) (kb := .e) hr.units ?_ ?_
      · exact ej_var (pv 2)
      · exact ej_var (pv 3)
    · refine bj_one ?_
      refine sj_ret ?_
      exact ej_bl
    · exact bj_nil
  · refine bj_cons ?_ ?_
    · refine sj_for (tgs := [4]) (passes_of rfl) rfl ?_ ?_ ?_
      · refine ij_seq ?_
        exact ej_var (pv 1)
      · exact gj_name (pg_name (i := 4) sc_law_covered.nd rfl (by first | exact Or.inl rfl | exact Or.inr rfl))
      · refine bj_one ?_
        refine sj_if ?_ ?_ ?_
        · refine tj_tw ?_
          refine twj_and ?_ ?_
          · refine tj_tw ?_
            refine twj_or ?_ ?_
            · refine tj_eq (ka := .e) (kb := .e) hr.units ?_ ?_
              · exact ej_var (pv 4)
              · exact ej_var (pv 2)
            · refine twj_or1 ?_
              refine tj_in (ka := .e) (kb := .e) (units65 hr) ?_ ?_
              · exact ej_var (pv 4)
              · refine ej_ix (ka := .e) (kb := .e) ?_ ?_ (fun _ _ => rfl)
                · exact ej_var (pv 0)
                · exact ej_var (pv 2)
          · refine twj_and ?_ ?_
            · refine tj_ne (ka := .e) (kb := .e) hr.units ?_ ?_
              · exact ej_var (pv 4)
              · exact ej_var (pv 3)
            · refine twj_and1 ?_
              refine tj_nin (ka := .e) (kb := .e) (units65 hr) ?_ ?_
              · exact ej_var (pv 4)
              · refine ej_ix (ka := .e) (kb := .e) ?_ ?_ (fun _ _ => rfl)
                · exact ej_var (pv 0)
                · exact ej_var (pv 3)
        · refine bj_one ?_
          refine sj_ret ?_
          exact ej_bl
        · exact bj_nil
    · refine bj_one ?_
      refine sj_ret ?_
      exact ej_bl
abbrev N_law_possible : List Str := ["row", "left", "found", "u", "v"]
theorem sc_law_possible : FnScope N_law_possible ["row", "left"] (defScope s_law_possible) := ⟨rfl, rfl, rfl, by decide +kernel, rfl, by decide +kernel, by decide +kernel⟩
theorem d_law_possible {P : Program} {w : World} {K : PySem.W.Frag} {mg : Str → Option Value} {base : Heap} {C_Folding : Addr} {C_Web : Addr} {C_BadFold : Addr} {C_BadNumber : Addr} {C_BadWeb : Addr} {C_NotPlain : Addr} {C_TagError : Addr} {C_UnknownPlace : Addr} (T : Txt K mg C_Folding C_Web C_BadFold C_BadNumber C_BadWeb C_NotPlain C_TagError C_UnknownPlace) (D_law_covered : Def P w K mg base "_law_covered" 4 1 wf_law_covered) {f : Addr} {cdv : Value} {A : Around} {outer : List Env} {s : Shared} {H : Hp} {E : XK}
    (hr : Room 1 (A.deeper (envOfC "_law_possible" (defScope s_law_possible) s.heap.objs.size f cdv))) :
    BJ E (cxOf (L2.CX P w) P w K mg base N_law_possible "_law_possible" (defScope s_law_possible) f cdv A outer s H E) (defBody s_law_possible) b_law_possible := by
  refine bj_cons ?_ ?_
  · refine sj_nameO (i := 2) sc_law_possible.nd rfl (by first | exact Or.inl rfl | exact Or.inr rfl) ?_
    refine ej_lst ?_
    exact aj_nil
  · refine bj_cons ?_ ?_
    · refine sj_for (tgs := [3]) (passes_of rfl) rfl ?_ ?_ ?_
      · refine ij_seq ?_
        exact ej_var (pv 1)
      · exact gj_name (pg_name (i := 3) sc_law_possible.nd rfl (by first | exact Or.inl rfl | exact Or.inr rfl))
      · refine bj_one ?_
        refine sj_for (tgs := [4]) (passes_of rfl) rfl ?_ ?_ ?_
        · refine ij_seq ?_
          exact ej_var (pv 1)
        · exact gj_name (pg_name (i := 4) sc_law_possible.nd rfl (by first | exact Or.inl rfl | exact Or.inr rfl))
        · refine bj_one ?_
          refine sj_if ?_ ?_ ?_
          · refine tj_tru (k := .e) ?_
            refine ej_fn D_law_covered (hr.mono (by decide)) (by rfl) passM ?_
            refine aj_consE ?_ ?_
            · exact ej_var (pv 0)
            · refine aj_consE ?_ ?_
              · exact ej_var (pv 1)
              · refine aj_consE ?_ ?_
                · exact ej_var (pv 3)
                · refine aj_consE ?_ ?_
                  · exact ej_var (pv 4)
                  · exact aj_nil
          · refine bj_one ?_
            refine sj_append (pv 2) ?_
            refine ej_tup ?_
            refine aj_consE ?_ ?_
            · exact ej_var (pv 3)
            · refine aj_consE ?_ ?_
              · exact ej_var (pv 4)
              · exact aj_nil
          · exact bj_nil
    · refine bj_one ?_
      exact sj_retO (pv 2)
abbrev N_law_finished : List Str := ["row", "pool", "left", "folds", "k", "options", "place"]
theorem sc_law_finished : FnScope N_law_finished ["row", "pool"] (defScope s_law_finished) := ⟨rfl, rfl, rfl, by decide +kernel, rfl, by decide +kernel, by decide +kernel⟩
theorem d_law_finished {P : Program} {w : World} {K : PySem.W.Frag} {mg : Str → Option Value} {base : Heap} {C_Folding : Addr} {C_Web : Addr} {C_BadFold : Addr} {C_BadNumber : Addr} {C_BadWeb : Addr} {C_NotPlain : Addr} {C_TagError : Addr} {C_UnknownPlace : Addr} (T : Txt K mg C_Folding C_Web C_BadFold C_BadNumber C_BadWeb C_NotPlain C_TagError C_UnknownPlace) (D_law_possible : Def P w K mg base "_law_possible" 2 2 wf_law_possible) {f : Addr} {cdv : Value} {A : Around} {outer : List Env} {s : Shared} {H : Hp} {E : XK}
    (hr : Room 2 (A.deeper (envOfC "_law_finished" (defScope s_law_finished) s.heap.objs.size f cdv))) :
    BJ E (cxOf (L2.CX P w) P w K mg base N_law_finished "_law_finished" (defScope s_law_finished) f cdv A outer s H E) (defBody s_law_finished) b_law_finished := by
  refine bj_cons ?_ ?_
  · refine sj_name (i := 2) sc_law_finished.nd rfl (by first | exact Or.inl rfl | exact Or.inr rfl) ?_
    refine ej_toE ?_
    refine ej_listR (k := .e) rfl (by rfl) T.b_list (by rfl) T.b_range ?_
    refine ej_len (k := .e) (by rfl) T.b_len ?_
    exact ej_var (pv 0)
  · refine bj_cons ?_ ?_
    · refine sj_nameO (i := 3) sc_law_finished.nd rfl (by first | exact Or.inl rfl | exact Or.inr rfl) ?_
      refine ej_lst ?_
      exact aj_nil
    · refine bj_cons ?_ ?_
      · refine sj_for (tgs := [4]) (passes_of rfl) rfl ?_ ?_ ?_
        · refine ij_rng1 (ka := .e) ?_ (by rfl) T.b_range
          refine ej_len (k := .e) (by rfl) T.b_len ?_
          exact ej_var (pv 0)
        · exact gj_name (pg_name (i := 4) sc_law_finished.nd rfl (by first | exact Or.inl rfl | exact Or.inr rfl))
        · refine bj_cons ?_ ?_
          · refine sj_name (i := 5) sc_law_finished.nd rfl (by first | exact Or.inl rfl | exact Or.inr rfl) ?_
            refine ej_fn D_law_possible (hr.mono (by decide)) (by rfl) passM ?_
            refine aj_consE ?_ ?_
            · exact ej_var (pv 0)
            · refine aj_consE ?_ ?_
              · exact ej_var (pv 2)
              · exact aj_nil
          · refine bj_cons ?_ ?_
            · refine sj_if ?_ ?_ ?_
              · refine tj_eq (ka := .e) (kb := .f) hr.units ?_ ?_
                · exact ej_var (pv 5)
                · refine ej_lst ?_
                  exact aj_nil
              · refine bj_one ?_
                exact sj_break
              · exact bj_nil
            · refine bj_cons ?_ ?_
              · refine sj_append (pv 3) ?_
                refine ej_ix (ka := .e) (kb := .e) ?_ ?_ (fun _ _ => rfl)
                · exact ej_var (pv 5)
                · refine ej_mod (ka := .e) (kb := .e) ?_ ?_
                  · refine ej_int1 (k := .e) (by rfl) T.b_int ?_
                    refine ej_ix (ka := .e) (kb := .e) ?_ ?_ (fun _ _ => rfl)
                    · exact ej_var (pv 1)
                    · exact ej_var (pv 4)
                  · refine ej_len (k := .e) (by rfl) T.b_len ?_
                    exact ej_var (pv 5)
              · refine bj_one ?_
                refine sj_compS (own := [("place", 6)]) (tgs := [6]) (i := 2) rfl sc_law_finished.nd rfl rfl (sw_true rfl rfl rfl (by decide +kernel)) (blkOk_by (by rfl)) ?_ (by decide) ?_ ?_ ?_
                · refine ij_seq ?_
                  exact ej_var (pv 2)
                · refine fun _ _ _ _ _ => ?_
                  exact gj_name (pg_name (i := 6) sc_law_finished.nd rfl (by first | exact Or.inl rfl | exact Or.inr rfl))
                · refine fun _ _ _ _ _ => ?_
                  refine tsj_one ?_
                  refine tj_ne (ka := .e) (kb := .e) hr.units ?_ ?_
                  · exact ej_var (pv 6)
                  · refine ej_ix (ka := .e) (kb := .e) ?_ ?_ (fun _ _ => rfl)
                    · refine ej_ix (ka := .o) (kb := .e) ?_ ?_ (fun _ _ => rfl)
                      · exact ej_peek (pv 3)
                      · exact ej_var (pv 4)
                    · exact ej_int
                · refine fun _ _ _ _ _ => ?_
                  exact ej_var (pv 6)
      · refine bj_one ?_
        refine sj_frz (i := 3) ?_
        refine sj_retF ?_
        refine ej_lst ?_
        refine aj_consE ?_ ?_
        · exact ej_var (pv 3)
        · refine aj_consE ?_ ?_
          · exact ej_var (pv 2)
          · exact aj_nil
abbrev N_law_is_int : List Str := ["x"]
theorem sc_law_is_int : FnScope N_law_is_int ["x"] (defScope s_law_is_int) := ⟨rfl, rfl, rfl, by decide +kernel, rfl, by decide +kernel, by decide +kernel⟩
theorem d_law_is_int {P : Program} {w : World} {K : PySem.W.Frag} {mg : Str → Option Value} {base : Heap} {C_Folding : Addr} {C_Web : Addr} {C_BadFold : Addr} {C_BadNumber : Addr} {C_BadWeb : Addr} {C_NotPlain : Addr} {C_TagError : Addr} {C_UnknownPlace : Addr} (T : Txt K mg C_Folding C_Web C_BadFold C_BadNumber C_BadWeb C_NotPlain C_TagError C_UnknownPlace)  {f : Addr} {cdv : Value} {A : Around} {outer : List Env} {s : Shared} {H : Hp} {E : XK}
    (hr : Room 0 (A.deeper (envOfC "_law_is_int" (defScope s_law_is_int) s.heap.objs.size f cdv))) :
    BJ E (cxOf (L2.CX P w) P w K mg base N_law_is_int "_law_is_int" (defScope s_law_is_int) f cdv A outer s H E) (defBody s_law_is_int) b_law_is_int := by
  refine bj_one ?_
  refine sj_ret ?_
  refine ej_andV ?_ ?_
  · refine ej_isi (k := .e) ?_ (by rfl) T.b_isinstance (by rfl) T.b_int (by decide +kernel)
    exact ej_var (pv 0)
  · refine ej_b1 ?_
    refine ej_not1 (k := .e) ?_
    refine ej_isi (k := .e) ?_ (by rfl) T.b_isinstance (by rfl) T.b_bool (by decide +kernel)
    exact ej_var (pv 0)
abbrev N_law_same : List Str := ["got", "due", "one", "two"]
theorem sc_law_same : FnScope N_law_same ["got", "due"] (defScope s_law_same) := ⟨rfl, rfl, rfl, by decide +kernel, rfl, by decide +kernel, by decide +kernel⟩
theorem d_law_same {P : Program} {w : World} {K : PySem.W.Frag} {mg : Str → Option Value} {base : Heap} {C_Folding : Addr} {C_Web : Addr} {C_BadFold : Addr} {C_BadNumber : Addr} {C_BadWeb : Addr} {C_NotPlain : Addr} {C_TagError : Addr} {C_UnknownPlace : Addr} (T : Txt K mg C_Folding C_Web C_BadFold C_BadNumber C_BadWeb C_NotPlain C_TagError C_UnknownPlace) (D_law_is_int : Def P w K mg base "_law_is_int" 1 1 wf_law_is_int) {lv : Nat} {wfr : Wf} (D_law_same : Def P w K mg base "_law_same" 2 lv wfr) {f : Addr} {cdv : Value} {A : Around} {outer : List Env} {s : Shared} {H : Hp} {E : XK}
    (hr : Room (lv + 1) (A.deeper (envOfC "_law_same" (defScope s_law_same) s.heap.objs.size f cdv))) :
    BJ E (cxOf (L2.CX P w) P w K mg base N_law_same "_law_same" (defScope s_law_same) f cdv A outer s H E) (defBody s_law_same) (b_law_same wfr) := by
  refine bj_cons ?_ ?_
  · refine sj_if ?_ ?_ ?_
    · refine tj_isN (ka := .e) (kb := .e) ?_ ?_
      · exact ej_var (pv 1)
      · exact ej_non
    · refine bj_one ?_
      refine sj_ret ?_
      refine ej_isN (ka := .e) (kb := .e) ?_ ?_
      · exact ej_var (pv 0)
      · exact ej_non
    · exact bj_nil
  · refine bj_cons ?_ ?_
    · refine sj_if ?_ ?_ ?_
      · refine tj_isB (ka := .e) (kb := .e) ?_ ?_
        · exact ej_var (pv 1)
        · exact ej_bl
      · refine bj_one ?_
        refine sj_ret ?_
        refine ej_isB (ka := .e) (kb := .e) ?_ ?_
        · exact ej_var (pv 0)
        · exact ej_bl
      · exact bj_nil
    · refine bj_cons ?_ ?_
      · refine sj_if ?_ ?_ ?_
        · refine tj_isB (ka := .e) (kb := .e) ?_ ?_
          · exact ej_var (pv 1)
          · exact ej_bl
        · refine bj_one ?_
          refine sj_ret ?_
          refine ej_isB (ka := .e) (kb := .e) ?_ ?_
          · exact ej_var (pv 0)
          · exact ej_bl
        · exact bj_nil
      · refine bj_cons ?_ ?_
        · refine sj_if ?_ ?_ ?_
          · refine tj_tru (k := .e) ?_
            refine ej_isi (k := .e) ?_ (by rfl) T.b_isinstance (by rfl) T.b_int (by decide +kernel)
            exact ej_var (pv 1)
          · refine bj_one ?_
            refine sj_ret ?_
            refine ej_andV ?_ ?_
            · refine ej_fn D_law_is_int (hr.mono (by omega)) (by rfl) passM ?_
              refine aj_consE ?_ ?_
              · exact ej_var (pv 0)
              · exact aj_nil
            · refine ej_b1 ?_
              refine ej_eq (ka := .e) (kb := .e) hr.units ?_ ?_
              · exact ej_var (pv 0)
              · exact ej_var (pv 1)
          · exact bj_nil
        · refine bj_cons ?_ ?_
          · refine sj_if ?_ ?_ ?_
            · refine tj_tru (k := .e) ?_
              refine ej_isi (k := .e) ?_ (by rfl) T.b_isinstance (by rfl) T.b_str (by decide +kernel)
              exact ej_var (pv 1)
            · refine bj_one ?_
              refine sj_ret ?_
              refine ej_andV ?_ ?_
              · refine ej_isi (k := .e) ?_ (by rfl) T.b_isinstance (by rfl) T.b_str (by decide +kernel)
                exact ej_var (pv 0)
              · refine ej_b1 ?_
                refine ej_eq (ka := .e) (kb := .e) hr.units ?_ ?_
                · exact ej_var (pv 0)
                · exact ej_var (pv 1)
            · exact bj_nil
          · refine bj_cons ?_ ?_
            · refine sj_if ?_ ?_ ?_
              · refine tj_tw ?_
                refine twj_and ?_ ?_
                · refine tj_tru (k := .e) ?_
                  refine ej_isi (k := .e) ?_ (by rfl) T.b_isinstance (by rfl) T.b_tuple (by decide +kernel)
                  exact ej_var (pv 1)
                · refine twj_and1 ?_
                  refine tj_not ?_
                  refine tj_tru (k := .e) ?_
                  refine ej_isi (k := .e) ?_ (by rfl) T.b_isinstance (by rfl) T.b_tuple (by decide +kernel)
                  exact ej_var (pv 0)
              · refine bj_one ?_
                refine sj_ret ?_
                exact ej_bl
              · exact bj_nil
            · refine bj_cons ?_ ?_
              · refine sj_if ?_ ?_ ?_
                · refine tj_tw ?_
                  refine twj_and ?_ ?_
                  · refine tj_tru (k := .e) ?_
                    refine ej_isi (k := .e) ?_ (by rfl) T.b_isinstance (by rfl) T.b_list (by decide +kernel)
                    exact ej_var (pv 1)
                  · refine twj_and1 ?_
                    refine tj_not ?_
                    refine tj_tru (k := .e) ?_
                    refine ej_isi (k := .e) ?_ (by rfl) T.b_isinstance (by rfl) T.b_list (by decide +kernel)
                    exact ej_var (pv 0)
                · refine bj_one ?_
                  refine sj_ret ?_
                  exact ej_bl
                · exact bj_nil
              · refine bj_cons ?_ ?_
                · refine sj_if ?_ ?_ ?_
                  · refine tj_ne (ka := .e) (kb := .e) hr.units ?_ ?_
                    · refine ej_len (k := .e) (by rfl) T.b_len ?_
                      exact ej_var (pv 0)
                    · refine ej_len (k := .e) (by rfl) T.b_len ?_
                      exact ej_var (pv 1)
                  · refine bj_one ?_
                    refine sj_ret ?_
                    exact ej_bl
                  · exact bj_nil
                · refine bj_cons ?_ ?_
                  · refine sj_for (tgs := [2, 3]) (passes_of rfl) rfl ?_ ?_ ?_
                    · refine ij_zip ?_ ?_ (by rfl) T.b_zip
                      · exact ej_var (pv 0)
                      · exact ej_var (pv 1)
                    · refine gj_tup (n := 2) rfl ?_
                      refine gsj_name ?_ ?_
                      · exact gj_name (pg_name (i := 2) sc_law_same.nd rfl (by first | exact Or.inl rfl | exact Or.inr rfl))
                      · refine gsj_name ?_ ?_
                        · exact gj_name (pg_name (i := 3) sc_law_same.nd rfl (by first | exact Or.inl rfl | exact Or.inr rfl))
                        · exact gsj_nil
                    · refine bj_one ?_
                      refine sj_if ?_ ?_ ?_
                      · refine tj_not ?_
                        refine tj_tru (k := .e) ?_
                        refine ej_fn D_law_same (hr.mono (by omega)) (by rfl) passM ?_
                        refine aj_consE ?_ ?_
                        · exact ej_var (pv 2)
                        · refine aj_consE ?_ ?_
                          · exact ej_var (pv 3)
                          · exact aj_nil
                      · refine bj_one ?_
                        refine sj_ret ?_
                        exact ej_bl
                      · exact bj_nil
                  · refine bj_one ?_
                    refine sj_ret ?_
                    exact ej_bl
abbrev N_Web___len__ : List Str := ["self"]
theorem sc_Web___len__ : FnScope N_Web___len__ ["self"] (defScope s_Web___len__) := ⟨rfl, rfl, rfl, by decide +kernel, rfl, by decide +kernel, by decide +kernel⟩
theorem d_Web___len__ {P : Program} {w : World} {K : PySem.W.Frag} {mg : Str → Option Value} {base : Heap} {C_Folding : Addr} {C_Web : Addr} {C_BadFold : Addr} {C_BadNumber : Addr} {C_BadWeb : Addr} {C_NotPlain : Addr} {C_TagError : Addr} {C_UnknownPlace : Addr} (T : Txt K mg C_Folding C_Web C_BadFold C_BadNumber C_BadWeb C_NotPlain C_TagError C_UnknownPlace)  {f : Addr} {cdv : Value} {A : Around} {outer : List Env} {s : Shared} {H : Hp} {E : XK}
    (hr : Room 0 (A.deeper (envOfC "Web.__len__" (defScope s_Web___len__) s.heap.objs.size f cdv))) :
    BJ E (cxOf (L2.CX P w) P w K mg base N_Web___len__ "Web.__len__" (defScope s_Web___len__) f cdv A outer s H E) (defBody s_Web___len__) (b_Web___len__ C_Web) := by
  refine bj_one ?_
  refine sj_ret ?_
  refine ej_len (k := .e) (by rfl) T.b_len ?_
  refine ej_wk ?_
  refine ej_fld (k := .e) T.c_Web T.n_Web_places ?_
  exact ej_var (pv 0)
abbrev N_check_place : List Str := ["web", "place"]
theorem sc_check_place : FnScope N_check_place ["web", "place"] (defScope s_check_place) := ⟨rfl, rfl, rfl, by decide +kernel, rfl, by decide +kernel, by decide +kernel⟩
theorem d_check_place {P : Program} {w : World} {K : PySem.W.Frag} {mg : Str → Option Value} {base : Heap} {C_Folding : Addr} {C_Web : Addr} {C_BadFold : Addr} {C_BadNumber : Addr} {C_BadWeb : Addr} {C_NotPlain : Addr} {C_TagError : Addr} {C_UnknownPlace : Addr} (T : Txt K mg C_Folding C_Web C_BadFold C_BadNumber C_BadWeb C_NotPlain C_TagError C_UnknownPlace) (M_Web___len__ : MDef P w K mg base C_Web "__len__" 1 1 (wf_Web___len__ C_Web)) (R_UnknownPlace : Err P w K mg base "UnknownPlace" C_UnknownPlace ["place"] 1) {f : Addr} {cdv : Value} {A : Around} {outer : List Env} {s : Shared} {H : Hp} {E : XK}
    (hr : Room 2 (A.deeper (envOfC "check_place" (defScope s_check_place) s.heap.objs.size f cdv))) :
    BJ E (cxOf (L2.CX P w) P w K mg base N_check_place "check_place" (defScope s_check_place) f cdv A outer s H E) (defBody s_check_place) (b_check_place C_Web C_UnknownPlace) := by
  refine bj_one ?_
  refine sj_if ?_ ?_ ?_
  · refine tj_not ?_
    refine tj_ch2 (ka := .e) (kb := .e) (kc := .e) brg_le brg_lt op_le op_lt ?_ ?_ ?_
    · exact ej_int
    · exact ej_var (pv 1)
    · refine ej_lenO M_Web___len__ (hr.mono (by decide)) passM ?_ (by rfl) T.b_len
      exact ej_var (pv 0)
  · refine bj_one ?_
    refine sj_raiseE R_UnknownPlace (hr.mono (by decide)) (takes_of rfl rfl rfl rfl) ?_
    refine aj_consE ?_ ?_
    · exact ej_var (pv 1)
    · exact aj_nil
  · exact bj_nil
abbrev N_Web_steps : List Str := ["self", "place", "beat"]
theorem sc_Web_steps : FnScope N_Web_steps ["self", "place", "beat"] (defScope s_Web_steps) := ⟨rfl, rfl, rfl, by decide +kernel, rfl, by decide +kernel, by decide +kernel⟩
theorem d_Web_steps {P : Program} {w : World} {K : PySem.W.Frag} {mg : Str → Option Value} {base : Heap} {C_Folding : Addr} {C_Web : Addr} {C_BadFold : Addr} {C_BadNumber : Addr} {C_BadWeb : Addr} {C_NotPlain : Addr} {C_TagError : Addr} {C_UnknownPlace : Addr} (T : Txt K mg C_Folding C_Web C_BadFold C_BadNumber C_BadWeb C_NotPlain C_TagError C_UnknownPlace) (D_check_place : Def P w K mg base "check_place" 2 3 (wf_check_place C_Web C_UnknownPlace)) {f : Addr} {cdv : Value} {A : Around} {outer : List Env} {s : Shared} {H : Hp} {E : XK}
    (hr : Room 3 (A.deeper (envOfC "Web.steps" (defScope s_Web_steps) s.heap.objs.size f cdv))) :
    BJ E (cxOf (L2.CX P w) P w K mg base N_Web_steps "Web.steps" (defScope s_Web_steps) f cdv A outer s H E) (defBody s_Web_steps) (b_Web_steps C_Web C_UnknownPlace) := by
  refine bj_cons ?_ ?_
  · refine sj_expr (k := .e) ?_
    refine ej_fn D_check_place (hr.mono (by decide)) (by rfl) passM ?_
    refine aj_consE ?_ ?_
    · exact ej_var (pv 0)
    · refine aj_consE ?_ ?_
      · exact ej_var (pv 1)
      · exact aj_nil
  · refine bj_one ?_
    refine sj_ret ?_
    refine ej_ix (ka := .e) (kb := .e) ?_ ?_ (fun _ _ => rfl)
    · refine ej_ix (ka := .e) (kb := .e) ?_ ?_ (fun _ _ => rfl)
      · refine ej_fld (k := .e) T.c_Web T.n_Web__steps ?_
        exact ej_var (pv 0)
      · refine ej_mod (ka := .e) (kb := .e) ?_ ?_
        · exact ej_var (pv 2)
        · refine ej_fld (k := .e) T.c_Web T.n_Web_beats ?_
          exact ej_var (pv 0)
    · exact ej_var (pv 1)
abbrev N_is_covered : List Str := ["web", "left", "u", "v", "place"]
theorem sc_is_covered : FnScope N_is_covered ["web", "left", "u", "v"] (defScope s_is_covered) := ⟨rfl, rfl, rfl, by decide +kernel, rfl, by decide +kernel, by decide +kernel⟩
theorem d_is_covered {P : Program} {w : World} {K : PySem.W.Frag} {mg : Str → Option Value} {base : Heap} {C_Folding : Addr} {C_Web : Addr} {C_BadFold : Addr} {C_BadNumber : Addr} {C_BadWeb : Addr} {C_NotPlain : Addr} {C_TagError : Addr} {C_UnknownPlace : Addr} (T : Txt K mg C_Folding C_Web C_BadFold C_BadNumber C_BadWeb C_NotPlain C_TagError C_UnknownPlace) (M_Web_steps : MDef P w K mg base C_Web "steps" 3 4 (wf_Web_steps C_Web C_UnknownPlace)) {f : Addr} {cdv : Value} {A : Around} {outer : List Env} {s : Shared} {H : Hp} {E : XK}
    (hr : Room 4 (A.deeper (envOfC "is_covered" (defScope s_is_covered) s.heap.objs.size f cdv))) :
    BJ E (cxOf (L2.CX P w) P w K mg base N_is_covered "is_covered" (defScope s_is_covered) f cdv A outer s H E) (defBody s_is_covered) (b_is_covered C_Web C_UnknownPlace) := by
  refine bj_cons ?_ ?_
  · refine sj_if ?_ ?_ ?_
    · refine tj_tw ?_
      refine twj_or ?_ ?_
      · refine tj_eq (ka := .e) (kb := .e) hr.units ?_ ?_
        · exact ej_var (pv 2)
        · exact ej_var (pv 3)
      · refine twj_or ?_ ?_
        · refine tj_nin (ka := .e) (kb := .e) (units65 hr) ?_ ?_
          · exact ej_var (pv 2)
          · exact ej_var (pv 1)
        · refine twj_or1 ?_
          refine tj_nin (ka := .e) (kb := .e) (units65 hr) ?_ ?_
          · exact ej_var (pv 3)
          · exact ej_var (pv 1)
    · refine bj_one ?_
      refine sj_ret ?_
      exact ej_bl
    · exact bj_nil
  · refine bj_one ?_
    refine sj_ret ?_
    refine ej_all1 (k := .f) rfl (by rfl) T.b_all ?_
    refine ej_comp (own := [("place", 4)]) (tgs := [4]) rfl sc_is_covered.nd (blkOk_by (by rfl)) ?_ (by decide) ?_ ?_ ?_
    · refine ij_seq ?_
      refine ej_meth M_Web_steps (hr.mono (by decide)) passM ?_ ?_
      · exact ej_var (pv 0)
      · refine aj_consE ?_ ?_
        · exact ej_var (pv 2)
        · refine aj_consE ?_ ?_
          · exact ej_int
          · exact aj_nil
    · refine fun _ _ _ _ _ => ?_
      exact gj_name (pg_name (i := 4) sc_is_covered.nd rfl (by first | exact Or.inl rfl | exact Or.inr rfl))
    · refine fun _ _ _ _ _ => ?_
      refine tsj_one ?_
      refine tj_in (ka := .e) (kb := .e) (units65 hr) ?_ ?_
      · exact ej_var (pv 4)
      · exact ej_var (pv 1)
    · refine fun _ _ _ _ _ => ?_
      refine ej_in (ka := .e) (kb := .e) (units65 hr) ?_ ?_
      · exact ej_var (pv 4)
      · refine ej_meth M_Web_steps (hr.mono (by decide)) passL ?_ ?_
        · exact ej_var (pv 0)
        · refine aj_consE ?_ ?_
          · exact ej_var (pv 3)
          · refine aj_consE ?_ ?_
            · exact ej_int
            · exact aj_nil
abbrev N_least_fold : List Str := ["web", "left", "found", "u", "v"]
theorem sc_least_fold : FnScope N_least_fold ["web", "left"] (defScope s_least_fold) := ⟨rfl, rfl, rfl, by decide +kernel, rfl, by decide +kernel, by decide +kernel⟩
theorem d_least_fold {P : Program} {w : World} {K : PySem.W.Frag} {mg : Str → Option Value} {base : Heap} {C_Folding : Addr} {C_Web : Addr} {C_BadFold : Addr} {C_BadNumber : Addr} {C_BadWeb : Addr} {C_NotPlain : Addr} {C_TagError : Addr} {C_UnknownPlace : Addr} (T : Txt K mg C_Folding C_Web C_BadFold C_BadNumber C_BadWeb C_NotPlain C_TagError C_UnknownPlace) (D_is_covered : Def P w K mg base "is_covered" 4 5 (wf_is_covered C_Web)) {f : Addr} {cdv : Value} {A : Around} {outer : List Env} {s : Shared} {H : Hp} {E : XK}
    (hr : Room 5 (A.deeper (envOfC "least_fold" (defScope s_least_fold) s.heap.objs.size f cdv))) :
    BJ E (cxOf (L2.CX P w) P w K mg base N_least_fold "least_fold" (defScope s_least_fold) f cdv A outer s H E) (defBody s_least_fold) (b_least_fold C_Web) := by
  refine bj_cons ?_ ?_
  · refine sj_compS2 (own := [("u", 3), ("v", 4)]) (tgs := [3]) (tgs1 := [4]) (i := 2) rfl sc_least_fold.nd rfl rfl (sw_true rfl rfl rfl (by decide +kernel)) (blkOk_by (by rfl)) ?_ (by decide) (by decide) (gda_set _) ?_ ?_ ?_ ?_ ?_ ?_
    · refine ij_seq ?_
      exact ej_var (pv 1)
    · refine fun _ _ _ _ _ => ?_
      exact gj_name (pg_name (i := 3) sc_least_fold.nd rfl (by first | exact Or.inl rfl | exact Or.inr rfl))
    · refine fun _ _ _ _ _ => ?_
      exact tsj_nil
    · refine fun _ _ _ _ _ => ?_
      refine ij_seq ?_
      exact ej_var (pv 1)
    · refine fun _ _ _ _ _ => ?_
      exact gj_name (pg_name (i := 4) sc_least_fold.nd rfl (by first | exact Or.inl rfl | exact Or.inr rfl))
    · refine fun _ _ _ _ _ => ?_
      refine tsj_one ?_
      refine tj_tru (k := .e) ?_
      refine ej_fn D_is_covered (hr.mono (by decide)) (by rfl) passL ?_
      refine aj_consE ?_ ?_
      · exact ej_var (pv 0)
      · refine aj_consE ?_ ?_
        · exact ej_var (pv 1)
        · refine aj_consE ?_ ?_
          · exact ej_var (pv 3)
          · refine aj_consE ?_ ?_
            · exact ej_var (pv 4)
            · exact aj_nil
    · refine fun _ _ _ _ _ => ?_
      refine ej_tup ?_
      refine aj_consE ?_ ?_
      · exact ej_var (pv 3)
      · refine aj_consE ?_ ?_
        · exact ej_var (pv 4)
        · exact aj_nil
  · refine bj_one ?_
    refine sj_ret ?_
    refine ej_if ?_ ?_ ?_
    · refine tj_tru (k := .e) ?_
      exact ej_var (pv 2)
    · refine ej_minT (k := .e) rfl (units65 hr) (by rfl) T.b_min ?_
      exact ej_var (pv 2)
    · exact ej_non
abbrev N_Folding_finished : List Str := ["self"]
theorem sc_Folding_finished : FnScope N_Folding_finished ["self"] (defScope s_Folding_finished) := ⟨rfl, rfl, rfl, by decide +kernel, rfl, by decide +kernel, by decide +kernel⟩
theorem d_Folding_finished {P : Program} {w : World} {K : PySem.W.Frag} {mg : Str → Option Value} {base : Heap} {C_Folding : Addr} {C_Web : Addr} {C_BadFold : Addr} {C_BadNumber : Addr} {C_BadWeb : Addr} {C_NotPlain : Addr} {C_TagError : Addr} {C_UnknownPlace : Addr} (T : Txt K mg C_Folding C_Web C_BadFold C_BadNumber C_BadWeb C_NotPlain C_TagError C_UnknownPlace) (D_least_fold : Def P w K mg base "least_fold" 2 6 (wf_least_fold C_Web)) {f : Addr} {cdv : Value} {A : Around} {outer : List Env} {s : Shared} {H : Hp} {E : XK}
    (hr : Room 6 (A.deeper (envOfC "Folding.finished" (defScope s_Folding_finished) s.heap.objs.size f cdv))) :
    BJ E (cxOf (L2.CX P w) P w K mg base N_Folding_finished "Folding.finished" (defScope s_Folding_finished) f cdv A outer s H E) (defBody s_Folding_finished) (b_Folding_finished C_Folding C_Web) := by
  refine bj_one ?_
  refine sj_ret ?_
  refine ej_isN (ka := .e) (kb := .e) ?_ ?_
  · refine ej_fn D_least_fold (hr.mono (by decide)) (by rfl) passM ?_
    refine aj_consE ?_ ?_
    · refine ej_fld (k := .e) T.c_Folding T.n_Folding_web ?_
      exact ej_var (pv 0)
    · refine aj_consE ?_ ?_
      · refine ej_fld (k := .e) T.c_Folding T.n_Folding_left ?_
        exact ej_var (pv 0)
      · exact aj_nil
  · exact ej_non
abbrev N_Folding_shadow : List Str := ["self", "level", "place", "u", "v"]
theorem sc_Folding_shadow : FnScope N_Folding_shadow ["self", "level", "place"] (defScope s_Folding_shadow) := ⟨rfl, rfl, rfl, by decide +kernel, rfl, by decide +kernel, by decide +kernel⟩
theorem d_Folding_shadow {P : Program} {w : World} {K : PySem.W.Frag} {mg : Str → Option Value} {base : Heap} {C_Folding : Addr} {C_Web : Addr} {C_BadFold : Addr} {C_BadNumber : Addr} {C_BadWeb : Addr} {C_NotPlain : Addr} {C_TagError : Addr} {C_UnknownPlace : Addr} (T : Txt K mg C_Folding C_Web C_BadFold C_BadNumber C_BadWeb C_NotPlain C_TagError C_UnknownPlace) (D_check_place : Def P w K mg base "check_place" 2 3 (wf_check_place C_Web C_UnknownPlace)) (R_BadNumber : Err P w K mg base "BadNumber" C_BadNumber ["number"] 1) {f : Addr} {cdv : Value} {A : Around} {outer : List Env} {s : Shared} {H : Hp} {E : XK}
    (hr : Room 3 (A.deeper (envOfC "Folding.shadow" (defScope s_Folding_shadow) s.heap.objs.size f cdv))) :
    BJ E (cxOf (L2.CX P w) P w K mg base N_Folding_shadow "Folding.shadow" (defScope s_Folding_shadow) f cdv A outer s H E) (defBody s_Folding_shadow) (b_Folding_shadow C_Folding C_Web C_BadNumber C_UnknownPlace) := by
  refine bj_cons ?_ ?_
  · refine sj_if ?_ ?_ ?_
    · refine tj_not ?_
      refine tj_ch2 (ka := .e) (kb := .e) (kc := .e) brg_le brg_le op_le op_le ?_ ?_ ?_
      · exact ej_int
      · exact ej_var (pv 1)
      · refine ej_len (k := .e) (by rfl) T.b_len ?_
        refine ej_fld (k := .e) T.c_Folding T.n_Folding_folds ?_
        exact ej_var (pv 0)
    · refine bj_one ?_
      refine sj_raiseE R_BadNumber (hr.mono (by decide)) (takes_of rfl rfl rfl rfl) ?_
      refine aj_consE ?_ ?_
      · exact ej_var (pv 1)
      · exact aj_nil
    · exact bj_nil
  · refine bj_cons ?_ ?_
    · refine sj_expr (k := .e) ?_
      refine ej_fn D_check_place (hr.mono (by decide)) (by rfl) passM ?_
      refine aj_consE ?_ ?_
      · refine ej_fld (k := .e) T.c_Folding T.n_Folding_web ?_
        exact ej_var (pv 0)
      · refine aj_consE ?_ ?_
        · exact ej_var (pv 2)
        · exact aj_nil
    · refine bj_cons ?_ ?_
      · refine sj_for (tgs := [3, 4]) (passes_of rfl) rfl ?_ ?_ ?_
        · refine ij_seq ?_
          refine ej_slice (ka := .e) ?_ ?_ ?_
          · refine ej_fld (k := .e) T.c_Folding T.n_Folding_folds ?_
            exact ej_var (pv 0)
          · exact oj_none
          · refine oj_some (k := .e) ?_
            exact ej_var (pv 1)
        · refine gj_tup (n := 2) rfl ?_
          refine gsj_name ?_ ?_
          · exact gj_name (pg_name (i := 3) sc_Folding_shadow.nd rfl (by first | exact Or.inl rfl | exact Or.inr rfl))
          · refine gsj_name ?_ ?_
            · exact gj_name (pg_name (i := 4) sc_Folding_shadow.nd rfl (by first | exact Or.inl rfl | exact Or.inr rfl))
            · exact gsj_nil
        · refine bj_one ?_
          refine sj_if ?_ ?_ ?_
          · refine tj_eq (ka := .e) (kb := .e) hr.units ?_ ?_
            · exact ej_var (pv 2)
            · exact ej_var (pv 3)
          · refine bj_one ?_
            refine sj_name (i := 2) sc_Folding_shadow.nd rfl (by first | exact Or.inl rfl | exact Or.inr rfl) ?_
            exact ej_var (pv 4)
          · exact bj_nil
      · refine bj_one ?_
        refine sj_ret ?_
        exact ej_var (pv 2)
abbrev N_Folding_whole : List Str := ["self"]
theorem sc_Folding_whole : FnScope N_Folding_whole ["self"] (defScope s_Folding_whole) := ⟨rfl, rfl, rfl, by decide +kernel, rfl, by decide +kernel, by decide +kernel⟩
theorem d_Folding_whole {P : Program} {w : World} {K : PySem.W.Frag} {mg : Str → Option Value} {base : Heap} {C_Folding : Addr} {C_Web : Addr} {C_BadFold : Addr} {C_BadNumber : Addr} {C_BadWeb : Addr} {C_NotPlain : Addr} {C_TagError : Addr} {C_UnknownPlace : Addr} (T : Txt K mg C_Folding C_Web C_BadFold C_BadNumber C_BadWeb C_NotPlain C_TagError C_UnknownPlace)  {f : Addr} {cdv : Value} {A : Around} {outer : List Env} {s : Shared} {H : Hp} {E : XK}
    (hr : Room 0 (A.deeper (envOfC "Folding.whole" (defScope s_Folding_whole) s.heap.objs.size f cdv))) :
    BJ E (cxOf (L2.CX P w) P w K mg base N_Folding_whole "Folding.whole" (defScope s_Folding_whole) f cdv A outer s H E) (defBody s_Folding_whole) (b_Folding_whole C_Folding) := by
  refine bj_one ?_
  refine sj_ret ?_
  refine ej_eq (ka := .e) (kb := .e) hr.units ?_ ?_
  · refine ej_len (k := .e) (by rfl) T.b_len ?_
    refine ej_fld (k := .e) T.c_Folding T.n_Folding_left ?_
    exact ej_var (pv 0)
  · exact ej_int
abbrev N_law_is_finished : List Str := ["folding", "row", "folds", "left", "place"]
theorem sc_law_is_finished : FnScope N_law_is_finished ["folding", "row", "folds", "left"] (defScope s_law_is_finished) := ⟨rfl, rfl, rfl, by decide +kernel, rfl, by decide +kernel, by decide +kernel⟩
theorem d_law_is_finished {P : Program} {w : World} {K : PySem.W.Frag} {mg : Str → Option Value} {base : Heap} {C_Folding : Addr} {C_Web : Addr} {C_BadFold : Addr} {C_BadNumber : Addr} {C_BadWeb : Addr} {C_NotPlain : Addr} {C_TagError : Addr} {C_UnknownPlace : Addr} (T : Txt K mg C_Folding C_Web C_BadFold C_BadNumber C_BadWeb C_NotPlain C_TagError C_UnknownPlace) (D_law_same : Def P w K mg base "_law_same" 2 14 wf_law_same) (M_Folding_shadow : MDef P w K mg base C_Folding "shadow" 3 4 (wf_Folding_shadow C_Folding C_Web)) (P_Folding_finished : PDef P w K mg base C_Folding "finished" 7 (wf_Folding_finished C_Folding C_Web)) (P_Folding_whole : PDef P w K mg base C_Folding "whole" 1 (wf_Folding_whole C_Folding)) {f : Addr} {cdv : Value} {A : Around} {outer : List Env} {s : Shared} {H : Hp} {E : XK}
    (hr : Room 14 (A.deeper (envOfC "_law_is_finished" (defScope s_law_is_finished) s.heap.objs.size f cdv))) :
    BJ E (cxOf (L2.CX P w) P w K mg base N_law_is_finished "_law_is_finished" (defScope s_law_is_finished) f cdv A outer s H E) (defBody s_law_is_finished) (b_law_is_finished C_Folding C_Web) := by
  refine bj_cons ?_ ?_
  · refine sj_if ?_ ?_ ?_
    · refine tj_tw ?_
      refine twj_or ?_ ?_
      · refine tj_not ?_
        refine tj_tru (k := .e) ?_
        refine ej_isO T.i_Folding T.m_Folding ?_ (by rfl) T.b_isinstance (by rfl)
        exact ej_var (pv 0)
      · refine twj_or1 ?_
        refine tj_not ?_
        refine tj_tru (k := .e) ?_
        refine ej_fn D_law_same (hr.mono (by decide)) (by rfl) passM ?_
        refine aj_consE ?_ ?_
        · refine ej_fld (k := .e) T.c_Folding T.n_Folding_folds ?_
          exact ej_var (pv 0)
        · refine aj_consE ?_ ?_
          · refine ej_tuple1 (k := .e) (by rfl) T.b_tuple ?_
            exact ej_var (pv 2)
          · exact aj_nil
    · refine bj_one ?_
      refine sj_ret ?_
      exact ej_bl
    · exact bj_nil
  · refine bj_cons ?_ ?_
    · refine sj_if ?_ ?_ ?_
      · refine tj_tw ?_
        refine twj_or ?_ ?_
        · refine tj_not ?_
          refine tj_tru (k := .e) ?_
          refine ej_fn D_law_same (hr.mono (by decide)) (by rfl) passM ?_
          refine aj_consE ?_ ?_
          · refine ej_fld (k := .e) T.c_Folding T.n_Folding_left ?_
            exact ej_var (pv 0)
          · refine aj_consE ?_ ?_
            · refine ej_tuple1 (k := .e) (by rfl) T.b_tuple ?_
              exact ej_var (pv 3)
            · exact aj_nil
        · refine twj_or1 ?_
          refine tj_not ?_
          refine tj_tru (k := .e) ?_
          refine ej_fn D_law_same (hr.mono (by decide)) (by rfl) passM ?_
          refine aj_consE ?_ ?_
          · refine ej_prop P_Folding_whole (hr.mono (by decide)) ?_
            exact ej_var (pv 0)
          · refine aj_consE ?_ ?_
            · refine ej_eq (ka := .e) (kb := .e) hr.units ?_ ?_
              · refine ej_len (k := .e) (by rfl) T.b_len ?_
                exact ej_var (pv 3)
              · exact ej_int
            · exact aj_nil
      · refine bj_one ?_
        refine sj_ret ?_
        exact ej_bl
      · exact bj_nil
    · refine bj_cons ?_ ?_
      · refine sj_if ?_ ?_ ?_
        · refine tj_not ?_
          refine tj_tru (k := .e) ?_
          refine ej_fn D_law_same (hr.mono (by decide)) (by rfl) passM ?_
          refine aj_consE ?_ ?_
          · refine ej_prop P_Folding_finished (hr.mono (by decide)) ?_
            exact ej_var (pv 0)
          · refine aj_consE ?_ ?_
            · exact ej_bl
            · exact aj_nil
        · refine bj_one ?_
          refine sj_ret ?_
          exact ej_bl
        · exact bj_nil
      · refine bj_cons ?_ ?_
        · refine sj_for (tgs := [4]) (passes_of rfl) rfl ?_ ?_ ?_
          · refine ij_rng1 (ka := .e) ?_ (by rfl) T.b_range
            refine ej_len (k := .e) (by rfl) T.b_len ?_
            exact ej_var (pv 1)
          · exact gj_name (pg_name (i := 4) sc_law_is_finished.nd rfl (by first | exact Or.inl rfl | exact Or.inr rfl))
          · refine bj_one ?_
            refine sj_if ?_ ?_ ?_
            · refine tj_nin (ka := .e) (kb := .e) (units65 hr) ?_ ?_
              · refine ej_meth M_Folding_shadow (hr.mono (by decide)) passM ?_ ?_
                · exact ej_var (pv 0)
                · refine aj_consE ?_ ?_
                  · refine ej_len (k := .e) (by rfl) T.b_len ?_
                    exact ej_var (pv 2)
                  · refine aj_consE ?_ ?_
                    · exact ej_var (pv 4)
                    · exact aj_nil
              · exact ej_var (pv 3)
            · refine bj_one ?_
              refine sj_ret ?_
              exact ej_bl
            · exact bj_nil
        · refine bj_one ?_
          refine sj_ret ?_
          exact ej_bl
abbrev N_law_is_plain : List Str := ["table", "row", "u", "v", "other"]
theorem sc_law_is_plain : FnScope N_law_is_plain ["table"] (defScope s_law_is_plain) := ⟨rfl, rfl, rfl, by decide +kernel, rfl, by decide +kernel, by decide +kernel⟩
theorem d_law_is_plain {P : Program} {w : World} {K : PySem.W.Frag} {mg : Str → Option Value} {base : Heap} {C_Folding : Addr} {C_Web : Addr} {C_BadFold : Addr} {C_BadNumber : Addr} {C_BadWeb : Addr} {C_NotPlain : Addr} {C_TagError : Addr} {C_UnknownPlace : Addr} (T : Txt K mg C_Folding C_Web C_BadFold C_BadNumber C_BadWeb C_NotPlain C_TagError C_UnknownPlace)  {f : Addr} {cdv : Value} {A : Around} {outer : List Env} {s : Shared} {H : Hp} {E : XK}
    (hr : Room 0 (A.deeper (envOfC "_law_is_plain" (defScope s_law_is_plain) s.heap.objs.size f cdv))) :
    BJ E (cxOf (L2.CX P w) P w K mg base N_law_is_plain "_law_is_plain" (defScope s_law_is_plain) f cdv A outer s H E) (defBody s_law_is_plain) b_law_is_plain := by
  refine bj_cons ?_ ?_
  · refine sj_for (tgs := [1]) (passes_of rfl) rfl ?_ ?_ ?_
    · refine ij_seq ?_
      exact ej_var (pv 0)
    · exact gj_name (pg_name (i := 1) sc_law_is_plain.nd rfl (by first | exact Or.inl rfl | exact Or.inr rfl))
    · refine bj_one ?_
      refine sj_for (tgs := [2]) (passes_of rfl) rfl ?_ ?_ ?_
      · refine ij_rng1 (ka := .e) ?_ (by rfl) T.b_range
        refine ej_len (k := .e) (by rfl) T.b_len ?_
        exact ej_var (pv 1)
      · exact gj_name (pg_name (i := 2) sc_law_is_plain.nd rfl (by first | exact Or.inl rfl | exact Or.inr rfl))
      · refine bj_one ?_
        refine sj_for (tgs := [3]) (passes_of rfl) rfl ?_ ?_ ?_
        · refine ij_seq ?_
          refine ej_ix (ka := .e) (kb := .e) ?_ ?_ (fun _ _ => rfl)
          · exact ej_var (pv 1)
          · exact ej_var (pv 2)
        · exact gj_name (pg_name (i := 3) sc_law_is_plain.nd rfl (by first | exact Or.inl rfl | exact Or.inr rfl))
        · refine bj_one ?_
          refine sj_for (tgs := [4]) (passes_of rfl) rfl ?_ ?_ ?_
          · refine ij_seq ?_
            exact ej_var (pv 0)
          · exact gj_name (pg_name (i := 4) sc_law_is_plain.nd rfl (by first | exact Or.inl rfl | exact Or.inr rfl))
          · refine bj_one ?_
            refine sj_if ?_ ?_ ?_
            · refine tj_tw ?_
              refine twj_or ?_ ?_
              · refine tj_nin (ka := .e) (kb := .e) (units65 hr) ?_ ?_
                · exact ej_var (pv 3)
                · refine ej_ix (ka := .e) (kb := .e) ?_ ?_ (fun _ _ => rfl)
                  · exact ej_var (pv 4)
                  · exact ej_var (pv 2)
              · refine twj_or1 ?_
                refine tj_nin (ka := .e) (kb := .e) (units65 hr) ?_ ?_
                · exact ej_var (pv 2)
                · refine ej_ix (ka := .e) (kb := .e) ?_ ?_ (fun _ _ => rfl)
                  · exact ej_var (pv 4)
                  · exact ej_var (pv 3)
            · refine bj_one ?_
              refine sj_ret ?_
              exact ej_bl
            · exact bj_nil
  · refine bj_one ?_
    refine sj_ret ?_
    exact ej_bl
abbrev N_places_into : List Str := ["row", "place", "u"]
theorem sc_places_into : FnScope N_places_into ["row", "place"] (defScope s_places_into) := ⟨rfl, rfl, rfl, by decide +kernel, rfl, by decide +kernel, by decide +kernel⟩
theorem d_places_into {P : Program} {w : World} {K : PySem.W.Frag} {mg : Str → Option Value} {base : Heap} {C_Folding : Addr} {C_Web : Addr} {C_BadFold : Addr} {C_BadNumber : Addr} {C_BadWeb : Addr} {C_NotPlain : Addr} {C_TagError : Addr} {C_UnknownPlace : Addr} (T : Txt K mg C_Folding C_Web C_BadFold C_BadNumber C_BadWeb C_NotPlain C_TagError C_UnknownPlace)  {f : Addr} {cdv : Value} {A : Around} {outer : List Env} {s : Shared} {H : Hp} {E : XK}
    (hr : Room 0 (A.deeper (envOfC "places_into" (defScope s_places_into) s.heap.objs.size f cdv))) :
    BJ E (cxOf (L2.CX P w) P w K mg base N_places_into "places_into" (defScope s_places_into) f cdv A outer s H E) (defBody s_places_into) b_places_into := by
  refine bj_one ?_
  refine sj_ret ?_
  refine ej_tuple1 (k := .f) (by rfl) T.b_tuple ?_
  refine ej_comp (own := [("u", 2)]) (tgs := [2]) rfl sc_places_into.nd (blkOk_by (by rfl)) ?_ (by decide) ?_ ?_ ?_
  · refine ij_rng1 (ka := .e) ?_ (by rfl) T.b_range
    refine ej_len (k := .e) (by rfl) T.b_len ?_
    exact ej_var (pv 0)
  · refine fun _ _ _ _ _ => ?_
    exact gj_name (pg_name (i := 2) sc_places_into.nd rfl (by first | exact Or.inl rfl | exact Or.inr rfl))
  · refine fun _ _ _ _ _ => ?_
    refine tsj_one ?_
    refine tj_in (ka := .e) (kb := .e) (units65 hr) ?_ ?_
    · exact ej_var (pv 1)
    · refine ej_ix (ka := .e) (kb := .e) ?_ ?_ (fun _ _ => rfl)
      · exact ej_var (pv 0)
      · exact ej_var (pv 2)
  · refine fun _ _ _ _ _ => ?_
    exact ej_var (pv 2)
abbrev N_backward_nexts : List Str := ["nexts", "row", "v"]
theorem sc_backward_nexts : FnScope N_backward_nexts ["nexts"] (defScope s_backward_nexts) := ⟨rfl, rfl, rfl, by decide +kernel, rfl, by decide +kernel, by decide +kernel⟩
theorem d_backward_nexts {P : Program} {w : World} {K : PySem.W.Frag} {mg : Str → Option Value} {base : Heap} {C_Folding : Addr} {C_Web : Addr} {C_BadFold : Addr} {C_BadNumber : Addr} {C_BadWeb : Addr} {C_NotPlain : Addr} {C_TagError : Addr} {C_UnknownPlace : Addr} (T : Txt K mg C_Folding C_Web C_BadFold C_BadNumber C_BadWeb C_NotPlain C_TagError C_UnknownPlace) (D_places_into : Def P w K mg base "places_into" 2 1 wf_places_into) {f : Addr} {cdv : Value} {A : Around} {outer : List Env} {s : Shared} {H : Hp} {E : XK}
    (hr : Room 1 (A.deeper (envOfC "backward_nexts" (defScope s_backward_nexts) s.heap.objs.size f cdv))) :
    BJ E (cxOf (L2.CX P w) P w K mg base N_backward_nexts "backward_nexts" (defScope s_backward_nexts) f cdv A outer s H E) (defBody s_backward_nexts) b_backward_nexts := by
  refine bj_one ?_
  refine sj_ret ?_
  refine ej_tuple1 (k := .f) (by rfl) T.b_tuple ?_
  refine ej_comp (own := [("row", 1)]) (tgs := [1]) rfl sc_backward_nexts.nd (blkOk_by (by rfl)) ?_ (by decide) ?_ ?_ ?_
  · refine ij_seq ?_
    exact ej_var (pv 0)
  · refine fun _ _ _ _ _ => ?_
    exact gj_name (pg_name (i := 1) sc_backward_nexts.nd rfl (by first | exact Or.inl rfl | exact Or.inr rfl))
  · refine fun _ _ _ _ _ => ?_
    exact tsj_nil
  · refine fun _ _ _ _ _ => ?_
    refine ej_tuple1 (k := .f) (by rfl) T.b_tuple ?_
    refine ej_comp (own := [("v", 2)]) (tgs := [2]) rfl sc_backward_nexts.nd (blkOk_by (by rfl)) ?_ (by decide) ?_ ?_ ?_
    · refine ij_rng1 (ka := .e) ?_ (by rfl) T.b_range
      refine ej_len (k := .e) (by rfl) T.b_len ?_
      exact ej_var (pv 1)
    · refine fun _ _ _ _ _ => ?_
      exact gj_name (pg_name (i := 2) sc_backward_nexts.nd rfl (by first | exact Or.inl rfl | exact Or.inr rfl))
    · refine fun _ _ _ _ _ => ?_
      exact tsj_nil
    · refine fun _ _ _ _ _ => ?_
      refine ej_fn D_places_into (hr.mono (by decide)) (by rfl) passL ?_
      refine aj_consE ?_ ?_
      · exact ej_var (pv 1)
      · refine aj_consE ?_ ?_
        · exact ej_var (pv 2)
        · exact aj_nil
abbrev N_Web_doorless : List Str := ["self", "nexts"]
theorem sc_Web_doorless : FnScope N_Web_doorless ["self"] (defScope s_Web_doorless) := ⟨rfl, rfl, rfl, by decide +kernel, rfl, by decide +kernel, by decide +kernel⟩
theorem d_Web_doorless {P : Program} {w : World} {K : PySem.W.Frag} {mg : Str → Option Value} {base : Heap} {C_Folding : Addr} {C_Web : Addr} {C_BadFold : Addr} {C_BadNumber : Addr} {C_BadWeb : Addr} {C_NotPlain : Addr} {C_TagError : Addr} {C_UnknownPlace : Addr} (T : Txt K mg C_Folding C_Web C_BadFold C_BadNumber C_BadWeb C_NotPlain C_TagError C_UnknownPlace)  {f : Addr} {cdv : Value} {A : Around} {outer : List Env} {s : Shared} {H : Hp} {E : XK}
    (hr : Room 0 (A.deeper (envOfC "Web.doorless" (defScope s_Web_doorless) s.heap.objs.size f cdv))) :
    BJ E (cxOf (L2.CX P w) P w K mg base N_Web_doorless "Web.doorless" (defScope s_Web_doorless) f cdv A outer s H E) (defBody s_Web_doorless) (b_Web_doorless C_Web) := by
  refine bj_one ?_
  refine sj_ret ?_
  refine ej_all1 (k := .f) rfl (by rfl) T.b_all ?_
  refine ej_comp (own := [("nexts", 1)]) (tgs := [1]) rfl sc_Web_doorless.nd (blkOk_by (by rfl)) ?_ (by decide) ?_ ?_ ?_
  · refine ij_seq ?_
    refine ej_fld (k := .e) T.c_Web T.n_Web__nexts ?_
    exact ej_var (pv 0)
  · refine fun _ _ _ _ _ => ?_
    exact gj_name (pg_name (i := 1) sc_Web_doorless.nd rfl (by first | exact Or.inl rfl | exact Or.inr rfl))
  · refine fun _ _ _ _ _ => ?_
    exact tsj_nil
  · refine fun _ _ _ _ _ => ?_
    refine ej_eq (ka := .e) (kb := .e) hr.units ?_ ?_
    · exact ej_var (pv 1)
    · refine ej_ix (ka := .e) (kb := .e) ?_ ?_ (fun _ _ => rfl)
      · refine ej_fld (k := .e) T.c_Web T.n_Web__nexts ?_
        exact ej_var (pv 0)
      · exact ej_int
abbrev N_Web_plain : List Str := ["self"]
theorem sc_Web_plain : FnScope N_Web_plain ["self"] (defScope s_Web_plain) := ⟨rfl, rfl, rfl, by decide +kernel, rfl, by decide +kernel, by decide +kernel⟩
theorem d_Web_plain {P : Program} {w : World} {K : PySem.W.Frag} {mg : Str → Option Value} {base : Heap} {C_Folding : Addr} {C_Web : Addr} {C_BadFold : Addr} {C_BadNumber : Addr} {C_BadWeb : Addr} {C_NotPlain : Addr} {C_TagError : Addr} {C_UnknownPlace : Addr} (T : Txt K mg C_Folding C_Web C_BadFold C_BadNumber C_BadWeb C_NotPlain C_TagError C_UnknownPlace) (D_backward_nexts : Def P w K mg base "backward_nexts" 1 2 wf_backward_nexts) (P_Web_doorless : PDef P w K mg base C_Web "doorless" 1 (wf_Web_doorless C_Web)) {f : Addr} {cdv : Value} {A : Around} {outer : List Env} {s : Shared} {H : Hp} {E : XK}
    (hr : Room 2 (A.deeper (envOfC "Web.plain" (defScope s_Web_plain) s.heap.objs.size f cdv))) :
    BJ E (cxOf (L2.CX P w) P w K mg base N_Web_plain "Web.plain" (defScope s_Web_plain) f cdv A outer s H E) (defBody s_Web_plain) (b_Web_plain C_Web) := by
  refine bj_one ?_
  refine sj_ret ?_
  refine ej_andV ?_ ?_
  · refine ej_prop P_Web_doorless (hr.mono (by decide)) ?_
    exact ej_var (pv 0)
  · refine ej_b1 ?_
    refine ej_eq (ka := .e) (kb := .e) hr.units ?_ ?_
    · refine ej_fld (k := .e) T.c_Web T.n_Web__nexts ?_
      exact ej_var (pv 0)
    · refine ej_fn D_backward_nexts (hr.mono (by decide)) (by rfl) passM ?_
      refine aj_consE ?_ ?_
      · refine ej_fld (k := .e) T.c_Web T.n_Web__nexts ?_
        exact ej_var (pv 0)
      · exact aj_nil
abbrev N_check_plain : List Str := ["web"]
theorem sc_check_plain : FnScope N_check_plain ["web"] (defScope s_check_plain) := ⟨rfl, rfl, rfl, by decide +kernel, rfl, by decide +kernel, by decide +kernel⟩
theorem d_check_plain {P : Program} {w : World} {K : PySem.W.Frag} {mg : Str → Option Value} {base : Heap} {C_Folding : Addr} {C_Web : Addr} {C_BadFold : Addr} {C_BadNumber : Addr} {C_BadWeb : Addr} {C_NotPlain : Addr} {C_TagError : Addr} {C_UnknownPlace : Addr} (T : Txt K mg C_Folding C_Web C_BadFold C_BadNumber C_BadWeb C_NotPlain C_TagError C_UnknownPlace) (P_Web_plain : PDef P w K mg base C_Web "plain" 3 (wf_Web_plain C_Web)) (R0_NotPlain : Err0 K mg "NotPlain" C_NotPlain) {f : Addr} {cdv : Value} {A : Around} {outer : List Env} {s : Shared} {H : Hp} {E : XK}
    (hr : Room 4 (A.deeper (envOfC "check_plain" (defScope s_check_plain) s.heap.objs.size f cdv))) :
    BJ E (cxOf (L2.CX P w) P w K mg base N_check_plain "check_plain" (defScope s_check_plain) f cdv A outer s H E) (defBody s_check_plain) (b_check_plain C_Web C_NotPlain) := by
  refine bj_one ?_
  refine sj_if ?_ ?_ ?_
  · refine tj_not ?_
    refine tj_tru (k := .e) ?_
    refine ej_prop P_Web_plain (hr.mono (by decide)) ?_
    exact ej_var (pv 0)
  · refine bj_one ?_
    exact sj_raise0 R0_NotPlain (takes_of rfl rfl rfl rfl)
  · exact bj_nil
abbrev N_without : List Str := ["left", "place", "other"]
theorem sc_without : FnScope N_without ["left", "place"] (defScope s_without) := ⟨rfl, rfl, rfl, by decide +kernel, rfl, by decide +kernel, by decide +kernel⟩
theorem d_without {P : Program} {w : World} {K : PySem.W.Frag} {mg : Str → Option Value} {base : Heap} {C_Folding : Addr} {C_Web : Addr} {C_BadFold : Addr} {C_BadNumber : Addr} {C_BadWeb : Addr} {C_NotPlain : Addr} {C_TagError : Addr} {C_UnknownPlace : Addr} (T : Txt K mg C_Folding C_Web C_BadFold C_BadNumber C_BadWeb C_NotPlain C_TagError C_UnknownPlace)  {f : Addr} {cdv : Value} {A : Around} {outer : List Env} {s : Shared} {H : Hp} {E : XK}
    (hr : Room 0 (A.deeper (envOfC "without" (defScope s_without) s.heap.objs.size f cdv))) :
    BJ E (cxOf (L2.CX P w) P w K mg base N_without "without" (defScope s_without) f cdv A outer s H E) (defBody s_without) b_without := by
  refine bj_one ?_
  refine sj_ret ?_
  refine ej_tuple1 (k := .f) (by rfl) T.b_tuple ?_
  refine ej_comp (own := [("other", 2)]) (tgs := [2]) rfl sc_without.nd (blkOk_by (by rfl)) ?_ (by decide) ?_ ?_ ?_
  · refine ij_seq ?_
    exact ej_var (pv 0)
  · refine fun _ _ _ _ _ => ?_
    exact gj_name (pg_name (i := 2) sc_without.nd rfl (by first | exact Or.inl rfl | exact Or.inr rfl))
  · refine fun _ _ _ _ _ => ?_
    refine tsj_one ?_
    refine tj_ne (ka := .e) (kb := .e) hr.units ?_ ?_
    · exact ej_var (pv 2)
    · exact ej_var (pv 1)
  · refine fun _ _ _ _ _ => ?_
    exact ej_var (pv 2)
abbrev N_left_by : List Str := ["web", "folds", "left", "at", "fold"]
theorem sc_left_by : FnScope N_left_by ["web", "folds"] (defScope s_left_by) := ⟨rfl, rfl, rfl, by decide +kernel, rfl, by decide +kernel, by decide +kernel⟩
theorem d_left_by {P : Program} {w : World} {K : PySem.W.Frag} {mg : Str → Option Value} {base : Heap} {C_Folding : Addr} {C_Web : Addr} {C_BadFold : Addr} {C_BadNumber : Addr} {C_BadWeb : Addr} {C_NotPlain : Addr} {C_TagError : Addr} {C_UnknownPlace : Addr} (T : Txt K mg C_Folding C_Web C_BadFold C_BadNumber C_BadWeb C_NotPlain C_TagError C_UnknownPlace) (D_is_covered : Def P w K mg base "is_covered" 4 5 (wf_is_covered C_Web)) (D_without : Def P w K mg base "without" 2 1 wf_without) (M_Web___len__ : MDef P w K mg base C_Web "__len__" 1 1 (wf_Web___len__ C_Web)) (R_BadFold : Err P w K mg base "BadFold" C_BadFold ["number"] 1) {f : Addr} {cdv : Value} {A : Around} {outer : List Env} {s : Shared} {H : Hp} {E : XK}
    (hr : Room 5 (A.deeper (envOfC "left_by" (defScope s_left_by) s.heap.objs.size f cdv))) :
    BJ E (cxOf (L2.CX P w) P w K mg base N_left_by "left_by" (defScope s_left_by) f cdv A outer s H E) (defBody s_left_by) (b_left_by C_Web C_BadFold) := by
  refine bj_cons ?_ ?_
  · refine sj_name (i := 2) sc_left_by.nd rfl (by first | exact Or.inl rfl | exact Or.inr rfl) ?_
    refine ej_tupR (k := .e) rfl (by rfl) T.b_tuple (by rfl) T.b_range ?_
    refine ej_lenO M_Web___len__ (hr.mono (by decide)) passM ?_ (by rfl) T.b_len
    exact ej_var (pv 0)
  · refine bj_cons ?_ ?_
    · refine sj_for (tgs := [3, 4]) (passes_of rfl) rfl ?_ ?_ ?_
      · refine ij_enumA ?_ (by rfl) T.b_enumerate
        exact ej_var (pv 1)
      · refine gj_tup (n := 2) rfl ?_
        refine gsj_name ?_ ?_
        · exact gj_name (pg_name (i := 3) sc_left_by.nd rfl (by first | exact Or.inl rfl | exact Or.inr rfl))
        · refine gsj_name ?_ ?_
          · exact gj_name (pg_name (i := 4) sc_left_by.nd rfl (by first | exact Or.inl rfl | exact Or.inr rfl))
          · exact gsj_nil
      · refine bj_cons ?_ ?_
        · refine sj_if ?_ ?_ ?_
          · refine tj_tw ?_
            refine twj_or ?_ ?_
            · refine tj_ne (ka := .e) (kb := .e) hr.units ?_ ?_
              · refine ej_len (k := .e) (by rfl) T.b_len ?_
                exact ej_var (pv 4)
              · exact ej_int
            · refine twj_or1 ?_
              refine tj_not ?_
              refine tj_tru (k := .e) ?_
              refine ej_fn D_is_covered (hr.mono (by decide)) (by rfl) passM ?_
              refine aj_consE ?_ ?_
              · exact ej_var (pv 0)
              · refine aj_consE ?_ ?_
                · exact ej_var (pv 2)
                · refine aj_consE ?_ ?_
                  · refine ej_ix (ka := .e) (kb := .e) ?_ ?_ (fun _ _ => rfl)
                    · exact ej_var (pv 4)
                    · exact ej_int
                  · refine aj_consE ?_ ?_
                    · refine ej_ix (ka := .e) (kb := .e) ?_ ?_ (fun _ _ => rfl)
                      · exact ej_var (pv 4)
                      · exact ej_int
                    · exact aj_nil
          · refine bj_one ?_
            refine sj_raiseE R_BadFold (hr.mono (by decide)) (takes_of rfl rfl rfl rfl) ?_
            refine aj_consE ?_ ?_
            · exact ej_var (pv 3)
            · exact aj_nil
          · exact bj_nil
        · refine bj_one ?_
          refine sj_name (i := 2) sc_left_by.nd rfl (by first | exact Or.inl rfl | exact Or.inr rfl) ?_
          refine ej_fn D_without (hr.mono (by decide)) (by rfl) passM ?_
          refine aj_consE ?_ ?_
          · exact ej_var (pv 2)
          · refine aj_consE ?_ ?_
            · refine ej_ix (ka := .e) (kb := .e) ?_ ?_ (fun _ _ => rfl)
              · exact ej_var (pv 4)
              · exact ej_int
            · exact aj_nil
    · refine bj_one ?_
      refine sj_ret ?_
      exact ej_var (pv 2)
abbrev N_Folding___init__ : List Str := ["self", "web", "folds", "fold"]
theorem sc_Folding___init__ : FnScope N_Folding___init__ ["self", "web", "folds"] (defScope s_Folding___init__) := ⟨rfl, rfl, rfl, by decide +kernel, rfl, by decide +kernel, by decide +kernel⟩
theorem d_Folding___init__ {P : Program} {w : World} {K : PySem.W.Frag} {mg : Str → Option Value} {base : Heap} {C_Folding : Addr} {C_Web : Addr} {C_BadFold : Addr} {C_BadNumber : Addr} {C_BadWeb : Addr} {C_NotPlain : Addr} {C_TagError : Addr} {C_UnknownPlace : Addr} (T : Txt K mg C_Folding C_Web C_BadFold C_BadNumber C_BadWeb C_NotPlain C_TagError C_UnknownPlace) (D_check_plain : Def P w K mg base "check_plain" 1 5 (wf_check_plain C_Web C_NotPlain)) (D_left_by : Def P w K mg base "left_by" 2 6 (wf_left_by C_Web)) {f : Addr} {cdv : Value} {A : Around} {outer : List Env} {s : Shared} {H : Hp} {E : XK}
    (hr : Room 6 (A.deeper (envOfC "Folding.__init__" (defScope s_Folding___init__) s.heap.objs.size f cdv))) :
    BJ E (cxOf (L2.CX P w) P w K mg base N_Folding___init__ "Folding.__init__" (defScope s_Folding___init__) f cdv A outer s H E) (defBody s_Folding___init__) (b_Folding___init__ C_Folding C_Web C_NotPlain) := by
  refine bj_cons ?_ ?_
  · refine sj_expr (k := .e) ?_
    refine ej_fn D_check_plain (hr.mono (by decide)) (by rfl) passM ?_
    refine aj_consE ?_ ?_
    · exact ej_var (pv 1)
    · exact aj_nil
  · refine bj_cons ?_ ?_
    · refine sj_fset (i := 0) T.c_Folding T.n_Folding_web (pv 0) ?_
      exact ej_var (pv 1)
    · refine bj_cons ?_ ?_
      · refine sj_fset (i := 0) T.c_Folding T.n_Folding_folds (pv 0) ?_
        refine ej_tuple1 (k := .f) (by rfl) T.b_tuple ?_
        refine ej_comp (own := [("fold", 3)]) (tgs := [3]) rfl sc_Folding___init__.nd (blkOk_by (by rfl)) ?_ (by decide) ?_ ?_ ?_
        · refine ij_seq ?_
          exact ej_var (pv 2)
        · refine fun _ _ _ _ _ => ?_
          exact gj_name (pg_name (i := 3) sc_Folding___init__.nd rfl (by first | exact Or.inl rfl | exact Or.inr rfl))
        · refine fun _ _ _ _ _ => ?_
          exact tsj_nil
        · refine fun _ _ _ _ _ => ?_
          refine ej_tuple1 (k := .e) (by rfl) T.b_tuple ?_
          exact ej_var (pv 3)
      · refine bj_one ?_
        refine sj_fset (i := 0) T.c_Folding T.n_Folding_left (pv 0) ?_
        refine ej_fn D_left_by (hr.mono (by decide)) (by rfl) passM ?_
        refine aj_consE ?_ ?_
        · exact ej_var (pv 1)
        · refine aj_consE ?_ ?_
          · exact ej_seF T.c_Folding T.n_Folding_folds (pv 0)
          · exact aj_nil
abbrev N_fold_up : List Str := ["web", "folds", "left", "fold"]
theorem sc_fold_up : FnScope N_fold_up ["web"] (defScope s_fold_up) := ⟨rfl, rfl, rfl, by decide +kernel, rfl, by decide +kernel, by decide +kernel⟩
theorem d_fold_up {P : Program} {w : World} {K : PySem.W.Frag} {mg : Str → Option Value} {base : Heap} {C_Folding : Addr} {C_Web : Addr} {C_BadFold : Addr} {C_BadNumber : Addr} {C_BadWeb : Addr} {C_NotPlain : Addr} {C_TagError : Addr} {C_UnknownPlace : Addr} (T : Txt K mg C_Folding C_Web C_BadFold C_BadNumber C_BadWeb C_NotPlain C_TagError C_UnknownPlace) (D_check_plain : Def P w K mg base "check_plain" 1 5 (wf_check_plain C_Web C_NotPlain)) (D_least_fold : Def P w K mg base "least_fold" 2 6 (wf_least_fold C_Web)) (D_without : Def P w K mg base "without" 2 1 wf_without) (M_Web___len__ : MDef P w K mg base C_Web "__len__" 1 1 (wf_Web___len__ C_Web)) (K_Folding_2 : Ctor P w K mg base "Folding" C_Folding 2 [] 7 gD_K_Folding_2 (wi_Folding C_Web)) {f : Addr} {cdv : Value} {A : Around} {outer : List Env} {s : Shared} {H : Hp} {E : XK}
    (hr : Room 8 (A.deeper (envOfC "fold_up" (defScope s_fold_up) s.heap.objs.size f cdv))) :
    BJ E (cxOf (L2.CX P w) P w K mg base N_fold_up "fold_up" (defScope s_fold_up) f cdv A outer s H E) (defBody s_fold_up) (b_fold_up C_Folding C_Web C_NotPlain) := by
  refine bj_cons ?_ ?_
  · refine sj_expr (k := .e) ?_
    refine ej_fn D_check_plain (hr.mono (by decide)) (by rfl) passM ?_
    refine aj_consE ?_ ?_
    · exact ej_var (pv 0)
    · exact aj_nil
  · refine bj_cons ?_ ?_
    · refine sj_nameO (i := 1) sc_fold_up.nd rfl (by first | exact Or.inl rfl | exact Or.inr rfl) ?_
      refine ej_lst ?_
      exact aj_nil
    · refine bj_cons ?_ ?_
      · refine sj_name (i := 2) sc_fold_up.nd rfl (by first | exact Or.inl rfl | exact Or.inr rfl) ?_
        refine ej_tupR (k := .e) rfl (by rfl) T.b_tuple (by rfl) T.b_range ?_
        refine ej_lenO M_Web___len__ (hr.mono (by decide)) passM ?_ (by rfl) T.b_len
        exact ej_var (pv 0)
      · refine bj_cons ?_ ?_
        · refine sj_name (i := 3) sc_fold_up.nd rfl (by first | exact Or.inl rfl | exact Or.inr rfl) ?_
          refine ej_fn D_least_fold (hr.mono (by decide)) (by rfl) passM ?_
          refine aj_consE ?_ ?_
          · exact ej_var (pv 0)
          · refine aj_consE ?_ ?_
            · exact ej_var (pv 2)
            · exact aj_nil
        · refine bj_cons ?_ ?_
          · refine sj_while (passes_of rfl) ?_ ?_
            · refine tj_notN (ka := .e) (kb := .e) ?_ ?_
              · exact ej_var (pv 3)
              · exact ej_non
            · refine bj_cons ?_ ?_
              · refine sj_append (pv 1) ?_
                exact ej_var (pv 3)
              · refine bj_cons ?_ ?_
                · refine sj_name (i := 2) sc_fold_up.nd rfl (by first | exact Or.inl rfl | exact Or.inr rfl) ?_
                  refine ej_fn D_without (hr.mono (by decide)) (by rfl) passM ?_
                  refine aj_consE ?_ ?_
                  · exact ej_var (pv 2)
                  · refine aj_consE ?_ ?_
                    · refine ej_ix (ka := .e) (kb := .e) ?_ ?_ (fun _ _ => rfl)
                      · exact ej_var (pv 3)
                      · exact ej_int
                    · exact aj_nil
                · refine bj_one ?_
                  refine sj_name (i := 3) sc_fold_up.nd rfl (by first | exact Or.inl rfl | exact Or.inr rfl) ?_
                  refine ej_fn D_least_fold (hr.mono (by decide)) (by rfl) passM ?_
                  refine aj_consE ?_ ?_
                  · exact ej_var (pv 0)
                  · refine aj_consE ?_ ?_
                    · exact ej_var (pv 2)
                    · exact aj_nil
          · refine bj_one ?_
            refine sj_frz (i := 1) ?_
            refine sj_ret ?_
            refine ej_makeK K_Folding_2 (hr.mono (by decide)) (by rfl) passM ?_ ?_
            · refine aj_consE ?_ ?_
              · exact ej_var (pv 0)
              · refine aj_consE ?_ ?_
                · exact ej_var (pv 1)
                · exact aj_nil
            · exact kj_nil
abbrev N_law_refused_k33 : List Str := ["web", "told", "e"]
theorem sc_law_refused_k33 : FnScope N_law_refused_k33 ["web"] (defScope s_law_refused_k33) := ⟨rfl, rfl, rfl, by decide +kernel, rfl, by decide +kernel, by decide +kernel⟩
theorem d_law_refused_k33 {P : Program} {w : World} {K : PySem.W.Frag} {mg : Str → Option Value} {base : Heap} {C_Folding : Addr} {C_Web : Addr} {C_BadFold : Addr} {C_BadNumber : Addr} {C_BadWeb : Addr} {C_NotPlain : Addr} {C_TagError : Addr} {C_UnknownPlace : Addr} (T : Txt K mg C_Folding C_Web C_BadFold C_BadNumber C_BadWeb C_NotPlain C_TagError C_UnknownPlace) (D_law_same : Def P w K mg base "_law_same" 2 14 wf_law_same) (D_fold_up : Def P w K mg base "fold_up" 1 9 (wf_fold_up C_Folding C_Web C_NotPlain)) {f : Addr} {cdv : Value} {A : Around} {outer : List Env} {s : Shared} {H : Hp} {E : XK}
    (hr : Room 14 (A.deeper (envOfC "_law_refused" (defScope s_law_refused_k33) s.heap.objs.size f cdv))) :
    BJ E (cxOf (L2.CX P w) P w K mg base N_law_refused_k33 "_law_refused" (defScope s_law_refused_k33) f cdv A outer s H E) (defBody s_law_refused_k33) (b_law_refused_k33 C_Folding C_Web C_NotPlain) := by
  refine bj_cons ?_ ?_
  · refine sj_name (i := 1) sc_law_refused_k33.nd rfl (by first | exact Or.inl rfl | exact Or.inr rfl) ?_
    refine ej_tup ?_
    refine aj_consE ?_ ?_
    · exact ej_str
    · exact aj_nil
  · refine bj_cons ?_ ?_
    · refine sj_tryE (i := 2) (n := "e") (c := .ref C_NotPlain) rfl rfl sc_law_refused_k33.nd rfl rfl (by exact ⟨rfl, by decide, .inl T.r_NotPlain⟩) ?_ (fun C h => h ▸ T.x_NotPlain_NotPlain) (by exact fun _ _ _ h => ps_expr h) ?_
      · refine ex_call D_fold_up (hr.mono (by decide)) (by rfl) ?_
        refine fun _ _ => ?_
        refine aj_consE ?_ ?_
        · exact ej_var (pv 0)
        · exact aj_nil
      · refine fun a oe cls d pn hz hf => ?_
        refine bj_one ?_
        refine sj_name (i := 1) sc_law_refused_k33.nd rfl (by first | exact Or.inl rfl | exact Or.inr rfl) ?_
        refine ej_tup ?_
        refine aj_consE ?_ ?_
        · exact ej_str
        · refine aj_consE ?_ ?_
          · exact ej_isX (i := 2) T.ec_NotPlain hz hf (pv 2) (pe_glob (v := .ref C_TagError) (by rfl) T.r_TagError (by exact rfl)) (.own _) T.ki_NotPlain_TagError (by rfl) T.b_isinstance
          · exact aj_nil
    · refine bj_one ?_
      refine sj_ret ?_
      refine ej_fn D_law_same (hr.mono (by decide)) (by rfl) passM ?_
      refine aj_consE ?_ ?_
      · exact ej_var (pv 1)
      · refine aj_consE ?_ ?_
        · refine ej_tup ?_
          refine aj_consE ?_ ?_
          · exact ej_str
          · refine aj_consE ?_ ?_
            · exact ej_bl
            · exact aj_nil
        · exact aj_nil
abbrev N_law_names : List Str := ["pool", "at", "count", "letters", "extra", "fill", "spot", "stride", "shift", "names", "k", "letter"]
theorem sc_law_names : FnScope N_law_names ["pool", "at", "count"] (defScope s_law_names) := ⟨rfl, rfl, rfl, by decide +kernel, rfl, by decide +kernel, by decide +kernel⟩
theorem d_law_names {P : Program} {w : World} {K : PySem.W.Frag} {mg : Str → Option Value} {base : Heap} {C_Folding : Addr} {C_Web : Addr} {C_BadFold : Addr} {C_BadNumber : Addr} {C_BadWeb : Addr} {C_NotPlain : Addr} {C_TagError : Addr} {C_UnknownPlace : Addr} (T : Txt K mg C_Folding C_Web C_BadFold C_BadNumber C_BadWeb C_NotPlain C_TagError C_UnknownPlace)  {f : Addr} {cdv : Value} {A : Around} {outer : List Env} {s : Shared} {H : Hp} {E : XK}
    (hr : Room 0 (A.deeper (envOfC "_law_names" (defScope s_law_names) s.heap.objs.size f cdv))) :
    BJ E (cxOf (L2.CX P w) P w K mg base N_law_names "_law_names" (defScope s_law_names) f cdv A outer s H E) (defBody s_law_names) b_law_names := by
  refine bj_cons ?_ ?_
  · refine sj_name (i := 3) sc_law_names.nd rfl (by first | exact Or.inl rfl | exact Or.inr rfl) ?_
    exact ej_str
  · refine bj_cons ?_ ?_
    · refine sj_name (i := 4) sc_law_names.nd rfl (by first | exact Or.inl rfl | exact Or.inr rfl) ?_
      exact ej_int
    · refine bj_cons ?_ ?_
      · refine sj_if ?_ ?_ ?_
        · refine tj_eq (ka := .e) (kb := .e) hr.units ?_ ?_
          · refine ej_mod (ka := .e) (kb := .e) ?_ ?_
            · refine ej_div (ka := .e) (kb := .e) ?_ ?_
              · refine ej_int1 (k := .e) (by rfl) T.b_int ?_
                refine ej_ix (ka := .e) (kb := .e) ?_ ?_ (fun _ _ => rfl)
                · exact ej_var (pv 0)
                · exact ej_var (pv 1)
              · exact ej_int
            · exact ej_int
          · exact ej_int
        · refine bj_one ?_
          refine sj_name (i := 4) sc_law_names.nd rfl (by first | exact Or.inl rfl | exact Or.inr rfl) ?_
          refine ej_mod (ka := .e) (kb := .e) ?_ ?_
          · refine ej_int1 (k := .e) (by rfl) T.b_int ?_
            refine ej_ix (ka := .e) (kb := .e) ?_ ?_ (fun _ _ => rfl)
            · exact ej_var (pv 0)
            · exact ej_var (pv 1)
          · exact ej_int
        · exact bj_nil
      · refine bj_cons ?_ ?_
        · refine sj_name (i := 5) sc_law_names.nd rfl (by first | exact Or.inl rfl | exact Or.inr rfl) ?_
          refine ej_ix (ka := .e) (kb := .e) ?_ ?_ (fun _ _ => rfl)
          · exact ej_var (pv 3)
          · refine ej_mod (ka := .e) (kb := .e) ?_ ?_
            · refine ej_int1 (k := .e) (by rfl) T.b_int ?_
              refine ej_ix (ka := .e) (kb := .e) ?_ ?_ (fun _ _ => rfl)
              · exact ej_var (pv 0)
              · refine ej_plus (ka := .e) (kb := .e) ?_ ?_
                · exact ej_var (pv 1)
                · exact ej_int
            · exact ej_int
        · refine bj_cons ?_ ?_
          · refine sj_name (i := 6) sc_law_names.nd rfl (by first | exact Or.inl rfl | exact Or.inr rfl) ?_
            refine ej_mod (ka := .e) (kb := .e) ?_ ?_
            · refine ej_div (ka := .e) (kb := .e) ?_ ?_
              · refine ej_int1 (k := .e) (by rfl) T.b_int ?_
                refine ej_ix (ka := .e) (kb := .e) ?_ ?_ (fun _ _ => rfl)
                · exact ej_var (pv 0)
                · refine ej_plus (ka := .e) (kb := .e) ?_ ?_
                  · exact ej_var (pv 1)
                  · exact ej_int
              · exact ej_int
            · refine ej_plus (ka := .e) (kb := .e) ?_ ?_
              · exact ej_var (pv 4)
              · exact ej_int
          · refine bj_cons ?_ ?_
            · refine sj_name (i := 7) sc_law_names.nd rfl (by first | exact Or.inl rfl | exact Or.inr rfl) ?_
              refine ej_plus (ka := .e) (kb := .e) ?_ ?_
              · exact ej_int
              · refine ej_mod (ka := .e) (kb := .e) ?_ ?_
                · refine ej_int1 (k := .e) (by rfl) T.b_int ?_
                  refine ej_ix (ka := .e) (kb := .e) ?_ ?_ (fun _ _ => rfl)
                  · exact ej_var (pv 0)
                  · refine ej_plus (ka := .e) (kb := .e) ?_ ?_
                    · exact ej_var (pv 1)
                    · exact ej_int
                · exact ej_int
            · refine bj_cons ?_ ?_
              · refine sj_name (i := 8) sc_law_names.nd rfl (by first | exact Or.inl rfl | exact Or.inr rfl) ?_
                refine ej_mod (ka := .e) (kb := .e) ?_ ?_
                · refine ej_div (ka := .e) (kb := .e) ?_ ?_
                  · refine ej_int1 (k := .e) (by rfl) T.b_int ?_
                    refine ej_ix (ka := .e) (kb := .e) ?_ ?_ (fun _ _ => rfl)
                    · exact ej_var (pv 0)
                    · refine ej_plus (ka := .e) (kb := .e) ?_ ?_
                      · exact ej_var (pv 1)
                      · exact ej_int
                  · exact ej_int
                · exact ej_int
              · refine bj_cons ?_ ?_
                · refine sj_nameO (i := 9) sc_law_names.nd rfl (by first | exact Or.inl rfl | exact Or.inr rfl) ?_
                  refine ej_lst ?_
                  exact aj_nil
                · refine bj_cons ?_ ?_
                  · refine sj_for (tgs := [10]) (passes_of rfl) rfl ?_ ?_ ?_
                    · refine ij_rng1 (ka := .e) ?_ (by rfl) T.b_range
                      exact ej_var (pv 2)
                    · exact gj_name (pg_name (i := 10) sc_law_names.nd rfl (by first | exact Or.inl rfl | exact Or.inr rfl))
                    · refine bj_cons ?_ ?_
                      · refine sj_name (i := 11) sc_law_names.nd rfl (by first | exact Or.inl rfl | exact Or.inr rfl) ?_
                        refine ej_ix (ka := .e) (kb := .e) ?_ ?_ (fun _ _ => rfl)
                        · exact ej_var (pv 3)
                        · refine ej_mod (ka := .e) (kb := .e) ?_ ?_
                          · refine ej_plus (ka := .e) (kb := .e) ?_ ?_
                            · refine ej_mul (ka := .e) (kb := .e) ?_ ?_
                              · exact ej_var (pv 10)
                              · exact ej_var (pv 7)
                            · exact ej_var (pv 8)
                          · exact ej_int
                      · refine bj_one ?_
                        refine sj_append (pv 9) ?_
                        refine ej_plus (ka := .e) (kb := .e) ?_ ?_
                        · refine ej_plus (ka := .e) (kb := .e) ?_ ?_
                          · refine ej_mul (ka := .e) (kb := .e) ?_ ?_
                            · exact ej_var (pv 5)
                            · exact ej_var (pv 6)
                          · exact ej_var (pv 11)
                        · refine ej_mul (ka := .e) (kb := .e) ?_ ?_
                          · exact ej_var (pv 5)
                          · refine ej_sub (ka := .e) (kb := .e) ?_ ?_
                            · exact ej_var (pv 4)
                            · exact ej_var (pv 6)
                  · refine bj_one ?_
                    exact sj_retO (pv 9)
abbrev N_law_table : List Str := ["names", "ties", "cycle", "table", "beat", "row", "u", "nexts", "first", "second", "way", "when"]
theorem sc_law_table : FnScope N_law_table ["names", "ties", "cycle"] (defScope s_law_table) := ⟨rfl, rfl, rfl, by decide +kernel, rfl, by decide +kernel, by decide +kernel⟩
theorem d_law_table {P : Program} {w : World} {K : PySem.W.Frag} {mg : Str → Option Value} {base : Heap} {C_Folding : Addr} {C_Web : Addr} {C_BadFold : Addr} {C_BadNumber : Addr} {C_BadWeb : Addr} {C_NotPlain : Addr} {C_TagError : Addr} {C_UnknownPlace : Addr} (T : Txt K mg C_Folding C_Web C_BadFold C_BadNumber C_BadWeb C_NotPlain C_TagError C_UnknownPlace)  {f : Addr} {cdv : Value} {A : Around} {outer : List Env} {s : Shared} {H : Hp} {E : XK}
    (hr : Room 0 (A.deeper (envOfC "_law_table" (defScope s_law_table) s.heap.objs.size f cdv))) :
    BJ E (cxOf (L2.CX P w) P w K mg base N_law_table "_law_table" (defScope s_law_table) f cdv A outer s H E) (defBody s_law_table) b_law_table := by
  refine bj_cons ?_ ?_
  · refine sj_nameO (i := 3) sc_law_table.nd rfl (by first | exact Or.inl rfl | exact Or.inr rfl) ?_
    refine ej_lst ?_
    exact aj_nil
  · refine bj_cons ?_ ?_
    · refine sj_for (tgs := [4]) (passes_of rfl) rfl ?_ ?_ ?_
      · refine ij_rng1 (ka := .e) ?_ (by rfl) T.b_range
        exact ej_var (pv 2)
      · exact gj_name (pg_name (i := 4) sc_law_table.nd rfl (by first | exact Or.inl rfl | exact Or.inr rfl))
      · refine bj_cons ?_ ?_
        · refine sj_nameO (i := 5) sc_law_table.nd rfl (by first | exact Or.inl rfl | exact Or.inr rfl) ?_
          refine ej_lst ?_
          exact aj_nil
        · refine bj_cons ?_ ?_
          · refine sj_for (tgs := [6]) (passes_of rfl) rfl ?_ ?_ ?_
            · refine ij_rng1 (ka := .e) ?_ (by rfl) T.b_range
              refine ej_len (k := .e) (by rfl) T.b_len ?_
              exact ej_var (pv 0)
            · exact gj_name (pg_name (i := 6) sc_law_table.nd rfl (by first | exact Or.inl rfl | exact Or.inr rfl))
            · refine bj_cons ?_ ?_
              · refine sj_nameO (i := 7) sc_law_table.nd rfl (by first | exact Or.inl rfl | exact Or.inr rfl) ?_
                refine ej_lst ?_
                exact aj_nil
              · refine bj_cons ?_ ?_
                · refine sj_for (tgs := [8, 9, 10, 11]) (passes_of rfl) rfl ?_ ?_ ?_
                  · refine ij_seq ?_
                    exact ej_var (pv 1)
                  · refine gj_tup (n := 4) rfl ?_
                    refine gsj_name ?_ ?_
                    · exact gj_name (pg_name (i := 8) sc_law_table.nd rfl (by first | exact Or.inl rfl | exact Or.inr rfl))
                    · refine gsj_name ?_ ?_
                      · exact gj_name (pg_name (i := 9) sc_law_table.nd rfl (by first | exact Or.inl rfl | exact Or.inr rfl))
                      · refine gsj_name ?_ ?_
                        · exact gj_name (pg_name (i := 10) sc_law_table.nd rfl (by first | exact Or.inl rfl | exact Or.inr rfl))
                        · refine gsj_name ?_ ?_
                          · exact gj_name (pg_name (i := 11) sc_law_table.nd rfl (by first | exact Or.inl rfl | exact Or.inr rfl))
                          · exact gsj_nil
                  · refine bj_cons ?_ ?_
                    · refine sj_if ?_ ?_ ?_
                      · refine tj_tw ?_
                        refine twj_and ?_ ?_
                        · refine tj_in (ka := .e) (kb := .e) (units65 hr) ?_ ?_
                          · exact ej_var (pv 4)
                          · exact ej_var (pv 11)
                        · refine twj_and1 ?_
                          refine tj_eq (ka := .e) (kb := .e) hr.units ?_ ?_
                          · exact ej_var (pv 8)
                          · refine ej_ix (ka := .e) (kb := .e) ?_ ?_ (fun _ _ => rfl)
                            · exact ej_var (pv 0)
                            · exact ej_var (pv 6)
                      · refine bj_one ?_
                        refine sj_append (pv 7) ?_
                        refine ej_idx (k := .e) (units65 hr) ?_ ?_
                        · exact ej_var (pv 0)
                        · exact ej_var (pv 9)
                      · exact bj_nil
                    · refine bj_one ?_
                      refine sj_if ?_ ?_ ?_
                      · refine tj_tw ?_
                        refine twj_and ?_ ?_
                        · refine tj_in (ka := .e) (kb := .e) (units65 hr) ?_ ?_
                          · exact ej_var (pv 4)
                          · exact ej_var (pv 11)
                        · refine twj_and ?_ ?_
                          · refine tj_eq (ka := .e) (kb := .e) hr.units ?_ ?_
                            · exact ej_var (pv 9)
                            · refine ej_ix (ka := .e) (kb := .e) ?_ ?_ (fun _ _ => rfl)
                              · exact ej_var (pv 0)
                              · exact ej_var (pv 6)
                          · refine twj_and1 ?_
                            refine tj_eq (ka := .e) (kb := .e) hr.units ?_ ?_
                            · exact ej_var (pv 10)
                            · exact ej_str
                      · refine bj_one ?_
                        refine sj_append (pv 7) ?_
                        refine ej_idx (k := .e) (units65 hr) ?_ ?_
                        · exact ej_var (pv 0)
                        · exact ej_var (pv 8)
                      · exact bj_nil
                · refine bj_one ?_
                  refine sj_append (pv 5) ?_
                  refine ej_toE ?_
                  refine ej_sortSet (k := .o) ?_ rfl (by rfl) T.b_sorted (by rfl) T.b_set
                  exact ej_peek (pv 7)
          · refine bj_one ?_
            refine sj_frz (i := 5) ?_
            refine sj_append (pv 3) ?_
            exact ej_var (pv 5)
    · refine bj_one ?_
      exact sj_retO (pv 3)
abbrev N_law_way_ties : List Str := ["pool", "at", "names", "cycle", "kind", "powers", "ties", "u", "v", "digit", "ways", "way", "first", "second", "word", "when", "beat"]
theorem sc_law_way_ties : FnScope N_law_way_ties ["pool", "at", "names", "cycle", "kind"] (defScope s_law_way_ties) := ⟨rfl, rfl, rfl, by decide +kernel, rfl, by decide +kernel, by decide +kernel⟩
theorem d_law_way_ties {P : Program} {w : World} {K : PySem.W.Frag} {mg : Str → Option Value} {base : Heap} {C_Folding : Addr} {C_Web : Addr} {C_BadFold : Addr} {C_BadNumber : Addr} {C_BadWeb : Addr} {C_NotPlain : Addr} {C_TagError : Addr} {C_UnknownPlace : Addr} (T : Txt K mg C_Folding C_Web C_BadFold C_BadNumber C_BadWeb C_NotPlain C_TagError C_UnknownPlace)  {f : Addr} {cdv : Value} {A : Around} {outer : List Env} {s : Shared} {H : Hp} {E : XK}
    (hr : Room 0 (A.deeper (envOfC "_law_way_ties" (defScope s_law_way_ties) s.heap.objs.size f cdv))) :
    BJ E (cxOf (L2.CX P w) P w K mg base N_law_way_ties "_law_way_ties" (defScope s_law_way_ties) f cdv A outer s H E) (defBody s_law_way_ties) b_law_way_ties := by
  refine bj_cons ?_ ?_
  · refine sj_name (i := 5) sc_law_way_ties.nd rfl (by first | exact Or.inl rfl | exact Or.inr rfl) ?_
    refine ej_toE ?_
    refine ej_lst ?_
    refine aj_consE ?_ ?_
    · exact ej_int
    · refine aj_consE ?_ ?_
      · exact ej_int
      · refine aj_consE ?_ ?_
        · exact ej_int
        · refine aj_consE ?_ ?_
          · exact ej_int
          · exact aj_nil
  · refine bj_cons ?_ ?_
    · refine sj_nameO (i := 6) sc_law_way_ties.nd rfl (by first | exact Or.inl rfl | exact Or.inr rfl) ?_
      refine ej_lst ?_
      exact aj_nil
    · refine bj_cons ?_ ?_
      · refine sj_for (tgs := [7]) (passes_of rfl) rfl ?_ ?_ ?_
        · refine ij_rng1 (ka := .e) ?_ (by rfl) T.b_range
          refine ej_len (k := .e) (by rfl) T.b_len ?_
          exact ej_var (pv 2)
        · exact gj_name (pg_name (i := 7) sc_law_way_ties.nd rfl (by first | exact Or.inl rfl | exact Or.inr rfl))
        · refine bj_one ?_
          refine sj_for (tgs := [8]) (passes_of rfl) rfl ?_ ?_ ?_
          · refine ij_rng1 (ka := .e) ?_ (by rfl) T.b_range
            exact ej_var (pv 7)
          · exact gj_name (pg_name (i := 8) sc_law_way_ties.nd rfl (by first | exact Or.inl rfl | exact Or.inr rfl))
          · refine bj_cons ?_ ?_
            · refine sj_name (i := 9) sc_law_way_ties.nd rfl (by first | exact Or.inl rfl | exact Or.inr rfl) ?_
              refine ej_int1 (k := .e) (by rfl) T.b_int ?_
              refine ej_ix (ka := .e) (kb := .e) ?_ ?_ (fun _ _ => rfl)
              · exact ej_var (pv 0)
              · refine ej_plus (ka := .e) (kb := .e) ?_ ?_
                · refine ej_plus (ka := .e) (kb := .e) ?_ ?_
                  · exact ej_var (pv 1)
                  · refine ej_div (ka := .e) (kb := .e) ?_ ?_
                    · refine ej_mul (ka := .e) (kb := .e) ?_ ?_
                      · exact ej_var (pv 7)
                      · refine ej_sub (ka := .e) (kb := .e) ?_ ?_
                        · exact ej_var (pv 7)
                        · exact ej_int
                    · exact ej_int
                · exact ej_var (pv 8)
            · refine bj_cons ?_ ?_
              · refine sj_name (i := 10) sc_law_way_ties.nd rfl (by first | exact Or.inl rfl | exact Or.inr rfl) ?_
                refine ej_toE ?_
                refine ej_comp (own := [("beat", 16)]) (tgs := [16]) rfl sc_law_way_ties.nd (blkOk_by (by rfl)) ?_ (by decide) ?_ ?_ ?_
                · refine ij_rng1 (ka := .e) ?_ (by rfl) T.b_range
                  exact ej_var (pv 3)
                · refine fun _ _ _ _ _ => ?_
                  exact gj_name (pg_name (i := 16) sc_law_way_ties.nd rfl (by first | exact Or.inl rfl | exact Or.inr rfl))
                · refine fun _ _ _ _ _ => ?_
                  exact tsj_nil
                · refine fun _ _ _ _ _ => ?_
                  refine ej_mul (ka := .e) (kb := .e) ?_ ?_
                  · exact ej_int
                  · refine ej_mod (ka := .e) (kb := .e) ?_ ?_
                    · exact ej_var (pv 9)
                    · exact ej_int
              · refine bj_cons ?_ ?_
                · refine sj_if ?_ ?_ ?_
                  · refine tj_eq (ka := .e) (kb := .e) hr.units ?_ ?_
                    · exact ej_var (pv 4)
                    · exact ej_int
                  · refine bj_one ?_
                    refine sj_name (i := 10) sc_law_way_ties.nd rfl (by first | exact Or.inl rfl | exact Or.inr rfl) ?_
                    refine ej_toE ?_
                    refine ej_comp (own := [("beat", 16)]) (tgs := [16]) rfl sc_law_way_ties.nd (blkOk_by (by rfl)) ?_ (by decide) ?_ ?_ ?_
                    · refine ij_rng1 (ka := .e) ?_ (by rfl) T.b_range
                      exact ej_var (pv 3)
                    · refine fun _ _ _ _ _ => ?_
                      exact gj_name (pg_name (i := 16) sc_law_way_ties.nd rfl (by first | exact Or.inl rfl | exact Or.inr rfl))
                    · refine fun _ _ _ _ _ => ?_
                      exact tsj_nil
                    · refine fun _ _ _ _ _ => ?_
                      refine ej_mod (ka := .e) (kb := .e) ?_ ?_
                      · exact ej_var (pv 9)
                      · exact ej_int
                  · exact bj_nil
                · refine bj_cons ?_ ?_
                  · refine sj_if ?_ ?_ ?_
                    · refine tj_eq (ka := .e) (kb := .e) hr.units ?_ ?_
                      · exact ej_var (pv 4)
                      · exact ej_int
                    · refine bj_one ?_
                      refine sj_name (i := 10) sc_law_way_ties.nd rfl (by first | exact Or.inl rfl | exact Or.inr rfl) ?_
                      refine ej_toE ?_
                      refine ej_comp (own := [("beat", 16)]) (tgs := [16]) rfl sc_law_way_ties.nd (blkOk_by (by rfl)) ?_ (by decide) ?_ ?_ ?_
                      · refine ij_rng1 (ka := .e) ?_ (by rfl) T.b_range
                        exact ej_var (pv 3)
                      · refine fun _ _ _ _ _ => ?_
                        exact gj_name (pg_name (i := 16) sc_law_way_ties.nd rfl (by first | exact Or.inl rfl | exact Or.inr rfl))
                      · refine fun _ _ _ _ _ => ?_
                        exact tsj_nil
                      · refine fun _ _ _ _ _ => ?_
                        refine ej_mod (ka := .e) (kb := .e) ?_ ?_
                        · refine ej_div (ka := .e) (kb := .e) ?_ ?_
                          · exact ej_var (pv 9)
                          · refine ej_ix (ka := .e) (kb := .e) ?_ ?_ (fun _ _ => rfl)
                            · exact ej_var (pv 5)
                            · exact ej_var (pv 16)
                        · exact ej_int
                    · exact bj_nil
                  · refine bj_one ?_
                    refine sj_for (tgs := [11, 12, 13, 14]) (passes_of rfl) rfl ?_ ?_ ?_
                    · refine ij_seq ?_
                      refine ej_toE ?_
                      refine ej_lst ?_
                      refine aj_consE ?_ ?_
                      · refine ej_tup ?_
                        refine aj_consE ?_ ?_
                        · exact ej_int
                        · refine aj_consE ?_ ?_
                          · exact ej_var (pv 8)
                          · refine aj_consE ?_ ?_
                            · exact ej_var (pv 7)
                            · refine aj_consE ?_ ?_
                              · exact ej_str
                              · exact aj_nil
                      · refine aj_consE ?_ ?_
                        · refine ej_tup ?_
                          refine aj_consE ?_ ?_
                          · exact ej_int
                          · refine aj_consE ?_ ?_
                            · exact ej_var (pv 8)
                            · refine aj_consE ?_ ?_
                              · exact ej_var (pv 7)
                              · refine aj_consE ?_ ?_
                                · exact ej_str
                                · exact aj_nil
                        · refine aj_consE ?_ ?_
                          · refine ej_tup ?_
                            refine aj_consE ?_ ?_
                            · exact ej_int
                            · refine aj_consE ?_ ?_
                              · exact ej_var (pv 7)
                              · refine aj_consE ?_ ?_
                                · exact ej_var (pv 8)
                                · refine aj_consE ?_ ?_
                                  · exact ej_str
                                  · exact aj_nil
                          · exact aj_nil
                    · refine gj_tup (n := 4) rfl ?_
                      refine gsj_name ?_ ?_
                      · exact gj_name (pg_name (i := 11) sc_law_way_ties.nd rfl (by first | exact Or.inl rfl | exact Or.inr rfl))
                      · refine gsj_name ?_ ?_
                        · exact gj_name (pg_name (i := 12) sc_law_way_ties.nd rfl (by first | exact Or.inl rfl | exact Or.inr rfl))
                        · refine gsj_name ?_ ?_
                          · exact gj_name (pg_name (i := 13) sc_law_way_ties.nd rfl (by first | exact Or.inl rfl | exact Or.inr rfl))
                          · refine gsj_name ?_ ?_
                            · exact gj_name (pg_name (i := 14) sc_law_way_ties.nd rfl (by first | exact Or.inl rfl | exact Or.inr rfl))
                            · exact gsj_nil
                    · refine bj_cons ?_ ?_
                      · refine sj_name (i := 15) sc_law_way_ties.nd rfl (by first | exact Or.inl rfl | exact Or.inr rfl) ?_
                        refine ej_tuple1 (k := .f) (by rfl) T.b_tuple ?_
                        refine ej_comp (own := [("beat", 16)]) (tgs := [16]) rfl sc_law_way_ties.nd (blkOk_by (by rfl)) ?_ (by decide) ?_ ?_ ?_
                        · refine ij_rng1 (ka := .e) ?_ (by rfl) T.b_range
                          exact ej_var (pv 3)
                        · refine fun _ _ _ _ _ => ?_
                          exact gj_name (pg_name (i := 16) sc_law_way_ties.nd rfl (by first | exact Or.inl rfl | exact Or.inr rfl))
                        · refine fun _ _ _ _ _ => ?_
                          refine tsj_one ?_
                          refine tj_eq (ka := .e) (kb := .e) hr.units ?_ ?_
                          · refine ej_ix (ka := .e) (kb := .e) ?_ ?_ (fun _ _ => rfl)
                            · exact ej_var (pv 10)
                            · exact ej_var (pv 16)
                          · exact ej_var (pv 11)
                        · refine fun _ _ _ _ _ => ?_
                          exact ej_var (pv 16)
                      · refine bj_one ?_
                        refine sj_if ?_ ?_ ?_
                        · refine tj_ne (ka := .e) (kb := .e) hr.units ?_ ?_
                          · exact ej_var (pv 15)
                          · refine ej_tup ?_
                            exact aj_nil
                        · refine bj_one ?_
                          refine sj_append (pv 6) ?_
                          refine ej_tup ?_
                          refine aj_consE ?_ ?_
                          · refine ej_ix (ka := .e) (kb := .e) ?_ ?_ (fun _ _ => rfl)
                            · exact ej_var (pv 2)
                            · exact ej_var (pv 12)
                          · refine aj_consE ?_ ?_
                            · refine ej_ix (ka := .e) (kb := .e) ?_ ?_ (fun _ _ => rfl)
                              · exact ej_var (pv 2)
                              · exact ej_var (pv 13)
                            · refine aj_consE ?_ ?_
                              · exact ej_var (pv 14)
                              · refine aj_consE ?_ ?_
                                · exact ej_var (pv 15)
                                · exact aj_nil
                        · exact bj_nil
      · refine bj_one ?_
        exact sj_retO (pv 6)
abbrev N_law_web_of : List Str := ["pool", "fewest", "greatest", "kinds", "longest", "count", "kind", "cycle", "names", "ties"]
theorem sc_law_web_of : FnScope N_law_web_of ["pool", "fewest", "greatest", "kinds", "longest"] (defScope s_law_web_of) := ⟨rfl, rfl, rfl, by decide +kernel, rfl, by decide +kernel, by decide +kernel⟩
theorem d_law_web_of {P : Program} {w : World} {K : PySem.W.Frag} {mg : Str → Option Value} {base : Heap} {C_Folding : Addr} {C_Web : Addr} {C_BadFold : Addr} {C_BadNumber : Addr} {C_BadWeb : Addr} {C_NotPlain : Addr} {C_TagError : Addr} {C_UnknownPlace : Addr} (T : Txt K mg C_Folding C_Web C_BadFold C_BadNumber C_BadWeb C_NotPlain C_TagError C_UnknownPlace) (D_law_names : Def P w K mg base "_law_names" 3 1 wf_law_names) (D_law_table : Def P w K mg base "_law_table" 3 1 wf_law_table) (D_law_way_ties : Def P w K mg base "_law_way_ties" 5 1 wf_law_way_ties) {f : Addr} {cdv : Value} {A : Around} {outer : List Env} {s : Shared} {H : Hp} {E : XK}
    (hr : Room 1 (A.deeper (envOfC "_law_web_of" (defScope s_law_web_of) s.heap.objs.size f cdv))) :
    BJ E (cxOf (L2.CX P w) P w K mg base N_law_web_of "_law_web_of" (defScope s_law_web_of) f cdv A outer s H E) (defBody s_law_web_of) b_law_web_of := by
  refine bj_cons ?_ ?_
  · refine sj_name (i := 5) sc_law_web_of.nd rfl (by first | exact Or.inl rfl | exact Or.inr rfl) ?_
    refine ej_plus (ka := .e) (kb := .e) ?_ ?_
    · exact ej_var (pv 1)
    · refine ej_mod (ka := .e) (kb := .e) ?_ ?_
      · refine ej_int1 (k := .e) (by rfl) T.b_int ?_
        refine ej_ix (ka := .e) (kb := .e) ?_ ?_ (fun _ _ => rfl)
        · exact ej_var (pv 0)
        · exact ej_int
      · refine ej_plus (ka := .e) (kb := .e) ?_ ?_
        · refine ej_sub (ka := .e) (kb := .e) ?_ ?_
          · exact ej_var (pv 2)
          · exact ej_var (pv 1)
        · exact ej_int
  · refine bj_cons ?_ ?_
    · refine sj_name (i := 6) sc_law_web_of.nd rfl (by first | exact Or.inl rfl | exact Or.inr rfl) ?_
      refine ej_mod (ka := .e) (kb := .e) ?_ ?_
      · refine ej_int1 (k := .e) (by rfl) T.b_int ?_
        refine ej_ix (ka := .e) (kb := .e) ?_ ?_ (fun _ _ => rfl)
        · exact ej_var (pv 0)
        · exact ej_int
      · exact ej_var (pv 3)
    · refine bj_cons ?_ ?_
      · refine sj_name (i := 7) sc_law_web_of.nd rfl (by first | exact Or.inl rfl | exact Or.inr rfl) ?_
        exact ej_int
      · refine bj_cons ?_ ?_
        · refine sj_if ?_ ?_ ?_
          · refine tj_eq (ka := .e) (kb := .e) hr.units ?_ ?_
            · exact ej_var (pv 6)
            · exact ej_int
          · refine bj_one ?_
            refine sj_name (i := 7) sc_law_web_of.nd rfl (by first | exact Or.inl rfl | exact Or.inr rfl) ?_
            refine ej_plus (ka := .e) (kb := .e) ?_ ?_
            · exact ej_int
            · refine ej_mod (ka := .e) (kb := .e) ?_ ?_
              · refine ej_int1 (k := .e) (by rfl) T.b_int ?_
                refine ej_ix (ka := .e) (kb := .e) ?_ ?_ (fun _ _ => rfl)
                · exact ej_var (pv 0)
                · exact ej_int
              · exact ej_var (pv 4)
          · exact bj_nil
        · refine bj_cons ?_ ?_
          · refine sj_if ?_ ?_ ?_
            · refine tj_tw ?_
              refine twj_and ?_ ?_
              · refine tj_lt (ka := .e) (kb := .e) ?_ ?_
                · exact ej_var (pv 6)
                · exact ej_int
              · refine twj_and1 ?_
                refine tj_eq (ka := .e) (kb := .e) hr.units ?_ ?_
                · refine ej_mod (ka := .e) (kb := .e) ?_ ?_
                  · refine ej_int1 (k := .e) (by rfl) T.b_int ?_
                    refine ej_ix (ka := .e) (kb := .e) ?_ ?_ (fun _ _ => rfl)
                    · exact ej_var (pv 0)
                    · exact ej_int
                  · exact ej_int
                · exact ej_int
            · refine bj_one ?_
              refine sj_name (i := 7) sc_law_web_of.nd rfl (by first | exact Or.inl rfl | exact Or.inr rfl) ?_
              exact ej_int
            · exact bj_nil
          · refine bj_cons ?_ ?_
            · refine sj_name (i := 8) sc_law_web_of.nd rfl (by first | exact Or.inl rfl | exact Or.inr rfl) ?_
              refine ej_fn D_law_names (hr.mono (by decide)) (by rfl) passM ?_
              refine aj_consE ?_ ?_
              · exact ej_var (pv 0)
              · refine aj_consE ?_ ?_
                · exact ej_int
                · refine aj_consE ?_ ?_
                  · exact ej_var (pv 5)
                  · exact aj_nil
            · refine bj_cons ?_ ?_
              · refine sj_name (i := 9) sc_law_web_of.nd rfl (by first | exact Or.inl rfl | exact Or.inr rfl) ?_
                refine ej_fn D_law_way_ties (hr.mono (by decide)) (by rfl) passM ?_
                refine aj_consE ?_ ?_
                · exact ej_var (pv 0)
                · refine aj_consE ?_ ?_
                  · exact ej_int
                  · refine aj_consE ?_ ?_
                    · exact ej_var (pv 8)
                    · refine aj_consE ?_ ?_
                      · exact ej_var (pv 7)
                      · refine aj_consE ?_ ?_
                        · exact ej_var (pv 6)
                        · exact aj_nil
              · refine bj_one ?_
                refine sj_retF ?_
                refine ej_lst ?_
                refine aj_consE ?_ ?_
                · exact ej_var (pv 8)
                · refine aj_consE ?_ ?_
                  · exact ej_var (pv 9)
                  · refine aj_consE ?_ ?_
                    · exact ej_var (pv 7)
                    · refine aj_consE ?_ ?_
                      · refine ej_fn D_law_table (hr.mono (by decide)) (by rfl) passM ?_
                        refine aj_consE ?_ ?_
                        · exact ej_var (pv 8)
                        · refine aj_consE ?_ ?_
                          · exact ej_var (pv 9)
                          · refine aj_consE ?_ ?_
                            · exact ej_var (pv 7)
                            · exact aj_nil
                      · exact aj_nil
abbrev N_Web___eq__ : List Str := ["self", "other"]
theorem sc_Web___eq__ : FnScope N_Web___eq__ ["self", "other"] (defScope s_Web___eq__) := ⟨rfl, rfl, rfl, by decide +kernel, rfl, by decide +kernel, by decide +kernel⟩
theorem d_Web___eq__ {P : Program} {w : World} {K : PySem.W.Frag} {mg : Str → Option Value} {base : Heap} {C_Folding : Addr} {C_Web : Addr} {C_BadFold : Addr} {C_BadNumber : Addr} {C_BadWeb : Addr} {C_NotPlain : Addr} {C_TagError : Addr} {C_UnknownPlace : Addr} (T : Txt K mg C_Folding C_Web C_BadFold C_BadNumber C_BadWeb C_NotPlain C_TagError C_UnknownPlace)  {f : Addr} {cdv : Value} {A : Around} {outer : List Env} {s : Shared} {H : Hp} {E : XK}
    (hr : Room 0 (A.deeper (envOfC "Web.__eq__" (defScope s_Web___eq__) s.heap.objs.size f cdv))) :
    BJ E (cxOf (L2.CX P w) P w K mg base N_Web___eq__ "Web.__eq__" (defScope s_Web___eq__) f cdv A outer s H E) (defBody s_Web___eq__) (b_Web___eq__ C_Web) := by
  refine bj_one ?_
  refine sj_ret ?_
  refine ej_andV ?_ ?_
  · refine ej_isO T.i_Web T.m_Web ?_ (by rfl) T.b_isinstance (by rfl)
    exact ej_var (pv 1)
  · refine ej_andV ?_ ?_
    · refine ej_eq (ka := .e) (kb := .e) hr.units ?_ ?_
      · refine ej_wk ?_
        refine ej_fld (k := .e) T.c_Web T.n_Web_places ?_
        exact ej_var (pv 0)
      · refine ej_wk ?_
        refine ej_fld (k := .e) T.c_Web T.n_Web_places ?_
        exact ej_var (pv 1)
    · refine ej_b1 ?_
      refine ej_eq (ka := .e) (kb := .e) hr.units ?_ ?_
      · refine ej_fld (k := .e) T.c_Web T.n_Web__nexts ?_
        exact ej_var (pv 0)
      · refine ej_fld (k := .e) T.c_Web T.n_Web__nexts ?_
        exact ej_var (pv 1)
abbrev N_Folding___eq__ : List Str := ["self", "other"]
theorem sc_Folding___eq__ : FnScope N_Folding___eq__ ["self", "other"] (defScope s_Folding___eq__) := ⟨rfl, rfl, rfl, by decide +kernel, rfl, by decide +kernel, by decide +kernel⟩
theorem d_Folding___eq__ {P : Program} {w : World} {K : PySem.W.Frag} {mg : Str → Option Value} {base : Heap} {C_Folding : Addr} {C_Web : Addr} {C_BadFold : Addr} {C_BadNumber : Addr} {C_BadWeb : Addr} {C_NotPlain : Addr} {C_TagError : Addr} {C_UnknownPlace : Addr} (T : Txt K mg C_Folding C_Web C_BadFold C_BadNumber C_BadWeb C_NotPlain C_TagError C_UnknownPlace) (M_Web___eq__ : MDef P w K mg base C_Web "__eq__" 2 1 (wf_Web___eq__ C_Web)) {f : Addr} {cdv : Value} {A : Around} {outer : List Env} {s : Shared} {H : Hp} {E : XK}
    (hr : Room 1 (A.deeper (envOfC "Folding.__eq__" (defScope s_Folding___eq__) s.heap.objs.size f cdv))) :
    BJ E (cxOf (L2.CX P w) P w K mg base N_Folding___eq__ "Folding.__eq__" (defScope s_Folding___eq__) f cdv A outer s H E) (defBody s_Folding___eq__) (b_Folding___eq__ C_Folding C_Web) := by
  refine bj_one ?_
  refine sj_ret ?_
  refine ej_andV ?_ ?_
  · refine ej_isO T.i_Folding T.m_Folding ?_ (by rfl) T.b_isinstance (by rfl)
    exact ej_var (pv 1)
  · refine ej_andV ?_ ?_
    · refine ej_eqO M_Web___eq__ (hr.mono (by decide)) passM ?_ ?_
      · refine ej_fld (k := .e) T.c_Folding T.n_Folding_web ?_
        exact ej_var (pv 0)
      · refine ej_fld (k := .e) T.c_Folding T.n_Folding_web ?_
        exact ej_var (pv 1)
    · refine ej_b1 ?_
      refine ej_eq (ka := .e) (kb := .e) hr.units ?_ ?_
      · refine ej_fld (k := .e) T.c_Folding T.n_Folding_folds ?_
        exact ej_var (pv 0)
      · refine ej_fld (k := .e) T.c_Folding T.n_Folding_folds ?_
        exact ej_var (pv 1)
abbrev N_check_part : List Str := ["web", "places", "at"]
theorem sc_check_part : FnScope N_check_part ["web", "places"] (defScope s_check_part) := ⟨rfl, rfl, rfl, by decide +kernel, rfl, by decide +kernel, by decide +kernel⟩
theorem d_check_part {P : Program} {w : World} {K : PySem.W.Frag} {mg : Str → Option Value} {base : Heap} {C_Folding : Addr} {C_Web : Addr} {C_BadFold : Addr} {C_BadNumber : Addr} {C_BadWeb : Addr} {C_NotPlain : Addr} {C_TagError : Addr} {C_UnknownPlace : Addr} (T : Txt K mg C_Folding C_Web C_BadFold C_BadNumber C_BadWeb C_NotPlain C_TagError C_UnknownPlace) (D_check_place : Def P w K mg base "check_place" 2 3 (wf_check_place C_Web C_UnknownPlace)) (R_BadWeb : Err P w K mg base "BadWeb" C_BadWeb ["part", "place"] 1) (R_UnknownPlace : Err P w K mg base "UnknownPlace" C_UnknownPlace ["place"] 1) {f : Addr} {cdv : Value} {A : Around} {outer : List Env} {s : Shared} {H : Hp} {E : XK}
    (hr : Room 3 (A.deeper (envOfC "check_part" (defScope s_check_part) s.heap.objs.size f cdv))) :
    BJ E (cxOf (L2.CX P w) P w K mg base N_check_part "check_part" (defScope s_check_part) f cdv A outer s H E) (defBody s_check_part) (b_check_part C_Web C_BadWeb C_UnknownPlace) := by
  refine bj_cons ?_ ?_
  · refine sj_if ?_ ?_ ?_
    · refine tj_eq (ka := .e) (kb := .e) hr.units ?_ ?_
      · refine ej_len (k := .e) (by rfl) T.b_len ?_
        refine ej_wk ?_
        exact ej_var (pv 1)
      · exact ej_int
    · refine bj_one ?_
      refine sj_raiseE R_BadWeb (hr.mono (by decide)) (takes_of rfl rfl rfl rfl) ?_
      refine aj_consE ?_ ?_
      · exact ej_str
      · refine aj_consE ?_ ?_
        · exact ej_int
        · exact aj_nil
    · exact bj_nil
  · refine bj_one ?_
    refine sj_for (tgs := [2]) (passes_of rfl) rfl ?_ ?_ ?_
    · refine ij_rng1 (ka := .e) ?_ (by rfl) T.b_range
      refine ej_len (k := .e) (by rfl) T.b_len ?_
      refine ej_wk ?_
      exact ej_var (pv 1)
    · exact gj_name (pg_name (i := 2) sc_check_part.nd rfl (by first | exact Or.inl rfl | exact Or.inr rfl))
    · refine bj_cons ?_ ?_
      · refine sj_expr (k := .e) ?_
        refine ej_fn D_check_place (hr.mono (by decide)) (by rfl) passM ?_
        refine aj_consE ?_ ?_
        · exact ej_var (pv 0)
        · refine aj_consE ?_ ?_
          · refine ej_ix (ka := .e) (kb := .e) ?_ ?_ (fun _ _ => rfl)
            · refine ej_wk ?_
              exact ej_var (pv 1)
            · exact ej_var (pv 2)
          · exact aj_nil
      · refine bj_one ?_
        refine sj_if ?_ ?_ ?_
        · refine tj_in (ka := .e) (kb := .e) (units65 hr) ?_ ?_
          · refine ej_ix (ka := .e) (kb := .e) ?_ ?_ (fun _ _ => rfl)
            · refine ej_wk ?_
              exact ej_var (pv 1)
            · exact ej_var (pv 2)
          · refine ej_slice (ka := .e) ?_ ?_ ?_
            · refine ej_wk ?_
              exact ej_var (pv 1)
            · exact oj_none
            · refine oj_some (k := .e) ?_
              exact ej_var (pv 2)
        · refine bj_one ?_
          refine sj_raiseE R_UnknownPlace (hr.mono (by decide)) (takes_of rfl rfl rfl rfl) ?_
          refine aj_consE ?_ ?_
          · refine ej_ix (ka := .e) (kb := .e) ?_ ?_ (fun _ _ => rfl)
            · refine ej_wk ?_
              exact ej_var (pv 1)
            · exact ej_var (pv 2)
          · exact aj_nil
        · exact bj_nil
abbrev N_restricted_nexts : List Str := ["row", "places", "count", "u", "v"]
theorem sc_restricted_nexts : FnScope N_restricted_nexts ["row", "places"] (defScope s_restricted_nexts) := ⟨rfl, rfl, rfl, by decide +kernel, rfl, by decide +kernel, by decide +kernel⟩
theorem d_restricted_nexts {P : Program} {w : World} {K : PySem.W.Frag} {mg : Str → Option Value} {base : Heap} {C_Folding : Addr} {C_Web : Addr} {C_BadFold : Addr} {C_BadNumber : Addr} {C_BadWeb : Addr} {C_NotPlain : Addr} {C_TagError : Addr} {C_UnknownPlace : Addr} (T : Txt K mg C_Folding C_Web C_BadFold C_BadNumber C_BadWeb C_NotPlain C_TagError C_UnknownPlace)  {f : Addr} {cdv : Value} {A : Around} {outer : List Env} {s : Shared} {H : Hp} {E : XK}
    (hr : Room 0 (A.deeper (envOfC "restricted_nexts" (defScope s_restricted_nexts) s.heap.objs.size f cdv))) :
    BJ E (cxOf (L2.CX P w) P w K mg base N_restricted_nexts "restricted_nexts" (defScope s_restricted_nexts) f cdv A outer s H E) (defBody s_restricted_nexts) b_restricted_nexts := by
  refine bj_cons ?_ ?_
  · refine sj_name (i := 2) sc_restricted_nexts.nd rfl (by first | exact Or.inl rfl | exact Or.inr rfl) ?_
    refine ej_len (k := .e) (by rfl) T.b_len ?_
    refine ej_wk ?_
    exact ej_var (pv 1)
  · refine bj_one ?_
    refine sj_retF ?_
    refine ej_comp (own := [("u", 3)]) (tgs := [3]) rfl sc_restricted_nexts.nd (blkOk_by (by rfl)) ?_ (by decide) ?_ ?_ ?_
    · refine ij_rng1 (ka := .e) ?_ (by rfl) T.b_range
      exact ej_var (pv 2)
    · refine fun _ _ _ _ _ => ?_
      exact gj_name (pg_name (i := 3) sc_restricted_nexts.nd rfl (by first | exact Or.inl rfl | exact Or.inr rfl))
    · refine fun _ _ _ _ _ => ?_
      exact tsj_nil
    · refine fun _ _ _ _ _ => ?_
      refine ej_toE ?_
      refine ej_comp (own := [("v", 4)]) (tgs := [4]) rfl sc_restricted_nexts.nd (blkOk_by (by rfl)) ?_ (by decide) ?_ ?_ ?_
      · refine ij_rng1 (ka := .e) ?_ (by rfl) T.b_range
        exact ej_var (pv 2)
      · refine fun _ _ _ _ _ => ?_
        exact gj_name (pg_name (i := 4) sc_restricted_nexts.nd rfl (by first | exact Or.inl rfl | exact Or.inr rfl))
      · refine fun _ _ _ _ _ => ?_
        refine tsj_one ?_
        refine tj_in (ka := .e) (kb := .e) (units65 hr) ?_ ?_
        · refine ej_ix (ka := .e) (kb := .e) ?_ ?_ (fun _ _ => rfl)
          · refine ej_wk ?_
            exact ej_var (pv 1)
          · exact ej_var (pv 4)
        · refine ej_ix (ka := .e) (kb := .e) ?_ ?_ (fun _ _ => rfl)
          · exact ej_var (pv 0)
          · refine ej_ix (ka := .e) (kb := .e) ?_ ?_ (fun _ _ => rfl)
            · refine ej_wk ?_
              exact ej_var (pv 1)
            · exact ej_var (pv 3)
      · refine fun _ _ _ _ _ => ?_
        exact ej_var (pv 4)
abbrev N_ties_between : List Str := ["places", "nexts", "u", "v", "there", "back", "both", "only_there", "only_back", "ties", "beat", "tie"]
theorem sc_ties_between : FnScope N_ties_between ["places", "nexts", "u", "v"] (defScope s_ties_between) := ⟨rfl, rfl, rfl, by decide +kernel, rfl, by decide +kernel, by decide +kernel⟩
theorem d_ties_between {P : Program} {w : World} {K : PySem.W.Frag} {mg : Str → Option Value} {base : Heap} {C_Folding : Addr} {C_Web : Addr} {C_BadFold : Addr} {C_BadNumber : Addr} {C_BadWeb : Addr} {C_NotPlain : Addr} {C_TagError : Addr} {C_UnknownPlace : Addr} (T : Txt K mg C_Folding C_Web C_BadFold C_BadNumber C_BadWeb C_NotPlain C_TagError C_UnknownPlace)  {f : Addr} {cdv : Value} {A : Around} {outer : List Env} {s : Shared} {H : Hp} {E : XK}
    (hr : Room 0 (A.deeper (envOfC "ties_between" (defScope s_ties_between) s.heap.objs.size f cdv))) :
    BJ E (cxOf (L2.CX P w) P w K mg base N_ties_between "ties_between" (defScope s_ties_between) f cdv A outer s H E) (defBody s_ties_between) b_ties_between := by
  refine bj_cons ?_ ?_
  · refine sj_name (i := 4) sc_ties_between.nd rfl (by first | exact Or.inl rfl | exact Or.inr rfl) ?_
    refine ej_toE ?_
    refine ej_comp (own := [("beat", 10)]) (tgs := [10]) rfl sc_ties_between.nd (blkOk_by (by rfl)) ?_ (by decide) ?_ ?_ ?_
    · refine ij_rng1 (ka := .e) ?_ (by rfl) T.b_range
      refine ej_len (k := .e) (by rfl) T.b_len ?_
      exact ej_var (pv 1)
    · refine fun _ _ _ _ _ => ?_
      exact gj_name (pg_name (i := 10) sc_ties_between.nd rfl (by first | exact Or.inl rfl | exact Or.inr rfl))
    · refine fun _ _ _ _ _ => ?_
      refine tsj_one ?_
      refine tj_in (ka := .e) (kb := .e) (units65 hr) ?_ ?_
      · exact ej_var (pv 3)
      · refine ej_ix (ka := .e) (kb := .e) ?_ ?_ (fun _ _ => rfl)
        · refine ej_ix (ka := .e) (kb := .e) ?_ ?_ (fun _ _ => rfl)
          · exact ej_var (pv 1)
          · exact ej_var (pv 10)
        · exact ej_var (pv 2)
    · refine fun _ _ _ _ _ => ?_
      exact ej_var (pv 10)
  · refine bj_cons ?_ ?_
    · refine sj_name (i := 5) sc_ties_between.nd rfl (by first | exact Or.inl rfl | exact Or.inr rfl) ?_
      refine ej_toE ?_
      refine ej_comp (own := [("beat", 10)]) (tgs := [10]) rfl sc_ties_between.nd (blkOk_by (by rfl)) ?_ (by decide) ?_ ?_ ?_
      · refine ij_rng1 (ka := .e) ?_ (by rfl) T.b_range
        refine ej_len (k := .e) (by rfl) T.b_len ?_
        exact ej_var (pv 1)
      · refine fun _ _ _ _ _ => ?_
        exact gj_name (pg_name (i := 10) sc_ties_between.nd rfl (by first | exact Or.inl rfl | exact Or.inr rfl))
      · refine fun _ _ _ _ _ => ?_
        refine tsj_one ?_
        refine tj_in (ka := .e) (kb := .e) (units65 hr) ?_ ?_
        · exact ej_var (pv 2)
        · refine ej_ix (ka := .e) (kb := .e) ?_ ?_ (fun _ _ => rfl)
          · refine ej_ix (ka := .e) (kb := .e) ?_ ?_ (fun _ _ => rfl)
            · exact ej_var (pv 1)
            · exact ej_var (pv 10)
          · exact ej_var (pv 3)
      · refine fun _ _ _ _ _ => ?_
        exact ej_var (pv 10)
    · refine bj_cons ?_ ?_
      · refine sj_name (i := 6) sc_ties_between.nd rfl (by first | exact Or.inl rfl | exact Or.inr rfl) ?_
        refine ej_tuple1 (k := .f) (by rfl) T.b_tuple ?_
        refine ej_comp (own := [("beat", 10)]) (tgs := [10]) rfl sc_ties_between.nd (blkOk_by (by rfl)) ?_ (by decide) ?_ ?_ ?_
        · refine ij_seq ?_
          exact ej_var (pv 4)
        · refine fun _ _ _ _ _ => ?_
          exact gj_name (pg_name (i := 10) sc_ties_between.nd rfl (by first | exact Or.inl rfl | exact Or.inr rfl))
        · refine fun _ _ _ _ _ => ?_
          refine tsj_one ?_
          refine tj_in (ka := .e) (kb := .e) (units65 hr) ?_ ?_
          · exact ej_var (pv 10)
          · exact ej_var (pv 5)
        · refine fun _ _ _ _ _ => ?_
          exact ej_var (pv 10)
      · refine bj_cons ?_ ?_
        · refine sj_name (i := 7) sc_ties_between.nd rfl (by first | exact Or.inl rfl | exact Or.inr rfl) ?_
          refine ej_tuple1 (k := .f) (by rfl) T.b_tuple ?_
          refine ej_comp (own := [("beat", 10)]) (tgs := [10]) rfl sc_ties_between.nd (blkOk_by (by rfl)) ?_ (by decide) ?_ ?_ ?_
          · refine ij_seq ?_
            exact ej_var (pv 4)
          · refine fun _ _ _ _ _ => ?_
            exact gj_name (pg_name (i := 10) sc_ties_between.nd rfl (by first | exact Or.inl rfl | exact Or.inr rfl))
          · refine fun _ _ _ _ _ => ?_
            refine tsj_one ?_
            refine tj_nin (ka := .e) (kb := .e) (units65 hr) ?_ ?_
            · exact ej_var (pv 10)
            · exact ej_var (pv 5)
          · refine fun _ _ _ _ _ => ?_
            exact ej_var (pv 10)
        · refine bj_cons ?_ ?_
          · refine sj_name (i := 8) sc_ties_between.nd rfl (by first | exact Or.inl rfl | exact Or.inr rfl) ?_
            refine ej_tuple1 (k := .f) (by rfl) T.b_tuple ?_
            refine ej_comp (own := [("beat", 10)]) (tgs := [10]) rfl sc_ties_between.nd (blkOk_by (by rfl)) ?_ (by decide) ?_ ?_ ?_
            · refine ij_seq ?_
              exact ej_var (pv 5)
            · refine fun _ _ _ _ _ => ?_
              exact gj_name (pg_name (i := 10) sc_ties_between.nd rfl (by first | exact Or.inl rfl | exact Or.inr rfl))
            · refine fun _ _ _ _ _ => ?_
              refine tsj_one ?_
              refine tj_nin (ka := .e) (kb := .e) (units65 hr) ?_ ?_
              · exact ej_var (pv 10)
              · exact ej_var (pv 4)
            · refine fun _ _ _ _ _ => ?_
              exact ej_var (pv 10)
          · refine bj_cons ?_ ?_
            · refine sj_name (i := 9) sc_ties_between.nd rfl (by first | exact Or.inl rfl | exact Or.inr rfl) ?_
              refine ej_tup ?_
              refine aj_consE ?_ ?_
              · refine ej_tup ?_
                refine aj_consE ?_ ?_
                · refine ej_ix (ka := .e) (kb := .e) ?_ ?_ (fun _ _ => rfl)
                  · refine ej_wk ?_
                    exact ej_var (pv 0)
                  · exact ej_var (pv 2)
                · refine aj_consE ?_ ?_
                  · refine ej_ix (ka := .e) (kb := .e) ?_ ?_ (fun _ _ => rfl)
                    · refine ej_wk ?_
                      exact ej_var (pv 0)
                    · exact ej_var (pv 3)
                  · refine aj_consE ?_ ?_
                    · exact ej_str
                    · refine aj_consE ?_ ?_
                      · exact ej_var (pv 6)
                      · exact aj_nil
              · refine aj_consE ?_ ?_
                · refine ej_tup ?_
                  refine aj_consE ?_ ?_
                  · refine ej_ix (ka := .e) (kb := .e) ?_ ?_ (fun _ _ => rfl)
                    · refine ej_wk ?_
                      exact ej_var (pv 0)
                    · exact ej_var (pv 2)
                  · refine aj_consE ?_ ?_
                    · refine ej_ix (ka := .e) (kb := .e) ?_ ?_ (fun _ _ => rfl)
                      · refine ej_wk ?_
                        exact ej_var (pv 0)
                      · exact ej_var (pv 3)
                    · refine aj_consE ?_ ?_
                      · exact ej_str
                      · refine aj_consE ?_ ?_
                        · exact ej_var (pv 7)
                        · exact aj_nil
                · refine aj_consE ?_ ?_
                  · refine ej_tup ?_
                    refine aj_consE ?_ ?_
                    · refine ej_ix (ka := .e) (kb := .e) ?_ ?_ (fun _ _ => rfl)
                      · refine ej_wk ?_
                        exact ej_var (pv 0)
                      · exact ej_var (pv 3)
                    · refine aj_consE ?_ ?_
                      · refine ej_ix (ka := .e) (kb := .e) ?_ ?_ (fun _ _ => rfl)
                        · refine ej_wk ?_
                          exact ej_var (pv 0)
                        · exact ej_var (pv 2)
                      · refine aj_consE ?_ ?_
                        · exact ej_str
                        · refine aj_consE ?_ ?_
                          · exact ej_var (pv 8)
                          · exact aj_nil
                  · exact aj_nil
            · refine bj_one ?_
              refine sj_retF ?_
              refine ej_comp (own := [("tie", 11)]) (tgs := [11]) rfl sc_ties_between.nd (blkOk_by (by rfl)) ?_ (by decide) ?_ ?_ ?_
              · refine ij_seq ?_
                exact ej_var (pv 9)
              · refine fun _ _ _ _ _ => ?_
                exact gj_name (pg_name (i := 11) sc_ties_between.nd rfl (by first | exact Or.inl rfl | exact Or.inr rfl))
              · refine fun _ _ _ _ _ => ?_
                refine tsj_one ?_
                refine tj_gt (ka := .e) (kb := .e) ?_ ?_
                · refine ej_len (k := .e) (by rfl) T.b_len ?_
                  refine ej_ix (ka := .e) (kb := .e) ?_ ?_ (fun _ _ => rfl)
                  · exact ej_var (pv 11)
                  · exact ej_int
                · exact ej_int
              · refine fun _ _ _ _ _ => ?_
                exact ej_var (pv 11)
abbrev N_ties_of : List Str := ["places", "nexts", "ties", "u", "v"]
theorem sc_ties_of : FnScope N_ties_of ["places", "nexts"] (defScope s_ties_of) := ⟨rfl, rfl, rfl, by decide +kernel, rfl, by decide +kernel, by decide +kernel⟩
theorem d_ties_of {P : Program} {w : World} {K : PySem.W.Frag} {mg : Str → Option Value} {base : Heap} {C_Folding : Addr} {C_Web : Addr} {C_BadFold : Addr} {C_BadNumber : Addr} {C_BadWeb : Addr} {C_NotPlain : Addr} {C_TagError : Addr} {C_UnknownPlace : Addr} (T : Txt K mg C_Folding C_Web C_BadFold C_BadNumber C_BadWeb C_NotPlain C_TagError C_UnknownPlace) (D_ties_between : Def P w K mg base "ties_between" 4 1 wf_ties_between) {f : Addr} {cdv : Value} {A : Around} {outer : List Env} {s : Shared} {H : Hp} {E : XK}
    (hr : Room 1 (A.deeper (envOfC "ties_of" (defScope s_ties_of) s.heap.objs.size f cdv))) :
    BJ E (cxOf (L2.CX P w) P w K mg base N_ties_of "ties_of" (defScope s_ties_of) f cdv A outer s H E) (defBody s_ties_of) b_ties_of := by
  refine bj_cons ?_ ?_
  · refine sj_nameO (i := 2) sc_ties_of.nd rfl (by first | exact Or.inl rfl | exact Or.inr rfl) ?_
    refine ej_lst ?_
    exact aj_nil
  · refine bj_cons ?_ ?_
    · refine sj_for (tgs := [3]) (passes_of rfl) rfl ?_ ?_ ?_
      · refine ij_rng1 (ka := .e) ?_ (by rfl) T.b_range
        refine ej_len (k := .e) (by rfl) T.b_len ?_
        refine ej_wk ?_
        exact ej_var (pv 0)
      · exact gj_name (pg_name (i := 3) sc_ties_of.nd rfl (by first | exact Or.inl rfl | exact Or.inr rfl))
      · refine bj_one ?_
        refine sj_for (tgs := [4]) (passes_of rfl) rfl ?_ ?_ ?_
        · refine ij_rng2 (ka := .e) (kb := .e) ?_ ?_ (by rfl) T.b_range
          · refine ej_plus (ka := .e) (kb := .e) ?_ ?_
            · exact ej_var (pv 3)
            · exact ej_int
          · refine ej_len (k := .e) (by rfl) T.b_len ?_
            refine ej_wk ?_
            exact ej_var (pv 0)
        · exact gj_name (pg_name (i := 4) sc_ties_of.nd rfl (by first | exact Or.inl rfl | exact Or.inr rfl))
        · refine bj_one ?_
          refine sj_extend (k := .e) (pv 2) ?_
          refine ej_fn D_ties_between (hr.mono (by decide)) (by rfl) passM ?_
          refine aj_consE ?_ ?_
          · exact ej_var (pv 0)
          · refine aj_consE ?_ ?_
            · exact ej_var (pv 1)
            · refine aj_consE ?_ ?_
              · exact ej_var (pv 3)
              · refine aj_consE ?_ ?_
                · exact ej_var (pv 4)
                · exact aj_nil
    · refine bj_one ?_
      exact sj_retO (pv 2)
abbrev N_is_name : List Str := ["text", "sign"]
theorem sc_is_name : FnScope N_is_name ["text"] (defScope s_is_name) := ⟨rfl, rfl, rfl, by decide +kernel, rfl, by decide +kernel, by decide +kernel⟩
theorem d_is_name {P : Program} {w : World} {K : PySem.W.Frag} {mg : Str → Option Value} {base : Heap} {C_Folding : Addr} {C_Web : Addr} {C_BadFold : Addr} {C_BadNumber : Addr} {C_BadWeb : Addr} {C_NotPlain : Addr} {C_TagError : Addr} {C_UnknownPlace : Addr} (T : Txt K mg C_Folding C_Web C_BadFold C_BadNumber C_BadWeb C_NotPlain C_TagError C_UnknownPlace)  {f : Addr} {cdv : Value} {A : Around} {outer : List Env} {s : Shared} {H : Hp} {E : XK}
    (hr : Room 0 (A.deeper (envOfC "is_name" (defScope s_is_name) s.heap.objs.size f cdv))) :
    BJ E (cxOf (L2.CX P w) P w K mg base N_is_name "is_name" (defScope s_is_name) f cdv A outer s H E) (defBody s_is_name) b_is_name := by
  refine bj_one ?_
  refine sj_ret ?_
  refine ej_andV ?_ ?_
  · refine ej_ch2 (ka := .e) (kb := .e) (kc := .e) brg_le brg_le op_le op_le ?_ ?_ ?_
    · exact ej_int
    · refine ej_len (k := .e) (by rfl) T.b_len ?_
      exact ej_var (pv 0)
    · exact ej_int
  · refine ej_b1 ?_
    refine ej_all1 (k := .f) rfl (by rfl) T.b_all ?_
    refine ej_comp (own := [("sign", 1)]) (tgs := [1]) rfl sc_is_name.nd (blkOk_by (by rfl)) ?_ (by decide) ?_ ?_ ?_
    · refine ij_str (k := .e) ?_
      exact ej_var (pv 0)
    · refine fun _ _ _ _ _ => ?_
      exact gj_name (pg_name (i := 1) sc_is_name.nd rfl (by first | exact Or.inl rfl | exact Or.inr rfl))
    · refine fun _ _ _ _ _ => ?_
      exact tsj_nil
    · refine fun _ _ _ _ _ => ?_
      refine ej_inS (ka := .e) (kb := .e) ?_ ?_
      · exact ej_var (pv 1)
      · exact ej_glob (by rfl) T.g_LETTERS (fun _ => .str _)
abbrev N_check_names : List Str := ["places", "at"]
theorem sc_check_names : FnScope N_check_names ["places"] (defScope s_check_names) := ⟨rfl, rfl, rfl, by decide +kernel, rfl, by decide +kernel, by decide +kernel⟩
theorem d_check_names {P : Program} {w : World} {K : PySem.W.Frag} {mg : Str → Option Value} {base : Heap} {C_Folding : Addr} {C_Web : Addr} {C_BadFold : Addr} {C_BadNumber : Addr} {C_BadWeb : Addr} {C_NotPlain : Addr} {C_TagError : Addr} {C_UnknownPlace : Addr} (T : Txt K mg C_Folding C_Web C_BadFold C_BadNumber C_BadWeb C_NotPlain C_TagError C_UnknownPlace) (D_is_name : Def P w K mg base "is_name" 1 1 wf_is_name) {f : Addr} {cdv : Value} {A : Around} {outer : List Env} {s : Shared} {H : Hp} {E : XK}
    (hr : Room 1 (A.deeper (envOfC "check_names" (defScope s_check_names) s.heap.objs.size f cdv))) :
    BJ E (cxOf (L2.CX P w) P w K mg base N_check_names "check_names" (defScope s_check_names) f cdv A outer s H E) (defBody s_check_names) b_check_names := by
  refine bj_cons ?_ ?_
  · refine sj_if ?_ ?_ ?_
    · refine tj_not ?_
      refine tj_ch2 (ka := .e) (kb := .e) (kc := .e) brg_le brg_le op_le op_le ?_ ?_ ?_
      · exact ej_int
      · refine ej_len (k := .e) (by rfl) T.b_len ?_
        refine ej_wk ?_
        exact ej_var (pv 0)
      · exact ej_int
    · refine bj_one ?_
      exact sj_never
    · exact bj_nil
  · refine bj_one ?_
    refine sj_for (tgs := [1]) (passes_of rfl) rfl ?_ ?_ ?_
    · refine ij_rng1 (ka := .e) ?_ (by rfl) T.b_range
      refine ej_len (k := .e) (by rfl) T.b_len ?_
      refine ej_wk ?_
      exact ej_var (pv 0)
    · exact gj_name (pg_name (i := 1) sc_check_names.nd rfl (by first | exact Or.inl rfl | exact Or.inr rfl))
    · refine bj_one ?_
      refine sj_if ?_ ?_ ?_
      · refine tj_tw ?_
        refine twj_or ?_ ?_
        · refine tj_not ?_
          refine tj_tru (k := .e) ?_
          refine ej_fn D_is_name (hr.mono (by decide)) (by rfl) passM ?_
          refine aj_consE ?_ ?_
          · refine ej_ix (ka := .e) (kb := .e) ?_ ?_ (fun _ _ => rfl)
            · refine ej_wk ?_
              exact ej_var (pv 0)
            · exact ej_var (pv 1)
          · exact aj_nil
        · refine twj_or1 ?_
          refine tj_in (ka := .e) (kb := .e) (units65 hr) ?_ ?_
          · refine ej_ix (ka := .e) (kb := .e) ?_ ?_ (fun _ _ => rfl)
            · refine ej_wk ?_
              exact ej_var (pv 0)
            · exact ej_var (pv 1)
          · refine ej_slice (ka := .e) ?_ ?_ ?_
            · refine ej_wk ?_
              exact ej_var (pv 0)
            · exact oj_none
            · refine oj_some (k := .e) ?_
              exact ej_var (pv 1)
      · refine bj_one ?_
        exact sj_never
      · exact bj_nil
abbrev N_is_set : List Str := ["places", "count", "inside", "rising", "place", "at"]
theorem sc_is_set : FnScope N_is_set ["places", "count"] (defScope s_is_set) := ⟨rfl, rfl, rfl, by decide +kernel, rfl, by decide +kernel, by decide +kernel⟩
theorem d_is_set {P : Program} {w : World} {K : PySem.W.Frag} {mg : Str → Option Value} {base : Heap} {C_Folding : Addr} {C_Web : Addr} {C_BadFold : Addr} {C_BadNumber : Addr} {C_BadWeb : Addr} {C_NotPlain : Addr} {C_TagError : Addr} {C_UnknownPlace : Addr} (T : Txt K mg C_Folding C_Web C_BadFold C_BadNumber C_BadWeb C_NotPlain C_TagError C_UnknownPlace)  {f : Addr} {cdv : Value} {A : Around} {outer : List Env} {s : Shared} {H : Hp} {E : XK}
    (hr : Room 0 (A.deeper (envOfC "is_set" (defScope s_is_set) s.heap.objs.size f cdv))) :
    BJ E (cxOf (L2.CX P w) P w K mg base N_is_set "is_set" (defScope s_is_set) f cdv A outer s H E) (defBody s_is_set) b_is_set := by
  refine bj_cons ?_ ?_
  · refine sj_compS (own := [("place", 4)]) (tgs := [4]) (i := 2) rfl sc_is_set.nd rfl rfl (sw_true rfl rfl rfl (by decide +kernel)) (blkOk_by (by rfl)) ?_ (by decide) ?_ ?_ ?_
    · refine ij_seq ?_
      exact ej_var (pv 0)
    · refine fun _ _ _ _ _ => ?_
      exact gj_name (pg_name (i := 4) sc_is_set.nd rfl (by first | exact Or.inl rfl | exact Or.inr rfl))
    · refine fun _ _ _ _ _ => ?_
      exact tsj_nil
    · refine fun _ _ _ _ _ => ?_
      refine ej_ch2 (ka := .e) (kb := .e) (kc := .e) brg_le brg_lt op_le op_lt ?_ ?_ ?_
      · exact ej_int
      · exact ej_var (pv 4)
      · exact ej_var (pv 1)
  · refine bj_cons ?_ ?_
    · refine sj_compS (own := [("at", 5)]) (tgs := [5]) (i := 3) rfl sc_is_set.nd rfl rfl (sw_true rfl rfl rfl (by decide +kernel)) (blkOk_by (by rfl)) ?_ (by decide) ?_ ?_ ?_
      · refine ij_rng1 (ka := .e) ?_ (by rfl) T.b_range
        refine ej_sub (ka := .e) (kb := .e) ?_ ?_
        · refine ej_len (k := .e) (by rfl) T.b_len ?_
          exact ej_var (pv 0)
        · exact ej_int
      · refine fun _ _ _ _ _ => ?_
        exact gj_name (pg_name (i := 5) sc_is_set.nd rfl (by first | exact Or.inl rfl | exact Or.inr rfl))
      · refine fun _ _ _ _ _ => ?_
        exact tsj_nil
      · refine fun _ _ _ _ _ => ?_
        refine ej_lt (ka := .e) (kb := .e) ?_ ?_
        · refine ej_ix (ka := .e) (kb := .e) ?_ ?_ (fun _ _ => rfl)
          · exact ej_var (pv 0)
          · exact ej_var (pv 5)
        · refine ej_ix (ka := .e) (kb := .e) ?_ ?_ (fun _ _ => rfl)
          · exact ej_var (pv 0)
          · refine ej_plus (ka := .e) (kb := .e) ?_ ?_
            · exact ej_var (pv 5)
            · exact ej_int
    · refine bj_one ?_
      refine sj_ret ?_
      refine ej_andV ?_ ?_
      · refine ej_all1 (k := .e) rfl (by rfl) T.b_all ?_
        exact ej_var (pv 2)
      · refine ej_b1 ?_
        refine ej_all1 (k := .e) rfl (by rfl) T.b_all ?_
        exact ej_var (pv 3)
abbrev N_is_tie : List Str := ["places", "tie", "beats", "first", "second", "way", "when"]
theorem sc_is_tie : FnScope N_is_tie ["places", "tie", "beats"] (defScope s_is_tie) := ⟨rfl, rfl, rfl, by decide +kernel, rfl, by decide +kernel, by decide +kernel⟩
theorem d_is_tie {P : Program} {w : World} {K : PySem.W.Frag} {mg : Str → Option Value} {base : Heap} {C_Folding : Addr} {C_Web : Addr} {C_BadFold : Addr} {C_BadNumber : Addr} {C_BadWeb : Addr} {C_NotPlain : Addr} {C_TagError : Addr} {C_UnknownPlace : Addr} (T : Txt K mg C_Folding C_Web C_BadFold C_BadNumber C_BadWeb C_NotPlain C_TagError C_UnknownPlace) (D_is_set : Def P w K mg base "is_set" 2 1 wf_is_set) {f : Addr} {cdv : Value} {A : Around} {outer : List Env} {s : Shared} {H : Hp} {E : XK}
    (hr : Room 1 (A.deeper (envOfC "is_tie" (defScope s_is_tie) s.heap.objs.size f cdv))) :
    BJ E (cxOf (L2.CX P w) P w K mg base N_is_tie "is_tie" (defScope s_is_tie) f cdv A outer s H E) (defBody s_is_tie) b_is_tie := by
  refine bj_cons ?_ ?_
  · refine sj_if ?_ ?_ ?_
    · refine tj_ne (ka := .e) (kb := .e) hr.units ?_ ?_
      · refine ej_len (k := .e) (by rfl) T.b_len ?_
        exact ej_var (pv 1)
      · exact ej_int
    · refine bj_one ?_
      refine sj_ret ?_
      exact ej_bl
    · exact bj_nil
  · refine bj_cons ?_ ?_
    · refine sj_tgt (tgs := [3, 4, 5, 6]) ?_ ?_
      · refine gj_tup (n := 4) rfl ?_
        refine gsj_name ?_ ?_
        · exact gj_name (pg_name (i := 3) sc_is_tie.nd rfl (by first | exact Or.inl rfl | exact Or.inr rfl))
        · refine gsj_name ?_ ?_
          · exact gj_name (pg_name (i := 4) sc_is_tie.nd rfl (by first | exact Or.inl rfl | exact Or.inr rfl))
          · refine gsj_name ?_ ?_
            · exact gj_name (pg_name (i := 5) sc_is_tie.nd rfl (by first | exact Or.inl rfl | exact Or.inr rfl))
            · refine gsj_name ?_ ?_
              · exact gj_name (pg_name (i := 6) sc_is_tie.nd rfl (by first | exact Or.inl rfl | exact Or.inr rfl))
              · exact gsj_nil
      · exact ej_var (pv 1)
    · refine bj_cons ?_ ?_
      · refine sj_if ?_ ?_ ?_
        · refine tj_tw ?_
          refine twj_or ?_ ?_
          · refine tj_nin (ka := .e) (kb := .e) (units65 hr) ?_ ?_
            · exact ej_var (pv 3)
            · refine ej_wk ?_
              exact ej_var (pv 0)
          · refine twj_or ?_ ?_
            · refine tj_nin (ka := .e) (kb := .e) (units65 hr) ?_ ?_
              · exact ej_var (pv 4)
              · refine ej_wk ?_
                exact ej_var (pv 0)
            · refine twj_or1 ?_
              refine tj_eq (ka := .e) (kb := .e) hr.units ?_ ?_
              · exact ej_var (pv 3)
              · exact ej_var (pv 4)
        · refine bj_one ?_
          refine sj_ret ?_
          exact ej_bl
        · exact bj_nil
      · refine bj_one ?_
        refine sj_ret ?_
        refine ej_andV ?_ ?_
        · refine ej_in (ka := .e) (kb := .e) (units65 hr) ?_ ?_
          · exact ej_var (pv 5)
          · refine ej_tup ?_
            refine aj_consE ?_ ?_
            · exact ej_str
            · refine aj_consE ?_ ?_
              · exact ej_str
              · exact aj_nil
        · refine ej_andV ?_ ?_
          · refine ej_gt (ka := .e) (kb := .e) ?_ ?_
            · refine ej_len (k := .e) (by rfl) T.b_len ?_
              exact ej_var (pv 6)
            · exact ej_int
          · refine ej_b1 ?_
            refine ej_fn D_is_set (hr.mono (by decide)) (by rfl) passM ?_
            refine aj_consE ?_ ?_
            · exact ej_var (pv 6)
            · refine aj_consE ?_ ?_
              · exact ej_var (pv 2)
              · exact aj_nil
abbrev N_check_ties : List Str := ["places", "ties", "beats", "at", "tie"]
theorem sc_check_ties : FnScope N_check_ties ["places", "ties", "beats"] (defScope s_check_ties) := ⟨rfl, rfl, rfl, by decide +kernel, rfl, by decide +kernel, by decide +kernel⟩
theorem d_check_ties {P : Program} {w : World} {K : PySem.W.Frag} {mg : Str → Option Value} {base : Heap} {C_Folding : Addr} {C_Web : Addr} {C_BadFold : Addr} {C_BadNumber : Addr} {C_BadWeb : Addr} {C_NotPlain : Addr} {C_TagError : Addr} {C_UnknownPlace : Addr} (T : Txt K mg C_Folding C_Web C_BadFold C_BadNumber C_BadWeb C_NotPlain C_TagError C_UnknownPlace) (D_is_tie : Def P w K mg base "is_tie" 3 2 wf_is_tie) {f : Addr} {cdv : Value} {A : Around} {outer : List Env} {s : Shared} {H : Hp} {E : XK}
    (hr : Room 2 (A.deeper (envOfC "check_ties" (defScope s_check_ties) s.heap.objs.size f cdv))) :
    BJ E (cxOf (L2.CX P w) P w K mg base N_check_ties "check_ties" (defScope s_check_ties) f cdv A outer s H E) (defBody s_check_ties) b_check_ties := by
  refine bj_cons ?_ ?_
  · refine sj_if ?_ ?_ ?_
    · refine tj_gt (ka := .e) (kb := .e) ?_ ?_
      · refine ej_len (k := .e) (by rfl) T.b_len ?_
        exact ej_var (pv 1)
      · exact ej_int
    · refine bj_one ?_
      exact sj_never
    · exact bj_nil
  · refine bj_one ?_
    refine sj_for (tgs := [3, 4]) (passes_of rfl) rfl ?_ ?_ ?_
    · refine ij_enumA ?_ (by rfl) T.b_enumerate
      exact ej_var (pv 1)
    · refine gj_tup (n := 2) rfl ?_
      refine gsj_name ?_ ?_
      · exact gj_name (pg_name (i := 3) sc_check_ties.nd rfl (by first | exact Or.inl rfl | exact Or.inr rfl))
      · refine gsj_name ?_ ?_
        · exact gj_name (pg_name (i := 4) sc_check_ties.nd rfl (by first | exact Or.inl rfl | exact Or.inr rfl))
        · exact gsj_nil
    · refine bj_one ?_
      refine sj_if ?_ ?_ ?_
      · refine tj_not ?_
        refine tj_tru (k := .e) ?_
        refine ej_fn D_is_tie (hr.mono (by decide)) (by rfl) passM ?_
        refine aj_consE ?_ ?_
        · exact ej_var (pv 0)
        · refine aj_consE ?_ ?_
          · exact ej_var (pv 4)
          · refine aj_consE ?_ ?_
            · exact ej_var (pv 2)
            · exact aj_nil
      · refine bj_one ?_
        exact sj_never
      · exact bj_nil
abbrev N_nexts_at : List Str := ["given", "beat", "count", "u", "v"]
theorem sc_nexts_at : FnScope N_nexts_at ["given", "beat", "count"] (defScope s_nexts_at) := ⟨rfl, rfl, rfl, by decide +kernel, rfl, by decide +kernel, by decide +kernel⟩
theorem d_nexts_at {P : Program} {w : World} {K : PySem.W.Frag} {mg : Str → Option Value} {base : Heap} {C_Folding : Addr} {C_Web : Addr} {C_BadFold : Addr} {C_BadNumber : Addr} {C_BadWeb : Addr} {C_NotPlain : Addr} {C_TagError : Addr} {C_UnknownPlace : Addr} (T : Txt K mg C_Folding C_Web C_BadFold C_BadNumber C_BadWeb C_NotPlain C_TagError C_UnknownPlace)  {f : Addr} {cdv : Value} {A : Around} {outer : List Env} {s : Shared} {H : Hp} {E : XK}
    (hr : Room 0 (A.deeper (envOfC "nexts_at" (defScope s_nexts_at) s.heap.objs.size f cdv))) :
    BJ E (cxOf (L2.CX P w) P w K mg base N_nexts_at "nexts_at" (defScope s_nexts_at) f cdv A outer s H E) (defBody s_nexts_at) b_nexts_at := by
  refine bj_one ?_
  refine sj_ret ?_
  refine ej_tuple1 (k := .f) (by rfl) T.b_tuple ?_
  refine ej_comp (own := [("u", 3)]) (tgs := [3]) rfl sc_nexts_at.nd (blkOk_by (by rfl)) ?_ (by decide) ?_ ?_ ?_
  · refine ij_rng1 (ka := .e) ?_ (by rfl) T.b_range
    exact ej_var (pv 2)
  · refine fun _ _ _ _ _ => ?_
    exact gj_name (pg_name (i := 3) sc_nexts_at.nd rfl (by first | exact Or.inl rfl | exact Or.inr rfl))
  · refine fun _ _ _ _ _ => ?_
    exact tsj_nil
  · refine fun _ _ _ _ _ => ?_
    refine ej_tuple1 (k := .f) (by rfl) T.b_tuple ?_
    refine ej_comp (own := [("v", 4)]) (tgs := [4]) rfl sc_nexts_at.nd (blkOk_by (by rfl)) ?_ (by decide) ?_ ?_ ?_
    · refine ij_rng1 (ka := .e) ?_ (by rfl) T.b_range
      exact ej_var (pv 2)
    · refine fun _ _ _ _ _ => ?_
      exact gj_name (pg_name (i := 4) sc_nexts_at.nd rfl (by first | exact Or.inl rfl | exact Or.inr rfl))
    · refine fun _ _ _ _ _ => ?_
      refine tsj_one ?_
      refine tj_dinT (kb := .e) (hu_of hr) ?_ ?_
      · refine aj_consE ?_ ?_
        · exact ej_var (pv 1)
        · refine aj_consE ?_ ?_
          · exact ej_var (pv 3)
          · refine aj_consE ?_ ?_
            · exact ej_var (pv 4)
            · exact aj_nil
      · exact ej_var (pv 0)
    · refine fun _ _ _ _ _ => ?_
      exact ej_var (pv 4)
abbrev N_nexts_of : List Str := ["places", "ties", "beats", "given", "first", "second", "way", "when", "u", "v", "beat", "count"]
theorem sc_nexts_of : FnScope N_nexts_of ["places", "ties", "beats"] (defScope s_nexts_of) := ⟨rfl, rfl, rfl, by decide +kernel, rfl, by decide +kernel, by decide +kernel⟩
theorem d_nexts_of {P : Program} {w : World} {K : PySem.W.Frag} {mg : Str → Option Value} {base : Heap} {C_Folding : Addr} {C_Web : Addr} {C_BadFold : Addr} {C_BadNumber : Addr} {C_BadWeb : Addr} {C_NotPlain : Addr} {C_TagError : Addr} {C_UnknownPlace : Addr} (T : Txt K mg C_Folding C_Web C_BadFold C_BadNumber C_BadWeb C_NotPlain C_TagError C_UnknownPlace) (D_nexts_at : Def P w K mg base "nexts_at" 3 1 wf_nexts_at) {f : Addr} {cdv : Value} {A : Around} {outer : List Env} {s : Shared} {H : Hp} {E : XK}
    (hr : Room 1 (A.deeper (envOfC "nexts_of" (defScope s_nexts_of) s.heap.objs.size f cdv))) :
    BJ E (cxOf (L2.CX P w) P w K mg base N_nexts_of "nexts_of" (defScope s_nexts_of) f cdv A outer s H E) (defBody s_nexts_of) b_nexts_of := by
  refine bj_cons ?_ ?_
  · refine sj_nameO (i := 3) sc_nexts_of.nd rfl (by first | exact Or.inl rfl | exact Or.inr rfl) ?_
    exact ej_dictT
  · refine bj_cons ?_ ?_
    · refine sj_for (tgs := [4, 5, 6, 7]) (passes_of rfl) rfl ?_ ?_ ?_
      · refine ij_seq ?_
        exact ej_var (pv 1)
      · refine gj_tup (n := 4) rfl ?_
        refine gsj_name ?_ ?_
        · exact gj_name (pg_name (i := 4) sc_nexts_of.nd rfl (by first | exact Or.inl rfl | exact Or.inr rfl))
        · refine gsj_name ?_ ?_
          · exact gj_name (pg_name (i := 5) sc_nexts_of.nd rfl (by first | exact Or.inl rfl | exact Or.inr rfl))
          · refine gsj_name ?_ ?_
            · exact gj_name (pg_name (i := 6) sc_nexts_of.nd rfl (by first | exact Or.inl rfl | exact Or.inr rfl))
            · refine gsj_name ?_ ?_
              · exact gj_name (pg_name (i := 7) sc_nexts_of.nd rfl (by first | exact Or.inl rfl | exact Or.inr rfl))
              · exact gsj_nil
      · refine bj_cons ?_ ?_
        · refine sj_name (i := 8) sc_nexts_of.nd rfl (by first | exact Or.inl rfl | exact Or.inr rfl) ?_
          refine ej_idxT (k := .e) ?_ ?_
          · exact ej_var (pv 0)
          · exact ej_var (pv 4)
        · refine bj_cons ?_ ?_
          · refine sj_name (i := 9) sc_nexts_of.nd rfl (by first | exact Or.inl rfl | exact Or.inr rfl) ?_
            refine ej_idxT (k := .e) ?_ ?_
            · exact ej_var (pv 0)
            · exact ej_var (pv 5)
          · refine bj_one ?_
            refine sj_for (tgs := [10]) (passes_of rfl) rfl ?_ ?_ ?_
            · refine ij_seq ?_
              exact ej_var (pv 7)
            · exact gj_name (pg_name (i := 10) sc_nexts_of.nd rfl (by first | exact Or.inl rfl | exact Or.inr rfl))
            · refine bj_cons ?_ ?_
              · refine sj_dput (hu_of hr) (pv 3) ?_ ?_
                · refine aj_consE ?_ ?_
                  · exact ej_var (pv 10)
                  · refine aj_consE ?_ ?_
                    · exact ej_var (pv 8)
                    · refine aj_consE ?_ ?_
                      · exact ej_var (pv 9)
                      · exact aj_nil
                · exact ej_bl
              · refine bj_one ?_
                refine sj_if ?_ ?_ ?_
                · refine tj_eq (ka := .e) (kb := .e) hr.units ?_ ?_
                  · exact ej_var (pv 6)
                  · exact ej_str
                · refine bj_one ?_
                  refine sj_dput (hu_of hr) (pv 3) ?_ ?_
                  · refine aj_consE ?_ ?_
                    · exact ej_var (pv 10)
                    · refine aj_consE ?_ ?_
                      · exact ej_var (pv 9)
                      · refine aj_consE ?_ ?_
                        · exact ej_var (pv 8)
                        · exact aj_nil
                  · exact ej_bl
                · exact bj_nil
    · refine bj_cons ?_ ?_
      · refine sj_name (i := 11) sc_nexts_of.nd rfl (by first | exact Or.inl rfl | exact Or.inr rfl) ?_
        refine ej_len (k := .e) (by rfl) T.b_len ?_
        refine ej_wk ?_
        exact ej_var (pv 0)
      · refine bj_one ?_
        refine sj_frz (i := 3) ?_
        refine sj_ret ?_
        refine ej_tuple1 (k := .f) (by rfl) T.b_tuple ?_
        refine ej_comp (own := [("beat", 10)]) (tgs := [10]) rfl sc_nexts_of.nd (blkOk_by (by rfl)) ?_ (by decide) ?_ ?_ ?_
        · refine ij_rng1 (ka := .e) ?_ (by rfl) T.b_range
          exact ej_var (pv 2)
        · refine fun _ _ _ _ _ => ?_
          exact gj_name (pg_name (i := 10) sc_nexts_of.nd rfl (by first | exact Or.inl rfl | exact Or.inr rfl))
        · refine fun _ _ _ _ _ => ?_
          exact tsj_nil
        · refine fun _ _ _ _ _ => ?_
          refine ej_fn D_nexts_at (hr.mono (by decide)) (by rfl) passL ?_
          refine aj_consE ?_ ?_
          · exact ej_var (pv 3)
          · refine aj_consE ?_ ?_
            · exact ej_var (pv 10)
            · refine aj_consE ?_ ?_
              · exact ej_var (pv 11)
              · exact aj_nil
abbrev N_steps_of : List Str := ["nexts", "row", "u"]
theorem sc_steps_of : FnScope N_steps_of ["nexts"] (defScope s_steps_of) := ⟨rfl, rfl, rfl, by decide +kernel, rfl, by decide +kernel, by decide +kernel⟩
theorem d_steps_of {P : Program} {w : World} {K : PySem.W.Frag} {mg : Str → Option Value} {base : Heap} {C_Folding : Addr} {C_Web : Addr} {C_BadFold : Addr} {C_BadNumber : Addr} {C_BadWeb : Addr} {C_NotPlain : Addr} {C_TagError : Addr} {C_UnknownPlace : Addr} (T : Txt K mg C_Folding C_Web C_BadFold C_BadNumber C_BadWeb C_NotPlain C_TagError C_UnknownPlace)  {f : Addr} {cdv : Value} {A : Around} {outer : List Env} {s : Shared} {H : Hp} {E : XK}
    (hr : Room 0 (A.deeper (envOfC "steps_of" (defScope s_steps_of) s.heap.objs.size f cdv))) :
    BJ E (cxOf (L2.CX P w) P w K mg base N_steps_of "steps_of" (defScope s_steps_of) f cdv A outer s H E) (defBody s_steps_of) b_steps_of := by
  refine bj_one ?_
  refine sj_ret ?_
  refine ej_tuple1 (k := .f) (by rfl) T.b_tuple ?_
  refine ej_comp (own := [("row", 1)]) (tgs := [1]) rfl sc_steps_of.nd (blkOk_by (by rfl)) ?_ (by decide) ?_ ?_ ?_
  · refine ij_seq ?_
    exact ej_var (pv 0)
  · refine fun _ _ _ _ _ => ?_
    exact gj_name (pg_name (i := 1) sc_steps_of.nd rfl (by first | exact Or.inl rfl | exact Or.inr rfl))
  · refine fun _ _ _ _ _ => ?_
    exact tsj_nil
  · refine fun _ _ _ _ _ => ?_
    refine ej_tuple1 (k := .f) (by rfl) T.b_tuple ?_
    refine ej_comp (own := [("u", 2)]) (tgs := [2]) rfl sc_steps_of.nd (blkOk_by (by rfl)) ?_ (by decide) ?_ ?_ ?_
    · refine ij_rng1 (ka := .e) ?_ (by rfl) T.b_range
      refine ej_len (k := .e) (by rfl) T.b_len ?_
      exact ej_var (pv 1)
    · refine fun _ _ _ _ _ => ?_
      exact gj_name (pg_name (i := 2) sc_steps_of.nd rfl (by first | exact Or.inl rfl | exact Or.inr rfl))
    · refine fun _ _ _ _ _ => ?_
      exact tsj_nil
    · refine fun _ _ _ _ _ => ?_
      refine ej_tuple1 (k := .f) (by rfl) T.b_tuple ?_
      refine ej_sortI (k := .f) (by rfl) T.b_sorted ?_
      refine ej_lst ?_
      refine aj_consE ?_ ?_
      · exact ej_var (pv 2)
      · refine aj_star ?_ ?_
        · refine ej_ix (ka := .e) (kb := .e) ?_ ?_ (fun _ _ => rfl)
          · exact ej_var (pv 1)
          · exact ej_var (pv 2)
        · exact aj_nil
abbrev N_Web___init__ : List Str := ["self", "places", "ties", "beats"]
theorem sc_Web___init__ : FnScope N_Web___init__ ["self", "places", "ties", "beats"] (defScope s_Web___init__) := ⟨rfl, rfl, rfl, by decide +kernel, rfl, by decide +kernel, by decide +kernel⟩
theorem d_Web___init__ {P : Program} {w : World} {K : PySem.W.Frag} {mg : Str → Option Value} {base : Heap} {C_Folding : Addr} {C_Web : Addr} {C_BadFold : Addr} {C_BadNumber : Addr} {C_BadWeb : Addr} {C_NotPlain : Addr} {C_TagError : Addr} {C_UnknownPlace : Addr} (T : Txt K mg C_Folding C_Web C_BadFold C_BadNumber C_BadWeb C_NotPlain C_TagError C_UnknownPlace) (D_check_names : Def P w K mg base "check_names" 1 2 wf_check_names) (D_check_ties : Def P w K mg base "check_ties" 3 3 wf_check_ties) (D_nexts_of : Def P w K mg base "nexts_of" 3 2 wf_nexts_of) (D_steps_of : Def P w K mg base "steps_of" 1 1 wf_steps_of) {f : Addr} {cdv : Value} {A : Around} {outer : List Env} {s : Shared} {H : Hp} {E : XK}
    (hr : Room 3 (A.deeper (envOfC "Web.__init__" (defScope s_Web___init__) s.heap.objs.size f cdv))) :
    BJ E (cxOf (L2.CX P w) P w K mg base N_Web___init__ "Web.__init__" (defScope s_Web___init__) f cdv A outer s H E) (defBody s_Web___init__) (b_Web___init__ C_Web) := by
  refine bj_cons ?_ ?_
  · refine sj_expr (k := .e) ?_
    refine ej_fn D_check_names (hr.mono (by decide)) (by rfl) passM ?_
    refine aj_consE ?_ ?_
    · exact ej_var (pv 1)
    · exact aj_nil
  · refine bj_cons ?_ ?_
    · refine sj_if ?_ ?_ ?_
      · refine tj_not ?_
        refine tj_ch2 (ka := .e) (kb := .e) (kc := .e) brg_le brg_le op_le op_le ?_ ?_ ?_
        · exact ej_int
        · exact ej_var (pv 3)
        · exact ej_int
      · refine bj_one ?_
        exact sj_never
      · exact bj_nil
    · refine bj_cons ?_ ?_
      · refine sj_expr (k := .e) ?_
        refine ej_fn D_check_ties (hr.mono (by decide)) (by rfl) passM ?_
        refine aj_consE ?_ ?_
        · exact ej_var (pv 1)
        · refine aj_consE ?_ ?_
          · exact ej_var (pv 2)
          · refine aj_consE ?_ ?_
            · exact ej_var (pv 3)
            · exact aj_nil
      · refine bj_cons ?_ ?_
        · refine sj_fset (i := 0) T.c_Web T.n_Web_places (pv 0) ?_
          refine ej_tupleX2 (k := .e) (by rfl) T.b_tuple ?_
          exact ej_var (pv 1)
        · refine bj_cons ?_ ?_
          · refine sj_fset (i := 0) T.c_Web T.n_Web_beats (pv 0) ?_
            exact ej_var (pv 3)
          · refine bj_cons ?_ ?_
            · refine sj_fset (i := 0) T.c_Web T.n_Web__nexts (pv 0) ?_
              refine ej_fn D_nexts_of (hr.mono (by decide)) (by rfl) passM ?_
              refine aj_consE ?_ ?_
              · exact ej_seF T.c_Web T.n_Web_places (pv 0)
              · refine aj_consE ?_ ?_
                · exact ej_var (pv 2)
                · refine aj_consE ?_ ?_
                  · exact ej_var (pv 3)
                  · exact aj_nil
            · refine bj_one ?_
              refine sj_fset (i := 0) T.c_Web T.n_Web__steps (pv 0) ?_
              refine ej_fn D_steps_of (hr.mono (by decide)) (by rfl) passM ?_
              refine aj_consE ?_ ?_
              · exact ej_seF T.c_Web T.n_Web__nexts (pv 0)
              · exact aj_nil
abbrev N_woven : List Str := ["places", "nexts"]
theorem sc_woven : FnScope N_woven ["places", "nexts"] (defScope s_woven) := ⟨rfl, rfl, rfl, by decide +kernel, rfl, by decide +kernel, by decide +kernel⟩
theorem d_woven {P : Program} {w : World} {K : PySem.W.Frag} {mg : Str → Option Value} {base : Heap} {C_Folding : Addr} {C_Web : Addr} {C_BadFold : Addr} {C_BadNumber : Addr} {C_BadWeb : Addr} {C_NotPlain : Addr} {C_TagError : Addr} {C_UnknownPlace : Addr} (T : Txt K mg C_Folding C_Web C_BadFold C_BadNumber C_BadWeb C_NotPlain C_TagError C_UnknownPlace) (D_ties_of : Def P w K mg base "ties_of" 2 2 wf_ties_of) (K_Web_2_beats : Ctor P w K mg base "Web" C_Web 2 ["beats"] 4 gD_K_Web_2_beats wi_Web) {f : Addr} {cdv : Value} {A : Around} {outer : List Env} {s : Shared} {H : Hp} {E : XK}
    (hr : Room 5 (A.deeper (envOfC "woven" (defScope s_woven) s.heap.objs.size f cdv))) :
    BJ E (cxOf (L2.CX P w) P w K mg base N_woven "woven" (defScope s_woven) f cdv A outer s H E) (defBody s_woven) (b_woven C_Web) := by
  refine bj_one ?_
  refine sj_ret ?_
  refine ej_makeK K_Web_2_beats (hr.mono (by decide)) (by rfl) passM ?_ ?_
  · refine aj_consE ?_ ?_
    · exact ej_var (pv 0)
    · refine aj_consE ?_ ?_
      · refine ej_fn D_ties_of (hr.mono (by decide)) (by rfl) passM ?_
        refine aj_consE ?_ ?_
        · exact ej_var (pv 0)
        · refine aj_consE ?_ ?_
          · exact ej_var (pv 1)
          · exact aj_nil
      · exact aj_nil
  · refine kj_cons ?_ ?_
    · refine ej_len (k := .e) (by rfl) T.b_len ?_
      exact ej_var (pv 1)
    · exact kj_nil
abbrev N_Web_restricted : List Str := ["self", "places", "names", "place", "nexts"]
theorem sc_Web_restricted : FnScope N_Web_restricted ["self", "places"] (defScope s_Web_restricted) := ⟨rfl, rfl, rfl, by decide +kernel, rfl, by decide +kernel, by decide +kernel⟩
theorem d_Web_restricted {P : Program} {w : World} {K : PySem.W.Frag} {mg : Str → Option Value} {base : Heap} {C_Folding : Addr} {C_Web : Addr} {C_BadFold : Addr} {C_BadNumber : Addr} {C_BadWeb : Addr} {C_NotPlain : Addr} {C_TagError : Addr} {C_UnknownPlace : Addr} (T : Txt K mg C_Folding C_Web C_BadFold C_BadNumber C_BadWeb C_NotPlain C_TagError C_UnknownPlace) (D_check_part : Def P w K mg base "check_part" 2 4 (wf_check_part C_Web C_BadWeb C_UnknownPlace)) (D_restricted_nexts : Def P w K mg base "restricted_nexts" 2 1 wf_restricted_nexts) (D_woven : Def P w K mg base "woven" 2 6 (wf_woven C_Web)) {f : Addr} {cdv : Value} {A : Around} {outer : List Env} {s : Shared} {H : Hp} {E : XK}
    (hr : Room 6 (A.deeper (envOfC "Web.restricted" (defScope s_Web_restricted) s.heap.objs.size f cdv))) :
    BJ E (cxOf (L2.CX P w) P w K mg base N_Web_restricted "Web.restricted" (defScope s_Web_restricted) f cdv A outer s H E) (defBody s_Web_restricted) (b_Web_restricted C_Web C_BadWeb C_UnknownPlace) := by
  refine bj_cons ?_ ?_
  · refine sj_expr (k := .e) ?_
    refine ej_fn D_check_part (hr.mono (by decide)) (by rfl) passM ?_
    refine aj_consE ?_ ?_
    · exact ej_var (pv 0)
    · refine aj_consE ?_ ?_
      · exact ej_var (pv 1)
      · exact aj_nil
  · refine bj_cons ?_ ?_
    · refine sj_name (i := 2) sc_Web_restricted.nd rfl (by first | exact Or.inl rfl | exact Or.inr rfl) ?_
      refine ej_tupleX (k := .f) (by rfl) T.b_tuple ?_
      refine ej_comp (own := [("place", 3)]) (tgs := [3]) rfl sc_Web_restricted.nd (blkOk_by (by rfl)) ?_ (by decide) ?_ ?_ ?_
      · refine ij_seq ?_
        refine ej_wk ?_
        exact ej_var (pv 1)
      · refine fun _ _ _ _ _ => ?_
        exact gj_name (pg_name (i := 3) sc_Web_restricted.nd rfl (by first | exact Or.inl rfl | exact Or.inr rfl))
      · refine fun _ _ _ _ _ => ?_
        exact tsj_nil
      · refine fun _ _ _ _ _ => ?_
        refine ej_ix (ka := .e) (kb := .e) ?_ ?_ (fun _ _ => rfl)
        · refine ej_wk ?_
          refine ej_fld (k := .e) T.c_Web T.n_Web_places ?_
          exact ej_var (pv 0)
        · exact ej_var (pv 3)
    · refine bj_one ?_
      refine sj_ret ?_
      refine ej_fn D_woven (hr.mono (by decide)) (by rfl) passM ?_
      refine aj_consE ?_ ?_
      · exact ej_var (pv 2)
      · refine aj_consE ?_ ?_
        · refine ej_toE ?_
          refine ej_comp (own := [("nexts", 4)]) (tgs := [4]) rfl sc_Web_restricted.nd (blkOk_by (by rfl)) ?_ (by decide) ?_ ?_ ?_
          · refine ij_seq ?_
            refine ej_fld (k := .e) T.c_Web T.n_Web__nexts ?_
            exact ej_var (pv 0)
          · refine fun _ _ _ _ _ => ?_
            exact gj_name (pg_name (i := 4) sc_Web_restricted.nd rfl (by first | exact Or.inl rfl | exact Or.inr rfl))
          · refine fun _ _ _ _ _ => ?_
            exact tsj_nil
          · refine fun _ _ _ _ _ => ?_
            refine ej_fn D_restricted_nexts (hr.mono (by decide)) (by rfl) passL ?_
            refine aj_consE ?_ ?_
            · exact ej_var (pv 4)
            · refine aj_consE ?_ ?_
              · exact ej_var (pv 1)
              · exact aj_nil
        · exact aj_nil
abbrev N_law : List Str := ["script", "names", "ties", "cycle", "table", "row", "count", "web", "folds", "left", "k", "others", "rest", "pool", "places", "order", "moved", "place"]
theorem sc_law : FnScope N_law ["script"] (defScope s_law) := ⟨rfl, rfl, rfl, by decide +kernel, rfl, by decide +kernel, by decide +kernel⟩
theorem d_law {P : Program} {w : World} {K : PySem.W.Frag} {mg : Str → Option Value} {base : Heap} {C_Folding : Addr} {C_Web : Addr} {C_BadFold : Addr} {C_BadNumber : Addr} {C_BadWeb : Addr} {C_NotPlain : Addr} {C_TagError : Addr} {C_UnknownPlace : Addr} (T : Txt K mg C_Folding C_Web C_BadFold C_BadNumber C_BadWeb C_NotPlain C_TagError C_UnknownPlace) (D_law_draws : Def P w K mg base "_law_draws" 3 1 wf_law_draws) (D_law_finished : Def P w K mg base "_law_finished" 2 3 wf_law_finished) (D_law_is_finished : Def P w K mg base "_law_is_finished" 4 15 (wf_law_is_finished C_Folding C_Web)) (D_law_is_plain : Def P w K mg base "_law_is_plain" 1 1 wf_law_is_plain) (D_law_refused_k33 : Def P w K mg base "_law_refused" 1 15 (wf_law_refused_k33 C_Folding C_Web)) (D_law_same : Def P w K mg base "_law_same" 2 14 wf_law_same) (D_law_web_of : Def P w K mg base "_law_web_of" 5 2 wf_law_web_of) (D_fold_up : Def P w K mg base "fold_up" 1 9 (wf_fold_up C_Folding C_Web C_NotPlain)) (M_Folding___eq__ : MDef P w K mg base C_Folding "__eq__" 2 2 (wf_Folding___eq__ C_Folding C_Web)) (M_Web_restricted : MDef P w K mg base C_Web "restricted" 2 7 (wf_Web_restricted C_Web C_BadWeb C_UnknownPlace)) (P_Folding_finished : PDef P w K mg base C_Folding "finished" 7 (wf_Folding_finished C_Folding C_Web)) (P_Folding_whole : PDef P w K mg base C_Folding "whole" 1 (wf_Folding_whole C_Folding)) (K_Folding_2 : Ctor P w K mg base "Folding" C_Folding 2 [] 7 gD_K_Folding_2 (wi_Folding C_Web)) (K_Web_2_beats : Ctor P w K mg base "Web" C_Web 2 ["beats"] 4 gD_K_Web_2_beats wi_Web) {f : Addr} {cdv : Value} {A : Around} {outer : List Env} {s : Shared} {H : Hp} {E : XK}
    (hr : Room 15 (A.deeper (envOfC "law" (defScope s_law) s.heap.objs.size f cdv))) :
    BJ E (cxOf (L2.CX P w) P w K mg base N_law "law" (defScope s_law) f cdv A outer s H E) (defBody s_law) (b_law_k33 C_Folding C_Web C_BadWeb C_NotPlain C_UnknownPlace) := by
  refine bj_cons ?_ ?_
  · refine sj_tgt (tgs := [1, 2, 3, 4]) ?_ ?_
    · refine gj_lst (n := 4) rfl ?_
      refine gsj_name ?_ ?_
      · exact gj_name (pg_name (i := 1) sc_law.nd rfl (by first | exact Or.inl rfl | exact Or.inr rfl))
      · refine gsj_name ?_ ?_
        · exact gj_name (pg_name (i := 2) sc_law.nd rfl (by first | exact Or.inl rfl | exact Or.inr rfl))
        · refine gsj_name ?_ ?_
          · exact gj_name (pg_name (i := 3) sc_law.nd rfl (by first | exact Or.inl rfl | exact Or.inr rfl))
          · refine gsj_name ?_ ?_
            · exact gj_name (pg_name (i := 4) sc_law.nd rfl (by first | exact Or.inl rfl | exact Or.inr rfl))
            · exact gsj_nil
    · refine ej_fn D_law_web_of (hr.mono (by decide)) (by rfl) passM ?_
      refine aj_consE ?_ ?_
      · refine ej_fn D_law_draws (hr.mono (by decide)) (by rfl) passM ?_
        refine aj_consE ?_ ?_
        · exact ej_var (pv 0)
        · refine aj_consE ?_ ?_
          · exact ej_int
          · refine aj_consE ?_ ?_
            · exact ej_int
            · exact aj_nil
      · refine aj_consE ?_ ?_
        · exact ej_int
        · refine aj_consE ?_ ?_
          · exact ej_int
          · refine aj_consE ?_ ?_
            · exact ej_int
            · refine aj_consE ?_ ?_
              · exact ej_int
              · exact aj_nil
  · refine bj_cons ?_ ?_
    · refine sj_name (i := 5) sc_law.nd rfl (by first | exact Or.inl rfl | exact Or.inr rfl) ?_
      refine ej_ix (ka := .e) (kb := .e) ?_ ?_ (fun _ _ => rfl)
      · exact ej_var (pv 4)
      · exact ej_int
    · refine bj_cons ?_ ?_
      · refine sj_name (i := 6) sc_law.nd rfl (by first | exact Or.inl rfl | exact Or.inr rfl) ?_
        refine ej_len (k := .e) (by rfl) T.b_len ?_
        exact ej_var (pv 1)
      · refine bj_cons ?_ ?_
        · refine sj_name (i := 7) sc_law.nd rfl (by first | exact Or.inl rfl | exact Or.inr rfl) ?_
          refine ej_makeK K_Web_2_beats (hr.mono (by decide)) (by rfl) passM ?_ ?_
          · refine aj_consE ?_ ?_
            · refine ej_toE ?_
              refine ej_list1 (k := .e) (by rfl) T.b_list ?_
              exact ej_var (pv 1)
            · refine aj_consE ?_ ?_
              · refine ej_toE ?_
                refine ej_list1 (k := .e) (by rfl) T.b_list ?_
                exact ej_var (pv 2)
              · exact aj_nil
          · refine kj_cons ?_ ?_
            · exact ej_var (pv 3)
            · exact kj_nil
        · refine bj_cons ?_ ?_
          · refine sj_tgt (tgs := [8, 9]) ?_ ?_
            · refine gj_lst (n := 2) rfl ?_
              refine gsj_name ?_ ?_
              · exact gj_name (pg_name (i := 8) sc_law.nd rfl (by first | exact Or.inl rfl | exact Or.inr rfl))
              · refine gsj_name ?_ ?_
                · exact gj_name (pg_name (i := 9) sc_law.nd rfl (by first | exact Or.inl rfl | exact Or.inr rfl))
                · exact gsj_nil
            · refine ej_fn D_law_finished (hr.mono (by decide)) (by rfl) passM ?_
              refine aj_consE ?_ ?_
              · exact ej_var (pv 5)
              · refine aj_consE ?_ ?_
                · refine ej_toE ?_
                  refine ej_comp (own := [("place", 17)]) (tgs := [17]) rfl sc_law.nd (blkOk_by (by rfl)) ?_ (by decide) ?_ ?_ ?_
                  · refine ij_rng1 (ka := .e) ?_ (by rfl) T.b_range
                    exact ej_var (pv 6)
                  · refine fun _ _ _ _ _ => ?_
                    exact gj_name (pg_name (i := 17) sc_law.nd rfl (by first | exact Or.inl rfl | exact Or.inr rfl))
                  · refine fun _ _ _ _ _ => ?_
                    exact tsj_nil
                  · refine fun _ _ _ _ _ => ?_
                    exact ej_int
                · exact aj_nil
          · refine bj_cons ?_ ?_
            · refine sj_if ?_ ?_ ?_
              · refine tj_not ?_
                refine tj_tru (k := .e) ?_
                refine ej_fn D_law_is_finished (hr.mono (by decide)) (by rfl) passM ?_
                refine aj_consE ?_ ?_
                · refine ej_fn D_fold_up (hr.mono (by decide)) (by rfl) passM ?_
                  refine aj_consE ?_ ?_
                  · exact ej_var (pv 7)
                  · exact aj_nil
                · refine aj_consE ?_ ?_
                  · exact ej_var (pv 5)
                  · refine aj_consE ?_ ?_
                    · exact ej_var (pv 8)
                    · refine aj_consE ?_ ?_
                      · exact ej_var (pv 9)
                      · exact aj_nil
              · refine bj_one ?_
                refine sj_ret ?_
                exact ej_bl
              · exact bj_nil
            · refine bj_cons ?_ ?_
              · refine sj_for (tgs := [10]) (passes_of rfl) rfl ?_ ?_ ?_
                · refine ij_rng1 (ka := .e) ?_ (by rfl) T.b_range
                  refine ej_len (k := .e) (by rfl) T.b_len ?_
                  exact ej_var (pv 8)
                · exact gj_name (pg_name (i := 10) sc_law.nd rfl (by first | exact Or.inl rfl | exact Or.inr rfl))
                · refine bj_one ?_
                  refine sj_if ?_ ?_ ?_
                  · refine tj_not ?_
                    refine tj_tru (k := .e) ?_
                    refine ej_fn D_law_same (hr.mono (by decide)) (by rfl) passM ?_
                    refine aj_consE ?_ ?_
                    · refine ej_prop P_Folding_finished (hr.mono (by decide)) ?_
                      refine ej_makeK K_Folding_2 (hr.mono (by decide)) (by rfl) passM ?_ ?_
                      · refine aj_consE ?_ ?_
                        · exact ej_var (pv 7)
                        · refine aj_consE ?_ ?_
                          · refine ej_slice (ka := .e) ?_ ?_ ?_
                            · exact ej_var (pv 8)
                            · exact oj_none
                            · refine oj_some (k := .e) ?_
                              exact ej_var (pv 10)
                          · exact aj_nil
                      · exact kj_nil
                    · refine aj_consE ?_ ?_
                      · exact ej_bl
                      · exact aj_nil
                  · refine bj_one ?_
                    refine sj_ret ?_
                    exact ej_bl
                  · exact bj_nil
              · refine bj_cons ?_ ?_
                · refine sj_for (tgs := [10]) (passes_of rfl) rfl ?_ ?_ ?_
                  · refine ij_rng1 (ka := .e) ?_ (by rfl) T.b_range
                    exact ej_int
                  · exact gj_name (pg_name (i := 10) sc_law.nd rfl (by first | exact Or.inl rfl | exact Or.inr rfl))
                  · refine bj_cons ?_ ?_
                    · refine sj_tgt (tgs := [11, 12]) ?_ ?_
                      · refine gj_lst (n := 2) rfl ?_
                        refine gsj_name ?_ ?_
                        · exact gj_name (pg_name (i := 11) sc_law.nd rfl (by first | exact Or.inl rfl | exact Or.inr rfl))
                        · refine gsj_name ?_ ?_
                          · exact gj_name (pg_name (i := 12) sc_law.nd rfl (by first | exact Or.inl rfl | exact Or.inr rfl))
                          · exact gsj_nil
                      · refine ej_fn D_law_finished (hr.mono (by decide)) (by rfl) passM ?_
                        refine aj_consE ?_ ?_
                        · exact ej_var (pv 5)
                        · refine aj_consE ?_ ?_
                          · refine ej_fn D_law_draws (hr.mono (by decide)) (by rfl) passM ?_
                            refine aj_consE ?_ ?_
                            · exact ej_var (pv 0)
                            · refine aj_consE ?_ ?_
                              · refine ej_plus (ka := .e) (kb := .e) ?_ ?_
                                · exact ej_int
                                · exact ej_var (pv 10)
                              · refine aj_consE ?_ ?_
                                · exact ej_int
                                · exact aj_nil
                          · exact aj_nil
                    · refine bj_one ?_
                      refine sj_if ?_ ?_ ?_
                      · refine tj_tw ?_
                        refine twj_or ?_ ?_
                        · refine tj_not ?_
                          refine tj_tru (k := .e) ?_
                          refine ej_fn D_law_is_finished (hr.mono (by decide)) (by rfl) passM ?_
                          refine aj_consE ?_ ?_
                          · refine ej_makeK K_Folding_2 (hr.mono (by decide)) (by rfl) passM ?_ ?_
                            · refine aj_consE ?_ ?_
                              · exact ej_var (pv 7)
                              · refine aj_consE ?_ ?_
                                · refine ej_toE ?_
                                  refine ej_list1 (k := .e) (by rfl) T.b_list ?_
                                  exact ej_var (pv 11)
                                · exact aj_nil
                            · exact kj_nil
                          · refine aj_consE ?_ ?_
                            · exact ej_var (pv 5)
                            · refine aj_consE ?_ ?_
                              · exact ej_var (pv 11)
                              · refine aj_consE ?_ ?_
                                · exact ej_var (pv 12)
                                · exact aj_nil
                        · refine twj_or1 ?_
                          refine tj_ne (ka := .e) (kb := .e) hr.units ?_ ?_
                          · refine ej_len (k := .e) (by rfl) T.b_len ?_
                            exact ej_var (pv 12)
                          · refine ej_len (k := .e) (by rfl) T.b_len ?_
                            exact ej_var (pv 9)
                      · refine bj_one ?_
                        refine sj_ret ?_
                        exact ej_bl
                      · exact bj_nil
                · refine bj_cons ?_ ?_
                  · refine sj_name (i := 13) sc_law.nd rfl (by first | exact Or.inl rfl | exact Or.inr rfl) ?_
                    refine ej_fn D_law_draws (hr.mono (by decide)) (by rfl) passM ?_
                    refine aj_consE ?_ ?_
                    · exact ej_var (pv 0)
                    · refine aj_consE ?_ ?_
                      · exact ej_int
                      · refine aj_consE ?_ ?_
                        · exact ej_int
                        · exact aj_nil
                  · refine bj_cons ?_ ?_
                    · refine sj_nameO (i := 14) sc_law.nd rfl (by first | exact Or.inl rfl | exact Or.inr rfl) ?_
                      refine ej_listR (k := .e) rfl (by rfl) T.b_list (by rfl) T.b_range ?_
                      exact ej_var (pv 6)
                    · refine bj_cons ?_ ?_
                      · refine sj_nameO (i := 15) sc_law.nd rfl (by first | exact Or.inl rfl | exact Or.inr rfl) ?_
                        refine ej_lst ?_
                        exact aj_nil
                      · refine bj_cons ?_ ?_
                        · refine sj_for (tgs := [10]) (passes_of rfl) rfl ?_ ?_ ?_
                          · refine ij_rng1 (ka := .e) ?_ (by rfl) T.b_range
                            exact ej_var (pv 6)
                          · exact gj_name (pg_name (i := 10) sc_law.nd rfl (by first | exact Or.inl rfl | exact Or.inr rfl))
                          · refine bj_one ?_
                            refine sj_appPop (k := .e) (pv 15) (pv 14) ?_
                            refine ej_mod (ka := .e) (kb := .e) ?_ ?_
                            · refine ej_int1 (k := .e) (by rfl) T.b_int ?_
                              refine ej_ix (ka := .e) (kb := .e) ?_ ?_ (fun _ _ => rfl)
                              · exact ej_var (pv 13)
                              · exact ej_var (pv 10)
                            · refine ej_len (k := .o) (by rfl) T.b_len ?_
                              exact ej_peek (pv 14)
                        · refine bj_cons ?_ ?_
                          · refine sj_name (i := 16) sc_law.nd rfl (by first | exact Or.inl rfl | exact Or.inr rfl) ?_
                            refine ej_fn D_fold_up (hr.mono (by decide)) (by rfl) passM ?_
                            refine aj_consE ?_ ?_
                            · refine ej_meth M_Web_restricted (hr.mono (by decide)) passM ?_ ?_
                              · exact ej_var (pv 7)
                              · refine aj_consE ?_ ?_
                                · refine ej_toE ?_
                                  refine ej_list1 (k := .o) (by rfl) T.b_list ?_
                                  exact ej_peek (pv 15)
                                · exact aj_nil
                            · exact aj_nil
                          · refine bj_cons ?_ ?_
                            · refine sj_if ?_ ?_ ?_
                              · refine tj_tw ?_
                                refine twj_or ?_ ?_
                                · refine tj_not ?_
                                  refine tj_tru (k := .e) ?_
                                  refine ej_fn D_law_same (hr.mono (by decide)) (by rfl) passM ?_
                                  refine aj_consE ?_ ?_
                                  · refine ej_len (k := .e) (by rfl) T.b_len ?_
                                    refine ej_fld (k := .e) T.c_Folding T.n_Folding_left ?_
                                    exact ej_var (pv 16)
                                  · refine aj_consE ?_ ?_
                                    · refine ej_len (k := .e) (by rfl) T.b_len ?_
                                      exact ej_var (pv 9)
                                    · exact aj_nil
                                · refine twj_or1 ?_
                                  refine tj_not ?_
                                  refine tj_tru (k := .e) ?_
                                  refine ej_fn D_law_same (hr.mono (by decide)) (by rfl) passM ?_
                                  refine aj_consE ?_ ?_
                                  · refine ej_prop P_Folding_whole (hr.mono (by decide)) ?_
                                    exact ej_var (pv 16)
                                  · refine aj_consE ?_ ?_
                                    · refine ej_eq (ka := .e) (kb := .e) hr.units ?_ ?_
                                      · refine ej_len (k := .e) (by rfl) T.b_len ?_
                                        exact ej_var (pv 9)
                                      · exact ej_int
                                    · exact aj_nil
                              · refine bj_one ?_
                                refine sj_ret ?_
                                exact ej_bl
                              · exact bj_nil
                            · refine bj_cons ?_ ?_
                              · refine sj_if ?_ ?_ ?_
                                · refine tj_not ?_
                                  refine tj_tru (k := .e) ?_
                                  refine ej_fn D_law_same (hr.mono (by decide)) (by rfl) passM ?_
                                  refine aj_consE ?_ ?_
                                  · refine ej_fld (k := .e) T.c_Folding T.n_Folding_folds ?_
                                    refine ej_fn D_fold_up (hr.mono (by decide)) (by rfl) passM ?_
                                    refine aj_consE ?_ ?_
                                    · refine ej_meth M_Web_restricted (hr.mono (by decide)) passM ?_ ?_
                                      · exact ej_var (pv 7)
                                      · refine aj_consE ?_ ?_
                                        · refine ej_toE ?_
                                          refine ej_list1 (k := .e) (by rfl) T.b_list ?_
                                          exact ej_var (pv 9)
                                        · exact aj_nil
                                    · exact aj_nil
                                  · refine aj_consE ?_ ?_
                                    · refine ej_tup ?_
                                      exact aj_nil
                                    · exact aj_nil
                                · refine bj_one ?_
                                  refine sj_ret ?_
                                  exact ej_bl
                                · exact bj_nil
                              · refine bj_cons ?_ ?_
                                · refine sj_if ?_ ?_ ?_
                                  · refine tj_not ?_
                                    refine tj_tru (k := .e) ?_
                                    refine ej_fn D_law_same (hr.mono (by decide)) (by rfl) passM ?_
                                    refine aj_consE ?_ ?_
                                    · refine ej_eqO M_Folding___eq__ (hr.mono (by decide)) passM ?_ ?_
                                      · refine ej_fn D_fold_up (hr.mono (by decide)) (by rfl) passM ?_
                                        refine aj_consE ?_ ?_
                                        · exact ej_var (pv 7)
                                        · exact aj_nil
                                      · refine ej_makeK K_Folding_2 (hr.mono (by decide)) (by rfl) passM ?_ ?_
                                        · refine aj_consE ?_ ?_
                                          · exact ej_var (pv 7)
                                          · refine aj_consE ?_ ?_
                                            · refine ej_toE ?_
                                              refine ej_list1 (k := .e) (by rfl) T.b_list ?_
                                              exact ej_var (pv 8)
                                            · exact aj_nil
                                        · exact kj_nil
                                    · refine aj_consE ?_ ?_
                                      · exact ej_bl
                                      · exact aj_nil
                                  · refine bj_one ?_
                                    refine sj_ret ?_
                                    exact ej_bl
                                  · exact bj_nil
                                · refine bj_cons ?_ ?_
                                  · refine sj_tgt (tgs := [1, 2, 3, 4]) ?_ ?_
                                    · refine gj_lst (n := 4) rfl ?_
                                      refine gsj_name ?_ ?_
                                      · exact gj_name (pg_name (i := 1) sc_law.nd rfl (by first | exact Or.inl rfl | exact Or.inr rfl))
                                      · refine gsj_name ?_ ?_
                                        · exact gj_name (pg_name (i := 2) sc_law.nd rfl (by first | exact Or.inl rfl | exact Or.inr rfl))
                                        · refine gsj_name ?_ ?_
                                          · exact gj_name (pg_name (i := 3) sc_law.nd rfl (by first | exact Or.inl rfl | exact Or.inr rfl))
                                          · refine gsj_name ?_ ?_
                                            · exact gj_name (pg_name (i := 4) sc_law.nd rfl (by first | exact Or.inl rfl | exact Or.inr rfl))
                                            · exact gsj_nil
                                    · refine ej_fn D_law_web_of (hr.mono (by decide)) (by rfl) passM ?_
                                      refine aj_consE ?_ ?_
                                      · refine ej_fn D_law_draws (hr.mono (by decide)) (by rfl) passM ?_
                                        refine aj_consE ?_ ?_
                                        · exact ej_var (pv 0)
                                        · refine aj_consE ?_ ?_
                                          · exact ej_int
                                          · refine aj_consE ?_ ?_
                                            · exact ej_int
                                            · exact aj_nil
                                      · refine aj_consE ?_ ?_
                                        · exact ej_int
                                        · refine aj_consE ?_ ?_
                                          · exact ej_int
                                          · refine aj_consE ?_ ?_
                                            · exact ej_int
                                            · refine aj_consE ?_ ?_
                                              · exact ej_int
                                              · exact aj_nil
                                  · refine bj_one ?_
                                    refine sj_ret ?_
                                    refine ej_orV ?_ ?_
                                    · refine ej_fn D_law_is_plain (hr.mono (by decide)) (by rfl) passM ?_
                                      refine aj_consE ?_ ?_
                                      · exact ej_var (pv 4)
                                      · exact aj_nil
                                    · refine ej_b1 ?_
                                      refine ej_fn D_law_refused_k33 (hr.mono (by decide)) (by rfl) passM ?_
                                      refine aj_consE ?_ ?_
                                      · refine ej_makeK K_Web_2_beats (hr.mono (by decide)) (by rfl) passM ?_ ?_
                                        · refine aj_consE ?_ ?_
                                          · refine ej_toE ?_
                                            refine ej_list1 (k := .e) (by rfl) T.b_list ?_
                                            exact ej_var (pv 1)
                                          · refine aj_consE ?_ ?_
                                            · refine ej_toE ?_
                                              refine ej_list1 (k := .e) (by rfl) T.b_list ?_
                                              exact ej_var (pv 2)
                                            · exact aj_nil
                                        · refine kj_cons ?_ ?_
                                          · exact ej_var (pv 3)
                                          · exact kj_nil
                                      · exact aj_nil
end Tw.k33

namespace Tw.k33
open PySem PySem.Spec L2 PyProof.Rows Tw Tw.S
theorem sc_BadFold : FnScope ["self", "number"] ["self", "number"] (defScope s_BadFold___init__) := ⟨rfl, rfl, rfl, by decide +kernel, rfl, by decide +kernel, by decide +kernel⟩
theorem sc_BadNumber : FnScope ["self", "number"] ["self", "number"] (defScope s_BadNumber___init__) := ⟨rfl, rfl, rfl, by decide +kernel, rfl, by decide +kernel, by decide +kernel⟩
theorem sc_BadWeb : FnScope ["self", "part", "place"] ["self", "part", "place"] (defScope s_BadWeb___init__) := ⟨rfl, rfl, rfl, by decide +kernel, rfl, by decide +kernel, by decide +kernel⟩
theorem sc_UnknownPlace : FnScope ["self", "place"] ["self", "place"] (defScope s_UnknownPlace___init__) := ⟨rfl, rfl, rfl, by decide +kernel, rfl, by decide +kernel, by decide +kernel⟩
structure Facts (K : PySem.W.Frag) (mg : Str → Option Value) (C_Folding : Addr) (C_Web : Addr) (C_BadFold : Addr) (C_BadNumber : Addr) (C_BadWeb : Addr) (C_NotPlain : Addr) (C_TagError : Addr) (C_UnknownPlace : Addr) : Prop where
  T : Txt K mg C_Folding C_Web C_BadFold C_BadNumber C_BadWeb C_NotPlain C_TagError C_UnknownPlace
  a_law_draws : At K mg "_law_draws" s_law_draws ["script", "k", "count"]
  a_law_covered : At K mg "_law_covered" s_law_covered ["row", "left", "u", "v"]
  a_law_possible : At K mg "_law_possible" s_law_possible ["row", "left"]
  a_law_finished : At K mg "_law_finished" s_law_finished ["row", "pool"]
  a_law_is_int : At K mg "_law_is_int" s_law_is_int ["x"]
  a_law_same : At K mg "_law_same" s_law_same ["got", "due"]
  a_Web___len__ : AtM K C_Web "__len__" "Web.__len__" s_Web___len__ ["self"]
  a_check_place : At K mg "check_place" s_check_place ["web", "place"]
  a_Web_steps : AtM K C_Web "steps" "Web.steps" s_Web_steps ["self", "place", "beat"]
  a_is_covered : At K mg "is_covered" s_is_covered ["web", "left", "u", "v"]
  a_least_fold : At K mg "least_fold" s_least_fold ["web", "left"]
  a_Folding_finished : AtP K C_Folding "finished" "Folding.finished" s_Folding_finished
  a_Folding_shadow : AtM K C_Folding "shadow" "Folding.shadow" s_Folding_shadow ["self", "level", "place"]
  a_Folding_whole : AtP K C_Folding "whole" "Folding.whole" s_Folding_whole
  a_law_is_finished : At K mg "_law_is_finished" s_law_is_finished ["folding", "row", "folds", "left"]
  a_law_is_plain : At K mg "_law_is_plain" s_law_is_plain ["table"]
  a_places_into : At K mg "places_into" s_places_into ["row", "place"]
  a_backward_nexts : At K mg "backward_nexts" s_backward_nexts ["nexts"]
  a_Web_doorless : AtP K C_Web "doorless" "Web.doorless" s_Web_doorless
  a_Web_plain : AtP K C_Web "plain" "Web.plain" s_Web_plain
  a_check_plain : At K mg "check_plain" s_check_plain ["web"]
  a_without : At K mg "without" s_without ["left", "place"]
  a_left_by : At K mg "left_by" s_left_by ["web", "folds"]
  a_fold_up : At K mg "fold_up" s_fold_up ["web"]
  a_law_refused_k33 : At K mg "_law_refused" s_law_refused_k33 ["web"]
  a_law_names : At K mg "_law_names" s_law_names ["pool", "at", "count"]
  a_law_table : At K mg "_law_table" s_law_table ["names", "ties", "cycle"]
  a_law_way_ties : At K mg "_law_way_ties" s_law_way_ties ["pool", "at", "names", "cycle", "kind"]
  a_law_web_of : At K mg "_law_web_of" s_law_web_of ["pool", "fewest", "greatest", "kinds", "longest"]
  a_Web___eq__ : AtM K C_Web "__eq__" "Web.__eq__" s_Web___eq__ ["self", "other"]
  a_Folding___eq__ : AtM K C_Folding "__eq__" "Folding.__eq__" s_Folding___eq__ ["self", "other"]
  a_check_part : At K mg "check_part" s_check_part ["web", "places"]
  a_restricted_nexts : At K mg "restricted_nexts" s_restricted_nexts ["row", "places"]
  a_ties_between : At K mg "ties_between" s_ties_between ["places", "nexts", "u", "v"]
  a_ties_of : At K mg "ties_of" s_ties_of ["places", "nexts"]
  a_is_name : At K mg "is_name" s_is_name ["text"]
  a_check_names : At K mg "check_names" s_check_names ["places"]
  a_is_set : At K mg "is_set" s_is_set ["places", "count"]
  a_is_tie : At K mg "is_tie" s_is_tie ["places", "tie", "beats"]
  a_check_ties : At K mg "check_ties" s_check_ties ["places", "ties", "beats"]
  a_nexts_at : At K mg "nexts_at" s_nexts_at ["given", "beat", "count"]
  a_nexts_of : At K mg "nexts_of" s_nexts_of ["places", "ties", "beats"]
  a_steps_of : At K mg "steps_of" s_steps_of ["nexts"]
  a_woven : At K mg "woven" s_woven ["places", "nexts"]
  a_Web_restricted : AtM K C_Web "restricted" "Web.restricted" s_Web_restricted ["self", "places"]
  a_law : At K mg "law" s_law ["script"]
  a_K_Folding_2 : AtI K mg "Folding" C_Folding "Folding.__init__" s_Folding___init__ ["self", "web", "folds"] 2 [] gD_K_Folding_2
  a_K_Web_2_beats : AtI K mg "Web" C_Web "Web.__init__" s_Web___init__ ["self", "places", "ties", "beats"] 2 ["beats"] gD_K_Web_2_beats
  e_BadFold : AtE K mg "BadFold" C_BadFold "BadFold.__init__" s_BadFold___init__ ["self", "number"] ["number"]
  e_BadNumber : AtE K mg "BadNumber" C_BadNumber "BadNumber.__init__" s_BadNumber___init__ ["self", "number"] ["number"]
  e_BadWeb : AtE K mg "BadWeb" C_BadWeb "BadWeb.__init__" s_BadWeb___init__ ["self", "part", "place"] ["part", "place"]
  e_UnknownPlace : AtE K mg "UnknownPlace" C_UnknownPlace "UnknownPlace.__init__" s_UnknownPlace___init__ ["self", "place"] ["place"]
  z_NotPlain : Err0 K mg "NotPlain" C_NotPlain
theorem R_BadFold {P : Program} {w : World} {K : PySem.W.Frag} {mg : Str → Option Value} {base : Heap} {C_Folding : Addr} {C_Web : Addr} {C_BadFold : Addr} {C_BadNumber : Addr} {C_BadWeb : Addr} {C_NotPlain : Addr} {C_TagError : Addr} {C_UnknownPlace : Addr} (F : Facts K mg C_Folding C_Web C_BadFold C_BadNumber C_BadWeb C_NotPlain C_TagError C_UnknownPlace) : Err P w K mg base "BadFold" C_BadFold ["number"] 1 :=
  err_mk1 F.e_BadFold sc_BadFold (fun fI cdv A outer s H E => pss_one (ps_ost (pv 0) (pv 1)))
theorem R_BadNumber {P : Program} {w : World} {K : PySem.W.Frag} {mg : Str → Option Value} {base : Heap} {C_Folding : Addr} {C_Web : Addr} {C_BadFold : Addr} {C_BadNumber : Addr} {C_BadWeb : Addr} {C_NotPlain : Addr} {C_TagError : Addr} {C_UnknownPlace : Addr} (F : Facts K mg C_Folding C_Web C_BadFold C_BadNumber C_BadWeb C_NotPlain C_TagError C_UnknownPlace) : Err P w K mg base "BadNumber" C_BadNumber ["number"] 1 :=
  err_mk1 F.e_BadNumber sc_BadNumber (fun fI cdv A outer s H E => pss_one (ps_ost (pv 0) (pv 1)))
theorem R_BadWeb {P : Program} {w : World} {K : PySem.W.Frag} {mg : Str → Option Value} {base : Heap} {C_Folding : Addr} {C_Web : Addr} {C_BadFold : Addr} {C_BadNumber : Addr} {C_BadWeb : Addr} {C_NotPlain : Addr} {C_TagError : Addr} {C_UnknownPlace : Addr} (F : Facts K mg C_Folding C_Web C_BadFold C_BadNumber C_BadWeb C_NotPlain C_TagError C_UnknownPlace) : Err P w K mg base "BadWeb" C_BadWeb ["part", "place"] 1 :=
  err_mk2 F.e_BadWeb sc_BadWeb (fun fI cdv A outer s H E => pss_cons (ps_ost (pv 0) (pv 1)) (pss_one (ps_ost (pv 0) (pv 2))))
theorem R_UnknownPlace {P : Program} {w : World} {K : PySem.W.Frag} {mg : Str → Option Value} {base : Heap} {C_Folding : Addr} {C_Web : Addr} {C_BadFold : Addr} {C_BadNumber : Addr} {C_BadWeb : Addr} {C_NotPlain : Addr} {C_TagError : Addr} {C_UnknownPlace : Addr} (F : Facts K mg C_Folding C_Web C_BadFold C_BadNumber C_BadWeb C_NotPlain C_TagError C_UnknownPlace) : Err P w K mg base "UnknownPlace" C_UnknownPlace ["place"] 1 :=
  err_mk1 F.e_UnknownPlace sc_UnknownPlace (fun fI cdv A outer s H E => pss_one (ps_ost (pv 0) (pv 1)))
theorem D_law_draws {P : Program} {w : World} {K : PySem.W.Frag} {mg : Str → Option Value} {base : Heap} {C_Folding : Addr} {C_Web : Addr} {C_BadFold : Addr} {C_BadNumber : Addr} {C_BadWeb : Addr} {C_NotPlain : Addr} {C_TagError : Addr} {C_UnknownPlace : Addr} (F : Facts K mg C_Folding C_Web C_BadFold C_BadNumber C_BadWeb C_NotPlain C_TagError C_UnknownPlace) : Def P w K mg base "_law_draws" 3 1 wf_law_draws :=
  def_ok F.a_law_draws sc_law_draws mo_wf_law_draws hn_wf_law_draws (fun f cdv A outer s H E hr => d_law_draws F.T  hr) (fun xc ds Q h => p_law_draws  xc ds Q h)
theorem D_law_covered {P : Program} {w : World} {K : PySem.W.Frag} {mg : Str → Option Value} {base : Heap} {C_Folding : Addr} {C_Web : Addr} {C_BadFold : Addr} {C_BadNumber : Addr} {C_BadWeb : Addr} {C_NotPlain : Addr} {C_TagError : Addr} {C_UnknownPlace : Addr} (F : Facts K mg C_Folding C_Web C_BadFold C_BadNumber C_BadWeb C_NotPlain C_TagError C_UnknownPlace) : Def P w K mg base "_law_covered" 4 1 wf_law_covered :=
  def_ok F.a_law_covered sc_law_covered mo_wf_law_covered hn_wf_law_covered (fun f cdv A outer s H E hr => d_law_covered F.T  hr) (fun xc ds Q h => p_law_covered  xc ds Q h)
theorem D_law_possible {P : Program} {w : World} {K : PySem.W.Frag} {mg : Str → Option Value} {base : Heap} {C_Folding : Addr} {C_Web : Addr} {C_BadFold : Addr} {C_BadNumber : Addr} {C_BadWeb : Addr} {C_NotPlain : Addr} {C_TagError : Addr} {C_UnknownPlace : Addr} (F : Facts K mg C_Folding C_Web C_BadFold C_BadNumber C_BadWeb C_NotPlain C_TagError C_UnknownPlace) : Def P w K mg base "_law_possible" 2 2 wf_law_possible :=
  def_ok F.a_law_possible sc_law_possible mo_wf_law_possible hn_wf_law_possible (fun f cdv A outer s H E hr => d_law_possible F.T (D_law_covered F) hr) (fun xc ds Q h => p_law_possible  xc ds Q h)
theorem D_law_finished {P : Program} {w : World} {K : PySem.W.Frag} {mg : Str → Option Value} {base : Heap} {C_Folding : Addr} {C_Web : Addr} {C_BadFold : Addr} {C_BadNumber : Addr} {C_BadWeb : Addr} {C_NotPlain : Addr} {C_TagError : Addr} {C_UnknownPlace : Addr} (F : Facts K mg C_Folding C_Web C_BadFold C_BadNumber C_BadWeb C_NotPlain C_TagError C_UnknownPlace) : Def P w K mg base "_law_finished" 2 3 wf_law_finished :=
  def_ok F.a_law_finished sc_law_finished mo_wf_law_finished hn_wf_law_finished (fun f cdv A outer s H E hr => d_law_finished F.T (D_law_possible F) hr) (fun xc ds Q h => p_law_finished  xc ds Q h)
theorem D_law_is_int {P : Program} {w : World} {K : PySem.W.Frag} {mg : Str → Option Value} {base : Heap} {C_Folding : Addr} {C_Web : Addr} {C_BadFold : Addr} {C_BadNumber : Addr} {C_BadWeb : Addr} {C_NotPlain : Addr} {C_TagError : Addr} {C_UnknownPlace : Addr} (F : Facts K mg C_Folding C_Web C_BadFold C_BadNumber C_BadWeb C_NotPlain C_TagError C_UnknownPlace) : Def P w K mg base "_law_is_int" 1 1 wf_law_is_int :=
  def_ok F.a_law_is_int sc_law_is_int mo_wf_law_is_int hn_wf_law_is_int (fun f cdv A outer s H E hr => d_law_is_int F.T  hr) (fun xc ds Q h => p_law_is_int  xc ds Q h)
def wfNo : Wf := fun _ _ _ => False
theorem mo_same (n : Nat) : MoF (wfSame n) := mo_wfSame
theorem hn_same (n : Nat) : ∀ ds xc Q, wfSame n xc ds Q → ds.length = 2 := hn_wfSame
theorem D_law_same_no {P : Program} {w : World} {K : PySem.W.Frag} {mg : Str → Option Value} {base : Heap} {C_Folding : Addr} {C_Web : Addr} {C_BadFold : Addr} {C_BadNumber : Addr} {C_BadWeb : Addr} {C_NotPlain : Addr} {C_TagError : Addr} {C_UnknownPlace : Addr} (F : Facts K mg C_Folding C_Web C_BadFold C_BadNumber C_BadWeb C_NotPlain C_TagError C_UnknownPlace) : Def P w K mg base "_law_same" 2 2 wfNo :=
  def_ok (k := 1) F.a_law_same sc_law_same (fun _ _ _ _ _ h => h.elim) (fun _ _ _ h => h.elim) (fun f cdv A outer s H E hr => bj_never) (fun xc ds Q h => h.elim)
theorem D_law_same_n {P : Program} {w : World} {K : PySem.W.Frag} {mg : Str → Option Value} {base : Heap} {C_Folding : Addr} {C_Web : Addr} {C_BadFold : Addr} {C_BadNumber : Addr} {C_BadWeb : Addr} {C_NotPlain : Addr} {C_TagError : Addr} {C_UnknownPlace : Addr} (F : Facts K mg C_Folding C_Web C_BadFold C_BadNumber C_BadWeb C_NotPlain C_TagError C_UnknownPlace) (n : Nat) : Def P w K mg base "_law_same" 2 (4 + 2 * n) (wfSame n) := by
  induction n with
  | zero => exact def_ok (k := 2 + 1) F.a_law_same sc_law_same (mo_same 0) (hn_same 0) (fun f cdv A outer s H E hr => d_law_same F.T (D_law_is_int F) (D_law_same_no F) hr) (fun xc ds Q h => p_law_same0 wfNo xc ds Q h)
  | succ n ih => exact def_ok (k := 4 + 2 * n + 1) F.a_law_same sc_law_same (mo_same (n + 1)) (hn_same (n + 1)) (fun f cdv A outer s H E hr => d_law_same F.T (D_law_is_int F) ih hr) (fun xc ds Q h => p_law_same n xc ds Q h)
theorem D_law_same {P : Program} {w : World} {K : PySem.W.Frag} {mg : Str → Option Value} {base : Heap} {C_Folding : Addr} {C_Web : Addr} {C_BadFold : Addr} {C_BadNumber : Addr} {C_BadWeb : Addr} {C_NotPlain : Addr} {C_TagError : Addr} {C_UnknownPlace : Addr} (F : Facts K mg C_Folding C_Web C_BadFold C_BadNumber C_BadWeb C_NotPlain C_TagError C_UnknownPlace) : Def P w K mg base "_law_same" 2 14 wf_law_same := D_law_same_n F 5
theorem M_Web___len__ {P : Program} {w : World} {K : PySem.W.Frag} {mg : Str → Option Value} {base : Heap} {C_Folding : Addr} {C_Web : Addr} {C_BadFold : Addr} {C_BadNumber : Addr} {C_BadWeb : Addr} {C_NotPlain : Addr} {C_TagError : Addr} {C_UnknownPlace : Addr} (F : Facts K mg C_Folding C_Web C_BadFold C_BadNumber C_BadWeb C_NotPlain C_TagError C_UnknownPlace) : MDef P w K mg base C_Web "__len__" 1 1 (wf_Web___len__ C_Web) :=
  mdef_ok F.a_Web___len__ F.T.c_Web sc_Web___len__ mo_wf_Web___len__ hn_wf_Web___len__ (fun f cdv A outer s H E hr => d_Web___len__ F.T  hr) (fun xc ds Q h => p_len C_Web xc ds Q h)
theorem D_check_place {P : Program} {w : World} {K : PySem.W.Frag} {mg : Str → Option Value} {base : Heap} {C_Folding : Addr} {C_Web : Addr} {C_BadFold : Addr} {C_BadNumber : Addr} {C_BadWeb : Addr} {C_NotPlain : Addr} {C_TagError : Addr} {C_UnknownPlace : Addr} (F : Facts K mg C_Folding C_Web C_BadFold C_BadNumber C_BadWeb C_NotPlain C_TagError C_UnknownPlace) : Def P w K mg base "check_place" 2 3 (wf_check_place C_Web C_UnknownPlace) :=
  def_ok F.a_check_place sc_check_place mo_wf_check_place hn_wf_check_place (fun f cdv A outer s H E hr => d_check_place F.T (M_Web___len__ F) (R_UnknownPlace F) hr) (fun xc ds Q h => p_check_place C_Web C_UnknownPlace xc ds Q h)
theorem M_Web_steps {P : Program} {w : World} {K : PySem.W.Frag} {mg : Str → Option Value} {base : Heap} {C_Folding : Addr} {C_Web : Addr} {C_BadFold : Addr} {C_BadNumber : Addr} {C_BadWeb : Addr} {C_NotPlain : Addr} {C_TagError : Addr} {C_UnknownPlace : Addr} (F : Facts K mg C_Folding C_Web C_BadFold C_BadNumber C_BadWeb C_NotPlain C_TagError C_UnknownPlace) : MDef P w K mg base C_Web "steps" 3 4 (wf_Web_steps C_Web C_UnknownPlace) :=
  mdef_ok F.a_Web_steps F.T.c_Web sc_Web_steps mo_wf_Web_steps hn_wf_Web_steps (fun f cdv A outer s H E hr => d_Web_steps F.T (D_check_place F) hr) (fun xc ds Q h => p_steps C_Web C_UnknownPlace xc ds Q h)
theorem D_is_covered {P : Program} {w : World} {K : PySem.W.Frag} {mg : Str → Option Value} {base : Heap} {C_Folding : Addr} {C_Web : Addr} {C_BadFold : Addr} {C_BadNumber : Addr} {C_BadWeb : Addr} {C_NotPlain : Addr} {C_TagError : Addr} {C_UnknownPlace : Addr} (F : Facts K mg C_Folding C_Web C_BadFold C_BadNumber C_BadWeb C_NotPlain C_TagError C_UnknownPlace) : Def P w K mg base "is_covered" 4 5 (wf_is_covered C_Web) :=
  def_ok F.a_is_covered sc_is_covered mo_wf_is_covered hn_wf_is_covered (fun f cdv A outer s H E hr => d_is_covered F.T (M_Web_steps F) hr) (fun xc ds Q h => p_is_covered C_Web C_UnknownPlace xc ds Q h)
theorem D_least_fold {P : Program} {w : World} {K : PySem.W.Frag} {mg : Str → Option Value} {base : Heap} {C_Folding : Addr} {C_Web : Addr} {C_BadFold : Addr} {C_BadNumber : Addr} {C_BadWeb : Addr} {C_NotPlain : Addr} {C_TagError : Addr} {C_UnknownPlace : Addr} (F : Facts K mg C_Folding C_Web C_BadFold C_BadNumber C_BadWeb C_NotPlain C_TagError C_UnknownPlace) : Def P w K mg base "least_fold" 2 6 (wf_least_fold C_Web) :=
  def_ok F.a_least_fold sc_least_fold mo_wf_least_fold hn_wf_least_fold (fun f cdv A outer s H E hr => d_least_fold F.T (D_is_covered F) hr) (fun xc ds Q h => p_least_fold C_Web xc ds Q h)
theorem P_Folding_finished {P : Program} {w : World} {K : PySem.W.Frag} {mg : Str → Option Value} {base : Heap} {C_Folding : Addr} {C_Web : Addr} {C_BadFold : Addr} {C_BadNumber : Addr} {C_BadWeb : Addr} {C_NotPlain : Addr} {C_TagError : Addr} {C_UnknownPlace : Addr} (F : Facts K mg C_Folding C_Web C_BadFold C_BadNumber C_BadWeb C_NotPlain C_TagError C_UnknownPlace) : PDef P w K mg base C_Folding "finished" 7 (wf_Folding_finished C_Folding C_Web) :=
  pdef_ok F.a_Folding_finished F.T.c_Folding sc_Folding_finished mo_wf_Folding_finished hn_wf_Folding_finished (fun f cdv A outer s H E hr => d_Folding_finished F.T (D_least_fold F) hr) (fun xc ds Q h => p_Folding_finished C_Folding C_Web xc ds Q h)
theorem M_Folding_shadow {P : Program} {w : World} {K : PySem.W.Frag} {mg : Str → Option Value} {base : Heap} {C_Folding : Addr} {C_Web : Addr} {C_BadFold : Addr} {C_BadNumber : Addr} {C_BadWeb : Addr} {C_NotPlain : Addr} {C_TagError : Addr} {C_UnknownPlace : Addr} (F : Facts K mg C_Folding C_Web C_BadFold C_BadNumber C_BadWeb C_NotPlain C_TagError C_UnknownPlace) : MDef P w K mg base C_Folding "shadow" 3 4 (wf_Folding_shadow C_Folding C_Web) :=
  mdef_ok F.a_Folding_shadow F.T.c_Folding sc_Folding_shadow mo_wf_Folding_shadow hn_wf_Folding_shadow (fun f cdv A outer s H E hr => d_Folding_shadow F.T (D_check_place F) (R_BadNumber F) hr) (fun xc ds Q h => p_Folding_shadow C_Folding C_Web C_BadNumber C_UnknownPlace xc ds Q h)
theorem P_Folding_whole {P : Program} {w : World} {K : PySem.W.Frag} {mg : Str → Option Value} {base : Heap} {C_Folding : Addr} {C_Web : Addr} {C_BadFold : Addr} {C_BadNumber : Addr} {C_BadWeb : Addr} {C_NotPlain : Addr} {C_TagError : Addr} {C_UnknownPlace : Addr} (F : Facts K mg C_Folding C_Web C_BadFold C_BadNumber C_BadWeb C_NotPlain C_TagError C_UnknownPlace) : PDef P w K mg base C_Folding "whole" 1 (wf_Folding_whole C_Folding) :=
  pdef_ok F.a_Folding_whole F.T.c_Folding sc_Folding_whole mo_wf_Folding_whole hn_wf_Folding_whole (fun f cdv A outer s H E hr => d_Folding_whole F.T  hr) (fun xc ds Q h => p_Folding_whole C_Folding xc ds Q h)
theorem D_law_is_finished {P : Program} {w : World} {K : PySem.W.Frag} {mg : Str → Option Value} {base : Heap} {C_Folding : Addr} {C_Web : Addr} {C_BadFold : Addr} {C_BadNumber : Addr} {C_BadWeb : Addr} {C_NotPlain : Addr} {C_TagError : Addr} {C_UnknownPlace : Addr} (F : Facts K mg C_Folding C_Web C_BadFold C_BadNumber C_BadWeb C_NotPlain C_TagError C_UnknownPlace) : Def P w K mg base "_law_is_finished" 4 15 (wf_law_is_finished C_Folding C_Web) :=
  def_ok F.a_law_is_finished sc_law_is_finished mo_wf_law_is_finished hn_wf_law_is_finished (fun f cdv A outer s H E hr => d_law_is_finished F.T (D_law_same F) (M_Folding_shadow F) (P_Folding_finished F) (P_Folding_whole F) hr) (fun xc ds Q h => p_law_is_finished C_Folding C_Web xc ds Q h)
theorem D_law_is_plain {P : Program} {w : World} {K : PySem.W.Frag} {mg : Str → Option Value} {base : Heap} {C_Folding : Addr} {C_Web : Addr} {C_BadFold : Addr} {C_BadNumber : Addr} {C_BadWeb : Addr} {C_NotPlain : Addr} {C_TagError : Addr} {C_UnknownPlace : Addr} (F : Facts K mg C_Folding C_Web C_BadFold C_BadNumber C_BadWeb C_NotPlain C_TagError C_UnknownPlace) : Def P w K mg base "_law_is_plain" 1 1 wf_law_is_plain :=
  def_ok F.a_law_is_plain sc_law_is_plain mo_wf_law_is_plain hn_wf_law_is_plain (fun f cdv A outer s H E hr => d_law_is_plain F.T  hr) (fun xc ds Q h => p_law_is_plain  xc ds Q h)
theorem D_places_into {P : Program} {w : World} {K : PySem.W.Frag} {mg : Str → Option Value} {base : Heap} {C_Folding : Addr} {C_Web : Addr} {C_BadFold : Addr} {C_BadNumber : Addr} {C_BadWeb : Addr} {C_NotPlain : Addr} {C_TagError : Addr} {C_UnknownPlace : Addr} (F : Facts K mg C_Folding C_Web C_BadFold C_BadNumber C_BadWeb C_NotPlain C_TagError C_UnknownPlace) : Def P w K mg base "places_into" 2 1 wf_places_into :=
  def_ok F.a_places_into sc_places_into mo_wf_places_into hn_wf_places_into (fun f cdv A outer s H E hr => d_places_into F.T  hr) (fun xc ds Q h => p_places_into  xc ds Q h)
theorem D_backward_nexts {P : Program} {w : World} {K : PySem.W.Frag} {mg : Str → Option Value} {base : Heap} {C_Folding : Addr} {C_Web : Addr} {C_BadFold : Addr} {C_BadNumber : Addr} {C_BadWeb : Addr} {C_NotPlain : Addr} {C_TagError : Addr} {C_UnknownPlace : Addr} (F : Facts K mg C_Folding C_Web C_BadFold C_BadNumber C_BadWeb C_NotPlain C_TagError C_UnknownPlace) : Def P w K mg base "backward_nexts" 1 2 wf_backward_nexts :=
  def_ok F.a_backward_nexts sc_backward_nexts mo_wf_backward_nexts hn_wf_backward_nexts (fun f cdv A outer s H E hr => d_backward_nexts F.T (D_places_into F) hr) (fun xc ds Q h => p_backward_nexts  xc ds Q h)
theorem P_Web_doorless {P : Program} {w : World} {K : PySem.W.Frag} {mg : Str → Option Value} {base : Heap} {C_Folding : Addr} {C_Web : Addr} {C_BadFold : Addr} {C_BadNumber : Addr} {C_BadWeb : Addr} {C_NotPlain : Addr} {C_TagError : Addr} {C_UnknownPlace : Addr} (F : Facts K mg C_Folding C_Web C_BadFold C_BadNumber C_BadWeb C_NotPlain C_TagError C_UnknownPlace) : PDef P w K mg base C_Web "doorless" 1 (wf_Web_doorless C_Web) :=
  pdef_ok F.a_Web_doorless F.T.c_Web sc_Web_doorless mo_wf_Web_doorless hn_wf_Web_doorless (fun f cdv A outer s H E hr => d_Web_doorless F.T  hr) (fun xc ds Q h => p_Web_doorless C_Web xc ds Q h)
theorem P_Web_plain {P : Program} {w : World} {K : PySem.W.Frag} {mg : Str → Option Value} {base : Heap} {C_Folding : Addr} {C_Web : Addr} {C_BadFold : Addr} {C_BadNumber : Addr} {C_BadWeb : Addr} {C_NotPlain : Addr} {C_TagError : Addr} {C_UnknownPlace : Addr} (F : Facts K mg C_Folding C_Web C_BadFold C_BadNumber C_BadWeb C_NotPlain C_TagError C_UnknownPlace) : PDef P w K mg base C_Web "plain" 3 (wf_Web_plain C_Web) :=
  pdef_ok F.a_Web_plain F.T.c_Web sc_Web_plain mo_wf_Web_plain hn_wf_Web_plain (fun f cdv A outer s H E hr => d_Web_plain F.T (D_backward_nexts F) (P_Web_doorless F) hr) (fun xc ds Q h => p_Web_plain C_Web xc ds Q h)
theorem D_check_plain {P : Program} {w : World} {K : PySem.W.Frag} {mg : Str → Option Value} {base : Heap} {C_Folding : Addr} {C_Web : Addr} {C_BadFold : Addr} {C_BadNumber : Addr} {C_BadWeb : Addr} {C_NotPlain : Addr} {C_TagError : Addr} {C_UnknownPlace : Addr} (F : Facts K mg C_Folding C_Web C_BadFold C_BadNumber C_BadWeb C_NotPlain C_TagError C_UnknownPlace) : Def P w K mg base "check_plain" 1 5 (wf_check_plain C_Web C_NotPlain) :=
  def_ok F.a_check_plain sc_check_plain mo_wf_check_plain hn_wf_check_plain (fun f cdv A outer s H E hr => d_check_plain F.T (P_Web_plain F) F.z_NotPlain hr) (fun xc ds Q h => p_check_plain C_Web C_NotPlain xc ds Q h)
theorem D_without {P : Program} {w : World} {K : PySem.W.Frag} {mg : Str → Option Value} {base : Heap} {C_Folding : Addr} {C_Web : Addr} {C_BadFold : Addr} {C_BadNumber : Addr} {C_BadWeb : Addr} {C_NotPlain : Addr} {C_TagError : Addr} {C_UnknownPlace : Addr} (F : Facts K mg C_Folding C_Web C_BadFold C_BadNumber C_BadWeb C_NotPlain C_TagError C_UnknownPlace) : Def P w K mg base "without" 2 1 wf_without :=
  def_ok F.a_without sc_without mo_wf_without hn_wf_without (fun f cdv A outer s H E hr => d_without F.T  hr) (fun xc ds Q h => p_without  xc ds Q h)
theorem D_left_by {P : Program} {w : World} {K : PySem.W.Frag} {mg : Str → Option Value} {base : Heap} {C_Folding : Addr} {C_Web : Addr} {C_BadFold : Addr} {C_BadNumber : Addr} {C_BadWeb : Addr} {C_NotPlain : Addr} {C_TagError : Addr} {C_UnknownPlace : Addr} (F : Facts K mg C_Folding C_Web C_BadFold C_BadNumber C_BadWeb C_NotPlain C_TagError C_UnknownPlace) : Def P w K mg base "left_by" 2 6 (wf_left_by C_Web) :=
  def_ok F.a_left_by sc_left_by mo_wf_left_by hn_wf_left_by (fun f cdv A outer s H E hr => d_left_by F.T (D_is_covered F) (D_without F) (M_Web___len__ F) (R_BadFold F) hr) (fun xc ds Q h => p_left_by C_Web C_BadFold xc ds Q h)
theorem K_Folding_2 {P : Program} {w : World} {K : PySem.W.Frag} {mg : Str → Option Value} {base : Heap} {C_Folding : Addr} {C_Web : Addr} {C_BadFold : Addr} {C_BadNumber : Addr} {C_BadWeb : Addr} {C_NotPlain : Addr} {C_TagError : Addr} {C_UnknownPlace : Addr} (F : Facts K mg C_Folding C_Web C_BadFold C_BadNumber C_BadWeb C_NotPlain C_TagError C_UnknownPlace) : Ctor P w K mg base "Folding" C_Folding 2 [] 7 gD_K_Folding_2 (wi_Folding C_Web) :=
  ctor_ok (m := 2) F.a_K_Folding_2 rfl sc_Folding___init__ mo_wi_Folding hn_wi_Folding (fun f cdv A outer s H E hr => d_Folding___init__ F.T (D_check_plain F) (D_left_by F) hr) (fun xc ds Q p h => p_Folding_init C_Folding C_Web C_NotPlain xc ds Q p h)
theorem D_fold_up {P : Program} {w : World} {K : PySem.W.Frag} {mg : Str → Option Value} {base : Heap} {C_Folding : Addr} {C_Web : Addr} {C_BadFold : Addr} {C_BadNumber : Addr} {C_BadWeb : Addr} {C_NotPlain : Addr} {C_TagError : Addr} {C_UnknownPlace : Addr} (F : Facts K mg C_Folding C_Web C_BadFold C_BadNumber C_BadWeb C_NotPlain C_TagError C_UnknownPlace) : Def P w K mg base "fold_up" 1 9 (wf_fold_up C_Folding C_Web C_NotPlain) :=
  def_ok F.a_fold_up sc_fold_up mo_wf_fold_up hn_wf_fold_up (fun f cdv A outer s H E hr => d_fold_up F.T (D_check_plain F) (D_least_fold F) (D_without F) (M_Web___len__ F) (K_Folding_2 F) hr) (fun xc ds Q h => p_fold_up C_Folding C_Web C_NotPlain xc ds Q h)
theorem D_law_refused_k33 {P : Program} {w : World} {K : PySem.W.Frag} {mg : Str → Option Value} {base : Heap} {C_Folding : Addr} {C_Web : Addr} {C_BadFold : Addr} {C_BadNumber : Addr} {C_BadWeb : Addr} {C_NotPlain : Addr} {C_TagError : Addr} {C_UnknownPlace : Addr} (F : Facts K mg C_Folding C_Web C_BadFold C_BadNumber C_BadWeb C_NotPlain C_TagError C_UnknownPlace) : Def P w K mg base "_law_refused" 1 15 (wf_law_refused_k33 C_Folding C_Web) :=
  def_ok F.a_law_refused_k33 sc_law_refused_k33 mo_wf_law_refused_k33 hn_wf_law_refused_k33 (fun f cdv A outer s H E hr => d_law_refused_k33 F.T (D_law_same F) (D_fold_up F) hr) (fun xc ds Q h => p_law_refused_k33 C_Folding C_Web C_NotPlain xc ds Q h)
theorem D_law_names {P : Program} {w : World} {K : PySem.W.Frag} {mg : Str → Option Value} {base : Heap} {C_Folding : Addr} {C_Web : Addr} {C_BadFold : Addr} {C_BadNumber : Addr} {C_BadWeb : Addr} {C_NotPlain : Addr} {C_TagError : Addr} {C_UnknownPlace : Addr} (F : Facts K mg C_Folding C_Web C_BadFold C_BadNumber C_BadWeb C_NotPlain C_TagError C_UnknownPlace) : Def P w K mg base "_law_names" 3 1 wf_law_names :=
  def_ok F.a_law_names sc_law_names mo_wf_law_names hn_wf_law_names (fun f cdv A outer s H E hr => d_law_names F.T  hr) (fun xc ds Q h => p_law_names  xc ds Q h)
theorem D_law_table {P : Program} {w : World} {K : PySem.W.Frag} {mg : Str → Option Value} {base : Heap} {C_Folding : Addr} {C_Web : Addr} {C_BadFold : Addr} {C_BadNumber : Addr} {C_BadWeb : Addr} {C_NotPlain : Addr} {C_TagError : Addr} {C_UnknownPlace : Addr} (F : Facts K mg C_Folding C_Web C_BadFold C_BadNumber C_BadWeb C_NotPlain C_TagError C_UnknownPlace) : Def P w K mg base "_law_table" 3 1 wf_law_table :=
  def_ok F.a_law_table sc_law_table mo_wf_law_table hn_wf_law_table (fun f cdv A outer s H E hr => d_law_table F.T  hr) (fun xc ds Q h => p_law_table  xc ds Q h)
theorem D_law_way_ties {P : Program} {w : World} {K : PySem.W.Frag} {mg : Str → Option Value} {base : Heap} {C_Folding : Addr} {C_Web : Addr} {C_BadFold : Addr} {C_BadNumber : Addr} {C_BadWeb : Addr} {C_NotPlain : Addr} {C_TagError : Addr} {C_UnknownPlace : Addr} (F : Facts K mg C_Folding C_Web C_BadFold C_BadNumber C_BadWeb C_NotPlain C_TagError C_UnknownPlace) : Def P w K mg base "_law_way_ties" 5 1 wf_law_way_ties :=
  def_ok F.a_law_way_ties sc_law_way_ties mo_wf_law_way_ties hn_wf_law_way_ties (fun f cdv A outer s H E hr => d_law_way_ties F.T  hr) (fun xc ds Q h => p_law_way_ties  xc ds Q h)
theorem D_law_web_of {P : Program} {w : World} {K : PySem.W.Frag} {mg : Str → Option Value} {base : Heap} {C_Folding : Addr} {C_Web : Addr} {C_BadFold : Addr} {C_BadNumber : Addr} {C_BadWeb : Addr} {C_NotPlain : Addr} {C_TagError : Addr} {C_UnknownPlace : Addr} (F : Facts K mg C_Folding C_Web C_BadFold C_BadNumber C_BadWeb C_NotPlain C_TagError C_UnknownPlace) : Def P w K mg base "_law_web_of" 5 2 wf_law_web_of :=
  def_ok F.a_law_web_of sc_law_web_of mo_wf_law_web_of hn_wf_law_web_of (fun f cdv A outer s H E hr => d_law_web_of F.T (D_law_names F) (D_law_table F) (D_law_way_ties F) hr) (fun xc ds Q h => p_law_web_of  xc ds Q h)
theorem M_Web___eq__ {P : Program} {w : World} {K : PySem.W.Frag} {mg : Str → Option Value} {base : Heap} {C_Folding : Addr} {C_Web : Addr} {C_BadFold : Addr} {C_BadNumber : Addr} {C_BadWeb : Addr} {C_NotPlain : Addr} {C_TagError : Addr} {C_UnknownPlace : Addr} (F : Facts K mg C_Folding C_Web C_BadFold C_BadNumber C_BadWeb C_NotPlain C_TagError C_UnknownPlace) : MDef P w K mg base C_Web "__eq__" 2 1 (wf_Web___eq__ C_Web) :=
  mdef_ok F.a_Web___eq__ F.T.c_Web sc_Web___eq__ mo_wf_Web___eq__ hn_wf_Web___eq__ (fun f cdv A outer s H E hr => d_Web___eq__ F.T  hr) (fun xc ds Q h => p_Web_eq C_Web xc ds Q h)
theorem M_Folding___eq__ {P : Program} {w : World} {K : PySem.W.Frag} {mg : Str → Option Value} {base : Heap} {C_Folding : Addr} {C_Web : Addr} {C_BadFold : Addr} {C_BadNumber : Addr} {C_BadWeb : Addr} {C_NotPlain : Addr} {C_TagError : Addr} {C_UnknownPlace : Addr} (F : Facts K mg C_Folding C_Web C_BadFold C_BadNumber C_BadWeb C_NotPlain C_TagError C_UnknownPlace) : MDef P w K mg base C_Folding "__eq__" 2 2 (wf_Folding___eq__ C_Folding C_Web) :=
  mdef_ok F.a_Folding___eq__ F.T.c_Folding sc_Folding___eq__ mo_wf_Folding___eq__ hn_wf_Folding___eq__ (fun f cdv A outer s H E hr => d_Folding___eq__ F.T (M_Web___eq__ F) hr) (fun xc ds Q h => p_Folding___eq__ C_Folding C_Web xc ds Q h)
theorem D_check_part {P : Program} {w : World} {K : PySem.W.Frag} {mg : Str → Option Value} {base : Heap} {C_Folding : Addr} {C_Web : Addr} {C_BadFold : Addr} {C_BadNumber : Addr} {C_BadWeb : Addr} {C_NotPlain : Addr} {C_TagError : Addr} {C_UnknownPlace : Addr} (F : Facts K mg C_Folding C_Web C_BadFold C_BadNumber C_BadWeb C_NotPlain C_TagError C_UnknownPlace) : Def P w K mg base "check_part" 2 4 (wf_check_part C_Web C_BadWeb C_UnknownPlace) :=
  def_ok F.a_check_part sc_check_part mo_wf_check_part hn_wf_check_part (fun f cdv A outer s H E hr => d_check_part F.T (D_check_place F) (R_BadWeb F) (R_UnknownPlace F) hr) (fun xc ds Q h => p_check_part C_Web C_BadWeb C_UnknownPlace xc ds Q h)
theorem D_restricted_nexts {P : Program} {w : World} {K : PySem.W.Frag} {mg : Str → Option Value} {base : Heap} {C_Folding : Addr} {C_Web : Addr} {C_BadFold : Addr} {C_BadNumber : Addr} {C_BadWeb : Addr} {C_NotPlain : Addr} {C_TagError : Addr} {C_UnknownPlace : Addr} (F : Facts K mg C_Folding C_Web C_BadFold C_BadNumber C_BadWeb C_NotPlain C_TagError C_UnknownPlace) : Def P w K mg base "restricted_nexts" 2 1 wf_restricted_nexts :=
  def_ok F.a_restricted_nexts sc_restricted_nexts mo_wf_restricted_nexts hn_wf_restricted_nexts (fun f cdv A outer s H E hr => d_restricted_nexts F.T  hr) (fun xc ds Q h => p_restricted_nexts  xc ds Q h)
theorem D_ties_between {P : Program} {w : World} {K : PySem.W.Frag} {mg : Str → Option Value} {base : Heap} {C_Folding : Addr} {C_Web : Addr} {C_BadFold : Addr} {C_BadNumber : Addr} {C_BadWeb : Addr} {C_NotPlain : Addr} {C_TagError : Addr} {C_UnknownPlace : Addr} (F : Facts K mg C_Folding C_Web C_BadFold C_BadNumber C_BadWeb C_NotPlain C_TagError C_UnknownPlace) : Def P w K mg base "ties_between" 4 1 wf_ties_between :=
  def_ok F.a_ties_between sc_ties_between mo_wf_ties_between hn_wf_ties_between (fun f cdv A outer s H E hr => d_ties_between F.T  hr) (fun xc ds Q h => p_ties_between  xc ds Q h)
theorem D_ties_of {P : Program} {w : World} {K : PySem.W.Frag} {mg : Str → Option Value} {base : Heap} {C_Folding : Addr} {C_Web : Addr} {C_BadFold : Addr} {C_BadNumber : Addr} {C_BadWeb : Addr} {C_NotPlain : Addr} {C_TagError : Addr} {C_UnknownPlace : Addr} (F : Facts K mg C_Folding C_Web C_BadFold C_BadNumber C_BadWeb C_NotPlain C_TagError C_UnknownPlace) : Def P w K mg base "ties_of" 2 2 wf_ties_of :=
  def_ok F.a_ties_of sc_ties_of mo_wf_ties_of hn_wf_ties_of (fun f cdv A outer s H E hr => d_ties_of F.T (D_ties_between F) hr) (fun xc ds Q h => p_ties_of  xc ds Q h)
theorem D_is_name {P : Program} {w : World} {K : PySem.W.Frag} {mg : Str → Option Value} {base : Heap} {C_Folding : Addr} {C_Web : Addr} {C_BadFold : Addr} {C_BadNumber : Addr} {C_BadWeb : Addr} {C_NotPlain : Addr} {C_TagError : Addr} {C_UnknownPlace : Addr} (F : Facts K mg C_Folding C_Web C_BadFold C_BadNumber C_BadWeb C_NotPlain C_TagError C_UnknownPlace) : Def P w K mg base "is_name" 1 1 wf_is_name :=
  def_ok F.a_is_name sc_is_name mo_wf_is_name hn_wf_is_name (fun f cdv A outer s H E hr => d_is_name F.T  hr) (fun xc ds Q h => p_is_name  xc ds Q h)
theorem D_check_names {P : Program} {w : World} {K : PySem.W.Frag} {mg : Str → Option Value} {base : Heap} {C_Folding : Addr} {C_Web : Addr} {C_BadFold : Addr} {C_BadNumber : Addr} {C_BadWeb : Addr} {C_NotPlain : Addr} {C_TagError : Addr} {C_UnknownPlace : Addr} (F : Facts K mg C_Folding C_Web C_BadFold C_BadNumber C_BadWeb C_NotPlain C_TagError C_UnknownPlace) : Def P w K mg base "check_names" 1 2 wf_check_names :=
  def_ok F.a_check_names sc_check_names mo_wf_check_names hn_wf_check_names (fun f cdv A outer s H E hr => d_check_names F.T (D_is_name F) hr) (fun xc ds Q h => p_check_names  xc ds Q h)
theorem D_is_set {P : Program} {w : World} {K : PySem.W.Frag} {mg : Str → Option Value} {base : Heap} {C_Folding : Addr} {C_Web : Addr} {C_BadFold : Addr} {C_BadNumber : Addr} {C_BadWeb : Addr} {C_NotPlain : Addr} {C_TagError : Addr} {C_UnknownPlace : Addr} (F : Facts K mg C_Folding C_Web C_BadFold C_BadNumber C_BadWeb C_NotPlain C_TagError C_UnknownPlace) : Def P w K mg base "is_set" 2 1 wf_is_set :=
  def_ok F.a_is_set sc_is_set mo_wf_is_set hn_wf_is_set (fun f cdv A outer s H E hr => d_is_set F.T  hr) (fun xc ds Q h => p_is_set  xc ds Q h)
theorem D_is_tie {P : Program} {w : World} {K : PySem.W.Frag} {mg : Str → Option Value} {base : Heap} {C_Folding : Addr} {C_Web : Addr} {C_BadFold : Addr} {C_BadNumber : Addr} {C_BadWeb : Addr} {C_NotPlain : Addr} {C_TagError : Addr} {C_UnknownPlace : Addr} (F : Facts K mg C_Folding C_Web C_BadFold C_BadNumber C_BadWeb C_NotPlain C_TagError C_UnknownPlace) : Def P w K mg base "is_tie" 3 2 wf_is_tie :=
  def_ok F.a_is_tie sc_is_tie mo_wf_is_tie hn_wf_is_tie (fun f cdv A outer s H E hr => d_is_tie F.T (D_is_set F) hr) (fun xc ds Q h => p_is_tie  xc ds Q h)
theorem D_check_ties {P : Program} {w : World} {K : PySem.W.Frag} {mg : Str → Option Value} {base : Heap} {C_Folding : Addr} {C_Web : Addr} {C_BadFold : Addr} {C_BadNumber : Addr} {C_BadWeb : Addr} {C_NotPlain : Addr} {C_TagError : Addr} {C_UnknownPlace : Addr} (F : Facts K mg C_Folding C_Web C_BadFold C_BadNumber C_BadWeb C_NotPlain C_TagError C_UnknownPlace) : Def P w K mg base "check_ties" 3 3 wf_check_ties :=
  def_ok F.a_check_ties sc_check_ties mo_wf_check_ties hn_wf_check_ties (fun f cdv A outer s H E hr => d_check_ties F.T (D_is_tie F) hr) (fun xc ds Q h => p_check_ties  xc ds Q h)
theorem D_nexts_at {P : Program} {w : World} {K : PySem.W.Frag} {mg : Str → Option Value} {base : Heap} {C_Folding : Addr} {C_Web : Addr} {C_BadFold : Addr} {C_BadNumber : Addr} {C_BadWeb : Addr} {C_NotPlain : Addr} {C_TagError : Addr} {C_UnknownPlace : Addr} (F : Facts K mg C_Folding C_Web C_BadFold C_BadNumber C_BadWeb C_NotPlain C_TagError C_UnknownPlace) : Def P w K mg base "nexts_at" 3 1 wf_nexts_at :=
  def_ok F.a_nexts_at sc_nexts_at mo_wf_nexts_at hn_wf_nexts_at (fun f cdv A outer s H E hr => d_nexts_at F.T  hr) (fun xc ds Q h => p_nexts_at  xc ds Q h)
theorem D_nexts_of {P : Program} {w : World} {K : PySem.W.Frag} {mg : Str → Option Value} {base : Heap} {C_Folding : Addr} {C_Web : Addr} {C_BadFold : Addr} {C_BadNumber : Addr} {C_BadWeb : Addr} {C_NotPlain : Addr} {C_TagError : Addr} {C_UnknownPlace : Addr} (F : Facts K mg C_Folding C_Web C_BadFold C_BadNumber C_BadWeb C_NotPlain C_TagError C_UnknownPlace) : Def P w K mg base "nexts_of" 3 2 wf_nexts_of :=
  def_ok F.a_nexts_of sc_nexts_of mo_wf_nexts_of hn_wf_nexts_of (fun f cdv A outer s H E hr => d_nexts_of F.T (D_nexts_at F) hr) (fun xc ds Q h => p_nexts_of  xc ds Q h)
theorem D_steps_of {P : Program} {w : World} {K : PySem.W.Frag} {mg : Str → Option Value} {base : Heap} {C_Folding : Addr} {C_Web : Addr} {C_BadFold : Addr} {C_BadNumber : Addr} {C_BadWeb : Addr} {C_NotPlain : Addr} {C_TagError : Addr} {C_UnknownPlace : Addr} (F : Facts K mg C_Folding C_Web C_BadFold C_BadNumber C_BadWeb C_NotPlain C_TagError C_UnknownPlace) : Def P w K mg base "steps_of" 1 1 wf_steps_of :=
  def_ok F.a_steps_of sc_steps_of mo_wf_steps_of hn_wf_steps_of (fun f cdv A outer s H E hr => d_steps_of F.T  hr) (fun xc ds Q h => p_steps_of  xc ds Q h)
theorem K_Web_2_beats {P : Program} {w : World} {K : PySem.W.Frag} {mg : Str → Option Value} {base : Heap} {C_Folding : Addr} {C_Web : Addr} {C_BadFold : Addr} {C_BadNumber : Addr} {C_BadWeb : Addr} {C_NotPlain : Addr} {C_TagError : Addr} {C_UnknownPlace : Addr} (F : Facts K mg C_Folding C_Web C_BadFold C_BadNumber C_BadWeb C_NotPlain C_TagError C_UnknownPlace) : Ctor P w K mg base "Web" C_Web 2 ["beats"] 4 gD_K_Web_2_beats wi_Web :=
  ctor_ok (m := 3) F.a_K_Web_2_beats rfl sc_Web___init__ mo_wi_Web hn_wi_Web (fun f cdv A outer s H E hr => d_Web___init__ F.T (D_check_names F) (D_check_ties F) (D_nexts_of F) (D_steps_of F) hr) (fun xc ds Q p h => p_Web_init C_Web xc ds Q p h)
theorem D_woven {P : Program} {w : World} {K : PySem.W.Frag} {mg : Str → Option Value} {base : Heap} {C_Folding : Addr} {C_Web : Addr} {C_BadFold : Addr} {C_BadNumber : Addr} {C_BadWeb : Addr} {C_NotPlain : Addr} {C_TagError : Addr} {C_UnknownPlace : Addr} (F : Facts K mg C_Folding C_Web C_BadFold C_BadNumber C_BadWeb C_NotPlain C_TagError C_UnknownPlace) : Def P w K mg base "woven" 2 6 (wf_woven C_Web) :=
  def_ok F.a_woven sc_woven mo_wf_woven hn_wf_woven (fun f cdv A outer s H E hr => d_woven F.T (D_ties_of F) (K_Web_2_beats F) hr) (fun xc ds Q h => p_woven C_Web xc ds Q h)
theorem M_Web_restricted {P : Program} {w : World} {K : PySem.W.Frag} {mg : Str → Option Value} {base : Heap} {C_Folding : Addr} {C_Web : Addr} {C_BadFold : Addr} {C_BadNumber : Addr} {C_BadWeb : Addr} {C_NotPlain : Addr} {C_TagError : Addr} {C_UnknownPlace : Addr} (F : Facts K mg C_Folding C_Web C_BadFold C_BadNumber C_BadWeb C_NotPlain C_TagError C_UnknownPlace) : MDef P w K mg base C_Web "restricted" 2 7 (wf_Web_restricted C_Web C_BadWeb C_UnknownPlace) :=
  mdef_ok F.a_Web_restricted F.T.c_Web sc_Web_restricted mo_wf_Web_restricted hn_wf_Web_restricted (fun f cdv A outer s H E hr => d_Web_restricted F.T (D_check_part F) (D_restricted_nexts F) (D_woven F) hr) (fun xc ds Q h => p_Web_restricted C_Web C_BadWeb C_UnknownPlace xc ds Q h)
end Tw.k33

/-! Tw, the head's end. -/
namespace Tw
open PySem PySem.Spec L2 PyProof.Rows
/-! ### the end -/
theorem walk_ofK {l : PySem.W.OpenLaw} {n k : Nat} {q : Program} {loose : List Str} {XP : (Str → Option Value) → Heap → Prop} {YP : World → Heap → Prop} {d : DefRec} {x : Str} {sp : PySem.W.Frag → Sp}
    (hn : l.most = some n) (hn2 : n ≤ sizeLine) (hdf : d.params.defaults = []) (hr : Room k callerA)
    (hsp : ∀ (K : PySem.W.Frag) (H : Hp) (a : Addr) (ns : List Int), ns.length ≤ n → Only H → SqL K H a (ns.map V.int) → sp K [.ref a] H (fun v _ => v = .bl true) fun _ _ _ => False)
    (F : ∀ (w : World) (mg : Str → Option Value) (fa : Addr) (h : Heap), YP w h → h.Ns mainGlobals mg → mg d.name = some (.ref fa) →
      ∃ (K : PySem.W.Frag) (fd : FuncData), K.In h ∧ (∀ (s : Shared) (u : Value), BindsTo s fd ⟨[u], []⟩ [(x, u)]) ∧ ∀ base : Heap, K.In base → base.Ns mainGlobals mg → FnOk l.prog w K mg base (L2.CX l.prog w) k fa fd [x] (sp K)) :
    PySem.W.WalkO q loose XP YP l.row.toRowW d [] (fun f vs => PySem.call f vs) := by
  refine Att.attach_call hn hdf fun w s₀ s₁ mg mb fa o pm cd doc a vs ns G Y ho hd hcd hmg hobj hints hlen hg => ?_
  obtain ⟨K, fd, KX, hb, hF⟩ := F w mg fa _ Y G.T.g hmg
  exact law_call KX G.T.g G.T.b G.T.builtins G.T.nolimit hg hobj hints (Nat.le_trans hlen hn2) hr hF hb (fun H hO hS => hsp K H a ns hlen hO hS) fun H e s' ⟨_, _, _, _, _, _, _, _, _, _, _, _, hE⟩ => hE
section
variable {K : PySem.W.Frag} {mg : Str → Option Value} {C f : Addr} {fd : FuncData}
/-- a class made without keywords -/
theorem atI_plain {x q : Str} {st : Stmt} {ps : List Str} {n : Nat} {gD : List D → List D → List D} (F : Fun K "__init__" q st f fd) (M : Mk K C f) (b : L2.Binds K fd ps []) (hm : mg x = some (.ref C)) (hl : ps.length = n + 1) (h : ∀ vs zs : List D, gD vs zs = vs ++ zs) :
    AtI K mg x C q st ps n [] gD :=
  ⟨f, fd, fun us ws => us ++ ws, fun vs zs => vs ++ zs, fun vs zs => vs ++ zs, F, M, ⟨fun s us ws hin hu hw => by
    cases ws with
    | nil =>
      have := b s us hin (by rw [List.append_nil, hu, hl])
      exact this
    | cons w ws => simp at hw, fun h1 h2 => h1.append h2⟩, hm, fun x vs zs _ _ => rfl, fun G ds es vs zs h1 h2 => by rw [h]; exact h1.append h2⟩
end
end Tw

namespace Tw.k33
open PySem PySem.Spec L2 PyProof.Rows Tw Tw.S

section
variable {K : PySem.W.Frag} {f : Addr} {fd : FuncData}
theorem kb_K_Web_2_beats (F : FunD K "__init__" "Web.__init__" (defArgs s_Web___init__) (defBody s_Web___init__) (defScope s_Web___init__) [] [("beats", .int 1)] f fd) :
    ∃ g gV, KBn K fd ["self", "places", "ties", "beats"] 3 ["beats"] g gV ∧ ∀ vs zs, gV vs zs = vs ++ (zs ++ ([] : List V)) := by
  obtain ⟨mv, kb⟩ := F.kbinds0 (ps := ["self", "places", "ties", "beats"]) 3 ["beats"] [] (fun us mv ws => us ++ (ws ++ mv)) (by simp) (by simp) (fun h1 h2 h3 => h1.append (h3.append h2)) (fun D doc pm an cdv ct us mv ws h1 h2 h3 => by
    match us, mv, ws, h1, h2, h3 with
    | [a0, a1, a2], [], [c0], _, _, _ => rfl)
  exact ⟨_, _, kb, fun vs zs => rfl⟩
end
section
variable {K : PySem.W.Frag} {mg : Str → Option Value} {C f : Addr} {fd : FuncData}
theorem gE_K_Web_2_beats (vs zs : List D) : gD_K_Web_2_beats vs zs = vs ++ (zs ++ ([] : List D)) := by simp [gD_K_Web_2_beats]
theorem mk_K_Folding_2 (F : Fun K "__init__" "Folding.__init__" s_Folding___init__ f fd) (M : Mk K C f) (FD : FunD K "__init__" "Folding.__init__" (defArgs s_Folding___init__) (defBody s_Folding___init__) (defScope s_Folding___init__) [] [] f fd) (hm : mg "Folding" = some (.ref C)) :
    AtI K mg "Folding" C "Folding.__init__" s_Folding___init__ ["self", "web", "folds"] 2 [] gD_K_Folding_2 := atI_plain F M (F.binds (fun _ _ _ _ _ _ us hl => match us, hl with | [a0, a1, a2], _ => rfl)) hm rfl (fun vs zs => rfl)
theorem mk_K_Web_2_beats (F : Fun K "__init__" "Web.__init__" s_Web___init__ f fd) (M : Mk K C f) (FD : FunD K "__init__" "Web.__init__" (defArgs s_Web___init__) (defBody s_Web___init__) (defScope s_Web___init__) [] [("beats", .int 1)] f fd) (hm : mg "Web" = some (.ref C)) :
    AtI K mg "Web" C "Web.__init__" s_Web___init__ ["self", "places", "ties", "beats"] 2 ["beats"] gD_K_Web_2_beats := by
  obtain ⟨g, gV, kb, hg⟩ := kb_K_Web_2_beats FD
  exact ⟨f, fd, g, gV, fun vs zs => vs ++ (zs ++ ([] : List V)), F, M, kb, hm, fun x vs zs _ _ => by rw [hg]; rfl, fun G ds es vs zs h1 h2 => by rw [gE_K_Web_2_beats]; exact h1.append (h2.append .nil)⟩
end
set_option maxHeartbeats 0 in
theorem facts {K : PySem.W.Frag} {h : Heap} {mg : Str → Option Value} (X : K.In h) (G : h.Ns mainGlobals mg) (c : SaysK fns exs K) : Facts K mg (gA "Folding" K) (gA "Web" K) (gA "BadFold" K) (gA "BadNumber" K) (gA "BadWeb" K) (gA "NotPlain" K) (gA "TagError" K) (gA "UnknownPlace" K) := by
  have cc_Folding : PySem.W.nsIn K mainGlobals "Folding" = some (some (.ref (gA "Folding" K))) := c.p 0
  have cc_Web : PySem.W.nsIn K mainGlobals "Web" = some (some (.ref (gA "Web" K))) := c.p 1
  have cc_BadFold : PySem.W.nsIn K mainGlobals "BadFold" = some (some (.ref (gA "BadFold" K))) := c.p 2
  have cc_BadNumber : PySem.W.nsIn K mainGlobals "BadNumber" = some (some (.ref (gA "BadNumber" K))) := c.p 3
  have cc_BadWeb : PySem.W.nsIn K mainGlobals "BadWeb" = some (some (.ref (gA "BadWeb" K))) := c.p 4
  have cc_NotPlain : PySem.W.nsIn K mainGlobals "NotPlain" = some (some (.ref (gA "NotPlain" K))) := c.p 5
  have cc_TagError : PySem.W.nsIn K mainGlobals "TagError" = some (some (.ref (gA "TagError" K))) := c.p 6
  have cc_UnknownPlace : PySem.W.nsIn K mainGlobals "UnknownPlace" = some (some (.ref (gA "UnknownPlace" K))) := c.p 7
  obtain ⟨fd1, F1⟩ := c.d 0
  have k1 := F1.kp
  have a1 : PySem.W.nsIn K mainGlobals "_law_draws" = some (some (.ref ((gA "_law_draws") K))) := c.p 8
  obtain ⟨fd2, F2⟩ := c.d 1
  have k2 := F2.kp
  have a2 : PySem.W.nsIn K mainGlobals "_law_covered" = some (some (.ref ((gA "_law_covered") K))) := c.p 9
  obtain ⟨fd3, F3⟩ := c.d 2
  have k3 := F3.kp
  have a3 : PySem.W.nsIn K mainGlobals "_law_possible" = some (some (.ref ((gA "_law_possible") K))) := c.p 10
  obtain ⟨fd4, F4⟩ := c.d 3
  have k4 := F4.kp
  have a4 : PySem.W.nsIn K mainGlobals "_law_finished" = some (some (.ref ((gA "_law_finished") K))) := c.p 11
  obtain ⟨fd5, F5⟩ := c.d 4
  have k5 := F5.kp
  have a5 : PySem.W.nsIn K mainGlobals "_law_is_int" = some (some (.ref ((gA "_law_is_int") K))) := c.p 12
  obtain ⟨fd6, F6⟩ := c.d 5
  have k6 := F6.kp
  have a6 : PySem.W.nsIn K mainGlobals "_law_same" = some (some (.ref ((gA "_law_same") K))) := c.p 13
  obtain ⟨fd7, F7⟩ := c.d 6
  have k7 := F7.kp
  have a7 : PySem.W.findIn K (.ref (gA "Web" K)) "__len__" = some (some (.ref ((mA "Web" "__len__") K))) := c.p 14
  have i7 : PySem.W.isFn K (.ref ((mA "Web" "__len__") K)) = true := c.p 15
  obtain ⟨fd8, F8⟩ := c.d 7
  have k8 := F8.kp
  have a8 : PySem.W.nsIn K mainGlobals "check_place" = some (some (.ref ((gA "check_place") K))) := c.p 16
  obtain ⟨fd9, F9⟩ := c.d 8
  have k9 := F9.kp
  have a9 : PySem.W.findIn K (.ref (gA "Web" K)) "steps" = some (some (.ref ((mA "Web" "steps") K))) := c.p 17
  have i9 : PySem.W.isFn K (.ref ((mA "Web" "steps") K)) = true := c.p 18
  obtain ⟨fd10, F10⟩ := c.d 9
  have k10 := F10.kp
  have a10 : PySem.W.nsIn K mainGlobals "is_covered" = some (some (.ref ((gA "is_covered") K))) := c.p 19
  obtain ⟨fd11, F11⟩ := c.d 10
  have k11 := F11.kp
  have a11 : PySem.W.nsIn K mainGlobals "least_fold" = some (some (.ref ((gA "least_fold") K))) := c.p 20
  obtain ⟨fd12, F12⟩ := c.d 11
  have k12 := F12.kp
  have a12 : PySem.W.findIn K (.ref (gA "Folding" K)) "finished" = some (some (.ref (mA "Folding" "finished" K))) := c.p 21
  have g12 : PySem.W.specialIn K (.ref (mA "Folding" "finished" K)) "__get__" = some (some (.builtin "property.__get__")) := c.p 22
  have u12 : PySem.W.takesIn K (.ref (mA "Folding" "finished" K)) = some true := c.p 23
  obtain ⟨re12, r12⟩ := wrapB_ok (c.b 24)
  obtain ⟨fd13, F13⟩ := c.d 12
  have k13 := F13.kp
  have a13 : PySem.W.findIn K (.ref (gA "Folding" K)) "shadow" = some (some (.ref ((mA "Folding" "shadow") K))) := c.p 25
  have i13 : PySem.W.isFn K (.ref ((mA "Folding" "shadow") K)) = true := c.p 26
  obtain ⟨fd14, F14⟩ := c.d 13
  have k14 := F14.kp
  have a14 : PySem.W.findIn K (.ref (gA "Folding" K)) "whole" = some (some (.ref (mA "Folding" "whole" K))) := c.p 27
  have g14 : PySem.W.specialIn K (.ref (mA "Folding" "whole" K)) "__get__" = some (some (.builtin "property.__get__")) := c.p 28
  have u14 : PySem.W.takesIn K (.ref (mA "Folding" "whole" K)) = some true := c.p 29
  obtain ⟨re14, r14⟩ := wrapB_ok (c.b 30)
  obtain ⟨fd15, F15⟩ := c.d 14
  have k15 := F15.kp
  have a15 : PySem.W.nsIn K mainGlobals "_law_is_finished" = some (some (.ref ((gA "_law_is_finished") K))) := c.p 31
  obtain ⟨fd16, F16⟩ := c.d 15
  have k16 := F16.kp
  have a16 : PySem.W.nsIn K mainGlobals "_law_is_plain" = some (some (.ref ((gA "_law_is_plain") K))) := c.p 32
  obtain ⟨fd17, F17⟩ := c.d 16
  have k17 := F17.kp
  have a17 : PySem.W.nsIn K mainGlobals "places_into" = some (some (.ref ((gA "places_into") K))) := c.p 33
  obtain ⟨fd18, F18⟩ := c.d 17
  have k18 := F18.kp
  have a18 : PySem.W.nsIn K mainGlobals "backward_nexts" = some (some (.ref ((gA "backward_nexts") K))) := c.p 34
  obtain ⟨fd19, F19⟩ := c.d 18
  have k19 := F19.kp
  have a19 : PySem.W.findIn K (.ref (gA "Web" K)) "doorless" = some (some (.ref (mA "Web" "doorless" K))) := c.p 35
  have g19 : PySem.W.specialIn K (.ref (mA "Web" "doorless" K)) "__get__" = some (some (.builtin "property.__get__")) := c.p 36
  have u19 : PySem.W.takesIn K (.ref (mA "Web" "doorless" K)) = some true := c.p 37
  obtain ⟨re19, r19⟩ := wrapB_ok (c.b 38)
  obtain ⟨fd20, F20⟩ := c.d 19
  have k20 := F20.kp
  have a20 : PySem.W.findIn K (.ref (gA "Web" K)) "plain" = some (some (.ref (mA "Web" "plain" K))) := c.p 39
  have g20 : PySem.W.specialIn K (.ref (mA "Web" "plain" K)) "__get__" = some (some (.builtin "property.__get__")) := c.p 40
  have u20 : PySem.W.takesIn K (.ref (mA "Web" "plain" K)) = some true := c.p 41
  obtain ⟨re20, r20⟩ := wrapB_ok (c.b 42)
  obtain ⟨fd21, F21⟩ := c.d 20
  have k21 := F21.kp
  have a21 : PySem.W.nsIn K mainGlobals "check_plain" = some (some (.ref ((gA "check_plain") K))) := c.p 43
  obtain ⟨fd22, F22⟩ := c.d 21
  have k22 := F22.kp
  have a22 : PySem.W.nsIn K mainGlobals "without" = some (some (.ref ((gA "without") K))) := c.p 44
  obtain ⟨fd23, F23⟩ := c.d 22
  have k23 := F23.kp
  have a23 : PySem.W.nsIn K mainGlobals "left_by" = some (some (.ref ((gA "left_by") K))) := c.p 45
  obtain ⟨fd24, F24⟩ := c.d 23
  have k24 := F24.kp
  have a24 : PySem.W.findIn K (.ref (gA "Folding" K)) "__init__" = some (some (.ref ((mA "Folding" "__init__") K))) := c.p 46
  have i24 : PySem.W.isFn K (.ref ((mA "Folding" "__init__") K)) = true := c.p 47
  have m24 : PySem.W.makesIn K (gA "Folding" K) = true := c.p 48
  have q24 : PySem.W.keepIn K (.ref (gA "Folding" K)) = true := c.p 49
  obtain ⟨fd25, F25⟩ := c.d 24
  have k25 := F25.kp
  have a25 : PySem.W.nsIn K mainGlobals "fold_up" = some (some (.ref ((gA "fold_up") K))) := c.p 50
  obtain ⟨fd26, F26⟩ := c.d 25
  have k26 := F26.kp
  have a26 : PySem.W.nsIn K mainGlobals "_law_refused" = some (some (.ref ((gA "_law_refused") K))) := c.p 51
  obtain ⟨fd27, F27⟩ := c.d 26
  have k27 := F27.kp
  have a27 : PySem.W.nsIn K mainGlobals "_law_names" = some (some (.ref ((gA "_law_names") K))) := c.p 52
  obtain ⟨fd28, F28⟩ := c.d 27
  have k28 := F28.kp
  have a28 : PySem.W.nsIn K mainGlobals "_law_table" = some (some (.ref ((gA "_law_table") K))) := c.p 53
  obtain ⟨fd29, F29⟩ := c.d 28
  have k29 := F29.kp
  have a29 : PySem.W.nsIn K mainGlobals "_law_way_ties" = some (some (.ref ((gA "_law_way_ties") K))) := c.p 54
  obtain ⟨fd30, F30⟩ := c.d 29
  have k30 := F30.kp
  have a30 : PySem.W.nsIn K mainGlobals "_law_web_of" = some (some (.ref ((gA "_law_web_of") K))) := c.p 55
  obtain ⟨fd31, F31⟩ := c.d 30
  have k31 := F31.kp
  have a31 : PySem.W.findIn K (.ref (gA "Web" K)) "__eq__" = some (some (.ref ((mA "Web" "__eq__") K))) := c.p 56
  have i31 : PySem.W.isFn K (.ref ((mA "Web" "__eq__") K)) = true := c.p 57
  obtain ⟨fd32, F32⟩ := c.d 31
  have k32 := F32.kp
  have a32 : PySem.W.findIn K (.ref (gA "Folding" K)) "__eq__" = some (some (.ref ((mA "Folding" "__eq__") K))) := c.p 58
  have i32 : PySem.W.isFn K (.ref ((mA "Folding" "__eq__") K)) = true := c.p 59
  obtain ⟨fd33, F33⟩ := c.d 32
  have k33 := F33.kp
  have a33 : PySem.W.nsIn K mainGlobals "check_part" = some (some (.ref ((gA "check_part") K))) := c.p 60
  obtain ⟨fd34, F34⟩ := c.d 33
  have k34 := F34.kp
  have a34 : PySem.W.nsIn K mainGlobals "restricted_nexts" = some (some (.ref ((gA "restricted_nexts") K))) := c.p 61
  obtain ⟨fd35, F35⟩ := c.d 34
  have k35 := F35.kp
  have a35 : PySem.W.nsIn K mainGlobals "ties_between" = some (some (.ref ((gA "ties_between") K))) := c.p 62
  obtain ⟨fd36, F36⟩ := c.d 35
  have k36 := F36.kp
  have a36 : PySem.W.nsIn K mainGlobals "ties_of" = some (some (.ref ((gA "ties_of") K))) := c.p 63
  obtain ⟨fd37, F37⟩ := c.d 36
  have k37 := F37.kp
  have a37 : PySem.W.nsIn K mainGlobals "is_name" = some (some (.ref ((gA "is_name") K))) := c.p 64
  obtain ⟨fd38, F38⟩ := c.d 37
  have k38 := F38.kp
  have a38 : PySem.W.nsIn K mainGlobals "check_names" = some (some (.ref ((gA "check_names") K))) := c.p 65
  obtain ⟨fd39, F39⟩ := c.d 38
  have k39 := F39.kp
  have a39 : PySem.W.nsIn K mainGlobals "is_set" = some (some (.ref ((gA "is_set") K))) := c.p 66
  obtain ⟨fd40, F40⟩ := c.d 39
  have k40 := F40.kp
  have a40 : PySem.W.nsIn K mainGlobals "is_tie" = some (some (.ref ((gA "is_tie") K))) := c.p 67
  obtain ⟨fd41, F41⟩ := c.d 40
  have k41 := F41.kp
  have a41 : PySem.W.nsIn K mainGlobals "check_ties" = some (some (.ref ((gA "check_ties") K))) := c.p 68
  obtain ⟨fd42, F42⟩ := c.d 41
  have k42 := F42.kp
  have a42 : PySem.W.nsIn K mainGlobals "nexts_at" = some (some (.ref ((gA "nexts_at") K))) := c.p 69
  obtain ⟨fd43, F43⟩ := c.d 42
  have k43 := F43.kp
  have a43 : PySem.W.nsIn K mainGlobals "nexts_of" = some (some (.ref ((gA "nexts_of") K))) := c.p 70
  obtain ⟨fd44, F44⟩ := c.d 43
  have k44 := F44.kp
  have a44 : PySem.W.nsIn K mainGlobals "steps_of" = some (some (.ref ((gA "steps_of") K))) := c.p 71
  obtain ⟨fd45, F45⟩ := c.d 44
  have k45 := F45.kp
  have a45 : PySem.W.findIn K (.ref (gA "Web" K)) "__init__" = some (some (.ref ((mA "Web" "__init__") K))) := c.p 72
  have i45 : PySem.W.isFn K (.ref ((mA "Web" "__init__") K)) = true := c.p 73
  have m45 : PySem.W.makesIn K (gA "Web" K) = true := c.p 74
  have q45 : PySem.W.keepIn K (.ref (gA "Web" K)) = true := c.p 75
  obtain ⟨fd46, F46⟩ := c.d 45
  have k46 := F46.kp
  have a46 : PySem.W.nsIn K mainGlobals "woven" = some (some (.ref ((gA "woven") K))) := c.p 76
  obtain ⟨fd47, F47⟩ := c.d 46
  have k47 := F47.kp
  have a47 : PySem.W.findIn K (.ref (gA "Web" K)) "restricted" = some (some (.ref ((mA "Web" "restricted") K))) := c.p 77
  have i47 : PySem.W.isFn K (.ref ((mA "Web" "restricted") K)) = true := c.p 78
  obtain ⟨fd48, F48⟩ := c.d 47
  have k48 := F48.kp
  have a48 : PySem.W.nsIn K mainGlobals "law" = some (some (.ref ((gA "law") K))) := c.p 79
  obtain ⟨fd49, F49⟩ := c.d 48
  have k49 := F49.kp
  have a49 : PySem.W.findIn K (.ref (gA "BadFold" K)) "__init__" = some (some (.ref ((mA "BadFold" "__init__") K))) := c.p 80
  have y49 : PySem.W.typeIn K (.ref ((mA "BadFold" "__init__") K)) = some (.type "function") := c.p 81
  have ox_BadFold := oexB_ok (c.b 82)
  have sa_BadFold : PySem.W.findIn K (.ref (gA "BadFold" K)) "__setattr__" = some (some (.builtin "object.__setattr__")) := c.p 83
  have eB_BadFold : PySem.W.subIn K (.ref (gA "BadFold" K)) (.type "BaseException") = some true := c.p 84
  have tT_BadFold : PySem.W.typeIn K (.ref (gA "BadFold" K)) = some (.type "type") := c.p 85
  have kC_BadFold : PySem.W.keepIn K (.ref (gA "BadFold" K)) = true := c.p 86
  have ne_BadFold_number : PySem.W.findIn K (.ref (gA "BadFold" K)) "number" = some none := c.p 87
  obtain ⟨fd50, F50⟩ := c.d 49
  have k50 := F50.kp
  have a50 : PySem.W.findIn K (.ref (gA "BadNumber" K)) "__init__" = some (some (.ref ((mA "BadNumber" "__init__") K))) := c.p 88
  have y50 : PySem.W.typeIn K (.ref ((mA "BadNumber" "__init__") K)) = some (.type "function") := c.p 89
  have ox_BadNumber := oexB_ok (c.b 90)
  have sa_BadNumber : PySem.W.findIn K (.ref (gA "BadNumber" K)) "__setattr__" = some (some (.builtin "object.__setattr__")) := c.p 91
  have eB_BadNumber : PySem.W.subIn K (.ref (gA "BadNumber" K)) (.type "BaseException") = some true := c.p 92
  have tT_BadNumber : PySem.W.typeIn K (.ref (gA "BadNumber" K)) = some (.type "type") := c.p 93
  have kC_BadNumber : PySem.W.keepIn K (.ref (gA "BadNumber" K)) = true := c.p 94
  have ne_BadNumber_number : PySem.W.findIn K (.ref (gA "BadNumber" K)) "number" = some none := c.p 95
  obtain ⟨fd51, F51⟩ := c.d 50
  have k51 := F51.kp
  have a51 : PySem.W.findIn K (.ref (gA "BadWeb" K)) "__init__" = some (some (.ref ((mA "BadWeb" "__init__") K))) := c.p 96
  have y51 : PySem.W.typeIn K (.ref ((mA "BadWeb" "__init__") K)) = some (.type "function") := c.p 97
  have ox_BadWeb := oexB_ok (c.b 98)
  have sa_BadWeb : PySem.W.findIn K (.ref (gA "BadWeb" K)) "__setattr__" = some (some (.builtin "object.__setattr__")) := c.p 99
  have eB_BadWeb : PySem.W.subIn K (.ref (gA "BadWeb" K)) (.type "BaseException") = some true := c.p 100
  have tT_BadWeb : PySem.W.typeIn K (.ref (gA "BadWeb" K)) = some (.type "type") := c.p 101
  have kC_BadWeb : PySem.W.keepIn K (.ref (gA "BadWeb" K)) = true := c.p 102
  have ne_BadWeb_part : PySem.W.findIn K (.ref (gA "BadWeb" K)) "part" = some none := c.p 103
  have ne_BadWeb_place : PySem.W.findIn K (.ref (gA "BadWeb" K)) "place" = some none := c.p 104
  obtain ⟨fd52, F52⟩ := c.d 51
  have k52 := F52.kp
  have a52 : PySem.W.findIn K (.ref (gA "UnknownPlace" K)) "__init__" = some (some (.ref ((mA "UnknownPlace" "__init__") K))) := c.p 105
  have y52 : PySem.W.typeIn K (.ref ((mA "UnknownPlace" "__init__") K)) = some (.type "function") := c.p 106
  have ox_UnknownPlace := oexB_ok (c.b 107)
  have sa_UnknownPlace : PySem.W.findIn K (.ref (gA "UnknownPlace" K)) "__setattr__" = some (some (.builtin "object.__setattr__")) := c.p 108
  have eB_UnknownPlace : PySem.W.subIn K (.ref (gA "UnknownPlace" K)) (.type "BaseException") = some true := c.p 109
  have tT_UnknownPlace : PySem.W.typeIn K (.ref (gA "UnknownPlace" K)) = some (.type "type") := c.p 110
  have kC_UnknownPlace : PySem.W.keepIn K (.ref (gA "UnknownPlace" K)) = true := c.p 111
  have ne_UnknownPlace_place : PySem.W.findIn K (.ref (gA "UnknownPlace" K)) "place" = some none := c.p 112
  have xq_NotPlain : PySem.W.excIn K (gA "NotPlain" K) [.type "ValueError", .type "Exception", .type "BaseException", .type "object"] "ValueError.__new__" = true := c.p 113
  have kC_NotPlain : PySem.W.keepIn K (.ref (gA "NotPlain" K)) = true := c.p 114
  have eB_NotPlain : PySem.W.subIn K (.ref (gA "NotPlain" K)) (.type "BaseException") = some true := c.p 115
  have tT_NotPlain : PySem.W.typeIn K (.ref (gA "NotPlain" K)) = some (.type "type") := c.p 116
  have z_abs : PySem.W.nsIn K mainGlobals "abs" = some none := c.p 117
  have z_all : PySem.W.nsIn K mainGlobals "all" = some none := c.p 118
  have z_bool : PySem.W.nsIn K mainGlobals "bool" = some none := c.p 119
  have z_enumerate : PySem.W.nsIn K mainGlobals "enumerate" = some none := c.p 120
  have z_int : PySem.W.nsIn K mainGlobals "int" = some none := c.p 121
  have z_isinstance : PySem.W.nsIn K mainGlobals "isinstance" = some none := c.p 122
  have z_len : PySem.W.nsIn K mainGlobals "len" = some none := c.p 123
  have z_list : PySem.W.nsIn K mainGlobals "list" = some none := c.p 124
  have z_min : PySem.W.nsIn K mainGlobals "min" = some none := c.p 125
  have z_range : PySem.W.nsIn K mainGlobals "range" = some none := c.p 126
  have z_set : PySem.W.nsIn K mainGlobals "set" = some none := c.p 127
  have z_sorted : PySem.W.nsIn K mainGlobals "sorted" = some none := c.p 128
  have z_str : PySem.W.nsIn K mainGlobals "str" = some none := c.p 129
  have z_tuple : PySem.W.nsIn K mainGlobals "tuple" = some none := c.p 130
  have z_zip : PySem.W.nsIn K mainGlobals "zip" = some none := c.p 131
  obtain ⟨t_LETTERS, g_LETTERS⟩ := strB_ok (c.b 132)
  have pg_Folding : PySem.W.plainGet K (gA "Folding" K) Str.empty = true := c.p 133
  have hd_Folding : PySem.W.hasDictIn K (gA "Folding" K) = true := c.p 134
  have po_Folding : PySem.W.plainOver K (gA "Folding" K) = true := c.p 135
  have sa_Folding : PySem.W.findIn K (.ref (gA "Folding" K)) "__setattr__" = some (some (.builtin "object.__setattr__")) := c.p 136
  have pg_Web : PySem.W.plainGet K (gA "Web" K) Str.empty = true := c.p 137
  have hd_Web : PySem.W.hasDictIn K (gA "Web" K) = true := c.p 138
  have po_Web : PySem.W.plainOver K (gA "Web" K) = true := c.p 139
  have sa_Web : PySem.W.findIn K (.ref (gA "Web" K)) "__setattr__" = some (some (.builtin "object.__setattr__")) := c.p 140
  have ha_Folding : PySem.W.findIn K (.ref (gA "Folding" K)) "__class__" = some (some (.builtin "object.__class__")) := c.p 141
  have hn : PySem.W.specialIn K (.builtin "object.__class__") "__get__" = some (some (.builtin "getset_descriptor.__get__")) := c.p 142
  have htk : PySem.W.takesIn K (.builtin "object.__class__") = some true := c.p 143
  have hm_Folding : PySem.W.mroIn K (gA "Folding" K) (.type "object") = some true := c.p 144
  have ha_Web : PySem.W.findIn K (.ref (gA "Web" K)) "__class__" = some (some (.builtin "object.__class__")) := c.p 145
  have hm_Web : PySem.W.mroIn K (gA "Web" K) (.type "object") = some true := c.p 146
  have hD_NotPlain : PySem.W.hasDictIn K (gA "NotPlain" K) = true := c.p 147
  have s_NotPlain_NotPlain : PySem.W.subIn K (.ref (gA "NotPlain" K)) (.ref (gA "NotPlain" K)) = some true := c.p 148
  have ga_NotPlain : PySem.W.findIn K (.ref (gA "NotPlain" K)) "__getattribute__" = some (some (.builtin "BaseException.__getattribute__")) := c.p 149
  have gg_NotPlain : PySem.W.findIn K (.ref (gA "NotPlain" K)) "__getattr__" = some none := c.p 150
  have ha_NotPlain : PySem.W.findIn K (.ref (gA "NotPlain" K)) "__class__" = some (some (.builtin "object.__class__")) := c.p 151
  have hm_NotPlain : PySem.W.mroIn K (gA "NotPlain" K) (.type "object") = some true := c.p 152
  have hD_TagError : PySem.W.hasDictIn K (gA "TagError" K) = true := c.p 153
  have tT_TagError : PySem.W.typeIn K (.ref (gA "TagError" K)) = some (.type "type") := c.p 154
  have s_NotPlain_TagError : PySem.W.subIn K (.ref (gA "NotPlain" K)) (.ref (gA "TagError" K)) = some true := c.p 155
  have n_Folding_folds : PySem.W.findIn K (.ref (gA "Folding" K)) "folds" = some none := c.p 156
  have n_Folding_left : PySem.W.findIn K (.ref (gA "Folding" K)) "left" = some none := c.p 157
  have n_Folding_web : PySem.W.findIn K (.ref (gA "Folding" K)) "web" = some none := c.p 158
  have n_Web__nexts : PySem.W.findIn K (.ref (gA "Web" K)) "_nexts" = some none := c.p 159
  have n_Web__steps : PySem.W.findIn K (.ref (gA "Web" K)) "_steps" = some none := c.p 160
  have n_Web_beats : PySem.W.findIn K (.ref (gA "Web" K)) "beats" = some none := c.p 161
  have n_Web_places : PySem.W.findIn K (.ref (gA "Web" K)) "places" = some none := c.p 162
  exact ⟨⟨PySem.W.mg_none_of X G z_abs,
    PySem.W.mg_none_of X G z_all,
    PySem.W.mg_none_of X G z_bool,
    PySem.W.mg_none_of X G z_enumerate,
    PySem.W.mg_none_of X G z_int,
    PySem.W.mg_none_of X G z_isinstance,
    PySem.W.mg_none_of X G z_len,
    PySem.W.mg_none_of X G z_list,
    PySem.W.mg_none_of X G z_min,
    PySem.W.mg_none_of X G z_range,
    PySem.W.mg_none_of X G z_set,
    PySem.W.mg_none_of X G z_sorted,
    PySem.W.mg_none_of X G z_str,
    PySem.W.mg_none_of X G z_tuple,
    PySem.W.mg_none_of X G z_zip,
    ⟨_, PySem.W.mg_of X G g_LETTERS, ⟨_, rfl⟩⟩,
    ⟨pg_Folding, hd_Folding, po_Folding, sa_Folding⟩,
    ⟨pg_Web, hd_Web, po_Web, sa_Web⟩,
    ⟨⟨pg_Folding, hd_Folding, po_Folding, sa_Folding⟩, ha_Folding, hn, htk, hm_Folding, if_pos (beq_self_eq_true _)⟩,
    PySem.W.mg_of X G cc_Folding,
    ⟨⟨pg_Web, hd_Web, po_Web, sa_Web⟩, ha_Web, hn, htk, hm_Web, if_pos (beq_self_eq_true _)⟩,
    PySem.W.mg_of X G cc_Web,
    PySem.W.mg_of X G cc_BadFold,
    PySem.W.mg_of X G cc_BadNumber,
    PySem.W.mg_of X G cc_BadWeb,
    PySem.W.mg_of X G cc_NotPlain,
    PySem.W.mg_of X G cc_TagError,
    PySem.W.mg_of X G cc_UnknownPlace,
    PySem.W.exm_ref eB_NotPlain hD_NotPlain tT_NotPlain s_NotPlain_NotPlain,
    ⟨ga_NotPlain, gg_NotPlain, eB_NotPlain, hD_NotPlain, ha_NotPlain, hn, htk, hm_NotPlain⟩,
    kit_ref hD_TagError tT_TagError s_NotPlain_TagError s_NotPlain_NotPlain,
    n_Folding_folds,
    n_Folding_left,
    n_Folding_web,
    n_Web__nexts,
    n_Web__steps,
    n_Web_beats,
    n_Web_places⟩,
    (⟨_, _, FunD.fun F1, PySem.W.mg_of X G a1, (FunD.fun F1).binds (fun _ _ _ _ _ _ us hl => match us, hl with | [_, _, _], _ => rfl)⟩),
    (⟨_, _, FunD.fun F2, PySem.W.mg_of X G a2, (FunD.fun F2).binds (fun _ _ _ _ _ _ us hl => match us, hl with | [_, _, _, _], _ => rfl)⟩),
    (⟨_, _, FunD.fun F3, PySem.W.mg_of X G a3, (FunD.fun F3).binds (fun _ _ _ _ _ _ us hl => match us, hl with | [_, _], _ => rfl)⟩),
    (⟨_, _, FunD.fun F4, PySem.W.mg_of X G a4, (FunD.fun F4).binds (fun _ _ _ _ _ _ us hl => match us, hl with | [_, _], _ => rfl)⟩),
    (⟨_, _, FunD.fun F5, PySem.W.mg_of X G a5, (FunD.fun F5).binds (fun _ _ _ _ _ _ us hl => match us, hl with | [_], _ => rfl)⟩),
    (⟨_, _, FunD.fun F6, PySem.W.mg_of X G a6, (FunD.fun F6).binds (fun _ _ _ _ _ _ us hl => match us, hl with | [_, _], _ => rfl)⟩),
    (⟨_, _, FunD.fun F7, ⟨a7, i7, k7⟩, (FunD.fun F7).binds (fun _ _ _ _ _ _ us hl => match us, hl with | [_], _ => rfl)⟩),
    (⟨_, _, FunD.fun F8, PySem.W.mg_of X G a8, (FunD.fun F8).binds (fun _ _ _ _ _ _ us hl => match us, hl with | [_, _], _ => rfl)⟩),
    (⟨_, _, FunD.fun F9, ⟨a9, i9, k9⟩, (FunD.fun F9).binds (fun _ _ _ _ _ _ us hl => match us, hl with | [_, _, _], _ => rfl)⟩),
    (⟨_, _, FunD.fun F10, PySem.W.mg_of X G a10, (FunD.fun F10).binds (fun _ _ _ _ _ _ us hl => match us, hl with | [_, _, _, _], _ => rfl)⟩),
    (⟨_, _, FunD.fun F11, PySem.W.mg_of X G a11, (FunD.fun F11).binds (fun _ _ _ _ _ _ us hl => match us, hl with | [_, _], _ => rfl)⟩),
    (⟨⟨_, _, _, FunD.fun F12, ⟨a12, g12, u12, ⟨_, r12⟩⟩, (FunD.fun F12).binds (fun _ _ _ _ _ _ us hl => match us, hl with | [_], _ => rfl)⟩⟩),
    (⟨_, _, FunD.fun F13, ⟨a13, i13, k13⟩, (FunD.fun F13).binds (fun _ _ _ _ _ _ us hl => match us, hl with | [_, _, _], _ => rfl)⟩),
    (⟨⟨_, _, _, FunD.fun F14, ⟨a14, g14, u14, ⟨_, r14⟩⟩, (FunD.fun F14).binds (fun _ _ _ _ _ _ us hl => match us, hl with | [_], _ => rfl)⟩⟩),
    (⟨_, _, FunD.fun F15, PySem.W.mg_of X G a15, (FunD.fun F15).binds (fun _ _ _ _ _ _ us hl => match us, hl with | [_, _, _, _], _ => rfl)⟩),
    (⟨_, _, FunD.fun F16, PySem.W.mg_of X G a16, (FunD.fun F16).binds (fun _ _ _ _ _ _ us hl => match us, hl with | [_], _ => rfl)⟩),
    (⟨_, _, FunD.fun F17, PySem.W.mg_of X G a17, (FunD.fun F17).binds (fun _ _ _ _ _ _ us hl => match us, hl with | [_, _], _ => rfl)⟩),
    (⟨_, _, FunD.fun F18, PySem.W.mg_of X G a18, (FunD.fun F18).binds (fun _ _ _ _ _ _ us hl => match us, hl with | [_], _ => rfl)⟩),
    (⟨⟨_, _, _, FunD.fun F19, ⟨a19, g19, u19, ⟨_, r19⟩⟩, (FunD.fun F19).binds (fun _ _ _ _ _ _ us hl => match us, hl with | [_], _ => rfl)⟩⟩),
    (⟨⟨_, _, _, FunD.fun F20, ⟨a20, g20, u20, ⟨_, r20⟩⟩, (FunD.fun F20).binds (fun _ _ _ _ _ _ us hl => match us, hl with | [_], _ => rfl)⟩⟩),
    (⟨_, _, FunD.fun F21, PySem.W.mg_of X G a21, (FunD.fun F21).binds (fun _ _ _ _ _ _ us hl => match us, hl with | [_], _ => rfl)⟩),
    (⟨_, _, FunD.fun F22, PySem.W.mg_of X G a22, (FunD.fun F22).binds (fun _ _ _ _ _ _ us hl => match us, hl with | [_, _], _ => rfl)⟩),
    (⟨_, _, FunD.fun F23, PySem.W.mg_of X G a23, (FunD.fun F23).binds (fun _ _ _ _ _ _ us hl => match us, hl with | [_, _], _ => rfl)⟩),
    (⟨_, _, FunD.fun F25, PySem.W.mg_of X G a25, (FunD.fun F25).binds (fun _ _ _ _ _ _ us hl => match us, hl with | [_], _ => rfl)⟩),
    (⟨_, _, FunD.fun F26, PySem.W.mg_of X G a26, (FunD.fun F26).binds (fun _ _ _ _ _ _ us hl => match us, hl with | [_], _ => rfl)⟩),
    (⟨_, _, FunD.fun F27, PySem.W.mg_of X G a27, (FunD.fun F27).binds (fun _ _ _ _ _ _ us hl => match us, hl with | [_, _, _], _ => rfl)⟩),
    (⟨_, _, FunD.fun F28, PySem.W.mg_of X G a28, (FunD.fun F28).binds (fun _ _ _ _ _ _ us hl => match us, hl with | [_, _, _], _ => rfl)⟩),
    (⟨_, _, FunD.fun F29, PySem.W.mg_of X G a29, (FunD.fun F29).binds (fun _ _ _ _ _ _ us hl => match us, hl with | [_, _, _, _, _], _ => rfl)⟩),
    (⟨_, _, FunD.fun F30, PySem.W.mg_of X G a30, (FunD.fun F30).binds (fun _ _ _ _ _ _ us hl => match us, hl with | [_, _, _, _, _], _ => rfl)⟩),
    (⟨_, _, FunD.fun F31, ⟨a31, i31, k31⟩, (FunD.fun F31).binds (fun _ _ _ _ _ _ us hl => match us, hl with | [_, _], _ => rfl)⟩),
    (⟨_, _, FunD.fun F32, ⟨a32, i32, k32⟩, (FunD.fun F32).binds (fun _ _ _ _ _ _ us hl => match us, hl with | [_, _], _ => rfl)⟩),
    (⟨_, _, FunD.fun F33, PySem.W.mg_of X G a33, (FunD.fun F33).binds (fun _ _ _ _ _ _ us hl => match us, hl with | [_, _], _ => rfl)⟩),
    (⟨_, _, FunD.fun F34, PySem.W.mg_of X G a34, (FunD.fun F34).binds (fun _ _ _ _ _ _ us hl => match us, hl with | [_, _], _ => rfl)⟩),
    (⟨_, _, FunD.fun F35, PySem.W.mg_of X G a35, (FunD.fun F35).binds (fun _ _ _ _ _ _ us hl => match us, hl with | [_, _, _, _], _ => rfl)⟩),
    (⟨_, _, FunD.fun F36, PySem.W.mg_of X G a36, (FunD.fun F36).binds (fun _ _ _ _ _ _ us hl => match us, hl with | [_, _], _ => rfl)⟩),
    (⟨_, _, FunD.fun F37, PySem.W.mg_of X G a37, (FunD.fun F37).binds (fun _ _ _ _ _ _ us hl => match us, hl with | [_], _ => rfl)⟩),
    (⟨_, _, FunD.fun F38, PySem.W.mg_of X G a38, (FunD.fun F38).binds (fun _ _ _ _ _ _ us hl => match us, hl with | [_], _ => rfl)⟩),
    (⟨_, _, FunD.fun F39, PySem.W.mg_of X G a39, (FunD.fun F39).binds (fun _ _ _ _ _ _ us hl => match us, hl with | [_, _], _ => rfl)⟩),
    (⟨_, _, FunD.fun F40, PySem.W.mg_of X G a40, (FunD.fun F40).binds (fun _ _ _ _ _ _ us hl => match us, hl with | [_, _, _], _ => rfl)⟩),
    (⟨_, _, FunD.fun F41, PySem.W.mg_of X G a41, (FunD.fun F41).binds (fun _ _ _ _ _ _ us hl => match us, hl with | [_, _, _], _ => rfl)⟩),
    (⟨_, _, FunD.fun F42, PySem.W.mg_of X G a42, (FunD.fun F42).binds (fun _ _ _ _ _ _ us hl => match us, hl with | [_, _, _], _ => rfl)⟩),
    (⟨_, _, FunD.fun F43, PySem.W.mg_of X G a43, (FunD.fun F43).binds (fun _ _ _ _ _ _ us hl => match us, hl with | [_, _, _], _ => rfl)⟩),
    (⟨_, _, FunD.fun F44, PySem.W.mg_of X G a44, (FunD.fun F44).binds (fun _ _ _ _ _ _ us hl => match us, hl with | [_], _ => rfl)⟩),
    (⟨_, _, FunD.fun F46, PySem.W.mg_of X G a46, (FunD.fun F46).binds (fun _ _ _ _ _ _ us hl => match us, hl with | [_, _], _ => rfl)⟩),
    (⟨_, _, FunD.fun F47, ⟨a47, i47, k47⟩, (FunD.fun F47).binds (fun _ _ _ _ _ _ us hl => match us, hl with | [_, _], _ => rfl)⟩),
    (⟨_, _, FunD.fun F48, PySem.W.mg_of X G a48, (FunD.fun F48).binds (fun _ _ _ _ _ _ us hl => match us, hl with | [_], _ => rfl)⟩),
    (mk_K_Folding_2 (FunD.fun F24) ⟨m24, a24, i24, q24⟩ F24 (PySem.W.mg_of X G cc_Folding)),
    (mk_K_Web_2_beats (FunD.fun F45) ⟨m45, a45, i45, q45⟩ F45 (PySem.W.mg_of X G cc_Web)),
    (⟨⟨_, _, FunD.fun F49, (FunD.fun F49).binds (fun _ _ _ _ _ _ us hl => match us, hl with | [_, _], _ => rfl), a49, y49⟩, ⟨ox_BadFold, sa_BadFold, eB_BadFold, tT_BadFold, kC_BadFold⟩, PySem.W.mg_of X G cc_BadFold, fun f hf => by
      simp at hf
      subst hf
      exact ne_BadFold_number⟩),
    (⟨⟨_, _, FunD.fun F50, (FunD.fun F50).binds (fun _ _ _ _ _ _ us hl => match us, hl with | [_, _], _ => rfl), a50, y50⟩, ⟨ox_BadNumber, sa_BadNumber, eB_BadNumber, tT_BadNumber, kC_BadNumber⟩, PySem.W.mg_of X G cc_BadNumber, fun f hf => by
      simp at hf
      subst hf
      exact ne_BadNumber_number⟩),
    (⟨⟨_, _, FunD.fun F51, (FunD.fun F51).binds (fun _ _ _ _ _ _ us hl => match us, hl with | [_, _, _], _ => rfl), a51, y51⟩, ⟨ox_BadWeb, sa_BadWeb, eB_BadWeb, tT_BadWeb, kC_BadWeb⟩, PySem.W.mg_of X G cc_BadWeb, fun f hf => by
      simp at hf
      rcases hf with rfl | rfl
      · exact ne_BadWeb_part
      · exact ne_BadWeb_place⟩),
    (⟨⟨_, _, FunD.fun F52, (FunD.fun F52).binds (fun _ _ _ _ _ _ us hl => match us, hl with | [_, _], _ => rfl), a52, y52⟩, ⟨ox_UnknownPlace, sa_UnknownPlace, eB_UnknownPlace, tT_UnknownPlace, kC_UnknownPlace⟩, PySem.W.mg_of X G cc_UnknownPlace, fun f hf => by
      simp at hf
      subst hf
      exact ne_UnknownPlace_place⟩),
    (⟨xq_NotPlain, PySem.W.mg_of X G cc_NotPlain, kC_NotPlain, eB_NotPlain, tT_NotPlain⟩)⟩
theorem ints_rp {K : PySem.W.Frag} {G : Hp} : ∀ ns : List Int, Rps K G (ns.map .int) (ns.map V.int)
  | [] => .nil
  | n :: ns => .cons (.int n) (ints_rp ns)
theorem sp_go {K : PySem.W.Frag} {H : Hp} {a : Addr} {ns : List Int} (hl : ns.length ≤ 63) (hS : SqL K H a (ns.map V.int)) : spOf K 1 wf_law [.ref a] H (fun v _ => v = .bl true) fun _ _ _ => False :=
  ⟨rfl, H, [.fls (ns.map .int)], xcNo, Same.refl _, .cons (.fls hS (ints_rp ns)) .nil, tieNo, ns, rfl, hl, fun G' H' v _ r => by
    have r' : Rp K G' (.bl true) v := r
    cases r'
    rfl⟩
theorem law_fn {l : PySem.W.OpenLaw} {w : World} {K : PySem.W.Frag} {h : Heap} {mg : Str → Option Value} {fa : Addr} (X : K.In h) (G : h.Ns mainGlobals mg) (hfa : mg "law" = some (.ref fa)) (c : SaysK fns exs K) :
    ∃ fd : FuncData, (∀ (s : Shared) (v : Value), BindsTo s fd ⟨[v], []⟩ [("script", v)]) ∧ ∀ base : Heap, K.In base → base.Ns mainGlobals mg → FnOk l.prog w K mg base (L2.CX l.prog w) 16 fa fd ["script"] (spOf K 1 wf_law) := by
  have F := facts X G c
  obtain ⟨f, fd, Fu, hm, bd⟩ := F.a_law.ex
  have e := hfa.symm.trans hm
  cases e
  obtain ⟨oc, od, kV, doc, pm, an, cdv, ct, osl, rfl, lk, cd⟩ := Fu.ex
  exact ⟨_, fun s v => .of_eq rfl, fun base _ _ => fn_ok Fu sc_law (fun xc ds Q q => hn_wf_law ds xc Q q) (fun cdv A outer s H E hr => d_law F.T (D_law_draws F) (D_law_finished F) (D_law_is_finished F) (D_law_is_plain F) (D_law_refused_k33 F) (D_law_same F) (D_law_web_of F) (D_fold_up F) (M_Folding___eq__ F) (M_Web_restricted F) (P_Folding_finished F) (P_Folding_whole F) (K_Folding_2 F) (K_Web_2_beats F) hr) (fun xc ds Q q => p_law_k33 _ _ _ _ _ xc ds Q q)⟩
end Tw.k33

set_option maxHeartbeats 0
open PySem PySem.W PySem.Calls PyProof.Rows
theorem PySem.Challenge.cw_tagwebs_k33_whole_folds_leave_as_many_holds : PySem.Challenge.rw_tagwebs_k33_whole_folds_leave_as_many.Holds := by
  w_on; o_law
  refine HandSHeadRun.head_any (r := OpenLaw.row PySem.Challenge.rw_tagwebs_k33_whole_folds_leave_as_many) (q := Tw.k33.qv) (H := Tw.k33.hk) (ob := Tw.k33.ob) (M := 40000) (loose := Tw.k33.nms) (d := HandSHeadRun.topDef (OpenLaw.row PySem.Challenge.rw_tagwebs_k33_whole_folds_leave_as_many).prog 56) (kwd := []) Tw.k33.ob_eq
    (by kernel_rfl) (fun s => by kernel_rfl) Tw.k33.run (by kernel_rfl) (by kernel_rfl) (by kernel_rfl) (by rfl) (by first | assumption | decide +kernel) (by decide +kernel) ⟨rfl, rfl, rfl, rfl, rfl, by decide +kernel⟩ ?hw ?hc
  case hw => w_witness2
  case hc =>
    refine Tw.walk_ofK (l := PySem.Challenge.rw_tagwebs_k33_whole_folds_leave_as_many) (n := 63) (k := 16) (x := "script") (sp := fun K => Tw.spOf K 1 Tw.S.wf_law) rfl (by decide) (by kernel_rfl) ⟨rfl, by decide, by decide⟩ (fun K H a ns hl _ hS => Tw.k33.sp_go hl hS) ?F
    intro w mg fa h Y G hmg0
    obtain ⟨K, KX, c⟩ := Y
    have hmg : mg ("law" : PySem.Str) = some (.ref fa) := by
      have e : (HandSHeadRun.topDef (OpenLaw.row PySem.Challenge.rw_tagwebs_k33_whole_folds_leave_as_many).prog 56).name = ("law" : PySem.Str) := by kernel_rfl
      rw [← e]
      exact hmg0
    obtain ⟨fd, hb, hF⟩ := Tw.k33.law_fn (l := PySem.Challenge.rw_tagwebs_k33_whole_folds_leave_as_many) (w := w) KX G hmg c
    exact ⟨K, fd, KX, hb, hF⟩
