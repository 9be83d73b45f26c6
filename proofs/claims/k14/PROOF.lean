import PyProof.Rows.All
import Wide.All
import OpenK.AllK
import Wide.FinOn
import HandS.ForMost
import HandS.ExcInit
import HandS.Words
import HandS.Defaults
import HandS.Head2
import HandS.HeadHook2
import HandS.TupAny
import HandS.SortInts
import HandS.Deep
import HandS.IsInst
import HandS.Strs
import HandS.TupSets
import HandS.Star
import HandS.WordsExc
import HandS.Zip
import HandS.MakeKwOnly
import OpenK.KOps
import HandS.Style
import KE.SortData
import HandS.NoneIn
import HandS.Codes
import HandS.Zip0
import PyProof.Draws
import PyProof.EnumMake
import HandS.ExcOwn
import HandS.ExcField
import HandS.ExcIs
import KE.KExcIs
import HandS.Property
import HandS.TupMul
import HandS.More
import PyProof.TupleOfStr
import HandS.Conv
import OpenK.KMeth
import HandS.TryOnly
import PyProof.ExcBaseAll.ValueError
import HandS.IterVal
import HandS.OwnIter
import PyProof.TupleIter
import HandS.TryMany
import HandS.Text
import HandS.FStr
import HandS.Call
import HandS.ClsMeth
import HandS.CallLocal
import HandS.HeadEnd
import PySem.Challenge.RW_tagwebs_k14_runs
set_option Elab.async false
set_option linter.all false
set_option maxRecDepth 100000
set_option autoImplicit false
/-! Tw, the head: the text's top run in the kernel, what it leaves told by tests of the written part. -/
namespace Tw
open PySem PySem.Spec L2 PyProof.Rows
/-- a def of the text: where it stands, its names, its text, its keyword-only defaults -/
structure FnE where
  adr : PySem.W.Frag → Addr
  name : Str
  qual : Str
  st : Stmt
  kwd : List (Str × He.Dv)
def fnAt (K : PySem.W.Frag) (a : Addr) : He.FnW := match K.lookup a with
  | some ⟨_, _, .func fd, _⟩ => some (fd.name, fd.qualname, fd.params, fd.body, fd.scope, fd.globals, fd.closure, fd.builtins)
  | _ => none
def FnE.val (d : FnE) : He.FnW := some (d.name, d.qual, defArgs d.st, .stmts (defBody d.st), defScope d.st, mainGlobals, [], builtinsNs)
def FnE.kws (K : PySem.W.Frag) (d : FnE) : List (Str × V) := d.kwd.map fun q => (q.1, q.2.v K)
def FnE.ok (K : PySem.W.Frag) (d : FnE) : Bool := PySem.W.keepIn K (.ref (d.adr K)) && (match K.lookup (d.adr K) with
  | some ⟨_, _, .func fd, _⟩ => PySem.W.codeIn K fd.code d.qual && (He.dflB K fd.defaults [] && He.kwdB K fd.kwdefaults (d.kws K))
  | _ => false)
theorem and2 {a b : Bool} (h : (a && b) = true) : a = true ∧ b = true := Bool.and_eq_true_iff.mp h
theorem FnE.funD {K : PySem.W.Frag} {d : FnE} (e : fnAt K (d.adr K) = d.val) (c : d.ok K = true) : ∃ fd, FunD K d.name d.qual (defArgs d.st) (defBody d.st) (defScope d.st) [] (d.kws K) (d.adr K) fd := by
  obtain ⟨kp, c2⟩ := and2 c
  unfold fnAt at e
  generalize hq : K.lookup (d.adr K) = q at e c2
  match q, e, c2 with
  | some ⟨oc, od, .func ⟨n1, n2, n3, n4, n5, n6, n7, n8, n9, n10, n11, n12, n13, n14, n15⟩, sl⟩, e, c2 =>
    have e2 : (some (n1, n2, n3, n4, n5, n6, n7, n15) : He.FnW) = some (d.name, d.qual, defArgs d.st, .stmts (defBody d.st), defScope d.st, mainGlobals, [], builtinsNs) := e
    simp only [Option.some.injEq, Prod.mk.injEq] at e2
    obtain ⟨rfl, rfl, rfl, rfl, rfl, rfl, rfl, rfl⟩ := e2
    obtain ⟨k1, k2⟩ := and2 c2
    obtain ⟨k3, k4⟩ := and2 k2
    exact ⟨_, ⟨oc, od, n8, n9, n10, n11, n12, n13, n14, sl, rfl, hq, k1, He.dflB_ok k3, He.kwdB_ok k4⟩, kp⟩
theorem FunD.fun {K : PySem.W.Frag} {x q : Str} {st : Stmt} {kws : List (Str × V)} {f : Addr} {fd : FuncData} (F : FunD K x q (defArgs st) (defBody st) (defScope st) [] kws f fd) : Fun K x q st f fd := by
  obtain ⟨⟨oc, od, dV, kV, doc, pm, an, cdv, ct, osl, e, lk, cd, hd, hk⟩, kp⟩ := F
  rcases hd with ⟨_, rfl⟩ | ⟨z, _⟩
  · exact ⟨⟨oc, od, kV, doc, pm, an, cdv, ct, osl, e, lk, cd⟩, kp⟩
  · exact absurd rfl z
/-! ### the Hook -/
abbrev AlK : Type := Bool × List He.FnW
def obsK (fn : List FnE) (ex : List (PySem.W.Frag → Bool)) (K : PySem.W.Frag) : AlK := ((ex.all fun f => f K) && fn.all fun d => d.ok K, fn.map fun d => fnAt K (d.adr K))
def valK (fn : List FnE) : AlK := (true, fn.map FnE.val)
structure SaysK (fn : List FnE) (ex : List (PySem.W.Frag → Bool)) (K : PySem.W.Frag) : Prop where
  e : obsK fn ex K = valK fn
/-- what of an object the tests need -/
def refsC (o : Obj) : List Addr := match o.data with
  | .func fd => He.refV fd.code ++ He.refV fd.kwdefaults
  | .cls cd => [cd.ns]
  | .dict es _ => es.toList.flatMap fun e => He.refV e.val
  | .fields vs => vs.toList.flatMap He.refV
  | _ => []
def grow1 (g : Addr → Option Obj) (as : List Addr) : List Addr := as.flatMap fun a => match g a with
  | some o => refsC o
  | none => []
def asC (g : Addr → Option Obj) : List Addr :=
  let l0 := [mainGlobals, cStatics]; let l1 := grow1 g l0; let l2 := grow1 g l1; let l3 := grow1 g l2; let l4 := grow1 g l3; let l5 := grow1 g l4
  l0 ++ (l1 ++ (l2 ++ (l3 ++ (l4 ++ l5))))
def obsKG (fn : List FnE) (ex : List (PySem.W.Frag → Bool)) (g : Addr → Option Obj) : AlK := obsK fn ex (He.frG g (asC g))
def hookK (fn : List FnE) (ex : List (PySem.W.Frag → Bool)) : PySem.W.Hook where
  α := AlK
  obs := fun s => obsKG fn ex s.heap.get?
  val := fun _ => valK fn
  says := fun _ h => ∃ K : PySem.W.Frag, K.In h ∧ SaysK fn ex K
  of := fun _ _ e => ⟨_, He.frG_in, ⟨e⟩⟩
  keeps := fun _ _ _ ⟨K, hK, c⟩ k => ⟨K, PySem.W.Frag.In.keeps hK k, c⟩
theorem obsKG_eq {fn : List FnE} {ex : List (PySem.W.Frag → Bool)} {g : Addr → Option Obj} {s : Shared} (h : ∀ a, g a = s.heap.get? a) : obsKG fn ex g = (hookK fn ex).obs s := by
  have e : g = s.heap.get? := funext h
  rw [e] <;> rfl
section
variable {fn : List FnE} {ex : List (PySem.W.Frag → Bool)} {K : PySem.W.Frag}
theorem SaysK.b (c : SaysK fn ex K) (i : Nat) {f : PySem.W.Frag → Bool} (h : ex[i]? = some f := by rfl) : f K = true := by
  have c1 := (and2 (show ((ex.all fun f => f K) && fn.all fun d => d.ok K) = true from congrArg (fun z : AlK => z.1) c.e)).1
  exact List.all_eq_true.mp c1 f (List.mem_of_getElem? h)
theorem SaysK.p (c : SaysK fn ex K) (i : Nat) {p : PySem.W.Frag → Prop} {dp : ∀ K, Decidable (p K)} (h : ex[i]? = some (fun K => @decide (p K) (dp K)) := by rfl) : p K := @of_decide_eq_true (p K) (dp K) (c.b i h)
theorem SaysK.d (c : SaysK fn ex K) (i : Nat) {d : FnE} (h : fn[i]? = some d := by rfl) : ∃ fd, FunD K d.name d.qual (defArgs d.st) (defBody d.st) (defScope d.st) [] (d.kws K) (d.adr K) fd := by
  have c2 := (and2 (show ((ex.all fun f => f K) && fn.all fun d => d.ok K) = true from congrArg (fun z : AlK => z.1) c.e)).2
  have e : fn.map (fun d => fnAt K (d.adr K)) = fn.map FnE.val := congrArg (fun z : AlK => z.2) c.e
  have e2 : (fn.map fun d => fnAt K (d.adr K))[i]? = (fn.map FnE.val)[i]? := by rw [e]
  rw [List.getElem?_map, List.getElem?_map, h] at e2
  exact FnE.funD (Option.some.inj e2) (List.all_eq_true.mp c2 d (List.mem_of_getElem? h))
end
/-! ### tests -/
abbrev gA (x : Str) (K : PySem.W.Frag) : Addr := He.ga K x
abbrev mA (x m : Str) (K : PySem.W.Frag) : Addr := He.ma K (He.ga K x) m
def strB (x z : Str) (K : PySem.W.Frag) : Bool := match PySem.W.nsIn K mainGlobals x with
  | some (some (.str y _)) => decide (y = z)
  | _ => false
theorem strB_ok {x z : Str} {K : PySem.W.Frag} (h : strB x z K = true) : ∃ t, PySem.W.nsIn K mainGlobals x = some (some (.str z t)) := by
  unfold strB at h
  split at h
  · rename_i y t e
    rw [e, of_decide_eq_true h]
    exact ⟨t, rfl⟩
  · cases h
/-- a class of errors with an __init__ of its own -/
def oexB (C : PySem.W.Frag → Addr) (K : PySem.W.Frag) : Bool := match K.lookup (C K) with
  | some ⟨.type "type", _, .cls cd, sl⟩ => (match cd.mro, sl.toList with
    | .ref C' :: bm, [_, _, _, _, some (.builtin n), _] => decide (C' = C K) && (decide (n = "ValueError.__new__") && (!cd.hasDel && (cd.hasDict && PySem.HandSPX.refsVE bm)))
    | _, _ => false)
  | _ => false
theorem oexB_ok {C : PySem.W.Frag → Addr} {K : PySem.W.Frag} (h : oexB C K = true) : ∃ nm q N bs bm sn sub ab col dd k0 k1 k2 k3 k5, K.lookup (C K) = some (excClassObj nm q (C K) N bs bm true sn sub ab col dd k0 k1 k2 k3 k5 "ValueError.__new__") ∧ PySem.HandSPX.refsVE bm = true := by
  unfold oexB at h
  split at h
  · rename_i dd cd sl ho
    split at h
    · rename_i C' bm k0 k1 k2 k3 n k5 hm hs
      obtain ⟨h1, h2a⟩ := and2 h
      obtain ⟨h2, h3a⟩ := and2 h2a
      obtain ⟨h3, h4a⟩ := and2 h3a
      obtain ⟨h4, h5⟩ := and2 h4a
      clear h h2a h3a h4a
      have e1 := of_decide_eq_true h1
      have e2 := of_decide_eq_true h2
      obtain ⟨nm, bs, mro, ns, qn, hd, sn, sub, ab, col, del⟩ := cd
      simp only [Bool.not_eq_true'] at h3
      dsimp only at hm h3 h4
      subst hm h3 h4 e2
      have hsl : sl = #[k0, k1, k2, k3, some (.builtin "ValueError.__new__"), k5] := by
        obtain ⟨l⟩ := sl
        simp only at hs
        rw [hs]
      subst hsl
      rw [ho, e1]
      exact ⟨nm, qn, ns, bs, bm, sn, sub, ab, col, dd, k0, k1, k2, k3, k5, rfl, h5⟩
    · cases h
  · cases h
end Tw

/-! the head: a tuple of texts of a module -/
namespace Tw
open PySem PySem.Spec L2 PyProof.Rows
end Tw

namespace Tw.k14
open PySem PySem.Spec L2 PyProof.Rows Tw

def topS (i : Nat) : Stmt := PySem.Challenge.pw_tagwebs_k14_runs.main.body.getD i (.Pass ⟨0, 0, 0, 0⟩)
abbrev s_law_names : Stmt := topS 54
abbrev s_law_table : Stmt := topS 56
abbrev s_law_way_ties : Stmt := topS 55
abbrev s_law_any_web_k13 : Stmt := topS 57
abbrev s_law_beat : Stmt := topS 62
abbrev s_law_draws : Stmt := topS 53
abbrev s_law_posts : Stmt := topS 58
abbrev s_law_reach : Stmt := topS 60
abbrev s_law_runs : Stmt := topS 61
abbrev s_law_is_int : Stmt := topS 51
abbrev s_law_same : Stmt := topS 52
abbrev s_law_sends : Stmt := topS 59
abbrev s_Web___len__ : Stmt := inClass (topS 44) 1
abbrev s_check_place : Stmt := topS 15
abbrev s_check_free : Stmt := topS 33
abbrev s_is_rising : Stmt := topS 20
abbrev s_is_set : Stmt := topS 13
abbrev s_is_post_of : Stmt := topS 19
abbrev s_check_post : Stmt := topS 31
abbrev s_longer_posts : Stmt := topS 22
abbrev s_posts_of : Stmt := topS 21
abbrev s_with_one : Stmt := topS 24
abbrev s_Web_steps : Stmt := inClass (topS 44) 12
abbrev s_sends_of : Stmt := topS 23
abbrev s_check_round : Stmt := topS 32
abbrev s_barred_of : Stmt := topS 26
abbrev s_reached : Stmt := topS 17
abbrev s_ends_of : Stmt := topS 27
abbrev s_not_caught : Stmt := topS 28
abbrev s_runs_of : Stmt := topS 25
abbrev s_Game_runs : Stmt := inClass (topS 30) 6
abbrev s_Game___init__ : Stmt := inClass (topS 30) 0
abbrev s_is_name : Stmt := topS 36
abbrev s_check_names : Stmt := topS 45
abbrev s_is_tie : Stmt := topS 38
abbrev s_check_ties : Stmt := topS 46
abbrev s_nexts_at : Stmt := topS 40
abbrev s_nexts_of : Stmt := topS 39
abbrev s_steps_of : Stmt := topS 49
abbrev s_Web___init__ : Stmt := inClass (topS 44) 0
abbrev s_law : Stmt := topS 63
abbrev s_BadPost___init__ : Stmt := inClass (topS 9) 0
abbrev s_CannotSend___init__ : Stmt := inClass (topS 10) 0
abbrev s_NotFree___init__ : Stmt := inClass (topS 8) 0
abbrev s_UnknownPlace___init__ : Stmt := inClass (topS 7) 0
def fns0 : List FnE := [
  ⟨(gA "_law_names"), "_law_names", "_law_names", s_law_names, []⟩,
  ⟨(gA "_law_table"), "_law_table", "_law_table", s_law_table, []⟩,
  ⟨(gA "_law_way_ties"), "_law_way_ties", "_law_way_ties", s_law_way_ties, []⟩,
  ⟨(gA "_law_any_web"), "_law_any_web", "_law_any_web", s_law_any_web_k13, []⟩,
  ⟨(gA "_law_beat"), "_law_beat", "_law_beat", s_law_beat, []⟩,
  ⟨(gA "_law_draws"), "_law_draws", "_law_draws", s_law_draws, []⟩,
  ⟨(gA "_law_posts"), "_law_posts", "_law_posts", s_law_posts, []⟩,
  ⟨(gA "_law_reach"), "_law_reach", "_law_reach", s_law_reach, []⟩,
  ⟨(gA "_law_runs"), "_law_runs", "_law_runs", s_law_runs, []⟩,
  ⟨(gA "_law_is_int"), "_law_is_int", "_law_is_int", s_law_is_int, []⟩,
  ⟨(gA "_law_same"), "_law_same", "_law_same", s_law_same, []⟩,
  ⟨(gA "_law_sends"), "_law_sends", "_law_sends", s_law_sends, []⟩,
  ⟨(mA "Web" "__len__"), "__len__", "Web.__len__", s_Web___len__, []⟩,
  ⟨(gA "check_place"), "check_place", "check_place", s_check_place, []⟩,
  ⟨(gA "check_free"), "check_free", "check_free", s_check_free, []⟩,
  ⟨(gA "is_rising"), "is_rising", "is_rising", s_is_rising, []⟩,
  ⟨(gA "is_set"), "is_set", "is_set", s_is_set, []⟩,
  ⟨(gA "is_post_of"), "is_post_of", "is_post_of", s_is_post_of, []⟩,
  ⟨(gA "check_post"), "check_post", "check_post", s_check_post, []⟩,
  ⟨(gA "longer_posts"), "longer_posts", "longer_posts", s_longer_posts, []⟩,
  ⟨(gA "posts_of"), "posts_of", "posts_of", s_posts_of, []⟩,
  ⟨(gA "with_one"), "with_one", "with_one", s_with_one, []⟩,
  ⟨(mA "Web" "steps"), "steps", "Web.steps", s_Web_steps, []⟩,
  ⟨(gA "sends_of"), "sends_of", "sends_of", s_sends_of, []⟩,
  ⟨(gA "check_round"), "check_round", "check_round", s_check_round, []⟩,
  ⟨(gA "barred_of"), "barred_of", "barred_of", s_barred_of, []⟩,
  ⟨(gA "reached"), "reached", "reached", s_reached, []⟩,
  ⟨(gA "ends_of"), "ends_of", "ends_of", s_ends_of, []⟩,
  ⟨(gA "not_caught"), "not_caught", "not_caught", s_not_caught, []⟩,
  ⟨(gA "runs_of"), "runs_of", "runs_of", s_runs_of, []⟩]
def fns1 : List FnE := [
  ⟨(mA "Game" "runs"), "runs", "Game.runs", s_Game_runs, []⟩,
  ⟨(mA "Game" "__init__"), "__init__", "Game.__init__", s_Game___init__, [("travel", .str "walk"), ("pace", .str "step"), ("late", .int 0)]⟩,
  ⟨(gA "is_name"), "is_name", "is_name", s_is_name, []⟩,
  ⟨(gA "check_names"), "check_names", "check_names", s_check_names, []⟩,
  ⟨(gA "is_tie"), "is_tie", "is_tie", s_is_tie, []⟩,
  ⟨(gA "check_ties"), "check_ties", "check_ties", s_check_ties, []⟩,
  ⟨(gA "nexts_at"), "nexts_at", "nexts_at", s_nexts_at, []⟩,
  ⟨(gA "nexts_of"), "nexts_of", "nexts_of", s_nexts_of, []⟩,
  ⟨(gA "steps_of"), "steps_of", "steps_of", s_steps_of, []⟩,
  ⟨(mA "Web" "__init__"), "__init__", "Web.__init__", s_Web___init__, [("beats", .int 1)]⟩,
  ⟨(gA "law"), "law", "law", s_law, []⟩,
  ⟨(mA "BadPost" "__init__"), "__init__", "BadPost.__init__", s_BadPost___init__, []⟩,
  ⟨(mA "CannotSend" "__init__"), "__init__", "CannotSend.__init__", s_CannotSend___init__, []⟩,
  ⟨(mA "NotFree" "__init__"), "__init__", "NotFree.__init__", s_NotFree___init__, []⟩,
  ⟨(mA "UnknownPlace" "__init__"), "__init__", "UnknownPlace.__init__", s_UnknownPlace___init__, []⟩]
def exs0 : List (PySem.W.Frag → Bool) := [
  fun K => decide (PySem.W.nsIn K mainGlobals "Game" = some (some (.ref (gA "Game" K)))),
  fun K => decide (PySem.W.nsIn K mainGlobals "Web" = some (some (.ref (gA "Web" K)))),
  fun K => decide (PySem.W.nsIn K mainGlobals "BadPost" = some (some (.ref (gA "BadPost" K)))),
  fun K => decide (PySem.W.nsIn K mainGlobals "CannotSend" = some (some (.ref (gA "CannotSend" K)))),
  fun K => decide (PySem.W.nsIn K mainGlobals "NotFree" = some (some (.ref (gA "NotFree" K)))),
  fun K => decide (PySem.W.nsIn K mainGlobals "TagError" = some (some (.ref (gA "TagError" K)))),
  fun K => decide (PySem.W.nsIn K mainGlobals "UnknownPlace" = some (some (.ref (gA "UnknownPlace" K)))),
  fun K => decide (PySem.W.nsIn K mainGlobals "_law_names" = some (some (.ref ((gA "_law_names") K)))),
  fun K => decide (PySem.W.nsIn K mainGlobals "_law_table" = some (some (.ref ((gA "_law_table") K)))),
  fun K => decide (PySem.W.nsIn K mainGlobals "_law_way_ties" = some (some (.ref ((gA "_law_way_ties") K)))),
  fun K => decide (PySem.W.nsIn K mainGlobals "_law_any_web" = some (some (.ref ((gA "_law_any_web") K)))),
  fun K => decide (PySem.W.nsIn K mainGlobals "_law_beat" = some (some (.ref ((gA "_law_beat") K)))),
  fun K => decide (PySem.W.nsIn K mainGlobals "_law_draws" = some (some (.ref ((gA "_law_draws") K)))),
  fun K => decide (PySem.W.nsIn K mainGlobals "_law_posts" = some (some (.ref ((gA "_law_posts") K)))),
  fun K => decide (PySem.W.nsIn K mainGlobals "_law_reach" = some (some (.ref ((gA "_law_reach") K)))),
  fun K => decide (PySem.W.nsIn K mainGlobals "_law_runs" = some (some (.ref ((gA "_law_runs") K)))),
  fun K => decide (PySem.W.nsIn K mainGlobals "_law_is_int" = some (some (.ref ((gA "_law_is_int") K)))),
  fun K => decide (PySem.W.nsIn K mainGlobals "_law_same" = some (some (.ref ((gA "_law_same") K)))),
  fun K => decide (PySem.W.nsIn K mainGlobals "_law_sends" = some (some (.ref ((gA "_law_sends") K)))),
  fun K => decide (PySem.W.findIn K (.ref (gA "Web" K)) "__len__" = some (some (.ref ((mA "Web" "__len__") K)))),
  fun K => decide (PySem.W.isFn K (.ref ((mA "Web" "__len__") K)) = true),
  fun K => decide (PySem.W.nsIn K mainGlobals "check_place" = some (some (.ref ((gA "check_place") K)))),
  fun K => decide (PySem.W.nsIn K mainGlobals "check_free" = some (some (.ref ((gA "check_free") K)))),
  fun K => decide (PySem.W.nsIn K mainGlobals "is_rising" = some (some (.ref ((gA "is_rising") K)))),
  fun K => decide (PySem.W.nsIn K mainGlobals "is_set" = some (some (.ref ((gA "is_set") K)))),
  fun K => decide (PySem.W.nsIn K mainGlobals "is_post_of" = some (some (.ref ((gA "is_post_of") K)))),
  fun K => decide (PySem.W.nsIn K mainGlobals "check_post" = some (some (.ref ((gA "check_post") K)))),
  fun K => decide (PySem.W.nsIn K mainGlobals "longer_posts" = some (some (.ref ((gA "longer_posts") K)))),
  fun K => decide (PySem.W.nsIn K mainGlobals "posts_of" = some (some (.ref ((gA "posts_of") K)))),
  fun K => decide (PySem.W.nsIn K mainGlobals "with_one" = some (some (.ref ((gA "with_one") K))))]
def exs1 : List (PySem.W.Frag → Bool) := [
  fun K => decide (PySem.W.findIn K (.ref (gA "Web" K)) "steps" = some (some (.ref ((mA "Web" "steps") K)))),
  fun K => decide (PySem.W.isFn K (.ref ((mA "Web" "steps") K)) = true),
  fun K => decide (PySem.W.nsIn K mainGlobals "sends_of" = some (some (.ref ((gA "sends_of") K)))),
  fun K => decide (PySem.W.nsIn K mainGlobals "check_round" = some (some (.ref ((gA "check_round") K)))),
  fun K => decide (PySem.W.nsIn K mainGlobals "barred_of" = some (some (.ref ((gA "barred_of") K)))),
  fun K => decide (PySem.W.nsIn K mainGlobals "reached" = some (some (.ref ((gA "reached") K)))),
  fun K => decide (PySem.W.nsIn K mainGlobals "ends_of" = some (some (.ref ((gA "ends_of") K)))),
  fun K => decide (PySem.W.nsIn K mainGlobals "not_caught" = some (some (.ref ((gA "not_caught") K)))),
  fun K => decide (PySem.W.nsIn K mainGlobals "runs_of" = some (some (.ref ((gA "runs_of") K)))),
  fun K => decide (PySem.W.findIn K (.ref (gA "Game" K)) "runs" = some (some (.ref ((mA "Game" "runs") K)))),
  fun K => decide (PySem.W.isFn K (.ref ((mA "Game" "runs") K)) = true),
  fun K => decide (PySem.W.findIn K (.ref (gA "Game" K)) "__init__" = some (some (.ref ((mA "Game" "__init__") K)))),
  fun K => decide (PySem.W.isFn K (.ref ((mA "Game" "__init__") K)) = true),
  fun K => decide (PySem.W.makesIn K (gA "Game" K) = true),
  fun K => decide (PySem.W.keepIn K (.ref (gA "Game" K)) = true),
  fun K => decide (PySem.W.nsIn K mainGlobals "is_name" = some (some (.ref ((gA "is_name") K)))),
  fun K => decide (PySem.W.nsIn K mainGlobals "check_names" = some (some (.ref ((gA "check_names") K)))),
  fun K => decide (PySem.W.nsIn K mainGlobals "is_tie" = some (some (.ref ((gA "is_tie") K)))),
  fun K => decide (PySem.W.nsIn K mainGlobals "check_ties" = some (some (.ref ((gA "check_ties") K)))),
  fun K => decide (PySem.W.nsIn K mainGlobals "nexts_at" = some (some (.ref ((gA "nexts_at") K)))),
  fun K => decide (PySem.W.nsIn K mainGlobals "nexts_of" = some (some (.ref ((gA "nexts_of") K)))),
  fun K => decide (PySem.W.nsIn K mainGlobals "steps_of" = some (some (.ref ((gA "steps_of") K)))),
  fun K => decide (PySem.W.findIn K (.ref (gA "Web" K)) "__init__" = some (some (.ref ((mA "Web" "__init__") K)))),
  fun K => decide (PySem.W.isFn K (.ref ((mA "Web" "__init__") K)) = true),
  fun K => decide (PySem.W.makesIn K (gA "Web" K) = true),
  fun K => decide (PySem.W.keepIn K (.ref (gA "Web" K)) = true),
  fun K => decide (PySem.W.nsIn K mainGlobals "law" = some (some (.ref ((gA "law") K)))),
  fun K => decide (PySem.W.findIn K (.ref (gA "BadPost" K)) "__init__" = some (some (.ref ((mA "BadPost" "__init__") K)))),
  fun K => decide (PySem.W.typeIn K (.ref ((mA "BadPost" "__init__") K)) = some (.type "function")),
  oexB (gA "BadPost")]
def exs2 : List (PySem.W.Frag → Bool) := [
  fun K => decide (PySem.W.findIn K (.ref (gA "BadPost" K)) "__setattr__" = some (some (.builtin "object.__setattr__"))),
  fun K => decide (PySem.W.subIn K (.ref (gA "BadPost" K)) (.type "BaseException") = some true),
  fun K => decide (PySem.W.typeIn K (.ref (gA "BadPost" K)) = some (.type "type")),
  fun K => decide (PySem.W.keepIn K (.ref (gA "BadPost" K)) = true),
  fun K => decide (PySem.W.findIn K (.ref (gA "BadPost" K)) "post" = some none),
  fun K => decide (PySem.W.findIn K (.ref (gA "CannotSend" K)) "__init__" = some (some (.ref ((mA "CannotSend" "__init__") K)))),
  fun K => decide (PySem.W.typeIn K (.ref ((mA "CannotSend" "__init__") K)) = some (.type "function")),
  oexB (gA "CannotSend"),
  fun K => decide (PySem.W.findIn K (.ref (gA "CannotSend" K)) "__setattr__" = some (some (.builtin "object.__setattr__"))),
  fun K => decide (PySem.W.subIn K (.ref (gA "CannotSend" K)) (.type "BaseException") = some true),
  fun K => decide (PySem.W.typeIn K (.ref (gA "CannotSend" K)) = some (.type "type")),
  fun K => decide (PySem.W.keepIn K (.ref (gA "CannotSend" K)) = true),
  fun K => decide (PySem.W.findIn K (.ref (gA "CannotSend" K)) "post" = some none),
  fun K => decide (PySem.W.findIn K (.ref (gA "NotFree" K)) "__init__" = some (some (.ref ((mA "NotFree" "__init__") K)))),
  fun K => decide (PySem.W.typeIn K (.ref ((mA "NotFree" "__init__") K)) = some (.type "function")),
  oexB (gA "NotFree"),
  fun K => decide (PySem.W.findIn K (.ref (gA "NotFree" K)) "__setattr__" = some (some (.builtin "object.__setattr__"))),
  fun K => decide (PySem.W.subIn K (.ref (gA "NotFree" K)) (.type "BaseException") = some true),
  fun K => decide (PySem.W.typeIn K (.ref (gA "NotFree" K)) = some (.type "type")),
  fun K => decide (PySem.W.keepIn K (.ref (gA "NotFree" K)) = true),
  fun K => decide (PySem.W.findIn K (.ref (gA "NotFree" K)) "place" = some none),
  fun K => decide (PySem.W.findIn K (.ref (gA "UnknownPlace" K)) "__init__" = some (some (.ref ((mA "UnknownPlace" "__init__") K)))),
  fun K => decide (PySem.W.typeIn K (.ref ((mA "UnknownPlace" "__init__") K)) = some (.type "function")),
  oexB (gA "UnknownPlace"),
  fun K => decide (PySem.W.findIn K (.ref (gA "UnknownPlace" K)) "__setattr__" = some (some (.builtin "object.__setattr__"))),
  fun K => decide (PySem.W.subIn K (.ref (gA "UnknownPlace" K)) (.type "BaseException") = some true),
  fun K => decide (PySem.W.typeIn K (.ref (gA "UnknownPlace" K)) = some (.type "type")),
  fun K => decide (PySem.W.keepIn K (.ref (gA "UnknownPlace" K)) = true),
  fun K => decide (PySem.W.findIn K (.ref (gA "UnknownPlace" K)) "place" = some none),
  fun K => decide (PySem.W.nsIn K mainGlobals "abs" = some none)]
def exs3 : List (PySem.W.Frag → Bool) := [
  fun K => decide (PySem.W.nsIn K mainGlobals "all" = some none),
  fun K => decide (PySem.W.nsIn K mainGlobals "bool" = some none),
  fun K => decide (PySem.W.nsIn K mainGlobals "enumerate" = some none),
  fun K => decide (PySem.W.nsIn K mainGlobals "int" = some none),
  fun K => decide (PySem.W.nsIn K mainGlobals "isinstance" = some none),
  fun K => decide (PySem.W.nsIn K mainGlobals "len" = some none),
  fun K => decide (PySem.W.nsIn K mainGlobals "list" = some none),
  fun K => decide (PySem.W.nsIn K mainGlobals "range" = some none),
  fun K => decide (PySem.W.nsIn K mainGlobals "set" = some none),
  fun K => decide (PySem.W.nsIn K mainGlobals "sorted" = some none),
  fun K => decide (PySem.W.nsIn K mainGlobals "str" = some none),
  fun K => decide (PySem.W.nsIn K mainGlobals "tuple" = some none),
  fun K => decide (PySem.W.nsIn K mainGlobals "zip" = some none),
  strB "LETTERS" "abcdefghijklmnopqrstuvwxyz",
  fun K => decide (PySem.W.plainGet K (gA "Game" K) Str.empty = true),
  fun K => decide (PySem.W.hasDictIn K (gA "Game" K) = true),
  fun K => decide (PySem.W.plainOver K (gA "Game" K) = true),
  fun K => decide (PySem.W.findIn K (.ref (gA "Game" K)) "__setattr__" = some (some (.builtin "object.__setattr__"))),
  fun K => decide (PySem.W.plainGet K (gA "Web" K) Str.empty = true),
  fun K => decide (PySem.W.hasDictIn K (gA "Web" K) = true),
  fun K => decide (PySem.W.plainOver K (gA "Web" K) = true),
  fun K => decide (PySem.W.findIn K (.ref (gA "Web" K)) "__setattr__" = some (some (.builtin "object.__setattr__"))),
  fun K => decide (PySem.W.findIn K (.ref (gA "Game" K)) "late" = some none),
  fun K => decide (PySem.W.findIn K (.ref (gA "Game" K)) "pace" = some none),
  fun K => decide (PySem.W.findIn K (.ref (gA "Game" K)) "seekers" = some none),
  fun K => decide (PySem.W.findIn K (.ref (gA "Game" K)) "travel" = some none),
  fun K => decide (PySem.W.findIn K (.ref (gA "Game" K)) "web" = some none),
  fun K => decide (PySem.W.findIn K (.ref (gA "Web" K)) "_nexts" = some none),
  fun K => decide (PySem.W.findIn K (.ref (gA "Web" K)) "_steps" = some none),
  fun K => decide (PySem.W.findIn K (.ref (gA "Web" K)) "beats" = some none)]
def exs4 : List (PySem.W.Frag → Bool) := [
  fun K => decide (PySem.W.findIn K (.ref (gA "Web" K)) "places" = some none)]
def fns : List FnE := fns0 ++ (fns1)
def exs : List (PySem.W.Frag → Bool) := exs0 ++ (exs1 ++ (exs2 ++ (exs3 ++ (exs4))))
def nms0 : List PySem.Str := [("_wall" : PySem.Str), ("TagError" : PySem.Str), ("Unlike" : PySem.Str), ("BadWeb" : PySem.Str), ("BadGame" : PySem.Str), ("UnknownName" : PySem.Str), ("UnknownPlace" : PySem.Str), ("NotFree" : PySem.Str), ("BadPost" : PySem.Str), ("CannotSend" : PySem.Str), ("BadNumber" : PySem.Str), ("is_set" : PySem.Str), ("check_place" : PySem.Str), ("reached" : PySem.Str), ("is_post_of" : PySem.Str), ("is_rising" : PySem.Str), ("posts_of" : PySem.Str), ("longer_posts" : PySem.Str), ("sends_of" : PySem.Str), ("with_one" : PySem.Str), ("runs_of" : PySem.Str), ("barred_of" : PySem.Str), ("ends_of" : PySem.Str), ("not_caught" : PySem.Str), ("Game" : PySem.Str), ("check_post" : PySem.Str), ("check_round" : PySem.Str), ("check_free" : PySem.Str), ("LETTERS" : PySem.Str), ("is_name" : PySem.Str)]
def nms1 : List PySem.Str := [("is_tie" : PySem.Str), ("nexts_of" : PySem.Str), ("nexts_at" : PySem.Str), ("ties_of" : PySem.Str), ("ties_between" : PySem.Str), ("Web" : PySem.Str), ("check_names" : PySem.Str), ("check_ties" : PySem.Str), ("woven" : PySem.Str), ("picked" : PySem.Str), ("steps_of" : PySem.Str), ("_law_is_int" : PySem.Str), ("_law_same" : PySem.Str), ("_law_draws" : PySem.Str), ("_law_names" : PySem.Str), ("_law_way_ties" : PySem.Str), ("_law_table" : PySem.Str), ("_law_any_web" : PySem.Str), ("_law_posts" : PySem.Str), ("_law_sends" : PySem.Str), ("_law_reach" : PySem.Str), ("_law_runs" : PySem.Str), ("_law_beat" : PySem.Str)]
def nms : List PySem.Str := nms0 ++ (nms1)
open PySem.W PySem.Calls
abbrev Rw : OpenRow := OpenLaw.row PySem.Challenge.rw_tagwebs_k14_runs
abbrev qv : Program := view Rw.prog [63]
abbrev hk : Hook := Tw.hookK fns exs
def ob (s : SharedT) : Tw.AlK := Tw.obsKG fns exs (HandSHeadRun.getT s)
theorem ob_eq (s : SharedT) : ob s = hk.obs s.abs := Tw.obsKG_eq (HandSHeadRun.getT_eq s)
set_option maxHeartbeats 0 in
theorem run (w : World) : HandSHeadRun.RunEq Rw qv hk ob 40000 nms w := by
  intro os
  kernel_rfl
end Tw.k14

/-! Tw, part A: data without the heap, how it lies in the abstract heap, the slots of a def. -/
namespace Tw
open PySem PySem.Spec L2

/-- data: what a value is worth, whatever its address -/
inductive D where
  | non | bl (b : Bool) | int (i : Int) | str (x : Str)
  | tup (xs : List D) | lst (xs : List D) | fls (xs : List D) | xtp (xs : List D)
  | obj (C : Addr) (fs : List (Str × D))
  | dK (kvs : List (Key × D)) | dT (kvs : List (List Key × D))

section
variable (K : PySem.W.Frag) (G : Hp)
mutual
/-- the data d stands at the value v, all of its objects within the part G of the heap, which does not change -/
inductive Rp : D → V → Prop
  | non : Rp .non .non
  | bl (b : Bool) : Rp (.bl b) (.bl b)
  | int (i : Int) : Rp (.int i) (.int i)
  | str (x : Str) : Rp (.str x) (.str x)
  | tup {a : Addr} {vs : List V} {ds : List D} : SqT K G a vs → Rps ds vs → Rp (.tup ds) (.ref a)
  | xtp {a : Addr} {vs : List V} {ds : List D} {o : Obj} : G a = some (.frz o (.tup vs)) → o.cls = .type "tuple" → o.dict = none → Rps ds vs → Rp (.xtp ds) (.ref a)
  | lst {a : Addr} {vs : List V} {ds : List D} : G a = some (.lst vs) → Rps ds vs → Rp (.lst ds) (.ref a)
  | fls {a : Addr} {vs : List V} {ds : List D} : SqL K G a vs → Rps ds vs → Rp (.fls ds) (.ref a)
  | obj {a C dx : Addr} {vf : List (Str × V)} {fs : List (Str × D)} : G a = some (.ins C dx vf) → Rfs fs vf → Rp (.obj C fs) (.ref a)
  | dK {a : Addr} {vk : List (Key × V)} {kvs : List (Key × D)} : G a = some (.dK vk) → Rks kvs vk → Rp (.dK kvs) (.ref a)
  | dT {a : Addr} {vk : List (List Key × V)} {kvs : List (List Key × D)} : G a = some (.dT vk) → Rts kvs vk → Rp (.dT kvs) (.ref a)
inductive Rps : List D → List V → Prop
  | nil : Rps [] []
  | cons {d : D} {v : V} {ds : List D} {vs : List V} : Rp d v → Rps ds vs → Rps (d :: ds) (v :: vs)
inductive Rfs : List (Str × D) → List (Str × V) → Prop
  | nil : Rfs [] []
  | cons {f : Str} {d : D} {v : V} {ds : List (Str × D)} {vs : List (Str × V)} : Rp d v → Rfs ds vs → Rfs ((f, d) :: ds) ((f, v) :: vs)
inductive Rks : List (Key × D) → List (Key × V) → Prop
  | nil : Rks [] []
  | cons {f : Key} {d : D} {v : V} {ds : List (Key × D)} {vs : List (Key × V)} : Rp d v → Rks ds vs → Rks ((f, d) :: ds) ((f, v) :: vs)
inductive Rts : List (List Key × D) → List (List Key × V) → Prop
  | nil : Rts [] []
  | cons {f : List Key} {d : D} {v : V} {ds : List (List Key × D)} {vs : List (List Key × V)} : Rp d v → Rts ds vs → Rts ((f, d) :: ds) ((f, v) :: vs)
end
end

section
variable {K : PySem.W.Frag} {G G' : Hp}
theorem sqT_mono {a : Addr} {xs : List V} (e : Same G G') (h : SqT K G a xs) : SqT K G' a xs := by
  rcases h with (h | ⟨o, h⟩) | h
  · exact .inl (.inl (e _ _ h))
  · exact .inl (.inr ⟨o, e _ _ h⟩)
  · exact .inr h
mutual
theorem Rp.mono (e : Same G G') : ∀ {d : D} {v : V}, Rp K G d v → Rp K G' d v
  | _, _, .non => .non
  | _, _, .bl b => .bl b
  | _, _, .int i => .int i
  | _, _, .str x => .str x
  | _, _, .tup h r => .tup (sqT_mono e h) (Rps.mono e r)
  | _, _, .xtp h c n r => .xtp (e _ _ h) c n (Rps.mono e r)
  | _, _, .lst h r => .lst (e _ _ h) (Rps.mono e r)
  | _, _, .fls h r => .fls (e.seq h) (Rps.mono e r)
  | _, _, .obj h r => .obj (e _ _ h) (Rfs.mono e r)
  | _, _, .dK h r => .dK (e _ _ h) (Rks.mono e r)
  | _, _, .dT h r => .dT (e _ _ h) (Rts.mono e r)
theorem Rps.mono (e : Same G G') : ∀ {d : List D} {v : List V}, Rps K G d v → Rps K G' d v
  | _, _, .nil => .nil
  | _, _, .cons h r => .cons (Rp.mono e h) (Rps.mono e r)
theorem Rfs.mono (e : Same G G') : ∀ {d : List (Str × D)} {v : List (Str × V)}, Rfs K G d v → Rfs K G' d v
  | _, _, .nil => .nil
  | _, _, .cons h r => .cons (Rp.mono e h) (Rfs.mono e r)
theorem Rks.mono (e : Same G G') : ∀ {d : List (Key × D)} {v : List (Key × V)}, Rks K G d v → Rks K G' d v
  | _, _, .nil => .nil
  | _, _, .cons h r => .cons (Rp.mono e h) (Rks.mono e r)
theorem Rts.mono (e : Same G G') : ∀ {d : List (List Key × D)} {v : List (List Key × V)}, Rts K G d v → Rts K G' d v
  | _, _, .nil => .nil
  | _, _, .cons h r => .cons (Rp.mono e h) (Rts.mono e r)
end
theorem Rps.length : ∀ {ds : List D} {vs : List V}, Rps K G ds vs → ds.length = vs.length
  | _, _, .nil => rfl
  | _, _, .cons _ r => congrArg (· + 1) (Rps.length r)
theorem Rps.append : ∀ {ds es : List D} {vs ws : List V}, Rps K G ds vs → Rps K G es ws → Rps K G (ds ++ es) (vs ++ ws)
  | _, _, _, _, .nil, q => q
  | _, _, _, _, .cons h r, q => .cons h (Rps.append r q)
theorem Rps.get : ∀ {ds : List D} {vs : List V} {i : Nat} {d : D}, Rps K G ds vs → ds[i]? = some d → ∃ v, vs[i]? = some v ∧ Rp K G d v
  | _, _, _, _, .nil, e => by simp at e
  | _, _, 0, _, .cons h _, e => by simp at e; subst e; exact ⟨_, rfl, h⟩
  | _, _, i + 1, d, .cons _ r, e => by
    obtain ⟨v, h1, h2⟩ := Rps.get (i := i) (d := d) r (by simpa using e)
    exact ⟨v, by simpa using h1, h2⟩
theorem Rps.get' : ∀ {ds : List D} {vs : List V} {i : Nat} {v : V}, Rps K G ds vs → vs[i]? = some v → ∃ d, ds[i]? = some d ∧ Rp K G d v
  | _, _, _, _, .nil, e => by simp at e
  | _, _, 0, _, .cons h _, e => by simp at e; subst e; exact ⟨_, rfl, h⟩
  | _, _, i + 1, v, .cons _ r, e => by
    obtain ⟨d, h1, h2⟩ := Rps.get' (i := i) (v := v) r (by simpa using e)
    exact ⟨d, by simpa using h1, h2⟩
theorem Rps.take : ∀ {ds : List D} {vs : List V} (n : Nat), Rps K G ds vs → Rps K G (ds.take n) (vs.take n)
  | _, _, 0, _ => .nil
  | _, _, _ + 1, .nil => .nil
  | _, _, n + 1, .cons h r => .cons h (Rps.take n r)
theorem Rps.drop : ∀ {ds : List D} {vs : List V} (n : Nat), Rps K G ds vs → Rps K G (ds.drop n) (vs.drop n)
  | _, _, 0, r => r
  | _, _, _ + 1, .nil => .nil
  | _, _, n + 1, .cons _ r => Rps.drop n r
theorem Rps.set {d : D} {v : V} (h : Rp K G d v) : ∀ {ds : List D} {vs : List V} (i : Nat), Rps K G ds vs → Rps K G (ds.set i d) (vs.set i v)
  | _, _, _, .nil => .nil
  | _, _, 0, .cons _ r => .cons h r
  | _, _, i + 1, .cons q r => .cons q (Rps.set h i r)
theorem Rfs.look : ∀ {fs : List (Str × D)} {vf : List (Str × V)} {f : Str} {d : D}, Rfs K G fs vf → fs.lookup f = some d → ∃ v, vf.lookup f = some v ∧ Rp K G d v
  | _, _, _, _, .nil, e => by simp at e
  | _, _, f, d, .cons (f := g) h r, e => by
    simp only [List.lookup_cons] at e ⊢
    cases q : f == g with
    | true => rw [q] at e; simp at e; subst e; exact ⟨_, rfl, h⟩
    | false => rw [q] at e; exact Rfs.look r e
theorem Rfs.lookN : ∀ {fs : List (Str × D)} {vf : List (Str × V)} {f : Str}, Rfs K G fs vf → fs.lookup f = none → vf.lookup f = none
  | _, _, _, .nil, e => rfl
  | _, _, f, .cons (f := g) h r, e => by
    simp only [List.lookup_cons] at e ⊢
    cases q : f == g with
    | true => rw [q] at e; cases e
    | false => rw [q] at e; exact Rfs.lookN r e
theorem Rfs.length : ∀ {ds : List (Str × D)} {vs : List (Str × V)}, Rfs K G ds vs → ds.length = vs.length
  | _, _, .nil => rfl
  | _, _, .cons _ r => congrArg (· + 1) (Rfs.length r)
/-- an attribute stored, in data -/
def putD (f : Str) (d : D) : List (Str × D) → List (Str × D)
  | [] => [(f, d)]
  | (g, e) :: r => if g = f then (g, d) :: r else (g, e) :: putD f d r
end

/-- what an object of one's own is, its parts within G -/
def Top (K : PySem.W.Frag) (G : Hp) : D → HO → Prop
  | .lst ds, .lst vs => Rps K G ds vs
  | .dK kvs, .dK vk => Rks K G kvs vk
  | .dT kvs, .dT vk => Rts K G kvs vk
  | _, _ => False
theorem Top.mono {K : PySem.W.Frag} {G G' : Hp} (e : Same G G') {d : D} {o : HO} (h : Top K G d o) : Top K G' d o := by
  cases d <;> cases o <;> first | exact h.elim | skip
  · exact Rps.mono e h
  · exact Rks.mono e h
  · exact Rts.mono e h
theorem Top.rp {K : PySem.W.Frag} {G : Hp} {d : D} {o : HO} {a : Addr} (h : Top K G d o) (ha : G a = some o) : Rp K G d (.ref a) := by
  cases d <;> cases o <;> first | exact h.elim | skip
  · exact .lst ha h
  · exact .dK ha h
  · exact .dT ha h

/-- a slot: nothing known, data, an object of the def's own that it may change -/
inductive Sl where
  | no | da (d : D) | ow (d : D) | se (a C : Addr) (fs : List (Str × D))
  /-- an error that was caught: its own dict, its fields -/
  | ex (a p : Addr) (fs : List (Str × D))
  /-- .. one that has no dict -/
  | e0 (a : Addr)
abbrev Evn := List Sl

/-- how things go on: G the unchanging part, H the heap; objects that stood outside of G stay outside -/
structure Ext (G H G' H' : Hp) : Prop where
  gg : Same G G'
  hh : Same H H'
  gh : Same G' H'
  gn : ∀ a, H a ≠ none → G a = none → G' a = none
theorem Ext.refl {G H : Hp} (h : Same G H) : Ext G H G H := ⟨Same.refl _, Same.refl _, h, fun _ _ q => q⟩
theorem Same.nn {H H' : Hp} (e : Same H H') {a : Addr} (h : H a ≠ none) : H' a ≠ none := by
  cases q : H a with
  | none => exact absurd q h
  | some o => rw [e _ _ q]; simp
theorem Ext.trans {G H G1 H1 G2 H2 : Hp} (a : Ext G H G1 H1) (b : Ext G1 H1 G2 H2) : Ext G H G2 H2 :=
  ⟨a.gg.trans b.gg, a.hh.trans b.hh, b.gh, fun c h q => b.gn c (Same.nn a.hh h) (a.gn c h q)⟩
theorem same_upd {H : Hp} {p : Addr} {o : HO} (h : H p = none) : Same H (upd H p o) := fun b u e => by
  rw [upd_ne (ne_of_none e h)]; exact e
/-- a new object, laid and never changed -/
theorem Ext.new {G H : Hp} (h : Same G H) {p : Addr} {o : HO} (hp : H p = none) : Ext G H (upd G p o) (upd H p o) := by
  have gp : G p = none := h.free hp
  refine ⟨same_upd gp, same_upd hp, fun b u e => ?_, fun a ha q => ?_⟩
  · by_cases hb : b = p
    · subst hb; rw [upd_same] at e ⊢; exact e
    · rw [upd_ne hb] at e ⊢; exact h _ _ e
  · rw [upd_ne (fun z => ha (by rw [z]; exact hp))]; exact q
/-- a new object, of one's own -/
theorem Ext.newH {G H : Hp} (h : Same G H) {p : Addr} {o : HO} (hp : H p = none) : Ext G H G (upd H p o) :=
  ⟨Same.refl _, same_upd hp, h.trans (same_upd hp), fun _ _ q => q⟩

def SlotR (K : PySem.W.Frag) (G H H0 : Hp) : Sl → Option (Option V) → Prop
  | .no, _ => True
  | .da d, x => ∃ v, x = some (some v) ∧ Rp K G d v
  | .ow d, x => ∃ a o, x = some (some (.ref a)) ∧ H a = some o ∧ Top K G d o ∧ G a = none ∧ H0 a = none
  | .se a C fs, x => x = some (some (.ref a)) ∧ ∃ dx vf, H a = some (.ins C dx vf) ∧ Rfs K G fs vf ∧ G a = none ∧ H0 a = none
  | .ex a p fs, x => x = some (some (.ref a)) ∧ ∃ vf, G p = some (.xd vf) ∧ Rfs K G fs vf
  | .e0 a, x => x = some (some (.ref a))
theorem Top.noIns {K : PySem.W.Frag} {G : Hp} {d : D} {C dx : Addr} {vf : List (Str × V)} (t : Top K G d (.ins C dx vf)) : False := by
  cases d <;> exact t

/-- the slots ρ in data, σ by values; G0, H0: what stood at the def's entry -/
structure Rel (K : PySem.W.Frag) (G0 H0 G : Hp) (ρ : Evn) (σ : St) (H : Hp) : Prop where
  len : ρ.length = σ.length
  gh : Same G H
  g0 : Same G0 G
  h0 : Same H0 H
  gn : ∀ a, H0 a ≠ none → G0 a = none → G a = none
  sl : ∀ (i : Nat) (s : Sl), ρ[i]? = some s → SlotR K G H H0 s σ[i]?
  dj : ∀ (i j : Nat) (d e : D) (a : Addr), ρ[i]? = some (.ow d) → ρ[j]? = some (.ow e) → σ[i]? = some (some (.ref a)) → σ[j]? = some (some (.ref a)) → i = j
section
variable {K : PySem.W.Frag} {G0 H0 G G' H H' : Hp} {ρ : Evn} {σ : St}
theorem Rel.ext (R : Rel K G0 H0 G ρ σ H) (e : Ext G H G' H') : Rel K G0 H0 G' ρ σ H' := by
  refine ⟨R.len, e.gh, R.g0.trans e.gg, R.h0.trans e.hh, fun a h q => e.gn a (Same.nn R.h0 h) (R.gn a h q), fun i s hs => ?_, R.dj⟩
  have q := R.sl i s hs
  cases s with
  | no => trivial
  | da d => obtain ⟨v, e1, r⟩ := q; exact ⟨v, e1, r.mono e.gg⟩
  | ow d =>
    obtain ⟨a, o, e1, e2, t, g, z⟩ := q
    exact ⟨a, o, e1, e.hh _ _ e2, t.mono e.gg, e.gn a (by rw [e2]; simp) g, z⟩
  | se a C fs =>
    obtain ⟨e1, dx, vf, e2, t, g, z⟩ := q
    exact ⟨e1, dx, vf, e.hh _ _ e2, t.mono e.gg, e.gn a (by rw [e2]; simp) g, z⟩
  | e0 b => exact q
  | ex b p fs =>
    obtain ⟨e1, vf, e2, t⟩ := q
    exact ⟨e1, vf, e.gg _ _ e2, t.mono e.gg⟩
theorem Rel.start {vs : List V} {ds : List D} {N : List Str} (h : Same G H) (r : Rps K G ds vs) :
    Rel K G H G (ds.map .da ++ List.replicate (N.length - ds.length) .no) (L2.start N vs) H := by
  have hl := r.length
  refine ⟨by simp [L2.start, hl], h, Same.refl _, Same.refl _, fun _ _ q => q, fun i s hs => ?_, fun i j d e a hi hj _ _ => ?_⟩
  · unfold L2.start
    by_cases hi : i < ds.length
    · rw [List.getElem?_append_left (by simpa using hi), List.getElem?_map] at hs
      rw [List.getElem?_append_left (by simp; omega), List.getElem?_map]
      rw [List.getElem?_eq_getElem hi] at hs
      simp at hs; subst hs
      obtain ⟨v, e, q⟩ := r.get (List.getElem?_eq_getElem hi)
      exact ⟨v, by rw [e]; rfl, q⟩
    · rw [List.getElem?_append_right (by simp; omega)] at hs
      rw [List.getElem?_replicate] at hs
      split at hs
      · cases hs; trivial
      · cases hs
  · exfalso
    rcases List.getElem?_eq_some_iff.mp hi with ⟨hl, he⟩
    have hm : Sl.ow d ∈ ds.map Sl.da ++ List.replicate (N.length - ds.length) Sl.no := by rw [← he]; exact List.getElem_mem hl
    simp at hm
/-- a slot stored with data -/
theorem Rel.set {i : Nat} {d : D} {v : V} (R : Rel K G0 H0 G ρ σ H) (r : Rp K G d v) : Rel K G0 H0 G (ρ.set i (.da d)) (σ.set i (some v)) H := by
  refine ⟨by simp [R.len], R.gh, R.g0, R.h0, R.gn, fun j s hs => ?_, fun j k d' e a hj hk h1 h2 => ?_⟩
  · by_cases hj : j = i
    · subst hj
      have hlt : j < ρ.length := by
        rcases List.getElem?_eq_some_iff.mp hs with ⟨hl, _⟩; simpa using hl
      rw [List.getElem?_set_self hlt] at hs
      cases hs
      rw [List.getElem?_set_self (by rw [← R.len]; exact hlt)]
      exact ⟨v, rfl, r⟩
    · rw [List.getElem?_set_ne (Ne.symm hj)] at hs ⊢
      exact R.sl j s hs
  · have nj : j ≠ i := fun z => by
      subst z
      rcases List.getElem?_eq_some_iff.mp hj with ⟨hl, he⟩
      simp at he
    have nk : k ≠ i := fun z => by
      subst z
      rcases List.getElem?_eq_some_iff.mp hk with ⟨hl, he⟩
      simp at he
    rw [List.getElem?_set_ne (Ne.symm nj)] at hj h1
    rw [List.getElem?_set_ne (Ne.symm nk)] at hk h2
    exact R.dj j k d' e a hj hk h1 h2
/-- .. with an object of one's own, that is in no slot yet -/
theorem Rel.setO {i : Nat} {d : D} {a : Addr} {o : HO} (R : Rel K G0 H0 G ρ σ H) (ha : H a = some o) (t : Top K G d o) (ga : G a = none) (ha0 : H0 a = none)
    (nw : ∀ (j : Nat) (e : D), ρ[j]? = some (.ow e) → σ[j]? ≠ some (some (.ref a))) : Rel K G0 H0 G (ρ.set i (.ow d)) (σ.set i (some (.ref a))) H := by
  refine ⟨by simp [R.len], R.gh, R.g0, R.h0, R.gn, fun j s hs => ?_, fun j k d' e b hj hk h1 h2 => ?_⟩
  · by_cases hj : j = i
    · subst hj
      have hlt : j < ρ.length := by
        rcases List.getElem?_eq_some_iff.mp hs with ⟨hl, _⟩; simpa using hl
      rw [List.getElem?_set_self hlt] at hs
      cases hs
      rw [List.getElem?_set_self (by rw [← R.len]; exact hlt)]
      exact ⟨a, o, rfl, ha, t, ga, ha0⟩
    · rw [List.getElem?_set_ne (Ne.symm hj)] at hs ⊢
      exact R.sl j s hs
  · by_cases nj : j = i
    · by_cases nk : k = i
      · rw [nj, nk]
      · exfalso
        subst nj
        rw [List.getElem?_set_ne (Ne.symm nk)] at hk h2
        have hlt : j < σ.length := by
          rcases List.getElem?_eq_some_iff.mp h1 with ⟨hl, _⟩; simpa using hl
        rw [List.getElem?_set_self hlt] at h1
        cases h1
        exact nw k e hk h2
    · rw [List.getElem?_set_ne (Ne.symm nj)] at hj h1
      by_cases nk : k = i
      · exfalso
        subst nk
        have hlt : k < σ.length := by
          rcases List.getElem?_eq_some_iff.mp h2 with ⟨hl, _⟩; simpa using hl
        rw [List.getElem?_set_self hlt] at h2
        cases h2
        exact nw j d' hj h1
      · rw [List.getElem?_set_ne (Ne.symm nk)] at hk h2
        exact R.dj j k d' e b hj hk h1 h2
/-- an own object changed -/
theorem Rel.chg {i : Nat} {d d' : D} {a : Addr} {o' : HO} (R : Rel K G0 H0 G ρ σ H) (hi : ρ[i]? = some (.ow d)) (hs : σ[i]? = some (some (.ref a))) (t : Top K G d' o') :
    Rel K G0 H0 G (ρ.set i (.ow d')) σ (upd H a o') := by
  obtain ⟨a', o, e1, e2, t0, ga, ha0⟩ := R.sl i _ hi
  rw [hs] at e1
  cases e1
  have hlt : i < ρ.length := (List.getElem?_eq_some_iff.mp hi).1
  refine ⟨by simpa using R.len, fun b u e => ?_, R.g0, fun b u e => ?_, R.gn, fun j s hj => ?_, fun j k x y b hj hk h1 h2 => ?_⟩
  · rw [upd_ne (fun z => by subst z; rw [ga] at e; cases e)]; exact R.gh _ _ e
  · rw [upd_ne (fun z => by subst z; rw [ha0] at e; cases e)]; exact R.h0 _ _ e
  · by_cases hji : j = i
    · subst hji
      rw [List.getElem?_set_self hlt] at hj
      cases hj
      exact ⟨a, o', hs, upd_same, t, ga, ha0⟩
    · rw [List.getElem?_set_ne (Ne.symm hji)] at hj
      have q := R.sl j s hj
      cases s with
      | no => trivial
      | da x => exact q
      | ow x =>
        obtain ⟨b, u, f1, f2, f3, f4, f5⟩ := q
        refine ⟨b, u, f1, ?_, f3, f4, f5⟩
        rw [upd_ne (fun z => by subst z; exact hji (R.dj j i x d b hj hi f1 hs))]
        exact f2
      | e0 b => exact q
      | ex b p fs => exact q
      | se b C fs =>
        obtain ⟨f1, dx, vf, f2, f3⟩ := q
        refine ⟨f1, dx, vf, ?_, f3⟩
        rw [upd_ne (fun z => by subst z; rw [e2] at f2; cases f2; exact t0.noIns)]
        exact f2
  · have go : ∀ {j : Nat} {x : D}, (ρ.set i (.ow d'))[j]? = some (.ow x) → ∃ x', ρ[j]? = some (.ow x') := fun {j x} h => by
      by_cases hji : j = i
      · subst hji; exact ⟨d, hi⟩
      · rw [List.getElem?_set_ne (Ne.symm hji)] at h; exact ⟨x, h⟩
    obtain ⟨x', hx⟩ := go hj
    obtain ⟨y', hy⟩ := go hk
    exact R.dj j k x' y' b hx hy h1 h2
/-- an own object is from now on never changed -/
theorem Rel.frz {i : Nat} {d : D} (R : Rel K G0 H0 G ρ σ H) (hi : ρ[i]? = some (.ow d)) : ∃ G', Same G G' ∧ Rel K G0 H0 G' (ρ.set i (.da d)) σ H := by
  obtain ⟨a, o, e1, e2, t, ga, ha0⟩ := R.sl i _ hi
  have gg : Same G (upd G a o) := same_upd ga
  have hlt : i < ρ.length := (List.getElem?_eq_some_iff.mp hi).1
  refine ⟨upd G a o, gg, ⟨by simpa using R.len, fun b u e => ?_, R.g0.trans gg, R.h0, fun b h q => ?_, fun j s hj => ?_, fun j k x y b hj hk h1 h2 => ?_⟩⟩
  · by_cases hb : b = a
    · subst hb; rw [upd_same] at e; cases e; exact e2
    · rw [upd_ne hb] at e; exact R.gh _ _ e
  · rw [upd_ne (fun z => by subst z; exact h ha0)]; exact R.gn b h q
  · by_cases hji : j = i
    · subst hji
      rw [List.getElem?_set_self hlt] at hj
      cases hj
      exact ⟨.ref a, e1, (t.mono gg).rp upd_same⟩
    · rw [List.getElem?_set_ne (Ne.symm hji)] at hj
      have q := R.sl j s hj
      cases s with
      | no => trivial
      | da x => obtain ⟨v, f1, f2⟩ := q; exact ⟨v, f1, f2.mono gg⟩
      | ow x =>
        obtain ⟨b, u, f1, f2, f3, f4, f5⟩ := q
        refine ⟨b, u, f1, f2, f3.mono gg, ?_, f5⟩
        rw [upd_ne (fun z => by subst z; exact hji (R.dj j i x d b hj hi f1 e1))]
        exact f4
      | e0 b => exact q
      | ex b p fs =>
        obtain ⟨f1, vf, f2, f3⟩ := q
        exact ⟨f1, vf, gg _ _ f2, f3.mono gg⟩
      | se b C fs =>
        obtain ⟨f1, dx, vf, f2, f3, f4, f5⟩ := q
        refine ⟨f1, dx, vf, f2, f3.mono gg, ?_, f5⟩
        rw [upd_ne (fun z => by subst z; rw [e2] at f2; cases f2; exact t.noIns)]
        exact f4
  · have go : ∀ {j : Nat} {x : D}, (ρ.set i (.da d))[j]? = some (.ow x) → ρ[j]? = some (.ow x) := fun {j x} h => by
      by_cases hji : j = i
      · subst hji; rw [List.getElem?_set_self hlt] at h; cases h
      · rw [List.getElem?_set_ne (Ne.symm hji)] at h; exact h
    exact R.dj j k x y b (go hj) (go hk) h1 h2
/-- slots forgotten -/
theorem Rel.wipe (R : Rel K G0 H0 G ρ σ H) : ∀ vs : List Nat, ∃ ρ', ρ' = vs.foldr (fun v r => r.set v .no) ρ ∧ Rel K G0 H0 G ρ' (L2.wipe σ vs) H
  | [] => ⟨ρ, rfl, R⟩
  | v :: vs => by
    obtain ⟨ρ', e, R'⟩ := Rel.wipe R vs
    refine ⟨ρ'.set v .no, by rw [List.foldr_cons, ← e], ?_⟩
    have go : ∀ {j : Nat} {s : Sl}, (ρ'.set v .no)[j]? = some s → s = .no ∨ (j ≠ v ∧ ρ'[j]? = some s) := fun {j s} h => by
      by_cases hj : j = v
      · subst hj
        have hlt : j < ρ'.length := by
          rcases List.getElem?_eq_some_iff.mp h with ⟨hl, _⟩; simpa using hl
        rw [List.getElem?_set_self hlt] at h; cases h; exact .inl rfl
      · rw [List.getElem?_set_ne (Ne.symm hj)] at h; exact .inr ⟨hj, h⟩
    have ws : ∀ {j : Nat}, j ≠ v → (L2.wipe σ (v :: vs))[j]? = (L2.wipe σ vs)[j]? := fun {j} h => by
      show ((L2.wipe σ vs).set v none)[j]? = _
      rw [List.getElem?_set_ne (Ne.symm h)]
    refine ⟨by show _ = ((L2.wipe σ vs).set v none).length; simpa using R'.len, R'.gh, R'.g0, R'.h0, R'.gn, fun j s hj => ?_, fun j k x y b hj hk h1 h2 => ?_⟩
    · rcases go hj with rfl | ⟨n, h⟩
      · trivial
      · rw [ws n]; exact R'.sl j s h
    · rcases go hj with z | ⟨n, h⟩
      · cases z
      · rcases go hk with z | ⟨n', h'⟩
        · cases z
        · rw [ws n] at h1
          rw [ws n'] at h2
          exact R'.dj j k x y b h h' h1 h2
end
end Tw

/-! Tw, part B: expressions, by what they are worth in data. -/
namespace Tw
open PySem PySem.Spec L2

/-- an exception that leaves the def: its class, its fields -/
abbrev XC := Addr → List (Str × D) → Prop
def TieX (K : PySem.W.Frag) (G0 H0 : Hp) (E : XK) (xc : XC) : Prop :=
  ∀ (C : Addr) (fs : List (Str × D)) (G' H' : Hp) (dx : Option Addr), Ext G0 H0 G' H' →
    (match dx with | some p => H0 p = none ∧ ∃ vf, H' p = some (.xd vf) ∧ Rfs K G' fs vf | none => fs = []) → xc C fs → E (.ref C) dx H'

/-- how a value is held: e: for good; o: as it stands (perhaps one's own); f: a new object, one's own -/
inductive Kd where
  | e | o | f
def RvO (K : PySem.W.Frag) (G H : Hp) (d : D) (v : V) : Prop := Rp K G d v ∨ ∃ a o, v = .ref a ∧ H a = some o ∧ Top K G d o
def RvF (K : PySem.W.Frag) (H G' H' : Hp) (d : D) (v : V) : Prop := ∃ a o, v = .ref a ∧ H a = none ∧ H' a = some o ∧ Top K G' d o ∧ G' a = none
def RvK (K : PySem.W.Frag) : Kd → Hp → Hp → Hp → D → V → Prop
  | .e, _, G', _, d, v => Rp K G' d v
  | .o, _, G', H', d, v => RvO K G' H' d v
  | .f, H, G', H', d, v => RvF K H G' H' d v
section
variable {K : PySem.W.Frag} {G H G' H' : Hp} {d : D} {v : V} {k : Kd}
theorem RvK.o (h : RvK K k H G' H' d v) : RvO K G' H' d v := by
  cases k with
  | e => exact .inl h
  | o => exact h
  | f => obtain ⟨a, o, e1, _, e2, t, _⟩ := h; exact .inr ⟨a, o, e1, e2, t⟩
theorem RvO.ext (x : Ext G H G' H') (h : RvO K G H d v) : RvO K G' H' d v := by
  rcases h with h | ⟨a, o, e, e2, t⟩
  · exact .inl (h.mono x.gg)
  · exact .inr ⟨a, o, e, x.hh _ _ e2, t.mono x.gg⟩
/-- a new object, held for good from now on -/
theorem RvF.frz (x : Ext G H G' H') (h : RvF K H G' H' d v) : ∃ G2, Ext G H G2 H' ∧ Rp K G2 d v := by
  obtain ⟨a, o, rfl, h1, h2, t, g⟩ := h
  have gg : Same G' (upd G' a o) := same_upd g
  refine ⟨upd G' a o, ⟨x.gg.trans gg, x.hh, fun b u e => ?_, fun b hb q => ?_⟩, (t.mono gg).rp upd_same⟩
  · by_cases z : b = a
    · subst z; rw [upd_same] at e; cases e; exact h2
    · rw [upd_ne z] at e; exact x.gh _ _ e
  · rw [upd_ne (fun z => hb (by rw [z]; exact h1))]
    exact x.gn b hb q
end

abbrev Wx := XC → Evn → (D → Prop) → Prop
def liftW (K : PySem.W.Frag) (E : XK) (k : Kd) (w : Wx) : TE := fun σ H Q => ∃ G0 H0 G ρ xc, Rel K G0 H0 G ρ σ H ∧ TieX K G0 H0 E xc ∧ w xc ρ fun d => ∀ G' H' v, Ext G H G' H' → RvK K k H G' H' d v → Q v H'
/-- the expression e is worth what w says -/
structure EJ (k : Kd) (E : XK) (X : Cx) (e : Expr) (w : Wx) : Prop where
  pe : PE X e (liftW X.K E k w)
  mo : ∀ xc ρ (Q Q' : D → Prop), (∀ d, Q d → Q' d) → w xc ρ Q → w xc ρ Q'
theorem _root_.L2.PE.imp {X : Cx} {e : Expr} {t t' : TE} (h : PE X e t) (i : ∀ σ H Q, t' σ H Q → t σ H Q) : PE X e t' := ⟨fun pins s σ H Q I q => h.run pins s σ H Q I (i _ _ _ q)⟩
theorem _root_.L2.PA.imp {X : Cx} {e : List Expr} {t t' : TA} (h : PA X e t) (i : ∀ σ H Q, t' σ H Q → t σ H Q) : PA X e t' := ⟨fun p pins s σ H Q I q => h.run p pins s σ H Q I (i _ _ _ q)⟩
theorem _root_.L2.PT.imp {X : Cx} {e : Expr} {t t' : TT} (h : PT X e t) (i : ∀ σ H Q, t' σ H Q → t σ H Q) : PT X e t' := ⟨fun pins s σ H Q I q => h.run pins s σ H Q I (i _ _ _ q)⟩
theorem _root_.L2.PS.imp {X : Cx} {e : Stmt} {t t' : TS} (h : PS X e t) (i : ∀ D σ H, t' D σ H → t D σ H) : PS X e t' := ⟨fun pins s σ H D I q => h.run pins s σ H D I (i _ _ _ q)⟩
theorem _root_.L2.PSs.imp {X : Cx} {e : List Stmt} {t t' : TS} (h : PSs X e t) (i : ∀ D σ H, t' D σ H → t D σ H) : PSs X e t' := ⟨fun pins s σ H D I q => h.run pins s σ H D I (i _ _ _ q)⟩

section
variable {X : Cx} {E : XK} {e a b c : Expr} {w wa wb wc : Wx} {k ka kb : Kd} {pos : Pos}
theorem EJ.toE (h : EJ .f E X e w) : EJ .e E X e w := by
  refine ⟨h.pe.imp fun σ H Q ⟨G0, H0, G, ρ, xc, R, T, q⟩ => ⟨G0, H0, G, ρ, xc, R, T, h.mo _ _ _ _ (fun d hd G' H' v x r => ?_) q⟩, h.mo⟩
  obtain ⟨G2, x2, r2⟩ := RvF.frz x r
  exact hd G2 H' v x2 r2
/-! ### names, constants -/
@[simp] def wVar (i : Nat) : Wx := fun _ ρ Q => ∃ d, ρ[i]? = some (.da d) ∧ Q d
def wPeek (i : Nat) : Wx := fun _ ρ Q => ∃ d, (ρ[i]? = some (.da d) ∨ ρ[i]? = some (.ow d)) ∧ Q d
@[simp] def wC (d : D) : Wx := fun _ _ Q => Q d
theorem ej_var {i : Nat} (h : PE X e (tVar i)) : EJ .e E X e (wVar i) := by
  refine ⟨h.imp fun σ H Q ⟨G0, H0, G, ρ, xc, R, T, d, e1, q⟩ => ?_, fun xc ρ Q Q' i ⟨d, e1, q⟩ => ⟨d, e1, i d q⟩⟩
  obtain ⟨v, e2, r⟩ := R.sl i _ e1
  exact ⟨v, e2, q G H v (.refl R.gh) r⟩
theorem ej_peek {i : Nat} (h : PE X e (tVar i)) : EJ .o E X e (wPeek i) := by
  refine ⟨h.imp fun σ H Q ⟨G0, H0, G, ρ, xc, R, T, d, e1, q⟩ => ?_, fun xc ρ Q Q' i ⟨d, e1, q⟩ => ⟨d, e1, i d q⟩⟩
  rcases e1 with e1 | e1
  · obtain ⟨v, e2, r⟩ := R.sl i _ e1
    exact ⟨v, e2, q G H v (.refl R.gh) (.inl r)⟩
  · obtain ⟨p, o, e2, e3, t, g, z⟩ := R.sl i _ e1
    exact ⟨_, e2, q G H _ (.refl R.gh) (.inr ⟨p, o, rfl, e3, t⟩)⟩
theorem ej_c {d : D} {v : V} (h : PE X e (tC v)) (r : ∀ G, Rp X.K G d v) : EJ .e E X e (wC d) :=
  ⟨h.imp fun σ H Q ⟨G0, H0, G, ρ, xc, R, T, q⟩ => q G H v (.refl R.gh) (r G), fun xc ρ Q Q' i q => i d q⟩
theorem ej_int {i : Int} {j pos} : EJ .e E X (.Constant (.int i) j pos) (wC (.int i)) := ej_c pe_int fun _ => .int i
theorem ej_bl {i : Bool} {j pos} : EJ .e E X (.Constant (.bool i) j pos) (wC (.bl i)) := ej_c pe_bl fun _ => .bl i
theorem ej_str {i : Str} {j pos} : EJ .e E X (.Constant (.str i) j pos) (wC (.str i)) := ej_c pe_str fun _ => .str i
theorem ej_non {j pos} : EJ .e E X (.Constant .none j pos) (wC .non) := ej_c pe_non fun _ => .non

/-! ### two operands -/
abbrev Op2 := D → D → (D → Prop) → Prop
@[simp] def w2 (op : Op2) (wa wb : Wx) : Wx := fun xc ρ Q => wa xc ρ fun x => wb xc ρ fun y => op x y Q
def Mo2 (op : Op2) : Prop := ∀ x y (Q Q' : D → Prop), (∀ d, Q d → Q' d) → op x y Q → op x y Q'
/-- the operator op on data is the rule r on values -/
structure Brg2 (K : PySem.W.Frag) (k : Kd) (op : Op2) (r : R2) : Prop where
  go : ∀ (x y : D) (G H : Hp) (vx vy : V) (Q : D → Prop) (Q2 : VK), Same G H → RvO K G H x vx → RvO K G H y vy → op x y Q → (∀ d, Q d → ∀ G' H' v, Ext G H G' H' → RvK K k H G' H' d v → Q2 v H') → r vx vy H Q2
  mo : Mo2 op
theorem ej_2 {op : Op2} {r : R2} (ha : EJ ka E X a wa) (hb : EJ kb E X b wb) (hpe : PE X e (tOp r (liftW X.K E ka wa) (liftW X.K E kb wb))) (B : Brg2 X.K k op r) : EJ k E X e (w2 op wa wb) := by
  refine ⟨hpe.imp fun σ H Q ⟨G0, H0, G, ρ, xc, R, T, q⟩ => ⟨G0, H0, G, ρ, xc, R, T, ha.mo _ _ _ _ (fun x q1 G1 H1 v1 x1 r1 => ?_) q⟩, fun xc ρ Q Q' i q => ha.mo _ _ _ _ (fun x q => hb.mo _ _ _ _ (fun y q => B.mo _ _ _ _ i q) q) q⟩
  refine ⟨G0, H0, G1, ρ, xc, R.ext x1, T, hb.mo _ _ _ _ (fun y q2 G2 H2 v2 x2 r2 => ?_) q1⟩
  exact B.go x y G2 H2 v1 v2 _ _ x2.gh (r1.o.ext x2) r2.o q2 fun d q3 G' H' v x3 r3 => q3 G' H' v (x1.trans (x2.trans x3)) (by
    cases k with
    | e => exact r3
    | o => exact r3
    | f =>
      obtain ⟨p, o, e1, e2, e3⟩ := r3
      exact ⟨p, o, e1, (x1.trans x2).hh.free e2, e3⟩)

/-! ### tests -/
abbrev Wt := XC → Evn → (Bool → Prop) → Prop
def liftT (K : PySem.W.Frag) (E : XK) (w : Wt) : TT := fun σ H Q => ∃ G0 H0 G ρ xc, Rel K G0 H0 G ρ σ H ∧ TieX K G0 H0 E xc ∧ w xc ρ fun d => ∀ G' H', Ext G H G' H' → Q d H'
structure TJ (E : XK) (X : Cx) (e : Expr) (w : Wt) : Prop where
  pt : PT X e (liftT X.K E w)
  mo : ∀ xc ρ (Q Q' : Bool → Prop), (∀ d, Q d → Q' d) → w xc ρ Q → w xc ρ Q'
structure TWJ (E : XK) (X : Cx) (e : Expr) (w : Wt) : Prop where
  pw : PW X e (liftT X.K E w)
  mo : ∀ xc ρ (Q Q' : Bool → Prop), (∀ d, Q d → Q' d) → w xc ρ Q → w xc ρ Q'
theorem _root_.L2.PW.imp {X : Cx} {e : Expr} {t t' : TT} (h : PW X e t) (i : ∀ σ H Q, t' σ H Q → t σ H Q) : PW X e t' := ⟨fun wh pins s σ H Q I q => h.run wh pins s σ H Q I (i _ _ _ q)⟩
theorem TWJ.t {wt : Wt} (h : TWJ E X e wt) : TJ E X e wt := ⟨h.pw.pt, h.mo⟩
/-- a value that is a bool -/
@[simp] def wB (w : Wx) : Wt := fun xc ρ Q => w xc ρ fun d => ∃ b, d = .bl b ∧ Q b
theorem rvO_bl {K : PySem.W.Frag} {G H : Hp} {b : Bool} {v : V} (h : RvO K G H (.bl b) v) : v = .bl b := by
  rcases h with h | ⟨p, o, _, _, t⟩
  · cases h; rfl
  · cases o <;> exact t.elim
theorem rvO_int {K : PySem.W.Frag} {G H : Hp} {b : Int} {v : V} (h : RvO K G H (.int b) v) : v = .int b := by
  rcases h with h | ⟨p, o, _, _, t⟩
  · cases h; rfl
  · cases o <;> exact t.elim
theorem rvO_str {K : PySem.W.Frag} {G H : Hp} {b : Str} {v : V} (h : RvO K G H (.str b) v) : v = .str b := by
  rcases h with h | ⟨p, o, _, _, t⟩
  · cases h; rfl
  · cases o <;> exact t.elim
theorem rvO_non {K : PySem.W.Frag} {G H : Hp} {v : V} (h : RvO K G H .non v) : v = .non := by
  rcases h with h | ⟨p, o, _, _, t⟩
  · cases h; rfl
  · cases o <;> exact t.elim
theorem rvO_lst {K : PySem.W.Frag} {G H : Hp} {ds : List D} {v : V} (g : Same G H) (h : RvO K G H (.lst ds) v) : ∃ p vs, v = .ref p ∧ H p = some (.lst vs) ∧ Rps K G ds vs := by
  rcases h with h | ⟨p, o, e, e2, t⟩
  · cases h with | lst h r => exact ⟨_, _, rfl, g _ _ h, r⟩
  · cases o <;> first | exact t.elim | skip
    exact ⟨p, _, e, e2, t⟩
theorem rvO_fls {K : PySem.W.Frag} {G H : Hp} {ds : List D} {v : V} (g : Same G H) (h : RvO K G H (.fls ds) v) : ∃ p vs, v = .ref p ∧ SqL K H p vs ∧ Rps K G ds vs := by
  rcases h with h | ⟨p, o, e, e2, t⟩
  · cases h with | fls h r => exact ⟨_, _, rfl, g.seq h, r⟩
  · cases o <;> exact t.elim
theorem rvO_tup {K : PySem.W.Frag} {G H : Hp} {ds : List D} {v : V} (g : Same G H) (h : RvO K G H (.tup ds) v) : ∃ p vs, v = .ref p ∧ SqT K H p vs ∧ Rps K G ds vs := by
  rcases h with h | ⟨p, o, e, e2, t⟩
  · cases h with | tup h r => exact ⟨_, _, rfl, sqT_mono g h, r⟩
  · cases o <;> exact t.elim
theorem rvO_xtp {K : PySem.W.Frag} {G H : Hp} {ds : List D} {v : V} (g : Same G H) (h : RvO K G H (.xtp ds) v) : ∃ p vs o, v = .ref p ∧ H p = some (.frz o (.tup vs)) ∧ o.cls = .type "tuple" ∧ o.dict = none ∧ Rps K G ds vs := by
  rcases h with h | ⟨p, o, e, e2, t⟩
  · cases h with | xtp h c n r => exact ⟨_, _, _, rfl, g _ _ h, c, n, r⟩
  · cases o <;> exact t.elim
/-- a comparison as a test: from its rule -/
theorem tj_2 {op : Op2} {r : R2} (ha : EJ ka E X a wa) (hb : EJ kb E X b wb) (hpt : PT X e (tTest (tOp r (liftW X.K E ka wa) (liftW X.K E kb wb)))) (B : Brg2 X.K k op r) : TJ E X e (wB (w2 op wa wb)) := by
  refine ⟨hpt.imp fun σ H Q ⟨G0, H0, G, ρ, xc, R, T, q⟩ => ⟨G0, H0, G, ρ, xc, R, T, ha.mo _ _ _ _ (fun x q1 G1 H1 v1 x1 r1 => ?_) q⟩, fun xc ρ Q Q' i q => ha.mo _ _ _ _ (fun x q => hb.mo _ _ _ _ (fun y q => B.mo _ _ _ _ (fun d ⟨b, e, q⟩ => ⟨b, e, i b q⟩) q) q) q⟩
  refine ⟨G0, H0, G1, ρ, xc, R.ext x1, T, hb.mo _ _ _ _ (fun y q2 G2 H2 v2 x2 r2 => ?_) q1⟩
  refine B.go x y G2 H2 v1 v2 _ _ x2.gh (r1.o.ext x2) r2.o q2 fun d q3 G' H' v x3 r3 => ?_
  obtain ⟨bb, rfl, q3⟩ := q3
  exact ⟨bb, rvO_bl r3.o, q3 G' H' (x1.trans (x2.trans x3))⟩
@[simp] def wNot (w : Wt) : Wt := fun xc ρ Q => w xc ρ fun b => Q (!b)
@[simp] def wAnd (w u : Wt) : Wt := fun xc ρ Q => w xc ρ fun b => if b = true then u xc ρ Q else Q false
@[simp] def wOr (w u : Wt) : Wt := fun xc ρ Q => w xc ρ fun b => if b = true then Q true else u xc ρ Q
variable {ta tb : Wt} {rest : List Expr}
theorem tj_not (h : TJ E X a ta) : TJ E X (.UnaryOp .Not a pos) (wNot ta) :=
  ⟨(pt_not h.pt).imp fun σ H Q ⟨G0, H0, G, ρ, xc, R, T, q⟩ => ⟨G0, H0, G, ρ, xc, R, T, q⟩, fun xc ρ Q Q' i q => h.mo _ _ _ _ (fun b q => i _ q) q⟩
theorem twj_and1 (h : TJ E X a ta) : TWJ E X (.BoolOp .And [a] pos) ta := ⟨pw_and1 h.pt, h.mo⟩
theorem twj_or1 (h : TJ E X a ta) : TWJ E X (.BoolOp .Or [a] pos) ta := ⟨pw_or1 h.pt, h.mo⟩
theorem twj_and (ha : TJ E X a ta) (hb : TWJ E X (.BoolOp .And (b :: rest) pos) tb) : TWJ E X (.BoolOp .And (a :: b :: rest) pos) (wAnd ta tb) := by
  refine ⟨PW.imp (pw_and ha.pt hb.pw) fun σ H Q ⟨G0, H0, G, ρ, xc, R, T, q⟩ => ⟨G0, H0, G, ρ, xc, R, T, ha.mo _ _ _ _ (fun x q1 G1 H1 x1 => ?_) q⟩, fun xc ρ Q Q' i q => ha.mo _ _ _ _ (fun x q => ?_) q⟩
  · cases x with
    | true =>
      rw [if_pos rfl] at q1 ⊢
      exact ⟨G0, H0, G1, ρ, xc, R.ext x1, T, hb.mo _ _ _ _ (fun y q2 G2 H2 x2 => q2 G2 H2 (x1.trans x2)) q1⟩
    | false => rw [if_neg Bool.false_ne_true] at q1 ⊢; exact q1 G1 H1 x1
  · cases x with
    | true => rw [if_pos rfl] at q ⊢; exact hb.mo _ _ _ _ i q
    | false => rw [if_neg Bool.false_ne_true] at q ⊢; exact i _ q
theorem twj_or (ha : TJ E X a ta) (hb : TWJ E X (.BoolOp .Or (b :: rest) pos) tb) : TWJ E X (.BoolOp .Or (a :: b :: rest) pos) (wOr ta tb) := by
  refine ⟨PW.imp (pw_or ha.pt hb.pw) fun σ H Q ⟨G0, H0, G, ρ, xc, R, T, q⟩ => ⟨G0, H0, G, ρ, xc, R, T, ha.mo _ _ _ _ (fun x q1 G1 H1 x1 => ?_) q⟩, fun xc ρ Q Q' i q => ha.mo _ _ _ _ (fun x q => ?_) q⟩
  · cases x with
    | false =>
      rw [if_neg Bool.false_ne_true] at q1 ⊢
      exact ⟨G0, H0, G1, ρ, xc, R.ext x1, T, hb.mo _ _ _ _ (fun y q2 G2 H2 x2 => q2 G2 H2 (x1.trans x2)) q1⟩
    | true => rw [if_pos rfl] at q1 ⊢; exact q1 G1 H1 x1
  · cases x with
    | false => rw [if_neg Bool.false_ne_true] at q ⊢; exact hb.mo _ _ _ _ i q
    | true => rw [if_pos rfl] at q ⊢; exact i _ q
@[simp] def wIf (t : Wt) (wa wb : Wx) : Wx := fun xc ρ Q => t xc ρ fun b => if b = true then wa xc ρ Q else wb xc ρ Q
theorem ej_if (hc : TJ E X c ta) (ha : EJ .e E X a wa) (hb : EJ .e E X b wb) : EJ .e E X (.IfExp c a b pos) (wIf ta wa wb) := by
  refine ⟨(pe_ifExp hc.pt ha.pe hb.pe).imp fun σ H Q ⟨G0, H0, G, ρ, xc, R, T, q⟩ => ⟨G0, H0, G, ρ, xc, R, T, hc.mo _ _ _ _ (fun x q1 G1 H1 x1 => ?_) q⟩, fun xc ρ Q Q' i q => hc.mo _ _ _ _ (fun x q => ?_) q⟩
  · cases x with
    | true =>
      rw [if_pos rfl] at q1 ⊢
      exact ⟨G0, H0, G1, ρ, xc, R.ext x1, T, ha.mo _ _ _ _ (fun y q2 G2 H2 v x2 r => q2 G2 H2 v (x1.trans x2) r) q1⟩
    | false =>
      rw [if_neg Bool.false_ne_true] at q1 ⊢
      exact ⟨G0, H0, G1, ρ, xc, R.ext x1, T, hb.mo _ _ _ _ (fun y q2 G2 H2 v x2 r => q2 G2 H2 v (x1.trans x2) r) q1⟩
  · cases x with
    | true => rw [if_pos rfl] at q ⊢; exact ha.mo _ _ _ _ i q
    | false => rw [if_neg Bool.false_ne_true] at q ⊢; exact hb.mo _ _ _ _ i q

/-! ### argument lists, displays -/
abbrev Wa := XC → Evn → (List D → Prop) → Prop
inductive RvOs (K : PySem.W.Frag) (G H : Hp) : List D → List V → Prop
  | nil : RvOs K G H [] []
  | cons {d : D} {v : V} {ds : List D} {vs : List V} : RvO K G H d v → RvOs K G H ds vs → RvOs K G H (d :: ds) (v :: vs)
def liftA (K : PySem.W.Frag) (E : XK) (k : Bool) (w : Wa) : TA := fun σ H Q => ∃ G0 H0 G ρ xc, Rel K G0 H0 G ρ σ H ∧ TieX K G0 H0 E xc ∧ w xc ρ fun ds => ∀ G' H' vs, Ext G H G' H' → (if k = true then Rps K G' ds vs else RvOs K G' H' ds vs) → Q vs H'
/-- k = true: all of them for good -/
structure AJ (k : Bool) (E : XK) (X : Cx) (es : List Expr) (w : Wa) : Prop where
  pa : PA X es (liftA X.K E k w)
  mo : ∀ xc ρ (Q Q' : List D → Prop), (∀ d, Q d → Q' d) → w xc ρ Q → w xc ρ Q'
@[simp] def waNil : Wa := fun _ _ Q => Q []
@[simp] def waCons (w : Wx) (u : Wa) : Wa := fun xc ρ Q => w xc ρ fun d => u xc ρ fun ds => Q (d :: ds)
theorem RvOs.ext {K : PySem.W.Frag} {G H G' H' : Hp} (x : Ext G H G' H') : ∀ {ds : List D} {vs : List V}, RvOs K G H ds vs → RvOs K G' H' ds vs
  | _, _, .nil => .nil
  | _, _, .cons h r => .cons (h.ext x) (RvOs.ext x r)
theorem aj_nil {kk : Bool} : AJ kk E X [] waNil := by
  refine ⟨pa_nil.imp fun σ H Q ⟨G0, H0, G, ρ, xc, R, T, q⟩ => q G H [] (.refl R.gh) (by cases kk <;> simp <;> constructor), fun _ _ _ _ i q => i _ q⟩
variable {es : List Expr} {u : Wa}
theorem aj_consE (ha : EJ .e E X e w) (hr : AJ true E X es u) (hs : starEach (e :: es) X.env = (false, eval e X.env) :: starEach es X.env := by rfl) : AJ true E X (e :: es) (waCons w u) := by
  refine ⟨(pa_cons ha.pe hr.pa hs).imp fun σ H Q ⟨G0, H0, G, ρ, xc, R, T, q⟩ => ⟨G0, H0, G, ρ, xc, R, T, ha.mo _ _ _ _ (fun x q1 G1 H1 v1 x1 r1 => ?_) q⟩, fun xc ρ Q Q' i q => ha.mo _ _ _ _ (fun x q => hr.mo _ _ _ _ (fun ds q => i _ q) q) q⟩
  refine ⟨G0, H0, G1, ρ, xc, R.ext x1, T, hr.mo _ _ _ _ (fun y q2 G2 H2 v2 x2 r2 => ?_) q1⟩
  rw [if_pos rfl] at r2
  exact q2 G2 H2 (v1 :: v2) (x1.trans x2) (by rw [if_pos rfl]; exact .cons (Rp.mono x2.gg r1) r2)
theorem aj_consO (ha : EJ k E X e w) (hr : AJ false E X es u) (hs : starEach (e :: es) X.env = (false, eval e X.env) :: starEach es X.env := by rfl) : AJ false E X (e :: es) (waCons w u) := by
  refine ⟨(pa_cons ha.pe hr.pa hs).imp fun σ H Q ⟨G0, H0, G, ρ, xc, R, T, q⟩ => ⟨G0, H0, G, ρ, xc, R, T, ha.mo _ _ _ _ (fun x q1 G1 H1 v1 x1 r1 => ?_) q⟩, fun xc ρ Q Q' i q => ha.mo _ _ _ _ (fun x q => hr.mo _ _ _ _ (fun ds q => i _ q) q) q⟩
  refine ⟨G0, H0, G1, ρ, xc, R.ext x1, T, hr.mo _ _ _ _ (fun y q2 G2 H2 v2 x2 r2 => ?_) q1⟩
  rw [if_neg Bool.false_ne_true] at r2
  exact q2 G2 H2 (v1 :: v2) (x1.trans x2) (by rw [if_neg Bool.false_ne_true]; exact .cons (r1.o.ext x2) r2)
@[simp] def wTup (u : Wa) : Wx := fun xc ρ Q => u xc ρ fun ds => ds.length ≤ sizeLine ∧ Q (.tup ds)
@[simp] def wLst (u : Wa) : Wx := fun xc ρ Q => u xc ρ fun ds => ds.length ≤ sizeLine ∧ Q (.lst ds)
theorem ej_tup {x1} (h : AJ true E X es u) : EJ .e E X (.Tuple es x1 pos) (wTup u) := by
  refine ⟨(pe_tup h.pa).imp fun σ H Q ⟨G0, H0, G, ρ, xc, R, T, q⟩ => ⟨G0, H0, G, ρ, xc, R, T, h.mo _ _ _ _ (fun ds ⟨z, q1⟩ G1 H1 vs e1 r1 => ?_) q⟩, fun xc ρ Q Q' i q => h.mo _ _ _ _ (fun ds ⟨z, q⟩ => ⟨z, i _ q⟩) q⟩
  rw [if_pos rfl] at r1
  refine ⟨by rw [← r1.length]; exact z, fun p hp => ?_⟩
  have x2 := Ext.new (o := .tup vs) e1.gh hp
  exact q1 _ _ _ (e1.trans x2) (Rp.tup (SqT.of upd_same) (r1.mono x2.gg))
theorem ej_lst (h : AJ true E X es u) : EJ .f E X (.List es pos) (wLst u) := by
  refine ⟨(pe_lst h.pa).imp fun σ H Q ⟨G0, H0, G, ρ, xc, R, T, q⟩ => ⟨G0, H0, G, ρ, xc, R, T, h.mo _ _ _ _ (fun ds ⟨z, q1⟩ G1 H1 vs e1 r1 => ?_) q⟩, fun xc ρ Q Q' i q => h.mo _ _ _ _ (fun ds ⟨z, q⟩ => ⟨z, i _ q⟩) q⟩
  rw [if_pos rfl] at r1
  refine ⟨by rw [← r1.length]; exact z, fun p hp => ?_⟩
  have x2 := Ext.newH (o := .lst vs) e1.gh hp
  exact q1 _ _ _ (e1.trans x2) ⟨p, .lst vs, rfl, e1.hh.free hp, upd_same, r1, e1.gh.free hp⟩

/-! ### built-in functions, methods of built-in types -/
abbrev OpN := List D → (D → Prop) → Prop
structure BrgN (K : PySem.W.Frag) (k : Kd) (op : OpN) (r : List V → Hp → VK → Prop) : Prop where
  go : ∀ (ds : List D) (G H : Hp) (vs : List V) (Q : D → Prop) (Q2 : VK), Same G H → RvOs K G H ds vs → op ds Q → (∀ d, Q d → ∀ G' H' v, Ext G H G' H' → RvK K k H G' H' d v → Q2 v H') → r vs H Q2
  mo : ∀ ds (Q Q' : D → Prop), (∀ d, Q d → Q' d) → op ds Q → op ds Q'
@[simp] def wN (op : OpN) (u : Wa) : Wx := fun xc ρ Q => u xc ρ fun ds => op ds Q
theorem rv_later {K : PySem.W.Frag} {k : Kd} {H H1 G' H' : Hp} {d : D} {v : V} (s : Same H H1) (r : RvK K k H1 G' H' d v) : RvK K k H G' H' d v := by
  cases k with
  | e => exact r
  | o => exact r
  | f => obtain ⟨p, o, e1, e2, e3⟩ := r; exact ⟨p, o, e1, s.free e2, e3⟩
theorem ej_N {op : OpN} {r : List V → Hp → VK → Prop} (h : AJ false E X es u) (hpe : PE X e (tCB r (liftA X.K E false u))) (B : BrgN X.K k op r) : EJ k E X e (wN op u) := by
  refine ⟨hpe.imp fun σ H Q ⟨G0, H0, G, ρ, xc, R, T, q⟩ => ⟨G0, H0, G, ρ, xc, R, T, h.mo _ _ _ _ (fun ds q1 G1 H1 vs e1 r1 => ?_) q⟩, fun xc ρ Q Q' i q => h.mo _ _ _ _ (fun ds q => B.mo _ _ _ i q) q⟩
  rw [if_neg Bool.false_ne_true] at r1
  exact B.go ds G1 H1 vs _ _ e1.gh r1 q1 fun d q2 G' H' v x2 r2 => q2 G' H' v (e1.trans x2) (rv_later e1.hh r2)
end
end Tw

/-! Tw, part C: the operators, on data. -/
namespace Tw
open PySem PySem.Spec L2 PyProof.Rows

/-! ### data as the library's data -/
mutual
def D.py : D → PyData
  | .non => .none | .bl b => .bool b | .int i => .int i | .str x => .str x
  | .tup xs => .tuple (D.pys xs) | .xtp xs => .tuple (D.pys xs) | .lst xs => .list (D.pys xs) | .fls xs => .list (D.pys xs)
  | .obj _ _ => .none | .dK _ => .none | .dT _ => .none
def D.pys : List D → List PyData
  | [] => []
  | x :: xs => D.py x :: D.pys xs
end
mutual
/-- no object of an own class, no dict -/
def D.isP : D → Bool
  | .non => true | .bl _ => true | .int _ => true | .str _ => true
  | .tup xs => D.isPs xs | .xtp xs => D.isPs xs | .lst xs => D.isPs xs | .fls xs => D.isPs xs
  | .obj _ _ => false | .dK _ => false | .dT _ => false
def D.isPs : List D → Bool
  | [] => true
  | x :: xs => D.isP x && D.isPs xs
end
section
variable {K : PySem.W.Frag} {G H : Hp}
mutual
theorem Rp.dp : ∀ {d : D} {v : V}, Rp K G d v → d.isP = true → Dp K G v d.py
  | _, _, .non, _ => by rw [D.py]; exact .non
  | _, _, .bl b, _ => by rw [D.py]; exact .bl b
  | _, _, .int i, _ => by rw [D.py]; exact .int i
  | _, _, .str x, _ => by rw [D.py]; exact .str x
  | _, _, .tup h r, p => by rw [D.isP] at p; rw [D.py]; exact .tup h (Rps.dp r p)
  | _, _, .xtp h _ _ r, p => by rw [D.isP] at p; rw [D.py]; exact .tup (.inl (.inr ⟨_, h⟩)) (Rps.dp r p)
  | _, _, .lst h r, p => by rw [D.isP] at p; rw [D.py]; exact .lst (SqL.of h) (Rps.dp r p)
  | _, _, .fls h r, p => by rw [D.isP] at p; rw [D.py]; exact .lst h (Rps.dp r p)
  | _, _, .obj _ _, p => by simp [D.isP] at p
  | _, _, .dK _ _, p => by simp [D.isP] at p
  | _, _, .dT _ _, p => by simp [D.isP] at p
theorem Rps.dp : ∀ {d : List D} {v : List V}, Rps K G d v → D.isPs d = true → DpAll K G v (D.pys d)
  | _, _, .nil, _ => by rw [D.pys]; exact .nil
  | _, _, .cons h r, p => by
    rw [D.isPs, Bool.and_eq_true] at p
    rw [D.pys]
    exact .cons (Rp.dp h p.1) (Rps.dp r p.2)
end
theorem RvO.dp {d : D} {v : V} (g : Same G H) (h : RvO K G H d v) (p : d.isP = true) : Dp K H v d.py := by
  rcases h with h | ⟨a, o, rfl, e2, t⟩
  · exact (h.mono g).dp p
  · cases d <;> cases o <;> first | exact t.elim | skip
    · rw [D.isP] at p; rw [D.py]; exact .lst (SqL.of e2) (Rps.dp (Rps.mono g t) p)
    · simp [D.isP] at p
    · simp [D.isP] at p
theorem pys_map {α : Type} (f : α → D) (g : α → PyData) (h : ∀ a, (f a).py = g a) : ∀ l : List α, D.pys (l.map f) = l.map g
  | [] => by rw [List.map_nil, D.pys]; rfl
  | a :: l => by rw [List.map_cons, D.pys, h, pys_map f g h l]; rfl
theorem isPs_all : ∀ l : List D, D.isPs l = l.all D.isP
  | [] => by rw [D.isPs]; rfl
  | a :: l => by rw [D.isPs, isPs_all l]; rfl
end

section
variable {X : Cx}
theorem opr_or {f : Value → Value → Sem Value} {r r' : R2} (h : OpR X f r) (h' : OpR X f r') : OpR X f (fun x y H Q => r x y H Q ∨ r' x y H Q) :=
  fun pins s σ H x y v u Q I rx ry q => q.elim (h pins s σ H x y v u Q I rx ry) (h' pins s σ H x y v u Q I rx ry)
variable {K : PySem.W.Frag}

/-! ### + -/
def oAdd : Op2
  | .int i, .int j, Q => Q (.int (i + j))
  | .str x, .str y, Q => x.length + y.length ≤ sizeLine ∧ Q (.str (x ++ y))
  | .tup xs, .tup ys, Q => xs.length + ys.length ≤ sizeLine ∧ Q (.tup (xs ++ ys))
  | _, _, _ => False
abbrev rAdd3 (K : PySem.W.Frag) : R2 := fun x y H Q => (∃ i j, x = .int i ∧ y = .int j ∧ Q (.int (i + j)) H) ∨ ((∃ i j, x = .str i ∧ y = .str j ∧ i.length + j.length ≤ sizeLine ∧ Q (.str (i ++ j)) H) ∨ rCatA K x y H Q)
theorem op_add3 : OpR X (binaryOp .Add) (rAdd3 X.K) := opr_or (r' := fun x y H Q => (∃ i j, x = .str i ∧ y = .str j ∧ i.length + j.length ≤ sizeLine ∧ Q (.str (i ++ j)) H) ∨ rCatA X.K x y H Q) op_add (opr_or op_add_str op_catA)
theorem rps_nil {G : Hp} {vs : List V} {ds : List D} (r : Rps K G ds vs) (h : vs = []) : ds = [] := by subst h; cases r; rfl
theorem brg_add : Brg2 K .e oAdd (rAdd3 K) := by
  refine ⟨fun x y G H vx vy Q Q2 g rx ry q k => ?_, fun x y Q Q' i q => ?_⟩
  · cases x <;> cases y <;> first | exact q.elim | skip
    · rw [rvO_int rx, rvO_int ry]
      exact .inl ⟨_, _, rfl, rfl, k _ q G H _ (.refl g) (.int _)⟩
    · obtain ⟨z, q⟩ := q
      rw [rvO_str rx, rvO_str ry]
      exact .inr (.inl ⟨_, _, rfl, rfl, z, k _ q G H _ (.refl g) (.str _)⟩)
    · obtain ⟨z, q⟩ := q
      obtain ⟨p, vs, rfl, h1, r1⟩ := rvO_tup g rx
      obtain ⟨p', vs', rfl, h2, r2⟩ := rvO_tup g ry
      rename_i xs ys
      have gt : ∀ {p : Addr} {vs : List V} {ds : List D} {v : V}, RvO K G H (.tup ds) v → v = .ref p → Rp K G (.tup ds) v := fun {p vs ds v} h e => by
        rcases h with h | ⟨_, o, _, _, t⟩
        · exact h
        · cases o <;> exact t.elim
      refine .inr (.inr ⟨p, p', vs, vs', rfl, rfl, h1, h2, by rw [← r1.length, ← r2.length]; exact z, fun e => ?_, fun e1 e => ?_, fun e1 e2 q' hq' => ?_⟩)
      · have e' := rps_nil r1 e
        subst e'
        exact k _ q G H _ (.refl g) (gt (p := p') (vs := []) ry rfl)
      · have e' := rps_nil r2 e
        subst e'
        rw [List.append_nil] at q
        exact k _ q G H _ (.refl g) (gt (p := p) (vs := []) rx rfl)
      · have x2 := Ext.new (o := .tup (vs ++ vs')) g hq'
        exact k _ q _ _ _ x2 (.tup (SqT.of upd_same) ((r1.append r2).mono x2.gg))
  · cases x <;> cases y <;> first | exact q.elim | skip
    · exact i _ q
    · exact ⟨q.1, i _ q.2⟩
    · exact ⟨q.1, i _ q.2⟩
/-- list + list: a new one -/
def oCat : Op2
  | .lst xs, .lst ys, Q => xs.length + ys.length ≤ sizeLine ∧ Q (.lst (xs ++ ys))
  | _, _, _ => False
theorem brg_cat : Brg2 K .f oCat rCat := by
  refine ⟨fun x y G H vx vy Q Q2 g rx ry q k => ?_, fun x y Q Q' i q => ?_⟩
  · cases x <;> cases y <;> first | exact q.elim | skip
    obtain ⟨z, q⟩ := q
    obtain ⟨p, vs, rfl, h1, r1⟩ := rvO_lst g rx
    obtain ⟨p', vs', rfl, h2, r2⟩ := rvO_lst g ry
    refine ⟨p, p', vs, vs', rfl, rfl, h1, h2, by rw [← r1.length, ← r2.length]; exact z, fun q' hq' => ?_⟩
    have x2 := Ext.newH (o := .lst (vs ++ vs')) g hq'
    exact k _ q _ _ _ x2 ⟨q', _, rfl, hq', upd_same, r1.append r2, g.free hq'⟩
  · cases x <;> cases y <;> first | exact q.elim | skip
    exact ⟨q.1, i _ q.2⟩

/-! ### ints -/
def oI (C : Int → Int → Prop) (f : Int → Int → D) : Op2
  | .int i, .int j, Q => C i j ∧ Q (f i j)
  | _, _, _ => False
theorem brg_I {C : Int → Int → Prop} {f : Int → Int → D} {f' : Int → Int → V} (hf : ∀ i j G, Rp K G (f i j) (f' i j)) : Brg2 K .e (oI C f) (rI C f') := by
  refine ⟨fun x y G H vx vy Q Q2 g rx ry q k => ?_, fun x y Q Q' i q => ?_⟩
  · cases x <;> cases y <;> first | exact q.elim | skip
    obtain ⟨z, q⟩ := q
    rw [rvO_int rx, rvO_int ry]
    exact ⟨_, _, rfl, rfl, z, k _ q G H _ (.refl g) (hf _ _ G)⟩
  · cases x <;> cases y <;> first | exact q.elim | skip
    exact ⟨q.1, i _ q.2⟩
def oI0 (f : Int → Int → D) : Op2
  | .int i, .int j, Q => Q (f i j)
  | _, _, _ => False
theorem brg_I0 {f : Int → Int → D} {f' : Int → Int → V} (hf : ∀ i j G, Rp K G (f i j) (f' i j)) : Brg2 K .e (oI0 f) (rI0 f') := by
  refine ⟨fun x y G H vx vy Q Q2 g rx ry q k => ?_, fun x y Q Q' i q => ?_⟩
  · cases x <;> cases y <;> first | exact q.elim | skip
    rw [rvO_int rx, rvO_int ry]
    exact ⟨_, _, rfl, rfl, k _ q G H _ (.refl g) (hf _ _ G)⟩
  · cases x <;> cases y <;> first | exact q.elim | skip
    exact i _ q
abbrev oSub : Op2 := oI0 fun i j => .int (i - j)
abbrev oMulI : Op2 := oI CMul fun i j => .int (i * j)
abbrev oDiv : Op2 := oI CDiv fun i j => .int (i / j)
abbrev oMod : Op2 := oI (fun _ j => 0 < j) fun i j => .int (i % j)
abbrev oPow : Op2 := oI CPow fun i j => .int (i ^ j.toNat)
abbrev oLt : Op2 := oI0 fun i j => .bl (decide (i < j))
abbrev oLe : Op2 := oI0 fun i j => .bl (decide (i ≤ j))
abbrev oGt : Op2 := oI0 fun i j => .bl (decide (j < i))
abbrev oGe : Op2 := oI0 fun i j => .bl (decide (j ≤ i))
theorem brg_sub : Brg2 K .e oSub (rI0 fun i j => .int (i - j)) := brg_I0 fun i j G => .int _
theorem brg_mulI : Brg2 K .e oMulI (rI CMul fun i j => .int (i * j)) := brg_I fun i j G => .int _
theorem brg_div : Brg2 K .e oDiv (rI CDiv fun i j => .int (i / j)) := brg_I fun i j G => .int _
theorem brg_mod : Brg2 K .e oMod (rI (fun _ j => 0 < j) fun i j => .int (i % j)) := brg_I fun i j G => .int _
theorem brg_pow : Brg2 K .e oPow (rI CPow fun i j => .int (i ^ j.toNat)) := brg_I fun i j G => .int _
theorem brg_lt : Brg2 K .e oLt (rI0 fun i j => .bl (decide (i < j))) := brg_I0 fun i j G => .bl _
theorem brg_le : Brg2 K .e oLe (rI0 fun i j => .bl (decide (i ≤ j))) := brg_I0 fun i j G => .bl _
theorem brg_gt : Brg2 K .e oGt (rI0 fun i j => .bl (decide (j < i))) := brg_I0 fun i j G => .bl _
theorem brg_ge : Brg2 K .e oGe (rI0 fun i j => .bl (decide (j ≤ i))) := brg_I0 fun i j G => .bl _
/-- a text times an int -/
def oMulS : Op2
  | .str x, .int n, Q => MulOk x n ∧ Q (.str (Txt.mul x n))
  | _, _, _ => False
def rMulS : R2 := fun x y H Q => ∃ z n, x = .str z ∧ y = .int n ∧ MulOk z n ∧ Q (.str (Txt.mul z n)) H
theorem op_mulS : OpR X (binaryOp .Mult) rMulS := by
  intro pins s σ H x y v u Q I rx ry h
  obtain ⟨z, n, rfl, rfl, ok, q⟩ := h
  obtain ⟨t, rfl⟩ := rx
  obtain ⟨t', rfl⟩ := ry
  exact SB.mul ok fun t' k => ⟨.str (Txt.mul z n), H, I.tok _, ⟨_, rfl⟩, q⟩
theorem brg_mulS : Brg2 K .e oMulS rMulS := by
  refine ⟨fun x y G H vx vy Q Q2 g rx ry q k => ?_, fun x y Q Q' i q => ?_⟩
  · cases x <;> cases y <;> first | exact q.elim | skip
    obtain ⟨z, q⟩ := q
    rw [rvO_str rx, rvO_int ry]
    exact ⟨_, _, rfl, rfl, z, k _ q G H _ (.refl g) (.str _)⟩
  · cases x <;> cases y <;> first | exact q.elim | skip
    exact ⟨q.1, i _ q.2⟩

/-! ### == and != of data, in -/
def D.ok (d : D) : Prop := d.isP = true ∧ SeqAt.shaped d.py = true
def oEq : Op2 := fun x y Q => x.ok ∧ y.ok ∧ Q (.bl (PyData.eqv x.py y.py))
def oNe : Op2 := fun x y Q => x.ok ∧ y.ok ∧ Q (.bl (!PyData.eqv x.py y.py))
theorem brg_eq : Brg2 K .e oEq (rEqD K) := by
  refine ⟨fun x y G H vx vy Q Q2 g rx ry ⟨a, b, q⟩ k => ?_, fun x y Q Q' i ⟨a, b, q⟩ => ⟨a, b, i _ q⟩⟩
  exact ⟨_, _, rx.dp g a.1, ry.dp g b.1, a.2, b.2, k _ q G H _ (.refl g) (.bl _)⟩
theorem brg_ne : Brg2 K .e oNe (rNeD K) := by
  refine ⟨fun x y G H vx vy Q Q2 g rx ry ⟨a, b, q⟩ k => ?_, fun x y Q Q' i ⟨a, b, q⟩ => ⟨a, b, i _ q⟩⟩
  exact ⟨_, _, rx.dp g a.1, ry.dp g b.1, a.2, b.2, k _ q G H _ (.refl g) (.bl _)⟩
/-- in a list or tuple -/
def oIn (neg : Bool) : Op2
  | x, .lst ys, Q => x.ok ∧ (D.lst ys).ok ∧ Q (.bl (if neg = true then !(D.pys ys).any (fun z => PyData.eqv z x.py) else (D.pys ys).any fun z => PyData.eqv z x.py))
  | x, .xtp ys, Q => x.ok ∧ (D.xtp ys).ok ∧ Q (.bl (if neg = true then !(D.pys ys).any (fun z => PyData.eqv z x.py) else (D.pys ys).any fun z => PyData.eqv z x.py))
  | x, .tup ys, Q => x.ok ∧ (D.tup ys).ok ∧ Q (.bl (if neg = true then !(D.pys ys).any (fun z => PyData.eqv z x.py) else (D.pys ys).any fun z => PyData.eqv z x.py))
  | _, _, _ => False
/-- a sign in a text -/
def oInS (neg : Bool) : Op2
  | .str ⟨⟨[c]⟩⟩, .str z, Q => Q (.bl (if neg = true then !decide (c ∈ z.cps.toList) else decide (c ∈ z.cps.toList)))
  | _, _, _ => False
theorem op_in2 (neg : Bool) : OpR X (compareOp (if neg = true then .NotIn else .In)) (fun x y H Q => ∃ (c : Nat) (z : Str), x = .str ⟨#[c]⟩ ∧ y = .str z ∧ Q (.bl (if neg = true then !decide (c ∈ z.cps.toList) else decide (c ∈ z.cps.toList))) H) := by
  cases neg with
  | true => exact op_notIn_sign
  | false => exact op_in_sign
theorem brg_inS (neg : Bool) : Brg2 K .e (oInS neg) (fun x y H Q => ∃ (c : Nat) (z : Str), x = .str ⟨#[c]⟩ ∧ y = .str z ∧ Q (.bl (if neg = true then !decide (c ∈ z.cps.toList) else decide (c ∈ z.cps.toList))) H) := by
  refine ⟨fun x y G H vx vy Q Q2 g rx ry q k => ?_, fun x y Q Q' i q => ?_⟩
  · unfold oInS at q
    split at q
    · rw [rvO_str rx, rvO_str ry]
      exact ⟨_, _, rfl, rfl, k _ q G H _ (.refl g) (.bl _)⟩
    · exact q.elim
  · unfold oInS at q ⊢
    split at q
    · exact i _ q
    · exact q.elim
def rInQ (K : PySem.W.Frag) (neg : Bool) : R2 := fun x y H Q => ∃ d ds, Dp K H x d ∧ (Dp K H y (.list ds) ∧ SeqAt.shaped (.list ds) = true ∨ Dp K H y (.tuple ds) ∧ SeqAt.shaped (.tuple ds) = true) ∧ SeqAt.shaped d = true ∧
  Q (.bl (if neg = true then !(ds.any fun z => PyData.eqv z d) else ds.any fun z => PyData.eqv z d)) H
end
end Tw

namespace Tw
open PySem PySem.Spec L2 PyProof.Rows
section
variable {X : Cx} {K : PySem.W.Frag}
theorem op_inQ (hu : X.A.units + 65 < cLine) : OpR X (compareOp .In) (rInQ X.K false) := by
  intro pins s σ H x y v u Q I rx ry h
  obtain ⟨d, ds, hd, he, sd, q⟩ := h
  obtain ⟨as, r1⟩ := Dp.reads I d x v hd rx
  rcases he with ⟨he, se⟩ | ⟨he, se⟩
  · obtain ⟨bs, r2⟩ := Dp.reads I (.list ds) y u he ry
    exact SeqAt.in_list_reads r2 r1 (SeqAt.canLay_of_shaped se) (SeqAt.canLay_of_shaped sd) (room_in_shaped sd hu) ⟨.bl _, H, I, rfl, q⟩
  · obtain ⟨bs, r2⟩ := Dp.reads I (.tuple ds) y u he ry
    exact SeqAt.in_tuple_reads r2 r1 (SeqAt.canLay_of_shaped se) (SeqAt.canLay_of_shaped sd) (room_in_shaped sd hu) ⟨.bl _, H, I, rfl, q⟩
theorem op_notInQ (hu : X.A.units + 65 < cLine) : OpR X (compareOp .NotIn) (rInQ X.K true) := by
  intro pins s σ H x y v u Q I rx ry h
  obtain ⟨d, ds, hd, he, sd, q⟩ := h
  obtain ⟨as, r1⟩ := Dp.reads I d x v hd rx
  rcases he with ⟨he, se⟩ | ⟨he, se⟩
  · obtain ⟨bs, r2⟩ := Dp.reads I (.list ds) y u he ry
    exact SeqAt.notIn_list_reads r2 r1 (SeqAt.canLay_of_shaped se) (SeqAt.canLay_of_shaped sd) (room_in_shaped sd hu) ⟨.bl _, H, I, rfl, q⟩
  · obtain ⟨bs, r2⟩ := Dp.reads I (.tuple ds) y u he ry
    exact SeqAt.notIn_tuple_reads r2 r1 (SeqAt.canLay_of_shaped se) (SeqAt.canLay_of_shaped sd) (room_in_shaped sd hu) ⟨.bl _, H, I, rfl, q⟩
theorem brg_in (neg : Bool) : Brg2 K .e (oIn neg) (rInQ K neg) := by
  refine ⟨fun x y G H vx vy Q Q2 g rx ry q k => ?_, fun x y Q Q' i q => ?_⟩
  · unfold oIn at q
    split at q
    · obtain ⟨a, b, q⟩ := q
      have h := ry.dp g b.1
      have sb := b.2
      rw [D.py] at h sb
      exact ⟨_, _, rx.dp g a.1, .inl ⟨h, sb⟩, a.2, k _ q G H _ (.refl g) (.bl _)⟩
    · obtain ⟨a, b, q⟩ := q
      have h := ry.dp g b.1
      have sb := b.2
      rw [D.py] at h sb
      exact ⟨_, _, rx.dp g a.1, .inr ⟨h, sb⟩, a.2, k _ q G H _ (.refl g) (.bl _)⟩
    · obtain ⟨a, b, q⟩ := q
      have h := ry.dp g b.1
      have sb := b.2
      rw [D.py] at h sb
      exact ⟨_, _, rx.dp g a.1, .inr ⟨h, sb⟩, a.2, k _ q G H _ (.refl g) (.bl _)⟩
    · exact q.elim
  · unfold oIn at q ⊢
    split at q
    · exact ⟨q.1, q.2.1, i _ q.2.2⟩
    · exact ⟨q.1, q.2.1, i _ q.2.2⟩
    · exact ⟨q.1, q.2.1, i _ q.2.2⟩
    · exact q.elim

/-! ### is None, is not None -/
def D.isN : D → Bool
  | .non => true
  | _ => false
def oIsN (neg : Bool) : Op2
  | x, .non, Q => Q (.bl (if neg = true then !x.isN else x.isN))
  | _, _, _ => False
theorem rp_non {G H : Hp} {d : D} {v : V} (h : RvO K G H d v) : decide (v = .non) = d.isN := by
  rcases h with h | ⟨p, o, rfl, e, t⟩
  · cases h <;> simp [D.isN]
  · cases d <;> cases o <;> first | exact t.elim | simp [D.isN]
theorem brg_isN : Brg2 K .e (oIsN false) (fun x y H Q => y = .non ∧ Q (.bl (decide (x = .non))) H) := by
  refine ⟨fun x y G H vx vy Q Q2 g rx ry q k => ?_, fun x y Q Q' i q => ?_⟩
  · cases y <;> first | exact q.elim | skip
    exact ⟨rvO_non ry, by rw [rp_non rx]; exact k _ q G H _ (.refl g) (.bl _)⟩
  · cases y <;> first | exact q.elim | skip
    exact i _ q
theorem brg_notN : Brg2 K .e (oIsN true) (fun x y H Q => y = .non ∧ Q (.bl (!decide (x = .non))) H) := by
  refine ⟨fun x y G H vx vy Q Q2 g rx ry q k => ?_, fun x y Q Q' i q => ?_⟩
  · cases y <;> first | exact q.elim | skip
    exact ⟨rvO_non ry, by rw [rp_non rx]; exact k _ q G H _ (.refl g) (.bl _)⟩
  · cases y <;> first | exact q.elim | skip
    exact i _ q

/-! ### items -/
theorem atI_get {G : Hp} {ds : List D} {vs : List V} {i : Int} {d : D} (r : Rps K G ds vs) (h : atI ds i = some d) : ∃ v, atI vs i = some v ∧ Rp K G d v := by
  unfold atI at h ⊢
  rw [← r.length]
  cases e : ixN ds.length i with
  | none => rw [e] at h; cases h
  | some j =>
    rw [e] at h
    exact r.get (i := j) h
def oIx : Op2
  | .lst xs, .int i, Q => ∃ d, atI xs i = some d ∧ Q d
  | .fls xs, .int i, Q => ∃ d, atI xs i = some d ∧ Q d
  | .tup xs, .int i, Q => ∃ d, atI xs i = some d ∧ Q d
  | .str z, .int i, Q => z.length ≤ sizeLine ∧ ∃ c, atI z.cps.toList i = some c ∧ Q (.str ⟨#[c]⟩)
  | _, _, _ => False
theorem brg_ix : Brg2 K .e oIx (rIx K) := by
  refine ⟨fun x y G H vx vy Q Q2 g rx ry q k => ?_, fun x y Q Q' i q => ?_⟩
  · cases x <;> cases y <;> first | exact q.elim | skip
    · obtain ⟨z, c, hc, q⟩ := q
      rw [rvO_str rx, rvO_int ry]
      exact .inr (.inr ⟨_, _, c, rfl, rfl, z, hc, k _ q G H _ (.refl g) (.str _)⟩)
    · obtain ⟨d, hd, q⟩ := q
      obtain ⟨p, vs, rfl, h1, r1⟩ := rvO_tup g rx
      obtain ⟨v, hv, rv⟩ := atI_get r1 hd
      rw [rvO_int ry]
      exact .inr (.inl ⟨p, vs, _, v, rfl, rfl, h1, hv, k _ q G H _ (.refl g) rv⟩)
    · obtain ⟨d, hd, q⟩ := q
      obtain ⟨p, vs, rfl, h1, r1⟩ := rvO_lst g rx
      obtain ⟨v, hv, rv⟩ := atI_get r1 hd
      rw [rvO_int ry]
      exact .inl ⟨p, vs, _, v, rfl, rfl, SqL.of h1, hv, k _ q G H _ (.refl g) rv⟩
    · obtain ⟨d, hd, q⟩ := q
      obtain ⟨p, vs, rfl, h1, r1⟩ := rvO_fls g rx
      obtain ⟨v, hv, rv⟩ := atI_get r1 hd
      rw [rvO_int ry]
      exact .inl ⟨p, vs, _, v, rfl, rfl, h1, hv, k _ q G H _ (.refl g) rv⟩
  · cases x <;> cases y <;> first | exact q.elim | skip
    · obtain ⟨z, c, h, q⟩ := q; exact ⟨z, c, h, i _ q⟩
    all_goals (obtain ⟨d, h, q⟩ := q; exact ⟨d, h, i _ q⟩)

/-! ### slices -/
abbrev OpS := D → Option Int → Option Int → (D → Prop) → Prop
def cutD (xs : List D) (lo hi : Option Int) : List D := (xs.drop (HT.sIx xs.length 0 lo)).take (HT.sIx xs.length xs.length hi - HT.sIx xs.length 0 lo)
theorem rps_cut {G : Hp} {ds : List D} {vs : List V} (r : Rps K G ds vs) (lo hi : Option Int) : Rps K G (cutD ds lo hi) (cutV vs lo hi) := by
  unfold cutD cutV
  rw [r.length]
  exact (r.drop _).take _
structure BrgS (K : PySem.W.Frag) (k : Kd) (op : OpS) (r : V → Option Int → Option Int → Hp → VK → Prop) : Prop where
  go : ∀ (x : D) (lo hi : Option Int) (G H : Hp) (vx : V) (Q : D → Prop) (Q2 : VK), Same G H → RvO K G H x vx → op x lo hi Q → (∀ d, Q d → ∀ G' H' v, Ext G H G' H' → RvK K k H G' H' d v → Q2 v H') → r vx lo hi H Q2
  mo : ∀ x lo hi (Q Q' : D → Prop), (∀ d, Q d → Q' d) → op x lo hi Q → op x lo hi Q'
def oSlL : OpS
  | .lst xs, lo, hi, Q => Q (.lst (cutD xs lo hi))
  | .fls xs, lo, hi, Q => Q (.lst (cutD xs lo hi))
  | _, _, _, _ => False
theorem brg_slL : BrgS K .f oSlL (rSlL K) := by
  refine ⟨fun x lo hi G H vx Q Q2 g rx q k => ?_, fun x lo hi Q Q' i q => ?_⟩
  · cases x <;> first | exact q.elim | skip
    · obtain ⟨p, vs, rfl, h1, r1⟩ := rvO_lst g rx
      refine ⟨p, vs, rfl, SqL.of h1, fun l hl => ?_⟩
      exact k _ q _ _ _ (Ext.newH g hl) ⟨l, _, rfl, hl, upd_same, rps_cut r1 lo hi, g.free hl⟩
    · obtain ⟨p, vs, rfl, h1, r1⟩ := rvO_fls g rx
      refine ⟨p, vs, rfl, h1, fun l hl => ?_⟩
      exact k _ q _ _ _ (Ext.newH g hl) ⟨l, _, rfl, hl, upd_same, rps_cut r1 lo hi, g.free hl⟩
  · cases x <;> first | exact q.elim | exact i _ q
def oSlT : OpS
  | .tup xs, lo, hi, Q => Q (.tup (cutD xs lo hi))
  | _, _, _, _ => False
theorem brg_slT : BrgS K .e oSlT (rSlA K) := by
  refine ⟨fun x lo hi G H vx Q Q2 g rx q k => ?_, fun x lo hi Q Q' i q => ?_⟩
  · cases x <;> first | exact q.elim | skip
    obtain ⟨p, vs, rfl, h1, r1⟩ := rvO_tup g rx
    refine ⟨p, vs, rfl, h1, fun e => ?_, fun _ l hl => ?_⟩
    · have r2 := rps_cut r1 lo hi
      have e2 : cutV vs lo hi = vs := by unfold cutV; rw [e.1, e.2]; simp
      rw [e2] at r2
      refine k _ q G H _ (.refl g) ?_
      rcases rx with h | ⟨_, o, _, _, t⟩
      · cases h with | tup hq r3 => exact .tup hq (by
          have := r2.length
          unfold cutD
          rw [r1.length, e.1, e.2]
          have e3 := r3.length
          have e4 := r1.length
          rw [List.drop_zero, Nat.sub_zero, List.take_of_length_le (by omega)]
          exact r3)
      · cases o <;> exact t.elim
    · have x2 := Ext.new (o := .tup (cutV vs lo hi)) g hl
      exact k _ q _ _ _ x2 (.tup (SqT.of upd_same) ((rps_cut r1 lo hi).mono x2.gg))
  · cases x <;> first | exact q.elim | exact i _ q
def oSlS : OpS
  | .str z, lo, hi, Q => z.length ≤ sizeLine ∧ Q (.str (cutS z lo hi))
  | _, _, _, _ => False
theorem brg_slS : BrgS K .e oSlS rSlS := by
  refine ⟨fun x lo hi G H vx Q Q2 g rx q k => ?_, fun x lo hi Q Q' i q => ?_⟩
  · cases x <;> first | exact q.elim | skip
    rw [rvO_str rx]
    exact ⟨_, rfl, q.1, k _ q.2 G H _ (.refl g) (.str _)⟩
  · cases x <;> first | exact q.elim | exact ⟨q.1, i _ q.2⟩
abbrev Wo := XC → Evn → (Option Int → Prop) → Prop
def liftO (K : PySem.W.Frag) (E : XK) (w : Wo) : TO := fun σ H Q => ∃ G0 H0 G ρ xc, Rel K G0 H0 G ρ σ H ∧ TieX K G0 H0 E xc ∧ w xc ρ fun d => ∀ G' H', Ext G H G' H' → Q d H'
structure OJ (E : XK) (X : Cx) (e : Option Expr) (w : Wo) : Prop where
  po : PO X e (liftO X.K E w)
  mo : ∀ xc ρ (Q Q' : Option Int → Prop), (∀ d, Q d → Q' d) → w xc ρ Q → w xc ρ Q'
def woN : Wo := fun _ _ Q => Q none
def woS (w : Wx) : Wo := fun xc ρ Q => w xc ρ fun d => ∃ i, d = .int i ∧ Q (some i)
theorem PO.imp {X : Cx} {e : Option Expr} {t t' : TO} (h : PO X e t) (i : ∀ σ H Q, t' σ H Q → t σ H Q) : PO X e t' := ⟨fun pins s σ H Q I q => h.run pins s σ H Q I (i _ _ _ q)⟩
variable {E : XK} {e a b c : Expr} {w wa wb wc : Wx} {k ka kb : Kd} {pos : Pos}
theorem oj_none : OJ E X none woN := ⟨PO.imp po_none fun σ H Q ⟨G0, H0, G, ρ, xc, R, T, q⟩ => q G H (.refl R.gh), fun _ _ _ _ i q => i _ q⟩
theorem oj_some (h : EJ k E X e w) : OJ E X (some e) (woS w) := by
  refine ⟨PO.imp (po_some h.pe) fun σ H Q ⟨G0, H0, G, ρ, xc, R, T, q⟩ => ⟨G0, H0, G, ρ, xc, R, T, h.mo _ _ _ _ (fun d ⟨i, e, q1⟩ G1 H1 v x1 r1 => ?_) q⟩, fun _ _ _ _ i q => h.mo _ _ _ _ (fun d ⟨j, e, q⟩ => ⟨j, e, i _ q⟩) q⟩
  subst e
  exact ⟨i, rvO_int r1.o, q1 G1 H1 x1⟩
def wSl (op : OpS) (wa : Wx) (lo hi : Wo) : Wx := fun xc ρ Q => wa xc ρ fun x => lo xc ρ fun l => hi xc ρ fun u => op x l u Q
theorem ej_sl {op : OpS} {r : V → Option Int → Option Int → Hp → VK → Prop} {lo hi : Option Expr} {wl wu : Wo} {p2 : Pos} (hr : SlR X r) (B : BrgS X.K k op r) (ha : EJ ka E X a wa) (hl : OJ E X lo wl) (hu : OJ E X hi wu) :
    EJ k E X (.Subscript a (.Slice lo hi none p2) pos) (wSl op wa wl wu) := by
  refine ⟨(pe_slice hr ha.pe hl.po hu.po).imp fun σ H Q ⟨G0, H0, G, ρ, xc, R, T, q⟩ => ⟨G0, H0, G, ρ, xc, R, T, ha.mo _ _ _ _ (fun x q1 G1 H1 v1 x1 r1 => ?_) q⟩, fun xc ρ Q Q' i q => ha.mo _ _ _ _ (fun x q => hl.mo _ _ _ _ (fun l q => hu.mo _ _ _ _ (fun u q => B.mo _ _ _ _ _ i q) q) q) q⟩
  refine ⟨G0, H0, G1, ρ, xc, R.ext x1, T, hl.mo _ _ _ _ (fun l q2 G2 H2 x2 => ?_) q1⟩
  refine ⟨G0, H0, G2, ρ, xc, (R.ext x1).ext x2, T, hu.mo _ _ _ _ (fun u q3 G3 H3 x3 => ?_) q2⟩
  have x13 := x2.trans x3
  exact B.go x l u G3 H3 v1 _ _ x3.gh (r1.o.ext x13) q3 fun d q4 G' H' v x4 r4 => q4 G' H' v (x1.trans (x13.trans x4)) (rv_later (x1.trans x13).hh r4)
theorem ej_ix (ha : EJ ka E X a wa) (hb : EJ kb E X b wb) (hs : PlainIx b) : EJ .e E X (.Subscript a b pos) (w2 oIx wa wb) := ej_2 ha hb (pe_ix ix_seq ha.pe hb.pe hs) brg_ix
end
end Tw

/-! Tw, part S: sorted(set(xs)), xs a list of ints. -/
namespace Tw
open PySem PySem.Spec L2 PyProof.Rows
section
variable {P : Program} {w : World} {A : Around} {E : Value → Shared → Prop} {s : Shared}
abbrev fresh0 (w : World) : Obj := { cls := .type "set", dict := none, data := .set #[] 0 (.fresh 0 0 (!w.params.followText "set-order")) }
theorem nodup_le64 : ∀ (l S : List Int), l.Nodup → (∀ k ∈ l, k ∈ S) → l.length ≤ S.length
  | [], _, _, _ => Nat.zero_le _
  | a :: l, S, nd, sub => by
    have ha : a ∈ S := sub a List.mem_cons_self
    have h := nodup_le64 l (S.erase a) (List.nodup_cons.mp nd).2 fun k hk => (List.mem_erase_of_ne (fun e => by subst e; exact (List.nodup_cons.mp nd).1 hk)).mpr (sub k (List.mem_cons_of_mem _ hk))
    rw [List.length_erase_of_mem ha] at h
    have := List.length_pos_of_mem ha
    simp only [List.length_cons]; omega
def few64 (ns : List Int) : Prop := ∃ S : List Int, S.length < 64 ∧ ∀ k ∈ ns, k ∈ S
theorem few_of {ns : List Int} (h : ns.length < 64) : few64 ns := ⟨ns, h, fun _ q => q⟩
/-- m different numbers of the first i -/
def mOf (ns : List Int) (i m : Nat) : Prop := ∃ l : List Int, l.Nodup ∧ l.length = m ∧ ∀ k ∈ l, k ∈ ns.take i
theorem mOf_lt {ns : List Int} {i m : Nat} (few : few64 ns) (h : mOf ns i m) : m < 64 := by
  obtain ⟨S, hs, sub⟩ := few
  obtain ⟨l, nd, rfl, hl⟩ := h
  have := nodup_le64 l S nd fun k hk => sub k (List.mem_of_mem_take (hl k hk))
  omega
/-- the loop of set.update over ints -/
theorem upd_ints {it : Addr} {fp wr : List Addr} {Gs : Array GenState → Array GenState → Prop} {n : Nat} {Pv : Nat → Value → Prop} {St : Nat → Shared → Prop} {R : Result → Shared → Prop}
    (Wk : WalksS P w A.in1 it fp wr Gs n Pv St) (z : Addr) (zf : z ∉ fp) (ns : List Int) (en : n = ns.length) (few : few64 ns) (val : ∀ i v, Pv i v → ∃ k t, ns[i]? = some k ∧ v = .int k t)
    (h0 : Heap) (z0 : h0.get? z = none) (w0 : ∀ b ∈ wr, h0.get? b = none) :
    ∀ (j i : Nat) (s : Shared), n - i = j → i ≤ n → St i s → (∀ b o, h0.get? b = some o → s.heap.get? b = some o) → (∃ m, mOf ns i m ∧ SetR w s.heap z (fun k => decide (k ∈ ns.take i)) m) →
      (∀ s' m, Moved (z :: wr) Gs s s' → mOf ns n m → SetR w s'.heap z (fun k => decide (k ∈ ns.take n)) m → (∀ b o, h0.get? b = some o → s'.heap.get? b = some o) → R (.ok (.ret .none)) s') →
      codeAny (model P w) A (.builtin "set.update.loop" ⟨[.ref z, .ref it], []⟩) R s := by
  have zw : z ∉ wr := fun q => zf (Wk.sub _ q)
  have up : ∀ b ∈ wr, b ∈ z :: wr := fun b q => List.mem_cons_of_mem _ q
  have held : ∀ {s s' : Shared}, Moved wr Gs s s' → (∀ b o, h0.get? b = some o → s.heap.get? b = some o) → ∀ b o, h0.get? b = some o → s'.heap.get? b = some o := fun mv kp b o q =>
    mv.heap b o (fun hb => by rw [w0 b hb] at q; cases q) (kp b o q)
  intro j
  induction j with
  | zero =>
    intro i s ej hi st kp ⟨m, hm, hz⟩ fin
    obtain rfl : i = n := by omega
    refine codeAny_builtin F.entry_set_update_loop ?_
    rw [Around.under_plainId F.plain_set_update_loop _]
    show wpAny _ A.in1 (pyNext (.ref it) >>= _) _ _ s
    refine wpAny_bind (Wk.done s _ _ st fun s' mv => ?_)
    show wpAny _ A.in1 (ret Value.none) _ _ s'
    exact wpAny_pure (fin s' m (mv.mono up) hm (hz.at fun o q => mv.heap z o zw q) (held mv kp))
  | succ j ih =>
    intro i s ej hi st kp ⟨m, hm, hz⟩ fin
    have lt : i < n := by omega
    refine codeAny_builtin F.entry_set_update_loop ?_
    rw [Around.under_plainId F.plain_set_update_loop _]
    show wpAny _ A.in1 (pyNext (.ref it) >>= _) _ _ s
    refine wpAny_bind (Wk.item i s _ _ lt st fun v s' pv' st' mv => ?_)
    obtain ⟨k, t, hk, rfl⟩ := val i v pv'
    have kp' := held mv kp
    have hz' : SetR w s'.heap z _ m := hz.at fun o q => mv.heap z o zw q
    show wpAny _ A.in1 (holding [Value.int k t] (setAdd z (.int k t)) >>= _) _ _ s'
    refine wpAny_bind (wpAny_holding ?_)
    unfold setAdd
    refine wpAny_holding ?_
    refine wpAny_bind (wpAny_pyHash_int ?_)
    have m64 := mOf_lt few hm
    refine setR_add_hashed (P := P) hz' (by unfold scanBound; omega) fun h' sb r => ?_
    have tk : ns.take (i + 1) = ns.take i ++ [k] := by rw [List.take_succ, hk]; rfl
    have kp2 : ∀ b o, h0.get? b = some o → h'.get? b = some o := fun b o q => (sb.2 b (fun e => by rw [e, z0] at q; cases q)).trans (kp' b o q)
    have fr : ∀ b ∈ fp, ∀ o, s'.heap.get? b = some o → h'.get? b = some o := fun b hb o q => by
      rw [sb.2 b (fun e => zf (by rw [← e]; exact hb))]; exact q
    refine wpAny_pure ⟨plainId_quiet F.plain_set_update_loop _, ih (i + 1) _ (by omega) lt (Wk.frame _ s' _ _ st' (Nat.le_add_right _ _) fr) kp2 ?_ fun s'' m2 mv2 hm2 hz2 kp3 => ?_⟩
    · refine ⟨_, ?_, r.congr fun q => ?_⟩
      · obtain ⟨l, nd, el, hl⟩ := hm
        have hl2 : ∀ q ∈ l, q ∈ ns.take (i + 1) := fun q hq => by rw [tk]; exact List.mem_append_left _ (hl q hq)
        by_cases hk : k ∈ ns.take i
        · simp only [hk, decide_true, if_true]
          exact ⟨l, nd, el, hl2⟩
        · simp only [hk, decide_false]
          refine ⟨k :: l, List.nodup_cons.mpr ⟨fun q => hk (hl k q), nd⟩, by simp [el], fun q hq => ?_⟩
          rcases List.mem_cons.mp hq with e | hq
          · rw [tk, e]; simp
          · exact hl2 q hq
      · rw [tk]; simp only [List.mem_append, List.mem_singleton]
        by_cases a : q ∈ ns.take i <;> by_cases b : q = k <;> simp [a, b]
    · refine fin s'' m2 (Moved.trans Wk.gtrans ((mv.mono up).then_heap (Nat.le_add_right _ _) fun b o hb q => ?_) mv2) hm2 hz2 kp3
      rw [sb.2 b (fun e => hb (by rw [e]; exact List.mem_cons_self))]; exact q

set_option maxHeartbeats 3200000 in
/-- set(xs) of ints -/
theorem call_setI {l : Addr} {items : Array Value} (ns : List Int) {Q : Value → Shared → Prop} (hh : A.handled = none) (il : s.heap.IsList l items) (ii : IntsAre items.toList ns) (few : few64 ns)
    (h : ∀ (h' : Heap) (tk : Nat) m, m < 64 → SetR w h' s.heap.objs.size (fun k => decide (k ∈ ns)) m → (∀ b o, s.heap.get? b = some o → h'.get? b = some o) → Q (.ref s.heap.objs.size) { s with heap := h', toks := tk }) :
    wpAny (model P w) A (call (.type "set") [.ref l]) Q E s := by
  have sz : items.size = ns.length := by
    have q := ii.length
    rw [Array.length_toList] at q
    exact q
  obtain ⟨c, tl, hmro⟩ := F.called_set.mro
  have c1 := F.called_set.made
  have c2 := F.called_set.sub
  refine wpAny_call (codeAny_of_tree ?_)
  show wpAny _ _ (callAny (.type "set") _) _ _ _
  refine wpAny_pure ⟨Code.quiet_builtin _ (by decide +kernel), codeAny_builtin F.entry_type_call ?_⟩
  rw [Around.under_plain (weight_type_call_type "set" [.ref l] []) rfl]
  have c3 := F.called_set.notType
  have c4 := F.called_set.canCreate
  have c5 := F.typeCall_set_1 (.ref l)
  repeat (any_goals (first | assumption | wp_step))
  refine codeAny_mono (code_set_led1 (.ref l) (E := E) (Q₁ := fun obj s₁ => obj = .ref s.heap.objs.size ∧ s₁ = { s with heap := s.heap.push (fresh0 w) }) ⟨rfl, rfl⟩) fun r s₁ hr => ?_
  cases r with
  | error e => exact hr
  | ok fl =>
    cases fl with
    | ret obj =>
      obtain ⟨rfl, rfl⟩ := hr
      have hS : (s.heap.push (fresh0 w)).get? s.heap.objs.size = some (fresh0 w) := Heap.get?_push_size _ rfl
      have hT : Shared.TypeIs { s with heap := s.heap.push (fresh0 w) } (.ref s.heap.objs.size) "set" := ⟨_, hS, rfl⟩
      have c6 := F.called_set.init.lookup
      have c7 := F.called_set.init.bind (.ref s.heap.objs.size)
      repeat (any_goals (first | assumption | wp_step))
      refine codeAny_mono (codeAny_call_builtin (R := wants (fun r s₂ => r = .none ∧ ∃ h' tk m, s₂ = { s with heap := h', toks := tk } ∧ m < 64 ∧ SetR w h' s.heap.objs.size (fun k => decide (k ∈ ns)) m ∧
          (∀ b o, s.heap.get? b = some o → h'.get? b = some o)) E) F.called_set.init.plain F.entry_set_init (check_set_init_1 hT ?_)) fun r₂ s₂ hr₂ => ?_
      · obtain ⟨ol, hol, hcl, nl, hdl⟩ := il
        obtain ⟨ocls, odict, odata, oslots⟩ := ol
        simp only at hcl hdl
        subst hcl; subst hdl
        have hol' : (s.heap.push (fresh0 w)).get? l = some { cls := .type "list", dict := odict, data := .seq items nl, slots := oslots } := Heap.get?_push_of_some _ hol
        have d1 := F.sub_list_set
        have d2 := F.sub_list_frozenset
        have d3 : (Value.type "list" == Value.type "dict") = false := by decide
        have hl1 : (s.heap.push (fresh0 w)).IsList l items := ⟨_, hol', rfl, nl, rfl⟩
        unfold Builtin.«set.__init__» noKeywords Builtin.Frozenset.updateFrom
        generalize hPI : pyIter = PI
        wp_walk
        subst hPI
        refine wpAny_pyIter_list hl1 ?_
        refine wpAny_bind (wpAny_runValue ?_)
        have ls : l < s.heap.objs.size := Heap.lt_size hol
        have hh3 : A.in1.in1.in1.handled = none := by simp [hh]
        have nI : l ≠ (s.heap.push (fresh0 w)).objs.size := by
          rw [Heap.size_push]
          exact Nat.ne_of_lt (Nat.lt_succ_of_lt ls)
        have nf : s.heap.objs.size ∉ [(s.heap.push (fresh0 w)).objs.size, l] := by
          rw [Heap.size_push]; simp only [List.mem_cons, List.not_mem_nil, or_false, not_or]
          exact ⟨Nat.ne_of_lt (Nat.lt_succ_self _), Nat.ne_of_gt ls⟩
        have val : ∀ (i : Nat) (v : Value), items[i]? = some v → ∃ k t, ns[i]? = some k ∧ v = .int k t := fun i v hv => by
          have q : items.toList[i]? = some v := by rw [Array.getElem?_toList]; exact hv
          have lt2 : i < ns.length := by
            rw [← sz]; exact (Array.getElem?_eq_some_iff.mp hv).1
          obtain ⟨t, e⟩ := ii.int_at i v q
          exact ⟨ns.getD i 0, t, by rw [List.getD_eq_getElem?_getD, List.getElem?_eq_getElem lt2]; rfl, e⟩
        have nn : ∀ b, s.heap.objs.size ≤ b → s.heap.get? b = none := fun b hb => by
          cases q : s.heap.get? b with
          | none => rfl
          | some o => exact absurd (Nat.lt_of_lt_of_le (Heap.lt_size q) hb) (Nat.lt_irrefl _)
        refine upd_ints ((Walks.list hh3 _ l nI items).toS) s.heap.objs.size nf ns sz few val s.heap (nn _ (Nat.le_refl _)) (fun b hb => nn b (by
            rw [List.mem_singleton.mp hb, Heap.size_push]
            exact Nat.le_succ _)) (items.size - 0) 0 _ (by omega) (Nat.zero_le _)
          ⟨⟨_, Heap.get?_push_size _ rfl, rfl, rfl⟩, (hl1.push _)⟩ (fun b o e => Heap.get?_push_of_some _ (Heap.get?_push_of_some _ e)) ?hS0 ?hR
        case hS0 =>
          refine ⟨0, ⟨[], List.nodup_nil, rfl, fun _ q => by cases q⟩, ((setR_fresh (h := s.heap) w).at fun o e => Heap.get?_push_of_some _ e).congr fun k => by simp⟩
        case hR =>
          intro s' m mv hm hz kp
          obtain ⟨h', g2, d', tk', os'⟩ := s'
          have eg : g2 = s.gens := mv.gens
          have ed : d' = s.drawn := mv.drawn
          have eo : os' = s.os := mv.os
          subst eg; subst ed; subst eo
          show wpAny _ _ _ _ _ _
          refine wpAny_pure ?_
          show wpAny _ _ (ret Value.none) _ _ _
          have hm := mOf_lt few hm
          have et : ns.take items.size = ns := by rw [sz, List.take_length]
          rw [et] at hz
          exact wpAny_pure ⟨rfl, h', tk', m, rfl, hm, hz, kp⟩
      · cases r₂ with
        | error e => exact hr₂
        | ok fl₂ =>
          cases fl₂ with
          | ret r =>
            obtain ⟨rfl, h', tk, m, rfl, hm, hz, kp⟩ := hr₂
            repeat (any_goals (first | assumption | wp_step))
            exact h _ _ _ hm hz kp
          | _ => exact hr₂.elim
    | _ => exact hr.elim
end
section
variable {X : Cx}
def rSetI (K : PySem.W.Frag) (w : World) : List V → Hp → VK → Prop := fun xs H Q => ∃ (l : Addr) (ns : List Int), xs = [V.ref l] ∧ SqL K H l (ns.map V.int) ∧ few64 ns ∧
  ∀ p m, H p = none → m < 64 → Q (.ref p) (upd H p (SetO w p (fun k => decide (k ∈ ns)) m))
theorem cr_setI (hc : X.calm = true) : CallR X (.type "set") (rSetI X.K X.w) := by
  intro pins s σ H xs us Q I r h
  obtain ⟨l, ns, rfl, hl, few, q⟩ := h
  rw [Vals.ref1 r]
  obtain ⟨its, rv, pl, hz⟩ := I.list hl
  have hn : H s.heap.objs.size = none := I.hok.fresh (Nat.le_refl _)
  refine call_setI ns (I.ok.hd hc) pl.isList (by simpa using ints_of_vals rv) few fun h' tk m hm R kp => ?_
  exact ⟨.ref s.heap.objs.size, _, I.laid (t' := tk) kp (Nat.le_refl _) (setO_new R), rfl, q _ m hn hm⟩
end
end Tw

/-! Tw, part D: built-in functions on data; calls of defs; statements. -/
namespace Tw
open PySem PySem.Spec L2 PyProof.Rows
section
variable {X : Cx} {K : PySem.W.Frag} {E : XK} {e a b c o : Expr} {es : List Expr} {w wa wb wc : Wx} {k ka kb : Kd} {pos p : Pos} {u : Wa}

/-! ### len, int, abs, list, tuple, sorted, any, all -/
theorem rvOs_1 {G H : Hp} {d : D} {vs : List V} (h : RvOs K G H [d] vs) : ∃ v, vs = [v] ∧ RvO K G H d v := by
  cases h with | cons h r => cases r; exact ⟨_, rfl, h⟩
def oLen : OpN
  | [.lst xs], Q => Q (.int xs.length)
  | [.fls xs], Q => Q (.int xs.length)
  | [.tup xs], Q => Q (.int xs.length)
  | [.xtp xs], Q => Q (.int xs.length)
  | [.str z], Q => z.length ≤ sizeLine ∧ Q (.int z.length)
  | _, _ => False
theorem brg_len : BrgN K .e oLen (fun xs H Q => ∃ x n, xs = [x] ∧ LenV K x H n ∧ Q (V.int ↑n) H) := by
  refine ⟨fun ds G H vs Q Q2 g r q kk => ?_, fun ds Q Q' i q => ?_⟩
  · unfold oLen at q
    split at q
    · obtain ⟨v, rfl, rv⟩ := rvOs_1 r
      obtain ⟨pp, vs, rfl, h1, r1⟩ := rvO_lst g rv
      exact ⟨_, _, rfl, .inl ⟨vs, SqL.of h1, r1.length⟩, kk _ q G H _ (.refl g) (.int _)⟩
    · obtain ⟨v, rfl, rv⟩ := rvOs_1 r
      obtain ⟨pp, vs, rfl, h1, r1⟩ := rvO_fls g rv
      exact ⟨_, _, rfl, .inl ⟨vs, h1, r1.length⟩, kk _ q G H _ (.refl g) (.int _)⟩
    · obtain ⟨v, rfl, rv⟩ := rvOs_1 r
      obtain ⟨pp, vs, rfl, h1, r1⟩ := rvO_tup g rv
      exact ⟨_, _, rfl, .inr ⟨vs, h1, r1.length⟩, kk _ q G H _ (.refl g) (.int _)⟩
    · obtain ⟨v, rfl, rv⟩ := rvOs_1 r
      obtain ⟨pp, vs, o, rfl, h1, _, _, r1⟩ := rvO_xtp g rv
      exact ⟨_, _, rfl, .inr ⟨vs, .inl (.inr ⟨_, h1⟩), r1.length⟩, kk _ q G H _ (.refl g) (.int _)⟩
    · obtain ⟨v, rfl, rv⟩ := rvOs_1 r
      rw [rvO_str rv]
      exact ⟨_, _, rfl, ⟨q.1, rfl⟩, kk _ q.2 G H _ (.refl g) (.int _)⟩
    · exact q.elim
  · unfold oLen at q ⊢
    split at q <;> first | exact i _ q | exact ⟨q.1, i _ q.2⟩ | exact q.elim
def oInt : OpN
  | [.int i], Q => Q (.int i)
  | [.bl k], Q => Q (.int (if k = true then 1 else 0))
  | _, _ => False
theorem brg_int : BrgN K .e oInt (fun xs H Q => (∃ i, xs = [V.int i] ∧ Q (V.int i) H) ∨ ∃ k, xs = [V.bl k] ∧ Q (V.int (if k = true then 1 else 0)) H) := by
  refine ⟨fun ds G H vs Q Q2 g r q kk => ?_, fun ds Q Q' i q => ?_⟩
  · unfold oInt at q
    split at q
    · obtain ⟨v, rfl, rv⟩ := rvOs_1 r
      rw [rvO_int rv]
      exact .inl ⟨_, rfl, kk _ q G H _ (.refl g) (.int _)⟩
    · obtain ⟨v, rfl, rv⟩ := rvOs_1 r
      rw [rvO_bl rv]
      exact .inr ⟨_, rfl, kk _ q G H _ (.refl g) (.int _)⟩
    · exact q.elim
  · unfold oInt at q ⊢
    split at q <;> first | exact i _ q | exact q.elim
def oAbs : OpN
  | [.int i], Q => Q (.int (if i < 0 then -i else i))
  | _, _ => False
theorem brg_abs : BrgN K .e oAbs (fun xs H Q => ∃ i, xs = [V.int i] ∧ Q (V.int (if i < 0 then -i else i)) H) := by
  refine ⟨fun ds G H vs Q Q2 g r q kk => ?_, fun ds Q Q' i q => ?_⟩
  · unfold oAbs at q
    split at q
    · obtain ⟨v, rfl, rv⟩ := rvOs_1 r
      rw [rvO_int rv]
      exact ⟨_, rfl, kk _ q G H _ (.refl g) (.int _)⟩
    · exact q.elim
  · unfold oAbs at q ⊢
    split at q <;> first | exact i _ q | exact q.elim
/-- list(x): a new list -/
def oList : OpN
  | [.lst xs], Q => Q (.lst xs)
  | [.fls xs], Q => Q (.lst xs)
  | [.tup xs], Q => Q (.lst xs)
  | _, _ => False
theorem brg_list : BrgN K .f oList (fun xs H Q => ∃ p ys, xs = [V.ref p] ∧ (SqL K H p ys ∨ SqT K H p ys) ∧ ∀ (l : Addr), H l = none → Q (V.ref l) (upd H l (HO.lst ys))) := by
  refine ⟨fun ds G H vs Q Q2 g r q kk => ?_, fun ds Q Q' i q => ?_⟩
  · have fin : ∀ {xs : List D} {vs : List V}, Q (.lst xs) → Rps K G xs vs → ∀ l, H l = none → Q2 (V.ref l) (upd H l (HO.lst vs)) := fun q r1 l hl =>
      kk _ q _ _ _ (Ext.newH g hl) ⟨l, _, rfl, hl, upd_same, r1, g.free hl⟩
    unfold oList at q
    split at q
    · obtain ⟨v, rfl, rv⟩ := rvOs_1 r
      obtain ⟨pp, vs, rfl, h1, r1⟩ := rvO_lst g rv
      exact ⟨pp, vs, rfl, .inl (SqL.of h1), fin q r1⟩
    · obtain ⟨v, rfl, rv⟩ := rvOs_1 r
      obtain ⟨pp, vs, rfl, h1, r1⟩ := rvO_fls g rv
      exact ⟨pp, vs, rfl, .inl h1, fin q r1⟩
    · obtain ⟨v, rfl, rv⟩ := rvOs_1 r
      obtain ⟨pp, vs, rfl, h1, r1⟩ := rvO_tup g rv
      exact ⟨pp, vs, rfl, .inr h1, fin q r1⟩
    · exact q.elim
  · unfold oList at q ⊢
    split at q <;> first | exact i _ q | exact q.elim
def oTuple : OpN
  | [.lst xs], Q => Q (.tup xs)
  | [.fls xs], Q => Q (.tup xs)
  | [.tup xs], Q => Q (.tup xs)
  | _, _ => False
theorem brg_tuple : BrgN K .e oTuple (fun xs H Q => ∃ p ys, xs = [V.ref p] ∧ ((SqL K H p ys ∧ ∀ (l : Addr), H l = none → Q (V.ref l) (upd H l (HO.tup ys))) ∨ SqT K H p ys ∧ Q (V.ref p) H)) := by
  refine ⟨fun ds G H vs Q Q2 g r q kk => ?_, fun ds Q Q' i q => ?_⟩
  · have fin : ∀ {xs : List D} {vs : List V}, Q (.tup xs) → Rps K G xs vs → ∀ l, H l = none → Q2 (V.ref l) (upd H l (HO.tup vs)) := fun {xs vs} q r1 l hl => by
      have x2 := Ext.new (o := .tup vs) g hl
      exact kk _ q _ _ _ x2 (.tup (SqT.of upd_same) (r1.mono x2.gg))
    unfold oTuple at q
    split at q
    · obtain ⟨v, rfl, rv⟩ := rvOs_1 r
      obtain ⟨pp, vs, rfl, h1, r1⟩ := rvO_lst g rv
      exact ⟨pp, vs, rfl, .inl ⟨SqL.of h1, fin q r1⟩⟩
    · obtain ⟨v, rfl, rv⟩ := rvOs_1 r
      obtain ⟨pp, vs, rfl, h1, r1⟩ := rvO_fls g rv
      exact ⟨pp, vs, rfl, .inl ⟨h1, fin q r1⟩⟩
    · obtain ⟨v, rfl, rv⟩ := rvOs_1 r
      rcases rv with rv | ⟨_, o, _, _, t⟩
      · cases rv with | tup h1 r1 => exact ⟨_, _, rfl, .inr ⟨sqT_mono g h1, kk _ q G H _ (.refl g) (.tup h1 r1)⟩⟩
      · cases o <;> exact t.elim
    · exact q.elim
  · unfold oTuple at q ⊢
    split at q <;> first | exact i _ q | exact q.elim
theorem rps_ints {G : Hp} : ∀ {ns : List Int} {vs : List V}, Rps K G (ns.map .int) vs → vs = ns.map .int
  | [], _, .nil => rfl
  | n :: ns, _, .cons h r => by
    cases h
    rw [rps_ints r]; rfl
theorem ints_rps {G : Hp} : ∀ ns : List Int, Rps K G (ns.map .int) (ns.map .int)
  | [] => .nil
  | n :: ns => .cons (.int n) (ints_rps ns)
theorem rps_bls {G : Hp} : ∀ {ns : List Bool} {vs : List V}, Rps K G (ns.map .bl) vs → vs = ns.map .bl
  | [], _, .nil => rfl
  | n :: ns, _, .cons h r => by
    cases h
    rw [rps_bls r]; rfl
/-- sorted(x), x a list of ints -/
def oSortI : OpN := fun ds Q => ∃ ns : List Int, ds = [.lst (ns.map .int)] ∧ ∀ ms : List Int, ms.Perm ns → ms.Pairwise (· ≤ ·) → Q (.lst (ms.map .int))
theorem brg_sortI : BrgN K .f oSortI (rSortedI K) := by
  refine ⟨fun ds G H vs Q Q2 g r ⟨ns, ed, q⟩ kk => ?_, fun ds Q Q' i ⟨ns, ed, q⟩ => ⟨ns, ed, fun ms a b => i _ (q ms a b)⟩⟩
  subst ed
  obtain ⟨v, rfl, rv⟩ := rvOs_1 r
  obtain ⟨pp, vs, rfl, h1, r1⟩ := rvO_lst g rv
  refine ⟨pp, ns, rfl, SqL.of (by rw [h1, rps_ints r1]), fun ms l hp hs hl => ?_⟩
  exact kk _ (q ms hp hs) _ _ _ (Ext.newH g hl) ⟨l, _, rfl, hl, upd_same, ints_rps ms, g.free hl⟩
def oAll : OpN := fun ds Q => ∃ bs : List Bool, ds = [.lst (bs.map .bl)] ∧ Q (.bl (bs.all id))
theorem brg_all : BrgN K .e oAll (rAll K) := by
  refine ⟨fun ds G H vs Q Q2 g r ⟨ns, ed, q⟩ kk => ?_, fun ds Q Q' i ⟨ns, ed, q⟩ => ⟨ns, ed, i _ q⟩⟩
  subst ed
  obtain ⟨v, rfl, rv⟩ := rvOs_1 r
  obtain ⟨pp, vs, rfl, h1, r1⟩ := rvO_lst g rv
  exact ⟨pp, ns, rfl, SqL.of (by rw [h1, rps_bls r1]), kk _ q G H _ (.refl g) (.bl _)⟩
/-- sorted(set(x)), x a list of ints -/
def wSortSet (w : Wx) : Wx := fun xc ρ Q => w xc ρ fun d => ∃ ns : List Int, d = .lst (ns.map .int) ∧ few64 ns ∧ ∀ ms : List Int, ms.Pairwise (· < ·) → (∀ k, k ∈ ms ↔ k ∈ ns) → Q (.lst (ms.map .int))
theorem ej_sortSet {p2 q2 : Pos} (ha : EJ k E X a w) (hc : X.calm = true) (hg : Gl X "sorted") (hm : X.mg "sorted" = none) (hg2 : Gl X "set") (hm2 : X.mg "set" = none)
    (hst : starEach [a] X.env = (false, eval a X.env) :: starEach [] X.env := by rfl) (hst2 : starEach [(.Call (.Name "set" p2) [a] [] q2)] X.env = (false, eval (.Call (.Name "set" p2) [a] [] q2) X.env) :: starEach [] X.env := by rfl) :
    EJ .f E X (.Call (.Name "sorted" p) [.Call (.Name "set" p2) [a] [] q2] [] pos) (wSortSet w) := by
  have h := pe_callB (p := p) (pos := pos) (cr_sortedSet hc) hg hm (by decide +kernel) (pa_cons (pe_callTy (p := p2) (pos := q2) (cr_setI hc) hg2 hm2 (by decide +kernel) (pa_cons ha.pe pa_nil hst) (by decide) (by decide) hst rfl) pa_nil hst2) (by decide) (by decide) hst2 rfl
  refine ⟨h.imp fun σ H Q ⟨G0, H0, G, ρ, xc, R, T, q⟩ => ⟨G0, H0, G, ρ, xc, R, T, ha.mo _ _ _ _ (fun d ⟨ns, ed, few, q1⟩ G1 H1 v x1 r1 => ?_) q⟩, fun xc ρ Q Q' i q => ha.mo _ _ _ _ (fun d ⟨ns, ed, few, q⟩ => ⟨ns, ed, few, fun ms a b => i _ (q ms a b)⟩) q⟩
  subst ed
  obtain ⟨pp, vs, rfl, h1, r2⟩ := rvO_lst x1.gh r1.o
  refine ⟨pp, ns, rfl, SqL.of (by rw [h1, rps_ints r2]), few, fun s m hs hm => ?_⟩
  refine ⟨s, _, m, rfl, upd_same, by omega, fun ms l hp hk _ hl => ?_⟩
  have hl1 : H1 l = none := by
    by_cases z : l = s
    · rw [z, upd_same] at hl; cases hl
    · rw [upd_ne z] at hl; exact hl
  have x2 : Ext G1 H1 G1 (upd (upd H1 s (SetO X.w s (fun k => decide (k ∈ ns)) m)) l (.lst (ms.map .int))) := (Ext.newH x1.gh hs).trans (Ext.newH (Ext.newH x1.gh hs).gh hl)
  exact q1 ms hp (fun k => by rw [hk k]; simp) _ _ _ (x1.trans x2) ⟨l, _, rfl, x1.hh.free hl1, upd_same, ints_rps ms, x1.gh.free hl1⟩
/-- a unary minus -/
@[simp] def wNeg (w : Wx) : Wx := fun xc ρ Q => w xc ρ fun d => ∃ i, d = .int i ∧ Q (.int (-i))
theorem ej_neg (ha : EJ k E X a w) : EJ .e E X (.UnaryOp .USub a pos) (wNeg w) := by
  refine ⟨(pe_un un_neg ha.pe).imp fun σ H Q ⟨G0, H0, G, ρ, xc, R, T, q⟩ => ⟨G0, H0, G, ρ, xc, R, T, ha.mo _ _ _ _ (fun d ⟨i, ed, q1⟩ G1 H1 v x1 r1 => ?_) q⟩, fun xc ρ Q Q' i q => ha.mo _ _ _ _ (fun d ⟨j, ed, q⟩ => ⟨j, ed, i _ q⟩) q⟩
  subst ed
  exact ⟨i, rvO_int r1.o, q1 G1 H1 _ x1 (.int _)⟩

/-! ### two comparisons in a chain -/
@[simp] def wCh (op op' : Op2) (wa wb wc : Wx) : Wx := fun xc ρ Q => wa xc ρ fun x => wb xc ρ fun y => op x y fun z => ∃ t, z = .bl t ∧ if t = true then wc xc ρ fun z' => op' y z' Q else Q (.bl false)
theorem ch_go {op op' : Op2} {r r' : R2} {kc : Kd} (ha : EJ ka E X a wa) (hb : EJ kb E X b wb) (hc : EJ kc E X c wc) (B : Brg2 X.K .e op r) (B' : Brg2 X.K .e op' r')
    {σ : L2.St} {H G0 H0 G : Hp} {ρ : Evn} {xc : XC} {Qd : D → Prop} {Q : VK} (R : Rel X.K G0 H0 G ρ σ H) (T : TieX X.K G0 H0 E xc) (q : wCh op op' wa wb wc xc ρ Qd) (fin : ∀ d G' H' v, Qd d → Ext G H G' H' → Rp X.K G' d v → Q v H') :
    tChain r r' (liftW X.K E ka wa) (liftW X.K E kb wb) (liftW X.K E kc wc) σ H Q := by
  refine ⟨G0, H0, G, ρ, xc, R, T, ha.mo _ _ _ _ (fun x q1 G1 H1 v1 x1 r1 => ?_) q⟩
  refine ⟨G0, H0, G1, ρ, xc, R.ext x1, T, hb.mo _ _ _ _ (fun y q2 G2 H2 v2 x2 r2 => ?_) q1⟩
  refine B.go x y G2 H2 v1 v2 _ _ x2.gh (r1.o.ext x2) r2.o q2 fun z q3 G3 H3 v3 x3 r3 => ?_
  obtain ⟨t, rfl, q3⟩ := q3
  refine ⟨t, rvO_bl (H := H3) (.inl r3), ?_⟩
  have x13 := x1.trans (x2.trans x3)
  cases t with
  | true =>
    rw [if_pos rfl] at q3 ⊢
    refine ⟨G0, H0, G3, ρ, xc, R.ext x13, T, hc.mo _ _ _ _ (fun z' q4 G4 H4 v4 x4 r4 => ?_) q3⟩
    exact B'.go y z' G4 H4 v2 v4 _ _ x4.gh (r2.o.ext (x3.trans x4)) r4.o q4 fun d q5 G5 H5 v5 x5 r5 => fin d G5 H5 v5 q5 (x13.trans (x4.trans x5)) r5
  | false =>
    rw [if_neg Bool.false_ne_true] at q3 ⊢
    exact fin _ G3 H3 _ q3 x13 (.bl _)
theorem ch_mo {op op' : Op2} {kc : Kd} (ha : EJ ka E X a wa) (hb : EJ kb E X b wb) (hc : EJ kc E X c wc) (m : Mo2 op) (m' : Mo2 op') {xc : XC} {ρ : Evn} {Q Q' : D → Prop} (i : ∀ d, Q d → Q' d) (q : wCh op op' wa wb wc xc ρ Q) : wCh op op' wa wb wc xc ρ Q' :=
  ha.mo _ _ _ _ (fun x q => hb.mo _ _ _ _ (fun y q => m _ _ _ _ (fun z ⟨t, e, q⟩ => ⟨t, e, by
    cases t with
    | true => rw [if_pos rfl] at q ⊢; exact hc.mo _ _ _ _ (fun z' q => m' _ _ _ _ i q) q
    | false => rw [if_neg Bool.false_ne_true] at q ⊢; exact i _ q⟩) q) q) q
theorem ej_ch {op op' : Op2} {r r' : R2} {kc : Kd} (ha : EJ ka E X a wa) (hb : EJ kb E X b wb) (hc : EJ kc E X c wc) (h : PE X e (tChain r r' (liftW X.K E ka wa) (liftW X.K E kb wb) (liftW X.K E kc wc))) (B : Brg2 X.K .e op r) (B' : Brg2 X.K .e op' r') :
    EJ .e E X e (wCh op op' wa wb wc) :=
  ⟨h.imp fun σ H Q ⟨G0, H0, G, ρ, xc, R, T, q⟩ => ch_go ha hb hc B B' R T q fun d G' H' v q x r => q G' H' v x r, fun xc ρ Q Q' i q => ch_mo ha hb hc B.mo B'.mo i q⟩
theorem tj_ch {op op' : Op2} {r r' : R2} {kc : Kd} (ha : EJ ka E X a wa) (hb : EJ kb E X b wb) (hc : EJ kc E X c wc) (h : PT X e (tTest (tChain r r' (liftW X.K E ka wa) (liftW X.K E kb wb) (liftW X.K E kc wc)))) (B : Brg2 X.K .e op r) (B' : Brg2 X.K .e op' r') :
    TJ E X e (wB (wCh op op' wa wb wc)) :=
  ⟨h.imp fun σ H Q ⟨G0, H0, G, ρ, xc, R, T, q⟩ => ch_go ha hb hc B B' R T q fun d G' H' v q x r => by
    obtain ⟨t, rfl, q⟩ := q
    exact ⟨t, rvO_bl (H := H') (.inl r), q G' H' x⟩, fun xc ρ Q Q' i q => ch_mo ha hb hc B.mo B'.mo (fun d ⟨b, e, q⟩ => ⟨b, e, i b q⟩) q⟩

/-! ### truth of a value -/
def D.tru : D → Option Bool
  | .non => some false | .bl b => some b | .int i => some (i != 0)
  | .lst xs => some (!xs.isEmpty) | .fls xs => some (!xs.isEmpty) | .tup xs => some (!xs.isEmpty) | .xtp xs => some (!xs.isEmpty) | .dK kvs => some (!kvs.isEmpty)
  | _ => none
@[simp] def wTru (w : Wx) : Wt := fun xc ρ Q => w xc ρ fun d => ∃ t, d.tru = some t ∧ Q t
theorem emp_len {α β : Type} {l : List α} {m : List β} (h : l.length = m.length) : l.isEmpty = m.isEmpty := by
  cases l <;> cases m <;> first | rfl | simp at h
theorem Rks.length {G : Hp} : ∀ {ds : List (Key × D)} {vs : List (Key × V)}, Rks K G ds vs → ds.length = vs.length
  | _, _, .nil => rfl
  | _, _, .cons _ r => congrArg (· + 1) (Rks.length r)
theorem tru_of {G H : Hp} {d : D} {v : V} {t : Bool} (g : Same G H) (r : RvO K G H d v) (h : d.tru = some t) : TruV K v H t := by
  cases d with
  | non => rw [rvO_non r]; exact (Option.some.inj h).symm
  | bl b => rw [rvO_bl r]; exact (Option.some.inj h).symm
  | int i => rw [rvO_int r]; exact (Option.some.inj h).symm
  | lst xs =>
    obtain ⟨p, vs, rfl, h1, r1⟩ := rvO_lst g r
    exact .inl ⟨vs, SqL.of h1, by rw [← Option.some.inj h, emp_len r1.length]⟩
  | fls xs =>
    obtain ⟨p, vs, rfl, h1, r1⟩ := rvO_fls g r
    exact .inl ⟨vs, h1, by rw [← Option.some.inj h, emp_len r1.length]⟩
  | tup xs =>
    obtain ⟨p, vs, rfl, h1, r1⟩ := rvO_tup g r
    exact .inr (.inl ⟨vs, h1, by rw [← Option.some.inj h, emp_len r1.length]⟩)
  | xtp xs =>
    obtain ⟨p, vs, o, rfl, h1, _, _, r1⟩ := rvO_xtp g r
    exact .inr (.inl ⟨vs, .inl (.inr ⟨_, h1⟩), by rw [← Option.some.inj h, emp_len r1.length]⟩)
  | dK kvs =>
    rcases r with r | ⟨p, o, rfl, e2, t⟩
    · cases r with | dK h1 r1 => exact .inr (.inr ⟨_, g _ _ h1, by rw [← Option.some.inj h, emp_len r1.length]⟩)
    · cases o <;> first | exact t.elim | skip
      exact .inr (.inr ⟨_, e2, by rw [← Option.some.inj h, emp_len (Rks.length t)]⟩)
  | str _ => cases h
  | obj _ _ => cases h
  | dT _ => cases h
theorem tj_tru (ha : EJ k E X a w) (he : ∀ whole, isTrue a X.env whole = (do let v ← whole; standAt a.pos; holding [v] (truthy v)) := by intro _; rfl) : TJ E X a (wTru w) := by
  refine ⟨(pt_truth ha.pe he).imp fun σ H Q ⟨G0, H0, G, ρ, xc, R, T, q⟩ => ⟨G0, H0, G, ρ, xc, R, T, ha.mo _ _ _ _ (fun d ⟨t, et, q1⟩ G1 H1 v x1 r1 => ?_) q⟩, fun xc ρ Q Q' i q => ha.mo _ _ _ _ (fun d ⟨t, et, q⟩ => ⟨t, et, i _ q⟩) q⟩
  exact ⟨t, tru_of x1.gh r1.o et, q1 G1 H1 x1⟩

/-! ### isinstance of a built-in class -/
def D.ty : D → Option String
  | .non => some "NoneType" | .bl _ => some "bool" | .int _ => some "int" | .str _ => some "str"
  | .lst _ => some "list" | .fls _ => some "list" | .tup _ => some "tuple" | .xtp _ => some "tuple" | .dK _ => some "dict" | .dT _ => some "dict" | .obj _ _ => none
theorem ty_of {G H : Hp} {d : D} {v : V} {t : String} (g : Same G H) (r : RvO K G H d v) (h : d.ty = some t) : TyX K H v (.type t) := by
  cases d with
  | non => rw [rvO_non r]; cases h; exact .base .non
  | bl b => rw [rvO_bl r]; cases h; exact .base (.bl _)
  | int i => rw [rvO_int r]; cases h; exact .base (.int _)
  | str i => rw [rvO_str r]; cases h; exact .base (.str _)
  | lst xs => obtain ⟨p, vs, rfl, h1, r1⟩ := rvO_lst g r; cases h; exact .base (.lst h1)
  | fls xs =>
    obtain ⟨p, vs, rfl, h1, r1⟩ := rvO_fls g r
    cases h
    rcases h1 with (h1 | ⟨o, h1⟩) | ⟨o, its, n, hk, hc, _⟩
    · exact .base (.lst h1)
    · exact .base (.frz h1)
    · exact .kList hk hc
  | tup xs =>
    obtain ⟨p, vs, rfl, h1, r1⟩ := rvO_tup g r
    cases h
    rcases h1 with (h1 | ⟨o, h1⟩) | ⟨o, its, n, hk, hc, _⟩
    · exact .base (.tup h1)
    · exact .fTuple h1
    · exact .kTuple hk hc
  | xtp xs =>
    obtain ⟨p, vs, o, rfl, h1, _, _, r1⟩ := rvO_xtp g r
    cases h
    exact .fTuple h1
  | dK kvs =>
    cases h
    rcases r with r | ⟨p, o, rfl, e2, t⟩
    · cases r with | dK h1 r1 => exact .base (.dK (g _ _ h1))
    · cases o <;> first | exact t.elim | exact .base (.dK e2)
  | dT kvs =>
    cases h
    rcases r with r | ⟨p, o, rfl, e2, t⟩
    · cases r with | dT h1 r1 => exact .base (.dT (g _ _ h1))
    · cases o <;> first | exact t.elim | exact .base (.dT e2)
  | obj _ _ => cases h
def wIsi (n : String) (w : Wx) : Wx := fun xc ρ Q => w xc ρ fun d => ∃ t b, d.ty = some t ∧ kitB t n = some b ∧ Q (.bl b)
theorem ej_isi {n : String} {x : Str} {p2 : Pos} (ha : EJ k E X a w) (hg : Gl X "isinstance") (hm : X.mg "isinstance" = none) (hg2 : Gl X x) (hm2 : X.mg x = none) (hv : bootBuiltins x = some (.type n)) (hn : x ≠ "__name__" := by decide) (hd : (x == ("__debug__" : Str)) = false := by decide)
    (hst : starEach [a, .Name x p2] X.env = (false, eval a X.env) :: starEach [.Name x p2] X.env := by rfl) (hst2 : starEach [(.Name x p2)] X.env = (false, eval (.Name x p2) X.env) :: starEach [] X.env := by rfl) (hpl : (backTo pos (starEach [(.Name x p2)] X.env)).any (·.1) = false := by rfl) :
    EJ .e E X (.Call (.Name "isinstance" p) [a, .Name x p2] [] pos) (wIsi n w) := by
  have h := pe_callB (p := p) (pos := pos) call_isi hg hm (by decide +kernel) (pa_cons ha.pe (pa_cons (pe_bltn (v := .ty n) (pos := p2) hg2 hm2 hv rfl hn hd) pa_nil hst2) hst) (by decide) (by decide) hst hpl
  refine ⟨h.imp fun σ H Q ⟨G0, H0, G, ρ, xc, R, T, q⟩ => ⟨G0, H0, G, ρ, xc, R, T, ha.mo _ _ _ _ (fun d ⟨t, bb, et, ek, q1⟩ G1 H1 v x1 r1 => ?_) q⟩, fun xc ρ Q Q' i q => ha.mo _ _ _ _ (fun d ⟨t, bb, et, ek, q⟩ => ⟨t, bb, et, ek, i _ q⟩) q⟩
  exact ⟨v, .ty n, .type t, .type n, bb, rfl, .ty n, ty_of x1.gh r1.o et, kit_ty ek, q1 G1 H1 _ x1 (.bl _)⟩
end
end Tw

/-! Tw, part E: calls of defs, targets, walks, statements. -/
namespace Tw
open PySem PySem.Spec L2 PyProof.Rows
theorem TieX.later {K : PySem.W.Frag} {G0 H0 G H : Hp} {E : XK} {xc : XC} (T : TieX K G0 H0 E xc) (x : Ext G0 H0 G H) : TieX K G H E xc := fun C fs G' H' dx x2 h q => by
  refine T C fs G' H' dx (x.trans x2) ?_ q
  cases dx with
  | none => exact h
  | some p => exact ⟨x.hh.free h.1, h.2⟩
theorem Rel.ex {K : PySem.W.Frag} {G0 H0 G H : Hp} {ρ : Evn} {σ : L2.St} (R : Rel K G0 H0 G ρ σ H) : Ext G0 H0 G H := ⟨R.g0, R.h0, R.gh, R.gn⟩
/-- what a def hands back: true: a new object, the caller's own -/
def RvR (K : PySem.W.Frag) (fr : Bool) (H G' H' : Hp) (d : D) (v : V) : Prop := if fr = true then RvF K H G' H' d v else Rp K G' d v
abbrev Wf := XC → List D → (Bool → D → Prop) → Prop
def spOf (K : PySem.W.Frag) (n : Nat) (wf : Wf) : Sp := fun vs H Q E => vs.length = n ∧ ∃ G ds xc, Same G H ∧ Rps K G ds vs ∧ TieX K G H E xc ∧ wf xc ds fun fr d => ∀ G' H' v, Ext G H G' H' → RvR K fr H G' H' d v → Q v H'
def MoF (wf : Wf) : Prop := ∀ xc ds (Q Q' : Bool → D → Prop), (∀ fr d, Q fr d → Q' fr d) → wf xc ds Q → wf xc ds Q'
section
variable {X : Cx} {K : PySem.W.Frag} {E : XK} {e a b c o : Expr} {es : List Expr} {w wa wb wc : Wx} {k ka kb : Kd} {pos p : Pos} {u : Wa}
@[simp] def wCall (wf : Wf) (dd : List D) (u : Wa) : Wx := fun xc ρ Q => u xc ρ fun ds => wf xc (ds ++ dd) fun _ d => Q d
def wCallF (wf : Wf) (dd : List D) (u : Wa) : Wx := fun xc ρ Q => u xc ρ fun ds => wf xc (ds ++ dd) fun fr d => fr = true ∧ Q d
/-- a call whose reading is that of its arguments, then the promise -/
theorem ej_call {wf : Wf} {n : Nat} {dd : List D} {dvs : List V} (m : MoF wf) (hd : ∀ G, Rps X.K G dd dvs) (h : AJ true E X es u) (hpe : PE X e (tCall (spOf X.K n wf) dvs E (liftA X.K E true u))) (hn : ∀ ds xc Q, wf xc ds Q → ds.length = n) : EJ .e E X e (wCall wf dd u) := by
  refine ⟨hpe.imp fun σ H Q ⟨G0, H0, G, ρ, xc, R, T, q⟩ => ⟨G0, H0, G, ρ, xc, R, T, h.mo _ _ _ _ (fun ds q1 G1 H1 vs x1 r1 => ?_) q⟩, fun xc ρ Q Q' i q => h.mo _ _ _ _ (fun ds q => m _ _ _ _ (fun fr d q => i _ q) q) q⟩
  rw [if_pos rfl] at r1
  have r2 : Rps X.K G1 (ds ++ dd) (vs ++ dvs) := r1.append (hd G1)
  refine ⟨by rw [← r2.length]; exact hn _ _ _ q1, G1, ds ++ dd, xc, x1.gh, r2, T.later (R.ex.trans x1), m _ _ _ _ (fun fr d q2 G' H' v x2 r3 => ?_) q1⟩
  cases fr with
  | false => exact q2 G' H' v (x1.trans x2) r3
  | true =>
    obtain ⟨G3, x3, r4⟩ := RvF.frz x2 r3
    exact q2 G3 H' v (x1.trans x3) r4
theorem ej_callF {wf : Wf} {n : Nat} {dd : List D} {dvs : List V} (m : MoF wf) (hd : ∀ G, Rps X.K G dd dvs) (h : AJ true E X es u) (hpe : PE X e (tCall (spOf X.K n wf) dvs E (liftA X.K E true u))) (hn : ∀ ds xc Q, wf xc ds Q → ds.length = n) : EJ .f E X e (wCallF wf dd u) := by
  refine ⟨hpe.imp fun σ H Q ⟨G0, H0, G, ρ, xc, R, T, q⟩ => ⟨G0, H0, G, ρ, xc, R, T, h.mo _ _ _ _ (fun ds q1 G1 H1 vs x1 r1 => ?_) q⟩, fun xc ρ Q Q' i q => h.mo _ _ _ _ (fun ds q => m _ _ _ _ (fun fr d q => ⟨q.1, i _ q.2⟩) q) q⟩
  rw [if_pos rfl] at r1
  have r2 : Rps X.K G1 (ds ++ dd) (vs ++ dvs) := r1.append (hd G1)
  refine ⟨by rw [← r2.length]; exact hn _ _ _ q1, G1, ds ++ dd, xc, x1.gh, r2, T.later (R.ex.trans x1), m _ _ _ _ (fun fr d q2 G' H' v x2 r3 => ?_) q1⟩
  obtain ⟨rfl, q2⟩ := q2
  exact q2 G' H' v (x1.trans x2) (rv_later (k := .f) x1.hh r3)

/-! ### targets -/
/-- a target: what it takes, the slots that it stores -/
abbrev Wg := D → Evn → (Evn → Prop) → Prop
theorem wipe_at (σ : L2.St) : ∀ (vs : List Nat) (j : Nat), (L2.wipe σ vs)[j]? = if j ∈ vs then (if j < σ.length then some none else none) else σ[j]?
  | [], j => by simp [L2.wipe]
  | v :: vs, j => by
    unfold L2.wipe
    by_cases h : v = j
    · subst h
      by_cases hl : v < σ.length
      · rw [List.getElem?_set_self (by rw [wipe_length]; exact hl)]; simp [hl]
      · rw [List.getElem?_eq_none (by rw [List.length_set, wipe_length]; omega)]; simp [hl]
    · rw [List.getElem?_set_ne h, wipe_at σ vs j]
      have : (j ∈ v :: vs) ↔ j ∈ vs := by simp [Ne.symm h]
      simp only [this]
theorem wipe_set (σ : L2.St) (vs : List Nat) (t : Nat) (x : Option V) (h : t ∈ vs) : L2.wipe (σ.set t x) vs = L2.wipe σ vs := by
  apply List.ext_getElem?
  intro j
  rw [wipe_at, wipe_at]
  by_cases hj : j ∈ vs
  · simp [hj]
  · simp only [hj, if_false]
    rw [List.getElem?_set_ne (fun z => hj (by rw [← z]; exact h))]
theorem wipe_wipe (σ : L2.St) (vs : List Nat) : L2.wipe (L2.wipe σ vs) vs = L2.wipe σ vs := by
  apply List.ext_getElem?
  intro j
  rw [wipe_at, wipe_at, wipe_length]
  by_cases hj : j ∈ vs <;> simp [hj]
def liftG (K : PySem.W.Frag) (tg : List Nat) (g : Wg) : TG := fun v σ H Q => ∃ G0 H0 G ρ d, Rel K G0 H0 G ρ σ H ∧ Rp K G d v ∧ g d ρ fun ρ' => ∀ σ', Rel K G0 H0 G ρ' σ' H → (∀ vs, (∀ t ∈ tg, t ∈ vs) → L2.wipe σ' vs = L2.wipe σ vs) → Q σ' H
structure GJ (X : Cx) (e : Expr) (tg : List Nat) (g : Wg) : Prop where
  pg : PG X e (liftG X.K tg g)
  mo : ∀ d ρ (Q Q' : Evn → Prop), (∀ r, Q r → Q' r) → g d ρ Q → g d ρ Q'
abbrev Wgs := List D → Evn → (Evn → Prop) → Prop
def liftGs (K : PySem.W.Frag) (tg : List Nat) (g : Wgs) : TGs := fun v σ H Q => ∃ G0 H0 G ρ d, Rel K G0 H0 G ρ σ H ∧ Rps K G d v ∧ g d ρ fun ρ' => ∀ σ', Rel K G0 H0 G ρ' σ' H → (∀ vs, (∀ t ∈ tg, t ∈ vs) → L2.wipe σ' vs = L2.wipe σ vs) → Q σ' H
structure GsJ (X : Cx) (e : List Expr) (tg : List Nat) (g : Wgs) : Prop where
  pg : PGs X e (liftGs X.K tg g)
  mo : ∀ d ρ (Q Q' : Evn → Prop), (∀ r, Q r → Q' r) → g d ρ Q → g d ρ Q'
theorem _root_.L2.PG.imp {X : Cx} {e : Expr} {t t' : TG} (h : PG X e t) (i : ∀ v σ H Q, t' v σ H Q → t v σ H Q) : PG X e t' := ⟨fun pins s σ H v u Q I r q => h.run pins s σ H v u Q I r (i _ _ _ _ q)⟩
theorem _root_.L2.PGs.imp {X : Cx} {e : List Expr} {t t' : TGs} (h : PGs X e t) (i : ∀ v σ H Q, t' v σ H Q → t v σ H Q) : PGs X e t' := ⟨fun pins s σ H v u Q I r q => h.run pins s σ H v u Q I r (i _ _ _ _ q)⟩
@[simp] def gSet (i : Nat) : Wg := fun d ρ Q => Q (ρ.set i (.da d))
theorem gj_name {i : Nat} (h : PG X e (gName i)) : GJ X e [i] (gSet i) :=
  ⟨h.imp fun v σ H Q ⟨G0, H0, G, ρ, d, R, r, q⟩ => q _ (R.set r) fun vs hv => wipe_set σ vs i _ (hv i (by simp)), fun d ρ Q Q' i q => i _ q⟩
def gsNil : Wgs := fun ds ρ Q => ds = [] ∧ Q ρ
def gsCons (g : Wg) (gs : Wgs) : Wgs := fun ds ρ Q => ∃ d r, ds = d :: r ∧ g d ρ fun ρ' => gs r ρ' Q
theorem gsj_nil : GsJ X [] [] gsNil := by
  refine ⟨pgs_nil.imp fun v σ H Q ⟨G0, H0, G, ρ, d, R, r, ed, q⟩ => ?_, fun d ρ Q Q' i q => ⟨q.1, i _ q.2⟩⟩
  subst ed
  cases r
  exact ⟨rfl, q σ R fun vs _ => rfl⟩
theorem gsj_cons {tg tgs : List Nat} {g : Wg} {gs : Wgs} (h1 : GJ X e tg g) (h2 : GsJ X es tgs gs) (hs : (assignEach (e :: es) X.env).map (·.2) = assign e X.env :: (assignEach es X.env).map (·.2) := by rfl) : GsJ X (e :: es) (tg ++ tgs) (gsCons g gs) := by
  refine ⟨(pgs_cons h1.pg h2.pg hs).imp fun v σ H Q ⟨G0, H0, G, ρ, ds, R, r, d, ds', ed, q⟩ => ?_, fun d ρ Q Q' i ⟨d', r, e, q⟩ => ⟨d', r, e, h1.mo _ _ _ _ (fun ρ' q => h2.mo _ _ _ _ i q) q⟩⟩
  subst ed
  cases r with
  | cons r rr =>
    refine ⟨_, _, rfl, G0, H0, G, ρ, d, R, r, h1.mo _ _ _ _ (fun ρ' q1 σ1 R1 w1 => ?_) q⟩
    refine ⟨G0, H0, G, ρ', ds', R1, rr, h2.mo _ _ _ _ (fun ρ2 q2 σ2 R2 w2 => ?_) q1⟩
    exact q2 σ2 R2 fun vs hv => (w2 vs fun t ht => hv t (List.mem_append_right _ ht)).trans (w1 vs fun t ht => hv t (List.mem_append_left _ ht))
def gTupD (n : Nat) (gs : Wgs) : Wg := fun d ρ Q => ∃ ds, (d = .tup ds) ∧ ds.length = n ∧ gs ds ρ Q
theorem gj_tup {kk : Nat} {tgs : List Nat} {gs : Wgs} {n : Nat} (hc : X.calm = true) (h : GsJ X es tgs gs) (hn : (assignEach es X.env).length = n := by rfl) (hst : (assignEach es X.env).findIdx? (·.1) = none := by rfl) : GJ X (.Tuple es kk pos) tgs (gTupD n gs) := by
  refine ⟨(pg_tup hc h.pg hn hst).imp fun v σ H Q ⟨G0, H0, G, ρ, d, R, r, ds, ed, hl, q⟩ => ?_, fun d ρ Q Q' i ⟨ds, e, l, q⟩ => ⟨ds, e, l, h.mo _ _ _ _ i q⟩⟩
  subst ed
  cases r with
  | tup hq r1 => exact ⟨_, _, rfl, sqT_mono R.gh hq, by rw [← r1.length]; exact hl, G0, H0, G, ρ, ds, R, r1, q⟩

/-! ### what is walked -/
structure Wk (K : PySem.W.Frag) (J : It) (G : Hp) (items : List D) : Prop where
  stop : ∀ G' H', Same G G' → Same G' H' → J.stop items.length H'
  go : ∀ i G' H', i < items.length → Same G G' → Same G' H' → J.go i H'
  yld : ∀ i G' H' x H2, i < items.length → Same G G' → Same G' H' → J.yld i H' x H2 → ∃ G2 d, Ext G' H' G2 H2 ∧ items[i]? = some d ∧ Rp K G2 d x
def liftI (K : PySem.W.Frag) (E : XK) (w : Wa) : TI := fun σ H R => ∃ G0 H0 G ρ xc, Rel K G0 H0 G ρ σ H ∧ TieX K G0 H0 E xc ∧ w xc ρ fun items => ∀ G' H' J, Ext G H G' H' → Wk K J G' items → R J H'
structure IJ (E : XK) (X : Cx) (tg iter : Expr) (w : Wa) : Prop where
  pi : PI X tg iter (liftI X.K E w)
  mo : ∀ xc ρ (Q Q' : List D → Prop), (∀ d, Q d → Q' d) → w xc ρ Q → w xc ρ Q'
theorem _root_.L2.PI.imp {X : Cx} {tg e : Expr} {t t' : TI} (h : PI X tg e t) (i : ∀ σ H Q, t' σ H Q → t σ H Q) : PI X tg e t' := ⟨fun pins s σ H Q I q => h.run pins s σ H Q I (i _ _ _ q)⟩
theorem wk_list {a : Addr} {vs : List V} {G : Hp} {ds : List D} (h : SqL K G a vs) (r : Rps K G ds vs) : Wk K (Itl K a) G ds where
  stop := fun G' H' g1 g2 => ⟨vs, (g1.trans g2).seq h, by rw [r.length]; exact Nat.le_refl _⟩
  go := fun i G' H' hi g1 g2 => ⟨vs, vs[i]'(by rw [← r.length]; exact hi), (g1.trans g2).seq h, by simp⟩
  yld := fun i G' H' x H2 hi g1 g2 ⟨e, y⟩ => by
    subst e
    obtain ⟨d, hd, rd⟩ := r.get' (y vs ((g1.trans g2).seq h))
    exact ⟨G', d, .refl g2, hd, rd.mono g1⟩
theorem wk_tup {a : Addr} {vs : List V} {G : Hp} {ds : List D} (h : SqT K G a vs) (r : Rps K G ds vs) : Wk K (Itt K a) G ds where
  stop := fun G' H' g1 g2 => ⟨vs, sqT_mono (g1.trans g2) h, by rw [r.length]; exact Nat.le_refl _⟩
  go := fun i G' H' hi g1 g2 => ⟨vs, vs[i]'(by rw [← r.length]; exact hi), sqT_mono (g1.trans g2) h, by simp⟩
  yld := fun i G' H' x H2 hi g1 g2 ⟨e, y⟩ => by
    subst e
    obtain ⟨d, hd, rd⟩ := r.get' (y vs (sqT_mono (g1.trans g2) h))
    exact ⟨G', d, .refl g2, hd, rd.mono g1⟩
def rngD (lo : Int) (n : Nat) : List D := (List.range n).map fun i => .int (lo + (i : Nat))
theorem wk_rng {G : Hp} (lo : Int) (n : Nat) : Wk K (Itr lo n) G (rngD lo n) where
  stop := fun G' H' _ _ => by show n ≤ (rngD lo n).length; simp [rngD]
  go := fun i G' H' hi _ _ => by show i < n; simpa [rngD] using hi
  yld := fun i G' H' x H2 hi g1 g2 ⟨e, y⟩ => by
    subst e y
    refine ⟨G', .int (lo + (i : Nat)), .refl g2, ?_, .int _⟩
    have : i < n := by simpa [rngD] using hi
    simp [rngD, this]
@[simp] def wiR1 (w : Wx) : Wa := fun xc ρ Q => w xc ρ fun d => ∃ n : Int, d = .int n ∧ (-(2 ^ 62) ≤ n ∧ n < 2 ^ 62) ∧ Q (rngD 0 n.toNat)
@[simp] def wiR2 (wa wb : Wx) : Wa := fun xc ρ Q => wa xc ρ fun x => wb xc ρ fun y => ∃ i j : Int, x = .int i ∧ y = .int j ∧ (-(2 ^ 62) ≤ i ∧ i < 2 ^ 62 ∧ -(2 ^ 62) ≤ j ∧ j < 2 ^ 62) ∧ Q (rngD i (j - i).toNat)
theorem ij_rng1 {tg : Expr} (ha : EJ ka E X a wa) (hg : Gl X "range") (hm : X.mg "range" = none) (hst : starEach [a] X.env = (false, eval a X.env) :: starEach [] X.env := by rfl) : IJ E X tg (.Call (.Name "range" p) [a] [] pos) (wiR1 wa) := by
  refine ⟨(pi_range1 hg hm (pa_cons ha.pe pa_nil hst) hst).imp fun σ H R' ⟨G0, H0, G, ρ, xc, R, T, q⟩ => ⟨G0, H0, G, ρ, xc, R, T, ha.mo _ _ _ _ (fun d ⟨n, ed, hn, q1⟩ G1 H1 v x1 r1 => ?_) q⟩, fun xc ρ Q Q' i q => ha.mo _ _ _ _ (fun d ⟨n, ed, hn, q⟩ => ⟨n, ed, hn, i _ q⟩) q⟩
  subst ed
  rw [rvO_int r1.o]
  exact ⟨n, rfl, hn.1, hn.2, q1 G1 H1 _ x1 (wk_rng 0 n.toNat)⟩
theorem ij_rng2 {tg : Expr} (ha : EJ ka E X a wa) (hb : EJ kb E X b wb) (hg : Gl X "range") (hm : X.mg "range" = none) (hst : starEach [a, b] X.env = [(false, eval a X.env), (false, eval b X.env)] := by rfl) (hst2 : starEach [b] X.env = [(false, eval b X.env)] := by rfl) :
    IJ E X tg (.Call (.Name "range" p) [a, b] [] pos) (wiR2 wa wb) := by
  refine ⟨(pi_range2 hg hm (pa_cons ha.pe (pa_cons hb.pe pa_nil hst2) (by rw [hst, hst2])) hst hst2).imp fun σ H R' ⟨G0, H0, G, ρ, xc, R, T, q⟩ => ⟨G0, H0, G, ρ, xc, R, T, ha.mo _ _ _ _ (fun d q1 G1 H1 v x1 r1 => ?_) q⟩, fun xc ρ Q Q' i q => ha.mo _ _ _ _ (fun x q => hb.mo _ _ _ _ (fun y ⟨m, n, e1, e2, hn, q⟩ => ⟨m, n, e1, e2, hn, i _ q⟩) q) q⟩
  refine ⟨G0, H0, G1, ρ, xc, R.ext x1, T, hb.mo _ _ _ _ (fun y ⟨m, n, e1, e2, hn, q2⟩ G2 H2 v2 x2 r2 => ?_) q1⟩
  subst e1 e2
  rw [rvO_int r1.o, rvO_int r2.o]
  exact ⟨m, n, rfl, hn, q2 G2 H2 _ (x1.trans x2) (wk_rng m (n - m).toNat)⟩
end
end Tw

/-! Tw, part F: statements, comprehensions, the body of a def. -/
namespace Tw
open PySem PySem.Spec L2 PyProof.Rows

/-- what is wanted behind a statement, in data -/
structure Pd where
  nx : Evn → Prop
  rt : Bool → D → Prop
  bk : Evn → Prop := fun _ => False
  ct : Evn → Prop := fun _ => False
  xc : XC
structure Ties (K : PySem.W.Frag) (G0 H0 G : Hp) (E : XK) (D' : Ends) (Z : Pd) : Prop where
  nx : ∀ ρ σ G' H', Rel K G0 H0 G' ρ σ H' → Same G G' → Z.nx ρ → D'.nx σ H'
  rt : ∀ fr d G' H' v, Ext G0 H0 G' H' → RvR K fr H0 G' H' d v → Z.rt fr d → D'.rt v H'
  bk : ∀ ρ σ G' H', Rel K G0 H0 G' ρ σ H' → Same G G' → Z.bk ρ → D'.bk σ H'
  ct : ∀ ρ σ G' H', Rel K G0 H0 G' ρ σ H' → Same G G' → Z.ct ρ → D'.ct σ H'
  xc : TieX K G0 H0 E Z.xc
theorem Ties.on {K : PySem.W.Frag} {G0 H0 G G1 : Hp} {E : XK} {D' : Ends} {Z : Pd} (T : Ties K G0 H0 G E D' Z) (g : Same G G1) : Ties K G0 H0 G1 E D' Z :=
  ⟨fun ρ σ G' H' R s q => T.nx ρ σ G' H' R (g.trans s) q, T.rt, fun ρ σ G' H' R s q => T.bk ρ σ G' H' R (g.trans s) q, fun ρ σ G' H' R s q => T.ct ρ σ G' H' R (g.trans s) q, T.xc⟩
abbrev Ws := Pd → Evn → Prop
def liftS (K : PySem.W.Frag) (E : XK) (w : Ws) : TS := fun D' σ H => ∃ G0 H0 G ρ Z, Rel K G0 H0 G ρ σ H ∧ Ties K G0 H0 G E D' Z ∧ w Z ρ
structure SJ (E : XK) (X : Cx) (st : Stmt) (w : Ws) : Prop where
  ps : PS X st (liftS X.K E w)
structure BJ (E : XK) (X : Cx) (st : List Stmt) (w : Ws) : Prop where
  ps : PSs X st (liftS X.K E w)
section
variable {X : Cx} {K : PySem.W.Frag} {E : XK} {e a b c o : Expr} {es : List Expr} {w wa wb wc : Wx} {k ka kb : Kd} {pos p : Pos} {u : Wa} {st : Stmt} {rest body : List Stmt} {s s1 s2 : Ws}
@[simp] def sNil : Ws := fun Z ρ => Z.nx ρ
@[simp] def sSeq (s1 s2 : Ws) : Ws := fun Z ρ => s1 { Z with nx := s2 Z } ρ
theorem bj_nil : BJ E X [] sNil := ⟨pss_nil.imp fun D' σ H ⟨G0, H0, G, ρ, Z, R, T, q⟩ => T.nx ρ σ G H R (Same.refl _) q⟩
theorem bj_cons (h1 : SJ E X st s1) (h2 : BJ E X rest s2) : BJ E X (st :: rest) (sSeq s1 s2) :=
  ⟨(pss_cons h1.ps h2.ps).imp fun D' σ H ⟨G0, H0, G, ρ, Z, R, T, q⟩ => ⟨G0, H0, G, ρ, { Z with nx := s2 Z }, R,
    ⟨fun ρ' σ' G' H' R' g q' => ⟨G0, H0, G', ρ', Z, R', T.on g, q'⟩, T.rt, T.bk, T.ct, T.xc⟩, q⟩⟩
theorem bj_one (h1 : SJ E X st s1) : BJ E X [st] s1 := ⟨pss_one h1.ps⟩
theorem bj_never {sts : List Stmt} : BJ E X sts (fun _ _ => False) := ⟨pss_never.imp fun D' σ H ⟨G0, H0, G, ρ, Z, R, T, q⟩ => q⟩
/-- a statement that is not come to -/
theorem sj_never : SJ E X st (fun _ _ => False) := ⟨ps_never.imp fun D' σ H ⟨G0, H0, G, ρ, Z, R, T, q⟩ => q⟩
/-- an own object is never changed from now on -/
def sFrz (i : Nat) (s : Ws) : Ws := fun Z ρ => ∃ d, ρ[i]? = some (.ow d) ∧ s Z (ρ.set i (.da d))
theorem sj_frz {i : Nat} (h : SJ E X st s) : SJ E X st (sFrz i s) := ⟨h.ps.imp fun D' σ H ⟨G0, H0, G, ρ, Z, R, T, d, hi, q⟩ => by
  obtain ⟨G', g, R'⟩ := R.frz hi
  exact ⟨G0, H0, G', _, Z, R', T.on g, q⟩⟩
/-- x = e -/
@[simp] def sSet (i : Nat) (w : Wx) : Ws := fun Z ρ => w Z.xc ρ fun d => Z.nx (ρ.set i (.da d))
theorem sj_set {i : Nat} (he : EJ .e E X e w) (h : PS X st (tAsg (liftW X.K E .e w) (gName i))) : SJ E X st (sSet i w) :=
  ⟨h.imp fun D' σ H ⟨G0, H0, G, ρ, Z, R, T, q⟩ => ⟨G0, H0, G, ρ, Z.xc, R, T.xc, he.mo _ _ _ _ (fun d q1 G1 H1 v x1 r1 => T.nx _ _ _ _ ((R.ext x1).set r1) x1.gg q1) q⟩⟩
/-- x = e, a new object of one's own -/
@[simp] def sSetO (i : Nat) (w : Wx) : Ws := fun Z ρ => w Z.xc ρ fun d => Z.nx (ρ.set i (.ow d))
theorem sj_setO {i : Nat} (he : EJ .f E X e w) (h : PS X st (tAsg (liftW X.K E .f w) (gName i))) : SJ E X st (sSetO i w) :=
  ⟨h.imp fun D' σ H ⟨G0, H0, G, ρ, Z, R, T, q⟩ => ⟨G0, H0, G, ρ, Z.xc, R, T.xc, he.mo _ _ _ _ (fun d q1 G1 H1 v x1 r1 => by
    obtain ⟨p, o, rfl, h1, h2, t, g⟩ := r1
    refine T.nx _ _ _ _ ((R.ext x1).setO h2 t g (R.h0.free h1) fun j d' hj hs => ?_) x1.gg q1
    obtain ⟨p', o', e1, e2, _⟩ := R.sl j _ hj
    rw [hs] at e1
    cases e1
    rw [h1] at e2
    cases e2) q⟩⟩
/-- target = e -/
def sAsg (w : Wx) (g : Wg) : Ws := fun Z ρ => w Z.xc ρ fun d => g d ρ Z.nx
theorem sj_asg {tgs : List Nat} {g : Wg} {t : Expr} (he : EJ .e E X e w) (hg : GJ X t tgs g) (h : PS X st (tAsg (liftW X.K E .e w) (liftG X.K tgs g))) : SJ E X st (sAsg w g) :=
  ⟨h.imp fun D' σ H ⟨G0, H0, G, ρ, Z, R, T, q⟩ => ⟨G0, H0, G, ρ, Z.xc, R, T.xc, he.mo _ _ _ _ (fun d q1 G1 H1 v x1 r1 => ⟨G0, H0, G1, ρ, d, R.ext x1, r1, hg.mo _ _ _ _ (fun ρ' q2 σ' R' _ => T.nx _ _ _ _ R' x1.gg q2) q1⟩) q⟩⟩
/-- an expression alone -/
@[simp] def sExp (w : Wx) : Ws := fun Z ρ => w Z.xc ρ fun _ => Z.nx ρ
theorem sj_exp (he : EJ k E X e w) (h : PS X st (tDrop (liftW X.K E k w))) : SJ E X st (sExp w) :=
  ⟨h.imp fun D' σ H ⟨G0, H0, G, ρ, Z, R, T, q⟩ => ⟨G0, H0, G, ρ, Z.xc, R, T.xc, he.mo _ _ _ _ (fun d q1 G1 H1 v x1 r1 => T.nx _ _ _ _ (R.ext x1) x1.gg q1) q⟩⟩
/-- return e -/
@[simp] def sRet (w : Wx) : Ws := fun Z ρ => w Z.xc ρ fun d => Z.rt false d
theorem sj_ret (he : EJ .e E X e w) : SJ E X (.Return (some e) pos) (sRet w) :=
  ⟨(ps_ret he.pe).imp fun D' σ H ⟨G0, H0, G, ρ, Z, R, T, q⟩ => ⟨G0, H0, G, ρ, Z.xc, R, T.xc, he.mo _ _ _ _ (fun d q1 G1 H1 v x1 r1 => T.rt false d G1 H1 v (R.ex.trans x1) r1 q1) q⟩⟩
@[simp] def sRetF (w : Wx) : Ws := fun Z ρ => w Z.xc ρ fun d => Z.rt true d
theorem sj_retF (he : EJ .f E X e w) : SJ E X (.Return (some e) pos) (sRetF w) :=
  ⟨(ps_ret he.pe).imp fun D' σ H ⟨G0, H0, G, ρ, Z, R, T, q⟩ => ⟨G0, H0, G, ρ, Z.xc, R, T.xc, he.mo _ _ _ _ (fun d q1 G1 H1 v x1 r1 => T.rt true d G1 H1 v (R.ex.trans x1) (rv_later (k := .f) R.h0 r1) q1) q⟩⟩
/-- return x, an own object -/
def sRetO (i : Nat) : Ws := fun Z ρ => ∃ d, ρ[i]? = some (.ow d) ∧ Z.rt true d
theorem sj_retO {i : Nat} (h : PE X e (tVar i)) : SJ E X (.Return (some e) pos) (sRetO i) :=
  ⟨(ps_ret h).imp fun D' σ H ⟨G0, H0, G, ρ, Z, R, T, d, hi, q⟩ => by
    obtain ⟨p, o, e1, e2, t, g, z⟩ := R.sl i _ hi
    exact ⟨_, e1, T.rt true d G H _ R.ex ⟨p, o, rfl, z, e2, t, g⟩ q⟩⟩
/-- if -/
@[simp] def sIf (t : Wt) (s1 s2 : Ws) : Ws := fun Z ρ => t Z.xc ρ fun b => if b = true then s1 Z ρ else s2 Z ρ
theorem sj_if {tt : Wt} {b1 b2 : List Stmt} (hc : TJ E X c tt) (h1 : BJ E X b1 s1) (h2 : BJ E X b2 s2) : SJ E X (.If c b1 b2 pos) (sIf tt s1 s2) :=
  ⟨(ps_if hc.pt h1.ps h2.ps).imp fun D' σ H ⟨G0, H0, G, ρ, Z, R, T, q⟩ => ⟨G0, H0, G, ρ, Z.xc, R, T.xc, hc.mo _ _ _ _ (fun b q1 G1 H1 x1 => by
    cases b with
    | true => rw [if_pos rfl] at q1 ⊢; exact ⟨G0, H0, G1, ρ, Z, R.ext x1, T.on x1.gg, q1⟩
    | false => rw [if_neg Bool.false_ne_true] at q1 ⊢; exact ⟨G0, H0, G1, ρ, Z, R.ext x1, T.on x1.gg, q1⟩) q⟩⟩
/-- the turns of a for -/
def forW (g : Wg) (b : Ws) (Z : Pd) : List D → Evn → Prop
  | [], ρ => Z.nx ρ
  | x :: xs, ρ => g x ρ fun ρ' => b { Z with nx := forW g b Z xs, ct := forW g b Z xs, bk := Z.nx } ρ'
def sFor (wi : Wa) (g : Wg) (b : Ws) : Ws := fun Z ρ => wi Z.xc ρ fun items => forW g b Z items ρ
theorem sj_for {tg iter : Expr} {wi : Wa} {tgs : List Nat} {g : Wg} (hp : PassesOwn (model X.prog X.w) X.A X.env X.xe) (hc : X.calm = true) (hi : IJ E X tg iter wi) (hg : GJ X tg tgs g) (hb : BJ E X body s)
    (hs : ∀ x, foldedSetIterable iter X.env x = pure x := by intro _; rfl) : SJ E X (.For tg iter body [] pos) (sFor wi g s) := by
  refine ⟨(ps_for hp hc hi.pi hg.pg hb.ps hs).imp fun D' σ H ⟨G0, H0, G, ρ, Z, R, T, q⟩ => ⟨G0, H0, G, ρ, Z.xc, R, T.xc, hi.mo _ _ _ _ (fun items q1 G1 H1 J x1 wk => ?_) q⟩⟩
  refine ⟨fun i m σ H => m = items.length - i ∧ i ≤ items.length ∧ ∃ G2 ρ2, Same G1 G2 ∧ Rel X.K G0 H0 G2 ρ2 σ H ∧ forW g s Z (items.drop i) ρ2, ⟨_, rfl, Nat.zero_le _, G1, ρ, Same.refl _, R.ext x1, q1⟩, ?_⟩
  rintro i m σ2 H2 ⟨rfl, hi, G2, ρ2, s2, R2, q2⟩
  by_cases hlt : i < items.length
  · have ed : items.drop i = items[i] :: items.drop (i + 1) := List.drop_eq_getElem_cons hlt
    rw [ed] at q2
    refine .inr ⟨wk.go i G2 H2 hlt s2 R2.gh, fun σ' H' => ∃ G3 ρ3, Same G1 G3 ∧ Rel X.K G0 H0 G3 ρ3 σ' H' ∧ forW g s Z (items.drop (i + 1)) ρ3, fun σ' H' q3 => ⟨items.length - (i + 1), by omega, rfl, hlt, q3⟩, fun x H3 y => ?_⟩
    obtain ⟨G3, d, x3, hd, rd⟩ := wk.yld i G2 H2 x H3 hlt s2 R2.gh y
    rw [List.getElem?_eq_getElem hlt] at hd
    cases hd
    refine ⟨G0, H0, G3, ρ2, _, R2.ext x3, rd, hg.mo _ _ _ _ (fun ρ' q3 σ' R' _ => ?_) q2⟩
    have s3 : Same G1 G3 := s2.trans x3.gg
    refine ⟨G0, H0, G3, ρ', { Z with nx := forW g s Z (items.drop (i + 1)), ct := forW g s Z (items.drop (i + 1)), bk := Z.nx }, R', ⟨fun ρ4 σ4 G4 H4 R4 s4 q4 => ⟨G4, ρ4, s3.trans s4, R4, q4⟩, T.rt, fun ρ4 σ4 G4 H4 R4 s4 q4 => T.nx ρ4 σ4 G4 H4 R4 (x1.gg.trans (s3.trans s4)) q4, fun ρ4 σ4 G4 H4 R4 s4 q4 => ⟨G4, ρ4, s3.trans s4, R4, q4⟩, T.xc⟩, q3⟩
  · have e : i = items.length := by omega
    subst e
    rw [List.drop_length] at q2
    exact .inl ⟨wk.stop G2 H2 s2 R2.gh, T.nx ρ2 σ2 G2 H2 R2 (x1.gg.trans s2) q2⟩
end
end Tw

/-! Tw, part G: comprehensions, while, methods of lists, the body of a def. -/
namespace Tw
open PySem PySem.Spec L2 PyProof.Rows
def s00 : Shared := {}
@[simp] def wipeD (ρ : Evn) (vs : List Nat) : Evn := vs.foldr (fun v r => r.set v .no) ρ
abbrev xcNo : XC := fun _ _ => False
theorem tieNo {K : PySem.W.Frag} {G0 H0 : Hp} {E : XK} : TieX K G0 H0 E xcNo := fun _ _ _ _ _ _ _ q => q.elim
section
variable {X : Cx} {K : PySem.W.Frag} {E : XK} {e a b c o : Expr} {es : List Expr} {w wa wb wc : Wx} {k ka kb : Kd} {pos p : Pos} {u : Wa} {st : Stmt} {rest body : List Stmt} {s s1 s2 : Ws}
/-- the tests of a comprehension -/
structure TsJ (E : XK) (X : Cx) (es : List Expr) (w : Wt) : Prop where
  pt : PTs X es (liftT X.K E w)
  mo : ∀ xc ρ (Q Q' : Bool → Prop), (∀ d, Q d → Q' d) → w xc ρ Q → w xc ρ Q'
theorem _root_.L2.PTs.imp {X : Cx} {e : List Expr} {t t' : TT} (h : PTs X e t) (i : ∀ σ H Q, t' σ H Q → t σ H Q) : PTs X e t' := ⟨fun pins s σ H Q I q => h.run pins s σ H Q I (i _ _ _ q)⟩
def wtYes : Wt := fun _ _ Q => Q true
theorem tsj_nil : TsJ E X [] wtYes := ⟨pts_nil.imp fun σ H Q ⟨G0, H0, G, ρ, xc, R, T, q⟩ => q G H (.refl R.gh), fun _ _ _ _ i q => i _ q⟩
theorem tsj_one {tt : Wt} (h : TJ E X c tt) : TsJ E X [c] tt := ⟨pts_one h.pt, h.mo⟩
/-- the turns of a comprehension, acc what it has made -/
def lcW (g : Wg) (tt : Wt) (we : Wx) (ρ : Evn) (Q : List D → Prop) : List D → List D → Prop
  | [], acc => Q acc
  | x :: xs, acc => g x ρ fun ρ' => tt xcNo ρ' fun t => if t = true then we xcNo ρ' fun y => acc.length < sizeLine ∧ lcW g tt we ρ Q xs (acc ++ [y]) else lcW g tt we ρ Q xs acc
theorem lcW_mo {g : Wg} {tt : Wt} {we : Wx} {ρ : Evn} {Q Q' : List D → Prop} (mg : ∀ d ρ (Q Q' : Evn → Prop), (∀ r, Q r → Q' r) → g d ρ Q → g d ρ Q') (mt : ∀ xc ρ (Q Q' : Bool → Prop), (∀ d, Q d → Q' d) → tt xc ρ Q → tt xc ρ Q')
    (me : ∀ xc ρ (Q Q' : D → Prop), (∀ d, Q d → Q' d) → we xc ρ Q → we xc ρ Q') (i : ∀ d, Q d → Q' d) : ∀ xs acc, lcW g tt we ρ Q xs acc → lcW g tt we ρ Q' xs acc
  | [], acc, q => i _ q
  | x :: xs, acc, q => mg _ _ _ _ (fun ρ' q => mt _ _ _ _ (fun t q => by
      cases t with
      | true => rw [if_pos rfl] at q ⊢; exact me _ _ _ _ (fun y q => ⟨q.1, lcW_mo mg mt me i xs _ q.2⟩) q
      | false => rw [if_neg Bool.false_ne_true] at q ⊢; exact lcW_mo mg mt me i xs acc q) q) q
@[simp] def wLc (wi : Wa) (g : Wg) (tt : Wt) (we : Wx) (vs : List Nat) : Wx := fun xc ρ Q => wi xc ρ fun items => lcW g tt we (wipeD ρ vs) (fun acc => Q (.lst acc)) items []
/-- an object that is in no slot changed -/
theorem Rel.chgX {G0 H0 G H : Hp} {ρ : Evn} {σ : L2.St} {a : Addr} {o : HO} (R : Rel K G0 H0 G ρ σ H) (ni : ∀ C dx vf, H a ≠ some (.ins C dx vf)) (ga : G a = none) (ha0 : H0 a = none) (nw : ∀ (j : Nat) (e : D), ρ[j]? = some (.ow e) → σ[j]? ≠ some (some (.ref a))) : Rel K G0 H0 G ρ σ (upd H a o) := by
  refine ⟨R.len, fun b u q => ?_, R.g0, fun b u q => ?_, R.gn, fun i s hs => ?_, R.dj⟩
  · rw [upd_ne (fun z => by subst z; rw [ga] at q; cases q)]; exact R.gh _ _ q
  · rw [upd_ne (fun z => by subst z; rw [ha0] at q; cases q)]; exact R.h0 _ _ q
  · have q := R.sl i s hs
    cases s with
    | no => trivial
    | da x => exact q
    | ow x =>
      obtain ⟨b, u, f1, f2, f3, f4, f5⟩ := q
      refine ⟨b, u, f1, ?_, f3, f4, f5⟩
      rw [upd_ne (fun z => by subst z; exact nw i x hs f1)]
      exact f2
    | e0 b0 => exact q
    | ex b0 p fs0 => exact q
    | se b C fs =>
      obtain ⟨f1, dx, vf, f2, f3⟩ := q
      refine ⟨f1, dx, vf, ?_, f3⟩
      rw [upd_ne (fun z => by subst z; exact ni _ _ _ f2)]
      exact f2
theorem lc_imp {tg iter : Expr} {own : List (Str × Nat)} {wi : Wa} {tgs : List Nat} {g : Wg} {tt : Wt} {we : Wx}
    (hi : IJ E X tg iter wi) (hsub : ∀ t ∈ tgs, t ∈ own.map (·.2))
    (mg : ∀ d ρ (Q Q' : Evn → Prop), (∀ r, Q r → Q' r) → g d ρ Q → g d ρ Q') (mt : ∀ xc ρ (Q Q' : Bool → Prop), (∀ d, Q d → Q' d) → tt xc ρ Q → tt xc ρ Q') (me : ∀ xc ρ (Q Q' : D → Prop), (∀ d, Q d → Q' d) → we xc ρ Q → we xc ρ Q')
    (σ : L2.St) (H : Hp) (Q : VK) (h : liftW X.K E .f (wLc wi g tt we (own.map (·.2))) σ H Q) : tLc (liftI X.K E wi) (liftG X.K tgs g) (liftT X.K E0 tt) (liftW X.K E0 .e we) (own.map (·.2)) σ H Q := by
  obtain ⟨G0, H0, G, ρ, xc, R, T, q⟩ := h
  refine ⟨G0, H0, G, ρ, xc, R, T, hi.mo _ _ _ _ (fun items q1 G1 H1 J x1 wk => ?_) q⟩
  intro D' hD
  have R1 := R.ext x1
  have nD : ∀ (j : Nat) (e : D), ρ[j]? = some (.ow e) → σ[j]? ≠ some (some (.ref D')) := fun j d' hj hs => by
    obtain ⟨p', o', e1, e2, _⟩ := R1.sl j _ hj
    rw [hs] at e1
    cases e1
    rw [hD] at e2
    cases e2
  have hD0 : H0 D' = none := R1.h0.free hD
  obtain ⟨ρw, ew, Rw⟩ := R1.wipe (own.map (·.2))
  have ew' : wipeD ρ (own.map (·.2)) = ρw := ew.symm
  rw [ew'] at q1
  have nDw : ∀ (j : Nat) (e : D), ρw[j]? = some (.ow e) → (L2.wipe σ (own.map (·.2)))[j]? ≠ some (some (.ref D')) := fun j d' hj hs => by
    obtain ⟨p', o', e1, e2, _⟩ := Rw.sl j _ hj
    rw [hs] at e1
    cases e1
    rw [hD] at e2
    cases e2
  refine ⟨fun i m H2 => m = items.length - i ∧ i ≤ items.length ∧ ∃ G2 vs acc, Same G1 G2 ∧ Same H1 H2 ∧ (∀ a, H1 a ≠ none → G1 a = none → G2 a = none) ∧ G2 D' = none ∧ H2 D' = some (.lst vs) ∧ Rps X.K G2 acc vs ∧ Rel X.K G0 H0 G2 ρw (L2.wipe σ (own.map (·.2))) H2 ∧
    lcW g tt we ρw (fun acc => ∀ G' H' v, Ext G H G' H' → RvK X.K .f H G' H' (.lst acc) v → Q v H') (items.drop i) acc, ⟨_, rfl, Nat.zero_le _, G1, [], [], Same.refl _, same_upd hD, fun _ _ q => q, x1.gh.free hD, upd_same, .nil, Rw.chgX (fun _ _ _ z => by rw [hD] at z; cases z) (x1.gh.free hD) hD0 nDw, q1⟩, ?_⟩
  rintro i m H2 ⟨rfl, hi', G2, vs, acc, s2, h2, n2, gD, eD, ra, R2, q2⟩
  by_cases hlt : i < items.length
  · have ed : items.drop i = items[i] :: items.drop (i + 1) := List.drop_eq_getElem_cons hlt
    rw [ed] at q2
    refine .inr ⟨wk.go i G2 H2 hlt s2 R2.gh, _, fun H' q3 => ⟨items.length - (i + 1), by omega, rfl, hlt, q3⟩, fun x H3 y => ?_⟩
    obtain ⟨G3, d, x3, hd, rd⟩ := wk.yld i G2 H2 x H3 hlt s2 R2.gh y
    rw [List.getElem?_eq_getElem hlt] at hd
    cases hd
    refine ⟨G0, H0, G3, ρw, _, R2.ext x3, rd, mg _ _ _ _ (fun ρ' q3 σ' R' wv => ?_) q2⟩
    refine ⟨(wv _ hsub).trans (wipe_wipe _ _), G0, H0, G3, ρ', xcNo, R', tieNo, mt _ _ _ _ (fun t q4 G4 H4 x4 => ?_) q3⟩
    have x34 := x3.trans x4
    have n4 : ∀ a, H1 a ≠ none → G1 a = none → G4 a = none := fun a ha hg' => x34.gn a (Same.nn h2 ha) (n2 a ha hg')
    cases t with
    | true =>
      rw [if_pos rfl] at q4
      refine iteT ?_
      refine ⟨G0, H0, G4, ρ', xcNo, R'.ext x4, tieNo, me _ _ _ _ (fun yd q5 G5 H5 v x5 r5 => ?_) q4⟩
      have x35 := x34.trans x5
      have e5 : H5 D' = some (.lst vs) := x35.hh _ _ eD
      have g5 : G5 D' = none := x35.gn D' (by rw [eD]; simp) gD
      refine ⟨vs, e5, by rw [← ra.length]; exact q5.1, G5, vs ++ [v], acc ++ [yd], s2.trans x35.gg, fun b ob hb => ?_, fun a ha hg' => x5.gn a (Same.nn (h2.trans x34.hh) ha) (n4 a ha hg'), g5, upd_same, (ra.mono x35.gg).append (.cons r5 .nil), (R2.ext x35).chgX (fun _ _ _ z => by rw [e5] at z; cases z) g5 hD0 nDw, q5.2⟩
      rw [upd_ne (ne_of_none hb hD)]
      exact x35.hh _ _ (h2 _ _ hb)
    | false =>
      rw [if_neg Bool.false_ne_true] at q4
      refine iteF ?_
      exact ⟨G4, vs, acc, s2.trans x34.gg, h2.trans x34.hh, n4, x34.gn D' (by rw [eD]; simp) gD, x34.hh _ _ eD, ra.mono x34.gg, R2.ext x34, q4⟩
  · have e : i = items.length := by omega
    subst e
    rw [List.drop_length] at q2
    refine .inl ⟨wk.stop G2 H2 s2 R2.gh, ?_⟩
    exact q2 G2 H2 (.ref D') (x1.trans ⟨s2, h2, R2.gh, n2⟩) ⟨D', _, rfl, x1.hh.free hD, eD, ra, gD⟩
theorem ej_lc {tg iter : Expr} {own : List (Str × Nat)} {wi : Wa} {tgs : List Nat} {g : Wg} {tt : Wt} {we : Wx}
    (hpe : PE X e (tLc (liftI X.K E wi) (liftG X.K tgs g) (liftT X.K E0 tt) (liftW X.K E0 .e we) (own.map (·.2))))
    (hi : IJ E X tg iter wi) (hsub : ∀ t ∈ tgs, t ∈ own.map (·.2))
    (mg : ∀ d ρ (Q Q' : Evn → Prop), (∀ r, Q r → Q' r) → g d ρ Q → g d ρ Q') (mt : ∀ xc ρ (Q Q' : Bool → Prop), (∀ d, Q d → Q' d) → tt xc ρ Q → tt xc ρ Q') (me : ∀ xc ρ (Q Q' : D → Prop), (∀ d, Q d → Q' d) → we xc ρ Q → we xc ρ Q') :
    EJ .f E X e (wLc wi g tt we (own.map (·.2))) :=
  ⟨hpe.imp fun σ H Q h => lc_imp hi hsub mg mt me σ H Q h, fun xc ρ Q Q' i q => hi.mo _ _ _ _ (fun items q => lcW_mo mg mt me (fun d q => i _ q) _ _ q) q⟩
/-- [elt for target in iter if ..] -/
theorem ej_comp {tg iter elt : Expr} {ifs : List Expr} {scope : Scope} {own : List (Str × Nat)} {wi : Wa} {tgs : List Nat} {g : Wg} {tt : Wt} {we : Wx} (hc : X.calm = true) (hN : X.N.Nodup) (ok : BlkOk X.N X.env.scope scope own)
    (hi : IJ E X tg iter wi) (hsub : ∀ t ∈ tgs, t ∈ own.map (·.2))
    (hg : ∀ (s : Shared) (H : Hp) (C : Addr) (cl : List (Str × Addr)) (fp : List Addr), GJ (X.blk s H scope (compEnvC scope cl C X.env) fp) tg tgs g)
    (ht : ∀ (s : Shared) (H : Hp) (C : Addr) (cl : List (Str × Addr)) (fp : List Addr), TsJ E0 (X.blk s H scope (compEnvC scope cl C X.env) fp) ifs tt)
    (he : ∀ (s : Shared) (H : Hp) (C : Addr) (cl : List (Str × Addr)) (fp : List Addr), EJ .e E0 (X.blk s H scope (compEnvC scope cl C X.env) fp) elt we)
    (hs : ∀ x, foldedSetIterable iter X.env x = pure x := by intro _; rfl) : EJ .f E X (.ListComp elt [⟨tg, iter, ifs, 0⟩] scope pos) (wLc wi g tt we (own.map (·.2))) :=
  ej_lc (pe_lc (g := liftG X.K tgs g) (tt := liftT X.K E0 tt) (te := liftW X.K E0 .e we) hc hN hi.pi ok (fun s H C cl fp => (hg s H C cl fp).pg) (fun s H C cl fp => (ht s H C cl fp).pt) (fun s H C cl fp => (he s H C cl fp).pe) hs) hi hsub
    (hg s00 (fun _ => none) s00.heap.objs.size [] []).mo (ht s00 (fun _ => none) s00.heap.objs.size [] []).mo (he s00 (fun _ => none) s00.heap.objs.size [] []).mo
/-- y = [..], y a local that is no cell -/
theorem comp_set {tg iter elt : Expr} {ifs : List Expr} {scope : Scope} {own : List (Str × Nat)} {wi : Wa} {tgs : List Nat} {g : Wg} {tt : Wt} {we : Wx} {i : Nat} {y : Str} {py spos : Pos} (hc : X.calm = true) (hN : X.N.Nodup) (hy : X.N[i]? = some y) (hyl : X.env.scope.names.lookup y = some .local)
    (hsw : swapsWith (.ListComp elt [⟨tg, iter, ifs, 0⟩] scope pos) (some (.Name y py)) spos.line X.env = pure true) (ok : BlkOk X.N X.env.scope scope own)
    (hi : IJ E X tg iter wi) (hsub : ∀ t ∈ tgs, t ∈ own.map (·.2))
    (hg : ∀ (s : Shared) (H : Hp) (C : Addr) (cl : List (Str × Addr)) (fp : List Addr), GJ (X.blk s H scope (compEnvC scope cl C X.env) fp) tg tgs g)
    (ht : ∀ (s : Shared) (H : Hp) (C : Addr) (cl : List (Str × Addr)) (fp : List Addr), TsJ E0 (X.blk s H scope (compEnvC scope cl C X.env) fp) ifs tt)
    (he : ∀ (s : Shared) (H : Hp) (C : Addr) (cl : List (Str × Addr)) (fp : List Addr), EJ .e E0 (X.blk s H scope (compEnvC scope cl C X.env) fp) elt we)
    (hs : ∀ x, foldedSetIterable iter X.env x = pure x := by intro _; rfl) :
    PS X (.Assign [.Name y py] (.ListComp elt [⟨tg, iter, ifs, 0⟩] scope pos) spos) (tAsg (liftW X.K E .f (wLc wi g tt we (own.map (·.2)))) (gName i)) ∧ EJ .f E X (.ListComp elt [⟨tg, iter, ifs, 0⟩] scope pos) (wLc wi g tt we (own.map (·.2))) := by
  refine ⟨(ps_setLc (g := liftG X.K tgs g) (tt := liftT X.K E0 tt) (te := liftW X.K E0 .e we) hc hN hy hyl hsw hi.pi ok (fun s H C cl fp => (hg s H C cl fp).pg) (fun s H C cl fp => (ht s H C cl fp).pt) (fun s H C cl fp => (he s H C cl fp).pe) hs).imp fun D' σ H h => ?_, ej_comp hc hN ok hi hsub hg ht he hs⟩
  exact lc_imp hi hsub (hg s00 (fun _ => none) s00.heap.objs.size [] []).mo (ht s00 (fun _ => none) s00.heap.objs.size [] []).mo (he s00 (fun _ => none) s00.heap.objs.size [] []).mo σ H _ h
end
end Tw

/-! Tw, part H: defs, their calls; own lists and dicts; while; zip, enumerate; stars. -/
namespace Tw
open PySem PySem.Spec L2 PyProof.Rows

/-! ### defs -/
section
variable {P : Program} {w : World} {K : PySem.W.Frag} {mg : Str → Option Value} {base : Heap}
theorem fn_ok {x qual : Str} {st : Stmt} {f : Addr} {fd : FuncData} {N ps : List Str} {k : Nat} {wf : Wf} {wb : Ws} (F : Fun K x qual st f fd) (S : FnScope N ps (defScope st)) (hn : ∀ xc ds Q, wf xc ds Q → ds.length = ps.length)
    (hb : ∀ (cdv : Value) (A : Around) (outer : List Env) (s : Shared) (H : Hp) (E : XK), Room k (A.deeper (envOfC qual (defScope st) s.heap.objs.size f cdv)) →
      BJ E (cxOf (L2.CX P w) P w K mg base N qual (defScope st) f cdv A outer s H E) (defBody st) wb)
    (hw : ∀ xc ds (Q : Bool → D → Prop), wf xc ds Q → wb { nx := fun _ => Q false .non, rt := Q, xc := xc } (ds.map .da ++ List.replicate (N.length - ds.length) .no)) :
    FnOk P w K mg base (L2.CX P w) (k + 1) f fd ps (spOf K ps.length wf) := by
  refine F.okX S (fun vs H Q E h => h.1) (fun cdv A outer s H vs Q E hr h => ?_)
  obtain ⟨hl, G, ds, xc, g, r, T, q⟩ := h
  have q' := hw xc ds _ q
  refine ⟨_, (hb cdv A outer s H E hr).ps, G, H, G, _, _, Rel.start g r, ⟨?_, ?_, ?_, ?_, ?_⟩, q'⟩
  · exact fun ρ σ G' H' R _ q => q G' H' .non R.ex (.non : Rp K G' .non .non)
  · exact fun fr d G' H' v x r q => q G' H' v x r
  · exact fun _ _ _ _ _ _ q => q.elim
  · exact fun _ _ _ _ _ _ q => q.elim
  · exact T
/-- a def of the text by its name -/
structure At (K : PySem.W.Frag) (mg : Str → Option Value) (x : Str) (st : Stmt) (ps : List Str) : Prop where
  ex : ∃ f fd, Fun K x x st f fd ∧ mg x = some (.ref f) ∧ Binds K fd ps []
/-- .. and what it keeps -/
structure Def (P : Program) (w : World) (K : PySem.W.Frag) (mg : Str → Option Value) (base : Heap) (x : Str) (n k : Nat) (wf : Wf) : Prop where
  ex : ∃ f fd ps, FnOk P w K mg base (L2.CX P w) k f fd ps (spOf K n wf) ∧ mg x = some (.ref f) ∧ PySem.W.keepIn K (.ref f) = true ∧ Binds K fd ps []
  mo : MoF wf
  hn : ∀ ds xc Q, wf xc ds Q → ds.length = n
theorem def_ok {x : Str} {st : Stmt} {N ps : List Str} {k : Nat} {wf : Wf} {wb : Ws} (A : At K mg x st ps) (S : FnScope N ps (defScope st)) (m : MoF wf) (hn : ∀ ds xc Q, wf xc ds Q → ds.length = ps.length)
    (hb : ∀ (f : Addr) (cdv : Value) (A : Around) (outer : List Env) (s : Shared) (H : Hp) (E : XK), Room k (A.deeper (envOfC x (defScope st) s.heap.objs.size f cdv)) →
      BJ E (cxOf (L2.CX P w) P w K mg base N x (defScope st) f cdv A outer s H E) (defBody st) wb)
    (hw : ∀ xc ds (Q : Bool → D → Prop), wf xc ds Q → wb { nx := fun _ => Q false .non, rt := Q, xc := xc } (ds.map .da ++ List.replicate (N.length - ds.length) .no)) :
    Def P w K mg base x ps.length (k + 1) wf := by
  obtain ⟨f, fd, F, hm, b⟩ := A.ex
  exact ⟨⟨f, fd, ps, fn_ok F S (fun xc ds Q q => hn ds xc Q q) (hb f) hw, hm, F.kp, b⟩, m, hn⟩
end
section
variable {X : Cx} {K : PySem.W.Frag} {E : XK} {e a b c o : Expr} {es : List Expr} {w wa wb wc : Wx} {k ka kb : Kd} {pos p : Pos} {u : Wa} {st : Stmt} {rest body : List Stmt} {s s1 s2 : Ws}
theorem ej_fn {x : Str} {n j : Nat} {wf : Wf} (F : Def X.prog X.w X.K X.mg X.base x n j wf) (hr : Room j X.A) (hg : Gl X x) (hx : Passes (L2.CX X.prog X.w) X E) (ha : AJ true E X (e :: es) u)
    (hdb : (x == ("__debug__" : Str)) = false := by decide) (he : starEach (e :: es) X.env = (false, eval e X.env) :: starEach es X.env := by rfl) (hpl : (backTo pos (starEach es X.env)).any (·.1) = false := by rfl) :
    EJ .e E X (.Call (.Name x p) (e :: es) [] pos) (wCall wf [] u) := by
  obtain ⟨f, fd, ps, Fo, hm, kp, b⟩ := F.ex
  exact ej_call F.mo (dvs := []) (fun _ => .nil) ha (pe_call Fo hr hg hm kp b .nil hx ha.pa hdb he hpl) F.hn
theorem ej_fnF {x : Str} {n j : Nat} {wf : Wf} (F : Def X.prog X.w X.K X.mg X.base x n j wf) (hr : Room j X.A) (hg : Gl X x) (hx : Passes (L2.CX X.prog X.w) X E) (ha : AJ true E X (e :: es) u)
    (hdb : (x == ("__debug__" : Str)) = false := by decide) (he : starEach (e :: es) X.env = (false, eval e X.env) :: starEach es X.env := by rfl) (hpl : (backTo pos (starEach es X.env)).any (·.1) = false := by rfl) :
    EJ .f E X (.Call (.Name x p) (e :: es) [] pos) (wCallF wf [] u) := by
  obtain ⟨f, fd, ps, Fo, hm, kp, b⟩ := F.ex
  exact ej_callF F.mo (dvs := []) (fun _ => .nil) ha (pe_call Fo hr hg hm kp b .nil hx ha.pa hdb he hpl) F.hn
/-- in the body of a def (not in a comprehension, not in a try) -/
theorem passM {P : Program} {w0 : World} {K : PySem.W.Frag} {mg : Str → Option Value} {base : Heap} {N : List Str} {q : Str} {sc : Scope} {f : Addr} {cdv : Value} {A : Around} {outer : List Env} {s : Shared} {H : Hp} {E : XK} :
    Passes (L2.CX P w0) (cxOf (L2.CX P w0) P w0 K mg base N q sc f cdv A outer s H E) E := passes_call (takes_of rfl rfl rfl rfl) fun _ _ _ _ h => h

/-! ### own lists -/
theorem own_lst {G0 H0 G H : Hp} {ρ : Evn} {σ : L2.St} {i : Nat} {ds : List D} (R : Rel K G0 H0 G ρ σ H) (hi : ρ[i]? = some (.ow (.lst ds))) : ∃ a vs, σ[i]? = some (some (.ref a)) ∧ H a = some (.lst vs) ∧ Rps K G ds vs := by
  obtain ⟨a, o, e1, e2, t, _⟩ := R.sl i _ hi
  cases o <;> first | exact t.elim | exact ⟨a, _, e1, e2, t⟩
/-- xs.append(e) -/
def sApp (i : Nat) (w : Wx) : Ws := fun Z ρ => ∃ ds, ρ[i]? = some (.ow (.lst ds)) ∧ w Z.xc ρ fun d => ds.length < sizeLine ∧ Z.nx (ρ.set i (.ow (.lst (ds ++ [d]))))
theorem sj_app {i : Nat} {name : Str} {id : String} (he : EJ .e E X e w) (h : PS X st (tDrop (tBM X.K "list" rAppend (tVar i) (tCons (liftW X.K E .e w) tNil)))) : SJ E X st (sApp i w) :=
  ⟨h.imp fun D' σ H ⟨G0, H0, G, ρ, Z, R, T, ds, hi, q⟩ => by
    obtain ⟨l, vs, e1, e2, r⟩ := own_lst R hi
    refine ⟨_, e1, .inl ⟨rfl, vs, SqL.of e2⟩, G0, H0, G, ρ, Z.xc, R, T.xc, he.mo _ _ _ _ (fun d ⟨z, q1⟩ G1 H1 v x1 r1 => ?_) q⟩
    refine ⟨l, vs, v, rfl, rfl, x1.hh _ _ e2, by rw [← r.length]; exact z, ?_⟩
    exact T.nx _ _ _ _ ((R.ext x1).chg hi e1 (show Top X.K G1 (.lst (ds ++ [d])) (.lst (vs ++ [v])) from (r.mono x1.gg).append (.cons r1 .nil))) x1.gg q1⟩
/-! ### dicts with tuple keys -/
theorem ej_dictT : EJ .f E X (.Dict [] [] pos) (wC (.dT [])) :=
  ⟨pe_dnewT.imp fun σ H Q ⟨G0, H0, G, ρ, xc, R, T, q⟩ p hp => q G _ _ (Ext.newH R.gh hp) ⟨p, _, rfl, hp, upd_same, .nil, R.gh.free hp⟩, fun xc ρ Q Q' i q => i _ q⟩
theorem ej_dictK : EJ .f E X (.Dict [] [] pos) (wC (.dK [])) :=
  ⟨pe_dnewK.imp fun σ H Q ⟨G0, H0, G, ρ, xc, R, T, q⟩ p hp => q G _ _ (Ext.newH R.gh hp) ⟨p, _, rfl, hp, upd_same, .nil, R.gh.free hp⟩, fun xc ρ Q Q' i q => i _ q⟩
/-- a key, as data -/
def kD : Key → D
  | .inl i => .int i
  | .inr x => .str x
theorem rp_key {G : Hp} : ∀ {k : Key} {v : V}, Rp K G (kD k) v → v = kV k
  | .inl _, _, h => by cases h; rfl
  | .inr _, _, h => by cases h; rfl
theorem rps_keys {G : Hp} : ∀ {ks : List Key} {vs : List V}, Rps K G (ks.map kD) vs → vs = ks.map kV
  | [], _, .nil => rfl
  | k :: ks, _, .cons h r => by rw [rp_key h, rps_keys r]; rfl
section
variable {κ : Type} [DecidableEq κ]
def hasD (kvs : List (κ × D)) (k : κ) : Bool := kvs.any fun kv => decide (kv.1 = k)
def putDk (kvs : List (κ × D)) (k : κ) (v : D) : List (κ × D) := if hasD kvs k = true then kvs.map (fun kv => if kv.1 = k then (kv.1, v) else kv) else kvs ++ [(k, v)]
end
theorem rts_any {G : Hp} (k : List Key) : ∀ {ds : List (List Key × D)} {vs : List (List Key × V)}, Rts K G ds vs → (vs.any fun kv => decide (kv.1 = k)) = hasD ds k
  | _, _, .nil => rfl
  | _, _, .cons h r => by
    have := rts_any k r
    unfold hasD at this ⊢
    simp only [List.any_cons, this]
theorem rts_app {G : Hp} : ∀ {ds es : List (List Key × D)} {vs ws : List (List Key × V)}, Rts K G ds vs → Rts K G es ws → Rts K G (ds ++ es) (vs ++ ws)
  | _, _, _, _, .nil, q => q
  | _, _, _, _, .cons h r, q => .cons h (rts_app r q)
theorem rts_map {G : Hp} {k : List Key} {d : D} {v : V} (hv : Rp K G d v) : ∀ {ds : List (List Key × D)} {vs : List (List Key × V)}, Rts K G ds vs → Rts K G (ds.map fun kv => if kv.1 = k then (kv.1, d) else kv) (vs.map fun kv => if kv.1 = k then (kv.1, v) else kv)
  | _, _, .nil => .nil
  | _, _, .cons (f := f) h r => by
    simp only [List.map_cons]
    by_cases e : f = k
    · simp only [e, if_true]; exact .cons hv (rts_map hv r)
    · simp only [e, if_false]; exact .cons h (rts_map hv r)
theorem rts_put {G : Hp} {k : List Key} {d : D} {v : V} (hv : Rp K G d v) {ds : List (List Key × D)} {vs : List (List Key × V)} (r : Rts K G ds vs) : Rts K G (putDk ds k d) (putK vs k v) := by
  unfold putDk putK
  rw [rts_any k r]
  split
  · exact rts_map hv r
  · exact rts_app r (.cons hv .nil)
theorem Rts.length {G : Hp} : ∀ {ds : List (List Key × D)} {vs : List (List Key × V)}, Rts K G ds vs → ds.length = vs.length
  | _, _, .nil => rfl
  | _, _, .cons _ r => congrArg (· + 1) (Rts.length r)
/-- d[(..)] = v, d an own dict with tuple keys, the key written -/
def sPutT (i : Nat) (wk : Wa) (wv : Wx) : Ws := fun Z ρ => ∃ kvs, ρ[i]? = some (.ow (.dT kvs)) ∧ wv Z.xc ρ fun v => wk Z.xc ρ fun ys => ∃ ks : List Key, ys = ks.map kD ∧ ys.length ≤ sizeLine ∧ kvs.length < sizeLine ∧ Z.nx (ρ.set i (.ow (.dT (putDk kvs ks v))))
theorem sj_putT {i : Nat} (hk : AJ true E X es u) (hv : EJ .e E X b wb) (h : PS X st (sDPut (tVar i) (tTup (liftA X.K E true u)) (liftW X.K E .e wb))) : SJ E X st (sPutT i u wb) :=
  ⟨h.imp fun D' σ H ⟨G0, H0, G, ρ, Z, R, T, kvs, hi, q⟩ => by
    obtain ⟨l, o, e1, e2, t, gl, hl⟩ := R.sl i _ hi
    cases o <;> first | exact t.elim | skip
    rename_i vk
    refine ⟨G0, H0, G, ρ, Z.xc, R, T.xc, hv.mo _ _ _ _ (fun d q1 G1 H1 v x1 r1 => ?_) q⟩
    refine ⟨_, e1, G0, H0, G1, ρ, Z.xc, R.ext x1, T.xc, hk.mo _ _ _ _ (fun ys ⟨ks, ey, zl, z, q2⟩ G2 H2 vs x2 r2 => ?_) q1⟩
    subst ey
    rw [if_pos rfl] at r2
    refine ⟨by rw [← r2.length]; exact zl, fun p hp => ?_⟩
    have x3 := Ext.newH (o := .tup vs) x2.gh hp
    have x13 := x1.trans (x2.trans x3)
    have t' : Rts X.K G kvs vk := t
    refine ⟨l, _, rfl, .inr ⟨vk, ks, p, x13.hh _ _ e2, rfl, by rw [upd_same, rps_keys r2], by rw [← Rts.length t']; exact z, rfl⟩, ?_⟩
    exact T.nx _ _ _ _ ((R.ext x13).chg hi e1 (show Top X.K G2 (.dT (putDk kvs ks d)) (.dT (putK vk ks v)) from rts_put (r1.mono x2.gg) (t'.mono (x1.gg.trans x2.gg)))) x13.gg q2⟩
/-- (..) in d -/
def wInT (wk : Wa) (wd : Wx) : Wx := fun xc ρ Q => wk xc ρ fun ys => ys.length ≤ sizeLine ∧ wd xc ρ fun x => ∃ kvs ks, x = .dT kvs ∧ ys = ks.map kD ∧ Q (.bl (hasD kvs ks))
theorem wInT_mo {wk : Wa} {wd : Wx} (hk : ∀ xc ρ (Q Q' : List D → Prop), (∀ d, Q d → Q' d) → wk xc ρ Q → wk xc ρ Q') (hd : ∀ xc ρ (Q Q' : D → Prop), (∀ d, Q d → Q' d) → wd xc ρ Q → wd xc ρ Q') {xc : XC} {ρ : Evn} {Q Q' : D → Prop} (i : ∀ d, Q d → Q' d) (q : wInT wk wd xc ρ Q) : wInT wk wd xc ρ Q' :=
  hk _ _ _ _ (fun y q => ⟨q.1, hd _ _ _ _ (fun x ⟨kvs, ks, ex, ey, q⟩ => ⟨kvs, ks, ex, ey, i _ q⟩) q.2⟩) q
theorem tj_inT (hk : AJ true E X es u) (hd : EJ kb E X b wb) (h : PT X e (tB (tDIn (tTup (liftA X.K E true u)) (liftW X.K E kb wb)))) : TJ E X e (wB (wInT u wb)) := by
  refine ⟨h.imp fun σ H Q ⟨G0, H0, G, ρ, xc, R, T, q⟩ => ⟨G0, H0, G, ρ, xc, R, T, hk.mo _ _ _ _ (fun ys ⟨zl, q1⟩ G1 H1 vs x1 r1 => ?_) q⟩, fun xc ρ Q Q' i q => wInT_mo hk.mo hd.mo (fun d ⟨bb, eb, q⟩ => ⟨bb, eb, i _ q⟩) q⟩
  rw [if_pos rfl] at r1
  refine ⟨by rw [← r1.length]; exact zl, fun p hp => ?_⟩
  have x2 := Ext.newH (o := .tup vs) x1.gh hp
  refine ⟨G0, H0, G1, ρ, xc, R.ext (x1.trans x2), T, hd.mo _ _ _ _ (fun x ⟨kvs, ks, ex, ey, bb, ebb, q2⟩ G2 H2 xv x3 r2 => ?_) q1⟩
  subst ex ey
  cases ebb
  have hb : H2 p = some (.tup (ks.map kV)) := by rw [← rps_keys r1]; exact x3.hh _ _ upd_same
  have x13 := (x1.trans x2).trans x3
  have fin2 : ∀ {l : Addr} {vk : List (List Key × V)}, H2 l = some (.dT vk) → Rts X.K G2 kvs vk → ∃ a' o', V.ref l = .ref a' ∧ DGet H2 a' (.ref p) o' ∧ ∃ c, V.bl o'.isSome = .bl c ∧ Q c H2 := fun {l vk} hl t => by
    refine ⟨l, _, rfl, .inr ⟨vk, ks, p, .inl hl, rfl, hb, rfl⟩, _, rfl, ?_⟩
    rw [← valV_any, rts_any ks t]
    exact q2 G2 H2 x13
  rcases r2.o with r2 | ⟨l, o, rfl, e2, t⟩
  · cases r2 with | dT hl t => exact fin2 (x3.gh _ _ hl) t
  · cases o <;> first | exact t.elim | exact fin2 e2 t
end
end Tw

/-! Tw, part I: operators joined over their kinds; enumerate, zip; stars; while. -/
namespace Tw
open PySem PySem.Spec L2 PyProof.Rows
section
variable {X : Cx} {K : PySem.W.Frag} {E : XK} {e a b c o : Expr} {es : List Expr} {w wa wb wc : Wx} {k ka kb : Kd} {pos p : Pos} {u : Wa} {st : Stmt} {rest body : List Stmt} {s s1 s2 : Ws}
/-- a bridge whose answer is a new object, as one that is kept for good -/
theorem Brg2.toE {op : Op2} {r : R2} (B : Brg2 K .f op r) : Brg2 K .e op r :=
  ⟨fun x y G H vx vy Q Q2 g rx ry q kk => B.go x y G H vx vy Q Q2 g rx ry q fun d hd G' H' v x1 r1 => by
    obtain ⟨G2, x2, r2⟩ := RvF.frz x1 r1
    exact kk d hd G2 H' v x2 r2, B.mo⟩
theorem BrgS.toE {op : OpS} {r : V → Option Int → Option Int → Hp → VK → Prop} (B : BrgS K .f op r) : BrgS K .e op r :=
  ⟨fun x lo hi G H vx Q Q2 g rx q kk => B.go x lo hi G H vx Q Q2 g rx q fun d hd G' H' v x1 r1 => by
    obtain ⟨G2, x2, r2⟩ := RvF.frz x1 r1
    exact kk d hd G2 H' v x2 r2, B.mo⟩
def oOr (op op' : Op2) : Op2 := fun x y Q => op x y Q ∨ op' x y Q
theorem Brg2.or {op op' : Op2} {r r' : R2} (B : Brg2 K k op r) (B' : Brg2 K k op' r') : Brg2 K k (oOr op op') (fun x y H Q => r x y H Q ∨ r' x y H Q) :=
  ⟨fun x y G H vx vy Q Q2 g rx ry q kk => q.elim (fun q => .inl (B.go x y G H vx vy Q Q2 g rx ry q kk)) fun q => .inr (B'.go x y G H vx vy Q Q2 g rx ry q kk), fun x y Q Q' i q => q.elim (fun q => .inl (B.mo _ _ _ _ i q)) fun q => .inr (B'.mo _ _ _ _ i q)⟩
/-- +, whatever the two are -/
def oPlus : Op2
  | .int i, .int j, Q => Q (.int (i + j))
  | .str x, .str y, Q => x.length + y.length ≤ sizeLine ∧ Q (.str (x ++ y))
  | .tup xs, .tup ys, Q => xs.length + ys.length ≤ sizeLine ∧ Q (.tup (xs ++ ys))
  | .lst xs, .lst ys, Q => xs.length + ys.length ≤ sizeLine ∧ Q (.lst (xs ++ ys))
  | _, _, _ => False
theorem oPlus_or {x y : D} {Q : D → Prop} (h : oPlus x y Q) : oAdd x y Q ∨ oCat x y Q := by
  cases x <;> cases y <;> first | exact h.elim | exact .inl h | exact .inr h
theorem ej_plus (ha : EJ ka E X a wa) (hb : EJ kb E X b wb) : EJ .e E X (.BinOp a .Add b pos) (w2 oPlus wa wb) := by
  have B := (brg_add (K := X.K)).or brg_cat.toE
  refine ej_2 ha hb (pe_op (opr_or op_add3 op_cat) ha.pe hb.pe) ⟨fun x y G H vx vy Q Q2 g rx ry q kk => B.go x y G H vx vy Q Q2 g rx ry (oPlus_or q) kk, fun x y Q Q' i q => ?_⟩
  cases x <;> cases y <;> first | exact q.elim | exact i _ q | exact ⟨q.1, i _ q.2⟩
/-- * of ints, of a text and an int -/
def oMul : Op2
  | .int i, .int j, Q => CMul i j ∧ Q (.int (i * j))
  | .str x, .int n, Q => MulOk x n ∧ Q (.str (Txt.mul x n))
  | _, _, _ => False
theorem oMul_or {x y : D} {Q : D → Prop} (h : oMul x y Q) : oMulI x y Q ∨ oMulS x y Q := by
  cases x <;> cases y <;> first | exact h.elim | exact .inl h | exact .inr h
theorem ej_mul (ha : EJ ka E X a wa) (hb : EJ kb E X b wb) : EJ .e E X (.BinOp a .Mult b pos) (w2 oMul wa wb) := by
  have B := (brg_mulI (K := X.K)).or brg_mulS
  refine ej_2 ha hb (pe_op (opr_or op_mul op_mulS) ha.pe hb.pe) ⟨fun x y G H vx vy Q Q2 g rx ry q kk => B.go x y G H vx vy Q Q2 g rx ry (oMul_or q) kk, fun x y Q Q' i q => ?_⟩
  cases x <;> cases y <;> first | exact q.elim | exact ⟨q.1, i _ q.2⟩
theorem ej_sub (ha : EJ ka E X a wa) (hb : EJ kb E X b wb) : EJ .e E X (.BinOp a .Sub b pos) (w2 oSub wa wb) := ej_2 ha hb (pe_op op_sub ha.pe hb.pe) brg_sub
theorem ej_div (ha : EJ ka E X a wa) (hb : EJ kb E X b wb) : EJ .e E X (.BinOp a .FloorDiv b pos) (w2 oDiv wa wb) := ej_2 ha hb (pe_op op_fdiv ha.pe hb.pe) brg_div
theorem ej_mod (ha : EJ ka E X a wa) (hb : EJ kb E X b wb) : EJ .e E X (.BinOp a .Mod b pos) (w2 oMod wa wb) := ej_2 ha hb (pe_op op_mod ha.pe hb.pe) brg_mod
theorem ej_pow (ha : EJ ka E X a wa) (hb : EJ kb E X b wb) : EJ .e E X (.BinOp a .Pow b pos) (w2 oPow wa wb) := ej_2 ha hb (pe_op op_pow ha.pe hb.pe) brg_pow
/-! comparisons, as values and as tests -/
theorem ej_lt (ha : EJ ka E X a wa) (hb : EJ kb E X b wb) : EJ .e E X (.Compare a [.Lt] [b] pos) (w2 oLt wa wb) := ej_2 ha hb (pe_cmpR op_lt ha.pe hb.pe (nomark _)) brg_lt
theorem ej_le (ha : EJ ka E X a wa) (hb : EJ kb E X b wb) : EJ .e E X (.Compare a [.LtE] [b] pos) (w2 oLe wa wb) := ej_2 ha hb (pe_cmpR op_le ha.pe hb.pe (nomark _)) brg_le
theorem ej_gt (ha : EJ ka E X a wa) (hb : EJ kb E X b wb) : EJ .e E X (.Compare a [.Gt] [b] pos) (w2 oGt wa wb) := ej_2 ha hb (pe_cmpR op_gt ha.pe hb.pe (nomark _)) brg_gt
theorem ej_eq (hu : X.A.units + 64 < cLine) (ha : EJ ka E X a wa) (hb : EJ kb E X b wb) : EJ .e E X (.Compare a [.Eq] [b] pos) (w2 oEq wa wb) := ej_2 ha hb (pe_cmpR (op_eqD hu) ha.pe hb.pe (nomark _)) brg_eq
theorem tj_lt (ha : EJ ka E X a wa) (hb : EJ kb E X b wb) : TJ E X (.Compare a [.Lt] [b] pos) (wB (w2 oLt wa wb)) := tj_2 ha hb (pt_cmpR op_lt ha.pe hb.pe (nomark _)) brg_lt
theorem tj_gt (ha : EJ ka E X a wa) (hb : EJ kb E X b wb) : TJ E X (.Compare a [.Gt] [b] pos) (wB (w2 oGt wa wb)) := tj_2 ha hb (pt_cmpR op_gt ha.pe hb.pe (nomark _)) brg_gt
theorem tj_ge (ha : EJ ka E X a wa) (hb : EJ kb E X b wb) : TJ E X (.Compare a [.GtE] [b] pos) (wB (w2 oGe wa wb)) := tj_2 ha hb (pt_cmpR op_ge ha.pe hb.pe (nomark _)) brg_ge
theorem tj_eq (hu : X.A.units + 64 < cLine) (ha : EJ ka E X a wa) (hb : EJ kb E X b wb) : TJ E X (.Compare a [.Eq] [b] pos) (wB (w2 oEq wa wb)) := tj_2 ha hb (pt_cmpR (op_eqD hu) ha.pe hb.pe (nomark _)) brg_eq
theorem tj_ne (hu : X.A.units + 64 < cLine) (ha : EJ ka E X a wa) (hb : EJ kb E X b wb) : TJ E X (.Compare a [.NotEq] [b] pos) (wB (w2 oNe wa wb)) := tj_2 ha hb (pt_cmpR (op_neD hu) ha.pe hb.pe (nomark _)) brg_ne
theorem ej_in (hu : X.A.units + 65 < cLine) (ha : EJ ka E X a wa) (hb : EJ kb E X b wb) (hm : behindInMarks .In b = false := by rfl) : EJ .e E X (.Compare a [.In] [b] pos) (w2 (oIn false) wa wb) := ej_2 ha hb (pe_cmpR (op_inQ hu) ha.pe hb.pe hm) (brg_in false)
theorem tj_in (hu : X.A.units + 65 < cLine) (ha : EJ ka E X a wa) (hb : EJ kb E X b wb) (hm : behindInMarks .In b = false := by rfl) : TJ E X (.Compare a [.In] [b] pos) (wB (w2 (oIn false) wa wb)) := tj_2 ha hb (pt_cmpR (op_inQ hu) ha.pe hb.pe hm) (brg_in false)
theorem tj_nin (hu : X.A.units + 65 < cLine) (ha : EJ ka E X a wa) (hb : EJ kb E X b wb) (hm : behindInMarks .NotIn b = false := by rfl) : TJ E X (.Compare a [.NotIn] [b] pos) (wB (w2 (oIn true) wa wb)) := tj_2 ha hb (pt_cmpR (op_notInQ hu) ha.pe hb.pe hm) (brg_in true)
theorem ej_inS (ha : EJ ka E X a wa) (hb : EJ kb E X b wb) (hm : behindInMarks .In b = false := by rfl) : EJ .e E X (.Compare a [.In] [b] pos) (w2 (oInS false) wa wb) := ej_2 ha hb (pe_cmpR (op_in2 false) ha.pe hb.pe hm) (brg_inS false)
theorem tj_isN (ha : EJ ka E X a wa) (hb : EJ kb E X b wb) : TJ E X (.Compare a [.Is] [b] pos) (wB (w2 (oIsN false) wa wb)) := tj_2 ha hb (pt_cmpR op_isN ha.pe hb.pe (nomark _)) brg_isN
theorem tj_notN (ha : EJ ka E X a wa) (hb : EJ kb E X b wb) : TJ E X (.Compare a [.IsNot] [b] pos) (wB (w2 (oIsN true) wa wb)) := tj_2 ha hb (pt_cmpR op_notN ha.pe hb.pe (nomark _)) brg_notN
theorem ej_isN (ha : EJ ka E X a wa) (hb : EJ kb E X b wb) : EJ .e E X (.Compare a [.Is] [b] pos) (w2 (oIsN false) wa wb) := ej_2 ha hb (pe_cmpR op_isN ha.pe hb.pe (nomark _)) brg_isN
/-! slices, whatever is cut -/
def oSl : OpS
  | .lst xs, lo, hi, Q => Q (.lst (cutD xs lo hi))
  | .fls xs, lo, hi, Q => Q (.lst (cutD xs lo hi))
  | .tup xs, lo, hi, Q => Q (.tup (cutD xs lo hi))
  | .str z, lo, hi, Q => z.length ≤ sizeLine ∧ Q (.str (cutS z lo hi))
  | _, _, _, _ => False
abbrev rSl3 (K : PySem.W.Frag) : V → Option Int → Option Int → Hp → VK → Prop := fun x lo hi H Q => rSlL K x lo hi H Q ∨ rSlA K x lo hi H Q ∨ rSlS x lo hi H Q
theorem sl_3 : SlR X (rSl3 X.K) := sl_list.or (sl_tupA.or sl_str)
theorem brg_sl : BrgS K .e oSl (rSl3 K) := by
  refine ⟨fun x lo hi G H vx Q Q2 g rx q kk => ?_, fun x lo hi Q Q' i q => ?_⟩
  · cases x <;> first | exact q.elim | skip
    · exact .inr (.inr (brg_slS.go _ lo hi G H vx Q Q2 g rx q kk))
    · exact .inr (.inl (brg_slT.go _ lo hi G H vx Q Q2 g rx q kk))
    · exact .inl (brg_slL.toE.go _ lo hi G H vx Q Q2 g rx q kk)
    · exact .inl (brg_slL.toE.go _ lo hi G H vx Q Q2 g rx q kk)
  · cases x <;> first | exact q.elim | exact i _ q | exact ⟨q.1, i _ q.2⟩
theorem ej_slice {lo hi : Option Expr} {wl wu : Wo} {p2 : Pos} (ha : EJ ka E X a wa) (hl : OJ E X lo wl) (hu : OJ E X hi wu) : EJ .e E X (.Subscript a (.Slice lo hi none p2) pos) (wSl oSl wa wl wu) := ej_sl sl_3 brg_sl ha hl hu
/-! ### a star in a display -/
def waStar (w : Wx) (u : Wa) : Wa := fun xc ρ Q => w xc ρ fun d => ∃ xs, (d = .tup xs ∨ d = .lst xs) ∧ u xc ρ fun ds => Q (xs ++ ds)
theorem aj_star (ha : EJ .e E X e w) (hr : AJ true E X es u) (hs : starEach (.Starred e p :: es) X.env = (true, eval e X.env) :: starEach es X.env := by rfl) : AJ true E X (.Starred e p :: es) (waStar w u) := by
  refine ⟨(StX.pa_star ha.pe hr.pa hs).imp fun σ H Q ⟨G0, H0, G, ρ, xc, R, T, q⟩ => ⟨G0, H0, G, ρ, xc, R, T, ha.mo _ _ _ _ (fun d ⟨xs, ed, q1⟩ G1 H1 v x1 r1 => ?_) q⟩, fun xc ρ Q Q' i q => ha.mo _ _ _ _ (fun d ⟨xs, ed, q⟩ => ⟨xs, ed, hr.mo _ _ _ _ (fun ds q => i _ q) q⟩) q⟩
  have fin : ∀ {vs : List V}, Rps X.K G1 xs vs → liftA X.K E true u σ H1 fun ys H2 => Q (vs ++ ys) H2 := fun {vs} rv => by
    refine ⟨G0, H0, G1, ρ, xc, R.ext x1, T, hr.mo _ _ _ _ (fun ds q2 G2 H2 ws x2 r2 => ?_) q1⟩
    rw [if_pos rfl] at r2
    exact q2 G2 H2 _ (x1.trans x2) (by rw [if_pos rfl]; exact (rv.mono x2.gg).append r2)
  rcases ed with rfl | rfl
  · cases r1 with | tup h r => exact ⟨_, _, rfl, .inl (sqT_mono x1.gh h), fin r⟩
  · cases r1 with | lst h r => exact ⟨_, _, rfl, .inr (SqL.of (x1.gh _ _ h)), fin r⟩

/-! ### enumerate, zip -/
theorem wk_enum {a : Addr} {vs : List V} {G : Hp} {ds : List D} (h : SqL K G a vs) (r : Rps K G ds vs) : Wk K (Ite K a) G (ds.zipIdx.map fun q => .tup [.int q.2, q.1]) where
  stop := fun G' H' g1 g2 => ⟨vs, (g1.trans g2).seq h, by simp [r.length]⟩
  go := fun i G' H' hi g1 g2 => by
    have hv : i < vs.length := by rw [← r.length]; simpa using hi
    exact ⟨vs, vs[i], (g1.trans g2).seq h, by simp [hv]⟩
  yld := fun i G' H' x H2 hi g1 g2 ⟨t, y, ex, ht, eH, hy⟩ => by
    subst ex eH
    obtain ⟨d, hd, rd⟩ := r.get' (hy vs ((g1.trans g2).seq h))
    have x2 := Ext.new (o := .tup [V.int ↑i, y]) g2 ht
    refine ⟨_, .tup [.int i, d], x2, ?_, .tup (SqT.of upd_same) (.cons (.int _) (.cons (rd.mono (g1.trans x2.gg)) .nil))⟩
    rw [List.getElem?_map, List.getElem?_zipIdx, hd]
    simp
/-! ### for over a list or a tuple -/
theorem pi_seq {tg l : Expr} {tl : TE} (hl : PE X l tl) : PI X tg l (fun σ H R => tl σ H fun x H1 => ∃ a, x = .ref a ∧ ((∃ xs, SqL X.K H1 a xs ∧ R (Itl X.K a) H1) ∨ ∃ xs, SqT X.K H1 a xs ∧ R (Itt X.K a) H1)) := by
  refine ⟨fun pins s σ H R I h => ?_⟩
  have hA := fun (h : iList X.K tl σ H R) => (pi_list (tg := tg) hl).run pins s σ H R I h
  refine thn (hl.run pins s σ H _ I h) fun v s1 ⟨x, H1, I1, r1, a, e, q1⟩ => ?_
  subst e
  cases r1
  rcases q1 with ⟨xs, hq, q⟩ | ⟨xs, hq, q⟩
  · obtain ⟨its, rv, pl, hz⟩ := I1.list hq
    refine wpAny_pyIter_list pl.isList ⟨s1.heap.objs.size, [s1.heap.objs.size], _, _, H1, rfl, I1.kept (t' := s1.toks) fun b o e => Heap.get?_push_of_some _ e, turn_list a _, ⟨_, Heap.get?_push_size _ rfl, rfl, rfl⟩, fun b hb => ?_, q⟩
    have e : b = s1.heap.objs.size := by simpa using hb
    subst e
    exact I1.fpOk (Nat.le_refl _) (I1.hok.fresh (Nat.le_refl _))
  · obtain ⟨its, rv, pl, hz⟩ := I1.tuple hq
    refine wpAny_pyIter_tuple (show s1.heap.IsTuple a its.toArray from pl) ⟨s1.heap.objs.size, [s1.heap.objs.size], _, _, H1, rfl, I1.kept (t' := s1.toks) fun b o e => Heap.get?_push_of_some _ e, turn_tuple a _, ⟨_, Heap.get?_push_size _ rfl, rfl, rfl⟩, fun b hb => ?_, q⟩
    have e : b = s1.heap.objs.size := by simpa using hb
    subst e
    exact I1.fpOk (Nat.le_refl _) (I1.hok.fresh (Nat.le_refl _))
def D.seq : D → Option (List D)
  | .lst xs => some xs | .fls xs => some xs | .tup xs => some xs | .xtp xs => some xs
  | _ => none
@[simp] def wiS (w : Wx) : Wa := fun xc ρ Q => w xc ρ fun d => ∃ xs, d.seq = some xs ∧ Q xs
theorem ij_seq {tg : Expr} (ha : EJ .e E X a w) : IJ E X tg a (wiS w) := by
  refine ⟨(pi_seq ha.pe).imp fun σ H R' ⟨G0, H0, G, ρ, xc, R, T, q⟩ => ⟨G0, H0, G, ρ, xc, R, T, ha.mo _ _ _ _ (fun d ⟨xs, ed, q1⟩ G1 H1 v x1 r1 => ?_) q⟩, fun xc ρ Q Q' i q => ha.mo _ _ _ _ (fun d ⟨xs, ed, q⟩ => ⟨xs, ed, i _ q⟩) q⟩
  cases d with
  | tup ys =>
    cases ed
    cases r1 with | tup h r => exact ⟨_, rfl, .inr ⟨_, sqT_mono x1.gh h, q1 G1 H1 _ x1 (wk_tup h r)⟩⟩
  | xtp ys =>
    cases ed
    cases r1 with | xtp h _ _ r => exact ⟨_, rfl, .inr ⟨_, .inl (.inr ⟨_, x1.gh _ _ h⟩), q1 G1 H1 _ x1 (wk_tup (.inl (.inr ⟨_, h⟩)) r)⟩⟩
  | lst ys =>
    cases ed
    cases r1 with | lst h r => exact ⟨_, rfl, .inl ⟨_, SqL.of (x1.gh _ _ h), q1 G1 H1 _ x1 (wk_list (SqL.of h) r)⟩⟩
  | fls ys =>
    cases ed
    cases r1 with | fls h r => exact ⟨_, rfl, .inl ⟨_, x1.gh.seq h, q1 G1 H1 _ x1 (wk_list h r)⟩⟩
  | _ => cases ed
end
end Tw

/-! Tw, part J: objects of own classes. -/
namespace Tw
open PySem PySem.Spec L2 PyProof.Rows

/-! ### attributes -/
theorem rfs_put {K : PySem.W.Frag} {G : Hp} {f : Str} {d : D} {v : V} (h : Rp K G d v) : ∀ {fs : List (Str × D)} {vf : List (Str × V)}, Rfs K G fs vf → Rfs K G (putD f d fs) (putF f v vf)
  | _, _, .nil => .cons h .nil
  | _, _, .cons (f := g) q r => by
    unfold putD putF
    by_cases e : g = f
    · rw [if_pos e, if_pos e]; exact .cons h r
    · rw [if_neg e, if_neg e]; exact .cons q (rfs_put h r)
section
variable {X : Cx} {K : PySem.W.Frag} {E : XK} {e a b c o : Expr} {es : List Expr} {w wa wb wc : Wx} {k ka kb : Kd} {pos p : Pos} {u : Wa} {st : Stmt} {rest body : List Stmt} {s s1 s2 : Ws}
theorem rvO_obj {G H : Hp} {C : Addr} {fs : List (Str × D)} {v : V} (g : Same G H) (h : RvO K G H (.obj C fs) v) : ∃ p dx vf, v = .ref p ∧ H p = some (.ins C dx vf) ∧ Rfs K G fs vf := by
  rcases h with h | ⟨p, o, e, e2, t⟩
  · cases h with | obj h r => exact ⟨_, _, _, rfl, g _ _ h, r⟩
  · cases o <;> exact t.elim
def wFld (C : Addr) (f : Str) (w : Wx) : Wx := fun xc ρ Q => w xc ρ fun d => ∃ fs v, d = .obj C fs ∧ fs.lookup f = some v ∧ Q v
theorem ej_fld {C : Addr} {f : Str} (c : Cls X.K C) (n : NoAttr X.K C f) (ha : EJ k E X a w) (hb : attributeBase a f X.env (eval a X.env) = eval a X.env := by rfl) : EJ .e E X (.Attribute a f pos) (wFld C f w) := by
  refine ⟨(pe_fld ha.pe hb).imp fun σ H Q ⟨G0, H0, G, ρ, xc, R, T, q⟩ => ⟨G0, H0, G, ρ, xc, R, T, ha.mo _ _ _ _ (fun d ⟨fs, v, ed, el, q1⟩ G1 H1 vx x1 r1 => ?_) q⟩, fun xc ρ Q Q' i q => ha.mo _ _ _ _ (fun d ⟨fs, v, ed, el, q⟩ => ⟨fs, v, ed, el, i _ q⟩) q⟩
  subst ed
  obtain ⟨p, dx, vf, rfl, h1, r⟩ := rvO_obj x1.gh r1.o
  obtain ⟨vv, e2, r2⟩ := r.look el
  exact ⟨p, C, dx, vf, vv, rfl, h1, c, n, e2, q1 G1 H1 vv x1 r2⟩
theorem ej_seF {i : Nat} {f : Str} {C0 : Addr} (c : Cls X.K C0) (n : NoAttr X.K C0 f) (h : PE X a (tVar i)) (hb : attributeBase a f X.env (eval a X.env) = eval a X.env := by rfl) :
    EJ .e E X (.Attribute a f pos) (fun xc ρ Q => ∃ a fs v, ρ[i]? = some (.se a C0 fs) ∧ fs.lookup f = some v ∧ Q v) := by
  refine ⟨(pe_fld h hb).imp fun σ H Q ⟨G0, H0, G, ρ, xc, R, T, a', fs, v, hi, el, q⟩ => ?_, fun xc ρ Q Q' i ⟨a', fs, v, hi, el, q⟩ => ⟨a', fs, v, hi, el, i _ q⟩⟩
  obtain ⟨e1, dx, vf, e2, r, _⟩ := R.sl i _ hi
  obtain ⟨vv, e3, r2⟩ := r.look el
  exact ⟨_, e1, a', C0, dx, vf, vv, rfl, e2, c, n, e3, q G H vv (.refl R.gh) r2⟩
/-- self.f = e in an __init__ -/
def sFldD (i : Nat) (C : Addr) (f : Str) (w : Wx) : Ws := fun Z ρ => w Z.xc ρ fun d => ∃ a fs, ρ[i]? = some (.se a C fs) ∧ fs.length < 1000 ∧ Z.nx (ρ.set i (.se a C (putD f d fs)))
theorem Rel.fset {G0 H0 G H : Hp} {ρ : Evn} {σ : L2.St} {i : Nat} {a C dx : Addr} {fs fs' : List (Str × D)} {vf vf' : List (Str × V)} (R : Rel K G0 H0 G ρ σ H) (hi : ρ[i]? = some (.se a C fs)) (ha : H a = some (.ins C dx vf)) (r : Rfs K G fs' vf')
    (one : ∀ (j : Nat) C' fs', ρ[j]? = some (.se a C' fs') → j = i) : Rel K G0 H0 G (ρ.set i (.se a C fs')) σ (upd H a (.ins C dx vf')) := by
  obtain ⟨e1, dx', vf0, e2, t0, ga, ha0⟩ := R.sl i _ hi
  have hlt : i < ρ.length := (List.getElem?_eq_some_iff.mp hi).1
  refine ⟨by simpa using R.len, fun b u e => ?_, R.g0, fun b u e => ?_, R.gn, fun j s hj => ?_, fun j k x y b hj hk h1 h2 => ?_⟩
  · rw [upd_ne (fun z => by subst z; rw [ga] at e; cases e)]; exact R.gh _ _ e
  · rw [upd_ne (fun z => by subst z; rw [ha0] at e; cases e)]; exact R.h0 _ _ e
  · by_cases hji : j = i
    · subst hji
      rw [List.getElem?_set_self hlt] at hj
      cases hj
      exact ⟨e1, dx, vf', upd_same, r, ga, ha0⟩
    · rw [List.getElem?_set_ne (Ne.symm hji)] at hj
      have q := R.sl j s hj
      cases s with
      | no => trivial
      | da x => exact q
      | ow x =>
        obtain ⟨b, u, f1, f2, f3, f4, f5⟩ := q
        refine ⟨b, u, f1, ?_, f3, f4, f5⟩
        rw [upd_ne (fun z => by subst z; rw [ha] at f2; cases f2; exact f3.noIns)]
        exact f2
      | e0 b0 => exact q
      | ex b0 p fs0 => exact q
      | se b C' fs2 =>
        obtain ⟨f1, dx2, vf2, f2, f3⟩ := q
        refine ⟨f1, dx2, vf2, ?_, f3⟩
        rw [upd_ne (fun z => by subst z; exact hji (one j _ _ hj))]
        exact f2
  · have go : ∀ {j : Nat} {x : D}, (ρ.set i (.se a C fs'))[j]? = some (.ow x) → ρ[j]? = some (.ow x) := fun {j x} h => by
      by_cases hji : j = i
      · subst hji; rw [List.getElem?_set_self hlt] at h; cases h
      · rw [List.getElem?_set_ne (Ne.symm hji)] at h; exact h
    exact R.dj j k x y b (go hj) (go hk) h1 h2
/-- no slot but this one is under construction -/
def OneSe (ρ : Evn) (i : Nat) : Prop := ∀ (j : Nat) a C fs, ρ[j]? = some (.se a C fs) → j = i
theorem sj_fld {i : Nat} {C : Addr} {f : Str} (c : Cls X.K C) (n : NoAttr X.K C f) (ha : EJ .e E X a w) (h : PS X st (sFld X.K (tVar i) (liftW X.K E .e w) f)) : SJ E X st (fun Z ρ => OneSe ρ i ∧ sFldD i C f w Z ρ) :=
  ⟨h.imp fun D' σ H ⟨G0, H0, G, ρ, Z, R, T, one, q⟩ => ⟨G0, H0, G, ρ, Z.xc, R, T.xc, ha.mo _ _ _ _ (fun d ⟨p, fs, hi, hl, q1⟩ G1 H1 v x1 r1 => by
    have R1 := R.ext x1
    obtain ⟨e1, dx, vf, e2, r, _⟩ := R1.sl i _ hi
    refine ⟨_, e1, p, C, dx, vf, rfl, e2, c, n, by rw [← r.length]; exact hl, ?_⟩
    exact T.nx _ _ _ _ (R1.fset hi e2 (rfs_put r1 r) fun j C' fs' hj => one j _ _ _ hj) x1.gg q1) q⟩⟩

/-! ### the promise of an __init__; C(..) -/
abbrev Wi := XC → List D → (List (Str × D) → Prop) → Prop
def MoI (wf : Wi) : Prop := ∀ xc ds (Q Q' : List (Str × D) → Prop), (∀ d, Q d → Q' d) → wf xc ds Q → wf xc ds Q'
def hid (H : Hp) (p : Addr) : Hp := fun b => if b = p then none else H b
theorem hid_same {H : Hp} {p : Addr} : hid H p p = none := if_pos rfl
theorem hid_ne {H : Hp} {p b : Addr} (h : b ≠ p) : hid H p b = H b := if_neg h
def spIni (K : PySem.W.Frag) (C : Addr) (n : Nat) (wf : Wi) : Sp := fun vs H Q E => vs.length = n + 1 ∧ ∃ p dx vs' G ds xc, vs = .ref p :: vs' ∧ H p = some (.ins C dx []) ∧ G p = none ∧ Same G (hid H p) ∧ Rps K G ds vs' ∧ TieX K G (hid H p) E xc ∧
  wf xc ds fun fs => ∀ G' H' dx' vf, Ext G (hid H p) G' H' → H' p = some (.ins C dx' vf) → G' p = none → Rfs K G' fs vf → Q .non H'
theorem ini_ok {P : Program} {w0 : World} {mg : Str → Option Value} {base : Heap} {x qual : Str} {st : Stmt} {f fd C} {N ps : List Str} {k : Nat} {wf : Wi} {wb : Ws} {n : Nat} (hps : ps.length = n + 1) (F : Fun K x qual st f fd) (S : FnScope N ps (defScope st)) (hn : ∀ xc ds Q, wf xc ds Q → ds.length = n)
    (hb : ∀ (cdv : Value) (A : Around) (outer : List Env) (s : Shared) (H : Hp) (E : XK), Room k (A.deeper (envOfC qual (defScope st) s.heap.objs.size f cdv)) →
      BJ E (cxOf (L2.CX P w0) P w0 K mg base N qual (defScope st) f cdv A outer s H E) (defBody st) wb)
    (hw : ∀ xc ds (Q : List (Str × D) → Prop) p, wf xc ds Q → wb { nx := fun ρ => ∃ fs, ρ[0]? = some (.se p C fs) ∧ Q fs, rt := fun _ _ => False, xc := xc } (.se p C [] :: (ds.map .da ++ List.replicate (N.length - (ds.length + 1)) .no))) :
    FnOk P w0 K mg base (L2.CX P w0) (k + 1) f fd ps (spIni K C n wf) := by
  refine F.okX S (fun vs H Q E h => h.1.trans hps.symm) (fun cdv A outer s H vs Q E hr h => ?_)
  obtain ⟨hl, p, dx, vs', G, ds, xc, rfl, hp, gp, g, r, T, q⟩ := h
  have q' := hw xc ds _ p q
  have gH : Same G H := fun b o e => by
    have := g b o e
    unfold hid at this
    split at this
    · cases this
    · exact this
  have hH : Same (hid H p) H := fun b o e => by
    unfold hid at e
    split at e
    · cases e
    · exact e
  have lds : ds.length = n := hn _ _ _ q
  have Rs := Rel.start (N := N.tail) gH r
  refine ⟨_, (hb cdv A outer s H E hr).ps, G, hid H p, G, _, _, ⟨?_, gH, Same.refl _, hH, fun _ _ z => z, fun i sl hs => ?_, fun i j d e b hi hj _ _ => ?_⟩, ⟨?_, ?_, ?_, ?_, ?_⟩, q'⟩
  · have := r.length
    simp [L2.start]; omega
  · cases i with
    | zero =>
      simp at hs
      subst hs
      exact ⟨rfl, dx, [], hp, .nil, gp, hid_same⟩
    | succ i =>
      have hs' : (ds.map Sl.da ++ List.replicate (N.length - (ds.length + 1)) Sl.no)[i]? = some sl := by simpa using hs
      by_cases hi : i < ds.length
      · rw [List.getElem?_append_left (by simpa using hi), List.getElem?_map, List.getElem?_eq_getElem hi] at hs'
        simp at hs'
        subst hs'
        obtain ⟨v, e, rv⟩ := r.get (List.getElem?_eq_getElem hi)
        refine ⟨v, ?_, rv⟩
        unfold L2.start
        have hi2 : i < vs'.length := by rw [← r.length]; exact hi
        have e3 : vs'[i] = v := by rw [List.getElem?_eq_getElem hi2] at e; exact Option.some.inj e
        rw [List.getElem?_append_left (by simp; omega)]
        simp [hi2, e3]
      · rw [List.getElem?_append_right (by simp; omega), List.getElem?_replicate] at hs'
        split at hs'
        · cases hs'; trivial
        · cases hs'
  · exfalso
    rcases List.getElem?_eq_some_iff.mp hi with ⟨hl, he⟩
    have hm : Sl.ow d ∈ (Sl.se p C [] :: (ds.map Sl.da ++ List.replicate (N.length - (ds.length + 1)) Sl.no)) := by rw [← he]; exact List.getElem_mem hl
    simp at hm
  · rintro ρ σ G' H' R s1 ⟨fs, hi, qf⟩
    obtain ⟨e1, dx', vf, e2, rf, gp', _⟩ := R.sl 0 _ hi
    exact qf G' H' dx' vf R.ex e2 gp' rf
  · exact fun _ _ _ _ _ _ _ q => q.elim
  · exact fun _ _ _ _ _ _ q => q.elim
  · exact fun _ _ _ _ _ _ q => q.elim
  · exact T
end
end Tw

/-! Tw, part K: objects made, their methods, len of an object. -/
namespace Tw
open PySem PySem.Spec L2 PyProof.Rows
section
variable {X : Cx} {K : PySem.W.Frag} {E : XK} {e a b c o : Expr} {es : List Expr} {w wa wb wc : Wx} {k ka kb : Kd} {pos p : Pos} {u ut : Wa} {st : Stmt} {rest body : List Stmt} {s s1 s2 : Ws}
/-! ### keywords -/
structure KJ (E : XK) (X : Cx) (kws : List Keyword) (w : Wa) : Prop where
  pk : PK X kws (liftA X.K E true w)
  mo : ∀ xc ρ (Q Q' : List D → Prop), (∀ d, Q d → Q' d) → w xc ρ Q → w xc ρ Q'
theorem _root_.L2.PK.imp {X : Cx} {e : List Keyword} {t t' : TA} (h : PK X e t) (i : ∀ σ H Q, t' σ H Q → t σ H Q) : PK X e t' := ⟨fun p pins s σ H Q I q => h.run p pins s σ H Q I (i _ _ _ q)⟩
/-- C(.., k=..): gD puts the written arguments and the keywords' values (and defaults) into the parameters' order -/
structure Ctor (P : Program) (w : World) (K : PySem.W.Frag) (mg : Str → Option Value) (base : Heap) (x : Str) (C : Addr) (n : Nat) (ks : List Str) (j : Nat) (gD : List D → List D → List D) (wi : Wi) : Prop where
  ex : ∃ (f : Addr) (fd : FuncData) (ps : List Str) (g : List Value → List Value → List Value) (gV gR : List V → List V → List V) (m : Nat), Mk K C f ∧ FnOk P w K mg base (L2.CX P w) j f fd ps (spIni K C m wi) ∧ KBn K fd ps (n + 1) ks g gV ∧ mg x = some (.ref C) ∧
    (∀ x vs zs, vs.length = n → zs.length = ks.length → gV (V.ref x :: vs) zs = V.ref x :: gR vs zs) ∧ (∀ G ds es vs zs, Rps K G ds vs → Rps K G es zs → Rps K G (gD ds es) (gR vs zs)) ∧
    (∀ ds xc Q, wi xc ds Q → ds.length = m)
  mo : MoI wi
def wMakeK (C : Addr) (n m : Nat) (gD : List D → List D → List D) (wi : Wi) (u ut : Wa) : Wx := fun xc ρ Q => u xc ρ fun ds => ut xc ρ fun es => ds.length = n ∧ es.length = m ∧ wi xc (gD ds es) fun fs => Q (.obj C fs)
theorem same_hid {H G' : Hp} {x : Addr} (hx : H x = none) {H' : Hp} (h : Same H H') : Same H (hid H' x) := fun b o q => by
  rw [hid_ne (ne_of_none q hx)]; exact h _ _ q
theorem ini_go {G1 H1 : Hp} {C x dx : Addr} {n : Nat} {wi : Wi} {Q : VK} {xc : XC} {ds : List D} {vs : List V} {Qd : List (Str × D) → Prop} (g1 : Same G1 H1) (hx : H1 x = none) (hdx : H1 dx = none) (ne : dx ≠ x) (r : Rps K G1 ds vs) (hl : vs.length = n) (T : TieX K G1 H1 E xc) (mo : MoI wi)
    (q : wi xc ds Qd) (fin : ∀ fs, Qd fs → ∀ G' H' v, Ext G1 H1 G' H' → Rp K G' (.obj C fs) v → Q v H') :
    spIni K C n wi (.ref x :: vs) (upd (upd H1 dx (.own x)) x (.ins C dx [])) (fun v H2 => v = .non ∧ Q (.ref x) H2) E := by
  have g2 : Same H1 (hid (upd (upd H1 dx (.own x)) x (.ins C dx [])) x) := same_hid (G' := G1) hx (fun b o q => by rw [upd_ne (ne_of_none q hx), upd_ne (ne_of_none q hdx)]; exact q)
  have gn : ∀ b, hid (upd (upd H1 dx (.own x)) x (.ins C dx [])) x b ≠ none → b = dx ∨ H1 b ≠ none := fun b hb => by
    by_cases h1 : b = x
    · rw [h1, hid_same] at hb; exact absurd rfl hb
    · rw [hid_ne h1, upd_ne h1] at hb
      by_cases h2 : b = dx
      · exact .inl h2
      · rw [upd_ne h2] at hb; exact .inr hb
  refine ⟨by simp [hl], x, dx, vs, G1, ds, xc, rfl, upd_same, g1.free hx, g1.trans g2, r, fun C' fs G' H' d2 x2 h qx => ?_, mo _ _ _ _ (fun fs qf G' H' dx' vf x2 hp gp rf => ?_) q⟩
  · refine T C' fs G' H' d2 ⟨x2.gg, g2.trans x2.hh, x2.gh, fun b hb gb => x2.gn b (Same.nn g2 hb) gb⟩ ?_ qx
    cases d2 with
    | none => exact h
    | some p => exact ⟨g2.free h.1, h.2⟩
  · refine ⟨rfl, fin fs qf (upd G' x (.ins C dx' vf)) H' _ ⟨x2.gg.trans (same_upd gp), g2.trans x2.hh, fun b o e => ?_, fun b hb gb => ?_⟩ (.obj upd_same (rf.mono (same_upd gp)))⟩
    · by_cases z : b = x
      · subst z; rw [upd_same] at e; cases e; exact hp
      · rw [upd_ne z] at e; exact x2.gh _ _ e
    · rw [upd_ne (fun z => hb (by rw [z]; exact hx))]
      exact x2.gn b (Same.nn g2 hb) gb
theorem ej_makeK {x : Str} {C : Addr} {n j : Nat} {ks : List Str} {gD : List D → List D → List D} {wi : Wi} {kws : List Keyword} (F : Ctor X.prog X.w X.K X.mg X.base x C n ks j gD wi) (hr : Room (j + 1) X.A) (hg : Gl X x) (hx : Passes (L2.CX X.prog X.w) X E) (ha : AJ true E X (e :: es) u) (hk : KJ E X kws ut)
    (h1 : ((backToKw pos (keywordEach kws X.env)).all fun x => x.1.isSome) = true := by rfl) (h2 : List.filterMap (fun x => x.1) (backToKw pos (keywordEach kws X.env)) = ks := by rfl) (h3 : (x == ("__debug__" : Str)) = false := by decide)
    (h4 : starEach (e :: es) X.env = (false, eval e X.env) :: starEach es X.env := by rfl) (h5 : (((backTo pos (starEach (e :: es) X.env)).any fun x => x.1) || (backToKw pos (keywordEach kws X.env)).any fun x => x.1.isNone) = false := by rfl) :
    EJ .e E X (.Call (.Name x p) (e :: es) kws pos) (wMakeK C n ks.length gD wi u ut) := by
  obtain ⟨f, fd, ps, g, gV, gR, m, M, Fo, hb, hm, hv, hd, hn⟩ := F.ex
  refine ⟨(pe_makeK M Fo hr hg hm hb hx ha.pa hk.pk h1 h2 h3 h4 h5).imp fun σ H Q ⟨G0, H0, G, ρ, xc, R, T, q⟩ => ⟨G0, H0, G, ρ, xc, R, T, ha.mo _ _ _ _ (fun ds q1 G1 H1 vs x1 r1 => ?_) q⟩, fun xc ρ Q Q' i q => ha.mo _ _ _ _ (fun ds q => hk.mo _ _ _ _ (fun es q => ⟨q.1, q.2.1, F.mo _ _ _ _ (fun fs q => i _ q) q.2.2⟩) q) q⟩
  rw [if_pos rfl] at r1
  refine ⟨G0, H0, G1, ρ, xc, R.ext x1, T, hk.mo _ _ _ _ (fun es ⟨l1, l2, q2⟩ G2 H2 zs x2 r2 => ?_) q1⟩
  rw [if_pos rfl] at r2
  have lv : vs.length = n := by rw [← r1.length]; exact l1
  have lz : zs.length = ks.length := by rw [← r2.length]; exact l2
  refine ⟨lv, lz, fun y dx hy hdx ne => ?_⟩
  rw [hv y vs zs lv lz]
  have r3 := hd G2 ds es vs zs (r1.mono x2.gg) r2
  exact ini_go x2.gh hy hdx ne r3 (by rw [← r3.length]; exact hn _ _ _ q2) (T.later (R.ex.trans (x1.trans x2))) F.mo q2 fun fs qf G' H' v x3 r4 => qf G' H' v (x1.trans (x2.trans x3)) r4

/-! ### methods -/
structure MDef (P : Program) (w : World) (K : PySem.W.Frag) (mg : Str → Option Value) (base : Heap) (C : Addr) (m : Str) (n j : Nat) (wf : Wf) : Prop where
  ex : ∃ f fd ps, FnOk P w K mg base (L2.CX P w) j f fd ps (spOf K n wf) ∧ Meth K C m f ∧ Binds K fd ps []
  cl : Cls K C
  mo : MoF wf
  hn : ∀ ds xc Q, wf xc ds Q → ds.length = n
def wMeth (C : Addr) (m : Str) (wf : Wf) (w : Wx) (u : Wa) : Wx := fun xc ρ Q => w xc ρ fun d => ∃ fs, d = .obj C fs ∧ fs.lookup m = none ∧ u xc ρ fun ds => wf xc (d :: ds) fun _ v => Q v
def wMethF (C : Addr) (m : Str) (wf : Wf) (w : Wx) (u : Wa) : Wx := fun xc ρ Q => w xc ρ fun d => ∃ fs, d = .obj C fs ∧ fs.lookup m = none ∧ u xc ρ fun ds => wf xc (d :: ds) fun fr v => fr = true ∧ Q v
theorem meth_pe {C : Addr} {m : Str} {n : Nat} {wf : Wf} (mo : MoF wf) (hn : ∀ ds xc Q, wf xc ds Q → ds.length = n) (ho : EJ .e E X o w) (h : AJ true E X es u) (hpe : PE X e (tMeth C m (spOf X.K n wf) [] E (liftW X.K E .e w) (liftA X.K E true u))) :
    EJ .e E X e (wMeth C m wf w u) := by
  refine ⟨hpe.imp fun σ H Q ⟨G0, H0, G, ρ, xc, R, T, q⟩ => ⟨G0, H0, G, ρ, xc, R, T, ho.mo _ _ _ _ (fun d ⟨fs, ed, el, q1⟩ G1 H1 v x1 r1 => ?_) q⟩, fun xc ρ Q Q' i q => ho.mo _ _ _ _ (fun d ⟨fs, ed, el, q⟩ => ⟨fs, ed, el, h.mo _ _ _ _ (fun ds q => mo _ _ _ _ (fun fr v q => i _ q) q) q⟩) q⟩
  subst ed
  obtain ⟨a, dx, vf, rfl, ha, rf⟩ := rvO_obj x1.gh (.inl r1)
  refine ⟨a, dx, vf, rfl, ha, rf.lookN el, G0, H0, G1, ρ, xc, R.ext x1, T, h.mo _ _ _ _ (fun ds q2 G2 H2 vs x2 r2 => ?_) q1⟩
  rw [if_pos rfl] at r2
  have r3 : Rps X.K G2 (.obj C fs :: ds) (V.ref a :: (vs ++ [])) := by rw [List.append_nil]; exact .cons (Rp.mono x2.gg r1) r2
  refine ⟨by rw [← r3.length]; exact hn _ _ _ q2, G2, _, xc, x2.gh, r3, T.later (R.ex.trans (x1.trans x2)), mo _ _ _ _ (fun fr d q3 G' H' v x3 r4 => ?_) q2⟩
  have x13 := x1.trans x2
  cases fr with
  | false => exact q3 G' H' v (x13.trans x3) r4
  | true =>
    obtain ⟨G3, x4, r5⟩ := RvF.frz x3 r4
    exact q3 G3 H' v (x13.trans x4) r5
theorem ej_meth {C : Addr} {m : Str} {n j : Nat} {wf : Wf} {pl : Sem Bool} {apos : Pos} (F : MDef X.prog X.w X.K X.mg X.base C m n j wf) (hr : Room j X.A) (hx : Passes (L2.CX X.prog X.w) X E) (ho : EJ .e E X o w) (h : AJ true E X (e :: es) u)
    (h1 : starEach (e :: es) X.env = (false, eval e X.env) :: starEach es X.env := by rfl) (h2 : (backTo pos (starEach es X.env)).any (·.1) = false := by rfl)
    (h3 : eval (.Call (.Attribute o m apos) (e :: es) [] pos) X.env = (do
      let ov ← eval o X.env
      standAt apos.atName
      let (f, first) ← holding [ov] (getMethod ov m pl)
      callWith pos f first (backTo pos (starEach (e :: es) X.env)) (backToKw pos (keywordEach [] X.env))) := by rfl) :
    EJ .e E X (.Call (.Attribute o m apos) (e :: es) [] pos) (wMeth C m wf w u) := by
  obtain ⟨f, fd, ps, Fo, hm, b⟩ := F.ex
  exact meth_pe F.mo F.hn ho h (pe_meth ho.pe F.cl hm Fo hr b .nil hx h.pa h1 h2 h3)
/-! ### len of an object -/
def rLenO (K : PySem.W.Frag) (C : Addr) (sp : Sp) (E : XK) : List V → Hp → VK → Prop := fun xs H Q => ∃ a dx fs, xs = [V.ref a] ∧ H a = some (.ins C dx fs) ∧ sp [.ref a] H (fun v H' => ∃ n : Int, v = .int n ∧ (0 ≤ n ∧ n < 2 ^ 63) ∧ Q (.int n) H') E
theorem call_lenO {C f : Addr} {fd : FuncData} {ps : List Str} {j : Nat} {sp : Sp} (F : FnOk X.prog X.w X.K X.mg X.base (L2.CX X.prog X.w) j f fd ps sp) (hm : Meth X.K C "__len__" f) (hb : Binds X.K fd ps []) (hr : Room (j + 1) X.A) (hx : Passes (L2.CX X.prog X.w) X E) :
    CallR X (.builtin "len") (rLenO X.K C sp E) := by
  intro pins s σ H xs us Q I r h
  obtain ⟨a, dx, fs, rfl, ha, q⟩ := h
  rw [Vals.ref1 r]
  obtain ⟨mA, J, _⟩ := ins_get I.hok ha
  obtain ⟨od, J, _⟩ := J.look
  obtain ⟨m, hF⟩ := I.fr
  refine PySem.W.len_K hF I.ok.mod.kin J hm.at_ hm.fn ?_
  have e0 : Env0 X.prog X.w X.K X.mg X.base X.A.in1 X.stack s H := I.env0.in1
  have hl := F.len _ _ _ _ q
  have r2 : Vals [V.ref a] [Value.ref a] := .cons rfl .nil
  refine wpAny_call (codeAny_mono (F.run X.A.in1 X.stack s H ⟨[.ref a], []⟩ [.ref a] [.ref a] _ E hr.in1 e0 (by
    have := hb s [.ref a] I.kIn (by simpa using hl)
    simpa using this) r2 q) fun r s' hq => ?_)
  cases r with
  | error e => exact hx pins σ H s e s' I hq
  | ok fl =>
    cases fl with
    | ret u =>
      obtain ⟨z, H', I', rz, n, ez, hn, qn⟩ := I.after hq
      subst ez
      obtain ⟨t, rfl⟩ := rz
      exact ⟨hn, .int n, H', I'.tok _, ⟨_, rfl⟩, qn⟩
    | next => exact False.elim hq
    | brk => exact False.elim hq
    | cont => exact False.elim hq
def wLenO (C : Addr) (wf : Wf) (w : Wx) : Wx := fun xc ρ Q => w xc ρ fun d => ∃ fs, d = .obj C fs ∧ wf xc [d] fun _ v => ∃ n : Int, v = .int n ∧ (0 ≤ n ∧ n < 2 ^ 63) ∧ Q v
theorem ej_lenO {C : Addr} {j : Nat} {wf : Wf} (F : MDef X.prog X.w X.K X.mg X.base C "__len__" 1 j wf) (hr : Room (j + 1) X.A) (hx : Passes (L2.CX X.prog X.w) X E) (ha : EJ .e E X a w) (hg : Gl X "len") (hm : X.mg "len" = none)
    (hst : starEach [a] X.env = (false, eval a X.env) :: starEach [] X.env := by rfl) : EJ .e E X (.Call (.Name "len" p) [a] [] pos) (wLenO C wf w) := by
  obtain ⟨f, fd, ps, Fo, hme, b⟩ := F.ex
  have h := pe_callB (p := p) (pos := pos) (call_lenO Fo hme b hr hx) hg hm PySem.boot_len (pa_cons ha.pe pa_nil hst) (by decide) (by decide) hst rfl
  refine ⟨h.imp fun σ H Q ⟨G0, H0, G, ρ, xc, R, T, q⟩ => ⟨G0, H0, G, ρ, xc, R, T, ha.mo _ _ _ _ (fun d ⟨fs, ed, q1⟩ G1 H1 v x1 r1 => ?_) q⟩, fun xc ρ Q Q' i q => ha.mo _ _ _ _ (fun d ⟨fs, ed, q⟩ => ⟨fs, ed, F.mo _ _ _ _ (fun fr v ⟨n, en, hn, q⟩ => ⟨n, en, hn, i _ q⟩) q⟩) q⟩
  subst ed
  obtain ⟨l, dx, vf, rfl, hl, rf⟩ := rvO_obj x1.gh (.inl r1)
  refine ⟨l, dx, vf, rfl, hl, rfl, G1, _, xc, x1.gh, .cons r1 .nil, T.later (R.ex.trans x1), F.mo _ _ _ _ (fun fr d ⟨n, en, hn, q2⟩ G' H' v x2 r2 => ?_) q1⟩
  subst en
  have e3 : v = .int n := by
    cases fr with
    | false => exact rvO_int (G := G') (H := H') (.inl r2)
    | true => obtain ⟨_, o, _, _, _, t, _⟩ := r2; cases o <;> exact t.elim
  exact ⟨n, e3, hn, q2 G' H' _ (x1.trans x2) (.int n)⟩
end
end Tw

/-! Tw, part L: short rules, one a construct. -/
namespace Tw
open PySem PySem.Spec L2 PyProof.Rows
theorem units65 {A : Around} {k : Nat} (r : Room k A) : A.units + 65 < cLine := by have := r.un; omega
section
variable {X : Cx} {K : PySem.W.Frag} {E : XK} {e a b c o : Expr} {es : List Expr} {w wa wb wc : Wx} {k ka kb kc : Kd} {pos p pos' : Pos} {u ut : Wa} {st : Stmt} {rest body : List Stmt} {s s1 s2 : Ws} {i : Nat} {x : Str}
/-! built-in functions -/
theorem ej_len (hg : Gl X "len") (hm : X.mg "len" = none) (ha : EJ k E X a w) (hst : starEach [a] X.env = (false, eval a X.env) :: starEach [] X.env := by rfl) : EJ .e E X (.Call (.Name "len" p) [a] [] pos) (wN oLen (waCons w waNil)) :=
  let h := aj_consO ha (aj_nil (kk := false)) hst
  ej_N h (pe_callB call_len hg hm PySem.boot_len h.pa (by decide) (by decide) hst rfl) brg_len
theorem ej_abs (hg : Gl X "abs") (hm : X.mg "abs" = none) (ha : EJ k E X a w) (hst : starEach [a] X.env = (false, eval a X.env) :: starEach [] X.env := by rfl) : EJ .e E X (.Call (.Name "abs" p) [a] [] pos) (wN oAbs (waCons w waNil)) :=
  let h := aj_consO ha (aj_nil (kk := false)) hst
  ej_N h (pe_callB call_abs hg hm (by decide +kernel) h.pa (by decide) (by decide) hst rfl) brg_abs
theorem ej_int1 (hg : Gl X "int") (hm : X.mg "int" = none) (ha : EJ k E X a w) (hst : starEach [a] X.env = (false, eval a X.env) :: starEach [] X.env := by rfl) : EJ .e E X (.Call (.Name "int" p) [a] [] pos) (wN oInt (waCons w waNil)) :=
  let h := aj_consO ha (aj_nil (kk := false)) hst
  ej_N h (pe_callTy call_int1 hg hm (by decide +kernel) h.pa (by decide) (by decide) hst rfl) brg_int
theorem ej_list1 (hg : Gl X "list") (hm : X.mg "list" = none) (ha : EJ k E X a w) (hst : starEach [a] X.env = (false, eval a X.env) :: starEach [] X.env := by rfl) : EJ .f E X (.Call (.Name "list" p) [a] [] pos) (wN oList (waCons w waNil)) :=
  let h := aj_consO ha (aj_nil (kk := false)) hst
  ej_N h (pe_callTy call_list_of hg hm (by decide +kernel) h.pa (by decide) (by decide) hst rfl) brg_list
theorem ej_tuple1 (hg : Gl X "tuple") (hm : X.mg "tuple" = none) (ha : EJ k E X a w) (hst : starEach [a] X.env = (false, eval a X.env) :: starEach [] X.env := by rfl) : EJ .e E X (.Call (.Name "tuple" p) [a] [] pos) (wN oTuple (waCons w waNil)) :=
  let h := aj_consO ha (aj_nil (kk := false)) hst
  ej_N h (pe_callTy call_tuple_of hg hm (by decide +kernel) h.pa (by decide) (by decide) hst rfl) brg_tuple
theorem ej_sortI (hg : Gl X "sorted") (hm : X.mg "sorted" = none) (ha : EJ k E X a w) (hst : starEach [a] X.env = (false, eval a X.env) :: starEach [] X.env := by rfl) : EJ .f E X (.Call (.Name "sorted" p) [a] [] pos) (wN oSortI (waCons w waNil)) :=
  let h := aj_consO ha (aj_nil (kk := false)) hst
  ej_N h (pe_callB cr_sortedI hg hm (by decide +kernel) h.pa (by decide) (by decide) hst rfl) brg_sortI
theorem ej_all1 (hc : X.calm = true) (hg : Gl X "all") (hm : X.mg "all" = none) (ha : EJ k E X a w) (hst : starEach [a] X.env = (false, eval a X.env) :: starEach [] X.env := by rfl) : EJ .e E X (.Call (.Name "all" p) [a] [] pos) (wN oAll (waCons w waNil)) :=
  let h := aj_consO ha (aj_nil (kk := false)) hst
  ej_N h (pe_callB (cr_all hc) hg hm (by decide +kernel) h.pa (by decide) (by decide) hst rfl) brg_all
/-- a constant of the module -/
theorem ej_glob {d : D} {v : V} (hg : Gl X x) (h : ∃ u, X.mg x = some u ∧ RelV v u) (r : ∀ G, Rp X.K G d v) (hd : (x == ("__debug__" : Str)) = false := by decide) : EJ .e E X (.Name x pos) (wC d) := by
  obtain ⟨u, h1, h2⟩ := h
  exact ej_c (pe_glob hg h1 h2 hd) r
/-! tests -/
theorem tj_ch2 {op op' : CmpOp} {f f' : Op2} {r r' : R2} (B : Brg2 X.K .e f r) (B' : Brg2 X.K .e f' r') (ho : OpR X (compareOp op) r) (ho' : OpR X (compareOp op') r') (ha : EJ ka E X a wa) (hb : EJ kb E X b wb) (hc : EJ kc E X c wc) (hl : lastMarks [op, op'] [b, c] = false := by rfl) :
    TJ E X (.Compare a [op, op'] [b, c] pos) (wB (wCh f f' wa wb wc)) := tj_ch ha hb hc (pt_chain ho ho' ha.pe hb.pe hc.pe hl) B B'
theorem ej_ch2 {op op' : CmpOp} {f f' : Op2} {r r' : R2} (B : Brg2 X.K .e f r) (B' : Brg2 X.K .e f' r') (ho : OpR X (compareOp op) r) (ho' : OpR X (compareOp op') r') (ha : EJ ka E X a wa) (hb : EJ kb E X b wb) (hc : EJ kc E X c wc) (hl : lastMarks [op, op'] [b, c] = false := by rfl) :
    EJ .e E X (.Compare a [op, op'] [b, c] pos) (wCh f f' wa wb wc) := ej_ch ha hb hc (pe_chain ho ho' ha.pe hb.pe hc.pe hl) B B'
/-- a and b, a or b as a value, a True or False -/
@[simp] def wAndV (wa wb : Wx) : Wx := fun xc ρ Q => wa xc ρ fun x => ∃ t, x = .bl t ∧ if t = true then wb xc ρ Q else Q (.bl false)
@[simp] def wOrV (wa wb : Wx) : Wx := fun xc ρ Q => wa xc ρ fun x => ∃ t, x = .bl t ∧ if t = true then Q (.bl true) else wb xc ρ Q
/-! statements -/
theorem sj_name (nd : X.N.Nodup) (hi : X.N[i]? = some x) (hx : Loc X.env.scope x) (he : EJ .e E X e w) (hs : swapsWith e (some (.Name x pos')) pos.line X.env = pure false := by rfl) (hf : X.fn x = true ∨ X.env.scope.names.lookup x = some .local := by first | exact .inl rfl | exact .inr rfl) :
    SJ E X (.Assign [.Name x pos'] e pos) (sSet i w) := sj_set he (ps_set nd hi hx he.pe hs hf)
theorem sj_nameO (nd : X.N.Nodup) (hi : X.N[i]? = some x) (hx : Loc X.env.scope x) (he : EJ .f E X e w) (hs : swapsWith e (some (.Name x pos')) pos.line X.env = pure false := by rfl) (hf : X.fn x = true ∨ X.env.scope.names.lookup x = some .local := by first | exact .inl rfl | exact .inr rfl) :
    SJ E X (.Assign [.Name x pos'] e pos) (sSetO i w) := sj_setO he (ps_set nd hi hx he.pe hs hf)
/-- y = [..] -/
theorem frz_asg (h : PS X st (tAsg (liftW X.K E .f w) (gName i))) (he : EJ .f E X e w) : PS X st (tAsg (liftW X.K E .e w) (gName i)) := h.imp fun D' σ H ⟨G0, H0, G, ρ, xc, R, T, q⟩ => ⟨G0, H0, G, ρ, xc, R, T, he.mo _ _ _ _ (fun d hd G' H' v x1 r1 => by
  obtain ⟨G2, x2, r2⟩ := RvF.frz x1 r1
  exact hd G2 H' v x2 r2) q⟩
theorem sj_compO (h : PS X st (tAsg (liftW X.K E .f w) (gName i)) ∧ EJ .f E X e w) : SJ E X st (sSetO i w) := sj_setO h.2 h.1
theorem sj_comp (h : PS X st (tAsg (liftW X.K E .f w) (gName i)) ∧ EJ .f E X e w) : SJ E X st (sSet i w) := sj_set h.2.toE (frz_asg h.1 h.2)
theorem sj_tgt {tg : Expr} {tgs : List Nat} {g : Wg} (hg : GJ X tg tgs g) (he : EJ .e E X e w) (h1 : swapsWithSole [tg] e pos.line X.env = pure false := by rfl) (h2 : swappedStores [tg] e X.env = pure none := by rfl) (h3 : (assignEach [tg] X.env).map (·.2) = [assign tg X.env] := by rfl) :
    SJ E X (.Assign [tg] e pos) (sAsg w g) := sj_asg he hg (ps_asg he.pe hg.pg h1 h2 h3)
theorem sj_expr (he : EJ k E X e w) (hs : swapsWith e none pos.line X.env = pure false := by rfl) : SJ E X (.Expr e pos) (sExp w) := sj_exp he (ps_expr he.pe hs)
theorem sj_append {apos cpos : Pos} {n : Expr} (hv : PE X n (tVar i)) (he : EJ .e E X e w)
    (h1 : attributeBase n "append" X.env (eval n X.env) = eval n X.env := by rfl) (h2 : ((backTo cpos (starEach [e] X.env)).all (fun x => !x.1) && (backToKw cpos (keywordEach [] X.env)).all (fun x => x.1.isSome) && decide ([e].length + ([] : List Keyword).length + (if ([] : List Keyword).isEmpty = true then 0 else 1) < 30)) = true := by rfl)
    (h3 : (apos.endLine == cpos.line) = true := by rfl) (hst : starEach [e] X.env = (false, eval e X.env) :: starEach [] X.env := by rfl) (hs : swapsWith (.Call (.Attribute n "append" apos) [e] [] cpos) none pos.line X.env = pure false := by rfl) :
    SJ E X (.Expr (.Call (.Attribute n "append" apos) [e] [] cpos) pos) (sApp i w) :=
  sj_app (name := "append") (id := "list.append") he (ps_expr (pe_bm PySem.F.plainAttrs_list PySem.F.slot_list_append PySem.F.type_list_append mt_append hv (pa_cons he.pe pa_nil hst) h1 h2 h3 hst rfl) hs)
theorem sj_dput {n : Expr} {kk : Nat} {tp : Pos} (hu : X.A.units + 1 < cLine) (hv : PE X n (tVar i)) (hk : AJ true E X es u) (hb : EJ .e E X b wb) (hs : swapsWith b (some (.Subscript n (.Tuple es kk tp) pos')) pos.line X.env = pure false := by rfl) :
    SJ E X (.Assign [.Subscript n (.Tuple es kk tp) pos'] b pos) (sPutT i u wb) := sj_putT hk hb (ps_dput hu hv (pe_tup hk.pa) hb.pe hs)
theorem tj_dinT {kk : Nat} {tp : Pos} (hu : X.A.units + 1 < cLine) (hk : AJ true E X es u) (hd : EJ kb E X b wb) (h1 : behindInMarks .In b = false := by rfl) : TJ E X (.Compare (.Tuple es kk tp) [.In] [b] pos) (wB (wInT u wb)) := tj_inT hk hd (pt_cmp (pc_din hu (pe_tup hk.pa) hd.pe) h1)
theorem sj_fset {n : Expr} {f : Str} {C : Addr} (c : Cls X.K C) (no : NoAttr X.K C f) (hv : PE X n (tVar i)) (he : EJ .e E X e w) (hs : swapsWith e (some (.Attribute n f pos')) pos.line X.env = pure false := by rfl) :
    SJ E X (.Assign [.Attribute n f pos'] e pos) (fun Z ρ => OneSe ρ i ∧ sFldD i C f w Z ρ) := sj_fld c no he (ps_fld hv he.pe hs)
end
end Tw

/-! Tw, part M: more short rules. -/
namespace Tw
open PySem PySem.Spec L2 PyProof.Rows
section
variable {X : Cx} {K : PySem.W.Frag} {E : XK} {e a b c o : Expr} {es : List Expr} {w wa wb wc : Wx} {k ka kb kc : Kd} {pos p pos' : Pos} {u ut : Wa} {st : Stmt} {rest body : List Stmt} {s s1 s2 : Ws} {i : Nat} {x : Str}
theorem ej_toE (h : EJ .f E X e w) : EJ .e E X e w := h.toE
theorem tj_tw {wt : Wt} (h : TWJ E X e wt) : TJ E X e wt := h.t
theorem ej_b1 {op : BoolOp} (ha : EJ .e E X a wa) : EJ .e E X (.BoolOp op [a] pos) wa := ⟨pe_one ha.pe, ha.mo⟩
theorem ej_andV {rs : List Expr} (ha : EJ .e E X a wa) (hb : EJ .e E X (.BoolOp .And (b :: rs) pos) wb) : EJ .e E X (.BoolOp .And (a :: b :: rs) pos) (wAndV wa wb) := by
  refine ⟨(pe_and ha.pe hb.pe).imp fun σ H Q ⟨G0, H0, G, ρ, xc, R, T, q⟩ => ⟨G0, H0, G, ρ, xc, R, T, ha.mo _ _ _ _ (fun d ⟨t, ed, q1⟩ G1 H1 v x1 r1 => ?_) q⟩, fun xc ρ Q Q' i q => ha.mo _ _ _ _ (fun d ⟨t, ed, q⟩ => ⟨t, ed, ?_⟩) q⟩
  · subst ed
    refine ⟨t, rvO_bl r1.o, ?_⟩
    cases t with
    | true => rw [if_pos rfl] at q1; exact iteT ⟨G0, H0, G1, ρ, xc, R.ext x1, T, hb.mo _ _ _ _ (fun y q2 G2 H2 v x2 r => q2 G2 H2 v (x1.trans x2) r) q1⟩
    | false => rw [if_neg Bool.false_ne_true] at q1; exact iteF (q1 G1 H1 _ x1 (.bl _))
  · cases t with
    | true => rw [if_pos rfl] at q ⊢; exact hb.mo _ _ _ _ i q
    | false => rw [if_neg Bool.false_ne_true] at q ⊢; exact i _ q
@[simp] def wNotV (w : Wx) : Wx := fun xc ρ Q => w xc ρ fun d => ∃ t, d = .bl t ∧ Q (.bl (!t))
theorem ej_not1 (ha : EJ k E X a w) : EJ .e E X (.UnaryOp .Not a pos) (wNotV w) := by
  refine ⟨(pe_not ha.pe).imp fun σ H Q ⟨G0, H0, G, ρ, xc, R, T, q⟩ => ⟨G0, H0, G, ρ, xc, R, T, ha.mo _ _ _ _ (fun d ⟨t, ed, q1⟩ G1 H1 v x1 r1 => ?_) q⟩, fun xc ρ Q Q' i q => ha.mo _ _ _ _ (fun d ⟨t, ed, q⟩ => ⟨t, ed, i _ q⟩) q⟩
  subst ed
  exact ⟨t, rvO_bl r1.o, q1 G1 H1 _ x1 (.bl _)⟩
/-! for over a text -/
def signsD (z : Str) : List D := z.cps.toList.map fun c => .str ⟨#[c]⟩
theorem wk_str {G : Hp} (z : Str) : Wk K (Its z) G (signsD z) where
  stop := fun G' H' _ _ => by show z.cps.size ≤ (signsD z).length; simp [signsD]
  go := fun i G' H' hi _ _ => by show i < z.cps.size; simpa [signsD] using hi
  yld := fun i G' H' x H2 hi g1 g2 ⟨ee, cc, hc, ev⟩ => by
    subst ee ev
    exact ⟨G', .str ⟨#[cc]⟩, .refl g2, by simp [signsD, hc], .str _⟩
def wiStr (w : Wx) : Wa := fun xc ρ Q => w xc ρ fun d => ∃ z, d = .str z ∧ Q (signsD z)
theorem ij_str {tg : Expr} (ha : EJ k E X a w) : IJ E X tg a (wiStr w) := by
  refine ⟨(pi_str ha.pe).imp fun σ H R' ⟨G0, H0, G, ρ, xc, R, T, q⟩ => ⟨G0, H0, G, ρ, xc, R, T, ha.mo _ _ _ _ (fun d ⟨z, ed, q1⟩ G1 H1 v x1 r1 => ?_) q⟩, fun xc ρ Q Q' i q => ha.mo _ _ _ _ (fun d ⟨z, ed, q⟩ => ⟨z, ed, i _ q⟩) q⟩
  subst ed
  exact ⟨z, rvO_str r1.o, q1 G1 H1 _ x1 (wk_str z)⟩
theorem gsj_name {tgs : List Nat} {gs : Wgs} (h1 : GJ X e [i] (gSet i)) (h2 : GsJ X es tgs gs) (hs : (assignEach (e :: es) X.env).map (·.2) = assign e X.env :: (assignEach es X.env).map (·.2) := by rfl) : GsJ X (e :: es) (i :: tgs) (gsCons (gSet i) gs) := gsj_cons h1 h2 hs
/-- y = [..] -/
theorem sj_compS {tg iter elt : Expr} {ifs : List Expr} {scope : Scope} {own : List (Str × Nat)} {wi : Wa} {tgs : List Nat} {g : Wg} {tt : Wt} {we : Wx} {y : Str} {py spos : Pos} (hc : X.calm = true) (hN : X.N.Nodup) (hy : X.N[i]? = some y) (hyl : X.env.scope.names.lookup y = some .local)
    (hsw : swapsWith (.ListComp elt [⟨tg, iter, ifs, 0⟩] scope pos) (some (.Name y py)) spos.line X.env = pure true) (ok : BlkOk X.N X.env.scope scope own)
    (hi : IJ E X tg iter wi) (hsub : ∀ t ∈ tgs, t ∈ own.map (·.2))
    (hg : ∀ (s : Shared) (H : Hp) (C : Addr) (cl : List (Str × Addr)) (fp : List Addr), GJ (X.blk s H scope (compEnvC scope cl C X.env) fp) tg tgs g)
    (ht : ∀ (s : Shared) (H : Hp) (C : Addr) (cl : List (Str × Addr)) (fp : List Addr), TsJ E0 (X.blk s H scope (compEnvC scope cl C X.env) fp) ifs tt)
    (he : ∀ (s : Shared) (H : Hp) (C : Addr) (cl : List (Str × Addr)) (fp : List Addr), EJ .e E0 (X.blk s H scope (compEnvC scope cl C X.env) fp) elt we)
    (hs : ∀ x, foldedSetIterable iter X.env x = pure x := by intro _; rfl) :
    SJ E X (.Assign [.Name y py] (.ListComp elt [⟨tg, iter, ifs, 0⟩] scope pos) spos) (sSet i (wLc wi g tt we (own.map (·.2)))) := sj_comp (comp_set hc hN hy hyl hsw ok hi hsub hg ht he hs)
theorem sj_compSO {tg iter elt : Expr} {ifs : List Expr} {scope : Scope} {own : List (Str × Nat)} {wi : Wa} {tgs : List Nat} {g : Wg} {tt : Wt} {we : Wx} {y : Str} {py spos : Pos} (hc : X.calm = true) (hN : X.N.Nodup) (hy : X.N[i]? = some y) (hyl : X.env.scope.names.lookup y = some .local)
    (hsw : swapsWith (.ListComp elt [⟨tg, iter, ifs, 0⟩] scope pos) (some (.Name y py)) spos.line X.env = pure true) (ok : BlkOk X.N X.env.scope scope own)
    (hi : IJ E X tg iter wi) (hsub : ∀ t ∈ tgs, t ∈ own.map (·.2))
    (hg : ∀ (s : Shared) (H : Hp) (C : Addr) (cl : List (Str × Addr)) (fp : List Addr), GJ (X.blk s H scope (compEnvC scope cl C X.env) fp) tg tgs g)
    (ht : ∀ (s : Shared) (H : Hp) (C : Addr) (cl : List (Str × Addr)) (fp : List Addr), TsJ E0 (X.blk s H scope (compEnvC scope cl C X.env) fp) ifs tt)
    (he : ∀ (s : Shared) (H : Hp) (C : Addr) (cl : List (Str × Addr)) (fp : List Addr), EJ .e E0 (X.blk s H scope (compEnvC scope cl C X.env) fp) elt we)
    (hs : ∀ x, foldedSetIterable iter X.env x = pure x := by intro _; rfl) :
    SJ E X (.Assign [.Name y py] (.ListComp elt [⟨tg, iter, ifs, 0⟩] scope pos) spos) (sSetO i (wLc wi g tt we (own.map (·.2)))) := sj_compO (comp_set hc hN hy hyl hsw ok hi hsub hg ht he hs)
/-! zip of two lists or tuples of one length -/
theorem wk_zip {a b : Addr} {vs ws : List V} {G : Hp} {ds es : List D} (h : SqL K G a vs) (h' : SqL K G b ws) (r : Rps K G ds vs) (r' : Rps K G es ws) : Wk K (Itz K a b) G ((ds.zip es).map fun q => .tup [q.1, q.2]) where
  stop := fun G' H' g1 g2 => ⟨vs, ws, (g1.trans g2).seq h, (g1.trans g2).seq h', by
    have := r.length; have := r'.length
    simp only [List.length_map, List.length_zip]; omega⟩
  go := fun i G' H' hi g1 g2 => by
    have l1 := r.length; have l2 := r'.length
    simp only [List.length_map, List.length_zip] at hi
    have h1 : i < vs.length := by omega
    have h2 : i < ws.length := by omega
    exact ⟨vs, ws, vs[i], ws[i], (g1.trans g2).seq h, (g1.trans g2).seq h', by simp [h1], by simp [h2]⟩
  yld := fun i G' H' x H2 hi g1 g2 ⟨t, y, z, ex, ht, eH, hy, hz⟩ => by
    subst ex eH
    obtain ⟨d, hd, rd⟩ := r.get' (hy vs ((g1.trans g2).seq h))
    obtain ⟨d', hd', rd'⟩ := r'.get' (hz ws ((g1.trans g2).seq h'))
    have x2 := Ext.new (o := .tup [y, z]) g2 ht
    refine ⟨_, .tup [d, d'], x2, ?_, .tup (SqT.of upd_same) (.cons (rd.mono (g1.trans x2.gg)) (.cons (rd'.mono (g1.trans x2.gg)) .nil))⟩
    have e2 : (ds.zip es)[i]? = some (d, d') := List.getElem?_zip_eq_some.mpr ⟨hd, hd'⟩
    rw [List.getElem?_map, e2]
    rfl
/-! is True, is False -/
def D.isB : D → Bool → Bool
  | .bl t, t' => t == t'
  | _, _ => false
def oIsB : Op2
  | x, .bl t, Q => Q (.bl (x.isB t))
  | _, _, _ => False
def V.isB : V → Bool → Bool
  | .bl t, t' => t == t'
  | _, _ => false
def rIsT : R2 := fun x y H Q => ∃ t, y = .bl t ∧ Q (.bl (V.isB x t)) H
theorem op_isT : OpR X (compareOp .Is) rIsT := by
  intro pins s σ H x y v u Q I rx ry h
  obtain ⟨t, rfl, q⟩ := h
  cases ry
  cases x with
  | non => cases rx; exact PySem.wpAny_is_plain rfl (fin_bl I q rfl)
  | bl t' => cases rx; exact PySem.wpAny_is_plain rfl (fin_bl I q (by cases t <;> cases t' <;> rfl))
  | int i => obtain ⟨t', rfl⟩ := rx; exact PySem.wpAny_is_plain rfl (fin_bl I q rfl)
  | str i => obtain ⟨t', rfl⟩ := rx; exact PySem.wpAny_is_plain rfl (fin_bl I q rfl)
  | byt i => obtain ⟨t', rfl⟩ := rx; exact PySem.wpAny_is_plain rfl (fin_bl I q rfl)
  | flt i => obtain ⟨t', rfl⟩ := rx; exact PySem.wpAny_is_plain rfl (fin_bl I q rfl)
  | ref i => cases rx; exact PySem.wpAny_is_plain rfl (fin_bl I q rfl)
  | ty i => cases rx; exact PySem.wpAny_is_plain rfl (fin_bl I q rfl)
theorem rvO_isB {G H : Hp} {d : D} {v : V} (h : RvO K G H d v) (t : Bool) : V.isB v t = d.isB t := by
  rcases h with h | ⟨p, o, rfl, e, tt⟩
  · cases h <;> rfl
  · cases d <;> cases o <;> first | exact tt.elim | rfl
theorem brg_isB : Brg2 K .e oIsB rIsT := by
  refine ⟨fun x y G H vx vy Q Q2 g rx ry q kk => ?_, fun x y Q Q' i q => ?_⟩
  · cases y <;> first | exact q.elim | skip
    exact ⟨_, rvO_bl ry, by rw [rvO_isB rx]; exact kk _ q G H _ (.refl g) (.bl _)⟩
  · cases y <;> first | exact q.elim | skip
    exact i _ q
theorem tj_isB (ha : EJ ka E X a wa) (hb : EJ kb E X b wb) : TJ E X (.Compare a [.Is] [b] pos) (wB (w2 oIsB wa wb)) := tj_2 ha hb (pt_cmpR op_isT ha.pe hb.pe (nomark _)) brg_isB
theorem ej_isB (ha : EJ ka E X a wa) (hb : EJ kb E X b wb) : EJ .e E X (.Compare a [.Is] [b] pos) (w2 oIsB wa wb) := ej_2 ha hb (pe_cmpR op_isT ha.pe hb.pe (nomark _)) brg_isB
/-! keywords -/
theorem kj_nil : KJ E X [] waNil := ⟨pk_nil.imp fun σ H Q ⟨G0, H0, G, ρ, xc, R, T, q⟩ => q G H [] (.refl R.gh) (by rw [if_pos rfl]; exact .nil), fun _ _ _ _ i q => i _ q⟩
theorem kj_cons {n : Str} {kp : Pos} {kws : List Keyword} (ha : EJ .e E X a w) (hk : KJ E X kws u) : KJ E X (⟨some n, a, kp⟩ :: kws) (waCons w u) := by
  refine ⟨PK.imp (pk_cons ha.pe hk.pk) fun σ H Q ⟨G0, H0, G, ρ, xc, R, T, q⟩ => ⟨G0, H0, G, ρ, xc, R, T, ha.mo _ _ _ _ (fun x q1 G1 H1 v1 x1 r1 => ?_) q⟩, fun xc ρ Q Q' i q => ha.mo _ _ _ _ (fun x q => hk.mo _ _ _ _ (fun ds q => i _ q) q) q⟩
  refine ⟨G0, H0, G1, ρ, xc, R.ext x1, T, hk.mo _ _ _ _ (fun y q2 G2 H2 v2 x2 r2 => ?_) q1⟩
  rw [if_pos rfl] at r2
  exact q2 G2 H2 (v1 :: v2) (x1.trans x2) (by rw [if_pos rfl]; exact .cons (Rp.mono x2.gg r1) r2)
end
end Tw

/-! Tw, part N: what the words mean on known data; loops by an invariant. -/
namespace Tw
open PySem PySem.Spec L2 PyProof.Rows
section
variable {i j : Int} {Q : D → Prop} {x y : Str} {xs ys : List D} {t : Bool}
@[simp] theorem oLt_i : oLt (.int i) (.int j) Q = Q (.bl (decide (i < j))) := rfl
@[simp] theorem oLe_i : oLe (.int i) (.int j) Q = Q (.bl (decide (i ≤ j))) := rfl
@[simp] theorem oGt_i : oGt (.int i) (.int j) Q = Q (.bl (decide (j < i))) := rfl
@[simp] theorem oGe_i : oGe (.int i) (.int j) Q = Q (.bl (decide (j ≤ i))) := rfl
@[simp] theorem oSub_i : oSub (.int i) (.int j) Q = Q (.int (i - j)) := rfl
@[simp] theorem oPlus_i : oPlus (.int i) (.int j) Q = Q (.int (i + j)) := rfl
@[simp] theorem oPlus_s : oPlus (.str x) (.str y) Q = (x.length + y.length ≤ sizeLine ∧ Q (.str (x ++ y))) := rfl
@[simp] theorem oPlus_t : oPlus (.tup xs) (.tup ys) Q = (xs.length + ys.length ≤ sizeLine ∧ Q (.tup (xs ++ ys))) := rfl
@[simp] theorem oPlus_l : oPlus (.lst xs) (.lst ys) Q = (xs.length + ys.length ≤ sizeLine ∧ Q (.lst (xs ++ ys))) := rfl
@[simp] theorem oCat_l : oCat (.lst xs) (.lst ys) Q = (xs.length + ys.length ≤ sizeLine ∧ Q (.lst (xs ++ ys))) := rfl
@[simp] theorem oMul_i : oMul (.int i) (.int j) Q = (CMul i j ∧ Q (.int (i * j))) := rfl
@[simp] theorem oMul_s : oMul (.str x) (.int j) Q = (MulOk x j ∧ Q (.str (Txt.mul x j))) := rfl
@[simp] theorem oDiv_i : oDiv (.int i) (.int j) Q = (CDiv i j ∧ Q (.int (i / j))) := rfl
@[simp] theorem oMod_i : oMod (.int i) (.int j) Q = (0 < j ∧ Q (.int (i % j))) := rfl
@[simp] theorem oPow_i : oPow (.int i) (.int j) Q = (CPow i j ∧ Q (.int (i ^ j.toNat))) := rfl
@[simp] theorem oIx_l : oIx (.lst xs) (.int i) Q = ∃ d, atI xs i = some d ∧ Q d := rfl
@[simp] theorem oIx_f : oIx (.fls xs) (.int i) Q = ∃ d, atI xs i = some d ∧ Q d := rfl
@[simp] theorem oIx_t : oIx (.tup xs) (.int i) Q = ∃ d, atI xs i = some d ∧ Q d := rfl
@[simp] theorem oIx_s : oIx (.str x) (.int i) Q = (x.length ≤ sizeLine ∧ ∃ c, atI x.cps.toList i = some c ∧ Q (.str ⟨#[c]⟩)) := rfl
@[simp] theorem oSl_l {lo hi : Option Int} : oSl (.lst xs) lo hi Q = Q (.lst (cutD xs lo hi)) := rfl
@[simp] theorem oSl_f {lo hi : Option Int} : oSl (.fls xs) lo hi Q = Q (.lst (cutD xs lo hi)) := rfl
@[simp] theorem oSl_t {lo hi : Option Int} : oSl (.tup xs) lo hi Q = Q (.tup (cutD xs lo hi)) := rfl
@[simp] theorem oLen_l : oLen [.lst xs] Q = Q (.int xs.length) := rfl
@[simp] theorem oLen_f : oLen [.fls xs] Q = Q (.int xs.length) := rfl
@[simp] theorem oLen_t : oLen [.tup xs] Q = Q (.int xs.length) := rfl
@[simp] theorem oLen_s : oLen [.str x] Q = (x.length ≤ sizeLine ∧ Q (.int x.length)) := rfl
@[simp] theorem oInt_i : oInt [.int i] Q = Q (.int i) := rfl
@[simp] theorem oInt_b : oInt [.bl t] Q = Q (.int (if t = true then 1 else 0)) := rfl
@[simp] theorem oAbs_i : oAbs [.int i] Q = Q (.int (if i < 0 then -i else i)) := rfl
@[simp] theorem oList_l : oList [.lst xs] Q = Q (.lst xs) := rfl
@[simp] theorem oList_t : oList [.tup xs] Q = Q (.lst xs) := rfl
@[simp] theorem oTuple_l : oTuple [.lst xs] Q = Q (.tup xs) := rfl
@[simp] theorem oTuple_t : oTuple [.tup xs] Q = Q (.tup xs) := rfl
@[simp] theorem tru_b : D.tru (.bl t) = some t := rfl
@[simp] theorem tru_l : D.tru (.lst xs) = some (!xs.isEmpty) := rfl
@[simp] theorem tru_t : D.tru (.tup xs) = some (!xs.isEmpty) := rfl
@[simp] theorem tru_i : D.tru (.int i) = some (i != 0) := rfl
@[simp] theorem seq_l : D.seq (.lst xs) = some xs := rfl
@[simp] theorem seq_f : D.seq (.fls xs) = some xs := rfl
@[simp] theorem seq_t : D.seq (.tup xs) = some xs := rfl
end
theorem oAll_b {bs : List Bool} {ds : List D} {Q : D → Prop} (e : ds = bs.map .bl) (q : Q (.bl (bs.all id))) : oAll [.lst ds] Q := ⟨bs, by rw [e], q⟩
/-- a for by an invariant: the turn's end is a letter, N -/
theorem for_inv {g : Wg} {b : Ws} {Z : Pd} (items : List D) (Pv : Nat → Evn → Prop)
    (hs : ∀ (i : Nat) (x : D) (ρ : Evn) (N : Evn → Prop), items[i]? = some x → Pv i ρ → (∀ ρ', Pv (i + 1) ρ' → N ρ') → g x ρ fun ρ' => b { Z with nx := N, ct := N, bk := Z.nx } ρ') (hd : ∀ ρ, Pv items.length ρ → Z.nx ρ) {ρ : Evn} (h0 : Pv 0 ρ) : forW g b Z items ρ := by
  have go : ∀ (l : List D) (i : Nat) (ρ : Evn), items.drop i = l → i ≤ items.length → Pv i ρ → forW g b Z l ρ := by
    intro l
    induction l with
    | nil =>
      intro i ρ e hi p
      have : items.length ≤ i := List.drop_eq_nil_iff.mp e
      have e2 : i = items.length := by omega
      subst e2
      exact hd ρ p
    | cons x l ih =>
      intro i ρ e hi p
      have hx : items[i]? = some x := by
        have := congrArg (fun l => l[0]?) e
        simpa using this
      have hlt : i < items.length := (List.getElem?_eq_some_iff.mp hx).1
      refine hs i x ρ _ hx p fun ρ' p' => ih (i + 1) ρ' ?_ hlt p'
      rw [← List.drop_drop, e]; rfl
  exact go items 0 ρ rfl (Nat.zero_le _) h0
/-- .. over a range -/
theorem for_rng {g : Wg} {b : Ws} {Z : Pd} {lo : Int} {n : Nat} (Pv : Nat → Evn → Prop)
    (hs : ∀ (i : Nat) (ρ : Evn) (N : Evn → Prop), i < n → Pv i ρ → (∀ ρ', Pv (i + 1) ρ' → N ρ') → g (.int (lo + (i : Nat))) ρ fun ρ' => b { Z with nx := N, ct := N, bk := Z.nx } ρ') (hd : ∀ ρ, Pv n ρ → Z.nx ρ) {ρ : Evn} (h0 : Pv 0 ρ) : forW g b Z (rngD lo n) ρ := by
  have hl : (rngD lo n).length = n := by simp [rngD]
  refine for_inv _ Pv (fun i x ρ N hx p hn => ?_) (by rw [hl]; exact hd) h0
  have hi : i < n := by rw [← hl]; exact (List.getElem?_eq_some_iff.mp hx).1
  have e : (rngD lo n)[i]? = some (.int (lo + (i : Nat))) := by simp [rngD, hi]
  rw [e] at hx
  cases hx
  exact hs i ρ N hi p hn
end Tw

/-! Tw, part O: calls with objects of one's own lent, extend, index, zip of any two, a tuple turned round. -/
namespace Tw
open PySem PySem.Spec L2 PyProof.Rows
section
variable {X : Cx} {K : PySem.W.Frag} {E : XK} {e a b c o : Expr} {es : List Expr} {w wa wb wc : Wx} {k ka kb : Kd} {pos p : Pos} {u : Wa} {st : Stmt} {rest body : List Stmt} {s s1 s2 : Ws}
/-! ### xs.extend(ys), xs.pop(n) -/
def sExt (i : Nat) (w : Wx) : Ws := fun Z ρ => ∃ ds, ρ[i]? = some (.ow (.lst ds)) ∧ w Z.xc ρ fun d => ∃ es, d = .lst es ∧ ds.length + es.length ≤ sizeLine ∧ Z.nx (ρ.set i (.ow (.lst (ds ++ es))))
theorem sj_ext {i : Nat} (he : EJ k E X e w) (h : PS X st (tDrop (tBM X.K "list" rExtend (tVar i) (tCons (liftW X.K E k w) tNil)))) : SJ E X st (sExt i w) :=
  ⟨h.imp fun D' σ H ⟨G0, H0, G, ρ, Z, R, T, ds, hi, q⟩ => by
    obtain ⟨l, vs, e1, e2, r⟩ := own_lst R hi
    refine ⟨_, e1, .inl ⟨rfl, vs, SqL.of e2⟩, G0, H0, G, ρ, Z.xc, R, T.xc, he.mo _ _ _ _ (fun d ⟨es, ed, z, q1⟩ G1 H1 v x1 r1 => ?_) q⟩
    subst ed
    obtain ⟨b, ws, rfl, hb, r2⟩ := rvO_lst x1.gh r1.o
    refine ⟨l, b, vs, ws, rfl, rfl, x1.hh _ _ e2, hb, by rw [← r.length, ← r2.length]; exact z, ?_⟩
    exact T.nx _ _ _ _ ((R.ext x1).chg hi e1 (show Top X.K G1 (.lst (ds ++ es)) (.lst (vs ++ ws)) from (r.mono x1.gg).append r2)) x1.gg q1⟩
theorem sj_extend {apos cpos : Pos} {i : Nat} {n : Expr} (hv : PE X n (tVar i)) (he : EJ k E X e w)
    (h1 : attributeBase n "extend" X.env (eval n X.env) = eval n X.env := by rfl) (h2 : ((backTo cpos (starEach [e] X.env)).all (fun x => !x.1) && (backToKw cpos (keywordEach [] X.env)).all (fun x => x.1.isSome) && decide ([e].length + ([] : List Keyword).length + (if ([] : List Keyword).isEmpty = true then 0 else 1) < 30)) = true := by rfl)
    (h3 : (apos.endLine == cpos.line) = true := by rfl) (hst : starEach [e] X.env = (false, eval e X.env) :: starEach [] X.env := by rfl) (hs : swapsWith (.Call (.Attribute n "extend" apos) [e] [] cpos) none pos.line X.env = pure false := by rfl) :
    SJ E X (.Expr (.Call (.Attribute n "extend" apos) [e] [] cpos) pos) (sExt i w) :=
  sj_ext he (ps_expr (pe_bm PySem.F.plainAttrs_list PySem.F.slot_list_extend PySem.F.type_list_extend mt_extend hv (pa_cons he.pe pa_nil hst) h1 h2 h3 hst rfl) hs)
/-! ### xs.index(y) of a list -/
def idxD (x : D) : List D → Option Nat
  | [] => none
  | y :: ys => if PyData.eqv y.py x.py = true then some 0 else (idxD x ys).map (· + 1)
def wIdx (wo w : Wx) : Wx := fun xc ρ Q => wo xc ρ fun d => ∃ ys, (d = .lst ys ∨ d = .fls ys) ∧ w xc ρ fun x => ∃ j, (D.lst ys).ok ∧ x.ok ∧ idxD x ys = some j ∧ Q (.int j)
theorem idxD_ok {x : D} : ∀ {ys : List D} {j : Nat}, idxD x ys = some j → ∃ z, (D.pys ys)[j]? = some z ∧ PyData.eqv z x.py = true ∧ ∀ (m : Nat) (z' : PyData), m < j → (D.pys ys)[m]? = some z' → PyData.eqv z' x.py = false
  | [], j, h => by cases h
  | y :: ys, j, h => by
    unfold idxD at h
    rw [D.pys]
    by_cases e : PyData.eqv y.py x.py = true
    · rw [if_pos e] at h
      cases h
      exact ⟨_, rfl, e, fun m z' hm _ => by omega⟩
    · rw [if_neg e] at h
      cases q : idxD x ys with
      | none => rw [q] at h; cases h
      | some i =>
        rw [q] at h
        cases h
        obtain ⟨z, h1, h2, h3⟩ := idxD_ok q
        refine ⟨z, h1, h2, fun m z' hm hz => ?_⟩
        cases m with
        | zero =>
          have hz' : some y.py = some z' := hz
          rw [← Option.some.inj hz']
          exact Bool.eq_false_iff.mpr e
        | succ m => exact h3 m z' (Nat.lt_of_succ_lt_succ hm) hz
theorem ej_idx {apos cpos : Pos} (hu : X.A.units + 65 < cLine) (ho : EJ .e E X o wa) (he : EJ k E X e w)
    (h1 : attributeBase o "index" X.env (eval o X.env) = eval o X.env := by rfl) (h2 : ((backTo cpos (starEach [e] X.env)).all (fun x => !x.1) && (backToKw cpos (keywordEach [] X.env)).all (fun x => x.1.isSome) && decide ([e].length + ([] : List Keyword).length + (if ([] : List Keyword).isEmpty = true then 0 else 1) < 30)) = true := by rfl)
    (h3 : (apos.endLine == cpos.line) = true := by rfl) (hst : starEach [e] X.env = (false, eval e X.env) :: starEach [] X.env := by rfl) :
    EJ .e E X (.Call (.Attribute o "index" apos) [e] [] cpos) (wIdx wa w) := by
  refine ⟨(pe_bm PySem.F.plainAttrs_list PySem.F.slot_list_index PySem.F.type_list_index (mt_indexD hu) ho.pe (pa_cons he.pe pa_nil hst) h1 h2 h3 hst rfl).imp fun σ H Q ⟨G0, H0, G, ρ, xc, R, T, q⟩ => ⟨G0, H0, G, ρ, xc, R, T, ho.mo _ _ _ _ (fun d ⟨ys, ed, q1⟩ G1 H1 v x1 r1 => ?_) q⟩,
    fun xc ρ Q Q' i q => ho.mo _ _ _ _ (fun d ⟨ys, ed, q⟩ => ⟨ys, ed, he.mo _ _ _ _ (fun x ⟨j, a, b, c, q⟩ => ⟨j, a, b, c, i _ q⟩) q⟩) q⟩
  have hq : ∃ p vs, v = .ref p ∧ SqL X.K G1 p vs ∧ Rps X.K G1 ys vs := by
    rcases ed with rfl | rfl
    · cases r1 with | lst h r => exact ⟨_, _, rfl, SqL.of h, r⟩
    · cases r1 with | fls h r => exact ⟨_, _, rfl, h, r⟩
  obtain ⟨p, vs, rfl, hs, rs⟩ := hq
  refine ⟨.inl ⟨rfl, vs, x1.gh.seq hs⟩, G0, H0, G1, ρ, xc, R.ext x1, T, he.mo _ _ _ _ (fun x ⟨j, oy, ox, hj, q2⟩ G2 H2 v2 x2 r2 => ?_) q1⟩
  obtain ⟨z, z1, z2, z3⟩ := idxD_ok hj
  have hd : Dp X.K H2 (.ref p) (.list (D.pys ys)) := by
    have h : Rp X.K G1 (.fls ys) (.ref p) := Rp.fls hs rs
    have h2 := (RvO.dp (G := G2) x2.gh (.inl (Rp.mono x2.gg h)) oy.1 : Dp X.K H2 (.ref p) (D.fls ys).py)
    rw [D.py] at h2
    exact h2
  refine ⟨p, v2, x.py, D.pys ys, j, z, rfl, rfl, hd, RvO.dp x2.gh r2.o ox.1, ?_, ox.2, z1, z2, z3, q2 G2 H2 _ (x1.trans x2) (.int _)⟩
  have := oy.2
  rw [D.py] at this
  exact this
end
end Tw

/-! Tw, part P: a tuple turned round; tuple(xs) that knows its class; index in it; zip of any two. -/
namespace Tw
open PySem PySem.Spec L2 PyProof.Rows
section
open PySem.Builtin
variable {prog : Program} {w : World} {A : Around} {E : Value → Shared → Prop} {s : Shared}
end
section
variable {X : Cx} {K : PySem.W.Frag} {E : XK} {e a b c o : Expr} {es : List Expr} {w wa wb wc : Wx} {k ka kb : Kd} {pos p : Pos} {u : Wa} {st : Stmt} {rest body : List Stmt} {s s1 s2 : Ws}
/-! ### tuple(xs), its class known -/
theorem call_tupleX : CallR X (.type "tuple") (fun xs H Q => ∃ p ys, xs = [.ref p] ∧ SqL X.K H p ys ∧ ∀ l (o : Obj), H l = none → o.cls = .type "tuple" → o.dict = none → Q (.ref l) (upd H l (.frz o (.tup ys)))) := by
  intro pins s σ H xs us Q I r h
  obtain ⟨p, ys, rfl, hq, q⟩ := h
  obtain ⟨u, rfl, rx⟩ := vals1 r
  cases rx
  obtain ⟨its, r', pl, hz⟩ := I.list hq
  have hlen := r'.length
  refine call_tuple_list pl.isList (fun h' kp => ?_) (by simp only [List.size_toArray] <;> omega)
  have I1 : Inv X pins σ H { s with heap := h' } := I.kept (t' := s.toks) kp
  have I2 : Inv X pins σ (upd H h'.objs.size (.frz { cls := .type "tuple", data := .seq its.toArray } (.tup ys))) { s with heap := h'.push { cls := .type "tuple", data := .seq its.toArray } } :=
    I1.laid (t' := s.toks) (fun b o e => Heap.get?_push_of_some _ e) (Nat.le_refl _) (show ObjOk X.prog X.w _ _ _ (.frz _ (.tup ys)) from ⟨Heap.get?_push_size _ rfl, hz, its, r', IsTup.new _ _⟩)
  exact ⟨.ref h'.objs.size, _, I2, rfl, q _ _ (I1.hok.fresh (Nat.le_refl _)) rfl rfl⟩
/-- its class forgotten -/
def D.wk : D → D
  | .xtp xs => .tup xs
  | d => d
@[simp] theorem wk_x {xs : List D} : D.wk (.xtp xs) = .tup xs := rfl
@[simp] theorem wk_t {xs : List D} : D.wk (.tup xs) = .tup xs := rfl
@[simp] theorem wk_l {xs : List D} : D.wk (.lst xs) = .lst xs := rfl
@[simp] theorem wk_f {xs : List D} : D.wk (.fls xs) = .fls xs := rfl
@[simp] theorem wk_i {i : Int} : D.wk (.int i) = .int i := rfl
@[simp] theorem wk_s {z : Str} : D.wk (.str z) = .str z := rfl
@[simp] def wWk (w : Wx) : Wx := fun xc ρ Q => w xc ρ fun d => Q d.wk
theorem rp_wk {G : Hp} {d : D} {v : V} (h : Rp K G d v) : Rp K G d.wk v := by
  cases h with
  | xtp h _ _ r => exact .tup (.inl (.inr ⟨_, h⟩)) r
  | non => exact .non
  | bl b => exact .bl b
  | int b => exact .int b
  | str b => exact .str b
  | tup h r => exact .tup h r
  | lst h r => exact .lst h r
  | fls h r => exact .fls h r
  | obj h r => exact .obj h r
  | dK h r => exact .dK h r
  | dT h r => exact .dT h r
theorem ej_wk (h : EJ .e E X e w) : EJ .e E X e (wWk w) :=
  ⟨h.pe.imp fun σ H Q ⟨G0, H0, G, ρ, xc, R, T, q⟩ => ⟨G0, H0, G, ρ, xc, R, T, h.mo _ _ _ _ (fun d q1 G1 H1 v x1 r1 => q1 G1 H1 v x1 (rp_wk r1)) q⟩, fun xc ρ Q Q' i q => h.mo _ _ _ _ (fun d q => i _ q) q⟩
/-- t.index(x), t made by tuple(xs), of texts -/
def wIdxT (wo w : Wx) : Wx := fun xc ρ Q => wo xc ρ fun d => ∃ ys : List Str, d = .xtp (ys.map .str) ∧ w xc ρ fun x => ∃ (z : Str) (j : Nat), x = .str z ∧ ys[j]? = some z ∧ (∀ m, m < j → ys[m]? ≠ some z) ∧ Q (.int j)
theorem rps_strs {G : Hp} : ∀ {ys : List Str} {vs : List V}, Rps K G (ys.map .str) vs → vs = ys.map .str
  | [], _, .nil => rfl
  | y :: ys, _, .cons h r => by cases h; rw [rps_strs r]; rfl
theorem pe_bmX {o e : Expr} {es : List Expr} {to : TE} {t : TA} {name : Str} {apos cpos : Pos} {id : String} {r : V → List V → Hp → VK → Prop} (pa : PlainAttrs "tuple") (slot : Slot "tuple" name id) (hty : typeOf (.builtin id) = pure (.type "method_descriptor")) (hm : MtR X id r) (ho : PE X o to) (ha : PA X (e :: es) t)
    (hbase : attributeBase o name X.env (eval o X.env) = eval o X.env := by rfl)
    (hfew : ((backTo cpos (starEach (e :: es) X.env)).all (fun x => !x.1) && (backToKw cpos (keywordEach [] X.env)).all (fun x => x.1.isSome)
      && decide ((e :: es).length + ([] : List Keyword).length + (if ([] : List Keyword).isEmpty then 0 else 1) < 30)) = true := by rfl)
    (hline : (apos.endLine == cpos.line) = true := by rfl) (hs : starEach (e :: es) X.env = (false, eval e X.env) :: starEach es X.env := by rfl) (hplain : (backTo cpos (starEach es X.env)).any (·.1) = false := by rfl) :
    PE X (.Call (.Attribute o name apos) (e :: es) [] cpos) (fun σ H Q => to σ H fun x H1 => (∃ p ob u, x = .ref p ∧ H1 p = some (.frz ob u) ∧ ob.cls = .type "tuple" ∧ ob.dict = none) ∧ t σ H1 fun xs H2 => r x xs H2 Q) := by
  refine ⟨fun pins s σ H Q I h => ?_⟩
  refine wpAny_Call_method_late hbase hfew hline rfl (thn (ho.run pins s σ H _ I h) fun v s1 ⟨x, H1, I1, r1, ty, q1⟩ => ?_)
  obtain ⟨p, ob, u, rfl, hp, hc, hn⟩ := ty
  cases r1
  have hob := (I1.hok p _ hp).1
  refine ⟨"tuple", id, pa, slot, hty, ⟨ob, hob, hc⟩, fun a e => by cases e; exact ⟨ob, hob, hn⟩, ?_⟩
  have hA := ha.run cpos pins s1 σ H1 _ I1 q1
  rw [hs] at hA ⊢
  refine Calls.callWith_builtin (by show (false || (backTo cpos (starEach es X.env)).any (·.1)) = false; rw [hplain] <;> rfl) (Calls.evalArgs_plain ?_)
  exact thn hA fun us s2 ⟨vs, H2, I2, r2, q2⟩ => hm pins s2 σ H2 (.ref p) vs (.ref p) us Q I2 (show RelV (.ref p) (.ref p) from rfl) r2 q2
theorem ej_idxT {apos cpos : Pos} (ho : EJ .e E X o wa) (he : EJ k E X e w)
    (h1 : attributeBase o "index" X.env (eval o X.env) = eval o X.env := by rfl) (h2 : ((backTo cpos (starEach [e] X.env)).all (fun x => !x.1) && (backToKw cpos (keywordEach [] X.env)).all (fun x => x.1.isSome) && decide ([e].length + ([] : List Keyword).length + (if ([] : List Keyword).isEmpty = true then 0 else 1) < 30)) = true := by rfl)
    (h3 : (apos.endLine == cpos.line) = true := by rfl) (hst : starEach [e] X.env = (false, eval e X.env) :: starEach [] X.env := by rfl) :
    EJ .e E X (.Call (.Attribute o "index" apos) [e] [] cpos) (wIdxT wa w) := by
  refine ⟨(pe_bmX PySem.F.plainAttrs_tuple PySem.F.slot_tuple_index PySem.F.type_tuple_index mt_tup_index ho.pe (pa_cons he.pe pa_nil hst) h1 h2 h3 hst rfl).imp fun σ H Q ⟨G0, H0, G, ρ, xc, R, T, q⟩ => ⟨G0, H0, G, ρ, xc, R, T, ho.mo _ _ _ _ (fun d ⟨ys, ed, q1⟩ G1 H1 v x1 r1 => ?_) q⟩,
    fun xc ρ Q Q' i q => ho.mo _ _ _ _ (fun d ⟨ys, ed, q⟩ => ⟨ys, ed, he.mo _ _ _ _ (fun x ⟨z, j, a, b, c, q⟩ => ⟨z, j, a, b, c, i _ q⟩) q⟩) q⟩
  subst ed
  cases r1 with
  | xtp h hc hn r =>
    have ev := rps_strs r
    subst ev
    refine ⟨⟨_, _, _, rfl, x1.gh _ _ h, hc, hn⟩, G0, H0, G1, ρ, xc, R.ext x1, T, he.mo _ _ _ _ (fun x ⟨z, j, ez, h1, h2, q2⟩ G2 H2 v2 x2 r2 => ?_) q1⟩
    subst ez
    rw [rvO_str r2.o]
    exact ⟨_, ys, z, j, rfl, rfl, .inl (.inr ⟨_, x2.gh _ _ (x2.gg _ _ h)⟩), h1, h2, q2 G2 H2 _ (x1.trans x2) (.int _)⟩

/-! ### zip of two lists or two tuples -/
theorem wk_zipT {a b : Addr} {vs ws : List V} {G : Hp} {ds es : List D} (h : SqT K G a vs) (h' : SqT K G b ws) (r : Rps K G ds vs) (r' : Rps K G es ws) : Wk K (RZ.ItzT K a b) G ((ds.zip es).map fun q => .tup [q.1, q.2]) where
  stop := fun G' H' g1 g2 => ⟨vs, ws, sqT_mono (g1.trans g2) h, sqT_mono (g1.trans g2) h', by
    have := r.length; have := r'.length
    simp only [List.length_map, List.length_zip]; omega⟩
  go := fun i G' H' hi g1 g2 => by
    have l1 := r.length; have l2 := r'.length
    simp only [List.length_map, List.length_zip] at hi
    have h1 : i < vs.length := by omega
    have h2 : i < ws.length := by omega
    exact ⟨vs, ws, vs[i], ws[i], sqT_mono (g1.trans g2) h, sqT_mono (g1.trans g2) h', by simp [h1], by simp [h2]⟩
  yld := fun i G' H' x H2 hi g1 g2 ⟨t, y, z, ex, ht, eH, hy, hz⟩ => by
    subst ex eH
    obtain ⟨d, hd, rd⟩ := r.get' (hy vs (sqT_mono (g1.trans g2) h))
    obtain ⟨d', hd', rd'⟩ := r'.get' (hz ws (sqT_mono (g1.trans g2) h'))
    have x2 := Ext.new (o := .tup [y, z]) g2 ht
    refine ⟨_, .tup [d, d'], x2, ?_, .tup (SqT.of upd_same) (.cons (rd.mono (g1.trans x2.gg)) (.cons (rd'.mono (g1.trans x2.gg)) .nil))⟩
    have e2 : (ds.zip es)[i]? = some (d, d') := List.getElem?_zip_eq_some.mpr ⟨hd, hd'⟩
    rw [List.getElem?_map, e2]
    rfl
def D.isT : D → Option (List D)
  | .tup xs => some xs | .xtp xs => some xs
  | _ => none
def D.isL : D → Option (List D)
  | .lst xs => some xs | .fls xs => some xs
  | _ => none
theorem rp_isT {G : Hp} {d : D} {v : V} {xs : List D} (h : Rp K G d v) (e : d.isT = some xs) : ∃ p vs, v = .ref p ∧ SqT K G p vs ∧ Rps K G xs vs := by
  cases d with
  | tup ys => cases e; cases h with | tup h r => exact ⟨_, _, rfl, h, r⟩
  | xtp ys => cases e; cases h with | xtp h _ _ r => exact ⟨_, _, rfl, .inl (.inr ⟨_, h⟩), r⟩
  | _ => cases e
theorem rp_isL {G : Hp} {d : D} {v : V} {xs : List D} (h : Rp K G d v) (e : d.isL = some xs) : ∃ p vs, v = .ref p ∧ SqL K G p vs ∧ Rps K G xs vs := by
  cases d with
  | lst ys => cases e; cases h with | lst h r => exact ⟨_, _, rfl, SqL.of h, r⟩
  | fls ys => cases e; cases h with | fls h r => exact ⟨_, _, rfl, h, r⟩
  | _ => cases e
def wiZ (wa wb : Wx) : Wa := fun xc ρ Q => wa xc ρ fun x => wb xc ρ fun y => ∃ xs ys, ((x.isL = some xs ∧ y.isL = some ys) ∨ (x.isT = some xs ∧ y.isT = some ys)) ∧ Q ((xs.zip ys).map fun q => .tup [q.1, q.2])
theorem ij_zip {elts : List Expr} {kk : Nat} {tpos : Pos} (ha : EJ .e E X a wa) (hb : EJ .e E X b wb) (hg : Gl X "zip") (hm : X.mg "zip" = none) (hst : starEach [a, b] X.env = (false, eval a X.env) :: starEach [b] X.env := by rfl) (hst2 : starEach [b] X.env = (false, eval b X.env) :: starEach [] X.env := by rfl) (hpl : (backTo pos (starEach [b] X.env)).any (·.1) = false := by rfl) :
    IJ E X (.Tuple elts kk tpos) (.Call (.Name "zip" p) [a, b] [] pos) (wiZ wa wb) := by
  refine ⟨(RZ.pi_zipA hg hm (pa_cons ha.pe (pa_cons hb.pe pa_nil hst2) hst) hst hpl).imp fun σ H R' ⟨G0, H0, G, ρ, xc, R, T, q⟩ => ⟨G0, H0, G, ρ, xc, R, T, ha.mo _ _ _ _ (fun x q1 G1 H1 v1 x1 r1 => ?_) q⟩,
    fun xc ρ Q Q' i q => ha.mo _ _ _ _ (fun x q => hb.mo _ _ _ _ (fun y ⟨xs, ys, e, q⟩ => ⟨xs, ys, e, i _ q⟩) q) q⟩
  refine ⟨G0, H0, G1, ρ, xc, R.ext x1, T, hb.mo _ _ _ _ (fun y ⟨xs, ys, e, q2⟩ G2 H2 v2 x2 r2 => ?_) q1⟩
  have r1' : Rp X.K G2 x v1 := Rp.mono x2.gg r1
  rcases e with ⟨e1, e2⟩ | ⟨e1, e2⟩
  · obtain ⟨p1, vs, rfl, h1, m1⟩ := rp_isL r1' e1
    obtain ⟨p2, ws, rfl, h2, m2⟩ := rp_isL (show Rp X.K G2 y v2 from r2) e2
    exact ⟨p1, p2, vs, ws, rfl, .inl ⟨x2.gh.seq h1, x2.gh.seq h2, q2 G2 H2 _ (x1.trans x2) (wk_zip h1 h2 m1 m2)⟩⟩
  · obtain ⟨p1, vs, rfl, h1, m1⟩ := rp_isT r1' e1
    obtain ⟨p2, ws, rfl, h2, m2⟩ := rp_isT (show Rp X.K G2 y v2 from r2) e2
    exact ⟨p1, p2, vs, ws, rfl, .inr ⟨sqT_mono x2.gh h1, sqT_mono x2.gh h2, q2 G2 H2 _ (x1.trans x2) (wk_zipT h1 h2 m1 m2)⟩⟩
end
end Tw

/-! Tw, part Q: sorted of a list of tuples of ints, the empty one among them too. -/
namespace Tw
open PySem PySem.Spec PySem.W PySem.Calls PySem.SeqAt PyProof.Rows
section
variable {prog : Program} {w : World} {A : Around} {E : Value → Shared → Prop} {s : Shared}
theorem call_tup_lt {Q : Value → Shared → Prop} {l b : Addr} {items items2 : Array Value} {e r : Nat → Bool} (hl : s.heap.IsTuple l items) (hb : s.heap.IsTuple b items2)
    (he : ∀ j (h1 : j < items.size) (h2 : j < items2.size), EqAt A.in1 s items[j] items2[j] (e j)) (hr : ∀ j (h1 : j < items.size) (h2 : j < items2.size), e j = false → RcLt A.in1 s items[j] items2[j] (r j))
    (h : Q (.bool (firstLt e r (decide (items.size < items2.size)) (List.range (min items.size items2.size)))) s) : wpAny (model prog w) A (call (.builtin "tuple.__lt__") [.ref l, .ref b]) Q E s := by
  obtain ⟨⟨cls, dd, data, sl⟩, ho, hc, n, hd⟩ := id hl
  obtain ⟨⟨cls2, dd2, data2, sl2⟩, ho2, hc2, n2, hd2⟩ := id hb
  simp only at hc hd hc2 hd2
  subst hc hd hc2 hd2
  exact call_meets F.slot_tuple_lt ⟨_, ho, rfl⟩ F.entry_tuple_lt (F.args_tuple_lt_2 _ _) (tuple_ltAt l b items items2 n n2 dd dd2 sl sl2 e r) ⟨ho, ho2, he, hr, h⟩
/-- one tuple against another, as sorting compares -/
theorem oneLt_tup {f : Bool} {xs ys : List PyData} {a b : Value} {as bs : List Addr} {Q : Bool → Shared → Prop} (ra : Reads s.heap a (.tuple xs) as) (rb : Reads s.heap b (.tuple ys) bs) (h : alike (.tuple xs) (.tuple ys) = true)
    (hu : A.units + min (PyData.tuple xs).depth (PyData.tuple ys).depth < cLine) (hq : Q (dataLt (.tuple xs) (.tuple ys)) s) : wpAny (model prog w) A (oneLt' f a b) Q E s := by
  cases f with
  | false => exact oneLt_alike (fun z => by cases z) ra rb h (fun z => by cases z) hu hq
  | true =>
    have hal : alikeAll xs ys = true := by simpa [alike] using h
    cases ra with
    | @tuple l o vs n _ as₁ h1 h2 h3 h4 =>
      cases rb with
      | @tuple l' o' vs' n' _ bs₁ k1 k2 k3 k4 =>
        have n1 : vs.size = xs.length := by simpa using ReadsAll.length _ _ _ h4
        have n2 : vs'.size = ys.length := by simpa using ReadsAll.length _ _ _ k4
        rw [dataLt_tuple, ← firstLt_toks xs ys hal, ← n1, ← n2] at hq
        rw [oneLt'_eq]
        simp only [if_true]
        refine wpAny_bind (wpAny_cRoomFor (room_here hu) ?_)
        refine wpAny_bind (wpAny_callSpecialIfBound?_slot (T := "tuple") ⟨_, h1, h2⟩ F.slot_tuple_lt (call_tup_lt (e := pairEq xs ys) (r := fun j => dataLt (xs.getD j .none) (ys.getD j .none)) ⟨_, h1, h2, _, h3⟩ ⟨_, k1, k2, _, k3⟩ (fun j j1 j2 => ?_) (fun j j1 j2 hj => ?_) ?_))
        · have := eqAt_alikeAll xs ys A.in1 s vs.toList vs'.toList _ _ h4 k4 hal (room_in hu) j (by simpa using j1) (by simpa using j2)
          simpa using this
        · have := rcLt_alikeAll xs ys A.in1 s vs.toList vs'.toList _ _ h4 k4 hal (room_in hu) j (by simpa using j1) (by simpa using j2) hj
          simpa using this
        · exact wpAny_truthy_bool hq
theorem map_wp {α β : Type} {f : α → Sem β} : ∀ (l : List α) (g : List β) {Q : List β → Shared → Prop}, EachIs (fun a b => ∀ (Q' : β → Shared → Prop), Q' b s → wpAny (model prog w) A (f a) Q' E s) l g → Q g s → wpAny (model prog w) A (l.mapM f) Q E s
  | _, _, Q, .nil, h => by rw [List.mapM_nil]; exact wpAny_pure h
  | _, _, Q, .cons (a := x) (as := l) h1 t, h => by
    rw [List.mapM_cons]
    exact wpAny_bind (h1 _ (wpAny_bind (map_wp l _ (Q := fun bs s' => wpAny (model prog w) A (pure (_ :: bs)) Q E s') t (wpAny_pure h))))
theorem first_tup {v : Value} {d : PyData} {as : List Addr} (r : Reads s.heap v d as) (ht : ∃ xs, d = .tuple xs) : ∃ f : Option Value, (f.isSome = true → ∃ x r, d = .tuple (x :: r)) ∧ ∀ (E : Value → Shared → Prop) (Q' : Option Value → Shared → Prop), Q' f s → wpAny (model prog w) A (firstOfTuple' v) Q' E s := by
  obtain ⟨xs, rfl⟩ := ht
  cases r with
  | @tuple l o vs n _ _ h1 h2 h3 h4 =>
    refine ⟨vs[0]?, fun h => ?_, fun E Q' hq => ?_⟩
    · cases xs with
      | nil =>
        have : vs.toList = [] := by
          generalize hz : vs.toList = z at h4
          cases h4
          rfl
        have e : vs[0]? = none := by rw [← Array.getElem?_toList, this]; rfl
        rw [e] at h
        cases h
      | cons x r => exact ⟨x, r, rfl⟩
    · rw [kas_first_eq]
      refine wpAny_bind (wpAny_typeOf ⟨_, h1, h2⟩ ?_)
      rw [if_neg (by decide)]
      exact wpAny_bind (listItems_at h1 h3 (wpAny_pure hq))
theorem firsts_tup {vs : List Value} {ds : List PyData} (e : EachIs (fun v d => ∃ as, Reads s.heap v d as) vs ds) (ht : ∀ d, d ∈ ds → ∃ xs, d = .tuple xs) :
    ∃ fs : List (Option Value), (∀ E : Value → Shared → Prop, EachIs (fun a b => ∀ (Q' : Option Value → Shared → Prop), Q' b s → wpAny (model prog w) A (firstOfTuple' a) Q' E s) vs fs) ∧ ((∀ f ∈ fs, f.isSome = true) → ∀ d, d ∈ ds → ∃ x r, d = .tuple (x :: r)) := by
  induction e with
  | nil => exact ⟨[], fun _ => .nil, fun _ d hd => absurd hd (by simp)⟩
  | cons h t ih =>
    obtain ⟨as, r⟩ := h
    obtain ⟨f, h1, h2⟩ := first_tup (prog := prog) (w := w) (A := A) r (ht _ (List.mem_cons_self ..))
    obtain ⟨fs, i1, i2⟩ := ih fun d hd => ht d (List.mem_cons_of_mem _ hd)
    refine ⟨f :: fs, fun E => .cons (h2 E) (i1 E), fun ha d hd => ?_⟩
    rcases List.mem_cons.mp hd with rfl | hd
    · exact h1 (ha f (by simp))
    · exact i2 (fun g hg => ha g (by simp [hg])) d hd
theorem kind_tup {vs : List Value} {ds : List PyData} (e : EachIs (fun v d => ∃ as, Reads s.heap v d as) vs ds) (ht : ∀ d, d ∈ ds → ∃ xs, d = .tuple xs) (hn : ¬ ∀ d, d ∈ ds → ∃ x r, d = .tuple (x :: r)) :
    ∃ f : Bool, 2 ≤ vs.length → ∀ (E : Value → Shared → Prop) {Q : SortKind → Shared → Prop}, Q (if f = true then oneType' else general') s → wpAny (model prog w) A (keyKind' vs.toArray) Q E s := by
  obtain ⟨fs, e1, e2⟩ := firsts_tup (prog := prog) (w := w) (A := A) e ht
  refine ⟨!((fs.toArray[0]?.bind id).isSome), fun h2 E Q q => ?_⟩
  rw [keyKind'_eq, List.mapM_toArray, map_eq_pure_bind]
  refine wpAny_bind (wpAny_bind (map_wp _ fs (e1 E) (wpAny_pure ?_)))
  have hno : ¬ (fs.toArray.all (·.isSome) = true) := fun z => hn (e2 fun f hf => by
    rw [List.all_toArray, List.all_eq_true] at z
    exact z f hf)
  rw [if_neg hno]
  by_cases h0 : ((fs.toArray[0]?.bind id).isSome = true)
  · rw [if_pos h0]
    rw [h0] at q
    exact wpAny_pure q
  · rw [if_neg h0]
    rw [Bool.eq_false_iff.mpr h0] at q
    have hT : ∀ v ∈ vs, Looks (model prog w) s.heap (typeOf v) (.type "tuple") := fun v hv => by
      obtain ⟨d, hd, as, r⟩ := e.left v hv
      obtain ⟨xs, rfl⟩ := ht d hd
      exact looks_reads r
    obtain ⟨v₁, v₂, rest, rfl⟩ : ∃ v₁ v₂ rest, vs = v₁ :: v₂ :: rest := by
      match vs, h2 with
      | [], h2 => simp at h2
      | [_], h2 => simp at h2
      | v₁ :: v₂ :: rest, _ => exact ⟨v₁, v₂, rest, rfl⟩
    rw [oneTypeOnly'_eq, List.mapM_toArray, map_eq_pure_bind]
    refine wpAny_bind (wpAny_bind (wpAny_bind (kas_mapM (r := Value.type "tuple") _ (fun v hv Q' hq => (hT v hv).here hq) (wpAny_pure ?_))))
    have hall : ((List.map (fun _ => Value.type "tuple") (v₁ :: v₂ :: rest)).toArray.all fun x => x == Value.type "tuple") = true := by
      simp only [List.all_toArray, List.all_map, List.all_eq_true]
      intro _ _
      exact beq_self_eq_true _
    have h0 : (List.map (fun _ => Value.type "tuple") (v₁ :: v₂ :: rest)).toArray[0]? = some (Value.type "tuple") := by simp
    rw [h0]
    simp only [hall, if_true]
    exact wpAny_pure (wpAny_pure q)
/-- tuples that are alike can be sorted, the empty one among them too -/
theorem sorts_tups {vs : List Value} {ds : List PyData} (e : EachIs (fun v d => ∃ as, Reads s.heap v d as) vs ds) (hal : AllAlike ds) (ht : ∀ d, d ∈ ds → ∃ xs, d = .tuple xs) (hu : ∀ d, d ∈ ds → A.units + d.depth < cLine) : SortsAt prog w A s (dataKind s.heap ds) vs := by
  by_cases hk : ∀ d, d ∈ ds → ∃ x r, d = .tuple (x :: r)
  · exact SortsAt.data e hal (.inl hk) hu
  · have room : ∀ {d d' : PyData}, d ∈ ds → A.units + min d.depth d'.depth < cLine := fun {d d'} hd => Nat.lt_of_le_of_lt (Nat.add_le_add_left (Nat.min_le_left _ _) _) (hu d hd)
    refine ⟨fun v hv => ?_, ?_⟩
    · obtain ⟨d, hd, as, r⟩ := e.left v hv
      exact ⟨_, dataKind_some hal hd r⟩
    · obtain ⟨f, hf⟩ := kind_tup (prog := prog) (w := w) (A := A) e ht hk
      refine ⟨if f = true then oneType' else general', ?_, hf⟩
      intro E x y a b Q ha hb hq
      obtain ⟨d, as, hd, ra, rfl⟩ := dataKind_inv ha
      obtain ⟨d', as', hd', rb, rfl⟩ := dataKind_inv hb
      obtain ⟨xs, rfl⟩ := ht d hd
      obtain ⟨ys, rfl⟩ := ht d' hd'
      cases f with
      | true =>
        rw [if_pos rfl, keyLt'_oneType]
        exact oneLt_tup ra rb (hal _ hd _ hd') (room hd) hq
      | false =>
        rw [if_neg Bool.false_ne_true]
        show wpAny (model prog w) A (oneLt' false x y) Q E s
        exact oneLt_tup ra rb (hal _ hd _ hd') (room hd) hq
def encT (b : List Int) : PyData := .tuple (b.map .int)
theorem encT_alike (bs : List (List Int)) : AllAlike (bs.map encT) := AllAlike.of fun b b' => by
  unfold encT
  rw [alike]
  exact alike_ints b b'
theorem encT_depth (b : List Int) : (encT b).depth = 1 := by
  unfold encT
  rw [PyData.depth, depth_ints]
theorem encT_le : dataLe false encT = fun p q => decide (p ≤ q) := by
  have h := dataLe_rows (fun b : List Int => b)
  rw [← h]
  funext p q
  show (!dataLt (encT q) (encT p)) = (!dataLt (.list (q.map .int)) (.list (p.map .int)))
  unfold encT
  rw [dataLt_list, dataLt_tuple]
theorem sorted_encT {l : Addr} {vs : List Value} {bs : List (List Int)} {R : Value → List Int → Prop} {Q : Value → Shared → Prop} (hl : s.heap.IsList l vs.toArray) (e : EachIs R vs bs) (er : EachIs (fun v b => ∃ as, Reads s.heap v (encT b) as) vs bs) (hL : bs.length ≤ sizeLine)
    (hu : A.units + 4 < cLine) (h : ∀ out, out.length = bs.length → EachIs R out (bs.mergeSort fun p q => decide (p ≤ q)) → Q (.ref (s.heap.objs.size + 1)) { s with heap := sortedAll s.heap vs (List.toArray out) }) :
    wpAny (model prog w) A (call (.builtin "sorted") [.ref l]) Q E s := by
  have er' : EachIs (fun v b => ∃ as, Reads (sortingHeap (copyHeap s.heap vs) (s.heap.objs.size + 1) vs) v (encT b) as) vs bs := er.mono fun _ _ ⟨as, r⟩ => ⟨as, PyProof.Rows.Reads.keeps (fun _ _ => sorting_copy_old) r⟩
  refine sorted_vals hl (sorts_tups (s := { s with heap := sortingHeap (copyHeap s.heap vs) (s.heap.objs.size + 1) vs }) (each_map (R := fun v d => ∃ as, Reads (sortingHeap (copyHeap s.heap vs) (s.heap.objs.size + 1) vs) v d as) encT er') (encT_alike bs) (fun d hd => ?_) (bound_map fun b hb => ?_)) (by rw [e.length]; exact hL)
    (h _ (by rw [sortVals_length false rfl]; exact e.length) (by rw [← encT_le]; exact sortVals_data false e er' (encT_alike bs)))
  · obtain ⟨b, _, rfl⟩ := List.mem_map.mp hd
    exact ⟨_, rfl⟩
  · rw [encT_depth]
    show A.units + 1 + 1 + 1 < cLine
    omega
end
end Tw

/-! Tw, part R: sorted of tuples as a rule; a return that chooses. -/
namespace Tw
open PySem PySem.Spec L2 PyProof.Rows
abbrev leT : List Int → List Int → Bool := fun p q => decide (p ≤ q)
def rSortT (K : PySem.W.Frag) : List V → Hp → VK → Prop := fun xs H Q => ∃ (l : Addr) (vs : List V) (bs : List (List Int)) (R : V → List Int → Prop), xs = [.ref l] ∧ SqL K H l vs ∧ PySem.W.EachIs R vs bs ∧ (∀ v b, R v b → Dp K H v (encT b)) ∧
  ∀ (p : Addr) (vs' : List V), H p = none → PySem.W.EachIs R vs' (bs.mergeSort leT) → Q (.ref p) (upd H p (.lst vs'))
section
variable {X : Cx} {K : PySem.W.Frag} {E : XK} {e a b c o : Expr} {es : List Expr} {w wa wb wc : Wx} {k ka kb : Kd} {pos p : Pos} {u : Wa} {st : Stmt} {rest body : List Stmt} {s s1 s2 : Ws}
theorem each_vals {R : V → List Int → Prop} {vs : List V} {bs : List (List Int)} (e : PySem.W.EachIs R vs bs) : ∀ {us : List Value}, Vals vs us → PySem.W.EachIs (fun u b => ∃ v, RelV v u ∧ R v b) us bs := by
  induction e with
  | nil => intro us r; cases r; exact .nil
  | cons h t ih => intro us r; cases r with | cons r1 r2 => exact .cons ⟨_, r1, h⟩ (ih r2)
theorem vals_each {R : V → List Int → Prop} {us : List Value} {bs : List (List Int)} (e : PySem.W.EachIs (fun u b => ∃ v, RelV v u ∧ R v b) us bs) : ∃ vs : List V, Vals vs us ∧ PySem.W.EachIs R vs bs := by
  induction e with
  | nil => exact ⟨[], .nil, .nil⟩
  | cons h t ih =>
    obtain ⟨v, r1, r2⟩ := h
    obtain ⟨vs, i1, i2⟩ := ih
    exact ⟨v :: vs, .cons r1 i1, .cons r2 i2⟩
theorem cr_sortT (hu : X.A.units + 65 < cLine) : CallR X (.builtin "sorted") (rSortT X.K) := by
  intro pins s σ H xs us Q I r h
  obtain ⟨a, vs, bs, R, rfl, hs, e, hd, q⟩ := h
  obtain ⟨its, rv, hl, hz⟩ := I.list hs
  rw [Vals.ref1 r]
  have e1 := each_vals e rv
  have lb : bs.length ≤ sizeLine := by rw [← e.length]; exact hz
  refine sorted_encT hl.isList e1 (e1.mono fun u b ⟨v, r1, r2⟩ => Dp.reads I _ v u (hd v b r2) r1) lb (by omega) fun out lo eo => ?_
  obtain ⟨vs', v1, v2⟩ := vals_each eo
  obtain ⟨ep, he'⟩ := PyProof.Rows.sortedAll_at s.heap its out.toArray
  have hlen : vs'.length ≤ sizeLine := by rw [v1.length, lo]; exact lb
  exact ⟨.ref _, upd H (s.heap.objs.size + 1) (.lst vs'), I.laid (t' := s.toks) (fun _ _ => PyProof.Rows.sortedAll_old) (Nat.le_succ _) ⟨hlen, out, ep, v1, he'⟩, rfl, q _ _ (I.hok.fresh (Nat.le_succ _)) v2⟩
def tI (b : List Int) : D := .tup (b.map .int)
/-- sorted(x), x a list of tuples of ints -/
def oSortT : OpN := fun ds Q => ∃ bs : List (List Int), ds = [.lst (bs.map tI)] ∧ Q (.lst ((bs.mergeSort leT).map tI))
theorem rps_tI {G : Hp} : ∀ {bs : List (List Int)} {vs : List V}, Rps K G (bs.map tI) vs → PySem.W.EachIs (fun v b => Rp K G (tI b) v) vs bs
  | [], _, .nil => .nil
  | b :: bs, _, .cons h r => .cons h (rps_tI r)
theorem tI_rps {G : Hp} {bs : List (List Int)} {vs : List V} (e : PySem.W.EachIs (fun v b => Rp K G (tI b) v) vs bs) : Rps K G (bs.map tI) vs := by
  induction e with
  | nil => exact .nil
  | cons h t ih => exact .cons h ih
theorem isPs_ints (b : List Int) : D.isPs (b.map .int) = true := by
  rw [isPs_all, List.all_map, List.all_eq_true]
  intro x _
  rfl
theorem py_tI (b : List Int) : (tI b).py = encT b := by
  unfold tI encT
  rw [D.py, pys_map D.int PyData.int fun i => by rw [D.py]]
theorem isP_tI (b : List Int) : (tI b).isP = true := by
  unfold tI
  rw [D.isP]
  exact isPs_ints b
theorem brg_sortT : BrgN K .f oSortT (rSortT K) := by
  refine ⟨fun ds G H vs Q Q2 g r ⟨bs, ed, q⟩ kk => ?_, fun ds Q Q' i ⟨ns, ed, q⟩ => ⟨ns, ed, i _ q⟩⟩
  subst ed
  obtain ⟨v, rfl, rv⟩ := rvOs_1 r
  obtain ⟨pp, vs, rfl, h1, r1⟩ := rvO_lst g rv
  refine ⟨pp, vs, bs, fun v b => Rp K G (tI b) v, rfl, SqL.of h1, rps_tI r1, fun v b h => ?_, fun l vs' hl e' => ?_⟩
  · rw [← py_tI]; exact (h.mono g).dp (isP_tI b)
  · exact kk _ q _ _ _ (Ext.newH g hl) ⟨l, _, rfl, hl, upd_same, tI_rps e', g.free hl⟩
theorem ej_sortT (hu : X.A.units + 65 < cLine) (hg : Gl X "sorted") (hm : X.mg "sorted" = none) (ha : EJ k E X a w) (hst : starEach [a] X.env = (false, eval a X.env) :: starEach [] X.env := by rfl) : EJ .f E X (.Call (.Name "sorted" p) [a] [] pos) (wN oSortT (waCons w waNil)) :=
  let h := aj_consO ha (aj_nil (kk := false)) hst
  ej_N h (pe_callB (cr_sortT hu) hg hm (by decide +kernel) h.pa (by decide) (by decide) hst rfl) brg_sortT

/-! ### return x if c else e: x an own object -/
def sRetIf (tt : Wt) (i : Nat) (w : Wx) : Ws := fun Z ρ => tt Z.xc ρ fun t => if t = true then ∃ d, ρ[i]? = some (.ow d) ∧ Z.rt true d else w Z.xc ρ fun d => Z.rt true d
theorem sj_retIf {tt : Wt} {i : Nat} (hc : TJ E X c tt) (ha : PE X a (tVar i)) (hb : EJ .f E X b w) {p2 : Pos} : SJ E X (.Return (some (.IfExp c a b pos)) p2) (sRetIf tt i w) :=
  ⟨(ps_ret (pe_ifExp hc.pt ha hb.pe)).imp fun D' σ H ⟨G0, H0, G, ρ, Z, R, T, q⟩ => ⟨G0, H0, G, ρ, Z.xc, R, T.xc, hc.mo _ _ _ _ (fun t q1 G1 H1 x1 => by
    have R1 := R.ext x1
    cases t with
    | true =>
      rw [if_pos rfl] at q1
      show tVar i σ H1 D'.rt
      obtain ⟨d, hi, q2⟩ := q1
      obtain ⟨p, o, e1, e2, t, g, z⟩ := R1.sl i _ hi
      exact ⟨_, e1, T.rt true d G1 H1 _ R1.ex ⟨p, o, rfl, z, e2, t, g⟩ q2⟩
    | false =>
      rw [if_neg Bool.false_ne_true] at q1
      show liftW X.K E .f w σ H1 D'.rt
      exact ⟨G0, H0, G1, ρ, Z.xc, R1, T.xc, hb.mo _ _ _ _ (fun d q2 G2 H2 v x2 r2 => T.rt true d G2 H2 v (R1.ex.trans x2) (rv_later (k := .f) R1.h0 r2) q2) q1⟩) q⟩⟩
/-! ### a, b = a list -/
def gLstD (n : Nat) (gs : Wgs) : Wg := fun d ρ Q => ∃ ds, d.isL = some ds ∧ ds.length = n ∧ gs ds ρ Q
theorem gj_lst {kk : Nat} {tgs : List Nat} {gs : Wgs} {n : Nat} (hc : X.calm = true) (h : GsJ X es tgs gs) (hn : (assignEach es X.env).length = n := by rfl) (hst : (assignEach es X.env).findIdx? (·.1) = none := by rfl) : GJ X (.Tuple es kk pos) tgs (gLstD n gs) := by
  refine ⟨(pg_unl hc h.pg hn hst).imp fun v σ H Q ⟨G0, H0, G, ρ, d, R, r, ds, ed, hl, q⟩ => ?_, fun d ρ Q Q' i ⟨ds, e, l, q⟩ => ⟨ds, e, l, h.mo _ _ _ _ i q⟩⟩
  obtain ⟨p, vs, rfl, h1, m1⟩ := rp_isL r ed
  exact ⟨p, vs, rfl, R.gh.seq h1, by rw [← m1.length]; exact hl, G0, H0, G, ρ, ds, R, m1, q⟩
def wSelf (i : Nat) (C0 : Addr) (f : Str) : Wx := fun xc ρ Q => ∃ a fs v, ρ[i]? = some (.se a C0 fs) ∧ fs.lookup f = some v ∧ Q v
end
end Tw

/-! Tw, part U: loops over lists of anything that stand for data. -/
namespace Tw
open PySem PySem.Spec L2 PyProof.Rows
section
variable {α β : Type} {g : Wg} {b : Ws} {Z : Pd} {we : Wx} {tt : Wt} {ρ : Evn} {Q : List D → Prop}
theorem lc_ofF (l : List α) (c : α → D) (p : α → Bool) (f : α → D)
    (h : ∀ x ∈ l, ∀ (k1 : D → Prop) (k2 : Prop), (p x = true → k1 (f x)) → (p x = false → k2) → g (c x) ρ fun ρ' => tt xcNo ρ' fun t => if t = true then we xcNo ρ' k1 else k2)
    (hz : l.length ≤ sizeLine) (q : Q ((l.filter p).map f)) : lcW g tt we ρ Q (l.map c) [] := by
  have go : ∀ (r : List α) (acc : List D), (∀ x ∈ r, x ∈ l) → acc.length + r.length ≤ sizeLine → Q (acc ++ (r.filter p).map f) → lcW g tt we ρ Q (r.map c) acc := by
    intro r
    induction r with
    | nil => intro acc _ _ q; simpa [lcW] using q
    | cons x r ih =>
      intro acc hm hl q
      simp only [List.length_cons] at hl
      refine h x (hm x (by simp)) _ _ (fun hp => ⟨by omega, ih _ (fun y hy => hm y (by simp [hy])) (by simp; omega) ?_⟩) fun hp => ih _ (fun y hy => hm y (by simp [hy])) (by omega) ?_
      · simpa [List.filter_cons, hp] using q
      · simpa [List.filter_cons, hp] using q
  exact go l [] (fun _ h => h) (by simpa using hz) (by simpa using q)
theorem lc_of (l : List α) (c : α → D) (f : α → D) (h : ∀ x ∈ l, ∀ (k1 : D → Prop), k1 (f x) → g (c x) ρ fun ρ' => we xcNo ρ' k1) (hz : l.length ≤ sizeLine) (q : Q (l.map f)) : lcW g wtYes we ρ Q (l.map c) [] :=
  lc_ofF l c (fun _ => true) f (fun x hx k1 k2 h1 _ => by
    have := h x hx (fun y => k1 y) (h1 rfl)
    simpa [wtYes] using this) hz (by rw [List.filter_eq_self.mpr (fun _ _ => rfl)]; exact q)
/-- over a range from 0 -/
theorem lc_rng0 (n : Nat) (f : Nat → D) (h : ∀ i, i < n → ∀ (k1 : D → Prop), k1 (f i) → g (.int (i : Nat)) ρ fun ρ' => we xcNo ρ' k1) (hz : n ≤ sizeLine) (q : Q ((List.range n).map f)) : lcW g wtYes we ρ Q (rngD 0 n) [] :=
  lc_of (List.range n) (fun i => .int (0 + (i : Nat))) f (fun i hi k1 h1 => by rw [Int.zero_add]; exact h i (List.mem_range.mp hi) k1 h1) (by simpa using hz) q
theorem lc_rng0F (n : Nat) (p : Nat → Bool) (f : Nat → D) (h : ∀ i, i < n → ∀ (k1 : D → Prop) (k2 : Prop), (p i = true → k1 (f i)) → (p i = false → k2) → g (.int (i : Nat)) ρ fun ρ' => tt xcNo ρ' fun t => if t = true then we xcNo ρ' k1 else k2) (hz : n ≤ sizeLine) (q : Q (((List.range n).filter p).map f)) : lcW g tt we ρ Q (rngD 0 n) [] :=
  lc_ofF (List.range n) (fun i => .int (0 + (i : Nat))) p f (fun i hi k1 k2 h1 h2 => by rw [Int.zero_add]; exact h i (List.mem_range.mp hi) k1 k2 h1 h2) (by simpa using hz) q
/-- a for, by a fold: R says how the fold's state stands in the slots -/
theorem for_fold (l : List α) (c : α → D) (step : β → α → β) (R : β → Evn → Prop) (s0 : β)
    (hs : ∀ (pre : List α) (x : α) (post : List α) (ρ : Evn) (N : Evn → Prop), l = pre ++ x :: post → R (pre.foldl step s0) ρ → (∀ ρ', R (step (pre.foldl step s0) x) ρ' → N ρ') → g (c x) ρ fun ρ' => b { Z with nx := N, ct := N, bk := Z.nx } ρ')
    (h0 : R s0 ρ) (hd : ∀ ρ, R (l.foldl step s0) ρ → Z.nx ρ) : forW g b Z (l.map c) ρ := by
  have go : ∀ (r pre : List α) (ρ : Evn), l = pre ++ r → R (pre.foldl step s0) ρ → forW g b Z (r.map c) ρ := by
    intro r
    induction r with
    | nil => intro pre ρ e h; rw [List.append_nil] at e; subst e; exact hd ρ h
    | cons x r ih =>
      intro pre ρ e h
      refine hs pre x r ρ _ e h fun ρ' h' => ih (pre ++ [x]) ρ' (by rw [e]; simp) (by rw [List.foldl_append]; exact h')
  exact go l [] ρ rfl h0
/-- .. that changes nothing but temporary slots -/
theorem for_same (l : List α) (c : α → D) (R : Evn → Prop) (hs : ∀ (x : α) (ρ : Evn) (N : Evn → Prop), x ∈ l → R ρ → (∀ ρ', R ρ' → N ρ') → g (c x) ρ fun ρ' => b { Z with nx := N, ct := N, bk := Z.nx } ρ')
    (h0 : R ρ) (hd : ∀ ρ, R ρ → Z.nx ρ) : forW g b Z (l.map c) ρ :=
  for_fold l c (fun (_ : Unit) _ => ()) (fun _ ρ => R ρ) () (fun pre x post ρ N e h hn => hs x ρ N (by rw [e]; simp) h hn) h0 hd
end
/-! ### words on slots that are written out -/
@[simp] theorem atI_ints {l : List Int} {i : Int} : atI (l.map D.int) i = (atI l i).map D.int := by
  unfold atI
  simp only [List.length_map, List.getElem?_map]
  cases ixN l.length i <;> rfl
end Tw

/-! Tw, part V: ==, != and in, on known data. -/
namespace Tw
open PySem PySem.Spec L2 PyProof.Rows
open PySem.PyData (strOk)
theorem eqvAll_eq {xs ys : List Int} : PyData.eqvAll (xs.map .int) (ys.map .int) = (xs == ys) := by
  induction xs generalizing ys with
  | nil => cases ys <;> simp [PyData.eqvAll]
  | cons x xs ih => cases ys <;> simp [PyData.eqvAll, PyData.eqv, ih]
theorem lay_ints (xs : List Int) : PyData.canLayAll0 (xs.map .int) = true := by
  induction xs with
  | nil => simp [PyData.canLayAll0]
  | cons x xs ih => simp [PyData.canLayAll0, PyData.canLay0, ih]
theorem ok_tI (b : List Int) : (tI b).ok := by
  refine ⟨isP_tI b, ?_⟩
  rw [py_tI]
  unfold SeqAt.shaped
  rw [encT_depth]
  unfold encT
  simp [PyData.canLay0, lay_ints]
theorem ok_int (i : Int) : (D.int i).ok := ⟨rfl, by simp [D.py, SeqAt.shaped, PyData.canLay0, PyData.depth]⟩
theorem ok_str {z : Str} (h : strOk z = true) : (D.str z).ok := ⟨rfl, by simp [D.py, SeqAt.shaped, PyData.canLay0, PyData.depth, h]⟩
theorem ok_ptI (b : List (List Int)) : (D.lst (b.map tI)).ok := by
  have h1 : D.pys (b.map tI) = b.map encT := pys_map tI encT py_tI b
  refine ⟨?_, ?_⟩
  · rw [D.isP, isPs_all, List.all_map, List.all_eq_true]
    intro x _
    exact isP_tI x
  · rw [D.py, h1]
    unfold SeqAt.shaped
    have h2 : PyData.canLayAll0 (b.map encT) = true := by
      induction b with
      | nil => simp [PyData.canLayAll0]
      | cons x xs ih => simp [PyData.canLayAll0, ih (pys_map tI encT py_tI xs), encT, PyData.canLay0, lay_ints]
    have h3 : PyData.depthAll (b.map encT) ≤ 1 := by
      clear h1 h2
      induction b with
      | nil => simp [PyData.depthAll]
      | cons x xs ih => simp only [List.map_cons, PyData.depthAll, encT_depth]; omega
    rw [PyData.canLay0, h2, PyData.depth]
    simp
    omega
theorem ok_strs {l : List Str} (h : ∀ z ∈ l, strOk z = true) : (D.lst (l.map .str)).ok := by
  have h1 : D.pys (l.map .str) = l.map PyData.str := pys_map D.str PyData.str (fun _ => by rw [D.py]) l
  refine ⟨?_, ?_⟩
  · rw [D.isP, isPs_all, List.all_map, List.all_eq_true]
    intro x _
    rfl
  · rw [D.py, h1]
    unfold SeqAt.shaped
    have h2 : PyData.canLayAll0 (l.map PyData.str) = true := by
      clear h1
      induction l with
      | nil => simp [PyData.canLayAll0]
      | cons x xs ih => simp [PyData.canLayAll0, ih fun z hz => h z (by simp [hz]), PyData.canLay0, h x]
    have h3 : PyData.depthAll (l.map PyData.str) = 0 := by
      clear h1 h2 h
      induction l with
      | nil => simp [PyData.depthAll]
      | cons x xs ih => simp only [List.map_cons, PyData.depthAll, ih, PyData.depth]; omega
    rw [PyData.canLay0, h2, PyData.depth, h3]
    simp
section
variable {i j : Int} {Q : D → Prop} {x y : Str} {a b : List Int}
@[simp] theorem oEq_i : oEq (.int i) (.int j) Q = Q (.bl (i == j)) := by
  unfold oEq
  simp [ok_int, D.py, PyData.eqv]
@[simp] theorem oNe_i : oNe (.int i) (.int j) Q = Q (.bl (!(i == j))) := by
  unfold oNe
  simp [ok_int, D.py, PyData.eqv]
theorem oEq_s (hx : strOk x = true) (hy : strOk y = true) : oEq (.str x) (.str y) Q = Q (.bl (x == y)) := by
  unfold oEq
  simp [ok_str hx, ok_str hy, D.py, PyData.eqv]
@[simp] theorem oEq_t : oEq (tI a) (tI b) Q = Q (.bl (a == b)) := by
  unfold oEq
  rw [py_tI, py_tI]
  unfold encT
  simp [ok_tI, PyData.eqv, eqvAll_eq]
@[simp] theorem oNe_t : oNe (tI a) (tI b) Q = Q (.bl (!(a == b))) := by
  unfold oNe
  rw [py_tI, py_tI]
  unfold encT
  simp [ok_tI, PyData.eqv, eqvAll_eq]
theorem any_int (l : List Int) : (D.pys (l.map .int)).any (fun z => PyData.eqv z (D.int i).py) = decide (i ∈ l) := by
  rw [pys_map D.int PyData.int (fun _ => by rw [D.py]), List.any_map, D.py]
  induction l with
  | nil => rfl
  | cons x xs ih =>
    rw [List.any_cons, ih]
    show ((x == i) || decide (i ∈ xs)) = _
    by_cases e : x = i
    · subst e; simp
    · have e' : ¬ i = x := fun z => e z.symm
      simp [e, e']
theorem any_str (l : List Str) : (D.pys (l.map .str)).any (fun z => PyData.eqv z (D.str x).py) = decide (x ∈ l) := by
  rw [pys_map D.str PyData.str (fun _ => by rw [D.py]), List.any_map, D.py]
  induction l with
  | nil => rfl
  | cons y xs ih =>
    rw [List.any_cons, ih]
    show ((y == x) || decide (x ∈ xs)) = _
    by_cases e : y = x
    · subst e; simp
    · have e' : ¬ x = y := fun z => e z.symm
      simp [e, e']
theorem any_t (l : List (List Int)) : (D.pys (l.map tI)).any (fun z => PyData.eqv z (tI a).py) = decide (a ∈ l) := by
  rw [pys_map tI encT py_tI, List.any_map, py_tI]
  induction l with
  | nil => rfl
  | cons y xs ih =>
    rw [List.any_cons, ih]
    have h0 : ((fun z => PyData.eqv z (encT a)) ∘ encT) y = (y == a) := by
      show PyData.eqv (encT y) (encT a) = _
      unfold encT
      rw [PyData.eqv, eqvAll_eq]
    rw [h0]
    by_cases e : y = a
    · subst e; simp
    · have e' : ¬ a = y := fun z => e z.symm
      simp [e, e']
@[simp] theorem oIn_i : oIn false (.int i) (tI a) Q = Q (.bl (decide (i ∈ a))) := by
  have h := any_int (i := i) a
  have o := ok_tI a
  unfold tI at o ⊢
  simp only [oIn, ok_int, o, h, true_and]
  rfl
@[simp] theorem oIn_t {l : List (List Int)} : oIn false (tI a) (.lst (l.map tI)) Q = Q (.bl (decide (a ∈ l))) := by
  have h := any_t (a := a) l
  simp only [oIn, ok_tI, ok_ptI, h, true_and]
  rfl
theorem oIn_s {l : List Str} (hx : strOk x = true) (hl : ∀ z ∈ l, strOk z = true) (neg : Bool) : oIn neg (.str x) (.lst (l.map .str)) Q = Q (.bl (if neg = true then !decide (x ∈ l) else decide (x ∈ l))) := by
  have h := any_str (x := x) l
  simp only [oIn, ok_str hx, ok_strs hl, h, true_and]
end
end Tw

/-! Tw, part X: classes of known data, is, in short tuples, objects made. -/
namespace Tw
open PySem PySem.Spec L2 PyProof.Rows
open PySem.PyData (strOk)
@[simp] theorem kit_NoneType_int : kitB "NoneType" "int" = some false := by decide +kernel
@[simp] theorem kit_NoneType_bool : kitB "NoneType" "bool" = some false := by decide +kernel
@[simp] theorem kit_NoneType_str : kitB "NoneType" "str" = some false := by decide +kernel
@[simp] theorem kit_NoneType_tuple : kitB "NoneType" "tuple" = some false := by decide +kernel
@[simp] theorem kit_NoneType_list : kitB "NoneType" "list" = some false := by decide +kernel
@[simp] theorem kit_bool_int : kitB "bool" "int" = some true := by decide +kernel
@[simp] theorem kit_bool_bool : kitB "bool" "bool" = some true := by decide +kernel
@[simp] theorem kit_bool_str : kitB "bool" "str" = some false := by decide +kernel
@[simp] theorem kit_bool_tuple : kitB "bool" "tuple" = some false := by decide +kernel
@[simp] theorem kit_bool_list : kitB "bool" "list" = some false := by decide +kernel
@[simp] theorem kit_int_int : kitB "int" "int" = some true := by decide +kernel
@[simp] theorem kit_int_bool : kitB "int" "bool" = some false := by decide +kernel
@[simp] theorem kit_int_str : kitB "int" "str" = some false := by decide +kernel
@[simp] theorem kit_int_tuple : kitB "int" "tuple" = some false := by decide +kernel
@[simp] theorem kit_int_list : kitB "int" "list" = some false := by decide +kernel
@[simp] theorem kit_str_int : kitB "str" "int" = some false := by decide +kernel
@[simp] theorem kit_str_bool : kitB "str" "bool" = some false := by decide +kernel
@[simp] theorem kit_str_str : kitB "str" "str" = some true := by decide +kernel
@[simp] theorem kit_str_tuple : kitB "str" "tuple" = some false := by decide +kernel
@[simp] theorem kit_str_list : kitB "str" "list" = some false := by decide +kernel
@[simp] theorem kit_list_int : kitB "list" "int" = some false := by decide +kernel
@[simp] theorem kit_list_bool : kitB "list" "bool" = some false := by decide +kernel
@[simp] theorem kit_list_str : kitB "list" "str" = some false := by decide +kernel
@[simp] theorem kit_list_tuple : kitB "list" "tuple" = some false := by decide +kernel
@[simp] theorem kit_list_list : kitB "list" "list" = some true := by decide +kernel
@[simp] theorem kit_tuple_int : kitB "tuple" "int" = some false := by decide +kernel
@[simp] theorem kit_tuple_bool : kitB "tuple" "bool" = some false := by decide +kernel
@[simp] theorem kit_tuple_str : kitB "tuple" "str" = some false := by decide +kernel
@[simp] theorem kit_tuple_tuple : kitB "tuple" "tuple" = some true := by decide +kernel
@[simp] theorem kit_tuple_list : kitB "tuple" "list" = some false := by decide +kernel

section
variable {Q : D → Prop} {d : D} {t neg : Bool} {i : Int} {x y z : Str} {xs : List D}
@[simp] theorem oIsN_d : oIsN neg d .non Q = Q (.bl (if neg = true then !d.isN else d.isN)) := by cases d <;> rfl
@[simp] theorem oIsB_d : oIsB d (.bl t) Q = Q (.bl (d.isB t)) := by cases d <;> rfl
@[simp] theorem isN_non : D.isN .non = true := rfl
@[simp] theorem isN_i : D.isN (.int i) = false := rfl
@[simp] theorem isN_b : D.isN (.bl t) = false := rfl
@[simp] theorem isN_s : D.isN (.str x) = false := rfl
@[simp] theorem isN_t : D.isN (.tup xs) = false := rfl
@[simp] theorem isN_l : D.isN (.lst xs) = false := rfl
@[simp] theorem isB_non : D.isB .non t = false := rfl
@[simp] theorem isB_i : D.isB (.int i) t = false := rfl
@[simp] theorem isB_b {s : Bool} : D.isB (.bl s) t = (s == t) := rfl
@[simp] theorem isB_s : D.isB (.str x) t = false := rfl
@[simp] theorem isB_t : D.isB (.tup xs) t = false := rfl
@[simp] theorem isB_l : D.isB (.lst xs) t = false := rfl
@[simp] theorem ty_non : D.ty .non = some "NoneType" := rfl
@[simp] theorem ty_i : D.ty (.int i) = some "int" := rfl
@[simp] theorem ty_b : D.ty (.bl t) = some "bool" := rfl
@[simp] theorem ty_s : D.ty (.str x) = some "str" := rfl
@[simp] theorem ty_t : D.ty (.tup xs) = some "tuple" := rfl
@[simp] theorem ty_l : D.ty (.lst xs) = some "list" := rfl
theorem oIn_ss (hx : strOk x = true) (hy : strOk y = true) (hz : strOk z = true) : oIn neg (.str x) (.tup [.str y, .str z]) Q = Q (.bl (if neg = true then !(x == y || x == z) else (x == y || x == z))) := by
  have h := any_str (x := x) [y, z]
  have o : (D.tup [.str y, .str z]).ok := by
    refine ⟨rfl, ?_⟩
    simp [D.py, D.pys, SeqAt.shaped, PyData.canLay0, PyData.canLayAll0, PyData.depth, PyData.depthAll, hy, hz]
  have e : decide (x ∈ [y, z]) = (x == y || x == z) := by
    by_cases e1 : x = y <;> by_cases e2 : x = z <;> simp [e1, e2]
  rw [e] at h
  simp only [List.map_cons, List.map_nil] at h
  simp only [oIn, ok_str hx, o, h, true_and]
theorem ex2 {α β : Type} {p : α} {q : β} {P : α → β → Prop} : (∃ a b, (p = a ∧ q = b) ∧ P a b) = P p q := propext ⟨fun ⟨_, _, ⟨rfl, rfl⟩, h⟩ => h, fun h => ⟨_, _, ⟨rfl, rfl⟩, h⟩⟩
theorem ex2' {α β : Type} {p : α} {q : β} {P : α → β → Prop} : (∃ a b, (p = a ∧ b = q) ∧ P a b) = P p q := propext ⟨fun ⟨_, _, ⟨rfl, rfl⟩, h⟩ => h, fun h => ⟨_, _, ⟨rfl, rfl⟩, h⟩⟩
def Sl.noSe : Sl → Bool
  | .se _ _ _ => false
  | _ => true
@[simp] theorem noSe_da : Sl.noSe (.da d) = true := rfl
@[simp] theorem noSe_no : Sl.noSe .no = true := rfl
theorem oneSe {a C : Addr} {fs : List (Str × D)} {l : List Sl} (h : l.all Sl.noSe = true) : OneSe (.se a C fs :: l) 0 := fun j a' C' fs' hj => by
  cases j with
  | zero => rfl
  | succ j =>
    have hj' : l[j]? = some (.se a' C' fs') := by simpa using hj
    have hm := List.mem_of_getElem? hj'
    have := List.all_eq_true.mp h _ hm
    cases this
@[simp] theorem oneSe_iff {a C : Addr} {fs : List (Str × D)} {l : List Sl} : OneSe (.se a C fs :: l) 0 = (l.all Sl.noSe = true) := propext ⟨fun h => List.all_eq_true.mpr fun s hs => by
  obtain ⟨j, hj⟩ := List.getElem?_of_mem hs
  cases s with
  | se a' C' fs' =>
    have := h (j + 1) a' C' fs' (by simpa using hj)
    omega
  | _ => rfl, oneSe⟩
end
end Tw

/-! Tw, part Y: methods and constructors from where they stand. -/
namespace Tw
open PySem PySem.Spec L2 PyProof.Rows
section
variable {P : Program} {w : World} {K : PySem.W.Frag} {mg : Str → Option Value} {base : Heap}
/-- a method of the text -/
structure AtM (K : PySem.W.Frag) (C : Addr) (m q : Str) (st : Stmt) (ps : List Str) : Prop where
  ex : ∃ f fd, Fun K m q st f fd ∧ Meth K C m f ∧ Binds K fd ps []
theorem mdef_ok {C : Addr} {m q : Str} {st : Stmt} {N ps : List Str} {k : Nat} {wf : Wf} {wb : Ws} (A : AtM K C m q st ps) (cl : Cls K C) (S : FnScope N ps (defScope st)) (mo : MoF wf) (hn : ∀ ds xc Q, wf xc ds Q → ds.length = ps.length)
    (hb : ∀ (f : Addr) (cdv : Value) (A : Around) (outer : List Env) (s : Shared) (H : Hp) (E : XK), Room k (A.deeper (envOfC q (defScope st) s.heap.objs.size f cdv)) →
      BJ E (cxOf (L2.CX P w) P w K mg base N q (defScope st) f cdv A outer s H E) (defBody st) wb)
    (hw : ∀ xc ds (Q : Bool → D → Prop), wf xc ds Q → wb { nx := fun _ => Q false .non, rt := Q, xc := xc } (ds.map .da ++ List.replicate (N.length - ds.length) .no)) :
    MDef P w K mg base C m ps.length (k + 1) wf := by
  obtain ⟨f, fd, F, hm, b⟩ := A.ex
  exact ⟨⟨f, fd, ps, fn_ok F S (fun xc ds Q q => hn ds xc Q q) (hb f) hw, hm, b⟩, cl, mo, hn⟩
/-- an __init__ of the text -/
structure AtI (K : PySem.W.Frag) (mg : Str → Option Value) (x : Str) (C : Addr) (q : Str) (st : Stmt) (ps : List Str) (n : Nat) (ks : List Str) (gD : List D → List D → List D) : Prop where
  ex : ∃ (f : Addr) (fd : FuncData) (g : List Value → List Value → List Value) (gV gR : List V → List V → List V), Fun K "__init__" q st f fd ∧ Mk K C f ∧ KBn K fd ps (n + 1) ks g gV ∧ mg x = some (.ref C) ∧
    (∀ x vs zs, vs.length = n → zs.length = ks.length → gV (V.ref x :: vs) zs = V.ref x :: gR vs zs) ∧ (∀ G ds es vs zs, Rps K G ds vs → Rps K G es zs → Rps K G (gD ds es) (gR vs zs))
theorem ctor_ok {x : Str} {C : Addr} {q : Str} {st : Stmt} {N ps : List Str} {n m k : Nat} {ks : List Str} {gD : List D → List D → List D} {wi : Wi} {wb : Ws} (A : AtI K mg x C q st ps n ks gD) (hps : ps.length = m + 1) (S : FnScope N ps (defScope st)) (mo : MoI wi) (hn : ∀ ds xc Q, wi xc ds Q → ds.length = m)
    (hb : ∀ (f : Addr) (cdv : Value) (A : Around) (outer : List Env) (s : Shared) (H : Hp) (E : XK), Room k (A.deeper (envOfC q (defScope st) s.heap.objs.size f cdv)) →
      BJ E (cxOf (L2.CX P w) P w K mg base N q (defScope st) f cdv A outer s H E) (defBody st) wb)
    (hw : ∀ xc ds (Q : List (Str × D) → Prop) p, wi xc ds Q → wb { nx := fun ρ => ∃ fs, ρ[0]? = some (.se p C fs) ∧ Q fs, rt := fun _ _ => False, xc := xc } (.se p C [] :: (ds.map .da ++ List.replicate (N.length - (ds.length + 1)) .no))) :
    Ctor P w K mg base x C n ks (k + 1) gD wi := by
  obtain ⟨f, fd, g, gV, gR, F, M, B, hm, h1, h2⟩ := A.ex
  exact ⟨⟨f, fd, ps, g, gV, gR, m, M, ini_ok hps F S (fun xc ds Q q => hn ds xc Q q) (hb f) hw, B, hm, h1, h2, hn⟩, mo⟩
end
end Tw

/-! Tw, part Z: len(set(xs)), xs a list of texts; sep.join(xs). -/
namespace Tw
open PySem PySem.Spec L2 PyProof.Rows
section
variable {P : Program} {w : World} {A : Around} {E : Value → Shared → Prop} {s : Shared}
/-- how many different ones stand in a list -/
def kinds {κ : Type} [DecidableEq κ] : List κ → Nat
  | [] => 0
  | x :: r => if x ∈ r then kinds r else kinds r + 1
/-- how many different ones, told from the front -/
def kindsR {κ : Type} [DecidableEq κ] (l : List κ) : Nat → Nat
  | 0 => 0
  | i + 1 => match l[i]? with
    | some x => if x ∈ l.take i then kindsR l i else kindsR l i + 1
    | none => kindsR l i
theorem kindsR_le {κ : Type} [DecidableEq κ] (l : List κ) : ∀ i, kindsR l i ≤ i
  | 0 => Nat.le_refl _
  | i + 1 => by
    have := kindsR_le l i
    unfold kindsR
    split
    · split <;> omega
    · omega
theorem setOfS_at {P : Program} {w : World} {h h' : Heap} {a : Addr} {S : Str → Bool} {n : Nat} (R : h.SetOf (strKind P w) a S n) (k : ∀ o, h.get? a = some o → h'.get? a = some o) : h'.SetOf (strKind P w) a S n := by
  obtain ⟨o, es, ep, t, ho, r⟩ := R
  exact ⟨o, es, ep, t, k o ho, r⟩
/-- the loop of set.update over texts -/
theorem upd_strs {it : Addr} {fp wr : List Addr} {Gs : Array GenState → Array GenState → Prop} {n : Nat} {Pv : Nat → Value → Prop} {St : Nat → Shared → Prop} {R : Result → Shared → Prop}
    (Wk : WalksS P w A.in1 it fp wr Gs n Pv St) (z : Addr) (zf : z ∉ fp) (ns : List Str) (en : n = ns.length) (few : ns.length < 64) (val : ∀ i v, Pv i v → ∃ k t, ns[i]? = some k ∧ v = .str k t)
    (h0 : Heap) (z0 : h0.get? z = none) (w0 : ∀ b ∈ wr, h0.get? b = none) :
    ∀ (j i : Nat) (s : Shared), n - i = j → i ≤ n → St i s → (∀ b o, h0.get? b = some o → s.heap.get? b = some o) → (s.heap.SetOf (strKind P w) z (fun k => decide (k ∈ ns.take i)) (kindsR ns i)) →
      (∀ s', Moved (z :: wr) Gs s s' → s'.heap.SetOf (strKind P w) z (fun k => decide (k ∈ ns.take n)) (kindsR ns n) → (∀ b o, h0.get? b = some o → s'.heap.get? b = some o) → R (.ok (.ret .none)) s') →
      codeAny (model P w) A (.builtin "set.update.loop" ⟨[.ref z, .ref it], []⟩) R s := by
  have zw : z ∉ wr := fun q => zf (Wk.sub _ q)
  have up : ∀ b ∈ wr, b ∈ z :: wr := fun b q => List.mem_cons_of_mem _ q
  have held : ∀ {s s' : Shared}, Moved wr Gs s s' → (∀ b o, h0.get? b = some o → s.heap.get? b = some o) → ∀ b o, h0.get? b = some o → s'.heap.get? b = some o := fun mv kp b o q =>
    mv.heap b o (fun hb => by rw [w0 b hb] at q; cases q) (kp b o q)
  intro j
  induction j with
  | zero =>
    intro i s ej hi st kp hz fin
    obtain rfl : i = n := by omega
    refine codeAny_builtin F.entry_set_update_loop ?_
    rw [Around.under_plainId F.plain_set_update_loop _]
    show wpAny _ A.in1 (pyNext (.ref it) >>= _) _ _ s
    refine wpAny_bind (Wk.done s _ _ st fun s' mv => ?_)
    show wpAny _ A.in1 (ret Value.none) _ _ s'
    exact wpAny_pure (fin s' (mv.mono up) (setOfS_at hz fun o q => mv.heap z o zw q) (held mv kp))
  | succ j ih =>
    intro i s ej hi st kp hz fin
    have lt : i < n := by omega
    refine codeAny_builtin F.entry_set_update_loop ?_
    rw [Around.under_plainId F.plain_set_update_loop _]
    show wpAny _ A.in1 (pyNext (.ref it) >>= _) _ _ s
    refine wpAny_bind (Wk.item i s _ _ lt st fun v s' pv' st' mv => ?_)
    obtain ⟨k, t, hk, rfl⟩ := val i v pv'
    have kp' := held mv kp
    have hz' : s'.heap.SetOf (strKind P w) z _ _ := setOfS_at hz fun o q => mv.heap z o zw q
    show wpAny _ A.in1 (holding [Value.str k t] (setAdd z (.str k t)) >>= _) _ _ s'
    refine wpAny_bind (wpAny_holding ?_)
    unfold setAdd
    refine wpAny_holding ?_
    refine wpAny_bind ((strKind P w).pyHash (k := k) (strKind_is _ _ _ _) ?_)
    have kl := kindsR_le ns i
    refine wpAny_setAddHashed_of (knd := strKind P w) (s := { s' with toks := s'.toks + 1 }) (k := k) (strKind_is _ _ _ _) rfl hz' (by unfold scanBound; omega) fun h' sb r => ?_
    have tk : ns.take (i + 1) = ns.take i ++ [k] := by rw [List.take_succ, hk]; rfl
    have kp2 : ∀ b o, h0.get? b = some o → h'.get? b = some o := fun b o q => (sb.2 b (fun e => by rw [e, z0] at q; cases q)).trans (kp' b o q)
    have fr : ∀ b ∈ fp, ∀ o, s'.heap.get? b = some o → h'.get? b = some o := fun b hb o q => by
      rw [sb.2 b (fun e => zf (by rw [← e]; exact hb))]; exact q
    have r2 : h'.SetOf (strKind P w) z (fun k => decide (k ∈ ns.take (i + 1))) (kindsR ns (i + 1)) := by
      refine SetOf_congr r (fun q => ?_) ?_
      · rw [tk]; simp only [List.mem_append, List.mem_singleton]
        by_cases a : q ∈ ns.take i <;> by_cases b : q = k <;> simp [a, b]
      · rw [kindsR, hk]
        by_cases a : k ∈ ns.take i <;> simp [a]
    refine wpAny_pure ⟨plainId_quiet F.plain_set_update_loop _, ih (i + 1) _ (by omega) lt (Wk.frame _ s' _ _ st' (Nat.le_add_right _ _) fr) kp2 r2 fun s'' mv2 hz2 kp3 => ?_⟩
    refine fin s'' (Moved.trans Wk.gtrans ((mv.mono up).then_heap (Nat.le_add_right _ _) fun b o hb q => ?_) mv2) hz2 kp3
    rw [sb.2 b (fun e => hb (by rw [e]; exact List.mem_cons_self))]; exact q
set_option maxHeartbeats 3200000 in
/-- set(xs) of texts -/
theorem call_setS {l : Addr} {items : Array Value} (ns : List Str) {Q : Value → Shared → Prop} (hh : A.handled = none) (il : s.heap.IsList l items) (ii : ∀ (i : Nat) (v : Value), items[i]? = some v → ∃ k t, ns[i]? = some k ∧ v = .str k t) (sz : items.size = ns.length) (few : ns.length < 64)
    (h : ∀ (h' : Heap) (tk : Nat), h'.SetOf (strKind P w) s.heap.objs.size (fun k => decide (k ∈ ns)) (kindsR ns ns.length) → (∀ b o, s.heap.get? b = some o → h'.get? b = some o) → Q (.ref s.heap.objs.size) { s with heap := h', toks := tk }) :
    wpAny (model P w) A (call (.type "set") [.ref l]) Q E s := by
  obtain ⟨c, tl, hmro⟩ := F.called_set.mro
  have c1 := F.called_set.made
  have c2 := F.called_set.sub
  refine wpAny_call (codeAny_of_tree ?_)
  show wpAny _ _ (callAny (.type "set") _) _ _ _
  refine wpAny_pure ⟨Code.quiet_builtin _ (by decide +kernel), codeAny_builtin F.entry_type_call ?_⟩
  rw [Around.under_plain (weight_type_call_type "set" [.ref l] []) rfl]
  have c3 := F.called_set.notType
  have c4 := F.called_set.canCreate
  have c5 := F.typeCall_set_1 (.ref l)
  repeat (any_goals (first | assumption | wp_step))
  refine codeAny_mono (code_set_led1 (.ref l) (E := E) (Q₁ := fun obj s₁ => obj = .ref s.heap.objs.size ∧ s₁ = { s with heap := s.heap.push (fresh0 w) }) ⟨rfl, rfl⟩) fun r s₁ hr => ?_
  cases r with
  | error e => exact hr
  | ok fl =>
    cases fl with
    | ret obj =>
      obtain ⟨rfl, rfl⟩ := hr
      have hS : (s.heap.push (fresh0 w)).get? s.heap.objs.size = some (fresh0 w) := Heap.get?_push_size _ rfl
      have hT : Shared.TypeIs { s with heap := s.heap.push (fresh0 w) } (.ref s.heap.objs.size) "set" := ⟨_, hS, rfl⟩
      have c6 := F.called_set.init.lookup
      have c7 := F.called_set.init.bind (.ref s.heap.objs.size)
      repeat (any_goals (first | assumption | wp_step))
      refine codeAny_mono (codeAny_call_builtin (R := wants (fun r s₂ => r = .none ∧ ∃ h' tk, s₂ = { s with heap := h', toks := tk } ∧ h'.SetOf (strKind P w) s.heap.objs.size (fun k => decide (k ∈ ns)) (kindsR ns ns.length) ∧
          (∀ b o, s.heap.get? b = some o → h'.get? b = some o)) E) F.called_set.init.plain F.entry_set_init (check_set_init_1 hT ?_)) fun r₂ s₂ hr₂ => ?_
      · obtain ⟨ol, hol, hcl, nl, hdl⟩ := il
        obtain ⟨ocls, odict, odata, oslots⟩ := ol
        simp only at hcl hdl
        subst hcl; subst hdl
        have hol' : (s.heap.push (fresh0 w)).get? l = some { cls := .type "list", dict := odict, data := .seq items nl, slots := oslots } := Heap.get?_push_of_some _ hol
        have d1 := F.sub_list_set
        have d2 := F.sub_list_frozenset
        have d3 : (Value.type "list" == Value.type "dict") = false := by decide
        have hl1 : (s.heap.push (fresh0 w)).IsList l items := ⟨_, hol', rfl, nl, rfl⟩
        unfold Builtin.«set.__init__» noKeywords Builtin.Frozenset.updateFrom
        generalize hPI : pyIter = PI
        wp_walk
        subst hPI
        refine wpAny_pyIter_list hl1 ?_
        refine wpAny_bind (wpAny_runValue ?_)
        have ls : l < s.heap.objs.size := Heap.lt_size hol
        have hh3 : A.in1.in1.in1.handled = none := by simp [hh]
        have nI : l ≠ (s.heap.push (fresh0 w)).objs.size := by
          rw [Heap.size_push]
          exact Nat.ne_of_lt (Nat.lt_succ_of_lt ls)
        have nf : s.heap.objs.size ∉ [(s.heap.push (fresh0 w)).objs.size, l] := by
          rw [Heap.size_push]; simp only [List.mem_cons, List.not_mem_nil, or_false, not_or]
          exact ⟨Nat.ne_of_lt (Nat.lt_succ_self _), Nat.ne_of_gt ls⟩
        have nn : ∀ b, s.heap.objs.size ≤ b → s.heap.get? b = none := fun b hb => by
          cases q : s.heap.get? b with
          | none => rfl
          | some o => exact absurd (Nat.lt_of_lt_of_le (Heap.lt_size q) hb) (Nat.lt_irrefl _)
        refine upd_strs ((Walks.list hh3 _ l nI items).toS) s.heap.objs.size nf ns sz few ii s.heap (nn _ (Nat.le_refl _)) (fun b hb => nn b (by
            rw [List.mem_singleton.mp hb, Heap.size_push]
            exact Nat.le_succ _)) (items.size - 0) 0 _ (by omega) (Nat.zero_le _)
          ⟨⟨_, Heap.get?_push_size _ rfl, rfl, rfl⟩, (hl1.push _)⟩ (fun b o e => Heap.get?_push_of_some _ (Heap.get?_push_of_some _ e)) ?hS0 ?hR
        case hS0 =>
          have new : (s.heap.push (fresh0 w)).SetOf (strKind P w) s.heap.objs.size (fun _ => false) 0 :=
            ⟨_, #[], 0, _, Heap.get?_push_size _ rfl, ⟨rfl, rfl, rfl⟩, rfl, (fun e he => by simp at he), (fun k => by simp), (by decide), (by rfl), rfl⟩
          exact SetOf_congr (setOfS_at new fun o e => Heap.get?_push_of_some _ e) (fun k => by simp) rfl
        case hR =>
          intro s' mv hz kp
          obtain ⟨h', g2, d', tk', os'⟩ := s'
          have eg : g2 = s.gens := mv.gens
          have ed : d' = s.drawn := mv.drawn
          have eo : os' = s.os := mv.os
          subst eg; subst ed; subst eo
          show wpAny _ _ _ _ _ _
          refine wpAny_pure ?_
          show wpAny _ _ (ret Value.none) _ _ _
          have et : ns.take items.size = ns := by rw [sz, List.take_length]
          rw [et, sz] at hz
          exact wpAny_pure ⟨rfl, h', tk', rfl, hz, kp⟩
      · cases r₂ with
        | error e => exact hr₂
        | ok fl₂ =>
          cases fl₂ with
          | ret r =>
            obtain ⟨rfl, h', tk, rfl, hz, kp⟩ := hr₂
            repeat (any_goals (first | assumption | wp_step))
            exact h _ _ hz kp
          | _ => exact hr₂.elim
    | _ => exact hr.elim
end
section
variable {X : Cx} {K : PySem.W.Frag} {E : XK} {e a b c o : Expr} {es : List Expr} {w wa wb wc : Wx} {k ka kb : Kd} {pos p : Pos}
/-! sep.join(xs) -/
end
end Tw

/-! Tw, part Z2: == by an own __eq__, isinstance of an own class, xs[i] = e, min, max, order of tuples, reverse, clear, objects made of lent lists. -/
namespace Tw
open PySem PySem.Spec L2 PyProof.Rows
section
variable {X : Cx} {K : PySem.W.Frag} {E : XK} {e a b c o : Expr} {es : List Expr} {w wa wb wc : Wx} {k ka kb : Kd} {pos p : Pos} {u ut : Wa} {st : Stmt} {rest body : List Stmt} {s s1 s2 : Ws}
/-! ### a == b by the class's own __eq__ -/
/-! ### isinstance(e, C) of an instance of C -/
/-! ### xs[i] = e, xs an own list -/
/-! ### min, max of two whole numbers -/
/-! ### t < t', tuples of whole numbers -/
/-! ### xs.reverse(), xs.clear() -/
/-! ### C(..) whose arguments are lent: the new object has nothing of them -/
mutual
def D.noL : D → Bool
  | .non => true | .bl _ => true | .int _ => true | .str _ => true
  | .tup xs => D.noLs xs | .xtp xs => D.noLs xs | .obj _ fs => D.noLf fs
  | .lst _ => false | .fls _ => false | .dK _ => false | .dT _ => false
def D.noLs : List D → Bool
  | [] => true
  | x :: xs => D.noL x && D.noLs xs
def D.noLf : List (Str × D) → Bool
  | [] => true
  | (_, x) :: xs => D.noL x && D.noLf xs
end
def HO.isTop : HO → Bool
  | .lst _ => true | .dK _ => true | .dT _ => true
  | _ => false
section
variable {G G' : Hp} (cut : ∀ a o, G a = some o → HO.isTop o = false → G' a = some o)
include cut
mutual
theorem Rp.cut : ∀ {d : D} {v : V}, Rp K G d v → d.noL = true → Rp K G' d v
  | _, _, .non, _ => .non
  | _, _, .bl b, _ => .bl b
  | _, _, .int i, _ => .int i
  | _, _, .str x, _ => .str x
  | _, _, .tup h r, n => by
    rw [D.noL] at n
    refine .tup ?_ (Rps.cut r n)
    rcases h with (h | ⟨o, h⟩) | h
    · exact .inl (.inl (cut _ _ h rfl))
    · exact .inl (.inr ⟨o, cut _ _ h rfl⟩)
    · exact .inr h
  | _, _, .xtp h c m r, n => by rw [D.noL] at n; exact .xtp (cut _ _ h rfl) c m (Rps.cut r n)
  | _, _, .obj h r, n => by rw [D.noL] at n; exact .obj (cut _ _ h rfl) (Rfs.cut r n)
  | _, _, .lst _ _, n => by rw [D.noL] at n; cases n
  | _, _, .fls _ _, n => by rw [D.noL] at n; cases n
  | _, _, .dK _ _, n => by rw [D.noL] at n; cases n
  | _, _, .dT _ _, n => by rw [D.noL] at n; cases n
theorem Rps.cut : ∀ {d : List D} {v : List V}, Rps K G d v → D.noLs d = true → Rps K G' d v
  | _, _, .nil, _ => .nil
  | _, _, .cons h r, n => by rw [D.noLs, Bool.and_eq_true] at n; exact .cons (Rp.cut h n.1) (Rps.cut r n.2)
theorem Rfs.cut : ∀ {d : List (Str × D)} {v : List (Str × V)}, Rfs K G d v → D.noLf d = true → Rfs K G' d v
  | _, _, .nil, _ => .nil
  | _, _, .cons h r, n => by rw [D.noLf, Bool.and_eq_true] at n; exact .cons (Rp.cut h n.1) (Rfs.cut r n.2)
end
end
end
end Tw

/-! Tw, part Z3: enumerate of a tuple; tuple(x) of a tuple whose class is known. -/
namespace Tw
open PySem PySem.Spec L2 PyProof.Rows
abbrev itOf (t : Addr) : Obj := { cls := .type "tuple_iterator", data := .fields #[.ref t, .int 0 0] }
abbrev enOf (i : Addr) : Obj := { cls := .type "enumerate", data := .fields #[.none, .bool false, .ref i, rawInt 0, .none, .none] }
section
open AutoSeq1 (wpAny_loadPart')
/-- enumerate.__new__ over a tuple -/
theorem enum_newT (t : Addr) (ob : Obj) (items : Array Value) (hT : ob.cls = .type "tuple") (hD : ∃ n, ob.data = .seq items n) :
    Meets (Builtin.«enumerate.__new__» ⟨[.type "enumerate", .ref t], []⟩) (fun _ R s => s.heap.get? t = some ob ∧ R (.ok (.ret (.ref (s.heap.push (itOf t)).objs.size))) { s with heap := (s.heap.push (itOf t)).push (enOf s.heap.objs.size) }) :=
  .of_wp fun prog w A R s h => by
    obtain ⟨hp, g, d, tk, os⟩ := s
    obtain ⟨ho, hr⟩ := h
    have en := sub_enumerate
    have isT : Heap.IsTuple (Shared.heap ⟨hp, g, d, tk, os⟩) t items := ⟨_, ho, hT, hD⟩
    wp_walk using wpAny_loadPart' ho
    refine wpAny_stack_any fun st => wpAny_pure ?_
    split
    · rename_i cc _ _ _ _ _
      cases (cc == Value.type "enumerate") <;> (wp_walk using wpAny_loadPart' ho, wpAny_pyIter_tuple isT; exact ⟨_, rfl, hr⟩)
    · wp_walk using wpAny_loadPart' ho, wpAny_pyIter_tuple isT
      exact ⟨_, rfl, hr⟩
end
section
variable {P : Program} {w : World} {A : Around} {E : Value → Shared → Prop} {s : Shared}
theorem call_enumT {t : Addr} {items : Array Value} {Q : Value → Shared → Prop} (hL : s.heap.IsTuple t items)
    (h : ∀ h', IsEnum h' (s.heap.objs.size + 1) s.heap.objs.size 0 .none → h'.IsTupleIter s.heap.objs.size t 0 → (∀ b o, s.heap.get? b = some o → h'.get? b = some o) → Q (.ref (s.heap.objs.size + 1)) { s with heap := h' }) :
    wpAny (model P w) A (call (.type "enumerate") [.ref t]) Q E s := by
  obtain ⟨ob, ho, hc, hd⟩ := hL
  have sz : (s.heap.push (itOf t)).objs.size = s.heap.objs.size + 1 := Heap.size_push ..
  refine callType_new F.called_enumerate (by decide) (F.typeCall_enumerate_1 _) (F.newCall_enumerate_1 _) (fun obj => F.args_object_init_2 obj _) F.entry_enumerate_new (enum_newT t ob items hc hd) ⟨ho, ?_⟩
  show _ ∧ _
  rw [sz]
  have en : IsEnum ((s.heap.push (itOf t)).push (enOf s.heap.objs.size)) (s.heap.objs.size + 1) s.heap.objs.size 0 .none := by
    rw [← sz]; exact Heap.get?_push_size _ rfl
  exact ⟨⟨_, en, rfl⟩, h _ en ⟨_, Heap.get?_push_of_some _ (Heap.get?_push_size _ rfl), rfl, rfl⟩ fun b o x => Heap.get?_push_of_some _ (Heap.get?_push_of_some _ x)⟩
/-- a tuple's iterator, drawn from -/
theorem draws_tup (hh : A.handled = none) (it t : Addr) (hne : t ≠ it) (items : Array Value) : Draws P w A it [it, t] items.size (fun i v => items[i]? = some v) (fun i h => h.IsTupleIter it t i ∧ h.IsTuple t items) where
  live := fun i h ⟨⟨o, ho, _⟩, _⟩ => ⟨o, ho⟩
  frame := fun i h h' ⟨⟨o, ho, r⟩, ⟨o2, ho2, r2⟩⟩ k => ⟨⟨o, k it (by simp) _ ho, r⟩, ⟨o2, k t (by simp) _ ho2, r2⟩⟩
  item := fun i s Q E hi ⟨h1, h2⟩ hQ => RZ.nextOf_tuple_item h1 h2 (x := items[i]) (by simp [hi]) fun h' h3 sb => hQ _ h' s.toks (by simp [hi]) ⟨h3, h2.extBut sb.extBut hne⟩ sb
  done := fun s Q E ⟨h1, h2⟩ hE => RZ.nextOf_tuple_end hh h1 h2 (by simp) hE
end
/-- the turns of enumerate over the tuple at a -/
def IteT (K : PySem.W.Frag) (a : Addr) : It :=
  ⟨fun i H => ∃ (xs : List V) (x : V), SqT K H a xs ∧ xs[i]? = some x, fun i H v H' => ∃ T x, v = .ref T ∧ H T = none ∧ H' = upd H T (.tup [.int (i : Nat), x]) ∧ ∀ xs, SqT K H a xs → xs[i]? = some x, fun i H => ∃ xs : List V, SqT K H a xs ∧ xs.length ≤ i⟩

theorem turn_enumT {P : Program} {w : World} {K : PySem.W.Frag} {elts : List Expr} {kk : Nat} {tpos : Pos} (a e it : Addr) :
    Turn P w K (.Tuple elts kk tpos) (IteT K a) [e, it] e (fun i h => (∃ old, IsEnum h e it ((i : Nat) : Int) old) ∧ h.IsTupleIter it a i ∧ e ≠ it) where
  mem := by simp
  obj := by
    rintro i h ⟨⟨old, he⟩, ⟨o, ho, hc, hd⟩, _⟩ b hb
    rcases List.mem_cons.mp hb with z | hb
    · rw [z]; exact ⟨_, he, fun v q => nomatch q⟩
    · rw [List.mem_singleton.mp hb]; exact ⟨o, ho, fun v q => by rw [hd] at q; cases q⟩
  keep := by
    rintro i h h' ⟨⟨old, he⟩, ⟨o, ho, r⟩, ne⟩ k
    exact ⟨⟨old, k e (by simp) _ he⟩, ⟨o, k it (by simp) _ ho, r⟩, ne⟩
  item := by
    intro X hP hw hK hc i pins s σ H E I hf st hg
    subst hP hw hK
    obtain ⟨⟨old, he⟩, hit, ne⟩ := st
    obtain ⟨xs, x, hq, hx⟩ := hg
    obtain ⟨its, rv, tp, hz⟩ := I.tuple hq
    obtain ⟨u, hu, ru⟩ := rv.get hx
    have tup : s.heap.IsTuple a its.toArray := tp
    have lt : i < its.toArray.size := by
      rw [List.size_toArray]; exact (List.getElem?_eq_some_iff.mp hu).1
    have el : e < s.heap.objs.size := Heap.lt_size he
    have il : it < s.heap.objs.size := let ⟨_, q, _⟩ := hit; Heap.lt_size q
    have nt : a ≠ it := fun z => by
      subst z
      obtain ⟨o1, g1, c1, _⟩ := tup
      obtain ⟨o2, g2, c2, _⟩ := hit
      rw [g1] at g2; cases g2; rw [c1] at c2; exact absurd c2 (by decide)
    have ea : e ≠ a := fun z => by
      subst z
      obtain ⟨o1, g1, c1, _⟩ := tup
      rw [he] at g1; cases g1; exact absurd (show Value.type "enumerate" = Value.type "tuple" from c1) (by decide)
    have hh : X.A.in1.handled = none := by simpa using I.ok.hd hc
    refine wpAny_pyNext_enum_itemD (draws_tup hh it a nt its.toArray) he ⟨hit, tup⟩ lt ne (by simp [ne, ea]) fun y h' tk hy ho st' hT hsz hk => ?_
    have ey : y = u := by
      have : its[i]? = some y := by simpa using hy
      rw [hu] at this; exact (Option.some.inj this).symm
    subst ey
    refine ⟨_, rfl, wpAny_letOwnedTupleGo_enum (s := { s with heap := h', toks := tk + 1 }) ho fun h2 he2 sb => ?_⟩
    have hT2 : h2.get? s.heap.objs.size = some { cls := .type "tuple", data := .seq #[.int i tk, y] } := (sb.2 _ (Nat.ne_of_gt el)).trans hT
    have new : ObjOk X.prog X.w (upd H s.heap.objs.size (.tup [.int (i : Nat), x])) h2 s.heap.objs.size (.tup [.int (i : Nat), x]) :=
      ⟨by show 2 ≤ sizeLine; decide, [.int i tk, y], .cons ⟨_, rfl⟩ (.cons ru .nil), ⟨_, hT2, rfl, _, rfl⟩⟩
    have I1 : Inv X pins σ (upd H s.heap.objs.size (.tup [.int (i : Nat), x])) { s with heap := h2, toks := tk + 1 } :=
      I.turnedNew (ch := [e, it]) (fun b ob hb q => (sb.2 b (fun z => hb (by simp [z]))).trans (hk b ob (fun z => hb (by simp [z])) (fun z => hb (by simp [z])) q)) hf (Nat.le_refl _) new
    refine ⟨.ref s.heap.objs.size, _, I1, rfl, ⟨_, x, rfl, I.hok.fresh (Nat.le_refl _), rfl, fun ys hy => by rw [I.tuple_inj hy hq]; exact hx⟩, ⟨⟨y, ?_⟩, ?_, ne⟩, fun b hb => ?_⟩
    · have e1 : ((i + 1 : Nat) : Int) = (i : Int) + 1 := by omega
      rw [e1]; exact he2
    · obtain ⟨o, ho3, r⟩ := st'.1
      exact ⟨o, (sb.2 it (Ne.symm ne)).trans ho3, r⟩
    · have lb : b < s.heap.objs.size := by
        rcases List.mem_cons.mp hb with z | hb
        · rw [z]; exact el
        · rw [List.mem_singleton.mp hb]; exact il
      rw [upd_ne (Nat.ne_of_lt lb)]
      exact (hf b hb).1
  done := by
    intro X hP hw hK hc i pins s σ H E I hf st hg
    subst hP hw hK
    obtain ⟨⟨old, he⟩, hit, ne⟩ := st
    obtain ⟨xs, hq, hx⟩ := hg
    obtain ⟨its, rv, tp, hz⟩ := I.tuple hq
    have tup : s.heap.IsTuple a its.toArray := tp
    have hl := rv.length
    have nt : a ≠ it := fun z => by
      subst z
      obtain ⟨o1, g1, c1, _⟩ := tup
      obtain ⟨o2, g2, c2, _⟩ := hit
      rw [g1] at g2; cases g2; rw [c1] at c2; exact absurd c2 (by decide)
    have hh : X.A.in1.handled = none := by simpa using I.ok.hd hc
    obtain ⟨f0, f1, f2, f3, f4, f5⟩ := hf it (by simp)
    have D : Draws X.prog X.w X.A.in1 it [it, a] i (fun i v => its.toArray[i]? = some v) (fun j h => j = i ∧ h.IsTupleIter it a i ∧ h.IsTuple a its.toArray) := by
      refine ⟨fun j h ⟨_, ⟨o, ho, _⟩, _⟩ => ⟨o, ho⟩, fun j h h' ⟨ej, ⟨o, ho, r⟩, ⟨o2, ho2, r2⟩⟩ k => ⟨ej, ⟨o, k it (by simp) _ ho, r⟩, ⟨o2, k a (by simp) _ ho2, r2⟩⟩, fun j s Q E hi ⟨ej, _⟩ hQ => absurd ej (by omega), fun s Q E ⟨_, h1, h2⟩ hE => ?_⟩
      exact RZ.nextOf_tuple_end hh h1 h2 (by simp; omega) hE
    exact wpAny_pyNext_enum_endD D he ⟨rfl, hit, tup⟩ fun h' eb => ⟨rfl, I.turned (t' := s.toks) (fun b o hb q => eb b o hb q) f0 f1 f3 f4 f5⟩
  self := fun A i s Q E st h => let ⟨⟨_, he⟩, _⟩ := st; wpAny_pyIter_enum he h
section
variable {X : Cx} {K : PySem.W.Frag} {E : XK} {e a : Expr} {w wa : Wx} {k ka : Kd} {pos p : Pos}
/-- enumerate of a list or a tuple -/
def iEnumA (K : PySem.W.Frag) (ta : TA) : TI := fun σ H R => ta σ H fun vs H1 => ∃ a, vs = [.ref a] ∧ ((∃ xs, SqL K H1 a xs ∧ R (Ite K a) H1) ∨ ∃ xs, SqT K H1 a xs ∧ R (IteT K a) H1)
theorem pi_enumA {ta : TA} {tpos : Pos} {elts : List Expr} {kk : Nat} (hg : Gl X "enumerate") (hm : X.mg "enumerate" = none) (ha : PA X [e] ta) (hs : starEach [e] X.env = [(false, eval e X.env)] := by rfl) :
    PI X (.Tuple elts kk tpos) (.Call (.Name "enumerate" p) [e] [] pos) (iEnumA X.K ta) := by
  refine ⟨fun pins s σ H R I h => Call_ (ld_blt I hg hm boot_enumerate (PyProof.Rows.callWith_type1 (thn (ha.run pos pins s σ H _ I h) fun us s1 ⟨vs, H1, I1, r1, q1⟩ => ?_) hs rfl))⟩
  obtain ⟨a, ex, q⟩ := q1
  subst ex
  obtain ⟨_, rfl, r⟩ := vals1 r1
  cases r
  have fp : ∀ b ∈ [s1.heap.objs.size + 1, s1.heap.objs.size], FpOk X pins H1 b := fun b hb => by
    have hle : s1.heap.objs.size ≤ b := by
      rcases List.mem_cons.mp hb with z | hb
      · omega
      · have := List.mem_singleton.mp hb; omega
    exact I1.fpOk hle (I1.hok.fresh hle)
  rcases q with ⟨xs, hq, q⟩ | ⟨xs, hq, q⟩
  · obtain ⟨its, rv, pl, hz⟩ := I1.list hq
    refine call_enumerate_list pl.isList fun h' he hit hsz hk => wpAny_pyIter_enum he ?_
    exact ⟨s1.heap.objs.size + 1, [s1.heap.objs.size + 1, s1.heap.objs.size], _, _, H1, rfl, I1.kept (t' := s1.toks) hk, turn_enum a _ _, ⟨⟨.none, he⟩, hit, Nat.succ_ne_self _⟩, fp, q⟩
  · obtain ⟨its, rv, pl, hz⟩ := I1.tuple hq
    refine call_enumT (show s1.heap.IsTuple a its.toArray from pl) fun h' he hit hk => wpAny_pyIter_enum he ?_
    exact ⟨s1.heap.objs.size + 1, [s1.heap.objs.size + 1, s1.heap.objs.size], _, _, H1, rfl, I1.kept (t' := s1.toks) hk, turn_enumT a _ _, ⟨⟨.none, he⟩, hit, Nat.succ_ne_self _⟩, fp, q⟩
theorem wk_enumT {a : Addr} {vs : List V} {G : Hp} {ds : List D} (h : SqT K G a vs) (r : Rps K G ds vs) : Wk K (IteT K a) G (ds.zipIdx.map fun q => .tup [.int q.2, q.1]) where
  stop := fun G' H' g1 g2 => ⟨vs, sqT_mono (g1.trans g2) h, by simp [r.length]⟩
  go := fun i G' H' hi g1 g2 => by
    have hv : i < vs.length := by rw [← r.length]; simpa using hi
    exact ⟨vs, vs[i], sqT_mono (g1.trans g2) h, by simp [hv]⟩
  yld := fun i G' H' x H2 hi g1 g2 ⟨t, y, ex, ht, eH, hy⟩ => by
    subst ex eH
    obtain ⟨d, hd, rd⟩ := r.get' (hy vs (sqT_mono (g1.trans g2) h))
    have x2 := Ext.new (o := .tup [V.int ↑i, y]) g2 ht
    refine ⟨_, .tup [.int i, d], x2, ?_, .tup (SqT.of upd_same) (.cons (.int _) (.cons (rd.mono (g1.trans x2.gg)) .nil))⟩
    rw [List.getElem?_map, List.getElem?_zipIdx, hd]
    simp
def wiEnA (w : Wx) : Wa := fun xc ρ Q => w xc ρ fun d => ∃ xs, d.seq = some xs ∧ Q (xs.zipIdx.map fun q => .tup [.int q.2, q.1])
theorem ij_enumA {elts : List Expr} {kk : Nat} {tpos : Pos} (ha : EJ .e E X a w) (hg : Gl X "enumerate") (hm : X.mg "enumerate" = none) (hst : starEach [a] X.env = [(false, eval a X.env)] := by rfl) : IJ E X (.Tuple elts kk tpos) (.Call (.Name "enumerate" p) [a] [] pos) (wiEnA w) := by
  refine ⟨(pi_enumA hg hm (pa_cons ha.pe pa_nil hst) hst).imp fun σ H R' ⟨G0, H0, G, ρ, xc, R, T, q⟩ => ⟨G0, H0, G, ρ, xc, R, T, ha.mo _ _ _ _ (fun d ⟨xs, ed, q1⟩ G1 H1 v x1 r1 => ?_) q⟩, fun xc ρ Q Q' i q => ha.mo _ _ _ _ (fun d ⟨xs, ed, q⟩ => ⟨xs, ed, i _ q⟩) q⟩
  cases d <;> cases ed
  · cases r1 with | tup h r => exact ⟨_, rfl, .inr ⟨_, sqT_mono x1.gh h, q1 G1 H1 _ x1 (wk_enumT h r)⟩⟩
  · cases r1 with | lst h r => exact ⟨_, rfl, .inl ⟨_, SqL.of (x1.gh _ _ h), q1 G1 H1 _ x1 (wk_enum (SqL.of h) r)⟩⟩
  · cases r1 with | fls h r => exact ⟨_, rfl, .inl ⟨_, x1.gh.seq h, q1 G1 H1 _ x1 (wk_enum h r)⟩⟩
  · cases r1 with | xtp h c m r => exact ⟨_, rfl, .inr ⟨_, .inl (.inr ⟨_, x1.gh _ _ h⟩), q1 G1 H1 _ x1 (wk_enumT (.inl (.inr ⟨_, h⟩)) r)⟩⟩
/-- tuple(x), x a list, or a tuple whose class is known -/
def wTupX2 (w : Wx) : Wx := fun xc ρ Q => w xc ρ fun d => ∃ xs, (d = .lst xs ∨ d = .fls xs ∨ d = .xtp xs) ∧ Q (.xtp xs)
theorem callr_or {f : Value} {r r' : List V → Hp → VK → Prop} (h : CallR X f r) (h' : CallR X f r') : CallR X f (fun xs H Q => r xs H Q ∨ r' xs H Q) := fun pins s σ H xs us Q I rv q => q.elim (fun q => h pins s σ H xs us Q I rv q) fun q => h' pins s σ H xs us Q I rv q
theorem ej_tupleX2 (hg : Gl X "tuple") (hm : X.mg "tuple" = none) (ha : EJ k E X a w) (hst : starEach [a] X.env = (false, eval a X.env) :: starEach [] X.env := by rfl) : EJ .e E X (.Call (.Name "tuple" p) [a] [] pos) (wTupX2 w) := by
  have h := pe_callTy (p := p) (pos := pos) (callr_or (call_tupleX (X := X)) call_tupleT) hg hm (by decide +kernel) (pa_cons ha.pe pa_nil hst) (by decide) (by decide) hst rfl
  refine ⟨h.imp fun σ H Q ⟨G0, H0, G, ρ, xc, R, T, q⟩ => ⟨G0, H0, G, ρ, xc, R, T, ha.mo _ _ _ _ (fun d ⟨xs, ed, q1⟩ G1 H1 v x1 r1 => ?_) q⟩, fun xc ρ Q Q' i q => ha.mo _ _ _ _ (fun d ⟨xs, ed, q⟩ => ⟨xs, ed, i _ q⟩) q⟩
  have lst : ∀ {p : Addr} {vs : List V}, SqL X.K H1 p vs → Rps X.K G1 xs vs → _ ∨ _ := fun {p vs} h r => Or.inl (b := ∃ a ys, [V.ref p] = [V.ref a] ∧ SqT X.K H1 a ys ∧ Q (.ref a) H1) (show ∃ p' ys, [V.ref p] = [V.ref p'] ∧ SqL X.K H1 p' ys ∧ ∀ l (o : Obj), H1 l = none → o.cls = .type "tuple" → o.dict = none → Q (.ref l) (upd H1 l (.frz o (.tup ys))) from ⟨p, vs, rfl, h, fun l o hl hc hn => by
    have x2 := Ext.new (o := .frz o (.tup vs)) x1.gh hl
    exact q1 _ _ _ (x1.trans x2) (.xtp upd_same hc hn (r.mono x2.gg))⟩)
  rcases ed with rfl | rfl | rfl
  · obtain ⟨p, vs, rfl, h, r⟩ := rvO_lst x1.gh r1.o
    exact lst (SqL.of h) r
  · obtain ⟨p, vs, rfl, h, r⟩ := rvO_fls x1.gh r1.o
    exact lst h r
  · have r2 := r1.o
    rcases r2 with r2 | ⟨_, o, _, _, t⟩
    · cases r2 with | xtp h c m r => exact .inr ⟨_, _, rfl, .inl (.inr ⟨_, x1.gh _ _ h⟩), q1 _ _ _ x1 (.xtp h c m r)⟩
    · cases o <;> exact t.elim
end
end Tw

/-! Tw, part Z4: sorted(x) of whole numbers, x a list or a tuple. -/
namespace Tw
open PySem PySem.Spec L2 PyProof.Rows
abbrev h1Of (h : Heap) (vs : List Value) : Heap := (h.push (seqObj "list" #[] 0)).update h.objs.size (Obj.mapSeq (· ++ vs.toArray))
section
variable {P : Program} {w : World} {A : Around} {E : Value → Shared → Prop} {s : Shared}
/-- what is drawn from a tuple at once -/
theorem collect_tupT {t : Addr} {vs : List Value} {Q : List Value → Shared → Prop} (ht : s.heap.IsTuple t vs.toArray) (lim : vs.length ≤ sizeLine)
    (h : Q vs { s with heap := h1Of s.heap vs }) : wpAny (model P w) A (collect (.ref t)) Q E s := by
  obtain ⟨ob, at_, cl, k, dt⟩ := id ht
  unfold collect
  refine wpAny_bind (wpAny_runValue (codeAny_builtin entry_proto_collect' ?_))
  show wpAny _ _ (do again (.builtin "list.__iadd__" ⟨[← newList [], .ref t], []⟩)) _ _ s
  refine wpAny_bind (wpAny_newList (wpAny_pure ⟨Code.quiet_builtin _ (by decide +kernel), codeAny_builtin entry_list_iadd' ?_⟩))
  have at2 : (s.heap.push (seqObj "list" #[] 0)).get? t = some ob := Heap.get?_push_of_some _ at_
  show wpAny _ _ (Builtin.List.listExtendWith (.ref s.heap.objs.size) (.ref t) (.ref s.heap.objs.size)) _ _ { s with heap := s.heap.push (seqObj "list" #[] 0) }
  unfold Builtin.List.listExtendWith
  refine wpAny_bind (wpAny_typeOf (T := "tuple") ⟨ob, at2, cl⟩ ?_)
  have yes : (Value.type "tuple" == Value.type "tuple") = true := by rfl
  rw [if_pos (by rw [yes]; simp)]
  refine wpAny_bind (listItems_at at2 dt (wpAny_bind (listItems_at (xs := #[]) (n := 0) (Heap.get?_push_size _ rfl) rfl ?_)))
  rw [if_neg (by simp)]
  refine wpAny_bind (listUpdate_at (xs := #[]) (n := 0) (Heap.get?_push_size _ rfl) rfl (wpAny_pure ?_) (Nat.zero_le _) (by
    show (#[] ++ vs.toArray).size ≤ sizeLine + 1
    simp only [Array.size_append, List.size_toArray, List.length_nil]; omega))
  show wpAny (model P w) A (do
    let o ← load s.heap.objs.size
    match o.data with
    | .seq xs _ => pure xs.toList
    | _ => unsupported "internal:collect") Q E { s with heap := h1Of s.heap vs }
  refine wpAny_bind (wpAny_load (get?_update_seq (Heap.get?_push_size _ rfl) _) ?_)
  show wpAny _ _ (pure ((#[] : Array Value) ++ vs.toArray).toList) Q E _
  have all : ((#[] : Array Value) ++ vs.toArray).toList = vs := by simp
  rw [all]
  exact wpAny_pure h
/-- sorted(t) of a tuple -/
theorem sorted_tupO {t : Addr} {vs : List Value} {ltv : Value → Value → Bool} {Q : Value → Shared → Prop} (O : SrtO.Swo ltv) (ht : s.heap.IsTuple t vs.toArray) (lim : vs.length ≤ sizeLine)
    (hS : 2 ≤ vs.length → ∀ (h2 : Heap) (a : Addr), h2.get? a = some (seqObj "list" vs.toArray 0) → SrtO.SortableO P w A.in1.in1 { s with heap := h2 } a vs ltv)
    (h : ∀ out : List Value, SrtO.Srtd ltv out → SrtO.Stb ltv out vs → Q (.ref (s.heap.objs.size + 1)) { s with heap := sortedAll s.heap vs out.toArray }) :
    wpAny (model P w) A (call (.builtin "sorted") [.ref t]) Q E s := by
  refine Calls.call_function_entry kind_sorted plain_sorted entry_sorted (args_sorted1 _) ?_
  unfold Builtin.«sorted»
  refine wpAny_bind (m := checkCount "sorted" 1 1 _) (wpAny_pure (wpAny_bind (collect_tupT ht lim (wpAny_bind (wpAny_newList ?_ lim)))))
  have sz : (h1Of s.heap vs).objs.size = s.heap.objs.size + 1 := by rw [Heap.size_update, size_push']
  have at2 : ((h1Of s.heap vs).push (seqObj "list" vs.toArray 0)).get? (s.heap.objs.size + 1) = some (seqObj "list" vs.toArray 0) := by rw [← sz]; exact Heap.get?_push_size _ rfl
  show wpAny _ _ _ _ _ { s with heap := (h1Of s.heap vs).push (seqObj "list" vs.toArray 0) }
  rw [sz]
  refine wpAny_bind (wpAny_holding (wpAny_call_entry slot_list_sort ⟨_, at2, rfl⟩ entry_list_sort (SrtO.list_sort_ord O at2 lim (fun two => hS two _ _ at2) fun out o1 o2 => ⟨_, rfl, ?_⟩) (args_list_sort _)))
  exact wpAny_pure ⟨_, rfl, h out o1 o2⟩
end
section
variable {X : Cx} {K : PySem.W.Frag} {E : XK} {e a : Expr} {w : Wx} {k : Kd} {pos p : Pos}
def rSortIT (K : PySem.W.Frag) : List V → Hp → VK → Prop := fun vs H Q => ∃ (a : Addr) (ns : List Int), vs = [V.ref a] ∧ SqT K H a (ns.map V.int) ∧ ∀ (ms : List Int) (p : Addr), ms.Perm ns → ms.Pairwise (· ≤ ·) → H p = none → Q (.ref p) (upd H p (.lst (ms.map V.int)))
theorem cr_sortIT : CallR X (.builtin "sorted") (rSortIT X.K) := by
  intro pins s σ H vs us Q I r h
  obtain ⟨a, ns, rfl, hs, q⟩ := h
  obtain ⟨its, rv, ht, hz⟩ := I.tuple hs
  rw [Vals.ref1 r]
  have hi := rv.ints
  refine sorted_tupO SrtO.swo_int (show s.heap.IsTuple a its.toArray from ht) (by rw [← rv.length]; exact hz) (fun two h2 a' _ => SrtO.ints_sortable hi two) fun out o1 o2 => ?_
  obtain ⟨k1, k2, k3⟩ := SrtO.ints_out hi o1 o2
  obtain ⟨ep, he'⟩ := PyProof.Rows.sortedAll_at s.heap its out.toArray
  have lim : ((out.map SrtO.iv).map V.int).length ≤ sizeLine := by
    rw [List.length_map] at hz ⊢
    rw [k2.length_eq]
    exact hz
  exact ⟨.ref _, upd H (s.heap.objs.size + 1) (.lst ((out.map SrtO.iv).map V.int)), I.laid (t' := s.toks) (fun _ _ => PyProof.Rows.sortedAll_old) (Nat.le_succ _) ⟨lim, out, ep, vals_of_ints k1, he'⟩, rfl, q _ _ k2 k3 (I.hok.fresh (Nat.le_succ _))⟩
def oSortA : OpN := fun ds Q => ∃ ns : List Int, (ds = [.lst (ns.map .int)] ∨ ds = [tI ns]) ∧ ∀ ms : List Int, ms.Perm ns → ms.Pairwise (· ≤ ·) → Q (.lst (ms.map .int))
theorem brg_sortA : BrgN K .f oSortA (fun xs H Q => rSortedI K xs H Q ∨ rSortIT K xs H Q) := by
  refine ⟨fun ds G H vs Q Q2 g r ⟨ns, ed, q⟩ kk => ?_, fun ds Q Q' i ⟨ns, ed, q⟩ => ⟨ns, ed, fun ms a b => i _ (q ms a b)⟩⟩
  rcases ed with ed | ed
  · exact .inl (brg_sortI.go ds G H vs Q Q2 g r ⟨ns, ed, q⟩ kk)
  · subst ed
    obtain ⟨v, rfl, rv⟩ := rvOs_1 r
    obtain ⟨pp, vs, rfl, h1, r1⟩ := rvO_tup g rv
    rw [rps_ints r1] at h1
    exact .inr ⟨pp, ns, rfl, h1, fun ms l hp hs hl => kk _ (q ms hp hs) _ _ _ (Ext.newH g hl) ⟨l, _, rfl, hl, upd_same, ints_rps ms, g.free hl⟩⟩
theorem ej_sortA (hg : Gl X "sorted") (hm : X.mg "sorted" = none) (ha : EJ k E X a w) (hst : starEach [a] X.env = (false, eval a X.env) :: starEach [] X.env := by rfl) : EJ .f E X (.Call (.Name "sorted" p) [a] [] pos) (wN oSortA (waCons w waNil)) :=
  let h := aj_consO ha (aj_nil (kk := false)) hst
  ej_N h (pe_callB (callr_or cr_sortedI cr_sortIT) hg hm (by decide +kernel) h.pa (by decide) (by decide) hst rfl) brg_sortA
end
end Tw

/-! Tw, part T: own errors with one field, raised. -/
namespace Tw
open PySem PySem.Spec L2 PyProof.Rows
section
variable {P : Program} {w : World} {K : PySem.W.Frag} {mg : Str → Option Value} {base : Heap}
end
section
variable {X : Cx} {E : XK} {a : Expr} {w : Wx} {x f g : Str} {C fI : Addr} {fd : FuncData} {k : Nat} {p pos pos2 : Pos}
end
end Tw

/-! Tw, part T: try .. except C as e. -/
namespace Tw
open PySem PySem.Spec L2 PyProof.Rows
section
variable {K : PySem.W.Frag} {G0 H0 G H G' H' : Hp} {ρ : Evn} {σ : L2.St}
theorem Rel.setX {i : Nat} {s : Sl} {x : Option V} (R : Rel K G0 H0 G ρ σ H) (ns : ∀ d, s ≠ .ow d) (r : SlotR K G H H0 s (some x)) : Rel K G0 H0 G (ρ.set i s) (σ.set i x) H := by
  refine ⟨by simp [R.len], R.gh, R.g0, R.h0, R.gn, fun j s' hs => ?_, fun j k d' e a hj hk h1 h2 => ?_⟩
  · by_cases hj : j = i
    · subst hj
      have hlt : j < ρ.length := by
        rcases List.getElem?_eq_some_iff.mp hs with ⟨hl, _⟩; simpa using hl
      rw [List.getElem?_set_self hlt] at hs
      cases hs
      rw [List.getElem?_set_self (by rw [← R.len]; exact hlt)]
      exact r
    · rw [List.getElem?_set_ne (Ne.symm hj)] at hs ⊢
      exact R.sl j s' hs
  · have nj : j ≠ i := fun z => by
      subst z
      rcases List.getElem?_eq_some_iff.mp hj with ⟨hl, he⟩
      simp at he
      exact ns _ he
    have nk : k ≠ i := fun z => by
      subst z
      rcases List.getElem?_eq_some_iff.mp hk with ⟨hl, he⟩
      simp at he
      exact ns _ he
    rw [List.getElem?_set_ne (Ne.symm nj)] at hj h1
    rw [List.getElem?_set_ne (Ne.symm nk)] at hk h2
    exact R.dj j k d' e a hj hk h1 h2
end
/-! ### an expression whose errors are caught by the def itself -/
def ETop : XK := fun _ _ _ => True
theorem tieTop {K : PySem.W.Frag} {G H : Hp} {xc : XC} : TieX K G H ETop xc := fun _ _ _ _ _ _ _ _ => trivial
def liftX (K : PySem.W.Frag) (W : WX) (w : Wx) : TE := fun σ H Q => ∃ G0 H0 G ρ xc, Rel K G0 H0 G ρ σ H ∧ TieX K G H (fun c d H' => W c d σ H') xc ∧ w xc ρ fun d => ∀ G' H' v, Ext G H G' H' → Rp K G' d v → Q v H'
structure EX (X : Cx) (e : Expr) (w : Wx) : Prop where
  pe : ∀ (W : WX) (pn : List (Addr × Obj)) (xe : Value → Shared → Prop), Takes (X.tr pn xe) W → PE (X.tr pn xe) e (liftX X.K W w)
  mo : ∀ xc ρ (Q Q' : D → Prop), (∀ d, Q d → Q' d) → w xc ρ Q → w xc ρ Q'
section
variable {X : Cx} {W : WX} {o e : Expr} {es : List Expr} {ta : TE} {t : TA} {C f : Addr} {fd : FuncData} {ps : List Str} {sp : Sp} {k : Nat} {m : Str} {apos pos : Pos}
end
section
variable {X : Cx} {o e : Expr} {es : List Expr} {w : Wx} {u : Wa} {k : Nat} {pos : Pos}
end
end Tw

namespace Tw
open PySem PySem.Spec L2 PyProof.Rows
/-- what becomes of an error in the clause 'except c as n' (n in slot i): ok tells the classes that the clause names -/
def hX (ok : Addr → Prop) (i : Nat) (s : Addr → Value → Option Addr → Ws) (Z : Pd) (ρ : Evn) : XC := fun C fs => ok C ∧
  (∀ a p, s a (.ref C) (some p) { Z with nx := fun ρ' => Z.nx (ρ'.set i .no), bk := fun ρ' => Z.bk (ρ'.set i .no), ct := fun ρ' => Z.ct (ρ'.set i .no) } (ρ.set i (.ex a p fs))) ∧
  (fs = [] → ∀ a, s a (.ref C) none { Z with nx := fun ρ' => Z.nx (ρ'.set i .no), bk := fun ρ' => Z.bk (ρ'.set i .no), ct := fun ρ' => Z.ct (ρ'.set i .no) } (ρ.set i (.e0 a)))
section
variable {X : Cx} {E : XK} {e : Expr} {w : Wx} {x n : Str} {c : Value} {i j : Nat} {b₀ : Stmt} {suite body : List Stmt} {np pos pos' : Pos} {ok : Addr → Prop} {s : Addr → Value → Option Addr → Ws}
theorem ties_suite {K : PySem.W.Frag} {G0 H0 G G1 : Hp} {D' : Ends} {Z : Pd} (T : Ties K G0 H0 G E D' Z) (g : Same G G1) :
    Ties K G0 H0 G1 ETop { nx := fun σ' H' => D'.nx (σ'.set i none) H', rt := D'.rt, bk := fun σ' H' => D'.bk (σ'.set i none) H', ct := fun σ' H' => D'.ct (σ'.set i none) H' } { Z with nx := fun ρ' => Z.nx (ρ'.set i .no), bk := fun ρ' => Z.bk (ρ'.set i .no), ct := fun ρ' => Z.ct (ρ'.set i .no) } :=
  ⟨fun ρ σ G' H' R s q => T.nx _ _ _ _ (R.setX (s := .no) (by intro d z; cases z) trivial) (g.trans s) q, T.rt, fun ρ σ G' H' R s q => T.bk _ _ _ _ (R.setX (s := .no) (by intro d z; cases z) trivial) (g.trans s) q,
    fun ρ σ G' H' R s q => T.ct _ _ _ _ (R.setX (s := .no) (by intro d z; cases z) trivial) (g.trans s) q, tieTop⟩
theorem catch_go {G0 H0 G H : Hp} {σ : L2.St} {D' : Ends} {Z : Pd} {ρ : Evn} (R : Rel X.K G0 H0 G ρ σ H) (T : Ties X.K G0 H0 G E D' Z) (hm : ∀ C, ok C → PySem.W.exmOne X.K (.ref C) c = some true) :
    TieX X.K G H (fun cls d H' => wAs X.K c i (fun a cls d => liftS X.K ETop (s a cls d)) (fun _ _ _ _ => False) D' cls d σ H') (hX ok i s Z ρ) := by
  intro C fs G' H' dx x hd ⟨ho, q1, q2⟩
  refine ⟨true, hm C ho, fun _ a ha => ?_, fun z => Bool.noConfusion z⟩
  cases dx with
  | none =>
    have hfs : fs = [] := hd
    refine ⟨G0, H0, G', _, _, (R.ext x).setX (s := .e0 a) (by intro d z; cases z) rfl, ties_suite T x.gg, q2 hfs a⟩
  | some p =>
    obtain ⟨hp, vf, hp2, rf⟩ := hd
    have gs : Same G' (upd G' p (.xd vf)) := fun b u e => by
      by_cases hb : b = p
      · subst hb
        rw [upd_same]
        have := x.gh _ _ e
        rw [hp2] at this
        exact this
      · rw [upd_ne hb]; exact e
    have x2 : Ext G H (upd G' p (.xd vf)) H' := ⟨x.gg.trans gs, x.hh, fun b u e => by
      by_cases hb : b = p
      · subst hb
        rw [upd_same] at e
        rw [hp2]; exact e
      · rw [upd_ne hb] at e; exact x.gh _ _ e, fun b hb q => by
      have : b ≠ p := fun z => hb (z ▸ hp)
      rw [upd_ne this]
      exact x.gn b hb q⟩
    refine ⟨G0, H0, upd G' p (.xd vf), _, _, (R.ext x2).setX (s := .ex a p fs) (by intro d z; cases z) ⟨rfl, vf, upd_same, rf.mono gs⟩, ties_suite T x2.gg, q1 a p⟩
end
end Tw

namespace Tw
open PySem PySem.Spec L2 PyProof.Rows
section
variable {X : Cx} {a C : Addr} {oe : Obj} {cls : Value} {d : Option Addr} {pn : List (Addr × Obj)} {e : Expr} {pos : Pos} {f : Str} {i : Nat}
end
end Tw

/-! Tw, part T: f(..) in a try. -/
namespace Tw
open PySem PySem.Spec L2 PyProof.Rows
section
variable {X : Cx} {e : Expr} {es : List Expr} {u : Wa} {p pos : Pos} {x : Str}
end
end Tw

/-! Tw, part T: own errors with several fields. -/
namespace Tw
open PySem PySem.Spec L2 PyProof.Rows
/-- what __init__(self, f1, ..): self.f1 = f1; .. keeps -/
def spErrN (C : Addr) (fs : List Str) : Sp := fun vs H Q _ => ∃ (a : Addr) (ws : List V), vs = .ref a :: ws ∧ ws.length = fs.length ∧ H a = some (exo a C none) ∧ ∀ dx, H dx = none → dx ≠ a → Q .non (upd (upd H dx (exd dx (fs.zip ws).reverse)) a (exo a C (some dx)))
section
variable {P : Program} {w : World} {K : PySem.W.Frag} {mg : Str → Option Value} {base : Heap}
end
/-- raise C(e1, ..), C with the fields fs -/
def sRaiseN (C : Addr) (fs : List Str) (u : Wa) : Ws := fun Z ρ => u Z.xc ρ fun ds => ds.length = fs.length ∧ Z.xc C (fs.zip ds).reverse
theorem rfs_zip {K : PySem.W.Frag} {G : Hp} : ∀ {fs : List Str} {ds : List D} {vs : List V}, Rps K G ds vs → Rfs K G (fs.zip ds) (fs.zip vs)
  | [], _, _, _ => by simp; exact .nil
  | f :: fs, _, _, .nil => by simp; exact .nil
  | f :: fs, _, _, .cons h r => .cons h (rfs_zip r)
theorem rfs_app {K : PySem.W.Frag} {G : Hp} : ∀ {a c : List (Str × D)} {b d : List (Str × V)}, Rfs K G a b → Rfs K G c d → Rfs K G (a ++ c) (b ++ d)
  | _, _, _, _, .nil, h => h
  | _, _, _, _, .cons x r, h => .cons x (rfs_app r h)
theorem rfs_rev {K : PySem.W.Frag} {G : Hp} : ∀ {a : List (Str × D)} {b : List (Str × V)}, Rfs K G a b → Rfs K G a.reverse b.reverse
  | _, _, .nil => .nil
  | _, _, .cons x r => by
    rw [List.reverse_cons, List.reverse_cons]
    exact rfs_app (rfs_rev r) (.cons x .nil)
section
variable {X : Cx} {E : XK} {a : Expr} {es : List Expr} {u : Wa} {x : Str} {fs ps : List Str} {C fI : Addr} {fd : FuncData} {k : Nat} {p pos pos2 : Pos}
theorem sj_raiseN (hc : X.calm = true) (tk : Takes X (fun cls d _ H => E cls d H)) (T : OexC X.K C) (iC : PySem.W.findIn X.K (.ref C) "__init__" = some (some (.ref fI))) (tI : PySem.W.typeIn X.K (.ref fI) = some (.type "function"))
    (F : FnOk X.prog X.w X.K X.mg X.base (L2.CX X.prog X.w) k fI fd ps (spErrN C fs)) (hr : Room (k + 1) X.A) (hb : Binds X.K fd ps []) (hl : fs.length ≤ 1000) (hg : Gl X x) (hm : X.mg x = some (.ref C)) (ha : AJ true E X (a :: es) u)
    (hdb : (x == ("__debug__" : Str)) = false := by decide) (he : starEach (a :: es) X.env = (false, eval a X.env) :: starEach es X.env := by rfl) (hpl : (backTo pos (starEach es X.env)).any (·.1) = false := by rfl) :
    SJ E X (.Raise (some (.Call (.Name x p) (a :: es) [] pos)) none pos2) (sRaiseN C fs u) := by
  refine ⟨(ps_raise hc tk (pmk_oex (dvs := []) (ds := []) T iC tI F hr hb .nil passL hg hm ha.pa hdb he hpl)).imp fun D' σ H ⟨G0, H0, G, ρ, Z, R, Ti, q⟩ => ?_⟩
  refine ⟨G0, H0, G, ρ, Z.xc, R, Ti.xc, ha.mo _ _ _ _ (fun ds ⟨ln, q1⟩ G1 H1 vs x1 r1 => ?_) q⟩
  rw [if_pos rfl] at r1
  have lv : vs.length = fs.length := by rw [← r1.length]; exact ln
  refine ⟨by rw [lv]; exact hl, fun b hn => ⟨b, vs ++ [], rfl, by simpa using lv, upd_same, fun dx hdx hne => ⟨rfl, dx, (fs.zip vs).reverse, upd_same, ?_, ?_, ?_⟩⟩⟩
  · rw [upd_ne hne, upd_same, List.append_nil]
  · rw [upd_ne hne] at hdx
    exact hdx
  · have hd1 : H1 dx = none := by rw [upd_ne hne] at hdx; exact hdx
    have eq2 : upd (del (upd (upd (upd H1 b (exo b C none)) dx (exd dx (fs.zip (vs ++ [])).reverse)) b (exo b C (some dx))) b) dx (HO.xd (fs.zip vs).reverse) = upd H1 dx (HO.xd (fs.zip vs).reverse) := funext fun c => by
      by_cases hc : c = dx
      · subst hc; rw [upd_same, upd_same]
      · rw [upd_ne hc, upd_ne hc]
        by_cases hb : c = b
        · subst hb; rw [del_same, hn]
        · rw [del_ne hb, upd_ne hb, upd_ne hc, upd_ne hb]
    rw [eq2]
    have x2 : Ext G0 H0 G1 H1 := (R.ext x1).ex
    have sm : Same H1 (upd H1 dx (HO.xd (fs.zip vs).reverse)) := same_upd hd1
    refine Ti.xc C (fs.zip ds).reverse G1 _ (some dx) ⟨x2.gg, x2.hh.trans sm, x2.gh.trans sm, x2.gn⟩ ⟨?_, (fs.zip vs).reverse, upd_same, rfs_rev (rfs_zip r1)⟩ q1
    cases e : H0 dx with
    | none => rfl
    | some o => rw [x2.hh _ _ e] at hd1; cases hd1
end
end Tw

/-! Tw, part T: an own error's class as one fact. -/
namespace Tw
open PySem PySem.Spec L2 PyProof.Rows
/-- the class x at C, whose __init__ stores the fields fs -/
structure Err (P : Program) (w : World) (K : PySem.W.Frag) (mg : Str → Option Value) (base : Heap) (x : Str) (C : Addr) (fs : List Str) (k : Nat) : Prop where
  ex : ∃ (fI : Addr) (fd : FuncData) (ps : List Str), FnOk P w K mg base (L2.CX P w) k fI fd ps (spErrN C fs) ∧ Binds K fd ps [] ∧ PySem.W.findIn K (.ref C) "__init__" = some (some (.ref fI)) ∧ PySem.W.typeIn K (.ref fI) = some (.type "function")
  ox : OexC K C
  hm : mg x = some (.ref C)
  hl : fs.length ≤ 1000
section
variable {X : Cx} {E : XK} {a : Expr} {es : List Expr} {u : Wa} {x : Str} {fs : List Str} {C : Addr} {k : Nat} {p pos pos2 : Pos}
theorem sj_raiseE (F : Err X.prog X.w X.K X.mg X.base x C fs k) (hr : Room (k + 1) X.A) (tk : Takes X (fun cls d _ H => E cls d H)) (ha : AJ true E X (a :: es) u) (hc : X.calm = true := by rfl) (hg : Gl X x := by rfl)
    (hdb : (x == ("__debug__" : Str)) = false := by decide) (he : starEach (a :: es) X.env = (false, eval a X.env) :: starEach es X.env := by rfl) (hpl : (backTo pos (starEach es X.env)).any (·.1) = false := by rfl) :
    SJ E X (.Raise (some (.Call (.Name x p) (a :: es) [] pos)) none pos2) (sRaiseN C fs u) := by
  obtain ⟨fI, fd, ps, Fo, hb, iC, tI⟩ := F.ex
  exact sj_raiseN hc tk F.ox iC tI Fo hr hb F.hl hg F.hm ha hdb he hpl
/-- in the pure proofs: a raise hands its fields to xc -/
theorem raiseN_eq {Z : Pd} {ρ : Evn} {Cc : Addr} {gs : List Str} {v : Wa} : sRaiseN Cc gs v Z ρ = v Z.xc ρ fun ds => ds.length = gs.length ∧ Z.xc Cc (gs.zip ds).reverse := rfl
end
end Tw

/-! What each def of the first stage's laws keeps, over plain data. -/
namespace Tw.S
open PySem PySem.Spec L2 PyProof.Rows Tw
/-! data -/
def iL (l : List Int) : D := .lst (l.map .int)
def sL (l : List Str) : D := .lst (l.map .str)
def t2 (l : List (List Int)) : D := .tup (l.map tI)
def t3 (l : List (List (List Int))) : D := .tup (l.map t2)
def l2 (l : List (List Int)) : D := .lst (l.map iL)
def l3 (l : List (List (List Int))) : D := .lst (l.map l2)
def pL (l : List (List Int)) : D := .lst (l.map tI)
/-- a list, or a tuple whose class is known -/
def qD (t : Bool) (l : List D) : D := if t = true then .xtp l else .lst l
structure Tie where
  a : Str
  b : Str
  w : Str
  at_ : List Int
def tieD (t : Tie) : D := .tup [.str t.a, .str t.b, .str t.w, tI t.at_]
def tsL (l : List Tie) : D := .lst (l.map tieD)
/-- a list, or a tuple that is only read -/
def hD (t : Bool) (l : List D) : D := if t = true then .tup l else .lst l
def letters : Str := "abcdefghijklmnopqrstuvwxyz"
def isName (z : Str) : Bool := decide (1 ≤ z.length) && decide (z.length ≤ 8) && z.cps.toList.all fun c => decide (c ∈ letters.cps.toList)
def climbs (l : List Int) : Bool := (List.range (l.length - 1)).all fun i => decide (l.getD i 0 < l.getD (i + 1) 0)
def isSet (l : List Int) (n : Int) : Bool := (l.all fun x => decide (0 ≤ x) && decide (x < n)) && climbs l
/-- names that a web takes -/
structure NamesOk (names : List Str) : Prop where
  lo : 1 ≤ names.length
  hi : names.length ≤ 8
  nm : ∀ x ∈ names, isName x = true
  nd : names.Nodup
structure TieOk (names : List Str) (beats : Int) (t : Tie) : Prop where
  a : t.a ∈ names
  b : t.b ∈ names
  ne : t.a ≠ t.b
  w : t.w = "two" ∨ t.w = "one"
  at0 : t.at_ ≠ []
  at_ : isSet t.at_ beats = true
structure TiesOk (names : List Str) (beats : Int) (ts : List Tie) : Prop where
  le : ts.length ≤ 100
  ok : ∀ t ∈ ts, TieOk names beats t
def cnt (z : Str) (ts : List Tie) : Nat := (ts.filter fun t => t.a == z || t.b == z).length
/-- does a tie lead from u to v at the beat -/
def Tie.leads (t : Tie) (b : Int) (u v : Str) : Bool := decide (b ∈ t.at_) && ((t.a == u && t.b == v) || (t.b == u && t.a == v && t.w == "two"))
def leads (ts : List Tie) (b : Int) (u v : Str) : Bool := ts.any fun t => t.leads b u v
/-- passages: beat, from, to -/
abbrev Psg := Nat → Nat → Nat → Bool
def rowF (n : Nat) (p : Nat → Bool) : List Int := ((List.range n).filter p).map fun i : Nat => (i : Int)
def tabF (n c : Nat) (L : Psg) : List (List (List Int)) := (List.range c).map fun b => (List.range n).map fun u => rowF n (L b u)
def psgOf (names : List Str) (ts : List Tie) : Psg := fun b u v => leads ts b (names.getD u "") (names.getD v "")
def nextsT (names : List Str) (ts : List Tie) (c : Nat) : List (List (List Int)) := tabF names.length c (psgOf names ts)
def stepsF (l : List Int) (u : Nat) : List Int := ((u : Int) :: l).mergeSort (fun a b => decide (a ≤ b))
def stepsT (nx : List (List (List Int))) : List (List (List Int)) := nx.map fun r => r.zipIdx.map fun q => stepsF q.1 q.2
def webD (C : Addr) (names : List Str) (c : Nat) (nx : List (List (List Int))) : D := .obj C [("places", .xtp (names.map .str)), ("beats", .int c), ("_nexts", t3 nx), ("_steps", t3 (stepsT nx))]
/-- a web of these passages -/
def webP (C : Addr) (names : List Str) (c : Nat) (L : Psg) : D := webD C names c (tabF names.length c L)
/-! the ties of passages, in their one form -/
/-! the specs -/
/-- one thing told and the same due -/
inductive Sm : Nat → D → D → Prop
  | non {n} : Sm n .non .non
  | bl {n} (b : Bool) : Sm n (.bl b) (.bl b)
  | int {n} (i : Int) : Sm n (.int i) (.int i)
  | str {n} (z : Str) : PyData.strOk z = true → Sm n (.str z) (.str z)
  | tup {n} {xs ys : List D} : xs.length = ys.length → (∀ q ∈ xs.zip ys, Sm n q.1 q.2) → Sm (n + 1) (.tup xs) (.tup ys)
  | lst {n} {xs ys : List D} : xs.length = ys.length → (∀ q ∈ xs.zip ys, Sm n q.1 q.2) → Sm (n + 1) (.lst xs) (.lst ys)
/-- .. and what comes of it -/
inductive SmB : Nat → D → D → Bool → Prop
  | sm {n} {g d : D} : Sm n g d → SmB n g d true
  | bl {n} (b c : Bool) : SmB n (.bl b) (.bl c) (b == c)
  | str {n} (y z : Str) : PyData.strOk y = true → PyData.strOk z = true → SmB n (.str y) (.str z) (y == z)
def wfSame (n : Nat) : Wf := fun _ ds Q => ∃ g d b, ds = [g, d] ∧ SmB n g d b ∧ Q false (.bl b)
def wf_law_same : Wf := wfSame 5
def wf_law_is_int : Wf := fun _ ds Q => ∃ i : Int, ds = [.int i] ∧ Q false (.bl true)
def wf_is_name : Wf := fun _ ds Q => ∃ z, ds = [.str z] ∧ z.length ≤ sizeLine ∧ Q false (.bl (isName z))
def wf_is_set : Wf := fun _ ds Q => ∃ (l : List Int) (n : Int), ds = [tI l, .int n] ∧ l.length ≤ sizeLine ∧ Q false (.bl (isSet l n))
def wf_Web___len__ (C : Addr) : Wf := fun _ ds Q => ∃ names c nx, ds = [webD C names c nx] ∧ Q false (.int names.length)
def wf_check_place (C CU : Addr) : Wf := fun xc ds Q => ∃ (names : List Str) (c : Nat) (nx : List (List (List Int))) (p : Int), ds = [webD C names c nx, .int p] ∧ names.length ≤ 8 ∧ (¬(0 ≤ p ∧ p < names.length) → xc CU [("place", .int p)]) ∧ (0 ≤ p → p < names.length → Q false .non)
def wf_Web_steps (C CU : Addr) : Wf := fun xc ds Q => ∃ (names : List Str) (c : Nat) (nx : List (List (List Int))) (p b : Int), ds = [webD C names c nx, .int p, .int b] ∧ names.length ≤ 8 ∧ 0 < c ∧ (¬(0 ≤ p ∧ p < names.length) → xc CU [("place", .int p)]) ∧ (0 ≤ p → p < names.length → ∃ row cell, (stepsT nx)[(b % (c : Int)).toNat]? = some row ∧ row[p.toNat]? = some cell ∧ Q false (tI cell))
def wf_law_draws : Wf := fun _ ds Q => ∃ (sc : List Int) (k n : Nat), ds = [.fls (sc.map .int), .int k, .int n] ∧ sc.length ≤ 63 ∧ k ≤ 63 ∧ n ≤ 1000 ∧ ∀ l : List Int, l.length = n → (∀ x ∈ l, 0 ≤ x ∧ x < 1000) → Q true (iL l)
def wf_law_names : Wf := fun _ ds Q => ∃ (l : List Int) (at_ n : Nat), ds = [iL l, .int at_, .int n] ∧ (∀ x ∈ l, 0 ≤ x ∧ x < 1000) ∧ at_ + 2 < l.length ∧ 1 ≤ n ∧ n ≤ 8 ∧ ∀ names, names.length = n → NamesOk names → Q true (sL names)
structure CodeRow where
  v : Nat
  u : Nat
  codes : List Int
  rest : Int
structure CodeOk (n c : Nat) (r : CodeRow) : Prop where
  lt : r.v < r.u
  hi : r.u < n
  len : r.codes.length = c
  cd : ∀ x ∈ r.codes, 0 ≤ x ∧ x ≤ 3
def wf_law_table : Wf := fun _ ds Q => ∃ (names : List Str) (ts : List Tie) (c : Nat), ds = [sL names, tsL ts, .int c] ∧ NamesOk names ∧ TiesOk names c ts ∧ 1 ≤ c ∧ c ≤ 4 ∧ Q true (l3 (nextsT names ts c))
def wi_Web : Wi := fun _ ds Q => ∃ (t t' : Bool) (names : List Str) (ts : List Tie) (c : Nat), ds = [qD t (names.map .str), qD t' (ts.map tieD), .int c] ∧ NamesOk names ∧ TiesOk names c ts ∧ 1 ≤ c ∧ c ≤ 4 ∧ Q [("places", .xtp (names.map .str)), ("beats", .int c), ("_nexts", t3 (nextsT names ts c)), ("_steps", t3 (stepsT (nextsT names ts c)))]
def wf_check_names : Wf := fun _ ds Q => ∃ t names, ds = [qD t (names.map .str)] ∧ NamesOk names ∧ Q false .non
def tieB (names : List Str) (c : Int) (t : Tie) : Bool := decide (t.a ∈ names) && decide (t.b ∈ names) && !decide (t.a = t.b) && (decide (t.w = "two") || decide (t.w = "one")) && !t.at_.isEmpty && isSet t.at_ c
def otD (o : Option Tie) : D := match o with | none => .tup [] | some t => tieD t
def wf_is_tie : Wf := fun _ ds Q => ∃ (t' : Bool) (names : List Str) (o : Option Tie) (c : Int), ds = [qD t' (names.map .str), otD o, .int c] ∧ (∀ z ∈ names, PyData.strOk z = true) ∧ (∀ t, o = some t → PyData.strOk t.a = true ∧ PyData.strOk t.b = true ∧ PyData.strOk t.w = true ∧ t.at_.length ≤ sizeLine) ∧ Q false (.bl (match o with | none => false | some t => tieB names c t))
def wf_check_ties : Wf := fun _ ds Q => ∃ (t t' : Bool) (names : List Str) (ts : List Tie) (c : Nat), ds = [qD t (names.map .str), qD t' (ts.map tieD), .int c] ∧ NamesOk names ∧ TiesOk names c ts ∧ c ≤ 4 ∧ (∀ t ∈ ts, t.at_.length ≤ sizeLine) ∧ Q false .non
def wf_nexts_at : Wf := fun _ ds Q => ∃ (kvs : List (List Key × D)) (b n : Nat), ds = [.dT kvs, .int b, .int n] ∧ n ≤ 8 ∧ Q false (t2 ((List.range n).map fun u : Nat => rowF n fun v => hasD kvs [.inl (b : Int), .inl (u : Int), .inl (v : Int)]))
def wf_nexts_of : Wf := fun _ ds Q => ∃ (t : Bool) (names : List Str) (ts : List Tie) (c : Nat), ds = [.xtp (names.map .str), qD t (ts.map tieD), .int c] ∧ NamesOk names ∧ TiesOk names c ts ∧ 1 ≤ c ∧ c ≤ 4 ∧ Q false (t3 (nextsT names ts c))
def wf_steps_of : Wf := fun _ ds Q => ∃ nx : List (List (List Int)), ds = [t3 nx] ∧ nx.length ≤ 4 ∧ (∀ r ∈ nx, r.length ≤ 8 ∧ ∀ l ∈ r, l.length ≤ 8) ∧ Q false (t3 (stepsT nx))
/-- rows of a table, as lists or tuples -/
def rD (a b : Bool) (r : List (List Int)) : D := hD a (r.map fun l => hD b (l.map .int))
def gD_K_Web_2_beats : List D → List D → List D := fun a b => a ++ b
/-! k01's own -/
/-- a tie that stands right in the one form behind the key last -/
structure KeyOk (names : List Str) (c : Nat) (L : Psg) (last : List Int) (t : Tie) (u v : Nat) : Prop where
  hu : u < names.length
  hv : v < names.length
  ne : u ≠ v
  ea : t.a = names.getD u ""
  eb : t.b = names.getD v ""
  w : t.w = "two" ∨ t.w = "one"
  at0 : t.at_ ≠ []
  at_ : isSet t.at_ c = true
  l1 : ∀ b : Nat, (b : Int) ∈ t.at_ → L b u v = true ∧ (L b v u = (t.w == "two"))
  two : t.w = "two" → u < v
def keyF (t : Tie) (u v : Nat) : List Int := [((min u v : Nat) : Int), ((max u v : Nat) : Int), if t.w = "two" then 0 else if u > v then 2 else 1]
def wf_law : Wf := fun _ ds Q => ∃ sc : List Int, ds = [.fls (sc.map .int)] ∧ sc.length ≤ 63 ∧ Q false (.bl true)
end Tw.S

namespace Tw.S
open PySem PySem.Spec L2 PyProof.Rows Tw
theorem mo_wfSame {n : Addr} : MoF (wfSame n) := fun xc ds Q Q' i ⟨v0, v1, v2, c0, c1, q⟩ => ⟨v0, v1, v2, c0, c1, i _ _ q⟩
theorem hn_wfSame {n : Addr} : ∀ ds xc Q, wfSame n xc ds Q → ds.length = 2 := fun ds xc Q ⟨v0, v1, v2, c0, c1, q⟩ => by rw [c0]; rfl
theorem mo_wf_law_is_int : MoF wf_law_is_int := fun xc ds Q Q' i ⟨v0, c0, q⟩ => ⟨v0, c0, i _ _ q⟩
theorem hn_wf_law_is_int : ∀ ds xc Q, wf_law_is_int xc ds Q → ds.length = 1 := fun ds xc Q ⟨v0, c0, q⟩ => by rw [c0]; rfl
theorem mo_wf_is_name : MoF wf_is_name := fun xc ds Q Q' i ⟨v0, c0, c1, q⟩ => ⟨v0, c0, c1, i _ _ q⟩
theorem hn_wf_is_name : ∀ ds xc Q, wf_is_name xc ds Q → ds.length = 1 := fun ds xc Q ⟨v0, c0, c1, q⟩ => by rw [c0]; rfl
theorem mo_wf_is_set : MoF wf_is_set := fun xc ds Q Q' i ⟨v0, v1, c0, c1, q⟩ => ⟨v0, v1, c0, c1, i _ _ q⟩
theorem hn_wf_is_set : ∀ ds xc Q, wf_is_set xc ds Q → ds.length = 2 := fun ds xc Q ⟨v0, v1, c0, c1, q⟩ => by rw [c0]; rfl
theorem mo_wf_Web___len__ {C : Addr} : MoF (wf_Web___len__ C) := fun xc ds Q Q' i ⟨v0, v1, v2, c0, q⟩ => ⟨v0, v1, v2, c0, i _ _ q⟩
theorem hn_wf_Web___len__ {C : Addr} : ∀ ds xc Q, wf_Web___len__ C xc ds Q → ds.length = 1 := fun ds xc Q ⟨v0, v1, v2, c0, q⟩ => by rw [c0]; rfl
theorem mo_wf_check_place {C : Addr} {CU : Addr} : MoF (wf_check_place C CU) := fun xc ds Q Q' i ⟨v0, v1, v2, v3, c0, c1, c2, q⟩ => ⟨v0, v1, v2, v3, c0, c1, c2, (fun x1 => (fun x2 => i _ _ (((q x1) x2))))⟩
theorem hn_wf_check_place {C : Addr} {CU : Addr} : ∀ ds xc Q, wf_check_place C CU xc ds Q → ds.length = 2 := fun ds xc Q ⟨v0, v1, v2, v3, c0, c1, c2, q⟩ => by rw [c0]; rfl
theorem mo_wf_Web_steps {C : Addr} {CU : Addr} : MoF (wf_Web_steps C CU) := fun xc ds Q Q' i ⟨v0, v1, v2, v3, v4, c0, c1, c2, c3, q⟩ => ⟨v0, v1, v2, v3, v4, c0, c1, c2, c3, (fun x1 => (fun x2 => (match ((q x1) x2) with | ⟨x3, x4, x5, x6, x7⟩ => ⟨x3, x4, x5, x6, i _ _ x7⟩)))⟩
theorem hn_wf_Web_steps {C : Addr} {CU : Addr} : ∀ ds xc Q, wf_Web_steps C CU xc ds Q → ds.length = 3 := fun ds xc Q ⟨v0, v1, v2, v3, v4, c0, c1, c2, c3, q⟩ => by rw [c0]; rfl
theorem mo_wf_law_draws : MoF wf_law_draws := fun xc ds Q Q' i ⟨v0, v1, v2, c0, c1, c2, c3, q⟩ => ⟨v0, v1, v2, c0, c1, c2, c3, (fun x1 => (fun x2 => (fun x3 => i _ _ ((((q x1) x2) x3)))))⟩
theorem hn_wf_law_draws : ∀ ds xc Q, wf_law_draws xc ds Q → ds.length = 3 := fun ds xc Q ⟨v0, v1, v2, c0, c1, c2, c3, q⟩ => by rw [c0]; rfl
theorem mo_wf_law_names : MoF wf_law_names := fun xc ds Q Q' i ⟨v0, v1, v2, c0, c1, c2, c3, c4, q⟩ => ⟨v0, v1, v2, c0, c1, c2, c3, c4, (fun x1 => (fun x2 => (fun x3 => i _ _ ((((q x1) x2) x3)))))⟩
theorem hn_wf_law_names : ∀ ds xc Q, wf_law_names xc ds Q → ds.length = 3 := fun ds xc Q ⟨v0, v1, v2, c0, c1, c2, c3, c4, q⟩ => by rw [c0]; rfl
theorem mo_wf_law_table : MoF wf_law_table := fun xc ds Q Q' i ⟨v0, v1, v2, c0, c1, c2, c3, c4, q⟩ => ⟨v0, v1, v2, c0, c1, c2, c3, c4, i _ _ q⟩
theorem hn_wf_law_table : ∀ ds xc Q, wf_law_table xc ds Q → ds.length = 3 := fun ds xc Q ⟨v0, v1, v2, c0, c1, c2, c3, c4, q⟩ => by rw [c0]; rfl
theorem mo_wi_Web : MoI wi_Web := fun xc ds Q Q' i ⟨v0, v1, v2, v3, v4, c0, c1, c2, c3, c4, q⟩ => ⟨v0, v1, v2, v3, v4, c0, c1, c2, c3, c4, i _ q⟩
theorem hn_wi_Web : ∀ ds xc Q, wi_Web xc ds Q → ds.length = 3 := fun ds xc Q ⟨v0, v1, v2, v3, v4, c0, c1, c2, c3, c4, q⟩ => by rw [c0]; rfl
theorem mo_wf_check_names : MoF wf_check_names := fun xc ds Q Q' i ⟨v0, v1, c0, c1, q⟩ => ⟨v0, v1, c0, c1, i _ _ q⟩
theorem hn_wf_check_names : ∀ ds xc Q, wf_check_names xc ds Q → ds.length = 1 := fun ds xc Q ⟨v0, v1, c0, c1, q⟩ => by rw [c0]; rfl
theorem mo_wf_is_tie : MoF wf_is_tie := fun xc ds Q Q' i ⟨v0, v1, v2, v3, c0, c1, c2, q⟩ => ⟨v0, v1, v2, v3, c0, c1, c2, i _ _ q⟩
theorem hn_wf_is_tie : ∀ ds xc Q, wf_is_tie xc ds Q → ds.length = 3 := fun ds xc Q ⟨v0, v1, v2, v3, c0, c1, c2, q⟩ => by rw [c0]; rfl
theorem mo_wf_check_ties : MoF wf_check_ties := fun xc ds Q Q' i ⟨v0, v1, v2, v3, v4, c0, c1, c2, c3, c4, q⟩ => ⟨v0, v1, v2, v3, v4, c0, c1, c2, c3, c4, i _ _ q⟩
theorem hn_wf_check_ties : ∀ ds xc Q, wf_check_ties xc ds Q → ds.length = 3 := fun ds xc Q ⟨v0, v1, v2, v3, v4, c0, c1, c2, c3, c4, q⟩ => by rw [c0]; rfl
theorem mo_wf_nexts_at : MoF wf_nexts_at := fun xc ds Q Q' i ⟨v0, v1, v2, c0, c1, q⟩ => ⟨v0, v1, v2, c0, c1, i _ _ q⟩
theorem hn_wf_nexts_at : ∀ ds xc Q, wf_nexts_at xc ds Q → ds.length = 3 := fun ds xc Q ⟨v0, v1, v2, c0, c1, q⟩ => by rw [c0]; rfl
theorem mo_wf_nexts_of : MoF wf_nexts_of := fun xc ds Q Q' i ⟨v0, v1, v2, v3, c0, c1, c2, c3, c4, q⟩ => ⟨v0, v1, v2, v3, c0, c1, c2, c3, c4, i _ _ q⟩
theorem hn_wf_nexts_of : ∀ ds xc Q, wf_nexts_of xc ds Q → ds.length = 3 := fun ds xc Q ⟨v0, v1, v2, v3, c0, c1, c2, c3, c4, q⟩ => by rw [c0]; rfl
theorem mo_wf_steps_of : MoF wf_steps_of := fun xc ds Q Q' i ⟨v0, c0, c1, c2, q⟩ => ⟨v0, c0, c1, c2, i _ _ q⟩
theorem hn_wf_steps_of : ∀ ds xc Q, wf_steps_of xc ds Q → ds.length = 1 := fun ds xc Q ⟨v0, c0, c1, c2, q⟩ => by rw [c0]; rfl
theorem hn_wf_law : ∀ ds xc Q, wf_law xc ds Q → ds.length = 1 := fun ds xc Q ⟨v0, c0, c1, q⟩ => by rw [c0]; rfl
end Tw.S

namespace Tw.S
open PySem PySem.Spec L2 PyProof.Rows Tw

def b_law_draws : Ws :=
  (sSeq (sSet 3 (wC (.int 0)))
  (sSeq (sIf (wB (w2 oLt (wVar 1) (wN oLen (waCons (wVar 0) waNil))))
  (sSet 3 (wN oAbs (waCons (w2 oIx (wVar 0) (wVar 1)) waNil)))
  sNil)
  (sSeq (sSetO 4 (wLst waNil))
  (sSeq (sIf (wB (w2 oGe (wVar 3) (w2 oPow (wC (.int 10)) (wC (.int 18)))))
  (sSeq (sSet 3 (w2 oSub (wVar 3) (w2 oPow (wC (.int 10)) (wC (.int 18)))))
  (sSeq (sFor (wiR1 (wVar 2)) (gSet 5)
  (sSeq (sApp 4 (w2 oMod (wN oInt (waCons (wVar 3) waNil)) (wC (.int 1000))))
  (sSet 3 (w2 oDiv (wN oInt (waCons (wVar 3) waNil)) (wC (.int 1000))))))
  (sRetO 4)))
  sNil)
  (sSeq (sSet 6 (w2 oPlus (wVar 3) (w2 oMul (w2 oPlus (wVar 1) (wC (.int 1))) (wC (.int 7919)))))
  (sSeq (sFor (wiS (wSl oSl (wVar 0) woN (woS (wC (.int 6))))) (gSet 7)
  (sSet 6 (w2 oMod (wN oInt (waCons (w2 oPlus (w2 oMul (wVar 6) (wC (.int 31))) (wN oAbs (waCons (wVar 7) waNil))) waNil)) (wC (.int 2147483647)))))
  (sSeq (sFor (wiR1 (wVar 2)) (gSet 5)
  (sSeq (sSet 8 (w2 oMod (wN oInt (waCons (w2 oPlus (w2 oMul (wVar 6) (wC (.int 48271))) (w2 oMul (w2 oPlus (wVar 5) (wC (.int 1))) (wC (.int 16807)))) waNil)) (wC (.int 2147483647))))
  (sSeq (sSet 9 (w2 oMod (wN oInt (waCons (w2 oPlus (w2 oMul (wVar 8) (wVar 8)) (wVar 5)) waNil)) (wC (.int 2147483629))))
  (sSeq (sSet 10 (w2 oMod (wN oInt (waCons (w2 oPlus (w2 oMul (wVar 9) (wVar 9)) (wVar 8)) waNil)) (wC (.int 2147483587))))
  (sApp 4 (w2 oMod (w2 oDiv (wVar 10) (wC (.int 7))) (wC (.int 1000))))))))
  (sRetO 4))))))))
def b_law_names : Ws :=
  (sSeq (sSet 3 (wC (.str "abcdefghijklmnopqrstuvwxyz")))
  (sSeq (sSet 4 (wC (.int 0)))
  (sSeq (sIf (wB (w2 oEq (w2 oMod (w2 oDiv (wN oInt (waCons (w2 oIx (wVar 0) (wVar 1)) waNil)) (wC (.int 8))) (wC (.int 2))) (wC (.int 1))))
  (sSet 4 (w2 oMod (wN oInt (waCons (w2 oIx (wVar 0) (wVar 1)) waNil)) (wC (.int 8))))
  sNil)
  (sSeq (sSet 5 (w2 oIx (wVar 3) (w2 oMod (wN oInt (waCons (w2 oIx (wVar 0) (w2 oPlus (wVar 1) (wC (.int 1)))) waNil)) (wC (.int 26)))))
  (sSeq (sSet 6 (w2 oMod (w2 oDiv (wN oInt (waCons (w2 oIx (wVar 0) (w2 oPlus (wVar 1) (wC (.int 1)))) waNil)) (wC (.int 26))) (w2 oPlus (wVar 4) (wC (.int 1)))))
  (sSeq (sSet 7 (w2 oPlus (wC (.int 1)) (w2 oMod (wN oInt (waCons (w2 oIx (wVar 0) (w2 oPlus (wVar 1) (wC (.int 2)))) waNil)) (wC (.int 3)))))
  (sSeq (sSet 8 (w2 oMod (w2 oDiv (wN oInt (waCons (w2 oIx (wVar 0) (w2 oPlus (wVar 1) (wC (.int 2)))) waNil)) (wC (.int 3))) (wC (.int 26))))
  (sSeq (sSetO 9 (wLst waNil))
  (sSeq (sFor (wiR1 (wVar 2)) (gSet 10)
  (sSeq (sSet 11 (w2 oIx (wVar 3) (w2 oMod (w2 oPlus (w2 oMul (wVar 10) (wVar 7)) (wVar 8)) (wC (.int 26)))))
  (sApp 9 (w2 oPlus (w2 oPlus (w2 oMul (wVar 5) (wVar 6)) (wVar 11)) (w2 oMul (wVar 5) (w2 oSub (wVar 4) (wVar 6)))))))
  (sRetO 9))))))))))
def b_law_table : Ws :=
  (sSeq (sSetO 3 (wLst waNil))
  (sSeq (sFor (wiR1 (wVar 2)) (gSet 4)
  (sSeq (sSetO 5 (wLst waNil))
  (sSeq (sFor (wiR1 (wN oLen (waCons (wVar 0) waNil))) (gSet 6)
  (sSeq (sSetO 7 (wLst waNil))
  (sSeq (sFor (wiS (wVar 1)) (gTupD 4 (gsCons (gSet 8) (gsCons (gSet 9) (gsCons (gSet 10) (gsCons (gSet 11) gsNil)))))
  (sSeq (sIf (wAnd (wB (w2 (oIn false) (wVar 4) (wVar 11))) (wB (w2 oEq (wVar 8) (w2 oIx (wVar 0) (wVar 6)))))
  (sApp 7 (wIdx (wVar 0) (wVar 9)))
  sNil)
  (sIf (wAnd (wB (w2 (oIn false) (wVar 4) (wVar 11))) (wAnd (wB (w2 oEq (wVar 9) (w2 oIx (wVar 0) (wVar 6)))) (wB (w2 oEq (wVar 10) (wC (.str "two"))))))
  (sApp 7 (wIdx (wVar 0) (wVar 8)))
  sNil)))
  (sApp 5 (wSortSet (wPeek 7))))))
  (sFrz 5 (sApp 3 (wVar 5))))))
  (sRetO 3)))
def b_law_is_int : Ws :=
  (sRet (wAndV (wIsi "int" (wVar 0)) (wNotV (wIsi "bool" (wVar 0)))))
def b_law_same (wfr : Wf) : Ws :=
  (sSeq (sIf (wB (w2 (oIsN false) (wVar 1) (wC .non)))
  (sRet (w2 (oIsN false) (wVar 0) (wC .non)))
  sNil)
  (sSeq (sIf (wB (w2 oIsB (wVar 1) (wC (.bl true))))
  (sRet (w2 oIsB (wVar 0) (wC (.bl true))))
  sNil)
  (sSeq (sIf (wB (w2 oIsB (wVar 1) (wC (.bl false))))
  (sRet (w2 oIsB (wVar 0) (wC (.bl false))))
  sNil)
  (sSeq (sIf (wTru (wIsi "int" (wVar 1)))
  (sRet (wAndV (wCall wf_law_is_int [] (waCons (wVar 0) waNil)) (w2 oEq (wVar 0) (wVar 1))))
  sNil)
  (sSeq (sIf (wTru (wIsi "str" (wVar 1)))
  (sRet (wAndV (wIsi "str" (wVar 0)) (w2 oEq (wVar 0) (wVar 1))))
  sNil)
  (sSeq (sIf (wAnd (wTru (wIsi "tuple" (wVar 1))) (wNot (wTru (wIsi "tuple" (wVar 0)))))
  (sRet (wC (.bl false)))
  sNil)
  (sSeq (sIf (wAnd (wTru (wIsi "list" (wVar 1))) (wNot (wTru (wIsi "list" (wVar 0)))))
  (sRet (wC (.bl false)))
  sNil)
  (sSeq (sIf (wB (w2 oNe (wN oLen (waCons (wVar 0) waNil)) (wN oLen (waCons (wVar 1) waNil))))
  (sRet (wC (.bl false)))
  sNil)
  (sSeq (sFor (wiZ (wVar 0) (wVar 1)) (gTupD 2 (gsCons (gSet 2) (gsCons (gSet 3) gsNil)))
  (sIf (wNot (wTru (wCall wfr [] (waCons (wVar 2) (waCons (wVar 3) waNil)))))
  (sRet (wC (.bl false)))
  sNil))
  (sRet (wC (.bl true))))))))))))
def b_is_name : Ws :=
  (sRet (wAndV (wCh oLe oLe (wC (.int 1)) (wN oLen (waCons (wVar 0) waNil)) (wC (.int 8))) (wN oAll (waCons (wLc (wiStr (wVar 0)) (gSet 1) wtYes (w2 (oInS false) (wVar 1) (wC (.str "abcdefghijklmnopqrstuvwxyz"))) [1]) waNil))))
def b_check_names : Ws :=
  (sSeq (sIf (wNot (wB (wCh oLe oLe (wC (.int 1)) (wN oLen (waCons (wWk (wVar 0)) waNil)) (wC (.int 8)))))
  (fun _ _ => False)
  sNil)
  (sFor (wiR1 (wN oLen (waCons (wWk (wVar 0)) waNil))) (gSet 1)
  (sIf (wOr (wNot (wTru (wCall wf_is_name [] (waCons (w2 oIx (wWk (wVar 0)) (wVar 1)) waNil)))) (wB (w2 (oIn false) (w2 oIx (wWk (wVar 0)) (wVar 1)) (wSl oSl (wWk (wVar 0)) woN (woS (wVar 1))))))
  (fun _ _ => False)
  sNil)))
def b_is_set : Ws :=
  (sSeq (sSet 2 (wLc (wiS (wVar 0)) (gSet 4) wtYes (wCh oLe oLt (wC (.int 0)) (wVar 4) (wVar 1)) [4]))
  (sSeq (sSet 3 (wLc (wiR1 (w2 oSub (wN oLen (waCons (wVar 0) waNil)) (wC (.int 1)))) (gSet 5) wtYes (w2 oLt (w2 oIx (wVar 0) (wVar 5)) (w2 oIx (wVar 0) (w2 oPlus (wVar 5) (wC (.int 1))))) [5]))
  (sRet (wAndV (wN oAll (waCons (wVar 2) waNil)) (wN oAll (waCons (wVar 3) waNil))))))
def b_is_tie : Ws :=
  (sSeq (sIf (wB (w2 oNe (wN oLen (waCons (wVar 1) waNil)) (wC (.int 4))))
  (sRet (wC (.bl false)))
  sNil)
  (sSeq (sAsg (wVar 1) (gTupD 4 (gsCons (gSet 3) (gsCons (gSet 4) (gsCons (gSet 5) (gsCons (gSet 6) gsNil))))))
  (sSeq (sIf (wOr (wB (w2 (oIn true) (wVar 3) (wWk (wVar 0)))) (wOr (wB (w2 (oIn true) (wVar 4) (wWk (wVar 0)))) (wB (w2 oEq (wVar 3) (wVar 4)))))
  (sRet (wC (.bl false)))
  sNil)
  (sRet (wAndV (w2 (oIn false) (wVar 5) (wTup (waCons (wC (.str "two")) (waCons (wC (.str "one")) waNil)))) (wAndV (w2 oGt (wN oLen (waCons (wVar 6) waNil)) (wC (.int 0))) (wCall wf_is_set [] (waCons (wVar 6) (waCons (wVar 2) waNil)))))))))
def b_check_ties : Ws :=
  (sSeq (sIf (wB (w2 oGt (wN oLen (waCons (wVar 1) waNil)) (wC (.int 100))))
  (fun _ _ => False)
  sNil)
  (sFor (wiEnA (wVar 1)) (gTupD 2 (gsCons (gSet 3) (gsCons (gSet 4) gsNil)))
  (sIf (wNot (wTru (wCall wf_is_tie [] (waCons (wVar 0) (waCons (wVar 4) (waCons (wVar 2) waNil))))))
  (fun _ _ => False)
  sNil)))
def b_nexts_at : Ws :=
  (sRet (wN oTuple (waCons (wLc (wiR1 (wVar 2)) (gSet 3) wtYes (wN oTuple (waCons (wLc (wiR1 (wVar 2)) (gSet 4) (wB (wInT (waCons (wVar 1) (waCons (wVar 3) (waCons (wVar 4) waNil))) (wVar 0))) (wVar 4) [4]) waNil)) [3]) waNil)))
def b_nexts_of : Ws :=
  (sSeq (sSetO 3 (wC (.dT [])))
  (sSeq (sFor (wiS (wVar 1)) (gTupD 4 (gsCons (gSet 4) (gsCons (gSet 5) (gsCons (gSet 6) (gsCons (gSet 7) gsNil)))))
  (sSeq (sSet 8 (wIdxT (wVar 0) (wVar 4)))
  (sSeq (sSet 9 (wIdxT (wVar 0) (wVar 5)))
  (sFor (wiS (wVar 7)) (gSet 10)
  (sSeq (sPutT 3 (waCons (wVar 10) (waCons (wVar 8) (waCons (wVar 9) waNil))) (wC (.bl true)))
  (sIf (wB (w2 oEq (wVar 6) (wC (.str "two"))))
  (sPutT 3 (waCons (wVar 10) (waCons (wVar 9) (waCons (wVar 8) waNil))) (wC (.bl true)))
  sNil))))))
  (sSeq (sSet 11 (wN oLen (waCons (wWk (wVar 0)) waNil)))
  (sFrz 3 (sRet (wN oTuple (waCons (wLc (wiR1 (wVar 2)) (gSet 10) wtYes (wCall wf_nexts_at [] (waCons (wVar 3) (waCons (wVar 10) (waCons (wVar 11) waNil)))) [10]) waNil)))))))
def b_steps_of : Ws :=
  (sRet (wN oTuple (waCons (wLc (wiS (wVar 0)) (gSet 1) wtYes (wN oTuple (waCons (wLc (wiR1 (wN oLen (waCons (wVar 1) waNil))) (gSet 2) wtYes (wN oTuple (waCons (wN oSortI (waCons (wLst (waCons (wVar 2) (waStar (w2 oIx (wVar 1) (wVar 2)) waNil))) waNil)) waNil)) [2]) waNil)) [1]) waNil)))
def b_Web___init__ (C_Web : Addr) : Ws :=
  (sSeq (sExp (wCall wf_check_names [] (waCons (wVar 1) waNil)))
  (sSeq (sIf (wNot (wB (wCh oLe oLe (wC (.int 1)) (wVar 3) (wC (.int 4)))))
  (fun _ _ => False)
  sNil)
  (sSeq (sExp (wCall wf_check_ties [] (waCons (wVar 1) (waCons (wVar 2) (waCons (wVar 3) waNil)))))
  (sSeq (fun Z ρ => OneSe ρ 0 ∧ sFldD 0 C_Web "places" (wTupX2 (wVar 1)) Z ρ)
  (sSeq (fun Z ρ => OneSe ρ 0 ∧ sFldD 0 C_Web "beats" (wVar 3) Z ρ)
  (sSeq (fun Z ρ => OneSe ρ 0 ∧ sFldD 0 C_Web "_nexts" (wCall wf_nexts_of [] (waCons (wSelf 0 C_Web "places") (waCons (wVar 2) (waCons (wVar 3) waNil)))) Z ρ)
  (fun Z ρ => OneSe ρ 0 ∧ sFldD 0 C_Web "_steps" (wCall wf_steps_of [] (waCons (wSelf 0 C_Web "_nexts") waNil)) Z ρ)))))))
def b_Web___len__ (C_Web : Addr) : Ws :=
  (sRet (wN oLen (waCons (wWk (wFld C_Web "places" (wVar 0))) waNil)))
def b_check_place (C_Web : Addr) (C_UnknownPlace : Addr) : Ws :=
  (sIf (wNot (wB (wCh oLe oLt (wC (.int 0)) (wVar 1) (wLenO C_Web (wf_Web___len__ C_Web) (wVar 0)))))
  (sRaiseN C_UnknownPlace ["place"] (waCons (wVar 1) waNil))
  sNil)
def b_Web_steps (C_Web : Addr) (C_UnknownPlace : Addr) : Ws :=
  (sSeq (sExp (wCall (wf_check_place C_Web C_UnknownPlace) [] (waCons (wVar 0) (waCons (wVar 1) waNil))))
  (sRet (w2 oIx (w2 oIx (wFld C_Web "_steps" (wVar 0)) (w2 oMod (wVar 2) (wFld C_Web "beats" (wVar 0)))) (wVar 1))))
end Tw.S

namespace Tw.S
open PySem PySem.Spec L2 PyProof.Rows Tw
abbrev Zd (xc : XC) (Q : Bool → D → Prop) : Pd := { nx := fun _ => Q false .non, rt := Q, xc := xc }
theorem atI_at {α : Type} {l : List α} {i : Int} (h0 : 0 ≤ i) (h : i < l.length) : atI l i = l[i.toNat]? := by
  unfold atI ixN
  rw [if_pos h0, if_pos h]
  rfl
theorem atI_last {α : Type} {l : List α} (h : l ≠ []) : atI l (-1) = l[l.length - 1]? := by
  have hp : 0 < l.length := List.length_pos_iff.mpr h
  unfold atI ixN
  rw [if_neg (by decide), if_pos (by omega)]
  show l[((-1 : Int) + l.length).toNat]? = _
  congr 1
  omega
theorem atI_int {l : List Int} {i : Int} (h0 : 0 ≤ i) (h : i < l.length) : atI l i = some (l.getD i.toNat 0) := by
  rw [atI_at h0 h]
  have : i.toNat < l.length := by omega
  simp [this]
theorem all_map {n : Nat} (f : Nat → Bool) : ((List.range n).map fun i => f i).all id = (List.range n).all f := by
  rw [List.all_map]; rfl
def fldOf (C : Addr) (f : Str) (d : D) (Q : D → Prop) : Prop := ∃ fs v, d = .obj C fs ∧ fs.lookup f = some v ∧ Q v
@[simp] theorem wFld_eq {C : Addr} {f : Str} {w : Wx} {xc : XC} {ρ : Evn} {Q : D → Prop} : wFld C f w xc ρ Q = w xc ρ fun d => fldOf C f d Q := rfl
theorem fldOf_mk {C : Addr} {f : Str} {fs : List (Str × D)} {v : D} {Q : D → Prop} (h : fs.lookup f = some v) : fldOf C f (.obj C fs) Q = Q v := propext
  ⟨fun ⟨fs', v', e, l, q⟩ => by cases e; rw [h] at l; cases l; exact q, fun q => ⟨_, _, rfl, h, q⟩⟩
def isO (C : Addr) (d : D) : Prop := ∃ fs, d = .obj C fs
@[simp] theorem wLenO_eq {C : Addr} {wf : Wf} {w : Wx} {xc : XC} {ρ : Evn} {Q : D → Prop} : wLenO C wf w xc ρ Q = w xc ρ fun d => isO C d ∧ wf xc [d] fun _ v => ∃ n : Int, v = .int n ∧ (0 ≤ n ∧ n < 2 ^ 63) ∧ Q v := by
  unfold wLenO isO
  congr 1
  funext d
  exact propext ⟨fun ⟨fs, e, h⟩ => ⟨⟨fs, e⟩, h⟩, fun ⟨⟨fs, e⟩, h⟩ => ⟨fs, e, h⟩⟩
def mOf (C : Addr) (m : Str) (d : D) : Prop := ∃ fs, d = .obj C fs ∧ fs.lookup m = none
@[simp] theorem wMeth_eq {C : Addr} {m : Str} {wf : Wf} {w : Wx} {u : Wa} {xc : XC} {ρ : Evn} {Q : D → Prop} : wMeth C m wf w u xc ρ Q = w xc ρ fun d => mOf C m d ∧ u xc ρ fun ds => wf xc (d :: ds) fun _ v => Q v := by
  unfold wMeth mOf
  congr 1
  funext d
  exact propext ⟨fun ⟨fs, e, l, h⟩ => ⟨⟨fs, e, l⟩, h⟩, fun ⟨⟨fs, e, l⟩, h⟩ => ⟨fs, e, l, h⟩⟩
@[simp] theorem wMethF_eq {C : Addr} {m : Str} {wf : Wf} {w : Wx} {u : Wa} {xc : XC} {ρ : Evn} {Q : D → Prop} : wMethF C m wf w u xc ρ Q = w xc ρ fun d => mOf C m d ∧ u xc ρ fun ds => wf xc (d :: ds) fun fr v => fr = true ∧ Q v := by
  unfold wMethF mOf
  congr 1
  funext d
  exact propext ⟨fun ⟨fs, e, l, h⟩ => ⟨⟨fs, e, l⟩, h⟩, fun ⟨⟨fs, e, l⟩, h⟩ => ⟨fs, e, l, h⟩⟩
section
variable {C : Addr} {names : List Str} {c : Nat} {nx : List (List (List Int))} {Q : D → Prop} {t : Bool} {ds : List D} {i : Int} {lo hi : Option Int}
@[simp] theorem web_places : fldOf C "places" (webD C names c nx) Q = Q (.xtp (names.map .str)) := fldOf_mk rfl
@[simp] theorem web_beats : fldOf C "beats" (webD C names c nx) Q = Q (.int c) := fldOf_mk rfl
@[simp] theorem web_nexts : fldOf C "_nexts" (webD C names c nx) Q = Q (t3 nx) := fldOf_mk rfl
@[simp] theorem web_steps : fldOf C "_steps" (webD C names c nx) Q = Q (t3 (stepsT nx)) := fldOf_mk rfl
@[simp] theorem isO_web : isO C (webD C names c nx) := ⟨_, rfl⟩
theorem len_go {xc : XC} {Q : D → Prop} (hn : names.length ≤ 8) (q : Q (.int names.length)) : wf_Web___len__ C xc [webD C names c nx] fun _ v => ∃ n : Int, v = .int n ∧ (0 ≤ n ∧ n < 2 ^ 63) ∧ Q v :=
  ⟨names, c, nx, rfl, _, rfl, by omega, q⟩
@[simp] theorem qD_f : qD false ds = .lst ds := rfl
@[simp] theorem qD_t : qD true ds = .xtp ds := rfl
@[simp] theorem wk_qD : D.wk (qD t ds) = hD t ds := by cases t <;> rfl
@[simp] theorem len_hD : oLen [hD t ds] Q = Q (.int ds.length) := by cases t <;> rfl
@[simp] theorem len_qD : oLen [qD t ds] Q = Q (.int ds.length) := by cases t <;> rfl
@[simp] theorem ix_hD : oIx (hD t ds) (.int i) Q = ∃ d, atI ds i = some d ∧ Q d := by cases t <;> rfl
@[simp] theorem sl_hD : oSl (hD t ds) lo hi Q = Q (hD t (cutD ds lo hi)) := by cases t <;> rfl
@[simp] theorem seq_qD : D.seq (qD t ds) = some ds := by cases t <;> rfl
@[simp] theorem seq_hD : D.seq (hD t ds) = some ds := by cases t <;> rfl
theorem ok_hD (h : (D.lst ds).ok) : (hD t ds).ok := by
  cases t
  · exact h
  · obtain ⟨h1, h2⟩ := h
    refine ⟨by rw [D.isP] at h1; show D.isP (.tup ds) = true; rw [D.isP]; exact h1, ?_⟩
    rw [D.py] at h2
    show SeqAt.shaped (D.tup ds).py = true
    rw [D.py]
    unfold SeqAt.shaped at h2 ⊢
    simp only [PyData.canLay0, PyData.depth] at h2 ⊢
    exact h2
theorem in_hD {x : Str} {l : List Str} (hx : PyData.strOk x = true) (hl : ∀ z ∈ l, PyData.strOk z = true) (neg : Bool) : oIn neg (.str x) (hD t (l.map .str)) Q = Q (.bl (if neg = true then !decide (x ∈ l) else decide (x ∈ l))) := by
  cases t
  · exact oIn_s hx hl neg
  · have h := any_str (x := x) l
    have o : (D.tup (l.map .str)).ok := ok_hD (t := true) (ok_strs hl)
    show oIn neg (.str x) (.tup (l.map .str)) Q = _
    simp only [oIn, ok_str hx, o, h, true_and]
end
theorem atI_map {α : Type} {l : List α} {f : α → D} {i : Int} : atI (l.map f) i = (atI l i).map f := by
  unfold atI
  simp only [List.length_map, List.getElem?_map]
  cases ixN l.length i <;> rfl
theorem ix_map {α : Type} {l : List α} {f : α → D} {i : Int} {Q : D → Prop} : (∃ d, atI (l.map f) i = some d ∧ Q d) = ∃ x, atI l i = some x ∧ Q (f x) := by
  rw [atI_map]
  cases atI l i <;> simp
section
variable {l : List Int} {p2 : List (List Int)} {p3 : List (List (List Int))} {zs : List Str} {i : Int} {Q : D → Prop}
@[simp] theorem ix_tI : oIx (tI l) (.int i) Q = ∃ x, atI l i = some x ∧ Q (.int x) := ix_map
@[simp] theorem ix_iL : oIx (iL l) (.int i) Q = ∃ x, atI l i = some x ∧ Q (.int x) := ix_map
@[simp] theorem ix_sL : oIx (sL zs) (.int i) Q = ∃ x, atI zs i = some x ∧ Q (.str x) := ix_map
@[simp] theorem ix_t2 : oIx (t2 p2) (.int i) Q = ∃ x, atI p2 i = some x ∧ Q (tI x) := ix_map
@[simp] theorem ix_t3 : oIx (t3 p3) (.int i) Q = ∃ x, atI p3 i = some x ∧ Q (t2 x) := ix_map
@[simp] theorem ix_pL : oIx (pL p2) (.int i) Q = ∃ x, atI p2 i = some x ∧ Q (tI x) := ix_map
@[simp] theorem ix_l2 : oIx (l2 p2) (.int i) Q = ∃ x, atI p2 i = some x ∧ Q (iL x) := ix_map
@[simp] theorem ix_l3 : oIx (l3 p3) (.int i) Q = ∃ x, atI p3 i = some x ∧ Q (l2 x) := ix_map
@[simp] theorem len_tI : oLen [tI l] Q = Q (.int l.length) := by simp [tI]
@[simp] theorem len_iL : oLen [iL l] Q = Q (.int l.length) := by simp [iL]
@[simp] theorem len_sL : oLen [sL zs] Q = Q (.int zs.length) := by simp [sL]
@[simp] theorem len_pL : oLen [pL p2] Q = Q (.int p2.length) := by simp [pL]
@[simp] theorem len_t2 : oLen [t2 p2] Q = Q (.int p2.length) := by simp [t2]
@[simp] theorem seq_tI : D.seq (tI l) = some (l.map .int) := rfl
@[simp] theorem seq_iL : D.seq (iL l) = some (l.map .int) := rfl
@[simp] theorem seq_sL : D.seq (sL zs) = some (zs.map .str) := rfl
@[simp] theorem seq_pL : D.seq (pL p2) = some (p2.map tI) := rfl
@[simp] theorem seq_t3 : D.seq (t3 p3) = some (p3.map t2) := rfl
@[simp] theorem seq_t2 : D.seq (t2 p2) = some (p2.map tI) := rfl
end
theorem p_is_set (xc : XC) (ds : List D) (Q : Bool → D → Prop) (h : wf_is_set xc ds Q) : b_is_set (Zd xc Q) (ds.map .da ++ List.replicate (6 - ds.length) .no) := by
  obtain ⟨l, n, rfl, hl, q⟩ := h
  have hs := sizeLine_eq
  simp [b_is_set]
  refine lc_of l D.int (fun x => .bl (decide (0 ≤ x) && decide (x < n))) (fun x hx k1 h1 => ?_) hl ?_
  · simp
    by_cases h0 : 0 ≤ x
    · exact .inr ⟨h0, by simpa [h0] using h1⟩
    · exact .inl ⟨by omega, by simpa [h0] using h1⟩
  · refine ⟨by omega, lc_rng0 _ (fun i => .bl (decide (l.getD i 0 < l.getD (i + 1) 0))) (fun i hi k1 h1 => ?_) (by omega) ?_⟩
    · simp
      refine ⟨_, atI_int (by omega) (by omega), _, atI_int (by omega) (by omega), ?_⟩
      simpa using h1
    · refine oAll_b (bs := l.map fun x => decide (0 ≤ x) && decide (x < n)) (by simp) ?_
      unfold isSet at q
      have e : (l.map fun x => decide (0 ≤ x) && decide (x < n)).all id = l.all fun x => decide (0 ≤ x) && decide (x < n) := by rw [List.all_map]; rfl
      rw [e]
      cases hb : (l.all fun x => decide (0 ≤ x) && decide (x < n)) with
      | false => rw [hb] at q; exact .inl ⟨rfl, by simpa using q⟩
      | true =>
        rw [hb, Bool.true_and] at q
        refine .inr ⟨rfl, oAll_b (bs := (List.range (l.length - 1)).map fun i => decide (l.getD i 0 < l.getD (i + 1) 0)) (by simp) ?_⟩
        rw [all_map]
        exact q
theorem p_len (C : Addr) (xc : XC) (ds : List D) (Q : Bool → D → Prop) (h : wf_Web___len__ C xc ds Q) : b_Web___len__ C (Zd xc Q) (ds.map .da ++ List.replicate (1 - ds.length) .no) := by
  obtain ⟨names, c, nx, rfl, q⟩ := h
  simp [b_Web___len__]
  simpa using q
theorem p_check_place (C CU : Addr) (xc : XC) (ds : List D) (Q : Bool → D → Prop) (h : wf_check_place C CU xc ds Q) : b_check_place C CU (Zd xc Q) (ds.map .da ++ List.replicate (2 - ds.length) .no) := by
  obtain ⟨names, c, nx, p, rfl, h2, qx, q⟩ := h
  simp [b_check_place, raiseN_eq]
  by_cases h0 : 0 ≤ p
  · refine .inr ⟨h0, len_go h2 ?_⟩
    by_cases h1 : p < names.length
    · simpa [h1] using q h0 h1
    · simpa [h1] using qx fun z => h1 z.2
  · exact .inl ⟨by omega, qx fun z => h0 z.1⟩
theorem p_steps (C CU : Addr) (xc : XC) (ds : List D) (Q : Bool → D → Prop) (h : wf_Web_steps C CU xc ds Q) : b_Web_steps C CU (Zd xc Q) (ds.map .da ++ List.replicate (3 - ds.length) .no) := by
  obtain ⟨names, c, nx, p, b, rfl, h2, h3, qx, q⟩ := h
  simp [b_Web_steps]
  refine ⟨names, c, nx, p, rfl, h2, qx, fun h0 h1 => ?_⟩
  obtain ⟨row, cell, h4, h5, q⟩ := q h0 h1
  have hm : 0 ≤ b % (c : Int) := Int.emod_nonneg _ (by omega)
  have l1 := (List.getElem?_eq_some_iff.mp h4).1
  have l2 := (List.getElem?_eq_some_iff.mp h5).1
  simp [h3]
  exact ⟨_, (atI_at hm (by omega)).trans h4, _, (atI_at h0 (by omega)).trans h5, q⟩
theorem inS_eq {c : Nat} {z : Str} {Q : D → Prop} : oInS false (.str ⟨#[c]⟩) (.str z) Q = Q (.bl (decide (c ∈ z.cps.toList))) := rfl
theorem p_is_name (xc : XC) (ds : List D) (Q : Bool → D → Prop) (h : wf_is_name xc ds Q) : b_is_name (Zd xc Q) (ds.map .da ++ List.replicate (2 - ds.length) .no) := by
  obtain ⟨z, rfl, hl, q⟩ := h
  have hs := sizeLine_eq
  have hz : z.cps.toList.length = z.length := by simp [Str.length]
  simp [b_is_name, wiStr, hl]
  unfold isName at q
  by_cases h1 : 1 ≤ z.length
  · refine .inr ⟨by omega, ?_⟩
    by_cases h8 : z.length ≤ 8
    · refine .inr ⟨by omega, ?_⟩
      refine lc_of z.cps.toList (fun c => .str ⟨#[c]⟩) (fun c => .bl (decide (c ∈ letters.cps.toList))) (fun c hc k1 k => ?_) (by omega) ?_
      · simp only [gSet, w2, wVar, wC, List.set_cons_succ, List.set_cons_zero, List.getElem?_cons_succ, List.getElem?_cons_zero, Option.some.injEq, Sl.da.injEq, exists_eq_left', inS_eq]
        exact k
      · refine oAll_b (bs := z.cps.toList.map fun c => decide (c ∈ letters.cps.toList)) (by simp) ?_
        rw [List.all_map]
        simp [h1, h8] at q
        simpa using q
    · exact .inl ⟨by omega, by simpa [h1, h8] using q⟩
  · exact .inl ⟨by omega, by simpa [h1] using q⟩
theorem p_law_is_int (xc : XC) (ds : List D) (Q : Bool → D → Prop) (h : wf_law_is_int xc ds Q) : b_law_is_int (Zd xc Q) (ds.map .da ++ List.replicate (1 - ds.length) .no) := by
  obtain ⟨i, rfl, q⟩ := h
  simpa [b_law_is_int, wIsi] using q
theorem name_ok {z : Str} (h : isName z = true) : PyData.strOk z = true ∧ z.length ≤ 8 := by
  unfold isName at h
  rw [Bool.and_eq_true, Bool.and_eq_true] at h
  refine ⟨?_, of_decide_eq_true h.1.2⟩
  have hl : ∀ c ∈ letters.cps.toList, c < 0x110000 := by decide +kernel
  unfold PyData.strOk
  rw [← Array.all_toList, List.all_eq_true]
  intro c hc
  exact decide_eq_true (hl c (of_decide_eq_true (List.all_eq_true.mp h.2 c hc)))
theorem NamesOk.ok {names : List Str} (h : NamesOk names) : ∀ z ∈ names, PyData.strOk z = true := fun z hz => (name_ok (h.nm z hz)).1
theorem atI_strs {l : List Str} {i : Nat} (h : i < l.length) : atI l (i : Int) = some l[i] := by
  rw [atI_at (by omega) (by omega)]
  simp [h]
theorem p_check_names (xc : XC) (ds : List D) (Q : Bool → D → Prop) (h : wf_check_names xc ds Q) : b_check_names (Zd xc Q) (ds.map .da ++ List.replicate (2 - ds.length) .no) := by
  obtain ⟨tt, names, rfl, hn, q⟩ := h
  have hs := sizeLine_eq
  have lo := hn.lo
  have hi := hn.hi
  simp [b_check_names, sFor]
  refine ⟨by omega, by omega, by omega, ?_⟩
  refine for_same (List.range names.length) (fun i => .int (0 + (i : Nat))) (fun ρ => ∃ t, ρ = [Sl.da (qD tt (names.map .str)), t]) (fun i ρ N hi ⟨t, e⟩ hN => ?_) ⟨_, rfl⟩ fun ρ _ => q
  subst e
  have hi' := List.mem_range.mp hi
  have hm : names[i] ∈ names := List.getElem_mem hi'
  have ea : atI (names.map D.str) (i : Int) = some (.str names[i]) := by rw [atI_map, atI_strs hi']; rfl
  simp
  refine ⟨_, ea, _, rfl, by have := (name_ok (hn.nm _ hm)).2; omega, ?_⟩
  simp [hn.nm _ hm]
  refine ⟨_, ea, ?_⟩
  simp [wSl, woS, woN]
  have ec : cutD (names.map .str) none (some (i : Int)) = (names.take i).map .str := by
    unfold cutD
    rw [HT.sIx_none, HT.sIx_nat, List.length_map, Nat.min_eq_left (by omega), List.drop_zero, Nat.sub_zero, List.map_take]
  rw [ec, in_hD (hn.ok _ hm) (fun z hz => hn.ok z (List.mem_of_mem_take hz))]
  have hno : ¬ names[i] ∈ names.take i := fun z => by
    obtain ⟨j, hj, e⟩ := List.mem_take_iff_getElem.mp z
    have hj' : j < names.length := by omega
    have := (List.getElem_inj hn.nd).mp e
    omega
  simp [hno]
  exact hN _ ⟨_, rfl⟩
end Tw.S

namespace Tw.S
open PySem PySem.Spec L2 PyProof.Rows Tw
theorem word_ok {z : Str} (h : z = "two" ∨ z = "one") : PyData.strOk z = true := by rcases h with rfl | rfl <;> decide +kernel
theorem tieB_ok {names : List Str} {c : Int} {t : Tie} (h : TieOk names c t) : tieB names c t = true := by
  unfold tieB
  simp [h.a, h.b, h.ne, h.w, h.at0, h.at_]
theorem p_is_tie (xc : XC) (ds : List D) (Q : Bool → D → Prop) (h : wf_is_tie xc ds Q) : b_is_tie (Zd xc Q) (ds.map .da ++ List.replicate (7 - ds.length) .no) := by
  obtain ⟨tt, names, o, c, rfl, hn, ho, q⟩ := h
  have hs := sizeLine_eq
  cases o with
  | none =>
    simp [b_is_tie, otD]
    exact q
  | some t =>
    obtain ⟨oa, ob, ow, hl⟩ := ho t rfl
    replace q : Q false (.bl (tieB names c t)) := q
    unfold tieB at q
    simp [b_is_tie, otD, tieD, sAsg, gTupD, gsCons, gsNil]
    refine ⟨_, _, ⟨rfl, rfl⟩, _, _, rfl, _, _, rfl, _, _, rfl, rfl, ?_⟩
    rw [in_hD oa hn]
    by_cases ha : t.a ∈ names
    · refine .inl ⟨by simp [ha], ?_⟩
      rw [in_hD ob hn]
      by_cases hb : t.b ∈ names
      · refine .inl ⟨by simp [hb], ?_⟩
        rw [oEq_s oa ob]
        by_cases he : t.a = t.b
        · refine .inr ⟨by simp [he], ?_⟩
          simpa [he] using q
        · refine .inl ⟨by simp [he], by omega, ?_⟩
          rw [oIn_ss ow (by decide +kernel) (by decide +kernel)]
          by_cases hw : t.w = "two" ∨ t.w = "one"
          · refine .inr ⟨by rcases hw with e | e <;> simp [e], ?_⟩
            simp
            by_cases h0 : t.at_ = []
            · refine .inl ⟨by simp [h0], ?_⟩
              simpa [h0] using q
            · have := List.length_pos_iff.mpr h0
              refine .inr ⟨by omega, _, _, rfl, hl, ?_⟩
              have h0' : t.at_.isEmpty = false := List.isEmpty_eq_false_iff.mpr h0
              rcases hw with e | e <;> simpa [ha, hb, he, e, h0'] using q
          · refine .inl ⟨by simp only [not_or] at hw; simp [hw.1, hw.2], ?_⟩
            simp only [not_or] at hw
            simpa [hw.1, hw.2] using q
      · refine .inr ⟨by simp [hb], ?_⟩
        simpa [hb] using q
    · refine .inr ⟨by simp [ha], ?_⟩
      simpa [ha] using q
theorem p_check_ties (xc : XC) (ds : List D) (Q : Bool → D → Prop) (h : wf_check_ties xc ds Q) : b_check_ties (Zd xc Q) (ds.map .da ++ List.replicate (5 - ds.length) .no) := by
  obtain ⟨tt, t', names, ts, c, rfl, hn, ht, hc, hl, q⟩ := h
  have le := ht.le
  simp [b_check_ties, sFor, wiEnA]
  refine ⟨by omega, ?_⟩
  have em : List.map (fun q => D.tup [D.int ↑q.snd, q.fst]) (List.map tieD ts).zipIdx = ts.zipIdx.map fun q => D.tup [D.int ↑q.snd, tieD q.fst] := by
    rw [List.zipIdx_map, List.map_map]; rfl
  rw [em]
  refine for_same ts.zipIdx (fun q => D.tup [D.int ↑q.snd, tieD q.fst]) (fun ρ => ∃ a b, ρ = [Sl.da (qD tt (names.map .str)), Sl.da (qD t' (ts.map tieD)), Sl.da (.int c), a, b]) (fun x ρ N hx ⟨a, b, e⟩ hN => ?_) ⟨_, _, rfl⟩ fun ρ _ => q
  subst e
  have hm : x.1 ∈ ts := (List.mem_zipIdx' hx).2 ▸ List.getElem_mem _
  simp [gTupD, gsCons, gsNil]
  have tk := ht.ok _ hm
  refine ⟨_, _, ⟨rfl, rfl⟩, _, _, rfl, rfl, tt, names, some x.1, c, rfl, hn.ok, fun t e => by cases e; exact ⟨hn.ok _ tk.a, hn.ok _ tk.b, word_ok tk.w, hl _ hm⟩, ?_⟩
  simp [tieB_ok tk]
  exact hN _ ⟨_, _, rfl⟩
/-- a set of numbers below n has at most n of them -/
theorem climb_le : ∀ {l : List Int} {n : Int}, isSet l n = true → ∀ (i : Nat) (hi : i < l.length), (i : Int) ≤ l[i] ∧ l[i] < n
  | l, n, h, i, hi => by
    unfold isSet at h
    rw [Bool.and_eq_true] at h
    have hb : ∀ (j : Nat) (hj : j < l.length), 0 ≤ l[j] ∧ l[j] < n := fun j hj => by
      have := List.all_eq_true.mp h.1 _ (List.getElem_mem hj)
      simpa using this
    refine ⟨?_, (hb i hi).2⟩
    induction i with
    | zero => exact (hb 0 hi).1
    | succ i ih =>
      have h1 := ih (by omega)
      have h2 := List.all_eq_true.mp h.2 i (List.mem_range.mpr (by omega))
      have h3 : l[i]'(by omega) < l[i + 1] := by
        have := of_decide_eq_true h2
        simpa [show i < l.length by omega, hi] using this
      omega
theorem set_len {l : List Int} {n : Nat} (h : isSet l n = true) : l.length ≤ n := by
  cases hl : l.length with
  | zero => omega
  | succ k =>
    have := climb_le h k (by omega)
    omega
theorem TieOk.short {names : List Str} {c : Nat} {t : Tie} (h : TieOk names c t) (hc : c ≤ 4) : t.at_.length ≤ sizeLine := by
  have := set_len h.at_
  have := sizeLine_eq
  omega
theorem row_le (n : Nat) (p : Nat → Bool) : (rowF n p).length ≤ n := by
  unfold rowF
  have := List.length_filter_le p (List.range n)
  simp only [List.length_map, List.length_range] at this ⊢
  omega
theorem tab_dims {n c : Nat} {L : Psg} (hn : n ≤ 8) (hc : c ≤ 4) : (tabF n c L).length ≤ 4 ∧ ∀ r ∈ tabF n c L, r.length ≤ 8 ∧ ∀ l ∈ r, l.length ≤ 8 := by
  refine ⟨by simp [tabF]; omega, fun r hr => ?_⟩
  obtain ⟨b, hb, rfl⟩ := List.mem_map.mp hr
  refine ⟨by simp; omega, fun l hl => ?_⟩
  obtain ⟨u, hu, rfl⟩ := List.mem_map.mp hl
  have := row_le n (L b u)
  omega
theorem p_Web_init (C : Addr) (xc : XC) (ds : List D) (Q : List (Str × D) → Prop) (p : Addr) (h : wi_Web xc ds Q) : b_Web___init__ C { nx := fun ρ => ∃ fs, ρ[0]? = some (.se p C fs) ∧ Q fs, rt := fun _ _ => False, xc := xc } (.se p C [] :: (ds.map .da ++ List.replicate (4 - (ds.length + 1)) .no)) := by
  obtain ⟨tt, t', names, ts, c, rfl, hn, ht, h1, h2, q⟩ := h
  have hlen : ∀ t ∈ ts, t.at_.length ≤ sizeLine := fun t h => (ht.ok t h).short h2
  simp (decide := true) [b_Web___init__, wTupX2, wSelf, sFldD, ex2, ex2', putD]
  refine ⟨tt, names, rfl, hn, by omega, by omega, tt, t', names, ts, c, rfl, hn, ht, h2, hlen, names.map .str, by cases tt <;> simp, ?_⟩
  have td := tab_dims (n := names.length) (c := c) (L := psgOf names ts) hn.hi h2
  refine ⟨t', names, ts, c, rfl, hn, ht, h1, h2, _, rfl, nextsT names ts c, rfl, td.1, td.2, ?_⟩
  simpa [putD] using q
theorem sm_nx {n : Nat} {xs ys : List D} {wfr : Wf} {xc : XC} {Q : Bool → D → Prop} {s0 s1 : Sl} (hs : ∀ q ∈ xs.zip ys, Sm n q.1 q.2) (q : Q false (.bl true)) (hw : wfr = wfSame n) :
    forW (gTupD 2 (gsCons (gSet 2) (gsCons (gSet 3) gsNil))) (sIf (wNot (wTru (wCall wfr [] (waCons (wVar 2) (waCons (wVar 3) waNil))))) (sRet (wC (.bl false))) sNil) { nx := sRet (wC (.bl true)) (Zd xc Q), rt := Q, xc := xc } ((xs.zip ys).map fun q => D.tup [q.1, q.2]) [s0, s1, Sl.no, Sl.no] := by
  subst hw
  refine for_same (xs.zip ys) (fun q => D.tup [q.1, q.2]) (fun ρ => ∃ a b, ρ = [s0, s1, a, b]) (fun x ρ N hx ⟨a, b, e⟩ hN => ?_) ⟨_, _, rfl⟩ fun ρ _ => by simpa using q
  subst e
  simp [gTupD, gsCons, gsNil]
  refine ⟨_, _, ⟨rfl, rfl⟩, _, _, rfl, rfl, _, _, _, rfl, .sm (hs x hx), ?_⟩
  simp
  exact hN _ ⟨_, _, rfl⟩
theorem p_law_same0 (wfr : Wf) (xc : XC) (ds : List D) (Q : Bool → D → Prop) (h : wfSame 0 xc ds Q) : b_law_same wfr (Zd xc Q) (ds.map .da ++ List.replicate (4 - ds.length) .no) := by
  obtain ⟨g, d, bb, rfl, hs, q⟩ := h
  simp [b_law_same, wIsi]
  cases hs
  case bl b c => cases b <;> cases c <;> simpa using q
  case str y z hy hz => simpa [oEq_s hy hz] using q
  case sm hs =>
    cases hs
    case non => simpa using q
    case bl b => cases b <;> simpa using q
    case int i => simpa [wf_law_is_int] using q
    case str z hz => simpa [oEq_s hz hz] using q
theorem p_law_same (n : Nat) (xc : XC) (ds : List D) (Q : Bool → D → Prop) (h : wfSame (n + 1) xc ds Q) : b_law_same (wfSame n) (Zd xc Q) (ds.map .da ++ List.replicate (4 - ds.length) .no) := by
  obtain ⟨g, d, bb, rfl, hs, q⟩ := h
  simp [b_law_same, wIsi]
  cases hs
  case bl b c => cases b <;> cases c <;> simpa using q
  case str y z hy hz => simpa [oEq_s hy hz] using q
  case sm hs =>
    cases hs
    case non => simpa using q
    case bl b => cases b <;> simpa using q
    case int i => simpa [wf_law_is_int] using q
    case str z hz => simpa [oEq_s hz hz] using q
    case tup xs ys hl hs =>
      simp [hl, sFor, wiZ, D.isL, D.isT, ex2]
      exact sm_nx (s0 := Sl.da (.tup xs)) (s1 := Sl.da (.tup ys)) hs q rfl
    case lst xs ys hl hs =>
      simp [hl, sFor, wiZ, D.isL, D.isT, ex2]
      exact sm_nx (s0 := Sl.da (.lst xs)) (s1 := Sl.da (.lst ys)) hs q rfl
end Tw.S

namespace Tw.S
open PySem PySem.Spec L2 PyProof.Rows Tw
section
variable {l : List Int} {p2 : List (List Int)} {zs : List Str} {Q : D → Prop}
@[simp] theorem tup_sL : oTuple [sL zs] Q = Q (.tup (zs.map .str)) := rfl
@[simp] theorem tup_iL : oTuple [iL l] Q = Q (tI l) := rfl
end
theorem sm_list {n : Nat} : ∀ {xs : List D}, (∀ x ∈ xs, Sm n x x) → ∀ q ∈ xs.zip xs, Sm n q.1 q.2
  | [], _, q, hq => by simp at hq
  | x :: xs, h, q, hq => by
    rcases List.mem_cons.mp hq with rfl | hq
    · exact h x (by simp)
    · exact sm_list (fun y hy => h y (by simp [hy])) q hq
theorem sm_ints {n : Nat} {l : List Int} : Sm (n + 1) (tI l) (tI l) := by
  refine .tup rfl (sm_list fun x hx => ?_)
  obtain ⟨z, hz, rfl⟩ := List.mem_map.mp hx
  exact .int z
theorem sorted_one : ∀ {a b : List Int}, a.Perm b → a.Pairwise (· ≤ ·) → b.Pairwise (· ≤ ·) → a = b
  | [], b, p, _, _ => by rw [List.nil_perm.mp p]
  | x :: a, [], p, _, _ => by cases List.perm_nil.mp p
  | x :: a, y :: b, p, ha, hb => by
    have ha' := List.pairwise_cons.mp ha
    have hb' := List.pairwise_cons.mp hb
    have hx : x ∈ y :: b := p.subset (by simp)
    have hy : y ∈ x :: a := p.symm.subset (by simp)
    have e : x = y := by
      rcases List.mem_cons.mp hx with e | hx
      · exact e
      · rcases List.mem_cons.mp hy with e | hy
        · exact e.symm
        · have := ha'.1 y hy
          have := hb'.1 x hx
          omega
    subst e
    rw [sorted_one (List.Perm.cons_inv p) ha'.2 hb'.2]
theorem merge_srt (l : List Int) : (l.mergeSort fun a b => decide (a ≤ b)).Pairwise (· ≤ ·) := by
  have h := List.pairwise_mergeSort (le := fun a b : Int => decide (a ≤ b)) (fun a b c h1 h2 => by simp at *; omega) (fun a b => by simp; omega) l
  exact h.imp fun h => of_decide_eq_true h
theorem sort_steps {ms l : List Int} {u : Nat} (p : ms.Perm ((u : Int) :: l)) (s : ms.Pairwise (· ≤ ·)) : ms = stepsF l u :=
  sorted_one (p.trans (List.mergeSort_perm _ _).symm) s (merge_srt _)
theorem tab_at {n c : Nat} {L : Psg} {b : Nat} (hb : b < c) : atI (tabF n c L) (b : Int) = some ((List.range n).map fun u => rowF n (L b u)) := by
  rw [atI_at (by omega) (by simp [tabF]; omega)]
  simp [tabF, hb]
theorem row_at {n : Nat} {f : Nat → List Int} {u : Nat} (hu : u < n) : atI ((List.range n).map f) (u : Int) = some (f u) := by
  rw [atI_at (by omega) (by simp; omega)]
  simp [hu]
theorem steps_tab {n c : Nat} {L : Psg} : stepsT (tabF n c L) = (List.range c).map fun b => (List.range n).map fun u => stepsF (rowF n (L b u)) u := by
  unfold stepsT tabF
  rw [List.map_map]
  apply List.map_congr_left
  intro b _
  show ((List.range n).map fun u => rowF n (L b u)).zipIdx.map (fun q => stepsF q.1 q.2) = _
  apply List.ext_getElem?
  intro i
  rw [List.getElem?_map, List.getElem?_zipIdx, List.getElem?_map, List.getElem?_map]
  by_cases hi : i < n
  · simp [hi]
  · simp [hi]
theorem p_nexts_at (xc : XC) (ds : List D) (Q : Bool → D → Prop) (h : wf_nexts_at xc ds Q) : b_nexts_at (Zd xc Q) (ds.map .da ++ List.replicate (5 - ds.length) .no) := by
  obtain ⟨kvs, b, n, rfl, hn, q⟩ := h
  have hs := sizeLine_eq
  simp [b_nexts_at]
  refine ⟨by omega, ?_⟩
  refine lc_rng0 n (fun u => tI (rowF n fun v : Nat => hasD kvs [.inl (b : Int), .inl (u : Int), .inl (v : Int)])) (fun u hu k1 h1 => ?_) (by omega) ?_
  · simp
    refine ⟨by omega, ?_⟩
    refine lc_rng0F n (fun v => hasD kvs [.inl (b : Int), .inl (u : Int), .inl (v : Int)]) (fun v => .int (v : Nat)) (fun v hv k1 k2 h1 h2 => ?_) (by omega) ?_
    · simp [wInT]
      refine ⟨by omega, [.inl (b : Int), .inl (u : Int), .inl (v : Int)], rfl, ?_⟩
      cases hv : hasD kvs [.inl (b : Int), .inl (u : Int), .inl (v : Int)] with
      | true => simpa using h1 hv
      | false => simpa using h2 hv
    · simpa [tI, rowF, Function.comp_def] using h1
  · simpa [t2, Function.comp_def] using q
theorem p_steps_of (xc : XC) (ds : List D) (Q : Bool → D → Prop) (h : wf_steps_of xc ds Q) : b_steps_of (Zd xc Q) (ds.map .da ++ List.replicate (3 - ds.length) .no) := by
  obtain ⟨nx, rfl, h4, hr, q⟩ := h
  have hs := sizeLine_eq
  simp [b_steps_of]
  refine lc_of nx t2 (fun r => t2 (r.zipIdx.map fun q => stepsF q.1 q.2)) (fun r hm k1 h1 => ?_) (by omega) ?_
  · obtain ⟨h8, hl⟩ := hr r hm
    simp
    refine ⟨by omega, ?_⟩
    refine lc_rng0 r.length (fun u => tI (stepsF (r.getD u []) u)) (fun u hu k1 h1 => ?_) (by omega) ?_
    · have hg : atI r (u : Int) = some r[u] := by rw [atI_at (by omega) (by omega)]; simp [hu]
      simp [waStar]
      refine ⟨_, hg, r[u].map .int, .inl rfl, by have := hl _ (List.getElem_mem hu); simp; omega, ((u : Int) :: r[u]), by simp, fun ms hp hs => ?_⟩
      have e := sort_steps hp hs
      rw [e]
      simpa [hu, tI] using h1
    · have e : (List.range r.length).map (fun u => tI (stepsF (r.getD u []) u)) = (r.zipIdx.map fun q => stepsF q.1 q.2).map tI := by
        apply List.ext_getElem?
        intro i
        by_cases hi : i < r.length
        · simp [hi]
        · simp [hi]
      rw [e]
      exact h1
  · simpa [t3, stepsT, Function.comp_def] using q
end Tw.S

namespace Tw.S
open PySem PySem.Spec L2 PyProof.Rows Tw
@[simp] theorem tru_tI {l : List Int} : D.tru (tI l) = some (!l.isEmpty) := by
  unfold tI
  simp
theorem foldl_flat {α β : Type} (f : α → List β) : ∀ (l : List α) (i : List β), l.foldl (fun a x => a ++ f x) i = i ++ l.flatMap f
  | [], i => by simp
  | x :: l, i => by rw [List.foldl_cons, foldl_flat f l]; simp
theorem fold_count (l : List Nat) (i : Nat) : l.foldl (fun m _ => m + 1) i = i + l.length := by
  induction l generalizing i with
  | nil => rfl
  | cons x l ih => rw [List.foldl_cons, ih]; simp; omega
theorem foldl_map_app {α β : Type} (f : α → β) : ∀ (l : List α) (i : List β), l.foldl (fun a x => a ++ [f x]) i = i ++ l.map f
  | [], i => by simp
  | x :: l, i => by rw [List.foldl_cons, foldl_map_app f l]; simp
def cutA {α : Type} (l : List α) (lo hi : Option Int) : List α := (l.drop (HT.sIx l.length 0 lo)).take (HT.sIx l.length l.length hi - HT.sIx l.length 0 lo)
theorem cutD_map {α : Type} {f : α → D} {l : List α} {lo hi : Option Int} : cutD (l.map f) lo hi = (cutA l lo hi).map f := by
  unfold cutD cutA
  rw [List.length_map, List.map_take, List.map_drop]
def r_draws : Ws := (sSeq (sSetO 4 (wLst waNil))
  (sSeq (sIf (wB (w2 oGe (wVar 3) (w2 oPow (wC (.int 10)) (wC (.int 18)))))
  (sSeq (sSet 3 (w2 oSub (wVar 3) (w2 oPow (wC (.int 10)) (wC (.int 18)))))
  (sSeq (sFor (wiR1 (wVar 2)) (gSet 5)
  (sSeq (sApp 4 (w2 oMod (wN oInt (waCons (wVar 3) waNil)) (wC (.int 1000))))
  (sSet 3 (w2 oDiv (wN oInt (waCons (wVar 3) waNil)) (wC (.int 1000))))))
  (sRetO 4)))
  sNil)
  (sSeq (sSet 6 (w2 oPlus (wVar 3) (w2 oMul (w2 oPlus (wVar 1) (wC (.int 1))) (wC (.int 7919)))))
  (sSeq (sFor (wiS (wSl oSl (wVar 0) woN (woS (wC (.int 6))))) (gSet 7)
  (sSet 6 (w2 oMod (wN oInt (waCons (w2 oPlus (w2 oMul (wVar 6) (wC (.int 31))) (wN oAbs (waCons (wVar 7) waNil))) waNil)) (wC (.int 2147483647)))))
  (sSeq (sFor (wiR1 (wVar 2)) (gSet 5)
  (sSeq (sSet 8 (w2 oMod (wN oInt (waCons (w2 oPlus (w2 oMul (wVar 6) (wC (.int 48271))) (w2 oMul (w2 oPlus (wVar 5) (wC (.int 1))) (wC (.int 16807)))) waNil)) (wC (.int 2147483647))))
  (sSeq (sSet 9 (w2 oMod (wN oInt (waCons (w2 oPlus (w2 oMul (wVar 8) (wVar 8)) (wVar 5)) waNil)) (wC (.int 2147483629))))
  (sSeq (sSet 10 (w2 oMod (wN oInt (waCons (w2 oPlus (w2 oMul (wVar 9) (wVar 9)) (wVar 8)) waNil)) (wC (.int 2147483587))))
  (sApp 4 (w2 oMod (w2 oDiv (wVar 10) (wC (.int 7))) (wC (.int 1000))))))))
  (sRetO 4))))))
theorem pre_lt {n : Nat} {pre post : List Nat} {i : Nat} (e : List.range n = pre ++ i :: post) : pre.length + 1 ≤ n := by
  have := congrArg List.length e
  simp at this
  omega
theorem p_law_draws (xc : XC) (ds : List D) (Q : Bool → D → Prop) (h : wf_law_draws xc ds Q) : b_law_draws (Zd xc Q) (ds.map .da ++ List.replicate (11 - ds.length) .no) := by
  obtain ⟨sc, k, n, rfl, hsc, hk, hn, q⟩ := h
  have hs := sizeLine_eq
  have cp : CPow 10 18 := ⟨by omega, by omega, by decide⟩
  have fin : ∀ (num : Int), r_draws (Zd xc Q) [Sl.da (.fls (sc.map .int)), Sl.da (.int k), Sl.da (.int n), Sl.da (.int num), Sl.no, Sl.no, Sl.no, Sl.no, Sl.no, Sl.no, Sl.no] := by
    intro num
    simp [r_draws, cp, sFor]
    by_cases hb : (1000000000000000000 : Int) ≤ num
    · refine .inr ⟨hb, by omega, ?_⟩
      refine for_fold (List.range n) (fun i => .int (0 + (i : Nat))) (fun m _ => m + 1) (fun m ρ => ∃ (acc : List Int) (v : Int) (a : Sl), ρ = [Sl.da (.fls (sc.map .int)), Sl.da (.int k), Sl.da (.int n), Sl.da (.int v), Sl.ow (.lst (acc.map .int)), a, Sl.no, Sl.no, Sl.no, Sl.no, Sl.no] ∧ acc.length = m ∧ ∀ x ∈ acc, 0 ≤ x ∧ x < 1000) 0 (fun pre i post ρ N e ⟨acc, v, a1, er, el, eb⟩ hN => ?_) ⟨[], _, _, rfl, rfl, by simp⟩ fun ρ ⟨acc, v, a1, er, el, eb⟩ => ?_
      · subst er
        rw [fold_count, Nat.zero_add] at hN el
        have hp := pre_lt e
        have cd : CDiv v 1000 := ⟨by omega, by omega⟩
        simp [sApp, cd]
        refine ⟨by omega, hN _ ⟨acc ++ [v % 1000], v / 1000, Sl.da (.int i), by simp, by simp; omega, fun x hx => ?_⟩⟩
        rcases List.mem_append.mp hx with hx | hx
        · exact eb x hx
        · simp at hx
          subst hx
          omega
      · subst er
        rw [fold_count, Nat.zero_add] at el
        simp [sRetO]
        exact q acc (by simpa using el) eb
    · refine .inl ⟨by omega, ?_⟩
      have cm : CMul ((k : Int) + 1) 7919 := .inr ⟨by omega, by omega⟩
      simp [cm, wSl, woN, woS, cutD_map]
      refine for_fold (cutA sc none (some 6)) D.int (fun (m : Unit) _ => ()) (fun m ρ => ∃ (t : Int) (a : Sl), ρ = [Sl.da (.fls (sc.map .int)), Sl.da (.int k), Sl.da (.int n), Sl.da (.int num), Sl.ow (.lst []), Sl.no, Sl.da (.int t), a, Sl.no, Sl.no, Sl.no]) () (fun pre c post ρ N e ⟨t, a1, er⟩ hN => ?_) ⟨_, _, rfl⟩ fun ρ ⟨t, a1, er⟩ => ?_
      · subst er
        have cm2 : CMul t 31 := .inr ⟨by omega, by omega⟩
        simp [cm2]
        exact hN _ ⟨_, _, rfl⟩
      · subst er
        simp [sFor]
        refine ⟨by omega, ?_⟩
        refine for_fold (List.range n) (fun i => .int (0 + (i : Nat))) (fun m _ => m + 1) (fun m ρ => ∃ (acc : List Int) (a b c d : Sl), ρ = [Sl.da (.fls (sc.map .int)), Sl.da (.int k), Sl.da (.int n), Sl.da (.int num), Sl.ow (.lst (acc.map .int)), a, Sl.da (.int t), a1, b, c, d] ∧ acc.length = m ∧ ∀ x ∈ acc, 0 ≤ x ∧ x < 1000) 0 (fun pre i post ρ N e ⟨acc, b1, b2, b3, b4, er, el, eb⟩ hN => ?_) ⟨[], _, _, _, _, rfl, rfl, by simp⟩ fun ρ ⟨acc, b1, b2, b3, b4, er, el, eb⟩ => ?_
        · subst er
          rw [fold_count, Nat.zero_add] at hN el
          have hp := pre_lt e
          have hi : i < n := List.mem_range.mp (by rw [e]; simp)
          have c1 : CMul t 48271 := .inr ⟨by omega, by omega⟩
          have c2 : CMul ((i : Int) + 1) 16807 := .inr ⟨by omega, by omega⟩
          simp [c1, c2]
          generalize (t * 48271 + ((i : Int) + 1) * 16807) = u
          have c3 : CMul (u % 2147483647) (u % 2147483647) := .inr ⟨by omega, by omega⟩
          simp [c3]
          generalize (u % 2147483647 * (u % 2147483647) + (i : Int)) = u2
          have c4 : CMul (u2 % 2147483629) (u2 % 2147483629) := .inr ⟨by omega, by omega⟩
          simp [c4, sApp]
          generalize (u2 % 2147483629 * (u2 % 2147483629) + u % 2147483647) = u3
          have c5 : CDiv (u3 % 2147483587) 7 := ⟨by omega, by omega⟩
          simp [c5]
          refine ⟨by omega, hN _ ⟨acc ++ [u3 % 2147483587 / 7 % 1000], _, _, _, _, by simp; exact ⟨rfl, rfl, rfl, rfl⟩, by simp; omega, fun x hx => ?_⟩⟩
          rcases List.mem_append.mp hx with hx | hx
          · exact eb x hx
          · simp at hx
            subst hx
            omega
        · subst er
          rw [fold_count, Nat.zero_add] at el
          simp [sRetO]
          exact q acc (by simpa using el) eb
  have eb : b_law_draws = sSeq (sSet 3 (wC (.int 0))) (sSeq (sIf (wB (w2 oLt (wVar 1) (wN oLen (waCons (wVar 0) waNil)))) (sSet 3 (wN oAbs (waCons (w2 oIx (wVar 0) (wVar 1)) waNil))) sNil) r_draws) := rfl
  rw [eb]
  simp
  by_cases hk : k < sc.length
  · refine .inr ⟨hk, ?_⟩
    refine ⟨_, ⟨_, atI_int (by omega) (by omega), rfl⟩, ?_⟩
    simp
    exact fin _
  · exact .inl ⟨by omega, fin 0⟩
end Tw.S

namespace Tw.S
open PySem PySem.Spec L2 PyProof.Rows Tw
theorem ll_eq : letters.cps.toList = (List.range 26).map fun i => 97 + i := by decide +kernel
theorem ll_len : letters.length = 26 := by decide +kernel
theorem ll_at {i : Int} (h0 : 0 ≤ i) (h : i < 26) : atI letters.cps.toList i = some (97 + i.toNat) := by
  have hl : letters.cps.toList.length = 26 := by rw [ll_eq]; simp
  rw [atI_at h0 (by omega), ll_eq]
  have : i.toNat < 26 := by omega
  simp [this]
theorem mul_list (c : Nat) (n : Nat) (h : n ≤ 7) : (Txt.mul ⟨#[c]⟩ (n : Int)).cps.toList = List.replicate n c := by
  match n, h with
  | 0, _ => rfl
  | 1, _ => rfl
  | 2, _ => rfl
  | 3, _ => rfl
  | 4, _ => rfl
  | 5, _ => rfl
  | 6, _ => rfl
  | 7, _ => rfl
  | n + 8, h => omega
theorem mul_len (c : Nat) (n : Nat) (h : n ≤ 7) : (Txt.mul ⟨#[c]⟩ (n : Int)).length = n := by
  have := congrArg List.length (mul_list c n h)
  simpa [Str.length] using this
theorem mul_ok0 : ∀ n : Nat, n ≤ 7 → MulOk ⟨#[0]⟩ (n : Int) := by
  intro n h
  match n, h with
  | 0, _ => exact ⟨rfl, fun h => absurd (by decide) h, fun h => absurd (by decide) h⟩
  | 1, _ => exact ⟨rfl, fun _ h => absurd h (by decide), fun _ h => absurd h (by decide)⟩
  | 2, _ => exact ⟨rfl, fun _ _ => by decide, fun _ _ => by decide +kernel⟩
  | 3, _ => exact ⟨rfl, fun _ _ => by decide, fun _ _ => by decide +kernel⟩
  | 4, _ => exact ⟨rfl, fun _ _ => by decide, fun _ _ => by decide +kernel⟩
  | 5, _ => exact ⟨rfl, fun _ _ => by decide, fun _ _ => by decide +kernel⟩
  | 6, _ => exact ⟨rfl, fun _ _ => by decide, fun _ _ => by decide +kernel⟩
  | 7, _ => exact ⟨rfl, fun _ _ => by decide, fun _ _ => by decide +kernel⟩
  | n + 8, h => omega
theorem mul_ok (c : Nat) (n : Nat) (h : n ≤ 7) : MulOk ⟨#[c]⟩ (n : Int) := mul_ok0 n h
def nmS (c spot rest d : Nat) : Str := Txt.mul ⟨#[c]⟩ (spot : Int) ++ ⟨#[d]⟩ ++ Txt.mul ⟨#[c]⟩ (rest : Int)
theorem nm_list {c spot rest d : Nat} (h1 : spot ≤ 7) (h2 : rest ≤ 7) : (nmS c spot rest d).cps.toList = List.replicate spot c ++ [d] ++ List.replicate rest c := by
  unfold nmS
  show (((Txt.mul ⟨#[c]⟩ (spot : Int)).cps ++ #[d]) ++ (Txt.mul ⟨#[c]⟩ (rest : Int)).cps).toList = _
  rw [Array.toList_append, Array.toList_append, mul_list c spot h1, mul_list c rest h2]
theorem nm_inj {c spot rest d d' : Nat} (h1 : spot ≤ 7) (h2 : rest ≤ 7) (h : nmS c spot rest d = nmS c spot rest d') : d = d' := by
  have e := congrArg (fun z : Str => z.cps.toList) h
  simp only [nm_list h1 h2] at e
  have e2 := congrArg (fun l => l[spot]?) e
  simpa using e2
theorem nm_name {c spot rest d : Nat} (h : spot + rest ≤ 7) (hc : c < 26) (hd : d < 26) : isName (nmS (97 + c) spot rest (97 + d)) = true := by
  have hl := nm_list (c := 97 + c) (spot := spot) (rest := rest) (d := 97 + d) (by omega) (by omega)
  have hlen : (nmS (97 + c) spot rest (97 + d)).length = spot + 1 + rest := by
    have := congrArg List.length hl
    simp [Str.length] at this ⊢
    omega
  have hm : ∀ x, x < 26 → 97 + x ∈ letters.cps.toList := fun x hx => by rw [ll_eq]; exact List.mem_map.mpr ⟨x, List.mem_range.mpr hx, rfl⟩
  unfold isName
  rw [hlen, hl]
  simp only [Bool.and_eq_true, decide_eq_true_eq, List.all_eq_true]
  refine ⟨⟨by omega, by omega⟩, fun x hx => ?_⟩
  simp at hx
  rcases hx with ⟨_, rfl⟩ | rfl | ⟨_, rfl⟩
  · exact hm c hc
  · exact hm d hd
  · exact hm c hc
theorem nodup_map {α β : Type} {f : α → β} : ∀ {l : List α}, l.Nodup → (∀ x ∈ l, ∀ y ∈ l, f x = f y → x = y) → (l.map f).Nodup
  | [], _, _ => by simp
  | x :: l, hn, h => by
    rw [List.map_cons, List.nodup_cons]
    rw [List.nodup_cons] at hn
    refine ⟨fun hm => ?_, nodup_map hn.2 fun a ha b hb e => h a (by simp [ha]) b (by simp [hb]) e⟩
    obtain ⟨y, hy, e⟩ := List.mem_map.mp hm
    have := h y (by simp [hy]) x (by simp) e
    subst this
    exact hn.1 hy
def r_names : Ws := (sSeq (sSet 5 (w2 oIx (wVar 3) (w2 oMod (wN oInt (waCons (w2 oIx (wVar 0) (w2 oPlus (wVar 1) (wC (.int 1)))) waNil)) (wC (.int 26)))))
  (sSeq (sSet 6 (w2 oMod (w2 oDiv (wN oInt (waCons (w2 oIx (wVar 0) (w2 oPlus (wVar 1) (wC (.int 1)))) waNil)) (wC (.int 26))) (w2 oPlus (wVar 4) (wC (.int 1)))))
  (sSeq (sSet 7 (w2 oPlus (wC (.int 1)) (w2 oMod (wN oInt (waCons (w2 oIx (wVar 0) (w2 oPlus (wVar 1) (wC (.int 2)))) waNil)) (wC (.int 3)))))
  (sSeq (sSet 8 (w2 oMod (w2 oDiv (wN oInt (waCons (w2 oIx (wVar 0) (w2 oPlus (wVar 1) (wC (.int 2)))) waNil)) (wC (.int 3))) (wC (.int 26))))
  (sSeq (sSetO 9 (wLst waNil))
  (sSeq (sFor (wiR1 (wVar 2)) (gSet 10)
  (sSeq (sSet 11 (w2 oIx (wVar 3) (w2 oMod (w2 oPlus (w2 oMul (wVar 10) (wVar 7)) (wVar 8)) (wC (.int 26)))))
  (sApp 9 (w2 oPlus (w2 oPlus (w2 oMul (wVar 5) (wVar 6)) (wVar 11)) (w2 oMul (wVar 5) (w2 oSub (wVar 4) (wVar 6)))))))
  (sRetO 9)))))))
theorem p_law_names (xc : XC) (ds : List D) (Q : Bool → D → Prop) (h : wf_law_names xc ds Q) : b_law_names (Zd xc Q) (ds.map .da ++ List.replicate (12 - ds.length) .no) := by
  obtain ⟨l, at_, n, rfl, hb, hat, hn1, hn8, q⟩ := h
  have hs := sizeLine_eq
  have hx : ∀ i : Nat, i < l.length → ∃ x, atI l (i : Int) = some x ∧ 0 ≤ x ∧ x < 1000 := fun i hi => by
    refine ⟨l[i], ?_, hb _ (List.getElem_mem hi)⟩
    rw [atI_at (by omega) (by omega)]; simp [hi]
  obtain ⟨x0, e0, a0, b0⟩ := hx at_ (by omega)
  obtain ⟨x1, e1, a1, b1⟩ := hx (at_ + 1) (by omega)
  obtain ⟨x2, e2, a2, b2⟩ := hx (at_ + 2) (by omega)
  have c1 : ((at_ + 1 : Nat) : Int) = (at_ : Int) + 1 := by omega
  have c2 : ((at_ + 2 : Nat) : Int) = (at_ : Int) + 2 := by omega
  rw [c1] at e1
  rw [c2] at e2
  have d8 : CDiv x0 8 := ⟨by omega, by omega⟩
  have d26 : CDiv x1 26 := ⟨by omega, by omega⟩
  have d3 : CDiv x2 3 := ⟨by omega, by omega⟩
  have el : (Str.ofString "abcdefghijklmnopqrstuvwxyz") = letters := rfl
  have eb : b_law_names = sSeq (sSet 3 (wC (.str letters))) (sSeq (sSet 4 (wC (.int 0))) (sSeq (sIf (wB (w2 oEq (w2 oMod (w2 oDiv (wN oInt (waCons (w2 oIx (wVar 0) (wVar 1)) waNil)) (wC (.int 8))) (wC (.int 2))) (wC (.int 1)))) (sSet 4 (w2 oMod (wN oInt (waCons (w2 oIx (wVar 0) (wVar 1)) waNil)) (wC (.int 8)))) sNil) r_names)) := rfl
  have main : ∀ extra : Nat, extra ≤ 7 → r_names (Zd xc Q) [Sl.da (iL l), Sl.da (.int at_), Sl.da (.int n), Sl.da (.str letters), Sl.da (.int extra), Sl.no, Sl.no, Sl.no, Sl.no, Sl.no, Sl.no, Sl.no] := by
    intro extra hex
    have hll := ll_len
    obtain ⟨f, hf⟩ : ∃ f : Nat, x1 % 26 = f := ⟨(x1 % 26).toNat, by omega⟩
    obtain ⟨spot, hsp⟩ : ∃ f : Nat, x1 / 26 % ((extra : Int) + 1) = f := ⟨(x1 / 26 % ((extra : Int) + 1)).toNat, by
      have := Int.emod_nonneg (x1 / 26) (show ((extra : Int) + 1) ≠ 0 by omega)
      omega⟩
    have hspl : spot ≤ extra := by
      have := Int.emod_lt_of_pos (x1 / 26) (show (0 : Int) < (extra : Int) + 1 by omega)
      omega
    obtain ⟨stride, hst⟩ : ∃ f : Nat, 1 + x2 % 3 = f := ⟨(1 + x2 % 3).toNat, by omega⟩
    obtain ⟨shift, hsh⟩ : ∃ f : Nat, x2 / 3 % 26 = f := ⟨(x2 / 3 % 26).toNat, by omega⟩
    have p1 : (0 : Int) < (extra : Int) + 1 := by omega
    have hfl : atI letters.cps.toList (x1 % 26) = some (97 + f) := by rw [ll_at (by omega) (by omega), hf]; simp
    have hz : letters.length ≤ sizeLine := by omega
    simp [r_names, e1, e2, d26, d3, hz, hfl, p1, sFor]
    rw [hsp, hst, hsh]
    refine ⟨by omega, ?_⟩
    have hs1 : 1 ≤ stride ∧ stride ≤ 3 := by omega
    have hsh26 : shift < 26 := by omega
    let nm : Nat → Str := fun i => nmS (97 + f) spot (extra - spot) (97 + (i * stride + shift) % 26)
    refine for_fold (List.range n) (fun i => .int (0 + (i : Nat))) (fun acc i => acc ++ [nm i]) (fun acc ρ => ∃ a b : Sl, ρ = [Sl.da (iL l), Sl.da (D.int at_), Sl.da (D.int n), Sl.da (D.str letters), Sl.da (D.int extra), Sl.da (D.str ⟨#[97 + f]⟩), Sl.da (D.int spot), Sl.da (D.int stride), Sl.da (D.int shift), Sl.ow (D.lst (acc.map .str)), a, b]) [] (fun pre i post ρ N e ⟨a1, a2, er⟩ hN => ?_) ⟨_, _, rfl⟩ fun ρ ⟨a1, a2, er⟩ => ?_
    · subst er
      rw [foldl_map_app, List.nil_append] at hN ⊢
      have hp := pre_lt e
      have hi : i < n := List.mem_range.mp (by rw [e]; simp)
      have hacc : (pre.map nm).length = pre.length := by simp
      generalize pre.map nm = acc at *
      have cm : CMul (i : Int) stride := .inr ⟨by omega, by omega⟩
      have ei : ((i : Int) * stride + shift) % 26 = (((i * stride + shift) % 26 : Nat) : Int) := by
        rw [Int.natCast_emod, Int.natCast_add, Int.natCast_mul]; rfl
      have hlt : (i * stride + shift) % 26 < 26 := Nat.mod_lt _ (by omega)
      have hl2 : atI letters.cps.toList (((i * stride + shift) % 26 : Nat) : Int) = some (97 + (i * stride + shift) % 26) := by rw [ll_at (by omega) (by omega), Int.toNat_natCast]
      have er : (extra : Int) - spot = ((extra - spot : Nat) : Int) := by omega
      simp [sApp, cm]
      rw [ei]
      refine ⟨hz, _, hl2, mul_ok _ _ (by omega), ?_⟩
      have l1 := mul_len (97 + f) spot (by omega)
      have l2 := mul_len (97 + f) (extra - spot) (by omega)
      have l3 : ∀ d : Nat, (⟨#[d]⟩ : Str).length = 1 := fun _ => rfl
      have l4 : ∀ a b : Str, (a ++ b).length = a.length + b.length := fun a b => by show (a.cps ++ b.cps).size = _; rw [Array.size_append]; rfl
      rw [er, l1, l3]
      refine ⟨by omega, mul_ok _ _ (by omega), ?_⟩
      rw [l4, l1, l2, l3]
      refine ⟨by omega, by omega, ?_⟩
      refine hN _ ⟨Sl.da (.int i), Sl.da (.str ⟨#[97 + (i * stride + shift) % 26]⟩), ?_⟩
      simp [nm, nmS]
    · subst er
      rw [foldl_map_app, List.nil_append]
      simp [sRetO]
      have hq := q ((List.range n).map nm) (by simp) ⟨by simp; omega, by simp; omega, fun x hx => ?_, nodup_map List.nodup_range fun x hx y hy exy => ?_⟩
      · simpa [sL, Function.comp_def] using hq
      · obtain ⟨i, _, rfl⟩ := List.mem_map.mp hx
        exact nm_name (by omega) (by omega) (Nat.mod_lt _ (by omega))
      · have h1 := nm_inj (by omega) (by omega) exy
        have hx' := List.mem_range.mp hx
        have hy' := List.mem_range.mp hy
        obtain ⟨s1, s2⟩ := hs1
        have : stride = 1 ∨ stride = 2 ∨ stride = 3 := by omega
        rcases this with rfl | rfl | rfl <;> omega
  rw [eb]
  simp [e0, d8]
  by_cases h1 : x0 / 8 % 2 = 1
  · refine .inr ⟨h1, ?_⟩
    have := main (x0 % 8).toNat (by omega)
    have ec : (((x0 % 8).toNat : Nat) : Int) = x0 % 8 := by omega
    rw [ec] at this
    exact this
  · exact .inl ⟨h1, main 0 (by omega)⟩
end Tw.S

namespace Tw.S
open PySem PySem.Spec L2 PyProof.Rows Tw
theorem has_put (kvs : List (List Key × D)) (k k' : List Key) (d : D) : hasD (putDk kvs k d) k' = (hasD kvs k' || decide (k = k')) := by
  unfold putDk
  by_cases h : hasD kvs k = true
  · rw [if_pos h]
    have e : hasD (kvs.map fun kv => if kv.1 = k then (kv.1, d) else kv) k' = hasD kvs k' := by
      unfold hasD
      rw [List.any_map]
      congr 1
      funext kv
      show decide ((if kv.1 = k then (kv.1, d) else kv).1 = k') = decide (kv.1 = k')
      split <;> rfl
    rw [e]
    by_cases hk : k = k'
    · subst hk; simp [h]
    · simp [hk]
  · rw [if_neg h]
    unfold hasD
    rw [List.any_append]
    simp
theorem put_len (kvs : List (List Key × D)) (k : List Key) (d : D) : (putDk kvs k d).length ≤ kvs.length + 1 := by
  unfold putDk
  split <;> simp
def tl (t : Tie) (bs : List Int) (b : Int) (u v : Str) : Bool := decide (b ∈ bs) && ((t.a == u && t.b == v) || (t.b == u && t.a == v && t.w == "two"))
theorem name_eq {names : List Str} (hn : names.Nodup) {i u : Nat} (hi : i < names.length) (hu : u < names.length) : (names[i] == names.getD u "") = decide (i = u) := by
  have e : names.getD u "" = names[u] := by simp [hu]
  rw [e]
  by_cases h : i = u
  · subst h; simp
  · have : ¬ names[i] = names[u] := fun z => h ((List.getElem_inj hn).mp z)
    simp [h, this]
theorem p_nexts_of (xc : XC) (ds : List D) (Q : Bool → D → Prop) (h : wf_nexts_of xc ds Q) : b_nexts_of (Zd xc Q) (ds.map .da ++ List.replicate (12 - ds.length) .no) := by
  obtain ⟨tt, names, ts, c, rfl, hn, ht, h1, h4, q⟩ := h
  have hs := sizeLine_eq
  have hi8 := hn.hi
  let H (kvs : List (List Key × D)) (f : Int → Nat → Nat → Bool) : Prop := ∀ (b : Int) (u v : Nat), u < names.length → v < names.length → hasD kvs [.inl b, .inl (u : Int), .inl (v : Int)] = f b u v
  simp [b_nexts_of, sFor]
  refine for_fold ts tieD (fun (pre : List Tie) t => pre ++ [t]) (fun pre ρ => ∃ (kvs : List (List Key × D)) (a b d e f g i j : Sl), ρ = [Sl.da (.xtp (names.map .str)), Sl.da (qD tt (ts.map tieD)), Sl.da (.int c), Sl.ow (.dT kvs), a, b, d, e, f, g, i, j] ∧ kvs.length ≤ 8 * pre.length ∧ H kvs (fun b u v => leads pre b (names.getD u "") (names.getD v ""))) [] (fun pre t post ρ N e ⟨kvs, a1, a2, a3, a4, a5, a6, a7, a8, er, el, eh⟩ hN => ?_) ⟨[], _, _, _, _, _, _, _, _, rfl, by simp, fun b u v _ _ => rfl⟩ fun ρ ⟨kvs, a1, a2, a3, a4, a5, a6, a7, a8, er, el, eh⟩ => ?_
  · subst er
    have ep : ∀ (l : List Tie) (i : List Tie), l.foldl (fun p t => p ++ [t]) i = i ++ l := by
      intro l
      induction l with
      | nil => intro i; simp
      | cons x l ih => intro i; rw [List.foldl_cons, ih]; simp
    rw [ep, List.nil_append] at hN el eh
    have hm : t ∈ ts := by rw [e]; simp
    have ok := ht.ok t hm
    have hle := ht.le
    have hpre : pre.length + 1 ≤ ts.length := by rw [e]; simp
    obtain ⟨i, hi, ei⟩ := List.mem_iff_getElem.mp ok.a
    obtain ⟨j, hj, ej⟩ := List.mem_iff_getElem.mp ok.b
    have hlen : t.at_.length ≤ 4 := Nat.le_trans (set_len ok.at_) h4
    have first : ∀ (k : Nat) (hk : k < names.length) (m : Nat), m < k → names[m]? ≠ some names[k] := fun k hk m hmk z => by
      have hml : m < names.length := by omega
      rw [List.getElem?_eq_getElem hml] at z
      have := (List.getElem_inj hn.nd).mp (Option.some.inj z)
      omega
    simp [tieD, gTupD, gsCons, gsNil, wIdxT, sFor]
    refine ⟨_, _, ⟨rfl, rfl⟩, _, _, rfl, _, _, rfl, _, _, rfl, rfl, ?_⟩
    have gi : names[i]? = some t.a := by rw [List.getElem?_eq_getElem hi, ei]
    have gj : names[j]? = some t.b := by rw [List.getElem?_eq_getElem hj, ej]
    refine ⟨names, rfl, t.a, rfl, i, gi, fun m hm => by rw [← ei]; exact first i hi m hm, names, rfl, t.b, rfl, j, gj, fun m hm => by rw [← ej]; exact first j hj m hm, _, rfl, ?_⟩
    refine for_fold t.at_ D.int (fun (pb : List Int) x => pb ++ [x]) (fun pb ρ => ∃ (kvs2 : List (List Key × D)) (d f : Sl), ρ = [Sl.da (.xtp (names.map .str)), Sl.da (qD tt (ts.map tieD)), Sl.da (.int c), Sl.ow (.dT kvs2), Sl.da (.str t.a), Sl.da (.str t.b), Sl.da (.str t.w), Sl.da (tI t.at_), Sl.da (.int i), Sl.da (.int j), d, f] ∧ kvs2.length ≤ kvs.length + 2 * pb.length ∧ H kvs2 (fun b u v => leads pre b (names.getD u "") (names.getD v "") || tl t pb b (names.getD u "") (names.getD v ""))) [] (fun pb x post2 ρ N2 e2 ⟨kvs2, d1, d2, er, el2, eh2⟩ hN2 => ?_) ⟨kvs, _, _, rfl, by simp, fun b u v hu hv => by rw [eh b u v hu hv]; simp [tl]⟩ fun ρ ⟨kvs2, d1, d2, er, el2, eh2⟩ => ?_
    · subst er
      have ep2 : ∀ (l : List Int) (i : List Int), l.foldl (fun p t => p ++ [t]) i = i ++ l := by
        intro l
        induction l with
        | nil => intro i; simp
        | cons x l ih => intro i; rw [List.foldl_cons, ih]; simp
      rw [ep2, List.nil_append] at hN2 el2 eh2
      have hpb : pb.length + 1 ≤ t.at_.length := by rw [e2]; simp
      simp [sPutT]
      refine ⟨[.inl x, .inl (i : Int), .inl (j : Int)], rfl, by omega, by omega, ?_⟩
      have pl1 := put_len kvs2 [.inl x, .inl (i : Int), .inl (j : Int)] (.bl true)
      have wo := word_ok ok.w
      have w2 : PyData.strOk "two" = true := by decide +kernel
      have stepH : ∀ (b : Int) (u v : Nat), u < names.length → v < names.length → tl t (pb ++ [x]) b (names.getD u "") (names.getD v "") = (tl t pb b (names.getD u "") (names.getD v "") || (decide (x = b) && (decide (i = u) && decide (j = v) || (decide (j = u) && decide (i = v) && t.w == "two")))) := fun b u v hu hv => by
        unfold tl
        rw [← ei, ← ej, name_eq hn.nd hi hu, name_eq hn.nd hj hv, name_eq hn.nd hj hu, name_eq hn.nd hi hv]
        have : decide (b ∈ pb ++ [x]) = (decide (b ∈ pb) || decide (x = b)) := by
          by_cases h1 : b ∈ pb <;> by_cases h2 : x = b <;> simp [h1, h2, eq_comm]
        rw [this, Bool.and_or_distrib_right]
      have kd : ∀ (p r : Nat) (b : Int) (u v : Nat), decide (([.inl x, .inl (p : Int), .inl (r : Int)] : List Key) = [.inl b, .inl (u : Int), .inl (v : Int)]) = (decide (x = b) && (decide (p = u) && decide (r = v))) := fun p r b u v => by
        by_cases h1 : x = b <;> by_cases h2 : p = u <;> by_cases h3 : r = v <;> simp [h1, h2, h3] <;> omega
      simp [oEq_s wo w2]
      by_cases hw : t.w = "two"
      · refine .inr ⟨hw, [.inl x, .inl (j : Int), .inl (i : Int)], rfl, by omega, by omega, ?_⟩
        have pl2 := put_len (putDk kvs2 [.inl x, .inl (i : Int), .inl (j : Int)] (.bl true)) [.inl x, .inl (j : Int), .inl (i : Int)] (.bl true)
        refine hN2 _ ⟨_, _, _, rfl, by simp; omega, fun b u v hu hv => ?_⟩
        dsimp only
        rw [has_put, has_put, eh2 b u v hu hv]
        dsimp only
        rw [stepH b u v hu hv, kd, kd, hw]
        generalize leads pre b (names.getD u "") (names.getD v "") = A
        generalize tl t pb b (names.getD u "") (names.getD v "") = B
        generalize decide (x = b) = C1
        generalize decide (i = u) = C2
        generalize decide (j = v) = C3
        generalize decide (j = u) = C4
        generalize decide (i = v) = C5
        have : (("two" : Str) == "two") = true := by decide
        rw [this]
        cases A <;> cases B <;> cases C1 <;> cases C2 <;> cases C3 <;> cases C4 <;> cases C5 <;> rfl
      · refine .inl ⟨hw, ?_⟩
        refine hN2 _ ⟨_, _, _, rfl, by simp; omega, fun b u v hu hv => ?_⟩
        have hw' : (t.w == ("two" : Str)) = false := by simpa using hw
        dsimp only
        rw [has_put, eh2 b u v hu hv]
        dsimp only
        rw [stepH b u v hu hv, kd, hw']
        generalize leads pre b (names.getD u "") (names.getD v "") = A
        generalize tl t pb b (names.getD u "") (names.getD v "") = B
        generalize decide (x = b) = C1
        generalize decide (i = u) = C2
        generalize decide (j = v) = C3
        generalize decide (j = u) = C4
        generalize decide (i = v) = C5
        cases A <;> cases B <;> cases C1 <;> cases C2 <;> cases C3 <;> cases C4 <;> cases C5 <;> rfl
    · subst er
      have ep2 : ∀ (l : List Int) (i : List Int), l.foldl (fun p t => p ++ [t]) i = i ++ l := by
        intro l
        induction l with
        | nil => intro i; simp
        | cons x l ih => intro i; rw [List.foldl_cons, ih]; simp
      rw [ep2, List.nil_append] at el2 eh2
      refine hN _ ⟨kvs2, _, _, _, _, _, _, _, _, rfl, by simp; omega, fun b u v hu hv => ?_⟩
      rw [eh2 b u v hu hv]
      dsimp only
      unfold leads
      rw [List.any_append]
      simp
      rfl
  · subst er
    have ep : ∀ (l : List Tie) (i : List Tie), l.foldl (fun p t => p ++ [t]) i = i ++ l := by
      intro l
      induction l with
      | nil => intro i; simp
      | cons x l ih => intro i; rw [List.foldl_cons, ih]; simp
    rw [ep, List.nil_append] at el eh
    simp [sFrz]
    refine ⟨by omega, ?_⟩
    refine lc_rng0 c (fun b => t2 ((List.range names.length).map fun u => rowF names.length (psgOf names ts b u))) (fun b hb k1 h1 => ?_) (by omega) ?_
    · simp
      refine ⟨kvs, b, names.length, rfl, hi8, ?_⟩
      have e3 : ((List.range names.length).map fun u : Nat => rowF names.length fun v : Nat => hasD kvs [.inl (b : Int), .inl (u : Int), .inl (v : Int)]) = (List.range names.length).map fun u => rowF names.length (psgOf names ts b u) := by
        apply List.map_congr_left
        intro u hu
        unfold rowF
        congr 1
        apply List.filter_congr
        intro v hv
        exact eh b u v (List.mem_range.mp hu) (List.mem_range.mp hv)
      rw [e3]
      exact h1
    · simpa [t3, nextsT, tabF, Function.comp_def] using q
end Tw.S

namespace Tw.S
open PySem PySem.Spec L2 PyProof.Rows Tw
theorem inc_climbs {l : List Nat} (h : l.Pairwise (· < ·)) : climbs (l.map fun i : Nat => (i : Int)) = true := by
  unfold climbs
  rw [List.all_eq_true]
  intro i hi
  have hi' := List.mem_range.mp hi
  simp at hi'
  have h1 : i < l.length := by omega
  have h2 : i + 1 < l.length := by omega
  have := List.pairwise_iff_getElem.mp h i (i + 1) h1 h2 (by omega)
  simp [h1, h2]
  omega
theorem beats_set (c : Nat) (p : Nat → Bool) : isSet (((List.range c).filter p).map fun i : Nat => (i : Int)) c = true := by
  unfold isSet
  rw [Bool.and_eq_true]
  refine ⟨?_, inc_climbs (List.Pairwise.filter p List.pairwise_lt_range)⟩
  rw [List.all_eq_true]
  intro x hx
  obtain ⟨i, hi, rfl⟩ := List.mem_map.mp hx
  have := List.mem_range.mp (List.mem_filter.mp hi).1
  simp
  omega
theorem cnt_app (z : Str) (a b : List Tie) : cnt z (a ++ b) = cnt z a + cnt z b := by
  unfold cnt
  rw [List.filter_append, List.length_append]
theorem cnt_le (z : Str) (a : List Tie) : cnt z a ≤ a.length := List.length_filter_le _ _
/-- a tie between these two -/
def On (x y : Str) (t : Tie) : Prop := (t.a = x ∨ t.a = y) ∧ (t.b = x ∨ t.b = y)
theorem cnt_off {z x y : Str} {l : List Tie} (h : ∀ t ∈ l, On x y t) (h1 : x ≠ z) (h2 : y ≠ z) : cnt z l = 0 := by
  unfold cnt
  rw [List.length_eq_zero_iff, List.filter_eq_nil_iff]
  intro t ht
  obtain ⟨ha, hb⟩ := h t ht
  simp
  constructor
  · rcases ha with e | e <;> rw [e] <;> assumption
  · rcases hb with e | e <;> rw [e] <;> assumption
theorem idx_strs : ∀ {names : List Str}, names.Nodup → ∀ {j : Nat} (hj : j < names.length), idxD (.str names[j]) (names.map .str) = some j
  | [], _, j, hj => by simp at hj
  | x :: names, hn, 0, hj => by
    simp [idxD, D.py, PyData.eqv]
  | x :: names, hn, j + 1, hj => by
    rw [List.nodup_cons] at hn
    have hj' : j < names.length := by simpa using hj
    have ih := idx_strs hn.2 hj'
    have hne : ¬ x = names[j] := fun z => hn.1 (z ▸ List.getElem_mem hj')
    simp [idxD, D.py, PyData.eqv, hne]
    exact ih
theorem p_law_table (xc : XC) (ds : List D) (Q : Bool → D → Prop) (h : wf_law_table xc ds Q) : b_law_table (Zd xc Q) (ds.map .da ++ List.replicate (12 - ds.length) .no) := by
  obtain ⟨names, ts, c, rfl, hn, ht, h1, h4, q⟩ := h
  have hs := sizeLine_eq
  have hi8 := hn.hi
  simp [b_law_table, sFor]
  refine ⟨by omega, ?_⟩
  let f : Nat → List (List Int) := fun b => (List.range names.length).map fun u => rowF names.length (psgOf names ts b u)
  refine for_fold (List.range c) (fun i => .int (0 + (i : Nat))) (fun acc b => acc ++ [f b]) (fun acc ρ => ∃ (s4 s5 s6 s7 s8 s9 s10 s11 : Sl), ρ = [Sl.da (sL names), Sl.da (tsL ts), Sl.da (.int c), Sl.ow (l3 acc), s4, s5, s6, s7, s8, s9, s10, s11]) [] (fun pre b post ρ N e ⟨s4, s5, s6, s7, s8, s9, s10, s11, er⟩ hN => ?_) ⟨_, _, _, _, _, _, _, _, rfl⟩ fun ρ ⟨s4, s5, s6, s7, s8, s9, s10, s11, er⟩ => ?_
  · subst er
    rw [foldl_map_app, List.nil_append] at hN ⊢
    have hp := pre_lt e
    have hlp : (pre.map f).length = pre.length := by simp
    generalize pre.map f = acc3 at *
    simp [sFor]
    refine ⟨by omega, ?_⟩
    let g : Nat → List Int := fun u => rowF names.length (psgOf names ts b u)
    refine for_fold (List.range names.length) (fun i => .int (0 + (i : Nat))) (fun acc u => acc ++ [g u]) (fun acc ρ => ∃ (s6 s7 s8 s9 s10 s11 : Sl), ρ = [Sl.da (sL names), Sl.da (tsL ts), Sl.da (.int c), Sl.ow (l3 acc3), Sl.da (.int b), Sl.ow (l2 acc), s6, s7, s8, s9, s10, s11]) [] (fun pre2 u post2 ρ N2 e2 ⟨s6, s7, s8, s9, s10, s11, er⟩ hN2 => ?_) ⟨_, _, _, _, _, _, rfl⟩ fun ρ ⟨s6, s7, s8, s9, s10, s11, er⟩ => ?_
    · subst er
      rw [foldl_map_app, List.nil_append] at hN2 ⊢
      have hp2 := pre_lt e2
      have hu : u < names.length := List.mem_range.mp (by rw [e2]; simp)
      have hlp2 : (pre2.map g).length = pre2.length := by simp
      generalize pre2.map g = acc2 at *
      simp [sFor, tsL]
      refine for_fold ts tieD (fun (pre : List Tie) t => pre ++ [t]) (fun pre ρ => ∃ (es : List Int) (s8 s9 s10 s11 : Sl), ρ = [Sl.da (sL names), Sl.da (tsL ts), Sl.da (.int c), Sl.ow (l3 acc3), Sl.da (.int b), Sl.ow (l2 acc2), Sl.da (.int u), Sl.ow (iL es), s8, s9, s10, s11] ∧ es.length ≤ cnt names[u] pre ∧ ∀ x : Int, x ∈ es ↔ ∃ v : Nat, v < names.length ∧ x = v ∧ leads pre b names[u] (names.getD v "") = true) [] (fun pre3 t post3 ρ N3 e3 ⟨es, s8, s9, s10, s11, er, el, em⟩ hN3 => ?_) ⟨[], _, _, _, _, rfl, by simp [cnt], fun x => by simp [leads]⟩ fun ρ ⟨es, s8, s9, s10, s11, er, el, em⟩ => ?_
      · subst er
        have ep : ∀ (l : List Tie) (i : List Tie), l.foldl (fun p t => p ++ [t]) i = i ++ l := by
          intro l
          induction l with
          | nil => intro i; simp
          | cons x l ih => intro i; rw [List.foldl_cons, ih]; simp
        rw [ep, List.nil_append] at hN3 el em
        have hmt : t ∈ ts := by rw [e3]; simp
        have ok := ht.ok t hmt
        obtain ⟨i, hi, ei⟩ := List.mem_iff_getElem.mp ok.a
        obtain ⟨j, hj, ej⟩ := List.mem_iff_getElem.mp ok.b
        have hu' : atI names (u : Int) = some names[u] := atI_strs hu
        have oa := hn.ok _ ok.a
        have ob := hn.ok _ ok.b
        have ou := hn.ok _ (List.getElem_mem hu)
        have w2 : PyData.strOk "two" = true := by decide +kernel
        have ol := ok_strs hn.ok
        simp [tieD, gTupD, gsCons, gsNil, hu', oEq_s oa ou, oEq_s ob ou, oEq_s (word_ok ok.w) w2]
        refine ⟨_, _, ⟨rfl, rfl⟩, _, _, rfl, _, _, rfl, _, _, rfl, rfl, ?_⟩
        have hbU : ∀ V, t.leads b names[u] V = (decide ((b : Int) ∈ t.at_) && ((t.a == names[u] && t.b == V) || (t.b == names[u] && t.a == V && t.w == "two"))) := fun V => rfl
        have es_le : es.length ≤ 100 := by
          have h1 := cnt_le names[u] pre3
          have h2 := ht.le
          have h3 : ts.length = pre3.length + (t :: post3).length := by rw [e3, List.length_append]
          omega
        have keep : ∀ s8 s9 s10 s11, (∀ v : Nat, v < names.length → t.leads b names[u] (names.getD v "") = false) → N3 [Sl.da (sL names), Sl.da (tsL ts), Sl.da (.int c), Sl.ow (l3 acc3), Sl.da (.int b), Sl.ow (l2 acc2), Sl.da (.int u), Sl.ow (.lst (es.map .int)), s8, s9, s10, s11] := fun s8 s9 s10 s11 hno => by
          refine hN3 _ ⟨es, s8, s9, s10, s11, rfl, by rw [cnt_app]; omega, fun x => ?_⟩
          rw [em]
          unfold leads
          constructor
          · rintro ⟨v, hv, rfl, hl⟩
            exact ⟨v, hv, rfl, by rw [List.any_append, hl]; rfl⟩
          · rintro ⟨v, hv, rfl, hl⟩
            rw [List.any_append] at hl
            simp only [List.any_cons, List.any_nil, Bool.or_false, hno v hv] at hl
            exact ⟨v, hv, rfl, hl⟩
        have add : ∀ (k : Nat) (s8 s9 s10 s11 : Sl), k < names.length → (t.a = names[u] ∨ t.b = names[u]) → (∀ v : Nat, v < names.length → t.leads b names[u] (names.getD v "") = decide (k = v)) → N3 [Sl.da (sL names), Sl.da (tsL ts), Sl.da (.int c), Sl.ow (l3 acc3), Sl.da (.int b), Sl.ow (l2 acc2), Sl.da (.int u), Sl.ow (.lst (es.map .int ++ [.int k])), s8, s9, s10, s11] := fun k s8 s9 s10 s11 hk htu hyes => by
          have c1 : cnt names[u] [t] = 1 := by
            unfold cnt
            rcases htu with h | h <;> simp [h]
          refine hN3 _ ⟨es ++ [(k : Int)], s8, s9, s10, s11, by simp [iL], by rw [cnt_app, c1]; simp; omega, fun x => ?_⟩
          rw [List.mem_append, em]
          unfold leads
          constructor
          · rintro (⟨v, hv, rfl, hl⟩ | hx)
            · exact ⟨v, hv, rfl, by rw [List.any_append, hl]; rfl⟩
            · simp at hx
              exact ⟨k, hk, hx, by rw [List.any_append]; simp only [List.any_cons, List.any_nil, Bool.or_false, hyes k hk, decide_true, Bool.or_true]⟩
          · rintro ⟨v, hv, rfl, hl⟩
            rw [List.any_append] at hl
            simp only [List.any_cons, List.any_nil, Bool.or_false, hyes v hv, Bool.or_eq_true, decide_eq_true_eq] at hl
            rcases hl with hl | hl
            · exact .inl ⟨v, hv, rfl, hl⟩
            · subst hl; exact .inr (by simp)
        have ixa : idxD (.str t.a) (names.map .str) = some i := by rw [← ei]; exact idx_strs hn.nd hi
        have ixb : idxD (.str t.b) (names.map .str) = some j := by rw [← ej]; exact idx_strs hn.nd hj
        have hu2 : atI (names.map D.str) (u : Int) = some (.str names[u]) := by rw [atI_map, hu']; rfl
        simp [oEq_s oa ou, oEq_s ob ou, oEq_s (word_ok ok.w) w2, wIdx, sApp, iL, sL]
        by_cases hb : (b : Int) ∈ t.at_
        · refine .inr ⟨hb, ?_⟩
          by_cases ha : t.a = names[u]
          · have hbn : ¬ t.b = names[u] := fun z => ok.ne (ha.trans z.symm)
            refine .inr ⟨ha, ol, ok_str ob, j, ixb, by omega, .inr ⟨hb, _, hu2, ?_⟩⟩
            rw [oEq_s ob ou]
            refine .inl ⟨by simp [hbn], add j _ _ _ _ hj (.inl ha) fun v hv => ?_⟩
            rw [hbU, ← ej, name_eq hn.nd hj hv]
            have h0 : (names[j] == names[u]) = false := by rw [ej]; simpa using hbn
            rw [h0]
            simp [hb, ha]
          · refine .inl ⟨ha, .inr ⟨hb, ?_⟩⟩
            by_cases hbb : t.b = names[u]
            · refine .inr ⟨hbb, ?_⟩
              by_cases hw : t.w = "two"
              · refine .inr ⟨hw, ol, ok_str oa, i, ixa, by omega, add i _ _ _ _ hi (.inr hbb) fun v hv => ?_⟩
                rw [hbU, ← ei, name_eq hn.nd hi hv]
                have h0 : (names[i] == names[u]) = false := by rw [ei]; simpa using ha
                rw [h0]
                simp [hb, hbb, hw]
              · refine .inl ⟨hw, keep _ _ _ _ fun v hv => ?_⟩
                rw [hbU]
                have hw' : (t.w == ("two" : Str)) = false := by simpa using hw
                have h0 : (t.a == names[u]) = false := by simpa using ha
                rw [hw', h0]
                simp
            · refine .inl ⟨hbb, keep _ _ _ _ fun v hv => ?_⟩
              rw [hbU]
              have h0 : (t.a == names[u]) = false := by simpa using ha
              have h1 : (t.b == names[u]) = false := by simpa using hbb
              rw [h0, h1]
              simp
        · refine .inl ⟨hb, .inl ⟨hb, keep _ _ _ _ fun v hv => ?_⟩⟩
          rw [hbU]
          simp [hb]
      · subst er
        have ep : ∀ (l : List Tie) (i : List Tie), l.foldl (fun p t => p ++ [t]) i = i ++ l := by
          intro l
          induction l with
          | nil => intro i; simp
          | cons x l ih => intro i; rw [List.foldl_cons, ih]; simp
        rw [ep, List.nil_append] at el em
        simp [sApp, wSortSet, wPeek, l2]
        refine ⟨es, rfl, ⟨(List.range names.length).map fun i : Nat => (i : Int), by simp; omega, fun k hk => ?_⟩, fun ms hps hms => ?_⟩
        · obtain ⟨v, hv, e, _⟩ := (em k).mp hk
          exact List.mem_map.mpr ⟨v, List.mem_range.mpr hv, e.symm⟩
        have ee : ms = rowF names.length (psgOf names ts b u) := by
          refine sorted_one ?_ (hps.imp fun h => Int.le_of_lt h) ?_
          · refine (List.perm_ext_iff_of_nodup (hps.imp fun h => Int.ne_of_lt h) ?_).mpr fun x => ?_
            · unfold rowF
              exact nodup_map (List.nodup_range.filter _) fun x _ y _ h => by omega
            · rw [hms, em]
              unfold rowF
              rw [List.mem_map]
              have eu : names.getD u "" = names[u] := by simp [hu]
              have ep2 : psgOf names ts b u = fun v => leads ts b names[u] (names.getD v "") := by
                funext v
                show leads ts b (names.getD u "") (names.getD v "") = _
                rw [eu]
              rw [ep2]
              constructor
              · rintro ⟨v, hv, rfl, hl⟩
                exact ⟨v, List.mem_filter.mpr ⟨List.mem_range.mpr hv, hl⟩, rfl⟩
              · rintro ⟨v, hv, rfl⟩
                obtain ⟨h1, h2⟩ := List.mem_filter.mp hv
                exact ⟨v, List.mem_range.mp h1, rfl, h2⟩
          · unfold rowF
            rw [List.pairwise_map]
            refine (List.Pairwise.filter _ List.pairwise_lt_range).imp fun h => by omega
        rw [ee]
        refine ⟨by omega, hN2 _ ⟨_, _, _, _, _, _, by simp [l2, iL, g]; exact ⟨rfl, rfl, rfl, rfl, rfl, rfl⟩⟩⟩
    · subst er
      rw [foldl_map_app, List.nil_append]
      simp [sFrz, sApp, l3]
      refine ⟨by omega, ?_⟩
      refine hN _ ⟨Sl.da (.int b), Sl.da (l2 ((List.range names.length).map g)), s6, s7, s8, s9, s10, s11, ?_⟩
      simp [l3]
      rfl
  · subst er
    rw [foldl_map_app, List.nil_append]
    simp [sRetO]
    exact q
end Tw.S

namespace Tw.S
open PySem PySem.Spec L2 PyProof.Rows Tw TL
end Tw.S

namespace Tw.S
open PySem PySem.Spec L2 PyProof.Rows Tw
end Tw.S

namespace Tw.S
open PySem PySem.Spec L2 PyProof.Rows Tw
theorem leads_app (a b : List Tie) (i : Int) (u v : Str) : leads (a ++ b) i u v = (leads a i u v || leads b i u v) := by unfold leads; rw [List.any_append]
structure PT (x y : Str) (codes : List Int) (m : Nat) (ts : List Tie) : Prop where
  ok : ∀ t ∈ ts, ((t.a = x ∧ t.b = y) ∨ (t.a = y ∧ t.b = x)) ∧ (t.w = "two" ∨ t.w = "one") ∧ isSet t.at_ codes.length = true
  len : ts.length ≤ m
  ld : x ≠ y → ∀ b : Nat, (leads ts b x y = decide (codes.getD b 0 = 1 ∨ codes.getD b 0 = 2)) ∧ (leads ts b y x = decide (codes.getD b 0 = 1 ∨ codes.getD b 0 = 3))
end Tw.S

namespace Tw.S
open PySem PySem.Spec L2 PyProof.Rows Tw
@[simp high] theorem plus_tI {a b : List Int} {Q : D → Prop} : oPlus (tI a) (tI b) Q = (a.length + b.length ≤ sizeLine ∧ Q (tI (a ++ b))) := by
  unfold tI
  simp
section
variable {xc : XC} {Q : Bool → D → Prop} {x y : Str} {codes : List Int} {style : Int}
end
end Tw.S

namespace Tw.S
open PySem PySem.Spec L2 PyProof.Rows Tw
@[simp high] theorem plus_tsL {a b : List Tie} {Q : D → Prop} : oPlus (tsL a) (tsL b) Q = (a.length + b.length ≤ sizeLine ∧ Q (tsL (a ++ b))) := by
  unfold tsL
  simp
theorem few_of {names : List Str} {c : Int} {ts : List Tie} {k : Nat} (ok : ∀ t ∈ ts, TieOk names c t) (h : ∀ (w : Nat) (hw : w < names.length), cnt names[w] ts ≤ k) (z : Str) : cnt z ts ≤ k := by
  by_cases hz : z ∈ names
  · obtain ⟨w, hw, rfl⟩ := List.mem_iff_getElem.mp hz
    exact h w hw
  · have : cnt z ts = 0 := by
      unfold cnt
      rw [List.length_eq_zero_iff, List.filter_eq_nil_iff]
      intro t ht
      have n1 : ¬ t.a = z := fun e => hz (e ▸ (ok t ht).a)
      have n2 : ¬ t.b = z := fun e => hz (e ▸ (ok t ht).b)
      simp [n1, n2]
    omega
theorem pair_tie {names : List Str} {c v u : Nat} {t : Tie} (hn : NamesOk names) (hv : v < names.length) (hu : u < names.length) (hne : v ≠ u) (h : ((t.a = names[v] ∧ t.b = names[u]) ∨ (t.a = names[u] ∧ t.b = names[v])) ∧ (t.w = "two" ∨ t.w = "one") ∧ t.at_ ≠ [] ∧ isSet t.at_ c = true) : TieOk names c t ∧ On names[u] names[v] t := by
  obtain ⟨h1, h2, h3, h4⟩ := h
  have ne : names[v] ≠ names[u] := fun z => hne ((List.getElem_inj hn.nd).mp z)
  rcases h1 with ⟨ea, eb⟩ | ⟨ea, eb⟩
  · exact ⟨⟨ea ▸ List.getElem_mem hv, eb ▸ List.getElem_mem hu, by rw [ea, eb]; exact ne, h2, h3, h4⟩, .inr ea, .inl eb⟩
  · exact ⟨⟨ea ▸ List.getElem_mem hu, eb ▸ List.getElem_mem hv, by rw [ea, eb]; exact ne.symm, h2, h3, h4⟩, .inl ea, .inr eb⟩
theorem foldl_snoc {α : Type} : ∀ (l i : List α), l.foldl (fun p t => p ++ [t]) i = i ++ l
  | [], i => by simp
  | x :: l, i => by rw [List.foldl_cons, foldl_snoc l]; simp
end Tw.S

namespace Tw.S
open PySem PySem.Spec L2 PyProof.Rows Tw
/-! data of a bounded depth -/
def Okd (n : Nat) (d : D) : Prop := d.isP = true ∧ d.py.canLay0 = true ∧ d.py.depth ≤ n
theorem Okd.ok {n : Nat} {d : D} (h : Okd n d) (hn : n ≤ 64) : d.ok := ⟨h.1, by unfold SeqAt.shaped; rw [h.2.1]; simp; have := h.2.2; omega⟩
theorem Okd.mono {n m : Nat} {d : D} (h : Okd n d) (hn : n ≤ m) : Okd m d := ⟨h.1, h.2.1, Nat.le_trans h.2.2 hn⟩
theorem okd_int (i : Int) : Okd 0 (.int i) := ⟨rfl, by simp [D.py, PyData.canLay0], by simp [D.py, PyData.depth]⟩
theorem okd_all {n : Nat} : ∀ {l : List D}, (∀ d ∈ l, Okd n d) → D.isPs l = true ∧ PyData.canLayAll0 (D.pys l) = true ∧ PyData.depthAll (D.pys l) ≤ n
  | [], _ => by simp [D.isPs, D.pys, PyData.canLayAll0, PyData.depthAll]
  | x :: l, h => by
    obtain ⟨a, b, c⟩ := h x (by simp)
    obtain ⟨a', b', c'⟩ := okd_all fun d hd => h d (List.mem_cons_of_mem _ hd)
    simp only [D.isPs, D.pys, PyData.canLayAll0, PyData.depthAll, a, a', b, b', Bool.and_self, true_and]
    omega
theorem okd_lst {n : Nat} {l : List D} (h : ∀ d ∈ l, Okd n d) : Okd (n + 1) (.lst l) := by
  obtain ⟨a, b, c⟩ := okd_all h
  exact ⟨by rw [D.isP]; exact a, by rw [D.py]; simp only [PyData.canLay0]; exact b, by rw [D.py]; simp only [PyData.depth]; omega⟩
end Tw.S

namespace Tw.S
open PySem PySem.Spec L2 PyProof.Rows Tw
theorem ok_li (b : List Int) : (D.lst (b.map .int)).ok := (okd_lst (n := 0) fun d hd => by
  obtain ⟨i, _, rfl⟩ := List.mem_map.mp hd
  exact okd_int i).ok (by omega)
theorem oIn_li {i : Int} {l : List Int} {Q : D → Prop} (neg : Bool) : oIn neg (.int i) (.lst (l.map .int)) Q = Q (.bl (if neg = true then !decide (i ∈ l) else decide (i ∈ l))) := by
  have h := any_int (i := i) l
  simp only [oIn, ok_int, ok_li, h, true_and]
theorem oIn_ti {i : Int} {l : List Int} {Q : D → Prop} (neg : Bool) : oIn neg (.int i) (tI l) Q = Q (.bl (if neg = true then !decide (i ∈ l) else decide (i ∈ l))) := by
  have h := any_int (i := i) l
  have o := ok_tI l
  unfold tI at o ⊢
  simp only [oIn, ok_int, o, h, true_and]
@[simp high] theorem ix_hD2 {t a b : Bool} {l : List (List (List Int))} {i : Int} {Q : D → Prop} : oIx (hD t (l.map (rD a b))) (.int i) Q = ∃ x, atI l i = some x ∧ Q (rD a b x) := by
  rw [ix_hD]
  exact ix_map
@[simp high] theorem ix_rD {a b : Bool} {l : List (List Int)} {i : Int} {Q : D → Prop} : oIx (rD a b l) (.int i) Q = ∃ x, atI l i = some x ∧ Q (hD b (x.map .int)) := by
  unfold rD
  rw [ix_hD]
  exact ix_map
theorem oIn_hi {x : Int} {t neg : Bool} {l : List Int} {Q : D → Prop} : oIn neg (.int x) (hD t (l.map .int)) Q = Q (.bl (if neg = true then !decide (x ∈ l) else decide (x ∈ l))) := by
  cases t
  · exact oIn_li neg
  · exact oIn_ti neg
@[simp] theorem len_t3 {l : List (List (List Int))} {Q : D → Prop} : oLen [t3 l] Q = Q (.int l.length) := by
  unfold t3
  simp
end Tw.S

namespace Tw.S
open PySem PySem.Spec L2 PyProof.Rows Tw
@[simp] theorem len_l3 {l : List (List (List Int))} {Q : D → Prop} : oLen [l3 l] Q = Q (.int l.length) := by
  unfold l3
  simp
@[simp] theorem seq_l3 {l : List (List (List Int))} : D.seq (l3 l) = some (l.map l2) := rfl
@[simp] theorem seq_l2 {l : List (List Int)} : D.seq (l2 l) = some (l.map iL) := rfl
@[simp] theorem list_iL {l : List Int} {Q : D → Prop} : oList [iL l] Q = Q (iL l) := rfl
theorem oIn_iL {i : Int} {l : List Int} {Q : D → Prop} (neg : Bool) : oIn neg (.int i) (iL l) Q = Q (.bl (if neg = true then !decide (i ∈ l) else decide (i ∈ l))) := oIn_li neg
theorem rowF_srt (n : Nat) (p : Nat → Bool) : (rowF n p).Pairwise (· ≤ ·) := by
  unfold rowF
  rw [List.pairwise_map]
  exact ((List.pairwise_lt_range (n := n)).filter p).imp fun h => by omega
end Tw.S

namespace Tw.S
open PySem PySem.Spec L2 PyProof.Rows Tw
section
variable {xc : XC} {Q : Bool → D → Prop} {names : List Str} {c u v : Nat} {L : Psg} {last : List Int} {t : Tie}
@[simp] theorem ty_tI (l : List Int) : D.ty (tI l) = D.ty (.tup []) := rfl
end
end Tw.S

namespace Tw.S
open PySem PySem.Spec L2 PyProof.Rows Tw
/-! sums -/
def sm {α : Type} (l : List α) (f : α → Nat) : Nat := (l.map f).sum
section
variable {α β : Type}
end
/-- the ties with their places -/
structure KT where
  t : Tie
  u : Nat
  v : Nat
def KT.key (k : KT) : List Int := keyF k.t k.u k.v
def KT.wt (k : KT) : Nat := k.t.at_.length + if k.t.w = "two" then k.t.at_.length else 0
end Tw.S

namespace Tw.S
open PySem PySem.Spec L2 PyProof.Rows Tw
section
variable {xc : XC} {Q : Bool → D → Prop} {s0 s1 s3 s5 s6 s7 s8 : Sl}
end
end Tw.S

namespace Tw.S
open PySem PySem.Spec L2 PyProof.Rows Tw
/-- ties written for the pairs P of the passages L -/
structure RW (names : List Str) (c : Nat) (L : Psg) (m : Nat) (P : List (Nat × Nat)) (acc : List Tie) : Prop where
  le : acc.length ≤ m * P.length
  ok : ∀ t ∈ acc, TieOk names c t
  ld : ∀ (b i j : Nat) (hb : b < c) (hi : i < names.length) (hj : j < names.length), leads acc b names[i] names[j] = (L b i j && decide ((min i j, max i j) ∈ P))
theorem leads_on {x y p q : Str} {ts : List Tie} {b : Int} (h : ∀ t ∈ ts, (t.a = x ∧ t.b = y) ∨ (t.a = y ∧ t.b = x)) (h1 : ¬ (p = x ∧ q = y)) (h2 : ¬ (p = y ∧ q = x)) : leads ts b p q = false := by
  unfold leads
  rw [List.any_eq_false]
  intro t ht hl
  unfold Tie.leads at hl
  simp at hl
  rcases h t ht with ⟨ea, eb⟩ | ⟨ea, eb⟩ <;> rcases hl.2 with ⟨z1, z2⟩ | ⟨⟨z1, z2⟩, _⟩ <;> rw [ea] at * <;> rw [eb] at *
  · exact h1 ⟨z1.symm, z2.symm⟩
  · exact h2 ⟨z1.symm, z2.symm⟩
  · exact h2 ⟨z1.symm, z2.symm⟩
  · exact h1 ⟨z1.symm, z2.symm⟩
theorem RW.step {names : List Str} {c : Nat} {L : Psg} {m : Nat} {P : List (Nat × Nat)} {acc ts : List Tie} {u v : Nat} (hn : NamesOk names) (R : RW names c L m P acc) (hvu : v < u) (hu : u < names.length) (hv : v < names.length) (hP : (v, u) ∉ P)
    (hT : ∀ t ∈ ts, ((t.a = names[v] ∧ t.b = names[u]) ∨ (t.a = names[u] ∧ t.b = names[v])) ∧ (t.w = "two" ∨ t.w = "one") ∧ t.at_ ≠ [] ∧ isSet t.at_ c = true) (hl : ts.length ≤ m)
    (hd : ∀ b : Nat, b < c → leads ts b names[v] names[u] = L b v u ∧ leads ts b names[u] names[v] = L b u v) : RW names c L m (P ++ [(v, u)]) (acc ++ ts) := by
  refine ⟨?_, fun t ht => ?_, fun b i j hb hi hj => ?_⟩
  · rw [List.length_append, List.length_append, List.length_singleton, Nat.mul_add, Nat.mul_one]
    have := R.le
    omega
  · rcases List.mem_append.mp ht with h | h
    · exact R.ok t h
    · exact (pair_tie hn hv hu (by omega) (hT t h)).1
  · rw [leads_app, R.ld b i j hb hi hj]
    have inj : ∀ {p q : Nat} (hp : p < names.length) (hq : q < names.length), names[p] = names[q] → p = q := fun hp hq e => (List.getElem_inj hn.nd).mp e
    by_cases h1 : i = v ∧ j = u
    · obtain ⟨rfl, rfl⟩ := h1
      rw [(hd b hb).1]
      have m1 : min i j = i := by omega
      have m2 : max i j = j := by omega
      rw [m1, m2]
      simp [hP]
    · by_cases h2 : i = u ∧ j = v
      · obtain ⟨rfl, rfl⟩ := h2
        rw [(hd b hb).2]
        have m1 : min i j = j := by omega
        have m2 : max i j = i := by omega
        rw [m1, m2]
        simp [hP]
      · rw [leads_on (fun t ht => (hT t ht).1) (fun z => h1 ⟨inj hi hv z.1, inj hj hu z.2⟩) (fun z => h2 ⟨inj hi hu z.1, inj hj hv z.2⟩), Bool.or_false]
        have : ((min i j, max i j) ∈ P ++ [(v, u)]) ↔ (min i j, max i j) ∈ P := by
          rw [List.mem_append, List.mem_singleton]
          refine or_iff_left fun z => ?_
          have z1 := congrArg Prod.fst z
          have z2 := congrArg Prod.snd z
          simp only at z1 z2
          rcases Nat.le_total i j with h | h
          · exact h1 ⟨by omega, by omega⟩
          · exact h2 ⟨by omega, by omega⟩
        rw [decide_eq_decide.mpr this]
section
variable {xc : XC} {Q : Bool → D → Prop} {names : List Str} {c u v m : Nat} {L : Psg} {l : List Int} {acc : List Tie} {P : List (Nat × Nat)}
end
end Tw.S

namespace Tw.S
open PySem PySem.Spec L2 PyProof.Rows Tw
@[simp] theorem list_sL {l : List Str} {Q : D → Prop} : oList [sL l] Q = Q (sL l) := rfl
end Tw.S

namespace Tw.S
open PySem PySem.Spec L2 PyProof.Rows Tw
@[simp] theorem sl_sL {l : List Str} {lo hi : Option Int} {Q : D → Prop} : oSl (sL l) lo hi Q = Q (sL (cutA l lo hi)) := by
  unfold sL
  rw [oSl_l, cutD_map]
@[simp high] theorem plus_sL {a b : List Str} {Q : D → Prop} : oPlus (sL a) (sL b) Q = (a.length + b.length ≤ sizeLine ∧ Q (sL (a ++ b))) := by
  unfold sL
  simp
@[simp] theorem list_tsL {l : List Tie} {Q : D → Prop} : oList [tsL l] Q = Q (tsL l) := rfl
theorem TiesOk.names {names names' : List Str} {c : Int} {ts : List Tie} (h : TiesOk names c ts) (s : ∀ x ∈ names, x ∈ names') : TiesOk names' c ts :=
  ⟨h.le, fun t ht => ⟨s _ (h.ok t ht).a, s _ (h.ok t ht).b, (h.ok t ht).ne, (h.ok t ht).w, (h.ok t ht).at0, (h.ok t ht).at_⟩⟩
theorem isSet_le {l : List Int} {n m : Int} (h : isSet l n = true) (hm : n ≤ m) : isSet l m = true := by
  unfold isSet at *
  rw [Bool.and_eq_true] at *
  refine ⟨List.all_eq_true.mpr fun x hx => ?_, h.2⟩
  have := List.all_eq_true.mp h.1 x hx
  simp at this ⊢
  omega
theorem TiesOk.beats {names : List Str} {c d : Int} {ts : List Tie} (h : TiesOk names c ts) (s : c ≤ d) : TiesOk names d ts :=
  ⟨h.le, fun t ht => ⟨(h.ok t ht).a, (h.ok t ht).b, (h.ok t ht).ne, (h.ok t ht).w, (h.ok t ht).at0, isSet_le (h.ok t ht).at_ s⟩⟩
def one (c : Nat) : Str := ⟨#[c]⟩
section
variable {C : Addr} {xc : XC} {Q : Bool → D → Prop} {names : List Str} {ts : List Tie} {c : Nat}
end
end Tw.S

namespace Tw.S
open PySem PySem.Spec L2 PyProof.Rows Tw
theorem psg_diag {names : List Str} {c : Int} {ts : List Tie} (h : TiesOk names c ts) : ∀ b u, psgOf names ts b u u = false := fun b u => by
  unfold psgOf leads
  rw [List.any_eq_false]
  intro t ht hl
  have ne := (h.ok t ht).ne
  unfold Tie.leads at hl
  simp only [Bool.and_eq_true, Bool.or_eq_true, beq_iff_eq, decide_eq_true_eq] at hl
  rcases hl.2 with ⟨z1, z2⟩ | ⟨⟨z1, z2⟩, _⟩
  · exact ne (z1.trans z2.symm)
  · exact ne (z2.trans z1.symm)
end Tw.S

namespace Tw.S
open PySem PySem.Spec L2 PyProof.Rows Tw
section
variable {C : Addr} {xc : XC} {Q : Bool → D → Prop} {names : List Str} {ts : List Tie} {c : Nat} {sc : List Int} {L : Psg}
@[simp] theorem mOf_web {nx : List (List (List Int))} : mOf C "ties" (webD C names c nx) := ⟨_, rfl, rfl⟩
end
end Tw.S

/-! Tw, part T: x.upper(). -/
namespace Tw
open PySem PySem.Spec L2 PyProof.Rows
section
variable {X : Cx} {E : XK} {o : Expr} {w : Wx} {apos pos : Pos}
end
end Tw

/-! Tw, part T: isinstance of the error that a clause holds. -/
namespace Tw
open PySem PySem.Spec L2 PyProof.Rows
section
variable {X : Cx} {a D : Addr} {oe : Obj} {cls : Value} {d : Option Addr} {pn : List (Addr × Obj)} {e c : Expr} {es : List Expr} {pos p p2 : Pos} {i : Nat} {b : Bool} {v : V} {u : Value} {vs : List V} {us : List Value}
/-- names of classes -/
structure PCs (X : Cx) (es : List Expr) (vs : List V) (us : List Value) : Prop where
  pa : PA X es (fun σ H Q => Q vs H)
  cv : Paired ClsV vs us
end
end Tw

/-! Tw, part T: properties whose getters raise nothing. -/
namespace Tw
open PySem PySem.Spec L2 PyProof.Rows
structure PDef (P : Program) (w : World) (K : PySem.W.Frag) (mg : Str → Option Value) (base : Heap) (C : Addr) (m : Str) (j : Nat) (wf : Wf) : Prop where
  ex : ∃ p f fd ps, FnOk P w K mg base (L2.CX P w) j f fd ps (spOf K 1 wf) ∧ PropOf K C m p f ∧ Binds K fd ps []
  cl : Cls K C
  mo : MoF wf
section
variable {X : Cx} {E : XK} {a : Expr} {w : Wx} {pos : Pos} {m : Str}
end
end Tw

/-! Tw, part T: tuple * int. -/
namespace Tw
open PySem PySem.Spec L2 PyProof.Rows
section
variable {X : Cx} {E : XK} {a b : Expr} {wa wb : Wx} {ka kb : Kd} {pos : Pos}
end
end Tw

/-! what the defs of k04 keep -/
namespace Tw.S
open PySem PySem.Spec L2 PyProof.Rows Tw
def rowT (n : Nat) (L : Psg) (b : Nat) : List (List Int) := (List.range n).map fun u => rowF n (L b u)
end Tw.S

namespace Tw.S
open PySem PySem.Spec L2 PyProof.Rows Tw
end Tw.S

namespace Tw.S
open PySem PySem.Spec L2 PyProof.Rows Tw

end Tw.S

namespace Tw.S
open PySem PySem.Spec L2 PyProof.Rows Tw
section
variable {α : Type} {g : Wg} {b : Ws} {Z : Pd} {ρ : Evn}
end
section
variable {g : Wg} {b : Ws} {Z : Pd} {ρ : Evn}
end
section
variable {n c : Nat} {L M : Psg}
end
@[simp] theorem rowT_len (n : Nat) (L : Psg) (b : Nat) : (rowT n L b).length = n := by simp [rowT]
@[simp] theorem tabF_len (n c : Nat) (L : Psg) : (tabF n c L).length = c := by simp [tabF]
@[simp] theorem len_l2 {l : List (List Int)} {Q : D → Prop} : oLen [l2 l] Q = Q (.int l.length) := by
  unfold l2
  simp
end Tw.S

namespace Tw.S
open PySem PySem.Spec L2 PyProof.Rows Tw
theorem drawn {l : List Int} (hl : ∀ x ∈ l, 0 ≤ x ∧ x < 1000) (i : Int) (h0 : 0 ≤ i) (h : i < l.length) : ∃ x, atI l i = some x ∧ 0 ≤ x ∧ x < 1000 := by
  refine ⟨l[i.toNat], ?_, hl _ (List.getElem_mem (by omega))⟩
  rw [atI_at h0 h, List.getElem?_eq_getElem (by omega)]
theorem cm2 : CMul 2 1000000000 := .inl ⟨by omega, by omega⟩
end Tw.S

namespace Tw.S
open PySem PySem.Spec L2 PyProof.Rows Tw
section
variable {n c : Nat} {L : Psg} {k m : Int}
end
@[simp] theorem mOf_webP {C : Addr} {names : List Str} {c : Nat} {L : Psg} : mOf C "turned" (webP C names c L) := ⟨_, rfl, rfl⟩
@[simp] theorem mOf_webB {C : Addr} {names : List Str} {c : Nat} {L : Psg} : mOf C "backward" (webP C names c L) := ⟨_, rfl, rfl⟩
@[simp] theorem mOf_webU {C : Addr} {names : List Str} {c : Nat} {L : Psg} : mOf C "unrolled" (webP C names c L) := ⟨_, rfl, rfl⟩
@[simp] theorem mOf_webS {C : Addr} {names : List Str} {c : Nat} {L : Psg} : mOf C "steps" (webP C names c L) := ⟨_, rfl, rfl⟩
end Tw.S

/-! Tw, part T: classes of errors and properties of the text, by what the written part says of them. -/
namespace Tw
open PySem PySem.Spec L2 PyProof.Rows
section
variable {P : Program} {w : World} {K : PySem.W.Frag} {mg : Str → Option Value} {base : Heap}
theorem err_ok1 {qual f g : Str} {st : Stmt} {fI : Addr} {fd : FuncData} {C : Addr} {k : Nat} (F : Fun K "__init__" qual st fI fd) (S : FnScope (["self", g] : List Str) (["self", g] : List Str) (defScope st)) (T : OexC K C) (nf : PySem.W.findIn K (.ref C) f = some none)
    (hb : ∀ (cdv : Value) (A : Around) (outer : List Env) (s : Shared) (H : Hp) (E : XK), PSs (cxOf (L2.CX P w) P w K mg base (["self", g] : List Str) qual (defScope st) fI cdv A outer s H E) (defBody st) (tOst K f (tVar 0) (tVar 1))) :
    FnOk P w K mg base (L2.CX P w) (k + 1) fI fd ["self", g] (spErrN C [f]) := by
  refine F.okX S (fun vs H Q E h => ?_) (fun cdv A outer s H vs Q E hr h => ⟨_, hb cdv A outer s H E, ?_⟩)
  · obtain ⟨a, ws, rfl, hl, _⟩ := h
    simp [hl]
  · obtain ⟨a, ws, rfl, hl, ha, h⟩ := h
    match ws, hl with
    | [v], _ => exact ⟨v, rfl, .ref a, rfl, a, C, rfl, T, nf, .inl ⟨ha, h⟩⟩
/-- an error's class: its __init__ -/
structure AtE (K : PySem.W.Frag) (mg : Str → Option Value) (x : Str) (C : Addr) (qual : Str) (st : Stmt) (ps fs : List Str) : Prop where
  ex : ∃ fI fd, Fun K "__init__" qual st fI fd ∧ Binds K fd ps [] ∧ PySem.W.findIn K (.ref C) "__init__" = some (some (.ref fI)) ∧ PySem.W.typeIn K (.ref fI) = some (.type "function")
  ox : OexC K C
  hm : mg x = some (.ref C)
  nf : ∀ f ∈ fs, PySem.W.findIn K (.ref C) f = some none
theorem err_mk1 {x qual f g : Str} {st : Stmt} {C : Addr} (A : AtE K mg x C qual st ["self", g] [f]) (S : FnScope (["self", g] : List Str) (["self", g] : List Str) (defScope st))
    (hb : ∀ (fI : Addr) (cdv : Value) (A : Around) (outer : List Env) (s : Shared) (H : Hp) (E : XK), PSs (cxOf (L2.CX P w) P w K mg base (["self", g] : List Str) qual (defScope st) fI cdv A outer s H E) (defBody st) (tOst K f (tVar 0) (tVar 1))) : Err P w K mg base x C [f] 1 := by
  obtain ⟨fI, fd, F, b, iC, tI⟩ := A.ex
  exact ⟨⟨fI, fd, _, err_ok1 (k := 0) F S A.ox (A.nf f (by simp)) (hb fI), b, iC, tI⟩, A.ox, A.hm, by simp⟩
/-- a property of a class -/
structure AtP (K : PySem.W.Frag) (C : Addr) (m qual : Str) (st : Stmt) : Prop where
  ex : ∃ p f fd, Fun K m qual st f fd ∧ PropOf K C m p f ∧ Binds K fd ["self"] []
theorem kit_ty {X : Addr} {T : String} {b : Bool} (hm : PySem.W.kitMeta T = true) (hs : PySem.W.subIn K (.ref X) (.type T) = some b) : PySem.W.kitOne K (.ref X) (.type T) = some b := by
  unfold PySem.W.kitOne
  rw [if_neg (by intro z; cases (beq_iff_eq.mp z))]
  show (if PySem.W.kitMeta T = true then PySem.W.subIn K (.ref X) (.type T) else none) = some b
  rw [if_pos hm]
  exact hs
end
end Tw

/-! Tw, part T: while; values popped; insert. -/
namespace Tw
open PySem PySem.Spec L2 PyProof.Rows
/-- while t: b, by what holds between the turns and a number that falls -/
def sWhile (t : Wt) (b : Ws) : Ws := fun Z ρ => ∃ W : Nat → Evn → Prop, (∃ m, W m ρ) ∧ ∀ m ρ, W m ρ → t Z.xc ρ fun c => if c = true then b { Z with nx := fun ρ' => ∃ m', m' < m ∧ W m' ρ', ct := fun ρ' => ∃ m', m' < m ∧ W m' ρ', bk := Z.nx } ρ else Z.nx ρ
section
variable {X : Cx} {E : XK} {c e : Expr} {body : List Stmt} {t : Wt} {s : Ws} {pos : Pos}
theorem sj_while (hp : PassesOwn (model X.prog X.w) X.A X.env X.xe) (hc : TJ E X c t) (hb : BJ E X body s) : SJ E X (.While c body [] pos) (sWhile t s) :=
  ⟨(ps_while hp hc.pt hb.ps).imp fun D' σ H ⟨G0, H0, G, ρ, Z, R, T, W, ⟨m0, w0⟩, hw⟩ => by
    refine ⟨fun m σ' H' => ∃ G2 ρ2, Same G G2 ∧ Rel X.K G0 H0 G2 ρ2 σ' H' ∧ W m ρ2, ⟨m0, G, ρ, Same.refl _, R, w0⟩, ?_⟩
    rintro m σ2 H2 ⟨G2, ρ2, s2, R2, w2⟩
    refine ⟨G0, H0, G2, ρ2, Z.xc, R2, T.xc, hc.mo _ _ _ _ (fun b q1 G3 H3 x3 => ?_) (hw m ρ2 w2)⟩
    cases b with
    | true =>
      rw [if_pos rfl] at q1 ⊢
      refine ⟨fun σ' H' => ∃ m', m' < m ∧ ∃ G4 ρ4, Same G G4 ∧ Rel X.K G0 H0 G4 ρ4 σ' H' ∧ W m' ρ4, fun σ' H' ⟨m', h1, h2⟩ => ⟨m', h1, h2⟩, ?_⟩
      have s3 : Same G G3 := s2.trans x3.gg
      exact ⟨G0, H0, G3, ρ2, { Z with nx := fun ρ' => ∃ m', m' < m ∧ W m' ρ', ct := fun ρ' => ∃ m', m' < m ∧ W m' ρ', bk := Z.nx }, R2.ext x3,
        ⟨fun ρ4 σ4 G4 H4 R4 s4 ⟨m', h1, h2⟩ => ⟨m', h1, G4, ρ4, s3.trans s4, R4, h2⟩, T.rt, fun ρ4 σ4 G4 H4 R4 s4 q4 => T.nx ρ4 σ4 G4 H4 R4 (s3.trans s4) q4, fun ρ4 σ4 G4 H4 R4 s4 ⟨m', h1, h2⟩ => ⟨m', h1, G4, ρ4, s3.trans s4, R4, h2⟩, T.xc⟩, q1⟩
    | false =>
      rw [if_neg Bool.false_ne_true] at q1 ⊢
      exact T.nx ρ2 σ2 G3 H3 (R2.ext x3) (s2.trans x3.gg) q1⟩
end
theorem rps_dropLast {K : PySem.W.Frag} {G : Hp} {ds : List D} {vs : List V} (r : Rps K G ds vs) : Rps K G ds.dropLast vs.dropLast := by
  rw [List.dropLast_eq_take, List.dropLast_eq_take, r.length]
  exact r.take _
/-- x = xs.pop() -/
def sPopV (i j : Nat) : Ws := fun Z ρ => i ≠ j ∧ ∃ ds d, ρ[i]? = some (.ow (.lst ds)) ∧ ds[ds.length - 1]? = some d ∧ Z.nx ((ρ.set i (.ow (.lst ds.dropLast))).set j (.da d))
section
variable {X : Cx} {E : XK} {n e a b : Expr} {w u : Wx} {i j : Nat} {k : Kd} {y : Str} {py pos apos cpos : Pos}
theorem sj_popV (hN : X.N.Nodup) (hy : X.N[j]? = some y) (hl : X.env.kindOf y = some .local ∨ X.env.kindOf y = some .cell) (hv : PE X n (tVar i))
    (hps : ∀ (t : TE), PE X (.Call (.Attribute n "pop" apos) [] [] cpos) t → PS X (.Assign [.Name y py] (.Call (.Attribute n "pop" apos) [] [] cpos) pos) (tAsg t (gName j)))
    (h1 : attributeBase n "pop" X.env (eval n X.env) = eval n X.env := by rfl) (h3 : (apos.endLine == cpos.line) = true := by rfl) :
    SJ E X (.Assign [.Name y py] (.Call (.Attribute n "pop" apos) [] [] cpos) pos) (sPopV i j) :=
  ⟨(hps _ (pe_bm0 PySem.F.plainAttrs_list PySem.F.slot_list_pop PySem.F.type_list_pop mt_pop hv h1 h3)).imp fun D' σ H ⟨G0, H0, G, ρ, Z, R, T, ne, ds, d, hi, hd, q⟩ => by
    obtain ⟨l, vs, e1, e2, r⟩ := own_lst R hi
    obtain ⟨v, hv, rv⟩ := r.get hd
    refine ⟨_, e1, .inl ⟨rfl, vs, SqL.of e2⟩, l, vs, v, rfl, rfl, e2, by rw [← r.length]; exact hv, ?_⟩
    exact T.nx _ _ _ _ ((R.chg hi e1 (show Top X.K G (.lst ds.dropLast) (.lst vs.dropLast) from rps_dropLast r)).set rv) (Same.refl _) q⟩
end
end Tw

/-! Tw, part T: comprehensions with two fors. -/
namespace Tw
open PySem PySem.Spec L2 PyProof.Rows
def lc2W (g : Wg) (tt : Wt) (wi1 : Wa) (vs1 : List Nat) (g1 : Wg) (tt1 : Wt) (we : Wx) (ρ : Evn) (Q : List D → Prop) : List D → List D → Prop
  | [], acc => Q acc
  | x :: xs, acc => g x ρ fun ρ' => tt xcNo ρ' fun t => if t = true then wi1 xcNo ρ' fun items => lcW g1 tt1 we (wipeD ρ' vs1) (fun acc' => lc2W g tt wi1 vs1 g1 tt1 we ρ Q xs acc') items acc else lc2W g tt wi1 vs1 g1 tt1 we ρ Q xs acc
@[simp] def wLc2 (wi : Wa) (g : Wg) (tt : Wt) (wi1 : Wa) (vs1 : List Nat) (g1 : Wg) (tt1 : Wt) (we : Wx) (vs : List Nat) : Wx := fun xc ρ Q => wi xc ρ fun items => lc2W g tt wi1 vs1 g1 tt1 we (wipeD ρ vs) (fun acc => Q (.lst acc)) items []
theorem lc2W_mo {g g1 : Wg} {tt tt1 : Wt} {wi1 : Wa} {vs1 : List Nat} {we : Wx} {ρ : Evn} {Q Q' : List D → Prop} (mg : ∀ d ρ (Q Q' : Evn → Prop), (∀ r, Q r → Q' r) → g d ρ Q → g d ρ Q') (mt : ∀ xc ρ (Q Q' : Bool → Prop), (∀ d, Q d → Q' d) → tt xc ρ Q → tt xc ρ Q')
    (mi : ∀ xc ρ (Q Q' : List D → Prop), (∀ d, Q d → Q' d) → wi1 xc ρ Q → wi1 xc ρ Q')
    (mg1 : ∀ d ρ (Q Q' : Evn → Prop), (∀ r, Q r → Q' r) → g1 d ρ Q → g1 d ρ Q') (mt1 : ∀ xc ρ (Q Q' : Bool → Prop), (∀ d, Q d → Q' d) → tt1 xc ρ Q → tt1 xc ρ Q')
    (me : ∀ xc ρ (Q Q' : D → Prop), (∀ d, Q d → Q' d) → we xc ρ Q → we xc ρ Q') (i : ∀ d, Q d → Q' d) : ∀ xs acc, lc2W g tt wi1 vs1 g1 tt1 we ρ Q xs acc → lc2W g tt wi1 vs1 g1 tt1 we ρ Q' xs acc
  | [], acc, q => i _ q
  | x :: xs, acc, q => mg _ _ _ _ (fun ρ' q => mt _ _ _ _ (fun t q => by
      cases t with
      | true => rw [if_pos rfl] at q ⊢; exact mi _ _ _ _ (fun items q => lcW_mo mg1 mt1 me (fun a q => lc2W_mo mg mt mi mg1 mt1 me i xs a q) _ _ q) q
      | false => rw [if_neg Bool.false_ne_true] at q ⊢; exact lc2W_mo mg mt mi mg1 mt1 me i xs acc q) q) q
theorem wipeD_ow {ρ : Evn} {j : Nat} {e : D} : ∀ {vs : List Nat}, (wipeD ρ vs)[j]? = some (.ow e) → j ∉ vs ∧ ρ[j]? = some (.ow e)
  | [], h => ⟨by simp, h⟩
  | v :: vs, h => by
    have h' : ((wipeD ρ vs).set v .no)[j]? = some (.ow e) := h
    by_cases hj : j = v
    · subst hj
      have hlt : j < (wipeD ρ vs).length := by
        rcases List.getElem?_eq_some_iff.mp h' with ⟨hl, _⟩; simpa using hl
      rw [List.getElem?_set_self hlt] at h'; cases h'
    · rw [List.getElem?_set_ne (Ne.symm hj)] at h'
      obtain ⟨a, b⟩ := wipeD_ow h'
      exact ⟨by simp [hj, a], b⟩
/-- a target that stores data alone -/
def GDa (g : Wg) : Prop := ∀ d ρ Q, g d ρ Q → g d ρ fun ρ' => Q ρ' ∧ ∀ (j : Nat) (e : D), ρ'[j]? = some (.ow e) → ρ[j]? = some (.ow e)
theorem set_da {ρ : Evn} {i j : Nat} {d e : D} (h : (ρ.set i (.da d))[j]? = some (.ow e)) : ρ[j]? = some (.ow e) := by
  by_cases hj : j = i
  · subst hj
    have hlt : j < ρ.length := by
      rcases List.getElem?_eq_some_iff.mp h with ⟨hl, _⟩; simpa using hl
    rw [List.getElem?_set_self hlt] at h; cases h
  · rwa [List.getElem?_set_ne (Ne.symm hj)] at h
theorem gda_set (i : Nat) : GDa (gSet i) := fun d ρ Q q => ⟨q, fun j e h => set_da h⟩
section
variable {X : Cx} {E : XK} {e : Expr} {pos : Pos}
theorem lc2_imp {tg iter : Expr} {own : List (Str × Nat)} {wi wi1 : Wa} {tgs tgs1 vs1 : List Nat} {g g1 : Wg} {tt tt1 : Wt} {we : Wx}
    (hi : IJ E X tg iter wi) (hsub : ∀ t ∈ tgs, t ∈ own.map (·.2)) (hsub1 : ∀ t ∈ tgs1, t ∈ vs1) (gd : GDa g)
    (mg : ∀ d ρ (Q Q' : Evn → Prop), (∀ r, Q r → Q' r) → g d ρ Q → g d ρ Q') (mt : ∀ xc ρ (Q Q' : Bool → Prop), (∀ d, Q d → Q' d) → tt xc ρ Q → tt xc ρ Q') (mi : ∀ xc ρ (Q Q' : List D → Prop), (∀ d, Q d → Q' d) → wi1 xc ρ Q → wi1 xc ρ Q')
    (mg1 : ∀ d ρ (Q Q' : Evn → Prop), (∀ r, Q r → Q' r) → g1 d ρ Q → g1 d ρ Q') (mt1 : ∀ xc ρ (Q Q' : Bool → Prop), (∀ d, Q d → Q' d) → tt1 xc ρ Q → tt1 xc ρ Q') (me : ∀ xc ρ (Q Q' : D → Prop), (∀ d, Q d → Q' d) → we xc ρ Q → we xc ρ Q')
    (σ : L2.St) (H : Hp) (Q : VK) (h : liftW X.K E .f (wLc2 wi g tt wi1 vs1 g1 tt1 we (own.map (·.2))) σ H Q) : tLc2 (liftI X.K E wi) (liftG X.K tgs g) (liftT X.K E0 tt) (liftI X.K E0 wi1) (liftG X.K tgs1 g1) (liftT X.K E0 tt1) (liftW X.K E0 .e we) (own.map (·.2)) vs1 σ H Q := by
  obtain ⟨G0, H0, G, ρ, xc, R, T, q⟩ := h
  refine ⟨G0, H0, G, ρ, xc, R, T, hi.mo _ _ _ _ (fun items q1 G1 H1 J x1 wk => ?_) q⟩
  intro D' hD
  have R1 := R.ext x1
  have hD0 : H0 D' = none := R1.h0.free hD
  obtain ⟨ρw, ew, Rw⟩ := R1.wipe (own.map (·.2))
  have ew' : wipeD ρ (own.map (·.2)) = ρw := ew.symm
  rw [ew'] at q1
  have nDw : ∀ (j : Nat) (e : D), ρw[j]? = some (.ow e) → (L2.wipe σ (own.map (·.2)))[j]? ≠ some (some (.ref D')) := fun j d' hj hs => by
    obtain ⟨p', o', e1, e2, _⟩ := Rw.sl j _ hj
    rw [hs] at e1
    cases e1
    rw [hD] at e2
    cases e2
  refine ⟨fun i m H2 => m = items.length - i ∧ i ≤ items.length ∧ ∃ G2 vs acc, Same G1 G2 ∧ Same H1 H2 ∧ (∀ a, H1 a ≠ none → G1 a = none → G2 a = none) ∧ G2 D' = none ∧ H2 D' = some (.lst vs) ∧ Rps X.K G2 acc vs ∧ Rel X.K G0 H0 G2 ρw (L2.wipe σ (own.map (·.2))) H2 ∧
    lc2W g tt wi1 vs1 g1 tt1 we ρw (fun acc => ∀ G' H' v, Ext G H G' H' → RvK X.K .f H G' H' (.lst acc) v → Q v H') (items.drop i) acc, ⟨_, rfl, Nat.zero_le _, G1, [], [], Same.refl _, same_upd hD, fun _ _ q => q, x1.gh.free hD, upd_same, .nil, Rw.chgX (fun _ _ _ z => by rw [hD] at z; cases z) (x1.gh.free hD) hD0 nDw, q1⟩, ?_⟩
  rintro i m H2 ⟨rfl, hi', G2, vs, acc, s2, h2, n2, gD, eD, ra, R2, q2⟩
  by_cases hlt : i < items.length
  · have ed : items.drop i = items[i] :: items.drop (i + 1) := List.drop_eq_getElem_cons hlt
    rw [ed] at q2
    refine .inr ⟨wk.go i G2 H2 hlt s2 R2.gh, _, fun H' q3 => ⟨items.length - (i + 1), by omega, rfl, hlt, q3⟩, fun x H3 y => ?_⟩
    obtain ⟨G3, d, x3, hd, rd⟩ := wk.yld i G2 H2 x H3 hlt s2 R2.gh y
    rw [List.getElem?_eq_getElem hlt] at hd
    cases hd
    refine ⟨G0, H0, G3, ρw, _, R2.ext x3, rd, mg _ _ _ _ (fun ρ' q3 σ' R' wv => ?_) (gd _ _ _ q2)⟩
    obtain ⟨q3, ow3⟩ := q3
    have wv' : L2.wipe σ' (own.map (·.2)) = L2.wipe σ (own.map (·.2)) := (wv _ hsub).trans (wipe_wipe _ _)
    refine ⟨wv', G0, H0, G3, ρ', xcNo, R', tieNo, mt _ _ _ _ (fun t q4 G4 H4 x4 => ?_) q3⟩
    have x34 := x3.trans x4
    have n4 : ∀ a, H1 a ≠ none → G1 a = none → G4 a = none := fun a ha hg' => x34.gn a (Same.nn h2 ha) (n2 a ha hg')
    cases t with
    | true =>
      rw [if_pos rfl] at q4
      refine iteT ?_
      have R4 := R'.ext x4
      refine ⟨G0, H0, G4, ρ', xcNo, R4, tieNo, mi _ _ _ _ (fun items1 q5 G5 H5 J1 x5 wk1 => ?_) q4⟩
      have x35 := x34.trans x5
      have R5 := R4.ext x5
      obtain ⟨ρv, ev, Rv⟩ := R5.wipe vs1
      have ev' : wipeD ρ' vs1 = ρv := ev.symm
      rw [ev'] at q5
      have nDv : ∀ (j : Nat) (e : D), ρv[j]? = some (.ow e) → (L2.wipe σ' vs1)[j]? ≠ some (some (.ref D')) := fun j d' hj hs => by
        rw [← ev'] at hj
        obtain ⟨hj1, hj2⟩ := wipeD_ow hj
        have hj3 := ow3 _ _ hj2
        have hno : j ∉ own.map (·.2) := by
          rw [← ew'] at hj3
          exact (wipeD_ow hj3).1
        refine nDw j d' hj3 ?_
        have a1 := wipe_at σ' vs1 j
        rw [if_neg hj1] at a1
        have a2 := wipe_at σ' (own.map (·.2)) j
        rw [if_neg hno] at a2
        rw [← wv', a2, ← a1]
        exact hs
      have e5 : H5 D' = some (.lst vs) := x35.hh _ _ eD
      have g5 : G5 D' = none := x35.gn D' (by rw [eD]; simp) gD
      have n5 : ∀ a, H1 a ≠ none → G1 a = none → G5 a = none := fun a ha hg' => x5.gn a (Same.nn (h2.trans x34.hh) ha) (n4 a ha hg')
      refine ⟨fun j k H6 => k = items1.length - j ∧ j ≤ items1.length ∧ ∃ G6 vs6 acc6, Same G5 G6 ∧ Same H1 H6 ∧ (∀ a, H1 a ≠ none → G1 a = none → G6 a = none) ∧ G6 D' = none ∧ H6 D' = some (.lst vs6) ∧ Rps X.K G6 acc6 vs6 ∧ Rel X.K G0 H0 G6 ρw (L2.wipe σ (own.map (·.2))) H6 ∧ Rel X.K G0 H0 G6 ρv (L2.wipe σ' vs1) H6 ∧
        lcW g1 tt1 we ρv (fun acc' => lc2W g tt wi1 vs1 g1 tt1 we ρw (fun acc => ∀ G' H' v, Ext G H G' H' → RvK X.K .f H G' H' (.lst acc) v → Q v H') (items.drop (i + 1)) acc') (items1.drop j) acc6, ⟨_, rfl, Nat.zero_le _, G5, vs, acc, Same.refl _, h2.trans x35.hh, n5, g5, e5, ra.mono x35.gg, R2.ext x35, Rv, q5⟩, ?_⟩
      rintro j k H6 ⟨rfl, hj', G6, vs6, acc6, s6, h6, n6, gD6, eD6, ra6, R6, Rv6, q6⟩
      by_cases hlt1 : j < items1.length
      · have ed1 : items1.drop j = items1[j] :: items1.drop (j + 1) := List.drop_eq_getElem_cons hlt1
        rw [ed1] at q6
        refine .inr ⟨wk1.go j G6 H6 hlt1 s6 Rv6.gh, _, fun H' q7 => ⟨items1.length - (j + 1), by omega, rfl, hlt1, q7⟩, fun x H7 y => ?_⟩
        obtain ⟨G7, d7, x7, hd7, rd7⟩ := wk1.yld j G6 H6 x H7 hlt1 s6 Rv6.gh y
        rw [List.getElem?_eq_getElem hlt1] at hd7
        cases hd7
        refine ⟨G0, H0, G7, ρv, _, Rv6.ext x7, rd7, mg1 _ _ _ _ (fun ρ'' q7 σ'' R'' wv1 => ?_) q6⟩
        refine ⟨(wv1 _ hsub1).trans (wipe_wipe _ _), G0, H0, G7, ρ'', xcNo, R'', tieNo, mt1 _ _ _ _ (fun t q8 G8 H8 x8 => ?_) q7⟩
        have x78 := x7.trans x8
        have n8 : ∀ a, H1 a ≠ none → G1 a = none → G8 a = none := fun a ha hg' => x78.gn a (Same.nn h6 ha) (n6 a ha hg')
        cases t with
        | true =>
          rw [if_pos rfl] at q8
          refine iteT ?_
          refine ⟨G0, H0, G8, ρ'', xcNo, R''.ext x8, tieNo, me _ _ _ _ (fun yd q9 G9 H9 v x9 r9 => ?_) q8⟩
          have x79 := x78.trans x9
          have e9 : H9 D' = some (.lst vs6) := x79.hh _ _ eD6
          have g9 : G9 D' = none := x79.gn D' (by rw [eD6]; simp) gD6
          refine ⟨vs6, e9, by rw [← ra6.length]; exact q9.1, G9, vs6 ++ [v], acc6 ++ [yd], s6.trans x79.gg, fun b ob hb => ?_, fun a ha hg' => x9.gn a (Same.nn (h6.trans x78.hh) ha) (n8 a ha hg'), g9, upd_same, (ra6.mono x79.gg).append (.cons r9 .nil), (R6.ext x79).chgX (fun _ _ _ z => by rw [e9] at z; cases z) g9 hD0 nDw, (Rv6.ext x79).chgX (fun _ _ _ z => by rw [e9] at z; cases z) g9 hD0 nDv, q9.2⟩
          rw [upd_ne (ne_of_none hb hD)]
          exact x79.hh _ _ (h6 _ _ hb)
        | false =>
          rw [if_neg Bool.false_ne_true] at q8
          refine iteF ?_
          exact ⟨G8, vs6, acc6, s6.trans x78.gg, h6.trans x78.hh, n8, x78.gn D' (by rw [eD6]; simp) gD6, x78.hh _ _ eD6, ra6.mono x78.gg, R6.ext x78, Rv6.ext x78, q8⟩
      · have e : j = items1.length := by omega
        subst e
        rw [List.drop_length] at q6
        exact .inl ⟨wk1.stop G6 H6 s6 Rv6.gh, G6, vs6, acc6, (s2.trans x35.gg).trans s6, h6, n6, gD6, eD6, ra6, R6, q6⟩
    | false =>
      rw [if_neg Bool.false_ne_true] at q4
      refine iteF ?_
      exact ⟨G4, vs, acc, s2.trans x34.gg, h2.trans x34.hh, n4, x34.gn D' (by rw [eD]; simp) gD, x34.hh _ _ eD, ra.mono x34.gg, R2.ext x34, q4⟩
  · have e : i = items.length := by omega
    subst e
    rw [List.drop_length] at q2
    refine .inl ⟨wk.stop G2 H2 s2 R2.gh, ?_⟩
    exact q2 G2 H2 (.ref D') (x1.trans ⟨s2, h2, R2.gh, n2⟩) ⟨D', _, rfl, x1.hh.free hD, eD, ra, gD⟩
/-- [elt for target in iter if .. for target1 in iter1 if ..] -/
theorem ej_comp2 {tg iter tg1 iter1 elt : Expr} {ifs ifs1 : List Expr} {scope : Scope} {own : List (Str × Nat)} {wi wi1 : Wa} {tgs tgs1 : List Nat} {g g1 : Wg} {tt tt1 : Wt} {we : Wx} (hc : X.calm = true) (hN : X.N.Nodup) (ok : BlkOk X.N X.env.scope scope own)
    (hi : IJ E X tg iter wi) (hsub : ∀ t ∈ tgs, t ∈ own.map (·.2)) (hsub1 : ∀ t ∈ tgs1, t ∈ own.map (·.2)) (gd : GDa g)
    (hg : ∀ (s : Shared) (H : Hp) (C : Addr) (cl : List (Str × Addr)) (fp : List Addr), GJ (X.blk s H scope (compEnvC scope cl C X.env) fp) tg tgs g)
    (ht : ∀ (s : Shared) (H : Hp) (C : Addr) (cl : List (Str × Addr)) (fp : List Addr), TsJ E0 (X.blk s H scope (compEnvC scope cl C X.env) fp) ifs tt)
    (hi1 : ∀ (s : Shared) (H : Hp) (C : Addr) (cl : List (Str × Addr)) (fp : List Addr), IJ E0 (X.blk s H scope (compEnvC scope cl C X.env) fp) tg1 iter1 wi1)
    (hg1 : ∀ (s : Shared) (H : Hp) (C : Addr) (cl : List (Str × Addr)) (fp : List Addr), GJ (X.blk s H scope (compEnvC scope cl C X.env) fp) tg1 tgs1 g1)
    (ht1 : ∀ (s : Shared) (H : Hp) (C : Addr) (cl : List (Str × Addr)) (fp : List Addr), TsJ E0 (X.blk s H scope (compEnvC scope cl C X.env) fp) ifs1 tt1)
    (he : ∀ (s : Shared) (H : Hp) (C : Addr) (cl : List (Str × Addr)) (fp : List Addr), EJ .e E0 (X.blk s H scope (compEnvC scope cl C X.env) fp) elt we)
    (hs : ∀ x, foldedSetIterable iter X.env x = pure x := by intro _; rfl) (hs1 : ∀ env x, foldedSetIterable iter1 env x = pure x := by intro _ _; rfl) : EJ .f E X (.ListComp elt [⟨tg, iter, ifs, 0⟩, ⟨tg1, iter1, ifs1, 0⟩] scope pos) (wLc2 wi g tt wi1 tgs1 g1 tt1 we (own.map (·.2))) := by
  have A := hg s00 (fun _ => none) s00.heap.objs.size [] []
  have B := ht s00 (fun _ => none) s00.heap.objs.size [] []
  have C1 := hi1 s00 (fun _ => none) s00.heap.objs.size [] []
  have A1 := hg1 s00 (fun _ => none) s00.heap.objs.size [] []
  have B1 := ht1 s00 (fun _ => none) s00.heap.objs.size [] []
  have F1 := he s00 (fun _ => none) s00.heap.objs.size [] []
  exact ⟨(pe_lc2 (vs1 := tgs1) (g := liftG X.K tgs g) (tt := liftT X.K E0 tt) (wi1 := liftI X.K E0 wi1) (g1 := liftG X.K tgs1 g1) (tt1 := liftT X.K E0 tt1) (te := liftW X.K E0 .e we) hc hN hi.pi ok hsub1 (fun s H C cl fp => (hg s H C cl fp).pg) (fun s H C cl fp => (ht s H C cl fp).pt) (fun s H C cl fp => (hi1 s H C cl fp).pi) (fun s H C cl fp => (hg1 s H C cl fp).pg) (fun s H C cl fp => (ht1 s H C cl fp).pt) (fun s H C cl fp => (he s H C cl fp).pe) hs hs1).imp fun σ H Q h => lc2_imp hi hsub (fun _ h => h) gd A.mo B.mo C1.mo A1.mo B1.mo F1.mo σ H Q h,
    fun xc ρ Q Q' i q => hi.mo _ _ _ _ (fun items q => lc2W_mo A.mo B.mo C1.mo A1.mo B1.mo F1.mo (fun d q => i _ q) _ _ q) q⟩
end
end Tw

/-! Tw, part T: dicts with single keys. -/
namespace Tw
open PySem PySem.Spec L2 PyProof.Rows
section
variable {K : PySem.W.Frag}
theorem rks_any {G : Hp} (k : Key) : ∀ {ds : List (Key × D)} {vs : List (Key × V)}, Rks K G ds vs → (vs.any fun kv => decide (kv.1 = k)) = hasD ds k
  | _, _, .nil => rfl
  | _, _, .cons h r => by
    have := rks_any k r
    unfold hasD at this ⊢
    simp only [List.any_cons, this]
theorem rks_app {G : Hp} : ∀ {ds es : List (Key × D)} {vs ws : List (Key × V)}, Rks K G ds vs → Rks K G es ws → Rks K G (ds ++ es) (vs ++ ws)
  | _, _, _, _, .nil, q => q
  | _, _, _, _, .cons h r, q => .cons h (rks_app r q)
theorem rks_map {G : Hp} {k : Key} {d : D} {v : V} (hv : Rp K G d v) : ∀ {ds : List (Key × D)} {vs : List (Key × V)}, Rks K G ds vs → Rks K G (ds.map fun kv => if kv.1 = k then (kv.1, d) else kv) (vs.map fun kv => if kv.1 = k then (kv.1, v) else kv)
  | _, _, .nil => .nil
  | _, _, .cons (f := f) h r => by
    simp only [List.map_cons]
    by_cases e : f = k
    · simp only [e, if_true]; exact .cons hv (rks_map hv r)
    · simp only [e, if_false]; exact .cons h (rks_map hv r)
theorem rks_put {G : Hp} {k : Key} {d : D} {v : V} (hv : Rp K G d v) {ds : List (Key × D)} {vs : List (Key × V)} (r : Rks K G ds vs) : Rks K G (putDk ds k d) (putK vs k v) := by
  unfold putDk putK
  rw [rks_any k r]
  split
  · exact rks_map hv r
  · exact rks_app r (.cons hv .nil)
theorem rks_keys {G : Hp} : ∀ {ds : List (Key × D)} {vs : List (Key × V)}, Rks K G ds vs → vs.map (·.1) = ds.map (·.1)
  | _, _, .nil => rfl
  | _, _, .cons h r => by rw [List.map_cons, List.map_cons, rks_keys r]
end
/-- d[k] = v, d an own dict -/
def sPutK (i : Nat) (wk wv : Wx) : Ws := fun Z ρ => ∃ kvs, ρ[i]? = some (.ow (.dK kvs)) ∧ wv Z.xc ρ fun v => wk Z.xc ρ fun y => ∃ k : Key, y = kD k ∧ kvs.length < sizeLine ∧ Z.nx (ρ.set i (.ow (.dK (putDk kvs k v))))
/-- k in d -/
def wInK (neg : Bool) (wk wd : Wx) : Wx := fun xc ρ Q => wk xc ρ fun y => wd xc ρ fun x => ∃ kvs k, x = .dK kvs ∧ y = kD k ∧ Q (.bl (if neg = true then !hasD kvs k else hasD kvs k))
/-- sorted(d), its keys whole numbers -/
def wSortDI (w : Wx) : Wx := fun xc ρ Q => w xc ρ fun d => ∃ (kvs : List (Key × D)) (ks : List Int), d = .dK kvs ∧ kvs.map (·.1) = ks.map Sum.inl ∧ ks.length < 64 ∧ ∀ ms : List Int, ms.Perm ks → ms.Pairwise (· ≤ ·) → Q (.lst (ms.map .int))
section
variable {X : Cx} {E : XK} {n e a b : Expr} {w wa wb : Wx} {i : Nat} {k ka kb : Kd} {pos pos' p : Pos}
theorem rp_keyO {K : PySem.W.Frag} {G H : Hp} {k : Key} {v : V} (h : RvO K G H (kD k) v) : v = kV k := by
  cases k with
  | inl i => exact rvO_int h
  | inr x => exact rvO_str h
theorem sj_dputK (hu : X.A.units + 1 < cLine) (hv : PE X n (tVar i)) (hk : EJ k E X a wa) (hb : EJ .e E X b wb) (hs : swapsWith b (some (.Subscript n a pos')) pos.line X.env = pure false := by rfl) :
    SJ E X (.Assign [.Subscript n a pos'] b pos) (sPutK i wa wb) :=
  ⟨(ps_dput hu hv hk.pe hb.pe hs).imp fun D' σ H ⟨G0, H0, G, ρ, Z, R, T, kvs, hi, q⟩ => by
    obtain ⟨l, o, e1, e2, t, gl, hl⟩ := R.sl i _ hi
    cases o <;> first | exact t.elim | skip
    rename_i vk
    have t' : Rks X.K G kvs vk := t
    refine ⟨G0, H0, G, ρ, Z.xc, R, T.xc, hb.mo _ _ _ _ (fun d q1 G1 H1 v x1 r1 => ?_) q⟩
    refine ⟨_, e1, G0, H0, G1, ρ, Z.xc, R.ext x1, T.xc, hk.mo _ _ _ _ (fun y ⟨kk, ey, z, q2⟩ G2 H2 vy x2 r2 => ?_) q1⟩
    subst ey
    have x12 := x1.trans x2
    have hlen : vk.length = kvs.length := by have := congrArg List.length (rks_keys t'); simpa using this
    refine ⟨l, _, rfl, .inl ⟨vk, kk, x12.hh _ _ e2, rp_keyO r2.o, by rw [hlen]; exact z, rfl⟩, ?_⟩
    exact T.nx _ _ _ _ ((R.ext x12).chg hi e1 (show Top X.K G2 (.dK (putDk kvs kk d)) (.dK (putK vk kk v)) from rks_put (r1.mono x2.gg) (t'.mono x12.gg))) x12.gg q2⟩
theorem dk_of {K : PySem.W.Frag} {G H : Hp} {kvs : List (Key × D)} {v : V} (g : Same G H) (h : RvO K G H (.dK kvs) v) : ∃ l vk, v = .ref l ∧ H l = some (.dK vk) ∧ Rks K G kvs vk := by
  rcases h with h | ⟨l, o, rfl, e2, t⟩
  · cases h with | dK hl t => exact ⟨_, _, rfl, g _ _ hl, t⟩
  · cases o <;> first | exact t.elim | exact ⟨l, _, rfl, e2, t⟩
theorem wInK_mo {neg : Bool} {wk wd : Wx} (hk : ∀ xc ρ (Q Q' : D → Prop), (∀ d, Q d → Q' d) → wk xc ρ Q → wk xc ρ Q') (hd : ∀ xc ρ (Q Q' : D → Prop), (∀ d, Q d → Q' d) → wd xc ρ Q → wd xc ρ Q') {xc : XC} {ρ : Evn} {Q Q' : D → Prop} (i : ∀ d, Q d → Q' d) (q : wInK neg wk wd xc ρ Q) : wInK neg wk wd xc ρ Q' :=
  hk _ _ _ _ (fun y q => hd _ _ _ _ (fun x ⟨kvs, ks, ex, ey, q⟩ => ⟨kvs, ks, ex, ey, i _ q⟩) q) q
theorem tj_dninK (hu : X.A.units + 1 < cLine) (ha : EJ ka E X a wa) (hb : EJ kb E X b wb) (h1 : behindInMarks .NotIn b = false := by rfl) : TJ E X (.Compare a [.NotIn] [b] pos) (wB (wInK true wa wb)) := by
  refine ⟨(pt_cmp (pc_dnotin hu ha.pe hb.pe) h1).imp fun σ H Q ⟨G0, H0, G, ρ, xc, R, T, q⟩ => ⟨G0, H0, G, ρ, xc, R, T, ha.mo _ _ _ _ (fun y q1 G1 H1 vy x1 r1 => ?_) q⟩, fun xc ρ Q Q' i q => wInK_mo ha.mo hb.mo (fun d ⟨bb, eb, q⟩ => ⟨bb, eb, i _ q⟩) q⟩
  refine ⟨G0, H0, G1, ρ, xc, R.ext x1, T, hb.mo _ _ _ _ (fun x ⟨kvs, k, ex, ey, bb, ebb, q2⟩ G2 H2 xv x2 r2 => ?_) q1⟩
  subst ex ey
  obtain ⟨l, vk, rfl, hl, t⟩ := dk_of x2.gh r2.o
  cases ebb
  rw [if_pos rfl, ← rks_any k t, valV_any] at q2
  exact ⟨l, _, rfl, .inl ⟨vk, k, .inl hl, rp_keyO (r1.o), rfl⟩, _, rfl, q2 G2 H2 (x1.trans x2)⟩
theorem ej_sortDI (hg : Gl X "sorted") (hm : X.mg "sorted" = none) (ha : EJ k E X a w) (hc : X.calm = true := by rfl) (hst : starEach [a] X.env = (false, eval a X.env) :: starEach [] X.env := by rfl) : EJ .f E X (.Call (.Name "sorted" p) [a] [] pos) (wSortDI w) := by
  refine ⟨(pe_callB (call_sortedDI hc) hg hm rfl (pa_cons ha.pe pa_nil hst) (by decide) (by decide) hst rfl).imp fun σ H Q ⟨G0, H0, G, ρ, xc, R, T, q⟩ => ⟨G0, H0, G, ρ, xc, R, T, ha.mo _ _ _ _ (fun d ⟨kvs, ks, ed, ek, hl, q1⟩ G1 H1 v x1 r1 => ?_) q⟩,
    fun xc ρ Q Q' i q => ha.mo _ _ _ _ (fun d ⟨kvs, ks, ed, ek, hl, q⟩ => ⟨kvs, ks, ed, ek, hl, fun ms h1 h2 => i _ (q ms h1 h2)⟩) q⟩
  subst ed
  obtain ⟨l, vk, rfl, hH, t⟩ := dk_of x1.gh r1.o
  refine ⟨l, vk, ks, rfl, .inl hH, by rw [rks_keys t, ek], hl, fun ms p h1 h2 hp => ?_⟩
  have x2 := Ext.newH (o := .lst (ms.map V.int)) x1.gh hp
  exact q1 ms h1 h2 _ _ _ (x1.trans x2) ⟨p, _, rfl, x1.hh.free hp, upd_same, ints_rps ms, x1.gh.free hp⟩
end
end Tw

/-! Tw, part T16: sorted(set(x)), x a list or a tuple of ints. -/
namespace Tw
open PySem PySem.Spec L2 PyProof.Rows
theorem sub_tuple_set : isSubtype (.type "tuple") (.type "set") = pure false := by rw [isSubtype_type]; kernel_rfl
theorem sub_tuple_frozenset : isSubtype (.type "tuple") (.type "frozenset") = pure false := by rw [isSubtype_type]; kernel_rfl
section
variable {P : Program} {w : World} {A : Around} {E : Value → Shared → Prop} {s : Shared}
set_option maxHeartbeats 3200000 in
/-- set(t) of a tuple of ints -/
theorem call_setIT {l : Addr} {items : Array Value} (ns : List Int) {Q : Value → Shared → Prop} (hh : A.handled = none) (il : s.heap.IsTuple l items) (ii : IntsAre items.toList ns) (few : few64 ns)
    (h : ∀ (h' : Heap) (tk : Nat) m, m < 64 → SetR w h' s.heap.objs.size (fun k => decide (k ∈ ns)) m → (∀ b o, s.heap.get? b = some o → h'.get? b = some o) → Q (.ref s.heap.objs.size) { s with heap := h', toks := tk }) :
    wpAny (model P w) A (call (.type "set") [.ref l]) Q E s := by
  have sz : items.size = ns.length := by
    have q := ii.length
    rw [Array.length_toList] at q
    exact q
  obtain ⟨c, tl, hmro⟩ := F.called_set.mro
  have c1 := F.called_set.made
  have c2 := F.called_set.sub
  refine wpAny_call (codeAny_of_tree ?_)
  show wpAny _ _ (callAny (.type "set") _) _ _ _
  refine wpAny_pure ⟨Code.quiet_builtin _ (by decide +kernel), codeAny_builtin F.entry_type_call ?_⟩
  rw [Around.under_plain (weight_type_call_type "set" [.ref l] []) rfl]
  have c3 := F.called_set.notType
  have c4 := F.called_set.canCreate
  have c5 := F.typeCall_set_1 (.ref l)
  repeat (any_goals (first | assumption | wp_step))
  refine codeAny_mono (code_set_led1 (.ref l) (E := E) (Q₁ := fun obj s₁ => obj = .ref s.heap.objs.size ∧ s₁ = { s with heap := s.heap.push (fresh0 w) }) ⟨rfl, rfl⟩) fun r s₁ hr => ?_
  cases r with
  | error e => exact hr
  | ok fl =>
    cases fl with
    | ret obj =>
      obtain ⟨rfl, rfl⟩ := hr
      have hS : (s.heap.push (fresh0 w)).get? s.heap.objs.size = some (fresh0 w) := Heap.get?_push_size _ rfl
      have hT : Shared.TypeIs { s with heap := s.heap.push (fresh0 w) } (.ref s.heap.objs.size) "set" := ⟨_, hS, rfl⟩
      have c6 := F.called_set.init.lookup
      have c7 := F.called_set.init.bind (.ref s.heap.objs.size)
      repeat (any_goals (first | assumption | wp_step))
      refine codeAny_mono (codeAny_call_builtin (R := wants (fun r s₂ => r = .none ∧ ∃ h' tk m, s₂ = { s with heap := h', toks := tk } ∧ m < 64 ∧ SetR w h' s.heap.objs.size (fun k => decide (k ∈ ns)) m ∧
          (∀ b o, s.heap.get? b = some o → h'.get? b = some o)) E) F.called_set.init.plain F.entry_set_init (check_set_init_1 hT ?_)) fun r₂ s₂ hr₂ => ?_
      · obtain ⟨ol, hol, hcl, nl, hdl⟩ := il
        obtain ⟨ocls, odict, odata, oslots⟩ := ol
        simp only at hcl hdl
        subst hcl; subst hdl
        have hol' : (s.heap.push (fresh0 w)).get? l = some { cls := .type "tuple", dict := odict, data := .seq items nl, slots := oslots } := Heap.get?_push_of_some _ hol
        have d1 := sub_tuple_set
        have d2 := sub_tuple_frozenset
        have d3 : (Value.type "tuple" == Value.type "dict") = false := by decide
        have hl1 : (s.heap.push (fresh0 w)).IsTuple l items := ⟨_, hol', rfl, nl, rfl⟩
        unfold Builtin.«set.__init__» noKeywords Builtin.Frozenset.updateFrom
        generalize hPI : pyIter = PI
        wp_walk
        subst hPI
        refine wpAny_pyIter_tuple hl1 ?_
        refine wpAny_bind (wpAny_runValue ?_)
        have ls : l < s.heap.objs.size := Heap.lt_size hol
        have hh3 : A.in1.in1.in1.handled = none := by simp [hh]
        have nI : l ≠ (s.heap.push (fresh0 w)).objs.size := by
          rw [Heap.size_push]
          exact Nat.ne_of_lt (Nat.lt_succ_of_lt ls)
        have nf : s.heap.objs.size ∉ [(s.heap.push (fresh0 w)).objs.size, l] := by
          rw [Heap.size_push]; simp only [List.mem_cons, List.not_mem_nil, or_false, not_or]
          exact ⟨Nat.ne_of_lt (Nat.lt_succ_self _), Nat.ne_of_gt ls⟩
        have val : ∀ (i : Nat) (v : Value), items[i]? = some v → ∃ k t, ns[i]? = some k ∧ v = .int k t := fun i v hv => by
          have q : items.toList[i]? = some v := by rw [Array.getElem?_toList]; exact hv
          have lt2 : i < ns.length := by
            rw [← sz]; exact (Array.getElem?_eq_some_iff.mp hv).1
          obtain ⟨t, e⟩ := ii.int_at i v q
          exact ⟨ns.getD i 0, t, by rw [List.getD_eq_getElem?_getD, List.getElem?_eq_getElem lt2]; rfl, e⟩
        have nn : ∀ b, s.heap.objs.size ≤ b → s.heap.get? b = none := fun b hb => by
          cases q : s.heap.get? b with
          | none => rfl
          | some o => exact absurd (Nat.lt_of_lt_of_le (Heap.lt_size q) hb) (Nat.lt_irrefl _)
        refine upd_ints ((Walks.tuple hh3 _ l nI items).toS) s.heap.objs.size nf ns sz few val s.heap (nn _ (Nat.le_refl _)) (fun b hb => nn b (by
            rw [List.mem_singleton.mp hb, Heap.size_push]
            exact Nat.le_succ _)) (items.size - 0) 0 _ (by omega) (Nat.zero_le _)
          ⟨⟨_, Heap.get?_push_size _ rfl, rfl, rfl⟩, (hl1.push _)⟩ (fun b o e => Heap.get?_push_of_some _ (Heap.get?_push_of_some _ e)) ?hS0 ?hR
        case hS0 =>
          refine ⟨0, ⟨[], List.nodup_nil, rfl, fun _ q => by cases q⟩, ((setR_fresh (h := s.heap) w).at fun o e => Heap.get?_push_of_some _ e).congr fun k => by simp⟩
        case hR =>
          intro s' m mv hm hz kp
          obtain ⟨h', g2, d', tk', os'⟩ := s'
          have eg : g2 = s.gens := mv.gens
          have ed : d' = s.drawn := mv.drawn
          have eo : os' = s.os := mv.os
          subst eg; subst ed; subst eo
          show wpAny _ _ _ _ _ _
          refine wpAny_pure ?_
          show wpAny _ _ (ret Value.none) _ _ _
          have hm := mOf_lt few hm
          have et : ns.take items.size = ns := by rw [sz, List.take_length]
          rw [et] at hz
          exact wpAny_pure ⟨rfl, h', tk', m, rfl, hm, hz, kp⟩
      · cases r₂ with
        | error e => exact hr₂
        | ok fl₂ =>
          cases fl₂ with
          | ret r =>
            obtain ⟨rfl, h', tk, m, rfl, hm, hz, kp⟩ := hr₂
            repeat (any_goals (first | assumption | wp_step))
            exact h _ _ _ hm hz kp
          | _ => exact hr₂.elim
    | _ => exact hr.elim
end
section
variable {X : Cx} {E : XK} {a : Expr} {w : Wx} {k : Kd} {pos p : Pos}
def rSetIT (K : PySem.W.Frag) (w : World) : List V → Hp → VK → Prop := fun xs H Q => ∃ (l : Addr) (ns : List Int), xs = [V.ref l] ∧ SqT K H l (ns.map V.int) ∧ ns.length < 64 ∧
  ∀ p m, H p = none → m < 64 → Q (.ref p) (upd H p (SetO w p (fun k => decide (k ∈ ns)) m))
theorem cr_setIT (hc : X.calm = true) : CallR X (.type "set") (rSetIT X.K X.w) := by
  intro pins s σ H xs us Q I r h
  obtain ⟨l, ns, rfl, hl, few, q⟩ := h
  rw [Vals.ref1 r]
  obtain ⟨its, rv, pl, hz⟩ := I.tuple hl
  have hn : H s.heap.objs.size = none := I.hok.fresh (Nat.le_refl _)
  refine call_setIT ns (I.ok.hd hc) (show s.heap.IsTuple _ its.toArray from pl) (by simpa using ints_of_vals rv) (few_of few) fun h' tk m hm R kp => ?_
  exact ⟨.ref s.heap.objs.size, _, I.laid (t' := tk) kp (Nat.le_refl _) (setO_new R), rfl, q _ m hn hm⟩
end
end Tw

/-! what the defs of k06 keep -/
namespace Tw.S
open PySem PySem.Spec L2 PyProof.Rows Tw
def badB (n : Nat) (x : Int) : Bool := !(decide (0 ≤ x) && decide (x < n))
def firstBad (n : Nat) (l : List Int) : Option Int := l.find? (badB n)
/-- what one comes to along R from S, never to a barred one -/
inductive Rch (R : Nat → Nat → Bool) (bar S : Int → Prop) : Nat → Prop
  | st {v : Nat} : S v → ¬bar v → Rch R bar S v
  | go {u v : Nat} : Rch R bar S u → R u v = true → ¬bar v → Rch R bar S v
/-- r lists the places of which p holds -/
def Lists (n : Nat) (p : Nat → Prop) (r : List Int) : Prop := isSet r n = true ∧ ∀ v : Nat, v < n → ((v : Int) ∈ r ↔ p v)
def RR (n : Nat) (R : Nat → Nat → Bool) : Nat → Nat → Bool := fun u v => decide (u < n) && decide (v < n) && R u v
def reachP (n : Nat) (R : Nat → Nat → Bool) (s b : List Int) : Nat → Prop := Rch (RR n R) (fun x => x ∈ b) (fun x => x ∈ s)
def beatN (c : Nat) (b : Int) : Nat := (b % (c : Int)).toNat
def wf_reached (C : Addr) : Wf := fun _ ds Q => ∃ (t t' : Bool) (names : List Str) (c : Nat) (L : Psg) (b : Int) (s bar : List Int), ds = [webP C names c L, .int b, hD t (s.map .int), hD t' (bar.map .int)] ∧ names.length ≤ 8 ∧ 1 ≤ c ∧ c ≤ 4 ∧ s.length ≤ 100 ∧ bar.length ≤ 100 ∧ firstBad names.length s = none ∧
  ∀ r : List Int, Lists names.length (reachP names.length (L (beatN c b)) s bar) r → Q false (tI r)
def wf_law_reach : Wf := fun _ ds Q => ∃ (n b : Nat) (L : Psg) (s bar : List Int), ds = [l2 (rowT n L b), iL s, iL bar] ∧ n ≤ 8 ∧ s.length ≤ 60 ∧ bar.length ≤ 100 ∧ firstBad n s = none ∧ ∀ r : List Int, Lists n (reachP n (L b) s bar) r → Q true (iL r)
end Tw.S

namespace Tw.S
open PySem PySem.Spec L2 PyProof.Rows Tw
theorem mo_wf_reached {C : Addr} : MoF (wf_reached C) := fun xc ds Q Q' i ⟨v0, v1, v2, v3, v4, v5, v6, v7, c0, c1, c2, c3, c4, c5, c6, q⟩ => ⟨v0, v1, v2, v3, v4, v5, v6, v7, c0, c1, c2, c3, c4, c5, c6, (fun x1 => (fun x2 => i _ _ (((q x1) x2))))⟩
theorem hn_wf_reached {C : Addr} : ∀ ds xc Q, wf_reached C xc ds Q → ds.length = 4 := fun ds xc Q ⟨v0, v1, v2, v3, v4, v5, v6, v7, c0, c1, c2, c3, c4, c5, c6, q⟩ => by rw [c0]; rfl
theorem mo_wf_law_reach : MoF wf_law_reach := fun xc ds Q Q' i ⟨v0, v1, v2, v3, v4, c0, c1, c2, c3, c4, q⟩ => ⟨v0, v1, v2, v3, v4, c0, c1, c2, c3, c4, (fun x1 => (fun x2 => i _ _ (((q x1) x2))))⟩
theorem hn_wf_law_reach : ∀ ds xc Q, wf_law_reach xc ds Q → ds.length = 3 := fun ds xc Q ⟨v0, v1, v2, v3, v4, c0, c1, c2, c3, c4, q⟩ => by rw [c0]; rfl
end Tw.S

/-! Tw, part T17: own operators on two objects, static methods, tuple of a text. -/
namespace Tw
open PySem PySem.Spec L2 PyProof.Rows
section
variable {X : Cx} {E : XK} {a b o e : Expr} {es : List Expr} {w wa wb : Wx} {u : Wa} {k ka kb : Kd} {pos p apos : Pos}
/-! ### a & b by the class's own __and__ -/
/-! ### C.m(..), m a static method -/
structure SMet (K : PySem.W.Frag) (C : Addr) (m : Str) (f : Addr) : Prop where
  mc : ∃ mc, PySem.W.readsIn K C mc = true ∧ ∃ p, PySem.W.findCls K (.ref C) mc m = some (.get (.builtin "staticmethod.__get__") (.ref p) .none (.ref C)) ∧ ∃ rest, PySem.W.recIn K p "staticmethod" = some (.ref f :: rest)
  ga : PySem.W.specialIn K (.ref C) "__getattribute__" = some (some (.builtin "type.__getattribute__"))
  kp : PySem.W.keepIn K (.ref f) = true
structure SDef (P : Program) (w : World) (K : PySem.W.Frag) (mg : Str → Option Value) (base : Heap) (x : Str) (C : Addr) (m : Str) (n j : Nat) (wf : Wf) : Prop where
  ex : ∃ f fd ps, FnOk P w K mg base (L2.CX P w) j f fd ps (spOf K n wf) ∧ SMet K C m f ∧ Binds K fd ps []
  cn : mg x = some (.ref C)
  mo : MoF wf
  hn : ∀ ds xc Q, wf xc ds Q → ds.length = n
/-! ### tuple(z), z a text -/
end
section
variable {P : Program} {w : World} {K : PySem.W.Frag} {mg : Str → Option Value} {base : Heap}
structure AtS (K : PySem.W.Frag) (mg : Str → Option Value) (x : Str) (C : Addr) (m q : Str) (st : Stmt) (ps : List Str) : Prop where
  ex : ∃ f fd, Fun K m q st f fd ∧ SMet K C m f ∧ Binds K fd ps []
  cn : mg x = some (.ref C)
end
end Tw

/-! Tw, part T18: raise of an own error without fields; except without a name. -/
namespace Tw
open PySem PySem.Spec L2 PyProof.Rows
abbrev bmV : List Value := [.type "ValueError", .type "Exception", .type "BaseException", .type "object"]
structure Err0 (K : PySem.W.Frag) (mg : Str → Option Value) (x : Str) (C : Addr) : Prop where
  q : PySem.W.excIn K C bmV "ValueError.__new__" = true
  hm : mg x = some (.ref C)
  kC : PySem.W.keepIn K (.ref C) = true
  eB : PySem.W.subIn K (.ref C) (.type "BaseException") = some true
  tT : PySem.W.typeIn K (.ref C) = some (.type "type")
section
variable {X : Cx} {E : XK} {e : Expr} {w : Wx} {x : Str} {c : Value} {b₀ : Stmt} {suite : List Stmt} {p np pos pos' pos2 : Pos} {ok : Addr → Prop} {s : Ws} {C : Addr}
def hO (ok : Addr → Prop) (s : Ws) (Z : Pd) (ρ : Evn) : XC := fun C _ => ok C ∧ s Z ρ
theorem catch_goO {G0 H0 G H : Hp} {σ : L2.St} {D' : Ends} {Z : Pd} {ρ : Evn} (R : Rel X.K G0 H0 G ρ σ H) (T : Ties X.K G0 H0 G E D' Z) (hm : ∀ C, ok C → PySem.W.exmOne X.K (.ref C) c = some true) :
    TieX X.K G H (fun cls d H' => wOnly X.K c (fun _ _ _ => liftS X.K ETop s) (fun _ _ _ _ => False) D' cls d σ H') (hO ok s Z ρ) := by
  intro C fs G' H' dx x hd ⟨ho, q⟩
  exact ⟨true, hm C ho, fun _ a ha => ⟨G0, H0, G', _, _, R.ext x, ⟨fun ρ σ G2 H2 R2 s2 q2 => T.nx _ _ _ _ R2 (x.gg.trans s2) q2, T.rt, fun ρ σ G2 H2 R2 s2 q2 => T.bk _ _ _ _ R2 (x.gg.trans s2) q2, fun ρ σ G2 H2 R2 s2 q2 => T.ct _ _ _ _ R2 (x.gg.trans s2) q2, tieTop⟩, q⟩, fun z => Bool.noConfusion z⟩
end
end Tw

/-! Tw, part T19: list(range(n)), tuple(range(n)). -/
namespace Tw
open PySem PySem.Spec L2 PyProof.Rows
section
variable {X : Cx} {E : XK} {a : Expr} {w : Wx} {k : Kd} {pos p p2 q2 : Pos}
end
end Tw

/-! Tw, part T20: classes whose __iter__ gives iter of a tuple among their fields: list(o), for x in o. -/
namespace Tw
open PySem PySem.Spec L2 PyProof.Rows
/-- at it the iterator of the tuple at t, at its place i -/
def ItT (t it : Addr) (i : Nat) : HO := .ext fun h => h.IsTupleIter it t i
section
variable {X : Cx} {pins : List (Addr × Obj)} {σ : L2.St} {H : Hp} {s : Shared} {t it : Addr} {i : Nat}
/-- iter(e), e a tuple: the iterator is new -/
def rIterT (K : PySem.W.Frag) (n : Nat) : List V → Hp → VK → Prop := fun xs H Q => ∃ (t : Addr) (zs : List V), xs = [.ref t] ∧ SqT K H t zs ∧ ∀ it, H it = none → n ≤ it → Q (.ref it) (upd H it (ItT t it 0))
end
/-- what the body of such an __iter__ says -/
def tItB (K : PySem.W.Frag) (F : Str) (n : Nat) : TS := tRet (tCB (rIterT K n) (tCons (tFld K (tVar 0) F) tNil))
/-- __iter__ of the class at C gives iter(self.F) -/
structure OwnIt (P : Program) (w : World) (K : PySem.W.Frag) (mg : Str → Option Value) (base : Heap) (C : Addr) (F : Str) : Prop where
  ex : ∃ (f : Addr) (fd : FuncData) (q : Str) (st : Stmt), Fun K "__iter__" q st f fd ∧ Meth K C "__iter__" f ∧ Binds K fd ["self"] [] ∧ FnScope (["self"] : List Str) ["self"] (defScope st) ∧
    ∀ (cdv : Value) (A : Around) (outer : List Env) (s : Shared) (H : Hp) (E : XK), PSs (cxOf (L2.CX P w) P w K mg base (["self"] : List Str) q (defScope st) f cdv A outer s H E) (defBody st) (tItB K F s.heap.objs.size)
  cl : Cls K C
  na : NoAttr K C F
section
variable {P : Program} {w : World} {K : PySem.W.Frag} {mg : Str → Option Value} {base : Heap}
end
section
variable {X : Cx} {pins : List (Addr × Obj)} {σ : L2.St} {H : Hp} {s : Shared} {C a dx t : Addr} {F : Str} {vf : List (Str × V)} {zs : List V} {A1 : Around} {n : Nat}
end
section
variable {X : Cx} {E : XK} {e a b c o : Expr} {es : List Expr} {w wa wb : Wx} {u : Wa} {k ka kb : Kd} {pos p apos : Pos}
/-! ### list(o) -/
/-! ### for x in o -/
/-! ### x in o by the class's own __contains__ -/
end
section
variable {P : Program} {w : World} {K : PySem.W.Frag} {mg : Str → Option Value} {base : Heap}
end
end Tw

/-! Tw, part T21: try with several clauses, each with a name or without. -/
namespace Tw
open PySem PySem.Spec L2 PyProof.Rows
/-- a clause: the class it names, its name's slot (if any), its suite -/
structure Cl where
  c : Value
  i : Option Nat
  ts : Addr → Value → Option Addr → TS
def Cl.ends (k : Cl) (D : Ends) : Ends := match k.i with
  | none => D
  | some i => { D with nx := fun σ H => D.nx (σ.set i none) H, bk := fun σ H => D.bk (σ.set i none) H, ct := fun σ H => D.ct (σ.set i none) H }
def Cl.ent (k : Cl) (a : Addr) (σ : L2.St) : L2.St := match k.i with
  | none => σ
  | some i => σ.set i (some (.ref a))
/-- what such clauses wish of an error of the body; one that none of them takes does not come -/
def wMix (K : PySem.W.Frag) (D : Ends) : List Cl → WX
  | [] => fun _ _ _ _ => False
  | k :: r => fun cls d σ H => ∃ b, PySem.W.exmOne K cls k.c = some b ∧ (b = true → ∀ a, H a = none → k.ts a cls d (k.ends D) (k.ent a σ) H) ∧ (b = false → wMix K D r cls d σ H)
inductive ClsOk (X : Cx) : List ExceptHandler → List Cl → Prop
  | nil : ClsOk X [] []
  | one {x : Str} {k : Cl} {b₀ : Stmt} {suite : List Stmt} {np pos' : Pos} {hds : List ExceptHandler} {l : List Cl} (nm : Names X x k.c) (hi : k.i = none)
      (su : ∀ (a : Addr) (oe : Obj) (cls : Value) (d : Option Addr) (pn : List (Addr × Obj)), Zc cls d oe → (∃ vs, oe.data = .fields vs) → PSs (X.suite a ((a, oe) :: pn)) (b₀ :: suite) (k.ts a cls d)) (r : ClsOk X hds l) :
      ClsOk X (.ExceptHandler (some (.Name x np)) none (b₀ :: suite) pos' :: hds) (k :: l)
  | as {x n : Str} {k : Cl} {i : Nat} {b₀ : Stmt} {suite : List Stmt} {np pos' : Pos} {hds : List ExceptHandler} {l : List Cl} (nm : Names X x k.c) (hi : k.i = some i) (hN : X.N.Nodup) (hn : X.N[i]? = some n) (hl : X.env.kindOf n = some .local)
      (su : ∀ (a : Addr) (oe : Obj) (cls : Value) (d : Option Addr) (pn : List (Addr × Obj)), Zc cls d oe → (∃ vs, oe.data = .fields vs) → PSs (X.suite a ((a, oe) :: pn)) (b₀ :: suite) (k.ts a cls d)) (r : ClsOk X hds l) :
      ClsOk X (.ExceptHandler (some (.Name x np)) (some n) (b₀ :: suite) pos' :: hds) (k :: l)
section
variable {X : Cx} {body : List Stmt} {h₀ : ExceptHandler} {hds : List ExceptHandler} {l : List Cl} {pos : Pos} {tb : WX → TS}
end
/-! ### in data -/
/-- a clause in data: the classes that it takes, those that it passes on, its name's slot, its suite -/
inductive Ck where
  | one (ok no : Addr → Prop) (w : Ws)
  | as (ok no : Addr → Prop) (i : Nat) (s : Addr → Value → Option Addr → Ws)
def hMix (Z : Pd) (ρ : Evn) : List Ck → XC
  | [] => fun _ _ => False
  | .one ok no w :: r => fun C fs => (ok C ∧ w Z ρ) ∨ (no C ∧ hMix Z ρ r C fs)
  | .as ok no i s :: r => fun C fs => hX ok i s Z ρ C fs ∨ (no C ∧ hMix Z ρ r C fs)
inductive MJ (X : Cx) : List ExceptHandler → List Ck → Prop
  | nil : MJ X [] []
  | one {x : Str} {c : Value} {ok no : Addr → Prop} {w : Ws} {b₀ : Stmt} {suite : List Stmt} {np pos' : Pos} {hds : List ExceptHandler} {l : List Ck} (nm : Names X x c) (hm : ∀ C, ok C → PySem.W.exmOne X.K (.ref C) c = some true) (hn : ∀ C, no C → PySem.W.exmOne X.K (.ref C) c = some false)
      (su : ∀ (a : Addr) (oe : Obj) (cls : Value) (d : Option Addr) (pn : List (Addr × Obj)), Zc cls d oe → (∃ vs, oe.data = .fields vs) → BJ ETop (X.suite a ((a, oe) :: pn)) (b₀ :: suite) w) (r : MJ X hds l) :
      MJ X (.ExceptHandler (some (.Name x np)) none (b₀ :: suite) pos' :: hds) (.one ok no w :: l)
  | as {x n : Str} {c : Value} {ok no : Addr → Prop} {i : Nat} {s : Addr → Value → Option Addr → Ws} {b₀ : Stmt} {suite : List Stmt} {np pos' : Pos} {hds : List ExceptHandler} {l : List Ck} (nm : Names X x c) (hm : ∀ C, ok C → PySem.W.exmOne X.K (.ref C) c = some true) (hn : ∀ C, no C → PySem.W.exmOne X.K (.ref C) c = some false)
      (hN : X.N.Nodup) (hi : X.N[i]? = some n) (hl : X.env.kindOf n = some .local)
      (su : ∀ (a : Addr) (oe : Obj) (cls : Value) (d : Option Addr) (pn : List (Addr × Obj)), Zc cls d oe → (∃ vs, oe.data = .fields vs) → BJ ETop (X.suite a ((a, oe) :: pn)) (b₀ :: suite) (s a cls d)) (r : MJ X hds l) :
      MJ X (.ExceptHandler (some (.Name x np)) (some n) (b₀ :: suite) pos' :: hds) (.as ok no i s :: l)
section
variable {X : Cx} {E : XK} {e : Expr} {w : Wx} {hds : List ExceptHandler} {h₀ : ExceptHandler} {ks : List Ck} {pos : Pos} {j : Nat}
theorem MJ.go (m : MJ X hds ks) : ∃ l, ClsOk X hds l ∧ ∀ {G0 H0 G H : Hp} {σ : L2.St} {D' : Ends} {Z : Pd} {ρ : Evn}, Rel X.K G0 H0 G ρ σ H → Ties X.K G0 H0 G E D' Z → TieX X.K G H (fun cls d H' => wMix X.K D' l cls d σ H') (hMix Z ρ ks) := by
  induction m with
  | nil => exact ⟨[], .nil, fun _ _ _ _ _ _ _ _ _ q => q⟩
  | @one x c ok no w b₀ suite np pos' hds l nm hm hn su r ih =>
    obtain ⟨l', hc, tie⟩ := ih
    refine ⟨⟨c, none, fun _ _ _ => liftS X.K ETop w⟩ :: l', .one nm rfl (fun a oe cls d pn hz hf => (su a oe cls d pn hz hf).ps) hc, fun {G0 H0 G H σ D' Z ρ} R T C fs G' H' dx x hd q => ?_⟩
    rcases q with ⟨ho, q⟩ | ⟨ho, q⟩
    · obtain ⟨b, h1, h2, h3⟩ := catch_goO (s := w) (ok := ok) R T hm C fs G' H' dx x hd ⟨ho, q⟩
      exact ⟨b, h1, h2, fun z => (h3 z).elim⟩
    · exact ⟨false, hn C ho, fun z => Bool.noConfusion z, fun _ => tie R T C fs G' H' dx x hd q⟩
  | @as x n c ok no i s b₀ suite np pos' hds l nm hm hn hN hi hl su r ih =>
    obtain ⟨l', hc, tie⟩ := ih
    refine ⟨⟨c, some i, fun a cls d => liftS X.K ETop (s a cls d)⟩ :: l', .as nm rfl hN hi hl (fun a oe cls d pn hz hf => (su a oe cls d pn hz hf).ps) hc, fun {G0 H0 G H σ D' Z ρ} R T C fs G' H' dx x hd q => ?_⟩
    rcases q with q | ⟨ho, q⟩
    · obtain ⟨b, h1, h2, h3⟩ := catch_go (s := s) (ok := ok) (i := i) R T hm C fs G' H' dx x hd q
      exact ⟨b, h1, h2, fun z => (h3 z).elim⟩
    · exact ⟨false, hn C ho, fun z => Bool.noConfusion z, fun _ => tie R T C fs G' H' dx x hd q⟩
end
/-! ### ys.append(xs.pop(e)) -/
section
variable {X : Cx} {E : XK} {n m e : Expr} {w : Wx} {i j : Nat} {k : Kd} {pos apos cpos apos2 cpos2 : Pos}
end
/-! ### one def, read in two ways -/
section
variable {P : Program} {w : World} {K : PySem.W.Frag} {mg : Str → Option Value} {base : Heap}
end
section
variable {X : Cx} {E : XK} {a b : Expr} {wa wb : Wx} {ka kb : Kd} {pos : Pos}
end
/-! ### a tuple's display, its class kept -/
section
variable {X : Cx} {E : XK} {es : List Expr} {u : Wa} {pos : Pos}
end
end Tw

/-! Tw, part T22: a call that is lent objects of one's own and hands back a new list that has nothing of them. -/
namespace Tw
open PySem PySem.Spec L2 PyProof.Rows
section
variable {X : Cx} {E : XK} {e : Expr} {es : List Expr} {pos p : Pos} {u : Wa}
end
end Tw

/-! Tw, part T23: split, str of a number, f-strings, a tuple of texts of the module and its index. -/
namespace Tw
open PySem PySem.Spec L2 PyProof.Rows
section
variable {X : Cx} {K : PySem.W.Frag} {E : XK} {e a o : Expr} {es : List Expr} {w wa : Wx} {k : Kd} {pos p : Pos}
/-! s.split(y) -/
/-! str(n) -/
/-! f-strings -/
inductive JJ (X : Cx) (E : XK) : List Expr → List Wx → Prop
  | nil : JJ X E [] []
  | cons {e : Expr} {w : Wx} {es : List Expr} {ws : List Wx} (h : EJ .e E X e w) (r : JJ X E es ws) : JJ X E (e :: es) (w :: ws)
def wJsG : List Wx → Str → Wx
  | [], acc => fun _ _ Q => Q (.str acc)
  | w :: ws, acc => fun xc ρ Q => w xc ρ fun x => ∃ y : Str, x = .str y ∧ (acc ++ y).length ≤ sizeLine ∧ wJsG ws (acc ++ y) xc ρ Q
theorem JJ.mo {ws : List Wx} (h : JJ X E es ws) : ∀ (acc : Str) xc ρ (Q Q' : D → Prop), (∀ d, Q d → Q' d) → wJsG ws acc xc ρ Q → wJsG ws acc xc ρ Q' := by
  induction h with
  | nil => exact fun acc xc ρ Q Q' i q => i _ q
  | cons h r ih => exact fun acc xc ρ Q Q' i q => h.mo _ _ _ _ (fun d ⟨y, e, z, q⟩ => ⟨y, e, z, ih _ _ _ _ _ i q⟩) q
theorem JJ.go {ws : List Wx} (h : JJ X E es ws) : ∀ {σ : L2.St} {H G0 H0 G : Hp} {ρ : Evn} {xc : XC} {Qd : D → Prop} {Q : Str → Hp → Prop} {acc : Str} (R : Rel X.K G0 H0 G ρ σ H) (T : TieX X.K G0 H0 E xc) (q : wJsG ws acc xc ρ Qd)
    (fin : ∀ y G' H', Qd (.str y) → Ext G H G' H' → Q y H'), tJs (ws.map (liftW X.K E .e)) acc σ H Q := by
  induction h with
  | nil => exact fun R T q fin => fin _ _ _ q (Ext.refl R.gh)
  | @cons e w es ws h r ih =>
    intro σ H G0 H0 G ρ xc Qd Q acc R T q fin
    show liftW X.K E .e w σ H fun x H1 => ∃ y : Str, x = .str y ∧ (acc ++ y).length ≤ sizeLine ∧ tJs (ws.map (liftW X.K E .e)) (acc ++ y) σ H1 Q
    refine ⟨G0, H0, G, ρ, xc, R, T, h.mo _ _ _ _ (fun d ⟨y, ed, z, q1⟩ G1 H1 v x1 r1 => ?_) q⟩
    subst ed
    cases r1
    exact ⟨y, rfl, z, ih (R.ext x1) T q1 fun y G' H' q2 x2 => fin y G' H' q2 (x1.trans x2)⟩
/-! a tuple of texts of the module -/
structure TupG (K : PySem.W.Frag) (mg : Str → Option Value) (x : Str) (ys : List Str) : Prop where
  ex : ∃ (a : Addr) (o : Obj) (its : Array Value) (n : Nat), mg x = some (.ref a) ∧ List.lookup a K = some o ∧ o.cls = .type "tuple" ∧ o.dict = none ∧ o.data = .seq its n ∧ its.size ≤ sizeLine ∧ Vals (ys.map V.str) its.toList
end
end Tw

/-! Tw, part T24: int(x) of a text. -/
namespace Tw
open PySem PySem.Spec L2 PyProof.Rows
section
variable {X : Cx} {K : PySem.W.Frag} {E : XK} {e a o : Expr} {es : List Expr} {w wa : Wx} {k : Kd} {pos p : Pos}
end
end Tw

/-! Tw, part T25: C(..) and C.m(..), m a class method, that may fail and are lent own lists; cls(..). -/
namespace Tw
open PySem PySem.Spec L2 PyProof.Rows
/-! ### what was lent goes back -/
section
variable {X : Cx} {C f : Addr} {fd : FuncData} {ps ks : List Str} {sp : Sp} {k n : Nat} {g : List Value → List Value → List Value} {gV : List V → List V → List V}
  {pins : List (Addr × Obj)} {σ : L2.St} {H : Hp} {s : Shared} {Q : VK} {us ws : List Value} {vs zs : List V}
/-! ### C(..) with a way out that depends on the slots -/
/-! ### cls(..), cls a local -/
/-! ### C.m(..), m a class method -/
end
/-! ### words -/
def spCls (K : PySem.W.Frag) (C : Addr) (n : Nat) (wf : Wf) : Sp := fun vs H Q E => vs.length = n + 1 ∧ ∃ vs' G ds xc, vs = .ref C :: vs' ∧ Same G H ∧ Rps K G ds vs' ∧ TieX K G H E xc ∧ wf xc ds fun fr d => ∀ G' H' v, Ext G H G' H' → RvR K fr H G' H' d v → Q v H'
structure CDef (P : Program) (w : World) (K : PySem.W.Frag) (mg : Str → Option Value) (base : Heap) (x : Str) (C : Addr) (m : Str) (n : Nat) (ks : List Str) (j : Nat) (gD : List D → List D → List D) (wf : Wf) : Prop where
  ex : ∃ (f : Addr) (fd : FuncData) (ps : List Str) (g : List Value → List Value → List Value) (gV gR : List V → List V → List V) (p : Addr) (mc : Value) (nn : Nat), FnOk P w K mg base (L2.CX P w) j f fd ps (spCls K C nn wf) ∧ ClX.CRead K C mc ∧ ClX.CMet K C mc m p f ∧ KBn K fd ps (n + 1) ks g gV ∧ mg x = some (.ref C) ∧
    (∀ x vs zs, vs.length = n → zs.length = ks.length → gV (V.ref x :: vs) zs = V.ref x :: gR vs zs) ∧ (∀ G ds es vs zs, Rps K G ds vs → Rps K G es zs → Rps K G (gD ds es) (gR vs zs)) ∧ (∀ ds xc Q, wf xc ds Q → ds.length = nn)
  mo : MoF wf
section
variable {X : Cx} {E : XK} {e : Expr} {es : List Expr} {u ut : Wa} {kws : List Keyword} {pos p apos : Pos} {x : Str} {C : Addr} {n j : Nat} {ks : List Str} {gD : List D → List D → List D} {wi : Wi} {wf : Wf}
end
section
variable {P : Program} {w : World} {K : PySem.W.Frag} {mg : Str → Option Value} {base : Heap}
structure AtC (K : PySem.W.Frag) (mg : Str → Option Value) (x : Str) (C : Addr) (m q : Str) (st : Stmt) (ps : List Str) (n : Nat) (ks : List Str) (gD : List D → List D → List D) : Prop where
  ex : ∃ (f : Addr) (fd : FuncData) (g : List Value → List Value → List Value) (gV gR : List V → List V → List V) (p : Addr) (mc : Value), Fun K m q st f fd ∧ ClX.CRead K C mc ∧ ClX.CMet K C mc m p f ∧ KBn K fd ps (n + 1) ks g gV ∧ mg x = some (.ref C) ∧
    (∀ x vs zs, vs.length = n → zs.length = ks.length → gV (V.ref x :: vs) zs = V.ref x :: gR vs zs) ∧ (∀ G ds es vs zs, Rps K G ds vs → Rps K G es zs → Rps K G (gD ds es) (gR vs zs))
end
/-! ### try: xs.append(e) except C as n -/
section
variable {X : Cx} {E : XK} {e n : Expr} {w : Wx} {x nm : Str} {c : Value} {i j : Nat} {b₀ : Stmt} {suite : List Stmt} {np pos pos' pos1 apos cpos : Pos} {ok : Addr → Prop} {s : Addr → Value → Option Addr → Ws}
end
/-! ### C.m(..), m a static method, in a try -/
section
variable {X : Cx} {e : Expr} {es : List Expr} {u : Wa} {p pos apos : Pos} {x : Str}
end
/-! ### list * int -/
section
variable {X : Cx} {E : XK} {a b : Expr} {wa wb : Wx} {ka kb : Kd} {pos : Pos}
end
end Tw

/-! Tw, part T26: a call that is lent lists of one's own and hands back a new list that may have lists within, none of which can be a lent one: those have 20 members or more, or begin with a list that begins with an object. -/
namespace Tw
open PySem PySem.Spec L2 PyProof.Rows
def D.hid : D → Bool
  | .lst xs => decide (20 ≤ xs.length) || (match xs with | .lst (.obj _ _ :: _) :: _ => true | _ => false)
  | _ => false
def HO.Hid (G : Hp) (o : HO) : Prop := ∃ vs, o = .lst vs ∧ (20 ≤ vs.length ∨ ∃ (a : Addr) (rest : List V) (c : Addr) (ws : List V) (C dx : Addr) (vf : List (Str × V)), vs = .ref a :: rest ∧ G a = some (.lst (.ref c :: ws)) ∧ G c = some (.ins C dx vf))
theorem HO.Hid.mono {G G' : Hp} (e : Same G G') {o : HO} (h : HO.Hid G o) : HO.Hid G' o := by
  obtain ⟨vs, rfl, h⟩ := h
  refine ⟨vs, rfl, ?_⟩
  rcases h with h | ⟨a, rest, c, ws, C, dx, vf, h1, h2, h3⟩
  · exact .inl h
  · exact .inr ⟨a, rest, c, ws, C, dx, vf, h1, e _ _ h2, e _ _ h3⟩
section
variable {K : PySem.W.Frag}
def okF2 : List D → Bool
  | [] => true | .int _ :: _ => true | .str _ :: _ => true | .lst _ :: _ => true | _ => false
def okF : List D → Bool
  | [] => true | .str _ :: _ => true | .int _ :: _ => true | .obj _ _ :: _ => true | .lst ys :: _ => okF2 ys | _ => false
mutual
def D.noH : D → Bool
  | .non => true | .bl _ => true | .int _ => true | .str _ => true
  | .tup xs => D.noHs xs | .xtp xs => D.noHs xs | .obj _ fs => D.noHf fs
  | .lst xs => decide (xs.length < 20) && okF xs && D.noHs xs
  | .fls _ => false | .dK _ => false | .dT _ => false
def D.noHs : List D → Bool
  | [] => true
  | x :: xs => D.noH x && D.noHs xs
def D.noHf : List (Str × D) → Bool
  | [] => true
  | (_, x) :: xs => D.noH x && D.noHf xs
end
theorem no_hid {G : Hp} {xs : List D} {vs : List V} (r : Rps K G xs vs) (l : xs.length < 20) (k : okF xs = true) : ¬HO.Hid G (.lst vs) := by
  rintro ⟨vs', e, hh⟩
  cases e
  have := Rps.length r
  rcases hh with hh | ⟨a, rest, c, ws, C, dx, vf, rfl, g1, g2⟩
  · omega
  · cases r with
    | cons r1 r2 =>
      cases r1 with
      | tup _ _ => cases k
      | xtp _ _ _ _ => cases k
      | fls _ _ => cases k
      | dK _ _ => cases k
      | dT _ _ => cases k
      | obj h2 _ => rw [h2] at g1; cases g1
      | lst h2 r3 =>
        rw [h2] at g1
        cases g1
        cases r3 with
        | cons r4 r5 =>
          have k' := k
          unfold okF at k'
          cases r4 with
          | tup _ _ => cases k'
          | xtp _ _ _ _ => cases k'
          | fls _ _ => cases k'
          | dK _ _ => cases k'
          | dT _ _ => cases k'
          | obj _ _ => cases k'
          | lst h3 _ => rw [h3] at g2; cases g2
section
variable {G G' : Hp} (cut : ∀ a o, G a = some o → HO.isTop o = false → G' a = some o) (cutL : ∀ a vs, G a = some (.lst vs) → ¬HO.Hid G (.lst vs) → G' a = some (.lst vs))
include cut cutL
mutual
theorem Rp.cutH : ∀ {d : D} {v : V}, Rp K G d v → d.noH = true → Rp K G' d v
  | _, _, .non, _ => .non
  | _, _, .bl b, _ => .bl b
  | _, _, .int i, _ => .int i
  | _, _, .str x, _ => .str x
  | _, _, .tup h r, n => by
    rw [D.noH] at n
    refine .tup ?_ (Rps.cutH r n)
    rcases h with (h | ⟨o, h⟩) | h
    · exact .inl (.inl (cut _ _ h rfl))
    · exact .inl (.inr ⟨o, cut _ _ h rfl⟩)
    · exact .inr h
  | _, _, .xtp h c m r, n => by rw [D.noH] at n; exact .xtp (cut _ _ h rfl) c m (Rps.cutH r n)
  | _, _, .obj h r, n => by rw [D.noH] at n; exact .obj (cut _ _ h rfl) (Rfs.cutH r n)
  | _, _, .lst h r, n => by
    rw [D.noH, Bool.and_eq_true, Bool.and_eq_true] at n
    exact .lst (cutL _ _ h (no_hid r (of_decide_eq_true n.1.1) n.1.2)) (Rps.cutH r n.2)
  | _, _, .fls _ _, n => by rw [D.noH] at n; cases n
  | _, _, .dK _ _, n => by rw [D.noH] at n; cases n
  | _, _, .dT _ _, n => by rw [D.noH] at n; cases n
theorem Rps.cutH : ∀ {d : List D} {v : List V}, Rps K G d v → D.noHs d = true → Rps K G' d v
  | _, _, .nil, _ => .nil
  | _, _, .cons h r, n => by rw [D.noHs, Bool.and_eq_true] at n; exact .cons (Rp.cutH h n.1) (Rps.cutH r n.2)
theorem Rfs.cutH : ∀ {d : List (Str × D)} {v : List (Str × V)}, Rfs K G d v → D.noHf d = true → Rfs K G' d v
  | _, _, .nil, _ => .nil
  | _, _, .cons h r, n => by rw [D.noHf, Bool.and_eq_true] at n; exact .cons (Rp.cutH h n.1) (Rfs.cutH r n.2)
end
end
end
section
variable {X : Cx} {E : XK} {e : Expr} {es : List Expr} {pos p : Pos} {u : Wa}
end
end Tw

/-! Tw, part W1: sets of tuples of any size up to 3999, the walk through a table of 2 ^ k slots. -/
namespace Tw
open PySem L2
def MaskG (m : Nat) : Prop := ∃ k, 3 ≤ k ∧ (k ≤ 13 ∧ k % 2 = 1) ∧ m + 1 = 2 ^ k
/-- f (f (.. 0)), f x = 5 x + 1 -/
def sG : Nat → Nat
  | 0 => 0
  | b + 1 => 5 * sG b + 1
theorem sG_add (a : Nat) : ∀ b, sG (a + b) = sG a + sG b * (4 * sG a + 1)
  | 0 => by simp [sG]
  | b + 1 => by
    rw [← Nat.add_assoc, sG, sG_add a b, sG, Nat.add_mul, Nat.mul_add, Nat.mul_assoc]
    omega
theorem sG_two (b : Nat) : sG (2 * b) = 2 * (sG b * (2 * sG b + 1)) := by
  rw [Nat.two_mul, sG_add, Nat.mul_add, Nat.mul_add, Nat.mul_left_comm (sG b) 4, Nat.mul_left_comm (sG b) 2]
  omega
theorem sG_par : ∀ b, sG b % 2 = b % 2
  | 0 => rfl
  | b + 1 => by
    have := sG_par b
    rw [sG]
    omega
theorem cop2 (k s : Nat) : Nat.Coprime (2 ^ k) (2 * s + 1) := by
  refine Nat.Coprime.pow_left k ?_
  unfold Nat.Coprime
  rw [Nat.gcd_rec, show (2 * s + 1) % 2 = 1 by omega]
  decide
theorem dvd_sG : ∀ k b, 2 ^ k ∣ sG b ↔ 2 ^ k ∣ b
  | 0, b => by simp
  | k + 1, b => by
    rcases Nat.mod_two_eq_zero_or_one b with h | h
    · obtain ⟨c, rfl⟩ : ∃ c, b = 2 * c := ⟨b / 2, by omega⟩
      rw [sG_two, Nat.pow_succ, Nat.mul_comm (2 ^ k) 2]
      rw [Nat.mul_dvd_mul_iff_left (by omega), Nat.mul_dvd_mul_iff_left (by omega), ← dvd_sG k c]
      exact ⟨fun h => (cop2 k (sG c)).dvd_of_dvd_mul_right h, fun h => Nat.dvd_trans h (Nat.dvd_mul_right _ _)⟩
    · have p := sG_par b
      constructor
      · intro hd
        have : 2 ∣ sG b := Nat.dvd_trans ⟨2 ^ k, by rw [Nat.pow_succ, Nat.mul_comm]⟩ hd
        omega
      · intro hd
        have : 2 ∣ b := Nat.dvd_trans ⟨2 ^ k, by rw [Nat.pow_succ, Nat.mul_comm]⟩ hd
        omega
theorem lcg_sG (m : Nat) : ∀ b, lcgN m b = sG b % (m + 1)
  | 0 => by simp [lcgN, sG]
  | b + 1 => by
    show (lcgN m b * 5 + 1) % (m + 1) = _
    rw [lcg_sG m b, sG, Nat.mul_comm 5, Nat.add_mod, Nat.mod_mul_mod, ← Nat.add_mod]
theorem lcg_inj {k m : Nat} (hm : m + 1 = 2 ^ k) {a b : Nat} (hab : a ≤ b) (hb : b ≤ m) (e : lcgN m a = lcgN m b) : a = b := by
  rw [lcg_sG, lcg_sG, hm] at e
  obtain ⟨d, rfl⟩ : ∃ d, b = a + d := ⟨b - a, by omega⟩
  rw [sG_add] at e
  have h1 : 2 ^ k ∣ sG d * (4 * sG a + 1) := by
    have := (Nat.sub_mod_eq_zero_of_mod_eq e.symm)
    rw [Nat.add_sub_cancel_left] at this
    exact Nat.dvd_of_mod_eq_zero this
  have h2 : 2 ^ k ∣ sG d := by
    have c := cop2 k (2 * sG a)
    rw [show 2 * (2 * sG a) + 1 = 4 * sG a + 1 by omega] at c
    exact c.dvd_of_dvd_mul_right h1
  have h3 := (dvd_sG k d).mp h2
  rcases Nat.eq_zero_or_pos d with h | h
  · omega
  · have := Nat.le_of_dvd h h3
    omega
theorem lcg_lt {m : Nat} (b : Nat) : lcgN m b ≤ m := by
  rw [lcg_sG]
  exact Nat.le_of_lt_succ (Nat.mod_lt _ (Nat.succ_pos m))
theorem nodup_mapN {f : Nat → Nat} : ∀ {l : List Nat}, l.Nodup → (∀ x ∈ l, ∀ y ∈ l, f x = f y → x = y) → (l.map f).Nodup
  | [], _, _ => List.nodup_nil
  | x :: l, nd, h => by
    rw [List.nodup_cons] at nd
    rw [List.map_cons, List.nodup_cons]
    refine ⟨fun hx => ?_, nodup_mapN nd.2 fun y hy z hz => h y (by simp [hy]) z (by simp [hz])⟩
    obtain ⟨y, hy, e⟩ := List.mem_map.mp hx
    have := h y (by simp [hy]) x (by simp) e
    subst this
    exact nd.1 hy
theorem lcg_allG {m : Nat} (hm : MaskG m) {j : Nat} (hj : j ≤ m) : ∃ b, b ≤ m ∧ lcgN m b = j := by
  obtain ⟨k, _, _, hk⟩ := hm
  by_cases h : j ∈ (List.range (m + 1)).map (lcgN m)
  · obtain ⟨b, hb, e⟩ := List.mem_map.mp h
    exact ⟨b, Nat.le_of_lt_succ (List.mem_range.mp hb), e⟩
  · exfalso
    have nd : ((List.range (m + 1)).map (lcgN m)).Nodup := nodup_mapN List.nodup_range fun x hx y hy e => by
      have hx := List.mem_range.mp hx
      have hy := List.mem_range.mp hy
      rcases Nat.le_total x y with c | c
      · exact lcg_inj hk c (by omega) e
      · exact (lcg_inj hk c (by omega) e.symm).symm
    have nd2 : (j :: (List.range (m + 1)).map (lcgN m)).Nodup := List.nodup_cons.mpr ⟨h, nd⟩
    have := nat_nodup_len _ (List.range (m + 1)) nd2 fun x hx => by
      rcases List.mem_cons.mp hx with rfl | hx
      · exact List.mem_range.mpr (by omega)
      · obtain ⟨b, _, e⟩ := List.mem_map.mp hx
        rw [← e]
        exact List.mem_range.mpr (Nat.lt_succ_of_le (lcg_lt b))
    simp at this
    omega
theorem lcg_roundG {m : Nat} (hm : MaskG m) : lcgN m (m + 1) = 0 := by
  obtain ⟨k, _, _, hk⟩ := hm
  rw [lcg_sG, hk]
  exact Nat.mod_eq_zero_of_dvd ((dvd_sG k _).mpr (Nat.dvd_refl _))
theorem lcgN_modG {m : Nat} (hm : MaskG m) : ∀ k, lcgN m (m + 1 + k) = lcgN m k
  | 0 => by rw [Nat.add_zero, lcg_roundG hm]; rfl
  | k + 1 => by
    show (lcgN m (m + 1 + k) * 5 + 1) % (m + 1) = (lcgN m k * 5 + 1) % (m + 1)
    rw [lcgN_modG hm k]
theorem lcgI_allG {m : Nat} (hm : MaskG m) {i j : Nat} (hi : i ≤ m) (hj : j ≤ m) : ∃ k, k ≤ m ∧ lcgI m i k = j := by
  obtain ⟨a, ha, ea⟩ := lcg_allG hm hi
  obtain ⟨b, hb, eb⟩ := lcg_allG hm hj
  rw [← ea]
  rcases Nat.lt_or_ge b a with c | c
  · refine ⟨b + (m + 1) - a, by omega, ?_⟩
    rw [lcgN_add, show a + (b + (m + 1) - a) = m + 1 + b by omega, lcgN_modG hm, eb]
  · refine ⟨b - a, by omega, ?_⟩
    rw [lcgN_add, show a + (b - a) = b by omega, eb]
theorem run_meetsG {m : Nat} (hm : MaskG m) (h : Int) {j : Nat} (hj : j ≤ m) : ∃ n, n ≤ m + 12 ∧ runI m (SetTable.bits h) n = j := by
  obtain ⟨k, hk, e⟩ := lcgI_allG hm (runI_le m (SetTable.bits h) 12) hj
  exact ⟨12 + k, by omega, by rw [runI_tail (bits_lt h) k]; exact e⟩
theorem nth_meetsG {m : Nat} (hm : MaskG m) (h : Int) {j : Nat} (hj : j ≤ m) : ∃ k, k < 10 * SetTable.turns m ∧ way m h k = j := by
  obtain ⟨n, hn, e⟩ := run_meetsG hm h hj
  obtain ⟨k, hk, e2⟩ := run_nth m (SetTable.bits h) n
  refine ⟨k, ?_, ?_⟩
  · show k < 10 * (m + 15)
    omega
  · show (nth m _ k).j = j
    rw [e2]
    exact e
theorem way_leG {m : Nat} {h : Int} {k : Nat} : way m h k ≤ m := by
  have hi : SetTable.bits h % (m + 1) ≤ m := Nat.le_of_lt_succ (Nat.mod_lt (SetTable.bits h) (Nat.succ_pos m))
  have r := runEnd_bd hi
  have q := nth_in (m := m) k (runAt m (SetTable.bits h % (m + 1)) (SetTable.bits h)) (by
    show SetTable.bits h % (m + 1) + (SetTable.runEnd m (SetTable.bits h % (m + 1)) - SetTable.bits h % (m + 1)) ≤ m
    omega)
  show (nth m _ k).j ≤ m
  omega
theorem free_findG {m : Nat} (hm : MaskG m) (owner : Array (Option Nat)) (h : Int) {j : Nat} (hj : j ≤ m) (hf : oAt owner j = none) :
    ∃ K, SetTable.layClean.free m owner (SetTable.turns m) (SetTable.bits h % (m + 1)) (SetTable.bits h) = some (way m h K) ∧ oAt owner (way m h K) = none ∧ ∀ k, k < K → oAt owner (way m h k) ≠ none := by
  obtain ⟨n, hn, e⟩ := run_meetsG hm h hj
  have hw : (nth m (runAt m (SetTable.bits h % (m + 1)) (SetTable.bits h)) (off m (SetTable.bits h % (m + 1)) (SetTable.bits h) n)).j = j := by
    rw [nth_off, itL_run]
    exact e
  obtain ⟨K, k1, k2, k3⟩ := st_least (p := fun k => oAt owner (nth m (runAt m (SetTable.bits h % (m + 1)) (SetTable.bits h)) k).j = none) (off m (SetTable.bits h % (m + 1)) (SetTable.bits h) n) (by
    show oAt owner _ = none
    rw [hw]; exact hf)
  refine ⟨K, free_spec m owner (SetTable.turns m) n _ _ K (by show n < m + 15; omega) k1 (fun k hk => ?_) (by rw [k2]; rfl), k2, k3⟩
  have q := k3 k hk
  cases z : oAt owner (nth m (runAt m (SetTable.bits h % (m + 1)) (SetTable.bits h)) k).j with
  | none => exact absurd z q
  | some v => rfl
end Tw

/-! Tw, part W2: tables of any size: laying, putting. -/
namespace Tw
open PySem L2
theorem own_stepG {m : Nat} (hm : MaskG m) {done : List Int} {owner : Array (Option Nat)} (W : Own m done owner) (hl : done.length ≤ m) (h : Int) :
    ∃ j, SetTable.layClean.free m owner (SetTable.turns m) (SetTable.bits h % (m + 1)) (SetTable.bits h) = some j ∧ Own m (done ++ [h]) (owner.setIfInBounds j (some done.length)) := by
  obtain ⟨ps, hps, hin⟩ := W.ps
  obtain ⟨j0, h0, hn0⟩ := st_missing ps (m + 1) (by omega)
  have hj0 : oAt owner j0 = none := by
    cases z : oAt owner j0 with
    | none => rfl
    | some k => exact absurd (hin j0 (by omega) (by rw [z]; exact fun e => nomatch e)) hn0
  obtain ⟨K, e1, e2, e3⟩ := free_findG hm owner h (Nat.le_of_lt_succ h0) hj0
  have hjm : way m h K ≤ m := way_leG
  have hjs : way m h K < owner.size := by rw [W.sz]; omega
  refine ⟨way m h K, e1, ?_⟩
  have hself := oAt_set_self (some done.length) hjs
  have mono : ∀ {i : Nat}, oAt owner i ≠ none → oAt (owner.setIfInBounds (way m h K) (some done.length)) i ≠ none := fun {i} hi => by
    by_cases c : i = way m h K
    · rw [c, hself]; exact fun e => nomatch e
    · rw [oAt_set_ne (some done.length) c]; exact hi
  refine ⟨by rw [Array.size_setIfInBounds]; exact W.sz, fun j k hj e => ?_, fun k hk => ?_, ⟨way m h K :: ps, by simp [hps], fun j hj e => ?_⟩⟩
  · by_cases c : j = way m h K
    · rw [c, hself] at e
      have ek := Option.some.inj e
      refine ⟨h, K, ?_, c.symm, fun k' hk' => mono (e3 k' hk')⟩
      rw [← ek, List.getElem?_append_right (Nat.le_refl _), Nat.sub_self]
      rfl
    · rw [oAt_set_ne (some done.length) c] at e
      obtain ⟨h', K', a1, a2, a3⟩ := W.at_ j k hj e
      exact ⟨h', K', by rw [List.getElem?_append_left (List.getElem?_eq_some_iff.mp a1).1]; exact a1, a2, fun k' hk' => mono (a3 k' hk')⟩
  · by_cases c : k < done.length
    · obtain ⟨j, hj, e⟩ := W.all k c
      refine ⟨j, hj, ?_⟩
      rw [oAt_set_ne (some done.length) (fun z => by rw [z, e2] at e; cases e)]
      exact e
    · rw [List.length_append, List.length_singleton] at hk
      have ek : k = done.length := by omega
      exact ⟨way m h K, hjm, by rw [ek]; exact hself⟩
  · by_cases c : j = way m h K
    · rw [c]; exact List.mem_cons_self
    · rw [oAt_set_ne (some done.length) c] at e
      exact List.mem_cons_of_mem _ (hin j hj e)
theorem fold_okG {m : Nat} (hm : MaskG m) : ∀ (rest done : List Int) (owner : Array (Option Nat)), Own m done owner → done.length + rest.length ≤ m →
    ∃ owner', List.foldl (stepF m) (some (owner, done.length)) rest = some (owner', (done ++ rest).length) ∧ Own m (done ++ rest) owner'
  | [], done, owner, W, _ => ⟨owner, by rw [List.append_nil]; rfl, by rw [List.append_nil]; exact W⟩
  | h :: rest, done, owner, W, hl => by
    rw [List.length_cons] at hl
    obtain ⟨j, e, W'⟩ := own_stepG hm W (by omega) h
    have hl' : (done ++ [h]).length = done.length + 1 := by rw [List.length_append]; rfl
    obtain ⟨owner', f, W2⟩ := fold_okG hm rest (done ++ [h]) _ W' (by omega)
    have ea : done ++ [h] ++ rest = done ++ h :: rest := by rw [List.append_assoc]; rfl
    refine ⟨owner', ?_, by rw [← ea]; exact W2⟩
    rw [List.foldl_cons, stepF_some e, ← ea, ← hl']
    exact f
theorem layClean_okG {m : Nat} (hm : MaskG m) {hs : Array Int} (hn : hs.size ≤ m) : ∃ owner, SetTable.layClean m hs = some owner ∧ Own m hs.toList owner := by
  obtain ⟨owner, f, W⟩ := fold_okG hm hs.toList [] (Array.replicate (m + 1) none) (Own.init m) (by rw [Array.length_toList]; simpa using hn)
  refine ⟨owner, ?_, by rw [List.nil_append] at W; exact W⟩
  rw [layClean_eq m hs]
  have f' : List.foldl (stepF m) (some (Array.replicate (m + 1) none, 0)) hs.toList = some (owner, ([] ++ hs.toList).length) := f
  rw [f']
  rfl
structure TabG (t : SetTable) (hs : List Int) : Prop where
  ris : Ris t.place.toList
  dm : t.dummies = #[]
  sz : t.place.size = hs.length
  mok : MaskG t.mask
  bd : ∀ x ∈ t.place.toList, x ≤ t.mask
  reach : ∀ (i : Nat) (h : Int) (j : Nat), hs[i]? = some h → t.place.toList[i]? = some j → ∃ k, way t.mask h k = j ∧ ∀ k', k' < k → way t.mask h k' ∈ t.place.toList
theorem relaid_okG (t : SetTable) {hs : Array Int} {wanted M : Nat} (hw : SetTable.sizeAbove wanted - 1 = M) (hM : MaskG M) (hn : hs.size ≤ M) :
    ∃ t' order, t.relaid hs wanted = some (t', order) ∧ order.toList.Perm (List.range hs.size) ∧ TabG t' (order.toList.map fun i => hs.getD i 0) ∧ t'.mask = M ∧ t'.led = t.led ∧ t'.plain = t.plain ∧ t'.dummies = #[] := by
  obtain ⟨owner, e, W⟩ := layClean_okG hM hn
  have hr : t.relaid hs wanted = some (tabOf t M owner, ((liveOf M owner).map fun x => x.snd).toArray) := by
    rw [relaid_eq t hs wanted, hw, e]
    rfl
  have ris := ris_live (fun j => owner.getD j none) (List.range (M + 1)) List.pairwise_lt_range
  have r1 : ((liveOf M owner).map fun x => x.fst).Pairwise (· < ·) := ris.1
  have r2 := ris.2
  have nd : ((liveOf M owner).map fun x => x.fst).Nodup := r1.imp fun h => Nat.ne_of_lt h
  obtain ⟨ps, p1, p2⟩ := W.ps
  have a := nat_nodup_len ((liveOf M owner).map fun x => x.fst) ps nd fun x hx => by
    obtain ⟨⟨y, k⟩, hq, rfl⟩ := List.mem_map.mp hx
    obtain ⟨b1, b2⟩ := (mem_live W.sz).mp hq
    exact p2 y b1 (by rw [b2]; exact fun z => nomatch z)
  have b := nat_nodup_len (List.range hs.size) ((liveOf M owner).map fun x => x.snd) List.nodup_range fun k hk => by
    obtain ⟨j, b1, b2⟩ := W.all k (by rw [Array.length_toList]; exact List.mem_range.mp hk)
    exact List.mem_map.mpr ⟨(j, k), (mem_live W.sz).mpr ⟨b1, b2⟩, rfl⟩
  have hz : hs.toList.length = hs.size := rfl
  rw [List.length_map] at a
  rw [List.length_map, List.length_range] at b
  have hlen : (liveOf M owner).length = hs.size := by omega
  refine ⟨tabOf t M owner, ((liveOf M owner).map fun x => x.snd).toArray, hr, ?_, ⟨r1, rfl, ?_, hM, fun x hx => Nat.le_of_lt_succ (List.mem_range.mp (r2 x hx)), fun i h j h1 h2 => ?_⟩, rfl, rfl, rfl, rfl⟩
  · refine perm_range hs.size _ (by show ((liveOf M owner).map _).length = _; rw [List.length_map]; exact hlen) fun k hk => ?_
    obtain ⟨j, b1, b2⟩ := W.all k (by rw [Array.length_toList]; exact hk)
    exact List.mem_map.mpr ⟨(j, k), (mem_live W.sz).mpr ⟨b1, b2⟩, rfl⟩
  · show ((liveOf M owner).map fun x => x.fst).toArray.size = _
    rw [List.size_toArray, List.length_map, List.length_map]
    show _ = ((liveOf M owner).map fun x => x.snd).length
    rw [List.length_map]
  · have h1' : (((liveOf M owner).map fun x => x.snd).map fun i => hs.getD i 0)[i]? = some h := h1
    have h2' : ((liveOf M owner).map fun x => x.fst)[i]? = some j := h2
    rw [List.getElem?_map] at h2'
    rw [List.getElem?_map, List.getElem?_map] at h1'
    cases hq : (liveOf M owner)[i]? with
    | none => rw [hq] at h2'; cases h2'
    | some q =>
      obtain ⟨y, k⟩ := q
      rw [hq] at h1' h2'
      have ej : y = j := Option.some.inj h2'
      have eh : hs.getD k 0 = h := Option.some.inj h1'
      subst ej
      obtain ⟨b1, b2⟩ := (mem_live W.sz).mp (List.mem_of_getElem? hq)
      obtain ⟨h0, K, a1, a2, a3⟩ := W.at_ y k b1 b2
      have e0 : hs.getD k 0 = h0 := by rw [Array.getD_eq_getD_getElem?, ← Array.getElem?_toList, a1]; rfl
      have ehh : h0 = h := e0.symm.trans eh
      subst ehh
      refine ⟨K, a2, fun k' hk' => ?_⟩
      show way M h0 k' ∈ (liveOf M owner).map fun x => x.fst
      cases z : oAt owner (way M h0 k') with
      | none => exact absurd z (a3 k' hk')
      | some k2 => exact List.mem_map.mpr ⟨(way M h0 k', k2), (mem_live W.sz).mpr ⟨way_leG, z⟩, rfl⟩
theorem TabG.before {t : SetTable} {hs : List Int} (T : TabG t hs) {h : Int} {K i j : Nat} (hK : ¬way t.mask h K ∈ t.place.toList) (hi : hs[i]? = some h) (hj : t.place.toList[i]? = some j) : ∃ k, k < K ∧ way t.mask h k = j := by
  obtain ⟨k, e, hb⟩ := T.reach i h j hi hj
  refine ⟨k, ?_, e⟩
  rcases Nat.lt_trichotomy k K with c | c | c
  · exact c
  · subst c
    rw [e] at hK
    exact absurd (List.mem_of_getElem? hj) hK
  · exact absurd (hb K c) hK
theorem TabG.first {t : SetTable} {hs : List Int} (T : TabG t hs) (hl : hs.length ≤ t.mask) (h : Int) : ∃ K, K < 10 * SetTable.turns t.mask ∧ ¬way t.mask h K ∈ t.place.toList ∧ ∀ k, k < K → way t.mask h k ∈ t.place.toList := by
  have hlen : t.place.toList.length < t.mask + 1 := by rw [Array.length_toList, T.sz]; omega
  obtain ⟨j, hj, hn⟩ := st_missing t.place.toList (t.mask + 1) hlen
  obtain ⟨k, hk, e⟩ := nth_meetsG T.mok h (Nat.le_of_lt_succ hj)
  obtain ⟨K, h1, h2, h3⟩ := st_least (p := fun k => ¬way t.mask h k ∈ t.place.toList) k (by show ¬way t.mask h k ∈ _; rw [e]; exact hn)
  refine ⟨K, Nat.lt_of_le_of_lt h1 hk, h2, fun k' hk' => ?_⟩
  rcases Classical.em (way t.mask h k' ∈ t.place.toList) with c | c
  · exact c
  · exact absurd c (h3 k' hk')
theorem TabG.put {t : SetTable} {hs : List Int} (T : TabG t hs) {h : Int} {K : Nat} (hK : ¬way t.mask h K ∈ t.place.toList) (hb : ∀ k, k < K → way t.mask h k ∈ t.place.toList) :
    (t.put (way t.mask h K)).snd = SetTable.below t.place (way t.mask h K) ∧ SetTable.below t.place (way t.mask h K) ≤ hs.length ∧
    TabG (t.put (way t.mask h K)).fst (hs.take (SetTable.below t.place (way t.mask h K)) ++ h :: hs.drop (SetTable.below t.place (way t.mask h K))) ∧
    (t.put (way t.mask h K)).fst.mask = t.mask ∧ (t.put (way t.mask h K)).fst.led = t.led ∧ (t.put (way t.mask h K)).fst.plain = t.plain ∧ (t.put (way t.mask h K)).fst.moves = t.moves ∧ (t.put (way t.mask h K)).fst.finger = t.finger ∧ (t.put (way t.mask h K)).fst.fill = hs.length + 1 := by
  have hjm : way t.mask h K ≤ t.mask := way_leG
  obtain ⟨j, hj⟩ : ∃ j, j = way t.mask h K := ⟨_, rfl⟩
  rw [← hj]
  rw [← hj] at hjm hK
  obtain ⟨c1, _, _⟩ := below_cut T.ris j
  have hpl : SetTable.below t.place j ≤ t.place.toList.length := by rw [Array.length_toList]; exact c1
  have hph : SetTable.below t.place j ≤ hs.length := by rw [← T.sz]; exact c1
  have hsz : t.place.toList.length = hs.length := by rw [Array.length_toList]; exact T.sz
  have hnp : ¬t.place[SetTable.below t.place j]? = some j := fun e => hK (List.mem_of_getElem? (by rw [Array.getElem?_toList]; exact e))
  have hpp := put_place t j
  have hsize : (t.put j).fst.place.size = hs.length + 1 := by rw [← Array.length_toList, hpp, len_ins t.place.toList hpl j, hsz]
  have up : ∀ {x : Nat}, x ∈ t.place.toList → x ∈ (t.put j).fst.place.toList := fun {x} hx => by rw [hpp]; exact mem_ins.mpr (.inr hx)
  refine ⟨rfl, hph, ⟨ris_insert T.ris hnp, put_dm T.dm j, by rw [len_ins hs hph h]; exact hsize, T.mok, fun x hx => ?_, fun i h' j' h1 h2 => ?_⟩, rfl, rfl, rfl, rfl, rfl, ?_⟩
  · rw [hpp] at hx
    rcases mem_ins.mp hx with z | z
    · rw [z]; exact hjm
    · exact T.bd x z
  · rw [tins_get hs hph h i] at h1
    rw [hpp, tins_get t.place.toList hpl j i] at h2
    show ∃ k, way t.mask h' k = j' ∧ ∀ k', k' < k → way t.mask h' k' ∈ (t.put j).fst.place.toList
    by_cases c : i < SetTable.below t.place j
    · rw [if_pos c] at h1 h2
      obtain ⟨k, e, z⟩ := T.reach i h' j' h1 h2
      exact ⟨k, e, fun k' hk' => up (z k' hk')⟩
    · rw [if_neg c] at h1 h2
      by_cases d : i = SetTable.below t.place j
      · rw [if_pos d] at h1 h2
        cases h1
        cases h2
        exact ⟨K, hj.symm, fun k' hk' => up (hb k' hk')⟩
      · rw [if_neg d] at h1 h2
        obtain ⟨k, e, z⟩ := T.reach (i - 1) h' j' h1 h2
        exact ⟨k, e, fun k' hk' => up (z k' hk')⟩
  · show (t.put j).fst.place.size + (t.put j).fst.dummies.size = _
    rw [hsize, put_dm T.dm j]
    rfl
end Tw

/-! Tw, part W3: sets of tuples of any size: search, relaying. -/
namespace Tw
open PySem L2
structure SetG (P : Program) (w : World) (h : Heap) (a : Addr) (L : List (Addr × List Int)) (es : Array (Int × Value)) (ep : Nat) (t : SetTable) : Prop where
  ob : ∃ o, h.get? a = some o ∧ o.ExactSet ∧ o.data = Data.set es ep t
  rows : es.toList = rowsOf P w L
  tab : TabG t (L.map fun p => thash P w p.snd)
  nd : (L.map fun x => x.snd).Nodup
  tup : ∀ p ∈ L, IsT P w h p.snd p.fst
  plain : t.plain = true
  led : w.params.followText "set-order" = true ∨ t.led = true
  room : L.length * 5 < t.mask * 3
  few : L.length < 4000
section
variable {P : Program} {w : World} {A : Around} {E : Value → Shared → Prop} {s : Shared} {a : Addr} {L : List (Addr × List Int)} {es : Array (Int × Value)} {ep : Nat} {t : SetTable}
theorem SetG.size {h : Heap} (R : SetG P w h a L es ep t) : es.size = L.length := by
  have h := congrArg List.length R.rows
  unfold rowsOf at h
  rw [List.length_map, Array.length_toList] at h
  exact h
theorem SetG.entry {h : Heap} (R : SetG P w h a L es ep t) {i : Nat} {p : Addr × List Int} (h : L[i]? = some p) : es[i]? = some (thash P w p.snd, .ref p.fst) := by
  rw [← Array.getElem?_toList, R.rows]
  show (L.map _)[i]? = _
  rw [List.getElem?_map, h]
  rfl
theorem SetG.fits {h : Heap} (R : SetG P w h a L es ep t) : t.fits es.size = true := by
  have h1 := R.tab.sz
  have h2 := R.size
  have h3 := R.room
  rw [List.length_map] at h1
  show (t.place.size == es.size && decide (t.place.size + t.dummies.size ≤ t.mask)) = true
  rw [R.tab.dm, Bool.and_eq_true, beq_iff_eq, decide_eq_true_eq]
  refine ⟨by omega, ?_⟩
  show t.place.size + 0 ≤ t.mask
  omega
theorem mask_oddG {m : Nat} (h : MaskG m) : m % 2 = 1 := by
  obtain ⟨k, k3, _, e⟩ := h
  obtain ⟨j, rfl⟩ : ∃ j, k = j + 1 := ⟨k - 1, by omega⟩
  rw [Nat.pow_succ] at e
  omega
theorem mask_leG {m : Nat} (h : MaskG m) : m ≤ 8191 := by
  obtain ⟨k, _, k1, e⟩ := h
  have : 2 ^ k ≤ 2 ^ 13 := Nat.pow_le_pow_right (by omega) k1.1
  have e2 : 2 ^ 13 = 8192 := by decide
  omega
theorem SetG.gw {h : Heap} (R : SetG P w h a L es ep t) : ¬t.gaveWay = true := by
  show ¬(t.mask % 2 == 0) = true
  rw [mask_oddG R.tab.mok]
  decide
theorem SetG.keep {h h' : Heap} (R : SetG P w h a L es ep t) (ha : ∀ o, h.get? a = some o → h'.get? a = some o) (ht : ∀ p ∈ L, IsT P w h' p.snd p.fst) : SetG P w h' a L es ep t := by
  obtain ⟨o, ho, r⟩ := R.ob
  exact ⟨⟨o, ha o ho, r⟩, R.rows, R.tab, R.nd, ht, R.plain, R.led, R.room, R.few⟩
theorem setG_fresh {h : Heap} (ho : h.get? a = some { cls := .type "set", data := .set #[] 0 (SetTable.fresh 0 0 !w.params.followText "set-order") }) : SetG P w h a [] #[] 0 (SetTable.fresh 0 0 !w.params.followText "set-order") := by
  refine ⟨⟨_, ho, ⟨⟨rfl, rfl, rfl⟩, rfl⟩⟩, rfl, ⟨List.Pairwise.nil, rfl, rfl, ⟨3, by omega, by omega, rfl⟩, fun x hx => ?_, fun i h j hi => ?_⟩, List.nodup_nil, fun p hp => ?_, rfl, ?_, by show 0 * 5 < 7 * 3; decide, by show 0 < 4000; decide⟩
  · cases hx
  · simp at hi
  · cases hp
  · show _ ∨ (!w.params.followText "set-order") = true
    cases w.params.followText "set-order"
    · exact .inr rfl
    · exact .inl rfl
theorem nth_dummy {m : Nat} : ∀ (n : Nat) (p : SetTable.Probe), p.dummy = none → (nth m p n).dummy = none
  | 0, _, h => h
  | n + 1, p, h => nth_dummy n (adv m p) (by
    unfold adv
    split
    · exact h
    · exact h)
theorem search_fromG (R : SetG P w s.heap a L es ep t) {x : Addr} {k : List Int} (hx : IsT P w s.heap k x) (hu : A.units < cLine) {K : Nat} (hKf : K < 10 * SetTable.turns t.mask) (hK : ¬way t.mask (thash P w k) K ∈ t.place.toList)
    (hKb : ∀ c, c < K → way t.mask (thash P w k) c ∈ t.place.toList) {Q : SetFound → Shared → Prop} (hin : k ∈ (L.map fun x => x.snd) → Q (.there none) s) (hout : ¬k ∈ (L.map fun x => x.snd) → Q (.free (way t.mask (thash P w k) K) false) s) :
    ∀ (f c : Nat) (stand : Option SetTable.Probe), stand.getD (t.probeStart (thash P w k)) = nth t.mask (runAt t.mask (SetTable.bits (thash P w k) % (t.mask + 1)) (SetTable.bits (thash P w k))) c → c ≤ K → K - c < f →
      (∀ (i : Nat) (p : Addr × List Int), L[i]? = some p → p.snd = k → ∃ c', c ≤ c' ∧ c' < K ∧ t.place.toList[i]? = some (way t.mask (thash P w k) c')) →
      wpAny (model P w) A (setSearchFrom a (.ref x) (thash P w k) true f stand) Q E s := by
  intro f
  induction f with
  | zero => intro c stand _ _ hf; exact absurd hf (Nat.not_lt_zero _)
  | succ f ih =>
    intro c stand hst hc hf hre
    obtain ⟨o, ho, hex, hd⟩ := R.ob
    obtain ⟨p0, hp0⟩ : ∃ p, p = runAt t.mask (SetTable.bits (thash P w k) % (t.mask + 1)) (SetTable.bits (thash P w k)) := ⟨_, rfl⟩
    rw [← hp0] at hst
    have wy : ∀ q, (nth t.mask p0 q).j = way t.mask (thash P w k) q := fun q => by rw [hp0]
    rw [setSearchFrom_succ a (.ref x) (thash P w k) true f stand]
    refine wpAny_bind (wpAny_setState_of ho hd R.fits ?_)
    refine wp_if_neg R.gw (wpAny_bind (wpAny_pure ?_))
    have hnd : (nth t.mask p0 c).dummy = none := nth_dummy c p0 (by rw [hp0]; rfl)
    have sh : ∀ q, nth t.mask (nth t.mask p0 c) q = nth t.mask p0 (c + q) := fun q => (nth_add t.mask c p0 q).symm
    have e1 : ∀ q, (nth t.mask (nth t.mask p0 c) q).j = way t.mask (thash P w k) (c + q) := fun q => by rw [sh, wy]
    have spec := go_spec t R.tab.ris R.tab.dm (fun i => (Option.map (fun x => x.fst) es[i]?).getD 0) (thash P w k) (10 * SetTable.turns t.mask) (K - c) (nth t.mask p0 c) hnd (by omega)
      (fun q hq => by rw [e1 q]; exact hKb (c + q) (by omega)) (by rw [e1, show c + (K - c) = K by omega]; exact hK)
    have hashAt : ∀ (i : Nat) (p : Addr × List Int), L[i]? = some p → (Option.map (fun x => x.fst) es[i]?).getD 0 = thash P w p.snd := fun i p hp => by rw [R.entry hp]; rfl
    rcases spec with ⟨q, i, hq, hi, hh, hno, hpr⟩ | ⟨hno, hpr⟩
    · have hpr' : t.probe (fun i => (Option.map (fun x => x.fst) es[i]?).getD 0) (thash P w k) (stand.getD (t.probeStart (thash P w k))) = some (.candidate (way t.mask (thash P w k) (c + q)) i (nth t.mask p0 (c + (q + 1)))) := by
        rw [hst, ← e1 q, ← sh (q + 1)]
        exact hpr
      rw [hpr']
      rw [e1 q] at hi
      have hil : i < L.length := by
        have h1 := (List.getElem?_eq_some_iff.mp hi).1
        have h2 := R.tab.sz
        rw [Array.length_toList] at h1
        rw [List.length_map] at h2
        omega
      have hp : L[i]? = some L[i] := List.getElem?_eq_getElem hil
      have hmem := List.mem_of_getElem? hp
      have hpt := R.tup L[i] hmem
      have hsl := slot_live R.tab.ris hi
      have rest : wpAny (model P w) A (searchRest a (.ref x) (thash P w k) true f es t (way t.mask (thash P w k) (c + q)) i (nth t.mask p0 (c + (q + 1)))) Q E s := by
        unfold searchRest
        rw [R.entry hp]
        refine wpAny_bind (wpAny_holding (wpAny_eqBool_tuple hu hpt hx (wpAny_bind (wpAny_setState_of ho hd R.fits ?_))))
        by_cases hkk : L[i].snd = k
        · exact wp_if_pos (by simp [hkk]) (wpAny_pure (hin (List.mem_map.mpr ⟨L[i], hmem, hkk⟩)))
        · refine wp_if_neg (by simp [hkk]) (wpAny_bind (wpAny_pure ?_))
          rw [sameMem t]
          simp only [if_true, hsl, R.entry hp]
          refine wpAny_bind (wpAny_isSame_ref_self (wpAny_bind (wpAny_pure ?_)))
          simp only [if_true]
          refine wp_if_neg (by simp [hkk]) (ih (c + (q + 1)) (some (nth t.mask p0 (c + (q + 1)))) (by rw [← hp0]; rfl) (by omega) (by omega) fun i0 p h0 hk0 => ?_)
          obtain ⟨c', a1, a2, a3⟩ := hre i0 p h0 hk0
          refine ⟨c', ?_, a2, a3⟩
          rcases Nat.lt_or_ge c' (c + q) with z | z
          · exfalso
            refine hno (c' - c) i0 (by omega) (by rw [e1, show c + (c' - c) = c' by omega]; exact a3) ?_
            rw [hashAt i0 p h0, hk0]
          · rcases Nat.lt_or_ge (c + q) c' with y | y
            · omega
            · exfalso
              have ec : c' = c + q := by omega
              rw [ec] at a3
              have s0 := slot_live R.tab.ris a3
              rw [hsl] at s0
              cases s0
              rw [hp] at h0
              exact hkk ((congrArg Prod.snd (Option.some.inj h0)).trans hk0)
      by_cases hl : t.led = true
      · exact wp_if_neg (by simp [hl]) rest
      · refine wp_if_pos (by simp [hl]) (wpAny_bind (seen_tup hx (fun y hy => ?_) (wp_if_neg (by decide) rest)))
        obtain ⟨e, he, ee⟩ := List.mem_map.mp hy
        have he1 : e ∈ es.toList := by
          have := he
          simp at this
          simpa using this.1
        rw [R.rows] at he1
        obtain ⟨p2, hp2, e2⟩ := List.mem_map.mp he1
        exact ⟨p2.snd, p2.fst, by rw [← ee, ← e2], R.tup p2 hp2⟩
    · have hpr' : t.probe (fun i => (Option.map (fun x => x.fst) es[i]?).getD 0) (thash P w k) (stand.getD (t.probeStart (thash P w k))) = some (.empty (way t.mask (thash P w k) K) none) := by
        rw [hst, show way t.mask (thash P w k) K = (nth t.mask (nth t.mask p0 c) (K - c)).j by rw [e1, show c + (K - c) = K by omega]]
        exact hpr
      rw [hpr']
      refine wpAny_pure (hout fun hm => ?_)
      obtain ⟨p, h0, hk0⟩ := List.mem_map.mp hm
      obtain ⟨i0, hi0, e0⟩ := List.getElem_of_mem h0
      have h00 : L[i0]? = some p := by rw [List.getElem?_eq_getElem hi0, e0]
      obtain ⟨c', a1, a2, a3⟩ := hre i0 p h00 hk0
      refine hno (c' - c) i0 (by omega) (by rw [e1, show c + (c' - c) = c' by omega]; exact a3) ?_
      rw [hashAt i0 p h00, hk0]
theorem search_atG (R : SetG P w s.heap a L es ep t) {x : Addr} {k : List Int} (hx : IsT P w s.heap k x) (hu : A.units < cLine) {Q : SetFound → Shared → Prop} (hin : k ∈ (L.map fun x => x.snd) → Q (.there none) s)
    (hout : ∀ K, ¬k ∈ (L.map fun x => x.snd) → ¬way t.mask (thash P w k) K ∈ t.place.toList → (∀ c, c < K → way t.mask (thash P w k) c ∈ t.place.toList) → Q (.free (way t.mask (thash P w k) K) false) s) :
    wpAny (model P w) A (setSearch a (.ref x) (thash P w k) true) Q E s := by
  have hroom := R.room
  obtain ⟨K, hKf, hK, hKb⟩ := R.tab.first (by rw [List.length_map]; omega) (thash P w k)
  have hbig : K - 0 < 100000 := by
    have := mask_leG R.tab.mok
    have : K < 10 * (t.mask + 15) := hKf
    omega
  show wpAny (model P w) A (setSearchFrom a (.ref x) (thash P w k) true 100000 none) Q E s
  refine search_fromG R hx hu hKf hK hKb hin (fun hn => hout K hn hK hKb) 100000 0 none rfl (Nat.zero_le K) hbig fun i p hp hk => ?_
  have hi : (L.map fun p => thash P w p.snd)[i]? = some (thash P w k) := by rw [List.getElem?_map, hp, ← hk]; rfl
  have hil : i < t.place.toList.length := by
    have h1 := (List.getElem?_eq_some_iff.mp hp).1
    have h2 := R.tab.sz
    rw [List.length_map] at h2
    rw [Array.length_toList]
    omega
  have hj := List.getElem?_eq_getElem hil
  obtain ⟨c, hc, e⟩ := R.tab.before hK hi hj
  exact ⟨c, Nat.zero_le c, hc, by rw [hj, e]⟩
theorem relay_atG {o : Obj} (ho : s.heap.get? a = some o) (hex : o.ExactSet) (hd : o.data = Data.set es ep t) (hrows : es.toList = rowsOf P w L) (hsz : t.place.size = es.size) (hdm : t.dummies = #[]) (hfl : es.size ≤ t.mask) (nd : (L.map fun x => x.snd).Nodup)
    (tup : ∀ p ∈ L, IsT P w s.heap p.snd p.fst) (pl : t.plain = true) (ld : w.params.followText "set-order" = true ∨ t.led = true) (few : L.length < 4000) {wanted M : Nat} (hw : SetTable.sizeAbove wanted - 1 = M) (hM : MaskG M) (hw2 : SetTable.sizeAbove wanted ≤ 8192) (hn : L.length * 5 < M * 3)
    {Q : Unit → Shared → Prop} (hQ : ∀ (h' : Heap) (L' : List (Addr × List Int)) (es' : Array (Int × Value)) (ep' : Nat) (t' : SetTable), Heap.SameBut a s.heap h' → SetG P w h' a L' es' ep' t' → L'.Perm L → Q () { s with heap := h' }) :
    wpAny (model P w) A (setRelay a wanted) Q E s := by
  have hsl : es.size = L.length := by
    have h := congrArg List.length hrows
    unfold rowsOf at h
    rw [List.length_map, Array.length_toList] at h
    exact h
  have hfits : t.fits es.size = true := by
    show (t.place.size == es.size && decide (t.place.size + t.dummies.size ≤ t.mask)) = true
    rw [hdm, Bool.and_eq_true, beq_iff_eq, decide_eq_true_eq]
    refine ⟨by omega, ?_⟩
    show t.place.size + 0 ≤ t.mask
    omega
  obtain ⟨t', order, e, hp, T, em, el, ep2, ed⟩ := relaid_okG t (hs := es.map fun x => x.fst) hw hM (by rw [Array.size_map, hsl]; omega)
  rw [Array.size_map, hsl] at hp
  obtain ⟨L2, r1, r2, r3⟩ := order_rows L es order hrows hp
  have hs2 : (order.filterMap fun i => es[i]?).size = es.size := by
    have h := congrArg List.length r1
    unfold rowsOf at h
    rw [List.length_map, Array.length_toList, r2.length_eq] at h
    rw [h, hsl]
  have sll := sizeLine_eq
  rw [setRelay_eq a wanted]
  refine wpAny_bind (wpAny_setState_of ho hd hfits ?_)
  refine wp_if_neg (by omega) ?_
  rw [e]
  refine wpAny_bind (wp_if_neg (by rw [hs2]; simp) (wpAny_pure ?_))
  have sb := Heap.SameBut.update s.heap a (Obj.putSet (order.filterMap fun i => es[i]?) t')
  refine wpAny_storeSet_of ho hd (hQ _ L2 (order.filterMap fun i => es[i]?) (ep + 1) t' sb ⟨⟨{ cls := o.cls, dict := o.dict, data := .set (order.filterMap fun i => es[i]?) (ep + 1) t', slots := o.slots }, store_at ho hd, ⟨⟨hex.1, hex.2.1, hex.2.2⟩, rfl⟩⟩, r1, r3 ▸ T, (r2.map fun x => x.2).nodup_iff.mpr nd, fun p hpm => isT_same (tup p (r2.mem_iff.mp hpm)) ho hd sb, by rw [ep2]; exact pl, by rw [el]; exact ld, by rw [r2.length_eq, em]; exact hn, by rw [r2.length_eq]; exact few⟩ r2) (by rw [hs2, hsl]; omega)
end
end Tw

/-! Tw, part W4: sets of tuples of any size: adding, set(xs). -/
namespace Tw
open PySem L2
theorem mask_cases {m : Nat} (h : MaskG m) : m = 7 ∨ m = 31 ∨ m = 127 ∨ m = 511 ∨ m = 2047 ∨ m = 8191 := by
  obtain ⟨k, k3, ⟨k1, k2⟩, e⟩ := h
  have : k = 3 ∨ k = 5 ∨ k = 7 ∨ k = 9 ∨ k = 11 ∨ k = 13 := by omega
  rcases this with rfl | rfl | rfl | rfl | rfl | rfl <;> simp at e <;> omega
theorem mask_of {m : Nat} (h : m = 7 ∨ m = 31 ∨ m = 127 ∨ m = 511 ∨ m = 2047 ∨ m = 8191) : MaskG m := by
  rcases h with rfl | rfl | rfl | rfl | rfl | rfl
  · exact ⟨3, by omega, by omega, rfl⟩
  · exact ⟨5, by omega, by omega, rfl⟩
  · exact ⟨7, by omega, by omega, rfl⟩
  · exact ⟨9, by omega, by omega, rfl⟩
  · exact ⟨11, by omega, by omega, rfl⟩
  · exact ⟨13, by omega, by omega, rfl⟩
/-- where a full table goes -/
theorem grow_to {m n : Nat} (h : MaskG m) (h1 : n * 5 < m * 3) (h2 : (n + 1) * 5 ≥ m * 3) (few : n + 1 < 4000) : ∃ M, SetTable.sizeAbove (SetTable.grown (n + 1)) - 1 = M ∧ MaskG M ∧ SetTable.sizeAbove (SetTable.grown (n + 1)) ≤ 8192 ∧ (n + 1) * 5 < M * 3 ∧ n + 1 ≤ m := by
  rcases mask_cases h with rfl | rfl | rfl | rfl | rfl | rfl
  · obtain rfl : n = 4 := by omega
    exact ⟨31, by decide, mask_of (by omega), by decide, by omega, by omega⟩
  · obtain rfl : n = 18 := by omega
    exact ⟨127, by decide, mask_of (by omega), by decide, by omega, by omega⟩
  · obtain rfl : n = 76 := by omega
    exact ⟨511, by decide, mask_of (by omega), by decide, by omega, by omega⟩
  · obtain rfl : n = 306 := by omega
    exact ⟨2047, by decide, mask_of (by omega), by decide, by omega, by omega⟩
  · obtain rfl : n = 1228 := by omega
    exact ⟨8191, by decide, mask_of (by omega), by decide, by omega, by omega⟩
  · omega
section
variable {P : Program} {w : World} {A : Around} {E : Value → Shared → Prop} {s : Shared} {a : Addr} {L : List (Addr × List Int)} {es : Array (Int × Value)} {ep : Nat} {t : SetTable}
theorem add_atG (R : SetG P w s.heap a L es ep t) {x : Addr} {k : List Int} (hx : IsT P w s.heap k x) (hu : A.units < cLine) (hfew : L.length + 1 < 4000) {Q : Bool → Shared → Prop}
    (hQ : ∀ (b : Bool) (h' : Heap) (L' : List (Addr × List Int)) (es' : Array (Int × Value)) (ep' : Nat) (t' : SetTable), Heap.SameBut a s.heap h' → SetG P w h' a L' es' ep' t' → (k ∈ (L.map fun x => x.snd) → L' = L) → (¬k ∈ (L.map fun x => x.snd) → L'.Perm ((x, k) :: L)) → Q b { s with heap := h' }) :
    wpAny (model P w) A (setAddHashed a (.ref x) (thash P w k)) Q E s := by
  obtain ⟨o, ho, hex, hd⟩ := R.ob
  have hsl := R.size
  have hroom := R.room
  have sll := sizeLine_eq
  show wpAny (model P w) A (holding [.ref x] (setAddHashedIn a (.ref x) (thash P w k) (99999 + 1))) Q E s
  refine wpAny_holding ?_
  rw [setAddHashedIn_succ a (.ref x) (thash P w k) 99999]
  refine wpAny_bind (wpAny_setState_of ho hd R.fits ?_)
  refine wp_if_neg (by simp [byScan, Value.scannable]) (wpAny_bind (search_atG R hx hu (fun hm => ?_) fun K hm hK hb => ?_))
  · exact wpAny_pure (hQ false s.heap L es ep t (Heap.SameBut.refl a s.heap) R (fun _ => rfl) fun z => absurd hm z)
  · refine wpAny_bind (wpAny_setState_of ho hd R.fits ?_)
    have hput := R.tab.put hK hb
    obtain ⟨p, hp⟩ : ∃ p, p = SetTable.below t.place (way t.mask (thash P w k) K) := ⟨_, rfl⟩
    rw [← hp] at hput
    obtain ⟨t1, p', hpt⟩ : ∃ t1 p', t.put (way t.mask (thash P w k) K) = (t1, p') := ⟨_, _, rfl⟩
    rw [hpt] at hput
    dsimp only
    rw [hpt]
    dsimp only
    obtain ⟨q1, q2, q3, q4, q5, q6, q7, q8, q9⟩ := hput
    dsimp only at q1 q3 q4 q5 q6 q7 q8 q9
    subst q1
    have hp1 : t1.plain = true := by rw [q6]; exact R.plain
    refine wp_if_pos hp1 (wpAny_bind (hashBy_tup hx ?_))
    simp only [if_true]
    obtain ⟨L1, eL1⟩ : ∃ L1, L1 = L.take p' ++ (x, k) :: L.drop p' := ⟨_, rfl⟩
    obtain ⟨es1, ees⟩ : ∃ es1, es1 = SetTable.insertAt es p' (thash P w k, Value.ref x) := ⟨_, rfl⟩
    rw [← ees]
    have hin : es1.toList = rowsOf P w L1 := by
      rw [ees, eL1, SetTable.toList_insertAt es p' (thash P w k, .ref x), rows_put L p' x k, R.rows]
    have pm : L1.Perm ((x, k) :: L) := by rw [eL1]; exact put_perm L p' (x, k)
    have hlen := pm.length_eq
    rw [List.length_cons] at hlen
    have hhs : (L1.map fun p => thash P w p.snd) = (L.map fun p => thash P w p.snd).take p' ++ thash P w k :: (L.map fun p => thash P w p.snd).drop p' := by
      rw [eL1, List.map_append, List.map_cons, List.map_take, List.map_drop]
    rw [← hhs] at q3
    have nd1 : (L1.map fun x => x.snd).Nodup := (pm.map fun x => x.2).nodup_iff.mpr (by rw [List.map_cons]; exact List.nodup_cons.mpr ⟨hm, R.nd⟩)
    have hes : es1.size = L.length + 1 := by
      have h := congrArg List.length hin
      unfold rowsOf at h
      rw [List.length_map, Array.length_toList] at h
      omega
    rw [List.length_map] at q9
    have ld1 : w.params.followText "set-order" = true ∨ t1.led = true := by rw [q5]; exact R.led
    refine wpAny_bind (wpAny_storeSet_of ho hd ?_ (by omega))
    have sb := Heap.SameBut.update s.heap a (Obj.putSet es1 t1)
    have ho1 := store_at (es' := es1) (t' := t1) ho hd
    have tup1 : ∀ p ∈ L1, IsT P w (s.heap.update a (Obj.putSet es1 t1)) p.snd p.fst := fun p hp => by
      rcases List.mem_cons.mp (pm.mem_iff.mp hp) with e | hp
      · rw [e]; exact isT_same hx ho hd sb
      · exact isT_same (R.tup p hp) ho hd sb
    by_cases hf : t1.tooFull = true
    · refine wp_if_pos (by simp [hf]) (wpAny_bind ?_)
      have hfull : (L.length + 1) * 5 ≥ t1.mask * 3 := by
        have h := hf
        unfold SetTable.tooFull at h
        rw [decide_eq_true_eq, q9] at h
        exact h
      rw [q4] at hfull
      rw [hsl]
      obtain ⟨M, g1, g2, g3, g4, g5⟩ := grow_to R.tab.mok hroom hfull hfew
      refine relay_atG (o := { cls := o.cls, dict := o.dict, data := .set es1 (ep + 1) t1, slots := o.slots }) (es := es1) (ep := ep + 1) (t := t1) ho1 ⟨hex.1, hex.2.1, hex.2.2⟩ rfl hin ?_ q3.dm (by rw [q4]; omega) nd1 tup1 hp1 ld1 (by omega) g1 g2 g3 (by rw [hlen]; exact g4) fun h2 L2 es2 ep2 t2 sb2 R2 pm2 => wpAny_pure (hQ true h2 L2 es2 ep2 t2 (sb.trans sb2) R2 (fun z => absurd z hm) fun _ => pm2.trans pm)
      have h := q3.sz
      rw [List.length_map] at h
      omega
    · refine wp_if_neg (by simp [hf]) (wpAny_pure (hQ true _ L1 es1 (ep + 1) t1 sb ⟨⟨_, ho1, ⟨⟨hex.1, hex.2.1, hex.2.2⟩, rfl⟩⟩, hin, q3, nd1, tup1, hp1, ld1, ?_, by omega⟩ (fun z => absurd z hm) fun _ => pm))
      have h := hf
      unfold SetTable.tooFull at h
      rw [decide_eq_true_eq, q9] at h
      omega
end
end Tw

/-! Tw, part W5: set(xs) of tuples of ints, of any size below 4000. -/
namespace Tw
open PySem PySem.Spec L2 PyProof.Rows
theorem nodup_leG {α : Type} [DecidableEq α] : ∀ (l S : List α), l.Nodup → (∀ k ∈ l, k ∈ S) → l.length ≤ S.length
  | [], _, _, _ => Nat.zero_le _
  | a :: l, S, nd, sub => by
    have ha : a ∈ S := sub a List.mem_cons_self
    have h := nodup_leG l (S.erase a) (List.nodup_cons.mp nd).2 fun k hk => (List.mem_erase_of_ne (fun e => by subst e; exact (List.nodup_cons.mp nd).1 hk)).mpr (sub k (List.mem_cons_of_mem _ hk))
    rw [List.length_erase_of_mem ha] at h
    have := List.length_pos_of_mem ha
    simp only [List.length_cons]; omega
def fewT (ks : List (Addr × List Int)) : Prop := ∃ S : List (List Int), S.length < 3999 ∧ ∀ p ∈ ks, p.2 ∈ S
section
variable {P : Program} {w : World} {A : Around} {E : Value → Shared → Prop} {s : Shared}
theorem got_few {ks : List (Addr × List Int)} (few : fewT ks) {i : Nat} {L : List (Addr × List Int)} (g : Got ks i L) (nd : (L.map fun x => x.snd).Nodup) : L.length + 1 < 4000 := by
  obtain ⟨S, hs, sub⟩ := few
  have := nodup_leG (L.map fun x => x.snd) S nd fun k hk => by
    obtain ⟨p, hp, rfl⟩ := List.mem_map.mp hk
    exact sub p (List.mem_of_mem_take (g.sub p hp))
  rw [List.length_map] at this
  omega
theorem upd_tups {it : Addr} {fp wr : List Addr} {Gs : Array GenState → Array GenState → Prop} {n : Nat} {Pv : Nat → Value → Prop} {St : Nat → Shared → Prop} {R : Result → Shared → Prop}
    (Wk : WalksS P w A.in1 it fp wr Gs n Pv St) (z : Addr) (zf : z ∉ fp) (ks : List (Addr × List Int)) (en : n = ks.length) (few : fewT ks) (val : ∀ i v, Pv i v → ∃ p, ks[i]? = some p ∧ v = .ref p.1)
    (h0 : Heap) (tup : ∀ p ∈ ks, IsT P w h0 p.2 p.1) (z0 : h0.get? z = none) (w0 : ∀ b ∈ wr, h0.get? b = none) (hu : A.in1.units < cLine) :
    ∀ (j i : Nat) (s : Shared), n - i = j → i ≤ n → St i s → (∀ b o, h0.get? b = some o → s.heap.get? b = some o) → (∃ L es ep t, SetG P w s.heap z L es ep t ∧ Got ks i L) →
      (∀ s' L es ep t, Moved (z :: wr) Gs s s' → SetG P w s'.heap z L es ep t → Got ks n L → (∀ b o, h0.get? b = some o → s'.heap.get? b = some o) → R (.ok (.ret .none)) s') →
      codeAny (model P w) A (.builtin "set.update.loop" ⟨[.ref z, .ref it], []⟩) R s := by
  have zw : z ∉ wr := fun q => zf (Wk.sub _ q)
  have up : ∀ b ∈ wr, b ∈ z :: wr := fun b q => List.mem_cons_of_mem _ q
  have held : ∀ {s s' : Shared}, Moved wr Gs s s' → (∀ b o, h0.get? b = some o → s.heap.get? b = some o) → ∀ b o, h0.get? b = some o → s'.heap.get? b = some o := fun mv kp b o q =>
    mv.heap b o (fun hb => by rw [w0 b hb] at q; cases q) (kp b o q)
  have tups : ∀ {h : Heap} {i : Nat} {L : List (Addr × List Int)}, Got ks i L → (∀ b o, h0.get? b = some o → h.get? b = some o) → ∀ p ∈ L, IsT P w h p.2 p.1 := fun g kp p hp => isT_keep (tup p (List.mem_of_mem_take (g.sub p hp))) kp
  intro j
  induction j with
  | zero =>
    intro i s ej hi st kp ⟨L, es, ep, t, hz, hg⟩ fin
    obtain rfl : i = n := by omega
    refine codeAny_builtin F.entry_set_update_loop ?_
    rw [Around.under_plainId F.plain_set_update_loop _]
    show wpAny _ A.in1 (pyNext (.ref it) >>= _) _ _ s
    refine wpAny_bind (Wk.done s _ _ st fun s' mv => ?_)
    show wpAny _ A.in1 (ret Value.none) _ _ s'
    exact wpAny_pure (fin s' L es ep t (mv.mono up) (hz.keep (fun o q => mv.heap z o zw q) (tups hg (held mv kp))) hg (held mv kp))
  | succ j ih =>
    intro i s ej hi st kp ⟨L, es, ep, t, hz, hg⟩ fin
    have lt : i < n := by omega
    refine codeAny_builtin F.entry_set_update_loop ?_
    rw [Around.under_plainId F.plain_set_update_loop _]
    show wpAny _ A.in1 (pyNext (.ref it) >>= _) _ _ s
    refine wpAny_bind (Wk.item i s _ _ lt st fun v s' pv' st' mv => ?_)
    obtain ⟨p, hk, rfl⟩ := val i v pv'
    have kp' := held mv kp
    have hz' : SetG P w s'.heap z L es ep t := hz.keep (fun o q => mv.heap z o zw q) (tups hg kp')
    have hpm : p ∈ ks := List.mem_of_getElem? hk
    show wpAny _ A.in1 (holding [Value.ref p.1] (setAdd z (.ref p.1)) >>= _) _ _ s'
    refine wpAny_bind (wpAny_holding ?_)
    unfold setAdd
    refine wpAny_holding ?_
    have it0 := isT_keep (tup p hpm) kp'
    refine wpAny_bind (wpAny_pyHash_tuple hu it0 ?_)
    refine add_atG (s := { s' with toks := s'.toks + (p.2.length + 1) }) hz' it0 hu (got_few few hg hz.nd) fun b h' L' es' ep' t' sb r rin rout => ?_
    have kp2 : ∀ b o, h0.get? b = some o → h'.get? b = some o := fun b o q => (sb.2 b (fun e => by rw [e, z0] at q; cases q)).trans (kp' b o q)
    have fr : ∀ b ∈ fp, ∀ o, s'.heap.get? b = some o → h'.get? b = some o := fun b hb o q => by
      rw [sb.2 b (fun e => zf (by rw [← e]; exact hb))]; exact q
    refine wpAny_pure ⟨plainId_quiet F.plain_set_update_loop _, ih (i + 1) _ (by omega) lt (Wk.frame _ s' _ _ st' (Nat.le_add_right _ _) fr) kp2 ⟨L', es', ep', t', r, ?_⟩ fun s'' L2 es2 ep2 t2 mv2 hz2 hg2 kp3 => ?_⟩
    · by_cases hin : p.2 ∈ L.map fun x => x.snd
      · rw [rin hin]; exact hg.same hk hin
      · exact hg.more hk (rout hin)
    · refine fin s'' L2 es2 ep2 t2 (Moved.trans Wk.gtrans ((mv.mono up).then_heap (Nat.le_add_right _ _) fun b o hb q => ?_) mv2) hz2 hg2 kp3
      rw [sb.2 b (fun e => hb (by rw [e]; exact List.mem_cons_self))]; exact q

set_option maxHeartbeats 3200000 in
/-- set(xs) of tuples of ints -/
theorem call_setG {l : Addr} {items : Array Value} (ks : List (Addr × List Int)) {Q : Value → Shared → Prop} (hh : A.handled = none) (il : s.heap.IsList l items) (ii : items.toList = ks.map fun p => Value.ref p.1) (tup : ∀ p ∈ ks, IsT P w s.heap p.2 p.1) (few : fewT ks) (hu : A.units + 3 < cLine)
    (h : ∀ (h' : Heap) (tk : Nat) L es ep t, SetG P w h' s.heap.objs.size L es ep t → Got ks ks.length L → (∀ b o, s.heap.get? b = some o → h'.get? b = some o) → Q (.ref s.heap.objs.size) { s with heap := h', toks := tk }) :
    wpAny (model P w) A (call (.type "set") [.ref l]) Q E s := by
  have sz : items.size = ks.length := by
    have q := congrArg List.length ii
    rw [Array.length_toList, List.length_map] at q
    exact q
  obtain ⟨c, tl, hmro⟩ := F.called_set.mro
  have c1 := F.called_set.made
  have c2 := F.called_set.sub
  refine wpAny_call (codeAny_of_tree ?_)
  show wpAny _ _ (callAny (.type "set") _) _ _ _
  refine wpAny_pure ⟨Code.quiet_builtin _ (by decide +kernel), codeAny_builtin F.entry_type_call ?_⟩
  rw [Around.under_plain (weight_type_call_type "set" [.ref l] []) rfl]
  have c3 := F.called_set.notType
  have c4 := F.called_set.canCreate
  have c5 := F.typeCall_set_1 (.ref l)
  repeat (any_goals (first | assumption | wp_step))
  refine codeAny_mono (code_set_led1 (.ref l) (E := E) (Q₁ := fun obj s₁ => obj = .ref s.heap.objs.size ∧ s₁ = { s with heap := s.heap.push (fresh0 w) }) ⟨rfl, rfl⟩) fun r s₁ hr => ?_
  cases r with
  | error e => exact hr
  | ok fl =>
    cases fl with
    | ret obj =>
      obtain ⟨rfl, rfl⟩ := hr
      have hS : (s.heap.push (fresh0 w)).get? s.heap.objs.size = some (fresh0 w) := Heap.get?_push_size _ rfl
      have hT : Shared.TypeIs { s with heap := s.heap.push (fresh0 w) } (.ref s.heap.objs.size) "set" := ⟨_, hS, rfl⟩
      have c6 := F.called_set.init.lookup
      have c7 := F.called_set.init.bind (.ref s.heap.objs.size)
      repeat (any_goals (first | assumption | wp_step))
      refine codeAny_mono (codeAny_call_builtin (R := wants (fun r s₂ => r = .none ∧ ∃ h' tk L es ep t, s₂ = { s with heap := h', toks := tk } ∧ SetG P w h' s.heap.objs.size L es ep t ∧ Got ks ks.length L ∧
          (∀ b o, s.heap.get? b = some o → h'.get? b = some o)) E) F.called_set.init.plain F.entry_set_init (check_set_init_1 hT ?_)) fun r₂ s₂ hr₂ => ?_
      · obtain ⟨ol, hol, hcl, nl, hdl⟩ := il
        obtain ⟨ocls, odict, odata, oslots⟩ := ol
        simp only at hcl hdl
        subst hcl; subst hdl
        have hol' : (s.heap.push (fresh0 w)).get? l = some { cls := .type "list", dict := odict, data := .seq items nl, slots := oslots } := Heap.get?_push_of_some _ hol
        have d1 := F.sub_list_set
        have d2 := F.sub_list_frozenset
        have d3 : (Value.type "list" == Value.type "dict") = false := by decide
        have hl1 : (s.heap.push (fresh0 w)).IsList l items := ⟨_, hol', rfl, nl, rfl⟩
        unfold Builtin.«set.__init__» noKeywords Builtin.Frozenset.updateFrom
        generalize hPI : pyIter = PI
        wp_walk
        subst hPI
        refine wpAny_pyIter_list hl1 ?_
        refine wpAny_bind (wpAny_runValue ?_)
        have ls : l < s.heap.objs.size := Heap.lt_size hol
        have hh3 : A.in1.in1.in1.handled = none := by simp [hh]
        have nI : l ≠ (s.heap.push (fresh0 w)).objs.size := by
          rw [Heap.size_push]
          exact Nat.ne_of_lt (Nat.lt_succ_of_lt ls)
        have nf : s.heap.objs.size ∉ [(s.heap.push (fresh0 w)).objs.size, l] := by
          rw [Heap.size_push]; simp only [List.mem_cons, List.not_mem_nil, or_false, not_or]
          exact ⟨Nat.ne_of_lt (Nat.lt_succ_self _), Nat.ne_of_gt ls⟩
        have val : ∀ (i : Nat) (v : Value), items[i]? = some v → ∃ p, ks[i]? = some p ∧ v = .ref p.1 := fun i v hv => by
          have q : items.toList[i]? = some v := by rw [Array.getElem?_toList]; exact hv
          rw [ii, List.getElem?_map] at q
          cases e : ks[i]? with
          | none => rw [e] at q; cases q
          | some p => rw [e] at q; exact ⟨p, rfl, (Option.some.inj q).symm⟩
        have nn : ∀ b, s.heap.objs.size ≤ b → s.heap.get? b = none := fun b hb => by
          cases q : s.heap.get? b with
          | none => rfl
          | some o => exact absurd (Nat.lt_of_lt_of_le (Heap.lt_size q) hb) (Nat.lt_irrefl _)
        refine upd_tups ((Walks.list hh3 _ l nI items).toS) s.heap.objs.size nf ks sz few val s.heap tup (nn _ (Nat.le_refl _)) (fun b hb => nn b (by
            rw [List.mem_singleton.mp hb, Heap.size_push]
            exact Nat.le_succ _)) (by show A.units + 1 + 1 + 1 < cLine; omega) (items.size - 0) 0 _ (by omega) (Nat.zero_le _)
          ⟨⟨_, Heap.get?_push_size _ rfl, rfl, rfl⟩, (hl1.push _)⟩ (fun b o e => Heap.get?_push_of_some _ (Heap.get?_push_of_some _ e)) ?hS0 ?hR
        case hS0 =>
          exact ⟨[], #[], 0, _, setG_fresh (Heap.get?_push_of_some _ hS), Got.zero ks⟩
        case hR =>
          intro s' L es ep t mv hz hg kp
          obtain ⟨h', g2, d', tk', os'⟩ := s'
          have eg : g2 = s.gens := mv.gens
          have ed : d' = s.drawn := mv.drawn
          have eo : os' = s.os := mv.os
          subst eg; subst ed; subst eo
          show wpAny _ _ _ _ _ _
          refine wpAny_pure ?_
          show wpAny _ _ (ret Value.none) _ _ _
          exact wpAny_pure ⟨rfl, h', tk', L, es, ep, t, rfl, hz, sz ▸ hg, kp⟩
      · cases r₂ with
        | error e => exact hr₂
        | ok fl₂ =>
          cases fl₂ with
          | ret r =>
            obtain ⟨rfl, h', tk, L, es, ep, t, rfl, hz, hg, kp⟩ := hr₂
            repeat (any_goals (first | assumption | wp_step))
            exact h _ _ L es ep t hz hg kp
          | _ => exact hr₂.elim
    | _ => exact hr.elim
end
end Tw

/-! Tw, part W6: sorted(set(xs)) of tuples of ints. -/
namespace Tw
open PySem PySem.Spec PySem.W L2 PyProof.Rows
section
variable {P : Program} {w : World} {A : Around} {E : Value → Shared → Prop} {s : Shared} {a : Addr} {L : List (Addr × List Int)} {es : Array (Int × Value)} {ep : Nat} {t : SetTable}
theorem reads_items {h : Heap} : ∀ {vs : List Value} {ns : List Int}, IntsAre vs ns → ReadsAll h vs (ns.map .int) []
  | _, _, .nil => .nil
  | _, _, .cons n t r => .cons (as := []) (bs := []) (.int n t) (reads_items r)
theorem reads_isT {h : Heap} {k : List Int} {b : Addr} (it : L2.IsT P w h k b) : Reads h (.ref b) (encT k) [] := by
  obtain ⟨o, items, n, h1, h2, h3, h4⟩ := it
  exact .tuple h1 h2 h3 (reads_items (ints_of_items h4))
theorem eachRef : ∀ (L : List (Addr × List Int)), EachIs (fun (v : Value) (q : Addr × List Int) => v = .ref q.1) (L.map fun q => .ref q.1) L
  | [] => .nil
  | q :: L => .cons rfl (eachRef L)
theorem refs_of : ∀ {vs : List Value} {L : List (Addr × List Int)}, EachIs (fun (v : Value) (q : Addr × List Int) => v = .ref q.1) vs L → vs = L.map fun q => .ref q.1
  | _, _, .nil => rfl
  | _, _, .cons h t => by rw [h, refs_of t]; rfl
theorem encP_le : dataLe false (fun q : Addr × List Int => encT q.2) = fun p q => decide (p.2 ≤ q.2) := by
  funext p q
  have := congrFun (congrFun encT_le p.2) q.2
  exact this
theorem sortP_sorted (L1 : List (Addr × List Int)) : (L1.mergeSort fun p q => decide (p.2 ≤ q.2)).Pairwise (fun q r => q.2 ≤ r.2) := by
  have := List.pairwise_mergeSort (le := fun p q : Addr × List Int => decide (p.2 ≤ q.2)) (fun x y z h1 h2 => by
    have h1 := of_decide_eq_true h1
    have h2 := of_decide_eq_true h2
    exact decide_eq_true (List.le_trans h1 h2)) (fun x y => by
    rw [Bool.or_eq_true, decide_eq_true_eq, decide_eq_true_eq]
    exact List.le_total x.2 y.2) L1
  exact this.imp fun h => of_decide_eq_true h
set_option maxHeartbeats 1600000 in
theorem sorted_setG {Q : Value → Shared → Prop} (R : SetG P w s.heap a L es ep t) (hh : A.handled = none) (hu : A.units + 4 < cLine)
    (hQ : ∀ (s' : Shared) (p : Nat) (out : Array Value) (c : Nat) (L' : List (Addr × List Int)), (∀ b o, s.heap.get? b = some o → s'.heap.get? b = some o) → s'.gens = s.gens → s'.os = s.os → s.heap.objs.size ≤ p → s'.heap.get? p = some (seqObj "list" out c) → out.toList = (L'.map fun q => Value.ref q.fst) → L'.Perm L → L'.Pairwise (fun q r => q.2 ≤ r.2) → Q (.ref p) s') :
    wpAny (model P w) A (call (.builtin "sorted") [.ref a]) Q E s := by
  obtain ⟨o, ho, hex, hd⟩ := R.ob
  have hsz := R.size
  have hfew := R.few
  have hsb : es.size < scanBound := by unfold scanBound; omega
  have sll := sizeLine_eq
  refine Calls.call_function_entry kind_sorted plain_sorted entry_sorted (args_sorted1 (.ref a)) ?_
  refine wpAny_bind (wpAny_pure (wpAny_bind (collect_set hh ⟨o, ho, hex.1, hd⟩ R.fits hsb R.tab.ris R.led fun s1 vs k1 hz g1 o1 pm => ?_)))
  have hes : es.toList.map (fun x => x.snd) = L.map fun q => Value.ref q.fst := by
    rw [R.rows]
    unfold L2.rowsOf
    rw [List.map_map]
    rfl
  rw [hes] at pm
  have hvl : vs.length = L.length := by rw [pm.length_eq, List.length_map]
  refine wpAny_bind (wpAny_newList ?_ (by omega))
  have hoL : (s1.heap.push (seqObj "list" vs.toArray 0)).get? s1.heap.objs.size = some (seqObj "list" vs.toArray 0) := Heap.get?_push_size s1.heap rfl
  refine wpAny_bind (wpAny_holding ?_)
  -- the members, in the order in which they come
  have ord : ∀ vs : List Value, (∀ v ∈ vs, ∃ q, q ∈ L ∧ v = .ref q.1) → ∃ L1 : List (Addr × List Int), vs = (L1.map fun q => .ref q.1) ∧ ∀ q ∈ L1, q ∈ L := by
    intro vs
    induction vs with
    | nil => intro _; exact ⟨[], rfl, fun q hq => by cases hq⟩
    | cons v vs ih =>
      intro hv
      obtain ⟨q, hq, e⟩ := hv v (by simp)
      obtain ⟨L1, e1, h1⟩ := ih fun u hu => hv u (by simp [hu])
      exact ⟨q :: L1, by rw [e, e1]; rfl, fun r hr => by
        rcases List.mem_cons.mp hr with z | z
        · rw [z]; exact hq
        · exact h1 r z⟩
  obtain ⟨L1, e1, sub1⟩ := ord vs fun v hv => by
    obtain ⟨q, hq, e⟩ := List.mem_map.mp (pm.mem_iff.mp hv)
    exact ⟨q, hq, e.symm⟩
  have one : ∀ q ∈ L, ∀ r ∈ L, q.1 = r.1 → q = r := fun q hq r hr e => by
    have a1 := R.tup q hq
    have a2 := R.tup r hr
    rw [e] at a1
    exact Prod.ext e (IsTupleKey.inj a1 a2)
  have nL : L.Nodup := L2.nodup_of_map R.nd
  have nref : (L.map fun q => Value.ref q.1).Nodup := List.pairwise_map.mpr (List.Pairwise.imp_of_mem (fun {q r} hq hr hne e => hne (one q hq r hr (by injection e))) nL)
  have p1 : L1.Perm L := by
    rw [e1] at pm
    have n1 : L1.Nodup := L2.nodup_of_map (f := fun q => Value.ref q.1) (pm.nodup_iff.mpr nref)
    refine (List.perm_ext_iff_of_nodup n1 nL).mpr fun q => ⟨sub1 q, fun hq => ?_⟩
    have hm := pm.mem_iff.mpr (List.mem_map.mpr ⟨q, hq, rfl⟩)
    obtain ⟨r, hr, e⟩ := List.mem_map.mp hm
    have : r = q := one r (sub1 r hr) q hq (by injection e)
    rw [← this]; exact hr
  subst e1
  rw [List.length_map] at hvl
  let H1 := s1.heap.push (seqObj "list" (L1.map fun q => Value.ref q.1).toArray 0)
  let H2 := sortingHeap H1 s1.heap.objs.size (L1.map fun q => Value.ref q.1)
  have old2 : ∀ b o, s.heap.get? b = some o → H2.get? b = some o := fun b o q => by
    have q1 := k1 b o q
    have hlt := Heap.lt_size q1
    refine Heap.get?_push_of_some _ (Heap.get?_push_of_some _ ?_)
    rw [(Heap.SameBut.update H1 s1.heap.objs.size _).2 b (Nat.ne_of_lt hlt)]
    exact Heap.get?_push_of_some _ q1
  have er : EachIs (fun (v : Value) (q : Addr × List Int) => ∃ as, Reads H2 v (encT q.2) as) (L1.map fun q => .ref q.1) L1 := by
    have : ∀ l : List (Addr × List Int), (∀ q ∈ l, q ∈ L) → EachIs (fun (v : Value) (q : Addr × List Int) => ∃ as, Reads H2 v (encT q.2) as) (l.map fun q => .ref q.1) l := by
      intro l
      induction l with
      | nil => intro _; exact .nil
      | cons q l ih => intro hl; exact .cons ⟨[], reads_isT (isT_keep (R.tup q (hl q (by simp))) old2)⟩ (ih fun r hr => hl r (by simp [hr]))
    exact this L1 sub1
  have al : AllAlike (L1.map fun q => encT q.2) := AllAlike.of fun b b' => by
    unfold encT
    rw [alike]
    exact alike_ints b.2 b'.2
  refine wpAny_call_entry slot_list_sort ⟨_, hoL, rfl⟩ entry_list_sort (list_sort_vals (κ := dataKind H2 (L1.map fun q => encT q.2)) hoL (sorts_tups (s := { s1 with heap := H2 }) (each_map (R := fun v d => ∃ as, Reads H2 v d as) (fun q : Addr × List Int => encT q.2) er) al (fun d hd => ?_) (bound_map fun b hb => ?_)) (by rw [List.length_map]; omega) ⟨_, rfl, ?_⟩) (args_list_sort _)
  · obtain ⟨b, _, rfl⟩ := List.mem_map.mp hd
    exact ⟨_, rfl⟩
  · rw [encT_depth]
    show A.units + 1 + 1 + 1 < cLine
    omega
  · have eo := sortVals_data (h' := H2) (R := fun (v : Value) (q : Addr × List Int) => v = .ref q.1) (enc := fun q => encT q.2) (vs := L1.map fun q => .ref q.1) (bs := L1) false (eachRef L1) er al
    rw [encP_le] at eo
    have out := refs_of eo
    obtain ⟨c, hc⟩ := sortedHeap_at (out := (sortVals (dataKind H2 (L1.map fun q => encT q.2)) false (L1.map fun q => .ref q.1) (L1.map fun q => .ref q.1)).toArray) hoL
    refine wpAny_pure ⟨.ref s1.heap.objs.size, rfl, hQ _ _ _ c (L1.mergeSort fun p q => decide (p.2 ≤ q.2)) (fun b u e => ?_) g1 o1 hz hc out ((List.mergeSort_perm _ _).trans p1) ?_⟩
    · have q1 := k1 b u e
      have hlt := Heap.lt_size q1
      show (sortedHeap _ _ _ _).get? b = some u
      rw [sortedHeap_old (Nat.ne_of_lt hlt) (Nat.lt_of_lt_of_le hlt (by show s1.heap.objs.size ≤ (s1.heap.push _).objs.size; rw [size_push']; exact Nat.le_succ _))]
      exact Heap.get?_push_of_some _ q1
    · exact sortP_sorted L1
end
end Tw

/-! Tw, part W7: sorted(set(xs)) of tuples of ints, as a rule. -/
namespace Tw
open PySem PySem.Spec L2 PyProof.Rows
structure SetG0 (P : Program) (w : World) (h : Heap) (a : Addr) (L : List (Addr × List Int)) : Prop where
  ex : ∃ es ep t, (∃ o, h.get? a = some o ∧ o.ExactSet ∧ o.data = Data.set es ep t) ∧ es.toList = L2.rowsOf P w L ∧ TabG t (L.map fun p => thash P w p.snd) ∧ (L.map fun x => x.snd).Nodup ∧ t.plain = true ∧ (w.params.followText "set-order" = true ∨ t.led = true) ∧ L.length * 5 < t.mask * 3 ∧ L.length < 4000
def SetGO (P : Program) (w : World) (a : Addr) (L : List (Addr × List Int)) : HO := .ext fun h => SetG0 P w h a L
section
variable {P : Program} {w : World} {h : Heap} {a : Addr} {L : List (Addr × List Int)} {es : Array (Int × Value)} {ep : Nat} {t : SetTable}
theorem SetG.t0 (R : SetG P w h a L es ep t) : SetG0 P w h a L := ⟨es, ep, t, R.ob, R.rows, R.tab, R.nd, R.plain, R.led, R.room, R.few⟩
theorem setGO_new {H : Hp} (R : SetG0 P w h a L) : ObjOk P w H h a (SetGO P w a L) := by
  obtain ⟨es, ep, t, ⟨o, ho, r⟩, q⟩ := R.ex
  refine ⟨R, ⟨o, ho⟩, fun h1 h2 p k => ?_⟩
  obtain ⟨es', ep', t', ⟨o', ho', r'⟩, q'⟩ := p.ex
  exact ⟨es', ep', t', ⟨o', k o' ho', r'⟩, q'⟩
end
section
variable {X : Cx}
def rSetG (K : PySem.W.Frag) (P : Program) (w : World) : List V → Hp → VK → Prop := fun xs H Q => ∃ (l : Addr) (ks : List (Addr × List Int)), xs = [.ref l] ∧ SqL K H l (ks.map fun p => V.ref p.1) ∧ (∀ p ∈ ks, SqT K H p.1 (p.2.map V.int)) ∧ fewT ks ∧
  ∀ (a : Addr) (L : List (Addr × List Int)), H a = none → (∀ p ∈ L, p ∈ ks) → (∀ p ∈ ks, p.2 ∈ L.map fun x => x.2) → (L.map fun x => x.2).Nodup → Q (.ref a) (upd H a (SetGO P w a L))
theorem cr_setG (hc : X.calm = true) (hu : X.A.units + 64 < cLine) : CallR X (.type "set") (rSetG X.K X.prog X.w) := by
  intro pins s σ H xs us Q I r h
  obtain ⟨l, ks, rfl, hl, hk, hf, q⟩ := h
  rw [Vals.ref1 r]
  obtain ⟨its, rv, pl, hz⟩ := I.list hl
  have hn : H s.heap.objs.size = none := I.hok.fresh (Nat.le_refl _)
  refine call_setG ks (I.ok.hd hc) pl.isList (refs_of_vals rv) (fun p hp => I.isT (hk p hp)) hf (by omega) fun h' tk L es ep t R g k => ?_
  exact ⟨.ref s.heap.objs.size, _, I.laid (t' := tk) k (Nat.le_refl _) (setGO_new R.t0), rfl, q _ L hn (fun p hp => List.mem_of_mem_take (g.sub p hp)) (fun p hp => g.all p (by rw [List.take_length]; exact hp)) R.nd⟩
def rSortedG (K : PySem.W.Frag) (P : Program) (w : World) : List V → Hp → VK → Prop := fun xs H Q => ∃ (a : Addr) (L : List (Addr × List Int)), xs = [.ref a] ∧ H a = some (SetGO P w a L) ∧ (∀ p ∈ L, SqT K H p.1 (p.2.map V.int)) ∧
  ∀ (p : Addr) (L' : List (Addr × List Int)), L'.Perm L → L'.Pairwise (fun q r => q.2 ≤ r.2) → H p = none → Q (.ref p) (upd H p (.lst (L'.map fun q => V.ref q.1)))
theorem vals_refs : ∀ (L : List (Addr × List Int)), Vals (L.map fun q => V.ref q.1) (L.map fun q => Value.ref q.1)
  | [] => .nil
  | q :: L => .cons rfl (vals_refs L)
theorem cr_sortedG (hc : X.calm = true) (hu : X.A.units + 64 < cLine) : CallR X (.builtin "sorted") (rSortedG X.K X.prog X.w) := by
  intro pins s σ H xs us Q I r h
  obtain ⟨a, L, rfl, ha, hk, q⟩ := h
  rw [Vals.ref1 r]
  have R0 : SetG0 X.prog X.w s.heap a L := (I.hok a _ ha).1
  obtain ⟨es, ep, t, ob, e1, e2, e3, e4, e5, e6, e7⟩ := R0.ex
  have R : SetG X.prog X.w s.heap a L es ep t := ⟨ob, e1, e2, e3, fun p hp => I.isT (hk p hp), e4, e5, e6, e7⟩
  refine sorted_setG R (I.ok.hd hc) (by omega) fun s' p out c L' k g o hp hg hi pm pw => ?_
  have sll := sizeLine_eq
  have hlen : (L'.map fun q => V.ref q.1).length ≤ sizeLine := by rw [List.length_map, pm.length_eq]; omega
  have hn : H p = none := I.hok.fresh hp
  have J := I.call (ch := []) (d' := s'.drawn) (t' := s'.toks) (g' := s'.gens) (Un.laid k hp hn) (I.hok.laid (o := .lst (L'.map fun q => V.ref q.1)) k hp ⟨hlen, out.toList, c, by rw [hi]; exact vals_refs L', hg⟩) (by rw [g]; exact I.bare) (fun x z => by cases z)
  have e : s' = { heap := s'.heap, gens := s'.gens, drawn := s'.drawn, toks := s'.toks, os := s.os } := by rw [← o]
  show EP X pins σ Q (.ref p) s'
  rw [e]
  exact ⟨.ref p, _, J, rfl, q p L' pm pw hn⟩
end
def fewL (bs : List (List Int)) : Prop := ∃ S : List (List Int), S.length < 3999 ∧ ∀ b ∈ bs, b ∈ S
section
variable {X : Cx} {K : PySem.W.Frag} {E : XK} {a : Expr} {w : Wx} {k : Kd} {pos p : Pos}
theorem rps_ks {G : Hp} : ∀ {bs : List (List Int)} {vs : List V}, Rps K G (bs.map tI) vs → ∃ ks : List (Addr × List Int), vs = (ks.map fun p => V.ref p.1) ∧ (ks.map fun p => p.2) = bs ∧ ∀ p ∈ ks, SqT K G p.1 (p.2.map V.int)
  | [], _, .nil => ⟨[], rfl, rfl, fun p hp => by cases hp⟩
  | b :: bs, _, .cons h r => by
    obtain ⟨ks, e1, e2, h3⟩ := rps_ks r
    cases h with
    | tup h1 h2 =>
      rename_i x ys
      have e := rps_ints h2
      subst e
      exact ⟨(x, b) :: ks, by rw [e1]; rfl, by rw [List.map_cons, e2], fun p hp => by
        rcases List.mem_cons.mp hp with z | z
        · rw [z]; exact h1
        · exact h3 p z⟩
theorem ks_rps {G : Hp} : ∀ {ks : List (Addr × List Int)}, (∀ p ∈ ks, SqT K G p.1 (p.2.map V.int)) → Rps K G ((ks.map fun p => p.2).map tI) (ks.map fun p => V.ref p.1)
  | [], _ => .nil
  | p :: ks, h => .cons (.tup (h p (by simp)) (ints_rps p.2)) (ks_rps fun q hq => h q (by simp [hq]))
def wSortSetG (w : Wx) : Wx := fun xc ρ Q => w xc ρ fun d => ∃ bs : List (List Int), d = .lst (bs.map tI) ∧ fewL bs ∧ ∀ ms : List (List Int), ms.Pairwise (· ≤ ·) → ms.Nodup → (∀ b, b ∈ ms ↔ b ∈ bs) → Q (.lst (ms.map tI))
theorem ej_sortSetG {p2 q2 : Pos} (ha : EJ k E X a w) (hc : X.calm = true) (hu : X.A.units + 65 < cLine) (hg : Gl X "sorted") (hm : X.mg "sorted" = none) (hg2 : Gl X "set") (hm2 : X.mg "set" = none)
    (hst : starEach [a] X.env = (false, eval a X.env) :: starEach [] X.env := by rfl) (hst2 : starEach [(.Call (.Name "set" p2) [a] [] q2)] X.env = (false, eval (.Call (.Name "set" p2) [a] [] q2) X.env) :: starEach [] X.env := by rfl) :
    EJ .f E X (.Call (.Name "sorted" p) [.Call (.Name "set" p2) [a] [] q2] [] pos) (wSortSetG w) := by
  have h := pe_callB (p := p) (pos := pos) (cr_sortedG hc (by omega)) hg hm (by decide +kernel) (pa_cons (pe_callTy (p := p2) (pos := q2) (cr_setG hc (by omega)) hg2 hm2 (by decide +kernel) (pa_cons ha.pe pa_nil hst) (by decide) (by decide) hst rfl) pa_nil hst2) (by decide) (by decide) hst2 rfl
  refine ⟨h.imp fun σ H Q ⟨G0, H0, G, ρ, xc, R, T, q⟩ => ⟨G0, H0, G, ρ, xc, R, T, ha.mo _ _ _ _ (fun d ⟨bs, ed, few, q1⟩ G1 H1 v x1 r1 => ?_) q⟩, fun xc ρ Q Q' i q => ha.mo _ _ _ _ (fun d ⟨ns, ed, few, q⟩ => ⟨ns, ed, few, fun ms a b c => i _ (q ms a b c)⟩) q⟩
  subst ed
  obtain ⟨pp, vs, rfl, h1, r2⟩ := rvO_lst x1.gh r1.o
  obtain ⟨ks, e1, e2, h3⟩ := rps_ks r2
  obtain ⟨S, hS, sub⟩ := few
  have up1 : ∀ p ∈ ks, SqT X.K H1 p.1 (p.2.map V.int) := fun p hp => sqT_mono x1.gh (h3 p hp)
  refine ⟨pp, ks, rfl, SqL.of (by rw [h1, e1]), up1, ⟨S, hS, fun p hp => sub _ (by rw [← e2]; exact List.mem_map.mpr ⟨p, hp, rfl⟩)⟩, fun s L hs s1 s2 s3 => ?_⟩
  have x2 : Ext G1 H1 G1 (upd H1 s (SetGO X.prog X.w s L)) := Ext.newH x1.gh hs
  refine ⟨s, L, rfl, upd_same, fun p hp => sqT_mono x2.gh (h3 p (s1 p hp)), fun l L' pm pw hl => ?_⟩
  have hl1 : H1 l = none := by
    by_cases z : l = s
    · rw [z, upd_same] at hl; cases hl
    · rw [upd_ne z] at hl; exact hl
  have x3 : Ext G1 H1 G1 (upd (upd H1 s (SetGO X.prog X.w s L)) l (.lst (L'.map fun q => V.ref q.1))) := x2.trans (Ext.newH x2.gh hl)
  have nd : (L'.map fun x => x.2).Nodup := (pm.map fun x => x.2).nodup_iff.mpr s3
  refine q1 (L'.map fun p => p.2) (List.pairwise_map.mpr pw) nd (fun b => ?_) _ _ _ (x1.trans x3) ⟨l, _, rfl, x1.hh.free hl1, upd_same, (show Top X.K G1 (.lst ((L'.map fun p => p.2).map tI)) (.lst (L'.map fun q => V.ref q.1)) from ks_rps fun p hp => h3 p (s1 p (pm.mem_iff.mp hp))), x1.gh.free hl1⟩
  rw [← e2]
  constructor
  · intro hb
    obtain ⟨p, hp, rfl⟩ := List.mem_map.mp hb
    exact List.mem_map.mpr ⟨p, s1 p (pm.mem_iff.mp hp), rfl⟩
  · intro hb
    obtain ⟨p, hp, rfl⟩ := List.mem_map.mp hb
    exact (pm.map fun x => x.2).mem_iff.mpr (s2 p hp)
end
end Tw

/-! Tw, part W8: xs.pop() as a row of its own. -/
namespace Tw
open PySem PySem.Spec L2 PyProof.Rows
section
variable {X : Cx} {E : XK} {n : Expr} {i : Nat} {pos apos cpos : Pos}
end
section
variable {X : Cx} {E : XK} {e o : Expr} {es : List Expr} {w : Wx} {u : Wa} {pos : Pos}
end
end Tw

/-! what the defs of k13 keep -/
namespace Tw.S
open PySem PySem.Spec L2 PyProof.Rows Tw
def rises (l : List Int) : Bool := (List.range (l.length - 1)).all fun i => decide (l.getD i 0 ≤ l.getD (i + 1) 0)
/-! posts -/
def least (ap : Nat) (p : List Int) : Nat := match p.getLast? with | some x => x.toNat + ap | none => 0
def grow (n ap : Nat) (p : List Int) : List (List Int) := (List.range (n - least ap p)).map fun i : Nat => p ++ [((least ap p + i : Nat) : Int)]
def longer (n ap : Nat) (ps : List (List Int)) : List (List Int) := ps.flatMap (grow n ap)
def levels (n ap : Nat) : Nat → List (List Int)
  | 0 => [[]]
  | k + 1 => longer n ap (levels n ap k)
def upto (n ap : Nat) : Nat → List (List Int)
  | 0 => [[]]
  | k + 1 => upto n ap k ++ levels n ap (k + 1)
def postsF (n k : Nat) (fly : Bool) : List (List Int) := if fly = true then (upto n 1 k).mergeSort leT else levels n 0 k
def isPost (n k : Nat) (fly : Bool) (p : List Int) : Bool := if fly = true then decide (p.length ≤ k) && isSet p n else decide (p.length = k) && rises p && decide (0 ≤ p.getD 0 0) && decide (p.getD (p.length - 1) 0 < n)
/-- a game -/
structure Gm where
  names : List Str
  c : Nat
  L : Psg
  k : Nat
  tr : Str
  pc : Str
  lt : Option Nat
def ltD (o : Option Nat) : D := match o with | none => .non | some i => .int i
def Gm.d (CG CW : Addr) (g : Gm) : D := .obj CG [("web", webP CW g.names g.c g.L), ("seekers", .int g.k), ("travel", .str g.tr), ("pace", .str g.pc), ("late", ltD g.lt)]
def teamOk (k : Nat) (tr : Str) : Prop := 1 ≤ k ∧ ((tr = "walk" ∧ k ≤ 4) ∨ (tr = "fly" ∧ k ≤ 8))
structure Gm.Ok (g : Gm) : Prop where
  nm : NamesOk g.names
  lo : 1 ≤ g.c
  hi : g.c ≤ 4
  ir : ∀ b u, g.L b u u = false
  tm : teamOk g.k g.tr
  pc : g.pc = "step" ∨ g.pc = "swift"
  lt : ∀ i, g.lt = some i → i ≤ 3
def Gm.fly (g : Gm) : Bool := g.tr == "fly"
def beatG (c : Nat) (b : Int) : Nat := (b % (c : Int)).toNat
/-! to which posts one may go -/
def srt (l : List Int) : List Int := l.mergeSort fun a b => decide (a ≤ b)
/-- in order, none twice -/
def canon (ps : List (List Int)) : List (List Int) := ps.eraseDups.mergeSort leT
def goF (n : Nat) (R : Nat → Nat → Bool) : List Int → List (List Int) → List (List Int)
  | [], ways => ways
  | x :: post, ways => goF n R post (canon (ways.flatMap fun w => (rowF n fun v => decide (v = x.toNat) || R x.toNat v).map fun s => srt (w ++ [s])))
def sendsF (n k : Nat) (fly : Bool) (R : Nat → Nat → Bool) (post : List Int) : List (List Int) := if fly = true then postsF n k true else goF n R post [[]]
def PostOk (n k : Nat) (fly : Bool) (p : List Int) : Prop := isPost n k fly p = true ∧ p.length ≤ 8 ∧ ∀ x ∈ p, 0 ≤ x ∧ x < n
/-! the specs -/
def wf_is_rising : Wf := fun _ ds Q => ∃ l : List Int, ds = [tI l] ∧ l.length ≤ sizeLine ∧ Q false (.bl (rises l))
def wf_is_post_of (CG CW : Addr) : Wf := fun _ ds Q => ∃ (g : Gm) (p : List Int), ds = [g.d CG CW, tI p] ∧ g.Ok ∧ p.length ≤ sizeLine ∧ Q false (.bl (isPost g.names.length g.k g.fly p))
def wf_longer_posts (CG CW : Addr) : Wf := fun _ ds Q => ∃ (g : Gm) (ps : List (List Int)), ds = [g.d CG CW, pL ps] ∧ g.Ok ∧ ps.length ≤ 100000 ∧ (∀ p ∈ ps, ∀ x ∈ p, 0 ≤ x ∧ x < 8) ∧ (∀ p ∈ ps, p.length ≤ 8) ∧ Q true (pL (longer g.names.length (if g.tr = "walk" then 0 else 1) ps))
def wf_posts_of (CG CW : Addr) : Wf := fun _ ds Q => ∃ g : Gm, ds = [g.d CG CW] ∧ g.Ok ∧ Q true (pL (postsF g.names.length g.k g.fly))
def wf_with_one : Wf := fun _ ds Q => ∃ (l : List Int) (x : Int), ds = [tI l, .int x] ∧ l.length ≤ 8 ∧ Q false (tI (srt (l ++ [x])))
def wf_sends_of (CG CW : Addr) : Wf := fun _ ds Q => ∃ (g : Gm) (b : Int) (p : List Int), ds = [g.d CG CW, .int b, tI p] ∧ g.Ok ∧ PostOk g.names.length g.k g.fly p ∧ Q true (pL (sendsF g.names.length g.k g.fly (g.L (beatG g.c b)) p))
def wf_check_post (CG CW CB : Addr) : Wf := fun xc ds Q => ∃ (g : Gm) (p : List Int), ds = [g.d CG CW, tI p] ∧ g.Ok ∧ p.length ≤ 100 ∧ (isPost g.names.length g.k g.fly p = false → xc CB [("post", tI p)]) ∧ (isPost g.names.length g.k g.fly p = true → Q false .non)
def wi_Game : Wi := fun _ ds Q => ∃ (CW : Addr) (g : Gm), ds = [webP CW g.names g.c g.L, .int g.k, .str g.tr, .str g.pc, ltD g.lt] ∧ g.Ok ∧ Q [("web", webP CW g.names g.c g.L), ("seekers", .int g.k), ("travel", .str g.tr), ("pace", .str g.pc), ("late", ltD g.lt)]
def wf_law_way_ties : Wf := fun _ ds Q => ∃ (l : List Int) (at_ : Nat) (names : List Str) (c : Nat) (kind : Int), ds = [iL l, .int at_, sL names, .int c, .int kind] ∧ (∀ x ∈ l, 0 ≤ x ∧ x < 1000) ∧ at_ + 28 < l.length ∧ NamesOk names ∧ 1 ≤ c ∧ c ≤ 4 ∧ ∀ ts, TiesOk names c ts → Q true (tsL ts)
def wf_law_any_web_k13 : Wf := fun _ ds Q => ∃ (l : List Int), ds = [iL l, .int 1, .int 8, .int 4] ∧ (∀ x ∈ l, 0 ≤ x ∧ x < 1000) ∧ l.length = 40 ∧ ∀ names ts (c : Nat), NamesOk names → TiesOk names c ts → 1 ≤ c → c ≤ 4 → Q true (.lst [sL names, tsL ts, .int c, l3 (nextsT names ts c)])
def wf_law_posts : Wf := fun _ ds Q => ∃ (n k : Nat) (tr : Str), ds = [.int n, .int k, .str tr] ∧ 1 ≤ n ∧ n ≤ 8 ∧ teamOk k tr ∧ Q true (pL (postsF n k (tr == "fly")))
def wf_law_sends : Wf := fun _ ds Q => ∃ (n k b : Nat) (tr : Str) (L : Psg) (p : List Int), ds = [l2 ((List.range n).map fun u => rowF n (L b u)), .str tr, pL (postsF n k (tr == "fly")), tI p] ∧ 1 ≤ n ∧ n ≤ 8 ∧ teamOk k tr ∧ PostOk n k (tr == "fly") p ∧ ∀ fr : Bool, Q fr (pL (sendsF n k (tr == "fly") (L b) p))
def wf_law_beat : Wf := fun _ ds Q => ∃ x : Int, ds = [.int x] ∧ 0 ≤ x ∧ x < 1000 ∧ ∀ y : Int, -1000000000 ≤ y → y ≤ 1000000000 → Q false (.int y)
def gD_K_Game_2_travel_pace_late : List D → List D → List D := fun a b => a ++ b
end Tw.S

namespace Tw.S
open PySem PySem.Spec L2 PyProof.Rows Tw
theorem mo_wf_is_rising : MoF wf_is_rising := fun xc ds Q Q' i ⟨v0, c0, c1, q⟩ => ⟨v0, c0, c1, i _ _ q⟩
theorem hn_wf_is_rising : ∀ ds xc Q, wf_is_rising xc ds Q → ds.length = 1 := fun ds xc Q ⟨v0, c0, c1, q⟩ => by rw [c0]; rfl
theorem mo_wf_is_post_of {CG : Addr} {CW : Addr} : MoF (wf_is_post_of CG CW) := fun xc ds Q Q' i ⟨v0, v1, c0, c1, c2, q⟩ => ⟨v0, v1, c0, c1, c2, i _ _ q⟩
theorem hn_wf_is_post_of {CG : Addr} {CW : Addr} : ∀ ds xc Q, wf_is_post_of CG CW xc ds Q → ds.length = 2 := fun ds xc Q ⟨v0, v1, c0, c1, c2, q⟩ => by rw [c0]; rfl
theorem mo_wf_longer_posts {CG : Addr} {CW : Addr} : MoF (wf_longer_posts CG CW) := fun xc ds Q Q' i ⟨v0, v1, c0, c1, c2, c3, c4, q⟩ => ⟨v0, v1, c0, c1, c2, c3, c4, i _ _ q⟩
theorem hn_wf_longer_posts {CG : Addr} {CW : Addr} : ∀ ds xc Q, wf_longer_posts CG CW xc ds Q → ds.length = 2 := fun ds xc Q ⟨v0, v1, c0, c1, c2, c3, c4, q⟩ => by rw [c0]; rfl
theorem mo_wf_posts_of {CG : Addr} {CW : Addr} : MoF (wf_posts_of CG CW) := fun xc ds Q Q' i ⟨v0, c0, c1, q⟩ => ⟨v0, c0, c1, i _ _ q⟩
theorem hn_wf_posts_of {CG : Addr} {CW : Addr} : ∀ ds xc Q, wf_posts_of CG CW xc ds Q → ds.length = 1 := fun ds xc Q ⟨v0, c0, c1, q⟩ => by rw [c0]; rfl
theorem mo_wf_with_one : MoF wf_with_one := fun xc ds Q Q' i ⟨v0, v1, c0, c1, q⟩ => ⟨v0, v1, c0, c1, i _ _ q⟩
theorem hn_wf_with_one : ∀ ds xc Q, wf_with_one xc ds Q → ds.length = 2 := fun ds xc Q ⟨v0, v1, c0, c1, q⟩ => by rw [c0]; rfl
theorem mo_wf_sends_of {CG : Addr} {CW : Addr} : MoF (wf_sends_of CG CW) := fun xc ds Q Q' i ⟨v0, v1, v2, c0, c1, c2, q⟩ => ⟨v0, v1, v2, c0, c1, c2, i _ _ q⟩
theorem hn_wf_sends_of {CG : Addr} {CW : Addr} : ∀ ds xc Q, wf_sends_of CG CW xc ds Q → ds.length = 3 := fun ds xc Q ⟨v0, v1, v2, c0, c1, c2, q⟩ => by rw [c0]; rfl
theorem mo_wf_check_post {CG : Addr} {CW : Addr} {CB : Addr} : MoF (wf_check_post CG CW CB) := fun xc ds Q Q' i ⟨v0, v1, c0, c1, c2, c3, q⟩ => ⟨v0, v1, c0, c1, c2, c3, (fun x1 => i _ _ ((q x1)))⟩
theorem hn_wf_check_post {CG : Addr} {CW : Addr} {CB : Addr} : ∀ ds xc Q, wf_check_post CG CW CB xc ds Q → ds.length = 2 := fun ds xc Q ⟨v0, v1, c0, c1, c2, c3, q⟩ => by rw [c0]; rfl
theorem mo_wi_Game : MoI wi_Game := fun xc ds Q Q' i ⟨v0, v1, c0, c1, q⟩ => ⟨v0, v1, c0, c1, i _ q⟩
theorem hn_wi_Game : ∀ ds xc Q, wi_Game xc ds Q → ds.length = 5 := fun ds xc Q ⟨v0, v1, c0, c1, q⟩ => by rw [c0]; rfl
theorem mo_wf_law_way_ties : MoF wf_law_way_ties := fun xc ds Q Q' i ⟨v0, v1, v2, v3, v4, c0, c1, c2, c3, c4, c5, q⟩ => ⟨v0, v1, v2, v3, v4, c0, c1, c2, c3, c4, c5, (fun x1 => (fun x2 => i _ _ (((q x1) x2))))⟩
theorem hn_wf_law_way_ties : ∀ ds xc Q, wf_law_way_ties xc ds Q → ds.length = 5 := fun ds xc Q ⟨v0, v1, v2, v3, v4, c0, c1, c2, c3, c4, c5, q⟩ => by rw [c0]; rfl
theorem mo_wf_law_any_web_k13 : MoF wf_law_any_web_k13 := fun xc ds Q Q' i ⟨v0, c0, c1, c2, q⟩ => ⟨v0, c0, c1, c2, (fun x1 x2 x3 => (fun x4 => (fun x5 => (fun x6 => (fun x7 => i _ _ ((((((q x1 x2 x3) x4) x5) x6) x7)))))))⟩
theorem hn_wf_law_any_web_k13 : ∀ ds xc Q, wf_law_any_web_k13 xc ds Q → ds.length = 4 := fun ds xc Q ⟨v0, c0, c1, c2, q⟩ => by rw [c0]; rfl
theorem mo_wf_law_posts : MoF wf_law_posts := fun xc ds Q Q' i ⟨v0, v1, v2, c0, c1, c2, c3, q⟩ => ⟨v0, v1, v2, c0, c1, c2, c3, i _ _ q⟩
theorem hn_wf_law_posts : ∀ ds xc Q, wf_law_posts xc ds Q → ds.length = 3 := fun ds xc Q ⟨v0, v1, v2, c0, c1, c2, c3, q⟩ => by rw [c0]; rfl
theorem mo_wf_law_sends : MoF wf_law_sends := fun xc ds Q Q' i ⟨v0, v1, v2, v3, v4, v5, c0, c1, c2, c3, c4, q⟩ => ⟨v0, v1, v2, v3, v4, v5, c0, c1, c2, c3, c4, (fun x1 => i _ _ ((q x1)))⟩
theorem hn_wf_law_sends : ∀ ds xc Q, wf_law_sends xc ds Q → ds.length = 4 := fun ds xc Q ⟨v0, v1, v2, v3, v4, v5, c0, c1, c2, c3, c4, q⟩ => by rw [c0]; rfl
theorem mo_wf_law_beat : MoF wf_law_beat := fun xc ds Q Q' i ⟨v0, c0, c1, c2, q⟩ => ⟨v0, c0, c1, c2, (fun x1 => (fun x2 => (fun x3 => i _ _ ((((q x1) x2) x3)))))⟩
theorem hn_wf_law_beat : ∀ ds xc Q, wf_law_beat xc ds Q → ds.length = 1 := fun ds xc Q ⟨v0, c0, c1, c2, q⟩ => by rw [c0]; rfl
end Tw.S

/-! Tw, part W9: len(set(xs)) of ints. -/
namespace Tw
open PySem PySem.Spec L2 PyProof.Rows
theorem mem_dups {α : Type} [BEq α] [LawfulBEq α] {x : α} : ∀ (m : Nat) (l : List α), l.length ≤ m → (x ∈ l.eraseDups ↔ x ∈ l)
  | _, [], _ => by simp
  | 0, a :: l, h => by simp at h
  | m + 1, a :: l, h => by
    have hl := List.length_filter_le (fun b => !b == a) l
    rw [List.length_cons] at h
    rw [List.eraseDups_cons, List.mem_cons, mem_dups m _ (by omega), List.mem_filter, List.mem_cons]
    constructor
    · rintro (h | ⟨h, _⟩)
      · exact .inl h
      · exact .inr h
    · rintro (h | h)
      · exact .inl h
      · by_cases e : x = a
        · exact .inl e
        · exact .inr ⟨h, by simpa using e⟩
theorem nodup_dups {α : Type} [BEq α] [LawfulBEq α] : ∀ (m : Nat) (l : List α), l.length ≤ m → l.eraseDups.Nodup
  | _, [], _ => by simp
  | 0, a :: l, h => by simp at h
  | m + 1, a :: l, h => by
    have hl := List.length_filter_le (fun b => !b == a) l
    rw [List.length_cons] at h
    rw [List.eraseDups_cons, List.nodup_cons]
    refine ⟨fun z => ?_, nodup_dups m _ (by omega)⟩
    rw [mem_dups m _ (by omega), List.mem_filter] at z
    simp at z
section
variable {X : Cx} {K : PySem.W.Frag} {E : XK} {a : Expr} {w : Wx} {k : Kd} {pos p : Pos}
def rLenSet (w : World) : List V → Hp → VK → Prop := fun xs H Q => ∃ (a : Addr) (S : Int → Bool) (n : Nat), xs = [V.ref a] ∧ H a = some (SetO w a S n) ∧ n < 64 ∧
  ∀ ks : List Int, ks.Nodup → (∀ k, S k = true ↔ k ∈ ks) → Q (.int ks.length) H
theorem cr_lenSet (hc : X.calm = true) : CallR X (.builtin "len") (rLenSet X.w) := by
  intro pins s σ H xs us Q I r h
  obtain ⟨a, S, n, rfl, ha, hn, q⟩ := h
  rw [Vals.ref1 r]
  obtain ⟨o, es, ep, t, ho, hex, hd, g, nd, mem, sb, ft, sz, _⟩ := (I.hok a _ ha).1
  refine call_len_set ho hex hd ft (by omega) ?_
  have e := q _ nd mem
  rw [List.length_map, Array.length_toList] at e
  exact ⟨.int es.size, H, I.tok _, ⟨_, rfl⟩, e⟩
def wLenSetA (w : Wx) : Wx := fun xc ρ Q => w xc ρ fun d => ∃ ns : List Int, (d = .lst (ns.map .int) ∨ d = tI ns) ∧ ns.length < 64 ∧ Q (.int ns.eraseDups.length)
theorem ej_lenSetA {p2 q2 : Pos} (hc : X.calm = true) (ha : EJ k E X a w) (hg : Gl X "len") (hm : X.mg "len" = none) (hg2 : Gl X "set") (hm2 : X.mg "set" = none)
    (hst : starEach [a] X.env = (false, eval a X.env) :: starEach [] X.env := by rfl) (hst2 : starEach [(.Call (.Name "set" p2) [a] [] q2)] X.env = (false, eval (.Call (.Name "set" p2) [a] [] q2) X.env) :: starEach [] X.env := by rfl) :
    EJ .e E X (.Call (.Name "len" p) [.Call (.Name "set" p2) [a] [] q2] [] pos) (wLenSetA w) := by
  have h := pe_callB (p := p) (pos := pos) (cr_lenSet hc) hg hm (by decide +kernel) (pa_cons (pe_callTy (p := p2) (pos := q2) (callr_or (cr_setI hc) (cr_setIT hc)) hg2 hm2 (by decide +kernel) (pa_cons ha.pe pa_nil hst) (by decide) (by decide) hst rfl) pa_nil hst2) (by decide) (by decide) hst2 rfl
  refine ⟨h.imp fun σ H Q ⟨G0, H0, G, ρ, xc, R, T, q⟩ => ⟨G0, H0, G, ρ, xc, R, T, ha.mo _ _ _ _ (fun d ⟨ns, ed, few, q1⟩ G1 H1 v x1 r1 => ?_) q⟩, fun xc ρ Q Q' i q => ha.mo _ _ _ _ (fun d ⟨ns, ed, few, q⟩ => ⟨ns, ed, few, i _ q⟩) q⟩
  have fin : ∀ s m, H1 s = none → m < 64 → rLenSet X.w [V.ref s] (upd H1 s (SetO X.w s (fun k => decide (k ∈ ns)) m)) Q := fun s m hs hm => by
    refine ⟨s, _, m, rfl, upd_same, by omega, fun ks nd hk => ?_⟩
    have x2 : Ext G1 H1 G1 (upd H1 s (SetO X.w s (fun k => decide (k ∈ ns)) m)) := Ext.newH x1.gh hs
    have el : ks.length = ns.eraseDups.length := List.Perm.length_eq ((List.perm_ext_iff_of_nodup nd (nodup_dups _ _ (Nat.le_refl _))).mpr fun x => by
      rw [mem_dups _ _ (Nat.le_refl _), ← hk x]
      simp)
    rw [el]
    exact q1 _ _ _ (x1.trans x2) (.int _)
  rcases ed with ed | ed
  · subst ed
    obtain ⟨pp, vs, rfl, h1, r2⟩ := rvO_lst x1.gh r1.o
    exact .inl ⟨pp, ns, rfl, SqL.of (by rw [h1, rps_ints r2]), few_of few, fin⟩
  · subst ed
    obtain ⟨pp, vs, rfl, h1, r2⟩ := rvO_tup x1.gh r1.o
    rw [rps_ints r2] at h1
    exact .inr ⟨pp, ns, rfl, h1, few, fun s m hs hm => fin s m hs (by omega)⟩
end
end Tw

/-! what the defs of k14 keep -/
namespace Tw.S
open PySem PySem.Spec L2 PyProof.Rows Tw
open Classical in
/-- the places of which P holds, in order -/
noncomputable def listP (n : Nat) (P : Nat → Prop) : List Int := rowF n fun v => decide (P v)
def Gm.sw (g : Gm) : Bool := g.pc == "swift"
def barF (fly : Bool) (p s : List Int) : List Int := if fly = true then p.filter (fun x => decide (x ∈ s)) else s
def endP (n : Nat) (R : Nat → Nat → Bool) (sw : Bool) (bar : List Int) (x : Nat) : Nat → Prop := fun v => if sw = true then reachP n R [(x : Int)] bar v else v = x ∨ R x v = true
/-- where a runner can be, that runs from x while the seekers go from p to s -/
def runP (n : Nat) (R : Nat → Nat → Bool) (fly sw : Bool) (p s : List Int) (x : Nat) : Nat → Prop := fun v => (fly = true ∨ (x : Int) ∉ s) ∧ (v : Int) ∉ s ∧ endP n R sw (barF fly p s) x v
noncomputable def runsF (n : Nat) (R : Nat → Nat → Bool) (fly sw : Bool) (p s : List Int) (x : Nat) : List Int := listP n (runP n R fly sw p s x)
def wf_barred_of (CG CW : Addr) : Wf := fun _ ds Q => ∃ (g : Gm) (p s : List Int), ds = [g.d CG CW, tI p, tI s] ∧ g.Ok ∧ p.length ≤ 100 ∧ s.length ≤ 100 ∧ Q false (tI (barF g.fly p s))
def wf_ends_of (CG CW : Addr) : Wf := fun _ ds Q => ∃ (g : Gm) (b : Int) (bar : List Int) (x : Nat), ds = [g.d CG CW, .int b, tI bar, .int x] ∧ g.Ok ∧ bar.length ≤ 100 ∧ x < g.names.length ∧ Q false (tI (listP g.names.length (endP g.names.length (g.L (beatG g.c b)) g.sw bar x)))
def wf_not_caught (CG CW : Addr) : Wf := fun _ ds Q => ∃ (g : Gm) (s e : List Int) (x : Int), ds = [g.d CG CW, tI s, .int x, tI e] ∧ g.Ok ∧ s.length ≤ 100 ∧ e.length ≤ 100 ∧ Q false (tI (if g.fly = true ∨ x ∉ s then e.filter (fun v => !decide (v ∈ s)) else []))
def wf_runs_of (CG CW : Addr) : Wf := fun _ ds Q => ∃ (g : Gm) (b : Int) (p s : List Int) (x : Nat), ds = [g.d CG CW, .int b, tI p, tI s, .int x] ∧ g.Ok ∧ p.length ≤ 100 ∧ s.length ≤ 100 ∧ x < g.names.length ∧ Q false (tI (runsF g.names.length (g.L (beatG g.c b)) g.fly g.sw p s x))
def wf_check_free (CG CW CU CN : Addr) : Wf := fun xc ds Q => ∃ (g : Gm) (p : List Int) (x : Int), ds = [g.d CG CW, tI p, .int x] ∧ g.Ok ∧ p.length ≤ 100 ∧ (¬(0 ≤ x ∧ x < g.names.length) → xc CU [("place", .int x)]) ∧ ((0 ≤ x ∧ x < g.names.length) ∧ x ∈ p → xc CN [("place", .int x)]) ∧ ((0 ≤ x ∧ x < g.names.length) ∧ x ∉ p → Q false .non)
def wf_check_round (CG CW CB CS : Addr) : Wf := fun xc ds Q => ∃ (g : Gm) (b : Int) (p s : List Int), ds = [g.d CG CW, .int b, tI p, tI s] ∧ g.Ok ∧ p.length ≤ 100 ∧ s.length ≤ 100 ∧ (isPost g.names.length g.k g.fly p = false → xc CB [("post", tI p)]) ∧ (isPost g.names.length g.k g.fly p = true ∧ s ∉ sendsF g.names.length g.k g.fly (g.L (beatG g.c b)) p → xc CS [("post", tI s)]) ∧ (isPost g.names.length g.k g.fly p = true ∧ s ∈ sendsF g.names.length g.k g.fly (g.L (beatG g.c b)) p → Q false .non)
def wf_Game_runs (CG CW CB CS CU CN : Addr) : Wf := fun xc ds Q => ∃ (g : Gm) (b : Int) (p s : List Int) (x : Int), ds = [g.d CG CW, .int b, tI p, tI s, .int x] ∧ g.Ok ∧ p.length ≤ 100 ∧ s.length ≤ 100 ∧ (isPost g.names.length g.k g.fly p = false → xc CB [("post", tI p)]) ∧ (isPost g.names.length g.k g.fly p = true ∧ s ∉ sendsF g.names.length g.k g.fly (g.L (beatG g.c b)) p → xc CS [("post", tI s)]) ∧ ((isPost g.names.length g.k g.fly p = true ∧ s ∈ sendsF g.names.length g.k g.fly (g.L (beatG g.c b)) p) ∧ ¬(0 ≤ x ∧ x < g.names.length) → xc CU [("place", .int x)]) ∧ ((isPost g.names.length g.k g.fly p = true ∧ s ∈ sendsF g.names.length g.k g.fly (g.L (beatG g.c b)) p) ∧ (0 ≤ x ∧ x < g.names.length) ∧ x ∈ p → xc CN [("place", .int x)]) ∧ ((isPost g.names.length g.k g.fly p = true ∧ s ∈ sendsF g.names.length g.k g.fly (g.L (beatG g.c b)) p) ∧ (0 ≤ x ∧ x < g.names.length) ∧ x ∉ p → Q false (tI (runsF g.names.length (g.L (beatG g.c b)) g.fly g.sw p s x.toNat)))
def wf_law_runs : Wf := fun _ ds Q => ∃ (n b : Nat) (L : Psg) (tr pc : Str) (p s : List Int) (x : Nat), ds = [l2 ((List.range n).map fun u => rowF n (L b u)), .str tr, .str pc, tI p, tI s, .int x] ∧ n ≤ 8 ∧ (tr = "walk" ∨ tr = "fly") ∧ (pc = "step" ∨ pc = "swift") ∧ p.length ≤ 100 ∧ s.length ≤ 50 ∧ x < n ∧ L b x x = false ∧ ∀ fr : Bool, Q fr (iL (runsF n (L b) (tr == "fly") (pc == "swift") p s x))
end Tw.S

namespace Tw.S
open PySem PySem.Spec L2 PyProof.Rows Tw
theorem mo_wf_barred_of {CG : Addr} {CW : Addr} : MoF (wf_barred_of CG CW) := fun xc ds Q Q' i ⟨v0, v1, v2, c0, c1, c2, c3, q⟩ => ⟨v0, v1, v2, c0, c1, c2, c3, i _ _ q⟩
theorem hn_wf_barred_of {CG : Addr} {CW : Addr} : ∀ ds xc Q, wf_barred_of CG CW xc ds Q → ds.length = 3 := fun ds xc Q ⟨v0, v1, v2, c0, c1, c2, c3, q⟩ => by rw [c0]; rfl
theorem mo_wf_ends_of {CG : Addr} {CW : Addr} : MoF (wf_ends_of CG CW) := fun xc ds Q Q' i ⟨v0, v1, v2, v3, c0, c1, c2, c3, q⟩ => ⟨v0, v1, v2, v3, c0, c1, c2, c3, i _ _ q⟩
theorem hn_wf_ends_of {CG : Addr} {CW : Addr} : ∀ ds xc Q, wf_ends_of CG CW xc ds Q → ds.length = 4 := fun ds xc Q ⟨v0, v1, v2, v3, c0, c1, c2, c3, q⟩ => by rw [c0]; rfl
theorem mo_wf_not_caught {CG : Addr} {CW : Addr} : MoF (wf_not_caught CG CW) := fun xc ds Q Q' i ⟨v0, v1, v2, v3, c0, c1, c2, c3, q⟩ => ⟨v0, v1, v2, v3, c0, c1, c2, c3, i _ _ q⟩
theorem hn_wf_not_caught {CG : Addr} {CW : Addr} : ∀ ds xc Q, wf_not_caught CG CW xc ds Q → ds.length = 4 := fun ds xc Q ⟨v0, v1, v2, v3, c0, c1, c2, c3, q⟩ => by rw [c0]; rfl
theorem mo_wf_runs_of {CG : Addr} {CW : Addr} : MoF (wf_runs_of CG CW) := fun xc ds Q Q' i ⟨v0, v1, v2, v3, v4, c0, c1, c2, c3, c4, q⟩ => ⟨v0, v1, v2, v3, v4, c0, c1, c2, c3, c4, i _ _ q⟩
theorem hn_wf_runs_of {CG : Addr} {CW : Addr} : ∀ ds xc Q, wf_runs_of CG CW xc ds Q → ds.length = 5 := fun ds xc Q ⟨v0, v1, v2, v3, v4, c0, c1, c2, c3, c4, q⟩ => by rw [c0]; rfl
theorem mo_wf_check_free {CG : Addr} {CW : Addr} {CU : Addr} {CN : Addr} : MoF (wf_check_free CG CW CU CN) := fun xc ds Q Q' i ⟨v0, v1, v2, c0, c1, c2, c3, c4, q⟩ => ⟨v0, v1, v2, c0, c1, c2, c3, c4, (fun x1 => i _ _ ((q x1)))⟩
theorem hn_wf_check_free {CG : Addr} {CW : Addr} {CU : Addr} {CN : Addr} : ∀ ds xc Q, wf_check_free CG CW CU CN xc ds Q → ds.length = 3 := fun ds xc Q ⟨v0, v1, v2, c0, c1, c2, c3, c4, q⟩ => by rw [c0]; rfl
theorem mo_wf_check_round {CG : Addr} {CW : Addr} {CB : Addr} {CS : Addr} : MoF (wf_check_round CG CW CB CS) := fun xc ds Q Q' i ⟨v0, v1, v2, v3, c0, c1, c2, c3, c4, c5, q⟩ => ⟨v0, v1, v2, v3, c0, c1, c2, c3, c4, c5, (fun x1 => i _ _ ((q x1)))⟩
theorem hn_wf_check_round {CG : Addr} {CW : Addr} {CB : Addr} {CS : Addr} : ∀ ds xc Q, wf_check_round CG CW CB CS xc ds Q → ds.length = 4 := fun ds xc Q ⟨v0, v1, v2, v3, c0, c1, c2, c3, c4, c5, q⟩ => by rw [c0]; rfl
theorem mo_wf_Game_runs {CG : Addr} {CW : Addr} {CB : Addr} {CS : Addr} {CU : Addr} {CN : Addr} : MoF (wf_Game_runs CG CW CB CS CU CN) := fun xc ds Q Q' i ⟨v0, v1, v2, v3, v4, c0, c1, c2, c3, c4, c5, c6, c7, q⟩ => ⟨v0, v1, v2, v3, v4, c0, c1, c2, c3, c4, c5, c6, c7, (fun x1 => i _ _ ((q x1)))⟩
theorem hn_wf_Game_runs {CG : Addr} {CW : Addr} {CB : Addr} {CS : Addr} {CU : Addr} {CN : Addr} : ∀ ds xc Q, wf_Game_runs CG CW CB CS CU CN xc ds Q → ds.length = 5 := fun ds xc Q ⟨v0, v1, v2, v3, v4, c0, c1, c2, c3, c4, c5, c6, c7, q⟩ => by rw [c0]; rfl
theorem mo_wf_law_runs : MoF wf_law_runs := fun xc ds Q Q' i ⟨v0, v1, v2, v3, v4, v5, v6, v7, c0, c1, c2, c3, c4, c5, c6, c7, q⟩ => ⟨v0, v1, v2, v3, v4, v5, v6, v7, c0, c1, c2, c3, c4, c5, c6, c7, (fun x1 => i _ _ ((q x1)))⟩
theorem hn_wf_law_runs : ∀ ds xc Q, wf_law_runs xc ds Q → ds.length = 6 := fun ds xc Q ⟨v0, v1, v2, v3, v4, v5, v6, v7, c0, c1, c2, c3, c4, c5, c6, c7, q⟩ => by rw [c0]; rfl
end Tw.S

namespace Tw.S
open PySem PySem.Spec L2 PyProof.Rows Tw

def b_law_runs : Ws :=
  (sSeq (sIf (wAnd (wB (w2 oEq (wVar 1) (wC (.str "walk")))) (wB (w2 (oIn false) (wVar 5) (wVar 4))))
  (sRetF (wLst waNil))
  sNil)
  (sSeq (sSet 6 (wLc (wiS (wVar 4)) (gSet 8) (wOr (wB (w2 oEq (wVar 1) (wC (.str "walk")))) (wB (w2 (oIn false) (wVar 8) (wVar 3)))) (wVar 8) [8]))
  (sSeq (sIf (wB (w2 oEq (wVar 2) (wC (.str "swift"))))
  (sSet 7 (wCall wf_law_reach [] (waCons (wVar 0) (waCons (wLst (waCons (wVar 5) waNil)) (waCons (wVar 6) waNil)))))
  (sSet 7 (w2 oPlus (wLst (waCons (wVar 5) waNil)) (wLc (wiS (w2 oIx (wVar 0) (wVar 5))) (gSet 8) (wB (w2 (oIn true) (wVar 8) (wVar 6))) (wVar 8) [8]))))
  (sRetF (wN oSortA (waCons (wLc (wiS (wVar 7)) (gSet 8) (wB (w2 (oIn true) (wVar 8) (wVar 4))) (wVar 8) [8]) waNil))))))
def b_check_free (C_Game : Addr) (C_Web : Addr) (C_NotFree : Addr) (C_UnknownPlace : Addr) : Ws :=
  (sSeq (sExp (wCall (wf_check_place C_Web C_UnknownPlace) [] (waCons (wFld C_Game "web" (wVar 0)) (waCons (wVar 2) waNil))))
  (sIf (wB (w2 (oIn false) (wVar 2) (wVar 1)))
  (sRaiseN C_NotFree ["place"] (waCons (wVar 2) waNil))
  sNil))
def b_check_round (C_Game : Addr) (C_Web : Addr) (C_BadPost : Addr) (C_CannotSend : Addr) : Ws :=
  (sSeq (sExp (wCall (wf_check_post C_Game C_Web C_BadPost) [] (waCons (wVar 0) (waCons (wVar 2) waNil))))
  (sIf (wB (w2 (oIn true) (wVar 3) (wCall (wf_sends_of C_Game C_Web) [] (waCons (wVar 0) (waCons (wVar 1) (waCons (wVar 2) waNil))))))
  (sRaiseN C_CannotSend ["post"] (waCons (wVar 3) waNil))
  sNil))
def b_barred_of (C_Game : Addr) : Ws :=
  (sRet (wIf (wB (w2 oEq (wFld C_Game "travel" (wVar 0)) (wC (.str "walk")))) (wVar 2) (wN oTuple (waCons (wLc (wiS (wVar 1)) (gSet 3) (wB (w2 (oIn false) (wVar 3) (wVar 2))) (wVar 3) [3]) waNil))))
def b_ends_of (C_Game : Addr) (C_Web : Addr) (C_UnknownPlace : Addr) : Ws :=
  (sSeq (sIf (wB (w2 oEq (wFld C_Game "pace" (wVar 0)) (wC (.str "swift"))))
  (sRet (wCall (wf_reached C_Web) [] (waCons (wFld C_Game "web" (wVar 0)) (waCons (wVar 1) (waCons (wTup (waCons (wVar 3) waNil)) (waCons (wVar 2) waNil))))))
  sNil)
  (sRet (wMeth C_Web "steps" (wf_Web_steps C_Web C_UnknownPlace) (wFld C_Game "web" (wVar 0)) (waCons (wVar 3) (waCons (wVar 1) waNil)))))
def b_not_caught (C_Game : Addr) : Ws :=
  (sSeq (sIf (wAnd (wB (w2 oEq (wFld C_Game "travel" (wVar 0)) (wC (.str "walk")))) (wB (w2 (oIn false) (wVar 2) (wVar 1))))
  (sRet (wTup waNil))
  sNil)
  (sRet (wN oTuple (waCons (wLc (wiS (wVar 3)) (gSet 4) (wB (w2 (oIn true) (wVar 4) (wVar 1))) (wVar 4) [4]) waNil))))
def b_runs_of (C_Game : Addr) (C_Web : Addr) : Ws :=
  (sRet (wCall (wf_not_caught C_Game C_Web) [] (waCons (wVar 0) (waCons (wVar 3) (waCons (wVar 4) (waCons (wCall (wf_ends_of C_Game C_Web) [] (waCons (wVar 0) (waCons (wVar 1) (waCons (wCall (wf_barred_of C_Game C_Web) [] (waCons (wVar 0) (waCons (wVar 2) (waCons (wVar 3) waNil)))) (waCons (wVar 4) waNil))))) waNil))))))
def b_Game_runs (C_Game : Addr) (C_Web : Addr) (C_BadPost : Addr) (C_CannotSend : Addr) (C_NotFree : Addr) (C_UnknownPlace : Addr) : Ws :=
  (sSeq (sExp (wCall (wf_check_round C_Game C_Web C_BadPost C_CannotSend) [] (waCons (wVar 0) (waCons (wVar 1) (waCons (wVar 2) (waCons (wVar 3) waNil))))))
  (sSeq (sExp (wCall (wf_check_free C_Game C_Web C_UnknownPlace C_NotFree) [] (waCons (wVar 0) (waCons (wVar 2) (waCons (wVar 4) waNil)))))
  (sRet (wCall (wf_runs_of C_Game C_Web) [] (waCons (wVar 0) (waCons (wVar 1) (waCons (wVar 2) (waCons (wVar 3) (waCons (wVar 4) waNil)))))))))
def r_law_k14_15 (C_Game : Addr) (C_Web : Addr) (C_BadPost : Addr) (C_CannotSend : Addr) (C_NotFree : Addr) (C_UnknownPlace : Addr) : Ws :=
  (sRet (wC (.bl true)))
def r_law_k14_14 (C_Game : Addr) (C_Web : Addr) (C_BadPost : Addr) (C_CannotSend : Addr) (C_NotFree : Addr) (C_UnknownPlace : Addr) : Ws :=
  (sSeq (sFor (wiS (wLst (waCons (w2 oIx (wPeek 15) (wC (.int 0))) (waCons (w2 oIx (wPeek 15) (wC (.int 1))) (waCons (w2 oIx (wPeek 15) (wC (.int 0))) waNil))))) (gTupD 3 (gsCons (gSet 17) (gsCons (gSet 18) (gsCons (gSet 20) gsNil))))
  (sFor (wiR1 (wN oLen (waCons (wVar 1) waNil))) (gSet 21)
  (sIf (wB (w2 (oIn true) (wVar 21) (wVar 14)))
  (sSeq (sSet 22 (wCall wf_law_runs [] (waCons (wVar 18) (waCons (wVar 6) (waCons (wVar 8) (waCons (wVar 14) (waCons (wVar 20) (waCons (wVar 21) waNil))))))))
  (sIf (wNot (wTru (wCall wf_law_same [] (waCons (wMeth C_Game "runs" (wf_Game_runs C_Game C_Web C_BadPost C_CannotSend C_UnknownPlace C_NotFree) (wVar 10) (waCons (wVar 17) (waCons (wVar 14) (waCons (wVar 20) (waCons (wVar 21) waNil))))) (waCons (wN oTuple (waCons (wVar 22) waNil)) waNil)))))
  (sRet (wC (.bl false)))
  sNil))
  sNil)))
  (r_law_k14_15 C_Game C_Web C_BadPost C_CannotSend C_NotFree C_UnknownPlace))
def r_law_k14_13 (C_Game : Addr) (C_Web : Addr) (C_BadPost : Addr) (C_CannotSend : Addr) (C_NotFree : Addr) (C_UnknownPlace : Addr) : Ws :=
  (sSeq (sFor (wiR1 (wC (.int 2))) (gSet 16)
  (sSeq (sSet 17 (wCall wf_law_beat [] (waCons (w2 oIx (wVar 11) (w2 oPlus (wC (.int 1)) (w2 oMul (wC (.int 2)) (wVar 16)))) waNil)))
  (sSeq (sSet 18 (w2 oIx (wVar 4) (w2 oMod (wN oInt (waCons (wVar 17) waNil)) (wVar 3))))
  (sSeq (sSet 19 (wCall wf_law_sends [] (waCons (wVar 18) (waCons (wVar 6) (waCons (wVar 12) (waCons (wVar 14) waNil))))))
  (sApp 15 (wTup (waCons (wVar 17) (waCons (wVar 18) (waCons (w2 oIx (wVar 19) (w2 oMod (wN oInt (waCons (w2 oIx (wVar 11) (w2 oPlus (wC (.int 2)) (w2 oMul (wC (.int 2)) (wVar 16)))) waNil)) (wN oLen (waCons (wVar 19) waNil)))) waNil)))))))))
  (r_law_k14_14 C_Game C_Web C_BadPost C_CannotSend C_NotFree C_UnknownPlace))
def r_law_k14_12 (C_Game : Addr) (C_Web : Addr) (C_BadPost : Addr) (C_CannotSend : Addr) (C_NotFree : Addr) (C_UnknownPlace : Addr) : Ws :=
  (sSeq (sSetO 15 (wLst waNil))
  (r_law_k14_13 C_Game C_Web C_BadPost C_CannotSend C_NotFree C_UnknownPlace))
def r_law_k14_11 (C_Game : Addr) (C_Web : Addr) (C_BadPost : Addr) (C_CannotSend : Addr) (C_NotFree : Addr) (C_UnknownPlace : Addr) : Ws :=
  (sSeq (sSet 14 (w2 oIx (wVar 13) (w2 oMod (wN oInt (waCons (w2 oIx (wVar 11) (wC (.int 0))) waNil)) (wN oLen (waCons (wVar 13) waNil)))))
  (r_law_k14_12 C_Game C_Web C_BadPost C_CannotSend C_NotFree C_UnknownPlace))
def r_law_k14_10 (C_Game : Addr) (C_Web : Addr) (C_BadPost : Addr) (C_CannotSend : Addr) (C_NotFree : Addr) (C_UnknownPlace : Addr) : Ws :=
  (sSeq (sSet 13 (wLc (wiS (wVar 12)) (gSet 23) (wB (w2 oLt (wLenSetA (wVar 23)) (wN oLen (waCons (wVar 1) waNil)))) (wVar 23) [23]))
  (r_law_k14_11 C_Game C_Web C_BadPost C_CannotSend C_NotFree C_UnknownPlace))
def r_law_k14_9 (C_Game : Addr) (C_Web : Addr) (C_BadPost : Addr) (C_CannotSend : Addr) (C_NotFree : Addr) (C_UnknownPlace : Addr) : Ws :=
  (sSeq (sSet 12 (wCall wf_law_posts [] (waCons (wN oLen (waCons (wVar 1) waNil)) (waCons (wVar 7) (waCons (wVar 6) waNil)))))
  (r_law_k14_10 C_Game C_Web C_BadPost C_CannotSend C_NotFree C_UnknownPlace))
def r_law_k14_8 (C_Game : Addr) (C_Web : Addr) (C_BadPost : Addr) (C_CannotSend : Addr) (C_NotFree : Addr) (C_UnknownPlace : Addr) : Ws :=
  (sSeq (sSet 11 (wCall wf_law_draws [] (waCons (wVar 0) (waCons (wC (.int 2)) (waCons (wC (.int 5)) waNil)))))
  (r_law_k14_9 C_Game C_Web C_BadPost C_CannotSend C_NotFree C_UnknownPlace))
def r_law_k14_7 (C_Game : Addr) (C_Web : Addr) (C_BadPost : Addr) (C_CannotSend : Addr) (C_NotFree : Addr) (C_UnknownPlace : Addr) : Ws :=
  (sSeq (sSet 10 (wMakeK C_Game 2 (List.length (α := Str) ["travel", "pace", "late"]) gD_K_Game_2_travel_pace_late wi_Game (waCons (wMakeK C_Web 2 (List.length (α := Str) ["beats"]) gD_K_Web_2_beats wi_Web (waCons (wN oList (waCons (wVar 1) waNil)) (waCons (wN oList (waCons (wVar 2) waNil)) waNil)) (waCons (wVar 3) waNil)) (waCons (wVar 7) waNil)) (waCons (wVar 6) (waCons (wVar 8) (waCons (wVar 9) waNil)))))
  (r_law_k14_8 C_Game C_Web C_BadPost C_CannotSend C_NotFree C_UnknownPlace))
def r_law_k14_6 (C_Game : Addr) (C_Web : Addr) (C_BadPost : Addr) (C_CannotSend : Addr) (C_NotFree : Addr) (C_UnknownPlace : Addr) : Ws :=
  (sSeq (sSet 9 (w2 oIx (wLst (waCons (wC (.int 0)) (waCons (wC (.int 1)) (waCons (wC (.int 2)) (waCons (wC (.int 3)) (waCons (wC .non) waNil)))))) (w2 oMod (wN oInt (waCons (w2 oIx (wVar 5) (wC (.int 3))) waNil)) (wC (.int 5)))))
  (r_law_k14_7 C_Game C_Web C_BadPost C_CannotSend C_NotFree C_UnknownPlace))
def r_law_k14_5 (C_Game : Addr) (C_Web : Addr) (C_BadPost : Addr) (C_CannotSend : Addr) (C_NotFree : Addr) (C_UnknownPlace : Addr) : Ws :=
  (sSeq (sSet 8 (w2 oIx (wLst (waCons (wC (.str "step")) (waCons (wC (.str "swift")) waNil))) (w2 oMod (wN oInt (waCons (w2 oIx (wVar 5) (wC (.int 2))) waNil)) (wC (.int 2)))))
  (r_law_k14_6 C_Game C_Web C_BadPost C_CannotSend C_NotFree C_UnknownPlace))
def r_law_k14_4 (C_Game : Addr) (C_Web : Addr) (C_BadPost : Addr) (C_CannotSend : Addr) (C_NotFree : Addr) (C_UnknownPlace : Addr) : Ws :=
  (sSeq (sIf (wOr (wB (w2 oEq (w2 oMod (wN oInt (waCons (w2 oIx (wVar 5) (wC (.int 0))) waNil)) (wC (.int 2))) (wC (.int 1)))) (wB (w2 oEq (wN oLen (waCons (wVar 1) waNil)) (wC (.int 1)))))
  (sSeq (sSet 6 (wC (.str "fly")))
  (sSet 7 (w2 oPlus (wC (.int 1)) (w2 oMod (wN oInt (waCons (w2 oIx (wVar 5) (wC (.int 1))) waNil)) (wC (.int 8))))))
  sNil)
  (r_law_k14_5 C_Game C_Web C_BadPost C_CannotSend C_NotFree C_UnknownPlace))
def r_law_k14_3 (C_Game : Addr) (C_Web : Addr) (C_BadPost : Addr) (C_CannotSend : Addr) (C_NotFree : Addr) (C_UnknownPlace : Addr) : Ws :=
  (sSeq (sSet 7 (w2 oPlus (wC (.int 1)) (w2 oMod (wN oInt (waCons (w2 oIx (wVar 5) (wC (.int 1))) waNil)) (wC (.int 4)))))
  (r_law_k14_4 C_Game C_Web C_BadPost C_CannotSend C_NotFree C_UnknownPlace))
def r_law_k14_2 (C_Game : Addr) (C_Web : Addr) (C_BadPost : Addr) (C_CannotSend : Addr) (C_NotFree : Addr) (C_UnknownPlace : Addr) : Ws :=
  (sSeq (sSet 6 (wC (.str "walk")))
  (r_law_k14_3 C_Game C_Web C_BadPost C_CannotSend C_NotFree C_UnknownPlace))
def r_law_k14_1 (C_Game : Addr) (C_Web : Addr) (C_BadPost : Addr) (C_CannotSend : Addr) (C_NotFree : Addr) (C_UnknownPlace : Addr) : Ws :=
  (sSeq (sSet 5 (wCall wf_law_draws [] (waCons (wVar 0) (waCons (wC (.int 1)) (waCons (wC (.int 4)) waNil)))))
  (r_law_k14_2 C_Game C_Web C_BadPost C_CannotSend C_NotFree C_UnknownPlace))
def b_law_k14 (C_Game : Addr) (C_Web : Addr) (C_BadPost : Addr) (C_CannotSend : Addr) (C_NotFree : Addr) (C_UnknownPlace : Addr) : Ws :=
  (sSeq (sAsg (wCall wf_law_any_web_k13 [] (waCons (wCall wf_law_draws [] (waCons (wVar 0) (waCons (wC (.int 0)) (waCons (wC (.int 40)) waNil)))) (waCons (wC (.int 1)) (waCons (wC (.int 8)) (waCons (wC (.int 4)) waNil))))) (gLstD 4 (gsCons (gSet 1) (gsCons (gSet 2) (gsCons (gSet 3) (gsCons (gSet 4) gsNil))))))
  (r_law_k14_1 C_Game C_Web C_BadPost C_CannotSend C_NotFree C_UnknownPlace))
end Tw.S

namespace Tw.S
open PySem PySem.Spec L2 PyProof.Rows Tw

def r_law_way_ties_3 : Ws :=
  (sRetO 6)
def r_law_way_ties_2 : Ws :=
  (sSeq (sFor (wiR1 (wN oLen (waCons (wVar 2) waNil))) (gSet 7)
  (sFor (wiR1 (wVar 7)) (gSet 8)
  (sSeq (sSet 9 (wN oInt (waCons (w2 oIx (wVar 0) (w2 oPlus (w2 oPlus (wVar 1) (w2 oDiv (w2 oMul (wVar 7) (w2 oSub (wVar 7) (wC (.int 1)))) (wC (.int 2)))) (wVar 8))) waNil)))
  (sSeq (sSet 10 (wLc (wiR1 (wVar 3)) (gSet 16) wtYes (w2 oMul (wC (.int 3)) (w2 oMod (wVar 9) (wC (.int 2)))) [16]))
  (sSeq (sIf (wB (w2 oEq (wVar 4) (wC (.int 1))))
  (sSet 10 (wLc (wiR1 (wVar 3)) (gSet 16) wtYes (w2 oMod (wVar 9) (wC (.int 4))) [16]))
  sNil)
  (sSeq (sIf (wB (w2 oEq (wVar 4) (wC (.int 2))))
  (sSet 10 (wLc (wiR1 (wVar 3)) (gSet 16) wtYes (w2 oMod (w2 oDiv (wVar 9) (w2 oIx (wVar 5) (wVar 16))) (wC (.int 4))) [16]))
  sNil)
  (sFor (wiS (wLst (waCons (wTup (waCons (wC (.int 3)) (waCons (wVar 8) (waCons (wVar 7) (waCons (wC (.str "two")) waNil))))) (waCons (wTup (waCons (wC (.int 1)) (waCons (wVar 8) (waCons (wVar 7) (waCons (wC (.str "one")) waNil))))) (waCons (wTup (waCons (wC (.int 2)) (waCons (wVar 7) (waCons (wVar 8) (waCons (wC (.str "one")) waNil))))) waNil))))) (gTupD 4 (gsCons (gSet 11) (gsCons (gSet 12) (gsCons (gSet 13) (gsCons (gSet 14) gsNil)))))
  (sSeq (sSet 15 (wN oTuple (waCons (wLc (wiR1 (wVar 3)) (gSet 16) (wB (w2 oEq (w2 oIx (wVar 10) (wVar 16)) (wVar 11))) (wVar 16) [16]) waNil)))
  (sIf (wB (w2 oNe (wVar 15) (wTup waNil)))
  (sApp 6 (wTup (waCons (w2 oIx (wVar 2) (wVar 12)) (waCons (w2 oIx (wVar 2) (wVar 13)) (waCons (wVar 14) (waCons (wVar 15) waNil))))))
  sNil)))))))))
  (r_law_way_ties_3))
def r_law_way_ties_1 : Ws :=
  (sSeq (sSetO 6 (wLst waNil))
  (r_law_way_ties_2))
def b_law_way_ties : Ws :=
  (sSeq (sSet 5 (wLst (waCons (wC (.int 1)) (waCons (wC (.int 4)) (waCons (wC (.int 16)) (waCons (wC (.int 64)) waNil))))))
  (r_law_way_ties_1))
def b_law_any_web_k13 : Ws :=
  (sSeq (sSet 4 (w2 oPlus (wVar 1) (w2 oMod (wN oInt (waCons (w2 oIx (wVar 0) (wC (.int 0))) waNil)) (w2 oPlus (w2 oSub (wVar 2) (wVar 1)) (wC (.int 1))))))
  (sSeq (sSet 5 (w2 oMod (wN oInt (waCons (w2 oIx (wVar 0) (wC (.int 1))) waNil)) (wC (.int 3))))
  (sSeq (sSet 6 (w2 oPlus (wC (.int 1)) (w2 oMod (wN oInt (waCons (w2 oIx (wVar 0) (wC (.int 2))) waNil)) (wVar 3))))
  (sSeq (sSet 7 (wCall wf_law_names [] (waCons (wVar 0) (waCons (wC (.int 3)) (waCons (wVar 4) waNil)))))
  (sSeq (sSet 8 (wCall wf_law_way_ties [] (waCons (wVar 0) (waCons (wC (.int 6)) (waCons (wVar 7) (waCons (wVar 6) (waCons (wVar 5) waNil)))))))
  (sRetF (wLst (waCons (wVar 7) (waCons (wVar 8) (waCons (wVar 6) (waCons (wCall wf_law_table [] (waCons (wVar 7) (waCons (wVar 8) (waCons (wVar 6) waNil)))) waNil)))))))))))
def b_law_beat : Ws :=
  (sSeq (sSet 1 (w2 oSub (w2 oMod (wN oInt (waCons (wVar 0) waNil)) (wC (.int 21))) (wC (.int 10))))
  (sSeq (sIf (wB (w2 oEq (wVar 1) (wNeg (wC (.int 10)))))
  (sRet (wNeg (w2 oPow (wC (.int 10)) (wC (.int 9)))))
  sNil)
  (sSeq (sIf (wB (w2 oEq (wVar 1) (wC (.int 10))))
  (sRet (w2 oPow (wC (.int 10)) (wC (.int 9))))
  sNil)
  (sRet (wVar 1)))))
def b_is_rising : Ws :=
  (sRet (wN oAll (waCons (wLc (wiR1 (w2 oSub (wN oLen (waCons (wVar 0) waNil)) (wC (.int 1)))) (gSet 1) wtYes (w2 oLe (w2 oIx (wVar 0) (wVar 1)) (w2 oIx (wVar 0) (w2 oPlus (wVar 1) (wC (.int 1))))) [1]) waNil)))
def b_is_post_of (C_Game : Addr) (C_Web : Addr) : Ws :=
  (sSeq (sIf (wB (w2 oEq (wFld C_Game "travel" (wVar 0)) (wC (.str "fly"))))
  (sRet (wAndV (w2 oLe (wN oLen (waCons (wVar 1) waNil)) (wFld C_Game "seekers" (wVar 0))) (wCall wf_is_set [] (waCons (wVar 1) (waCons (wLenO C_Web (wf_Web___len__ C_Web) (wFld C_Game "web" (wVar 0))) waNil)))))
  sNil)
  (sSeq (sIf (wB (w2 oNe (wN oLen (waCons (wVar 1) waNil)) (wFld C_Game "seekers" (wVar 0))))
  (sRet (wC (.bl false)))
  sNil)
  (sRet (wAndV (wCall wf_is_rising [] (waCons (wVar 1) waNil)) (wAndV (w2 oLe (wC (.int 0)) (w2 oIx (wVar 1) (wC (.int 0)))) (w2 oLt (w2 oIx (wVar 1) (wNeg (wC (.int 1)))) (wLenO C_Web (wf_Web___len__ C_Web) (wFld C_Game "web" (wVar 0)))))))))
def b_check_post (C_Game : Addr) (C_Web : Addr) (C_BadPost : Addr) : Ws :=
  (sIf (wNot (wTru (wCall (wf_is_post_of C_Game C_Web) [] (waCons (wVar 0) (waCons (wVar 1) waNil)))))
  (sRaiseN C_BadPost ["post"] (waCons (wVar 1) waNil))
  sNil)
def b_longer_posts (C_Game : Addr) (C_Web : Addr) : Ws :=
  (sSeq (sSet 2 (wIf (wB (w2 oEq (wFld C_Game "travel" (wVar 0)) (wC (.str "walk")))) (wC (.int 0)) (wC (.int 1))))
  (sSeq (sSetO 3 (wLst waNil))
  (sSeq (sFor (wiS (wVar 1)) (gSet 4)
  (sSeq (sSet 5 (wIf (wTru (wVar 4)) (w2 oPlus (w2 oIx (wVar 4) (wNeg (wC (.int 1)))) (wVar 2)) (wC (.int 0))))
  (sExt 3 (wLc (wiR2 (wVar 5) (wLenO C_Web (wf_Web___len__ C_Web) (wFld C_Game "web" (wVar 0)))) (gSet 6) wtYes (wTup (waStar (wVar 4) (waCons (wVar 6) waNil))) [6]))))
  (sRetO 3))))
def b_posts_of (C_Game : Addr) (C_Web : Addr) : Ws :=
  (sSeq (sSetO 1 (wLst (waCons (wTup waNil) waNil)))
  (sSeq (sSetO 2 (wLst (waCons (wTup waNil) waNil)))
  (sSeq (sFor (wiR1 (wFld C_Game "seekers" (wVar 0))) (gSet 3)
  (sSeq (sFrz 2 (sSetO 2 (wCallF (wf_longer_posts C_Game C_Web) [] (waCons (wVar 0) (waCons (wVar 2) waNil)))))
  (sExt 1 (wPeek 2))))
  (sRetIf (wB (w2 oEq (wFld C_Game "travel" (wVar 0)) (wC (.str "walk")))) 2 (wN oSortT (waCons (wPeek 1) waNil))))))
def b_with_one : Ws :=
  (sRet (wN oTuple (waCons (wN oSortA (waCons (wLst (waStar (wVar 0) (waCons (wVar 1) waNil))) waNil)) waNil)))
def b_sends_of (C_Game : Addr) (C_Web : Addr) (C_UnknownPlace : Addr) : Ws :=
  (sSeq (sIf (wB (w2 oEq (wFld C_Game "travel" (wVar 0)) (wC (.str "fly"))))
  (sRetF (wCallF (wf_posts_of C_Game C_Web) [] (waCons (wVar 0) waNil)))
  sNil)
  (sSeq (sSetO 3 (wLst (waCons (wTup waNil) waNil)))
  (sSeq (sFor (wiS (wVar 2)) (gSet 4)
  (sFrz 3 (sSetO 3 (wSortSetG (wLc2 (wiS (wVar 3)) (gSet 5) wtYes (wiS (wMeth C_Web "steps" (wf_Web_steps C_Web C_UnknownPlace) (wFld C_Game "web" (wVar 0)) (waCons (wVar 4) (waCons (wVar 1) waNil)))) [6] (gSet 6) wtYes (wCall wf_with_one [] (waCons (wVar 5) (waCons (wVar 6) waNil))) [5, 6])))))
  (sRetO 3))))
def r_law_posts_4 : Ws :=
  (sRetF (wN oSortT (waCons (wVar 4) waNil)))
def r_law_posts_3 : Ws :=
  (sSeq (sIf (wB (w2 oEq (wVar 2) (wC (.str "fly"))))
  (sRetF (wN oSortT (waCons (wVar 3) waNil)))
  sNil)
  (r_law_posts_4))
def r_law_posts_2 : Ws :=
  (sSeq (sFor (wiR1 (wVar 1)) (gSet 5)
  (sSeq (sSetO 6 (wLst waNil))
  (sSeq (sFor (wiS (wVar 4)) (gSet 7)
  (sSeq (sSet 8 (wC (.int 0)))
  (sSeq (sIf (wB (w2 oNe (wVar 7) (wTup waNil)))
  (sSet 8 (w2 oPlus (w2 oIx (wVar 7) (wNeg (wC (.int 1)))) (wN oInt (waCons (w2 oEq (wVar 2) (wC (.str "fly"))) waNil))))
  sNil)
  (sFor (wiR2 (wVar 8) (wVar 0)) (gSet 9)
  (sApp 6 (w2 oPlus (wVar 7) (wTup (waCons (wVar 9) waNil))))))))
  (sSeq (sSet 4 (wN oList (waCons (wPeek 6) waNil)))
  (sSet 3 (w2 oPlus (wVar 3) (wPeek 6)))))))
  (r_law_posts_3))
def r_law_posts_1 : Ws :=
  (sSeq (sSet 4 (wLst (waCons (wTup waNil) waNil)))
  (r_law_posts_2))
def b_law_posts : Ws :=
  (sSeq (sSet 3 (wLst (waCons (wTup waNil) waNil)))
  (r_law_posts_1))
def r_law_sends_3 : Ws :=
  (sRet (wVar 4))
def r_law_sends_2 : Ws :=
  (sSeq (sFor (wiS (wVar 3)) (gSet 5)
  (sSeq (sSetO 6 (wLst waNil))
  (sSeq (sFor (wiS (wVar 4)) (gSet 7)
  (sFor (wiS (w2 oPlus (wLst (waCons (wVar 5) waNil)) (w2 oIx (wVar 0) (wVar 5)))) (gSet 8)
  (sApp 6 (wN oTuple (waCons (wN oSortA (waCons (w2 oPlus (wN oList (waCons (wVar 7) waNil)) (wLst (waCons (wVar 8) waNil))) waNil)) waNil)))))
  (sSet 4 (wSortSetG (wPeek 6))))))
  (r_law_sends_3))
def r_law_sends_1 : Ws :=
  (sSeq (sSet 4 (wLst (waCons (wTup waNil) waNil)))
  (r_law_sends_2))
def b_law_sends : Ws :=
  (sSeq (sIf (wB (w2 oEq (wVar 1) (wC (.str "fly"))))
  (sRetF (wN oList (waCons (wVar 2) waNil)))
  sNil)
  (r_law_sends_1))
def b_Game___init__ (C_Game : Addr) : Ws :=
  (sSeq (sIf (wB (w2 (oIn true) (wVar 3) (wTup (waCons (wC (.str "walk")) (waCons (wC (.str "fly")) waNil)))))
  (fun _ _ => False)
  sNil)
  (sSeq (sIf (wNot (wB (wCh oLe oLe (wC (.int 1)) (wVar 2) (wIf (wB (w2 oEq (wVar 3) (wC (.str "walk")))) (wC (.int 4)) (wC (.int 8))))))
  (fun _ _ => False)
  sNil)
  (sSeq (sIf (wB (w2 (oIn true) (wVar 4) (wTup (waCons (wC (.str "step")) (waCons (wC (.str "swift")) waNil)))))
  (fun _ _ => False)
  sNil)
  (sSeq (sIf (wAnd (wB (w2 (oIsN true) (wVar 5) (wC .non))) (wNot (wB (wCh oLe oLe (wC (.int 0)) (wVar 5) (wC (.int 3))))))
  (fun _ _ => False)
  sNil)
  (sSeq (fun Z ρ => OneSe ρ 0 ∧ sFldD 0 C_Game "web" (wVar 1) Z ρ)
  (sSeq (fun Z ρ => OneSe ρ 0 ∧ sFldD 0 C_Game "seekers" (wVar 2) Z ρ)
  (sSeq (fun Z ρ => OneSe ρ 0 ∧ sFldD 0 C_Game "travel" (wVar 3) Z ρ)
  (sSeq (fun Z ρ => OneSe ρ 0 ∧ sFldD 0 C_Game "pace" (wVar 4) Z ρ)
  (fun Z ρ => OneSe ρ 0 ∧ sFldD 0 C_Game "late" (wVar 5) Z ρ)))))))))
end Tw.S

namespace Tw.S
open PySem PySem.Spec L2 PyProof.Rows Tw
section
variable {CG CW : Addr} {g : Gm} {Q : D → Prop}
@[simp] theorem gm_web : fldOf CG "web" (g.d CG CW) Q = Q (webP CW g.names g.c g.L) := fldOf_mk rfl
@[simp] theorem gm_seek : fldOf CG "seekers" (g.d CG CW) Q = Q (.int g.k) := fldOf_mk rfl
@[simp] theorem gm_trav : fldOf CG "travel" (g.d CG CW) Q = Q (.str g.tr) := fldOf_mk rfl
end
theorem gm_tr {g : Gm} (h : g.Ok) : g.tr = "walk" ∨ g.tr = "fly" := by
  rcases h.tm.2 with h | h
  · exact .inl h.1
  · exact .inr h.1
theorem p_is_rising (xc : XC) (ds : List D) (Q : Bool → D → Prop) (h : wf_is_rising xc ds Q) : b_is_rising (Zd xc Q) (ds.map .da ++ List.replicate (2 - ds.length) .no) := by
  obtain ⟨l, rfl, hl, q⟩ := h
  have hs := sizeLine_eq
  simp [b_is_rising]
  refine ⟨by omega, lc_rng0 _ (fun i => .bl (decide (l.getD i 0 ≤ l.getD (i + 1) 0))) (fun i hi k1 h1 => ?_) (by omega) ?_⟩
  · simp
    refine ⟨_, atI_int (by omega) (by omega), _, atI_int (by omega) (by omega), ?_⟩
    simpa using h1
  · refine oAll_b (bs := (List.range (l.length - 1)).map fun i => decide (l.getD i 0 ≤ l.getD (i + 1) 0)) (by simp) ?_
    rw [all_map]
    exact q
theorem p_with_one (xc : XC) (ds : List D) (Q : Bool → D → Prop) (h : wf_with_one xc ds Q) : b_with_one (Zd xc Q) (ds.map .da ++ List.replicate (2 - ds.length) .no) := by
  obtain ⟨l, x, rfl, hl, q⟩ := h
  have hs := sizeLine_eq
  simp [b_with_one, waStar]
  refine ⟨l.map .int, .inl rfl, by rw [List.length_map]; omega, l ++ [x], .inl (by rw [List.map_append]; rfl), fun ms hp hm => ?_⟩
  have e : ms = srt (l ++ [x]) := sorted_one (hp.trans (List.mergeSort_perm _ _).symm) hm (merge_srt _)
  rw [← e] at q
  exact q
theorem raiseN13 {C : Addr} {f : Str} {w : Wx} : sRaiseN C [f] (waCons w waNil) = fun Z ρ => w Z.xc ρ fun d => Z.xc C [(f, d)] := by
  funext Z ρ
  simp [sRaiseN]
theorem p_check_post (CG CW CB : Addr) (xc : XC) (ds : List D) (Q : Bool → D → Prop) (h : wf_check_post CG CW CB xc ds Q) : b_check_post CG CW CB (Zd xc Q) (ds.map .da ++ List.replicate (2 - ds.length) .no) := by
  obtain ⟨g, p, rfl, hg, hl, q1, q2⟩ := h
  have hs := sizeLine_eq
  simp [b_check_post, raiseN13, wCall]
  refine ⟨g, p, rfl, hg, by omega, ?_⟩
  cases e : isPost g.names.length g.k g.fly p with
  | false => exact .inl ⟨rfl, q1 e⟩
  | true => exact .inr ⟨rfl, q2 e⟩
theorem p_law_beat (xc : XC) (ds : List D) (Q : Bool → D → Prop) (h : wf_law_beat xc ds Q) : b_law_beat (Zd xc Q) (ds.map .da ++ List.replicate (2 - ds.length) .no) := by
  obtain ⟨x, rfl, h0, h1, q⟩ := h
  have hs := sizeLine_eq
  simp [b_law_beat]
  have cp : CPow 10 9 := ⟨by omega, by omega, by decide⟩
  by_cases e1 : x % 21 - 10 = -10
  · exact .inr ⟨e1, cp, q _ (by omega) (by omega)⟩
  · refine .inl ⟨e1, ?_⟩
    by_cases e2 : x % 21 - 10 = 10
    · exact .inr ⟨e2, cp, q _ (by omega) (by omega)⟩
    · exact .inl ⟨e2, q _ (by omega) (by omega)⟩
theorem post_ok {g : Gm} {p : List Int} (hg : g.Ok) (e : isPost g.names.length g.k g.fly p = true) : PostOk g.names.length g.k g.fly p := by
  refine ⟨e, ?_⟩
  unfold isPost at e
  by_cases hf : g.fly = true
  · rw [if_pos hf, Bool.and_eq_true, decide_eq_true_eq] at e
    have h8 : g.k ≤ 8 := by
      rcases hg.tm.2 with h | h
      · omega
      · exact h.2
    refine ⟨by omega, fun x hx => ?_⟩
    have h2 := e.2
    unfold isSet at h2
    rw [Bool.and_eq_true] at h2
    have := List.all_eq_true.mp h2.1 x hx
    simpa using this
  · rw [if_neg hf, Bool.and_eq_true, Bool.and_eq_true, Bool.and_eq_true, decide_eq_true_eq, decide_eq_true_eq, decide_eq_true_eq] at e
    obtain ⟨⟨⟨el, er⟩, e0⟩, e1⟩ := e
    have h8 : g.k ≤ 8 := by
      rcases hg.tm.2 with h | h
      · omega
      · exact h.2
    have hk := hg.tm.1
    have step : ∀ i, i + 1 < p.length → p.getD i 0 ≤ p.getD (i + 1) 0 := fun i hi => by
      unfold rises at er
      exact of_decide_eq_true (List.all_eq_true.mp er i (List.mem_range.mpr (by omega)))
    have up : ∀ d i, i + d < p.length → p.getD i 0 ≤ p.getD (i + d) 0 := fun d => by
      induction d with
      | zero => intro i _; exact Int.le_refl _
      | succ d ih => intro i hi; exact Int.le_trans (ih i (by omega)) (step (i + d) (by omega))
    refine ⟨by omega, fun x hx => ?_⟩
    obtain ⟨i, hi, rfl⟩ := List.getElem_of_mem hx
    have ei : p.getD i 0 = p[i] := by simp [List.getD, hi]
    have a := up i 0 (by omega)
    have b := up (p.length - 1 - i) i (by omega)
    rw [show i + (p.length - 1 - i) = p.length - 1 by omega] at b
    rw [Nat.zero_add] at a
    rw [ei] at a b
    omega
end Tw.S

namespace Tw.S
open PySem PySem.Spec L2 PyProof.Rows Tw
theorem p_is_post_of (CG CW : Addr) (xc : XC) (ds : List D) (Q : Bool → D → Prop) (h : wf_is_post_of CG CW xc ds Q) : b_is_post_of CG CW (Zd xc Q) (ds.map .da ++ List.replicate (2 - ds.length) .no) := by
  obtain ⟨g, p, rfl, hg, hl, q⟩ := h
  have hn := hg.nm
  have ht := gm_tr hg
  have hk := hg.tm.1
  have sw : PyData.strOk g.tr = true := by rcases ht with e | e <;> rw [e] <;> decide +kernel
  have sf : PyData.strOk "fly" = true := by decide +kernel
  have hs := sizeLine_eq
  simp [b_is_post_of, oEq_s sw sf]
  unfold isPost Gm.fly at q
  by_cases hf : g.tr = "fly"
  · refine .inr ⟨hf, ?_⟩
    simp [hf] at q
    by_cases hp : p.length ≤ g.k
    · have hi := hn.hi
      refine .inr ⟨hp, ⟨_, rfl⟩, g.names, g.c, _, rfl, _, rfl, ⟨by omega, by omega⟩, p, g.names.length, rfl, hl, ?_⟩
      simpa [hp] using q
    · refine .inl ⟨by omega, ?_⟩
      simpa [hp] using q
  · refine .inl ⟨hf, ?_⟩
    simp [hf] at q
    have hi := hn.hi
    by_cases hp : p.length = g.k
    · refine .inl ⟨by omega, p, rfl, hl, ?_⟩
      cases hr : rises p with
      | false => exact .inl ⟨rfl, by simpa [hr] using q⟩
      | true =>
        refine .inr ⟨rfl, _, atI_int (by omega) (by omega), ?_⟩
        have hne : p ≠ [] := fun z => by subst z; simp at hp; omega
        have hlt : p.length - 1 < p.length := by omega
        by_cases h0 : 0 ≤ p.getD 0 0
        · refine .inr ⟨h0, p.getD (p.length - 1) 0, (atI_last hne).trans (by simp [hlt]), ⟨_, rfl⟩, g.names, g.c, _, rfl, _, rfl, ⟨by omega, by omega⟩, ?_⟩
          simp only [oLt_i]
          have h0' : (0 : Int) ≤ p[0]?.getD 0 := by simpa using h0
          simp [hp, hr, h0'] at q
          simpa [hp] using q
        · refine .inl ⟨by simpa using h0, ?_⟩
          have h0' : ¬ (0 : Int) ≤ p[0]?.getD 0 := by simpa using h0
          simpa [hp, hr, h0'] using q
    · exact .inr ⟨by omega, by simpa [hp] using q⟩
theorem p_Game_init (C : Addr) (xc : XC) (ds : List D) (Q : List (Str × D) → Prop) (p : Addr) (h : wi_Game xc ds Q) : b_Game___init__ C { nx := fun ρ => ∃ fs, ρ[0]? = some (.se p C fs) ∧ Q fs, rt := fun _ _ => False, xc := xc } (.se p C [] :: (ds.map .da ++ List.replicate (6 - (ds.length + 1)) .no)) := by
  obtain ⟨CW, g, rfl, hg, q⟩ := h
  have hs := sizeLine_eq
  have ht := gm_tr hg
  have sw : PyData.strOk g.tr = true := by rcases ht with e | e <;> rw [e] <;> decide +kernel
  have sp : PyData.strOk g.pc = true := by rcases hg.pc with e | e <;> rw [e] <;> decide +kernel
  have s1 : PyData.strOk "walk" = true := by decide +kernel
  have s2 : PyData.strOk "fly" = true := by decide +kernel
  have s3 : PyData.strOk "step" = true := by decide +kernel
  have s4 : PyData.strOk "swift" = true := by decide +kernel
  have hsz : 2 ≤ sizeLine := by omega
  simp (decide := true) [b_Game___init__, sFldD, ex2, ex2', putD, oIn_ss, oEq_s, sw, sp, s1, s2, s3, s4, hsz]
  have hk := hg.tm.1
  have late : ∀ R : Prop, R → ((ltD g.lt).isN = true ∧ R ∨ (ltD g.lt).isN = false ∧ oLe (D.int 0) (ltD g.lt) fun z => z = D.bl true ∧ oLe (ltD g.lt) (D.int 3) fun d => d = D.bl true ∧ R) := fun R r => by
    cases e : g.lt with
    | none => exact .inl ⟨rfl, r⟩
    | some i =>
      have := hg.lt i e
      refine .inr ⟨rfl, ?_⟩
      show oLe (D.int 0) (D.int i) _
      simp only [oLe_i]
      exact ⟨by simp, by simp; omega, r⟩
  have pace : ¬g.pc = Str.ofString "step" → g.pc = Str.ofString "swift" := fun h => by
    rcases hg.pc with e | e
    · exact absurd e h
    · exact e
  refine ⟨fun h => ?_, by omega, ?_⟩
  · rcases ht with e | e
    · exact absurd e h
    · exact e
  · rcases hg.tm.2 with ⟨e, h4⟩ | ⟨e, h8⟩
    · exact .inr ⟨e, by omega, pace, late _ q⟩
    · exact .inl ⟨by rw [e]; decide, by omega, pace, late _ q⟩
end Tw.S

namespace Tw.S
open PySem PySem.Spec L2 PyProof.Rows Tw
theorem longer_len (n ap : Nat) (hn : n ≤ 8) : ∀ ps : List (List Int), (ps.flatMap (grow n ap)).length ≤ 8 * ps.length
  | [] => by simp
  | p :: ps => by
    have := longer_len n ap hn ps
    rw [List.flatMap_cons, List.length_append, List.length_cons]
    have : (grow n ap p).length ≤ 8 := by unfold grow; simp; omega
    omega
theorem p_longer_posts (CG CW : Addr) (xc : XC) (ds : List D) (Q : Bool → D → Prop) (h : wf_longer_posts CG CW xc ds Q) : b_longer_posts CG CW (Zd xc Q) (ds.map .da ++ List.replicate (7 - ds.length) .no) := by
  obtain ⟨g, ps, rfl, hg0, hl, hb, h8, q⟩ := h
  have hn := hg0.nm
  have ht := gm_tr hg0
  have hs := sizeLine_eq
  have sw : PyData.strOk g.tr = true := by rcases ht with e | e <;> rw [e] <;> decide +kernel
  have s1 : PyData.strOk "walk" = true := by decide +kernel
  have hi := hn.hi
  have main : ∀ (ap : Nat), ap ≤ 1 → Q true (pL (longer g.names.length ap ps)) → forW (gSet 4)
        (sSeq (sSet 5 (wIf (wTru (wVar 4)) (w2 oPlus (w2 oIx (wVar 4) (wNeg (wC (D.int 1)))) (wVar 2)) (wC (D.int 0))))
          (sExt 3
            (wLc (wiR2 (wVar 5) (wLenO CW (wf_Web___len__ CW) (wFld CG (Str.ofString "web") (wVar 0)))) (gSet 6) wtYes
              (wTup (waStar (wVar 4) (waCons (wVar 6) waNil))) [6])))
        { nx := sRetO 3 (Zd xc Q), rt := Q, xc := xc } (List.map tI ps)
        [Sl.da (g.d CG CW), Sl.da (pL ps), Sl.da (D.int ap), Sl.ow (D.lst []), Sl.no, Sl.no, Sl.no] := by
    intro ap hap q
    refine for_fold ps tI (fun acc p => acc ++ grow g.names.length ap p) (fun acc ρ => ∃ a b d, ρ = [Sl.da (g.d CG CW), Sl.da (pL ps), Sl.da (D.int ap), Sl.ow (D.lst (acc.map tI)), a, b, d]) [] (fun pre p post ρ N e ⟨a1, a2, a3, er⟩ hN => ?_) ⟨_, _, _, rfl⟩ fun ρ ⟨a1, a2, a3, er⟩ => ?_
    · subst er
      rw [foldl_flat] at hN ⊢
      rw [List.nil_append] at hN ⊢
      have hlen := longer_len g.names.length ap hi pre
      have hpre : pre.length + 1 ≤ ps.length := by rw [e]; simp
      have hp : p ∈ ps := by rw [e]; simp
      have hg : (grow g.names.length ap p).length ≤ 8 := by unfold grow; simp; omega
      generalize pre.flatMap (grow g.names.length ap) = acc at *
      have fin : ∀ lo : Nat, lo = least ap p → lo < 1000 → sExt 3
            (wLc (wiR2 (wVar 5) (wLenO CW (wf_Web___len__ CW) (wFld CG (Str.ofString "web") (wVar 0)))) (gSet 6) wtYes
              (wTup (waStar (wVar 4) (waCons (wVar 6) waNil))) [6]) { nx := N, rt := Q, bk := fun ρ => sRetO 3 (Zd xc Q) ρ, ct := N, xc := xc }
          [Sl.da (g.d CG CW), Sl.da (pL ps), Sl.da (D.int ap), Sl.ow (D.lst (acc.map tI)), Sl.da (tI p), Sl.da (D.int lo), a3] := by
        intro lo hlo hlt
        simp [sExt, waStar]
        refine ⟨⟨_, rfl⟩, g.names, g.c, _, rfl, _, rfl, ⟨by omega, by omega⟩, _, rfl, ⟨by omega, by omega⟩, ?_⟩
        refine lc_of (List.range (g.names.length - lo)) (fun i => .int (lo + (i : Nat))) (fun i => tI (p ++ [((lo + i : Nat) : Int)])) (fun i hi k1 h1 => ?_) (by simp; omega) ?_
        · simp [waStar]
          refine ⟨p.map .int, .inl rfl, by have := h8 p hp; simp; omega, ?_⟩
          simpa [tI] using h1
        · have eg : (List.range (g.names.length - lo)).map (fun i => tI (p ++ [((lo + i : Nat) : Int)])) = (grow g.names.length ap p).map tI := by
            unfold grow
            rw [← hlo, List.map_map]
            rfl
          rw [eg]
          refine ⟨by simp; omega, ?_⟩
          rw [← List.map_append]
          exact hN _ ⟨_, _, _, rfl⟩
      cases p with
      | nil =>
        simp
        exact fin 0 rfl (by omega)
      | cons x r =>
        obtain ⟨y, hy⟩ : ∃ y, (x :: r).getLast? = some y := by
          cases hq : (x :: r).getLast? with
          | none => simp at hq
          | some y => exact ⟨y, rfl⟩
        have hm : y ∈ x :: r := List.mem_of_getLast? hy
        obtain ⟨y0, y8⟩ := hb _ hp y hm
        have ey : atI (x :: r) (-1) = some y := by rw [atI_last (by simp), ← List.getLast?_eq_getElem?]; exact hy
        simp
        refine ⟨y, ey, ?_⟩
        have el : y + (ap : Int) = ((y.toNat + ap : Nat) : Int) := by omega
        rw [el]
        refine fin (y.toNat + ap) ?_ (by omega)
        unfold least
        rw [hy]
    · subst er
      rw [foldl_flat]
      simpa [sRetO, pL, longer] using q
  simp [b_longer_posts, oEq_s sw s1, sFor]
  rcases ht with e | e
  · exact .inr ⟨e, main 0 (by omega) (by simpa [e] using q)⟩
  · exact .inl ⟨by rw [e]; decide, main 1 (by omega) (by rw [e] at q; simpa (decide := true) using q)⟩
def levOk (n ap m : Nat) : Bool := decide ((levels n ap m).length ≤ 1000) && decide ((upto n ap m).length ≤ 1000) && (levels n ap m).all fun p => decide (p.length ≤ 8) && p.all fun x => decide (0 ≤ x) && decide (x < 8)
theorem lev_fly : ∀ n, n ≤ 8 → ∀ m, m ≤ 8 → levOk n 1 m = true := by decide +kernel
theorem lev_walk : ∀ n, n ≤ 8 → ∀ m, m ≤ 4 → levOk n 0 m = true := by decide +kernel
theorem levOk_is {n ap m : Nat} (h : levOk n ap m = true) : (levels n ap m).length ≤ 1000 ∧ (upto n ap m).length ≤ 1000 ∧ (∀ p ∈ levels n ap m, ∀ x ∈ p, 0 ≤ x ∧ x < 8) ∧ ∀ p ∈ levels n ap m, p.length ≤ 8 := by
  unfold levOk at h
  simp only [Bool.and_eq_true, decide_eq_true_eq, List.all_eq_true] at h
  exact ⟨h.1.1, h.1.2, fun p hp x hx => (h.2 p hp).2 x hx, fun p hp => (h.2 p hp).1⟩
theorem p_posts_of (CG CW : Addr) (xc : XC) (ds : List D) (Q : Bool → D → Prop) (h : wf_posts_of CG CW xc ds Q) : b_posts_of CG CW (Zd xc Q) (ds.map .da ++ List.replicate (4 - ds.length) .no) := by
  obtain ⟨g, rfl, hg0, q⟩ := h
  have hn := hg0.nm
  have hk := hg0.tm.1
  have ht := hg0.tm.2
  have hs := sizeLine_eq
  have hi := hn.hi
  have s1 : PyData.strOk "walk" = true := by decide +kernel
  have sw : PyData.strOk g.tr = true := by rcases ht with ⟨e, _⟩ | ⟨e, _⟩ <;> rw [e] <;> decide +kernel
  have htr : g.tr = "walk" ∨ g.tr = "fly" := by rcases ht with ⟨e, _⟩ | ⟨e, _⟩ <;> simp [e]
  obtain ⟨ap, eap⟩ : ∃ ap, (if g.tr = "walk" then 0 else 1) = ap := ⟨_, rfl⟩
  have ok : ∀ m, m ≤ g.k → levOk g.names.length ap m = true := fun m hm => by
    rcases ht with ⟨e, hk4⟩ | ⟨e, hk8⟩
    · rw [if_pos e] at eap; subst eap; exact lev_walk _ hi _ (by omega)
    · rw [if_neg (by rw [e]; decide)] at eap; subst eap; exact lev_fly _ hi _ (by omega)
  simp [b_posts_of, sFor]
  refine ⟨by omega, by rcases ht with ⟨_, h⟩ | ⟨_, h⟩ <;> omega, ?_⟩
  refine for_fold (List.range g.k) (fun i => .int (0 + (i : Nat))) (fun m _ => m + 1) (fun m ρ => ∃ a, ρ = [Sl.da (g.d CG CW), Sl.ow (D.lst ((upto g.names.length ap m).map tI)), Sl.ow (D.lst ((levels g.names.length ap m).map tI)), a]) 0 (fun pre x post ρ N e ⟨a1, er⟩ hN => ?_) ⟨_, rfl⟩ fun ρ ⟨a1, er⟩ => ?_
  · subst er
    have em : pre.foldl (fun m _ => m + 1) 0 = pre.length := by
      have : ∀ (l : List Nat) (i : Nat), l.foldl (fun m _ => m + 1) i = i + l.length := by
        intro l
        induction l with
        | nil => intro i; rfl
        | cons x l ih => intro i; rw [List.foldl_cons, ih]; simp; omega
      rw [this]; simp
    rw [em] at hN ⊢
    have hm : pre.length + 1 ≤ g.k := by
      have := congrArg List.length e
      simp at this
      omega
    obtain ⟨l1, l2, l3, l4⟩ := levOk_is (ok _ (Nat.le_of_succ_le hm))
    obtain ⟨m1, m2, m3, m4⟩ := levOk_is (ok _ hm)
    simp [sFrz, wCallF, sExt, wPeek]
    refine ⟨g, levels g.names.length ap pre.length, rfl, hg0, by omega, l3, l4, rfl, ?_⟩
    rw [eap]
    refine ⟨_, rfl, ?_, ?_⟩
    · have : (longer g.names.length ap (levels g.names.length ap pre.length)).length ≤ 1000 := m1
      simp
      omega
    · rw [← List.map_append]
      exact hN _ ⟨_, rfl⟩
  · subst er
    have ek : (List.range g.k).foldl (fun m _ => m + 1) 0 = g.k := by
      have : ∀ (l : List Nat) (i : Nat), l.foldl (fun m _ => m + 1) i = i + l.length := by
        intro l
        induction l with
        | nil => intro i; rfl
        | cons x l ih => intro i; rw [List.foldl_cons, ih]; simp; omega
      rw [this]; simp
    rw [ek]
    simp [sRetIf, wPeek, oEq_s sw s1]
    rcases htr with e | e
    · rw [if_pos e] at eap
      subst eap
      refine .inr ⟨e, ?_⟩
      unfold Gm.fly at q
      rw [e] at q
      have e2 : (("walk" : Str) == "fly") = false := by decide
      rw [e2] at q
      simpa [postsF, pL] using q
    · have hne : ¬ g.tr = "walk" := by rw [e]; decide
      rw [if_neg hne] at eap
      subst eap
      refine .inl ⟨hne, ⟨_, rfl, ?_⟩⟩
      unfold Gm.fly at q
      rw [e] at q
      simpa [postsF, pL] using q
end Tw.S

namespace Tw.S
open PySem PySem.Spec L2 PyProof.Rows Tw
theorem levels_walk : ∀ n, n ≤ 8 → ∀ m, m ≤ 4 → (levels n 0 m).Pairwise (fun a b => leT a b = true) := by decide +kernel
theorem p_law_posts (xc : XC) (ds : List D) (Q : Bool → D → Prop) (h : wf_law_posts xc ds Q) : b_law_posts (Zd xc Q) (ds.map .da ++ List.replicate (10 - ds.length) .no) := by
  obtain ⟨n, k, tr, rfl, hn, hn8, ⟨hk, ht⟩, q⟩ := h
  have hs := sizeLine_eq
  have s1 : PyData.strOk "fly" = true := by decide +kernel
  have sw : PyData.strOk tr = true := by rcases ht with ⟨rfl, _⟩ | ⟨rfl, _⟩ <;> decide +kernel
  obtain ⟨ap, eap⟩ : ∃ ap : Nat, (if tr = "fly" then 1 else 0) = ap := ⟨_, rfl⟩
  have hap : ap ≤ 1 := by rw [← eap]; split <;> omega
  have ok : ∀ m, m ≤ k → levOk n ap m = true := fun m hm => by
    rcases ht with ⟨e, hk4⟩ | ⟨e, hk8⟩
    · rw [if_neg (by rw [e]; decide)] at eap; subst eap; exact lev_walk _ hn8 _ (by omega)
    · rw [if_pos e] at eap; subst eap; exact lev_fly _ hn8 _ (by omega)
  simp [b_law_posts, r_law_posts_4,r_law_posts_3,r_law_posts_2,r_law_posts_1, sFor]
  refine ⟨by omega, by rcases ht with ⟨_, h⟩ | ⟨_, h⟩ <;> omega, ?_⟩
  refine for_fold (List.range k) (fun i => .int (0 + (i : Nat))) (fun m _ => m + 1) (fun m ρ => ∃ a b d e f, ρ = [Sl.da (D.int n), Sl.da (D.int k), Sl.da (D.str tr), Sl.da (D.lst ((upto n ap m).map tI)), Sl.da (D.lst ((levels n ap m).map tI)), a, b, d, e, f]) 0 (fun pre x post ρ N e ⟨a1, a2, a3, a4, a5, er⟩ hN => ?_) ⟨_, _, _, _, _, rfl⟩ fun ρ ⟨a1, a2, a3, a4, a5, er⟩ => ?_
  · subst er
    rw [fold_count, Nat.zero_add] at hN ⊢
    have hm : pre.length + 1 ≤ k := by
      have := congrArg List.length e
      simp at this
      omega
    obtain ⟨l1, l2, l3, l4⟩ := levOk_is (ok _ (Nat.le_of_succ_le hm))
    obtain ⟨m1, m2, m3, m4⟩ := levOk_is (ok _ hm)
    generalize hlv : levels n ap pre.length = lv at *
    have elv : levels n ap (pre.length + 1) = lv.flatMap (grow n ap) := by rw [← hlv]; rfl
    have eup : upto n ap (pre.length + 1) = upto n ap pre.length ++ lv.flatMap (grow n ap) := by rw [← elv]; rfl
    rw [elv] at m1
    simp [sFor]
    refine for_fold lv tI (fun acc p => acc ++ grow n ap p) (fun acc ρ => ∃ b d f, ρ = [Sl.da (D.int n), Sl.da (D.int k), Sl.da (D.str tr), Sl.da (D.lst ((upto n ap pre.length).map tI)), Sl.da (D.lst (lv.map tI)), Sl.da (D.int x), Sl.ow (D.lst (acc.map tI)), b, d, f]) [] (fun pre2 p post2 ρ N2 e2 ⟨b1, b2, b3, er⟩ hN2 => ?_) ⟨_, _, _, rfl⟩ fun ρ ⟨b1, b2, b3, er⟩ => ?_
    · subst er
      rw [foldl_flat, List.nil_append] at hN2 ⊢
      have hlen := longer_len n ap hn8 pre2
      have hp : p ∈ lv := by rw [e2]; simp
      have hpl : pre2.length + 1 ≤ lv.length := by rw [e2]; simp
      have h8 := l4 p hp
      generalize pre2.flatMap (grow n ap) = acc at *
      have fin : ∀ lo : Nat, lo = least ap p → lo < 1000 → sFor (wiR2 (wVar 8) (wVar 0)) (gSet 9) (sApp 6 (w2 oPlus (wVar 7) (wTup (waCons (wVar 9) waNil)))) { nx := N2, rt := Q, bk := fun ρ => sSeq (sSet 4 (wN oList (waCons (wPeek 6) waNil))) (sSet 3 (w2 oPlus (wVar 3) (wPeek 6))) { nx := N, rt := Q, bk := fun _ => False, ct := N, xc := xc } ρ, ct := N2, xc := xc }
          [Sl.da (D.int n), Sl.da (D.int k), Sl.da (D.str tr), Sl.da (D.lst ((upto n ap pre.length).map tI)), Sl.da (D.lst (lv.map tI)), Sl.da (D.int x), Sl.ow (D.lst (acc.map tI)), Sl.da (tI p), Sl.da (D.int lo), b3] := by
        intro lo hlo hlt
        simp [sFor]
        refine ⟨by omega, ?_⟩
        refine for_fold (List.range (n - lo)) (fun i => .int (lo + (i : Nat))) (fun acc2 i => acc2 ++ [p ++ [((lo + i : Nat) : Int)]]) (fun acc2 ρ => ∃ f, ρ = [Sl.da (D.int n), Sl.da (D.int k), Sl.da (D.str tr), Sl.da (D.lst ((upto n ap pre.length).map tI)), Sl.da (D.lst (lv.map tI)), Sl.da (D.int x), Sl.ow (D.lst ((acc ++ acc2).map tI)), Sl.da (tI p), Sl.da (D.int lo), f]) [] (fun pre3 i post3 ρ N3 e3 ⟨c1, er⟩ hN3 => ?_) ⟨b3, by simp⟩ fun ρ ⟨c1, er⟩ => ?_
        · subst er
          rw [foldl_map_app, List.nil_append] at hN3 ⊢
          have hi : pre3.length + 1 ≤ n - lo := by
            have := congrArg List.length e3
            simp at this
            omega
          have hacc2 : (pre3.map fun i : Nat => p ++ [((lo + i : Nat) : Int)]).length = pre3.length := by simp
          generalize pre3.map (fun i : Nat => p ++ [((lo + i : Nat) : Int)]) = acc2 at *
          simp [sApp, tI]
          refine ⟨by omega, by omega, by omega, ?_⟩
          refine hN3 _ ⟨Sl.da (D.int ((lo : Int) + (i : Int))), ?_⟩
          simp [tI]
        · subst er
          rw [foldl_map_app, List.nil_append]
          have eg : (List.range (n - lo)).map (fun i : Nat => p ++ [((lo + i : Nat) : Int)]) = grow n ap p := by unfold grow; rw [← hlo]
          rw [eg]
          exact hN2 _ ⟨_, _, _, rfl⟩
      have et : D.tup [] = tI [] := rfl
      cases p with
      | nil =>
        simp [et]
        exact fin 0 rfl (by omega)
      | cons y r =>
        obtain ⟨z, hz⟩ : ∃ z, (y :: r).getLast? = some z := by
          cases hq : (y :: r).getLast? with
          | none => simp at hq
          | some z => exact ⟨z, rfl⟩
        have hmz : z ∈ y :: r := List.mem_of_getLast? hz
        obtain ⟨z0, z8⟩ := l3 _ hp z hmz
        have ez : atI (y :: r) (-1) = some z := by rw [atI_last (by simp), ← List.getLast?_eq_getElem?]; exact hz
        have el : z + (ap : Int) = ((z.toNat + ap : Nat) : Int) := by omega
        have fz := fin (z.toNat + ap) (by unfold least; rw [hz]) (by omega)
        rw [← el] at fz
        simp [et, oEq_s sw s1]
        refine ⟨z, ez, ?_⟩
        have ea : (if tr = "fly" then (1 : Int) else 0) = (ap : Int) := by rw [← eap]; split <;> rfl
        rw [ea]
        exact fz
    · subst er
      rw [foldl_flat, List.nil_append]
      rw [eup, elv] at hN
      generalize lv.flatMap (grow n ap) = fm at *
      simp [wPeek]
      refine ⟨by omega, ?_⟩
      rw [← List.map_append]
      exact hN _ ⟨_, _, _, _, _, rfl⟩
  · subst er
    rw [fold_count, Nat.zero_add]
    simp [oEq_s sw s1]
    rcases ht with ⟨e, hk4⟩ | ⟨e, hk8⟩
    · have hne : ¬ tr = "fly" := by rw [e]; decide
      rw [if_neg hne] at eap
      subst eap
      refine .inl ⟨hne, _, rfl, ?_⟩
      have e2 : (tr == ("fly" : Str)) = false := by rw [e]; decide
      rw [e2] at q
      rw [List.mergeSort_of_pairwise (levels_walk _ hn8 _ hk4)]
      exact q
    · rw [if_pos e] at eap
      subst eap
      refine .inr ⟨e, _, rfl, ?_⟩
      have e2 : (tr == ("fly" : Str)) = true := by rw [e]; decide
      rw [e2] at q
      exact q
end Tw.S

namespace Tw.S
open PySem PySem.Spec L2 PyProof.Rows Tw
def cutI (l : List Int) (lo hi : Option Int) : List Int := (l.drop (HT.sIx l.length 0 lo)).take (HT.sIx l.length l.length hi - HT.sIx l.length 0 lo)
@[simp] theorem sl_tI {l : List Int} {lo hi : Option Int} {Q : D → Prop} : oSl (tI l) lo hi Q = Q (tI (cutI l lo hi)) := by
  unfold tI cutI
  show Q (.tup (cutD (l.map .int) lo hi)) = _
  unfold cutD
  rw [List.length_map, List.map_take, List.map_drop]
theorem tup1 {a : Int} : D.tup [D.int a] = tI [a] := rfl
theorem tup0 : D.tup [] = tI [] := rfl
end Tw.S

namespace Tw.S
open PySem PySem.Spec L2 PyProof.Rows Tw
def r_ways : Ws := (sFor (wiS (wLst (waCons (wTup (waCons (wC (.int 3)) (waCons (wVar 8) (waCons (wVar 7) (waCons (wC (.str "two")) waNil))))) (waCons (wTup (waCons (wC (.int 1)) (waCons (wVar 8) (waCons (wVar 7) (waCons (wC (.str "one")) waNil))))) (waCons (wTup (waCons (wC (.int 2)) (waCons (wVar 7) (waCons (wVar 8) (waCons (wC (.str "one")) waNil))))) waNil))))) (gTupD 4 (gsCons (gSet 11) (gsCons (gSet 12) (gsCons (gSet 13) (gsCons (gSet 14) gsNil)))))
  (sSeq (sSet 15 (wN oTuple (waCons (wLc (wiR1 (wVar 3)) (gSet 16) (wB (w2 oEq (w2 oIx (wVar 10) (wVar 16)) (wVar 11))) (wVar 16) [16]) waNil)))
  (sIf (wB (w2 oNe (wVar 15) (wTup waNil)))
  (sApp 6 (wTup (waCons (w2 oIx (wVar 2) (wVar 12)) (waCons (w2 oIx (wVar 2) (wVar 13)) (waCons (wVar 14) (waCons (wVar 15) waNil))))))
  sNil)))
structure Way where
  way : Int
  a : Nat
  b : Nat
  w : Str
def wayD (x : Way) : D := .tup [.int x.way, .int x.a, .int x.b, .str x.w]
theorem go_ways {Z : Pd} {l : List Int} {at_ c u v : Nat} {names : List Str} {kind : Int} {pw dg : D} {ws : List Int} {acc : List Tie} {s11 s12 s13 s14 s15 s16 : Sl} (hn : NamesOk names) (hc : c ≤ 4) (hw : ws.length = c) (hu : u < names.length) (hv : v < u)
    (hb : acc.length + 3 ≤ 1000)
    (fin : ∀ (new : List Tie) (a b d e f g : Sl), new.length ≤ 3 → (∀ t ∈ new, TieOk names c t ∧ On names[u] (names[v]'(by omega)) t) → Z.nx [Sl.da (iL l), Sl.da (.int at_), Sl.da (sL names), Sl.da (.int c), Sl.da (.int kind), Sl.da pw, Sl.ow (tsL (acc ++ new)), Sl.da (.int u), Sl.da (.int v), Sl.da dg, Sl.da (iL ws), a, b, d, e, f, g]) :
    r_ways Z [Sl.da (iL l), Sl.da (.int at_), Sl.da (sL names), Sl.da (.int c), Sl.da (.int kind), Sl.da pw, Sl.ow (tsL acc), Sl.da (.int u), Sl.da (.int v), Sl.da dg, Sl.da (iL ws), s11, s12, s13, s14, s15, s16] := by
  have hs := sizeLine_eq
  have et : [D.tup [.int 3, .int v, .int u, .str "two"], D.tup [.int 1, .int v, .int u, .str "one"], D.tup [.int 2, .int u, .int v, .str "one"]] = [Way.mk 3 v u "two", Way.mk 1 v u "one", Way.mk 2 u v "one"].map wayD := rfl
  have hws : ∀ x ∈ [Way.mk 3 v u "two", Way.mk 1 v u "one", Way.mk 2 u v "one"], x.a < names.length ∧ x.b < names.length ∧ x.a ≠ x.b ∧ (x.w = "two" ∨ x.w = "one") ∧ (x.a = u ∨ x.a = v) ∧ (x.b = u ∨ x.b = v) := by
    intro x hx
    simp at hx
    rcases hx with rfl | rfl | rfl <;> simp <;> omega
  simp [r_ways, sFor]
  refine ⟨by omega, by omega, ?_⟩
  rw [et]
  have hwl : [Way.mk 3 v u "two", Way.mk 1 v u "one", Way.mk 2 u v "one"].length = 3 := rfl
  generalize [Way.mk 3 v u "two", Way.mk 1 v u "one", Way.mk 2 u v "one"] = wl at *
  refine for_fold wl wayD (fun m _ => m + 1) (fun m ρ => ∃ (acc' : List Tie) (a b d e f g : Sl), ρ = [Sl.da (iL l), Sl.da (.int at_), Sl.da (sL names), Sl.da (.int c), Sl.da (.int kind), Sl.da pw, Sl.ow (tsL (acc ++ acc')), Sl.da (.int u), Sl.da (.int v), Sl.da dg, Sl.da (iL ws), a, b, d, e, f, g] ∧ acc'.length ≤ m ∧ ∀ t ∈ acc', TieOk names c t ∧ On names[u] (names[v]'(by omega)) t) 0 (fun pre x post ρ N e ⟨acc', b1, b2, b3, b4, b5, b6, er, el, eo⟩ hN => ?_) ⟨[], _, _, _, _, _, _, by rw [List.append_nil], by simp, by simp⟩ fun ρ ⟨acc', b1, b2, b3, b4, b5, b6, er, el, eo⟩ => ?_
  · subst er
    have em : pre.foldl (fun m _ => m + 1) 0 = pre.length := by
      have : ∀ (l : List Way) (i : Nat), l.foldl (fun m _ => m + 1) i = i + l.length := by
        intro l
        induction l with
        | nil => intro i; rfl
        | cons x l ih => intro i; rw [List.foldl_cons, ih]; simp; omega
      rw [this]; simp
    rw [em] at hN el
    have hpre : pre.length + 1 ≤ 3 := by
      have := congrArg List.length e
      simp at this
      omega
    obtain ⟨w1, w2', w3, w4, w5, w6⟩ := hws x (by rw [e]; simp)
    have hne : names[x.a] ≠ names[x.b] := fun z => w3 ((List.getElem_inj hn.nd).mp z)
    simp [wayD, gTupD, gsCons, gsNil]
    refine ⟨_, _, ⟨rfl, rfl⟩, _, _, rfl, _, _, rfl, _, _, rfl, rfl, by omega, ?_⟩
    refine lc_rng0F c (fun i => decide (ws.getD i 0 = x.way)) (fun i => .int (i : Nat)) (fun i hi k1 k2 h1 h2 => ?_) (by omega) ?_
    · have hg : atI ws (i : Int) = some (ws.getD i 0) := by rw [atI_int (by omega) (by omega)]; simp
      generalize ws.getD i 0 = y at hg h1 h2
      simp [hg]
      by_cases hy : y = x.way
      · exact .inr ⟨hy, by simpa [hy] using h1⟩
      · exact .inl ⟨hy, by simpa [hy] using h2⟩
    · have ew : D.tup (((List.range c).filter fun i => decide (ws.getD i 0 = x.way)).map fun i : Nat => D.int (i : Nat)) = tI (((List.range c).filter fun i => decide (ws.getD i 0 = x.way)).map fun i : Nat => (i : Int)) := by
        unfold tI
        rw [List.map_map]; rfl
      have hset := beats_set c fun i => decide (ws.getD i 0 = x.way)
      simp only [oTuple_l, ew]
      generalize (((List.range c).filter fun i => decide (ws.getD i 0 = x.way)).map fun i : Nat => (i : Int)) = when at *
      rw [tup0, oNe_t]
      by_cases h0 : when = []
      · refine .inl ⟨by simp [h0], hN _ ⟨acc', _, _, _, _, _, _, rfl, by omega, eo⟩⟩
      · refine .inr ⟨by simp [h0], ?_⟩
        simp [sApp, tsL, atI_strs w1, atI_strs w2']
        refine ⟨by omega, by omega, hN _ ⟨acc' ++ [⟨names[x.a], names[x.b], x.w, when⟩], _, _, _, _, _, _, by simp [tsL, tieD]; exact ⟨rfl, rfl, rfl, rfl, rfl, rfl⟩, by simp; omega, fun t ht => ?_⟩⟩
        rcases List.mem_append.mp ht with ht | ht
        · exact eo t ht
        · simp at ht
          subst ht
          refine ⟨⟨List.getElem_mem w1, List.getElem_mem w2', hne, w4, h0, hset⟩, ?_, ?_⟩
          · rcases w5 with e | e <;> simp [e]
          · rcases w6 with e | e <;> simp [e]
  · subst er
    have em : wl.foldl (fun m _ => m + 1) 0 = wl.length := by
      have : ∀ (l : List Way) (i : Nat), l.foldl (fun m _ => m + 1) i = i + l.length := by
        intro l
        induction l with
        | nil => intro i; rfl
        | cons x l ih => intro i; rw [List.foldl_cons, ih]; simp; omega
      rw [this]; simp
    exact fin acc' _ _ _ _ _ _ (by omega) eo
def r_digit : Ws := (sSeq (sSet 9 (wN oInt (waCons (w2 oIx (wVar 0) (w2 oPlus (w2 oPlus (wVar 1) (w2 oDiv (w2 oMul (wVar 7) (w2 oSub (wVar 7) (wC (.int 1)))) (wC (.int 2)))) (wVar 8))) waNil)))
  (sSeq (sSet 10 (wLc (wiR1 (wVar 3)) (gSet 16) wtYes (w2 oMul (wC (.int 3)) (w2 oMod (wVar 9) (wC (.int 2)))) [16]))
  (sSeq (sIf (wB (w2 oEq (wVar 4) (wC (.int 1))))
  (sSet 10 (wLc (wiR1 (wVar 3)) (gSet 16) wtYes (w2 oMod (wVar 9) (wC (.int 4))) [16]))
  sNil)
  (sSeq (sIf (wB (w2 oEq (wVar 4) (wC (.int 2))))
  (sSet 10 (wLc (wiR1 (wVar 3)) (gSet 16) wtYes (w2 oMod (w2 oDiv (wVar 9) (w2 oIx (wVar 5) (wVar 16))) (wC (.int 4))) [16]))
  sNil) r_ways))))
theorem tri_le : ∀ u : Nat, u < 8 → u * (u - 1) / 2 ≤ 21 ∧ ((u : Int) * ((u : Int) - 1)) / 2 = ((u * (u - 1) / 2 : Nat) : Int) := by decide
theorem go_digit {Z : Pd} {l : List Int} {at_ c u v : Nat} {names : List Str} {kind : Int} {acc : List Tie} {s9 s10 s11 s12 s13 s14 s15 s16 : Sl} (hn : NamesOk names) (hl : ∀ x ∈ l, 0 ≤ x ∧ x < 1000) (hat : at_ + 28 < l.length) (hc : c ≤ 4) (hu : u < names.length) (hv : v < u)
    (hb : acc.length + 3 ≤ 1000)
    (fin : ∀ (new : List Tie) (z y a b d e f g : Sl), new.length ≤ 3 → (∀ t ∈ new, TieOk names c t ∧ On names[u] (names[v]'(by omega)) t) → Z.nx [Sl.da (iL l), Sl.da (.int at_), Sl.da (sL names), Sl.da (.int c), Sl.da (.int kind), Sl.da (iL [1, 4, 16, 64]), Sl.ow (tsL (acc ++ new)), Sl.da (.int u), Sl.da (.int v), z, y, a, b, d, e, f, g]) :
    r_digit Z [Sl.da (iL l), Sl.da (.int at_), Sl.da (sL names), Sl.da (.int c), Sl.da (.int kind), Sl.da (iL [1, 4, 16, 64]), Sl.ow (tsL acc), Sl.da (.int u), Sl.da (.int v), s9, s10, s11, s12, s13, s14, s15, s16] := by
  have hs := sizeLine_eq
  have hi := hn.hi
  obtain ⟨t1, t2⟩ := tri_le u (by omega)
  have hlt : at_ + u * (u - 1) / 2 + v < l.length := by omega
  obtain ⟨x, ex, x0, x1⟩ : ∃ x, atI l ((at_ : Int) + ((u : Int) * ((u : Int) - 1)) / 2 + (v : Int)) = some x ∧ 0 ≤ x ∧ x < 1000 := by
    refine ⟨l[at_ + u * (u - 1) / 2 + v], ?_, hl _ (List.getElem_mem hlt)⟩
    have ee : (at_ : Int) + ((u : Int) * ((u : Int) - 1)) / 2 + (v : Int) = ((at_ + u * (u - 1) / 2 + v : Nat) : Int) := by rw [t2]; omega
    rw [ee, atI_at (by omega) (by omega), Int.toNat_natCast, List.getElem?_eq_getElem hlt]
  have cm : CMul (u : Int) ((u : Int) - 1) := .inr ⟨by omega, by omega⟩
  have cd : CDiv ((u : Int) * ((u : Int) - 1)) 2 := ⟨by omega, by omega⟩
  have fin2 : ∀ (ws : List Int), ws.length = c → ∀ g16, r_ways Z [Sl.da (iL l), Sl.da (.int at_), Sl.da (sL names), Sl.da (.int c), Sl.da (.int kind), Sl.da (iL [1, 4, 16, 64]), Sl.ow (tsL acc), Sl.da (.int u), Sl.da (.int v), Sl.da (.int x), Sl.da (iL ws), s11, s12, s13, s14, s15, g16] := fun ws hw g16 =>
    go_ways hn hc hw hu hv hb fun new a b d e f g h1 h2 => fin new _ _ a b d e f g h1 h2
  simp [r_digit, cm, cd, ex]
  refine ⟨by omega, ?_⟩
  refine lc_rng0 c (fun _ => .int (3 * (x % 2))) (fun i hi k1 h1 => ?_) (by omega) ?_
  · have c1 : CMul 3 (x % 2) := .inl ⟨by omega, by omega⟩
    simpa [c1] using h1
  · have e1 : D.lst ((List.range c).map fun _ => D.int (3 * (x % 2))) = iL ((List.range c).map fun _ => 3 * (x % 2)) := by unfold iL; rw [List.map_map]; rfl
    rw [e1]
    by_cases k1 : kind = 1
    · refine .inr ⟨k1, by omega, ?_⟩
      refine lc_rng0 c (fun _ => .int (x % 4)) (fun i hi kk h1 => ?_) (by omega) ?_
      · simpa using h1
      · have e2 : D.lst ((List.range c).map fun _ => D.int (x % 4)) = iL ((List.range c).map fun _ => x % 4) := by unfold iL; rw [List.map_map]; rfl
        rw [e2]
        exact .inl ⟨by omega, fin2 _ (by simp) _⟩
    · refine .inl ⟨k1, ?_⟩
      by_cases k2 : kind = 2
      · refine .inr ⟨k2, by omega, ?_⟩
        refine lc_rng0 c (fun i => .int (x / ([1, 4, 16, 64].getD i 1) % 4)) (fun i hi kk h1 => ?_) (by omega) ?_
        · have hg : atI [(1 : Int), 4, 16, 64] (i : Int) = some ([1, 4, 16, 64].getD i 1) := by
            have : i = 0 ∨ i = 1 ∨ i = 2 ∨ i = 3 := by omega
            rcases this with rfl | rfl | rfl | rfl <;> rfl
          have hp : (0 : Int) < [1, 4, 16, 64].getD i 1 ∧ ([1, 4, 16, 64].getD i 1 : Int) < 1073741824 := by
            have : i = 0 ∨ i = 1 ∨ i = 2 ∨ i = 3 := by omega
            rcases this with rfl | rfl | rfl | rfl <;> decide
          generalize ([1, 4, 16, 64].getD i 1 : Int) = y at hg hp h1
          have c2 : CDiv x y := hp
          simp [hg, c2]
          exact h1
        · have e2 : D.lst ((List.range c).map fun i => D.int (x / ([1, 4, 16, 64].getD i 1) % 4)) = iL ((List.range c).map fun i => x / ([1, 4, 16, 64].getD i 1) % 4) := by unfold iL; rw [List.map_map]; rfl
          rw [e2]
          exact fin2 _ (by simp) _
      · exact .inl ⟨k2, fin2 _ (by simp) _⟩
theorem p_law_way_ties (xc : XC) (ds : List D) (Q : Bool → D → Prop) (h : wf_law_way_ties xc ds Q) : b_law_way_ties (Zd xc Q) (ds.map .da ++ List.replicate (17 - ds.length) .no) := by
  obtain ⟨l, at_, names, c, kind, rfl, hl, hat, hn, h1, h4, q⟩ := h
  have hs := sizeLine_eq
  have hi := hn.hi
  have eb : b_law_way_ties = sSeq (sSet 5 (wLst (waCons (wC (.int 1)) (waCons (wC (.int 4)) (waCons (wC (.int 16)) (waCons (wC (.int 64)) waNil)))))) (sSeq (sSetO 6 (wLst waNil)) (sSeq (sFor (wiR1 (wN oLen (waCons (wVar 2) waNil))) (gSet 7) (sFor (wiR1 (wVar 7)) (gSet 8) r_digit)) (sRetO 6))) := rfl
  have ei : D.lst [D.int 1, D.int 4, D.int 16, D.int 64] = iL [1, 4, 16, 64] := rfl
  have e0 : D.lst [] = tsL [] := rfl
  rw [eb]
  simp [sFor]
  rw [ei, e0]
  refine ⟨by omega, by omega, ?_⟩
  refine for_fold (List.range names.length) (fun i => .int (0 + (i : Nat))) (fun m _ => m + 1) (fun m ρ => ∃ (acc : List Tie) (r a b d e f g h i j : Sl), ρ = [Sl.da (iL l), Sl.da (.int at_), Sl.da (sL names), Sl.da (.int c), Sl.da (.int kind), Sl.da (iL [1, 4, 16, 64]), Sl.ow (tsL acc), r, a, b, d, e, f, g, h, i, j] ∧ acc.length ≤ 3 * (m * (m - 1) / 2) ∧ (∀ t ∈ acc, TieOk names c t) ∧ ∀ (w : Nat) (hw : w < names.length), cnt names[w] acc ≤ if w < m then 3 * (m - 1) else 0) 0 (fun pre u post ρ N e ⟨acc, r0, r1, r2, r3, r4, r5, r6, r7, r8, r9, er, el, eo, ec⟩ hN => ?_) ⟨[], _, _, _, _, _, _, _, _, _, _, rfl, by simp, by simp, fun w hw => by simp [cnt]⟩ fun ρ ⟨acc, r0, r1, r2, r3, r4, r5, r6, r7, r8, r9, er, el, eo, ec⟩ => ?_
  · subst er
    rw [fold_count, Nat.zero_add] at hN el ec
    have hp := pre_lt e
    have hu : u < names.length := List.mem_range.mp (by rw [e]; simp)
    have hpu : u = pre.length := by
      have := congrArg (fun l => l[pre.length]?) e
      simp [hu, hp] at this
      have h2 : pre.length < names.length := by omega
      simp [h2] at this
      exact this.symm
    have ht := (tri_le pre.length (by omega)).1
    have hstep : ∀ m : Nat, m < 8 → m * (m - 1) / 2 + m = (m + 1) * m / 2 := by decide
    have hst := hstep pre.length (by omega)
    simp [sFor]
    refine ⟨by omega, ?_⟩
    refine for_fold (List.range u) (fun i => .int (0 + (i : Nat))) (fun m _ => m + 1) (fun m ρ => ∃ (acc2 : List Tie) (a b d e f g h i j : Sl), ρ = [Sl.da (iL l), Sl.da (.int at_), Sl.da (sL names), Sl.da (.int c), Sl.da (.int kind), Sl.da (iL [1, 4, 16, 64]), Sl.ow (tsL acc2), Sl.da (.int u), a, b, d, e, f, g, h, i, j] ∧ acc2.length ≤ acc.length + 3 * m ∧ (∀ t ∈ acc2, TieOk names c t) ∧ ∀ (w : Nat) (hw : w < names.length), cnt names[w] acc2 ≤ if w < u then 3 * (u - 1) + (if w < m then 3 else 0) else if w = u then 3 * m else 0) 0 (fun pre2 v post2 ρ N2 e2 ⟨acc2, a1, a2, a3, a4, a5, a6, a7, a8, a9, er2, el2, eo2, ec2⟩ hN2 => ?_) ⟨acc, _, _, _, _, _, _, _, _, _, rfl, by simp, eo, fun w hw => by
      have := ec w hw
      rw [← hpu] at this
      split at this <;> rename_i hh
      · rw [if_pos hh]; omega
      · rw [if_neg hh]; omega⟩ fun ρ ⟨acc2, a1, a2, a3, a4, a5, a6, a7, a8, a9, er2, el2, eo2, ec2⟩ => ?_
    · subst er2
      rw [fold_count, Nat.zero_add] at hN2 el2 ec2
      have hp2 := pre_lt e2
      have hv : v < u := List.mem_range.mp (by rw [e2]; simp)
      have hpv : v = pre2.length := by
        have := congrArg (fun l => l[pre2.length]?) e2
        have h2 : pre2.length < u := by omega
        simp [h2] at this
        exact this.symm
      simp
      refine go_digit hn hl hat h4 hu hv (by omega) fun new z y a b d e f g k1 k2 => hN2 _ ⟨acc2 ++ new, _, _, _, _, _, _, _, _, _, rfl, by rw [List.length_append]; omega, fun t ht => ?_, fun w hw => ?_⟩
      · rcases List.mem_append.mp ht with ht | ht
        · exact eo2 t ht
        · exact (k2 t ht).1
      · rw [cnt_app]
        have c1 := ec2 w hw
        have c2 := cnt_le names[w] new
        have c3 : w ≠ u → w ≠ v → cnt names[w] new = 0 := fun n1 n2 => cnt_off (fun t ht => (k2 t ht).2) (fun z => n1 ((List.getElem_inj hn.nd).mp z).symm) (fun z => n2 ((List.getElem_inj hn.nd).mp z).symm)
        by_cases w1 : w < u
        · rw [if_pos w1] at c1 ⊢
          by_cases w2 : w = v
          · rw [if_neg (by omega)] at c1
            rw [if_pos (by omega)]
            omega
          · have := c3 (by omega) w2
            by_cases w3 : w < pre2.length
            · rw [if_pos w3] at c1
              rw [if_pos (by omega)]
              omega
            · rw [if_neg w3] at c1
              rw [if_neg (by omega)]
              omega
        · rw [if_neg w1] at c1 ⊢
          by_cases w2 : w = u
          · rw [if_pos w2] at c1 ⊢; omega
          · rw [if_neg w2] at c1 ⊢
            have := c3 w2 (by omega)
            omega
    · subst er2
      rw [fold_count, Nat.zero_add] at el2 ec2
      simp only [List.length_range] at el2 ec2
      refine hN _ ⟨acc2, _, _, _, _, _, _, _, _, _, _, rfl, ?_, eo2, fun w hw => ?_⟩
      · rw [Nat.add_sub_cancel]
        omega
      · have c1 := ec2 w hw
        rw [← hpu]
        by_cases w1 : w < u
        · rw [if_pos w1, if_pos w1] at c1
          rw [if_pos (by omega)]
          omega
        · rw [if_neg w1] at c1
          by_cases w2 : w = u
          · rw [if_pos w2] at c1
            rw [if_pos (by omega)]
            omega
          · rw [if_neg w2] at c1
            rw [if_neg (by omega)]
            omega
  · subst er
    rw [fold_count, Nat.zero_add] at el ec
    simp only [List.length_range] at el ec
    have ht := hn.hi
    have hmax : ∀ m : Nat, m ≤ 8 → m * (m - 1) / 2 ≤ 28 := by decide
    have := hmax names.length ht
    simp [sRetO]
    exact q acc ⟨by omega, eo⟩
end Tw.S

namespace Tw.S
open PySem PySem.Spec L2 PyProof.Rows Tw
/-! which lists are posts -/
def Up (ap : Nat) (p : List Int) : Prop := p.Pairwise fun a b => a + (ap : Int) ≤ b
theorem least_le {ap n : Nat} {p : List Int} (u : Up ap p) (b : ∀ x ∈ p, 0 ≤ x ∧ x < (n : Int)) {a : Int} (ha : a ∈ p) : a + (ap : Int) ≤ (least ap p : Nat) := by
  rcases List.eq_nil_or_concat p with rfl | ⟨d, z, rfl⟩
  · cases ha
  · rw [List.concat_eq_append] at *
    have hz := b z (by simp)
    have el : least ap (d ++ [z]) = z.toNat + ap := by simp [least]
    rw [el]
    unfold Up at u
    rw [List.pairwise_append] at u
    rcases List.mem_append.mp ha with h | h
    · have := u.2.2 a h z (by simp)
      omega
    · rw [List.mem_singleton] at h
      omega
theorem mem_grow {n ap : Nat} {p q : List Int} : q ∈ grow n ap p ↔ ∃ x : Int, q = p ++ [x] ∧ (least ap p : Int) ≤ x ∧ x < n := by
  unfold grow
  rw [List.mem_map]
  constructor
  · rintro ⟨i, hi, rfl⟩
    have := List.mem_range.mp hi
    exact ⟨_, rfl, by omega, by omega⟩
  · rintro ⟨x, rfl, h1, h2⟩
    refine ⟨x.toNat - least ap p, List.mem_range.mpr (by omega), ?_⟩
    have : ((least ap p + (x.toNat - least ap p) : Nat) : Int) = x := by omega
    rw [this]
theorem mem_lev {n ap : Nat} : ∀ (k : Nat) (q : List Int), q ∈ levels n ap k ↔ q.length = k ∧ Up ap q ∧ ∀ x ∈ q, 0 ≤ x ∧ x < (n : Int)
  | 0, q => by
    show q ∈ [[]] ↔ _
    rw [List.mem_singleton]
    constructor
    · rintro rfl; exact ⟨rfl, List.Pairwise.nil, by simp⟩
    · intro h; exact List.length_eq_zero_iff.mp h.1
  | k + 1, q => by
    show q ∈ (levels n ap k).flatMap (grow n ap) ↔ _
    rw [List.mem_flatMap]
    constructor
    · rintro ⟨p, hp, hq⟩
      obtain ⟨x, rfl, h1, h2⟩ := mem_grow.mp hq
      obtain ⟨e, u, b⟩ := (mem_lev k p).mp hp
      refine ⟨by simp [e], ?_, fun y hy => ?_⟩
      · unfold Up
        rw [List.pairwise_append]
        refine ⟨u, List.pairwise_singleton _ _, fun a ha c hc => ?_⟩
        rw [List.mem_singleton] at hc
        subst hc
        have := least_le u b ha
        omega
      · rcases List.mem_append.mp hy with hy | hy
        · exact b y hy
        · rw [List.mem_singleton] at hy
          subst hy
          omega
    · rintro ⟨e, u, b⟩
      rcases List.eq_nil_or_concat q with rfl | ⟨d, z, rfl⟩
      · simp at e
      · rw [List.concat_eq_append] at *
        have u' := u
        unfold Up at u'
        rw [List.pairwise_append] at u'
        have hz := b z (by simp)
        refine ⟨d, (mem_lev k d).mpr ⟨by simpa using e, u'.1, fun x hx => b x (by simp [hx])⟩, mem_grow.mpr ⟨z, rfl, ?_, hz.2⟩⟩
        rcases List.eq_nil_or_concat d with rfl | ⟨f, y, rfl⟩
        · show (0 : Int) ≤ z
          exact hz.1
        · rw [List.concat_eq_append] at *
          have el : least ap (f ++ [y]) = y.toNat + ap := by simp [least]
          have := u'.2.2 y (by simp) z (by simp)
          have hy := b y (by simp)
          rw [el]
          omega
theorem chain_up {ap : Nat} {p : List Int} : (∀ i, i + 1 < p.length → p.getD i 0 + (ap : Int) ≤ p.getD (i + 1) 0) ↔ Up ap p := by
  constructor
  · intro h
    have up : ∀ d i, i + (d + 1) < p.length → p.getD i 0 + (ap : Int) ≤ p.getD (i + (d + 1)) 0 := fun d => by
      induction d with
      | zero => intro i hi; exact h i hi
      | succ d ih =>
        intro i hi
        have a := ih i (by omega)
        have b := h (i + (d + 1)) (by omega)
        have e : i + (d + 1 + 1) = i + (d + 1) + 1 := by omega
        rw [e]
        omega
    refine List.pairwise_iff_getElem.mpr fun i j hi hj hij => ?_
    have := up (j - i - 1) i (by omega)
    have e : i + (j - i - 1 + 1) = j := by omega
    rw [e] at this
    simpa [List.getD, hi, hj] using this
  · intro u i hi
    have := List.pairwise_iff_getElem.mp u i (i + 1) (by omega) hi (by omega)
    have h2 : i < p.length := by omega
    simpa [List.getD, hi, h2] using this
theorem rises_up {p : List Int} : rises p = true ↔ Up 0 p := by
  rw [← chain_up]
  unfold rises
  rw [List.all_eq_true]
  constructor
  · intro h i hi
    have := of_decide_eq_true (h i (List.mem_range.mpr (by omega)))
    omega
  · intro h i hi
    have := h i (by have := List.mem_range.mp hi; omega)
    exact decide_eq_true (by omega)
theorem climbs_up {p : List Int} : climbs p = true ↔ Up 1 p := by
  rw [← chain_up]
  unfold climbs
  rw [List.all_eq_true]
  constructor
  · intro h i hi
    have := of_decide_eq_true (h i (List.mem_range.mpr (by omega)))
    omega
  · intro h i hi
    have := h i (by have := List.mem_range.mp hi; omega)
    exact decide_eq_true (by omega)
theorem mem_upto {n ap : Nat} {q : List Int} : ∀ k : Nat, q ∈ upto n ap k ↔ q.length ≤ k ∧ Up ap q ∧ ∀ x ∈ q, 0 ≤ x ∧ x < (n : Int)
  | 0 => by
    show q ∈ [[]] ↔ _
    rw [List.mem_singleton]
    constructor
    · rintro rfl; exact ⟨by simp, List.Pairwise.nil, by simp⟩
    · intro h; exact List.length_eq_zero_iff.mp (by omega)
  | k + 1 => by
    show q ∈ upto n ap k ++ levels n ap (k + 1) ↔ _
    rw [List.mem_append, mem_upto k, mem_lev]
    constructor
    · rintro (⟨a, b⟩ | ⟨a, b⟩)
      · exact ⟨by omega, b⟩
      · exact ⟨by omega, b⟩
    · rintro ⟨a, b⟩
      by_cases h : q.length ≤ k
      · exact .inl ⟨h, b⟩
      · exact .inr ⟨by omega, b⟩
theorem post_lev {n k : Nat} {p : List Int} (hk : 1 ≤ k) : isPost n k false p = true ↔ p ∈ levels n 0 k := by
  rw [mem_lev]
  unfold isPost
  rw [if_neg Bool.false_ne_true, Bool.and_eq_true, Bool.and_eq_true, Bool.and_eq_true, decide_eq_true_eq, decide_eq_true_eq, decide_eq_true_eq, rises_up]
  constructor
  · rintro ⟨⟨⟨el, er⟩, e0⟩, e1⟩
    refine ⟨el, er, fun x hx => ?_⟩
    obtain ⟨i, hi, rfl⟩ := List.getElem_of_mem hx
    have hp : ∀ i j, i ≤ j → j < p.length → p.getD i 0 ≤ p.getD j 0 := fun i j h h2 => by
      by_cases e : i = j
      · rw [e]; exact Int.le_refl _
      · have := List.pairwise_iff_getElem.mp er i j (by omega) h2 (by omega)
        have h3 : i < p.length := by omega
        simpa [List.getD, h2, h3] using this
    have a := hp 0 i (by omega) hi
    have b := hp i (p.length - 1) (by omega) (by omega)
    have ei : p.getD i 0 = p[i] := by simp [List.getD, hi]
    rw [ei] at a b
    omega
  · rintro ⟨el, er, hb⟩
    have g : ∀ i, i < p.length → p.getD i 0 ∈ p := fun i hi => by simp [List.getD, hi]
    exact ⟨⟨⟨el, er⟩, (hb _ (g 0 (by omega))).1⟩, (hb _ (g (p.length - 1) (by omega))).2⟩
theorem mem_posts {n k : Nat} {fly : Bool} {p : List Int} (hk : 1 ≤ k) : p ∈ postsF n k fly ↔ isPost n k fly p = true := by
  cases fly with
  | false => rw [post_lev hk]; rfl
  | true =>
    have e : postsF n k true = (upto n 1 k).mergeSort leT := rfl
    rw [e, List.mem_mergeSort, mem_upto]
    unfold isPost isSet
    rw [if_pos rfl, Bool.and_eq_true, Bool.and_eq_true, decide_eq_true_eq, climbs_up, List.all_eq_true]
    constructor
    · rintro ⟨a, b, c⟩
      exact ⟨a, fun x hx => by rw [Bool.and_eq_true, decide_eq_true_eq, decide_eq_true_eq]; exact c x hx, b⟩
    · rintro ⟨a, b, c⟩
      exact ⟨a, c, fun x hx => by have := b x hx; rw [Bool.and_eq_true, decide_eq_true_eq, decide_eq_true_eq] at this; exact this⟩
theorem postOk_of {n k : Nat} {fly : Bool} {p : List Int} (hk : 1 ≤ k) (h8 : k ≤ 8) (h : p ∈ postsF n k fly) : PostOk n k fly p := by
  refine ⟨(mem_posts hk).mp h, ?_⟩
  cases fly with
  | false =>
    have := (mem_lev k p).mp h
    exact ⟨by omega, this.2.2⟩
  | true =>
    have e : postsF n k true = (upto n 1 k).mergeSort leT := rfl
    rw [e, List.mem_mergeSort, mem_upto] at h
    exact ⟨by omega, h.2.2⟩
/-! sorted sets of tuples -/
theorem mem_dups {α : Type} [BEq α] [LawfulBEq α] {x : α} : ∀ (m : Nat) (l : List α), l.length ≤ m → (x ∈ l.eraseDups ↔ x ∈ l)
  | _, [], _ => by simp
  | 0, a :: l, h => by simp at h
  | m + 1, a :: l, h => by
    have hl := List.length_filter_le (fun b => !b == a) l
    rw [List.length_cons] at h
    rw [List.eraseDups_cons, List.mem_cons, mem_dups m _ (by omega), List.mem_filter, List.mem_cons]
    constructor
    · rintro (h | ⟨h, _⟩)
      · exact .inl h
      · exact .inr h
    · rintro (h | h)
      · exact .inl h
      · by_cases e : x = a
        · exact .inl e
        · exact .inr ⟨h, by simpa using e⟩
theorem nodup_dups {α : Type} [BEq α] [LawfulBEq α] : ∀ (m : Nat) (l : List α), l.length ≤ m → l.eraseDups.Nodup
  | _, [], _ => by simp
  | 0, a :: l, h => by simp at h
  | m + 1, a :: l, h => by
    have hl := List.length_filter_le (fun b => !b == a) l
    rw [List.length_cons] at h
    rw [List.eraseDups_cons, List.nodup_cons]
    refine ⟨fun z => ?_, nodup_dups m _ (by omega)⟩
    rw [mem_dups m _ (by omega), List.mem_filter] at z
    simp at z
theorem mem_canon {b : List Int} {ps : List (List Int)} : b ∈ canon ps ↔ b ∈ ps := by
  unfold canon
  rw [List.mem_mergeSort, mem_dups _ _ (Nat.le_refl _)]
theorem leT_pair (l : List (List Int)) : (l.mergeSort leT).Pairwise (· ≤ ·) := by
  have := List.pairwise_mergeSort (le := leT) (fun x y z h1 h2 => by
    have h1 := of_decide_eq_true h1
    have h2 := of_decide_eq_true h2
    exact decide_eq_true (List.le_trans h1 h2)) (fun x y => by
    unfold leT
    rw [Bool.or_eq_true, decide_eq_true_eq, decide_eq_true_eq]
    exact List.le_total x y) l
  exact this.imp fun h => of_decide_eq_true h
theorem canon_one {ms bs : List (List Int)} (h1 : ms.Pairwise (· ≤ ·)) (h2 : ms.Nodup) (h3 : ∀ b, b ∈ ms ↔ b ∈ bs) : ms = canon bs := by
  refine List.Perm.eq_of_pairwise (le := (· ≤ ·)) (fun a b _ _ x y => List.le_antisymm x y) h1 (leT_pair _) ?_
  refine (List.perm_ext_iff_of_nodup h2 ((List.mergeSort_perm _ _).nodup_iff.mpr (nodup_dups _ _ (Nat.le_refl _)))).mpr fun b => ?_
  rw [h3]
  exact mem_canon.symm
/-! where one may go -/
def goS (n : Nat) (R : Nat → Nat → Bool) (ways : List (List Int)) (x : Int) : List (List Int) := canon (ways.flatMap fun w => (rowF n fun v => decide (v = x.toNat) || R x.toNat v).map fun s => srt (w ++ [s]))
theorem goF_fold {n : Nat} {R : Nat → Nat → Bool} : ∀ (p : List Int) (ways : List (List Int)), goF n R p ways = p.foldl (goS n R) ways
  | [], _ => rfl
  | x :: p, ways => by
    show goF n R p _ = _
    rw [goF_fold p]
    rfl
theorem srt_lev {n j : Nat} {w : List Int} {s : Int} (h : w ∈ levels n 0 j) (h0 : 0 ≤ s) (h1 : s < n) : srt (w ++ [s]) ∈ levels n 0 (j + 1) := by
  obtain ⟨e, u, b⟩ := (mem_lev j w).mp h
  have p := List.mergeSort_perm (w ++ [s]) fun a b => decide (a ≤ b)
  refine (mem_lev _ _).mpr ⟨?_, ?_, fun x hx => ?_⟩
  · have := p.length_eq
    unfold srt
    rw [this]
    simp [e]
  · exact (merge_srt (w ++ [s])).imp fun h => by omega
  · have := p.subset hx
    rcases List.mem_append.mp this with h | h
    · exact b x h
    · rw [List.mem_singleton] at h
      subst h
      exact ⟨h0, h1⟩
theorem row_in {n : Nat} {f : Nat → Bool} {s : Int} (h : s ∈ rowF n f) : 0 ≤ s ∧ s < n := by
  unfold rowF at h
  obtain ⟨i, hi, rfl⟩ := List.mem_map.mp h
  have := List.mem_range.mp (List.mem_filter.mp hi).1
  omega
theorem bs_lev {n j : Nat} {f : Nat → Bool} {ways : List (List Int)} (h : ∀ w ∈ ways, w ∈ levels n 0 j) : ∀ b ∈ (ways.flatMap fun w => (rowF n f).map fun s => srt (w ++ [s])), b ∈ levels n 0 (j + 1) := by
  intro b hb
  obtain ⟨w, hw, hb⟩ := List.mem_flatMap.mp hb
  obtain ⟨s, hs, rfl⟩ := List.mem_map.mp hb
  have := row_in hs
  exact srt_lev (h w hw) this.1 this.2
structure WaysOk (n j : Nat) (ways : List (List Int)) : Prop where
  ne : ways ≠ []
  lev : ∀ w ∈ ways, w ∈ levels n 0 j
  nd : ways.Nodup
theorem ways_le {n j : Nat} {ways : List (List Int)} (h : WaysOk n j ways) (hn : n ≤ 8) (hj : j ≤ 4) : ways.length ≤ 1000 :=
  Nat.le_trans (List.Nodup.length_le_of_subset h.nd h.lev) (levOk_is (lev_walk n hn j hj)).1
theorem ways_go {n j : Nat} {R : Nat → Nat → Bool} {ways : List (List Int)} {x : Int} (h : WaysOk n j ways) (h0 : 0 ≤ x) (h1 : x < n) : WaysOk n (j + 1) (goS n R ways x) := by
  refine ⟨?_, fun w hw => bs_lev h.lev w (mem_canon.mp hw), (List.mergeSort_perm _ _).nodup_iff.mpr (nodup_dups _ _ (Nat.le_refl _))⟩
  obtain ⟨w, hw⟩ := List.exists_mem_of_ne_nil _ h.ne
  have hx : x ∈ rowF n fun v => decide (v = x.toNat) || R x.toNat v := by
    unfold rowF
    refine List.mem_map.mpr ⟨x.toNat, List.mem_filter.mpr ⟨List.mem_range.mpr (by omega), by simp⟩, by omega⟩
  have : srt (w ++ [x]) ∈ goS n R ways x := mem_canon.mpr (List.mem_flatMap.mpr ⟨w, hw, List.mem_map.mpr ⟨x, hx, rfl⟩⟩)
  exact List.ne_nil_of_mem this
theorem ways_fold {n : Nat} {R : Nat → Nat → Bool} : ∀ (p : List Int) (j : Nat) (ways : List (List Int)), WaysOk n j ways → (∀ x ∈ p, 0 ≤ x ∧ x < (n : Int)) → WaysOk n (j + p.length) (p.foldl (goS n R) ways)
  | [], j, ways, h, _ => h
  | x :: p, j, ways, h, b => by
    have := ways_fold (R := R) p (j + 1) _ (ways_go (R := R) h (b x (by simp)).1 (b x (by simp)).2) fun y hy => b y (by simp [hy])
    rw [List.length_cons, show j + (p.length + 1) = j + 1 + p.length by omega]
    exact this
theorem ways_one {n : Nat} : WaysOk n 0 [[]] := ⟨by simp, fun w hw => hw, by simp⟩
theorem sends_ok {n k : Nat} {tr : Str} {R : Nat → Nat → Bool} {p : List Int} (ht : teamOk k tr) (hp : PostOk n k (tr == "fly") p) : sendsF n k (tr == "fly") R p ≠ [] ∧ ∀ w ∈ sendsF n k (tr == "fly") R p, w ∈ postsF n k (tr == "fly") := by
  rcases ht.2 with ⟨rfl, h4⟩ | ⟨rfl, h8⟩
  · have ef : (("walk" : Str) == "fly") = false := by decide
    rw [ef] at hp ⊢
    have e : sendsF n k false R p = goF n R p [[]] := rfl
    have el := ((mem_lev k p).mp ((post_lev ht.1).mp hp.1)).1
    rw [e, goF_fold]
    have := ways_fold (R := R) p 0 _ ways_one hp.2.2
    rw [Nat.zero_add, el] at this
    exact ⟨this.ne, this.lev⟩
  · have ef : (("fly" : Str) == "fly") = true := by decide
    rw [ef]
    refine ⟨?_, fun w hw => hw⟩
    have : [] ∈ postsF n k true := (mem_posts ht.1).mpr (by unfold isPost isSet climbs; simp)
    exact List.ne_nil_of_mem this
theorem posts_le {n k : Nat} {tr : Str} (hn : n ≤ 8) (ht : teamOk k tr) : (postsF n k (tr == "fly")).length ≤ 1000 := by
  rcases ht.2 with ⟨rfl, h4⟩ | ⟨rfl, h8⟩
  · have ef : (("walk" : Str) == "fly") = false := by decide
    rw [ef]
    exact (levOk_is (lev_walk n hn k h4)).1
  · have ef : (("fly" : Str) == "fly") = true := by decide
    have e : postsF n k true = (upto n 1 k).mergeSort leT := rfl
    rw [ef, e, List.length_mergeSort]
    exact (levOk_is (lev_fly n hn k h8)).2.1
theorem sends_le {n k : Nat} {tr : Str} {R : Nat → Nat → Bool} {p : List Int} (hn : n ≤ 8) (ht : teamOk k tr) (hp : PostOk n k (tr == "fly") p) : (sendsF n k (tr == "fly") R p).length ≤ 1000 := by
  have hk := posts_le hn ht
  rcases ht.2 with ⟨rfl, h4⟩ | ⟨rfl, h8⟩
  · have ef : (("walk" : Str) == "fly") = false := by decide
    rw [ef] at hp ⊢
    have e : sendsF n k false R p = goF n R p [[]] := rfl
    have el := ((mem_lev k p).mp ((post_lev ht.1).mp hp.1)).1
    rw [e, goF_fold]
    have := ways_fold (R := R) p 0 _ ways_one hp.2.2
    rw [Nat.zero_add, el] at this
    exact ways_le this hn h4
  · have ef : (("fly" : Str) == "fly") = true := by decide
    rw [ef] at hk ⊢
    exact hk
end Tw.S

namespace Tw.S
open PySem PySem.Spec L2 PyProof.Rows Tw
theorem p_law_any_web_k13 (xc : XC) (ds : List D) (Q : Bool → D → Prop) (h : wf_law_any_web_k13 xc ds Q) : b_law_any_web_k13 (Zd xc Q) (ds.map .da ++ List.replicate (9 - ds.length) .no) := by
  obtain ⟨l, rfl, hl, h40, q⟩ := h
  have hs := sizeLine_eq
  simp [b_law_any_web_k13]
  refine ⟨_, atI_int (by omega) (by omega), _, atI_int (by omega) (by omega), _, atI_int (by omega) (by omega), ?_⟩
  generalize l.getD (Int.toNat 0) 0 = x0
  generalize l.getD (Int.toNat 1) 0 = x1
  generalize l.getD (Int.toNat 2) 0 = x2
  obtain ⟨n, hn⟩ : ∃ n : Nat, 1 + x0 % 8 = n := ⟨(1 + x0 % 8).toNat, by omega⟩
  obtain ⟨c, hc⟩ : ∃ n : Nat, 1 + x2 % 4 = n := ⟨(1 + x2 % 4).toNat, by omega⟩
  rw [hn, hc]
  refine ⟨l, 3, n, rfl, hl, by omega, by omega, by omega, fun names e no => ⟨l, 6, names, c, x1 % 3, rfl, hl, by omega, no, by omega, by omega, fun ts to => ⟨names, ts, c, rfl, no, to, by omega, by omega, by omega, q names ts c no to (by omega) (by omega)⟩⟩⟩
theorem mem_row13 {n : Nat} {f : Nat → Bool} {x : Int} : x ∈ rowF n f ↔ ∃ v : Nat, v < n ∧ f v = true ∧ x = v := by
  unfold rowF
  rw [List.mem_map]
  constructor
  · rintro ⟨v, hv, e⟩
    have := List.mem_filter.mp hv
    exact ⟨v, List.mem_range.mp this.1, this.2, e.symm⟩
  · rintro ⟨v, h1, h2, e⟩
    exact ⟨v, List.mem_filter.mpr ⟨List.mem_range.mpr h1, h2⟩, e.symm⟩
theorem nd_row13 (n : Nat) (f : Nat → Bool) : (rowF n f).Nodup := by
  unfold rowF
  exact nodup_map (List.nodup_range.filter _) fun x _ y _ h => by omega
theorem steps_row13 {n u : Nat} {f : Nat → Bool} (hu : u < n) (hf : f u = false) : stepsF (rowF n f) u = rowF n fun v => decide (v = u) || f v := by
  unfold stepsF
  refine sorted_one ((List.mergeSort_perm _ _).trans ?_) (merge_srt _) (rowF_srt _ _)
  refine (List.perm_ext_iff_of_nodup (List.nodup_cons.mpr ⟨fun z => ?_, nd_row13 _ _⟩) (nd_row13 _ _)).mpr fun x => ?_
  · obtain ⟨v, _, h2, e⟩ := mem_row13.mp z
    have : u = v := by omega
    rw [← this, hf] at h2
    cases h2
  · rw [List.mem_cons, mem_row13, mem_row13]
    constructor
    · rintro (e | ⟨v, h1, h2, e⟩)
      · exact ⟨u, hu, by simp, e⟩
      · exact ⟨v, h1, by simp [h2], e⟩
    · rintro ⟨v, h1, h2, e⟩
      rw [Bool.or_eq_true, decide_eq_true_eq] at h2
      rcases h2 with h2 | h2
      · exact .inl (by rw [e, h2])
      · exact .inr ⟨v, h1, h2, e⟩
theorem row_len (n : Nat) (f : Nat → Bool) : (rowF n f).length ≤ n := by
  unfold rowF
  rw [List.length_map]
  have := List.length_filter_le f (List.range n)
  rwa [List.length_range] at this
theorem beatG_lt {c : Nat} {b : Int} (hc : 1 ≤ c) : beatG c b < c := by
  have h1 := Int.emod_nonneg b (show (c : Int) ≠ 0 by omega)
  have h2 := Int.emod_lt_of_pos b (show (0 : Int) < c by omega)
  unfold beatG
  omega
theorem steps_go13 {C CU : Addr} {xc : XC} {names : List Str} {c u : Nat} {L : Psg} {b : Int} {Q : Bool → D → Prop} (hn : names.length ≤ 8) (hc : 1 ≤ c) (hu : u < names.length) (hL : ∀ b u, L b u u = false) (q : Q false (tI (rowF names.length fun v => decide (v = u) || L (beatG c b) u v))) :
    wf_Web_steps C CU xc [webP C names c L, .int u, .int b] Q := by
  refine ⟨names, c, _, u, b, rfl, hn, hc, fun z => absurd z (by omega), fun _ _ => ⟨(List.range names.length).map fun u => stepsF (rowF names.length (L (beatG c b) u)) u, _, ?_, ?_, q⟩⟩
  · rw [steps_tab]
    have := beatG_lt (c := c) (b := b) hc
    unfold beatG at this ⊢
    simp [this]
  · simp [hu, steps_row13 hu (hL (beatG c b) u)]
theorem lc_acc13 {α : Type} {g : Wg} {we : Wx} {ρ : Evn} {Q : List D → Prop} (c : α → D) (f : α → D) : ∀ (l : List α) (acc : List D), (∀ x ∈ l, ∀ (k1 : D → Prop), k1 (f x) → g (c x) ρ fun ρ' => we xcNo ρ' k1) → acc.length + l.length ≤ sizeLine → Q (acc ++ l.map f) → lcW g wtYes we ρ Q (l.map c) acc
  | [], acc, _, _, q => by simpa [lcW] using q
  | x :: l, acc, h, hz, q => by
    rw [List.length_cons] at hz
    rw [List.map_cons, lcW]
    have := h x (by simp) (fun y => acc.length < sizeLine ∧ lcW g wtYes we ρ Q (l.map c) (acc ++ [y])) ⟨by omega, lc_acc13 c f l _ (fun y hy => h y (by simp [hy])) (by simp; omega) (by simpa using q)⟩
    simpa [wtYes] using this
theorem p_sends_of (CG CW CU : Addr) (xc : XC) (ds : List D) (Q : Bool → D → Prop) (h : wf_sends_of CG CW xc ds Q) : b_sends_of CG CW CU (Zd xc Q) (ds.map .da ++ List.replicate (7 - ds.length) .no) := by
  obtain ⟨g, b, p, rfl, hg, hp, q⟩ := h
  have hs := sizeLine_eq
  have hi := hg.nm.hi
  have s1 : PyData.strOk "fly" = true := by decide +kernel
  have sw : PyData.strOk g.tr = true := by rcases gm_tr hg with e | e <;> rw [e] <;> decide +kernel
  simp [b_sends_of, oEq_s sw s1, wCallF]
  by_cases hf : g.tr = "fly"
  · refine .inr ⟨hf, g, rfl, hg, rfl, ?_⟩
    have ef : g.fly = true := by unfold Gm.fly; rw [hf]; decide
    rw [ef] at q ⊢
    exact q
  · refine .inl ⟨hf, ?_⟩
    have htr : g.tr = "walk" := (gm_tr hg).resolve_right hf
    have ef : g.fly = false := by unfold Gm.fly; rw [htr]; decide
    rw [ef] at hp q
    have hk : g.k ≤ 4 := by
      rcases hg.tm.2 with h | h
      · exact h.2
      · exact absurd h.1 hf
    have el : p.length = g.k := ((mem_lev g.k p).mp ((post_lev hg.tm.1).mp hp.1)).1
    have e0 : sendsF g.names.length g.k false (g.L (beatG g.c b)) p = p.foldl (goS g.names.length (g.L (beatG g.c b))) [[]] := goF_fold _ _
    rw [e0] at q
    simp [sFor]
    refine ⟨by omega, ?_⟩
    refine for_fold p D.int (goS g.names.length (g.L (beatG g.c b))) (fun ways ρ => ∃ a d e, ρ = [Sl.da (g.d CG CW), Sl.da (D.int b), Sl.da (tI p), Sl.ow (D.lst (ways.map tI)), a, d, e]) [[]] (fun pre x post ρ N e ⟨a1, a2, a3, er⟩ hN => ?_) ⟨_, _, _, rfl⟩ fun ρ ⟨a1, a2, a3, er⟩ => ?_
    · subst er
      have ok := ways_fold (R := g.L (beatG g.c b)) pre 0 _ ways_one fun y hy => hp.2.2 y (by rw [e]; simp [hy])
      rw [Nat.zero_add] at ok
      have hx := hp.2.2 x (by rw [e]; simp)
      have hpl : pre.length + 1 ≤ p.length := by rw [e]; simp
      generalize pre.foldl (goS g.names.length (g.L (beatG g.c b))) [[]] = ways at *
      have le := ways_le ok hi (by omega)
      obtain ⟨u, rfl⟩ : ∃ u : Nat, x = u := ⟨x.toNat, by omega⟩
      have hu : u < g.names.length := by omega
      have rl := row_len g.names.length fun v => decide (v = u) || g.L (beatG g.c b) u v
      simp [sFrz, wSortSetG]
      have go : ∀ (r acc : List (List Int)) (Qd : List D → Prop), (∀ w ∈ r, w.length ≤ 8) → acc.length + 8 * r.length ≤ 100000 → Qd ((acc ++ r.flatMap fun w => (rowF g.names.length fun v => decide (v = u) || g.L (beatG g.c b) u v).map fun s => srt (w ++ [s])).map tI) →
          lc2W (gSet 5) wtYes (wiS (wMeth CW "steps" (wf_Web_steps CW CU) (wFld CG "web" (wVar 0)) (waCons (wVar 4) (waCons (wVar 1) waNil)))) [6] (gSet 6) wtYes (wCall wf_with_one [] (waCons (wVar 5) (waCons (wVar 6) waNil)))
            [Sl.da (g.d CG CW), Sl.da (D.int b), Sl.da (tI p), Sl.da (D.lst (ways.map tI)), Sl.da (D.int u), Sl.no, Sl.no] Qd (r.map tI) (acc.map tI) := by
        intro r
        induction r with
        | nil => intro acc Qd _ _ q; simpa [lc2W] using q
        | cons w r ih =>
          intro acc Qd h8 hz q
          rw [List.length_cons] at hz
          rw [List.map_cons, lc2W]
          simp [wtYes]
          first
          | refine ⟨⟨_, rfl, rfl⟩, steps_go13 hi hg.lo hu hg.ir ?_⟩
          | refine steps_go13 hi hg.lo hu hg.ir ?_
          refine ⟨_, rfl, ?_⟩
          refine lc_acc13 D.int (fun s => tI (srt (w ++ [s]))) _ _ (fun s hs k1 h1 => ?_) (by simp; omega) ?_
          · simp [wCall]
            exact ⟨w, s, rfl, h8 w (by simp), h1⟩
          · have := ih (acc ++ (rowF g.names.length fun v => decide (v = u) || g.L (beatG g.c b) u v).map fun s => srt (w ++ [s])) Qd (fun y hy => h8 y (by simp [hy])) (by simp; omega) (by simpa using q)
            simpa [Function.comp_def] using this
      have e8 : ∀ w ∈ ways, w.length ≤ 8 := fun w hw => by have := ((mem_lev _ w).mp (ok.lev w hw)).1; omega
      refine go ways [] _ e8 (by simp; omega) ?_
      refine ⟨_, rfl, ⟨levels g.names.length 0 (pre.length + 1), ?_, bs_lev ok.lev⟩, fun ms m1 m2 m3 => ?_⟩
      · have := (levOk_is (lev_walk g.names.length hi (pre.length + 1) (by omega))).1
        omega
      · have := canon_one m1 m2 m3
        subst this
        exact hN _ ⟨_, _, _, rfl⟩
    · subst er
      simp [sRetO]
      exact q
theorem p_law_sends (xc : XC) (ds : List D) (Q : Bool → D → Prop) (h : wf_law_sends xc ds Q) : b_law_sends (Zd xc Q) (ds.map .da ++ List.replicate (9 - ds.length) .no) := by
  obtain ⟨n, k, b, tr, L, p, rfl, h1, h8, ht, hp, q⟩ := h
  have hs := sizeLine_eq
  obtain ⟨R0, eR⟩ : ∃ R0, l2 ((List.range n).map fun u => rowF n (L b u)) = R0 := ⟨_, rfl⟩
  have hR : ∀ u : Nat, u < n → ∀ Q, oIx R0 (.int u) Q = Q (iL (rowF n (L b u))) := fun u hu Q => by
    rw [← eR]
    unfold l2
    rw [oIx_l, atI_at (by omega) (by simp; omega)]
    simp [hu]
  rw [eR]
  clear eR
  have s1 : PyData.strOk "fly" = true := by decide +kernel
  have htr : tr = "walk" ∨ tr = "fly" := by rcases ht.2 with h | h; exact .inl h.1; exact .inr h.1
  have sw : PyData.strOk tr = true := by rcases htr with e | e <;> rw [e] <;> decide +kernel
  simp [b_law_sends, oEq_s sw s1]
  by_cases hf : tr = "fly"
  · refine .inr ⟨hf, ?_⟩
    have ef : (tr == "fly") = true := by rw [hf]; decide
    rw [ef] at q ⊢
    exact q _
  · refine .inl ⟨hf, ?_⟩
    have htr : tr = "walk" := htr.resolve_right hf
    have ef : (tr == "fly") = false := by rw [htr]; decide
    rw [ef] at hp q
    have hk : k ≤ 4 := by
      rcases ht.2 with h | h
      · exact h.2
      · exact absurd h.1 hf
    have el : p.length = k := ((mem_lev k p).mp ((post_lev ht.1).mp hp.1)).1
    have e0 : sendsF n k false (L b) p = p.foldl (goS n (L b)) [[]] := goF_fold _ _
    rw [e0] at q
    simp [r_law_sends_1, r_law_sends_2, r_law_sends_3, sFor]
    refine ⟨by omega, ?_⟩
    refine for_fold p D.int (goS n (L b)) (fun ways ρ => ∃ a d e f, ρ = [Sl.da R0, Sl.da (D.str tr), Sl.da (pL (postsF n k (tr == "fly"))), Sl.da (tI p), Sl.da (D.lst (ways.map tI)), a, d, e, f]) [[]] (fun pre x post ρ N e ⟨a1, a2, a3, a4, er⟩ hN => ?_) ⟨_, _, _, _, rfl⟩ fun ρ ⟨a1, a2, a3, a4, er⟩ => ?_
    · subst er
      have ok := ways_fold (R := L b) pre 0 _ ways_one fun y hy => hp.2.2 y (by rw [e]; simp [hy])
      rw [Nat.zero_add] at ok
      have hx := hp.2.2 x (by rw [e]; simp)
      have hpl : pre.length + 1 ≤ p.length := by rw [e]; simp
      generalize pre.foldl (goS n (L b)) [[]] = ways at *
      have le := ways_le ok h8 (by omega)
      have e8 : ∀ w ∈ ways, w.length ≤ 8 := fun w hw => by have := ((mem_lev _ w).mp (ok.lev w hw)).1; omega
      obtain ⟨u, rfl⟩ : ∃ u : Nat, x = u := ⟨x.toNat, by omega⟩
      have hu : u < n := by omega
      have rl := row_len n (L b u)
      let st : List Int → List (List Int) := fun w => ((u : Int) :: rowF n (L b u)).map fun s => srt (w ++ [s])
      have lst : ∀ l : List (List Int), (l.flatMap st).length ≤ 9 * l.length := fun l => by
        induction l with
        | nil => simp
        | cons w l ih => 
          have e1 : (st w).length ≤ 9 := by simp [st]; omega
          rw [List.flatMap_cons, List.length_append, List.length_cons]
          omega
      simp [sFor]
      refine for_fold ways tI (fun acc w => acc ++ st w) (fun acc ρ => ∃ d f, ρ = [Sl.da R0, Sl.da (D.str tr), Sl.da (pL (postsF n k (tr == "fly"))), Sl.da (tI p), Sl.da (D.lst (ways.map tI)), Sl.da (D.int u), Sl.ow (D.lst (acc.map tI)), d, f]) [] (fun pre2 w post2 ρ N2 e2 ⟨b1, b2, er⟩ hN2 => ?_) ⟨_, _, rfl⟩ fun ρ ⟨b1, b2, er⟩ => ?_
      · subst er
        rw [foldl_flat, List.nil_append] at hN2 ⊢
        have l2' := lst pre2
        have hp2 : pre2.length + 1 ≤ ways.length := by rw [e2]; simp
        have hw8 := e8 w (by rw [e2]; simp)
        generalize pre2.flatMap st = acc at *
        simp [sFor, hR u hu]
        refine ⟨by omega, by simp; omega, _, rfl, ?_⟩
        refine for_fold ((u : Int) :: rowF n (L b u)) D.int (fun acc2 s => acc2 ++ [srt (w ++ [s])]) (fun acc2 ρ => ∃ f, ρ = [Sl.da R0, Sl.da (D.str tr), Sl.da (pL (postsF n k (tr == "fly"))), Sl.da (tI p), Sl.da (D.lst (ways.map tI)), Sl.da (D.int u), Sl.ow (D.lst ((acc ++ acc2).map tI)), Sl.da (tI w), f]) [] (fun pre3 s post3 ρ N3 e3 ⟨c1, er⟩ hN3 => ?_) ⟨_, by simp; rfl⟩ fun ρ ⟨c1, er⟩ => ?_
        · subst er
          rw [foldl_map_app, List.nil_append] at hN3 ⊢
          have hp3 : pre3.length + 1 ≤ 9 := by
            have := congrArg List.length e3
            simp at this
            omega
          have hl3 : (pre3.map fun s => srt (w ++ [s])).length = pre3.length := by simp
          generalize (pre3.map fun s => srt (w ++ [s])) = acc2 at *
          simp [sApp]
          refine ⟨by omega, by simp; omega, w ++ [s], .inl (by simp [tI]), fun ms hpm hm => ?_⟩
          have em : ms = srt (w ++ [s]) := sorted_one (hpm.trans (List.mergeSort_perm _ _).symm) hm (merge_srt _)
          subst em
          exact ⟨by omega, hN3 _ ⟨Sl.da (D.int s), by simp [tI]⟩⟩
        · subst er
          rw [foldl_map_app, List.nil_append]
          exact hN2 _ ⟨_, _, rfl⟩
      · subst er
        rw [foldl_flat, List.nil_append]
        have ll := lst ways
        have hmem : ∀ z, z ∈ ways.flatMap st ↔ z ∈ (ways.flatMap fun w => (rowF n fun v => decide (v = u) || L b u v).map fun s => srt (w ++ [s])) := fun z => by
          rw [List.mem_flatMap, List.mem_flatMap]
          refine exists_congr fun w => and_congr_right fun _ => ?_
          rw [List.mem_map, List.mem_map]
          refine exists_congr fun s => and_congr_left fun _ => ?_
          rw [List.mem_cons, mem_row13, mem_row13]
          constructor
          · rintro (e | ⟨v, h1, h2, e⟩)
            · exact ⟨u, hu, by simp, e⟩
            · exact ⟨v, h1, by simp [h2], e⟩
          · rintro ⟨v, h1, h2, e⟩
            rw [Bool.or_eq_true, decide_eq_true_eq] at h2
            rcases h2 with h2 | h2
            · exact .inl (by rw [e, h2])
            · exact .inr ⟨v, h1, h2, e⟩
        simp [wPeek, wSortSetG]
        refine ⟨_, rfl, ⟨levels n 0 (pre.length + 1), ?_, fun z hz => bs_lev ok.lev z ((hmem z).mp hz)⟩, fun ms m1 m2 m3 => ?_⟩
        · have := (levOk_is (lev_walk n h8 (pre.length + 1) (by omega))).1
          omega
        · have := canon_one m1 m2 fun z => (m3 z).trans (hmem z)
          subst this
          exact hN _ ⟨_, _, _, _, rfl⟩
    · subst er
      simp
      exact q _
end Tw.S

namespace Tw.S
open PySem PySem.Spec L2 PyProof.Rows Tw
theorem drawn13 {l : List Int} (hl : ∀ x ∈ l, 0 ≤ x ∧ x < 1000) (i : Int) (h0 : 0 ≤ i) (h : i < l.length) : ∃ x, atI l i = some x ∧ 0 ≤ x ∧ x < 1000 := by
  refine ⟨l[i.toNat], ?_, hl _ (List.getElem_mem (by omega))⟩
  rw [atI_at h0 h, List.getElem?_eq_getElem (by omega)]
theorem oInN_t {a : List Int} {l : List (List Int)} {Q : D → Prop} : oIn true (tI a) (.lst (l.map tI)) Q = Q (.bl (!decide (a ∈ l))) := by
  have h := any_t (a := a) l
  simp only [oIn, ok_tI, ok_ptI, h, true_and]
  rfl
theorem pick_at {α : Type} {l : List α} (h : l ≠ []) (x : Int) : ∃ p, atI l (x % (l.length : Int)) = some p ∧ p ∈ l := by
  have hl := List.length_pos_iff.mpr h
  have h0 := Int.emod_nonneg x (show (l.length : Int) ≠ 0 by omega)
  have h1 := Int.emod_lt_of_pos x (show (0 : Int) < (l.length : Int) by omega)
  have hlt : (x % (l.length : Int)).toNat < l.length := by omega
  exact ⟨l[(x % (l.length : Int)).toNat], by rw [atI_at h0 h1]; simp [hlt], List.getElem_mem hlt⟩
theorem same13 {xc : XC} {g d : D} {P : Bool → D → Prop} (s : Sm 5 g d) (q : P false (.bl true)) : wf_law_same xc [g, d] P := ⟨g, d, true, rfl, .sm s, q⟩
theorem atI_tI {l : List (List Int)} {i : Int} {p : List Int} (h : atI l i = some p) : atI (l.map tI) i = some (tI p) := by
  unfold atI at h ⊢
  rw [List.length_map]
  cases e : ixN l.length i with
  | none => rw [e] at h; cases h
  | some j => rw [e] at h; simp at h ⊢; simp [h]
theorem tab_beat {n c : Nat} {L : Psg} {b : Int} (hc : 1 ≤ c) : atI (tabF n c L) (b % (c : Int)) = some ((List.range n).map fun u => rowF n (L (beatG c b) u)) := by
  have h := beatG_lt (c := c) (b := b) hc
  have e : b % (c : Int) = (beatG c b : Nat) := by
    have h1 := Int.emod_nonneg b (show (c : Int) ≠ 0 by omega)
    unfold beatG
    omega
  rw [e]
  exact tab_at h
theorem late_in : ∀ x : Int, 0 ≤ x → x < 5 → ∃ lt : Option Nat, atI [D.int 0, D.int 1, D.int 2, D.int 3, D.non] x = some (ltD lt) ∧ ∀ i, lt = some i → i ≤ 3 := by
  intro x h0 h5
  have : x = 0 ∨ x = 1 ∨ x = 2 ∨ x = 3 ∨ x = 4 := by omega
  rcases this with rfl | rfl | rfl | rfl | rfl
  · exact ⟨some 0, rfl, by simp⟩
  · exact ⟨some 1, rfl, by simp⟩
  · exact ⟨some 2, rfl, by simp⟩
  · exact ⟨some 3, rfl, by simp⟩
  · exact ⟨none, rfl, by simp⟩
theorem pace_in : ∀ x : Int, 0 ≤ x → x < 2 → ∃ pc : Str, atI [D.str "step", D.str "swift"] x = some (.str pc) ∧ (pc = "step" ∨ pc = "swift") := by
  intro x h0 h5
  have : x = 0 ∨ x = 1 := by omega
  rcases this with rfl | rfl
  · exact ⟨_, rfl, .inl rfl⟩
  · exact ⟨_, rfl, .inr rfl⟩
section
variable {CG CW CB : Addr} {xc : XC} {Q : Bool → D → Prop} {g : Gm} {S0 S1 S2 S5 S6 S7 S8 S9 : Sl}
end
end Tw.S

namespace Tw.S
open PySem PySem.Spec L2 PyProof.Rows Tw

def b_reached (C_Web : Addr) (C_UnknownPlace : Addr) : Ws :=
  (sSeq (sSetO 4 (wC (.dK [])))
  (sSeq (sSetO 5 (wLc (wiS (wVar 2)) (gSet 6) (wB (w2 (oIn true) (wVar 6) (wVar 3))) (wVar 6) [6]))
  (sSeq (sWhile (wTru (wPeek 5))
  (sSeq (sPopV 5 6)
  (sIf (wB (wInK true (wVar 6) (wPeek 4)))
  (sSeq (sPutK 4 (wVar 6) (wC (.bl true)))
  (sExt 5 (wLc (wiS (wMeth C_Web "steps" (wf_Web_steps C_Web C_UnknownPlace) (wVar 0) (waCons (wVar 6) (waCons (wVar 1) waNil)))) (gSet 7) (wB (w2 (oIn true) (wVar 7) (wVar 3))) (wVar 7) [7])))
  sNil)))
  (sRet (wN oTuple (waCons (wSortDI (wPeek 4)) waNil))))))
def b_law_reach : Ws :=
  (sSeq (sSet 3 (wLc (wiS (wSortSet (wVar 1))) (gSet 6) (wB (w2 (oIn true) (wVar 6) (wVar 2))) (wVar 6) [6]))
  (sSeq (sFor (wiR1 (wN oLen (waCons (wVar 0) waNil))) (gSet 4)
  (sSeq (sSetO 5 (wLst waNil))
  (sSeq (sFor (wiS (wVar 3)) (gSet 6)
  (sFor (wiS (w2 oIx (wVar 0) (wVar 6))) (gSet 7)
  (sIf (wAnd (wB (w2 (oIn true) (wVar 7) (wVar 2))) (wAnd (wB (w2 (oIn true) (wVar 7) (wVar 3))) (wB (w2 (oIn true) (wVar 7) (wPeek 5)))))
  (sApp 5 (wVar 7))
  sNil)))
  (sSet 3 (w2 oPlus (wVar 3) (wPeek 5))))))
  (sRetF (wN oSortI (waCons (wVar 3) waNil)))))
end Tw.S

namespace Tw.S
open PySem PySem.Spec L2 PyProof.Rows Tw
section
variable {α : Type} {g : Wg} {b : Ws} {Z : Pd} {ρ : Evn}
end
theorem bad_iff {n : Nat} {x : Int} : badB n x = true ↔ ¬(0 ≤ x ∧ x < n) := by
  unfold badB
  rw [Bool.not_eq_true', ← Bool.not_eq_true, Bool.and_eq_true, decide_eq_true_eq, decide_eq_true_eq]
theorem good_iff {n : Nat} {x : Int} : badB n x = false ↔ (0 ≤ x ∧ x < n) := by
  rw [← Bool.not_eq_true, bad_iff, Classical.not_not]
theorem first_none {n : Nat} {l : List Int} : firstBad n l = none ↔ ∀ x ∈ l, 0 ≤ x ∧ x < n := by
  unfold firstBad
  rw [List.find?_eq_none]
  exact ⟨fun h x hx => good_iff.mp (by simpa using h x hx), fun h x hx => by simpa using good_iff.mpr (h x hx)⟩
@[simp] theorem seq_hD' {t : Bool} {l : List Int} : D.seq (hD t (l.map .int)) = some (l.map .int) := seq_hD
theorem climbs_pw : ∀ {l : List Int}, climbs l = true ↔ l.Pairwise (· < ·)
  | [] => by simp [climbs]
  | [x] => by simp [climbs]
  | x :: y :: r => by
    have ih := climbs_pw (l := y :: r)
    have e : climbs (x :: y :: r) = (decide (x < y) && climbs (y :: r)) := by
      unfold climbs
      simp only [List.length_cons, Nat.add_sub_cancel]
      rw [List.range_succ_eq_map, List.all_cons, List.all_map]
      rfl
    rw [e, Bool.and_eq_true, ih, decide_eq_true_eq, List.pairwise_cons (a := x)]
    constructor
    · intro ⟨h1, h2⟩
      refine ⟨fun z hz => ?_, h2⟩
      rcases List.mem_cons.mp hz with rfl | hz
      · exact h1
      · exact Int.lt_trans h1 ((List.pairwise_cons.mp h2).1 z hz)
    · exact fun ⟨h1, h2⟩ => ⟨h1 y (by simp), h2⟩
theorem isSet_pw {l : List Int} {n : Int} : isSet l n = true ↔ (∀ x ∈ l, 0 ≤ x ∧ x < n) ∧ l.Pairwise (· < ·) := by
  unfold isSet
  rw [Bool.and_eq_true, climbs_pw, List.all_eq_true]
  simp
end Tw.S

namespace Tw.S
open PySem PySem.Spec L2 PyProof.Rows Tw
theorem mem_stepsF {l : List Int} {u : Nat} {x : Int} : x ∈ stepsF l u ↔ x = u ∨ x ∈ l := by
  unfold stepsF
  rw [(List.mergeSort_perm _ _).mem_iff, List.mem_cons]
theorem stepsF_len (l : List Int) (u : Nat) : (stepsF l u).length = l.length + 1 := by
  unfold stepsF
  rw [List.length_mergeSort, List.length_cons]
theorem beatN_lt {c : Nat} {b : Int} (hc : 1 ≤ c) : beatN c b < c := by
  have h1 := Int.emod_nonneg b (show (c : Int) ≠ 0 by omega)
  have h2 := Int.emod_lt_of_pos b (show (0 : Int) < c by omega)
  unfold beatN
  omega
theorem steps_go {C CU : Addr} {xc : XC} {names : List Str} {c u : Nat} {L : Psg} {b : Int} {Q : Bool → D → Prop} (hn : names.length ≤ 8) (hc : 1 ≤ c) (hu : u < names.length) (q : Q false (tI (stepsF (rowF names.length (L (beatN c b) u)) u))) :
    wf_Web_steps C CU xc [webP C names c L, .int u, .int b] Q := by
  refine ⟨names, c, _, u, b, rfl, hn, hc, fun z => absurd z (by omega), fun _ _ => ⟨(List.range names.length).map fun u => stepsF (rowF names.length (L (beatN c b) u)) u, _, ?_, ?_, q⟩⟩
  · rw [steps_tab]
    have := beatN_lt (c := c) (b := b) hc
    unfold beatN at this ⊢
    simp [this]
  · simp [hu]
def dkv (ks : List Int) : List (Key × D) := ks.map fun k : Int => ((Sum.inl k : Key), D.bl true)
theorem dkv_has (ks : List Int) (x : Int) : hasD (dkv ks) (.inl x) = decide (x ∈ ks) := by
  unfold hasD dkv
  rw [List.any_map, Bool.eq_iff_iff, List.any_eq_true, decide_eq_true_eq]
  constructor
  · intro ⟨k, hk, h⟩
    have : (Sum.inl k : Key) = .inl x := of_decide_eq_true h
    cases this
    exact hk
  · intro h
    exact ⟨x, h, decide_eq_true rfl⟩
theorem dkv_put {ks : List Int} {x : Int} (h : x ∉ ks) : putDk (dkv ks) (.inl x) (.bl true) = dkv (ks ++ [x]) := by
  unfold putDk
  rw [dkv_has, decide_eq_false h]
  simp [dkv]
theorem dkv_keys (ks : List Int) : (dkv ks).map (·.1) = ks.map Sum.inl := by
  unfold dkv
  rw [List.map_map]; rfl
theorem sub_len {β : Type} [BEq β] [LawfulBEq β] : ∀ (l m : List β), l.Nodup → (∀ x ∈ l, x ∈ m) → l.length ≤ m.length
  | [], m, _, _ => Nat.zero_le _
  | x :: l, m, nd, h => by
    rw [List.nodup_cons] at nd
    have hx := h x (by simp)
    have := sub_len l (m.erase x) nd.2 fun y hy => (List.mem_erase_of_ne fun e => nd.1 (by rw [← e]; exact hy)).mpr (h y (by simp [hy]))
    rw [List.length_erase_of_mem hx] at this
    have := List.length_pos_of_mem hx
    rw [List.length_cons]
    omega
section
variable {n : Nat} {R : Nat → Nat → Bool} {s bar : List Int}
theorem reach_lt (hs : ∀ x ∈ s, 0 ≤ x ∧ x < (n : Int)) {v : Nat} (h : reachP n R s bar v) : v < n := by
  cases h with
  | st h _ => have := hs _ h; omega
  | go _ h _ =>
    unfold RR at h
    rw [Bool.and_eq_true, Bool.and_eq_true, decide_eq_true_eq, decide_eq_true_eq] at h
    exact h.1.2
/-- how the walk stands: ks seen, a ahead -/
structure RInv (n : Nat) (R : Nat → Nat → Bool) (s bar ks a : List Int) : Prop where
  nd : ks.Nodup
  k : ∀ x ∈ ks, ∃ v : Nat, x = v ∧ reachP n R s bar v
  ha : ∀ x ∈ a, ∃ v : Nat, x = v ∧ reachP n R s bar v
  st : ∀ x ∈ s, x ∉ bar → x ∈ ks ∨ x ∈ a
  cl : ∀ u v : Nat, (u : Int) ∈ ks → RR n R u v = true → (v : Int) ∉ bar → (v : Int) ∈ ks ∨ (v : Int) ∈ a
theorem nodup_lt {ks : List Int} (nd : ks.Nodup) (h : ∀ x ∈ ks, ∃ v : Nat, x = v ∧ v < n) : ks.length ≤ n := by
  have := sub_len _ ((List.range n).map fun i : Nat => (i : Int)) nd fun x hx => by
    obtain ⟨v, rfl, hv⟩ := h x hx
    exact List.mem_map.mpr ⟨v, List.mem_range.mpr hv, rfl⟩
  simpa using this
theorem mem_rowF {m : Nat} {f : Nat → Bool} {x : Int} : x ∈ rowF m f ↔ ∃ v : Nat, x = v ∧ v < m ∧ f v = true := by
  unfold rowF
  simp only [List.mem_map, List.mem_filter, List.mem_range]
  exact ⟨fun ⟨v, ⟨h1, h2⟩, e⟩ => ⟨v, e.symm, h1, h2⟩, fun ⟨v, e, h1, h2⟩ => ⟨v, ⟨h1, h2⟩, e.symm⟩⟩
theorem RInv.len {ks a : List Int} (h : RInv n R s bar ks a) (hs : ∀ x ∈ s, 0 ≤ x ∧ x < (n : Int)) : ks.length ≤ n :=
  nodup_lt h.nd fun x hx => (h.k x hx).imp fun v ⟨e, r⟩ => ⟨e, reach_lt hs r⟩
theorem RInv.skip {ks a : List Int} {x : Int} (h : RInv n R s bar ks (a ++ [x])) (hx : x ∈ ks) : RInv n R s bar ks a := by
  refine ⟨h.nd, h.k, fun y hy => h.ha y (by simp [hy]), fun y h1 h2 => ?_, fun u v h1 h2 h3 => ?_⟩
  · rcases h.st y h1 h2 with h4 | h4
    · exact .inl h4
    · rcases List.mem_append.mp h4 with h4 | h4
      · exact .inr h4
      · rw [List.mem_singleton.mp h4]; exact .inl hx
  · rcases h.cl u v h1 h2 h3 with h4 | h4
    · exact .inl h4
    · rcases List.mem_append.mp h4 with h4 | h4
      · exact .inr h4
      · rw [List.mem_singleton.mp h4]; exact .inl hx
theorem RInv.put {ks a : List Int} {u : Nat} (h : RInv n R s bar ks (a ++ [(u : Int)])) (hu : u < n) (hx : (u : Int) ∉ ks) : RInv n R s bar (ks ++ [(u : Int)]) (a ++ (stepsF (rowF n (R u)) u).filter fun y => !decide (y ∈ bar)) := by
  obtain ⟨w, ew, hw⟩ := h.ha u (by simp)
  have : w = u := by omega
  subst this
  have keep : ∀ y : Int, y ∈ ks ∨ y ∈ a ++ [(w : Int)] → y ∈ ks ++ [(w : Int)] ∨ y ∈ a ++ (stepsF (rowF n (R w)) w).filter fun y => !decide (y ∈ bar) := by
    intro y hy
    rcases hy with h4 | h4
    · exact .inl (by simp [h4])
    · rcases List.mem_append.mp h4 with h4 | h4
      · exact .inr (by simp [h4])
      · exact .inl (by simp [List.mem_singleton.mp h4])
  refine ⟨?_, fun y hy => ?_, fun y hy => ?_, fun y h1 h2 => keep y (h.st y h1 h2), fun u v h1 h2 h3 => ?_⟩
  · rw [List.nodup_append]
    refine ⟨h.nd, by simp, fun a ha b hb e => hx ?_⟩
    rw [← List.mem_singleton.mp hb, ← e]; exact ha
  · rcases List.mem_append.mp hy with hy | hy
    · exact h.k y hy
    · exact ⟨w, List.mem_singleton.mp hy, hw⟩
  · rcases List.mem_append.mp hy with hy | hy
    · exact h.ha y (by simp [hy])
    · obtain ⟨h1, h2⟩ := List.mem_filter.mp hy
      have h2 : y ∉ bar := by simpa using h2
      rcases mem_stepsF.mp h1 with e | h1
      · exact ⟨w, e, hw⟩
      · obtain ⟨v, e, h3, h4⟩ := mem_rowF.mp h1
        refine ⟨v, e, .go hw ?_ ?_⟩
        · unfold RR
          simp [hu, h3, h4]
        · rw [← e]; exact h2
  · rcases List.mem_append.mp h1 with h1 | h1
    · exact keep v (h.cl u v h1 h2 h3)
    · have : u = w := by have := List.mem_singleton.mp h1; omega
      subst this
      refine .inr (List.mem_append.mpr (.inr (List.mem_filter.mpr ⟨mem_stepsF.mpr (.inr (mem_rowF.mpr ⟨v, rfl, ?_⟩)), by simpa using h3⟩)))
      unfold RR at h2
      rw [Bool.and_eq_true, Bool.and_eq_true, decide_eq_true_eq, decide_eq_true_eq] at h2
      exact ⟨h2.1.2, h2.2⟩
theorem RInv.fin {ks : List Int} (h : RInv n R s bar ks []) (hs : ∀ x ∈ s, 0 ≤ x ∧ x < (n : Int)) {ms : List Int} (p : ms.Perm ks) (so : ms.Pairwise (· ≤ ·)) : Lists n (reachP n R s bar) ms := by
  refine ⟨isSet_pw.mpr ⟨fun x hx => ?_, ?_⟩, fun v hv => ⟨fun hx => ?_, fun hr => ?_⟩⟩
  · obtain ⟨v, rfl, hr⟩ := h.k x (p.mem_iff.mp hx)
    have := reach_lt hs hr
    omega
  · have nd := p.nodup_iff.mpr h.nd
    exact (List.pairwise_and_iff.mpr ⟨so, nd⟩).imp fun ⟨h1, h2⟩ => by omega
  · obtain ⟨w, e, hr⟩ := h.k _ (p.mem_iff.mp hx)
    have : v = w := by omega
    rw [this]; exact hr
  · refine p.mem_iff.mpr ?_
    have : ∀ v : Nat, reachP n R s bar v → (v : Int) ∈ ks := fun v hr => by
      induction hr with
      | st h1 h2 => exact (h.st _ h1 h2).resolve_right (by simp)
      | go _ h2 h3 ih => exact (h.cl _ _ ih h2 h3).resolve_right (by simp)
    exact this v hr
end
theorem snoc_or {α : Type} (l : List α) : l = [] ∨ ∃ a x, l = a ++ [x] := by
  cases h : l.reverse with
  | nil => exact .inl (List.reverse_eq_nil_iff.mp h)
  | cons x r => exact .inr ⟨r.reverse, x, by rw [← List.reverse_reverse l, h, List.reverse_cons]⟩
theorem p_reached (C CU : Addr) (xc : XC) (ds : List D) (Q : Bool → D → Prop) (h : wf_reached C xc ds Q) : b_reached C CU (Zd xc Q) (ds.map .da ++ List.replicate (8 - ds.length) .no) := by
  obtain ⟨t, t', names, c, L, b, s, bar, rfl, hn, h1, h4, hsl, hbl, hb, q⟩ := h
  have hs := sizeLine_eq
  have sok := first_none.mp hb
  simp [b_reached]
  refine lc_ofF s D.int (fun x => !decide (x ∈ bar)) D.int (fun x hx k1 k2 g1 g2 => ?_) (by omega) ?_
  · simp
    rw [oIn_hi]
    by_cases e : x ∈ bar
    · exact .inl ⟨by simp [e], g2 (by simp [e])⟩
    · exact .inr ⟨by simp [e], g1 (by simp [e])⟩
  · refine ⟨fun m ρ => ∃ ks a s6 s7, m = (names.length - ks.length) * 10 + a.length ∧ a.length ≤ 100 + 9 * ks.length ∧ RInv names.length (L (beatN c b)) s bar ks a ∧ ρ = [Sl.da (webP C names c L), Sl.da (.int b), Sl.da (hD t (s.map .int)), Sl.da (hD t' (bar.map .int)), Sl.ow (.dK (dkv ks)), Sl.ow (.lst (a.map .int)), s6, s7], ⟨_, [], s.filter fun x => !decide (x ∈ bar), .no, .no, rfl, by have := List.length_filter_le (fun x => !decide (x ∈ bar)) s; simp; omega, ⟨by simp, by simp, fun x hx => ?_, fun x hx hb => .inr (by simp [hx, hb]), by simp⟩, rfl⟩, ?_⟩
    · obtain ⟨h1, h2⟩ := List.mem_filter.mp hx
      have := sok x h1
      refine ⟨x.toNat, by omega, .st ?_ ?_⟩
      · show ((x.toNat : Nat) : Int) ∈ s
        rw [show ((x.toNat : Nat) : Int) = x by omega]; exact h1
      · show ¬((x.toNat : Nat) : Int) ∈ bar
        rw [show ((x.toNat : Nat) : Int) = x by omega]; simpa using h2
    · rintro m ρ ⟨ks, a, s6, s7, rfl, la, inv, rfl⟩
      simp [wPeek]
      rcases snoc_or a with rfl | ⟨a, x, rfl⟩
      · refine .inl ⟨rfl, ?_⟩
        simp [wSortDI, wPeek]
        refine ⟨ks, dkv_keys ks, ?_, fun ms p so => ?_⟩
        · have := inv.len sok; omega
        · exact q ms (inv.fin sok p so)
      · refine .inr ⟨by simp, by decide, _, .int x, rfl, by simp, ?_⟩
        obtain ⟨u, rfl, hr⟩ := inv.ha x (by simp)
        have hu := reach_lt sok hr
        have hl := inv.len sok
        simp [wInK, kD, wPeek]
        refine ⟨.inl u, rfl, ?_⟩
        rw [dkv_has]
        by_cases hx : (u : Int) ∈ ks
        · exact .inl ⟨by simp [hx], _, by omega, ks, a, rfl, by simp at la; omega, inv.skip hx, rfl, rfl⟩
        · refine .inr ⟨by simp [hx], ?_⟩
          simp [sPutK, kD]
          refine ⟨.inl u, rfl, by have := dkv_keys ks; have := congrArg List.length this; simp at this; omega, ?_⟩
          rw [dkv_put hx]
          simp at la
          have l1 : (ks ++ [(u : Int)]).length ≤ names.length := by
            refine nodup_lt (inv.put hu hx).nd fun y hy => ?_
            obtain ⟨v, e, hv⟩ := (inv.put hu hx).k y hy
            exact ⟨v, e, reach_lt sok hv⟩
          have l2 : (rowF names.length (L (beatN c b) u)).length ≤ names.length := by
            unfold rowF
            rw [List.length_map]
            exact Nat.le_trans (List.length_filter_le _ _) (by simp)
          have l3 := stepsF_len (rowF names.length (L (beatN c b) u)) u
          have l4 := List.length_filter_le (fun x => !decide (x ∈ bar)) (stepsF (rowF names.length (L (beatN c b) u)) u)
          simp at l1
          simp [sExt]
          refine steps_go hn h1 hu ?_
          simp
          refine lc_ofF _ D.int (fun x => !decide (x ∈ bar)) D.int (fun x hx k1 k2 g1 g2 => ?_) (by omega) ?_
          · simp
            rw [oIn_hi]
            by_cases e : x ∈ bar
            · exact .inl ⟨by simp [e], g2 (by simp [e])⟩
            · exact .inr ⟨by simp [e], g1 (by simp [e])⟩
          · simp
            refine ⟨by omega, _, ?_, ks ++ [(u : Int)], a ++ (stepsF (rowF names.length (L (beatN c b) u)) u).filter fun y => !decide (y ∈ bar), rfl, ?_, inv.put hu hx, rfl, by simp⟩
            · simp
              omega
            · simp
              omega
end Tw.S

namespace Tw.S
open PySem PySem.Spec L2 PyProof.Rows Tw
end Tw.S

namespace Tw.S
open PySem PySem.Spec L2 PyProof.Rows Tw
section
variable {n : Nat} {R : Nat → Nat → Bool} {s bar ks : List Int}
def Closed (n : Nat) (R : Nat → Nat → Bool) (bar ks : List Int) : Prop := ∀ u v : Nat, (u : Int) ∈ ks → RR n R u v = true → (v : Int) ∉ bar → (v : Int) ∈ ks
structure FInv (n : Nat) (R : Nat → Nat → Bool) (s bar ks : List Int) : Prop where
  nd : ks.Nodup
  k : ∀ x ∈ ks, ∃ v : Nat, x = v ∧ reachP n R s bar v
  st : ∀ x ∈ s, x ∉ bar → x ∈ ks
structure NInv (n : Nat) (R : Nat → Nat → Bool) (bar ks pre nw : List Int) : Prop where
  nd : (ks ++ nw).Nodup
  k : ∀ x ∈ nw, ∃ u v : Nat, x = v ∧ (u : Int) ∈ ks ∧ RR n R u v = true ∧ (v : Int) ∉ bar
  cl : ∀ u v : Nat, (u : Int) ∈ pre → RR n R u v = true → (v : Int) ∉ bar → (v : Int) ∈ ks ++ nw
theorem FInv.r (h : FInv n R s bar ks) (c : Closed n R bar ks) : RInv n R s bar ks [] :=
  ⟨h.nd, h.k, fun _ hx => absurd hx (by simp), fun x h1 h2 => .inl (h.st x h1 h2), fun u v h1 h2 h3 => .inl (c u v h1 h2 h3)⟩
theorem full {x : Int} (nd : ks.Nodup) (h : ∀ x ∈ ks, ∃ v : Nat, x = v ∧ v < n) (hl : n ≤ ks.length) {v : Nat} (hv : v < n) : (v : Int) ∈ ks := by
  refine Classical.byContradiction fun hx => ?_
  have := nodup_lt (n := n) (ks := (v : Int) :: ks) (List.nodup_cons.mpr ⟨hx, nd⟩) fun x hx => by
    rcases List.mem_cons.mp hx with rfl | hx
    · exact ⟨v, rfl, hv⟩
    · exact h x hx
  rw [List.length_cons] at this
  omega
theorem FInv.closed (h : FInv n R s bar ks) (hs : ∀ x ∈ s, 0 ≤ x ∧ x < (n : Int)) (hl : Closed n R bar ks ∨ n ≤ ks.length) : Closed n R bar ks := by
  rcases hl with hl | hl
  · exact hl
  · intro u v _ hR _
    unfold RR at hR
    rw [Bool.and_eq_true, Bool.and_eq_true, decide_eq_true_eq, decide_eq_true_eq] at hR
    exact full (x := 0) h.nd (fun x hx => (h.k x hx).imp fun v ⟨e, r⟩ => ⟨e, reach_lt hs r⟩) hl hR.1.2
theorem FInv.next {nw : List Int} (h : FInv n R s bar ks) (m : NInv n R bar ks ks nw) : FInv n R s bar (ks ++ nw) :=
  ⟨m.nd, fun x hx => (List.mem_append.mp hx).elim (h.k x) fun hx => by
    obtain ⟨u, v, e, hu, hr, hb⟩ := m.k x hx
    obtain ⟨w, ew, hw⟩ := h.k _ hu
    have : u = w := by omega
    subst this
    exact ⟨v, e, .go hw hr hb⟩, fun x h1 h2 => List.mem_append.mpr (.inl (h.st x h1 h2))⟩
theorem NInv.grow {nw : List Int} {i : Nat} (m : NInv n R bar ks ks nw) (hl : Closed n R bar ks ∨ i ≤ ks.length) : Closed n R bar (ks ++ nw) ∨ i + 1 ≤ (ks ++ nw).length := by
  cases nw with
  | nil =>
    refine .inl ?_
    rw [List.append_nil]
    exact fun u v h1 h2 h3 => by simpa using m.cl u v h1 h2 h3
  | cons x r =>
    rcases hl with hl | hl
    · obtain ⟨u, v, e, hu, hr, hb⟩ := m.k x (by simp)
      have h1 := hl u v hu hr hb
      rw [← e] at h1
      exact absurd rfl ((List.nodup_append.mp m.nd).2.2 x h1 x (by simp))
    · refine .inr ?_
      simp
      omega
/-- one more place looked at -/
theorem NInv.one {pre nw : List Int} {u : Nat} {done : List Int} {x : Int} (hu : (u : Int) ∈ ks) (hun : u < n) (hx : x ∈ rowF n (R u)) (m : NInv n R bar ks pre nw)
    (c : ∀ y ∈ done, y ∉ bar → y ∈ ks ++ nw) : let nw' := if x ∉ bar ∧ x ∉ ks ∧ x ∉ nw then nw ++ [x] else nw
    NInv n R bar ks pre nw' ∧ ∀ y ∈ done ++ [x], y ∉ bar → y ∈ ks ++ nw' := by
  obtain ⟨v, e, hv, hr⟩ := mem_rowF.mp hx
  intro nw'
  by_cases h : x ∉ bar ∧ x ∉ ks ∧ x ∉ nw
  · have en : nw' = nw ++ [x] := if_pos h
    rw [en]
    refine ⟨⟨?_, fun y hy => ?_, fun u v h1 h2 h3 => ?_⟩, fun y hy hb => ?_⟩
    · rw [← List.append_assoc, List.nodup_append]
      refine ⟨m.nd, by simp, fun a ha b hb eab => ?_⟩
      rw [List.mem_singleton.mp hb] at eab
      rw [eab] at ha
      exact (List.mem_append.mp ha).elim h.2.1 h.2.2
    · rcases List.mem_append.mp hy with hy | hy
      · exact m.k y hy
      · refine ⟨u, v, by rw [List.mem_singleton.mp hy, e], hu, ?_, by rw [← e]; exact h.1⟩
        unfold RR
        simp [hun, hv, hr]
    · have := m.cl u v h1 h2 h3
      rw [← List.append_assoc]
      exact List.mem_append.mpr (.inl this)
    · rw [← List.append_assoc]
      rcases List.mem_append.mp hy with hy | hy
      · exact List.mem_append.mpr (.inl (c y hy hb))
      · exact List.mem_append.mpr (.inr hy)
  · have en : nw' = nw := if_neg h
    rw [en]
    refine ⟨m, fun y hy hb => ?_⟩
    rcases List.mem_append.mp hy with hy | hy
    · exact c y hy hb
    · rw [List.mem_singleton.mp hy] at hb ⊢
      refine Classical.byContradiction fun z => h ⟨hb, fun q => z (List.mem_append.mpr (.inl q)), fun q => z (List.mem_append.mpr (.inr q))⟩
theorem NInv.row {pre nw : List Int} {u : Nat} (m : NInv n R bar ks pre nw) (c : ∀ y ∈ rowF n (R u), y ∉ bar → y ∈ ks ++ nw) : NInv n R bar ks (pre ++ [(u : Int)]) nw :=
  ⟨m.nd, m.k, fun w v h1 h2 h3 => by
    rcases List.mem_append.mp h1 with h1 | h1
    · exact m.cl w v h1 h2 h3
    · have : w = u := by have := List.mem_singleton.mp h1; omega
      subst this
      unfold RR at h2
      rw [Bool.and_eq_true, Bool.and_eq_true, decide_eq_true_eq, decide_eq_true_eq] at h2
      exact c v (mem_rowF.mpr ⟨v, rfl, h2.1.2, h2.2⟩) h3⟩
end
theorem plus_iL {a b : List Int} {Q : D → Prop} : oPlus (iL a) (iL b) Q = (a.length + b.length ≤ sizeLine ∧ Q (iL (a ++ b))) := by
  unfold iL
  simp [oPlus]
theorem p_law_reach (xc : XC) (ds : List D) (Q : Bool → D → Prop) (h : wf_law_reach xc ds Q) : b_law_reach (Zd xc Q) (ds.map .da ++ List.replicate (8 - ds.length) .no) := by
  obtain ⟨n, b, L, s, bar, rfl, hn, hsl, hbl, hg, q⟩ := h
  have hs := sizeLine_eq
  have ok := first_none.mp hg
  simp [b_law_reach, wSortSet]
  refine ⟨s, rfl, Tw.few_of (by omega), fun ms mp hm => ?_⟩
  have ml : ms.length ≤ s.length := sub_len ms s (mp.imp fun h => by omega) fun x hx => (hm x).mp hx
  refine lc_ofF ms D.int (fun x => !decide (x ∈ bar)) D.int (fun x hx k1 k2 g1 g2 => ?_) (by omega) ?_
  · simp [oIn_iL]
    by_cases e : x ∈ bar
    · exact .inl ⟨by simp [e], g2 (by simp [e])⟩
    · exact .inr ⟨by simp [e], g1 (by simp [e])⟩
  · have init : FInv n (L b) s bar (ms.filter fun x => !decide (x ∈ bar)) := by
      refine ⟨(mp.imp fun h => by omega).filter _, fun x hx => ?_, fun x h1 h2 => List.mem_filter.mpr ⟨(hm x).mpr h1, by simpa using h2⟩⟩
      obtain ⟨h1, h2⟩ := List.mem_filter.mp hx
      have := ok x ((hm x).mp h1)
      have e : ((x.toNat : Nat) : Int) = x := by omega
      refine ⟨x.toNat, e.symm, .st ?_ ?_⟩
      · show ((x.toNat : Nat) : Int) ∈ s
        rw [e]; exact (hm x).mp h1
      · show ¬((x.toNat : Nat) : Int) ∈ bar
        rw [e]; simpa using h2
    have bnd : ∀ {ks : List Int}, FInv n (L b) s bar ks → ks.length ≤ n := fun fi => nodup_lt fi.nd fun x hx => (fi.k x hx).imp fun v ⟨e, r⟩ => ⟨e, reach_lt ok r⟩
    have lt : ∀ {ks : List Int}, FInv n (L b) s bar ks → ∀ x ∈ ks, ∃ v : Nat, x = v ∧ v < n := fun fi x hx => (fi.k x hx).imp fun v ⟨e, r⟩ => ⟨e, reach_lt ok r⟩
    simp [sFor, rowT]
    refine ⟨by omega, ?_⟩
    refine for_rng (fun i ρ => ∃ ks a e f g, FInv n (L b) s bar ks ∧ (Closed n (L b) bar ks ∨ i ≤ ks.length) ∧ ρ = [Sl.da (l2 (rowT n L b)), Sl.da (iL s), Sl.da (iL bar), Sl.da (iL ks), a, e, f, g]) (fun i ρ N hi ⟨ks, a, e, f, g, fi, cl, er⟩ hN => ?_) (fun ρ ⟨ks, a, e, f, g, fi, cl, er⟩ => ?_) ⟨_, _, _, _, _, init, .inr (Nat.zero_le _), rfl⟩
    · rw [er]
      have lk := bnd fi
      simp [sFor]
      refine for_fold ks D.int (fun pre x => pre ++ [x]) (fun pre ρ => ∃ nw f g, NInv n (L b) bar ks pre nw ∧ ρ = [Sl.da (l2 (rowT n L b)), Sl.da (iL s), Sl.da (iL bar), Sl.da (iL ks), Sl.da (.int (0 + (i : Nat))), Sl.ow (iL nw), f, g]) [] (fun pre x post ρ' N' ek ⟨nw, f', g', ni, er'⟩ hN' => ?_) ⟨[], f, g, ⟨by simpa using fi.nd, fun x hx => absurd hx (by simp), fun u v hu => absurd hu (by simp)⟩, by simp [iL]⟩ fun ρ' ⟨nw, f', g', ni, er'⟩ => ?_
      · obtain ⟨u, rfl, hu⟩ := lt fi x (by rw [ek]; simp)
        have huk : (u : Int) ∈ ks := by rw [ek]; simp
        rw [er']
        rw [foldl_snoc] at ni hN'
        simp at ni hN'
        have at_u : atI (rowT n L b) (u : Int) = some (rowF n (L b u)) := by
          rw [atI_at (by omega) (by simp [rowT]; omega)]
          simp [rowT, hu]
        simp [sFor, at_u]
        refine for_fold (rowF n (L b u)) D.int (fun pre x => pre ++ [x]) (fun done ρ => ∃ nw g, (NInv n (L b) bar ks pre nw ∧ ∀ y ∈ done, y ∉ bar → y ∈ ks ++ nw) ∧ ρ = [Sl.da (l2 (rowT n L b)), Sl.da (iL s), Sl.da (iL bar), Sl.da (iL ks), Sl.da (.int (i : Nat)), Sl.ow (iL nw), Sl.da (.int u), g]) [] (fun done x post' ρ2 N2 ed ⟨nw2, g2, ⟨n2, c2⟩, er2⟩ hN2 => ?_) ⟨nw, g', ⟨ni, fun y hy => absurd hy (by simp)⟩, rfl⟩ fun ρ2 ⟨nw2, g2, ⟨n2, c2⟩, er2⟩ => ?_
        · have hxr : x ∈ rowF n (L b u) := by rw [ed]; simp
          rw [foldl_snoc] at c2 hN2
          simp only [List.nil_append] at c2 hN2
          have o := NInv.one huk hu hxr n2 c2
          have ln : nw2.length ≤ n := by
            have := nodup_lt (n := n) (List.nodup_append.mp n2.nd).2.1 fun y hy => by
              obtain ⟨_, v, e, _, hr, _⟩ := n2.k y hy
              unfold RR at hr
              rw [Bool.and_eq_true, Bool.and_eq_true, decide_eq_true_eq, decide_eq_true_eq] at hr
              exact ⟨v, e, hr.1.2⟩
            exact this
          rw [er2]
          simp [oIn_iL, wPeek]
          by_cases h1 : x ∈ bar
          · exact .inl ⟨h1, hN2 _ ⟨nw2, _, by simpa [h1] using o, rfl⟩⟩
          · refine .inr ⟨h1, ?_⟩
            by_cases h2 : x ∈ ks
            · exact .inl ⟨h2, hN2 _ ⟨nw2, _, by simpa [h1, h2] using o, rfl⟩⟩
            · refine .inr ⟨h2, ?_⟩
              by_cases h3 : x ∈ nw2
              · exact .inl ⟨h3, hN2 _ ⟨nw2, _, by simpa [h1, h2, h3] using o, rfl⟩⟩
              · refine .inr ⟨h3, ?_⟩
                simp [sApp]
                exact ⟨_, rfl, by simp; omega, hN2 _ ⟨nw2 ++ [x], .da (.int x), by simpa [h1, h2, h3] using o, by simp [iL]⟩⟩
        · rw [foldl_snoc] at c2
          rw [er2]
          exact hN' _ nw2 (n2.row (by simpa using c2)) _ g2 rfl
      · rw [er']
        rw [foldl_snoc] at ni
        simp at ni
        have f2 := fi.next ni
        have l2 := bnd f2
        rw [List.length_append] at l2
        simp [wPeek, plus_iL]
        exact ⟨by omega, hN _ ⟨ks ++ nw, _, _, _, _, f2, ni.grow cl, rfl⟩⟩
    · rw [er]
      have lk := bnd fi
      simp [sRetF]
      refine ⟨ks, rfl, fun r p so => q r ?_⟩
      exact (fi.r (fi.closed ok cl)).fin ok p so
end Tw.S

namespace Tw.S
open PySem PySem.Spec L2 PyProof.Rows Tw
section
variable {CG CW : Addr} {g : Gm} {Q : D → Prop}
@[simp] theorem gm_pace : fldOf CG "pace" (g.d CG CW) Q = Q (.str g.pc) := fldOf_mk rfl
@[simp] theorem gm_late : fldOf CG "late" (g.d CG CW) Q = Q (ltD g.lt) := fldOf_mk rfl
end
theorem tr_ok {g : Gm} (h : g.Ok) : PyData.strOk g.tr = true := by rcases gm_tr h with e | e <;> rw [e] <;> decide +kernel
theorem pc_ok {g : Gm} (h : g.Ok) : PyData.strOk g.pc = true := by rcases h.pc with e | e <;> rw [e] <;> decide +kernel
theorem w_ok : PyData.strOk "walk" = true := by decide +kernel
theorem sw_ok : PyData.strOk "swift" = true := by decide +kernel
theorem fly_walk {g : Gm} (h : g.Ok) : g.tr = "walk" ↔ g.fly = false := by
  unfold Gm.fly
  rcases gm_tr h with e | e <;> rw [e] <;> decide
theorem sw_swift {g : Gm} (h : g.Ok) : g.pc = "swift" ↔ g.sw = true := by
  unfold Gm.sw
  rcases h.pc with e | e <;> rw [e] <;> decide
theorem oIn_iT {i : Int} {a : List Int} {Q : D → Prop} : oIn true (.int i) (tI a) Q = Q (.bl (!decide (i ∈ a))) := by
  have h := any_int (i := i) a
  have o := ok_tI a
  unfold tI at o ⊢
  simp only [oIn, ok_int, o, h, true_and]
  rfl
theorem mem_listP {n : Nat} {P : Nat → Prop} {x : Int} : x ∈ listP n P ↔ ∃ v : Nat, v < n ∧ P v ∧ x = v := by
  unfold listP
  rw [mem_row13]
  simp only [decide_eq_true_eq]
theorem Lists.eq {n : Nat} {P : Nat → Prop} {r : List Int} (h : Lists n P r) : r = listP n P := by
  obtain ⟨hs, hm⟩ := h
  unfold isSet at hs
  rw [Bool.and_eq_true, climbs_up, List.all_eq_true] at hs
  have hp : r.Pairwise (· < ·) := hs.2.imp fun h => by omega
  refine sorted_one ?_ (hp.imp fun h => Int.le_of_lt h) (rowF_srt _ _)
  refine (List.perm_ext_iff_of_nodup (hp.imp fun h => Int.ne_of_lt h) (nd_row13 _ _)).mpr fun x => ?_
  refine Iff.trans ?_ mem_listP.symm
  constructor
  · intro hx
    have hb := hs.1 x hx
    rw [Bool.and_eq_true, decide_eq_true_eq, decide_eq_true_eq] at hb
    have e : x = (x.toNat : Int) := by omega
    have hv : x.toNat < n := by omega
    exact ⟨x.toNat, hv, (hm _ hv).mp (e ▸ hx), e⟩
  · rintro ⟨v, hv, hP, rfl⟩
    exact (hm v hv).mpr hP
theorem row_listP {n : Nat} {f : Nat → Bool} {P : Nat → Prop} (h : ∀ v, v < n → (f v = true ↔ P v)) : rowF n f = listP n P := by
  unfold listP rowF
  congr 1
  refine List.filter_congr fun v hv => ?_
  rw [Bool.eq_iff_iff, h v (List.mem_range.mp hv)]
  simp only [decide_eq_true_eq]
theorem listP_congr {n : Nat} {P P' : Nat → Prop} (h : ∀ v, v < n → (P v ↔ P' v)) : listP n P = listP n P' := by
  conv => lhs; unfold listP
  exact row_listP fun v hv => by simp only [decide_eq_true_eq]; exact h v hv
theorem filter_listP {n : Nat} {P : Nat → Prop} {p : Int → Bool} : (listP n P).filter p = listP n fun v => P v ∧ p v = true := by
  have e : (listP n P).filter p = rowF n fun v => p v && (@decide (P v) (Classical.propDecidable _)) := by
    unfold listP rowF
    rw [List.filter_map, List.filter_filter]
    rfl
  rw [e]
  refine row_listP fun v _ => ?_
  rw [Bool.and_eq_true]
  simp only [decide_eq_true_eq]
  exact and_comm
theorem listP_len (n : Nat) (P : Nat → Prop) : (listP n P).length ≤ n := row_len _ _
theorem listP_none {n : Nat} {P : Nat → Prop} (h : ∀ v, ¬ P v) : listP n P = [] := by
  unfold listP rowF
  rw [List.map_eq_nil_iff, List.filter_eq_nil_iff]
  intro v _
  simp [h v]
theorem p_barred_of (CG : Addr) {CW : Addr} (xc : XC) (ds : List D) (Q : Bool → D → Prop) (h : wf_barred_of CG CW xc ds Q) : b_barred_of CG (Zd xc Q) (ds.map .da ++ List.replicate (4 - ds.length) .no) := by
  obtain ⟨g, p, s, rfl, hg, hp, hs', q⟩ := h
  have hs := sizeLine_eq
  have fw := fly_walk hg
  simp [b_barred_of, oEq_s (tr_ok hg) w_ok]
  unfold barF at q
  by_cases hf : g.tr = "walk"
  · refine .inr ⟨hf, ?_⟩
    rw [if_neg (by rw [fw.mp hf]; decide)] at q
    exact q
  · refine .inl ⟨hf, ?_⟩
    rw [if_pos (by cases e : g.fly; exact absurd (fw.mpr e) hf; rfl)] at q
    refine lc_ofF p D.int (fun x => decide (x ∈ s)) D.int (fun x hx k1 k2 h1 h2 => ?_) (by omega) ?_
    · simp
      by_cases hm : x ∈ s
      · exact .inr ⟨hm, h1 (by simpa using hm)⟩
      · exact .inl ⟨hm, h2 (by simpa using hm)⟩
    · simpa [tI] using q
theorem p_not_caught (CG : Addr) {CW : Addr} (xc : XC) (ds : List D) (Q : Bool → D → Prop) (h : wf_not_caught CG CW xc ds Q) : b_not_caught CG (Zd xc Q) (ds.map .da ++ List.replicate (5 - ds.length) .no) := by
  obtain ⟨g, s, e, x, rfl, hg, hl, he, q⟩ := h
  have hs := sizeLine_eq
  have fw := fly_walk hg
  have main : Q false (tI (e.filter fun v => !decide (v ∈ s))) → lcW (gSet 4) (wB (w2 (oIn true) (wVar 4) (wVar 1))) (wVar 4) [Sl.da (g.d CG CW), Sl.da (tI s), Sl.da (.int x), Sl.da (tI e), .no] (fun acc => Q false (D.tup acc)) (e.map D.int) [] := fun q => by
    refine lc_ofF e D.int (fun v => !decide (v ∈ s)) D.int (fun v hv k1 k2 h1 h2 => ?_) (by omega) ?_
    · simp [oIn_iT]
      by_cases hm : v ∈ s
      · exact .inl ⟨hm, h2 (by simpa using hm)⟩
      · exact .inr ⟨hm, h1 (by simpa using hm)⟩
    · simpa [tI] using q
  simp only [b_not_caught]
  simp only [sSeq, sIf]
  simp [oEq_s (tr_ok hg) w_ok]
  by_cases hf : g.tr = "walk"
  · refine .inr ⟨hf, ?_⟩
    rw [fw.mp hf] at q
    by_cases hm : x ∈ s
    · refine .inr ⟨hm, ?_⟩
      rw [if_neg (by simp [hm])] at q
      exact q
    · refine .inl ⟨hm, ?_⟩
      rw [if_pos (.inr hm)] at q
      exact main q
  · refine .inl ⟨hf, main ?_⟩
    rw [if_pos (.inl (by cases e : g.fly; exact absurd (fw.mpr e) hf; rfl))] at q
    exact q
theorem end_swift {n : Nat} {R : Nat → Nat → Bool} {bar : List Int} {x : Nat} : endP n R true bar x = reachP n R [(x : Int)] bar := by
  funext v
  unfold endP
  rw [if_pos rfl]
theorem end_step {n : Nat} {R : Nat → Nat → Bool} {bar : List Int} {x v : Nat} : endP n R false bar x v ↔ v = x ∨ R x v = true := by
  unfold endP
  rw [if_neg Bool.false_ne_true]
theorem bad_one {n x : Nat} (h : x < n) : firstBad n [(x : Int)] = none := by
  unfold firstBad badB
  simp
  omega
theorem p_ends_of (CG CW CU : Addr) (xc : XC) (ds : List D) (Q : Bool → D → Prop) (h : wf_ends_of CG CW xc ds Q) : b_ends_of CG CW CU (Zd xc Q) (ds.map .da ++ List.replicate (4 - ds.length) .no) := by
  obtain ⟨g, b, bar, x, rfl, hg, hl, hx, q⟩ := h
  have hs := sizeLine_eq
  have hi := hg.nm.hi
  have fs := sw_swift hg
  simp [b_ends_of, oEq_s (pc_ok hg) sw_ok, wCall]
  by_cases hf : g.pc = "swift"
  · refine .inr ⟨hf, ?_⟩
    rw [fs.mp hf, end_swift] at q
    refine ⟨by omega, true, true, g.names, g.c, g.L, b, [(x : Int)], bar, rfl, hi, hg.lo, hg.hi, by simp, hl, bad_one hx, fun r hr => ?_⟩
    rw [hr.eq]
    exact q
  · refine .inl ⟨hf, ?_⟩
    have e : g.sw = false := by cases e : g.sw; rfl; exact absurd (fs.mpr e) hf
    rw [e] at q
    refine steps_go13 hi hg.lo hx hg.ir ?_
    rw [row_listP (P := endP g.names.length (g.L (beatG g.c b)) false bar x) fun v _ => by rw [end_step, Bool.or_eq_true, decide_eq_true_eq]]
    exact q
theorem runs_filter {n : Nat} {R : Nat → Nat → Bool} {fly sw : Bool} {p s : List Int} {x : Nat} : (if fly = true ∨ (x : Int) ∉ s then (listP n (endP n R sw (barF fly p s) x)).filter (fun v => !decide (v ∈ s)) else []) = runsF n R fly sw p s x := by
  unfold runsF
  by_cases h : fly = true ∨ (x : Int) ∉ s
  · rw [if_pos h, filter_listP]
    refine listP_congr fun v _ => ?_
    unfold runP
    simp only [Bool.not_eq_true', decide_eq_false_iff_not]
    exact ⟨fun ⟨a, b⟩ => ⟨h, b, a⟩, fun ⟨_, b, a⟩ => ⟨a, b⟩⟩
  · rw [if_neg h]
    exact (listP_none fun v hv => h hv.1).symm
theorem bar_len {fly : Bool} {p s : List Int} (hp : p.length ≤ 100) (hs : s.length ≤ 100) : (barF fly p s).length ≤ 100 := by
  unfold barF
  split
  · exact Nat.le_trans (List.length_filter_le _ _) hp
  · exact hs
theorem p_runs_of (CG CW : Addr) (xc : XC) (ds : List D) (Q : Bool → D → Prop) (h : wf_runs_of CG CW xc ds Q) : b_runs_of CG CW (Zd xc Q) (ds.map .da ++ List.replicate (5 - ds.length) .no) := by
  obtain ⟨g, b, p, s, x, rfl, hg, hp, hl, hx, q⟩ := h
  have hs := sizeLine_eq
  simp [b_runs_of, wCall]
  refine ⟨g, p, s, rfl, hg, hp, hl, ?_⟩
  refine ⟨g, b, _, x, rfl, hg, bar_len hp hl, hx, ?_⟩
  refine ⟨g, s, _, x, rfl, hg, hl, Nat.le_trans (listP_len _ _) (by have := hg.nm.hi; omega), ?_⟩
  rw [runs_filter]
  exact q
theorem reach_bar {n : Nat} {R : Nat → Nat → Bool} {S bar bar' : List Int} (h : ∀ x, x ∈ bar ↔ x ∈ bar') : reachP n R S bar = reachP n R S bar' := by
  unfold reachP
  rw [show (fun x => x ∈ bar) = fun x => x ∈ bar' from funext fun x => propext (h x)]
def r_runs : Ws := (sSeq (sIf (wB (w2 oEq (wVar 2) (wC (.str "swift"))))
  (sSet 7 (wCall wf_law_reach [] (waCons (wVar 0) (waCons (wLst (waCons (wVar 5) waNil)) (waCons (wVar 6) waNil)))))
  (sSet 7 (w2 oPlus (wLst (waCons (wVar 5) waNil)) (wLc (wiS (w2 oIx (wVar 0) (wVar 5))) (gSet 8) (wB (w2 (oIn true) (wVar 8) (wVar 6))) (wVar 8) [8]))))
  (sRetF (wN oSortA (waCons (wLc (wiS (wVar 7)) (gSet 8) (wB (w2 (oIn true) (wVar 8) (wVar 4))) (wVar 8) [8]) waNil))))
theorem bar_sub {fly : Bool} {p s : List Int} {v : Int} (h : v ∈ barF fly p s) : v ∈ s := by
  unfold barF at h
  split at h
  · have := (List.mem_filter.mp h).2
    exact of_decide_eq_true this
  · exact h
theorem oIn_iL14 {i : Int} {a : List Int} {Q : D → Prop} {neg : Bool} : oIn neg (.int i) (iL a) Q = Q (.bl (if neg = true then !decide (i ∈ a) else decide (i ∈ a))) := by
  have h := any_int (i := i) a
  have o := ok_tI a
  unfold tI at o
  have o2 : (D.lst (a.map .int)).ok := o
  unfold iL
  simp only [oIn, ok_int, o2, h, true_and]
theorem go_runs {xc : XC} {Q : Bool → D → Prop} {n b : Nat} {L : Psg} {tr pc : Str} {p s bar : List Int} {x : Nat} {fly sw : Bool} {s7 s8 : Sl} (hn : n ≤ 8) (oc : PyData.strOk pc = true) (fs : pc = "swift" ↔ sw = true) (hl : s.length ≤ 50) (hx : x < n) (ir : L b x x = false) (hb : bar.length ≤ 50) (hm : ∀ v, v ∈ bar ↔ v ∈ barF fly p s) (ht : fly = true ∨ (x : Int) ∉ s) (q : ∀ fr : Bool, Q fr (iL (runsF n (L b) fly sw p s x))) :
    r_runs (Zd xc Q) [Sl.da (l2 ((List.range n).map fun u => rowF n (L b u))), Sl.da (.str tr), Sl.da (.str pc), Sl.da (tI p), Sl.da (tI s), Sl.da (.int x), Sl.da (iL bar), s7, s8] := by
  have hs := sizeLine_eq
  have fin : ∀ found : List Int, found.length ≤ 20 → found.Nodup → (∀ z, z ∈ found ∧ z ∉ s ↔ z ∈ runsF n (L b) fly sw p s x) → lcW (gSet 8) (wB (w2 (oIn true) (wVar 8) (wVar 4))) (wVar 8) [Sl.da (l2 ((List.range n).map fun u => rowF n (L b u))), Sl.da (.str tr), Sl.da (.str pc), Sl.da (tI p), Sl.da (tI s), Sl.da (.int x), Sl.da (iL bar), Sl.da (iL found), .no] (fun acc => oSortA [D.lst acc] fun d => Q true d) (found.map .int) [] := fun found lf nd mem => by
    refine lc_ofF found D.int (fun v => !decide (v ∈ s)) D.int (fun v hv k1 k2 h1 h2 => ?_) (by omega) ?_
    · simp [oIn_iT]
      by_cases hm : v ∈ s
      · exact .inl ⟨hm, h2 (by simpa using hm)⟩
      · exact .inr ⟨hm, h1 (by simpa using hm)⟩
    · refine ⟨found.filter fun v => !decide (v ∈ s), .inl rfl, fun ms hp hms => ?_⟩
      have e : ms = runsF n (L b) fly sw p s x := by
        refine sorted_one (hp.trans ?_) hms (rowF_srt _ _)
        refine (List.perm_ext_iff_of_nodup (nd.filter _) (nd_row13 _ _)).mpr fun z => ?_
        rw [List.mem_filter]
        refine Iff.trans ?_ (mem z)
        simp
      rw [e]
      exact q _
  simp [r_runs, oEq_s oc sw_ok]
  by_cases hf : pc = "swift"
  · refine .inr ⟨hf, by omega, ?_⟩
    refine ⟨n, b, L, [(x : Int)], bar, rfl, hn, by simp, by omega, bad_one hx, fun r hr => ?_⟩
    refine ⟨_, rfl, ?_⟩
    have er := hr.eq
    refine fin r (by rw [er]; exact Nat.le_trans (listP_len _ _) (by omega)) (by rw [er]; exact nd_row13 _ _) fun z => ?_
    rw [er]
    unfold runsF
    rw [mem_listP, mem_listP]
    constructor
    · rintro ⟨⟨v, h1, h2, rfl⟩, h3⟩
      refine ⟨v, h1, ⟨ht, h3, ?_⟩, rfl⟩
      rw [fs.mp hf, end_swift, ← reach_bar hm]
      exact h2
    · rintro ⟨v, h1, ⟨_, h3, h2⟩, rfl⟩
      rw [fs.mp hf, end_swift, ← reach_bar hm] at h2
      exact ⟨⟨v, h1, h2, rfl⟩, h3⟩
  · refine .inl ⟨hf, by omega, ?_⟩
    have esw : sw = false := by cases e : sw; rfl; exact absurd (fs.mpr e) hf
    refine ⟨_, row_at hx, ?_⟩
    refine lc_ofF (rowF n (L b x)) D.int (fun v => !decide (v ∈ bar)) D.int (fun v hv k1 k2 h1 h2 => ?_) (by have := row_len n (L b x); omega) ?_
    · simp [oIn_iL14]
      by_cases hm : v ∈ bar
      · exact .inl ⟨hm, h2 (by simpa using hm)⟩
      · exact .inr ⟨hm, h1 (by simpa using hm)⟩
    · have rl := row_len n (L b x)
      have fl := List.length_filter_le (fun v => !decide (v ∈ bar)) (rowF n (L b x))
      refine ⟨by simp; omega, ?_⟩
      refine fin (x :: (rowF n (L b x)).filter fun v => !decide (v ∈ bar)) (by simp; omega) (List.nodup_cons.mpr ⟨fun z => ?_, (nd_row13 _ _).filter _⟩) fun z => ?_
      · obtain ⟨v, _, h2, e⟩ := mem_row13.mp (List.mem_filter.mp z).1
        have : x = v := by omega
        rw [← this, ir] at h2
        cases h2
      · unfold runsF
        rw [mem_listP, List.mem_cons, List.mem_filter, mem_row13]
        constructor
        · rintro ⟨e | ⟨⟨v, h1, h2, e⟩, _⟩, h3⟩
          · exact ⟨x, hx, ⟨ht, e ▸ h3, by rw [esw, end_step]; exact .inl rfl⟩, e⟩
          · exact ⟨v, h1, ⟨ht, e ▸ h3, by rw [esw, end_step]; exact .inr h2⟩, e⟩
        · rintro ⟨v, h1, ⟨_, h3, h2⟩, rfl⟩
          rw [esw, end_step] at h2
          refine ⟨?_, h3⟩
          rcases h2 with e | h2
          · exact .inl (by rw [e])
          · refine .inr ⟨⟨v, h1, h2, rfl⟩, ?_⟩
            have : (v : Int) ∉ bar := fun z => h3 (bar_sub ((hm _).mp z))
            simpa using this
theorem p_law_runs (xc : XC) (ds : List D) (Q : Bool → D → Prop) (h : wf_law_runs xc ds Q) : b_law_runs (Zd xc Q) (ds.map .da ++ List.replicate (9 - ds.length) .no) := by
  obtain ⟨n, b, L, tr, pc, p, s, x, rfl, hn, htr, hpc, hp, hl, hx, ir, q⟩ := h
  have hs := sizeLine_eq
  have ot : PyData.strOk tr = true := by rcases htr with e | e <;> rw [e] <;> decide +kernel
  have oc : PyData.strOk pc = true := by rcases hpc with e | e <;> rw [e] <;> decide +kernel
  obtain ⟨fly, ef⟩ : ∃ fly, (tr == "fly") = fly := ⟨_, rfl⟩
  obtain ⟨sw, es⟩ : ∃ sw, (pc == "swift") = sw := ⟨_, rfl⟩
  have fw : tr = "walk" ↔ fly = false := by
    rw [← ef]
    rcases htr with e | e <;> rw [e] <;> decide
  have fs : pc = "swift" ↔ sw = true := by
    rw [← es]
    rcases hpc with e | e <;> rw [e] <;> decide
  rw [ef, es] at q
  have eb : b_law_runs = (sSeq (sIf (wAnd (wB (w2 oEq (wVar 1) (wC (.str "walk")))) (wB (w2 (oIn false) (wVar 5) (wVar 4)))) (sRetF (wLst waNil)) sNil) (sSeq (sSet 6 (wLc (wiS (wVar 4)) (gSet 8) (wOr (wB (w2 oEq (wVar 1) (wC (.str "walk")))) (wB (w2 (oIn false) (wVar 8) (wVar 3)))) (wVar 8) [8])) r_runs)) := rfl
  rw [eb]
  simp only [sSeq, sIf]
  simp [oEq_s ot w_ok]
  have bars : ∀ (ht : fly = true ∨ (x : Int) ∉ s), lcW (gSet 8) (wOr (wB (w2 oEq (wVar 1) (wC (.str "walk")))) (wB (w2 (oIn false) (wVar 8) (wVar 3)))) (wVar 8) [Sl.da (l2 ((List.range n).map fun u => rowF n (L b u))), Sl.da (.str tr), Sl.da (.str pc), Sl.da (tI p), Sl.da (tI s), Sl.da (.int x), .no, .no, .no]
      (fun acc => r_runs (Zd xc Q) [Sl.da (l2 ((List.range n).map fun u => rowF n (L b u))), Sl.da (.str tr), Sl.da (.str pc), Sl.da (tI p), Sl.da (tI s), Sl.da (.int x), Sl.da (.lst acc), .no, .no]) (s.map .int) [] := fun ht => by
    refine lc_ofF s D.int (fun v => !fly || decide (v ∈ p)) D.int (fun v hv k1 k2 h1 h2 => ?_) (by omega) ?_
    · simp only [gSet, wOr, wB, w2, wVar, wC]
      simp [oEq_s ot w_ok]
      by_cases hf : tr = "walk"
      · exact .inr ⟨hf, h1 (by rw [fw.mp hf]; rfl)⟩
      · have e : fly = true := by cases e : fly; exact absurd (fw.mpr e) hf; rfl
        refine .inl ⟨hf, ?_⟩
        by_cases hm : v ∈ p
        · exact .inr ⟨hm, h1 (by simp [hm])⟩
        · exact .inl ⟨hm, h2 (by simp [hm, e])⟩
    · exact go_runs (bar := s.filter fun v => !fly || decide (v ∈ p)) hn oc fs hl hx ir (Nat.le_trans (List.length_filter_le _ _) hl) (fun v => by
        unfold barF
        cases fly <;> simp [and_comm]) ht q
  by_cases hw : tr = "walk"
  · refine .inr ⟨hw, ?_⟩
    by_cases hm : (x : Int) ∈ s
    · refine .inr ⟨hm, ?_⟩
      have e : runsF n (L b) fly sw p s x = [] := listP_none fun v hv => by
        rcases hv.1 with h | h
        · rw [fw.mp hw] at h; cases h
        · exact h hm
      rw [e] at q
      exact q _
    · exact .inl ⟨hm, bars (.inr hm)⟩
  · exact .inl ⟨hw, bars (.inl (by cases e : fly; exact absurd (fw.mpr e) hw; rfl))⟩
theorem p_check_free (CG CW CN CU : Addr) (xc : XC) (ds : List D) (Q : Bool → D → Prop) (h : wf_check_free CG CW CU CN xc ds Q) : b_check_free CG CW CN CU (Zd xc Q) (ds.map .da ++ List.replicate (3 - ds.length) .no) := by
  obtain ⟨g, p, x, rfl, hg, hl, q1, q2, q3⟩ := h
  have hs := sizeLine_eq
  simp [b_check_free, raiseN13, wCall]
  refine ⟨g.names, g.c, _, x, rfl, hg.nm.hi, q1, fun h0 h1 => ?_⟩
  by_cases hm : x ∈ p
  · exact .inr ⟨hm, q2 ⟨⟨h0, h1⟩, hm⟩⟩
  · exact .inl ⟨hm, q3 ⟨⟨h0, h1⟩, hm⟩⟩
theorem p_check_round (CG CW CB CS : Addr) (xc : XC) (ds : List D) (Q : Bool → D → Prop) (h : wf_check_round CG CW CB CS xc ds Q) : b_check_round CG CW CB CS (Zd xc Q) (ds.map .da ++ List.replicate (4 - ds.length) .no) := by
  obtain ⟨g, b, p, s, rfl, hg, hl, hl2, q1, q2, q3⟩ := h
  have hs := sizeLine_eq
  simp [b_check_round, raiseN13, wCall]
  refine ⟨g, p, rfl, hg, hl, q1, fun e => ?_⟩
  refine ⟨g, b, p, rfl, hg, post_ok hg e, ?_⟩
  have hin : ∀ (l : List (List Int)) Q, oIn true (tI s) (pL l) Q = Q (.bl (!decide (s ∈ l))) := fun l Q => oInN_t
  simp [hin]
  by_cases hm : s ∈ sendsF g.names.length g.k g.fly (g.L (beatG g.c b)) p
  · exact .inl ⟨hm, q3 ⟨e, hm⟩⟩
  · exact .inr ⟨hm, q2 ⟨e, hm⟩⟩
theorem p_Game_runs (CG CW CB CS CN CU : Addr) (xc : XC) (ds : List D) (Q : Bool → D → Prop) (h : wf_Game_runs CG CW CB CS CU CN xc ds Q) : b_Game_runs CG CW CB CS CN CU (Zd xc Q) (ds.map .da ++ List.replicate (5 - ds.length) .no) := by
  obtain ⟨g, b, p, s, x, rfl, hg, hl, hl2, q1, q2, q3, q4, q5⟩ := h
  have hs := sizeLine_eq
  simp [b_Game_runs, wCall]
  refine ⟨g, b, p, s, rfl, hg, hl, hl2, q1, q2, fun e => ?_⟩
  refine ⟨g, p, x, rfl, hg, hl, fun h => q3 ⟨e, h⟩, fun h => q4 ⟨e, h⟩, fun h => ?_⟩
  exact ⟨g, b, p, s, x.toNat, by rw [show ((x.toNat : Nat) : Int) = x by omega], hg, hl, hl2, by omega, q5 ⟨e, h⟩⟩
end Tw.S

namespace Tw.S
open PySem PySem.Spec L2 PyProof.Rows Tw
def rowsG (g : Gm) (b : Int) : List (List Int) := (List.range g.names.length).map fun u => rowF g.names.length (g.L (beatG g.c b) u)
def rdD (g : Gm) (r : Int × List Int) : D := .tup [.int r.1, l2 (rowsG g r.1), tI r.2]
def RdOk (g : Gm) (p : List Int) (r : Int × List Int) : Prop := r.2 ∈ sendsF g.names.length g.k g.fly (g.L (beatG g.c r.1)) p
theorem oIx_tab (g : Gm) (b : Int) (hc : 1 ≤ g.c) (Q : D → Prop) : oIx (l3 (tabF g.names.length g.c g.L)) (.int (b % (g.c : Int))) Q = Q (l2 (rowsG g b)) := by
  unfold l3
  rw [oIx_l, atI_map, tab_beat hc]
  simp [rowsG]
theorem oIx_pL {l : List (List Int)} {i : Int} {p : List Int} (h : atI l i = some p) (Q : D → Prop) : oIx (pL l) (.int i) Q = Q (tI p) := by
  have eps : pL l = .lst (l.map tI) := rfl
  rw [eps, oIx_l, atI_tI h]
  simp
section
variable {CG CW CB CS CN CU : Addr} {xc : XC} {Q : Bool → D → Prop} {g : Gm} {S0 S1 S2 S5 S7 S9 S11 S12 S13 : Sl}
theorem go_rounds14 (hg : g.Ok) {p : List Int} {r0 r1 : Int × List Int} {s16 s17 s18 s19 s20 : Sl} (hp : PostOk g.names.length g.k g.fly p) (h0 : RdOk g p r0) (h1 : RdOk g p r1) (q : Q false (.bl true)) :
    r_law_k14_14 CG CW CB CS CN CU (Zd xc Q) [S0, Sl.da (sL g.names), S2, Sl.da (.int g.c), Sl.da (l3 (tabF g.names.length g.c g.L)), S5, Sl.da (.str g.tr), S7, Sl.da (.str g.pc), S9, Sl.da (g.d CG CW), S11, S12, S13, Sl.da (tI p), Sl.ow (.lst [rdD g r0, rdD g r1]), s16, s17, s18, s19, s20, .no, .no, .no] := by
  have hs := sizeLine_eq
  have hi := hg.nm.hi
  have e0 : atI [rdD g r0, rdD g r1] 0 = some (rdD g r0) := rfl
  have e1 : atI [rdD g r0, rdD g r1] 1 = some (rdD g r1) := rfl
  simp [r_law_k14_14, sFor, wPeek, e0, e1]
  refine ⟨by omega, ?_⟩
  refine for_same [r0, r1, r0] (rdD g) (fun ρ => ∃ a b d e f h i j, ρ = [S0, Sl.da (sL g.names), S2, Sl.da (.int g.c), Sl.da (l3 (tabF g.names.length g.c g.L)), S5, Sl.da (.str g.tr), S7, Sl.da (.str g.pc), S9, Sl.da (g.d CG CW), S11, S12, S13, Sl.da (tI p), Sl.ow (.lst [rdD g r0, rdD g r1]), a, b, d, e, f, h, i, j]) (fun r ρ N hr ⟨a, b, d, e, f, h, i, j, er⟩ hN => ?_) ⟨_, _, _, _, _, _, _, _, rfl⟩ fun ρ ⟨a, b, d, e, f, h, i, j, er⟩ => ?_
  · subst er
    have ok : RdOk g p r := by
      simp at hr
      rcases hr with rfl | rfl | rfl
      · exact h0
      · exact h1
      · exact h0
    have hps := sends_ok (R := g.L (beatG g.c r.1)) hg.tm hp
    have h8 : g.k ≤ 8 := by
      rcases hg.tm.2 with h | h
      · omega
      · exact h.2
    have os : PostOk g.names.length g.k g.fly r.2 := postOk_of hg.tm.1 h8 (hps.2 _ ok)
    have l1 := hp.2.1
    have l2' := os.2.1
    simp [rdD, gTupD, gsCons, gsNil, sFor]
    refine ⟨_, _, ⟨rfl, rfl⟩, _, _, rfl, _, _, rfl, rfl, by omega, ?_⟩
    refine for_same (List.range g.names.length) (fun i => .int (0 + (i : Nat))) (fun ρ => ∃ h i, ρ = [S0, Sl.da (sL g.names), S2, Sl.da (.int g.c), Sl.da (l3 (tabF g.names.length g.c g.L)), S5, Sl.da (.str g.tr), S7, Sl.da (.str g.pc), S9, Sl.da (g.d CG CW), S11, S12, S13, Sl.da (tI p), Sl.ow (.lst [rdD g r0, rdD g r1]), a, Sl.da (.int r.1), Sl.da (l2 (rowsG g r.1)), e, Sl.da (tI r.2), h, i, j]) (fun x ρ N2 hx ⟨h, i, er⟩ hN2 => ?_) ⟨_, _, rfl⟩ fun ρ ⟨h, i, er⟩ => ?_
    · subst er
      have hx := List.mem_range.mp hx
      simp [oIn_iT]
      by_cases hm : (x : Int) ∈ p
      · exact .inl ⟨hm, hN2 _ ⟨_, _, rfl⟩⟩
      · refine .inr ⟨hm, ?_⟩
        refine ⟨g.names.length, beatG g.c r.1, g.L, g.tr, g.pc, p, r.2, x, rfl, hi, gm_tr hg, hg.pc, by omega, by omega, hx, hg.ir _ _, fun fr => ?_⟩
        refine ⟨⟨_, rfl, rfl⟩, g, r.1, p, r.2, x, rfl, hg, by omega, by omega, fun z => ?_, fun z => ?_, fun z => ?_, fun z => ?_, fun _ => ?_⟩
        · rw [hp.1] at z; cases z
        · exact absurd ok z.2
        · exact absurd ⟨by omega, by omega⟩ z.2
        · exact absurd z.2.2 hm
        · refine same13 (g := tI (runsF g.names.length (g.L (beatG g.c r.1)) g.fly g.sw p r.2 x)) (d := tI (runsF g.names.length (g.L (beatG g.c r.1)) g.fly g.sw p r.2 x)) sm_ints ?_
          exact .inr ⟨rfl, hN2 _ ⟨_, _, rfl⟩⟩
    · subst er
      exact hN _ ⟨_, _, _, _, _, _, _, _, rfl⟩
  · subst er
    simp [r_law_k14_15]
    exact q
theorem dups_zero (k : Nat) : (List.replicate k (0 : Int)).eraseDups.length ≤ 1 := by
  have nd := nodup_dups _ (List.replicate k (0 : Int)) (Nat.le_refl _)
  have := List.Nodup.length_le_of_subset (l₂ := [(0 : Int)]) nd fun x hx => by
    have := (mem_dups _ _ (Nat.le_refl _)).mp hx
    rw [(List.mem_replicate.mp this).2]
    simp
  simpa using this
theorem loose_ne (hg : g.Ok) (h2 : g.tr = "walk" → 2 ≤ g.names.length) : (postsF g.names.length g.k g.fly).filter (fun q => decide (q.eraseDups.length < g.names.length)) ≠ [] := by
  have lo := hg.nm.lo
  rcases gm_tr hg with e | e
  · have ef := (fly_walk hg).mp e
    have : List.replicate g.k (0 : Int) ∈ postsF g.names.length g.k g.fly := by
      rw [ef]
      exact (mem_lev g.k _).mpr ⟨by simp, List.pairwise_replicate.mpr (.inr (by omega)), fun x hx => by have := (List.mem_replicate.mp hx).2; omega⟩
    have hd := dups_zero g.k
    exact List.ne_nil_of_mem (List.mem_filter.mpr ⟨this, decide_eq_true (by have := h2 e; omega)⟩)
  · have ef : g.fly = true := by unfold Gm.fly; rw [e]; decide
    have : [] ∈ postsF g.names.length g.k g.fly := by
      rw [ef]
      exact (mem_posts hg.tm.1).mpr (by unfold isPost isSet climbs; simp)
    exact List.ne_nil_of_mem (List.mem_filter.mpr ⟨this, decide_eq_true (by show 0 < _; omega)⟩)
theorem go_start14 (hg : g.Ok) (h2 : g.tr = "walk" → 2 ≤ g.names.length) {d2 : List Int} (ld2 : d2.length = 5) (b2 : ∀ x ∈ d2, 0 ≤ x ∧ x < 1000) (q : Q false (.bl true)) :
    r_law_k14_9 CG CW CB CS CN CU (Zd xc Q) [S0, Sl.da (sL g.names), S2, Sl.da (.int g.c), Sl.da (l3 (tabF g.names.length g.c g.L)), S5, Sl.da (.str g.tr), Sl.da (.int g.k), Sl.da (.str g.pc), S9, Sl.da (g.d CG CW), Sl.da (iL d2), .no, .no, .no, .no, .no, .no, .no, .no, .no, .no, .no, .no] := by
  have hs := sizeLine_eq
  have hi := hg.nm.hi
  have q6 : (g.tr == "fly") = g.fly := rfl
  have h8 : g.k ≤ 8 := by
    rcases hg.tm.2 with h | h
    · omega
    · exact h.2
  simp [r_law_k14_9, wCall]
  refine ⟨g.names.length, g.k, g.tr, rfl, hg.nm.lo, hi, hg.tm, ?_⟩
  rw [q6]
  have lne := loose_ne hg h2
  have psl : (postsF g.names.length g.k g.fly).length ≤ 1000 := posts_le hi hg.tm
  have pok : ∀ p ∈ postsF g.names.length g.k g.fly, PostOk g.names.length g.k g.fly p := fun p hp => postOk_of hg.tm.1 h8 hp
  generalize hps : postsF g.names.length g.k g.fly = ps at *
  have eps : pL ps = .lst (ps.map tI) := rfl
  simp [r_law_k14_10]
  refine lc_ofF ps tI (fun q => decide (q.eraseDups.length < g.names.length)) tI (fun p hp k1 k2 h1 h2 => ?_) (by omega) ?_
  · have op := pok p hp
    simp [wLenSetA]
    refine ⟨p, .inr rfl, by have := op.2.1; omega, ?_⟩
    by_cases hm : p.eraseDups.length < g.names.length
    · exact .inr ⟨hm, h1 (decide_eq_true hm)⟩
    · exact .inl ⟨by omega, h2 (decide_eq_false hm)⟩
  obtain ⟨loose, eloose⟩ : ∃ z, z = ps.filter (fun q => decide (q.eraseDups.length < g.names.length)) := ⟨_, rfl⟩
  rw [← eloose] at lne ⊢
  obtain ⟨y0, f0, _, _⟩ := drawn13 b2 0 (by omega) (by omega)
  obtain ⟨p, ep, hp⟩ := pick_at lne y0
  have lp := List.length_pos_iff.mpr lne
  have ll : loose.length ≤ 1000 := by
    rw [eloose]
    exact Nat.le_trans (List.length_filter_le _ _) psl
  have op : PostOk g.names.length g.k g.fly p := pok p (by rw [eloose] at hp; exact (List.mem_filter.mp hp).1)
  show r_law_k14_11 CG CW CB CS CN CU (Zd xc Q) [S0, Sl.da (sL g.names), S2, Sl.da (.int g.c), Sl.da (l3 (tabF g.names.length g.c g.L)), S5, Sl.da (.str g.tr), Sl.da (.int g.k), Sl.da (.str g.pc), S9, Sl.da (g.d CG CW), Sl.da (iL d2), Sl.da (pL ps), Sl.da (pL loose), .no, .no, .no, .no, .no, .no, .no, .no, .no, .no]
  simp [r_law_k14_11, f0, oIx_pL ep, lp]
  simp [r_law_k14_12]
  simp [r_law_k14_13, sFor]
  refine for_rng (fun i ρ => ∃ (rds : List (Int × List Int)) (a b d e : Sl), ρ = [S0, Sl.da (sL g.names), S2, Sl.da (.int g.c), Sl.da (l3 (tabF g.names.length g.c g.L)), S5, Sl.da (.str g.tr), Sl.da (.int g.k), Sl.da (.str g.pc), S9, Sl.da (g.d CG CW), Sl.da (iL d2), Sl.da (pL ps), Sl.da (pL loose), Sl.da (tI p), Sl.ow (.lst (rds.map (rdD g))), a, b, d, e, .no, .no, .no, .no] ∧ rds.length = i ∧ ∀ r ∈ rds, RdOk g p r) (fun i ρ N hi2 hI hN => ?step) (fun ρ hI => ?fin) ⟨[], _, _, _, _, rfl, rfl, by simp⟩
  case step =>
    obtain ⟨rds, s16, s17, s18, s19, er, el, eo⟩ := hI
    subst er
    obtain ⟨y1, f1, u1, v1⟩ := drawn13 b2 (1 + 2 * (i : Int)) (by omega) (by omega)
    obtain ⟨y2, f2, u2, v2⟩ := drawn13 b2 (2 + 2 * (i : Int)) (by omega) (by omega)
    have cm : CMul 2 (i : Int) := .inl ⟨by omega, by omega⟩
    simp [cm, f1, wCall]
    refine ⟨y1, rfl, u1, v1, fun b hb1 hb2 => ?_⟩
    have hso := sends_ok (n := g.names.length) (R := g.L (beatG g.c b)) hg.tm op
    have hle := sends_le (R := g.L (beatG g.c b)) hi hg.tm op
    have c0 := hg.lo
    simp [oIx_tab g b hg.lo]
    refine ⟨by omega, g.names.length, g.k, beatG g.c b, g.tr, g.L, p, by rw [← hps]; rfl, hg.nm.lo, hi, hg.tm, op, fun fr => ?_⟩
    rw [q6] at hso hle ⊢
    obtain ⟨due, hdue⟩ : ∃ z, z = sendsF g.names.length g.k g.fly (g.L (beatG g.c b)) p := ⟨_, rfl⟩
    rw [← hdue] at hso hle ⊢
    obtain ⟨far, efar, hfar⟩ := pick_at hso.1 y2
    have ldue := List.length_pos_iff.mpr hso.1
    simp [sApp, cm, f2, oIx_pL efar, ldue]
    refine ⟨by omega, ?_⟩
    have em : (rds ++ [(b, far)]).map (rdD g) = rds.map (rdD g) ++ [D.tup [.int b, l2 (rowsG g b), tI far]] := by rw [List.map_append]; rfl
    rw [← em]
    refine ⟨by omega, ?_⟩
    exact hN _ ⟨rds ++ [(b, far)], _, _, _, _, rfl, by simp [el], fun r hr => by
      rcases List.mem_append.mp hr with hr | hr
      · exact eo r hr
      · rw [List.mem_singleton.mp hr]
        show far ∈ sendsF _ _ _ _ _
        rw [← hdue]
        exact hfar⟩
  case fin =>
    obtain ⟨rds, s16, s17, s18, s19, er, el, eo⟩ := hI
    subst er
    match rds, el, eo with
    | [r0, r1], _, eo => exact go_rounds14 hg op (eo r0 (by simp)) (eo r1 (by simp)) q
end
theorem p_law_k14 (CG CW CB CS CN CU : Addr) (xc : XC) (ds : List D) (Q : Bool → D → Prop) (h : wf_law xc ds Q) : b_law_k14 CG CW CB CS CN CU (Zd xc Q) (ds.map .da ++ List.replicate (24 - ds.length) .no) := by
  obtain ⟨sc, rfl, hsc, q⟩ := h
  have hs := sizeLine_eq
  simp [b_law_k14, sAsg, wCall]
  refine ⟨sc, 0, 40, rfl, hsc, by omega, by omega, fun d0 l0 b0 => ⟨d0, rfl, b0, l0, fun names ts c hn ht h1 h4 => ?_⟩⟩
  simp [gLstD, gsCons, gsNil, D.isL]
  refine ⟨_, _, ⟨rfl, rfl⟩, _, _, rfl, _, _, rfl, _, _, rfl, rfl, ?_⟩
  have hi := hn.hi
  have lo := hn.lo
  have irr := psg_diag ht
  obtain ⟨L, hL⟩ : ∃ L, psgOf names ts = L := ⟨_, rfl⟩
  have et : nextsT names ts c = tabF names.length c L := by rw [← hL]; rfl
  simp [r_law_k14_1, wCall]
  refine ⟨sc, 1, 4, rfl, hsc, by omega, by omega, fun d1 l1 b1 => ?_⟩
  obtain ⟨x0, e0, a0, z0⟩ := drawn13 b1 0 (by omega) (by omega)
  obtain ⟨x1, e1, a1, z1⟩ := drawn13 b1 1 (by omega) (by omega)
  obtain ⟨x2, e2, a2, z2⟩ := drawn13 b1 2 (by omega) (by omega)
  obtain ⟨x3, e3, a3, z3⟩ := drawn13 b1 3 (by omega) (by omega)
  have key : ∀ (tr : Str) (k : Nat), teamOk k tr → (tr = "walk" → 2 ≤ names.length) → r_law_k14_5 CG CW CB CS CN CU (Zd xc Q) [Sl.da (.fls (sc.map .int)), Sl.da (sL names), Sl.da (tsL ts), Sl.da (.int c), Sl.da (l3 (nextsT names ts c)), Sl.da (iL d1), Sl.da (.str tr), Sl.da (.int k), .no, .no, .no, .no, .no, .no, .no, .no, .no, .no, .no, .no, .no, .no, .no, .no] := by
    intro tr k hk h2
    obtain ⟨pc, epc, hpc⟩ := pace_in (x2 % 2) (by omega) (by omega)
    obtain ⟨lt, elt, hlt⟩ := late_in (x3 % 5) (by omega) (by omega)
    simp [r_law_k14_5, e2, epc]
    refine ⟨by omega, ?_⟩
    simp [r_law_k14_6, e3, elt]
    refine ⟨by omega, ?_⟩
    have hg : Gm.Ok ⟨names, c, L, k, tr, pc, lt⟩ := ⟨hn, h1, h4, by rw [← hL]; exact irr, hk, hpc, hlt⟩
    simp [r_law_k14_7, wMakeK, gD_K_Web_2_beats, gD_K_Game_2_travel_pace_late]
    refine ⟨false, false, names, ts, c, rfl, hn, ht, h1, h4, ?_⟩
    have ew : D.obj CW [("places", .xtp (names.map .str)), ("beats", .int c), ("_nexts", t3 (nextsT names ts c)), ("_steps", t3 (stepsT (nextsT names ts c)))] = webP CW names c L := by rw [← hL]; rfl
    dsimp only
    rw [ew, et]
    refine ⟨CW, ⟨names, c, L, k, tr, pc, lt⟩, rfl, hg, ?_⟩
    simp [r_law_k14_8, wCall]
    refine ⟨sc, 2, 5, rfl, hsc, by omega, by omega, fun d2 ld2 b2 => ?_⟩
    exact go_start14 hg h2 ld2 b2 q
  simp [r_law_k14_2, r_law_k14_3, e1]
  simp only [r_law_k14_4, sSeq, sIf, wOr, wB]
  simp [e0, e1]
  have fl : r_law_k14_5 CG CW CB CS CN CU (Zd xc Q) [Sl.da (.fls (sc.map .int)), Sl.da (sL names), Sl.da (tsL ts), Sl.da (.int c), Sl.da (l3 (nextsT names ts c)), Sl.da (iL d1), Sl.da (.str "fly"), Sl.da (.int (1 + x1 % 8)), .no, .no, .no, .no, .no, .no, .no, .no, .no, .no, .no, .no, .no, .no, .no, .no] := by
    obtain ⟨k, ek⟩ : ∃ k : Nat, 1 + x1 % 8 = k := ⟨(1 + x1 % 8).toNat, by omega⟩
    rw [ek]
    exact key _ _ ⟨by omega, .inr ⟨rfl, by omega⟩⟩ fun z => by cases z
  by_cases c0 : x0 % 2 = 1
  · exact .inr ⟨c0, fl⟩
  · refine .inl ⟨c0, ?_⟩
    by_cases c1 : names.length = 1
    · exact .inr ⟨by omega, fl⟩
    · refine .inl ⟨by omega, ?_⟩
      obtain ⟨k, ek⟩ : ∃ k : Nat, 1 + x1 % 4 = k := ⟨(1 + x1 % 4).toNat, by omega⟩
      rw [ek]
      exact key _ _ ⟨by omega, .inl ⟨rfl, by omega⟩⟩ fun _ => by omega
end Tw.S

namespace Tw.k14
open PySem PySem.Spec L2 PyProof.Rows Tw Tw.S

structure Txt (K : PySem.W.Frag) (mg : Str → Option Value) (C_Game : Addr) (C_Web : Addr) (C_BadPost : Addr) (C_CannotSend : Addr) (C_NotFree : Addr) (C_TagError : Addr) (C_UnknownPlace : Addr) : Prop where
  b_abs : mg "abs" = none
  b_all : mg "all" = none
  b_bool : mg "bool" = none
  b_enumerate : mg "enumerate" = none
  b_int : mg "int" = none
  b_isinstance : mg "isinstance" = none
  b_len : mg "len" = none
  b_list : mg "list" = none
  b_range : mg "range" = none
  b_set : mg "set" = none
  b_sorted : mg "sorted" = none
  b_str : mg "str" = none
  b_tuple : mg "tuple" = none
  b_zip : mg "zip" = none
  g_LETTERS : ∃ u, mg "LETTERS" = some u ∧ RelV (.str "abcdefghijklmnopqrstuvwxyz") u
  c_Game : Cls K C_Game
  c_Web : Cls K C_Web
  r_BadPost : mg "BadPost" = some (.ref C_BadPost)
  r_CannotSend : mg "CannotSend" = some (.ref C_CannotSend)
  r_NotFree : mg "NotFree" = some (.ref C_NotFree)
  r_TagError : mg "TagError" = some (.ref C_TagError)
  r_UnknownPlace : mg "UnknownPlace" = some (.ref C_UnknownPlace)
  n_Game_late : NoAttr K C_Game "late"
  n_Game_pace : NoAttr K C_Game "pace"
  n_Game_seekers : NoAttr K C_Game "seekers"
  n_Game_travel : NoAttr K C_Game "travel"
  n_Game_web : NoAttr K C_Game "web"
  n_Web__nexts : NoAttr K C_Web "_nexts"
  n_Web__steps : NoAttr K C_Web "_steps"
  n_Web_beats : NoAttr K C_Web "beats"
  n_Web_places : NoAttr K C_Web "places"
abbrev N_law_names : List Str := ["pool", "at", "count", "letters", "extra", "fill", "spot", "stride", "shift", "names", "k", "letter"]
theorem sc_law_names : FnScope N_law_names ["pool", "at", "count"] (defScope s_law_names) := ⟨rfl, rfl, rfl, by decide +kernel, rfl, by decide +kernel, by decide +kernel⟩
theorem d_law_names {P : Program} {w : World} {K : PySem.W.Frag} {mg : Str → Option Value} {base : Heap} {C_Game : Addr} {C_Web : Addr} {C_BadPost : Addr} {C_CannotSend : Addr} {C_NotFree : Addr} {C_TagError : Addr} {C_UnknownPlace : Addr} (T : Txt K mg C_Game C_Web C_BadPost C_CannotSend C_NotFree C_TagError C_UnknownPlace)  {f : Addr} {cdv : Value} {A : Around} {outer : List Env} {s : Shared} {H : Hp} {E : XK}
    (hr : Room 0 (A.deeper (envOfC "_law_names" (defScope s_law_names) s.heap.objs.size f cdv))) :
    BJ E (cxOf (L2.CX P w) P w K mg base N_law_names "_law_names" (defScope s_law_names) f cdv A outer s H E) (defBody s_law_names) b_law_names := by
  refine bj_cons ?_ ?_
  · refine sj_name (i := 3) sc_law_names.nd rfl (by first | exact Or.inl rfl | exact Or.inr rfl) ?_
    exact ej_str
  · refine bj_cons ?_ ?_
    · refine sj_name (i := 4) sc_law_names.nd rfl (by first | exact Or.inl rfl | exact Or.inr rfl) ?_
      exact ej_int
    · refine bj_cons ?_ ?_
      · refine sj_if ?_ ?_ ?_
        · refine tj_eq (ka := .e) (kb := .e) hr.units ?_ ?_
          · refine ej_mod (ka := .e) (kb := .e) ?_ ?_
            · refine ej_div (ka := .e) (kb := .e) ?_ ?_
              · refine ej_int1 (k := .e) (by rfl) T.b_int ?_
                refine ej_ix (ka := .e) (kb := .e) ?_ ?_ (fun _ _ => rfl)
                · exact ej_var (pv 0)
                · exact ej_var (pv 1)
              · exact ej_int
            · exact ej_int
          · exact ej_int
        · refine bj_one ?_
          refine sj_name (i := 4) sc_law_names.nd rfl (by first | exact Or.inl rfl | exact Or.inr rfl) ?_
          refine ej_mod (ka := .e) (kb := .e) ?_ ?_
          · refine ej_int1 (k := .e) (by rfl) T.b_int ?_
            refine ej_ix (ka := .e) (kb := .e) ?_ ?_ (fun _ _ => rfl)
            · exact ej_var (pv 0)
            · exact ej_var (pv 1)
          · exact ej_int
        · exact bj_nil
      · refine bj_cons ?_ ?_
        · refine sj_name (i := 5) sc_law_names.nd rfl (by first | exact Or.inl rfl | exact Or.inr rfl) ?_
          refine ej_ix (ka := .e) (kb := .e) ?_ ?_ (fun _ _ => rfl)
          · exact ej_var (pv 3)
          · refine ej_mod (ka := .e) (kb := .e) ?_ ?_
            · refine ej_int1 (k := .e) (by rfl) T.b_int ?_
              refine ej_ix (ka := .e) (kb := .e) ?_ ?_ (fun _ _ => rfl)
              · exact ej_var (pv 0)
              · refine ej_plus (ka := .e) (kb := .e) ?_ ?_
                · exact ej_var (pv 1)
                · exact ej_int
            · exact ej_int
        · refine bj_cons ?_ ?_
          · refine sj_name (i := 6) sc_law_names.nd rfl (by first | exact Or.inl rfl | exact Or.inr rfl) ?_
            refine ej_mod (ka := .e) (kb := .e) ?_ ?_
            · refine ej_div (ka := .e) (kb := .e) ?_ ?_
              · refine ej_int1 (k := .e) (by rfl) T.b_int ?_
                refine ej_ix (ka := .e) (kb := .e) ?_ ?_ (fun _ _ => rfl)
                · exact ej_var (pv 0)
                · refine ej_plus (ka := .e) (kb := .e) ?_ ?_
                  · exact ej_var (pv 1)
                  · exact ej_int
              · exact ej_int
            · refine ej_plus (ka := .e) (kb := .e) ?_ ?_
              · exact ej_var (pv 4)
              · exact ej_int
          · refine bj_cons ?_ ?_
            · refine sj_name (i := 7) sc_law_names.nd rfl (by first | exact Or.inl rfl | exact Or.inr rfl) ?_
              refine ej_plus (ka := .e) (kb := .e) ?_ ?_
              · exact ej_int
              · refine ej_mod (ka := .e) (kb := .e) ?_ ?_
                · refine ej_int1 (k := .e) (by rfl) T.b_int ?_
                  refine ej_ix (ka := .e) (kb := .e) ?_ ?_ (fun _ _ => rfl)
                  · exact ej_var (pv 0)
                  · refine ej_plus (ka := .e) (kb := .e) ?_ ?_
                    · exact ej_var (pv 1)
                    · exact ej_int
                · exact ej_int
            · refine bj_cons ?_ ?_
              · refine sj_name (i := 8) sc_law_names.nd rfl (by first | exact Or.inl rfl | exact Or.inr rfl) ?_
                refine ej_mod (ka := .e) (kb := .e) ?_ ?_
                · refine ej_div (ka := .e) (kb := .e) ?_ ?_
                  · refine ej_int1 (k := .e) (by rfl) T.b_int ?_
                    refine ej_ix (ka := .e) (kb := .e) ?_ ?_ (fun _ _ => rfl)
                    · exact ej_var (pv 0)
                    · refine ej_plus (ka := .e) (kb := .e) ?_ ?_
                      · exact ej_var (pv 1)
                      · exact ej_int
                  · exact ej_int
                · exact ej_int
              · refine bj_cons ?_ ?_
                · refine sj_nameO (i := 9) sc_law_names.nd rfl (by first | exact Or.inl rfl | exact Or.inr rfl) ?_
                  refine ej_lst ?_
                  exact aj_nil
                · refine bj_cons ?_ ?_
                  · refine sj_for (tgs := [10]) (passes_of rfl) rfl ?_ ?_ ?_
                    · refine ij_rng1 (ka := .e) ?_ (by rfl) T.b_range
                      exact ej_var (pv 2)
                    · exact gj_name (pg_name (i := 10) sc_law_names.nd rfl (by first | exact Or.inl rfl | exact Or.inr rfl))
                    · refine bj_cons ?_ ?_
                      · refine sj_name (i := 11) sc_law_names.nd rfl (by first | exact Or.inl rfl | exact Or.inr rfl) ?_
                        refine ej_ix (ka := .e) (kb := .e) ?_ ?_ (fun _ _ => rfl)
                        · exact ej_var (pv 3)
                        · refine ej_mod (ka := .e) (kb := .e) ?_ ?_
                          · refine ej_plus (ka := .e) (kb := .e) ?_ ?_
                            · refine ej_mul (ka := .e) (kb := .e) ?_ ?_
                              · exact ej_var (pv 10)
                              · exact ej_var (pv 7)
                            · exact ej_var (pv 8)
                          · exact ej_int
                      · refine bj_one ?_
                        refine sj_append (pv 9) ?_
                        refine ej_plus (ka := .e) (kb := .e) ?_ ?_
                        · refine ej_plus (ka := .e) (kb := .e) ?_ ?_
                          · refine ej_mul (ka := .e) (kb := .e) ?_ ?_
                            · exact ej_var (pv 5)
                            · exact ej_var (pv 6)
                          · exact ej_var (pv 11)
                        · refine ej_mul (ka := .e) (kb := .e) ?_ ?_
                          · exact ej_var (pv 5)
                          · refine ej_sub (ka := .e) (kb := .e) ?_ ?_
                            · exact ej_var (pv 4)
                            · exact ej_var (pv 6)
                  · refine bj_one ?_
                    exact sj_retO (pv 9)
abbrev N_law_table : List Str := ["names", "ties", "cycle", "table", "beat", "row", "u", "nexts", "first", "second", "way", "when"]
theorem sc_law_table : FnScope N_law_table ["names", "ties", "cycle"] (defScope s_law_table) := ⟨rfl, rfl, rfl, by decide +kernel, rfl, by decide +kernel, by decide +kernel⟩
theorem d_law_table {P : Program} {w : World} {K : PySem.W.Frag} {mg : Str → Option Value} {base : Heap} {C_Game : Addr} {C_Web : Addr} {C_BadPost : Addr} {C_CannotSend : Addr} {C_NotFree : Addr} {C_TagError : Addr} {C_UnknownPlace : Addr} (T : Txt K mg C_Game C_Web C_BadPost C_CannotSend C_NotFree C_TagError C_UnknownPlace)  {f : Addr} {cdv : Value} {A : Around} {outer : List Env} {s : Shared} {H : Hp} {E : XK}
    (hr : Room 0 (A.deeper (envOfC "_law_table" (defScope s_law_table) s.heap.objs.size f cdv))) :
    BJ E (cxOf (L2.CX P w) P w K mg base N_law_table "_law_table" (defScope s_law_table) f cdv A outer s H E) (defBody s_law_table) b_law_table := by
  refine bj_cons ?_ ?_
  · refine sj_nameO (i := 3) sc_law_table.nd rfl (by first | exact Or.inl rfl | exact Or.inr rfl) ?_
    refine ej_lst ?_
    exact aj_nil
  · refine bj_cons ?_ ?_
    · refine sj_for (tgs := [4]) (passes_of rfl) rfl ?_ ?_ ?_
      · refine ij_rng1 (ka := .e) ?_ (by rfl) T.b_range
        exact ej_var (pv 2)
      · exact gj_name (pg_name (i := 4) sc_law_table.nd rfl (by first | exact Or.inl rfl | exact Or.inr rfl))
      · refine bj_cons ?_ ?_
        · refine sj_nameO (i := 5) sc_law_table.nd rfl (by first | exact Or.inl rfl | exact Or.inr rfl) ?_
          refine ej_lst ?_
          exact aj_nil
        · refine bj_cons ?_ ?_
          · refine sj_for (tgs := [6]) (passes_of rfl) rfl ?_ ?_ ?_
            · refine ij_rng1 (ka := .e) ?_ (by rfl) T.b_range
              refine ej_len (k := .e) (by rfl) T.b_len ?_
              exact ej_var (pv 0)
            · exact gj_name (pg_name (i := 6) sc_law_table.nd rfl (by first | exact Or.inl rfl | exact Or.inr rfl))
            · refine bj_cons ?_ ?_
              · refine sj_nameO (i := 7) sc_law_table.nd rfl (by first | exact Or.inl rfl | exact Or.inr rfl) ?_
                refine ej_lst ?_
                exact aj_nil
              · refine bj_cons ?_ ?_
                · refine sj_for (tgs := [8, 9, 10, 11]) (passes_of rfl) rfl ?_ ?_ ?_
                  · refine ij_seq ?_
                    exact ej_var (pv 1)
                  · refine gj_tup (n := 4) rfl ?_
                    refine gsj_name ?_ ?_
                    · exact gj_name (pg_name (i := 8) sc_law_table.nd rfl (by first | exact Or.inl rfl | exact Or.inr rfl))
                    · refine gsj_name ?_ ?_
                      · exact gj_name (pg_name (i := 9) sc_law_table.nd rfl (by first | exact Or.inl rfl | exact Or.inr rfl))
                      · refine gsj_name ?_ ?_
                        · exact gj_name (pg_name (i := 10) sc_law_table.nd rfl (by first | exact Or.inl rfl | exact Or.inr rfl))
                        · refine gsj_name ?_ ?_
                          · exact gj_name (pg_name (i := 11) sc_law_table.nd rfl (by first | exact Or.inl rfl | exact Or.inr rfl))
                          · exact gsj_nil
                  · refine bj_cons ?_ ?_
                    · refine sj_if ?_ ?_ ?_
                      · refine tj_tw ?_
                        refine twj_and ?_ ?_
                        · refine tj_in (ka := .e) (kb := .e) (units65 hr) ?_ ?_
                          · exact ej_var (pv 4)
                          · exact ej_var (pv 11)
                        · refine twj_and1 ?_
                          refine tj_eq (ka := .e) (kb := .e) hr.units ?_ ?_
                          · exact ej_var (pv 8)
                          · refine ej_ix (ka := .e) (kb := .e) ?_ ?_ (fun _ _ => rfl)
                            · exact ej_var (pv 0)
                            · exact ej_var (pv 6)
                      · refine bj_one ?_
                        refine sj_append (pv 7) ?_
                        refine ej_idx (k := .e) (units65 hr) ?_ ?_
                        · exact ej_var (pv 0)
                        · exact ej_var (pv 9)
                      · exact bj_nil
                    · refine bj_one ?_
                      refine sj_if ?_ ?_ ?_
                      · refine tj_tw ?_
                        refine twj_and ?_ ?_
                        · refine tj_in (ka := .e) (kb := .e) (units65 hr) ?_ ?_
                          · exact ej_var (pv 4)
                          · exact ej_var (pv 11)
                        · refine twj_and ?_ ?_
                          · refine tj_eq (ka := .e) (kb := .e) hr.units ?_ ?_
                            · exact ej_var (pv 9)
                            · refine ej_ix (ka := .e) (kb := .e) ?_ ?_ (fun _ _ => rfl)
                              · exact ej_var (pv 0)
                              · exact ej_var (pv 6)
                          · refine twj_and1 ?_
                            refine tj_eq (ka := .e) (kb := .e) hr.units ?_ ?_
                            · exact ej_var (pv 10)
                            · exact ej_str
                      · refine bj_one ?_
                        refine sj_append (pv 7) ?_
                        refine ej_idx (k := .e) (units65 hr) ?_ ?_
                        · exact ej_var (pv 0)
                        · exact ej_var (pv 8)
                      · exact bj_nil
                · refine bj_one ?_
                  refine sj_append (pv 5) ?_
                  refine ej_toE ?_
                  refine ej_sortSet (k := .o) ?_ rfl (by rfl) T.b_sorted (by rfl) T.b_set
                  exact ej_peek (pv 7)
          · refine bj_one ?_
            refine sj_frz (i := 5) ?_
            refine sj_append (pv 3) ?_
            exact ej_var (pv 5)
    · refine bj_one ?_
      exact sj_retO (pv 3)
abbrev N_law_way_ties : List Str := ["pool", "at", "names", "cycle", "kind", "powers", "ties", "u", "v", "digit", "ways", "way", "first", "second", "word", "when", "beat"]
theorem sc_law_way_ties : FnScope N_law_way_ties ["pool", "at", "names", "cycle", "kind"] (defScope s_law_way_ties) := ⟨rfl, rfl, rfl, by decide +kernel, rfl, by decide +kernel, by decide +kernel⟩
theorem d_law_way_ties {P : Program} {w : World} {K : PySem.W.Frag} {mg : Str → Option Value} {base : Heap} {C_Game : Addr} {C_Web : Addr} {C_BadPost : Addr} {C_CannotSend : Addr} {C_NotFree : Addr} {C_TagError : Addr} {C_UnknownPlace : Addr} (T : Txt K mg C_Game C_Web C_BadPost C_CannotSend C_NotFree C_TagError C_UnknownPlace)  {f : Addr} {cdv : Value} {A : Around} {outer : List Env} {s : Shared} {H : Hp} {E : XK}
    (hr : Room 0 (A.deeper (envOfC "_law_way_ties" (defScope s_law_way_ties) s.heap.objs.size f cdv))) :
    BJ E (cxOf (L2.CX P w) P w K mg base N_law_way_ties "_law_way_ties" (defScope s_law_way_ties) f cdv A outer s H E) (defBody s_law_way_ties) b_law_way_ties := by
  refine bj_cons ?_ ?_
  · refine sj_name (i := 5) sc_law_way_ties.nd rfl (by first | exact Or.inl rfl | exact Or.inr rfl) ?_
    refine ej_toE ?_
    refine ej_lst ?_
    refine aj_consE ?_ ?_
    · exact ej_int
    · refine aj_consE ?_ ?_
      · exact ej_int
      · refine aj_consE ?_ ?_
        · exact ej_int
        · refine aj_consE ?_ ?_
          · exact ej_int
          · exact aj_nil
  · refine bj_cons ?_ ?_
    · refine sj_nameO (i := 6) sc_law_way_ties.nd rfl (by first | exact Or.inl rfl | exact Or.inr rfl) ?_
      refine ej_lst ?_
      exact aj_nil
    · refine bj_cons ?_ ?_
      · refine sj_for (tgs := [7]) (passes_of rfl) rfl ?_ ?_ ?_
        · refine ij_rng1 (ka := .e) ?_ (by rfl) T.b_range
          refine ej_len (k := .e) (by rfl) T.b_len ?_
          exact ej_var (pv 2)
        · exact gj_name (pg_name (i := 7) sc_law_way_ties.nd rfl (by first | exact Or.inl rfl | exact Or.inr rfl))
        · refine bj_one ?_
          refine sj_for (tgs := [8]) (passes_of rfl) rfl ?_ ?_ ?_
          · refine ij_rng1 (ka := .e) ?_ (by rfl) T.b_range
            exact ej_var (pv 7)
          · exact gj_name (pg_name (i := 8) sc_law_way_ties.nd rfl (by first | exact Or.inl rfl | exact Or.inr rfl))
          · refine bj_cons ?_ ?_
            · refine sj_name (i := 9) sc_law_way_ties.nd rfl (by first | exact Or.inl rfl | exact Or.inr rfl) ?_
              refine ej_int1 (k := .e) (by rfl) T.b_int ?_
              refine ej_ix (ka := .e) (kb := .e) ?_ ?_ (fun _ _ => rfl)
              · exact ej_var (pv 0)
              · refine ej_plus (ka := .e) (kb := .e) ?_ ?_
                · refine ej_plus (ka := .e) (kb := .e) ?_ ?_
                  · exact ej_var (pv 1)
                  · refine ej_div (ka := .e) (kb := .e) ?_ ?_
                    · refine ej_mul (ka := .e) (kb := .e) ?_ ?_
                      · exact ej_var (pv 7)
                      · refine ej_sub (ka := .e) (kb := .e) ?_ ?_
                        · exact ej_var (pv 7)
                        · exact ej_int
                    · exact ej_int
                · exact ej_var (pv 8)
            · refine bj_cons ?_ ?_
              · refine sj_name (i := 10) sc_law_way_ties.nd rfl (by first | exact Or.inl rfl | exact Or.inr rfl) ?_
                refine ej_toE ?_
                refine ej_comp (own := [("beat", 16)]) (tgs := [16]) rfl sc_law_way_ties.nd (blkOk_by (by rfl)) ?_ (by decide) ?_ ?_ ?_
                · refine ij_rng1 (ka := .e) ?_ (by rfl) T.b_range
                  exact ej_var (pv 3)
                · refine fun _ _ _ _ _ => ?_
                  exact gj_name (pg_name (i := 16) sc_law_way_ties.nd rfl (by first | exact Or.inl rfl | exact Or.inr rfl))
                · refine fun _ _ _ _ _ => ?_
                  exact tsj_nil
                · refine fun _ _ _ _ _ => ?_
                  refine ej_mul (ka := .e) (kb := .e) ?_ ?_
                  · exact ej_int
                  · refine ej_mod (ka := .e) (kb := .e) ?_ ?_
                    · exact ej_var (pv 9)
                    · exact ej_int
              · refine bj_cons ?_ ?_
                · refine sj_if ?_ ?_ ?_
                  · refine tj_eq (ka := .e) (kb := .e) hr.units ?_ ?_
                    · exact ej_var (pv 4)
                    · exact ej_int
                  · refine bj_one ?_
                    refine sj_name (i := 10) sc_law_way_ties.nd rfl (by first | exact Or.inl rfl | exact Or.inr rfl) ?_
                    refine ej_toE ?_
                    refine ej_comp (own := [("beat", 16)]) (tgs := [16]) rfl sc_law_way_ties.nd (blkOk_by (by rfl)) ?_ (by decide) ?_ ?_ ?_
                    · refine ij_rng1 (ka := .e) ?_ (by rfl) T.b_range
                      exact ej_var (pv 3)
                    · refine fun _ _ _ _ _ => ?_
                      exact gj_name (pg_name (i := 16) sc_law_way_ties.nd rfl (by first | exact Or.inl rfl | exact Or.inr rfl))
                    · refine fun _ _ _ _ _ => ?_
                      exact tsj_nil
                    · refine fun _ _ _ _ _ => ?_
                      refine ej_mod (ka := .e) (kb := .e) ?_ ?_
                      · exact ej_var (pv 9)
                      · exact ej_int
                  · exact bj_nil
                · refine bj_cons ?_ ?_
                  · refine sj_if ?_ ?_ ?_
                    · refine tj_eq (ka := .e) (kb := .e) hr.units ?_ ?_
                      · exact ej_var (pv 4)
                      · exact ej_int
                    · refine bj_one ?_
                      refine sj_name (i := 10) sc_law_way_ties.nd rfl (by first | exact Or.inl rfl | exact Or.inr rfl) ?_
                      refine ej_toE ?_
                      refine ej_comp (own := [("beat", 16)]) (tgs := [16]) rfl sc_law_way_ties.nd (blkOk_by (by rfl)) ?_ (by decide) ?_ ?_ ?_
                      · refine ij_rng1 (ka := .e) ?_ (by rfl) T.b_range
                        exact ej_var (pv 3)
                      · refine fun _ _ _ _ _ => ?_
                        exact gj_name (pg_name (i := 16) sc_law_way_ties.nd rfl (by first | exact Or.inl rfl | exact Or.inr rfl))
                      · refine fun _ _ _ _ _ => ?_
                        exact tsj_nil
                      · refine fun _ _ _ _ _ => ?_
                        refine ej_mod (ka := .e) (kb := .e) ?_ ?_
                        · refine ej_div (ka := .e) (kb := .e) ?_ ?_
                          · exact ej_var (pv 9)
                          · refine ej_ix (ka := .e) (kb := .e) ?_ ?_ (fun _ _ => rfl)
                            · exact ej_var (pv 5)
                            · exact ej_var (pv 16)
                        · exact ej_int
                    · exact bj_nil
                  · refine bj_one ?_
                    refine sj_for (tgs := [11, 12, 13, 14]) (passes_of rfl) rfl ?_ ?_ ?_
                    · refine ij_seq ?_
                      refine ej_toE ?_
                      refine ej_lst ?_
                      refine aj_consE ?_ ?_
                      · refine ej_tup ?_
                        refine aj_consE ?_ ?_
                        · exact ej_int
                        · refine aj_consE ?_ ?_
                          · exact ej_var (pv 8)
                          · refine aj_consE ?_ ?_
                            · exact ej_var (pv 7)
                            · refine aj_consE ?_ ?_
                              · exact ej_str
                              · exact aj_nil
                      · refine aj_consE ?_ ?_
                        · refine ej_tup ?_
                          refine aj_consE ?_ ?_
                          · exact ej_int
                          · refine aj_consE ?_ ?_
                            · exact ej_var (pv 8)
                            · refine aj_consE ?_ ?_
                              · exact ej_var (pv 7)
                              · refine aj_consE ?_ ?_
                                · exact ej_str
                                · exact aj_nil
                        · refine aj_consE ?_ ?_
                          · refine ej_tup ?_
                            refine aj_consE ?_ ?_
                            · exact ej_int
                            · refine aj_consE ?_ ?_
                              · exact ej_var (pv 7)
                              · refine aj_consE ?_ ?_
                                · exact ej_var (pv 8)
                                · refine aj_consE ?_ ?_
                                  · exact ej_str
                                  · exact aj_nil
                          · exact aj_nil
                    · refine gj_tup (n := 4) rfl ?_
                      refine gsj_name ?_ ?_
                      · exact gj_name (pg_name (i := 11) sc_law_way_ties.nd rfl (by first | exact Or.inl rfl | exact Or.inr rfl))
                      · refine gsj_name ?_ ?_
                        · exact gj_name (pg_name (i := 12) sc_law_way_ties.nd rfl (by first | exact Or.inl rfl | exact Or.inr rfl))
                        · refine gsj_name ?_ ?_
                          · exact gj_name (pg_name (i := 13) sc_law_way_ties.nd rfl (by first | exact Or.inl rfl | exact Or.inr rfl))
                          · refine gsj_name ?_ ?_
                            · exact gj_name (pg_name (i := 14) sc_law_way_ties.nd rfl (by first | exact Or.inl rfl | exact Or.inr rfl))
                            · exact gsj_nil
                    · refine bj_cons ?_ ?_
                      · refine sj_name (i := 15) sc_law_way_ties.nd rfl (by first | exact Or.inl rfl | exact Or.inr rfl) ?_
                        refine ej_tuple1 (k := .f) (by rfl) T.b_tuple ?_
                        refine ej_comp (own := [("beat", 16)]) (tgs := [16]) rfl sc_law_way_ties.nd (blkOk_by (by rfl)) ?_ (by decide) ?_ ?_ ?_
                        · refine ij_rng1 (ka := .e) ?_ (by rfl) T.b_range
                          exact ej_var (pv 3)
                        · refine fun _ _ _ _ _ => ?_
                          exact gj_name (pg_name (i := 16) sc_law_way_ties.nd rfl (by first | exact Or.inl rfl | exact Or.inr rfl))
                        · refine fun _ _ _ _ _ => ?_
                          refine tsj_one ?_
                          refine tj_eq (ka := .e) (kb := .e) hr.units ?_ ?_
                          · refine ej_ix (ka := .e) (kb := .e) ?_ ?_ (fun _ _ => rfl)
                            · exact ej_var (pv 10)
                            · exact ej_var (pv 16)
                          · exact ej_var (pv 11)
                        · refine fun _ _ _ _ _ => ?_
                          exact ej_var (pv 16)
                      · refine bj_one ?_
                        refine sj_if ?_ ?_ ?_
                        · refine tj_ne (ka := .e) (kb := .e) hr.units ?_ ?_
                          · exact ej_var (pv 15)
                          · refine ej_tup ?_
                            exact aj_nil
                        · refine bj_one ?_
                          refine sj_append (pv 6) ?_
                          refine ej_tup ?_
                          refine aj_consE ?_ ?_
                          · refine ej_ix (ka := .e) (kb := .e) ?_ ?_ (fun _ _ => rfl)
                            · exact ej_var (pv 2)
                            · exact ej_var (pv 12)
                          · refine aj_consE ?_ ?_
                            · refine ej_ix (ka := .e) (kb := .e) ?_ ?_ (fun _ _ => rfl)
                              · exact ej_var (pv 2)
                              · exact ej_var (pv 13)
                            · refine aj_consE ?_ ?_
                              · exact ej_var (pv 14)
                              · refine aj_consE ?_ ?_
                                · exact ej_var (pv 15)
                                · exact aj_nil
                        · exact bj_nil
      · refine bj_one ?_
        exact sj_retO (pv 6)
abbrev N_law_any_web_k13 : List Str := ["draws", "fewest", "greatest", "longest", "count", "kind", "cycle", "names", "ties"]
theorem sc_law_any_web_k13 : FnScope N_law_any_web_k13 ["draws", "fewest", "greatest", "longest"] (defScope s_law_any_web_k13) := ⟨rfl, rfl, rfl, by decide +kernel, rfl, by decide +kernel, by decide +kernel⟩
theorem d_law_any_web_k13 {P : Program} {w : World} {K : PySem.W.Frag} {mg : Str → Option Value} {base : Heap} {C_Game : Addr} {C_Web : Addr} {C_BadPost : Addr} {C_CannotSend : Addr} {C_NotFree : Addr} {C_TagError : Addr} {C_UnknownPlace : Addr} (T : Txt K mg C_Game C_Web C_BadPost C_CannotSend C_NotFree C_TagError C_UnknownPlace) (D_law_names : Def P w K mg base "_law_names" 3 1 wf_law_names) (D_law_table : Def P w K mg base "_law_table" 3 1 wf_law_table) (D_law_way_ties : Def P w K mg base "_law_way_ties" 5 1 wf_law_way_ties) {f : Addr} {cdv : Value} {A : Around} {outer : List Env} {s : Shared} {H : Hp} {E : XK}
    (hr : Room 1 (A.deeper (envOfC "_law_any_web" (defScope s_law_any_web_k13) s.heap.objs.size f cdv))) :
    BJ E (cxOf (L2.CX P w) P w K mg base N_law_any_web_k13 "_law_any_web" (defScope s_law_any_web_k13) f cdv A outer s H E) (defBody s_law_any_web_k13) b_law_any_web_k13 := by
  refine bj_cons ?_ ?_
  · refine sj_name (i := 4) sc_law_any_web_k13.nd rfl (by first | exact Or.inl rfl | exact Or.inr rfl) ?_
    refine ej_plus (ka := .e) (kb := .e) ?_ ?_
    · exact ej_var (pv 1)
    · refine ej_mod (ka := .e) (kb := .e) ?_ ?_
      · refine ej_int1 (k := .e) (by rfl) T.b_int ?_
        refine ej_ix (ka := .e) (kb := .e) ?_ ?_ (fun _ _ => rfl)
        · exact ej_var (pv 0)
        · exact ej_int
      · refine ej_plus (ka := .e) (kb := .e) ?_ ?_
        · refine ej_sub (ka := .e) (kb := .e) ?_ ?_
          · exact ej_var (pv 2)
          · exact ej_var (pv 1)
        · exact ej_int
  · refine bj_cons ?_ ?_
    · refine sj_name (i := 5) sc_law_any_web_k13.nd rfl (by first | exact Or.inl rfl | exact Or.inr rfl) ?_
      refine ej_mod (ka := .e) (kb := .e) ?_ ?_
      · refine ej_int1 (k := .e) (by rfl) T.b_int ?_
        refine ej_ix (ka := .e) (kb := .e) ?_ ?_ (fun _ _ => rfl)
        · exact ej_var (pv 0)
        · exact ej_int
      · exact ej_int
    · refine bj_cons ?_ ?_
      · refine sj_name (i := 6) sc_law_any_web_k13.nd rfl (by first | exact Or.inl rfl | exact Or.inr rfl) ?_
        refine ej_plus (ka := .e) (kb := .e) ?_ ?_
        · exact ej_int
        · refine ej_mod (ka := .e) (kb := .e) ?_ ?_
          · refine ej_int1 (k := .e) (by rfl) T.b_int ?_
            refine ej_ix (ka := .e) (kb := .e) ?_ ?_ (fun _ _ => rfl)
            · exact ej_var (pv 0)
            · exact ej_int
          · exact ej_var (pv 3)
      · refine bj_cons ?_ ?_
        · refine sj_name (i := 7) sc_law_any_web_k13.nd rfl (by first | exact Or.inl rfl | exact Or.inr rfl) ?_
          refine ej_fn D_law_names (hr.mono (by decide)) (by rfl) passM ?_
          refine aj_consE ?_ ?_
          · exact ej_var (pv 0)
          · refine aj_consE ?_ ?_
            · exact ej_int
            · refine aj_consE ?_ ?_
              · exact ej_var (pv 4)
              · exact aj_nil
        · refine bj_cons ?_ ?_
          · refine sj_name (i := 8) sc_law_any_web_k13.nd rfl (by first | exact Or.inl rfl | exact Or.inr rfl) ?_
            refine ej_fn D_law_way_ties (hr.mono (by decide)) (by rfl) passM ?_
            refine aj_consE ?_ ?_
            · exact ej_var (pv 0)
            · refine aj_consE ?_ ?_
              · exact ej_int
              · refine aj_consE ?_ ?_
                · exact ej_var (pv 7)
                · refine aj_consE ?_ ?_
                  · exact ej_var (pv 6)
                  · refine aj_consE ?_ ?_
                    · exact ej_var (pv 5)
                    · exact aj_nil
          · refine bj_one ?_
            refine sj_retF ?_
            refine ej_lst ?_
            refine aj_consE ?_ ?_
            · exact ej_var (pv 7)
            · refine aj_consE ?_ ?_
              · exact ej_var (pv 8)
              · refine aj_consE ?_ ?_
                · exact ej_var (pv 6)
                · refine aj_consE ?_ ?_
                  · refine ej_fn D_law_table (hr.mono (by decide)) (by rfl) passM ?_
                    refine aj_consE ?_ ?_
                    · exact ej_var (pv 7)
                    · refine aj_consE ?_ ?_
                      · exact ej_var (pv 8)
                      · refine aj_consE ?_ ?_
                        · exact ej_var (pv 6)
                        · exact aj_nil
                  · exact aj_nil
abbrev N_law_beat : List Str := ["draw", "beat"]
theorem sc_law_beat : FnScope N_law_beat ["draw"] (defScope s_law_beat) := ⟨rfl, rfl, rfl, by decide +kernel, rfl, by decide +kernel, by decide +kernel⟩
theorem d_law_beat {P : Program} {w : World} {K : PySem.W.Frag} {mg : Str → Option Value} {base : Heap} {C_Game : Addr} {C_Web : Addr} {C_BadPost : Addr} {C_CannotSend : Addr} {C_NotFree : Addr} {C_TagError : Addr} {C_UnknownPlace : Addr} (T : Txt K mg C_Game C_Web C_BadPost C_CannotSend C_NotFree C_TagError C_UnknownPlace)  {f : Addr} {cdv : Value} {A : Around} {outer : List Env} {s : Shared} {H : Hp} {E : XK}
    (hr : Room 0 (A.deeper (envOfC "_law_beat" (defScope s_law_beat) s.heap.objs.size f cdv))) :
    BJ E (cxOf (L2.CX P w) P w K mg base N_law_beat "_law_beat" (defScope s_law_beat) f cdv A outer s H E) (defBody s_law_beat) b_law_beat := by
  refine bj_cons ?_ ?_
  · refine sj_name (i := 1) sc_law_beat.nd rfl (by first | exact Or.inl rfl | exact Or.inr rfl) ?_
    refine ej_sub (ka := .e) (kb := .e) ?_ ?_
    · refine ej_mod (ka := .e) (kb := .e) ?_ ?_
      · refine ej_int1 (k := .e) (by rfl) T.b_int ?_
        exact ej_var (pv 0)
      · exact ej_int
    · exact ej_int
  · refine bj_cons ?_ ?_
    · refine sj_if ?_ ?_ ?_
      · refine tj_eq (ka := .e) (kb := .e) hr.units ?_ ?_
        · exact ej_var (pv 1)
        · refine ej_neg (k := .e) ?_
          exact ej_int
      · refine bj_one ?_
        refine sj_ret ?_
        refine ej_neg (k := .e) ?_
        refine ej_pow (ka := .e) (kb := .e) ?_ ?_
        · exact ej_int
        · exact ej_int
      · exact bj_nil
    · refine bj_cons ?_ ?_
      · refine sj_if ?_ ?_ ?_
        · refine tj_eq (ka := .e) (kb := .e) hr.units ?_ ?_
          · exact ej_var (pv 1)
          · exact ej_int
        · refine bj_one ?_
          refine sj_ret ?_
          refine ej_pow (ka := .e) (kb := .e) ?_ ?_
          · exact ej_int
          · exact ej_int
        · exact bj_nil
      · refine bj_one ?_
        refine sj_ret ?_
        exact ej_var (pv 1)
abbrev N_law_draws : List Str := ["script", "k", "count", "number", "draws", "turn", "total", "cell", "one", "two", "three"]
theorem sc_law_draws : FnScope N_law_draws ["script", "k", "count"] (defScope s_law_draws) := ⟨rfl, rfl, rfl, by decide +kernel, rfl, by decide +kernel, by decide +kernel⟩
theorem d_law_draws {P : Program} {w : World} {K : PySem.W.Frag} {mg : Str → Option Value} {base : Heap} {C_Game : Addr} {C_Web : Addr} {C_BadPost : Addr} {C_CannotSend : Addr} {C_NotFree : Addr} {C_TagError : Addr} {C_UnknownPlace : Addr} (T : Txt K mg C_Game C_Web C_BadPost C_CannotSend C_NotFree C_TagError C_UnknownPlace)  {f : Addr} {cdv : Value} {A : Around} {outer : List Env} {s : Shared} {H : Hp} {E : XK}
    (hr : Room 0 (A.deeper (envOfC "_law_draws" (defScope s_law_draws) s.heap.objs.size f cdv))) :
    BJ E (cxOf (L2.CX P w) P w K mg base N_law_draws "_law_draws" (defScope s_law_draws) f cdv A outer s H E) (defBody s_law_draws) b_law_draws := by
  refine bj_cons ?_ ?_
  · refine sj_name (i := 3) sc_law_draws.nd rfl (by first | exact Or.inl rfl | exact Or.inr rfl) ?_
    exact ej_int
  · refine bj_cons ?_ ?_
    · refine sj_if ?_ ?_ ?_
      · refine tj_lt (ka := .e) (kb := .e) ?_ ?_
        · exact ej_var (pv 1)
        · refine ej_len (k := .e) (by rfl) T.b_len ?_
          exact ej_var (pv 0)
      · refine bj_one ?_
        refine sj_name (i := 3) sc_law_draws.nd rfl (by first | exact Or.inl rfl | exact Or.inr rfl) ?_
        refine ej_abs (k := .e) (by rfl) T.b_abs ?_
        refine ej_ix (ka := .e) (kb := .e) ?_ ?_ (fun _ _ => rfl)
        · exact ej_var (pv 0)
        · exact ej_var (pv 1)
      · exact bj_nil
    · refine bj_cons ?_ ?_
      · refine sj_nameO (i := 4) sc_law_draws.nd rfl (by first | exact Or.inl rfl | exact Or.inr rfl) ?_
        refine ej_lst ?_
        exact aj_nil
      · refine bj_cons ?_ ?_
        · refine sj_if ?_ ?_ ?_
          · refine tj_ge (ka := .e) (kb := .e) ?_ ?_
            · exact ej_var (pv 3)
            · refine ej_pow (ka := .e) (kb := .e) ?_ ?_
              · exact ej_int
              · exact ej_int
          · refine bj_cons ?_ ?_
            · refine sj_name (i := 3) sc_law_draws.nd rfl (by first | exact Or.inl rfl | exact Or.inr rfl) ?_
              refine ej_sub (ka := .e) (kb := .e) ?_ ?_
              · exact ej_var (pv 3)
              · refine ej_pow (ka := .e) (kb := .e) ?_ ?_
                · exact ej_int
                · exact ej_int
            · refine bj_cons ?_ ?_
              · refine sj_for (tgs := [5]) (passes_of rfl) rfl ?_ ?_ ?_
                · refine ij_rng1 (ka := .e) ?_ (by rfl) T.b_range
                  exact ej_var (pv 2)
                · exact gj_name (pg_name (i := 5) sc_law_draws.nd rfl (by first | exact Or.inl rfl | exact Or.inr rfl))
                · refine bj_cons ?_ ?_
                  · refine sj_append (pv 4) ?_
                    refine ej_mod (ka := .e) (kb := .e) ?_ ?_
                    · refine ej_int1 (k := .e) (by rfl) T.b_int ?_
                      exact ej_var (pv 3)
                    · exact ej_int
                  · refine bj_one ?_
                    refine sj_name (i := 3) sc_law_draws.nd rfl (by first | exact Or.inl rfl | exact Or.inr rfl) ?_
                    refine ej_div (ka := .e) (kb := .e) ?_ ?_
                    · refine ej_int1 (k := .e) (by rfl) T.b_int ?_
                      exact ej_var (pv 3)
                    · exact ej_int
              · refine bj_one ?_
                exact sj_retO (pv 4)
          · exact bj_nil
        · refine bj_cons ?_ ?_
          · refine sj_name (i := 6) sc_law_draws.nd rfl (by first | exact Or.inl rfl | exact Or.inr rfl) ?_
            refine ej_plus (ka := .e) (kb := .e) ?_ ?_
            · exact ej_var (pv 3)
            · refine ej_mul (ka := .e) (kb := .e) ?_ ?_
              · refine ej_plus (ka := .e) (kb := .e) ?_ ?_
                · exact ej_var (pv 1)
                · exact ej_int
              · exact ej_int
          · refine bj_cons ?_ ?_
            · refine sj_for (tgs := [7]) (passes_of rfl) rfl ?_ ?_ ?_
              · refine ij_seq ?_
                refine ej_slice (ka := .e) ?_ ?_ ?_
                · exact ej_var (pv 0)
                · exact oj_none
                · refine oj_some (k := .e) ?_
                  exact ej_int
              · exact gj_name (pg_name (i := 7) sc_law_draws.nd rfl (by first | exact Or.inl rfl | exact Or.inr rfl))
              · refine bj_one ?_
                refine sj_name (i := 6) sc_law_draws.nd rfl (by first | exact Or.inl rfl | exact Or.inr rfl) ?_
                refine ej_mod (ka := .e) (kb := .e) ?_ ?_
                · refine ej_int1 (k := .e) (by rfl) T.b_int ?_
                  refine ej_plus (ka := .e) (kb := .e) ?_ ?_
                  · refine ej_mul (ka := .e) (kb := .e) ?_ ?_
                    · exact ej_var (pv 6)
                    · exact ej_int
                  · refine ej_abs (k := .e) (by rfl) T.b_abs ?_
                    exact ej_var (pv 7)
                · exact ej_int
            · refine bj_cons ?_ ?_
              · refine sj_for (tgs := [5]) (passes_of rfl) rfl ?_ ?_ ?_
                · refine ij_rng1 (ka := .e) ?_ (by rfl) T.b_range
                  exact ej_var (pv 2)
                · exact gj_name (pg_name (i := 5) sc_law_draws.nd rfl (by first | exact Or.inl rfl | exact Or.inr rfl))
                · refine bj_cons ?_ ?_
                  · refine sj_name (i := 8) sc_law_draws.nd rfl (by first | exact Or.inl rfl | exact Or.inr rfl) ?_
                    refine ej_mod (ka := .e) (kb := .e) ?_ ?_
                    · refine ej_int1 (k := .e) (by rfl) T.b_int ?_
                      refine ej_plus (ka := .e) (kb := .e) ?_ ?_
                      · refine ej_mul (ka := .e) (kb := .e) ?_ ?_
                        · exact ej_var (pv 6)
                        · exact ej_int
                      · refine ej_mul (ka := .e) (kb := .e) ?_ ?_
                        · refine ej_plus (ka := .e) (kb := .e) ?_ ?_
                          · exact ej_var (pv 5)
                          · exact ej_int
                        · exact ej_int
                    · exact ej_int
                  · refine bj_cons ?_ ?_
                    · refine sj_name (i := 9) sc_law_draws.nd rfl (by first | exact Or.inl rfl | exact Or.inr rfl) ?_
                      refine ej_mod (ka := .e) (kb := .e) ?_ ?_
                      · refine ej_int1 (k := .e) (by rfl) T.b_int ?_
                        refine ej_plus (ka := .e) (kb := .e) ?_ ?_
                        · refine ej_mul (ka := .e) (kb := .e) ?_ ?_
                          · exact ej_var (pv 8)
                          · exact ej_var (pv 8)
                        · exact ej_var (pv 5)
                      · exact ej_int
                    · refine bj_cons ?_ ?_
                      · refine sj_name (i := 10) sc_law_draws.nd rfl (by first | exact Or.inl rfl | exact Or.inr rfl) ?_
                        refine ej_mod (ka := .e) (kb := .e) ?_ ?_
                        · refine ej_int1 (k := .e) (by rfl) T.b_int ?_
                          refine ej_plus (ka := .e) (kb := .e) ?_ ?_
                          · refine ej_mul (ka := .e) (kb := .e) ?_ ?_
                            · exact ej_var (pv 9)
                            · exact ej_var (pv 9)
                          · exact ej_var (pv 8)
                        · exact ej_int
                      · refine bj_one ?_
                        refine sj_append (pv 4) ?_
                        refine ej_mod (ka := .e) (kb := .e) ?_ ?_
                        · refine ej_div (ka := .e) (kb := .e) ?_ ?_
                          · exact ej_var (pv 10)
                          · exact ej_int
                        · exact ej_int
              · refine bj_one ?_
                exact sj_retO (pv 4)
abbrev N_law_posts : List Str := ["count", "team", "move", "posts", "level", "turn", "more", "post", "low", "place"]
theorem sc_law_posts : FnScope N_law_posts ["count", "team", "move"] (defScope s_law_posts) := ⟨rfl, rfl, rfl, by decide +kernel, rfl, by decide +kernel, by decide +kernel⟩
theorem d_law_posts {P : Program} {w : World} {K : PySem.W.Frag} {mg : Str → Option Value} {base : Heap} {C_Game : Addr} {C_Web : Addr} {C_BadPost : Addr} {C_CannotSend : Addr} {C_NotFree : Addr} {C_TagError : Addr} {C_UnknownPlace : Addr} (T : Txt K mg C_Game C_Web C_BadPost C_CannotSend C_NotFree C_TagError C_UnknownPlace)  {f : Addr} {cdv : Value} {A : Around} {outer : List Env} {s : Shared} {H : Hp} {E : XK}
    (hr : Room 0 (A.deeper (envOfC "_law_posts" (defScope s_law_posts) s.heap.objs.size f cdv))) :
    BJ E (cxOf (L2.CX P w) P w K mg base N_law_posts "_law_posts" (defScope s_law_posts) f cdv A outer s H E) (defBody s_law_posts) b_law_posts := by
  refine bj_cons ?_ ?_
  · refine sj_name (i := 3) sc_law_posts.nd rfl (by first | exact Or.inl rfl | exact Or.inr rfl) ?_
    refine ej_toE ?_
    refine ej_lst ?_
    refine aj_consE ?_ ?_
    · refine ej_tup ?_
      exact aj_nil
    · exact aj_nil
  · refine bj_cons ?_ ?_
    · refine sj_name (i := 4) sc_law_posts.nd rfl (by first | exact Or.inl rfl | exact Or.inr rfl) ?_
      refine ej_toE ?_
      refine ej_lst ?_
      refine aj_consE ?_ ?_
      · refine ej_tup ?_
        exact aj_nil
      · exact aj_nil
    · refine bj_cons ?_ ?_
      · refine sj_for (tgs := [5]) (passes_of rfl) rfl ?_ ?_ ?_
        · refine ij_rng1 (ka := .e) ?_ (by rfl) T.b_range
          exact ej_var (pv 1)
        · exact gj_name (pg_name (i := 5) sc_law_posts.nd rfl (by first | exact Or.inl rfl | exact Or.inr rfl))
        · refine bj_cons ?_ ?_
          · refine sj_nameO (i := 6) sc_law_posts.nd rfl (by first | exact Or.inl rfl | exact Or.inr rfl) ?_
            refine ej_lst ?_
            exact aj_nil
          · refine bj_cons ?_ ?_
            · refine sj_for (tgs := [7]) (passes_of rfl) rfl ?_ ?_ ?_
              · refine ij_seq ?_
                exact ej_var (pv 4)
              · exact gj_name (pg_name (i := 7) sc_law_posts.nd rfl (by first | exact Or.inl rfl | exact Or.inr rfl))
              · refine bj_cons ?_ ?_
                · refine sj_name (i := 8) sc_law_posts.nd rfl (by first | exact Or.inl rfl | exact Or.inr rfl) ?_
                  exact ej_int
                · refine bj_cons ?_ ?_
                  · refine sj_if ?_ ?_ ?_
                    · refine tj_ne (ka := .e) (kb := .e) hr.units ?_ ?_
                      · exact ej_var (pv 7)
                      · refine ej_tup ?_
                        exact aj_nil
                    · refine bj_one ?_
                      refine sj_name (i := 8) sc_law_posts.nd rfl (by first | exact Or.inl rfl | exact Or.inr rfl) ?_
                      refine ej_plus (ka := .e) (kb := .e) ?_ ?_
                      · refine ej_ix (ka := .e) (kb := .e) ?_ ?_ (fun _ _ => rfl)
                        · exact ej_var (pv 7)
                        · refine ej_neg (k := .e) ?_
                          exact ej_int
                      · refine ej_int1 (k := .e) (by rfl) T.b_int ?_
                        refine ej_eq (ka := .e) (kb := .e) hr.units ?_ ?_
                        · exact ej_var (pv 2)
                        · exact ej_str
                    · exact bj_nil
                  · refine bj_one ?_
                    refine sj_for (tgs := [9]) (passes_of rfl) rfl ?_ ?_ ?_
                    · refine ij_rng2 (ka := .e) (kb := .e) ?_ ?_ (by rfl) T.b_range
                      · exact ej_var (pv 8)
                      · exact ej_var (pv 0)
                    · exact gj_name (pg_name (i := 9) sc_law_posts.nd rfl (by first | exact Or.inl rfl | exact Or.inr rfl))
                    · refine bj_one ?_
                      refine sj_append (pv 6) ?_
                      refine ej_plus (ka := .e) (kb := .e) ?_ ?_
                      · exact ej_var (pv 7)
                      · refine ej_tup ?_
                        refine aj_consE ?_ ?_
                        · exact ej_var (pv 9)
                        · exact aj_nil
            · refine bj_cons ?_ ?_
              · refine sj_name (i := 4) sc_law_posts.nd rfl (by first | exact Or.inl rfl | exact Or.inr rfl) ?_
                refine ej_toE ?_
                refine ej_list1 (k := .o) (by rfl) T.b_list ?_
                exact ej_peek (pv 6)
              · refine bj_one ?_
                refine sj_name (i := 3) sc_law_posts.nd rfl (by first | exact Or.inl rfl | exact Or.inr rfl) ?_
                refine ej_plus (ka := .e) (kb := .o) ?_ ?_
                · exact ej_var (pv 3)
                · exact ej_peek (pv 6)
      · refine bj_cons ?_ ?_
        · refine sj_if ?_ ?_ ?_
          · refine tj_eq (ka := .e) (kb := .e) hr.units ?_ ?_
            · exact ej_var (pv 2)
            · exact ej_str
          · refine bj_one ?_
            refine sj_retF ?_
            refine ej_sortT (k := .e) (units65 hr) (by rfl) T.b_sorted ?_
            exact ej_var (pv 3)
          · exact bj_nil
        · refine bj_one ?_
          refine sj_retF ?_
          refine ej_sortT (k := .e) (units65 hr) (by rfl) T.b_sorted ?_
          exact ej_var (pv 4)
abbrev N_law_reach : List Str := ["row", "starts", "barred", "found", "turn", "more", "place", "other"]
theorem sc_law_reach : FnScope N_law_reach ["row", "starts", "barred"] (defScope s_law_reach) := ⟨rfl, rfl, rfl, by decide +kernel, rfl, by decide +kernel, by decide +kernel⟩
theorem d_law_reach {P : Program} {w : World} {K : PySem.W.Frag} {mg : Str → Option Value} {base : Heap} {C_Game : Addr} {C_Web : Addr} {C_BadPost : Addr} {C_CannotSend : Addr} {C_NotFree : Addr} {C_TagError : Addr} {C_UnknownPlace : Addr} (T : Txt K mg C_Game C_Web C_BadPost C_CannotSend C_NotFree C_TagError C_UnknownPlace)  {f : Addr} {cdv : Value} {A : Around} {outer : List Env} {s : Shared} {H : Hp} {E : XK}
    (hr : Room 0 (A.deeper (envOfC "_law_reach" (defScope s_law_reach) s.heap.objs.size f cdv))) :
    BJ E (cxOf (L2.CX P w) P w K mg base N_law_reach "_law_reach" (defScope s_law_reach) f cdv A outer s H E) (defBody s_law_reach) b_law_reach := by
  refine bj_cons ?_ ?_
  · refine sj_compS (own := [("place", 6)]) (tgs := [6]) (i := 3) rfl sc_law_reach.nd rfl rfl (sw_true rfl rfl rfl (by decide +kernel)) (blkOk_by (by rfl)) ?_ (by decide) ?_ ?_ ?_
    · refine ij_seq ?_
      refine ej_toE ?_
      refine ej_sortSet (k := .e) ?_ rfl (by rfl) T.b_sorted (by rfl) T.b_set
      exact ej_var (pv 1)
    · refine fun _ _ _ _ _ => ?_
      exact gj_name (pg_name (i := 6) sc_law_reach.nd rfl (by first | exact Or.inl rfl | exact Or.inr rfl))
    · refine fun _ _ _ _ _ => ?_
      refine tsj_one ?_
      refine tj_nin (ka := .e) (kb := .e) (units65 hr) ?_ ?_
      · exact ej_var (pv 6)
      · exact ej_var (pv 2)
    · refine fun _ _ _ _ _ => ?_
      exact ej_var (pv 6)
  · refine bj_cons ?_ ?_
    · refine sj_for (tgs := [4]) (passes_of rfl) rfl ?_ ?_ ?_
      · refine ij_rng1 (ka := .e) ?_ (by rfl) T.b_range
        refine ej_len (k := .e) (by rfl) T.b_len ?_
        exact ej_var (pv 0)
      · exact gj_name (pg_name (i := 4) sc_law_reach.nd rfl (by first | exact Or.inl rfl | exact Or.inr rfl))
      · refine bj_cons ?_ ?_
        · refine sj_nameO (i := 5) sc_law_reach.nd rfl (by first | exact Or.inl rfl | exact Or.inr rfl) ?_
          refine ej_lst ?_
          exact aj_nil
        · refine bj_cons ?_ ?_
          · refine sj_for (tgs := [6]) (passes_of rfl) rfl ?_ ?_ ?_
            · refine ij_seq ?_
              exact ej_var (pv 3)
            · exact gj_name (pg_name (i := 6) sc_law_reach.nd rfl (by first | exact Or.inl rfl | exact Or.inr rfl))
            · refine bj_one ?_
              refine sj_for (tgs := [7]) (passes_of rfl) rfl ?_ ?_ ?_
              · refine ij_seq ?_
                refine ej_ix (ka := .e) (kb := .e) ?_ ?_ (fun _ _ => rfl)
                · exact ej_var (pv 0)
                · exact ej_var (pv 6)
              · exact gj_name (pg_name (i := 7) sc_law_reach.nd rfl (by first | exact Or.inl rfl | exact Or.inr rfl))
              · refine bj_one ?_
                refine sj_if ?_ ?_ ?_
                · refine tj_tw ?_
                  refine twj_and ?_ ?_
                  · refine tj_nin (ka := .e) (kb := .e) (units65 hr) ?_ ?_
                    · exact ej_var (pv 7)
                    · exact ej_var (pv 2)
                  · refine twj_and ?_ ?_
                    · refine tj_nin (ka := .e) (kb := .e) (units65 hr) ?_ ?_
                      · exact ej_var (pv 7)
                      · exact ej_var (pv 3)
                    · refine twj_and1 ?_
                      refine tj_nin (ka := .e) (kb := .o) (units65 hr) ?_ ?_
                      · exact ej_var (pv 7)
                      · exact ej_peek (pv 5)
                · refine bj_one ?_
                  refine sj_append (pv 5) ?_
                  exact ej_var (pv 7)
                · exact bj_nil
          · refine bj_one ?_
            refine sj_name (i := 3) sc_law_reach.nd rfl (by first | exact Or.inl rfl | exact Or.inr rfl) ?_
            refine ej_plus (ka := .e) (kb := .o) ?_ ?_
            · exact ej_var (pv 3)
            · exact ej_peek (pv 5)
    · refine bj_one ?_
      refine sj_retF ?_
      refine ej_sortI (k := .e) (by rfl) T.b_sorted ?_
      exact ej_var (pv 3)
abbrev N_law_runs : List Str := ["row", "move", "speed", "post", "sent", "place", "barred", "found", "one"]
theorem sc_law_runs : FnScope N_law_runs ["row", "move", "speed", "post", "sent", "place"] (defScope s_law_runs) := ⟨rfl, rfl, rfl, by decide +kernel, rfl, by decide +kernel, by decide +kernel⟩
theorem d_law_runs {P : Program} {w : World} {K : PySem.W.Frag} {mg : Str → Option Value} {base : Heap} {C_Game : Addr} {C_Web : Addr} {C_BadPost : Addr} {C_CannotSend : Addr} {C_NotFree : Addr} {C_TagError : Addr} {C_UnknownPlace : Addr} (T : Txt K mg C_Game C_Web C_BadPost C_CannotSend C_NotFree C_TagError C_UnknownPlace) (D_law_reach : Def P w K mg base "_law_reach" 3 1 wf_law_reach) {f : Addr} {cdv : Value} {A : Around} {outer : List Env} {s : Shared} {H : Hp} {E : XK}
    (hr : Room 1 (A.deeper (envOfC "_law_runs" (defScope s_law_runs) s.heap.objs.size f cdv))) :
    BJ E (cxOf (L2.CX P w) P w K mg base N_law_runs "_law_runs" (defScope s_law_runs) f cdv A outer s H E) (defBody s_law_runs) b_law_runs := by
  refine bj_cons ?_ ?_
  · refine sj_if ?_ ?_ ?_
    · refine tj_tw ?_
      refine twj_and ?_ ?_
      · refine tj_eq (ka := .e) (kb := .e) hr.units ?_ ?_
        · exact ej_var (pv 1)
        · exact ej_str
      · refine twj_and1 ?_
        refine tj_in (ka := .e) (kb := .e) (units65 hr) ?_ ?_
        · exact ej_var (pv 5)
        · exact ej_var (pv 4)
    · refine bj_one ?_
      refine sj_retF ?_
      refine ej_lst ?_
      exact aj_nil
    · exact bj_nil
  · refine bj_cons ?_ ?_
    · refine sj_name (i := 6) sc_law_runs.nd rfl (by first | exact Or.inl rfl | exact Or.inr rfl) ?_
      refine ej_toE ?_
      refine ej_comp (own := [("one", 8)]) (tgs := [8]) rfl sc_law_runs.nd (blkOk_by (by rfl)) ?_ (by decide) ?_ ?_ ?_
      · refine ij_seq ?_
        exact ej_var (pv 4)
      · refine fun _ _ _ _ _ => ?_
        exact gj_name (pg_name (i := 8) sc_law_runs.nd rfl (by first | exact Or.inl rfl | exact Or.inr rfl))
      · refine fun _ _ _ _ _ => ?_
        refine tsj_one ?_
        refine tj_tw ?_
        refine twj_or ?_ ?_
        · refine tj_eq (ka := .e) (kb := .e) hr.units ?_ ?_
          · exact ej_var (pv 1)
          · exact ej_str
        · refine twj_or1 ?_
          refine tj_in (ka := .e) (kb := .e) (units65 hr) ?_ ?_
          · exact ej_var (pv 8)
          · exact ej_var (pv 3)
      · refine fun _ _ _ _ _ => ?_
        exact ej_var (pv 8)
    · refine bj_cons ?_ ?_
      · refine sj_if ?_ ?_ ?_
        · refine tj_eq (ka := .e) (kb := .e) hr.units ?_ ?_
          · exact ej_var (pv 2)
          · exact ej_str
        · refine bj_one ?_
          refine sj_name (i := 7) sc_law_runs.nd rfl (by first | exact Or.inl rfl | exact Or.inr rfl) ?_
          refine ej_fn D_law_reach (hr.mono (by decide)) (by rfl) passM ?_
          refine aj_consE ?_ ?_
          · exact ej_var (pv 0)
          · refine aj_consE ?_ ?_
            · refine ej_toE ?_
              refine ej_lst ?_
              refine aj_consE ?_ ?_
              · exact ej_var (pv 5)
              · exact aj_nil
            · refine aj_consE ?_ ?_
              · exact ej_var (pv 6)
              · exact aj_nil
        · refine bj_one ?_
          refine sj_name (i := 7) sc_law_runs.nd rfl (by first | exact Or.inl rfl | exact Or.inr rfl) ?_
          refine ej_plus (ka := .f) (kb := .f) ?_ ?_
          · refine ej_lst ?_
            refine aj_consE ?_ ?_
            · exact ej_var (pv 5)
            · exact aj_nil
          · refine ej_comp (own := [("one", 8)]) (tgs := [8]) rfl sc_law_runs.nd (blkOk_by (by rfl)) ?_ (by decide) ?_ ?_ ?_
            · refine ij_seq ?_
              refine ej_ix (ka := .e) (kb := .e) ?_ ?_ (fun _ _ => rfl)
              · exact ej_var (pv 0)
              · exact ej_var (pv 5)
            · refine fun _ _ _ _ _ => ?_
              exact gj_name (pg_name (i := 8) sc_law_runs.nd rfl (by first | exact Or.inl rfl | exact Or.inr rfl))
            · refine fun _ _ _ _ _ => ?_
              refine tsj_one ?_
              refine tj_nin (ka := .e) (kb := .e) (units65 hr) ?_ ?_
              · exact ej_var (pv 8)
              · exact ej_var (pv 6)
            · refine fun _ _ _ _ _ => ?_
              exact ej_var (pv 8)
      · refine bj_one ?_
        refine sj_retF ?_
        refine ej_sortA (k := .f) (by rfl) T.b_sorted ?_
        refine ej_comp (own := [("one", 8)]) (tgs := [8]) rfl sc_law_runs.nd (blkOk_by (by rfl)) ?_ (by decide) ?_ ?_ ?_
        · refine ij_seq ?_
          exact ej_var (pv 7)
        · refine fun _ _ _ _ _ => ?_
          exact gj_name (pg_name (i := 8) sc_law_runs.nd rfl (by first | exact Or.inl rfl | exact Or.inr rfl))
        · refine fun _ _ _ _ _ => ?_
          refine tsj_one ?_
          refine tj_nin (ka := .e) (kb := .e) (units65 hr) ?_ ?_
          · exact ej_var (pv 8)
          · exact ej_var (pv 4)
        · refine fun _ _ _ _ _ => ?_
          exact ej_var (pv 8)
abbrev N_law_is_int : List Str := ["x"]
theorem sc_law_is_int : FnScope N_law_is_int ["x"] (defScope s_law_is_int) := ⟨rfl, rfl, rfl, by decide +kernel, rfl, by decide +kernel, by decide +kernel⟩
theorem d_law_is_int {P : Program} {w : World} {K : PySem.W.Frag} {mg : Str → Option Value} {base : Heap} {C_Game : Addr} {C_Web : Addr} {C_BadPost : Addr} {C_CannotSend : Addr} {C_NotFree : Addr} {C_TagError : Addr} {C_UnknownPlace : Addr} (T : Txt K mg C_Game C_Web C_BadPost C_CannotSend C_NotFree C_TagError C_UnknownPlace)  {f : Addr} {cdv : Value} {A : Around} {outer : List Env} {s : Shared} {H : Hp} {E : XK}
    (hr : Room 0 (A.deeper (envOfC "_law_is_int" (defScope s_law_is_int) s.heap.objs.size f cdv))) :
    BJ E (cxOf (L2.CX P w) P w K mg base N_law_is_int "_law_is_int" (defScope s_law_is_int) f cdv A outer s H E) (defBody s_law_is_int) b_law_is_int := by
  refine bj_one ?_
  refine sj_ret ?_
  refine ej_andV ?_ ?_
  · refine ej_isi (k := .e) ?_ (by rfl) T.b_isinstance (by rfl) T.b_int (by decide +kernel)
    exact ej_var (pv 0)
  · refine ej_b1 ?_
    refine ej_not1 (k := .e) ?_
    refine ej_isi (k := .e) ?_ (by rfl) T.b_isinstance (by rfl) T.b_bool (by decide +kernel)
    exact ej_var (pv 0)
abbrev N_law_same : List Str := ["got", "due", "one", "two"]
theorem sc_law_same : FnScope N_law_same ["got", "due"] (defScope s_law_same) := ⟨rfl, rfl, rfl, by decide +kernel, rfl, by decide +kernel, by decide +kernel⟩
theorem d_law_same {P : Program} {w : World} {K : PySem.W.Frag} {mg : Str → Option Value} {base : Heap} {C_Game : Addr} {C_Web : Addr} {C_BadPost : Addr} {C_CannotSend : Addr} {C_NotFree : Addr} {C_TagError : Addr} {C_UnknownPlace : Addr} (T : Txt K mg C_Game C_Web C_BadPost C_CannotSend C_NotFree C_TagError C_UnknownPlace) (D_law_is_int : Def P w K mg base "_law_is_int" 1 1 wf_law_is_int) {lv : Nat} {wfr : Wf} (D_law_same : Def P w K mg base "_law_same" 2 lv wfr) {f : Addr} {cdv : Value} {A : Around} {outer : List Env} {s : Shared} {H : Hp} {E : XK}
    (hr : Room (lv + 1) (A.deeper (envOfC "_law_same" (defScope s_law_same) s.heap.objs.size f cdv))) :
    BJ E (cxOf (L2.CX P w) P w K mg base N_law_same "_law_same" (defScope s_law_same) f cdv A outer s H E) (defBody s_law_same) (b_law_same wfr) := by
  refine bj_cons ?_ ?_
  · refine sj_if ?_ ?_ ?_
    · refine tj_isN (ka := .e) (kb := .e) ?_ ?_
      · exact ej_var (pv 1)
      · exact ej_non
    · refine bj_one ?_
      refine sj_ret ?_
      refine ej_isN (ka := .e) (kb := .e) ?_ ?_
      · exact ej_var (pv 0)
      · exact ej_non
    · exact bj_nil
  · refine bj_cons ?_ ?_
    · refine sj_if ?_ ?_ ?_
      · refine tj_isB (ka := .e) (kb := .e) ?_ ?_
        · exact ej_var (pv 1)
        · exact ej_bl
      · refine bj_one ?_
        refine sj_ret ?_
        refine ej_isB (ka := .e) (kb := .e) ?_ ?_
        · exact ej_var (pv 0)
        · exact ej_bl
      · exact bj_nil
    · refine bj_cons ?_ ?_
      · refine sj_if ?_ ?_ ?_
        · refine tj_isB (ka := .e) (kb := .e) ?_ ?_
          · exact ej_var (pv 1)
          · exact ej_bl
        · refine bj_one ?_
          refine sj_ret ?_
          refine ej_isB (ka := .e) (kb := .e) ?_ ?_
          · exact ej_var (pv 0)
          · exact ej_bl
        · exact bj_nil
      · refine bj_cons ?_ ?_
        · refine sj_if ?_ ?_ ?_
          · refine tj_tru (k := .e) ?_
            refine ej_isi (k := .e) ?_ (by rfl) T.b_isinstance (by rfl) T.b_int (by decide +kernel)
            exact ej_var (pv 1)
          · refine bj_one ?_
            refine sj_ret ?_
            refine ej_andV ?_ ?_
            · refine ej_fn D_law_is_int (hr.mono (by omega)) (by rfl) passM ?_
              refine aj_consE ?_ ?_
              · exact ej_var (pv 0)
              · exact aj_nil
            · refine ej_b1 ?_
              refine ej_eq (ka := .e) (kb := .e) hr.units ?_ ?_
              · exact ej_var (pv 0)
              · exact ej_var (pv 1)
          · exact bj_nil
        · refine bj_cons ?_ ?_
          · refine sj_if ?_ ?_ ?_
            · refine tj_tru (k := .e) ?_
              refine ej_isi (k := .e) ?_ (by rfl) T.b_isinstance (by rfl) T.b_str (by decide +kernel)
              exact ej_var (pv 1)
            · refine bj_one ?_
              refine sj_ret ?_
              refine ej_andV ?_ ?_
              · refine ej_isi (k := .e) ?_ (by rfl) T.b_isinstance (by rfl) T.b_str (by decide +kernel)
                exact ej_var (pv 0)
              · refine ej_b1 ?_
                refine ej_eq (ka := .e) (kb := .e) hr.units ?_ ?_
                · exact ej_var (pv 0)
                · exact ej_var (pv 1)
            · exact bj_nil
          · refine bj_cons ?_ ?_
            · refine sj_if ?_ ?_ ?_
              · refine tj_tw ?_
                refine twj_and ?_ ?_
                · refine tj_tru (k := .e) ?_
                  refine ej_isi (k := .e) ?_ (by rfl) T.b_isinstance (by rfl) T.b_tuple (by decide +kernel)
                  exact ej_var (pv 1)
                · refine twj_and1 ?_
                  refine tj_not ?_
                  refine tj_tru (k := .e) ?_
                  refine ej_isi (k := .e) ?_ (by rfl) T.b_isinstance (by rfl) T.b_tuple (by decide +kernel)
                  exact ej_var (pv 0)
              · refine bj_one ?_
                refine sj_ret ?_
                exact ej_bl
              · exact bj_nil
            · refine bj_cons ?_ ?_
              · refine sj_if ?_ ?_ ?_
                · refine tj_tw ?_
                  refine twj_and ?_ ?_
                  · refine tj_tru (k := .e) ?_
                    refine ej_isi (k := .e) ?_ (by rfl) T.b_isinstance (by rfl) T.b_list (by decide +kernel)
                    exact ej_var (pv 1)
                  · refine twj_and1 ?_
                    refine tj_not ?_
                    refine tj_tru (k := .e) ?_
                    refine ej_isi (k := .e) ?_ (by rfl) T.b_isinstance (by rfl) T.b_list (by decide +kernel)
                    exact ej_var (pv 0)
                · refine bj_one ?_
                  refine sj_ret ?_
                  exact ej_bl
                · exact bj_nil
              · refine bj_cons ?_ ?_
                · refine sj_if ?_ ?_ ?_
                  · refine tj_ne (ka := .e) (kb := .e) hr.units ?_ ?_
                    · refine ej_len (k := .e) (by rfl) T.b_len ?_
                      exact ej_var (pv 0)
                    · refine ej_len (k := .e) (by rfl) T.b_len ?_
                      exact ej_var (pv 1)
                  · refine bj_one ?_
                    refine sj_ret ?_
                    exact ej_bl
                  · exact bj_nil
                · refine bj_cons ?_ ?_
                  · refine sj_for (tgs := [2, 3]) (passes_of rfl) rfl ?_ ?_ ?_
                    · refine ij_zip ?_ ?_ (by rfl) T.b_zip
                      · exact ej_var (pv 0)
                      · exact ej_var (pv 1)
                    · refine gj_tup (n := 2) rfl ?_
                      refine gsj_name ?_ ?_
                      · exact gj_name (pg_name (i := 2) sc_law_same.nd rfl (by first | exact Or.inl rfl | exact Or.inr rfl))
                      · refine gsj_name ?_ ?_
                        · exact gj_name (pg_name (i := 3) sc_law_same.nd rfl (by first | exact Or.inl rfl | exact Or.inr rfl))
                        · exact gsj_nil
                    · refine bj_one ?_
                      refine sj_if ?_ ?_ ?_
                      · refine tj_not ?_
                        refine tj_tru (k := .e) ?_
                        refine ej_fn D_law_same (hr.mono (by omega)) (by rfl) passM ?_
                        refine aj_consE ?_ ?_
                        · exact ej_var (pv 2)
                        · refine aj_consE ?_ ?_
                          · exact ej_var (pv 3)
                          · exact aj_nil
                      · refine bj_one ?_
                        refine sj_ret ?_
                        exact ej_bl
                      · exact bj_nil
                  · refine bj_one ?_
                    refine sj_ret ?_
                    exact ej_bl
abbrev N_law_sends : List Str := ["row", "move", "posts", "post", "found", "place", "more", "done", "other"]
theorem sc_law_sends : FnScope N_law_sends ["row", "move", "posts", "post"] (defScope s_law_sends) := ⟨rfl, rfl, rfl, by decide +kernel, rfl, by decide +kernel, by decide +kernel⟩
theorem d_law_sends {P : Program} {w : World} {K : PySem.W.Frag} {mg : Str → Option Value} {base : Heap} {C_Game : Addr} {C_Web : Addr} {C_BadPost : Addr} {C_CannotSend : Addr} {C_NotFree : Addr} {C_TagError : Addr} {C_UnknownPlace : Addr} (T : Txt K mg C_Game C_Web C_BadPost C_CannotSend C_NotFree C_TagError C_UnknownPlace)  {f : Addr} {cdv : Value} {A : Around} {outer : List Env} {s : Shared} {H : Hp} {E : XK}
    (hr : Room 0 (A.deeper (envOfC "_law_sends" (defScope s_law_sends) s.heap.objs.size f cdv))) :
    BJ E (cxOf (L2.CX P w) P w K mg base N_law_sends "_law_sends" (defScope s_law_sends) f cdv A outer s H E) (defBody s_law_sends) b_law_sends := by
  refine bj_cons ?_ ?_
  · refine sj_if ?_ ?_ ?_
    · refine tj_eq (ka := .e) (kb := .e) hr.units ?_ ?_
      · exact ej_var (pv 1)
      · exact ej_str
    · refine bj_one ?_
      refine sj_retF ?_
      refine ej_list1 (k := .e) (by rfl) T.b_list ?_
      exact ej_var (pv 2)
    · exact bj_nil
  · refine bj_cons ?_ ?_
    · refine sj_name (i := 4) sc_law_sends.nd rfl (by first | exact Or.inl rfl | exact Or.inr rfl) ?_
      refine ej_toE ?_
      refine ej_lst ?_
      refine aj_consE ?_ ?_
      · refine ej_tup ?_
        exact aj_nil
      · exact aj_nil
    · refine bj_cons ?_ ?_
      · refine sj_for (tgs := [5]) (passes_of rfl) rfl ?_ ?_ ?_
        · refine ij_seq ?_
          exact ej_var (pv 3)
        · exact gj_name (pg_name (i := 5) sc_law_sends.nd rfl (by first | exact Or.inl rfl | exact Or.inr rfl))
        · refine bj_cons ?_ ?_
          · refine sj_nameO (i := 6) sc_law_sends.nd rfl (by first | exact Or.inl rfl | exact Or.inr rfl) ?_
            refine ej_lst ?_
            exact aj_nil
          · refine bj_cons ?_ ?_
            · refine sj_for (tgs := [7]) (passes_of rfl) rfl ?_ ?_ ?_
              · refine ij_seq ?_
                exact ej_var (pv 4)
              · exact gj_name (pg_name (i := 7) sc_law_sends.nd rfl (by first | exact Or.inl rfl | exact Or.inr rfl))
              · refine bj_one ?_
                refine sj_for (tgs := [8]) (passes_of rfl) rfl ?_ ?_ ?_
                · refine ij_seq ?_
                  refine ej_plus (ka := .f) (kb := .e) ?_ ?_
                  · refine ej_lst ?_
                    refine aj_consE ?_ ?_
                    · exact ej_var (pv 5)
                    · exact aj_nil
                  · refine ej_ix (ka := .e) (kb := .e) ?_ ?_ (fun _ _ => rfl)
                    · exact ej_var (pv 0)
                    · exact ej_var (pv 5)
                · exact gj_name (pg_name (i := 8) sc_law_sends.nd rfl (by first | exact Or.inl rfl | exact Or.inr rfl))
                · refine bj_one ?_
                  refine sj_append (pv 6) ?_
                  refine ej_tuple1 (k := .f) (by rfl) T.b_tuple ?_
                  refine ej_sortA (k := .e) (by rfl) T.b_sorted ?_
                  refine ej_plus (ka := .f) (kb := .f) ?_ ?_
                  · refine ej_list1 (k := .e) (by rfl) T.b_list ?_
                    exact ej_var (pv 7)
                  · refine ej_lst ?_
                    refine aj_consE ?_ ?_
                    · exact ej_var (pv 8)
                    · exact aj_nil
            · refine bj_one ?_
              refine sj_name (i := 4) sc_law_sends.nd rfl (by first | exact Or.inl rfl | exact Or.inr rfl) ?_
              refine ej_toE ?_
              refine ej_sortSetG (k := .o) ?_ rfl (units65 hr) (by rfl) T.b_sorted (by rfl) T.b_set
              exact ej_peek (pv 6)
      · refine bj_one ?_
        refine sj_ret ?_
        exact ej_var (pv 4)
abbrev N_Web___len__ : List Str := ["self"]
theorem sc_Web___len__ : FnScope N_Web___len__ ["self"] (defScope s_Web___len__) := ⟨rfl, rfl, rfl, by decide +kernel, rfl, by decide +kernel, by decide +kernel⟩
theorem d_Web___len__ {P : Program} {w : World} {K : PySem.W.Frag} {mg : Str → Option Value} {base : Heap} {C_Game : Addr} {C_Web : Addr} {C_BadPost : Addr} {C_CannotSend : Addr} {C_NotFree : Addr} {C_TagError : Addr} {C_UnknownPlace : Addr} (T : Txt K mg C_Game C_Web C_BadPost C_CannotSend C_NotFree C_TagError C_UnknownPlace)  {f : Addr} {cdv : Value} {A : Around} {outer : List Env} {s : Shared} {H : Hp} {E : XK}
    (hr : Room 0 (A.deeper (envOfC "Web.__len__" (defScope s_Web___len__) s.heap.objs.size f cdv))) :
    BJ E (cxOf (L2.CX P w) P w K mg base N_Web___len__ "Web.__len__" (defScope s_Web___len__) f cdv A outer s H E) (defBody s_Web___len__) (b_Web___len__ C_Web) := by
  refine bj_one ?_
  refine sj_ret ?_
  refine ej_len (k := .e) (by rfl) T.b_len ?_
  refine ej_wk ?_
  refine ej_fld (k := .e) T.c_Web T.n_Web_places ?_
  exact ej_var (pv 0)
abbrev N_check_place : List Str := ["web", "place"]
theorem sc_check_place : FnScope N_check_place ["web", "place"] (defScope s_check_place) := ⟨rfl, rfl, rfl, by decide +kernel, rfl, by decide +kernel, by decide +kernel⟩
theorem d_check_place {P : Program} {w : World} {K : PySem.W.Frag} {mg : Str → Option Value} {base : Heap} {C_Game : Addr} {C_Web : Addr} {C_BadPost : Addr} {C_CannotSend : Addr} {C_NotFree : Addr} {C_TagError : Addr} {C_UnknownPlace : Addr} (T : Txt K mg C_Game C_Web C_BadPost C_CannotSend C_NotFree C_TagError C_UnknownPlace) (M_Web___len__ : MDef P w K mg base C_Web "__len__" 1 1 (wf_Web___len__ C_Web)) (R_UnknownPlace : Err P w K mg base "UnknownPlace" C_UnknownPlace ["place"] 1) {f : Addr} {cdv : Value} {A : Around} {outer : List Env} {s : Shared} {H : Hp} {E : XK}
    (hr : Room 2 (A.deeper (envOfC "check_place" (defScope s_check_place) s.heap.objs.size f cdv))) :
    BJ E (cxOf (L2.CX P w) P w K mg base N_check_place "check_place" (defScope s_check_place) f cdv A outer s H E) (defBody s_check_place) (b_check_place C_Web C_UnknownPlace) := by
  refine bj_one ?_
  refine sj_if ?_ ?_ ?_
  · refine tj_not ?_
    refine tj_ch2 (ka := .e) (kb := .e) (kc := .e) brg_le brg_lt op_le op_lt ?_ ?_ ?_
    · exact ej_int
    · exact ej_var (pv 1)
    · refine ej_lenO M_Web___len__ (hr.mono (by decide)) passM ?_ (by rfl) T.b_len
      exact ej_var (pv 0)
  · refine bj_one ?_
    refine sj_raiseE R_UnknownPlace (hr.mono (by decide)) (takes_of rfl rfl rfl rfl) ?_
    refine aj_consE ?_ ?_
    · exact ej_var (pv 1)
    · exact aj_nil
  · exact bj_nil
abbrev N_check_free : List Str := ["game", "post", "place"]
theorem sc_check_free : FnScope N_check_free ["game", "post", "place"] (defScope s_check_free) := ⟨rfl, rfl, rfl, by decide +kernel, rfl, by decide +kernel, by decide +kernel⟩
theorem d_check_free {P : Program} {w : World} {K : PySem.W.Frag} {mg : Str → Option Value} {base : Heap} {C_Game : Addr} {C_Web : Addr} {C_BadPost : Addr} {C_CannotSend : Addr} {C_NotFree : Addr} {C_TagError : Addr} {C_UnknownPlace : Addr} (T : Txt K mg C_Game C_Web C_BadPost C_CannotSend C_NotFree C_TagError C_UnknownPlace) (D_check_place : Def P w K mg base "check_place" 2 3 (wf_check_place C_Web C_UnknownPlace)) (R_NotFree : Err P w K mg base "NotFree" C_NotFree ["place"] 1) {f : Addr} {cdv : Value} {A : Around} {outer : List Env} {s : Shared} {H : Hp} {E : XK}
    (hr : Room 3 (A.deeper (envOfC "check_free" (defScope s_check_free) s.heap.objs.size f cdv))) :
    BJ E (cxOf (L2.CX P w) P w K mg base N_check_free "check_free" (defScope s_check_free) f cdv A outer s H E) (defBody s_check_free) (b_check_free C_Game C_Web C_NotFree C_UnknownPlace) := by
  refine bj_cons ?_ ?_
  · refine sj_expr (k := .e) ?_
    refine ej_fn D_check_place (hr.mono (by decide)) (by rfl) passM ?_
    refine aj_consE ?_ ?_
    · refine ej_fld (k := .e) T.c_Game T.n_Game_web ?_
      exact ej_var (pv 0)
    · refine aj_consE ?_ ?_
      · exact ej_var (pv 2)
      · exact aj_nil
  · refine bj_one ?_
    refine sj_if ?_ ?_ ?_
    · refine tj_in (ka := .e) (kb := .e) (units65 hr) ?_ ?_
      · exact ej_var (pv 2)
      · exact ej_var (pv 1)
    · refine bj_one ?_
      refine sj_raiseE R_NotFree (hr.mono (by decide)) (takes_of rfl rfl rfl rfl) ?_
      refine aj_consE ?_ ?_
      · exact ej_var (pv 2)
      · exact aj_nil
    · exact bj_nil
abbrev N_is_rising : List Str := ["post", "at"]
theorem sc_is_rising : FnScope N_is_rising ["post"] (defScope s_is_rising) := ⟨rfl, rfl, rfl, by decide +kernel, rfl, by decide +kernel, by decide +kernel⟩
theorem d_is_rising {P : Program} {w : World} {K : PySem.W.Frag} {mg : Str → Option Value} {base : Heap} {C_Game : Addr} {C_Web : Addr} {C_BadPost : Addr} {C_CannotSend : Addr} {C_NotFree : Addr} {C_TagError : Addr} {C_UnknownPlace : Addr} (T : Txt K mg C_Game C_Web C_BadPost C_CannotSend C_NotFree C_TagError C_UnknownPlace)  {f : Addr} {cdv : Value} {A : Around} {outer : List Env} {s : Shared} {H : Hp} {E : XK}
    (hr : Room 0 (A.deeper (envOfC "is_rising" (defScope s_is_rising) s.heap.objs.size f cdv))) :
    BJ E (cxOf (L2.CX P w) P w K mg base N_is_rising "is_rising" (defScope s_is_rising) f cdv A outer s H E) (defBody s_is_rising) b_is_rising := by
  refine bj_one ?_
  refine sj_ret ?_
  refine ej_all1 (k := .f) rfl (by rfl) T.b_all ?_
  refine ej_comp (own := [("at", 1)]) (tgs := [1]) rfl sc_is_rising.nd (blkOk_by (by rfl)) ?_ (by decide) ?_ ?_ ?_
  · refine ij_rng1 (ka := .e) ?_ (by rfl) T.b_range
    refine ej_sub (ka := .e) (kb := .e) ?_ ?_
    · refine ej_len (k := .e) (by rfl) T.b_len ?_
      exact ej_var (pv 0)
    · exact ej_int
  · refine fun _ _ _ _ _ => ?_
    exact gj_name (pg_name (i := 1) sc_is_rising.nd rfl (by first | exact Or.inl rfl | exact Or.inr rfl))
  · refine fun _ _ _ _ _ => ?_
    exact tsj_nil
  · refine fun _ _ _ _ _ => ?_
    refine ej_le (ka := .e) (kb := .e) ?_ ?_
    · refine ej_ix (ka := .e) (kb := .e) ?_ ?_ (fun _ _ => rfl)
      · exact ej_var (pv 0)
      · exact ej_var (pv 1)
    · refine ej_ix (ka := .e) (kb := .e) ?_ ?_ (fun _ _ => rfl)
      · exact ej_var (pv 0)
      · refine ej_plus (ka := .e) (kb := .e) ?_ ?_
        · exact ej_var (pv 1)
        · exact ej_int
abbrev N_is_set : List Str := ["places", "count", "inside", "rising", "place", "at"]
theorem sc_is_set : FnScope N_is_set ["places", "count"] (defScope s_is_set) := ⟨rfl, rfl, rfl, by decide +kernel, rfl, by decide +kernel, by decide +kernel⟩
theorem d_is_set {P : Program} {w : World} {K : PySem.W.Frag} {mg : Str → Option Value} {base : Heap} {C_Game : Addr} {C_Web : Addr} {C_BadPost : Addr} {C_CannotSend : Addr} {C_NotFree : Addr} {C_TagError : Addr} {C_UnknownPlace : Addr} (T : Txt K mg C_Game C_Web C_BadPost C_CannotSend C_NotFree C_TagError C_UnknownPlace)  {f : Addr} {cdv : Value} {A : Around} {outer : List Env} {s : Shared} {H : Hp} {E : XK}
    (hr : Room 0 (A.deeper (envOfC "is_set" (defScope s_is_set) s.heap.objs.size f cdv))) :
    BJ E (cxOf (L2.CX P w) P w K mg base N_is_set "is_set" (defScope s_is_set) f cdv A outer s H E) (defBody s_is_set) b_is_set := by
  refine bj_cons ?_ ?_
  · refine sj_compS (own := [("place", 4)]) (tgs := [4]) (i := 2) rfl sc_is_set.nd rfl rfl (sw_true rfl rfl rfl (by decide +kernel)) (blkOk_by (by rfl)) ?_ (by decide) ?_ ?_ ?_
    · refine ij_seq ?_
      exact ej_var (pv 0)
    · refine fun _ _ _ _ _ => ?_
      exact gj_name (pg_name (i := 4) sc_is_set.nd rfl (by first | exact Or.inl rfl | exact Or.inr rfl))
    · refine fun _ _ _ _ _ => ?_
      exact tsj_nil
    · refine fun _ _ _ _ _ => ?_
      refine ej_ch2 (ka := .e) (kb := .e) (kc := .e) brg_le brg_lt op_le op_lt ?_ ?_ ?_
      · exact ej_int
      · exact ej_var (pv 4)
      · exact ej_var (pv 1)
  · refine bj_cons ?_ ?_
    · refine sj_compS (own := [("at", 5)]) (tgs := [5]) (i := 3) rfl sc_is_set.nd rfl rfl (sw_true rfl rfl rfl (by decide +kernel)) (blkOk_by (by rfl)) ?_ (by decide) ?_ ?_ ?_
      · refine ij_rng1 (ka := .e) ?_ (by rfl) T.b_range
        refine ej_sub (ka := .e) (kb := .e) ?_ ?_
        · refine ej_len (k := .e) (by rfl) T.b_len ?_
          exact ej_var (pv 0)
        · exact ej_int
      · refine fun _ _ _ _ _ => ?_
        exact gj_name (pg_name (i := 5) sc_is_set.nd rfl (by first | exact Or.inl rfl | exact Or.inr rfl))
      · refine fun _ _ _ _ _ => ?_
        exact tsj_nil
      · refine fun _ _ _ _ _ => ?_
        refine ej_lt (ka := .e) (kb := .e) ?_ ?_
        · refine ej_ix (ka := .e) (kb := .e) ?_ ?_ (fun _ _ => rfl)
          · exact ej_var (pv 0)
          · exact ej_var (pv 5)
        · refine ej_ix (ka := .e) (kb := .e) ?_ ?_ (fun _ _ => rfl)
          · exact ej_var (pv 0)
          · refine ej_plus (ka := .e) (kb := .e) ?_ ?_
            · exact ej_var (pv 5)
            · exact ej_int
    · refine bj_one ?_
      refine sj_ret ?_
      refine ej_andV ?_ ?_
      · refine ej_all1 (k := .e) rfl (by rfl) T.b_all ?_
        exact ej_var (pv 2)
      · refine ej_b1 ?_
        refine ej_all1 (k := .e) rfl (by rfl) T.b_all ?_
        exact ej_var (pv 3)
abbrev N_is_post_of : List Str := ["game", "post"]
theorem sc_is_post_of : FnScope N_is_post_of ["game", "post"] (defScope s_is_post_of) := ⟨rfl, rfl, rfl, by decide +kernel, rfl, by decide +kernel, by decide +kernel⟩
theorem d_is_post_of {P : Program} {w : World} {K : PySem.W.Frag} {mg : Str → Option Value} {base : Heap} {C_Game : Addr} {C_Web : Addr} {C_BadPost : Addr} {C_CannotSend : Addr} {C_NotFree : Addr} {C_TagError : Addr} {C_UnknownPlace : Addr} (T : Txt K mg C_Game C_Web C_BadPost C_CannotSend C_NotFree C_TagError C_UnknownPlace) (D_is_rising : Def P w K mg base "is_rising" 1 1 wf_is_rising) (D_is_set : Def P w K mg base "is_set" 2 1 wf_is_set) (M_Web___len__ : MDef P w K mg base C_Web "__len__" 1 1 (wf_Web___len__ C_Web)) {f : Addr} {cdv : Value} {A : Around} {outer : List Env} {s : Shared} {H : Hp} {E : XK}
    (hr : Room 2 (A.deeper (envOfC "is_post_of" (defScope s_is_post_of) s.heap.objs.size f cdv))) :
    BJ E (cxOf (L2.CX P w) P w K mg base N_is_post_of "is_post_of" (defScope s_is_post_of) f cdv A outer s H E) (defBody s_is_post_of) (b_is_post_of C_Game C_Web) := by
  refine bj_cons ?_ ?_
  · refine sj_if ?_ ?_ ?_
    · refine tj_eq (ka := .e) (kb := .e) hr.units ?_ ?_
      · refine ej_fld (k := .e) T.c_Game T.n_Game_travel ?_
        exact ej_var (pv 0)
      · exact ej_str
    · refine bj_one ?_
      refine sj_ret ?_
      refine ej_andV ?_ ?_
      · refine ej_le (ka := .e) (kb := .e) ?_ ?_
        · refine ej_len (k := .e) (by rfl) T.b_len ?_
          exact ej_var (pv 1)
        · refine ej_fld (k := .e) T.c_Game T.n_Game_seekers ?_
          exact ej_var (pv 0)
      · refine ej_b1 ?_
        refine ej_fn D_is_set (hr.mono (by decide)) (by rfl) passM ?_
        refine aj_consE ?_ ?_
        · exact ej_var (pv 1)
        · refine aj_consE ?_ ?_
          · refine ej_lenO M_Web___len__ (hr.mono (by decide)) passM ?_ (by rfl) T.b_len
            refine ej_fld (k := .e) T.c_Game T.n_Game_web ?_
            exact ej_var (pv 0)
          · exact aj_nil
    · exact bj_nil
  · refine bj_cons ?_ ?_
    · refine sj_if ?_ ?_ ?_
      · refine tj_ne (ka := .e) (kb := .e) hr.units ?_ ?_
        · refine ej_len (k := .e) (by rfl) T.b_len ?_
          exact ej_var (pv 1)
        · refine ej_fld (k := .e) T.c_Game T.n_Game_seekers ?_
          exact ej_var (pv 0)
      · refine bj_one ?_
        refine sj_ret ?_
        exact ej_bl
      · exact bj_nil
    · refine bj_one ?_
      refine sj_ret ?_
      refine ej_andV ?_ ?_
      · refine ej_fn D_is_rising (hr.mono (by decide)) (by rfl) passM ?_
        refine aj_consE ?_ ?_
        · exact ej_var (pv 1)
        · exact aj_nil
      · refine ej_andV ?_ ?_
        · refine ej_le (ka := .e) (kb := .e) ?_ ?_
          · exact ej_int
          · refine ej_ix (ka := .e) (kb := .e) ?_ ?_ (fun _ _ => rfl)
            · exact ej_var (pv 1)
            · exact ej_int
        · refine ej_b1 ?_
          refine ej_lt (ka := .e) (kb := .e) ?_ ?_
          · refine ej_ix (ka := .e) (kb := .e) ?_ ?_ (fun _ _ => rfl)
            · exact ej_var (pv 1)
            · refine ej_neg (k := .e) ?_
              exact ej_int
          · refine ej_lenO M_Web___len__ (hr.mono (by decide)) passM ?_ (by rfl) T.b_len
            refine ej_fld (k := .e) T.c_Game T.n_Game_web ?_
            exact ej_var (pv 0)
abbrev N_check_post : List Str := ["game", "post"]
theorem sc_check_post : FnScope N_check_post ["game", "post"] (defScope s_check_post) := ⟨rfl, rfl, rfl, by decide +kernel, rfl, by decide +kernel, by decide +kernel⟩
theorem d_check_post {P : Program} {w : World} {K : PySem.W.Frag} {mg : Str → Option Value} {base : Heap} {C_Game : Addr} {C_Web : Addr} {C_BadPost : Addr} {C_CannotSend : Addr} {C_NotFree : Addr} {C_TagError : Addr} {C_UnknownPlace : Addr} (T : Txt K mg C_Game C_Web C_BadPost C_CannotSend C_NotFree C_TagError C_UnknownPlace) (D_is_post_of : Def P w K mg base "is_post_of" 2 3 (wf_is_post_of C_Game C_Web)) (R_BadPost : Err P w K mg base "BadPost" C_BadPost ["post"] 1) {f : Addr} {cdv : Value} {A : Around} {outer : List Env} {s : Shared} {H : Hp} {E : XK}
    (hr : Room 3 (A.deeper (envOfC "check_post" (defScope s_check_post) s.heap.objs.size f cdv))) :
    BJ E (cxOf (L2.CX P w) P w K mg base N_check_post "check_post" (defScope s_check_post) f cdv A outer s H E) (defBody s_check_post) (b_check_post C_Game C_Web C_BadPost) := by
  refine bj_one ?_
  refine sj_if ?_ ?_ ?_
  · refine tj_not ?_
    refine tj_tru (k := .e) ?_
    refine ej_fn D_is_post_of (hr.mono (by decide)) (by rfl) passM ?_
    refine aj_consE ?_ ?_
    · exact ej_var (pv 0)
    · refine aj_consE ?_ ?_
      · exact ej_var (pv 1)
      · exact aj_nil
  · refine bj_one ?_
    refine sj_raiseE R_BadPost (hr.mono (by decide)) (takes_of rfl rfl rfl rfl) ?_
    refine aj_consE ?_ ?_
    · exact ej_var (pv 1)
    · exact aj_nil
  · exact bj_nil
abbrev N_longer_posts : List Str := ["game", "posts", "apart", "longer", "post", "least", "place"]
theorem sc_longer_posts : FnScope N_longer_posts ["game", "posts"] (defScope s_longer_posts) := ⟨rfl, rfl, rfl, by decide +kernel, rfl, by decide +kernel, by decide +kernel⟩
theorem d_longer_posts {P : Program} {w : World} {K : PySem.W.Frag} {mg : Str → Option Value} {base : Heap} {C_Game : Addr} {C_Web : Addr} {C_BadPost : Addr} {C_CannotSend : Addr} {C_NotFree : Addr} {C_TagError : Addr} {C_UnknownPlace : Addr} (T : Txt K mg C_Game C_Web C_BadPost C_CannotSend C_NotFree C_TagError C_UnknownPlace) (M_Web___len__ : MDef P w K mg base C_Web "__len__" 1 1 (wf_Web___len__ C_Web)) {f : Addr} {cdv : Value} {A : Around} {outer : List Env} {s : Shared} {H : Hp} {E : XK}
    (hr : Room 2 (A.deeper (envOfC "longer_posts" (defScope s_longer_posts) s.heap.objs.size f cdv))) :
    BJ E (cxOf (L2.CX P w) P w K mg base N_longer_posts "longer_posts" (defScope s_longer_posts) f cdv A outer s H E) (defBody s_longer_posts) (b_longer_posts C_Game C_Web) := by
  refine bj_cons ?_ ?_
  · refine sj_name (i := 2) sc_longer_posts.nd rfl (by first | exact Or.inl rfl | exact Or.inr rfl) ?_
    refine ej_if ?_ ?_ ?_
    · refine tj_eq (ka := .e) (kb := .e) hr.units ?_ ?_
      · refine ej_fld (k := .e) T.c_Game T.n_Game_travel ?_
        exact ej_var (pv 0)
      · exact ej_str
    · exact ej_int
    · exact ej_int
  · refine bj_cons ?_ ?_
    · refine sj_nameO (i := 3) sc_longer_posts.nd rfl (by first | exact Or.inl rfl | exact Or.inr rfl) ?_
      refine ej_lst ?_
      exact aj_nil
    · refine bj_cons ?_ ?_
      · refine sj_for (tgs := [4]) (passes_of rfl) rfl ?_ ?_ ?_
        · refine ij_seq ?_
          exact ej_var (pv 1)
        · exact gj_name (pg_name (i := 4) sc_longer_posts.nd rfl (by first | exact Or.inl rfl | exact Or.inr rfl))
        · refine bj_cons ?_ ?_
          · refine sj_name (i := 5) sc_longer_posts.nd rfl (by first | exact Or.inl rfl | exact Or.inr rfl) ?_
            refine ej_if ?_ ?_ ?_
            · refine tj_tru (k := .e) ?_
              exact ej_var (pv 4)
            · refine ej_plus (ka := .e) (kb := .e) ?_ ?_
              · refine ej_ix (ka := .e) (kb := .e) ?_ ?_ (fun _ _ => rfl)
                · exact ej_var (pv 4)
                · refine ej_neg (k := .e) ?_
                  exact ej_int
              · exact ej_var (pv 2)
            · exact ej_int
          · refine bj_one ?_
            refine sj_extend (k := .f) (pv 3) ?_
            refine ej_comp (own := [("place", 6)]) (tgs := [6]) rfl sc_longer_posts.nd (blkOk_by (by rfl)) ?_ (by decide) ?_ ?_ ?_
            · refine ij_rng2 (ka := .e) (kb := .e) ?_ ?_ (by rfl) T.b_range
              · exact ej_var (pv 5)
              · refine ej_lenO M_Web___len__ (hr.mono (by decide)) passM ?_ (by rfl) T.b_len
                refine ej_fld (k := .e) T.c_Game T.n_Game_web ?_
                exact ej_var (pv 0)
            · refine fun _ _ _ _ _ => ?_
              exact gj_name (pg_name (i := 6) sc_longer_posts.nd rfl (by first | exact Or.inl rfl | exact Or.inr rfl))
            · refine fun _ _ _ _ _ => ?_
              exact tsj_nil
            · refine fun _ _ _ _ _ => ?_
              refine ej_tup ?_
              refine aj_star ?_ ?_
              · exact ej_var (pv 4)
              · refine aj_consE ?_ ?_
                · exact ej_var (pv 6)
                · exact aj_nil
      · refine bj_one ?_
        exact sj_retO (pv 3)
abbrev N_posts_of : List Str := ["game", "posts", "longest", "_"]
theorem sc_posts_of : FnScope N_posts_of ["game"] (defScope s_posts_of) := ⟨rfl, rfl, rfl, by decide +kernel, rfl, by decide +kernel, by decide +kernel⟩
theorem d_posts_of {P : Program} {w : World} {K : PySem.W.Frag} {mg : Str → Option Value} {base : Heap} {C_Game : Addr} {C_Web : Addr} {C_BadPost : Addr} {C_CannotSend : Addr} {C_NotFree : Addr} {C_TagError : Addr} {C_UnknownPlace : Addr} (T : Txt K mg C_Game C_Web C_BadPost C_CannotSend C_NotFree C_TagError C_UnknownPlace) (D_longer_posts : Def P w K mg base "longer_posts" 2 3 (wf_longer_posts C_Game C_Web)) {f : Addr} {cdv : Value} {A : Around} {outer : List Env} {s : Shared} {H : Hp} {E : XK}
    (hr : Room 3 (A.deeper (envOfC "posts_of" (defScope s_posts_of) s.heap.objs.size f cdv))) :
    BJ E (cxOf (L2.CX P w) P w K mg base N_posts_of "posts_of" (defScope s_posts_of) f cdv A outer s H E) (defBody s_posts_of) (b_posts_of C_Game C_Web) := by
  refine bj_cons ?_ ?_
  · refine sj_nameO (i := 1) sc_posts_of.nd rfl (by first | exact Or.inl rfl | exact Or.inr rfl) ?_
    refine ej_lst ?_
    refine aj_consE ?_ ?_
    · refine ej_tup ?_
      exact aj_nil
    · exact aj_nil
  · refine bj_cons ?_ ?_
    · refine sj_nameO (i := 2) sc_posts_of.nd rfl (by first | exact Or.inl rfl | exact Or.inr rfl) ?_
      refine ej_lst ?_
      refine aj_consE ?_ ?_
      · refine ej_tup ?_
        exact aj_nil
      · exact aj_nil
    · refine bj_cons ?_ ?_
      · refine sj_for (tgs := [3]) (passes_of rfl) rfl ?_ ?_ ?_
        · refine ij_rng1 (ka := .e) ?_ (by rfl) T.b_range
          refine ej_fld (k := .e) T.c_Game T.n_Game_seekers ?_
          exact ej_var (pv 0)
        · exact gj_name (pg_name (i := 3) sc_posts_of.nd rfl (by first | exact Or.inl rfl | exact Or.inr rfl))
        · refine bj_cons ?_ ?_
          · refine sj_frz (i := 2) ?_
            refine sj_nameO (i := 2) sc_posts_of.nd rfl (by first | exact Or.inl rfl | exact Or.inr rfl) ?_
            refine ej_fnF D_longer_posts (hr.mono (by decide)) (by rfl) passM ?_
            refine aj_consE ?_ ?_
            · exact ej_var (pv 0)
            · refine aj_consE ?_ ?_
              · exact ej_var (pv 2)
              · exact aj_nil
          · refine bj_one ?_
            refine sj_extend (k := .o) (pv 1) ?_
            exact ej_peek (pv 2)
      · refine bj_one ?_
        refine sj_retIf ?_ (pv 2) ?_
        · refine tj_eq (ka := .e) (kb := .e) hr.units ?_ ?_
          · refine ej_fld (k := .e) T.c_Game T.n_Game_travel ?_
            exact ej_var (pv 0)
          · exact ej_str
        · refine ej_sortT (k := .o) (units65 hr) (by rfl) T.b_sorted ?_
          exact ej_peek (pv 1)
abbrev N_with_one : List Str := ["post", "place"]
theorem sc_with_one : FnScope N_with_one ["post", "place"] (defScope s_with_one) := ⟨rfl, rfl, rfl, by decide +kernel, rfl, by decide +kernel, by decide +kernel⟩
theorem d_with_one {P : Program} {w : World} {K : PySem.W.Frag} {mg : Str → Option Value} {base : Heap} {C_Game : Addr} {C_Web : Addr} {C_BadPost : Addr} {C_CannotSend : Addr} {C_NotFree : Addr} {C_TagError : Addr} {C_UnknownPlace : Addr} (T : Txt K mg C_Game C_Web C_BadPost C_CannotSend C_NotFree C_TagError C_UnknownPlace)  {f : Addr} {cdv : Value} {A : Around} {outer : List Env} {s : Shared} {H : Hp} {E : XK}
    (hr : Room 0 (A.deeper (envOfC "with_one" (defScope s_with_one) s.heap.objs.size f cdv))) :
    BJ E (cxOf (L2.CX P w) P w K mg base N_with_one "with_one" (defScope s_with_one) f cdv A outer s H E) (defBody s_with_one) b_with_one := by
  refine bj_one ?_
  refine sj_ret ?_
  refine ej_tuple1 (k := .f) (by rfl) T.b_tuple ?_
  refine ej_sortA (k := .f) (by rfl) T.b_sorted ?_
  refine ej_lst ?_
  refine aj_star ?_ ?_
  · exact ej_var (pv 0)
  · refine aj_consE ?_ ?_
    · exact ej_var (pv 1)
    · exact aj_nil
abbrev N_Web_steps : List Str := ["self", "place", "beat"]
theorem sc_Web_steps : FnScope N_Web_steps ["self", "place", "beat"] (defScope s_Web_steps) := ⟨rfl, rfl, rfl, by decide +kernel, rfl, by decide +kernel, by decide +kernel⟩
theorem d_Web_steps {P : Program} {w : World} {K : PySem.W.Frag} {mg : Str → Option Value} {base : Heap} {C_Game : Addr} {C_Web : Addr} {C_BadPost : Addr} {C_CannotSend : Addr} {C_NotFree : Addr} {C_TagError : Addr} {C_UnknownPlace : Addr} (T : Txt K mg C_Game C_Web C_BadPost C_CannotSend C_NotFree C_TagError C_UnknownPlace) (D_check_place : Def P w K mg base "check_place" 2 3 (wf_check_place C_Web C_UnknownPlace)) {f : Addr} {cdv : Value} {A : Around} {outer : List Env} {s : Shared} {H : Hp} {E : XK}
    (hr : Room 3 (A.deeper (envOfC "Web.steps" (defScope s_Web_steps) s.heap.objs.size f cdv))) :
    BJ E (cxOf (L2.CX P w) P w K mg base N_Web_steps "Web.steps" (defScope s_Web_steps) f cdv A outer s H E) (defBody s_Web_steps) (b_Web_steps C_Web C_UnknownPlace) := by
  refine bj_cons ?_ ?_
  · refine sj_expr (k := .e) ?_
    refine ej_fn D_check_place (hr.mono (by decide)) (by rfl) passM ?_
    refine aj_consE ?_ ?_
    · exact ej_var (pv 0)
    · refine aj_consE ?_ ?_
      · exact ej_var (pv 1)
      · exact aj_nil
  · refine bj_one ?_
    refine sj_ret ?_
    refine ej_ix (ka := .e) (kb := .e) ?_ ?_ (fun _ _ => rfl)
    · refine ej_ix (ka := .e) (kb := .e) ?_ ?_ (fun _ _ => rfl)
      · refine ej_fld (k := .e) T.c_Web T.n_Web__steps ?_
        exact ej_var (pv 0)
      · refine ej_mod (ka := .e) (kb := .e) ?_ ?_
        · exact ej_var (pv 2)
        · refine ej_fld (k := .e) T.c_Web T.n_Web_beats ?_
          exact ej_var (pv 0)
    · exact ej_var (pv 1)
abbrev N_sends_of : List Str := ["game", "beat", "post", "ways", "place", "way", "step"]
theorem sc_sends_of : FnScope N_sends_of ["game", "beat", "post"] (defScope s_sends_of) := ⟨rfl, rfl, rfl, by decide +kernel, rfl, by decide +kernel, by decide +kernel⟩
theorem d_sends_of {P : Program} {w : World} {K : PySem.W.Frag} {mg : Str → Option Value} {base : Heap} {C_Game : Addr} {C_Web : Addr} {C_BadPost : Addr} {C_CannotSend : Addr} {C_NotFree : Addr} {C_TagError : Addr} {C_UnknownPlace : Addr} (T : Txt K mg C_Game C_Web C_BadPost C_CannotSend C_NotFree C_TagError C_UnknownPlace) (D_posts_of : Def P w K mg base "posts_of" 1 4 (wf_posts_of C_Game C_Web)) (D_with_one : Def P w K mg base "with_one" 2 1 wf_with_one) (M_Web_steps : MDef P w K mg base C_Web "steps" 3 4 (wf_Web_steps C_Web C_UnknownPlace)) {f : Addr} {cdv : Value} {A : Around} {outer : List Env} {s : Shared} {H : Hp} {E : XK}
    (hr : Room 4 (A.deeper (envOfC "sends_of" (defScope s_sends_of) s.heap.objs.size f cdv))) :
    BJ E (cxOf (L2.CX P w) P w K mg base N_sends_of "sends_of" (defScope s_sends_of) f cdv A outer s H E) (defBody s_sends_of) (b_sends_of C_Game C_Web C_UnknownPlace) := by
  refine bj_cons ?_ ?_
  · refine sj_if ?_ ?_ ?_
    · refine tj_eq (ka := .e) (kb := .e) hr.units ?_ ?_
      · refine ej_fld (k := .e) T.c_Game T.n_Game_travel ?_
        exact ej_var (pv 0)
      · exact ej_str
    · refine bj_one ?_
      refine sj_retF ?_
      refine ej_fnF D_posts_of (hr.mono (by decide)) (by rfl) passM ?_
      refine aj_consE ?_ ?_
      · exact ej_var (pv 0)
      · exact aj_nil
    · exact bj_nil
  · refine bj_cons ?_ ?_
    · refine sj_nameO (i := 3) sc_sends_of.nd rfl (by first | exact Or.inl rfl | exact Or.inr rfl) ?_
      refine ej_lst ?_
      refine aj_consE ?_ ?_
      · refine ej_tup ?_
        exact aj_nil
      · exact aj_nil
    · refine bj_cons ?_ ?_
      · refine sj_for (tgs := [4]) (passes_of rfl) rfl ?_ ?_ ?_
        · refine ij_seq ?_
          exact ej_var (pv 2)
        · exact gj_name (pg_name (i := 4) sc_sends_of.nd rfl (by first | exact Or.inl rfl | exact Or.inr rfl))
        · refine bj_one ?_
          refine sj_frz (i := 3) ?_
          refine sj_nameO (i := 3) sc_sends_of.nd rfl (by first | exact Or.inl rfl | exact Or.inr rfl) ?_
          refine ej_sortSetG (k := .f) ?_ rfl (units65 hr) (by rfl) T.b_sorted (by rfl) T.b_set
          refine ej_comp2 (own := [("way", 5), ("step", 6)]) (tgs := [5]) (tgs1 := [6]) rfl sc_sends_of.nd (blkOk_by (by rfl)) ?_ (by decide) (by decide) (gda_set _) ?_ ?_ ?_ ?_ ?_ ?_
          · refine ij_seq ?_
            exact ej_var (pv 3)
          · refine fun _ _ _ _ _ => ?_
            exact gj_name (pg_name (i := 5) sc_sends_of.nd rfl (by first | exact Or.inl rfl | exact Or.inr rfl))
          · refine fun _ _ _ _ _ => ?_
            exact tsj_nil
          · refine fun _ _ _ _ _ => ?_
            refine ij_seq ?_
            refine ej_meth M_Web_steps (hr.mono (by decide)) passL ?_ ?_
            · refine ej_fld (k := .e) T.c_Game T.n_Game_web ?_
              exact ej_var (pv 0)
            · refine aj_consE ?_ ?_
              · exact ej_var (pv 4)
              · refine aj_consE ?_ ?_
                · exact ej_var (pv 1)
                · exact aj_nil
          · refine fun _ _ _ _ _ => ?_
            exact gj_name (pg_name (i := 6) sc_sends_of.nd rfl (by first | exact Or.inl rfl | exact Or.inr rfl))
          · refine fun _ _ _ _ _ => ?_
            exact tsj_nil
          · refine fun _ _ _ _ _ => ?_
            refine ej_fn D_with_one (hr.mono (by decide)) (by rfl) passL ?_
            refine aj_consE ?_ ?_
            · exact ej_var (pv 5)
            · refine aj_consE ?_ ?_
              · exact ej_var (pv 6)
              · exact aj_nil
      · refine bj_one ?_
        exact sj_retO (pv 3)
abbrev N_check_round : List Str := ["game", "beat", "post", "sent"]
theorem sc_check_round : FnScope N_check_round ["game", "beat", "post", "sent"] (defScope s_check_round) := ⟨rfl, rfl, rfl, by decide +kernel, rfl, by decide +kernel, by decide +kernel⟩
theorem d_check_round {P : Program} {w : World} {K : PySem.W.Frag} {mg : Str → Option Value} {base : Heap} {C_Game : Addr} {C_Web : Addr} {C_BadPost : Addr} {C_CannotSend : Addr} {C_NotFree : Addr} {C_TagError : Addr} {C_UnknownPlace : Addr} (T : Txt K mg C_Game C_Web C_BadPost C_CannotSend C_NotFree C_TagError C_UnknownPlace) (D_check_post : Def P w K mg base "check_post" 2 4 (wf_check_post C_Game C_Web C_BadPost)) (D_sends_of : Def P w K mg base "sends_of" 3 5 (wf_sends_of C_Game C_Web)) (R_CannotSend : Err P w K mg base "CannotSend" C_CannotSend ["post"] 1) {f : Addr} {cdv : Value} {A : Around} {outer : List Env} {s : Shared} {H : Hp} {E : XK}
    (hr : Room 5 (A.deeper (envOfC "check_round" (defScope s_check_round) s.heap.objs.size f cdv))) :
    BJ E (cxOf (L2.CX P w) P w K mg base N_check_round "check_round" (defScope s_check_round) f cdv A outer s H E) (defBody s_check_round) (b_check_round C_Game C_Web C_BadPost C_CannotSend) := by
  refine bj_cons ?_ ?_
  · refine sj_expr (k := .e) ?_
    refine ej_fn D_check_post (hr.mono (by decide)) (by rfl) passM ?_
    refine aj_consE ?_ ?_
    · exact ej_var (pv 0)
    · refine aj_consE ?_ ?_
      · exact ej_var (pv 2)
      · exact aj_nil
  · refine bj_one ?_
    refine sj_if ?_ ?_ ?_
    · refine tj_nin (ka := .e) (kb := .e) (units65 hr) ?_ ?_
      · exact ej_var (pv 3)
      · refine ej_fn D_sends_of (hr.mono (by decide)) (by rfl) passM ?_
        refine aj_consE ?_ ?_
        · exact ej_var (pv 0)
        · refine aj_consE ?_ ?_
          · exact ej_var (pv 1)
          · refine aj_consE ?_ ?_
            · exact ej_var (pv 2)
            · exact aj_nil
    · refine bj_one ?_
      refine sj_raiseE R_CannotSend (hr.mono (by decide)) (takes_of rfl rfl rfl rfl) ?_
      refine aj_consE ?_ ?_
      · exact ej_var (pv 3)
      · exact aj_nil
    · exact bj_nil
abbrev N_barred_of : List Str := ["game", "post", "sent", "held"]
theorem sc_barred_of : FnScope N_barred_of ["game", "post", "sent"] (defScope s_barred_of) := ⟨rfl, rfl, rfl, by decide +kernel, rfl, by decide +kernel, by decide +kernel⟩
theorem d_barred_of {P : Program} {w : World} {K : PySem.W.Frag} {mg : Str → Option Value} {base : Heap} {C_Game : Addr} {C_Web : Addr} {C_BadPost : Addr} {C_CannotSend : Addr} {C_NotFree : Addr} {C_TagError : Addr} {C_UnknownPlace : Addr} (T : Txt K mg C_Game C_Web C_BadPost C_CannotSend C_NotFree C_TagError C_UnknownPlace)  {f : Addr} {cdv : Value} {A : Around} {outer : List Env} {s : Shared} {H : Hp} {E : XK}
    (hr : Room 0 (A.deeper (envOfC "barred_of" (defScope s_barred_of) s.heap.objs.size f cdv))) :
    BJ E (cxOf (L2.CX P w) P w K mg base N_barred_of "barred_of" (defScope s_barred_of) f cdv A outer s H E) (defBody s_barred_of) (b_barred_of C_Game) := by
  refine bj_one ?_
  refine sj_ret ?_
  refine ej_if ?_ ?_ ?_
  · refine tj_eq (ka := .e) (kb := .e) hr.units ?_ ?_
    · refine ej_fld (k := .e) T.c_Game T.n_Game_travel ?_
      exact ej_var (pv 0)
    · exact ej_str
  · exact ej_var (pv 2)
  · refine ej_tuple1 (k := .f) (by rfl) T.b_tuple ?_
    refine ej_comp (own := [("held", 3)]) (tgs := [3]) rfl sc_barred_of.nd (blkOk_by (by rfl)) ?_ (by decide) ?_ ?_ ?_
    · refine ij_seq ?_
      exact ej_var (pv 1)
    · refine fun _ _ _ _ _ => ?_
      exact gj_name (pg_name (i := 3) sc_barred_of.nd rfl (by first | exact Or.inl rfl | exact Or.inr rfl))
    · refine fun _ _ _ _ _ => ?_
      refine tsj_one ?_
      refine tj_in (ka := .e) (kb := .e) (units65 hr) ?_ ?_
      · exact ej_var (pv 3)
      · exact ej_var (pv 2)
    · refine fun _ _ _ _ _ => ?_
      exact ej_var (pv 3)
abbrev N_reached : List Str := ["web", "beat", "starts", "barred", "found", "ahead", "place", "other"]
theorem sc_reached : FnScope N_reached ["web", "beat", "starts", "barred"] (defScope s_reached) := ⟨rfl, rfl, rfl, by decide +kernel, rfl, by decide +kernel, by decide +kernel⟩
theorem d_reached {P : Program} {w : World} {K : PySem.W.Frag} {mg : Str → Option Value} {base : Heap} {C_Game : Addr} {C_Web : Addr} {C_BadPost : Addr} {C_CannotSend : Addr} {C_NotFree : Addr} {C_TagError : Addr} {C_UnknownPlace : Addr} (T : Txt K mg C_Game C_Web C_BadPost C_CannotSend C_NotFree C_TagError C_UnknownPlace) (M_Web_steps : MDef P w K mg base C_Web "steps" 3 4 (wf_Web_steps C_Web C_UnknownPlace)) {f : Addr} {cdv : Value} {A : Around} {outer : List Env} {s : Shared} {H : Hp} {E : XK}
    (hr : Room 4 (A.deeper (envOfC "reached" (defScope s_reached) s.heap.objs.size f cdv))) :
    BJ E (cxOf (L2.CX P w) P w K mg base N_reached "reached" (defScope s_reached) f cdv A outer s H E) (defBody s_reached) (b_reached C_Web C_UnknownPlace) := by
  refine bj_cons ?_ ?_
  · refine sj_nameO (i := 4) sc_reached.nd rfl (by first | exact Or.inl rfl | exact Or.inr rfl) ?_
    exact ej_dictK
  · refine bj_cons ?_ ?_
    · refine sj_compSO (own := [("place", 6)]) (tgs := [6]) (i := 5) rfl sc_reached.nd rfl rfl (sw_true rfl rfl rfl (by decide +kernel)) (blkOk_by (by rfl)) ?_ (by decide) ?_ ?_ ?_
      · refine ij_seq ?_
        exact ej_var (pv 2)
      · refine fun _ _ _ _ _ => ?_
        exact gj_name (pg_name (i := 6) sc_reached.nd rfl (by first | exact Or.inl rfl | exact Or.inr rfl))
      · refine fun _ _ _ _ _ => ?_
        refine tsj_one ?_
        refine tj_nin (ka := .e) (kb := .e) (units65 hr) ?_ ?_
        · exact ej_var (pv 6)
        · exact ej_var (pv 3)
      · refine fun _ _ _ _ _ => ?_
        exact ej_var (pv 6)
    · refine bj_cons ?_ ?_
      · refine sj_while (passes_of rfl) ?_ ?_
        · refine tj_tru (k := .o) ?_
          exact ej_peek (pv 5)
        · refine bj_cons ?_ ?_
          · exact sj_popV (j := 6) sc_reached.nd rfl (by first | exact Or.inl rfl | exact Or.inr rfl) (pv 5) (by exact fun _ h => ps_set (i := 6) sc_reached.nd rfl (by first | exact Or.inl rfl | exact Or.inr rfl) h)
          · refine bj_one ?_
            refine sj_if ?_ ?_ ?_
            · refine tj_dninK (ka := .e) (kb := .o) (hu_of hr) ?_ ?_
              · exact ej_var (pv 6)
              · exact ej_peek (pv 4)
            · refine bj_cons ?_ ?_
              · refine sj_dputK (k := .e) (hu_of hr) (pv 4) ?_ ?_
                · exact ej_var (pv 6)
                · exact ej_bl
              · refine bj_one ?_
                refine sj_extend (k := .f) (pv 5) ?_
                refine ej_comp (own := [("other", 7)]) (tgs := [7]) rfl sc_reached.nd (blkOk_by (by rfl)) ?_ (by decide) ?_ ?_ ?_
                · refine ij_seq ?_
                  refine ej_meth M_Web_steps (hr.mono (by decide)) passM ?_ ?_
                  · exact ej_var (pv 0)
                  · refine aj_consE ?_ ?_
                    · exact ej_var (pv 6)
                    · refine aj_consE ?_ ?_
                      · exact ej_var (pv 1)
                      · exact aj_nil
                · refine fun _ _ _ _ _ => ?_
                  exact gj_name (pg_name (i := 7) sc_reached.nd rfl (by first | exact Or.inl rfl | exact Or.inr rfl))
                · refine fun _ _ _ _ _ => ?_
                  refine tsj_one ?_
                  refine tj_nin (ka := .e) (kb := .e) (units65 hr) ?_ ?_
                  · exact ej_var (pv 7)
                  · exact ej_var (pv 3)
                · refine fun _ _ _ _ _ => ?_
                  exact ej_var (pv 7)
            · exact bj_nil
      · refine bj_one ?_
        refine sj_ret ?_
        refine ej_tuple1 (k := .f) (by rfl) T.b_tuple ?_
        refine ej_sortDI (k := .o) (by rfl) T.b_sorted ?_
        exact ej_peek (pv 4)
abbrev N_ends_of : List Str := ["game", "beat", "barred", "place"]
theorem sc_ends_of : FnScope N_ends_of ["game", "beat", "barred", "place"] (defScope s_ends_of) := ⟨rfl, rfl, rfl, by decide +kernel, rfl, by decide +kernel, by decide +kernel⟩
theorem d_ends_of {P : Program} {w : World} {K : PySem.W.Frag} {mg : Str → Option Value} {base : Heap} {C_Game : Addr} {C_Web : Addr} {C_BadPost : Addr} {C_CannotSend : Addr} {C_NotFree : Addr} {C_TagError : Addr} {C_UnknownPlace : Addr} (T : Txt K mg C_Game C_Web C_BadPost C_CannotSend C_NotFree C_TagError C_UnknownPlace) (D_reached : Def P w K mg base "reached" 4 5 (wf_reached C_Web)) (M_Web_steps : MDef P w K mg base C_Web "steps" 3 4 (wf_Web_steps C_Web C_UnknownPlace)) {f : Addr} {cdv : Value} {A : Around} {outer : List Env} {s : Shared} {H : Hp} {E : XK}
    (hr : Room 5 (A.deeper (envOfC "ends_of" (defScope s_ends_of) s.heap.objs.size f cdv))) :
    BJ E (cxOf (L2.CX P w) P w K mg base N_ends_of "ends_of" (defScope s_ends_of) f cdv A outer s H E) (defBody s_ends_of) (b_ends_of C_Game C_Web C_UnknownPlace) := by
  refine bj_cons ?_ ?_
  · refine sj_if ?_ ?_ ?_
    · refine tj_eq (ka := .e) (kb := .e) hr.units ?_ ?_
      · refine ej_fld (k := .e) T.c_Game T.n_Game_pace ?_
        exact ej_var (pv 0)
      · exact ej_str
    · refine bj_one ?_
      refine sj_ret ?_
      refine ej_fn D_reached (hr.mono (by decide)) (by rfl) passM ?_
      refine aj_consE ?_ ?_
      · refine ej_fld (k := .e) T.c_Game T.n_Game_web ?_
        exact ej_var (pv 0)
      · refine aj_consE ?_ ?_
        · exact ej_var (pv 1)
        · refine aj_consE ?_ ?_
          · refine ej_tup ?_
            refine aj_consE ?_ ?_
            · exact ej_var (pv 3)
            · exact aj_nil
          · refine aj_consE ?_ ?_
            · exact ej_var (pv 2)
            · exact aj_nil
    · exact bj_nil
  · refine bj_one ?_
    refine sj_ret ?_
    refine ej_meth M_Web_steps (hr.mono (by decide)) passM ?_ ?_
    · refine ej_fld (k := .e) T.c_Game T.n_Game_web ?_
      exact ej_var (pv 0)
    · refine aj_consE ?_ ?_
      · exact ej_var (pv 3)
      · refine aj_consE ?_ ?_
        · exact ej_var (pv 1)
        · exact aj_nil
abbrev N_not_caught : List Str := ["game", "sent", "place", "ends", "end"]
theorem sc_not_caught : FnScope N_not_caught ["game", "sent", "place", "ends"] (defScope s_not_caught) := ⟨rfl, rfl, rfl, by decide +kernel, rfl, by decide +kernel, by decide +kernel⟩
theorem d_not_caught {P : Program} {w : World} {K : PySem.W.Frag} {mg : Str → Option Value} {base : Heap} {C_Game : Addr} {C_Web : Addr} {C_BadPost : Addr} {C_CannotSend : Addr} {C_NotFree : Addr} {C_TagError : Addr} {C_UnknownPlace : Addr} (T : Txt K mg C_Game C_Web C_BadPost C_CannotSend C_NotFree C_TagError C_UnknownPlace)  {f : Addr} {cdv : Value} {A : Around} {outer : List Env} {s : Shared} {H : Hp} {E : XK}
    (hr : Room 0 (A.deeper (envOfC "not_caught" (defScope s_not_caught) s.heap.objs.size f cdv))) :
    BJ E (cxOf (L2.CX P w) P w K mg base N_not_caught "not_caught" (defScope s_not_caught) f cdv A outer s H E) (defBody s_not_caught) (b_not_caught C_Game) := by
  refine bj_cons ?_ ?_
  · refine sj_if ?_ ?_ ?_
    · refine tj_tw ?_
      refine twj_and ?_ ?_
      · refine tj_eq (ka := .e) (kb := .e) hr.units ?_ ?_
        · refine ej_fld (k := .e) T.c_Game T.n_Game_travel ?_
          exact ej_var (pv 0)
        · exact ej_str
      · refine twj_and1 ?_
        refine tj_in (ka := .e) (kb := .e) (units65 hr) ?_ ?_
        · exact ej_var (pv 2)
        · exact ej_var (pv 1)
    · refine bj_one ?_
      refine sj_ret ?_
      refine ej_tup ?_
      exact aj_nil
    · exact bj_nil
  · refine bj_one ?_
    refine sj_ret ?_
    refine ej_tuple1 (k := .f) (by rfl) T.b_tuple ?_
    refine ej_comp (own := [("end", 4)]) (tgs := [4]) rfl sc_not_caught.nd (blkOk_by (by rfl)) ?_ (by decide) ?_ ?_ ?_
    · refine ij_seq ?_
      exact ej_var (pv 3)
    · refine fun _ _ _ _ _ => ?_
      exact gj_name (pg_name (i := 4) sc_not_caught.nd rfl (by first | exact Or.inl rfl | exact Or.inr rfl))
    · refine fun _ _ _ _ _ => ?_
      refine tsj_one ?_
      refine tj_nin (ka := .e) (kb := .e) (units65 hr) ?_ ?_
      · exact ej_var (pv 4)
      · exact ej_var (pv 1)
    · refine fun _ _ _ _ _ => ?_
      exact ej_var (pv 4)
abbrev N_runs_of : List Str := ["game", "beat", "post", "sent", "place"]
theorem sc_runs_of : FnScope N_runs_of ["game", "beat", "post", "sent", "place"] (defScope s_runs_of) := ⟨rfl, rfl, rfl, by decide +kernel, rfl, by decide +kernel, by decide +kernel⟩
theorem d_runs_of {P : Program} {w : World} {K : PySem.W.Frag} {mg : Str → Option Value} {base : Heap} {C_Game : Addr} {C_Web : Addr} {C_BadPost : Addr} {C_CannotSend : Addr} {C_NotFree : Addr} {C_TagError : Addr} {C_UnknownPlace : Addr} (T : Txt K mg C_Game C_Web C_BadPost C_CannotSend C_NotFree C_TagError C_UnknownPlace) (D_barred_of : Def P w K mg base "barred_of" 3 1 (wf_barred_of C_Game C_Web)) (D_ends_of : Def P w K mg base "ends_of" 4 6 (wf_ends_of C_Game C_Web)) (D_not_caught : Def P w K mg base "not_caught" 4 1 (wf_not_caught C_Game C_Web)) {f : Addr} {cdv : Value} {A : Around} {outer : List Env} {s : Shared} {H : Hp} {E : XK}
    (hr : Room 6 (A.deeper (envOfC "runs_of" (defScope s_runs_of) s.heap.objs.size f cdv))) :
    BJ E (cxOf (L2.CX P w) P w K mg base N_runs_of "runs_of" (defScope s_runs_of) f cdv A outer s H E) (defBody s_runs_of) (b_runs_of C_Game C_Web) := by
  refine bj_one ?_
  refine sj_ret ?_
  refine ej_fn D_not_caught (hr.mono (by decide)) (by rfl) passM ?_
  refine aj_consE ?_ ?_
  · exact ej_var (pv 0)
  · refine aj_consE ?_ ?_
    · exact ej_var (pv 3)
    · refine aj_consE ?_ ?_
      · exact ej_var (pv 4)
      · refine aj_consE ?_ ?_
        · refine ej_fn D_ends_of (hr.mono (by decide)) (by rfl) passM ?_
          refine aj_consE ?_ ?_
          · exact ej_var (pv 0)
          · refine aj_consE ?_ ?_
            · exact ej_var (pv 1)
            · refine aj_consE ?_ ?_
              · refine ej_fn D_barred_of (hr.mono (by decide)) (by rfl) passM ?_
                refine aj_consE ?_ ?_
                · exact ej_var (pv 0)
                · refine aj_consE ?_ ?_
                  · exact ej_var (pv 2)
                  · refine aj_consE ?_ ?_
                    · exact ej_var (pv 3)
                    · exact aj_nil
              · refine aj_consE ?_ ?_
                · exact ej_var (pv 4)
                · exact aj_nil
        · exact aj_nil
abbrev N_Game_runs : List Str := ["self", "beat", "post", "sent", "place"]
theorem sc_Game_runs : FnScope N_Game_runs ["self", "beat", "post", "sent", "place"] (defScope s_Game_runs) := ⟨rfl, rfl, rfl, by decide +kernel, rfl, by decide +kernel, by decide +kernel⟩
theorem d_Game_runs {P : Program} {w : World} {K : PySem.W.Frag} {mg : Str → Option Value} {base : Heap} {C_Game : Addr} {C_Web : Addr} {C_BadPost : Addr} {C_CannotSend : Addr} {C_NotFree : Addr} {C_TagError : Addr} {C_UnknownPlace : Addr} (T : Txt K mg C_Game C_Web C_BadPost C_CannotSend C_NotFree C_TagError C_UnknownPlace) (D_check_free : Def P w K mg base "check_free" 3 4 (wf_check_free C_Game C_Web C_UnknownPlace C_NotFree)) (D_check_round : Def P w K mg base "check_round" 4 6 (wf_check_round C_Game C_Web C_BadPost C_CannotSend)) (D_runs_of : Def P w K mg base "runs_of" 5 7 (wf_runs_of C_Game C_Web)) {f : Addr} {cdv : Value} {A : Around} {outer : List Env} {s : Shared} {H : Hp} {E : XK}
    (hr : Room 7 (A.deeper (envOfC "Game.runs" (defScope s_Game_runs) s.heap.objs.size f cdv))) :
    BJ E (cxOf (L2.CX P w) P w K mg base N_Game_runs "Game.runs" (defScope s_Game_runs) f cdv A outer s H E) (defBody s_Game_runs) (b_Game_runs C_Game C_Web C_BadPost C_CannotSend C_NotFree C_UnknownPlace) := by
  refine bj_cons ?_ ?_
  · refine sj_expr (k := .e) ?_
    refine ej_fn D_check_round (hr.mono (by decide)) (by rfl) passM ?_
    refine aj_consE ?_ ?_
    · exact ej_var (pv 0)
    · refine aj_consE ?_ ?_
      · exact ej_var (pv 1)
      · refine aj_consE ?_ ?_
        · exact ej_var (pv 2)
        · refine aj_consE ?_ ?_
          · exact ej_var (pv 3)
          · exact aj_nil
  · refine bj_cons ?_ ?_
    · refine sj_expr (k := .e) ?_
      refine ej_fn D_check_free (hr.mono (by decide)) (by rfl) passM ?_
      refine aj_consE ?_ ?_
      · exact ej_var (pv 0)
      · refine aj_consE ?_ ?_
        · exact ej_var (pv 2)
        · refine aj_consE ?_ ?_
          · exact ej_var (pv 4)
          · exact aj_nil
    · refine bj_one ?_
      refine sj_ret ?_
      refine ej_fn D_runs_of (hr.mono (by decide)) (by rfl) passM ?_
      refine aj_consE ?_ ?_
      · exact ej_var (pv 0)
      · refine aj_consE ?_ ?_
        · exact ej_var (pv 1)
        · refine aj_consE ?_ ?_
          · exact ej_var (pv 2)
          · refine aj_consE ?_ ?_
            · exact ej_var (pv 3)
            · refine aj_consE ?_ ?_
              · exact ej_var (pv 4)
              · exact aj_nil
abbrev N_Game___init__ : List Str := ["self", "web", "seekers", "travel", "pace", "late"]
theorem sc_Game___init__ : FnScope N_Game___init__ ["self", "web", "seekers", "travel", "pace", "late"] (defScope s_Game___init__) := ⟨rfl, rfl, rfl, by decide +kernel, rfl, by decide +kernel, by decide +kernel⟩
theorem d_Game___init__ {P : Program} {w : World} {K : PySem.W.Frag} {mg : Str → Option Value} {base : Heap} {C_Game : Addr} {C_Web : Addr} {C_BadPost : Addr} {C_CannotSend : Addr} {C_NotFree : Addr} {C_TagError : Addr} {C_UnknownPlace : Addr} (T : Txt K mg C_Game C_Web C_BadPost C_CannotSend C_NotFree C_TagError C_UnknownPlace)  {f : Addr} {cdv : Value} {A : Around} {outer : List Env} {s : Shared} {H : Hp} {E : XK}
    (hr : Room 0 (A.deeper (envOfC "Game.__init__" (defScope s_Game___init__) s.heap.objs.size f cdv))) :
    BJ E (cxOf (L2.CX P w) P w K mg base N_Game___init__ "Game.__init__" (defScope s_Game___init__) f cdv A outer s H E) (defBody s_Game___init__) (b_Game___init__ C_Game) := by
  refine bj_cons ?_ ?_
  · refine sj_if ?_ ?_ ?_
    · refine tj_nin (ka := .e) (kb := .e) (units65 hr) ?_ ?_
      · exact ej_var (pv 3)
      · refine ej_tup ?_
        refine aj_consE ?_ ?_
        · exact ej_str
        · refine aj_consE ?_ ?_
          · exact ej_str
          · exact aj_nil
    · refine bj_one ?_
      exact sj_never
    · exact bj_nil
  · refine bj_cons ?_ ?_
    · refine sj_if ?_ ?_ ?_
      · refine tj_not ?_
        refine tj_ch2 (ka := .e) (kb := .e) (kc := .e) brg_le brg_le op_le op_le ?_ ?_ ?_
        · exact ej_int
        · exact ej_var (pv 2)
        · refine ej_if ?_ ?_ ?_
          · refine tj_eq (ka := .e) (kb := .e) hr.units ?_ ?_
            · exact ej_var (pv 3)
            · exact ej_str
          · exact ej_int
          · exact ej_int
      · refine bj_one ?_
        exact sj_never
      · exact bj_nil
    · refine bj_cons ?_ ?_
      · refine sj_if ?_ ?_ ?_
        · refine tj_nin (ka := .e) (kb := .e) (units65 hr) ?_ ?_
          · exact ej_var (pv 4)
          · refine ej_tup ?_
            refine aj_consE ?_ ?_
            · exact ej_str
            · refine aj_consE ?_ ?_
              · exact ej_str
              · exact aj_nil
        · refine bj_one ?_
          exact sj_never
        · exact bj_nil
      · refine bj_cons ?_ ?_
        · refine sj_if ?_ ?_ ?_
          · refine tj_tw ?_
            refine twj_and ?_ ?_
            · refine tj_notN (ka := .e) (kb := .e) ?_ ?_
              · exact ej_var (pv 5)
              · exact ej_non
            · refine twj_and1 ?_
              refine tj_not ?_
              refine tj_ch2 (ka := .e) (kb := .e) (kc := .e) brg_le brg_le op_le op_le ?_ ?_ ?_
              · exact ej_int
              · exact ej_var (pv 5)
              · exact ej_int
          · refine bj_one ?_
            exact sj_never
          · exact bj_nil
        · refine bj_cons ?_ ?_
          · refine sj_fset (i := 0) T.c_Game T.n_Game_web (pv 0) ?_
            exact ej_var (pv 1)
          · refine bj_cons ?_ ?_
            · refine sj_fset (i := 0) T.c_Game T.n_Game_seekers (pv 0) ?_
              exact ej_var (pv 2)
            · refine bj_cons ?_ ?_
              · refine sj_fset (i := 0) T.c_Game T.n_Game_travel (pv 0) ?_
                exact ej_var (pv 3)
              · refine bj_cons ?_ ?_
                · refine sj_fset (i := 0) T.c_Game T.n_Game_pace (pv 0) ?_
                  exact ej_var (pv 4)
                · refine bj_one ?_
                  refine sj_fset (i := 0) T.c_Game T.n_Game_late (pv 0) ?_
                  exact ej_var (pv 5)
abbrev N_is_name : List Str := ["text", "sign"]
theorem sc_is_name : FnScope N_is_name ["text"] (defScope s_is_name) := ⟨rfl, rfl, rfl, by decide +kernel, rfl, by decide +kernel, by decide +kernel⟩
theorem d_is_name {P : Program} {w : World} {K : PySem.W.Frag} {mg : Str → Option Value} {base : Heap} {C_Game : Addr} {C_Web : Addr} {C_BadPost : Addr} {C_CannotSend : Addr} {C_NotFree : Addr} {C_TagError : Addr} {C_UnknownPlace : Addr} (T : Txt K mg C_Game C_Web C_BadPost C_CannotSend C_NotFree C_TagError C_UnknownPlace)  {f : Addr} {cdv : Value} {A : Around} {outer : List Env} {s : Shared} {H : Hp} {E : XK}
    (hr : Room 0 (A.deeper (envOfC "is_name" (defScope s_is_name) s.heap.objs.size f cdv))) :
    BJ E (cxOf (L2.CX P w) P w K mg base N_is_name "is_name" (defScope s_is_name) f cdv A outer s H E) (defBody s_is_name) b_is_name := by
  refine bj_one ?_
  refine sj_ret ?_
  refine ej_andV ?_ ?_
  · refine ej_ch2 (ka := .e) (kb := .e) (kc := .e) brg_le brg_le op_le op_le ?_ ?_ ?_
    · exact ej_int
    · refine ej_len (k := .e) (by rfl) T.b_len ?_
      exact ej_var (pv 0)
    · exact ej_int
  · refine ej_b1 ?_
    refine ej_all1 (k := .f) rfl (by rfl) T.b_all ?_
    refine ej_comp (own := [("sign", 1)]) (tgs := [1]) rfl sc_is_name.nd (blkOk_by (by rfl)) ?_ (by decide) ?_ ?_ ?_
    · refine ij_str (k := .e) ?_
      exact ej_var (pv 0)
    · refine fun _ _ _ _ _ => ?_
      exact gj_name (pg_name (i := 1) sc_is_name.nd rfl (by first | exact Or.inl rfl | exact Or.inr rfl))
    · refine fun _ _ _ _ _ => ?_
      exact tsj_nil
    · refine fun _ _ _ _ _ => ?_
      refine ej_inS (ka := .e) (kb := .e) ?_ ?_
      · exact ej_var (pv 1)
      · exact ej_glob (by rfl) T.g_LETTERS (fun _ => .str _)
abbrev N_check_names : List Str := ["places", "at"]
theorem sc_check_names : FnScope N_check_names ["places"] (defScope s_check_names) := ⟨rfl, rfl, rfl, by decide +kernel, rfl, by decide +kernel, by decide +kernel⟩
theorem d_check_names {P : Program} {w : World} {K : PySem.W.Frag} {mg : Str → Option Value} {base : Heap} {C_Game : Addr} {C_Web : Addr} {C_BadPost : Addr} {C_CannotSend : Addr} {C_NotFree : Addr} {C_TagError : Addr} {C_UnknownPlace : Addr} (T : Txt K mg C_Game C_Web C_BadPost C_CannotSend C_NotFree C_TagError C_UnknownPlace) (D_is_name : Def P w K mg base "is_name" 1 1 wf_is_name) {f : Addr} {cdv : Value} {A : Around} {outer : List Env} {s : Shared} {H : Hp} {E : XK}
    (hr : Room 1 (A.deeper (envOfC "check_names" (defScope s_check_names) s.heap.objs.size f cdv))) :
    BJ E (cxOf (L2.CX P w) P w K mg base N_check_names "check_names" (defScope s_check_names) f cdv A outer s H E) (defBody s_check_names) b_check_names := by
  refine bj_cons ?_ ?_
  · refine sj_if ?_ ?_ ?_
    · refine tj_not ?_
      refine tj_ch2 (ka := .e) (kb := .e) (kc := .e) brg_le brg_le op_le op_le ?_ ?_ ?_
      · exact ej_int
      · refine ej_len (k := .e) (by rfl) T.b_len ?_
        refine ej_wk ?_
        exact ej_var (pv 0)
      · exact ej_int
    · refine bj_one ?_
      exact sj_never
    · exact bj_nil
  · refine bj_one ?_
    refine sj_for (tgs := [1]) (passes_of rfl) rfl ?_ ?_ ?_
    · refine ij_rng1 (ka := .e) ?_ (by rfl) T.b_range
      refine ej_len (k := .e) (by rfl) T.b_len ?_
      refine ej_wk ?_
      exact ej_var (pv 0)
    · exact gj_name (pg_name (i := 1) sc_check_names.nd rfl (by first | exact Or.inl rfl | exact Or.inr rfl))
    · refine bj_one ?_
      refine sj_if ?_ ?_ ?_
      · refine tj_tw ?_
        refine twj_or ?_ ?_
        · refine tj_not ?_
          refine tj_tru (k := .e) ?_
          refine ej_fn D_is_name (hr.mono (by decide)) (by rfl) passM ?_
          refine aj_consE ?_ ?_
          · refine ej_ix (ka := .e) (kb := .e) ?_ ?_ (fun _ _ => rfl)
            · refine ej_wk ?_
              exact ej_var (pv 0)
            · exact ej_var (pv 1)
          · exact aj_nil
        · refine twj_or1 ?_
          refine tj_in (ka := .e) (kb := .e) (units65 hr) ?_ ?_
          · refine ej_ix (ka := .e) (kb := .e) ?_ ?_ (fun _ _ => rfl)
            · refine ej_wk ?_
              exact ej_var (pv 0)
            · exact ej_var (pv 1)
          · refine ej_slice (ka := .e) ?_ ?_ ?_
            · refine ej_wk ?_
              exact ej_var (pv 0)
            · exact oj_none
            · refine oj_some (k := .e) ?_
              exact ej_var (pv 1)
      · refine bj_one ?_
        exact sj_never
      · exact bj_nil
abbrev N_is_tie : List Str := ["places", "tie", "beats", "first", "second", "way", "when"]
theorem sc_is_tie : FnScope N_is_tie ["places", "tie", "beats"] (defScope s_is_tie) := ⟨rfl, rfl, rfl, by decide +kernel, rfl, by decide +kernel, by decide +kernel⟩
theorem d_is_tie {P : Program} {w : World} {K : PySem.W.Frag} {mg : Str → Option Value} {base : Heap} {C_Game : Addr} {C_Web : Addr} {C_BadPost : Addr} {C_CannotSend : Addr} {C_NotFree : Addr} {C_TagError : Addr} {C_UnknownPlace : Addr} (T : Txt K mg C_Game C_Web C_BadPost C_CannotSend C_NotFree C_TagError C_UnknownPlace) (D_is_set : Def P w K mg base "is_set" 2 1 wf_is_set) {f : Addr} {cdv : Value} {A : Around} {outer : List Env} {s : Shared} {H : Hp} {E : XK}
    (hr : Room 1 (A.deeper (envOfC "is_tie" (defScope s_is_tie) s.heap.objs.size f cdv))) :
    BJ E (cxOf (L2.CX P w) P w K mg base N_is_tie "is_tie" (defScope s_is_tie) f cdv A outer s H E) (defBody s_is_tie) b_is_tie := by
  refine bj_cons ?_ ?_
  · refine sj_if ?_ ?_ ?_
    · refine tj_ne (ka := .e) (kb := .e) hr.units ?_ ?_
      · refine ej_len (k := .e) (by rfl) T.b_len ?_
        exact ej_var (pv 1)
      · exact ej_int
    · refine bj_one ?_
      refine sj_ret ?_
      exact ej_bl
    · exact bj_nil
  · refine bj_cons ?_ ?_
    · refine sj_tgt (tgs := [3, 4, 5, 6]) ?_ ?_
      · refine gj_tup (n := 4) rfl ?_
        refine gsj_name ?_ ?_
        · exact gj_name (pg_name (i := 3) sc_is_tie.nd rfl (by first | exact Or.inl rfl | exact Or.inr rfl))
        · refine gsj_name ?_ ?_
          · exact gj_name (pg_name (i := 4) sc_is_tie.nd rfl (by first | exact Or.inl rfl | exact Or.inr rfl))
          · refine gsj_name ?_ ?_
            · exact gj_name (pg_name (i := 5) sc_is_tie.nd rfl (by first | exact Or.inl rfl | exact Or.inr rfl))
            · refine gsj_name ?_ ?_
              · exact gj_name (pg_name (i := 6) sc_is_tie.nd rfl (by first | exact Or.inl rfl | exact Or.inr rfl))
              · exact gsj_nil
      · exact ej_var (pv 1)
    · refine bj_cons ?_ ?_
      · refine sj_if ?_ ?_ ?_
        · refine tj_tw ?_
          refine twj_or ?_ ?_
          · refine tj_nin (ka := .e) (kb := .e) (units65 hr) ?_ ?_
            · exact ej_var (pv 3)
            · refine ej_wk ?_
              exact ej_var (pv 0)
          · refine twj_or ?_ ?_
            · refine tj_nin (ka := .e) (kb := .e) (units65 hr) ?_ ?_
              · exact ej_var (pv 4)
              · refine ej_wk ?_
                exact ej_var (pv 0)
            · refine twj_or1 ?_
              refine tj_eq (ka := .e) (kb := .e) hr.units ?_ ?_
              · exact ej_var (pv 3)
              · exact ej_var (pv 4)
        · refine bj_one ?_
          refine sj_ret ?_
          exact ej_bl
        · exact bj_nil
      · refine bj_one ?_
        refine sj_ret ?_
        refine ej_andV ?_ ?_
        · refine ej_in (ka := .e) (kb := .e) (units65 hr) ?_ ?_
          · exact ej_var (pv 5)
          · refine ej_tup ?_
            refine aj_consE ?_ ?_
            · exact ej_str
            · refine aj_consE ?_ ?_
              · exact ej_str
              · exact aj_nil
        · refine ej_andV ?_ ?_
          · refine ej_gt (ka := .e) (kb := .e) ?_ ?_
            · refine ej_len (k := .e) (by rfl) T.b_len ?_
              exact ej_var (pv 6)
            · exact ej_int
          · refine ej_b1 ?_
            refine ej_fn D_is_set (hr.mono (by decide)) (by rfl) passM ?_
            refine aj_consE ?_ ?_
            · exact ej_var (pv 6)
            · refine aj_consE ?_ ?_
              · exact ej_var (pv 2)
              · exact aj_nil
abbrev N_check_ties : List Str := ["places", "ties", "beats", "at", "tie"]
theorem sc_check_ties : FnScope N_check_ties ["places", "ties", "beats"] (defScope s_check_ties) := ⟨rfl, rfl, rfl, by decide +kernel, rfl, by decide +kernel, by decide +kernel⟩
theorem d_check_ties {P : Program} {w : World} {K : PySem.W.Frag} {mg : Str → Option Value} {base : Heap} {C_Game : Addr} {C_Web : Addr} {C_BadPost : Addr} {C_CannotSend : Addr} {C_NotFree : Addr} {C_TagError : Addr} {C_UnknownPlace : Addr} (T : Txt K mg C_Game C_Web C_BadPost C_CannotSend C_NotFree C_TagError C_UnknownPlace) (D_is_tie : Def P w K mg base "is_tie" 3 2 wf_is_tie) {f : Addr} {cdv : Value} {A : Around} {outer : List Env} {s : Shared} {H : Hp} {E : XK}
    (hr : Room 2 (A.deeper (envOfC "check_ties" (defScope s_check_ties) s.heap.objs.size f cdv))) :
    BJ E (cxOf (L2.CX P w) P w K mg base N_check_ties "check_ties" (defScope s_check_ties) f cdv A outer s H E) (defBody s_check_ties) b_check_ties := by
  refine bj_cons ?_ ?_
  · refine sj_if ?_ ?_ ?_
    · refine tj_gt (ka := .e) (kb := .e) ?_ ?_
      · refine ej_len (k := .e) (by rfl) T.b_len ?_
        exact ej_var (pv 1)
      · exact ej_int
    · refine bj_one ?_
      exact sj_never
    · exact bj_nil
  · refine bj_one ?_
    refine sj_for (tgs := [3, 4]) (passes_of rfl) rfl ?_ ?_ ?_
    · refine ij_enumA ?_ (by rfl) T.b_enumerate
      exact ej_var (pv 1)
    · refine gj_tup (n := 2) rfl ?_
      refine gsj_name ?_ ?_
      · exact gj_name (pg_name (i := 3) sc_check_ties.nd rfl (by first | exact Or.inl rfl | exact Or.inr rfl))
      · refine gsj_name ?_ ?_
        · exact gj_name (pg_name (i := 4) sc_check_ties.nd rfl (by first | exact Or.inl rfl | exact Or.inr rfl))
        · exact gsj_nil
    · refine bj_one ?_
      refine sj_if ?_ ?_ ?_
      · refine tj_not ?_
        refine tj_tru (k := .e) ?_
        refine ej_fn D_is_tie (hr.mono (by decide)) (by rfl) passM ?_
        refine aj_consE ?_ ?_
        · exact ej_var (pv 0)
        · refine aj_consE ?_ ?_
          · exact ej_var (pv 4)
          · refine aj_consE ?_ ?_
            · exact ej_var (pv 2)
            · exact aj_nil
      · refine bj_one ?_
        exact sj_never
      · exact bj_nil
abbrev N_nexts_at : List Str := ["given", "beat", "count", "u", "v"]
theorem sc_nexts_at : FnScope N_nexts_at ["given", "beat", "count"] (defScope s_nexts_at) := ⟨rfl, rfl, rfl, by decide +kernel, rfl, by decide +kernel, by decide +kernel⟩
theorem d_nexts_at {P : Program} {w : World} {K : PySem.W.Frag} {mg : Str → Option Value} {base : Heap} {C_Game : Addr} {C_Web : Addr} {C_BadPost : Addr} {C_CannotSend : Addr} {C_NotFree : Addr} {C_TagError : Addr} {C_UnknownPlace : Addr} (T : Txt K mg C_Game C_Web C_BadPost C_CannotSend C_NotFree C_TagError C_UnknownPlace)  {f : Addr} {cdv : Value} {A : Around} {outer : List Env} {s : Shared} {H : Hp} {E : XK}
    (hr : Room 0 (A.deeper (envOfC "nexts_at" (defScope s_nexts_at) s.heap.objs.size f cdv))) :
    BJ E (cxOf (L2.CX P w) P w K mg base N_nexts_at "nexts_at" (defScope s_nexts_at) f cdv A outer s H E) (defBody s_nexts_at) b_nexts_at := by
  refine bj_one ?_
  refine sj_ret ?_
  refine ej_tuple1 (k := .f) (by rfl) T.b_tuple ?_
  refine ej_comp (own := [("u", 3)]) (tgs := [3]) rfl sc_nexts_at.nd (blkOk_by (by rfl)) ?_ (by decide) ?_ ?_ ?_
  · refine ij_rng1 (ka := .e) ?_ (by rfl) T.b_range
    exact ej_var (pv 2)
  · refine fun _ _ _ _ _ => ?_
    exact gj_name (pg_name (i := 3) sc_nexts_at.nd rfl (by first | exact Or.inl rfl | exact Or.inr rfl))
  · refine fun _ _ _ _ _ => ?_
    exact tsj_nil
  · refine fun _ _ _ _ _ => ?_
    refine ej_tuple1 (k := .f) (by rfl) T.b_tuple ?_
    refine ej_comp (own := [("v", 4)]) (tgs := [4]) rfl sc_nexts_at.nd (blkOk_by (by rfl)) ?_ (by decide) ?_ ?_ ?_
    · refine ij_rng1 (ka := .e) ?_ (by rfl) T.b_range
      exact ej_var (pv 2)
    · refine fun _ _ _ _ _ => ?_
      exact gj_name (pg_name (i := 4) sc_nexts_at.nd rfl (by first | exact Or.inl rfl | exact Or.inr rfl))
    · refine fun _ _ _ _ _ => ?_
      refine tsj_one ?_
      refine tj_dinT (kb := .e) (hu_of hr) ?_ ?_
      · refine aj_consE ?_ ?_
        · exact ej_var (pv 1)
        · refine aj_consE ?_ ?_
          · exact ej_var (pv 3)
          · refine aj_consE ?_ ?_
            · exact ej_var (pv 4)
            · exact aj_nil
      · exact ej_var (pv 0)
    · refine fun _ _ _ _ _ => ?_
      exact ej_var (pv 4)
abbrev N_nexts_of : List Str := ["places", "ties", "beats", "given", "first", "second", "way", "when", "u", "v", "beat", "count"]
theorem sc_nexts_of : FnScope N_nexts_of ["places", "ties", "beats"] (defScope s_nexts_of) := ⟨rfl, rfl, rfl, by decide +kernel, rfl, by decide +kernel, by decide +kernel⟩
theorem d_nexts_of {P : Program} {w : World} {K : PySem.W.Frag} {mg : Str → Option Value} {base : Heap} {C_Game : Addr} {C_Web : Addr} {C_BadPost : Addr} {C_CannotSend : Addr} {C_NotFree : Addr} {C_TagError : Addr} {C_UnknownPlace : Addr} (T : Txt K mg C_Game C_Web C_BadPost C_CannotSend C_NotFree C_TagError C_UnknownPlace) (D_nexts_at : Def P w K mg base "nexts_at" 3 1 wf_nexts_at) {f : Addr} {cdv : Value} {A : Around} {outer : List Env} {s : Shared} {H : Hp} {E : XK}
    (hr : Room 1 (A.deeper (envOfC "nexts_of" (defScope s_nexts_of) s.heap.objs.size f cdv))) :
    BJ E (cxOf (L2.CX P w) P w K mg base N_nexts_of "nexts_of" (defScope s_nexts_of) f cdv A outer s H E) (defBody s_nexts_of) b_nexts_of := by
  refine bj_cons ?_ ?_
  · refine sj_nameO (i := 3) sc_nexts_of.nd rfl (by first | exact Or.inl rfl | exact Or.inr rfl) ?_
    exact ej_dictT
  · refine bj_cons ?_ ?_
    · refine sj_for (tgs := [4, 5, 6, 7]) (passes_of rfl) rfl ?_ ?_ ?_
      · refine ij_seq ?_
        exact ej_var (pv 1)
      · refine gj_tup (n := 4) rfl ?_
        refine gsj_name ?_ ?_
        · exact gj_name (pg_name (i := 4) sc_nexts_of.nd rfl (by first | exact Or.inl rfl | exact Or.inr rfl))
        · refine gsj_name ?_ ?_
          · exact gj_name (pg_name (i := 5) sc_nexts_of.nd rfl (by first | exact Or.inl rfl | exact Or.inr rfl))
          · refine gsj_name ?_ ?_
            · exact gj_name (pg_name (i := 6) sc_nexts_of.nd rfl (by first | exact Or.inl rfl | exact Or.inr rfl))
            · refine gsj_name ?_ ?_
              · exact gj_name (pg_name (i := 7) sc_nexts_of.nd rfl (by first | exact Or.inl rfl | exact Or.inr rfl))
              · exact gsj_nil
      · refine bj_cons ?_ ?_
        · refine sj_name (i := 8) sc_nexts_of.nd rfl (by first | exact Or.inl rfl | exact Or.inr rfl) ?_
          refine ej_idxT (k := .e) ?_ ?_
          · exact ej_var (pv 0)
          · exact ej_var (pv 4)
        · refine bj_cons ?_ ?_
          · refine sj_name (i := 9) sc_nexts_of.nd rfl (by first | exact Or.inl rfl | exact Or.inr rfl) ?_
            refine ej_idxT (k := .e) ?_ ?_
            · exact ej_var (pv 0)
            · exact ej_var (pv 5)
          · refine bj_one ?_
            refine sj_for (tgs := [10]) (passes_of rfl) rfl ?_ ?_ ?_
            · refine ij_seq ?_
              exact ej_var (pv 7)
            · exact gj_name (pg_name (i := 10) sc_nexts_of.nd rfl (by first | exact Or.inl rfl | exact Or.inr rfl))
            · refine bj_cons ?_ ?_
              · refine sj_dput (hu_of hr) (pv 3) ?_ ?_
                · refine aj_consE ?_ ?_
                  · exact ej_var (pv 10)
                  · refine aj_consE ?_ ?_
                    · exact ej_var (pv 8)
                    · refine aj_consE ?_ ?_
                      · exact ej_var (pv 9)
                      · exact aj_nil
                · exact ej_bl
              · refine bj_one ?_
                refine sj_if ?_ ?_ ?_
                · refine tj_eq (ka := .e) (kb := .e) hr.units ?_ ?_
                  · exact ej_var (pv 6)
                  · exact ej_str
                · refine bj_one ?_
                  refine sj_dput (hu_of hr) (pv 3) ?_ ?_
                  · refine aj_consE ?_ ?_
                    · exact ej_var (pv 10)
                    · refine aj_consE ?_ ?_
                      · exact ej_var (pv 9)
                      · refine aj_consE ?_ ?_
                        · exact ej_var (pv 8)
                        · exact aj_nil
                  · exact ej_bl
                · exact bj_nil
    · refine bj_cons ?_ ?_
      · refine sj_name (i := 11) sc_nexts_of.nd rfl (by first | exact Or.inl rfl | exact Or.inr rfl) ?_
        refine ej_len (k := .e) (by rfl) T.b_len ?_
        refine ej_wk ?_
        exact ej_var (pv 0)
      · refine bj_one ?_
        refine sj_frz (i := 3) ?_
        refine sj_ret ?_
        refine ej_tuple1 (k := .f) (by rfl) T.b_tuple ?_
        refine ej_comp (own := [("beat", 10)]) (tgs := [10]) rfl sc_nexts_of.nd (blkOk_by (by rfl)) ?_ (by decide) ?_ ?_ ?_
        · refine ij_rng1 (ka := .e) ?_ (by rfl) T.b_range
          exact ej_var (pv 2)
        · refine fun _ _ _ _ _ => ?_
          exact gj_name (pg_name (i := 10) sc_nexts_of.nd rfl (by first | exact Or.inl rfl | exact Or.inr rfl))
        · refine fun _ _ _ _ _ => ?_
          exact tsj_nil
        · refine fun _ _ _ _ _ => ?_
          refine ej_fn D_nexts_at (hr.mono (by decide)) (by rfl) passL ?_
          refine aj_consE ?_ ?_
          · exact ej_var (pv 3)
          · refine aj_consE ?_ ?_
            · exact ej_var (pv 10)
            · refine aj_consE ?_ ?_
              · exact ej_var (pv 11)
              · exact aj_nil
abbrev N_steps_of : List Str := ["nexts", "row", "u"]
theorem sc_steps_of : FnScope N_steps_of ["nexts"] (defScope s_steps_of) := ⟨rfl, rfl, rfl, by decide +kernel, rfl, by decide +kernel, by decide +kernel⟩
theorem d_steps_of {P : Program} {w : World} {K : PySem.W.Frag} {mg : Str → Option Value} {base : Heap} {C_Game : Addr} {C_Web : Addr} {C_BadPost : Addr} {C_CannotSend : Addr} {C_NotFree : Addr} {C_TagError : Addr} {C_UnknownPlace : Addr} (T : Txt K mg C_Game C_Web C_BadPost C_CannotSend C_NotFree C_TagError C_UnknownPlace)  {f : Addr} {cdv : Value} {A : Around} {outer : List Env} {s : Shared} {H : Hp} {E : XK}
    (hr : Room 0 (A.deeper (envOfC "steps_of" (defScope s_steps_of) s.heap.objs.size f cdv))) :
    BJ E (cxOf (L2.CX P w) P w K mg base N_steps_of "steps_of" (defScope s_steps_of) f cdv A outer s H E) (defBody s_steps_of) b_steps_of := by
  refine bj_one ?_
  refine sj_ret ?_
  refine ej_tuple1 (k := .f) (by rfl) T.b_tuple ?_
  refine ej_comp (own := [("row", 1)]) (tgs := [1]) rfl sc_steps_of.nd (blkOk_by (by rfl)) ?_ (by decide) ?_ ?_ ?_
  · refine ij_seq ?_
    exact ej_var (pv 0)
  · refine fun _ _ _ _ _ => ?_
    exact gj_name (pg_name (i := 1) sc_steps_of.nd rfl (by first | exact Or.inl rfl | exact Or.inr rfl))
  · refine fun _ _ _ _ _ => ?_
    exact tsj_nil
  · refine fun _ _ _ _ _ => ?_
    refine ej_tuple1 (k := .f) (by rfl) T.b_tuple ?_
    refine ej_comp (own := [("u", 2)]) (tgs := [2]) rfl sc_steps_of.nd (blkOk_by (by rfl)) ?_ (by decide) ?_ ?_ ?_
    · refine ij_rng1 (ka := .e) ?_ (by rfl) T.b_range
      refine ej_len (k := .e) (by rfl) T.b_len ?_
      exact ej_var (pv 1)
    · refine fun _ _ _ _ _ => ?_
      exact gj_name (pg_name (i := 2) sc_steps_of.nd rfl (by first | exact Or.inl rfl | exact Or.inr rfl))
    · refine fun _ _ _ _ _ => ?_
      exact tsj_nil
    · refine fun _ _ _ _ _ => ?_
      refine ej_tuple1 (k := .f) (by rfl) T.b_tuple ?_
      refine ej_sortI (k := .f) (by rfl) T.b_sorted ?_
      refine ej_lst ?_
      refine aj_consE ?_ ?_
      · exact ej_var (pv 2)
      · refine aj_star ?_ ?_
        · refine ej_ix (ka := .e) (kb := .e) ?_ ?_ (fun _ _ => rfl)
          · exact ej_var (pv 1)
          · exact ej_var (pv 2)
        · exact aj_nil
abbrev N_Web___init__ : List Str := ["self", "places", "ties", "beats"]
theorem sc_Web___init__ : FnScope N_Web___init__ ["self", "places", "ties", "beats"] (defScope s_Web___init__) := ⟨rfl, rfl, rfl, by decide +kernel, rfl, by decide +kernel, by decide +kernel⟩
theorem d_Web___init__ {P : Program} {w : World} {K : PySem.W.Frag} {mg : Str → Option Value} {base : Heap} {C_Game : Addr} {C_Web : Addr} {C_BadPost : Addr} {C_CannotSend : Addr} {C_NotFree : Addr} {C_TagError : Addr} {C_UnknownPlace : Addr} (T : Txt K mg C_Game C_Web C_BadPost C_CannotSend C_NotFree C_TagError C_UnknownPlace) (D_check_names : Def P w K mg base "check_names" 1 2 wf_check_names) (D_check_ties : Def P w K mg base "check_ties" 3 3 wf_check_ties) (D_nexts_of : Def P w K mg base "nexts_of" 3 2 wf_nexts_of) (D_steps_of : Def P w K mg base "steps_of" 1 1 wf_steps_of) {f : Addr} {cdv : Value} {A : Around} {outer : List Env} {s : Shared} {H : Hp} {E : XK}
    (hr : Room 3 (A.deeper (envOfC "Web.__init__" (defScope s_Web___init__) s.heap.objs.size f cdv))) :
    BJ E (cxOf (L2.CX P w) P w K mg base N_Web___init__ "Web.__init__" (defScope s_Web___init__) f cdv A outer s H E) (defBody s_Web___init__) (b_Web___init__ C_Web) := by
  refine bj_cons ?_ ?_
  · refine sj_expr (k := .e) ?_
    refine ej_fn D_check_names (hr.mono (by decide)) (by rfl) passM ?_
    refine aj_consE ?_ ?_
    · exact ej_var (pv 1)
    · exact aj_nil
  · refine bj_cons ?_ ?_
    · refine sj_if ?_ ?_ ?_
      · refine tj_not ?_
        refine tj_ch2 (ka := .e) (kb := .e) (kc := .e) brg_le brg_le op_le op_le ?_ ?_ ?_
        · exact ej_int
        · exact ej_var (pv 3)
        · exact ej_int
      · refine bj_one ?_
        exact sj_never
      · exact bj_nil
    · refine bj_cons ?_ ?_
      · refine sj_expr (k := .e) ?_
        refine ej_fn D_check_ties (hr.mono (by decide)) (by rfl) passM ?_
        refine aj_consE ?_ ?_
        · exact ej_var (pv 1)
        · refine aj_consE ?_ ?_
          · exact ej_var (pv 2)
          · refine aj_consE ?_ ?_
            · exact ej_var (pv 3)
            · exact aj_nil
      · refine bj_cons ?_ ?_
        · refine sj_fset (i := 0) T.c_Web T.n_Web_places (pv 0) ?_
          refine ej_tupleX2 (k := .e) (by rfl) T.b_tuple ?_
          exact ej_var (pv 1)
        · refine bj_cons ?_ ?_
          · refine sj_fset (i := 0) T.c_Web T.n_Web_beats (pv 0) ?_
            exact ej_var (pv 3)
          · refine bj_cons ?_ ?_
            · refine sj_fset (i := 0) T.c_Web T.n_Web__nexts (pv 0) ?_
              refine ej_fn D_nexts_of (hr.mono (by decide)) (by rfl) passM ?_
              refine aj_consE ?_ ?_
              · exact ej_seF T.c_Web T.n_Web_places (pv 0)
              · refine aj_consE ?_ ?_
                · exact ej_var (pv 2)
                · refine aj_consE ?_ ?_
                  · exact ej_var (pv 3)
                  · exact aj_nil
            · refine bj_one ?_
              refine sj_fset (i := 0) T.c_Web T.n_Web__steps (pv 0) ?_
              refine ej_fn D_steps_of (hr.mono (by decide)) (by rfl) passM ?_
              refine aj_consE ?_ ?_
              · exact ej_seF T.c_Web T.n_Web__nexts (pv 0)
              · exact aj_nil
abbrev N_law : List Str := ["script", "names", "ties", "cycle", "table", "draws", "move", "team", "speed", "delay", "game", "deeds", "posts", "loose", "start", "rounds", "k", "beat", "row", "sends", "sent", "place", "due", "post"]
theorem sc_law : FnScope N_law ["script"] (defScope s_law) := ⟨rfl, rfl, rfl, by decide +kernel, rfl, by decide +kernel, by decide +kernel⟩
theorem d_law {P : Program} {w : World} {K : PySem.W.Frag} {mg : Str → Option Value} {base : Heap} {C_Game : Addr} {C_Web : Addr} {C_BadPost : Addr} {C_CannotSend : Addr} {C_NotFree : Addr} {C_TagError : Addr} {C_UnknownPlace : Addr} (T : Txt K mg C_Game C_Web C_BadPost C_CannotSend C_NotFree C_TagError C_UnknownPlace) (D_law_any_web_k13 : Def P w K mg base "_law_any_web" 4 2 wf_law_any_web_k13) (D_law_beat : Def P w K mg base "_law_beat" 1 1 wf_law_beat) (D_law_draws : Def P w K mg base "_law_draws" 3 1 wf_law_draws) (D_law_posts : Def P w K mg base "_law_posts" 3 1 wf_law_posts) (D_law_runs : Def P w K mg base "_law_runs" 6 2 wf_law_runs) (D_law_same : Def P w K mg base "_law_same" 2 14 wf_law_same) (D_law_sends : Def P w K mg base "_law_sends" 4 1 wf_law_sends) (M_Game_runs : MDef P w K mg base C_Game "runs" 5 8 (wf_Game_runs C_Game C_Web C_BadPost C_CannotSend C_UnknownPlace C_NotFree)) (K_Game_2_travel_pace_late : Ctor P w K mg base "Game" C_Game 2 ["travel", "pace", "late"] 1 gD_K_Game_2_travel_pace_late wi_Game) (K_Web_2_beats : Ctor P w K mg base "Web" C_Web 2 ["beats"] 4 gD_K_Web_2_beats wi_Web) {f : Addr} {cdv : Value} {A : Around} {outer : List Env} {s : Shared} {H : Hp} {E : XK}
    (hr : Room 14 (A.deeper (envOfC "law" (defScope s_law) s.heap.objs.size f cdv))) :
    BJ E (cxOf (L2.CX P w) P w K mg base N_law "law" (defScope s_law) f cdv A outer s H E) (defBody s_law) (b_law_k14 C_Game C_Web C_BadPost C_CannotSend C_NotFree C_UnknownPlace) := by
  refine bj_cons ?_ ?_
  · refine sj_tgt (tgs := [1, 2, 3, 4]) ?_ ?_
    · refine gj_lst (n := 4) rfl ?_
      refine gsj_name ?_ ?_
      · exact gj_name (pg_name (i := 1) sc_law.nd rfl (by first | exact Or.inl rfl | exact Or.inr rfl))
      · refine gsj_name ?_ ?_
        · exact gj_name (pg_name (i := 2) sc_law.nd rfl (by first | exact Or.inl rfl | exact Or.inr rfl))
        · refine gsj_name ?_ ?_
          · exact gj_name (pg_name (i := 3) sc_law.nd rfl (by first | exact Or.inl rfl | exact Or.inr rfl))
          · refine gsj_name ?_ ?_
            · exact gj_name (pg_name (i := 4) sc_law.nd rfl (by first | exact Or.inl rfl | exact Or.inr rfl))
            · exact gsj_nil
    · refine ej_fn D_law_any_web_k13 (hr.mono (by decide)) (by rfl) passM ?_
      refine aj_consE ?_ ?_
      · refine ej_fn D_law_draws (hr.mono (by decide)) (by rfl) passM ?_
        refine aj_consE ?_ ?_
        · exact ej_var (pv 0)
        · refine aj_consE ?_ ?_
          · exact ej_int
          · refine aj_consE ?_ ?_
            · exact ej_int
            · exact aj_nil
      · refine aj_consE ?_ ?_
        · exact ej_int
        · refine aj_consE ?_ ?_
          · exact ej_int
          · refine aj_consE ?_ ?_
            · exact ej_int
            · exact aj_nil
  · refine bj_cons ?_ ?_
    · refine sj_name (i := 5) sc_law.nd rfl (by first | exact Or.inl rfl | exact Or.inr rfl) ?_
      refine ej_fn D_law_draws (hr.mono (by decide)) (by rfl) passM ?_
      refine aj_consE ?_ ?_
      · exact ej_var (pv 0)
      · refine aj_consE ?_ ?_
        · exact ej_int
        · refine aj_consE ?_ ?_
          · exact ej_int
          · exact aj_nil
    · refine bj_cons ?_ ?_
      · refine sj_name (i := 6) sc_law.nd rfl (by first | exact Or.inl rfl | exact Or.inr rfl) ?_
        exact ej_str
      · refine bj_cons ?_ ?_
        · refine sj_name (i := 7) sc_law.nd rfl (by first | exact Or.inl rfl | exact Or.inr rfl) ?_
          refine ej_plus (ka := .e) (kb := .e) ?_ ?_
          · exact ej_int
          · refine ej_mod (ka := .e) (kb := .e) ?_ ?_
            · refine ej_int1 (k := .e) (by rfl) T.b_int ?_
              refine ej_ix (ka := .e) (kb := .e) ?_ ?_ (fun _ _ => rfl)
              · exact ej_var (pv 5)
              · exact ej_int
            · exact ej_int
        · refine bj_cons ?_ ?_
          · refine sj_if ?_ ?_ ?_
            · refine tj_tw ?_
              refine twj_or ?_ ?_
              · refine tj_eq (ka := .e) (kb := .e) hr.units ?_ ?_
                · refine ej_mod (ka := .e) (kb := .e) ?_ ?_
                  · refine ej_int1 (k := .e) (by rfl) T.b_int ?_
                    refine ej_ix (ka := .e) (kb := .e) ?_ ?_ (fun _ _ => rfl)
                    · exact ej_var (pv 5)
                    · exact ej_int
                  · exact ej_int
                · exact ej_int
              · refine twj_or1 ?_
                refine tj_eq (ka := .e) (kb := .e) hr.units ?_ ?_
                · refine ej_len (k := .e) (by rfl) T.b_len ?_
                  exact ej_var (pv 1)
                · exact ej_int
            · refine bj_cons ?_ ?_
              · refine sj_name (i := 6) sc_law.nd rfl (by first | exact Or.inl rfl | exact Or.inr rfl) ?_
                exact ej_str
              · refine bj_one ?_
                refine sj_name (i := 7) sc_law.nd rfl (by first | exact Or.inl rfl | exact Or.inr rfl) ?_
                refine ej_plus (ka := .e) (kb := .e) ?_ ?_
                · exact ej_int
                · refine ej_mod (ka := .e) (kb := .e) ?_ ?_
                  · refine ej_int1 (k := .e) (by rfl) T.b_int ?_
                    refine ej_ix (ka := .e) (kb := .e) ?_ ?_ (fun _ _ => rfl)
                    · exact ej_var (pv 5)
                    · exact ej_int
                  · exact ej_int
            · exact bj_nil
          · refine bj_cons ?_ ?_
            · refine sj_name (i := 8) sc_law.nd rfl (by first | exact Or.inl rfl | exact Or.inr rfl) ?_
              refine ej_ix (ka := .f) (kb := .e) ?_ ?_ (fun _ _ => rfl)
              · refine ej_lst ?_
                refine aj_consE ?_ ?_
                · exact ej_str
                · refine aj_consE ?_ ?_
                  · exact ej_str
                  · exact aj_nil
              · refine ej_mod (ka := .e) (kb := .e) ?_ ?_
                · refine ej_int1 (k := .e) (by rfl) T.b_int ?_
                  refine ej_ix (ka := .e) (kb := .e) ?_ ?_ (fun _ _ => rfl)
                  · exact ej_var (pv 5)
                  · exact ej_int
                · exact ej_int
            · refine bj_cons ?_ ?_
              · refine sj_name (i := 9) sc_law.nd rfl (by first | exact Or.inl rfl | exact Or.inr rfl) ?_
                refine ej_ix (ka := .f) (kb := .e) ?_ ?_ (fun _ _ => rfl)
                · refine ej_lst ?_
                  refine aj_consE ?_ ?_
                  · exact ej_int
                  · refine aj_consE ?_ ?_
                    · exact ej_int
                    · refine aj_consE ?_ ?_
                      · exact ej_int
                      · refine aj_consE ?_ ?_
                        · exact ej_int
                        · refine aj_consE ?_ ?_
                          · exact ej_non
                          · exact aj_nil
                · refine ej_mod (ka := .e) (kb := .e) ?_ ?_
                  · refine ej_int1 (k := .e) (by rfl) T.b_int ?_
                    refine ej_ix (ka := .e) (kb := .e) ?_ ?_ (fun _ _ => rfl)
                    · exact ej_var (pv 5)
                    · exact ej_int
                  · exact ej_int
              · refine bj_cons ?_ ?_
                · refine sj_name (i := 10) sc_law.nd rfl (by first | exact Or.inl rfl | exact Or.inr rfl) ?_
                  refine ej_makeK K_Game_2_travel_pace_late (hr.mono (by decide)) (by rfl) passM ?_ ?_
                  · refine aj_consE ?_ ?_
                    · refine ej_makeK K_Web_2_beats (hr.mono (by decide)) (by rfl) passM ?_ ?_
                      · refine aj_consE ?_ ?_
                        · refine ej_toE ?_
                          refine ej_list1 (k := .e) (by rfl) T.b_list ?_
                          exact ej_var (pv 1)
                        · refine aj_consE ?_ ?_
                          · refine ej_toE ?_
                            refine ej_list1 (k := .e) (by rfl) T.b_list ?_
                            exact ej_var (pv 2)
                          · exact aj_nil
                      · refine kj_cons ?_ ?_
                        · exact ej_var (pv 3)
                        · exact kj_nil
                    · refine aj_consE ?_ ?_
                      · exact ej_var (pv 7)
                      · exact aj_nil
                  · refine kj_cons ?_ ?_
                    · exact ej_var (pv 6)
                    · refine kj_cons ?_ ?_
                      · exact ej_var (pv 8)
                      · refine kj_cons ?_ ?_
                        · exact ej_var (pv 9)
                        · exact kj_nil
                · refine bj_cons ?_ ?_
                  · refine sj_name (i := 11) sc_law.nd rfl (by first | exact Or.inl rfl | exact Or.inr rfl) ?_
                    refine ej_fn D_law_draws (hr.mono (by decide)) (by rfl) passM ?_
                    refine aj_consE ?_ ?_
                    · exact ej_var (pv 0)
                    · refine aj_consE ?_ ?_
                      · exact ej_int
                      · refine aj_consE ?_ ?_
                        · exact ej_int
                        · exact aj_nil
                  · refine bj_cons ?_ ?_
                    · refine sj_name (i := 12) sc_law.nd rfl (by first | exact Or.inl rfl | exact Or.inr rfl) ?_
                      refine ej_fn D_law_posts (hr.mono (by decide)) (by rfl) passM ?_
                      refine aj_consE ?_ ?_
                      · refine ej_len (k := .e) (by rfl) T.b_len ?_
                        exact ej_var (pv 1)
                      · refine aj_consE ?_ ?_
                        · exact ej_var (pv 7)
                        · refine aj_consE ?_ ?_
                          · exact ej_var (pv 6)
                          · exact aj_nil
                    · refine bj_cons ?_ ?_
                      · refine sj_compS (own := [("post", 23)]) (tgs := [23]) (i := 13) rfl sc_law.nd rfl rfl (sw_true rfl rfl rfl (by decide +kernel)) (blkOk_by (by rfl)) ?_ (by decide) ?_ ?_ ?_
                        · refine ij_seq ?_
                          exact ej_var (pv 12)
                        · refine fun _ _ _ _ _ => ?_
                          exact gj_name (pg_name (i := 23) sc_law.nd rfl (by first | exact Or.inl rfl | exact Or.inr rfl))
                        · refine fun _ _ _ _ _ => ?_
                          refine tsj_one ?_
                          refine tj_lt (ka := .e) (kb := .e) ?_ ?_
                          · refine ej_lenSetA (k := .e) rfl ?_ (by rfl) T.b_len (by rfl) T.b_set
                            exact ej_var (pv 23)
                          · refine ej_len (k := .e) (by rfl) T.b_len ?_
                            exact ej_var (pv 1)
                        · refine fun _ _ _ _ _ => ?_
                          exact ej_var (pv 23)
                      · refine bj_cons ?_ ?_
                        · refine sj_name (i := 14) sc_law.nd rfl (by first | exact Or.inl rfl | exact Or.inr rfl) ?_
                          refine ej_ix (ka := .e) (kb := .e) ?_ ?_ (fun _ _ => rfl)
                          · exact ej_var (pv 13)
                          · refine ej_mod (ka := .e) (kb := .e) ?_ ?_
                            · refine ej_int1 (k := .e) (by rfl) T.b_int ?_
                              refine ej_ix (ka := .e) (kb := .e) ?_ ?_ (fun _ _ => rfl)
                              · exact ej_var (pv 11)
                              · exact ej_int
                            · refine ej_len (k := .e) (by rfl) T.b_len ?_
                              exact ej_var (pv 13)
                        · refine bj_cons ?_ ?_
                          · refine sj_nameO (i := 15) sc_law.nd rfl (by first | exact Or.inl rfl | exact Or.inr rfl) ?_
                            refine ej_lst ?_
                            exact aj_nil
                          · refine bj_cons ?_ ?_
                            · refine sj_for (tgs := [16]) (passes_of rfl) rfl ?_ ?_ ?_
                              · refine ij_rng1 (ka := .e) ?_ (by rfl) T.b_range
                                exact ej_int
                              · exact gj_name (pg_name (i := 16) sc_law.nd rfl (by first | exact Or.inl rfl | exact Or.inr rfl))
                              · refine bj_cons ?_ ?_
                                · refine sj_name (i := 17) sc_law.nd rfl (by first | exact Or.inl rfl | exact Or.inr rfl) ?_
                                  refine ej_fn D_law_beat (hr.mono (by decide)) (by rfl) passM ?_
                                  refine aj_consE ?_ ?_
                                  · refine ej_ix (ka := .e) (kb := .e) ?_ ?_ (fun _ _ => rfl)
                                    · exact ej_var (pv 11)
                                    · refine ej_plus (ka := .e) (kb := .e) ?_ ?_
                                      · exact ej_int
                                      · refine ej_mul (ka := .e) (kb := .e) ?_ ?_
                                        · exact ej_int
                                        · exact ej_var (pv 16)
                                  · exact aj_nil
                                · refine bj_cons ?_ ?_
                                  · refine sj_name (i := 18) sc_law.nd rfl (by first | exact Or.inl rfl | exact Or.inr rfl) ?_
                                    refine ej_ix (ka := .e) (kb := .e) ?_ ?_ (fun _ _ => rfl)
                                    · exact ej_var (pv 4)
                                    · refine ej_mod (ka := .e) (kb := .e) ?_ ?_
                                      · refine ej_int1 (k := .e) (by rfl) T.b_int ?_
                                        exact ej_var (pv 17)
                                      · exact ej_var (pv 3)
                                  · refine bj_cons ?_ ?_
                                    · refine sj_name (i := 19) sc_law.nd rfl (by first | exact Or.inl rfl | exact Or.inr rfl) ?_
                                      refine ej_fn D_law_sends (hr.mono (by decide)) (by rfl) passM ?_
                                      refine aj_consE ?_ ?_
                                      · exact ej_var (pv 18)
                                      · refine aj_consE ?_ ?_
                                        · exact ej_var (pv 6)
                                        · refine aj_consE ?_ ?_
                                          · exact ej_var (pv 12)
                                          · refine aj_consE ?_ ?_
                                            · exact ej_var (pv 14)
                                            · exact aj_nil
                                    · refine bj_one ?_
                                      refine sj_append (pv 15) ?_
                                      refine ej_tup ?_
                                      refine aj_consE ?_ ?_
                                      · exact ej_var (pv 17)
                                      · refine aj_consE ?_ ?_
                                        · exact ej_var (pv 18)
                                        · refine aj_consE ?_ ?_
                                          · refine ej_ix (ka := .e) (kb := .e) ?_ ?_ (fun _ _ => rfl)
                                            · exact ej_var (pv 19)
                                            · refine ej_mod (ka := .e) (kb := .e) ?_ ?_
                                              · refine ej_int1 (k := .e) (by rfl) T.b_int ?_
                                                refine ej_ix (ka := .e) (kb := .e) ?_ ?_ (fun _ _ => rfl)
                                                · exact ej_var (pv 11)
                                                · refine ej_plus (ka := .e) (kb := .e) ?_ ?_
                                                  · exact ej_int
                                                  · refine ej_mul (ka := .e) (kb := .e) ?_ ?_
                                                    · exact ej_int
                                                    · exact ej_var (pv 16)
                                              · refine ej_len (k := .e) (by rfl) T.b_len ?_
                                                exact ej_var (pv 19)
                                          · exact aj_nil
                            · refine bj_cons ?_ ?_
                              · refine sj_for (tgs := [17, 18, 20]) (passes_of rfl) rfl ?_ ?_ ?_
                                · refine ij_seq ?_
                                  refine ej_toE ?_
                                  refine ej_lst ?_
                                  refine aj_consE ?_ ?_
                                  · refine ej_ix (ka := .o) (kb := .e) ?_ ?_ (fun _ _ => rfl)
                                    · exact ej_peek (pv 15)
                                    · exact ej_int
                                  · refine aj_consE ?_ ?_
                                    · refine ej_ix (ka := .o) (kb := .e) ?_ ?_ (fun _ _ => rfl)
                                      · exact ej_peek (pv 15)
                                      · exact ej_int
                                    · refine aj_consE ?_ ?_
                                      · refine ej_ix (ka := .o) (kb := .e) ?_ ?_ (fun _ _ => rfl)
                                        · exact ej_peek (pv 15)
                                        · exact ej_int
                                      · exact aj_nil
                                · refine gj_tup (n := 3) rfl ?_
                                  refine gsj_name ?_ ?_
                                  · exact gj_name (pg_name (i := 17) sc_law.nd rfl (by first | exact Or.inl rfl | exact Or.inr rfl))
                                  · refine gsj_name ?_ ?_
                                    · exact gj_name (pg_name (i := 18) sc_law.nd rfl (by first | exact Or.inl rfl | exact Or.inr rfl))
                                    · refine gsj_name ?_ ?_
                                      · exact gj_name (pg_name (i := 20) sc_law.nd rfl (by first | exact Or.inl rfl | exact Or.inr rfl))
                                      · exact gsj_nil
                                · refine bj_one ?_
                                  refine sj_for (tgs := [21]) (passes_of rfl) rfl ?_ ?_ ?_
                                  · refine ij_rng1 (ka := .e) ?_ (by rfl) T.b_range
                                    refine ej_len (k := .e) (by rfl) T.b_len ?_
                                    exact ej_var (pv 1)
                                  · exact gj_name (pg_name (i := 21) sc_law.nd rfl (by first | exact Or.inl rfl | exact Or.inr rfl))
                                  · refine bj_one ?_
                                    refine sj_if ?_ ?_ ?_
                                    · refine tj_nin (ka := .e) (kb := .e) (units65 hr) ?_ ?_
                                      · exact ej_var (pv 21)
                                      · exact ej_var (pv 14)
                                    · refine bj_cons ?_ ?_
                                      · refine sj_name (i := 22) sc_law.nd rfl (by first | exact Or.inl rfl | exact Or.inr rfl) ?_
                                        refine ej_fn D_law_runs (hr.mono (by decide)) (by rfl) passM ?_
                                        refine aj_consE ?_ ?_
                                        · exact ej_var (pv 18)
                                        · refine aj_consE ?_ ?_
                                          · exact ej_var (pv 6)
                                          · refine aj_consE ?_ ?_
                                            · exact ej_var (pv 8)
                                            · refine aj_consE ?_ ?_
                                              · exact ej_var (pv 14)
                                              · refine aj_consE ?_ ?_
                                                · exact ej_var (pv 20)
                                                · refine aj_consE ?_ ?_
                                                  · exact ej_var (pv 21)
                                                  · exact aj_nil
                                      · refine bj_one ?_
                                        refine sj_if ?_ ?_ ?_
                                        · refine tj_not ?_
                                          refine tj_tru (k := .e) ?_
                                          refine ej_fn D_law_same (hr.mono (by decide)) (by rfl) passM ?_
                                          refine aj_consE ?_ ?_
                                          · refine ej_meth M_Game_runs (hr.mono (by decide)) passM ?_ ?_
                                            · exact ej_var (pv 10)
                                            · refine aj_consE ?_ ?_
                                              · exact ej_var (pv 17)
                                              · refine aj_consE ?_ ?_
                                                · exact ej_var (pv 14)
                                                · refine aj_consE ?_ ?_
                                                  · exact ej_var (pv 20)
                                                  · refine aj_consE ?_ ?_
                                                    · exact ej_var (pv 21)
                                                    · exact aj_nil
                                          · refine aj_consE ?_ ?_
                                            · refine ej_tuple1 (k := .e) (by rfl) T.b_tuple ?_
                                              exact ej_var (pv 22)
                                            · exact aj_nil
                                        · refine bj_one ?_
                                          refine sj_ret ?_
                                          exact ej_bl
                                        · exact bj_nil
                                    · exact bj_nil
                              · refine bj_one ?_
                                refine sj_ret ?_
                                exact ej_bl
end Tw.k14

namespace Tw.k14
open PySem PySem.Spec L2 PyProof.Rows Tw Tw.S
theorem sc_BadPost : FnScope ["self", "post"] ["self", "post"] (defScope s_BadPost___init__) := ⟨rfl, rfl, rfl, by decide +kernel, rfl, by decide +kernel, by decide +kernel⟩
theorem sc_CannotSend : FnScope ["self", "post"] ["self", "post"] (defScope s_CannotSend___init__) := ⟨rfl, rfl, rfl, by decide +kernel, rfl, by decide +kernel, by decide +kernel⟩
theorem sc_NotFree : FnScope ["self", "place"] ["self", "place"] (defScope s_NotFree___init__) := ⟨rfl, rfl, rfl, by decide +kernel, rfl, by decide +kernel, by decide +kernel⟩
theorem sc_UnknownPlace : FnScope ["self", "place"] ["self", "place"] (defScope s_UnknownPlace___init__) := ⟨rfl, rfl, rfl, by decide +kernel, rfl, by decide +kernel, by decide +kernel⟩
structure Facts (K : PySem.W.Frag) (mg : Str → Option Value) (C_Game : Addr) (C_Web : Addr) (C_BadPost : Addr) (C_CannotSend : Addr) (C_NotFree : Addr) (C_TagError : Addr) (C_UnknownPlace : Addr) : Prop where
  T : Txt K mg C_Game C_Web C_BadPost C_CannotSend C_NotFree C_TagError C_UnknownPlace
  a_law_names : At K mg "_law_names" s_law_names ["pool", "at", "count"]
  a_law_table : At K mg "_law_table" s_law_table ["names", "ties", "cycle"]
  a_law_way_ties : At K mg "_law_way_ties" s_law_way_ties ["pool", "at", "names", "cycle", "kind"]
  a_law_any_web_k13 : At K mg "_law_any_web" s_law_any_web_k13 ["draws", "fewest", "greatest", "longest"]
  a_law_beat : At K mg "_law_beat" s_law_beat ["draw"]
  a_law_draws : At K mg "_law_draws" s_law_draws ["script", "k", "count"]
  a_law_posts : At K mg "_law_posts" s_law_posts ["count", "team", "move"]
  a_law_reach : At K mg "_law_reach" s_law_reach ["row", "starts", "barred"]
  a_law_runs : At K mg "_law_runs" s_law_runs ["row", "move", "speed", "post", "sent", "place"]
  a_law_is_int : At K mg "_law_is_int" s_law_is_int ["x"]
  a_law_same : At K mg "_law_same" s_law_same ["got", "due"]
  a_law_sends : At K mg "_law_sends" s_law_sends ["row", "move", "posts", "post"]
  a_Web___len__ : AtM K C_Web "__len__" "Web.__len__" s_Web___len__ ["self"]
  a_check_place : At K mg "check_place" s_check_place ["web", "place"]
  a_check_free : At K mg "check_free" s_check_free ["game", "post", "place"]
  a_is_rising : At K mg "is_rising" s_is_rising ["post"]
  a_is_set : At K mg "is_set" s_is_set ["places", "count"]
  a_is_post_of : At K mg "is_post_of" s_is_post_of ["game", "post"]
  a_check_post : At K mg "check_post" s_check_post ["game", "post"]
  a_longer_posts : At K mg "longer_posts" s_longer_posts ["game", "posts"]
  a_posts_of : At K mg "posts_of" s_posts_of ["game"]
  a_with_one : At K mg "with_one" s_with_one ["post", "place"]
  a_Web_steps : AtM K C_Web "steps" "Web.steps" s_Web_steps ["self", "place", "beat"]
  a_sends_of : At K mg "sends_of" s_sends_of ["game", "beat", "post"]
  a_check_round : At K mg "check_round" s_check_round ["game", "beat", "post", "sent"]
  a_barred_of : At K mg "barred_of" s_barred_of ["game", "post", "sent"]
  a_reached : At K mg "reached" s_reached ["web", "beat", "starts", "barred"]
  a_ends_of : At K mg "ends_of" s_ends_of ["game", "beat", "barred", "place"]
  a_not_caught : At K mg "not_caught" s_not_caught ["game", "sent", "place", "ends"]
  a_runs_of : At K mg "runs_of" s_runs_of ["game", "beat", "post", "sent", "place"]
  a_Game_runs : AtM K C_Game "runs" "Game.runs" s_Game_runs ["self", "beat", "post", "sent", "place"]
  a_is_name : At K mg "is_name" s_is_name ["text"]
  a_check_names : At K mg "check_names" s_check_names ["places"]
  a_is_tie : At K mg "is_tie" s_is_tie ["places", "tie", "beats"]
  a_check_ties : At K mg "check_ties" s_check_ties ["places", "ties", "beats"]
  a_nexts_at : At K mg "nexts_at" s_nexts_at ["given", "beat", "count"]
  a_nexts_of : At K mg "nexts_of" s_nexts_of ["places", "ties", "beats"]
  a_steps_of : At K mg "steps_of" s_steps_of ["nexts"]
  a_law : At K mg "law" s_law ["script"]
  a_K_Game_2_travel_pace_late : AtI K mg "Game" C_Game "Game.__init__" s_Game___init__ ["self", "web", "seekers", "travel", "pace", "late"] 2 ["travel", "pace", "late"] gD_K_Game_2_travel_pace_late
  a_K_Web_2_beats : AtI K mg "Web" C_Web "Web.__init__" s_Web___init__ ["self", "places", "ties", "beats"] 2 ["beats"] gD_K_Web_2_beats
  e_BadPost : AtE K mg "BadPost" C_BadPost "BadPost.__init__" s_BadPost___init__ ["self", "post"] ["post"]
  e_CannotSend : AtE K mg "CannotSend" C_CannotSend "CannotSend.__init__" s_CannotSend___init__ ["self", "post"] ["post"]
  e_NotFree : AtE K mg "NotFree" C_NotFree "NotFree.__init__" s_NotFree___init__ ["self", "place"] ["place"]
  e_UnknownPlace : AtE K mg "UnknownPlace" C_UnknownPlace "UnknownPlace.__init__" s_UnknownPlace___init__ ["self", "place"] ["place"]
theorem R_BadPost {P : Program} {w : World} {K : PySem.W.Frag} {mg : Str → Option Value} {base : Heap} {C_Game : Addr} {C_Web : Addr} {C_BadPost : Addr} {C_CannotSend : Addr} {C_NotFree : Addr} {C_TagError : Addr} {C_UnknownPlace : Addr} (F : Facts K mg C_Game C_Web C_BadPost C_CannotSend C_NotFree C_TagError C_UnknownPlace) : Err P w K mg base "BadPost" C_BadPost ["post"] 1 :=
  err_mk1 F.e_BadPost sc_BadPost (fun fI cdv A outer s H E => pss_one (ps_ost (pv 0) (pv 1)))
theorem R_CannotSend {P : Program} {w : World} {K : PySem.W.Frag} {mg : Str → Option Value} {base : Heap} {C_Game : Addr} {C_Web : Addr} {C_BadPost : Addr} {C_CannotSend : Addr} {C_NotFree : Addr} {C_TagError : Addr} {C_UnknownPlace : Addr} (F : Facts K mg C_Game C_Web C_BadPost C_CannotSend C_NotFree C_TagError C_UnknownPlace) : Err P w K mg base "CannotSend" C_CannotSend ["post"] 1 :=
  err_mk1 F.e_CannotSend sc_CannotSend (fun fI cdv A outer s H E => pss_one (ps_ost (pv 0) (pv 1)))
theorem R_NotFree {P : Program} {w : World} {K : PySem.W.Frag} {mg : Str → Option Value} {base : Heap} {C_Game : Addr} {C_Web : Addr} {C_BadPost : Addr} {C_CannotSend : Addr} {C_NotFree : Addr} {C_TagError : Addr} {C_UnknownPlace : Addr} (F : Facts K mg C_Game C_Web C_BadPost C_CannotSend C_NotFree C_TagError C_UnknownPlace) : Err P w K mg base "NotFree" C_NotFree ["place"] 1 :=
  err_mk1 F.e_NotFree sc_NotFree (fun fI cdv A outer s H E => pss_one (ps_ost (pv 0) (pv 1)))
theorem R_UnknownPlace {P : Program} {w : World} {K : PySem.W.Frag} {mg : Str → Option Value} {base : Heap} {C_Game : Addr} {C_Web : Addr} {C_BadPost : Addr} {C_CannotSend : Addr} {C_NotFree : Addr} {C_TagError : Addr} {C_UnknownPlace : Addr} (F : Facts K mg C_Game C_Web C_BadPost C_CannotSend C_NotFree C_TagError C_UnknownPlace) : Err P w K mg base "UnknownPlace" C_UnknownPlace ["place"] 1 :=
  err_mk1 F.e_UnknownPlace sc_UnknownPlace (fun fI cdv A outer s H E => pss_one (ps_ost (pv 0) (pv 1)))
theorem D_law_names {P : Program} {w : World} {K : PySem.W.Frag} {mg : Str → Option Value} {base : Heap} {C_Game : Addr} {C_Web : Addr} {C_BadPost : Addr} {C_CannotSend : Addr} {C_NotFree : Addr} {C_TagError : Addr} {C_UnknownPlace : Addr} (F : Facts K mg C_Game C_Web C_BadPost C_CannotSend C_NotFree C_TagError C_UnknownPlace) : Def P w K mg base "_law_names" 3 1 wf_law_names :=
  def_ok F.a_law_names sc_law_names mo_wf_law_names hn_wf_law_names (fun f cdv A outer s H E hr => d_law_names F.T  hr) (fun xc ds Q h => p_law_names  xc ds Q h)
theorem D_law_table {P : Program} {w : World} {K : PySem.W.Frag} {mg : Str → Option Value} {base : Heap} {C_Game : Addr} {C_Web : Addr} {C_BadPost : Addr} {C_CannotSend : Addr} {C_NotFree : Addr} {C_TagError : Addr} {C_UnknownPlace : Addr} (F : Facts K mg C_Game C_Web C_BadPost C_CannotSend C_NotFree C_TagError C_UnknownPlace) : Def P w K mg base "_law_table" 3 1 wf_law_table :=
  def_ok F.a_law_table sc_law_table mo_wf_law_table hn_wf_law_table (fun f cdv A outer s H E hr => d_law_table F.T  hr) (fun xc ds Q h => p_law_table  xc ds Q h)
theorem D_law_way_ties {P : Program} {w : World} {K : PySem.W.Frag} {mg : Str → Option Value} {base : Heap} {C_Game : Addr} {C_Web : Addr} {C_BadPost : Addr} {C_CannotSend : Addr} {C_NotFree : Addr} {C_TagError : Addr} {C_UnknownPlace : Addr} (F : Facts K mg C_Game C_Web C_BadPost C_CannotSend C_NotFree C_TagError C_UnknownPlace) : Def P w K mg base "_law_way_ties" 5 1 wf_law_way_ties :=
  def_ok F.a_law_way_ties sc_law_way_ties mo_wf_law_way_ties hn_wf_law_way_ties (fun f cdv A outer s H E hr => d_law_way_ties F.T  hr) (fun xc ds Q h => p_law_way_ties  xc ds Q h)
theorem D_law_any_web_k13 {P : Program} {w : World} {K : PySem.W.Frag} {mg : Str → Option Value} {base : Heap} {C_Game : Addr} {C_Web : Addr} {C_BadPost : Addr} {C_CannotSend : Addr} {C_NotFree : Addr} {C_TagError : Addr} {C_UnknownPlace : Addr} (F : Facts K mg C_Game C_Web C_BadPost C_CannotSend C_NotFree C_TagError C_UnknownPlace) : Def P w K mg base "_law_any_web" 4 2 wf_law_any_web_k13 :=
  def_ok F.a_law_any_web_k13 sc_law_any_web_k13 mo_wf_law_any_web_k13 hn_wf_law_any_web_k13 (fun f cdv A outer s H E hr => d_law_any_web_k13 F.T (D_law_names F) (D_law_table F) (D_law_way_ties F) hr) (fun xc ds Q h => p_law_any_web_k13  xc ds Q h)
theorem D_law_beat {P : Program} {w : World} {K : PySem.W.Frag} {mg : Str → Option Value} {base : Heap} {C_Game : Addr} {C_Web : Addr} {C_BadPost : Addr} {C_CannotSend : Addr} {C_NotFree : Addr} {C_TagError : Addr} {C_UnknownPlace : Addr} (F : Facts K mg C_Game C_Web C_BadPost C_CannotSend C_NotFree C_TagError C_UnknownPlace) : Def P w K mg base "_law_beat" 1 1 wf_law_beat :=
  def_ok F.a_law_beat sc_law_beat mo_wf_law_beat hn_wf_law_beat (fun f cdv A outer s H E hr => d_law_beat F.T  hr) (fun xc ds Q h => p_law_beat  xc ds Q h)
theorem D_law_draws {P : Program} {w : World} {K : PySem.W.Frag} {mg : Str → Option Value} {base : Heap} {C_Game : Addr} {C_Web : Addr} {C_BadPost : Addr} {C_CannotSend : Addr} {C_NotFree : Addr} {C_TagError : Addr} {C_UnknownPlace : Addr} (F : Facts K mg C_Game C_Web C_BadPost C_CannotSend C_NotFree C_TagError C_UnknownPlace) : Def P w K mg base "_law_draws" 3 1 wf_law_draws :=
  def_ok F.a_law_draws sc_law_draws mo_wf_law_draws hn_wf_law_draws (fun f cdv A outer s H E hr => d_law_draws F.T  hr) (fun xc ds Q h => p_law_draws  xc ds Q h)
theorem D_law_posts {P : Program} {w : World} {K : PySem.W.Frag} {mg : Str → Option Value} {base : Heap} {C_Game : Addr} {C_Web : Addr} {C_BadPost : Addr} {C_CannotSend : Addr} {C_NotFree : Addr} {C_TagError : Addr} {C_UnknownPlace : Addr} (F : Facts K mg C_Game C_Web C_BadPost C_CannotSend C_NotFree C_TagError C_UnknownPlace) : Def P w K mg base "_law_posts" 3 1 wf_law_posts :=
  def_ok F.a_law_posts sc_law_posts mo_wf_law_posts hn_wf_law_posts (fun f cdv A outer s H E hr => d_law_posts F.T  hr) (fun xc ds Q h => p_law_posts  xc ds Q h)
theorem D_law_reach {P : Program} {w : World} {K : PySem.W.Frag} {mg : Str → Option Value} {base : Heap} {C_Game : Addr} {C_Web : Addr} {C_BadPost : Addr} {C_CannotSend : Addr} {C_NotFree : Addr} {C_TagError : Addr} {C_UnknownPlace : Addr} (F : Facts K mg C_Game C_Web C_BadPost C_CannotSend C_NotFree C_TagError C_UnknownPlace) : Def P w K mg base "_law_reach" 3 1 wf_law_reach :=
  def_ok F.a_law_reach sc_law_reach mo_wf_law_reach hn_wf_law_reach (fun f cdv A outer s H E hr => d_law_reach F.T  hr) (fun xc ds Q h => p_law_reach  xc ds Q h)
theorem D_law_runs {P : Program} {w : World} {K : PySem.W.Frag} {mg : Str → Option Value} {base : Heap} {C_Game : Addr} {C_Web : Addr} {C_BadPost : Addr} {C_CannotSend : Addr} {C_NotFree : Addr} {C_TagError : Addr} {C_UnknownPlace : Addr} (F : Facts K mg C_Game C_Web C_BadPost C_CannotSend C_NotFree C_TagError C_UnknownPlace) : Def P w K mg base "_law_runs" 6 2 wf_law_runs :=
  def_ok F.a_law_runs sc_law_runs mo_wf_law_runs hn_wf_law_runs (fun f cdv A outer s H E hr => d_law_runs F.T (D_law_reach F) hr) (fun xc ds Q h => p_law_runs  xc ds Q h)
theorem D_law_is_int {P : Program} {w : World} {K : PySem.W.Frag} {mg : Str → Option Value} {base : Heap} {C_Game : Addr} {C_Web : Addr} {C_BadPost : Addr} {C_CannotSend : Addr} {C_NotFree : Addr} {C_TagError : Addr} {C_UnknownPlace : Addr} (F : Facts K mg C_Game C_Web C_BadPost C_CannotSend C_NotFree C_TagError C_UnknownPlace) : Def P w K mg base "_law_is_int" 1 1 wf_law_is_int :=
  def_ok F.a_law_is_int sc_law_is_int mo_wf_law_is_int hn_wf_law_is_int (fun f cdv A outer s H E hr => d_law_is_int F.T  hr) (fun xc ds Q h => p_law_is_int  xc ds Q h)
def wfNo : Wf := fun _ _ _ => False
theorem mo_same (n : Nat) : MoF (wfSame n) := mo_wfSame
theorem hn_same (n : Nat) : ∀ ds xc Q, wfSame n xc ds Q → ds.length = 2 := hn_wfSame
theorem D_law_same_no {P : Program} {w : World} {K : PySem.W.Frag} {mg : Str → Option Value} {base : Heap} {C_Game : Addr} {C_Web : Addr} {C_BadPost : Addr} {C_CannotSend : Addr} {C_NotFree : Addr} {C_TagError : Addr} {C_UnknownPlace : Addr} (F : Facts K mg C_Game C_Web C_BadPost C_CannotSend C_NotFree C_TagError C_UnknownPlace) : Def P w K mg base "_law_same" 2 2 wfNo :=
  def_ok (k := 1) F.a_law_same sc_law_same (fun _ _ _ _ _ h => h.elim) (fun _ _ _ h => h.elim) (fun f cdv A outer s H E hr => bj_never) (fun xc ds Q h => h.elim)
theorem D_law_same_n {P : Program} {w : World} {K : PySem.W.Frag} {mg : Str → Option Value} {base : Heap} {C_Game : Addr} {C_Web : Addr} {C_BadPost : Addr} {C_CannotSend : Addr} {C_NotFree : Addr} {C_TagError : Addr} {C_UnknownPlace : Addr} (F : Facts K mg C_Game C_Web C_BadPost C_CannotSend C_NotFree C_TagError C_UnknownPlace) (n : Nat) : Def P w K mg base "_law_same" 2 (4 + 2 * n) (wfSame n) := by
  induction n with
  | zero => exact def_ok (k := 2 + 1) F.a_law_same sc_law_same (mo_same 0) (hn_same 0) (fun f cdv A outer s H E hr => d_law_same F.T (D_law_is_int F) (D_law_same_no F) hr) (fun xc ds Q h => p_law_same0 wfNo xc ds Q h)
  | succ n ih => exact def_ok (k := 4 + 2 * n + 1) F.a_law_same sc_law_same (mo_same (n + 1)) (hn_same (n + 1)) (fun f cdv A outer s H E hr => d_law_same F.T (D_law_is_int F) ih hr) (fun xc ds Q h => p_law_same n xc ds Q h)
theorem D_law_same {P : Program} {w : World} {K : PySem.W.Frag} {mg : Str → Option Value} {base : Heap} {C_Game : Addr} {C_Web : Addr} {C_BadPost : Addr} {C_CannotSend : Addr} {C_NotFree : Addr} {C_TagError : Addr} {C_UnknownPlace : Addr} (F : Facts K mg C_Game C_Web C_BadPost C_CannotSend C_NotFree C_TagError C_UnknownPlace) : Def P w K mg base "_law_same" 2 14 wf_law_same := D_law_same_n F 5
theorem D_law_sends {P : Program} {w : World} {K : PySem.W.Frag} {mg : Str → Option Value} {base : Heap} {C_Game : Addr} {C_Web : Addr} {C_BadPost : Addr} {C_CannotSend : Addr} {C_NotFree : Addr} {C_TagError : Addr} {C_UnknownPlace : Addr} (F : Facts K mg C_Game C_Web C_BadPost C_CannotSend C_NotFree C_TagError C_UnknownPlace) : Def P w K mg base "_law_sends" 4 1 wf_law_sends :=
  def_ok F.a_law_sends sc_law_sends mo_wf_law_sends hn_wf_law_sends (fun f cdv A outer s H E hr => d_law_sends F.T  hr) (fun xc ds Q h => p_law_sends  xc ds Q h)
theorem M_Web___len__ {P : Program} {w : World} {K : PySem.W.Frag} {mg : Str → Option Value} {base : Heap} {C_Game : Addr} {C_Web : Addr} {C_BadPost : Addr} {C_CannotSend : Addr} {C_NotFree : Addr} {C_TagError : Addr} {C_UnknownPlace : Addr} (F : Facts K mg C_Game C_Web C_BadPost C_CannotSend C_NotFree C_TagError C_UnknownPlace) : MDef P w K mg base C_Web "__len__" 1 1 (wf_Web___len__ C_Web) :=
  mdef_ok F.a_Web___len__ F.T.c_Web sc_Web___len__ mo_wf_Web___len__ hn_wf_Web___len__ (fun f cdv A outer s H E hr => d_Web___len__ F.T  hr) (fun xc ds Q h => p_len C_Web xc ds Q h)
theorem D_check_place {P : Program} {w : World} {K : PySem.W.Frag} {mg : Str → Option Value} {base : Heap} {C_Game : Addr} {C_Web : Addr} {C_BadPost : Addr} {C_CannotSend : Addr} {C_NotFree : Addr} {C_TagError : Addr} {C_UnknownPlace : Addr} (F : Facts K mg C_Game C_Web C_BadPost C_CannotSend C_NotFree C_TagError C_UnknownPlace) : Def P w K mg base "check_place" 2 3 (wf_check_place C_Web C_UnknownPlace) :=
  def_ok F.a_check_place sc_check_place mo_wf_check_place hn_wf_check_place (fun f cdv A outer s H E hr => d_check_place F.T (M_Web___len__ F) (R_UnknownPlace F) hr) (fun xc ds Q h => p_check_place C_Web C_UnknownPlace xc ds Q h)
theorem D_check_free {P : Program} {w : World} {K : PySem.W.Frag} {mg : Str → Option Value} {base : Heap} {C_Game : Addr} {C_Web : Addr} {C_BadPost : Addr} {C_CannotSend : Addr} {C_NotFree : Addr} {C_TagError : Addr} {C_UnknownPlace : Addr} (F : Facts K mg C_Game C_Web C_BadPost C_CannotSend C_NotFree C_TagError C_UnknownPlace) : Def P w K mg base "check_free" 3 4 (wf_check_free C_Game C_Web C_UnknownPlace C_NotFree) :=
  def_ok F.a_check_free sc_check_free mo_wf_check_free hn_wf_check_free (fun f cdv A outer s H E hr => d_check_free F.T (D_check_place F) (R_NotFree F) hr) (fun xc ds Q h => p_check_free C_Game C_Web C_NotFree C_UnknownPlace xc ds Q h)
theorem D_is_rising {P : Program} {w : World} {K : PySem.W.Frag} {mg : Str → Option Value} {base : Heap} {C_Game : Addr} {C_Web : Addr} {C_BadPost : Addr} {C_CannotSend : Addr} {C_NotFree : Addr} {C_TagError : Addr} {C_UnknownPlace : Addr} (F : Facts K mg C_Game C_Web C_BadPost C_CannotSend C_NotFree C_TagError C_UnknownPlace) : Def P w K mg base "is_rising" 1 1 wf_is_rising :=
  def_ok F.a_is_rising sc_is_rising mo_wf_is_rising hn_wf_is_rising (fun f cdv A outer s H E hr => d_is_rising F.T  hr) (fun xc ds Q h => p_is_rising  xc ds Q h)
theorem D_is_set {P : Program} {w : World} {K : PySem.W.Frag} {mg : Str → Option Value} {base : Heap} {C_Game : Addr} {C_Web : Addr} {C_BadPost : Addr} {C_CannotSend : Addr} {C_NotFree : Addr} {C_TagError : Addr} {C_UnknownPlace : Addr} (F : Facts K mg C_Game C_Web C_BadPost C_CannotSend C_NotFree C_TagError C_UnknownPlace) : Def P w K mg base "is_set" 2 1 wf_is_set :=
  def_ok F.a_is_set sc_is_set mo_wf_is_set hn_wf_is_set (fun f cdv A outer s H E hr => d_is_set F.T  hr) (fun xc ds Q h => p_is_set  xc ds Q h)
theorem D_is_post_of {P : Program} {w : World} {K : PySem.W.Frag} {mg : Str → Option Value} {base : Heap} {C_Game : Addr} {C_Web : Addr} {C_BadPost : Addr} {C_CannotSend : Addr} {C_NotFree : Addr} {C_TagError : Addr} {C_UnknownPlace : Addr} (F : Facts K mg C_Game C_Web C_BadPost C_CannotSend C_NotFree C_TagError C_UnknownPlace) : Def P w K mg base "is_post_of" 2 3 (wf_is_post_of C_Game C_Web) :=
  def_ok F.a_is_post_of sc_is_post_of mo_wf_is_post_of hn_wf_is_post_of (fun f cdv A outer s H E hr => d_is_post_of F.T (D_is_rising F) (D_is_set F) (M_Web___len__ F) hr) (fun xc ds Q h => p_is_post_of C_Game C_Web xc ds Q h)
theorem D_check_post {P : Program} {w : World} {K : PySem.W.Frag} {mg : Str → Option Value} {base : Heap} {C_Game : Addr} {C_Web : Addr} {C_BadPost : Addr} {C_CannotSend : Addr} {C_NotFree : Addr} {C_TagError : Addr} {C_UnknownPlace : Addr} (F : Facts K mg C_Game C_Web C_BadPost C_CannotSend C_NotFree C_TagError C_UnknownPlace) : Def P w K mg base "check_post" 2 4 (wf_check_post C_Game C_Web C_BadPost) :=
  def_ok F.a_check_post sc_check_post mo_wf_check_post hn_wf_check_post (fun f cdv A outer s H E hr => d_check_post F.T (D_is_post_of F) (R_BadPost F) hr) (fun xc ds Q h => p_check_post C_Game C_Web C_BadPost xc ds Q h)
theorem D_longer_posts {P : Program} {w : World} {K : PySem.W.Frag} {mg : Str → Option Value} {base : Heap} {C_Game : Addr} {C_Web : Addr} {C_BadPost : Addr} {C_CannotSend : Addr} {C_NotFree : Addr} {C_TagError : Addr} {C_UnknownPlace : Addr} (F : Facts K mg C_Game C_Web C_BadPost C_CannotSend C_NotFree C_TagError C_UnknownPlace) : Def P w K mg base "longer_posts" 2 3 (wf_longer_posts C_Game C_Web) :=
  def_ok F.a_longer_posts sc_longer_posts mo_wf_longer_posts hn_wf_longer_posts (fun f cdv A outer s H E hr => d_longer_posts F.T (M_Web___len__ F) hr) (fun xc ds Q h => p_longer_posts C_Game C_Web xc ds Q h)
theorem D_posts_of {P : Program} {w : World} {K : PySem.W.Frag} {mg : Str → Option Value} {base : Heap} {C_Game : Addr} {C_Web : Addr} {C_BadPost : Addr} {C_CannotSend : Addr} {C_NotFree : Addr} {C_TagError : Addr} {C_UnknownPlace : Addr} (F : Facts K mg C_Game C_Web C_BadPost C_CannotSend C_NotFree C_TagError C_UnknownPlace) : Def P w K mg base "posts_of" 1 4 (wf_posts_of C_Game C_Web) :=
  def_ok F.a_posts_of sc_posts_of mo_wf_posts_of hn_wf_posts_of (fun f cdv A outer s H E hr => d_posts_of F.T (D_longer_posts F) hr) (fun xc ds Q h => p_posts_of C_Game C_Web xc ds Q h)
theorem D_with_one {P : Program} {w : World} {K : PySem.W.Frag} {mg : Str → Option Value} {base : Heap} {C_Game : Addr} {C_Web : Addr} {C_BadPost : Addr} {C_CannotSend : Addr} {C_NotFree : Addr} {C_TagError : Addr} {C_UnknownPlace : Addr} (F : Facts K mg C_Game C_Web C_BadPost C_CannotSend C_NotFree C_TagError C_UnknownPlace) : Def P w K mg base "with_one" 2 1 wf_with_one :=
  def_ok F.a_with_one sc_with_one mo_wf_with_one hn_wf_with_one (fun f cdv A outer s H E hr => d_with_one F.T  hr) (fun xc ds Q h => p_with_one  xc ds Q h)
theorem M_Web_steps {P : Program} {w : World} {K : PySem.W.Frag} {mg : Str → Option Value} {base : Heap} {C_Game : Addr} {C_Web : Addr} {C_BadPost : Addr} {C_CannotSend : Addr} {C_NotFree : Addr} {C_TagError : Addr} {C_UnknownPlace : Addr} (F : Facts K mg C_Game C_Web C_BadPost C_CannotSend C_NotFree C_TagError C_UnknownPlace) : MDef P w K mg base C_Web "steps" 3 4 (wf_Web_steps C_Web C_UnknownPlace) :=
  mdef_ok F.a_Web_steps F.T.c_Web sc_Web_steps mo_wf_Web_steps hn_wf_Web_steps (fun f cdv A outer s H E hr => d_Web_steps F.T (D_check_place F) hr) (fun xc ds Q h => p_steps C_Web C_UnknownPlace xc ds Q h)
theorem D_sends_of {P : Program} {w : World} {K : PySem.W.Frag} {mg : Str → Option Value} {base : Heap} {C_Game : Addr} {C_Web : Addr} {C_BadPost : Addr} {C_CannotSend : Addr} {C_NotFree : Addr} {C_TagError : Addr} {C_UnknownPlace : Addr} (F : Facts K mg C_Game C_Web C_BadPost C_CannotSend C_NotFree C_TagError C_UnknownPlace) : Def P w K mg base "sends_of" 3 5 (wf_sends_of C_Game C_Web) :=
  def_ok F.a_sends_of sc_sends_of mo_wf_sends_of hn_wf_sends_of (fun f cdv A outer s H E hr => d_sends_of F.T (D_posts_of F) (D_with_one F) (M_Web_steps F) hr) (fun xc ds Q h => p_sends_of C_Game C_Web C_UnknownPlace xc ds Q h)
theorem D_check_round {P : Program} {w : World} {K : PySem.W.Frag} {mg : Str → Option Value} {base : Heap} {C_Game : Addr} {C_Web : Addr} {C_BadPost : Addr} {C_CannotSend : Addr} {C_NotFree : Addr} {C_TagError : Addr} {C_UnknownPlace : Addr} (F : Facts K mg C_Game C_Web C_BadPost C_CannotSend C_NotFree C_TagError C_UnknownPlace) : Def P w K mg base "check_round" 4 6 (wf_check_round C_Game C_Web C_BadPost C_CannotSend) :=
  def_ok F.a_check_round sc_check_round mo_wf_check_round hn_wf_check_round (fun f cdv A outer s H E hr => d_check_round F.T (D_check_post F) (D_sends_of F) (R_CannotSend F) hr) (fun xc ds Q h => p_check_round C_Game C_Web C_BadPost C_CannotSend xc ds Q h)
theorem D_barred_of {P : Program} {w : World} {K : PySem.W.Frag} {mg : Str → Option Value} {base : Heap} {C_Game : Addr} {C_Web : Addr} {C_BadPost : Addr} {C_CannotSend : Addr} {C_NotFree : Addr} {C_TagError : Addr} {C_UnknownPlace : Addr} (F : Facts K mg C_Game C_Web C_BadPost C_CannotSend C_NotFree C_TagError C_UnknownPlace) : Def P w K mg base "barred_of" 3 1 (wf_barred_of C_Game C_Web) :=
  def_ok F.a_barred_of sc_barred_of mo_wf_barred_of hn_wf_barred_of (fun f cdv A outer s H E hr => d_barred_of F.T  hr) (fun xc ds Q h => p_barred_of C_Game xc ds Q h)
theorem D_reached {P : Program} {w : World} {K : PySem.W.Frag} {mg : Str → Option Value} {base : Heap} {C_Game : Addr} {C_Web : Addr} {C_BadPost : Addr} {C_CannotSend : Addr} {C_NotFree : Addr} {C_TagError : Addr} {C_UnknownPlace : Addr} (F : Facts K mg C_Game C_Web C_BadPost C_CannotSend C_NotFree C_TagError C_UnknownPlace) : Def P w K mg base "reached" 4 5 (wf_reached C_Web) :=
  def_ok F.a_reached sc_reached mo_wf_reached hn_wf_reached (fun f cdv A outer s H E hr => d_reached F.T (M_Web_steps F) hr) (fun xc ds Q h => p_reached C_Web C_UnknownPlace xc ds Q h)
theorem D_ends_of {P : Program} {w : World} {K : PySem.W.Frag} {mg : Str → Option Value} {base : Heap} {C_Game : Addr} {C_Web : Addr} {C_BadPost : Addr} {C_CannotSend : Addr} {C_NotFree : Addr} {C_TagError : Addr} {C_UnknownPlace : Addr} (F : Facts K mg C_Game C_Web C_BadPost C_CannotSend C_NotFree C_TagError C_UnknownPlace) : Def P w K mg base "ends_of" 4 6 (wf_ends_of C_Game C_Web) :=
  def_ok F.a_ends_of sc_ends_of mo_wf_ends_of hn_wf_ends_of (fun f cdv A outer s H E hr => d_ends_of F.T (D_reached F) (M_Web_steps F) hr) (fun xc ds Q h => p_ends_of C_Game C_Web C_UnknownPlace xc ds Q h)
theorem D_not_caught {P : Program} {w : World} {K : PySem.W.Frag} {mg : Str → Option Value} {base : Heap} {C_Game : Addr} {C_Web : Addr} {C_BadPost : Addr} {C_CannotSend : Addr} {C_NotFree : Addr} {C_TagError : Addr} {C_UnknownPlace : Addr} (F : Facts K mg C_Game C_Web C_BadPost C_CannotSend C_NotFree C_TagError C_UnknownPlace) : Def P w K mg base "not_caught" 4 1 (wf_not_caught C_Game C_Web) :=
  def_ok F.a_not_caught sc_not_caught mo_wf_not_caught hn_wf_not_caught (fun f cdv A outer s H E hr => d_not_caught F.T  hr) (fun xc ds Q h => p_not_caught C_Game xc ds Q h)
theorem D_runs_of {P : Program} {w : World} {K : PySem.W.Frag} {mg : Str → Option Value} {base : Heap} {C_Game : Addr} {C_Web : Addr} {C_BadPost : Addr} {C_CannotSend : Addr} {C_NotFree : Addr} {C_TagError : Addr} {C_UnknownPlace : Addr} (F : Facts K mg C_Game C_Web C_BadPost C_CannotSend C_NotFree C_TagError C_UnknownPlace) : Def P w K mg base "runs_of" 5 7 (wf_runs_of C_Game C_Web) :=
  def_ok F.a_runs_of sc_runs_of mo_wf_runs_of hn_wf_runs_of (fun f cdv A outer s H E hr => d_runs_of F.T (D_barred_of F) (D_ends_of F) (D_not_caught F) hr) (fun xc ds Q h => p_runs_of C_Game C_Web xc ds Q h)
theorem M_Game_runs {P : Program} {w : World} {K : PySem.W.Frag} {mg : Str → Option Value} {base : Heap} {C_Game : Addr} {C_Web : Addr} {C_BadPost : Addr} {C_CannotSend : Addr} {C_NotFree : Addr} {C_TagError : Addr} {C_UnknownPlace : Addr} (F : Facts K mg C_Game C_Web C_BadPost C_CannotSend C_NotFree C_TagError C_UnknownPlace) : MDef P w K mg base C_Game "runs" 5 8 (wf_Game_runs C_Game C_Web C_BadPost C_CannotSend C_UnknownPlace C_NotFree) :=
  mdef_ok F.a_Game_runs F.T.c_Game sc_Game_runs mo_wf_Game_runs hn_wf_Game_runs (fun f cdv A outer s H E hr => d_Game_runs F.T (D_check_free F) (D_check_round F) (D_runs_of F) hr) (fun xc ds Q h => p_Game_runs C_Game C_Web C_BadPost C_CannotSend C_NotFree C_UnknownPlace xc ds Q h)
theorem K_Game_2_travel_pace_late {P : Program} {w : World} {K : PySem.W.Frag} {mg : Str → Option Value} {base : Heap} {C_Game : Addr} {C_Web : Addr} {C_BadPost : Addr} {C_CannotSend : Addr} {C_NotFree : Addr} {C_TagError : Addr} {C_UnknownPlace : Addr} (F : Facts K mg C_Game C_Web C_BadPost C_CannotSend C_NotFree C_TagError C_UnknownPlace) : Ctor P w K mg base "Game" C_Game 2 ["travel", "pace", "late"] 1 gD_K_Game_2_travel_pace_late wi_Game :=
  ctor_ok (m := 5) F.a_K_Game_2_travel_pace_late rfl sc_Game___init__ mo_wi_Game hn_wi_Game (fun f cdv A outer s H E hr => d_Game___init__ F.T  hr) (fun xc ds Q p h => p_Game_init C_Game xc ds Q p h)
theorem D_is_name {P : Program} {w : World} {K : PySem.W.Frag} {mg : Str → Option Value} {base : Heap} {C_Game : Addr} {C_Web : Addr} {C_BadPost : Addr} {C_CannotSend : Addr} {C_NotFree : Addr} {C_TagError : Addr} {C_UnknownPlace : Addr} (F : Facts K mg C_Game C_Web C_BadPost C_CannotSend C_NotFree C_TagError C_UnknownPlace) : Def P w K mg base "is_name" 1 1 wf_is_name :=
  def_ok F.a_is_name sc_is_name mo_wf_is_name hn_wf_is_name (fun f cdv A outer s H E hr => d_is_name F.T  hr) (fun xc ds Q h => p_is_name  xc ds Q h)
theorem D_check_names {P : Program} {w : World} {K : PySem.W.Frag} {mg : Str → Option Value} {base : Heap} {C_Game : Addr} {C_Web : Addr} {C_BadPost : Addr} {C_CannotSend : Addr} {C_NotFree : Addr} {C_TagError : Addr} {C_UnknownPlace : Addr} (F : Facts K mg C_Game C_Web C_BadPost C_CannotSend C_NotFree C_TagError C_UnknownPlace) : Def P w K mg base "check_names" 1 2 wf_check_names :=
  def_ok F.a_check_names sc_check_names mo_wf_check_names hn_wf_check_names (fun f cdv A outer s H E hr => d_check_names F.T (D_is_name F) hr) (fun xc ds Q h => p_check_names  xc ds Q h)
theorem D_is_tie {P : Program} {w : World} {K : PySem.W.Frag} {mg : Str → Option Value} {base : Heap} {C_Game : Addr} {C_Web : Addr} {C_BadPost : Addr} {C_CannotSend : Addr} {C_NotFree : Addr} {C_TagError : Addr} {C_UnknownPlace : Addr} (F : Facts K mg C_Game C_Web C_BadPost C_CannotSend C_NotFree C_TagError C_UnknownPlace) : Def P w K mg base "is_tie" 3 2 wf_is_tie :=
  def_ok F.a_is_tie sc_is_tie mo_wf_is_tie hn_wf_is_tie (fun f cdv A outer s H E hr => d_is_tie F.T (D_is_set F) hr) (fun xc ds Q h => p_is_tie  xc ds Q h)
theorem D_check_ties {P : Program} {w : World} {K : PySem.W.Frag} {mg : Str → Option Value} {base : Heap} {C_Game : Addr} {C_Web : Addr} {C_BadPost : Addr} {C_CannotSend : Addr} {C_NotFree : Addr} {C_TagError : Addr} {C_UnknownPlace : Addr} (F : Facts K mg C_Game C_Web C_BadPost C_CannotSend C_NotFree C_TagError C_UnknownPlace) : Def P w K mg base "check_ties" 3 3 wf_check_ties :=
  def_ok F.a_check_ties sc_check_ties mo_wf_check_ties hn_wf_check_ties (fun f cdv A outer s H E hr => d_check_ties F.T (D_is_tie F) hr) (fun xc ds Q h => p_check_ties  xc ds Q h)
theorem D_nexts_at {P : Program} {w : World} {K : PySem.W.Frag} {mg : Str → Option Value} {base : Heap} {C_Game : Addr} {C_Web : Addr} {C_BadPost : Addr} {C_CannotSend : Addr} {C_NotFree : Addr} {C_TagError : Addr} {C_UnknownPlace : Addr} (F : Facts K mg C_Game C_Web C_BadPost C_CannotSend C_NotFree C_TagError C_UnknownPlace) : Def P w K mg base "nexts_at" 3 1 wf_nexts_at :=
  def_ok F.a_nexts_at sc_nexts_at mo_wf_nexts_at hn_wf_nexts_at (fun f cdv A outer s H E hr => d_nexts_at F.T  hr) (fun xc ds Q h => p_nexts_at  xc ds Q h)
theorem D_nexts_of {P : Program} {w : World} {K : PySem.W.Frag} {mg : Str → Option Value} {base : Heap} {C_Game : Addr} {C_Web : Addr} {C_BadPost : Addr} {C_CannotSend : Addr} {C_NotFree : Addr} {C_TagError : Addr} {C_UnknownPlace : Addr} (F : Facts K mg C_Game C_Web C_BadPost C_CannotSend C_NotFree C_TagError C_UnknownPlace) : Def P w K mg base "nexts_of" 3 2 wf_nexts_of :=
  def_ok F.a_nexts_of sc_nexts_of mo_wf_nexts_of hn_wf_nexts_of (fun f cdv A outer s H E hr => d_nexts_of F.T (D_nexts_at F) hr) (fun xc ds Q h => p_nexts_of  xc ds Q h)
theorem D_steps_of {P : Program} {w : World} {K : PySem.W.Frag} {mg : Str → Option Value} {base : Heap} {C_Game : Addr} {C_Web : Addr} {C_BadPost : Addr} {C_CannotSend : Addr} {C_NotFree : Addr} {C_TagError : Addr} {C_UnknownPlace : Addr} (F : Facts K mg C_Game C_Web C_BadPost C_CannotSend C_NotFree C_TagError C_UnknownPlace) : Def P w K mg base "steps_of" 1 1 wf_steps_of :=
  def_ok F.a_steps_of sc_steps_of mo_wf_steps_of hn_wf_steps_of (fun f cdv A outer s H E hr => d_steps_of F.T  hr) (fun xc ds Q h => p_steps_of  xc ds Q h)
theorem K_Web_2_beats {P : Program} {w : World} {K : PySem.W.Frag} {mg : Str → Option Value} {base : Heap} {C_Game : Addr} {C_Web : Addr} {C_BadPost : Addr} {C_CannotSend : Addr} {C_NotFree : Addr} {C_TagError : Addr} {C_UnknownPlace : Addr} (F : Facts K mg C_Game C_Web C_BadPost C_CannotSend C_NotFree C_TagError C_UnknownPlace) : Ctor P w K mg base "Web" C_Web 2 ["beats"] 4 gD_K_Web_2_beats wi_Web :=
  ctor_ok (m := 3) F.a_K_Web_2_beats rfl sc_Web___init__ mo_wi_Web hn_wi_Web (fun f cdv A outer s H E hr => d_Web___init__ F.T (D_check_names F) (D_check_ties F) (D_nexts_of F) (D_steps_of F) hr) (fun xc ds Q p h => p_Web_init C_Web xc ds Q p h)
end Tw.k14

/-! Tw, the head's end. -/
namespace Tw
open PySem PySem.Spec L2 PyProof.Rows
/-! ### the end -/
theorem walk_ofK {l : PySem.W.OpenLaw} {n k : Nat} {q : Program} {loose : List Str} {XP : (Str → Option Value) → Heap → Prop} {YP : World → Heap → Prop} {d : DefRec} {x : Str} {sp : PySem.W.Frag → Sp}
    (hn : l.most = some n) (hn2 : n ≤ sizeLine) (hdf : d.params.defaults = []) (hr : Room k callerA)
    (hsp : ∀ (K : PySem.W.Frag) (H : Hp) (a : Addr) (ns : List Int), ns.length ≤ n → Only H → SqL K H a (ns.map V.int) → sp K [.ref a] H (fun v _ => v = .bl true) fun _ _ _ => False)
    (F : ∀ (w : World) (mg : Str → Option Value) (fa : Addr) (h : Heap), YP w h → h.Ns mainGlobals mg → mg d.name = some (.ref fa) →
      ∃ (K : PySem.W.Frag) (fd : FuncData), K.In h ∧ (∀ (s : Shared) (u : Value), BindsTo s fd ⟨[u], []⟩ [(x, u)]) ∧ ∀ base : Heap, K.In base → base.Ns mainGlobals mg → FnOk l.prog w K mg base (L2.CX l.prog w) k fa fd [x] (sp K)) :
    PySem.W.WalkO q loose XP YP l.row.toRowW d [] (fun f vs => PySem.call f vs) := by
  refine Att.attach_call hn hdf fun w s₀ s₁ mg mb fa o pm cd doc a vs ns G Y ho hd hcd hmg hobj hints hlen hg => ?_
  obtain ⟨K, fd, KX, hb, hF⟩ := F w mg fa _ Y G.T.g hmg
  exact law_call KX G.T.g G.T.b G.T.builtins G.T.nolimit hg hobj hints (Nat.le_trans hlen hn2) hr hF hb (fun H hO hS => hsp K H a ns hlen hO hS) fun H e s' ⟨_, _, _, _, _, _, _, _, _, _, _, _, hE⟩ => hE
end Tw

namespace Tw.k14
open PySem PySem.Spec L2 PyProof.Rows Tw Tw.S

section
variable {K : PySem.W.Frag} {f : Addr} {fd : FuncData}
theorem kb_K_Game_2_travel_pace_late (F : FunD K "__init__" "Game.__init__" (defArgs s_Game___init__) (defBody s_Game___init__) (defScope s_Game___init__) [] [("travel", .str "walk"), ("pace", .str "step"), ("late", .int 0)] f fd) :
    ∃ g gV, KBn K fd ["self", "web", "seekers", "travel", "pace", "late"] 3 ["travel", "pace", "late"] g gV ∧ ∀ vs zs, gV vs zs = vs ++ (zs ++ ([] : List V)) := by
  obtain ⟨mv, kb⟩ := F.kbinds0 (ps := ["self", "web", "seekers", "travel", "pace", "late"]) 3 ["travel", "pace", "late"] [] (fun us mv ws => us ++ (ws ++ mv)) (by simp) (by simp) (fun h1 h2 h3 => h1.append (h3.append h2)) (fun D doc pm an cdv ct us mv ws h1 h2 h3 => by
    match us, mv, ws, h1, h2, h3 with
    | [a0, a1, a2], [], [c0, c1, c2], _, _, _ => rfl)
  exact ⟨_, _, kb, fun vs zs => rfl⟩
theorem kb_K_Web_2_beats (F : FunD K "__init__" "Web.__init__" (defArgs s_Web___init__) (defBody s_Web___init__) (defScope s_Web___init__) [] [("beats", .int 1)] f fd) :
    ∃ g gV, KBn K fd ["self", "places", "ties", "beats"] 3 ["beats"] g gV ∧ ∀ vs zs, gV vs zs = vs ++ (zs ++ ([] : List V)) := by
  obtain ⟨mv, kb⟩ := F.kbinds0 (ps := ["self", "places", "ties", "beats"]) 3 ["beats"] [] (fun us mv ws => us ++ (ws ++ mv)) (by simp) (by simp) (fun h1 h2 h3 => h1.append (h3.append h2)) (fun D doc pm an cdv ct us mv ws h1 h2 h3 => by
    match us, mv, ws, h1, h2, h3 with
    | [a0, a1, a2], [], [c0], _, _, _ => rfl)
  exact ⟨_, _, kb, fun vs zs => rfl⟩
end
section
variable {K : PySem.W.Frag} {mg : Str → Option Value} {C f : Addr} {fd : FuncData}
theorem gE_K_Web_2_beats (vs zs : List D) : gD_K_Web_2_beats vs zs = vs ++ (zs ++ ([] : List D)) := by simp [gD_K_Web_2_beats]
theorem gE_K_Game_2_travel_pace_late (vs zs : List D) : gD_K_Game_2_travel_pace_late vs zs = vs ++ (zs ++ ([] : List D)) := by simp [gD_K_Game_2_travel_pace_late]
theorem mk_K_Game_2_travel_pace_late (F : Fun K "__init__" "Game.__init__" s_Game___init__ f fd) (M : Mk K C f) (FD : FunD K "__init__" "Game.__init__" (defArgs s_Game___init__) (defBody s_Game___init__) (defScope s_Game___init__) [] [("travel", .str "walk"), ("pace", .str "step"), ("late", .int 0)] f fd) (hm : mg "Game" = some (.ref C)) :
    AtI K mg "Game" C "Game.__init__" s_Game___init__ ["self", "web", "seekers", "travel", "pace", "late"] 2 ["travel", "pace", "late"] gD_K_Game_2_travel_pace_late := by
  obtain ⟨g, gV, kb, hg⟩ := kb_K_Game_2_travel_pace_late FD
  exact ⟨f, fd, g, gV, fun vs zs => vs ++ (zs ++ ([] : List V)), F, M, kb, hm, fun x vs zs _ _ => by rw [hg]; rfl, fun G ds es vs zs h1 h2 => by rw [gE_K_Game_2_travel_pace_late]; exact h1.append (h2.append .nil)⟩
theorem mk_K_Web_2_beats (F : Fun K "__init__" "Web.__init__" s_Web___init__ f fd) (M : Mk K C f) (FD : FunD K "__init__" "Web.__init__" (defArgs s_Web___init__) (defBody s_Web___init__) (defScope s_Web___init__) [] [("beats", .int 1)] f fd) (hm : mg "Web" = some (.ref C)) :
    AtI K mg "Web" C "Web.__init__" s_Web___init__ ["self", "places", "ties", "beats"] 2 ["beats"] gD_K_Web_2_beats := by
  obtain ⟨g, gV, kb, hg⟩ := kb_K_Web_2_beats FD
  exact ⟨f, fd, g, gV, fun vs zs => vs ++ (zs ++ ([] : List V)), F, M, kb, hm, fun x vs zs _ _ => by rw [hg]; rfl, fun G ds es vs zs h1 h2 => by rw [gE_K_Web_2_beats]; exact h1.append (h2.append .nil)⟩
end
set_option maxHeartbeats 0 in
theorem facts {K : PySem.W.Frag} {h : Heap} {mg : Str → Option Value} (X : K.In h) (G : h.Ns mainGlobals mg) (c : SaysK fns exs K) : Facts K mg (gA "Game" K) (gA "Web" K) (gA "BadPost" K) (gA "CannotSend" K) (gA "NotFree" K) (gA "TagError" K) (gA "UnknownPlace" K) := by
  have cc_Game : PySem.W.nsIn K mainGlobals "Game" = some (some (.ref (gA "Game" K))) := c.p 0
  have cc_Web : PySem.W.nsIn K mainGlobals "Web" = some (some (.ref (gA "Web" K))) := c.p 1
  have cc_BadPost : PySem.W.nsIn K mainGlobals "BadPost" = some (some (.ref (gA "BadPost" K))) := c.p 2
  have cc_CannotSend : PySem.W.nsIn K mainGlobals "CannotSend" = some (some (.ref (gA "CannotSend" K))) := c.p 3
  have cc_NotFree : PySem.W.nsIn K mainGlobals "NotFree" = some (some (.ref (gA "NotFree" K))) := c.p 4
  have cc_TagError : PySem.W.nsIn K mainGlobals "TagError" = some (some (.ref (gA "TagError" K))) := c.p 5
  have cc_UnknownPlace : PySem.W.nsIn K mainGlobals "UnknownPlace" = some (some (.ref (gA "UnknownPlace" K))) := c.p 6
  obtain ⟨fd1, F1⟩ := c.d 0
  have k1 := F1.kp
  have a1 : PySem.W.nsIn K mainGlobals "_law_names" = some (some (.ref ((gA "_law_names") K))) := c.p 7
  obtain ⟨fd2, F2⟩ := c.d 1
  have k2 := F2.kp
  have a2 : PySem.W.nsIn K mainGlobals "_law_table" = some (some (.ref ((gA "_law_table") K))) := c.p 8
  obtain ⟨fd3, F3⟩ := c.d 2
  have k3 := F3.kp
  have a3 : PySem.W.nsIn K mainGlobals "_law_way_ties" = some (some (.ref ((gA "_law_way_ties") K))) := c.p 9
  obtain ⟨fd4, F4⟩ := c.d 3
  have k4 := F4.kp
  have a4 : PySem.W.nsIn K mainGlobals "_law_any_web" = some (some (.ref ((gA "_law_any_web") K))) := c.p 10
  obtain ⟨fd5, F5⟩ := c.d 4
  have k5 := F5.kp
  have a5 : PySem.W.nsIn K mainGlobals "_law_beat" = some (some (.ref ((gA "_law_beat") K))) := c.p 11
  obtain ⟨fd6, F6⟩ := c.d 5
  have k6 := F6.kp
  have a6 : PySem.W.nsIn K mainGlobals "_law_draws" = some (some (.ref ((gA "_law_draws") K))) := c.p 12
  obtain ⟨fd7, F7⟩ := c.d 6
  have k7 := F7.kp
  have a7 : PySem.W.nsIn K mainGlobals "_law_posts" = some (some (.ref ((gA "_law_posts") K))) := c.p 13
  obtain ⟨fd8, F8⟩ := c.d 7
  have k8 := F8.kp
  have a8 : PySem.W.nsIn K mainGlobals "_law_reach" = some (some (.ref ((gA "_law_reach") K))) := c.p 14
  obtain ⟨fd9, F9⟩ := c.d 8
  have k9 := F9.kp
  have a9 : PySem.W.nsIn K mainGlobals "_law_runs" = some (some (.ref ((gA "_law_runs") K))) := c.p 15
  obtain ⟨fd10, F10⟩ := c.d 9
  have k10 := F10.kp
  have a10 : PySem.W.nsIn K mainGlobals "_law_is_int" = some (some (.ref ((gA "_law_is_int") K))) := c.p 16
  obtain ⟨fd11, F11⟩ := c.d 10
  have k11 := F11.kp
  have a11 : PySem.W.nsIn K mainGlobals "_law_same" = some (some (.ref ((gA "_law_same") K))) := c.p 17
  obtain ⟨fd12, F12⟩ := c.d 11
  have k12 := F12.kp
  have a12 : PySem.W.nsIn K mainGlobals "_law_sends" = some (some (.ref ((gA "_law_sends") K))) := c.p 18
  obtain ⟨fd13, F13⟩ := c.d 12
  have k13 := F13.kp
  have a13 : PySem.W.findIn K (.ref (gA "Web" K)) "__len__" = some (some (.ref ((mA "Web" "__len__") K))) := c.p 19
  have i13 : PySem.W.isFn K (.ref ((mA "Web" "__len__") K)) = true := c.p 20
  obtain ⟨fd14, F14⟩ := c.d 13
  have k14 := F14.kp
  have a14 : PySem.W.nsIn K mainGlobals "check_place" = some (some (.ref ((gA "check_place") K))) := c.p 21
  obtain ⟨fd15, F15⟩ := c.d 14
  have k15 := F15.kp
  have a15 : PySem.W.nsIn K mainGlobals "check_free" = some (some (.ref ((gA "check_free") K))) := c.p 22
  obtain ⟨fd16, F16⟩ := c.d 15
  have k16 := F16.kp
  have a16 : PySem.W.nsIn K mainGlobals "is_rising" = some (some (.ref ((gA "is_rising") K))) := c.p 23
  obtain ⟨fd17, F17⟩ := c.d 16
  have k17 := F17.kp
  have a17 : PySem.W.nsIn K mainGlobals "is_set" = some (some (.ref ((gA "is_set") K))) := c.p 24
  obtain ⟨fd18, F18⟩ := c.d 17
  have k18 := F18.kp
  have a18 : PySem.W.nsIn K mainGlobals "is_post_of" = some (some (.ref ((gA "is_post_of") K))) := c.p 25
  obtain ⟨fd19, F19⟩ := c.d 18
  have k19 := F19.kp
  have a19 : PySem.W.nsIn K mainGlobals "check_post" = some (some (.ref ((gA "check_post") K))) := c.p 26
  obtain ⟨fd20, F20⟩ := c.d 19
  have k20 := F20.kp
  have a20 : PySem.W.nsIn K mainGlobals "longer_posts" = some (some (.ref ((gA "longer_posts") K))) := c.p 27
  obtain ⟨fd21, F21⟩ := c.d 20
  have k21 := F21.kp
  have a21 : PySem.W.nsIn K mainGlobals "posts_of" = some (some (.ref ((gA "posts_of") K))) := c.p 28
  obtain ⟨fd22, F22⟩ := c.d 21
  have k22 := F22.kp
  have a22 : PySem.W.nsIn K mainGlobals "with_one" = some (some (.ref ((gA "with_one") K))) := c.p 29
  obtain ⟨fd23, F23⟩ := c.d 22
  have k23 := F23.kp
  have a23 : PySem.W.findIn K (.ref (gA "Web" K)) "steps" = some (some (.ref ((mA "Web" "steps") K))) := c.p 30
  have i23 : PySem.W.isFn K (.ref ((mA "Web" "steps") K)) = true := c.p 31
  obtain ⟨fd24, F24⟩ := c.d 23
  have k24 := F24.kp
  have a24 : PySem.W.nsIn K mainGlobals "sends_of" = some (some (.ref ((gA "sends_of") K))) := c.p 32
  obtain ⟨fd25, F25⟩ := c.d 24
  have k25 := F25.kp
  have a25 : PySem.W.nsIn K mainGlobals "check_round" = some (some (.ref ((gA "check_round") K))) := c.p 33
  obtain ⟨fd26, F26⟩ := c.d 25
  have k26 := F26.kp
  have a26 : PySem.W.nsIn K mainGlobals "barred_of" = some (some (.ref ((gA "barred_of") K))) := c.p 34
  obtain ⟨fd27, F27⟩ := c.d 26
  have k27 := F27.kp
  have a27 : PySem.W.nsIn K mainGlobals "reached" = some (some (.ref ((gA "reached") K))) := c.p 35
  obtain ⟨fd28, F28⟩ := c.d 27
  have k28 := F28.kp
  have a28 : PySem.W.nsIn K mainGlobals "ends_of" = some (some (.ref ((gA "ends_of") K))) := c.p 36
  obtain ⟨fd29, F29⟩ := c.d 28
  have k29 := F29.kp
  have a29 : PySem.W.nsIn K mainGlobals "not_caught" = some (some (.ref ((gA "not_caught") K))) := c.p 37
  obtain ⟨fd30, F30⟩ := c.d 29
  have k30 := F30.kp
  have a30 : PySem.W.nsIn K mainGlobals "runs_of" = some (some (.ref ((gA "runs_of") K))) := c.p 38
  obtain ⟨fd31, F31⟩ := c.d 30
  have k31 := F31.kp
  have a31 : PySem.W.findIn K (.ref (gA "Game" K)) "runs" = some (some (.ref ((mA "Game" "runs") K))) := c.p 39
  have i31 : PySem.W.isFn K (.ref ((mA "Game" "runs") K)) = true := c.p 40
  obtain ⟨fd32, F32⟩ := c.d 31
  have k32 := F32.kp
  have a32 : PySem.W.findIn K (.ref (gA "Game" K)) "__init__" = some (some (.ref ((mA "Game" "__init__") K))) := c.p 41
  have i32 : PySem.W.isFn K (.ref ((mA "Game" "__init__") K)) = true := c.p 42
  have m32 : PySem.W.makesIn K (gA "Game" K) = true := c.p 43
  have q32 : PySem.W.keepIn K (.ref (gA "Game" K)) = true := c.p 44
  obtain ⟨fd33, F33⟩ := c.d 32
  have k33 := F33.kp
  have a33 : PySem.W.nsIn K mainGlobals "is_name" = some (some (.ref ((gA "is_name") K))) := c.p 45
  obtain ⟨fd34, F34⟩ := c.d 33
  have k34 := F34.kp
  have a34 : PySem.W.nsIn K mainGlobals "check_names" = some (some (.ref ((gA "check_names") K))) := c.p 46
  obtain ⟨fd35, F35⟩ := c.d 34
  have k35 := F35.kp
  have a35 : PySem.W.nsIn K mainGlobals "is_tie" = some (some (.ref ((gA "is_tie") K))) := c.p 47
  obtain ⟨fd36, F36⟩ := c.d 35
  have k36 := F36.kp
  have a36 : PySem.W.nsIn K mainGlobals "check_ties" = some (some (.ref ((gA "check_ties") K))) := c.p 48
  obtain ⟨fd37, F37⟩ := c.d 36
  have k37 := F37.kp
  have a37 : PySem.W.nsIn K mainGlobals "nexts_at" = some (some (.ref ((gA "nexts_at") K))) := c.p 49
  obtain ⟨fd38, F38⟩ := c.d 37
  have k38 := F38.kp
  have a38 : PySem.W.nsIn K mainGlobals "nexts_of" = some (some (.ref ((gA "nexts_of") K))) := c.p 50
  obtain ⟨fd39, F39⟩ := c.d 38
  have k39 := F39.kp
  have a39 : PySem.W.nsIn K mainGlobals "steps_of" = some (some (.ref ((gA "steps_of") K))) := c.p 51
  obtain ⟨fd40, F40⟩ := c.d 39
  have k40 := F40.kp
  have a40 : PySem.W.findIn K (.ref (gA "Web" K)) "__init__" = some (some (.ref ((mA "Web" "__init__") K))) := c.p 52
  have i40 : PySem.W.isFn K (.ref ((mA "Web" "__init__") K)) = true := c.p 53
  have m40 : PySem.W.makesIn K (gA "Web" K) = true := c.p 54
  have q40 : PySem.W.keepIn K (.ref (gA "Web" K)) = true := c.p 55
  obtain ⟨fd41, F41⟩ := c.d 40
  have k41 := F41.kp
  have a41 : PySem.W.nsIn K mainGlobals "law" = some (some (.ref ((gA "law") K))) := c.p 56
  obtain ⟨fd42, F42⟩ := c.d 41
  have k42 := F42.kp
  have a42 : PySem.W.findIn K (.ref (gA "BadPost" K)) "__init__" = some (some (.ref ((mA "BadPost" "__init__") K))) := c.p 57
  have y42 : PySem.W.typeIn K (.ref ((mA "BadPost" "__init__") K)) = some (.type "function") := c.p 58
  have ox_BadPost := oexB_ok (c.b 59)
  have sa_BadPost : PySem.W.findIn K (.ref (gA "BadPost" K)) "__setattr__" = some (some (.builtin "object.__setattr__")) := c.p 60
  have eB_BadPost : PySem.W.subIn K (.ref (gA "BadPost" K)) (.type "BaseException") = some true := c.p 61
  have tT_BadPost : PySem.W.typeIn K (.ref (gA "BadPost" K)) = some (.type "type") := c.p 62
  have kC_BadPost : PySem.W.keepIn K (.ref (gA "BadPost" K)) = true := c.p 63
  have ne_BadPost_post : PySem.W.findIn K (.ref (gA "BadPost" K)) "post" = some none := c.p 64
  obtain ⟨fd43, F43⟩ := c.d 42
  have k43 := F43.kp
  have a43 : PySem.W.findIn K (.ref (gA "CannotSend" K)) "__init__" = some (some (.ref ((mA "CannotSend" "__init__") K))) := c.p 65
  have y43 : PySem.W.typeIn K (.ref ((mA "CannotSend" "__init__") K)) = some (.type "function") := c.p 66
  have ox_CannotSend := oexB_ok (c.b 67)
  have sa_CannotSend : PySem.W.findIn K (.ref (gA "CannotSend" K)) "__setattr__" = some (some (.builtin "object.__setattr__")) := c.p 68
  have eB_CannotSend : PySem.W.subIn K (.ref (gA "CannotSend" K)) (.type "BaseException") = some true := c.p 69
  have tT_CannotSend : PySem.W.typeIn K (.ref (gA "CannotSend" K)) = some (.type "type") := c.p 70
  have kC_CannotSend : PySem.W.keepIn K (.ref (gA "CannotSend" K)) = true := c.p 71
  have ne_CannotSend_post : PySem.W.findIn K (.ref (gA "CannotSend" K)) "post" = some none := c.p 72
  obtain ⟨fd44, F44⟩ := c.d 43
  have k44 := F44.kp
  have a44 : PySem.W.findIn K (.ref (gA "NotFree" K)) "__init__" = some (some (.ref ((mA "NotFree" "__init__") K))) := c.p 73
  have y44 : PySem.W.typeIn K (.ref ((mA "NotFree" "__init__") K)) = some (.type "function") := c.p 74
  have ox_NotFree := oexB_ok (c.b 75)
  have sa_NotFree : PySem.W.findIn K (.ref (gA "NotFree" K)) "__setattr__" = some (some (.builtin "object.__setattr__")) := c.p 76
  have eB_NotFree : PySem.W.subIn K (.ref (gA "NotFree" K)) (.type "BaseException") = some true := c.p 77
  have tT_NotFree : PySem.W.typeIn K (.ref (gA "NotFree" K)) = some (.type "type") := c.p 78
  have kC_NotFree : PySem.W.keepIn K (.ref (gA "NotFree" K)) = true := c.p 79
  have ne_NotFree_place : PySem.W.findIn K (.ref (gA "NotFree" K)) "place" = some none := c.p 80
  obtain ⟨fd45, F45⟩ := c.d 44
  have k45 := F45.kp
  have a45 : PySem.W.findIn K (.ref (gA "UnknownPlace" K)) "__init__" = some (some (.ref ((mA "UnknownPlace" "__init__") K))) := c.p 81
  have y45 : PySem.W.typeIn K (.ref ((mA "UnknownPlace" "__init__") K)) = some (.type "function") := c.p 82
  have ox_UnknownPlace := oexB_ok (c.b 83)
  have sa_UnknownPlace : PySem.W.findIn K (.ref (gA "UnknownPlace" K)) "__setattr__" = some (some (.builtin "object.__setattr__")) := c.p 84
  have eB_UnknownPlace : PySem.W.subIn K (.ref (gA "UnknownPlace" K)) (.type "BaseException") = some true := c.p 85
  have tT_UnknownPlace : PySem.W.typeIn K (.ref (gA "UnknownPlace" K)) = some (.type "type") := c.p 86
  have kC_UnknownPlace : PySem.W.keepIn K (.ref (gA "UnknownPlace" K)) = true := c.p 87
  have ne_UnknownPlace_place : PySem.W.findIn K (.ref (gA "UnknownPlace" K)) "place" = some none := c.p 88
  have z_abs : PySem.W.nsIn K mainGlobals "abs" = some none := c.p 89
  have z_all : PySem.W.nsIn K mainGlobals "all" = some none := c.p 90
  have z_bool : PySem.W.nsIn K mainGlobals "bool" = some none := c.p 91
  have z_enumerate : PySem.W.nsIn K mainGlobals "enumerate" = some none := c.p 92
  have z_int : PySem.W.nsIn K mainGlobals "int" = some none := c.p 93
  have z_isinstance : PySem.W.nsIn K mainGlobals "isinstance" = some none := c.p 94
  have z_len : PySem.W.nsIn K mainGlobals "len" = some none := c.p 95
  have z_list : PySem.W.nsIn K mainGlobals "list" = some none := c.p 96
  have z_range : PySem.W.nsIn K mainGlobals "range" = some none := c.p 97
  have z_set : PySem.W.nsIn K mainGlobals "set" = some none := c.p 98
  have z_sorted : PySem.W.nsIn K mainGlobals "sorted" = some none := c.p 99
  have z_str : PySem.W.nsIn K mainGlobals "str" = some none := c.p 100
  have z_tuple : PySem.W.nsIn K mainGlobals "tuple" = some none := c.p 101
  have z_zip : PySem.W.nsIn K mainGlobals "zip" = some none := c.p 102
  obtain ⟨t_LETTERS, g_LETTERS⟩ := strB_ok (c.b 103)
  have pg_Game : PySem.W.plainGet K (gA "Game" K) Str.empty = true := c.p 104
  have hd_Game : PySem.W.hasDictIn K (gA "Game" K) = true := c.p 105
  have po_Game : PySem.W.plainOver K (gA "Game" K) = true := c.p 106
  have sa_Game : PySem.W.findIn K (.ref (gA "Game" K)) "__setattr__" = some (some (.builtin "object.__setattr__")) := c.p 107
  have pg_Web : PySem.W.plainGet K (gA "Web" K) Str.empty = true := c.p 108
  have hd_Web : PySem.W.hasDictIn K (gA "Web" K) = true := c.p 109
  have po_Web : PySem.W.plainOver K (gA "Web" K) = true := c.p 110
  have sa_Web : PySem.W.findIn K (.ref (gA "Web" K)) "__setattr__" = some (some (.builtin "object.__setattr__")) := c.p 111
  have n_Game_late : PySem.W.findIn K (.ref (gA "Game" K)) "late" = some none := c.p 112
  have n_Game_pace : PySem.W.findIn K (.ref (gA "Game" K)) "pace" = some none := c.p 113
  have n_Game_seekers : PySem.W.findIn K (.ref (gA "Game" K)) "seekers" = some none := c.p 114
  have n_Game_travel : PySem.W.findIn K (.ref (gA "Game" K)) "travel" = some none := c.p 115
  have n_Game_web : PySem.W.findIn K (.ref (gA "Game" K)) "web" = some none := c.p 116
  have n_Web__nexts : PySem.W.findIn K (.ref (gA "Web" K)) "_nexts" = some none := c.p 117
  have n_Web__steps : PySem.W.findIn K (.ref (gA "Web" K)) "_steps" = some none := c.p 118
  have n_Web_beats : PySem.W.findIn K (.ref (gA "Web" K)) "beats" = some none := c.p 119
  have n_Web_places : PySem.W.findIn K (.ref (gA "Web" K)) "places" = some none := c.p 120
  exact ⟨⟨PySem.W.mg_none_of X G z_abs,
    PySem.W.mg_none_of X G z_all,
    PySem.W.mg_none_of X G z_bool,
    PySem.W.mg_none_of X G z_enumerate,
    PySem.W.mg_none_of X G z_int,
    PySem.W.mg_none_of X G z_isinstance,
    PySem.W.mg_none_of X G z_len,
    PySem.W.mg_none_of X G z_list,
    PySem.W.mg_none_of X G z_range,
    PySem.W.mg_none_of X G z_set,
    PySem.W.mg_none_of X G z_sorted,
    PySem.W.mg_none_of X G z_str,
    PySem.W.mg_none_of X G z_tuple,
    PySem.W.mg_none_of X G z_zip,
    ⟨_, PySem.W.mg_of X G g_LETTERS, ⟨_, rfl⟩⟩,
    ⟨pg_Game, hd_Game, po_Game, sa_Game⟩,
    ⟨pg_Web, hd_Web, po_Web, sa_Web⟩,
    PySem.W.mg_of X G cc_BadPost,
    PySem.W.mg_of X G cc_CannotSend,
    PySem.W.mg_of X G cc_NotFree,
    PySem.W.mg_of X G cc_TagError,
    PySem.W.mg_of X G cc_UnknownPlace,
    n_Game_late,
    n_Game_pace,
    n_Game_seekers,
    n_Game_travel,
    n_Game_web,
    n_Web__nexts,
    n_Web__steps,
    n_Web_beats,
    n_Web_places⟩,
    (⟨_, _, FunD.fun F1, PySem.W.mg_of X G a1, (FunD.fun F1).binds (fun _ _ _ _ _ _ us hl => match us, hl with | [_, _, _], _ => rfl)⟩),
    (⟨_, _, FunD.fun F2, PySem.W.mg_of X G a2, (FunD.fun F2).binds (fun _ _ _ _ _ _ us hl => match us, hl with | [_, _, _], _ => rfl)⟩),
    (⟨_, _, FunD.fun F3, PySem.W.mg_of X G a3, (FunD.fun F3).binds (fun _ _ _ _ _ _ us hl => match us, hl with | [_, _, _, _, _], _ => rfl)⟩),
    (⟨_, _, FunD.fun F4, PySem.W.mg_of X G a4, (FunD.fun F4).binds (fun _ _ _ _ _ _ us hl => match us, hl with | [_, _, _, _], _ => rfl)⟩),
    (⟨_, _, FunD.fun F5, PySem.W.mg_of X G a5, (FunD.fun F5).binds (fun _ _ _ _ _ _ us hl => match us, hl with | [_], _ => rfl)⟩),
    (⟨_, _, FunD.fun F6, PySem.W.mg_of X G a6, (FunD.fun F6).binds (fun _ _ _ _ _ _ us hl => match us, hl with | [_, _, _], _ => rfl)⟩),
    (⟨_, _, FunD.fun F7, PySem.W.mg_of X G a7, (FunD.fun F7).binds (fun _ _ _ _ _ _ us hl => match us, hl with | [_, _, _], _ => rfl)⟩),
    (⟨_, _, FunD.fun F8, PySem.W.mg_of X G a8, (FunD.fun F8).binds (fun _ _ _ _ _ _ us hl => match us, hl with | [_, _, _], _ => rfl)⟩),
    (⟨_, _, FunD.fun F9, PySem.W.mg_of X G a9, (FunD.fun F9).binds (fun _ _ _ _ _ _ us hl => match us, hl with | [_, _, _, _, _, _], _ => rfl)⟩),
    (⟨_, _, FunD.fun F10, PySem.W.mg_of X G a10, (FunD.fun F10).binds (fun _ _ _ _ _ _ us hl => match us, hl with | [_], _ => rfl)⟩),
    (⟨_, _, FunD.fun F11, PySem.W.mg_of X G a11, (FunD.fun F11).binds (fun _ _ _ _ _ _ us hl => match us, hl with | [_, _], _ => rfl)⟩),
    (⟨_, _, FunD.fun F12, PySem.W.mg_of X G a12, (FunD.fun F12).binds (fun _ _ _ _ _ _ us hl => match us, hl with | [_, _, _, _], _ => rfl)⟩),
    (⟨_, _, FunD.fun F13, ⟨a13, i13, k13⟩, (FunD.fun F13).binds (fun _ _ _ _ _ _ us hl => match us, hl with | [_], _ => rfl)⟩),
    (⟨_, _, FunD.fun F14, PySem.W.mg_of X G a14, (FunD.fun F14).binds (fun _ _ _ _ _ _ us hl => match us, hl with | [_, _], _ => rfl)⟩),
    (⟨_, _, FunD.fun F15, PySem.W.mg_of X G a15, (FunD.fun F15).binds (fun _ _ _ _ _ _ us hl => match us, hl with | [_, _, _], _ => rfl)⟩),
    (⟨_, _, FunD.fun F16, PySem.W.mg_of X G a16, (FunD.fun F16).binds (fun _ _ _ _ _ _ us hl => match us, hl with | [_], _ => rfl)⟩),
    (⟨_, _, FunD.fun F17, PySem.W.mg_of X G a17, (FunD.fun F17).binds (fun _ _ _ _ _ _ us hl => match us, hl with | [_, _], _ => rfl)⟩),
    (⟨_, _, FunD.fun F18, PySem.W.mg_of X G a18, (FunD.fun F18).binds (fun _ _ _ _ _ _ us hl => match us, hl with | [_, _], _ => rfl)⟩),
    (⟨_, _, FunD.fun F19, PySem.W.mg_of X G a19, (FunD.fun F19).binds (fun _ _ _ _ _ _ us hl => match us, hl with | [_, _], _ => rfl)⟩),
    (⟨_, _, FunD.fun F20, PySem.W.mg_of X G a20, (FunD.fun F20).binds (fun _ _ _ _ _ _ us hl => match us, hl with | [_, _], _ => rfl)⟩),
    (⟨_, _, FunD.fun F21, PySem.W.mg_of X G a21, (FunD.fun F21).binds (fun _ _ _ _ _ _ us hl => match us, hl with | [_], _ => rfl)⟩),
    (⟨_, _, FunD.fun F22, PySem.W.mg_of X G a22, (FunD.fun F22).binds (fun _ _ _ _ _ _ us hl => match us, hl with | [_, _], _ => rfl)⟩),
    (⟨_, _, FunD.fun F23, ⟨a23, i23, k23⟩, (FunD.fun F23).binds (fun _ _ _ _ _ _ us hl => match us, hl with | [_, _, _], _ => rfl)⟩),
    (⟨_, _, FunD.fun F24, PySem.W.mg_of X G a24, (FunD.fun F24).binds (fun _ _ _ _ _ _ us hl => match us, hl with | [_, _, _], _ => rfl)⟩),
    (⟨_, _, FunD.fun F25, PySem.W.mg_of X G a25, (FunD.fun F25).binds (fun _ _ _ _ _ _ us hl => match us, hl with | [_, _, _, _], _ => rfl)⟩),
    (⟨_, _, FunD.fun F26, PySem.W.mg_of X G a26, (FunD.fun F26).binds (fun _ _ _ _ _ _ us hl => match us, hl with | [_, _, _], _ => rfl)⟩),
    (⟨_, _, FunD.fun F27, PySem.W.mg_of X G a27, (FunD.fun F27).binds (fun _ _ _ _ _ _ us hl => match us, hl with | [_, _, _, _], _ => rfl)⟩),
    (⟨_, _, FunD.fun F28, PySem.W.mg_of X G a28, (FunD.fun F28).binds (fun _ _ _ _ _ _ us hl => match us, hl with | [_, _, _, _], _ => rfl)⟩),
    (⟨_, _, FunD.fun F29, PySem.W.mg_of X G a29, (FunD.fun F29).binds (fun _ _ _ _ _ _ us hl => match us, hl with | [_, _, _, _], _ => rfl)⟩),
    (⟨_, _, FunD.fun F30, PySem.W.mg_of X G a30, (FunD.fun F30).binds (fun _ _ _ _ _ _ us hl => match us, hl with | [_, _, _, _, _], _ => rfl)⟩),
    (⟨_, _, FunD.fun F31, ⟨a31, i31, k31⟩, (FunD.fun F31).binds (fun _ _ _ _ _ _ us hl => match us, hl with | [_, _, _, _, _], _ => rfl)⟩),
    (⟨_, _, FunD.fun F33, PySem.W.mg_of X G a33, (FunD.fun F33).binds (fun _ _ _ _ _ _ us hl => match us, hl with | [_], _ => rfl)⟩),
    (⟨_, _, FunD.fun F34, PySem.W.mg_of X G a34, (FunD.fun F34).binds (fun _ _ _ _ _ _ us hl => match us, hl with | [_], _ => rfl)⟩),
    (⟨_, _, FunD.fun F35, PySem.W.mg_of X G a35, (FunD.fun F35).binds (fun _ _ _ _ _ _ us hl => match us, hl with | [_, _, _], _ => rfl)⟩),
    (⟨_, _, FunD.fun F36, PySem.W.mg_of X G a36, (FunD.fun F36).binds (fun _ _ _ _ _ _ us hl => match us, hl with | [_, _, _], _ => rfl)⟩),
    (⟨_, _, FunD.fun F37, PySem.W.mg_of X G a37, (FunD.fun F37).binds (fun _ _ _ _ _ _ us hl => match us, hl with | [_, _, _], _ => rfl)⟩),
    (⟨_, _, FunD.fun F38, PySem.W.mg_of X G a38, (FunD.fun F38).binds (fun _ _ _ _ _ _ us hl => match us, hl with | [_, _, _], _ => rfl)⟩),
    (⟨_, _, FunD.fun F39, PySem.W.mg_of X G a39, (FunD.fun F39).binds (fun _ _ _ _ _ _ us hl => match us, hl with | [_], _ => rfl)⟩),
    (⟨_, _, FunD.fun F41, PySem.W.mg_of X G a41, (FunD.fun F41).binds (fun _ _ _ _ _ _ us hl => match us, hl with | [_], _ => rfl)⟩),
    (mk_K_Game_2_travel_pace_late (FunD.fun F32) ⟨m32, a32, i32, q32⟩ F32 (PySem.W.mg_of X G cc_Game)),
    (mk_K_Web_2_beats (FunD.fun F40) ⟨m40, a40, i40, q40⟩ F40 (PySem.W.mg_of X G cc_Web)),
    (⟨⟨_, _, FunD.fun F42, (FunD.fun F42).binds (fun _ _ _ _ _ _ us hl => match us, hl with | [_, _], _ => rfl), a42, y42⟩, ⟨ox_BadPost, sa_BadPost, eB_BadPost, tT_BadPost, kC_BadPost⟩, PySem.W.mg_of X G cc_BadPost, fun f hf => by
      simp at hf
      subst hf
      exact ne_BadPost_post⟩),
    (⟨⟨_, _, FunD.fun F43, (FunD.fun F43).binds (fun _ _ _ _ _ _ us hl => match us, hl with | [_, _], _ => rfl), a43, y43⟩, ⟨ox_CannotSend, sa_CannotSend, eB_CannotSend, tT_CannotSend, kC_CannotSend⟩, PySem.W.mg_of X G cc_CannotSend, fun f hf => by
      simp at hf
      subst hf
      exact ne_CannotSend_post⟩),
    (⟨⟨_, _, FunD.fun F44, (FunD.fun F44).binds (fun _ _ _ _ _ _ us hl => match us, hl with | [_, _], _ => rfl), a44, y44⟩, ⟨ox_NotFree, sa_NotFree, eB_NotFree, tT_NotFree, kC_NotFree⟩, PySem.W.mg_of X G cc_NotFree, fun f hf => by
      simp at hf
      subst hf
      exact ne_NotFree_place⟩),
    (⟨⟨_, _, FunD.fun F45, (FunD.fun F45).binds (fun _ _ _ _ _ _ us hl => match us, hl with | [_, _], _ => rfl), a45, y45⟩, ⟨ox_UnknownPlace, sa_UnknownPlace, eB_UnknownPlace, tT_UnknownPlace, kC_UnknownPlace⟩, PySem.W.mg_of X G cc_UnknownPlace, fun f hf => by
      simp at hf
      subst hf
      exact ne_UnknownPlace_place⟩)⟩
theorem ints_rp {K : PySem.W.Frag} {G : Hp} : ∀ ns : List Int, Rps K G (ns.map .int) (ns.map V.int)
  | [] => .nil
  | n :: ns => .cons (.int n) (ints_rp ns)
theorem sp_go {K : PySem.W.Frag} {H : Hp} {a : Addr} {ns : List Int} (hl : ns.length ≤ 63) (hS : SqL K H a (ns.map V.int)) : spOf K 1 wf_law [.ref a] H (fun v _ => v = .bl true) fun _ _ _ => False :=
  ⟨rfl, H, [.fls (ns.map .int)], xcNo, Same.refl _, .cons (.fls hS (ints_rp ns)) .nil, tieNo, ns, rfl, hl, fun G' H' v _ r => by
    have r' : Rp K G' (.bl true) v := r
    cases r'
    rfl⟩
theorem law_fn {l : PySem.W.OpenLaw} {w : World} {K : PySem.W.Frag} {h : Heap} {mg : Str → Option Value} {fa : Addr} (X : K.In h) (G : h.Ns mainGlobals mg) (hfa : mg "law" = some (.ref fa)) (c : SaysK fns exs K) :
    ∃ fd : FuncData, (∀ (s : Shared) (v : Value), BindsTo s fd ⟨[v], []⟩ [("script", v)]) ∧ ∀ base : Heap, K.In base → base.Ns mainGlobals mg → FnOk l.prog w K mg base (L2.CX l.prog w) 15 fa fd ["script"] (spOf K 1 wf_law) := by
  have F := facts X G c
  obtain ⟨f, fd, Fu, hm, bd⟩ := F.a_law.ex
  have e := hfa.symm.trans hm
  cases e
  obtain ⟨oc, od, kV, doc, pm, an, cdv, ct, osl, rfl, lk, cd⟩ := Fu.ex
  exact ⟨_, fun s v => .of_eq rfl, fun base _ _ => fn_ok Fu sc_law (fun xc ds Q q => hn_wf_law ds xc Q q) (fun cdv A outer s H E hr => d_law F.T (D_law_any_web_k13 F) (D_law_beat F) (D_law_draws F) (D_law_posts F) (D_law_runs F) (D_law_same F) (D_law_sends F) (M_Game_runs F) (K_Game_2_travel_pace_late F) (K_Web_2_beats F) hr) (fun xc ds Q q => p_law_k14 _ _ _ _ _ _ xc ds Q q)⟩
end Tw.k14

set_option maxHeartbeats 0
open PySem PySem.W PySem.Calls PyProof.Rows
theorem PySem.Challenge.cw_tagwebs_k14_runs_holds : PySem.Challenge.rw_tagwebs_k14_runs.Holds := by
  w_on; o_law
  refine HandSHeadRun.head_any (r := OpenLaw.row PySem.Challenge.rw_tagwebs_k14_runs) (q := Tw.k14.qv) (H := Tw.k14.hk) (ob := Tw.k14.ob) (M := 40000) (loose := Tw.k14.nms) (d := HandSHeadRun.topDef (OpenLaw.row PySem.Challenge.rw_tagwebs_k14_runs).prog 63) (kwd := []) Tw.k14.ob_eq
    (by kernel_rfl) (fun s => by kernel_rfl) Tw.k14.run (by kernel_rfl) (by kernel_rfl) (by kernel_rfl) (by rfl) (by first | assumption | decide +kernel) (by decide +kernel) ⟨rfl, rfl, rfl, rfl, rfl, by decide +kernel⟩ ?hw ?hc
  case hw => w_witness2
  case hc =>
    refine Tw.walk_ofK (l := PySem.Challenge.rw_tagwebs_k14_runs) (n := 63) (k := 15) (x := "script") (sp := fun K => Tw.spOf K 1 Tw.S.wf_law) rfl (by decide) (by kernel_rfl) ⟨rfl, by decide, by decide⟩ (fun K H a ns hl _ hS => Tw.k14.sp_go hl hS) ?F
    intro w mg fa h Y G hmg0
    obtain ⟨K, KX, c⟩ := Y
    have hmg : mg ("law" : PySem.Str) = some (.ref fa) := by
      have e : (HandSHeadRun.topDef (OpenLaw.row PySem.Challenge.rw_tagwebs_k14_runs).prog 63).name = ("law" : PySem.Str) := by kernel_rfl
      rw [← e]
      exact hmg0
    obtain ⟨fd, hb, hF⟩ := Tw.k14.law_fn (l := PySem.Challenge.rw_tagwebs_k14_runs) (w := w) KX G hmg c
    exact ⟨K, fd, KX, hb, hF⟩
